import PyProof.Rows.All
import Wide.All
import OpenK.AllK
import Wide.FinOn
import HandS.ForMost
import HandS.Base
import HandS.Call
import HandS.List
import HandS.Comp
import HandS.Ends
import HandS.Dict
import HandS.Iter
import HandS.Text
import HandS.Words
import HandS.WordsList
import HandS.WordsDict
import HandS.ForExc
import HandS.Defaults
import HandS.HeadEnd
import HandS.IsInst
import HandS.ExcIs
import PyProof.ReprRoads
import PyProof.CallFns
import HandS.ExcField
import HandS.CallSlots
import HandS.Codes
import HandS.HeadHook2
import HandS.HeadHook4
import HandS.Head0
import HandS.Head1
import HandS.Head2
import HandS.SetBool
import HandS.Strs
import HandS.Sort
import HandS.SortRule
import HandS.Conv
import HandS.Zip
import HandS.Walk
import KE.KDictPairs
import HandS.Style
import HandS.Small
import HandS.More
import HandS.ListItems
import HandS.Property
import HandS.OwnEq
import PyProof.InstNe
import HandS.Exc
import HandS.ExcInit
import KE.KSuper
import KE.KExcSuper
import PySem.Challenge.RW_scooprow_k81_whole_trains_by_stretches
import PyProof.NeKinds
import HandS.SortInts
import HandS.Flow
import HandS.ExcValue
import HandS.DictComp
import KE.KItemsList
import KE.KDictList
import HandS.SortKw
import HandS.SetFor
import HandS.Lambda
import HandS.EndTab
import HandS.EndBits
import HandS.Remove
import HandS.Flt
import HandS.Finally
set_option Elab.async false
set_option linter.all false
set_option maxRecDepth 100000
set_option maxHeartbeats 8000000
namespace SR
open PySem PySem.Spec PyProof.Rows L2
def rowKB (K : PySem.W.Frag) (C : Addr) : Bool := decide (PySem.W.kitOne K (.ref C) (.ref C) = some true) && (decide (PySem.W.findIn K (.ref C) "__class__" = some (some (.builtin "object.__class__"))) &&
  (decide (PySem.W.specialIn K (.builtin "object.__class__") "__get__" = some (some (.builtin "getset_descriptor.__get__"))) && (decide (PySem.W.takesIn K (.builtin "object.__class__") = some true) &&
  (decide (PySem.W.mroIn K C (.type "object") = some true) && decide (PySem.W.findIn K (.ref C) "__ne__" = some (some (.builtin "object.__ne__")))))))
def gAt (K : PySem.W.Frag) (C f : Str) : Addr := match PySem.W.recIn K (He.ma K (He.ga K C) f) "property" with
  | some (.ref g :: _) => g
  | _ => 0
def defAt (K : PySem.W.Frag) (g : Addr) : He.FnW := match K.lookup g with
  | some o => (match o.data with
    | .func fd => some (fd.name, fd.qualname, fd.params, fd.body, fd.scope, fd.globals, fd.closure, fd.builtins)
    | _ => none)
  | none => none
structure PropD where
  cls : Str
  f : Str
  d : He.DefD
def PropD.ok (K : PySem.W.Frag) (p : PropD) : Bool :=
  decide (PySem.W.findIn K (.ref (He.ga K p.cls)) p.f = some (some (.ref (He.ma K (He.ga K p.cls) p.f)))) &&
  (decide (PySem.W.specialIn K (.ref (He.ma K (He.ga K p.cls) p.f)) "__get__" = some (some (.builtin "property.__get__"))) &&
  (decide (PySem.W.takesIn K (.ref (He.ma K (He.ga K p.cls) p.f)) = some true) &&
  ((match PySem.W.recIn K (He.ma K (He.ga K p.cls) p.f) "property" with
    | some (.ref _ :: _) => true
    | _ => false) &&
  (PySem.W.keepIn K (.ref (gAt K p.cls p.f)) && (match K.lookup (gAt K p.cls p.f) with
    | some o => (match o.data with
      | .func fd => PySem.W.codeIn K fd.code p.d.qual && (He.dflB K fd.defaults [] && He.kwdB K fd.kwdefaults [])
      | _ => false)
    | none => false)))))
abbrev AlP : Type := He.AlX × List He.FnW × Bool
def oexB (K : PySem.W.Frag) (C : Addr) : Bool := match K.lookup C with
  | some ⟨.type "type", _, .cls cd, sl⟩ => (match cd.mro, sl.toList with
    | .ref D :: bm, [_, _, _, _, some (.builtin n), _] => decide (D = C) && (decide (n = "ValueError.__new__") && (!cd.hasDel && (cd.hasDict && PySem.HandSPX.refsVE bm)))
    | _, _ => false)
  | _ => false
structure SupD where
  cls : Str
  fld : Str
  arg : Str
  params : Arguments
  body : List Stmt
  scope : Scope
  file : Str
abbrev SupW : Type := Option (Str × Str × Arguments × FuncBody × Scope × Addr × Addr)
def supAt (K : PySem.W.Frag) (f : Addr) : SupW := match K.lookup f with
  | some ⟨_, _, .func fd, _⟩ => some (fd.name, fd.qualname, fd.params, fd.body, fd.scope, fd.globals, fd.builtins)
  | _ => none
def SupD.f (K : PySem.W.Frag) (p : SupD) : Addr := He.ma K (He.ga K p.cls) "__init__"
def SupD.val (p : SupD) : SupW := some ("__init__", p.cls ++ ".__init__", p.params, .stmts p.body, p.scope, mainGlobals, builtinsNs)
def cellB (K : PySem.W.Frag) (C : Addr) (cl : List (Str × Addr)) (cd : Value) (file qual : Str) : Bool := match cl, cd with
  | [(n, cc)], .ref cda => decide (n = "__class__") && (PySem.W.codeIn K cd qual && ((match K.lookup cc with
      | some ⟨_, _, .cell (some (.ref D)), _⟩ => decide (D = C)
      | _ => false) && (match K.lookup cda with
      | some ⟨_, _, .fields vs, _⟩ => (match vs[2]? with
        | some (Value.str s _) => file == s
        | _ => false)
      | _ => false)))
  | _, _ => false
def SupD.ok1 (K : PySem.W.Frag) (p : SupD) (C f : Addr) : Bool :=
  oexB K C && (decide (PySem.W.findIn K (.ref C) "__setattr__" = some (some (.builtin "object.__setattr__"))) && (decide (PySem.W.subIn K (.ref C) (.type "BaseException") = some true) && (decide (PySem.W.typeIn K (.ref C) = some (.type "type")) &&
  (PySem.W.keepIn K (.ref C) && (decide (PySem.W.findIn K (.ref C) p.fld = some none) && (decide (PySem.W.ks_superIn K C C "__init__" = some (some (.builtin "ValueError.__init__"))) && (decide (PySem.W.subIn K (.ref C) (.type "ValueError") = some true) &&
  (decide (PySem.W.mroIn K C (.ref C) = some true) && (decide (PySem.W.nsIn K cStatics "thirdparty.any" = some none) && (decide (PySem.W.findIn K (.ref C) "__init__" = some (some (.ref f))) && (decide (PySem.W.typeIn K (.ref f) = some (.type "function")) && xfB K C)))))))))))
def SupD.ok2 (K : PySem.W.Frag) (p : SupD) (C f : Addr) : Bool := match K.lookup f with
  | some ⟨_, _, .func fd, _⟩ => (match fd.defaults with
    | .none => cellB K C fd.closure fd.code p.file (p.cls ++ ".__init__")
    | _ => false)
  | _ => false
def emptyB (K : PySem.W.Frag) (a : Addr) : Bool := match K.lookup a with
  | some ⟨.type "tuple", none, .seq its _, _⟩ => its.isEmpty
  | _ => false
abbrev AlS : Type := AlP × List SupW × Bool
def frS (n : Nat) (g : Addr → Option Obj) : PySem.W.Frag := He.frT g (cStatics :: He.asD g n)
def obsS (n : Nat) (fa : List He.Fa) (fn : List He.DefD) (pr : List PropD) (su : List SupD) (ex : PySem.W.Frag → Bool) (g : Addr → Option Obj) : AlS :=
  (((He.obsT fa fn [] (frS n g), ex (frS n g)), pr.map fun p => defAt (frS n g) (gAt (frS n g) p.cls p.f), pr.all fun p => p.ok (frS n g)),
   su.map fun p => supAt (frS n g) (p.f (frS n g)), su.all fun p => p.ok1 (frS n g) (He.ga (frS n g) p.cls) (p.f (frS n g)) && p.ok2 (frS n g) (He.ga (frS n g) p.cls) (p.f (frS n g)))
def valS (fn : List He.DefD) (pr : List PropD) (su : List SupD) (w : World) : AlS := (((He.valT fn [] w, true), pr.map fun p => p.d.val, true), su.map fun p => p.val, true)
def topS (i : Nat) : Stmt := PySem.Challenge.pw_scooprow_k81_whole_trains_by_stretches.main.body.getD i (.Pass ⟨0, 0, 0, 0⟩)
abbrev s_is_integer : Stmt := topS 15
abbrev s_is_between : Stmt := topS 16
abbrev s_is_pair : Stmt := topS 17
abbrev s_are_pairs : Stmt := topS 18
abbrev s_is_wide_box : Stmt := topS 19
abbrev s_are_capacities : Stmt := topS 20
abbrev s_are_contents : Stmt := topS 21
abbrev s_is_row_like : Stmt := topS 22
abbrev s_Row_init : Stmt := inClass (topS 23) 0
abbrev s_Row_contents : Stmt := inClass (topS 23) 1
abbrev s_Row_capacities : Stmt := inClass (topS 23) 2
abbrev s_Row_held : Stmt := inClass (topS 23) 3
abbrev s_Row_capacity : Stmt := inClass (topS 23) 4
abbrev s_Row_total : Stmt := inClass (topS 23) 5
abbrev s_Row_is_plain : Stmt := inClass (topS 23) 6
abbrev s_is_plain_row : Stmt := topS 24
abbrev s_is_capacity : Stmt := topS 27
abbrev s_handled : Stmt := topS 28
abbrev s_passed : Stmt := topS 29
abbrev s_steps_from : Stmt := topS 30
abbrev s_trace : Stmt := topS 31
abbrev s_left_by : Stmt := topS 32
abbrev s_sweep : Stmt := topS 33
abbrev s_mirrored : Stmt := topS 34
abbrev s_unsweep : Stmt := topS 35
abbrev s_picked : Stmt := topS 36
abbrev s_without_box : Stmt := topS 38
abbrev s_plain_form : Stmt := topS 39
abbrev s_with_box : Stmt := topS 40
abbrev s_with_capacities : Stmt := topS 41
abbrev s_runs_in : Stmt := topS 43
abbrev s_runs : Stmt := topS 56
abbrev s_cut : Stmt := topS 44
abbrev s_behind_runs : Stmt := topS 45
abbrev s_trains : Stmt := topS 46
abbrev s_lengths : Stmt := topS 47
abbrev s_are_trains : Stmt := topS 48
abbrev s_uncut : Stmt := topS 49
abbrev s_row_of : Stmt := topS 50
abbrev s_is_counts : Stmt := topS 52
abbrev s_way : Stmt := topS 53
abbrev s_moved : Stmt := topS 54
abbrev s_advance : Stmt := topS 55
abbrev s_given_up : Stmt := topS 58
abbrev s_begun : Stmt := topS 60
abbrev s_mixed : Stmt := topS 61
abbrev s_take : Stmt := topS 62
abbrev s_pick : Stmt := topS 63
abbrev s_sizes : Stmt := topS 64
abbrev s_boxes : Stmt := topS 65
abbrev s_made : Stmt := topS 66
abbrev s_best : Stmt := topS 67
abbrev s_sizes_by : Stmt := topS 68
abbrev s_told_right : Stmt := topS 69
abbrev s_law : Stmt := topS 70
abbrev s_BadRow_init : Stmt := inClass (topS 2) 0
def e_BadRow : SupD := ⟨"BadRow", "field", "field", defArgs s_BadRow_init, defBody s_BadRow_init, defScope s_BadRow_init, "/claim/cut.py"⟩
def supDs : List SupD := [e_BadRow]
def d_is_integer : He.DefD := ⟨("is_integer", none), "is_integer", "is_integer", defArgs s_is_integer, defBody s_is_integer, defScope s_is_integer, [], []⟩
def d_is_between : He.DefD := ⟨("is_between", none), "is_between", "is_between", defArgs s_is_between, defBody s_is_between, defScope s_is_between, [], []⟩
def d_is_pair : He.DefD := ⟨("is_pair", none), "is_pair", "is_pair", defArgs s_is_pair, defBody s_is_pair, defScope s_is_pair, [], []⟩
def d_are_pairs : He.DefD := ⟨("are_pairs", none), "are_pairs", "are_pairs", defArgs s_are_pairs, defBody s_are_pairs, defScope s_are_pairs, [], []⟩
def d_is_wide_box : He.DefD := ⟨("_is_wide_box", none), "_is_wide_box", "_is_wide_box", defArgs s_is_wide_box, defBody s_is_wide_box, defScope s_is_wide_box, [], []⟩
def d_are_capacities : He.DefD := ⟨("_are_capacities", none), "_are_capacities", "_are_capacities", defArgs s_are_capacities, defBody s_are_capacities, defScope s_are_capacities, [], []⟩
def d_are_contents : He.DefD := ⟨("_are_contents", none), "_are_contents", "_are_contents", defArgs s_are_contents, defBody s_are_contents, defScope s_are_contents, [], []⟩
def d_is_row_like : He.DefD := ⟨("is_row_like", none), "is_row_like", "is_row_like", defArgs s_is_row_like, defBody s_is_row_like, defScope s_is_row_like, [], []⟩
def d_Row_init : He.DefD := ⟨("Row", some "__init__"), "__init__", "Row.__init__", defArgs s_Row_init, defBody s_Row_init, defScope s_Row_init, [.adr (He.dflAt ("Row", some "__init__") 0), .adr (He.dflAt ("Row", some "__init__") 1)], []⟩
def d_Row_contents : He.DefD := ⟨("Row", some "contents"), "contents", "Row.contents", defArgs s_Row_contents, defBody s_Row_contents, defScope s_Row_contents, [], []⟩
def d_Row_capacities : He.DefD := ⟨("Row", some "capacities"), "capacities", "Row.capacities", defArgs s_Row_capacities, defBody s_Row_capacities, defScope s_Row_capacities, [], []⟩
def d_Row_held : He.DefD := ⟨("Row", some "held"), "held", "Row.held", defArgs s_Row_held, defBody s_Row_held, defScope s_Row_held, [], []⟩
def d_Row_capacity : He.DefD := ⟨("Row", some "capacity"), "capacity", "Row.capacity", defArgs s_Row_capacity, defBody s_Row_capacity, defScope s_Row_capacity, [], []⟩
def d_Row_total : He.DefD := ⟨("Row", some "total"), "total", "Row.total", defArgs s_Row_total, defBody s_Row_total, defScope s_Row_total, [], []⟩
def d_Row_is_plain : He.DefD := ⟨("Row", some "is_plain"), "is_plain", "Row.is_plain", defArgs s_Row_is_plain, defBody s_Row_is_plain, defScope s_Row_is_plain, [], []⟩
def d_is_plain_row : He.DefD := ⟨("is_plain_row", none), "is_plain_row", "is_plain_row", defArgs s_is_plain_row, defBody s_is_plain_row, defScope s_is_plain_row, [], []⟩
def d_is_capacity : He.DefD := ⟨("is_capacity", none), "is_capacity", "is_capacity", defArgs s_is_capacity, defBody s_is_capacity, defScope s_is_capacity, [], []⟩
def d_handled : He.DefD := ⟨("handled", none), "handled", "handled", defArgs s_handled, defBody s_handled, defScope s_handled, [], []⟩
def d_passed : He.DefD := ⟨("passed", none), "passed", "passed", defArgs s_passed, defBody s_passed, defScope s_passed, [], []⟩
def d_steps_from : He.DefD := ⟨("_steps_from", none), "_steps_from", "_steps_from", defArgs s_steps_from, defBody s_steps_from, defScope s_steps_from, [], []⟩
def d_trace : He.DefD := ⟨("trace", none), "trace", "trace", defArgs s_trace, defBody s_trace, defScope s_trace, [], []⟩
def d_left_by : He.DefD := ⟨("_left_by", none), "_left_by", "_left_by", defArgs s_left_by, defBody s_left_by, defScope s_left_by, [], []⟩
def d_sweep : He.DefD := ⟨("sweep", none), "sweep", "sweep", defArgs s_sweep, defBody s_sweep, defScope s_sweep, [], []⟩
def d_mirrored : He.DefD := ⟨("mirrored", none), "mirrored", "mirrored", defArgs s_mirrored, defBody s_mirrored, defScope s_mirrored, [], []⟩
def d_unsweep : He.DefD := ⟨("unsweep", none), "unsweep", "unsweep", defArgs s_unsweep, defBody s_unsweep, defScope s_unsweep, [], []⟩
def d_picked : He.DefD := ⟨("picked", none), "picked", "picked", defArgs s_picked, defBody s_picked, defScope s_picked, [], []⟩
def d_without_box : He.DefD := ⟨("_without_box", none), "_without_box", "_without_box", defArgs s_without_box, defBody s_without_box, defScope s_without_box, [], []⟩
def d_plain_form : He.DefD := ⟨("plain_form", none), "plain_form", "plain_form", defArgs s_plain_form, defBody s_plain_form, defScope s_plain_form, [], []⟩
def d_with_box : He.DefD := ⟨("_with_box", none), "_with_box", "_with_box", defArgs s_with_box, defBody s_with_box, defScope s_with_box, [], []⟩
def d_with_capacities : He.DefD := ⟨("with_capacities", none), "with_capacities", "with_capacities", defArgs s_with_capacities, defBody s_with_capacities, defScope s_with_capacities, [], []⟩
def d_runs_in : He.DefD := ⟨("runs_in", none), "runs_in", "runs_in", defArgs s_runs_in, defBody s_runs_in, defScope s_runs_in, [], []⟩
def d_runs : He.DefD := ⟨("runs", none), "runs", "runs", defArgs s_runs, defBody s_runs, defScope s_runs, [], []⟩
def d_cut : He.DefD := ⟨("cut", none), "cut", "cut", defArgs s_cut, defBody s_cut, defScope s_cut, [], []⟩
def d_behind_runs : He.DefD := ⟨("_behind_runs", none), "_behind_runs", "_behind_runs", defArgs s_behind_runs, defBody s_behind_runs, defScope s_behind_runs, [], []⟩
def d_trains : He.DefD := ⟨("trains", none), "trains", "trains", defArgs s_trains, defBody s_trains, defScope s_trains, [], []⟩
def d_lengths : He.DefD := ⟨("lengths", none), "lengths", "lengths", defArgs s_lengths, defBody s_lengths, defScope s_lengths, [], []⟩
def d_are_trains : He.DefD := ⟨("_are_trains", none), "_are_trains", "_are_trains", defArgs s_are_trains, defBody s_are_trains, defScope s_are_trains, [], []⟩
def d_uncut : He.DefD := ⟨("_uncut", none), "_uncut", "_uncut", defArgs s_uncut, defBody s_uncut, defScope s_uncut, [], []⟩
def d_row_of : He.DefD := ⟨("row_of", none), "row_of", "row_of", defArgs s_row_of, defBody s_row_of, defScope s_row_of, [.adr (He.dflAt ("row_of", none) 0)], []⟩
def d_is_counts : He.DefD := ⟨("is_counts", none), "is_counts", "is_counts", defArgs s_is_counts, defBody s_is_counts, defScope s_is_counts, [], []⟩
def d_way : He.DefD := ⟨("way", none), "way", "way", defArgs s_way, defBody s_way, defScope s_way, [], []⟩
def d_moved : He.DefD := ⟨("moved", none), "moved", "moved", defArgs s_moved, defBody s_moved, defScope s_moved, [], []⟩
def d_advance : He.DefD := ⟨("advance", none), "advance", "advance", defArgs s_advance, defBody s_advance, defScope s_advance, [], []⟩
def d_given_up : He.DefD := ⟨("given_up", none), "given_up", "given_up", defArgs s_given_up, defBody s_given_up, defScope s_given_up, [], []⟩
def d_begun : He.DefD := ⟨("_law_begun", none), "_law_begun", "_law_begun", defArgs s_begun, defBody s_begun, defScope s_begun, [], []⟩
def d_mixed : He.DefD := ⟨("_law_mixed", none), "_law_mixed", "_law_mixed", defArgs s_mixed, defBody s_mixed, defScope s_mixed, [], []⟩
def d_take : He.DefD := ⟨("_law_take", none), "_law_take", "_law_take", defArgs s_take, defBody s_take, defScope s_take, [], []⟩
def d_pick : He.DefD := ⟨("_law_pick", none), "_law_pick", "_law_pick", defArgs s_pick, defBody s_pick, defScope s_pick, [], []⟩
def d_sizes : He.DefD := ⟨("_law_sizes", none), "_law_sizes", "_law_sizes", defArgs s_sizes, defBody s_sizes, defScope s_sizes, [], []⟩
def d_boxes : He.DefD := ⟨("_law_boxes", none), "_law_boxes", "_law_boxes", defArgs s_boxes, defBody s_boxes, defScope s_boxes, [], []⟩
def d_made : He.DefD := ⟨("_law_made", none), "_law_made", "_law_made", defArgs s_made, defBody s_made, defScope s_made, [], []⟩
def d_best : He.DefD := ⟨("_law_best", none), "_law_best", "_law_best", defArgs s_best, defBody s_best, defScope s_best, [], []⟩
def d_sizes_by : He.DefD := ⟨("_law_sizes_by", none), "_law_sizes_by", "_law_sizes_by", defArgs s_sizes_by, defBody s_sizes_by, defScope s_sizes_by, [], []⟩
def d_told_right : He.DefD := ⟨("_law_told_right", none), "_law_told_right", "_law_told_right", defArgs s_told_right, defBody s_told_right, defScope s_told_right, [], []⟩
def d_law : He.DefD := ⟨("law", none), "law", "law", defArgs s_law, defBody s_law, defScope s_law, [], []⟩
def fns : List He.DefD := [d_is_integer, d_is_between, d_is_pair, d_are_pairs, d_is_wide_box, d_are_capacities, d_are_contents, d_is_row_like, d_Row_init, d_Row_held, d_Row_capacity, d_Row_total, d_Row_is_plain, d_is_plain_row, d_is_capacity, d_handled, d_passed, d_steps_from, d_trace, d_left_by, d_sweep, d_mirrored, d_unsweep, d_picked, d_without_box, d_plain_form, d_with_box, d_with_capacities, d_runs_in, d_runs, d_cut, d_behind_runs, d_trains, d_lengths, d_are_trains, d_uncut, d_row_of, d_is_counts, d_way, d_moved, d_advance, d_given_up, d_begun, d_mixed, d_take, d_pick, d_sizes, d_boxes, d_made, d_best, d_sizes_by, d_told_right, d_law]
def propDs : List PropD := [⟨"Row", "contents", d_Row_contents⟩, ⟨"Row", "capacities", d_Row_capacities⟩]
def fas : List He.Fa := [.glo "is_integer", .glo "is_between", .glo "is_pair", .glo "are_pairs", .glo "_is_wide_box", .glo "_are_capacities", .glo "_are_contents", .glo "is_row_like", .glo "is_plain_row", .glo "is_capacity", .glo "handled", .glo "passed", .glo "_steps_from", .glo "trace", .glo "_left_by", .glo "sweep", .glo "mirrored", .glo "unsweep", .glo "picked", .glo "_without_box", .glo "plain_form", .glo "_with_box", .glo "with_capacities", .glo "runs_in", .glo "runs", .glo "cut", .glo "_behind_runs", .glo "trains", .glo "lengths", .glo "_are_trains", .glo "_uncut", .glo "row_of", .glo "is_counts", .glo "way", .glo "moved", .glo "advance", .glo "given_up", .glo "_law_begun", .glo "_law_mixed", .glo "_law_take", .glo "_law_pick", .glo "_law_sizes", .glo "_law_boxes", .glo "_law_made", .glo "_law_best", .glo "_law_sizes_by", .glo "_law_told_right", .glo "law", .glo "Row", .glo "BadNumber", .glo "BadCapacity", .glo "BadIndex", .glo "BadRow", .glo "BadTrains", .glo "BadCounts", .free "isinstance", .free "int", .free "bool", .free "list", .free "tuple", .free "all", .free "len", .free "dict", .free "sum", .free "sorted", .free "range", .free "min", .free "max", .free "repr", .free "super", .free "enumerate", .free "zip", .free "abs", .int "GREATEST_CAPACITY" (99), .int "FIRST_WIDE_INDEX" (-60), .int "LAST_WIDE_INDEX" (60), .int "LEAST_WIDE_CAPACITY" (2), .int "GREATEST_WIDE_CAPACITY" (9), .int "MOST_WIDE_BOXES" (6), .int "MOST_ITEMS" (40), .exc "BadNumber", .exc "BadCapacity", .exc "BadIndex", .exc "BadTrains", .exc "BadCounts", .cls "Row", .noat "Row" "_contents", .noat "Row" "_capacities", .noat "Row" "_count_at", .noat "Row" "_capacity_at", .mkr "Row", .meth "Row" "held", .meth "Row" "capacity", .meth "Row" "total", .meth "Row" "is_plain"]
def more (K : PySem.W.Frag) : Bool := (rowKB K (He.ga K "Row")) && (emptyB K (He.dflAt ("Row", some "__init__") 1 K)) && (emptyB K (He.dflAt ("Row", some "__init__") 0 K))
abbrev Rw : PySem.W.OpenRow := PySem.W.OpenLaw.row PySem.Challenge.rw_scooprow_k81_whole_trains_by_stretches
def others0 : List Str := ["ScoopError", "BadRow", "BadIndex", "BadNumber", "BadCapacity", "BadTrains", "BadCounts", "MOST_ITEMS", "MOST_WIDE_BOXES", "FIRST_WIDE_INDEX", "LAST_WIDE_INDEX", "LEAST_WIDE_CAPACITY", "GREATEST_WIDE_CAPACITY", "is_integer", "is_between", "is_pair", "are_pairs", "_is_wide_box", "_are_capacities", "_are_contents", "is_row_like", "Row", "is_plain_row", "GREATEST_CAPACITY", "is_capacity", "handled", "passed", "_steps_from", "trace", "_left_by"]
def others1 : List Str := ["sweep", "mirrored", "unsweep", "picked", "_without_box", "plain_form", "_with_box", "with_capacities", "runs_in", "cut", "_behind_runs", "trains", "lengths", "_are_trains", "_uncut", "row_of", "is_counts", "way", "moved", "advance", "runs", "given_up", "_law_begun", "_law_mixed", "_law_take", "_law_pick", "_law_sizes", "_law_boxes", "_law_made", "_law_best"]
def others2 : List Str := ["_law_sizes_by", "_law_told_right"]
def others : List Str := others0 ++ others1 ++ others2
def ob (s : PySem.W.SharedT) : AlS := obsS 6 fas fns propDs supDs more (HandSHeadRun.getT s)
abbrev hk0 : PySem.W.Hook where
  α := AlS
  obs := fun s => obsS 6 fas fns propDs supDs more s.heap.get?
  val := fun w => valS fns propDs supDs w
  says := fun _ _ => True
  of := fun _ _ _ => trivial
  keeps := fun _ _ _ _ _ => trivial
theorem run0 (w : World) : HandSHeadRun.RunEq Rw (PySem.W.view Rw.prog [70]) hk0 ob 5400 others w := by
  intro os
  kernel_rfl
end SR
set_option Elab.async false
set_option linter.all false
set_option maxRecDepth 100000
set_option maxHeartbeats 4000000
namespace SR
open PySem L2
abbrev qAdd : R2 := rI0 fun i j => .int (i + j)
abbrev qSub : R2 := rI0 fun i j => .int (i - j)
abbrev qMul : R2 := rI CMul fun i j => .int (i * j)
abbrev qFd : R2 := rI CDivN fun i j => .int (i.fdiv j)
abbrev qMod : R2 := rI (fun _ j => j ≠ 0) fun i j => .int (i.fmod j)
abbrev qPow : R2 := rI CPow fun i j => .int (i ^ j.toNat)
abbrev qLt : R2 := rI0 fun i j => .bl (decide (i < j))
abbrev qLe : R2 := rI0 fun i j => .bl (decide (i ≤ j))
abbrev qGt : R2 := rI0 fun i j => .bl (decide (j < i))
abbrev qGe : R2 := rI0 fun i j => .bl (decide (j ≤ i))
abbrev qInt1 : List V → Hp → VK → Prop := fun xs H Q => (∃ i, xs = [.int i] ∧ Q (.int i) H) ∨ ∃ k, xs = [.bl k] ∧ Q (.int (if k then 1 else 0)) H
abbrev qListOf (K : PySem.W.Frag) : List V → Hp → VK → Prop := fun xs H Q => ∃ p ys, xs = [.ref p] ∧ (SqL K H p ys ∨ SqT K H p ys) ∧ ∀ l, H l = none → Q (.ref l) (upd H l (.lst ys))
abbrev qLen (K : PySem.W.Frag) : List V → Hp → VK → Prop := fun xs H Q => ∃ p ys, xs = [.ref p] ∧ (SqL K H p ys ∨ SqT K H p ys) ∧ Q (.int ys.length) H
abbrev qMin2 : List V → Hp → VK → Prop := fun xs H Q => ∃ i j, xs = [.int i, .int j] ∧ Q (.int (if j < i then j else i)) H
abbrev qMax2 : List V → Hp → VK → Prop := fun xs H Q => ∃ i j, xs = [.int i, .int j] ∧ Q (.int (if j > i then j else i)) H
def stK (g c : Addr) (r t : Int) : List (Key × V) := [(.inr "great", .ref g), (.inr "cells", .ref c), (.inr "rest", .int r), (.inr "turn", .int t)]
def St0 (H : Hp) (d g c : Addr) (b : Nat) (r t : Int) (gs cs : List Int) : Prop :=
  H d = some (.dK (stK g c r t)) ∧ H g = some (.lst (gs.map V.int)) ∧ H c = some (.lst (cs.map V.int)) ∧ g ≠ c ∧ 0 ≤ t ∧ t + b ≤ 2 ^ 40
def StB (H : Hp) (d g c : Addr) (b : Nat) : Prop := ∃ r t gs cs, St0 H d g c b r t gs cs
/-- all but the state's dict and its great cells stay -/
def Kp (d g : Addr) (H H' : Hp) : Prop := ∀ a o, a ≠ d → a ≠ g → H a = some o → H' a = some o
theorem Kp.refl {d g : Addr} (H : Hp) : Kp d g H H := fun _ _ _ _ h => h
theorem Kp.trans {d g : Addr} {H H1 H2 : Hp} (x : Kp d g H H1) (y : Kp d g H1 H2) : Kp d g H H2 := fun a o h1 h2 h => y a o h1 h2 (x a o h1 h2 h)
theorem Kp.new {d g : Addr} {H : Hp} {p : Addr} {o : HO} (h : H p = none) : Kp d g H (upd H p o) := fun a u _ _ e => by
  rw [upd_ne (ne_of_none e h)]
  exact e
theorem StB.mono {H : Hp} {d g c : Addr} {b b' : Nat} (h : StB H d g c b) (e : b' ≤ b) : StB H d g c b' := by
  obtain ⟨r, t, gs, cs, h1, h2, h3, h4, h5, h6⟩ := h
  exact ⟨r, t, gs, cs, h1, h2, h3, h4, h5, by omega⟩
theorem St0.dg {H : Hp} {d g c : Addr} {b : Nat} {r t : Int} {gs cs : List Int} (h : St0 H d g c b r t gs cs) : d ≠ g := ne_of h.1 h.2.1 (by intro z; cases z)
theorem St0.dc {H : Hp} {d g c : Addr} {b : Nat} {r t : Int} {gs cs : List Int} (h : St0 H d g c b r t gs cs) : d ≠ c := ne_of h.1 h.2.2.1 (by intro z; cases z)
/-- a new object leaves the state -/
theorem StB.new {H : Hp} {d g c : Addr} {b : Nat} (h : StB H d g c b) {p : Addr} {o : HO} (hp : H p = none) : StB (upd H p o) d g c b := by
  obtain ⟨r, t, gs, cs, h1, h2, h3, h4, h5⟩ := h
  exact ⟨r, t, gs, cs, by rw [upd_ne (ne_of_none h1 hp)]; exact h1, by rw [upd_ne (ne_of_none h2 hp)]; exact h2, by rw [upd_ne (ne_of_none h3 hp)]; exact h3, h4, h5⟩
/-- an object that is none of the state's is changed -/
theorem StB.upd {H : Hp} {d g c : Addr} {b : Nat} (h : StB H d g c b) {p : Addr} {o : HO} (h1 : p ≠ d) (h2 : p ≠ g) (h3 : p ≠ c) : StB (upd H p o) d g c b := by
  obtain ⟨r, t, gs, cs, e1, e2, e3, e4⟩ := h
  exact ⟨r, t, gs, cs, by rw [upd_ne h1.symm]; exact e1, by rw [upd_ne h2.symm]; exact e2, by rw [upd_ne h3.symm]; exact e3, e4⟩
def spMixed : Sp := fun vs H Q _ => ∃ (d g c : Addr) (b : Nat), vs = [.ref d] ∧ ∃ r t gs cs, St0 H d g c (b + 1) r t gs cs ∧
  ∀ (i : Int) H', St0 H' d g c b r (t + 1) gs cs → Kp d g H H' → Q (.int i) H'
def spTake : Sp := fun vs H Q _ => ∃ (d g c : Addr) (b : Nat) (n : Int), vs = [.ref d, .int n] ∧ StB H d g c (b + 1) ∧ 0 < n ∧ n < 2 ^ 29 ∧
  ∀ (i : Int) H', 0 ≤ i → i < n → StB H' d g c b → Kp d g H H' → Q (.int i) H'
def spPick (K : PySem.W.Frag) : Sp := fun vs H Q _ => ∃ (d g c : Addr) (b : Nat) (a : Addr) (xs : List V), vs = [.ref d, .ref a] ∧ StB H d g c (b + 1) ∧ SqL K H a xs ∧ a ≠ d ∧ a ≠ g ∧ 0 < xs.length ∧ xs.length < 1000 ∧
  ∀ v H', v ∈ xs → StB H' d g c b → Kp d g H H' → Q v H'
def spBegun (K : PySem.W.Frag) : Sp := fun vs H Q _ => ∃ (a : Addr) (ns : List Int), vs = [.ref a] ∧ SqL K H a (ns.map V.int) ∧ ns.length ≤ 63 ∧
  ∀ d g c H', StB H' d g c (2 ^ 39) → (∀ x o, H x = some o → H' x = some o) → H d = none → H g = none → H c = none → Q (.ref d) H'
theorem kstr {x y : Str} (h : x ≠ y) : ¬ (Sum.inr x : Key) = Sum.inr y := fun e => h (Sum.inr.inj e)
end SR
set_option Elab.async false
set_option linter.all false
set_option maxRecDepth 100000
set_option maxHeartbeats 4000000
namespace SR
open PySem L2
section
variable {H : Hp} {d g c : Addr} {r t : Int} {K : PySem.W.Frag}
theorem get_great (h : H d = some (.dK (stK g c r t))) : DGet H d (.str "great") (some (.ref g)) := .inl ⟨_, .inr "great", .inl h, rfl, by rw [stK, valV_pos rfl]⟩
theorem get_cells (h : H d = some (.dK (stK g c r t))) : DGet H d (.str "cells") (some (.ref c)) := .inl ⟨_, .inr "cells", .inl h, rfl, by rw [stK, valV_neg (kstr (by decide +kernel)), valV_pos rfl]⟩
theorem get_rest (h : H d = some (.dK (stK g c r t))) : DGet H d (.str "rest") (some (.int r)) := .inl ⟨_, .inr "rest", .inl h, rfl, by rw [stK, valV_neg (kstr (by decide +kernel)), valV_neg (kstr (by decide +kernel)), valV_pos rfl]⟩
theorem get_turn (h : H d = some (.dK (stK g c r t))) : DGet H d (.str "turn") (some (.int t)) := .inl ⟨_, .inr "turn", .inl h, rfl, by rw [stK, valV_neg (kstr (by decide +kernel)), valV_neg (kstr (by decide +kernel)), valV_neg (kstr (by decide +kernel)), valV_pos rfl]⟩
theorem putK_rest (y : Int) : putK (stK g c r t) (.inr "rest") (.int y) = stK g c y t := by
  have n1 : ¬ ("great" : Str) = "rest" := by decide +kernel
  have n2 : ¬ ("cells" : Str) = "rest" := by decide +kernel
  have n3 : ¬ ("turn" : Str) = "rest" := by decide +kernel
  simp [putK, stK, n1, n2, n3]
theorem putK_turn (y : Int) : putK (stK g c r t) (.inr "turn") (.int y) = stK g c r y := by
  have n1 : ¬ ("great" : Str) = "turn" := by decide +kernel
  have n2 : ¬ ("cells" : Str) = "turn" := by decide +kernel
  have n3 : ¬ ("rest" : Str) = "turn" := by decide +kernel
  simp [putK, stK, n1, n2, n3]
theorem put_rest (y : Int) (h : H d = some (.dK (stK g c r t))) : DPut H d (.str "rest") (.int y) (upd H d (.dK (stK g c y t))) :=
  .inl ⟨_, .inr "rest", h, rfl, small1000 (by show 4 ≤ 1000; decide), by rw [putK_rest]⟩
theorem put_turn (y : Int) (h : H d = some (.dK (stK g c r t))) : DPut H d (.str "turn") (.int y) (upd H d (.dK (stK g c r y))) :=
  .inl ⟨_, .inr "turn", h, rfl, small1000 (by show 4 ≤ 1000; decide), by rw [putK_turn]⟩
/-- the state with another rest, another turn -/
theorem St0.rest {b : Nat} {gs cs : List Int} (h : St0 H d g c b r t gs cs) (y : Int) : St0 (upd H d (.dK (stK g c y t))) d g c b y t gs cs :=
  ⟨upd_same, by rw [upd_ne h.dg.symm]; exact h.2.1, by rw [upd_ne h.dc.symm]; exact h.2.2.1, h.2.2.2⟩
theorem St0.turn {b : Nat} {gs cs : List Int} (h : St0 H d g c (b + 1) r t gs cs) : St0 (upd H d (.dK (stK g c r (t + 1)))) d g c b r (t + 1) gs cs :=
  ⟨upd_same, by rw [upd_ne h.dg.symm]; exact h.2.1, by rw [upd_ne h.dc.symm]; exact h.2.2.1, h.2.2.2.1, by have := h.2.2.2.2; omega, by have := h.2.2.2.2; omega⟩
theorem St0.pop {b : Nat} {x : Int} {gs cs : List Int} (h : St0 H d g c b r t (x :: gs) cs) : St0 (upd H g (.lst (gs.map V.int))) d g c b r t gs cs :=
  ⟨by rw [upd_ne h.dg]; exact h.1, upd_same, by rw [upd_ne h.2.2.2.1.symm]; exact h.2.2.1, h.2.2.2⟩
theorem St0.new {b : Nat} {gs cs : List Int} (h : St0 H d g c b r t gs cs) {p : Addr} {o : HO} (hp : H p = none) : St0 (upd H p o) d g c b r t gs cs :=
  ⟨by rw [upd_ne (ne_of_none h.1 hp)]; exact h.1, by rw [upd_ne (ne_of_none h.2.1 hp)]; exact h.2.1, by rw [upd_ne (ne_of_none h.2.2.1 hp)]; exact h.2.2.1, h.2.2.2⟩
theorem Kp.own {o : HO} : Kp d g H (upd H d o) := fun a u h1 _ e => by rw [upd_ne h1]; exact e
theorem Kp.ownG {o : HO} : Kp d g H (upd H g o) := fun a u _ h2 e => by rw [upd_ne h2]; exact e
end
def primes : List Int := [2147483629, 2147483587, 2147483579, 2147483563, 2147483549, 2147483543]
theorem primes_mem {i : Nat} {x : V} (h : (primes.map V.int)[i]? = some x) : ∃ p : Int, x = .int p ∧ 2147483543 ≤ p ∧ p ≤ 2147483629 := by
  have hx := List.mem_of_getElem? h
  obtain ⟨p, hp, rfl⟩ := List.mem_map.mp hx
  refine ⟨p, rfl, ?_⟩
  simp [primes] at hp
  omega
theorem ints_at {ns : List Int} {i : Nat} {x : V} (h : (ns.map V.int)[i]? = some x) : ∃ z, ns[i]? = some z ∧ x = .int z := by
  rw [List.getElem?_map] at h
  cases e : ns[i]? with
  | none => rw [e] at h; cases h
  | some z => rw [e] at h; exact ⟨z, rfl, (Option.some.inj h).symm⟩
def t_mixed (K : PySem.W.Frag) : TS := tSeq (tAsg (tOp qAdd (tDGet (tVar 0) (tC (.str "turn"))) (tC (.int 1))) (gName 1))
  (tSeq (sDPut (tVar 0) (tC (.str "turn")) (tVar 1))
  (tSeq (tAsg (tC (.int 0)) (gName 2))
  (tSeq (tFor (iList K (tLst (tCons (tC (.int 2147483629)) (tCons (tC (.int 2147483587)) (tCons (tC (.int 2147483579)) (tCons (tC (.int 2147483563)) (tCons (tC (.int 2147483549)) (tCons (tC (.int 2147483543)) (tNil))))))))) (gName 3)
  (tSeq (tAsg (tOp qAdd (tOp qMul (tC (.int 130363)) (tVar 1)) (tOp qFd (tVar 3) (tC (.int 13)))) (gName 4))
  (tSeq (tFor (iList K (tDGet (tVar 0) (tC (.str "cells")))) (gName 5)
  (tAsg (tOp qMod (tCB qInt1 (tCons (tOp qAdd (tOp qMul (tVar 4) (tC (.int 48271))) (tVar 5)) (tNil))) (tVar 3)) (gName 4)))
  (tAsg (tOp qAdd (tOp qMul (tVar 2) (tC (.int 2147483647))) (tOp qMod (tCB qInt1 (tCons (tOp qPow (tVar 4) (tC (.int 5))) (tNil))) (tVar 3))) (gName 2)))))
  (tRet (tVar 2)))))
theorem pure_mixed {K : PySem.W.Frag} (vs : List V) (H : Hp) (Q : VK) (E : XK) (h : spMixed vs H Q E) : t_mixed K { nx := fun _ H' => Q .non H', rt := Q } (start ["state", "turn", "found", "prime", "blend", "cell"] vs) H := by
  obtain ⟨d, g, c, b, rfl, r, t, gs, cs, S, k⟩ := h
  -- turn = state["turn"] + 1
  refine ⟨_, rfl, d, _, rfl, get_turn S.1, _, _, rfl, rfl, ?_⟩
  -- state["turn"] = turn
  refine ⟨_, rfl, _, rfl, d, _, rfl, put_turn (t + 1) S.1, ?_⟩
  have S1 := S.turn
  have kp1 : Kp d g H (upd H d (.dK (stK g c r (t + 1)))) := Kp.own
  generalize upd H d (.dK (stK g c r (t + 1))) = H1 at S1 kp1 ⊢
  -- found = 0; for prime in [..]
  refine ⟨by show 6 ≤ sizeLine; exact Nat.le_of_lt (small1000 (by decide)), fun l hl => ⟨l, rfl, ⟨_, SqL.of upd_same⟩, ?_⟩⟩
  have S2 := S1.new (o := .lst (primes.map V.int)) hl
  have kp2 : Kp d g H (upd H1 l (.lst (primes.map V.int))) := kp1.trans (Kp.new hl)
  have hL : upd H1 l (.lst (primes.map V.int)) l = some (.lst (primes.map V.int)) := upd_same
  have ht := S2.2.2.2.2
  refine for_list (K := K) (a := l) (xs := primes.map V.int) (fun i σ H2 => H2 = upd H1 l (.lst (primes.map V.int)) ∧ ∃ (f : Int) (v3 v4 v5 : Option V), σ = [some (.ref d), some (.int (t + 1)), some (.int f), v3, v4, v5])
    ⟨rfl, 0, none, none, none, rfl⟩ (fun i σ H2 _ e => e.1 ▸ SqL.of hL) ?_ ?_
  · rintro i x σ H2 hi ⟨rfl, f, v3, v4, v5, rfl⟩
    obtain ⟨p, rfl, hp1, hp2⟩ := primes_mem hi
    generalize upd H1 l (.lst (primes.map V.int)) = H3 at S2 kp2 hL
    -- blend = 130363 * turn + prime // 13
    refine ⟨_, rfl, 130363, t + 1, rfl, rfl, .inl ⟨by decide, by decide⟩, _, rfl, _, _, rfl, rfl, ⟨by decide, by decide⟩, _, _, rfl, rfl, ?_⟩
    -- for cell in state["cells"]
    refine ⟨_, rfl, d, _, rfl, get_cells S2.1, c, rfl, ⟨_, SqL.of S2.2.2.1⟩, ?_⟩
    refine for_list (K := K) (a := c) (xs := cs.map V.int) (fun j σ H4 => H4 = H3 ∧ ∃ (bl : Int) (w5 : Option V), σ = [some (.ref d), some (.int (t + 1)), some (.int f), some (.int p), some (.int bl), w5] ∧ bl.natAbs < 2 ^ 64)
      ⟨rfl, _, v5, rfl, ?_⟩ (fun j σ H4 _ e => e.1 ▸ SqL.of S2.2.2.1) ?_ ?_
    · have : p.fdiv 13 = p / 13 := Int.fdiv_eq_ediv_of_nonneg _ (by decide)
      rw [this]; omega
    · rintro j x σ H4 hj ⟨rfl, bl, w5, rfl, hb⟩
      obtain ⟨z, _, rfl⟩ := ints_at hj
      refine ⟨_, rfl, bl, 48271, rfl, rfl, .inr ⟨by decide, by decide⟩, _, rfl, _, _, rfl, rfl, .inl ⟨_, rfl, _, rfl, _, p, rfl, rfl, by omega, ?_⟩⟩
      refine ⟨rfl, _, _, rfl, ?_⟩
      have h0 : 0 ≤ (bl * 48271 + z).fmod p := Int.fmod_nonneg_of_pos _ (by omega)
      have h1 : (bl * 48271 + z).fmod p < p := Int.fmod_lt_of_pos _ (by omega)
      omega
    · rintro σ H4 ⟨rfl, bl, w5, rfl, hb⟩
      -- found = found * 2147483647 + int(blend ** 5) % prime
      refine ⟨_, rfl, f, 2147483647, rfl, rfl, .inr ⟨by decide, by decide⟩, _, rfl, bl, 5, rfl, rfl, ⟨by decide, by decide, hb⟩, .inl ⟨_, rfl, _, rfl, _, p, rfl, rfl, by omega, _, _, rfl, rfl, ?_⟩⟩
      exact ⟨rfl, _, _, _, _, rfl⟩
  · rintro σ H2 ⟨rfl, f, v3, v4, v5, rfl⟩
    exact ⟨_, rfl, k f _ S2 kp2⟩
end SR
set_option Elab.async false
set_option linter.all false
set_option maxRecDepth 100000
set_option maxHeartbeats 4000000
namespace SR
open PySem L2
theorem SqL.same {K : PySem.W.Frag} {H H' : Hp} {a : Addr} {xs : List V} (e : Same H H') (h : SqL K H a xs) : SqL K H' a xs := Same.seq e h
theorem SqT.same {K : PySem.W.Frag} {H H' : Hp} {a : Addr} {xs : List V} (e : Same H H') (h : SqT K H a xs) : SqT K H' a xs := by
  rcases h with (h | ⟨o, h⟩) | h
  · exact .inl (.inl (e _ _ h))
  · exact .inl (.inr ⟨o, e _ _ h⟩)
  · exact .inr h
mutual
theorem Dp.same {K : PySem.W.Frag} {H H' : Hp} (e : Same H H') : ∀ (d : PyData) (v : V), Dp K H v d → Dp K H' v d
  | .none, _, h => by cases h; exact .non
  | .bool _, _, h => by cases h; exact .bl _
  | .int _, _, h => by cases h; exact .int _
  | .str _, _, h => by cases h; exact .str _
  | .list ds, _, h => by
    cases h with
    | lst h1 h2 => exact .lst (SqL.same e h1) (DpAll.same e ds _ h2)
  | .tuple ds, _, h => by
    cases h with
    | tup h1 h2 => exact .tup (SqT.same e h1) (DpAll.same e ds _ h2)
  | .dict _, _, h => nomatch h
theorem DpAll.same {K : PySem.W.Frag} {H H' : Hp} (e : Same H H') : ∀ (ds : List PyData) (vs : List V), DpAll K H vs ds → DpAll K H' vs ds
  | [], _, h => by cases h; exact .nil
  | d :: ds, _, h => by
    cases h with
    | cons h1 h2 => exact .cons (Dp.same e d _ h1) (DpAll.same e ds _ h2)
end
theorem dp_ints {K : PySem.W.Frag} {H : Hp} : ∀ ns : List Int, DpAll K H (ns.map V.int) (ns.map PyData.int)
  | [] => .nil
  | n :: ns => .cons (.int n) (dp_ints ns)
theorem lay_ints : ∀ ns : List Int, PyData.canLayAll0 (ns.map PyData.int) = true
  | [] => rfl
  | n :: ns => by
    show (PyData.canLay0 (PyData.int n) && PyData.canLayAll0 (ns.map PyData.int)) = true
    rw [lay_ints ns] <;> rfl
theorem depth_ints : ∀ ns : List Int, PyData.depthAll (ns.map PyData.int) = 0
  | [] => rfl
  | n :: ns => by
    show max (PyData.depth (PyData.int n)) (PyData.depthAll (ns.map PyData.int)) = 0
    rw [depth_ints ns]
    simp [PyData.depth]
theorem shaped_list {ds : List PyData} (h : PyData.canLayAll0 ds = true) (h2 : PyData.depthAll ds ≤ 60) : SeqAt.shaped (.list ds) = true := by
  have e1 : PyData.canLay0 (.list ds) = true := h
  have e2 : PyData.depth (.list ds) ≤ 64 := by simp only [PyData.depth]; omega
  unfold SeqAt.shaped
  rw [e1, decide_eq_true e2] <;> rfl
theorem shaped_ints (ns : List Int) : SeqAt.shaped (.list (ns.map PyData.int)) = true := shaped_list (lay_ints ns) (by rw [depth_ints]; decide)
def hid (d g : Addr) (H : Hp) : Hp := fun a => if a = d ∨ a = g then none else H a
theorem hid_some {d g : Addr} {H : Hp} {a : Addr} {o : HO} (h : hid d g H a = some o) : H a = some o ∧ a ≠ d ∧ a ≠ g := by
  unfold hid at h
  by_cases e : a = d ∨ a = g
  · rw [if_pos e] at h; cases h
  · rw [if_neg e] at h
    exact ⟨h, fun z => e (.inl z), fun z => e (.inr z)⟩
theorem hid_of {d g : Addr} {H : Hp} {a : Addr} {o : HO} (h : H a = some o) (h1 : a ≠ d) (h2 : a ≠ g) : hid d g H a = some o := by
  unfold hid
  rw [if_neg (fun e => e.elim h1 h2)]
  exact h
theorem Kp.hid {d g : Addr} {H H' : Hp} (k : Kp d g H H') : Same (hid d g H) (hid d g H') := fun a o h => by
  obtain ⟨h0, h1, h2⟩ := hid_some h
  exact hid_of (k a o h1 h2 h0) h1 h2
def t_take (K : PySem.W.Frag) : TS := tSeq (tIfS (tAnd (tTest (tOp rEq (tDGet (tVar 0) (tC (.str "rest"))) (tC (.int 0)))) (tTest (tOp (rNeD K) (tDGet (tVar 0) (tC (.str "great"))) (tLst (tNil)))))
  (sDPut (tVar 0) (tC (.str "rest")) (tBM K "list" rPopAt (tDGet (tVar 0) (tC (.str "great"))) (tCons (tC (.int 0)) (tNil))))
  (tIfS (tTest (tOp rEq (tDGet (tVar 0) (tC (.str "rest"))) (tC (.int 0))))
  (sDPut (tVar 0) (tC (.str "rest")) (tCall spMixed [] E0 (tCons (tVar 0) (tNil))))
  (tNext)))
  (tSeq (tAsg (tOp qMod (tCB qInt1 (tCons (tDGet (tVar 0) (tC (.str "rest"))) (tNil))) (tVar 1)) (gName 2))
  (tSeq (sDPut (tVar 0) (tC (.str "rest")) (tOp qFd (tDGet (tVar 0) (tC (.str "rest"))) (tVar 1)))
  (tRet (tVar 2))))
theorem pure_take {K : PySem.W.Frag} (vs : List V) (H : Hp) (Q : VK) (E : XK) (h : spTake vs H Q E) : t_take K { nx := fun _ H' => Q .non H', rt := Q } (start ["state", "size", "found"] vs) H := by
  obtain ⟨d, g, c, b, n, rfl, ⟨r, t, gs, cs, S⟩, hn0, hn1, k⟩ := h
  -- behind the if
  have fin : ∀ (H1 : Hp) (r1 t1 : Int) (gs1 : List Int), St0 H1 d g c b r1 t1 gs1 cs → Kp d g H H1 →
      (tSeq (tAsg (tOp qMod (tCB qInt1 (tCons (tDGet (tVar 0) (tC (.str "rest"))) (tNil))) (tVar 1)) (gName 2))
        (tSeq (sDPut (tVar 0) (tC (.str "rest")) (tOp qFd (tDGet (tVar 0) (tC (.str "rest"))) (tVar 1))) (tRet (tVar 2)))) { nx := fun _ H' => Q .non H', rt := Q } [some (.ref d), some (.int n), none] H1 := by
    intro H1 r1 t1 gs1 S1 kp
    refine ⟨_, rfl, d, _, rfl, get_rest S1.1, .inl ⟨_, rfl, _, rfl, r1, n, rfl, rfl, by omega, ?_⟩⟩
    refine ⟨_, rfl, d, _, rfl, get_rest S1.1, _, rfl, r1, n, rfl, rfl, ⟨by omega, by omega⟩, _, rfl, d, _, rfl, put_rest _ S1.1, _, rfl, ?_⟩
    exact k _ _ (Int.fmod_nonneg_of_pos _ hn0) (Int.fmod_lt_of_pos _ hn0) ⟨_, _, _, _, S1.rest _⟩ (kp.trans Kp.own)
  have S' : St0 H d g c b r t gs cs := ⟨S.1, S.2.1, S.2.2.1, S.2.2.2.1, S.2.2.2.2.1, by have := S.2.2.2.2.2; omega⟩
  refine ⟨_, rfl, d, _, rfl, get_rest S.1, rfl, _, rfl, ?_⟩
  by_cases e : r = 0
  · subst e
    rw [decide_eq_true (rfl : V.int 0 = V.int 0)]
    refine iteT ⟨_, rfl, d, _, rfl, get_great S.1, by show 0 ≤ sizeLine; exact Nat.zero_le _, fun p hp => ⟨.list (gs.map PyData.int), .list [], ?_, ?_, shaped_ints gs, shaped_ints [], _, rfl, ?_⟩⟩
    · exact .lst (SqL.of (by rw [upd_ne (ne_of_none S.2.1 hp)]; exact S.2.1)) (dp_ints gs)
    · exact .lst (SqL.of upd_same) .nil
    have S2 := S'.new (o := .lst []) hp
    have S2b := S.new (o := .lst []) hp
    have kp2 : Kp d g H (upd H p (.lst [])) := Kp.new hp
    cases gs with
    | nil =>
      -- great is empty: the state is mixed
      rw [show (!PyData.eqv (.list (([] : List Int).map PyData.int)) (.list [])) = false from rfl]
      refine iteF ⟨_, rfl, d, _, rfl, get_rest S2.1, rfl, _, rfl, ?_⟩
      rw [decide_eq_true (rfl : V.int 0 = V.int 0)]
      refine iteT ⟨_, rfl, d, g, c, b, rfl, _, _, _, _, S2b, fun i H3 S3 kp3 => ⟨_, rfl, d, _, rfl, put_rest i S3.1, ?_⟩⟩
      exact fin _ _ _ _ (S3.rest i) ((kp2.trans kp3).trans Kp.own)
    | cons x gs =>
      rw [show (!PyData.eqv (.list ((x :: gs).map PyData.int)) (.list [])) = true from rfl]
      refine iteT ⟨_, rfl, d, _, rfl, get_great S2.1, .inl ⟨rfl, _, .inl (.inl S2.2.1)⟩, g, _, 0, 0, .int x, rfl, rfl, S2.2.1, by decide, by decide, ?_, rfl, ?_⟩
      · simp [seqIndex?]
      have S3 := S2.pop
      refine ⟨_, rfl, d, _, rfl, put_rest x S3.1, ?_⟩
      exact fin _ _ _ _ (S3.rest x) ((kp2.trans Kp.ownG).trans Kp.own)
  · have e1 : ¬ V.int r = V.int 0 := fun z => e (by injection z)
    rw [decide_eq_false e1]
    refine iteF ⟨_, rfl, d, _, rfl, get_rest S.1, rfl, _, rfl, ?_⟩
    rw [decide_eq_false e1]
    exact iteF (fin _ _ _ _ S' (Kp.refl H))
def t_pick (K : PySem.W.Frag) : TS := tRet (tOp (rIxL K) (tVar 1) (tCall spTake [] E0 (tCons (tVar 0) (tCons (tCB (qLen K) (tCons (tVar 1) (tNil))) (tNil)))))
theorem SqL.kp {K : PySem.W.Frag} {d g a : Addr} {H H' : Hp} {xs : List V} (k : Kp d g H H') (h : SqL K H a xs) (h1 : a ≠ d) (h2 : a ≠ g) : SqL K H' a xs := by
  rcases h with (h | ⟨o, h⟩) | h
  · exact .inl (.inl (k _ _ h1 h2 h))
  · exact .inl (.inr ⟨o, k _ _ h1 h2 h⟩)
  · exact .inr h
theorem pure_pick {K : PySem.W.Frag} (vs : List V) (H : Hp) (Q : VK) (E : XK) (h : spPick K vs H Q E) : t_pick K { nx := fun _ H' => Q .non H', rt := Q } (start ["state", "some"] vs) H := by
  obtain ⟨d, g, c, b, a, xs, rfl, S, hL, h1, h2, h3, h4, k⟩ := h
  refine ⟨_, rfl, _, rfl, _, rfl, _, xs, rfl, .inl hL, d, g, c, b, xs.length, rfl, S, by omega, by omega, fun i H1 hi0 hi1 S1 kp => ?_⟩
  obtain ⟨j, rfl⟩ : ∃ j : Nat, i = (j : Int) := ⟨i.toNat, by omega⟩
  have hj : j < xs.length := by omega
  exact ⟨a, xs, j, xs[j], rfl, rfl, SqL.kp kp hL h1 h2, atI_nat (List.getElem?_eq_getElem hj), k _ _ (List.getElem_mem hj) S1 kp⟩
def t_begun (K : PySem.W.Frag) : TS := tSeq (tAsg (tLc (iList K (tVar 0)) (gName 2) (tTest (tOp qGe (tVar 2) (tOp qPow (tC (.int 10)) (tC (.int 18))))) (tOp qSub (tVar 2) (tOp qPow (tC (.int 10)) (tC (.int 18)))) [2]) (gName 1))
  (tRet (tDisp ((tC (.str "great"), tVar 1) :: (tC (.str "cells"), tCB (qListOf K) (tCons (tVar 0) (tNil))) :: (tC (.str "rest"), tC (.int 0)) :: (tC (.str "turn"), tC (.int 0)) :: [])))
theorem merge_st {g c : Addr} : mergeK [] [((.inr "great" : Key), V.ref g), (.inr "cells", .ref c), (.inr "rest", .int 0), (.inr "turn", .int 0)] = stK g c 0 0 := by
  have n1 : ¬ ("great" : Str) = "cells" := by decide +kernel
  have n2 : ¬ ("great" : Str) = "rest" := by decide +kernel
  have n3 : ¬ ("cells" : Str) = "rest" := by decide +kernel
  have n4 : ¬ ("great" : Str) = "turn" := by decide +kernel
  have n5 : ¬ ("cells" : Str) = "turn" := by decide +kernel
  have n6 : ¬ ("rest" : Str) = "turn" := by decide +kernel
  simp [mergeK, putK, stK, n1, n2, n3, n4, n5, n6]
theorem pure_begun {K : PySem.W.Frag} (vs : List V) (H : Hp) (Q : VK) (E : XK) (h : spBegun K vs H Q E) : t_begun K { nx := fun _ H' => Q .non H', rt := Q } (start ["script", "wide", "cell"] vs) H := by
  obtain ⟨a, ns, rfl, hL, hlen, k⟩ := h
  refine ⟨_, rfl, a, rfl, ⟨_, hL⟩, fun D hD => lc_list (K := K) (a := a) (xs := ns.map V.int) (fun i H2 => ∃ zs : List Int, H2 D = some (.lst (zs.map V.int)) ∧ zs.length ≤ i ∧ Same H H2)
    ⟨[], upd_same, Nat.le_refl _, fun b o e => by rw [upd_ne (ne_of_none e hD)]; exact e⟩ (fun i H2 _ ⟨_, _, _, s⟩ => Same.seq s hL) ?_ ?_⟩
  · rintro i x H2 hi ⟨zs, h1, h2, s⟩
    have hil := (List.getElem?_eq_some_iff.mp hi).1
    rw [List.length_map] at hil
    obtain ⟨z, _, rfl⟩ := ints_at hi
    refine ⟨rfl, _, rfl, 10, 18, rfl, rfl, ⟨by decide, by decide, by decide⟩, z, _, rfl, rfl, _, rfl, ?_⟩
    refine ite2 (fun _ => ?_) (fun _ => ⟨zs, h1, by omega, s⟩)
    refine ⟨_, rfl, 10, 18, rfl, rfl, ⟨by decide, by decide, by decide⟩, z, _, rfl, rfl, _, h1, small1000 (by rw [List.length_map]; omega), ?_⟩
    refine ⟨zs ++ [z - 10 ^ (18 : Int).toNat], by rw [upd_same, List.map_append]; rfl, by rw [List.length_append, List.length_singleton]; omega, fun b o e => ?_⟩
    rw [upd_ne (ne_of_none e hD)]
    exact s b o e
  · rintro H2 ⟨zs, h1, h2, s⟩
    -- return {..}
    refine fun p hp => ?_
    have npD : p ≠ D := fun e => by rw [e] at hp; rw [h1] at hp; cases hp
    refine ⟨_, rfl, _, rfl, a, _, rfl, .inl (Same.seq (fun b o e => by rw [upd_ne (ne_of_none e hp)]; exact e) (Same.seq s hL)), fun l hl => ?_⟩
    have nlp : p ≠ l := fun e => by rw [← e, upd_same] at hl; cases hl
    have hl2 : H2 l = none := by rw [upd_ne nlp.symm] at hl; exact hl
    have nlD : D ≠ l := ne_of_none h1 hl2
    refine ⟨by rw [upd_ne nlp, upd_same], [((.inr "great" : Key), V.ref D), (.inr "cells", .ref l), (.inr "rest", .int 0), (.inr "turn", .int 0)], rfl, by show 4 ≤ 15; decide, ?_⟩
    rw [merge_st]
    refine k p D l _ ⟨0, 0, zs, ns, upd_same, ?_, ?_, nlD, by decide, by decide⟩ (fun x o e => ?_) ?_ hD ?_
    · rw [upd_ne npD.symm, upd_ne nlD, upd_ne npD.symm]; exact h1
    · rw [upd_ne nlp.symm, upd_same]
    · have e2 := s x o e
      rw [upd_ne (ne_of_none e2 hp), upd_ne (ne_of_none e2 hl2), upd_ne (ne_of_none e2 hp)]
      exact e2
    · exact Same.free s hp
    · exact Same.free s hl2
end SR
set_option Elab.async false
set_option linter.all false
set_option maxRecDepth 100000
set_option maxHeartbeats 4000000
namespace SR
open PySem PySem.Spec PyProof.Rows L2
abbrev Gs (A : Around) : Prop := A.guards = some []
/-- as FnOk, but promised only under Gs -/
structure FnG (P : Program) (w : World) (K : PySem.W.Frag) (mg : Str → Option Value) (base : Heap) (CX : CXT) (k : Nat) (f : Addr) (fd : FuncData) (ps : List Str) (sp : Sp) : Prop where
  size : ∀ vs H Q E, sp vs H Q E → vs.length = ps.length
  goes : ∀ (A : Around) (out : List Env) (s : Shared) (H : Hp) (gv : Args) (us : List Value) (vs : List V) (Q : VK) (E : XK), Gs A → Room k A → Env0 P w K mg base A out s H → BindsTo s fd gv (ps.zip us) → Vals vs us → sp vs H Q E →
    codeAny (model P w) A (.call (.ref f) gv) (CR CX out P w H s Q E) s
section
variable {X : Cx} {CX : CXT} {k : Nat} {f : Addr} {fd : FuncData} {ps : List Str} {sp : Sp} {dvs : List V} {ds : List Value} {E : XK} {x : Str} {p pos : Pos} {e : Expr} {es : List Expr} {t : TA}
theorem FnG.at (F : FnG X.prog X.w X.K X.mg X.base CX k f fd ps sp) (hgs : Gs X.A) {pins : List (Addr × Obj)} {σ : L2.St} {H : Hp} {s : Shared} {Q : VK} {us : List Value} {vs : List V} (hr : Room k X.A) (hb : Binds X.K fd ps ds) (hd : Vals dvs ds) (hx : Passes CX X E)
    (I : Inv X pins σ H s) (r : Vals vs us) (h : sp (vs ++ dvs) H Q E) : wpAny (model X.prog X.w) X.A (call (.ref f) us) (EP X pins σ Q) X.xe s := by
  have both : Vals (vs ++ dvs) (us ++ ds) := r.append hd
  have lens : (us ++ ds).length = ps.length := both.length.symm.trans (F.size _ _ _ _ h)
  refine wpAny_call (codeAny_mono (F.goes _ _ s H _ _ _ Q E hgs hr I.env0 (hb s us I.kIn lens) both h) fun out s2 hq => ?_)
  match out, hq with
  | .error e, hq => exact hx _ _ _ _ e s2 I hq
  | .ok (.ret u), hq => exact I.after hq
end
section
variable {P : Program} {w : World} {K : PySem.W.Frag} {mg : Str → Option Value} {base : Heap} {x qual : Str} {params : Arguments} {body : List Stmt} {scope : Scope} {dvs : List V} {kws : List (Str × V)} {f : Addr} {fd : FuncData}
/-- a def's body under Gs: by FnOk of the very def, whose context is given -/
theorem okG {CX : CXT} {N ps : List Str} {k : Nat} {sp : Sp} (F : FunD K x qual params body scope dvs kws f fd) (S : FnScope N ps scope) (len : ∀ vs H Q E, sp vs H Q E → vs.length = ps.length)
    (hbody : ∀ (cdv : Value) (A : Around) (outer : List Env) (s : Shared) (H : Hp) (vs : List V) (Q : VK) (E : XK), Gs A → Room k (A.deeper (envOfC qual scope s.heap.objs.size f cdv)) → sp vs H Q E →
      ∃ t, PSs (cxOf CX P w K mg base N qual scope f cdv A outer s H E) body t ∧ t { nx := fun _ H' => Q .non H', rt := Q } (start N vs) H) : FnG P w K mg base CX (k + 1) f fd ps sp := by
  refine ⟨len, fun A out s H gv us vs Q E hgs hr e0 hb hv hs => ?_⟩
  obtain ⟨oc, od, dV, kV, doc, pm, an, cdv, ct, osl, rfl, lk, hcd, _, _⟩ := F.ex
  have hl := len _ _ _ _ hs
  have old : ∀ b o, base.get? b = some o → s.heap.get? b = some o := fun b o z => (e0.bs b o z).1
  have KX : K.In s.heap := e0.mod.kin.keeps old
  refine codeAny_call_function hr.depth (KX _ _ lk) rfl S.co S.gen rfl (PySem.W.codeRec_of KX hcd) (hb _ _ _ _ ?_)
  have params_known : ∀ y ∈ ps.zip us, scope.names.lookup y.1 = some .local ∨ (scope.names.lookup y.1 = some .cell ∧ ((cellsFrom (s.heap.objs.size + 1) scope.names []).lookup y.1).isSome = true) := by
    rintro ⟨n, v⟩ hy
    exact (S.par n (List.of_mem_zip hy).1).imp id fun q => ⟨q, PySem.W.cellsFrom_some _ _ _ (.inl q)⟩
  refine wpAny_newFunctionEnv_cells S.kind params_known fun env he s1 z => ?_
  subst he
  refine ⟨(e0.mod.nolimit.keeps old).keeps z.toInCall.keep, codeAny_func ?_⟩
  obtain ⟨t, ht, hq⟩ := hbody cdv A out s H vs Q E hgs (hr.deeper _) hs
  refine wpAny_mono (ht.run [] s1 (start N vs) H _ (inv_start S hr.hd e0 hl hv z) hq) (fun fl s' hf => ?_) fun _ _ hf => hf
  match fl, hf with
  | .ret u, ⟨v, _, H', J, rv, q⟩ => exact ⟨v, H', J.os, J.bare, J.base, J.hok, rv, q⟩
  | .next, ⟨_, H', J, q⟩ => exact ⟨.non, H', J.os, J.bare, J.base, J.hok, rfl, q⟩
  | .brk, ⟨_, _, _, q⟩ => exact q.elim
  | .cont, ⟨_, _, _, q⟩ => exact q.elim
end
theorem law_callG {P : Program} {w : World} {K : PySem.W.Frag} {mg mb : Str → Option Value} {CX : CXT} {k : Nat} {fa a : Addr} {fd : FuncData} {x : Str} {sp : Sp} {s : Shared} {vs : List Value} {ns : List Int}
    (KX : K.In s.heap) (hns : s.heap.Ns mainGlobals mg) (hb : s.heap.Ns builtinsNs mb) (hbb : ∀ x : Str, x ≠ "__name__" → mb x = bootBuiltins x) (hlim : s.heap.NoLimit) (hg : s.gens = #[])
    (ha : s.heap.get? a = some { cls := .type "list", data := .seq vs.toArray }) (hi : IntsAre vs ns) (hl : ns.length ≤ sizeLine) (hr : Room k callerA)
    (F : ∀ base : Heap, K.In base → base.Ns mainGlobals mg → FnG P w K mg base CX k fa fd [x] sp) (hbind : ∀ (s : Shared) (u : Value), BindsTo s fd ⟨[u], []⟩ [(x, u)])
    (hsp : ∀ H : Hp, Only H → SqL K H a (ns.map V.int) → sp [.ref a] H (fun v _ => v = .bl true) fun _ _ _ => False)
    (hCX : ∀ H e s', CX [] H s (fun _ _ _ => False) e s' → False) :
    codeAny (model P w) callerA (.call (.ref fa) ⟨[.ref a], []⟩) (fun r s' => r = .ok (.ret (.bool true)) ∧ OldK s.heap s'.heap ∧ s'.os = s.os ∧ AllBare s'.gens) s := by
  have rv := vals_ints hi
  -- H tracks the script at most; what it does not track is the base
  have run_at : ∀ H : Hp, Only H → SqL K H a (ns.map V.int) → HOk P w H s.heap → (∀ b, H b ≠ none → b = a ∧ K.lookup a = none) →
      codeAny (model P w) callerA (.call (.ref fa) ⟨[.ref a], []⟩) (fun r s' => r = .ok (.ret (.bool true)) ∧ OldK s.heap s'.heap ∧ s'.os = s.os ∧ AllBare s'.gens) s := by
    intro H hO hS hok hA
    have untr : ∀ {b : Addr} {o : Obj}, s.heap.get? b = some o → (b = a → False) → (hidT s.heap H).get? b = some o := fun {b o} z n => hidT_get z (by
      by_cases q : H b = none
      · exact q
      · exact (n (hA b q).1).elim)
    have ns_ : ∀ {b : Addr} {m : Str → Option Value}, s.heap.Ns b m → (hidT s.heap H).Ns b m := by
      rintro b m ⟨o, es, ep, z, dz, rest⟩
      refine ⟨o, es, ep, untr z (fun q => ?_), dz, rest⟩
      rw [q, ha] at z
      cases z
      cases dz
    have KB : K.In (hidT s.heap H) := fun b o z => by
      by_cases q : H b = none
      · exact hidT_get (KX b o z) q
      · obtain ⟨q1, q2⟩ := hA b q
        rw [q1, q2] at z
        cases z
    obtain ⟨mc, l1, l2⟩ := hlim
    have e0 : Env0 P w K mg (hidT s.heap H) callerA [] s H :=
      ⟨rfl, ⟨KB, ns_ hns, ⟨mb, ns_ hb, hbb⟩, ⟨mc, ns_ l1, l2⟩⟩, fun b o z => of_hidT z, Nat.le_of_eq (hidT_size _ _), trivial, fun b z => (List.not_mem_nil z).elim, hok, .of_eq hg⟩
    refine codeAny_mono ((F _ KB (ns_ hns)).goes callerA [] s H ⟨[.ref a], []⟩ [.ref a] [.ref a] _ _ rfl hr e0 (hbind s (.ref a)) (.cons rfl .nil) (hsp H hO hS)) fun r s' h => ?_
    match r, h with
    | .error e, h => exact (hCX H e s' h).elim
    | .ok (.ret u), ⟨v, H', os, bare, un, hok', rel, isT⟩ =>
      cases (show v = V.bl true from isT)
      cases (show u = Value.bool true from rel)
      refine ⟨rfl, OldK.of_keep fun b o z => ?_, os, bare⟩
      rcases hO b with q | ⟨ob, xs, q⟩
      · exact un.keep b o z q (List.not_mem_nil) (List.not_mem_nil)
      · have z1 := (hok b _ q).1
        have z2 := (hok' b _ (un.frzs b ob _ q)).1
        exact z2.trans (z1.symm.trans z)
  have lenV := hi.length
  by_cases hk : K.lookup a = none
  · refine run_at (fun b => if b = a then some (.frz { cls := .type "list", data := .seq vs.toArray } (.lst (ns.map V.int))) else none) (fun b => ?_) (.inl (.inr ⟨_, if_pos rfl⟩)) (fun b u z => ?_) (fun b z => ?_)
    · by_cases q : b = a
      · exact .inr ⟨_, _, if_pos q⟩
      · exact .inl (if_neg q)
    · by_cases q : b = a
      · subst q
        cases (if_pos rfl).symm.trans z
        exact ⟨ha, by rw [List.length_map]; exact hl, vs, _, rv, ha⟩
      · cases (if_neg q).symm.trans z
    · by_cases q : b = a
      · exact ⟨q, hk⟩
      · exact (z (if_neg q)).elim
  · obtain ⟨o, ho⟩ := Option.ne_none_iff_exists'.mp hk
    cases ha.symm.trans (KX a o ho)
    exact run_at (fun _ => none) (fun _ => .inl rfl) (.inr ⟨_, vs.toArray, _, ho, rfl, rfl, rfl, by rw [List.size_toArray, lenV]; exact hl, by simpa using rv⟩) (fun b u z => nomatch (show (none : Option HO) = some u from z)) fun b z => absurd rfl z
theorem walk_ofG {l : PySem.W.OpenLaw} {n k : Nat} {q : Program} {loose : List Str} {XP : (Str → Option Value) → Heap → Prop} {YP : World → Heap → Prop} {d : DefRec} {CX : CXT} {x : Str}
    (hn : l.most = some n) (hn2 : n ≤ sizeLine) (hdf : d.params.defaults = []) (hr : Room k callerA)
    (F : ∀ (w : World) (mg : Str → Option Value) (fa : Addr) (h : Heap), YP w h → h.Ns mainGlobals mg → mg d.name = some (.ref fa) →
      ∃ (K : PySem.W.Frag) (fd : FuncData) (sp : Sp), K.In h ∧ (∀ (s : Shared) (u : Value), BindsTo s fd ⟨[u], []⟩ [(x, u)]) ∧
        (∀ (H : Hp) (a : Addr) (ns : List Int), ns.length ≤ n → Only H → SqL K H a (ns.map V.int) → sp [.ref a] H (fun v _ => v = .bl true) fun _ _ _ => False) ∧
        ∀ base : Heap, K.In base → base.Ns mainGlobals mg → FnG l.prog w K mg base CX k fa fd [x] sp)
    (hCX : ∀ (H : Hp) (s : Shared) (e : Value) (s' : Shared), CX [] H s (fun _ _ _ => False) e s' → False) :
    PySem.W.WalkO q loose XP YP l.row.toRowW d [] (fun f vs => PySem.call f vs) :=
  Att.attach_call hn hdf fun w s₀ s₁ mg mb fa o pm cd doc a vs ns G Y ho hd hcd hmg hobj hints hlen hg => by
    obtain ⟨K, fd, sp, KX, hb, hsp, hF⟩ := F w mg fa _ Y G.T.g hmg
    exact law_callG KX G.T.g G.T.b G.T.builtins G.T.nolimit hg hobj hints (Nat.le_trans hlen hn2) hr hF hb (fun H hO hS => hsp H a ns hlen hO hS) fun H e s' => hCX H s₁ e s'
end SR
set_option Elab.async false
set_option linter.all false
set_option maxRecDepth 100000
set_option maxHeartbeats 4000000
namespace SR
open PySem PySem.Spec PyProof.Rows L2
section
variable {X : Cx}
def rSumT (K : PySem.W.Frag) : List V → Hp → VK → Prop := fun vs H Q => ∃ (a : Addr) (ns : List Int), vs = [V.ref a] ∧ SqT K H a (ns.map V.int) ∧ Q (.int ns.sum) H
theorem cr_sumT (hc : X.calm = true) : CallR X (.builtin "sum") (rSumT X.K) := by
  intro pins s σ H vs us Q I r h
  obtain ⟨a, ns, rfl, hs, q⟩ := h
  obtain ⟨its, rv, ht, _⟩ := I.tuple hs
  rw [Vals.ref1 r]
  have hi := rv.ints
  obtain ⟨xs, e⟩ := hi.allInts.items
  have hn : numsOf (intItems xs).toList = ns := by rw [← e]; exact hi.numsOf
  rw [nums_intItems] at hn
  rw [e] at ht
  have ht' : s.heap.IsTuple a (intItems xs) := ht
  have hlt : a < s.heap.objs.size := by obtain ⟨_, z, _⟩ := ht; exact Heap.lt_size z
  refine PySem.call_sum_walkG (wpAny_pyIter_tuple ht' ?_)
  refine ⟨_, _, _, _, _, _, numAt xs, rfl, Walks.tuple (A := X.A.in1) (I.ok.hd hc) _ a (Nat.ne_of_lt hlt) (intItems xs), ⟨⟨_, Heap.get?_push_size _ rfl, rfl, rfl⟩, ht'.push _⟩, fun b hb => ?_, fun _ _ => intItems_at, fun h' tk t' hk => ?_⟩
  · show b < (s.heap.push _).objs.size
    rw [Heap.size_push]
    rcases List.mem_cons.mp hb with rfl | hb
    · exact Nat.lt_succ_self _
    · cases List.mem_singleton.mp hb
      exact Nat.lt_succ_of_lt hlt
  · refine ⟨.int ns.sum, H, I.kept fun b o z => ?_, ⟨t', ?_⟩, q⟩
    · exact hk b o (fun hm => absurd (Heap.lt_size z) ((List.mem_singleton.mp hm) ▸ Nat.lt_irrefl _)) (Heap.get?_push_of_some _ z)
    · have e2 : (intItems xs).size = xs.size := by simp [intItems]
      rw [e2, preSum_eq, List.take_of_length_le (by simp), hn]
end
end SR
set_option Elab.async false
set_option linter.all false
set_option maxRecDepth 100000
set_option maxHeartbeats 4000000
namespace SR
open PySem L2
/-- a value of any kind, with its class -/
inductive AnyT (K : PySem.W.Frag) (H : Hp) : V → String → Prop where
  | non : AnyT K H .non "NoneType"
  | bl (b : Bool) : AnyT K H (.bl b) "bool"
  | int (i : Int) : AnyT K H (.int i) "int"
  | str (x : Str) : AnyT K H (.str x) "str"
  | lst {a : Addr} {xs : List V} (h : SqL K H a xs) : AnyT K H (.ref a) "list"
  | tup {a : Addr} {xs : List V} (h : SqT K H a xs) : AnyT K H (.ref a) "tuple"
  | dct {a : Addr} {kvs : List (Key × V)} (h : Rd H a (.dK kvs)) : AnyT K H (.ref a) "dict"
theorem AnyT.ty {K : PySem.W.Frag} {H : Hp} {v : V} {t : String} (h : AnyT K H v t) : TyX K H v (.type t) := by
  cases h with
  | non => exact .base .non
  | bl b => exact .base (.bl b)
  | int i => exact .base (.int i)
  | str x => exact .base (.str x)
  | lst h =>
    rcases h with (h | ⟨o, h⟩) | ⟨o, its, n, hk, hc, _⟩
    · exact .base (.lst h)
    · exact .base (.frz h)
    · exact .kList hk hc
  | tup h =>
    rcases h with (h | ⟨o, h⟩) | ⟨o, its, n, hk, hc, _⟩
    · exact .base (.tup h)
    · exact .fTuple h
    · exact .kTuple hk hc
  | dct h =>
    rcases h with h | ⟨o, h⟩
    · exact .base (.dK h)
    · exact .fDict h
theorem AnyT.same {K : PySem.W.Frag} {H H' : Hp} {v : V} {t : String} (e : Same H H') (h : AnyT K H v t) : AnyT K H' v t := by
  cases h with
  | non => exact .non
  | bl b => exact .bl b
  | int i => exact .int i
  | str x => exact .str x
  | lst h => exact .lst (SqL.same e h)
  | tup h => exact .tup (SqT.same e h)
  | dct h =>
    rcases h with h | ⟨o, h⟩
    · exact .dct (.inl (e _ _ h))
    · exact .dct (.inr ⟨o, e _ _ h⟩)
def isI : V → Bool
  | .int _ => true
  | _ => false
/-- which class a value's class is, asked of a built-in one -/
theorem AnyT.kit {K : PySem.W.Frag} {H : Hp} {v : V} {t : String} (h : AnyT K H v t) :
    PySem.W.kitOne K (.type t) (.type "int") = some (isI v || t == "bool") ∧ PySem.W.kitOne K (.type t) (.type "bool") = some (t == "bool") ∧
    PySem.W.kitOne K (.type t) (.type "tuple") = some (t == "tuple") ∧ PySem.W.kitOne K (.type t) (.type "list") = some (t == "list") ∧ PySem.W.kitOne K (.type t) (.type "str") = some (t == "str") ∧ PySem.W.kitOne K (.type t) (.type "dict") = some (t == "dict") := by
  cases h with
  | non => exact ⟨kit_ty (show kitB "NoneType" "int" = some false by decide +kernel), kit_ty (by decide +kernel), kit_ty (by decide +kernel), kit_ty (by decide +kernel), kit_ty (by decide +kernel), kit_ty (by decide +kernel)⟩
  | bl b => exact ⟨kit_ty (show kitB "bool" "int" = some true by decide +kernel), kit_ty (by decide +kernel), kit_ty (by decide +kernel), kit_ty (by decide +kernel), kit_ty (by decide +kernel), kit_ty (by decide +kernel)⟩
  | int i => exact ⟨kit_ty (show kitB "int" "int" = some true by decide +kernel), kit_ty (by decide +kernel), kit_ty (by decide +kernel), kit_ty (by decide +kernel), kit_ty (by decide +kernel), kit_ty (by decide +kernel)⟩
  | str x => exact ⟨kit_ty (show kitB "str" "int" = some false by decide +kernel), kit_ty (by decide +kernel), kit_ty (by decide +kernel), kit_ty (by decide +kernel), kit_ty (by decide +kernel), kit_ty (by decide +kernel)⟩
  | lst h => exact ⟨kit_ty (show kitB "list" "int" = some false by decide +kernel), kit_ty (by decide +kernel), kit_ty (by decide +kernel), kit_ty (by decide +kernel), kit_ty (by decide +kernel), kit_ty (by decide +kernel)⟩
  | tup h => exact ⟨kit_ty (show kitB "tuple" "int" = some false by decide +kernel), kit_ty (by decide +kernel), kit_ty (by decide +kernel), kit_ty (by decide +kernel), kit_ty (by decide +kernel), kit_ty (by decide +kernel)⟩
  | dct h => exact ⟨kit_ty (show kitB "dict" "int" = some false by decide +kernel), kit_ty (by decide +kernel), kit_ty (by decide +kernel), kit_ty (by decide +kernel), kit_ty (by decide +kernel), kit_ty (by decide +kernel)⟩
theorem AnyT.notB {K : PySem.W.Frag} {H : Hp} {v : V} {t : String} (h : AnyT K H v t) (hi : isI v = true) : (t == "bool") = false := by
  cases h <;> first | rfl | (cases hi)
def spIsInt (K : PySem.W.Frag) : Sp := fun vs H Q _ => ∃ v t, vs = [v] ∧ AnyT K H v t ∧ Q (.bl (isI v)) H
def t_is_integer (K : PySem.W.Frag) : TS := tRet (tAndV (tCB (rIsi K) (tCons (tVar 0) (tCons (tC (.ty "int")) tNil))) (tNotV (tCB (rIsi K) (tCons (tVar 0) (tCons (tC (.ty "bool")) tNil)))))
theorem pure_is_integer {K : PySem.W.Frag} (vs : List V) (H : Hp) (Q : VK) (E : XK) (h : spIsInt K vs H Q E) : t_is_integer K { nx := fun _ H' => Q .non H', rt := Q } (start ["value"] vs) H := by
  obtain ⟨v, t, rfl, hv, q⟩ := h
  obtain ⟨k1, k2, _⟩ := hv.kit
  refine ⟨_, rfl, _, _, _, _, _, rfl, .ty _, hv.ty, k1, _, rfl, ?_⟩
  cases hi : isI v with
  | true =>
    refine iteT ⟨_, rfl, _, _, _, _, _, rfl, .ty _, hv.ty, k2, _, rfl, ?_⟩
    rw [hv.notB hi]
    rw [hi] at q
    exact q
  | false =>
    rw [hi] at q
    cases hb : t == "bool" with
    | true =>
      refine iteT ⟨_, rfl, _, _, _, _, _, rfl, .ty _, hv.ty, k2, _, rfl, ?_⟩
      rw [hb]
      exact q
    | false => exact iteF q
/-- an integer from lo to hi -/
def btw (lo hi : Int) : V → Bool
  | .int i => decide (lo ≤ i) && decide (i ≤ hi)
  | _ => false
def spBetween (K : PySem.W.Frag) : Sp := fun vs H Q _ => ∃ v t lo hi, vs = [v, lo, hi] ∧ AnyT K H v t ∧ (isI v = true → ∃ i j, lo = .int i ∧ hi = .int j ∧ Q (.bl (btw i j v)) H) ∧ (isI v = false → Q (.bl false) H)
def t_is_between (K : PySem.W.Frag) : TS := tRet (tAndV (tCall (spIsInt K) [] E0 (tCons (tVar 0) (tNil))) (tChain qLe qLe (tVar 1) (tVar 0) (tVar 2)))
theorem pure_is_between {K : PySem.W.Frag} (vs : List V) (H : Hp) (Q : VK) (E : XK) (h : spBetween K vs H Q E) : t_is_between K { nx := fun _ H' => Q .non H', rt := Q } (start ["value", "low", "high"] vs) H := by
  obtain ⟨v, t, lo, hi, rfl, hv, q, q'⟩ := h
  refine ⟨_, rfl, v, t, rfl, hv, _, rfl, ?_⟩
  cases e : isI v with
  | false => exact iteF (q' e)
  | true =>
    obtain ⟨i, j, rfl, rfl, q2⟩ := q e
    cases v with
    | int z =>
      refine iteT ⟨_, rfl, _, rfl, i, z, rfl, rfl, _, rfl, ?_⟩
      have q2 : Q (.bl (decide (i ≤ z) && decide (z ≤ j))) H := q2
      by_cases h1 : i ≤ z
      · rw [decide_eq_true h1] at q2 ⊢
        exact iteT ⟨_, rfl, z, j, rfl, rfl, q2⟩
      · rw [decide_eq_false h1] at q2 ⊢
        exact iteF q2
    | _ => cases e
def spCapacity (K : PySem.W.Frag) : Sp := fun vs H Q _ => ∃ v t, vs = [v] ∧ AnyT K H v t ∧ Q (.bl (btw 1 99 v)) H
def t_is_capacity (K : PySem.W.Frag) : TS := tRet (tCall (spBetween K) [] E0 (tCons (tVar 0) (tCons (tC (.int 1)) (tCons (tC (.int 99)) (tNil)))))
theorem btw_not {v : V} (h : isI v = false) (i j : Int) : btw i j v = false := by
  cases v <;> first | rfl | (cases h)
theorem pure_is_capacity {K : PySem.W.Frag} (vs : List V) (H : Hp) (Q : VK) (E : XK) (h : spCapacity K vs H Q E) : t_is_capacity K { nx := fun _ H' => Q .non H', rt := Q } (start ["value"] vs) H := by
  obtain ⟨v, t, rfl, hv, q⟩ := h
  exact ⟨_, rfl, v, t, _, _, rfl, hv, fun _ => ⟨1, 99, rfl, rfl, q⟩, fun e => by rw [btw_not e] at q; exact q⟩
end SR
set_option Elab.async false
set_option linter.all false
set_option maxRecDepth 100000
set_option maxHeartbeats 4000000
namespace SR
open PySem L2
/-- the way out of a def that raises: an error of the class, without a dict of its own -/
def tOut (C : Value) (E : XK) : TS := fun _ _ H => E C none H
/-- what a carrier of capacity c with load u leaves of a box of capacity d with x items: the count, the load -/
def stC (c u d x : Int) : Int := x - min (c - u) x + min u (d - x)
def stL (c u d x : Int) : Int := u + min (c - u) x - min u (d - x)
def okN (c u d x : Int) : Prop := (1 ≤ c ∧ c ≤ 99) ∧ (0 ≤ u ∧ u ≤ c) ∧ (1 ≤ d ∧ d ≤ 99) ∧ (0 ≤ x ∧ x ≤ d)
instance (c u d x : Int) : Decidable (okN c u d x) := by unfold okN; exact inferInstance
/-- an integer from 0 to what w is -/
def upto (w v : V) : Bool := match w with
  | .int c => btw 0 c v
  | _ => false
def okV (v1 v2 v3 v4 : V) : Bool := (btw 1 99 v1 && upto v1 v2) && (btw 1 99 v3 && upto v3 v4)
theorem min_if (i j : Int) : (if j < i then j else i) = min i j := by
  rw [Int.min_def]
  by_cases h : j < i
  · rw [if_pos h, if_neg (by omega)]
  · rw [if_neg h, if_pos (by omega)]
theorem btw_iff {lo hi : Int} {v : V} : btw lo hi v = true ↔ ∃ i, v = .int i ∧ lo ≤ i ∧ i ≤ hi := by
  cases v with
  | int i =>
    show (decide (lo ≤ i) && decide (i ≤ hi)) = true ↔ _
    rw [Bool.and_eq_true, decide_eq_true_iff, decide_eq_true_iff]
    exact ⟨fun h => ⟨i, rfl, h⟩, fun ⟨j, e, h⟩ => by cases e; exact h⟩
  | _ => exact Iff.intro (fun h => nomatch h) (fun ⟨j, e, _⟩ => nomatch e)
def spPassed (K : PySem.W.Frag) (C : Addr) : Sp := fun vs H Q E => ∃ v1 v2 v3 v4 t1 t2 t3 t4, vs = [v1, v2, v3, v4] ∧ AnyT K H v1 t1 ∧ AnyT K H v2 t2 ∧ AnyT K H v3 t3 ∧ AnyT K H v4 t4 ∧
  (okV v1 v2 v3 v4 = false → E (.ref C) none H) ∧
  ∀ c u d x, v1 = .int c → v2 = .int u → v3 = .int d → v4 = .int x → okN c u d x → ∀ p H', H p = none → Same H H' → H' p = some (.tup [.int (stC c u d x), .int (stL c u d x)]) → Q (.ref p) H'
/-- what a carrier takes and gives -/
def spHandled : Sp := fun vs H Q _ => ∃ c u d x, vs = [.int c, .int u, .int d, .int x] ∧ ∀ p, H p = none → Q (.ref p) (upd H p (.tup [.int (min (c - u) x), .int (min u (d - x))]))
def t_handled : TS := tRet (tTup (tCons (tCB qMin2 (tCons (tOp qSub (tVar 0) (tVar 1)) (tCons (tVar 3) (tNil)))) (tCons (tCB qMin2 (tCons (tVar 1) (tCons (tOp qSub (tVar 2) (tVar 3)) (tNil)))) (tNil))))
theorem pure_handled (vs : List V) (H : Hp) (Q : VK) (E : XK) (h : spHandled vs H Q E) : t_handled { nx := fun _ H' => Q .non H', rt := Q } (start ["capacity", "load", "box_capacity", "count"] vs) H := by
  obtain ⟨c, u, d, x, rfl, kQ⟩ := h
  refine ⟨_, rfl, _, rfl, c, u, rfl, rfl, _, rfl, _, _, rfl, _, rfl, _, rfl, _, rfl, d, x, rfl, rfl, _, _, rfl, (by show 2 ≤ sizeLine; exact Nat.le_of_lt (small1000 (by decide))), fun p hp => ?_⟩
  have q := kQ p hp
  rw [min_if, min_if]
  exact q
def t_passed (K : PySem.W.Frag) (c_BadNumber : Addr) (E : XK) : TS := tSeq (tIfS (tOr (tNot (tB (tCall (spCapacity K) [] E0 (tCons (tVar 0) (tNil))))) (tNot (tB (tCall (spBetween K) [] E0 (tCons (tVar 1) (tCons (tC (.int 0)) (tCons (tVar 0) (tNil))))))))
  (tOut (.ref c_BadNumber) E)
  (tNext))
  (tSeq (tIfS (tOr (tNot (tB (tCall (spCapacity K) [] E0 (tCons (tVar 2) (tNil))))) (tNot (tB (tCall (spBetween K) [] E0 (tCons (tVar 3) (tCons (tC (.int 0)) (tCons (tVar 2) (tNil))))))))
  (tOut (.ref c_BadNumber) E)
  (tNext))
  (tSeq (tAsg (tCall spHandled [] E0 (tCons (tVar 0) (tCons (tVar 1) (tCons (tVar 2) (tCons (tVar 3) (tNil)))))) (gTup K 2 (gCons (gName 4) (gCons (gName 5) (gNil)))))
  (tRet (tTup (tCons (tOp qAdd (tOp qSub (tVar 3) (tVar 4)) (tVar 5)) (tCons (tOp qSub (tOp qAdd (tVar 1) (tVar 4)) (tVar 5)) (tNil)))))))
theorem okV_no1 {v1 v2 v3 v4 : V} (h : btw 1 99 v1 = false) : okV v1 v2 v3 v4 = false := by
  unfold okV
  rw [h] <;> rfl
theorem okV_no2 {c : Int} {v2 v3 v4 : V} (h : btw 0 c v2 = false) : okV (.int c) v2 v3 v4 = false := by
  show ((btw 1 99 (.int c) && btw 0 c v2) && _) = false
  rw [h, Bool.and_false, Bool.false_and]
theorem okV_no3 {v1 v2 v3 v4 : V} (h : btw 1 99 v3 = false) : okV v1 v2 v3 v4 = false := by
  unfold okV
  rw [h, Bool.false_and, Bool.and_false]
theorem okV_no4 {d : Int} {v1 v2 v4 : V} (h : btw 0 d v4 = false) : okV v1 v2 (.int d) v4 = false := by
  show (_ && (btw 1 99 (.int d) && btw 0 d v4)) = false
  rw [h, Bool.and_false, Bool.and_false]
theorem okV_yes {v1 v2 v3 v4 : V} : okV v1 v2 v3 v4 = true ↔ ∃ c u d x, v1 = .int c ∧ v2 = .int u ∧ v3 = .int d ∧ v4 = .int x ∧ okN c u d x := by
  constructor
  · intro h
    unfold okV at h
    rw [Bool.and_eq_true, Bool.and_eq_true, Bool.and_eq_true] at h
    obtain ⟨⟨h1, h2⟩, h3, h4⟩ := h
    obtain ⟨c, rfl, c1⟩ := btw_iff.mp h1
    obtain ⟨d, rfl, d1⟩ := btw_iff.mp h3
    obtain ⟨u, rfl, u1⟩ := btw_iff.mp (show btw 0 c v2 = true from h2)
    obtain ⟨x, rfl, x1⟩ := btw_iff.mp (show btw 0 d v4 = true from h4)
    exact ⟨c, u, d, x, rfl, rfl, rfl, rfl, c1, u1, d1, x1⟩
  · rintro ⟨c, u, d, x, rfl, rfl, rfl, rfl, c1, u1, d1, x1⟩
    show ((btw 1 99 (.int c) && btw 0 c (.int u)) && (btw 1 99 (.int d) && btw 0 d (.int x))) = true
    rw [btw_iff.mpr ⟨c, rfl, c1⟩, btw_iff.mpr ⟨u, rfl, u1⟩, btw_iff.mpr ⟨d, rfl, d1⟩, btw_iff.mpr ⟨x, rfl, x1⟩] <;> rfl
theorem pure_passed {K : PySem.W.Frag} {C : Addr} (vs : List V) (H : Hp) (Q : VK) (E : XK) (h : spPassed K C vs H Q E) : t_passed K C E { nx := fun _ H' => Q .non H', rt := Q } (start ["capacity", "load", "box_capacity", "count", "up", "down"] vs) H := by
  obtain ⟨v1, v2, v3, v4, t1, t2, t3, t4, rfl, h1, h2, h3, h4, kE, kQ⟩ := h
  refine ⟨_, rfl, v1, t1, rfl, h1, _, rfl, ?_⟩
  cases b1 : btw 1 99 v1 with
  | false => exact iteT (iteT (kE (okV_no1 b1)))
  | true =>
  obtain ⟨c, rfl, c1, c2⟩ := btw_iff.mp b1
  have k2 : ∀ (b : Bool), btw 0 c v2 = b → _ := fun b e => e
  refine iteF ⟨_, rfl, _, rfl, v2, t2, _, _, rfl, h2, fun _ => ⟨0, c, rfl, rfl, _, rfl, ?_⟩, fun e => ⟨_, rfl, iteT (kE (okV_no2 (btw_not e 0 c)))⟩⟩
  cases b2 : btw 0 c v2 with
  | false => exact iteT (kE (okV_no2 b2))
  | true =>
  obtain ⟨u, rfl, u1, u2⟩ := btw_iff.mp b2
  refine iteF ⟨_, rfl, v3, t3, rfl, h3, _, rfl, ?_⟩
  cases b3 : btw 1 99 v3 with
  | false => exact iteT (iteT (kE (okV_no3 b3)))
  | true =>
  obtain ⟨d, rfl, d1, d2⟩ := btw_iff.mp b3
  refine iteF ⟨_, rfl, _, rfl, v4, t4, _, _, rfl, h4, fun _ => ⟨0, d, rfl, rfl, _, rfl, ?_⟩, fun e => ⟨_, rfl, iteT (kE (okV_no4 (btw_not e 0 d)))⟩⟩
  cases b4 : btw 0 d v4 with
  | false => exact iteT (kE (okV_no4 b4))
  | true =>
  obtain ⟨x, rfl, x1, x2⟩ := btw_iff.mp b4
  refine iteF ⟨_, rfl, _, rfl, _, rfl, _, rfl, c, u, d, x, rfl, fun p0 hp0 => ?_⟩
  have s0 := (fun b o z => (upd_ne (ne_of_none z hp0)).trans z : Same H (upd H p0 (.tup [.int (min (c - u) x), .int (min u (d - x))])))
  have T0 : upd H p0 (.tup [.int (min (c - u) x), .int (min u (d - x))]) p0 = some (.tup [.int (min (c - u) x), .int (min u (d - x))]) := upd_same
  generalize upd H p0 (.tup [.int (min (c - u) x), .int (min u (d - x))]) = H0 at s0 T0 ⊢
  refine ⟨p0, _, rfl, SqT.of T0, rfl, _, _, rfl, _, _, rfl, rfl, ?_⟩
  refine ⟨_, rfl, _, rfl, _, _, rfl, rfl, _, rfl, _, _, rfl, rfl, _, rfl, _, rfl, _, _, rfl, rfl, _, rfl, _, _, rfl, rfl, (by show 2 ≤ sizeLine; exact Nat.le_of_lt (small1000 (by decide))), fun p hp => ?_⟩
  exact kQ c u d x rfl rfl rfl rfl ⟨⟨c1, c2⟩, ⟨u1, u2⟩, ⟨d1, d2⟩, ⟨x1, x2⟩⟩ p _ (Same.free s0 hp) (fun b o z => (upd_ne (ne_of_none (s0 b o z) hp)).trans (s0 b o z)) upd_same
end SR
set_option Elab.async false
set_option linter.all false
set_option maxRecDepth 100000
set_option maxHeartbeats 4000000
namespace SR
open PySem L2
theorem StB.d {H : Hp} {d g c : Addr} {b : Nat} (S : StB H d g c b) : ∃ o, H d = some o := let ⟨_, _, _, _, h, _⟩ := S; ⟨_, h⟩
theorem StB.g {H : Hp} {d g c : Addr} {b : Nat} (S : StB H d g c b) : ∃ o, H g = some o := let ⟨_, _, _, _, _, h, _⟩ := S; ⟨_, h⟩
theorem StB.c {H : Hp} {d g c : Addr} {b : Nat} (S : StB H d g c b) : ∃ o, H c = some o := let ⟨_, _, _, _, _, _, h, _⟩ := S; ⟨_, h⟩
/-- a new address is none of the state's -/
theorem StB.off {H : Hp} {d g c p : Addr} {b : Nat} (S : StB H d g c b) (h : H p = none) : p ≠ d ∧ p ≠ g ∧ p ≠ c := by
  obtain ⟨_, h1⟩ := S.d
  obtain ⟨_, h2⟩ := S.g
  obtain ⟨_, h3⟩ := S.c
  exact ⟨(ne_of_none h1 h).symm, (ne_of_none h2 h).symm, (ne_of_none h3 h).symm⟩
theorem hid_new {d g p : Addr} {H : Hp} {o : HO} (h1 : p ≠ d) (h2 : p ≠ g) : hid d g (upd H p o) p = some o := hid_of upd_same h1 h2
theorem sz {n : Nat} (h : n ≤ 1000) : n ≤ sizeLine := Nat.le_of_lt (small1000 h)
/-- a <= b <= c as a value -/
theorem chain_le {σ : L2.St} {H : Hp} {Q : VK} {ta tb tc : TE} {i j k : Int} (ha : ∀ Q' : VK, Q' (.int i) H → ta σ H Q') (hb : ∀ Q' : VK, Q' (.int j) H → tb σ H Q') (hc : ∀ Q' : VK, Q' (.int k) H → tc σ H Q') (q : Q (.bl (decide (i ≤ j) && decide (j ≤ k))) H) : tChain qLe qLe ta tb tc σ H Q := by
  refine ha _ (hb _ ⟨i, j, rfl, rfl, _, rfl, ?_⟩)
  by_cases h : i ≤ j
  · rw [decide_eq_true h] at q ⊢
    exact iteT (hc _ ⟨j, k, rfl, rfl, q⟩)
  · rw [decide_eq_false h] at q ⊢
    exact iteF q
end SR
set_option Elab.async false
set_option linter.all false
set_option maxRecDepth 100000
set_option maxHeartbeats 4000000
set_option Elab.async false
set_option linter.all false
set_option maxRecDepth 100000
set_option maxHeartbeats 4000000
namespace SR
open PySem L2
theorem eqv_same {d : PyData} (hs : SeqAt.shaped d = true) : PyData.eqv d d = true := SeqAt.eqv_refl d (by
  unfold SeqAt.shaped at hs
  rw [Bool.and_eq_true] at hs
  exact hs.1)
end SR
set_option Elab.async false
set_option linter.all false
set_option maxRecDepth 100000
set_option maxHeartbeats 4000000
namespace SR
open PySem L2
section
variable {K : PySem.W.Frag} {B : Addr}
theorem StB.same {H H' : Hp} {d g c : Addr} {b : Nat} (e : Same H H') (S : StB H d g c b) : StB H' d g c b := by
  obtain ⟨r, t, gs, cs, h1, h2, h3, h4⟩ := S
  exact ⟨r, t, gs, cs, e _ _ h1, e _ _ h2, e _ _ h3, h4⟩
/-- the list of four, as the rest of a turn finds it -/
structure Four (K : PySem.W.Frag) (H : Hp) (d g c s : Addr) (v1 v2 v3 v4 : V) : Prop where
  at_ : H s = some (.lst [v1, v2, v3, v4])
  nd : s ≠ d
  ng : s ≠ g
  nc : s ≠ c
  k1 : ∃ t, AnyT K (hid d g H) v1 t
  k2 : ∃ t, AnyT K (hid d g H) v2 t
  k3 : ∃ t, AnyT K (hid d g H) v3 t
  k4 : ∃ t, AnyT K (hid d g H) v4 t
theorem Four.kp {H H' : Hp} {d g c s : Addr} {v1 v2 v3 v4 : V} (F : Four K H d g c s v1 v2 v3 v4) (k : Kp d g H H') : Four K H' d g c s v1 v2 v3 v4 :=
  ⟨k _ _ F.nd F.ng F.at_, F.nd, F.ng, F.nc, let ⟨t, h⟩ := F.k1; ⟨t, h.same k.hid⟩, let ⟨t, h⟩ := F.k2; ⟨t, h.same k.hid⟩, let ⟨t, h⟩ := F.k3; ⟨t, h.same k.hid⟩, let ⟨t, h⟩ := F.k4; ⟨t, h.same k.hid⟩⟩
def pr2 (i j : Int) : PyData := .tuple [.int i, .int j]
def spLaw (K : PySem.W.Frag) : Sp := fun vs H Q _ => ∃ (a : Addr) (ns : List Int), vs = [.ref a] ∧ SqL K H a (ns.map V.int) ∧ ns.length ≤ 63 ∧ ∀ H', Q (.bl true) H'
end
end SR
set_option Elab.async false
set_option linter.all false
set_option maxRecDepth 100000
set_option maxHeartbeats 4000000
namespace SR
open PySem PySem.Spec PyProof.Rows L2
structure Kn (P : Program) (w : World) (K : PySem.W.Frag) (mg : Str → Option Value) (base : Heap) (CX : CXT) (k : Nat) (x : Str) (ps : List Str) (sp : Sp) : Prop where
  ex : ∃ f fd, FnOk P w K mg base CX k f fd ps sp ∧ mg x = some (.ref f) ∧ PySem.W.keepIn K (.ref f) = true ∧ L2.Binds K fd ps []
section
variable {X : Cx} {CX : CXT} {k j : Nat} {ps ks : List Str} {sp : Sp} {E : XK} {x : Str} {p pos : Pos} {e : Expr} {es : List Expr} {t tk : TA} {kws : List Keyword} {gV : List V → List V → List V}
theorem pe_k (c : Kn X.prog X.w X.K X.mg X.base CX k x ps sp) (hr : Room j X.A) (hk : k ≤ j) (hg : Gl X x) (hx : Passes CX X E) (ha : PA X (e :: es) t) (hdb : (x == ("__debug__" : Str)) = false := by decide)
    (he : starEach (e :: es) X.env = (false, eval e X.env) :: starEach es X.env := by rfl) (hpl : (backTo pos (starEach es X.env)).any (·.1) = false := by rfl) : PE X (.Call (.Name x p) (e :: es) [] pos) (tCall sp [] E t) := by
  obtain ⟨f, fd, F, hm, kp, b⟩ := c.ex
  exact pe_call F (hr.mono hk) hg hm kp b .nil hx ha hdb he hpl
end
/-- a module's name by its value -/
theorem pe_gl {X : Cx} {x : Str} {pos : Pos} {v : V} (hg : Gl X x) (h : ∃ u, X.mg x = some u ∧ RelV v u) (hdb : (x == ("__debug__" : Str)) = false := by decide) : PE X (.Name x pos) (tC v) := by
  obtain ⟨u, h1, h2⟩ := h
  exact pe_glob hg h1 h2 hdb
end SR
set_option Elab.async false
set_option linter.all false
set_option maxRecDepth 100000
set_option maxHeartbeats 4000000
namespace SR
open PySem PySem.Spec L2
/-- {elt for tg in iter if ..}, each item a whole number -/
def tScN (w : World) (wi : TI) (g : TG) (tt : TT) (te : TE) (vs : List Nat) : TE := fun σ H Q => wi σ H fun J H1 => ∀ D, H1 D = none →
  ∃ W : Nat → Nat → Hp → Prop, (∃ m, W 0 m (upd H1 D (SetO w D (fun _ => false) 0))) ∧ ∀ i m H2, W i m H2 →
    (J.stop i H2 ∧ Q (.ref D) H2) ∨ (J.go i H2 ∧ ∃ Nx : Hp → Prop, (∀ H', Nx H' → ∃ m', m' < m ∧ W (i + 1) m' H') ∧ ∀ x H', J.yld i H2 x H' → g x (wipe σ vs) H' fun σ2 H3 => wipe σ2 vs = wipe σ vs ∧ tt σ2 H3 fun b H4 =>
      if b = true then te σ2 H4 fun y H5 => rSAdd w (.ref D) [y] H5 fun _ H6 => Nx H6 else Nx H4)
section
variable {X : Cx}
/-- the places that a block's walk keeps to itself -/
def Apart (X : Cx) (fp : List Addr) (H : Hp) : Prop := ∀ b ∈ fp, H b = none
theorem apart_ok {s : Shared} {H3 : Hp} {scope : Scope} {ce : Env} {fp : List Addr} {σ : L2.St} {H : Hp} {s' : Shared} (I : L2.Inv (X.blk s H3 scope ce fp) [] σ H s') (h : Apart X fp H) : ∀ b ∈ fp, FpOk (X.blk s H3 scope ce fp) [] H b := by
  intro b hb
  have a := I.ok.exf b hb
  exact ⟨h b hb, a.1, I.ok.exfs b hb, Or.inl hb, fun x c e => a.2 x c e, fun p hp => nomatch hp⟩
theorem pe_scN {elt tg iter : Expr} {ifs : List Expr} {scope : Scope} {own : List (PySem.Str × Nat)} {pos : Pos} {wi : TI} {g : TG} {tt : TT} {te : TE} (hc : X.calm = true) (hN : X.N.Nodup) (hi : PI X tg iter wi) (ok : BlkOk X.N X.env.scope scope own)
    (hg : ∀ s H C cl fp, PG (X.blk s H scope (compEnvC scope cl C X.env) fp) tg g) (ht : ∀ s H C cl fp, PTs (X.blk s H scope (compEnvC scope cl C X.env) fp) ifs tt)
    (he : ∀ s H C cl fp, PE (X.blk s H scope (compEnvC scope cl C X.env) fp) elt te) (hs : ∀ x, foldedSetIterable iter X.env x = pure x := by intro _; rfl) :
    PE X (.SetComp elt [⟨tg, iter, ifs, 0⟩] scope pos) (tScN X.w wi g tt te (own.map (·.2))) := by
  constructor
  intro pins s σ H Q I h
  rw [PpSet.eval_SetComp]
  have cells : ∀ y ∈ scope.names, y.2 = .free → ∃ c, X.env.cells.lookup y.1 = some c := by
    intro y hy e
    cases ok.free y hy e with
    | inl k => exact I.ok.has _ (Or.inl k)
    | inr k => exact I.ok.has _ (Or.inr k)
  apply wpAny_comprehension_free rfl hs (closure_ok cells) ok.kind (fun y hy e => by rw [ok.uniq y hy, e])
  refine thn (hi.run pins s σ H _ I h) fun xv s1 hx => thn hx fun itv s2 h2 => ?_
  obtain ⟨it, fp, tn, J, H2, rfl, I2, T, run2, f2, q⟩ := h2
  have hfr := I2.hok.fresh (Nat.le_refl s2.heap.objs.size)
  obtain ⟨W, ⟨m0, w0⟩, turn⟩ := q _ hfr
  apply PpSet.newSet_ok
  -- the heap with the empty set
  have new := setO_new (P := X.prog) (H := upd H2 s2.heap.objs.size (SetO X.w s2.heap.objs.size (fun _ => false) 0)) (setR_fresh (h := s2.heap) X.w)
  have I3 : L2.Inv X pins σ (upd H2 s2.heap.objs.size (SetO X.w s2.heap.objs.size (fun _ => false) 0)) { s2 with heap := s2.heap.push ⟨.type "set", none, .set #[] 0 (.fresh 0 0 (!X.w.params.followText "set-order")), #[]⟩ } :=
    I2.laid (t' := s2.toks) (fun b o e => Heap.get?_push_of_some _ e) (Nat.le_refl _) new
  have run3 : tn 0 (s2.heap.push ⟨.type "set", none, .set #[] 0 (.fresh 0 0 (!X.w.params.followText "set-order")), #[]⟩) := T.keep _ _ _ run2 fun b _ o e => Heap.get?_push_of_some _ e
  have low : ∀ b ∈ fp, b < s2.heap.objs.size := fun b hb => let ⟨o, e, _⟩ := T.obj _ _ run2 b hb; Heap.lt_size e
  have f3 : ∀ b ∈ fp, FpOk X pins (upd H2 s2.heap.objs.size (SetO X.w s2.heap.objs.size (fun _ => false) 0)) b ∧ b < (s2.heap.push ⟨.type "set", none, .set #[] 0 (.fresh 0 0 (!X.w.params.followText "set-order")), #[]⟩).objs.size := by
    intro b hb
    have l := low b hb
    refine ⟨⟨(upd_ne (Nat.ne_of_lt l)).trans (f2 b hb).1, (f2 b hb).2⟩, ?_⟩
    rw [Heap.size_push]
    exact Nat.lt_succ_of_lt l
  clear new low f2 run2 hx h I2 I hi hfr q
  generalize upd H2 s2.heap.objs.size (SetO X.w s2.heap.objs.size (fun _ => false) 0) = H3 at I3 w0 f3
  generalize s2.heap.objs.size = D at turn
  generalize hs3 : ({ s2 with heap := s2.heap.push ⟨.type "set", none, .set #[] 0 (.fresh 0 0 (!X.w.params.followText "set-order")), #[]⟩ } : Shared) = s3 at I3 ⊢
  have e3 : s2.heap.push ⟨.type "set", none, .set #[] 0 (.fresh 0 0 (!X.w.params.followText "set-order")), #[]⟩ = s3.heap := by rw [← hs3]
  rw [e3] at run3 f3
  clear hs3 e3
  apply newEnv_comp
  have I4 := block_start I3 ok hN f3
  have run4 : tn 0 (pushCells (s3.heap.push { cls := .type "dict", data := .dict #[] }) scope.names) := T.keep _ _ _ run3 fun b _ o e => pushCells_keeps _ _ _ _ (Heap.get?_push_of_some _ e)
  have pg := hg s3 H3 s3.heap.objs.size (cellsFrom (s3.heap.objs.size + 1) scope.names (cloFrom X.env.cells scope.names [])) fp
  have pt := ht s3 H3 s3.heap.objs.size (cellsFrom (s3.heap.objs.size + 1) scope.names (cloFrom X.env.cells scope.names [])) fp
  have pe := he s3 H3 s3.heap.objs.size (cellsFrom (s3.heap.objs.size + 1) scope.names (cloFrom X.env.cells scope.names [])) fp
  show codeAny _ _ (.compStart _ 0 (.ref it) (.ref D) (compEnvC scope (cellsFrom (s3.heap.objs.size + 1) scope.names (cloFrom X.env.cells scope.names [])) s3.heap.objs.size X.env)) (compPost _ _ _ none _ (.ref D) s3.heap.objs.size) _
  have here : (compEnvC scope (cellsFrom (s3.heap.objs.size + 1) scope.names (cloFrom X.env.cells scope.names [])) s3.heap.objs.size X.env).locals = s3.heap.objs.size := rfl
  generalize compEnvC scope (cellsFrom (s3.heap.objs.size + 1) scope.names (cloFrom X.env.cells scope.names [])) s3.heap.objs.size X.env = ce at I4 pg pt pe here ⊢
  refine (fun loop => PpSet.codeAny_compStart_set loop (T.self X.A 0 _ _ _ run4 loop)) ?_
  replace run4 : tn 0 ({ s3 with heap := pushCells (s3.heap.push { cls := .type "dict", data := .dict #[] }) scope.names } : Shared).heap := run4
  generalize ({ s3 with heap := pushCells (s3.heap.push { cls := .type "dict", data := .dict #[] }) scope.names } : Shared) = s4 at I4 run4 ⊢
  refine PpSet.compLoopS_any (fun n s' => ∃ i H', L2.Inv (X.blk s3 H3 scope ce fp) [] (wipe σ (own.map (·.2))) H' s' ∧ tn i s'.heap ∧ Apart X fp H' ∧ W i n H') ?_ m0 ⟨0, H3, I4, run4, fun b hb => (f3 b hb).1.1, w0⟩
  rintro n s5 ⟨i, H5, I5, t5, a5, w5⟩
  cases turn i n H5 w5 with
  | inl over =>
    refine thnF (T.done (X.blk s3 H3 scope ce fp) rfl rfl rfl hc i [] s5 _ H5 (fun _ _ => False) I5 (apart_ok I5 a5) t5 over.1) ?_
    rintro r s6 ⟨rfl, I6⟩
    have I7 : L2.Inv X pins σ H5 s6 := I3.call' (ch := fp) I6.os I6.base I6.hok I6.bare fun b hb => let z := (f3 b hb).1.2; ⟨z.2.2.1, z.1, z.2.2.2.1, z.2.2.2.2⟩
    obtain ⟨m, ns, _⟩ := I6.loc
    have fr := I6.free
    change H5 ce.locals = none at fr
    change s6.heap.Ns ce.locals m at ns
    rw [here] at fr ns
    obtain ⟨c0, c1, c2, c3, c4, c5⟩ := I3.fpOk (Nat.le_refl _) fr
    exact ⟨m, ns, fun h2 sb => ⟨.ref D, H5, I7.turned (t' := s6.toks) (fun b o hb e => (sb.2 b hb).trans e) c0 c1 c3 c4 c5, rfl, over.2⟩⟩
  | inr more =>
    obtain ⟨go, Nx, hNx, step⟩ := more
    refine thnF (T.item (X.blk s3 H3 scope ce fp) rfl rfl rfl hc i [] s5 _ H5 (fun _ _ => False) I5 (apart_ok I5 a5) t5 go) ?_
    rintro r s6 ⟨u, rfl, h6⟩
    refine thnF h6 ?_
    rintro _ s7 ⟨x, H7, I7, r7, y7, t7, a7⟩
    refine thnF (pg.run _ s7 _ H7 x u _ (I7.pinned (apart_ok I7 a7) (T.obj _ _ t7)) r7 (step x H7 y7)) ?_
    rintro _ s8 ⟨σ8, H8, I8, hw, q8⟩
    refine thnF (pt.run _ s8 σ8 H8 _ I8 q8) ?_
    rintro b s9 ⟨H9, I9, q9⟩
    -- a turn's end
    have done : ∀ (s' : Shared) (H' : Hp), L2.Inv (X.blk s3 H3 scope ce fp) ([] ++ pinsAt fp s7.heap) σ8 H' s' → Nx H' →
        ∃ m, m < n ∧ ∃ i H', L2.Inv (X.blk s3 H3 scope ce fp) [] (wipe σ (own.map (·.2))) H' s' ∧ tn i s'.heap ∧ Apart X fp H' ∧ W i m H' := by
      intro s' H' I' nx
      obtain ⟨m', less, w'⟩ := hNx H' nx
      have kept : ∀ b ∈ fp, ∀ o, s7.heap.get? b = some o → s'.heap.get? b = some o ∧ H' b = none := by
        intro b hb o e
        have z := I'.pin (b, o) (List.mem_append_right _ (List.mem_append_right _ (mem_pinsAt hb e)))
        exact ⟨z.1, z.2.1⟩
      have ln : (wipe σ (own.map (·.2))).length = σ8.length := by rw [← hw, wipe_length]
      have low : L2.Inv (X.blk s3 H3 scope ce fp) [] (wipe σ (own.map (·.2))) H' s' := (I'.unpinned (pins := [])).weak ln fun j v e => by
        rw [← hw] at e
        exact (wipe_some e).1
      have ap : Apart X fp H' := fun b hb => let ⟨o, e, _⟩ := T.obj _ _ t7 b hb; (kept b hb o e).2
      exact ⟨m', less, i + 1, H', low, T.keep _ _ _ t7 (fun b hb o e => (kept b hb o e).1), ap, w'⟩
    cases b with
    | false =>
      rw [if_neg Bool.false_ne_true] at q9 ⊢
      exact done _ _ I9 q9
    | true =>
      rw [if_pos rfl] at q9 ⊢
      refine thnF (pe.run _ s9 σ8 H9 _ I9 q9) ?_
      rintro z s10 ⟨y, H10, I10, ry, q10⟩
      refine thnF (mt_sadd (X := X.blk s3 H3 scope ce fp) _ s10 σ8 H10 (.ref D) [y] (.ref D) [z] _ I10 rfl (.cons ry .nil) q10) ?_
      rintro _ s11 ⟨_, H11, I11, _, q11⟩
      exact done _ _ I11 q11
end
end SR
set_option Elab.async false
set_option linter.all false
set_option maxRecDepth 100000
set_option maxHeartbeats 4000000
namespace SR
open PySem PySem.Spec PyProof.Rows L2
/-- a walk for a set display -/
theorem scN_it {J : It} {n : Nat} {G : Hp → Prop} {Y : Nat → Hp → V → Hp → Prop} (wk : Walk J n G Y) {w : World} {g : TG} {tt : TT} {te : TE} {vs : List Nat} {σ : L2.St} {H1 : Hp} {D : Addr} {Qd : Hp → Prop} (Pv : Nat → Hp → Prop)
    (h0 : Pv 0 (upd H1 D (SetO w D (fun _ => false) 0))) (hG : ∀ i H, i ≤ n → Pv i H → G H)
    (hs : ∀ i x H H', i < n → Pv i H → Y i H x H' → g x (wipe σ vs) H' fun σ2 H3 => wipe σ2 vs = wipe σ vs ∧ tt σ2 H3 fun b H4 => if b = true then te σ2 H4 fun y H5 => rSAdd w (.ref D) [y] H5 fun _ H6 => Pv (i + 1) H6 else Pv (i + 1) H4)
    (hd : ∀ H, Pv n H → Qd H) : ∃ W : Nat → Nat → Hp → Prop, (∃ m, W 0 m (upd H1 D (SetO w D (fun _ => false) 0))) ∧ ∀ i m H2, W i m H2 →
      (J.stop i H2 ∧ Qd H2) ∨ (J.go i H2 ∧ ∃ Nx : Hp → Prop, (∀ H', Nx H' → ∃ m', m' < m ∧ W (i + 1) m' H') ∧ ∀ x H', J.yld i H2 x H' → g x (wipe σ vs) H' fun σ2 H3 => wipe σ2 vs = wipe σ vs ∧ tt σ2 H3 fun b H4 =>
        if b = true then te σ2 H4 fun y H5 => rSAdd w (.ref D) [y] H5 fun _ H6 => Nx H6 else Nx H4) := by
  refine ⟨fun i m H => i + m = n ∧ Pv i H, ⟨n, Nat.zero_add n, h0⟩, ?_⟩
  rintro i m H ⟨rfl, p⟩
  have gh := hG i H (Nat.le_add_right i m) p
  cases m with
  | zero => exact .inl ⟨wk.stops H gh, hd H p⟩
  | succ m =>
    have lt : i < i + (m + 1) := by omega
    exact .inr ⟨wk.goes i H lt gh, Pv (i + 1), fun H' p' => ⟨m, Nat.lt_succ_self m, by omega, p'⟩, fun x H' y => hs i x H H' lt p (wk.yields i H x H' lt gh y)⟩
section
variable {X : Cx}
theorem pi_or {tg l : Expr} {a b : TI} (ha : PI X tg l a) (hb : PI X tg l b) : PI X tg l (fun σ H R => a σ H R ∨ b σ H R) :=
  ⟨fun pins s σ H R I h => h.elim (ha.run pins s σ H R I) (hb.run pins s σ H R I)⟩
theorem cr_or {f : Value} {a b : List V → Hp → VK → Prop} (ha : CallR X f a) (hb : CallR X f b) : CallR X f (fun xs H Q => a xs H Q ∨ b xs H Q) :=
  fun pins s σ H xs us Q I r h => h.elim (ha pins s σ H xs us Q I r) (hb pins s σ H xs us Q I r)
/-- what is never come to -/
theorem ps_no {st : Stmt} : PS X st (fun _ _ _ => False) := ⟨fun _ _ _ _ _ _ h => h.elim⟩
/-- len of a set of whole numbers -/
theorem cr_lenSet : CallR X (.builtin "len") (fun xs H Q => ∃ a S n, xs = [V.ref a] ∧ H a = some (SetO X.w a S n) ∧ Q (.int n) H) := by
  intro pins s σ H xs us Q I r h
  obtain ⟨a, S, n, rfl, ha, q⟩ := h
  obtain ⟨u, rfl, ru⟩ := vals1 r
  cases ru
  obtain ⟨o, es, ep, t, ho, ex, hd, _, _, _, hb, hf, hn, _, _⟩ := setO_get I ha
  have fit : (scanBound : Int) < 2 ^ 63 := by unfold scanBound; decide
  refine call_len_set ho ex hd hf (by omega) ⟨.int n, H, I.tok _, ⟨_, by rw [hn]⟩, q⟩
/-- a tuple whose object has no dict of its own -/
def Bare (H : Hp) (a : Addr) (xs : List V) : Prop := ∃ o, H a = some (.frz o (.tup xs)) ∧ o.cls = .type "tuple" ∧ o.dict = none
theorem Bare.sq {K : PySem.W.Frag} {H : Hp} {a : Addr} {xs : List V} (h : Bare H a xs) : SqT K H a xs := let ⟨o, e, _⟩ := h; .inl (.inr ⟨o, e⟩)
/-- such a tuple of the written part -/
def BareK (K : PySem.W.Frag) (a : Addr) (xs : List V) : Prop := ∃ (o : Obj) (its : List Value) (n : Nat), K.lookup a = some o ∧ o.cls = .type "tuple" ∧ o.dict = none ∧ o.data = .seq its.toArray n ∧ xs.length ≤ sizeLine ∧ Vals xs its
theorem BareK.sq {K : PySem.W.Frag} {H : Hp} {a : Addr} {xs : List V} (h : BareK K a xs) : SqT K H a xs := by
  obtain ⟨o, its, n, h1, h2, _, h4, h5, h6⟩ := h
  refine .inr ⟨o, its.toArray, n, h1, h2, h4, ?_, h6⟩
  rw [List.size_toArray, ← h6.length]
  exact h5
def BareW (K : PySem.W.Frag) (H : Hp) (a : Addr) (xs : List V) : Prop := Bare H a xs ∨ BareK K a xs
theorem BareW.sq {K : PySem.W.Frag} {H : Hp} {a : Addr} {xs : List V} (h : BareW K H a xs) : SqT K H a xs := h.elim Bare.sq BareK.sq
/-- tuple(xs) of a list, the object known -/
theorem cr_tupB : CallR X (.type "tuple") (fun xs H Q => ∃ p ys, xs = [.ref p] ∧ SqL X.K H p ys ∧ ∀ l o, H l = none → o.cls = .type "tuple" → o.dict = none → Q (.ref l) (upd H l (.frz o (.tup ys)))) := by
  intro pins s σ H xs us Q I r h
  obtain ⟨p, ys, rfl, hq, q⟩ := h
  obtain ⟨u, rfl, rx⟩ := vals1 r
  cases rx
  obtain ⟨its, r2, pl, hz⟩ := I.list hq
  have hlen := r2.length
  refine call_tuple_list pl.isList (fun h' kp => ?_) (by simp only [List.size_toArray] <;> omega)
  have I1 : L2.Inv X pins σ H { s with heap := h' } := I.kept (t' := s.toks) kp
  have at_ : (h'.push { cls := .type "tuple", data := .seq its.toArray }).get? h'.objs.size = some { cls := .type "tuple", data := .seq its.toArray } := Heap.get?_push_size _ rfl
  have I2 : L2.Inv X pins σ (upd H h'.objs.size (.frz { cls := .type "tuple", data := .seq its.toArray } (.tup ys))) { s with heap := h'.push { cls := .type "tuple", data := .seq its.toArray } } :=
    I1.laid (t' := s.toks) (fun b o e => Heap.get?_push_of_some _ e) (Nat.le_refl _) ⟨at_, hz, its, r2, IsTup.new _ _⟩
  exact ⟨.ref h'.objs.size, _, I2, rfl, q _ _ (I1.hok.fresh (Nat.le_refl _)) rfl rfl⟩
/-- sorted of a tuple -/
theorem sorted_seq {prog : Program} {w : World} {A : Around} {E : Value → Shared → Prop} {s : Shared} {l : Addr} {vs : List Value} {ltv : Value → Value → Bool} {Q : Value → Shared → Prop} (O : SrtO.Swo ltv) (hl : IsTup s.heap l vs.toArray) (hz : vs.length ≤ sizeLine)
    (hS : 2 ≤ vs.length → ∀ (h1 : Heap) (a : Addr), h1.get? a = some (seqObj "list" vs.toArray 0) → (∀ b o, s.heap.get? b = some o → b ≠ a ∧ h1.get? b = some o) → SrtO.SortableO prog w A.in1.in1 { s with heap := h1 } a vs ltv)
    (h : ∀ (out : List Value) (h1 h' : Heap) (d : Addr), SrtO.Srtd ltv out → SrtO.Stb ltv out vs → (∀ b o, s.heap.get? b = some o → h1.get? b = some o) → (∀ b o, h1.get? b = some o → h'.get? b = some o) → h1.objs.size ≤ d → (∃ n, h'.get? d = some (seqObj "list" out.toArray n)) → Q (.ref d) { s with heap := h' }) :
    wpAny (model prog w) A (call (.builtin "sorted") [.ref l]) Q E s := by
  obtain ⟨o, ho, hcl, n, hd⟩ := hl
  apply Calls.call_function_entry kind_sorted plain_sorted entry_sorted (args_sorted1 _)
  unfold Builtin.«sorted»
  apply wpAny_bind (m := checkCount "sorted" 1 1 _)
  apply wpAny_pure
  apply wpAny_bind
  refine wpAny_collect_seq l (.inr rfl) ho hcl hd (fun h1 k1 => ?_) (by rw [List.size_toArray]; exact hz)
  rw [List.toList_toArray]
  apply wpAny_bind
  refine wpAny_newList ?_ hz
  have new : (h1.push (seqObj "list" vs.toArray 0)).get? h1.objs.size = some (seqObj "list" vs.toArray 0) := Heap.get?_push_size _ rfl
  have old : ∀ b o, s.heap.get? b = some o → b ≠ h1.objs.size ∧ (h1.push (seqObj "list" vs.toArray 0)).get? b = some o := fun b o e => ⟨Nat.ne_of_lt (Heap.lt_size (k1 b o e)), Heap.get?_push_of_some _ (k1 b o e)⟩
  show wpAny _ _ _ _ _ { s with heap := h1.push (seqObj "list" vs.toArray 0) }
  apply wpAny_bind
  refine wpAny_holding (wpAny_call_entry slot_list_sort ⟨_, new, rfl⟩ entry_list_sort (SrtO.list_sort_ord O new hz (fun h2 => hS h2 _ _ new old) fun out hs hb => ⟨_, rfl, ?_⟩) (args_list_sort _))
  refine wpAny_pure ⟨_, rfl, h out h1 _ _ hs hb k1 (fun b o e => ?_) (Nat.le_refl _) (sortedHeap_at new)⟩
  have lt := Heap.lt_size e
  rw [sortedHeap_old (Nat.ne_of_lt lt) (by rw [size_push']; exact Nat.lt_succ_of_lt lt)]
  exact Heap.get?_push_of_some _ e
/-- sorted of a tuple of pairs of whole numbers -/
theorem cr_sortedPT : CallR X (.builtin "sorted") (fun vs H Q => ∃ (a : Addr) (xs : List V) (k : V → Int × Int), vs = [V.ref a] ∧ SqT X.K H a xs ∧ (∀ x ∈ xs, ∃ t, x = V.ref t ∧ H t = some (.tup [.int (k x).1, .int (k x).2])) ∧
    ∀ ys p, SrtO.Srtd (ltP k) ys → SrtO.Stb (ltP k) ys xs → H p = none → Q (.ref p) (upd H p (.lst ys))) := by
  intro pins s σ H vs us Q I r h
  obtain ⟨a, xs, k, rfl, hs, hx, q⟩ := h
  obtain ⟨its, rv, hl, hz⟩ := I.tuple hs
  obtain ⟨u, rfl, ru⟩ := vals1 r
  cases ru
  obtain ⟨e1, e2⟩ := refs_back rv fun x m => let ⟨t, e, _⟩ := hx x m; ⟨t, e⟩
  have prs : ∀ v ∈ its, Srt.IsPair s.heap v (k (backV v)).1 (k (backV v)).2 := by
    intro v hv
    obtain ⟨t, rfl⟩ := e2 v hv
    have hm : V.ref t ∈ xs := by rw [e1]; exact List.mem_map.mpr ⟨_, hv, rfl⟩
    obtain ⟨t', e, ht⟩ := hx _ hm
    cases e
    obtain ⟨_, its2, r2, o, ho, hc, n, hd⟩ := I.hok _ _ ht
    obtain ⟨u1, u2, rfl, ⟨t1, rfl⟩, t2, rfl⟩ := vals2 r2
    exact ⟨t, o, t1, t2, n, rfl, ho, hc, hd⟩
  refine sorted_seq (SrtO.swo_lex fun u => k (backV u)) hl (by rw [← rv.length]; exact hz) (fun h2 h1 b hb kk => ?_) fun out h1 h' d o1 o2 k1 k2 far nw => ?_
  · refine SrtO.pairs_sortableO (s := { s with heap := h1 }) (by omega) (fun v hm => (prs v hm).keeps fun c o e _ => (kk c o e).2) fun o e => ?_
    cases Option.some.inj (e.symm.trans hb)
    intro c
    exact absurd (Value.type.inj c) (by decide)
  · have I1 : L2.Inv X pins σ H { s with heap := h1 } := I.kept (t' := s.toks) k1
    obtain ⟨n, hn⟩ := nw
    have rf : ∀ u ∈ out, ∃ a, u = Value.ref a := fun u hu => e2 u (o2.perm.mem_iff.mp hu)
    have st : SrtO.Stb (ltP k) (out.map backV) xs := by rw [e1]; exact SrtO.Stb.map (ltP_swo k) backV o2
    refine ⟨.ref d, upd H d (.lst (out.map backV)), I1.laid (t' := s.toks) k2 far ⟨?_, out, n, vals_back rf, hn⟩, rfl, q _ d (SrtO.srtd_map o1) st (I1.hok.fresh far)⟩
    rw [st.len]
    exact hz
theorem pairs2 {pins : List (Addr × Obj)} {σ : L2.St} {H : Hp} {s : Shared} (I : L2.Inv X pins σ H s) : ∀ {ps : List Addr} {kvs : List (Key × V)}, Paired (fun p kv => SqT X.K H p [kV kv.1, kv.2]) ps kvs →
    ∃ (prs : List (Key × Value)) (us : List (Value × Value)), KV kvs prs ∧ prs.length = ps.length ∧ us.length = ps.length ∧
      ∀ (j : Nat) (k v : Value), us[j]? = some (k, v) → ∃ b q, ps[j]? = some b ∧ IsTup s.heap b #[k, v] ∧ prs[j]? = some (q, v) ∧ (mixKind X.prog X.w).is q k = true := by
  intro ps
  induction ps with
  | nil =>
    intro kvs h
    cases h
    exact ⟨[], [], .nil, rfl, rfl, fun j k v e => nomatch e⟩
  | cons p ps ih =>
    intro kvs h
    cases h with
    | cons h t =>
      obtain ⟨prs, us, r, l1, l2, f⟩ := ih t
      obtain ⟨its, rv, ht, _⟩ := I.tuple h
      obtain ⟨u, y, rfl, ru, ry⟩ := vals2 rv
      refine ⟨(_, y) :: prs, (u, y) :: us, .cons ⟨rfl, ry⟩ r, congrArg (· + 1) l1, congrArg (· + 1) l2, fun j k v e => ?_⟩
      cases j with
      | zero =>
        cases (show (u, y) = (k, v) from Option.some.inj e)
        exact ⟨p, _, rfl, ht, rfl, kV_is ru⟩
      | succ j => exact f j k v e
/-- dict of a tuple of pairs -/
theorem cr_dictPT (hcalm : X.calm = true) : CallR X (.type "dict") (fun xs H Q => ∃ (a : Addr) (ps : List Addr) (kvs : List (Key × V)), xs = [V.ref a] ∧ BareW X.K H a (ps.map V.ref) ∧ Paired (fun p kv => SqT X.K H p [kV kv.1, kv.2]) ps kvs ∧
    ∀ p, H p = none → Q (.ref p) (upd H p (.dK (mergeK [] kvs)))) := by
  intro pins s σ H xs us Q I r h
  obtain ⟨a, ps, kvs, rfl, hbw, hp, q⟩ := h
  obtain ⟨u, rfl, ru⟩ := vals1 r
  cases ru
  have hbx : ∃ (o : Obj) (its : List Value) (n : Nat), s.heap.get? a = some o ∧ (ps.map V.ref).length ≤ sizeLine ∧ Vals (ps.map V.ref) its ∧ o.data = .seq its.toArray n ∧ o.cls = .type "tuple" ∧ o.dict = none := by
    rcases hbw with ⟨o, hb, hcl, hdn⟩ | ⟨o, its, n, h1, h2, h3, h4, h5, h6⟩
    · obtain ⟨ho, hz, its, rv, o2, ho2, _, n, hdat⟩ := I.hok _ _ hb
      cases Option.some.inj (ho.symm.trans ho2)
      exact ⟨o, its, n, ho, hz, rv, hdat, hcl, hdn⟩
    · exact ⟨o, its, n, I.kIn _ _ h1, h5, h6, h4, h2, h3⟩
  obtain ⟨o, its, n, ho, hz, rv, hdat, hcl, hdn⟩ := hbx
  have ei := refs_at rv
  subst ei
  rw [List.length_map] at hz
  obtain ⟨prs, us, rel, l1, l2, f⟩ := pairs2 I hp
  have hm : (s.heap.objs.size == sysModules) = false := beq_eq_false_iff_ne.mpr (Nat.ne_of_gt I.big)
  have hlen : (mergeK [] kvs).length ≤ sizeLine := by
    refine Nat.le_trans (length_mergeK kvs []) ?_
    rw [List.length_nil, Nat.zero_add, rel.length, l1]
    exact hz
  refine PySem.call_dict_pairs (knd := mixKind X.prog X.w) (kvs := prs) (PairArg.tuple a (ps.map Value.ref).toArray (fun j => (ps[j]?).getD 0) us) (I.ok.hd hcalm) ⟨⟨o, n, ho, hcl, hdn, hdat⟩, ?_, fun j k v e => ?_⟩ ⟨l1.trans l2.symm, fun j k v e => ?_⟩ (by rw [l2]; exact hz) fun h' tk hd k => ?_
  · rw [List.size_toArray, List.length_map, l2]
  · obtain ⟨b, q', e1, e2, _⟩ := f j k v e
    have at_ : (fun j => (ps[j]?).getD 0) j = b := by
      show (ps[j]?).getD 0 = b
      rw [e1]
      rfl
    rw [at_]
    refine ⟨?_, .inl e2⟩
    rw [List.getElem?_toArray, List.getElem?_map, e1]
    rfl
  · obtain ⟨b, q', _, _, e3, e4⟩ := f j k v e
    exact ⟨q', e3, e4⟩
  · exact ⟨.ref s.heap.objs.size, upd H s.heap.objs.size (.dK (mergeK [] kvs)), I.laid (t' := tk) (fun b o e => k b o (fun z => nomatch z) e) (Nat.le_refl _) (show ObjOk X.prog X.w _ _ _ (.dK (mergeK [] kvs)) from ⟨hlen, hm, merged [] prs, KV.merge rel .nil, hd⟩), rfl, q _ (I.hok.fresh (Nat.le_refl _))⟩
end
end SR
set_option Elab.async false
set_option linter.all false
set_option maxRecDepth 100000
set_option maxHeartbeats 4000000
namespace SR
open PySem L2
theorem same_new {H : Hp} {p : Addr} {o : HO} (h : H p = none) : Same H (upd H p o) := fun b u z => (upd_ne (ne_of_none z h)).trans z
/-- a value of any kind; where it is a tuple, what it holds -/
inductive Val2 (K : PySem.W.Frag) (H : Hp) : V → Option (List V) → Prop where
  | tup {a : Addr} {xs : List V} (h : SqT K H a xs) (hx : ∀ x ∈ xs, ∃ t, AnyT K H x t) : Val2 K H (.ref a) (some xs)
  | oth {v : V} {t : String} (h : AnyT K H v t) (ht : (t == "tuple") = false) : Val2 K H v none
theorem Val2.same {K : PySem.W.Frag} {H H' : Hp} {v : V} {o : Option (List V)} (e : Same H H') (h : Val2 K H v o) : Val2 K H' v o := by
  cases h with
  | tup h hx => exact .tup (SqT.same e h) fun x m => let ⟨t, z⟩ := hx x m; ⟨t, z.same e⟩
  | oth h ht => exact .oth (h.same e) ht
def pairO : Option (List V) → Bool
  | some [x, y] => isI x && isI y
  | _ => false
def holdO : Option (List V) → Bool
  | some [x, y] => btw 1 99 x && upto x y
  | _ => false
def spIsPair (K : PySem.W.Frag) : Sp := fun vs H Q _ => ∃ v o, vs = [v] ∧ Val2 K H v o ∧ Q (.bl (pairO o)) H
def t_is_pair (K : PySem.W.Frag) : TS := tSeq (tIfS (tOr (tNot (tB (tCB (rIsi K) (tCons (tVar 0) (tCons (tC (.ty "tuple")) tNil))))) (tTest (tOp rNe (tCB (qLen K) (tCons (tVar 0) (tNil))) (tC (.int 2)))))
  (tRet (tC (.bl false)))
  (tNext))
  (tRet (tAndV (tCall (spIsInt K) [] E0 (tCons (tOp (rIxT K) (tVar 0) (tC (.int 0))) (tNil))) (tCall (spIsInt K) [] E0 (tCons (tOp (rIxT K) (tVar 0) (tC (.int 1))) (tNil)))))
theorem pure_is_pair {K : PySem.W.Frag} (vs : List V) (H : Hp) (Q : VK) (E : XK) (h : spIsPair K vs H Q E) : t_is_pair K { nx := fun _ H' => Q .non H', rt := Q } (start ["value"] vs) H := by
  obtain ⟨v, o, rfl, hv, q⟩ := h
  cases hv with
  | oth h ht =>
    refine ⟨_, rfl, _, _, _, _, _, rfl, .ty _, h.ty, h.kit.2.2.1, _, rfl, ?_⟩
    rw [ht]
    exact iteT (iteT q)
  | @tup a xs h hx =>
    have hy : AnyT K H (.ref a) "tuple" := .tup h
    refine ⟨_, rfl, _, _, _, _, _, rfl, .ty _, hy.ty, hy.kit.2.2.1, _, rfl, iteF ⟨_, rfl, a, xs, rfl, .inr h, rfl, _, rfl, ?_⟩⟩
    by_cases hl : xs.length = 2
    · match xs, hl with
      | [x, y], _ =>
        refine iteNS rfl ?_
        obtain ⟨t1, k1⟩ := hx x (by simp)
        obtain ⟨t2, k2⟩ := hx y (by simp)
        refine ⟨_, rfl, a, _, 0, _, rfl, rfl, h, rfl, x, t1, rfl, k1, _, rfl, ?_⟩
        have q : Q (.bl (isI x && isI y)) H := q
        cases e : isI x with
        | true =>
          rw [e] at q
          exact iteT ⟨_, rfl, a, _, 1, _, rfl, rfl, h, rfl, y, t2, rfl, k2, q⟩
        | false =>
          rw [e] at q
          exact iteF q
    · have e : ¬ V.int (xs.length : Int) = V.int 2 := fun z => hl (by have := V.int.inj z; omega)
      have e2 : pairO (some xs) = false := by
        match xs, hl with
        | [], _ => rfl
        | [_], _ => rfl
        | [_, _], hl => exact absurd rfl hl
        | _ :: _ :: _ :: _, _ => rfl
      rw [decide_eq_false e]
      rw [e2] at q
      exact iteT q
end SR
namespace SR
theorem exch_cases {c u d x p q : Int} (hp : p = min (c - u) x) (hq : q = min u (d - x)) :
    (u + x ≤ c ∧ u + x ≤ d ∧ p = x ∧ q = u) ∨ (u + x ≤ c ∧ d < u + x ∧ p = x ∧ q = d - x) ∨ (c < u + x ∧ u + x ≤ d ∧ p = c - u ∧ q = u) ∨ (c < u + x ∧ d < u + x ∧ p = c - u ∧ q = d - x) := by
  omega
set_option maxHeartbeats 0 in
theorem yb (c1 c2 c3 u1 u2 u3 : Int) (h1 : 0 ≤ u1) (h2 : 0 ≤ u2) (h3 : 0 ≤ u3) (k1 : u1 ≤ c1) (k2 : u2 ≤ c2) (k3 : u3 ≤ c3)
  (p1 q1 p2 q2 p3 q3 a1 b1 a2 b2 a3 b3 : Int)
  (e1 : p1 = min (c1 - u1) u2) (f1 : q1 = min u1 (c2 - u2)) (ea1 : a1 = u2 - p1 + q1) (eb1 : b1 = u1 + p1 - q1)
  (e2 : p2 = min (c1 - b1) u3) (f2 : q2 = min b1 (c3 - u3)) (ea2 : a2 = u3 - p2 + q2) (eb2 : b2 = b1 + p2 - q2)
  (e3 : p3 = min (c2 - a1) a2) (f3 : q3 = min a1 (c3 - a2)) (ea3 : a3 = a2 - p3 + q3) (eb3 : b3 = a1 + p3 - q3)
  (r1 s1 r2 s2 r3 s3 g1 w1 g2 w2 g3 w3 : Int)
  (x1 : r1 = min (c2 - u2) u3) (y1 : s1 = min u2 (c3 - u3)) (eg1 : g1 = u3 - r1 + s1) (ew1 : w1 = u2 + r1 - s1)
  (x2 : r2 = min (c1 - u1) g1) (y2 : s2 = min u1 (c3 - g1)) (eg2 : g2 = g1 - r2 + s2) (ew2 : w2 = u1 + r2 - s2)
  (x3 : r3 = min (c1 - w2) w1) (y3 : s3 = min w2 (c2 - w1)) (eg3 : g3 = w1 - r3 + s3) (ew3 : w3 = w2 + r3 - s3) :
  a3 = g2 ∧ b3 = g3 ∧ b2 = w3 ∧ p1 + p2 = r2 + r3 ∧ p3 - p1 = r1 - r3 := by
  have E1 := exch_cases e1 f1
  have E2 := exch_cases e2 f2
  have E3 := exch_cases e3 f3
  have X1 := exch_cases x1 y1
  have X2 := exch_cases x2 y2
  have X3 := exch_cases x3 y3
  clear e1 f1 e2 f2 e3 f3 x1 y1 x2 y2 x3 y3
  rcases E1 with ⟨t1, t2, rfl, rfl⟩ | ⟨t1, t2, rfl, rfl⟩ | ⟨t1, t2, rfl, rfl⟩ | ⟨t1, t2, rfl, rfl⟩ <;> subst ea1 eb1 <;>
  rcases X1 with ⟨t3, t4, rfl, rfl⟩ | ⟨t3, t4, rfl, rfl⟩ | ⟨t3, t4, rfl, rfl⟩ | ⟨t3, t4, rfl, rfl⟩ <;> subst eg1 ew1 <;> (try (exfalso; omega)) <;>
  rcases E2 with ⟨t5, t6, rfl, rfl⟩ | ⟨t5, t6, rfl, rfl⟩ | ⟨t5, t6, rfl, rfl⟩ | ⟨t5, t6, rfl, rfl⟩ <;> subst ea2 eb2 <;> (try (exfalso; omega)) <;>
  rcases X2 with ⟨t7, t8, rfl, rfl⟩ | ⟨t7, t8, rfl, rfl⟩ | ⟨t7, t8, rfl, rfl⟩ | ⟨t7, t8, rfl, rfl⟩ <;> subst eg2 ew2 <;> (try (exfalso; omega)) <;>
  rcases E3 with ⟨t9, t10, rfl, rfl⟩ | ⟨t9, t10, rfl, rfl⟩ | ⟨t9, t10, rfl, rfl⟩ | ⟨t9, t10, rfl, rfl⟩ <;> subst ea3 eb3 <;> (try (exfalso; omega)) <;>
  rcases X3 with ⟨t11, t12, rfl, rfl⟩ | ⟨t11, t12, rfl, rfl⟩ | ⟨t11, t12, rfl, rfl⟩ | ⟨t11, t12, rfl, rfl⟩ <;> subst eg3 ew3 <;> omega
end SR
set_option Elab.async false
set_option linter.all false
set_option maxRecDepth 100000
set_option maxHeartbeats 4000000
namespace SR
open PySem L2
structure Ent where
  c : Int
  u : Int
  i : Int
  n : Int
def Ent.ok (e : Ent) : Prop := (1 ≤ e.c ∧ e.c ≤ 99) ∧ 0 ≤ e.u ∧ e.u ≤ e.c
end SR
set_option Elab.async false
set_option linter.all false
set_option maxRecDepth 100000
set_option maxHeartbeats 4000000
namespace SR
open PySem L2
def EntAt (H : Hp) (p : Addr) (e : Ent) : Prop := ∃ h, H p = some (.tup [.ref h, .int e.i, .int e.n]) ∧ H h = some (.tup [.int e.c, .int e.u])
def LineAt (H : Hp) (r : Addr) (l : Ent × Ent × Ent) : Prop := ∃ p1 p2 p3, H r = some (.lst [.ref p1, .ref p2, .ref p3]) ∧ EntAt H p1 l.1 ∧ EntAt H p2 l.2.1 ∧ EntAt H p3 l.2.2
theorem EntAt.same {H H' : Hp} {p : Addr} {e : Ent} (s : Same H H') (h : EntAt H p e) : EntAt H' p e := let ⟨a, h1, h2⟩ := h; ⟨a, s _ _ h1, s _ _ h2⟩
theorem LineAt.same {H H' : Hp} {p : Addr} {e : Ent × Ent × Ent} (s : Same H H') (h : LineAt H p e) : LineAt H' p e := let ⟨a, b, c, h1, h2, h3, h4⟩ := h; ⟨a, b, c, s _ _ h1, h2.same s, h3.same s, h4.same s⟩
theorem EntAt.upd {H : Hp} {p r : Addr} {e : Ent} {xs ys : List V} (hr : H r = some (.lst xs)) (h : EntAt H p e) : EntAt (upd H r (.lst ys)) p e := by
  obtain ⟨a, h1, h2⟩ := h
  refine ⟨a, (upd_ne ?_).trans h1, (upd_ne ?_).trans h2⟩
  · exact ne_of h1 hr (by intro z; cases z)
  · exact ne_of h2 hr (by intro z; cases z)
theorem same_upd {H H' : Hp} {r : Addr} {o : HO} (s : Same H H') (h : H r = none) : Same H (upd H' r o) := fun b u z => (upd_ne (ne_of_none z h)).trans (s b u z)
def okL (l : Ent × Ent × Ent) : Prop := l.1.ok ∧ l.2.1.ok ∧ l.2.2.ok
/-- the two entries at the places k and k + 1 -/
def at1 (k : Int) (l : Ent × Ent × Ent) : Ent := if k = 0 then l.1 else l.2.1
def at2 (k : Int) (l : Ent × Ent × Ent) : Ent := if k = 0 then l.2.1 else l.2.2
/-- the two tuples of pairs -/
def prs (c u d x : Int) : PyData := .tuple [pr2 c u, pr2 d x]
theorem val2_pr {K : PySem.W.Frag} {H : Hp} {p : Addr} {c u : Int} (h : H p = some (.tup [.int c, .int u])) : Val2 K H (.ref p) (some [.int c, .int u]) := .tup (SqT.of h) fun x hx => by
  simp only [List.mem_cons, List.not_mem_nil, or_false] at hx
  rcases hx with rfl | rfl
  · exact ⟨_, .int _⟩
  · exact ⟨_, .int _⟩
end SR
set_option Elab.async false
set_option linter.all false
set_option maxRecDepth 100000
set_option maxHeartbeats 4000000
namespace SR
open PySem L2
inductive F2 {α β : Type} (R : α → β → Prop) : List α → List β → Prop where
  | nil : F2 R [] []
  | cons {x : α} {y : β} {xs : List α} {ys : List β} (h : R x y) (t : F2 R xs ys) : F2 R (x :: xs) (y :: ys)
end SR
set_option Elab.async false
set_option linter.all false
set_option maxRecDepth 100000
set_option maxHeartbeats 4000000
namespace SR
open PySem L2
/-- no holder -/
def Bad (K : PySem.W.Frag) (H : Hp) (v : V) : Prop := ∃ o, Val2 K H v o ∧ holdO o = false
def Bads (K : PySem.W.Frag) (H : Hp) (vs : List V) : Prop := ∀ v ∈ vs, Bad K H v
theorem Bads.same {K : PySem.W.Frag} {H H' : Hp} {vs : List V} (s : Same H H') (h : Bads K H vs) : Bads K H' vs := fun v m => let ⟨o, a, b⟩ := h v m; ⟨o, a.same s, b⟩
theorem Bads.cons {K : PySem.W.Frag} {H : Hp} {v : V} {vs : List V} (a : Bad K H v) (h : Bads K H vs) : Bads K H (v :: vs) := fun x m => by
  rcases List.mem_cons.mp m with rfl | m
  · exact a
  · exact h x m
theorem Bads.oth {K : PySem.W.Frag} {H : Hp} {v : V} {vs : List V} {t : String} (a : AnyT K H v t) (ht : (t == "tuple") = false) (h : Bads K H vs) : Bads K H (v :: vs) := h.cons ⟨none, .oth a ht, rfl⟩
def Anys (K : PySem.W.Frag) (H : Hp) (xs : List V) : Prop := ∀ x ∈ xs, ∃ t, AnyT K H x t
/-- what holds while odd values are made: the draws' state, what it kept, the odd values -/
structure Sk (K : PySem.W.Frag) (H0 : Hp) (d g c : Addr) (b : Nat) (vs : List V) (H : Hp) : Prop where
  st : StB H d g c b
  kp : Same H0 H
  bd : Bads K (hid d g H) vs
theorem hid_same_new {d g p : Addr} {H : Hp} {o : HO} (h : H p = none) : Same (hid d g H) (hid d g (upd H p o)) := Kp.hid (Kp.new h)
theorem Sk.new {K : PySem.W.Frag} {H0 H : Hp} {d g c p : Addr} {b : Nat} {vs : List V} {o : HO} (k : Sk K H0 d g c b vs H) (h : H p = none) : Sk K H0 d g c b vs (upd H p o) := ⟨k.st.new h, k.kp.trans (same_new h), k.bd.same (hid_same_new h)⟩
theorem Sk.tup {K : PySem.W.Frag} {H0 H : Hp} {d g c p : Addr} {b : Nat} {vs xs : List V} (k : Sk K H0 d g c b vs H) (h : H p = none) (hx : Anys K (hid d g H) xs) (hf : holdO (some xs) = false) : Sk K H0 d g c b (.ref p :: vs) (upd H p (.tup xs)) := by
  obtain ⟨p1, p2, _⟩ := k.st.off h
  exact ⟨k.st.new h, k.kp.trans (same_new h), (k.bd.same (hid_same_new h)).cons ⟨some xs, .tup (SqT.of (hid_new p1 p2)) fun x m => let ⟨t, z⟩ := hx x m; ⟨t, z.same (hid_same_new h)⟩, hf⟩⟩
theorem Sk.lst {K : PySem.W.Frag} {H0 H : Hp} {d g c p : Addr} {b : Nat} {vs xs : List V} (k : Sk K H0 d g c b vs H) (h : H p = none) : Sk K H0 d g c b (.ref p :: vs) (upd H p (.lst xs)) := by
  obtain ⟨p1, p2, _⟩ := k.st.off h
  exact ⟨k.st.new h, k.kp.trans (same_new h), (k.bd.same (hid_same_new h)).oth (.lst (SqL.of (hid_new p1 p2))) rfl⟩
theorem Sk.dct {K : PySem.W.Frag} {H0 H : Hp} {d g c p : Addr} {b : Nat} {vs : List V} (k : Sk K H0 d g c b vs H) (h : H p = none) : Sk K H0 d g c b (.ref p :: vs) (upd H p (.dK [])) := by
  obtain ⟨p1, p2, _⟩ := k.st.off h
  exact ⟨k.st.new h, k.kp.trans (same_new h), (k.bd.same (hid_same_new h)).oth (.dct (.inl (hid_new p1 p2))) rfl⟩
theorem Sk.oth {K : PySem.W.Frag} {H0 H : Hp} {d g c : Addr} {b : Nat} {v : V} {vs : List V} {t : String} (k : Sk K H0 d g c b vs H) (a : AnyT K (hid d g H) v t) (ht : (t == "tuple") = false) : Sk K H0 d g c b (v :: vs) H := ⟨k.st, k.kp, k.bd.oth a ht⟩
end SR
set_option Elab.async false
set_option linter.all false
set_option maxRecDepth 100000
set_option maxHeartbeats 4000000
set_option Elab.async false
set_option linter.all false
set_option maxRecDepth 100000
set_option maxHeartbeats 4000000
set_option Elab.async false
set_option linter.all false
set_option maxRecDepth 100000
set_option maxHeartbeats 4000000
namespace SR
open PySem PySem.Spec PyProof.Rows L2
def qDictOf (K : PySem.W.Frag) : List V → Hp → VK → Prop := fun xs H Q => (∃ (a : Addr) (ps : List Addr) (kvs : List (Key × V)), xs = [.ref a] ∧ SqL K H a (ps.map V.ref) ∧ Paired (fun p kv => SqT K H p [kV kv.1, kv.2]) ps kvs ∧ ∀ p, H p = none → Q (.ref p) (upd H p (.dK (mergeK [] kvs)))) ∨
  ∃ (a : Addr) (ps : List Addr) (kvs : List (Key × V)), xs = [V.ref a] ∧ BareW K H a (ps.map V.ref) ∧ Paired (fun p kv => SqT K H p [kV kv.1, kv.2]) ps kvs ∧ ∀ p, H p = none → Q (.ref p) (upd H p (.dK (mergeK [] kvs)))
def qSorted (K : PySem.W.Frag) : List V → Hp → VK → Prop := fun vs H Q => rSortedPO K vs H Q ∨ ∃ (a : Addr) (xs : List V) (k : V → Int × Int), vs = [V.ref a] ∧ SqT K H a xs ∧ (∀ x ∈ xs, ∃ t, x = V.ref t ∧ H t = some (.tup [.int (k x).1, .int (k x).2])) ∧
    ∀ ys p, SrtO.Srtd (ltP k) ys → SrtO.Stb (ltP k) ys xs → H p = none → Q (.ref p) (upd H p (.lst ys))
def qTupOf (K : PySem.W.Frag) : List V → Hp → VK → Prop := fun xs H Q => ∃ p ys, xs = [.ref p] ∧ SqL K H p ys ∧ ∀ l o, H l = none → o.cls = .type "tuple" → o.dict = none → Q (.ref l) (upd H l (.frz o (.tup ys)))
def qLenSet (w : World) : List V → Hp → VK → Prop := fun xs H Q => ∃ a S n, xs = [V.ref a] ∧ H a = some (SetO w a S n) ∧ Q (.int n) H
def TupAt (H : Hp) (t : Addr) (p : Int × Int) : Prop := H t = some (.tup [.int p.1, .int p.2])
/-- a list, or a tuple whose object is known, of pairs of whole numbers -/
def PairsAt (K : PySem.W.Frag) (H : Hp) (a : Addr) (ps : List (Int × Int)) : Prop := ∃ ts : List Addr, (SqL K H a (ts.map V.ref) ∨ BareW K H a (ts.map V.ref)) ∧ Paired (TupAt H) ts ps
theorem Bare.same {H H' : Hp} {a : Addr} {xs : List V} (e : Same H H') (h : Bare H a xs) : Bare H' a xs := let ⟨o, h1, h2⟩ := h; ⟨o, e _ _ h1, h2⟩
theorem BareW.same {K : PySem.W.Frag} {H H' : Hp} {a : Addr} {xs : List V} (e : Same H H') (h : BareW K H a xs) : BareW K H' a xs := h.imp (Bare.same e) id
theorem paired_imp {α β : Type} {F G : α → β → Prop} (f : ∀ x y, F x y → G x y) {xs : List α} {ys : List β} (h : Paired F xs ys) : Paired G xs ys := L2.Paired.mapP h f
theorem PairsAt.same {K : PySem.W.Frag} {H H' : Hp} {a : Addr} {ps : List (Int × Int)} (e : Same H H') (h : PairsAt K H a ps) : PairsAt K H' a ps := by
  obtain ⟨ts, h1, h2⟩ := h
  exact ⟨ts, h1.imp (SqL.same e) (BareW.same e), paired_imp (fun _ _ z => e _ _ z) h2⟩
theorem paired_len {α β : Type} {F : α → β → Prop} {xs : List α} {ys : List β} (h : Paired F xs ys) : xs.length = ys.length := h.length
theorem paired_at {α β : Type} {F : α → β → Prop} : ∀ {xs : List α} {ys : List β}, Paired F xs ys → ∀ {i : Nat} {x : α}, xs[i]? = some x → ∃ y, ys[i]? = some y ∧ F x y
  | _, _, .nil, _, _, e => nomatch e
  | _, _, .cons h t, 0, _, e => ⟨_, rfl, Option.some.inj e ▸ h⟩
  | _, _, .cons h t, i + 1, _, e => paired_at t e
/-- [elt for .. in a], a pair after the other; the items change nothing -/
theorem lc_pairs {K : PySem.W.Frag} {te : TE} {g : TG} {telt : TE} {vs : List Nat} {σ : L2.St} {H : Hp} {a : Addr} {ps : List (Int × Int)} {Q : VK} (f : Int × Int → V) (hte : ∀ R : VK, R (.ref a) H → te σ H R) (hp : PairsAt K H a ps) (hl : ps.length ≤ 1000)
    (hs : ∀ t p H' (R : VK), Same H H' → p ∈ ps → TupAt H' t p → R (f p) H' → g (.ref t) (wipe σ vs) H' fun σ2 H2 => wipe σ2 vs = wipe σ vs ∧ telt σ2 H2 R)
    (hQ : ∀ D H', H D = none → Same H H' → H' D = some (.lst (ps.map f)) → Q (.ref D) H') :
    tLc (fun σ H R => iList K te σ H R ∨ iTup K te σ H R) g tYes telt vs σ H Q := by
  obtain ⟨ts, hsq, hts⟩ := hp
  have hlen : (ts.map V.ref).length = ps.length := by rw [List.length_map, paired_len hts]
  have step : ∀ (D : Addr), H D = none → ∀ i x H1 H2, i < (ts.map V.ref).length → (Same H H1 ∧ H1 D = some (.lst ((ps.take i).map f))) → YAt (ts.map V.ref) i H1 x H2 → g x (wipe σ vs) H2 fun σ2 H3 => wipe σ2 vs = wipe σ vs ∧ tYes σ2 H3 fun b H4 =>
      if b = true then telt σ2 H4 fun y H5 => ∃ acc, H5 D = some (.lst acc) ∧ acc.length < sizeLine ∧ (Same H (upd H5 D (.lst (acc ++ [y]))) ∧ upd H5 D (.lst (acc ++ [y])) D = some (.lst ((ps.take (i + 1)).map f))) else Same H H4 ∧ H4 D = some (.lst ((ps.take (i + 1)).map f)) := by
    rintro D hD i x H1 H2 hi ⟨s1, d1⟩ ⟨rfl, hx⟩
    rw [List.getElem?_map] at hx
    obtain ⟨t, ht, rfl⟩ := Option.map_eq_some_iff.mp hx
    obtain ⟨p, hpi, hat⟩ := paired_at hts ht
    refine hs t p H2 _ s1 (List.mem_of_getElem? hpi) (s1 _ _ hat) ⟨_, d1, ?_, same_upd s1 hD, ?_⟩
    · rw [List.length_map, List.length_take]
      exact Nat.lt_of_le_of_lt (Nat.le_trans (Nat.min_le_right _ _) hl) (by decide)
    · rw [upd_same, List.take_succ, hpi, List.map_append]
      rfl
  have fin : ∀ D, H D = none → ∀ H1, (Same H H1 ∧ H1 D = some (.lst ((ps.take (ts.map V.ref).length).map f))) → Q (.ref D) H1 := by
    rintro D hD H1 ⟨s1, d1⟩
    rw [hlen, List.take_length] at d1
    exact hQ D H1 hD s1 d1
  rcases hsq with hsq | hsq
  · refine .inl (hte _ ⟨a, rfl, ⟨_, hsq⟩, fun D hD => ?_⟩)
    exact lc_it (walk_list (K := K) (a := a) (xs := ts.map V.ref)) (fun i H1 => Same H H1 ∧ H1 D = some (.lst ((ps.take i).map f))) ⟨same_new hD, upd_same⟩ (fun i H1 _ h => SqL.same h.1 hsq) (step D hD) (fin D hD)
  · refine .inr (hte _ ⟨a, rfl, ⟨_, hsq.sq⟩, fun D hD => ?_⟩)
    exact lc_it (walk_tup (K := K) (a := a) (xs := ts.map V.ref)) (fun i H1 => Same H H1 ∧ H1 D = some (.lst ((ps.take i).map f))) ⟨same_new hD, upd_same⟩ (fun i H1 _ h => SqT.same h.1 hsq.sq) (step D hD) (fin D hD)
/-- {elt for .. in a}, whole numbers that differ -/
theorem sc_pairs {w : World} {K : PySem.W.Frag} {te : TE} {g : TG} {telt : TE} {vs : List Nat} {σ : L2.St} {H : Hp} {a : Addr} {ps : List (Int × Int)} {Q : VK} (f : Int × Int → Int) (hte : ∀ R : VK, R (.ref a) H → te σ H R) (hp : PairsAt K H a ps) (hl : ps.length ≤ 1000) (hd : (ps.map f).Nodup)
    (hs : ∀ t p H' (R : VK), Same H H' → p ∈ ps → TupAt H' t p → R (.int (f p)) H' → g (.ref t) (wipe σ vs) H' fun σ2 H2 => wipe σ2 vs = wipe σ vs ∧ telt σ2 H2 R)
    (hQ : ∀ D H' S, H D = none → Same H H' → H' D = some (SetO w D S ps.length) → Q (.ref D) H') :
    tScN w (fun σ H R => iList K te σ H R ∨ iTup K te σ H R) g tYes telt vs σ H Q := by
  obtain ⟨ts, hsq, hts⟩ := hp
  have hlen : (ts.map V.ref).length = ps.length := by rw [List.length_map, paired_len hts]
  have step : ∀ (D : Addr), H D = none → ∀ i x H1 H2, i < (ts.map V.ref).length → (Same H H1 ∧ ∃ S, H1 D = some (SetO w D S i) ∧ ∀ k, S k = true ↔ k ∈ (ps.take i).map f) → YAt (ts.map V.ref) i H1 x H2 → g x (wipe σ vs) H2 fun σ2 H3 => wipe σ2 vs = wipe σ vs ∧ tYes σ2 H3 fun b H4 =>
      if b = true then telt σ2 H4 fun y H5 => rSAdd w (.ref D) [y] H5 fun _ H6 => (Same H H6 ∧ ∃ S, H6 D = some (SetO w D S (i + 1)) ∧ ∀ k, S k = true ↔ k ∈ (ps.take (i + 1)).map f) else (Same H H4 ∧ ∃ S, H4 D = some (SetO w D S (i + 1)) ∧ ∀ k, S k = true ↔ k ∈ (ps.take (i + 1)).map f) := by
    rintro D hD i x H1 H2 hi ⟨s1, S, d1, m1⟩ ⟨rfl, hx⟩
    rw [List.getElem?_map] at hx
    obtain ⟨t, ht, rfl⟩ := Option.map_eq_some_iff.mp hx
    obtain ⟨p, hpi, hat⟩ := paired_at hts ht
    have tk : ps.take (i + 1) = ps.take i ++ [p] := by
      rw [List.take_succ, hpi]
      rfl
    have new : ¬ S (f p) = true := by
      intro z
      have hm := (m1 _).mp z
      have nd : ((ps.take (i + 1)).map f).Nodup := (List.Sublist.map f (List.take_sublist _ _)).nodup hd
      rw [tk, List.map_append, List.map_singleton] at nd
      exact (List.nodup_append.mp nd).2.2 _ hm _ (List.mem_singleton.mpr rfl) rfl
    refine hs t p H2 _ s1 (List.mem_of_getElem? hpi) (s1 _ _ hat) ⟨D, f p, S, i, rfl, rfl, d1, ?_, same_upd s1 hD, (fun j => S j || decide (j = f p)), ?_, fun k => ?_⟩
    · have : i < 1000 := by omega
      exact Nat.lt_of_lt_of_le (Nat.succ_lt_succ this) (by decide)
    · rw [upd_same, if_neg new]
    · rw [Bool.or_eq_true, m1 k, decide_eq_true_eq, tk, List.map_append, List.mem_append]
      exact or_congr Iff.rfl (by rw [List.map_singleton, List.mem_singleton])
  have fin : ∀ D, H D = none → ∀ H1, (Same H H1 ∧ ∃ S, H1 D = some (SetO w D S (ts.map V.ref).length) ∧ ∀ k, S k = true ↔ k ∈ (ps.take (ts.map V.ref).length).map f) → Q (.ref D) H1 := by
    rintro D hD H1 ⟨s1, S, d1, _⟩
    rw [hlen] at d1
    exact hQ D H1 S hD s1 d1
  have zero : ∀ k : Int, (false = true) ↔ k ∈ (ps.take 0).map f := fun k => ⟨(fun z => nomatch z), (fun z => nomatch z)⟩
  rcases hsq with hsq | hsq
  · refine .inl (hte _ ⟨a, rfl, ⟨_, hsq⟩, fun D hD => ?_⟩)
    exact scN_it (walk_list (K := K) (a := a) (xs := ts.map V.ref)) (fun i H1 => Same H H1 ∧ ∃ S, H1 D = some (SetO w D S i) ∧ ∀ k, S k = true ↔ k ∈ (ps.take i).map f) ⟨same_new hD, _, upd_same, zero⟩ (fun i H1 _ h => SqL.same h.1 hsq) (step D hD) (fin D hD)
  · refine .inr (hte _ ⟨a, rfl, ⟨_, hsq.sq⟩, fun D hD => ?_⟩)
    exact scN_it (walk_tup (K := K) (a := a) (xs := ts.map V.ref)) (fun i H1 => Same H H1 ∧ ∃ S, H1 D = some (SetO w D S i) ∧ ∀ k, S k = true ↔ k ∈ (ps.take i).map f) ⟨same_new hD, _, upd_same, zero⟩ (fun i H1 _ h => SqT.same h.1 hsq.sq) (step D hD) (fin D hD)
end SR
set_option Elab.async false
set_option linter.all false
set_option maxRecDepth 100000
set_option maxHeartbeats 4000000
namespace SR
open PySem PySem.Spec PyProof.Rows L2
@[irreducible] def xLc := @L2.tLc
theorem xLc_eq : @xLc = @L2.tLc := by
  unfold xLc
  rfl
@[irreducible] def xScN := @tScN
theorem xScN_eq : @xScN = @tScN := by
  unfold xScN
  rfl
theorem kit_seq {K : PySem.W.Frag} {H : Hp} {v : V} {t : String} (h : AnyT K H v t) (ht : t = "list" ∨ t = "tuple") : PySem.W.kitAny K (.type t) [.type "list", .type "tuple"] = some true := by
  obtain ⟨_, _, k1, k2, _⟩ := h.kit
  rcases ht with rfl | rfl
  · unfold PySem.W.kitAny
    rw [k2]
    rfl
  · unfold PySem.W.kitAny
    rw [k2]
    show PySem.W.kitAny K (.type "tuple") [.type "tuple"] = some true
    unfold PySem.W.kitAny
    rw [k1]
    rfl
theorem PairsAt.ty {K : PySem.W.Frag} {H : Hp} {a : Addr} {ps : List (Int × Int)} (h : PairsAt K H a ps) : ∃ t, AnyT K H (.ref a) t ∧ (t = "list" ∨ t = "tuple") := by
  obtain ⟨ts, h1 | h1, _⟩ := h
  · exact ⟨_, .lst h1, .inl rfl⟩
  · exact ⟨_, .tup h1.sq, .inr rfl⟩
theorem PairsAt.len {K : PySem.W.Frag} {H : Hp} {a : Addr} {ps : List (Int × Int)} (h : PairsAt K H a ps) : ∃ ys, (SqL K H a ys ∨ SqT K H a ys) ∧ ys.length = ps.length := by
  obtain ⟨ts, h1, h2⟩ := h
  exact ⟨_, h1.imp id BareW.sq, by rw [List.length_map, paired_len h2]⟩
theorem val2_tup {K : PySem.W.Frag} {H : Hp} {t : Addr} {p : Int × Int} (h : TupAt H t p) : Val2 K H (.ref t) (some [.int p.1, .int p.2]) := val2_pr h
def spArePairs (K : PySem.W.Frag) : Sp := fun vs H Q _ => ∃ a ps, vs = [.ref a] ∧ PairsAt K H a ps ∧ (ps.map Prod.fst).Nodup ∧ ps.length ≤ 1000 ∧ ∀ H', Same H H' → Q (.bl true) H'
def t_are_pairs (w : World) (K : PySem.W.Frag) : TS := tSeq (tIfS (tNot (tB (tCB (rIsiT K) (tCons (tVar 0) (tCons (tTup (tCons (tC (.ty "list")) (tCons (tC (.ty "tuple")) (tNil)))) tNil)))))
  (tRet (tC (.bl false)))
  (tNext))
  (tSeq (tIfS (tNot (tB (tCB (rAll K) (tCons (tLc ((fun σ H R => iList K (tVar 0) σ H R ∨ iTup K (tVar 0) σ H R)) (gName 1) (tYes) (tCall (spIsPair K) [] E0 (tCons (tVar 1) (tNil))) [1]) (tNil)))))
  (tRet (tC (.bl false)))
  (tNext))
  (tRet (tOp rEq (tCB (qLenSet w) (tCons (tScN w ((fun σ H R => iList K (tVar 0) σ H R ∨ iTup K (tVar 0) σ H R)) (gTup K 2 (gCons (gName 2) (gCons (gName 3) (gNil)))) (tYes) (tVar 2) [2, 3]) (tNil))) (tCB (qLen K) (tCons (tVar 0) (tNil))))))
theorem pure_are_pairs {w : World} {K : PySem.W.Frag} (vs : List V) (H : Hp) (Q : VK) (E : XK) (h : spArePairs K vs H Q E) : t_are_pairs w K { nx := fun _ H' => Q .non H', rt := Q } (start ["value", "part", "first", "_"] vs) H := by
  obtain ⟨a, ps, rfl, hp, hd, hl, q⟩ := h
  refine ⟨_, rfl, sz (by show 2 ≤ 1000; decide), fun T hT => ?_⟩
  have s1 := same_new (o := .tup [.ty "list", .ty "tuple"]) hT
  have p1 := hp.same s1
  obtain ⟨ty, any, hty⟩ := p1.ty
  refine ⟨_, T, _, _, [.type "list", .type "tuple"], true, rfl, upd_same, .cons (.ty _) (.cons (.ty _) .nil), any.ty, kit_seq any hty, _, rfl, iteF ?_⟩
  generalize upd H T (.tup [.ty "list", .ty "tuple"]) = H1 at s1 p1 ⊢
  try rw [← xLc_eq]
  try rw [← xScN_eq]
  show xLc (fun σ H R => iList K (tVar 0) σ H R ∨ iTup K (tVar 0) σ H R) (gName 1) tYes (tCall (spIsPair K) [] E0 (tCons (tVar 1) tNil)) [1] [some (.ref a), none, none, none] H1 _
  try rw [xLc_eq]
  try rw [xScN_eq]
  refine lc_pairs (K := K) (a := a) (ps := ps) (fun _ => .bl true) (fun R r => ⟨_, rfl, r⟩) p1 hl (fun t p H2 R s2 m2 at2 r => ?_) (fun D H2 hD s2 d2 => ?_)
  · exact ⟨rfl, _, rfl, _, _, rfl, val2_tup at2, r⟩
  have all : (ps.map fun _ => V.bl true) = (ps.map fun _ => true).map V.bl := by rw [List.map_map] <;> rfl
  rw [all] at d2
  have tr : (ps.map fun _ => true).all id = true := by
    rw [List.all_map]
    exact List.all_eq_true.mpr fun _ _ => rfl
  refine ⟨D, _, rfl, SqL.of d2, _, rfl, ?_⟩
  rw [tr]
  refine iteF ?_
  have p2 := p1.same s2
  try rw [← xLc_eq]
  try rw [← xScN_eq]
  show xScN w (fun σ H R => iList K (tVar 0) σ H R ∨ iTup K (tVar 0) σ H R) (gTup K 2 (gCons (gName 2) (gCons (gName 3) gNil))) tYes (tVar 2) [2, 3] [some (.ref a), none, none, none] H2 _
  try rw [xLc_eq]
  try rw [xScN_eq]
  refine sc_pairs (K := K) (a := a) (ps := ps) Prod.fst (fun R r => ⟨_, rfl, r⟩) p2 hl hd (fun t p H3 R s3 m3 at3 r => ?_) (fun D3 H3 S hD3 s3 d3 => ?_)
  · exact ⟨t, _, rfl, SqT.of at3, rfl, _, _, rfl, _, _, rfl, rfl, rfl, _, rfl, r⟩
  obtain ⟨ys, hys, ylen⟩ := (p2.same s3).len
  refine ⟨D3, S, _, rfl, d3, _, rfl, a, ys, rfl, hys, rfl, ?_⟩
  show Q (.bl (decide (V.int (ps.length : Int) = V.int (ys.length : Int)))) H3
  rw [ylen, decide_eq_true rfl]
  exact q H3 (s1.trans (s2.trans s3))
def t_is_wide_box (K : PySem.W.Frag) : TS := tSeq (tIfS (tNot (tB (tCall (spBetween K) [] E0 (tCons (tVar 0) (tCons (tC (.int (-60))) (tCons (tC (.int 60)) (tNil)))))))
  (tRet (tC (.bl false)))
  (tNext))
  (tRet (tCall (spBetween K) [] E0 (tCons (tVar 1) (tCons (tC (.int 2)) (tCons (tC (.int 9)) (tNil))))))
def cap (ks : List (Int × Int)) (i : Int) : Int := (ks.lookup i).getD 1
def sizeOk (p : Int × Int) : Prop := (-60 ≤ p.1 ∧ p.1 ≤ 60) ∧ 2 ≤ p.2 ∧ p.2 ≤ 9
def spAreCapacities (K : PySem.W.Frag) : Sp := fun vs H Q _ => ∃ a ps, vs = [.ref a] ∧ PairsAt K H a ps ∧ (ps.map Prod.fst).Nodup ∧ ps.length ≤ 6 ∧ (∀ p ∈ ps, sizeOk p) ∧ ∀ H', Same H H' → Q (.bl true) H'
def kvsOf (ps : List (Int × Int)) : List (Key × V) := ps.map fun p => (.inl p.1, .int p.2)
theorem merge_new : ∀ (ps : List (Int × Int)) (acc : List (Key × V)), (ps.map Prod.fst).Nodup → (∀ p ∈ ps, (acc.any fun kv => decide (kv.1 = .inl p.1)) = false) → mergeK acc (kvsOf ps) = acc ++ kvsOf ps
  | [], acc, _, _ => (List.append_nil acc).symm
  | p :: ps, acc, nd, h => by
    have nd' := List.nodup_cons.mp nd
    show mergeK (putK acc (.inl p.1) (.int p.2)) (kvsOf ps) = _
    have e : putK acc (.inl p.1) (.int p.2) = acc ++ [(.inl p.1, .int p.2)] := by
      unfold putK
      rw [h p List.mem_cons_self]
      rfl
    rw [e, merge_new ps _ nd'.2 fun q hq => ?_, List.append_assoc]
    · rfl
    · rw [List.any_append, h q (List.mem_cons_of_mem _ hq)]
      show (decide ((Sum.inl p.1 : Key) = .inl q.1) || false) = false
      rw [Bool.or_false]
      refine decide_eq_false fun z => nd'.1 ?_
      rw [Sum.inl.inj z]
      exact List.mem_map_of_mem hq
theorem merge_pairs {ps : List (Int × Int)} (nd : (ps.map Prod.fst).Nodup) : mergeK [] (kvsOf ps) = kvsOf ps := merge_new ps [] nd fun _ _ => rfl
theorem val_pairs (i : Int) : ∀ ps : List (Int × Int), valV (kvsOf ps) (.inl i) = (ps.lookup i).map V.int
  | [] => rfl
  | p :: ps => by
    obtain ⟨j, n⟩ := p
    show valV ((.inl j, .int n) :: kvsOf ps) (.inl i) = _
    rw [List.lookup_cons]
    by_cases e : i = j
    · subst e
      rw [valV_pos rfl, beq_self_eq_true]
      rfl
    · rw [valV_neg (fun z => e (Sum.inl.inj z).symm), val_pairs i ps, beq_eq_false_iff_ne.mpr e]
theorem paired_kvs {K : PySem.W.Frag} {H : Hp} : ∀ {ts : List Addr} {ps : List (Int × Int)}, Paired (TupAt H) ts ps → Paired (fun p (kv : Key × V) => SqT K H p [kV kv.1, kv.2]) ts (kvsOf ps)
  | _, _, .nil => .nil
  | _, _, .cons h t => .cons (SqT.of h) (paired_kvs t)
theorem PairsAt.dict {K : PySem.W.Frag} {H : Hp} {a : Addr} {ps : List (Int × Int)} {Q : VK} (h : PairsAt K H a ps) (nd : (ps.map Prod.fst).Nodup) (q : ∀ p, H p = none → Q (.ref p) (upd H p (.dK (kvsOf ps)))) : qDictOf K [.ref a] H Q := by
  obtain ⟨ts, h1, h2⟩ := h
  have z : ∀ p, H p = none → Q (.ref p) (upd H p (.dK (mergeK [] (kvsOf ps)))) := by
    rw [merge_pairs nd]
    exact q
  cases h1 with
  | inl h1 => exact .inl ⟨a, ts, _, rfl, h1, paired_kvs h2, z⟩
  | inr h1 => exact .inr ⟨a, ts, _, rfl, h1, paired_kvs h2, z⟩
@[irreducible] def xDictOf := @qDictOf
theorem xDictOf_eq : @xDictOf = @qDictOf := by
  unfold xDictOf
  rfl
def spAreContents (K : PySem.W.Frag) : Sp := fun vs H Q _ => ∃ a b ps ks, vs = [.ref a, .ref b] ∧ PairsAt K H a ps ∧ PairsAt K H b ks ∧ (ps.map Prod.fst).Nodup ∧ (ks.map Prod.fst).Nodup ∧ ps.length ≤ 1000 ∧ (∀ p ∈ ps, 1 ≤ p.2 ∧ p.2 ≤ cap ks p.1) ∧ (ps.map Prod.snd).sum ≤ 40 ∧ ∀ H', Same H H' → Q (.bl true) H'
def t_are_contents (K : PySem.W.Frag) : TS := tSeq (tIfS (tNot (tB (tCall (spArePairs K) [] E0 (tCons (tVar 0) (tNil)))))
  (tRet (tC (.bl false)))
  (tNext))
  (tSeq (tAsg (tCB (qDictOf K) (tCons (tVar 1) (tNil))) (gName 2))
  (tSeq (tIfS (tNot (tB (tCB (rAll K) (tCons (tLc ((fun σ H R => iList K (tVar 0) σ H R ∨ iTup K (tVar 0) σ H R)) (gTup K 2 (gCons (gName 3) (gCons (gName 4) (gNil)))) (tYes) (tChain qLe qLe (tC (.int 1)) (tVar 4) (tDGet2 (tVar 2) (tVar 3) (tC (.int 1)))) [3, 4]) (tNil)))))
  (tRet (tC (.bl false)))
  (tNext))
  (tRet (tOp qLe (tCB (rSum K) (tCons (tLc ((fun σ H R => iList K (tVar 0) σ H R ∨ iTup K (tVar 0) σ H R)) (gTup K 2 (gCons (gName 5) (gCons (gName 4) (gNil)))) (tYes) (tVar 4) [4, 5]) (tNil))) (tC (.int 40))))))
theorem pure_are_contents {K : PySem.W.Frag} (vs : List V) (H : Hp) (Q : VK) (E : XK) (h : spAreContents K vs H Q E) : t_are_contents K { nx := fun _ H' => Q .non H', rt := Q } (start ["value", "capacities", "wide", "index", "count", "_"] vs) H := by
  obtain ⟨a, b, ps, ks, rfl, hp, hk, hd, hdk, hl, hc, hsum, q⟩ := h
  refine ⟨_, rfl, a, ps, rfl, hp, hd, hl, fun H1 s1 => ⟨_, rfl, iteF ⟨_, rfl, ?_⟩⟩⟩
  try rw [← xLc_eq]
  try rw [← xScN_eq]
  try rw [← xDictOf_eq]
  show xDictOf K [.ref b] H1 _
  try rw [xLc_eq]
  try rw [xScN_eq]
  try rw [xDictOf_eq]
  refine (hk.same s1).dict hdk fun W hW => ?_
  have s2 := same_new (o := .dK (kvsOf ks)) hW
  have dW : upd H1 W (.dK (kvsOf ks)) W = some (.dK (kvsOf ks)) := upd_same
  generalize upd H1 W (.dK (kvsOf ks)) = H2 at s2 dW ⊢
  have p2 := (hp.same s1).same s2
  try rw [← xLc_eq]
  try rw [← xScN_eq]
  try rw [← xDictOf_eq]
  show xLc (fun σ H R => iList K (tVar 0) σ H R ∨ iTup K (tVar 0) σ H R) (gTup K 2 (gCons (gName 3) (gCons (gName 4) gNil))) tYes (tChain qLe qLe (tC (.int 1)) (tVar 4) (tDGet2 (tVar 2) (tVar 3) (tC (.int 1)))) [3, 4] [some (.ref a), some (.ref b), some (.ref W), none, none, none] H2 _
  try rw [xLc_eq]
  try rw [xScN_eq]
  try rw [xDictOf_eq]
  refine lc_pairs (K := K) (a := a) (ps := ps) (fun _ => .bl true) (fun R r => ⟨_, rfl, r⟩) p2 hl (fun t p H3 R s3 m3 at3 r => ?_) (fun D H3 hD s3 d3 => ?_)
  · refine ⟨t, _, rfl, SqT.of at3, rfl, _, _, rfl, _, _, rfl, rfl, rfl, ?_⟩
    obtain ⟨h1, h2⟩ := hc p m3
    have dW3 := s3 _ _ dW
    have gv : (valV (kvsOf ks) (.inl p.1)).getD (.int 1) = .int (cap ks p.1) := by
      rw [val_pairs]
      unfold cap
      cases ks.lookup p.1 <;> rfl
    refine chain_le (i := 1) (j := p.2) (k := cap ks p.1) (fun R r => r) (fun R r => ⟨_, rfl, r⟩) (fun R r => ⟨_, rfl, W, rfl, .inl ⟨_, .inl dW3⟩, _, rfl, _, DGet.k (k := .inl p.1) dW3, (by rw [gv]; exact r)⟩) ?_
    rw [decide_eq_true h1, decide_eq_true h2]
    exact r
  have all : (ps.map fun _ => V.bl true) = (ps.map fun _ => true).map V.bl := by rw [List.map_map] <;> rfl
  rw [all] at d3
  have tr : (ps.map fun _ => true).all id = true := by
    rw [List.all_map]
    exact List.all_eq_true.mpr fun _ _ => rfl
  refine ⟨D, _, rfl, SqL.of d3, _, rfl, ?_⟩
  rw [tr]
  refine iteF ?_
  have p3 := p2.same s3
  try rw [← xLc_eq]
  try rw [← xScN_eq]
  try rw [← xDictOf_eq]
  show xLc (fun σ H R => iList K (tVar 0) σ H R ∨ iTup K (tVar 0) σ H R) (gTup K 2 (gCons (gName 5) (gCons (gName 4) gNil))) tYes (tVar 4) [4, 5] [some (.ref a), some (.ref b), some (.ref W), none, none, none] H3 _
  try rw [xLc_eq]
  try rw [xScN_eq]
  try rw [xDictOf_eq]
  refine lc_pairs (K := K) (a := a) (ps := ps) (fun p => .int p.2) (fun R r => ⟨_, rfl, r⟩) p3 hl (fun t p H4 R s4 m4 at4 r => ?_) (fun D4 H4 hD4 s4 d4 => ?_)
  · exact ⟨t, _, rfl, SqT.of at4, rfl, _, _, rfl, _, _, rfl, rfl, rfl, _, rfl, r⟩
  have e4 : (ps.map fun p => V.int p.2) = (ps.map Prod.snd).map V.int := by rw [List.map_map] <;> rfl
  rw [e4] at d4
  refine ⟨D4, _, rfl, SqL.of d4, _, _, rfl, rfl, ?_⟩
  show Q (.bl (decide ((ps.map Prod.snd).sum ≤ 40))) H4
  rw [decide_eq_true hsum]
  exact q H4 (s1.trans (s2.trans (s3.trans s4)))
end SR
set_option Elab.async false
set_option linter.all false
set_option maxRecDepth 100000
set_option maxHeartbeats 4000000
namespace SR
open PySem PySem.Spec PyProof.Rows L2
/-- the pair that stands at a reference -/
def pk (H : Hp) : V → Int × Int
  | .ref t => (match H t with
    | some (.tup [.int i, .int j]) => (i, j)
    | _ => (0, 0))
  | _ => (0, 0)
theorem pk_at {H : Hp} {t : Addr} {p : Int × Int} (h : TupAt H t p) : pk H (.ref t) = p := by
  unfold TupAt at h
  show (match H t with
    | some (.tup [.int i, .int j]) => (i, j)
    | _ => (0, 0)) = p
  rw [h]
theorem paired_mem {α β : Type} {F : α → β → Prop} : ∀ {xs : List α} {ys : List β}, Paired F xs ys → ∀ x ∈ xs, ∃ y ∈ ys, F x y
  | _, _, .nil, _, m => nomatch m
  | _, _, .cons h t, x, m => by
    rcases List.mem_cons.mp m with rfl | m
    · exact ⟨_, List.mem_cons_self, h⟩
    · obtain ⟨y, hy, f⟩ := paired_mem t x m
      exact ⟨y, List.mem_cons_of_mem _ hy, f⟩
theorem paired_map {H : Hp} : ∀ {ts : List Addr}, (∀ t ∈ ts, TupAt H t (pk H (.ref t))) → Paired (TupAt H) ts (ts.map fun t => pk H (.ref t))
  | [], _ => .nil
  | t :: ts, h => .cons (h t List.mem_cons_self) (paired_map fun u m => h u (List.mem_cons_of_mem _ m))
theorem paired_eq {H : Hp} : ∀ {ts : List Addr} {ps : List (Int × Int)}, Paired (TupAt H) ts ps → ps = ts.map fun t => pk H (.ref t)
  | _, _, .nil => rfl
  | _, _, .cons h t => by rw [List.map_cons, pk_at h, ← paired_eq t]
theorem all_refs : ∀ {ys : List V}, (∀ y ∈ ys, ∃ t, y = V.ref t) → ∃ ts : List Addr, ys = ts.map V.ref
  | [], _ => ⟨[], rfl⟩
  | y :: ys, h => by
    obtain ⟨t, rfl⟩ := h y List.mem_cons_self
    obtain ⟨ts, rfl⟩ := all_refs fun z m => h z (List.mem_cons_of_mem _ m)
    exact ⟨t :: ts, rfl⟩
/-- in the order of the first numbers -/
def Asc (ps : List (Int × Int)) : Prop := ps.Pairwise fun p q => p.1 < q.1
theorem asc_of {k : V → Int × Int} {ys : List V} (h : SrtO.Srtd (ltP k) ys) (nd : (ys.map fun y => (k y).1).Nodup) : Asc (ys.map k) := by
  unfold Asc
  rw [List.pairwise_map]
  have nd' : ys.Pairwise fun x y => (k x).1 ≠ (k y).1 := List.pairwise_map.mp nd
  refine (List.Pairwise.and h nd').imp fun {x y} z => ?_
  obtain ⟨z1, z2⟩ := z
  have := SrtO.lexB_no.mp z1
  omega
theorem sorted_out {H : Hp} {ts : List Addr} {ps : List (Int × Int)} (hp : Paired (TupAt H) ts ps) (nd : (ps.map Prod.fst).Nodup) {ys : List V} (h1 : SrtO.Srtd (ltP (pk H)) ys) (h2 : SrtO.Stb (ltP (pk H)) ys (ts.map V.ref)) :
    ∃ us qs, ys = us.map V.ref ∧ Paired (TupAt H) us qs ∧ qs.Perm ps ∧ Asc qs := by
  have rf : ∀ y ∈ ys, ∃ t ∈ ts, y = V.ref t := fun y m => by
    obtain ⟨t, ht, e⟩ := List.mem_map.mp (h2.perm.mem_iff.mp m)
    exact ⟨t, ht, e.symm⟩
  obtain ⟨us, rfl⟩ := all_refs fun y m => let ⟨t, _, e⟩ := rf y m; ⟨t, e⟩
  have ups : us.Perm ts := by
    have z := h2.perm.map (fun v => match v with | V.ref t => t | _ => 0)
    rw [List.map_map, List.map_map] at z
    exact (List.map_id us).symm ▸ (List.map_id ts) ▸ z
  have at_ : ∀ t ∈ us, TupAt H t (pk H (.ref t)) := fun t m => by
    obtain ⟨p, _, hat⟩ := paired_mem hp t (ups.mem_iff.mp m)
    rw [pk_at hat]
    exact hat
  have e := paired_eq hp
  have perm : (us.map fun t => pk H (.ref t)).Perm ps := by
    rw [e]
    exact ups.map _
  refine ⟨us, us.map fun t => pk H (.ref t), rfl, paired_map at_, perm, ?_⟩
  have nd2 : ((us.map V.ref).map fun y => (pk H y).1).Nodup := by
    have z := (perm.map Prod.fst).nodup_iff.mpr nd
    rw [List.map_map] at z ⊢
    exact z
  have z := asc_of h1 nd2
  rw [List.map_map] at z
  exact z
theorem PairsAt.sorted {K : PySem.W.Frag} {H : Hp} {a : Addr} {ps : List (Int × Int)} {Q : VK} (h : PairsAt K H a ps) (nd : (ps.map Prod.fst).Nodup)
    (q : ∀ l us qs, H l = none → Paired (TupAt H) us qs → qs.Perm ps → Asc qs → Q (.ref l) (upd H l (.lst (us.map V.ref)))) : qSorted K [.ref a] H Q := by
  obtain ⟨ts, h1, h2⟩ := h
  have it : ∀ x ∈ ts.map V.ref, ∃ t, x = V.ref t ∧ H t = some (.tup [.int (pk H x).1, .int (pk H x).2]) := fun x m => by
    obtain ⟨t, ht, rfl⟩ := List.mem_map.mp m
    obtain ⟨p, _, hat⟩ := paired_mem h2 t ht
    refine ⟨t, rfl, ?_⟩
    rw [pk_at hat]
    exact hat
  have out : ∀ ys p, SrtO.Srtd (ltP (pk H)) ys → SrtO.Stb (ltP (pk H)) ys (ts.map V.ref) → H p = none → Q (.ref p) (upd H p (.lst ys)) := fun ys p a1 a2 a3 => by
    obtain ⟨us, qs, rfl, b1, b2, b3⟩ := sorted_out h2 nd a1 a2
    exact q p us qs a3 b1 b2 b3
  cases h1 with
  | inl h1 => exact .inl ⟨a, _, pk H, rfl, h1, it, out⟩
  | inr h1 => exact .inr ⟨a, _, pk H, rfl, h1.sq, it, out⟩
/-- the fields of a row -/
def rowFs (c k d e : Addr) : List (Str × V) := [("_contents", .ref c), ("_capacities", .ref k), ("_count_at", .ref d), ("_capacity_at", .ref e)]
/-- at x there stands a row, of the items ps and the wide boxes ks, both ascending -/
def RowAt (K : PySem.W.Frag) (C : Addr) (H : Hp) (x : Addr) (ps ks : List (Int × Int)) : Prop := ∃ dx c k d e ps0 ks0, H x = some (.ins C dx (rowFs c k d e)) ∧ (∃ ts, Bare H c (ts.map V.ref) ∧ Paired (TupAt H) ts ps) ∧ (∃ ts, Bare H k (ts.map V.ref) ∧ Paired (TupAt H) ts ks) ∧
  H d = some (.dK (kvsOf ps0)) ∧ H e = some (.dK (kvsOf ks0)) ∧ ps.Perm ps0 ∧ ks.Perm ks0
/-- what a row may hold -/
structure RowOk (ps ks : List (Int × Int)) : Prop where
  nd : (ps.map Prod.fst).Nodup
  kd : (ks.map Prod.fst).Nodup
  kl : ks.length ≤ 6
  ko : ∀ p ∈ ks, sizeOk p
  po : ∀ p ∈ ps, 1 ≤ p.2 ∧ p.2 ≤ cap ks p.1
  sm : (ps.map Prod.snd).sum ≤ 40
theorem len_sum : ∀ {ps : List (Int × Int)}, (∀ p ∈ ps, 1 ≤ p.2) → (ps.length : Int) ≤ (ps.map Prod.snd).sum
  | [], _ => Int.le_refl _
  | p :: ps, h => by
    have h1 := h p List.mem_cons_self
    have h2 := len_sum fun q m => h q (List.mem_cons_of_mem _ m)
    rw [List.map_cons, List.sum_cons, List.length_cons]
    omega
theorem RowOk.len {ps ks : List (Int × Int)} (h : RowOk ps ks) : ps.length ≤ 40 := by
  have h1 := len_sum fun p m => (h.po p m).1
  have h2 := h.sm
  omega
/-- all but x and its dict stay -/
def SameBut (x : Addr) (H H' : Hp) : Prop := ∀ b o, b ≠ x → H b = some o → H' b = some o
structure RowC (K : PySem.W.Frag) (C : Addr) : Prop where
  cls : Cls K C
  n1 : NoAttr K C "_contents"
  n2 : NoAttr K C "_capacities"
  n3 : NoAttr K C "_count_at"
  n4 : NoAttr K C "_capacity_at"
def spRowInit (K : PySem.W.Frag) (C : Addr) : Sp := fun vs H Q _ => ∃ x a b dx ps ks, vs = [.ref x, .ref a, .ref b] ∧ H x = some (.ins C dx []) ∧ PairsAt K H a ps ∧ PairsAt K H b ks ∧ RowOk ps ks ∧
  ∀ H' qs ls, SameBut x H H' → RowAt K C H' x qs ls → qs.Perm ps → ls.Perm ks → Asc qs → Asc ls → Q .non H'
def t_Row_init (K : PySem.W.Frag) : TS := tSeq (tIfS (tNot (tB (tCall (spAreCapacities K) [] E0 (tCons (tVar 2) (tNil)))))
  ((fun _ _ _ => False))
  (tNext))
  (tSeq (tIfS (tNot (tB (tCall (spAreContents K) [] E0 (tCons (tVar 1) (tCons (tVar 2) (tNil))))))
  ((fun _ _ _ => False))
  (tNext))
  (tSeq (sFld K (tVar 0) (tCB (qTupOf K) (tCons (tCB (qSorted K) (tCons (tVar 1) (tNil))) (tNil))) "_contents")
  (tSeq (sFld K (tVar 0) (tCB (qTupOf K) (tCons (tCB (qSorted K) (tCons (tVar 2) (tNil))) (tNil))) "_capacities")
  (tSeq (sFld K (tVar 0) (tCB (qDictOf K) (tCons (tVar 1) (tNil))) "_count_at")
  (sFld K (tVar 0) (tCB (qDictOf K) (tCons (tVar 2) (tNil))) "_capacity_at")))))
def fs1 (c : Addr) : List (Str × V) := [("_contents", .ref c)]
def fs2 (c e : Addr) : List (Str × V) := [("_contents", .ref c), ("_capacities", .ref e)]
def fs3 (c e d : Addr) : List (Str × V) := [("_contents", .ref c), ("_capacities", .ref e), ("_count_at", .ref d)]
theorem put1 (c : Addr) : putF "_contents" (.ref c) [] = fs1 c := rfl
theorem putNe {f g : Str} {v x : V} {r : List (Str × V)} (h : ¬ g = f) : putF f v ((g, x) :: r) = (g, x) :: putF f v r := by
  rw [putF, if_neg h]
theorem put2 (c e : Addr) : putF "_capacities" (.ref e) (fs1 c) = fs2 c e := by
  unfold fs1 fs2
  rw [putNe (by decide)]
  rfl
theorem put3 (c e d : Addr) : putF "_count_at" (.ref d) (fs2 c e) = fs3 c e d := by
  unfold fs2 fs3
  rw [putNe (by decide), putNe (by decide)]
  rfl
theorem put4 (c e d g : Addr) : putF "_capacity_at" (.ref g) (fs3 c e d) = rowFs c e d g := by
  unfold fs3 rowFs
  rw [putNe (by decide), putNe (by decide), putNe (by decide)]
  rfl
@[irreducible] def xSorted := @qSorted
theorem xSorted_eq : @xSorted = @qSorted := by
  unfold xSorted
  rfl
def NoIns (o : HO) : Prop := ∀ C dx fs, o ≠ .ins C dx fs
theorem SameBut.keep {x : Addr} {H H' : Hp} (s : SameBut x H H') {C dx : Addr} {fs : List (Str × V)} (hx : H x = some (.ins C dx fs)) {b : Addr} {o : HO} (h : H b = some o) (ho : NoIns o) : H' b = some o := s b o (fun e => by
  rw [e, hx] at h
  exact ho _ _ _ (Option.some.inj h).symm) h
theorem Same.but {x : Addr} {H H' : Hp} (s : Same H H') : SameBut x H H' := fun b o _ h => s b o h
theorem SameBut.trans {x : Addr} {H H1 H2 : Hp} (s : SameBut x H H1) (t : SameBut x H1 H2) : SameBut x H H2 := fun b o e h => t b o e (s b o e h)
theorem but_upd {x : Addr} {H : Hp} {o : HO} : SameBut x H (upd H x o) := fun b u e h => (upd_ne e).trans h
theorem SameBut.tups {x : Addr} {H H' : Hp} (s : SameBut x H H') {C dx : Addr} {fs : List (Str × V)} (hx : H x = some (.ins C dx fs)) {ts : List Addr} {ps : List (Int × Int)} (h : Paired (TupAt H) ts ps) : Paired (TupAt H') ts ps :=
  paired_imp (fun t p z => s.keep (o := .tup [.int p.1, .int p.2]) hx z (fun _ _ _ e => nomatch e)) h
theorem SameBut.bare {x : Addr} {H H' : Hp} (s : SameBut x H H') {C dx : Addr} {fs : List (Str × V)} (hx : H x = some (.ins C dx fs)) {a : Addr} {xs : List V} (h : Bare H a xs) : Bare H' a xs :=
  let ⟨o, h1, h2⟩ := h; ⟨o, s.keep hx h1 (fun _ _ _ e => nomatch e), h2⟩
theorem SameBut.pairs {K : PySem.W.Frag} {x : Addr} {H H' : Hp} (s : SameBut x H H') {C dx : Addr} {fs : List (Str × V)} (hx : H x = some (.ins C dx fs)) {a : Addr} {ps : List (Int × Int)} (h : PairsAt K H a ps) : PairsAt K H' a ps := by
  obtain ⟨ts, h1, h2⟩ := h
  refine ⟨ts, ?_, s.tups hx h2⟩
  rcases h1 with ((h1 | ⟨ob, h1⟩) | h1) | h1
  · exact .inl (.inl (.inl (s.keep hx h1 fun _ _ _ e => nomatch e)))
  · exact .inl (.inl (.inr ⟨ob, s.keep hx h1 fun _ _ _ e => nomatch e⟩))
  · exact .inl (.inr h1)
  · exact .inr (h1.imp (s.bare hx) id)
theorem pure_row_init {K : PySem.W.Frag} {C : Addr} (R : RowC K C) (vs : List V) (H : Hp) (Q : VK) (E : XK) (h : spRowInit K C vs H Q E) : t_Row_init K { nx := fun _ H' => Q .non H', rt := Q } (start ["self", "contents", "capacities"] vs) H := by
  obtain ⟨x, a, b, dx, ps, ks, rfl, hx, hp, hk, ok, q⟩ := h
  refine ⟨_, rfl, b, ks, rfl, hk, ok.kd, ok.kl, ok.ko, fun H1 s1 => ⟨_, rfl, iteF ?_⟩⟩
  refine ⟨_, rfl, _, rfl, a, b, ps, ks, rfl, hp.same s1, hk.same s1, ok.nd, ok.kd, (by have := ok.len; omega), ok.po, ok.sm, fun H2 s2 => ⟨_, rfl, iteF ⟨_, rfl, ?_⟩⟩⟩
  replace hp := (hp.same s1).same s2
  replace hk := (hk.same s1).same s2
  replace hx := s2 _ _ (s1 _ _ hx)
  have t2 := s1.trans s2
  clear s1 s2
  try rw [← xDictOf_eq]
  try rw [← xSorted_eq]
  show xSorted K [.ref a] H2 _
  try rw [xDictOf_eq]
  try rw [xSorted_eq]
  refine hp.sorted ok.nd fun l1 us qs hl1 hus pm1 as1 => ?_
  refine ⟨l1, _, rfl, SqL.of upd_same, fun c o hc o1 o2 => ?_⟩
  have s3 := same_new (o := .lst (us.map V.ref)) hl1
  generalize upd H2 l1 (.lst (us.map V.ref)) = H3 at s3 hc ⊢
  have s4 := same_new (o := .frz o (.tup (us.map V.ref))) hc
  have bc : Bare (upd H3 c (.frz o (.tup (us.map V.ref)))) c (us.map V.ref) := ⟨o, upd_same, o1, o2⟩
  generalize upd H3 c (.frz o (.tup (us.map V.ref))) = H4 at s4 bc ⊢
  have s34 := s3.trans s4
  refine ⟨_, rfl, x, C, dx, _, rfl, s34 _ _ hx, R.cls, R.n1, (by show 0 < 1000; decide), ?_⟩
  have hx4 := s34 _ _ hx
  rw [put1]
  have u5 := but_upd (x := x) (H := H4) (o := .ins C dx (fs1 c))
  have hx5 : upd H4 x (.ins C dx (fs1 c)) x = some (.ins C dx (fs1 c)) := upd_same
  have k5 := u5.pairs hx4 (hk.same s34)
  have p5 := u5.pairs hx4 (hp.same s34)
  have bc5 := u5.bare hx4 bc
  have us5 := u5.tups hx4 (paired_imp (fun _ _ z => s34 _ _ z) hus)
  have t5 : SameBut x H (upd H4 x (.ins C dx (fs1 c))) := (Same.but (t2.trans s34)).trans u5
  clear u5 hp hk hx hx4 s34 s3 s4 t2 bc hus hc hl1
  try rw [← xDictOf_eq]
  try rw [← xSorted_eq]
  show tSeq _ _ _ _ (upd H4 x (.ins C dx (fs1 c)))
  try rw [xDictOf_eq]
  try rw [xSorted_eq]
  generalize upd H4 x (.ins C dx (fs1 c)) = H5 at hx5 k5 p5 bc5 us5 t5 ⊢
  -- the wide boxes
  refine ⟨_, rfl, ?_⟩
  try rw [← xDictOf_eq]
  try rw [← xSorted_eq]
  show xSorted K [.ref b] H5 _
  try rw [xDictOf_eq]
  try rw [xSorted_eq]
  refine k5.sorted ok.kd fun l2 ws rs hl2 hws pm2 as2 => ?_
  refine ⟨l2, _, rfl, SqL.of upd_same, fun e o' he o3 o4 => ?_⟩
  have s6 := same_new (o := .lst (ws.map V.ref)) hl2
  generalize upd H5 l2 (.lst (ws.map V.ref)) = H6 at s6 he ⊢
  have s7 := same_new (o := .frz o' (.tup (ws.map V.ref))) he
  have be : Bare (upd H6 e (.frz o' (.tup (ws.map V.ref)))) e (ws.map V.ref) := ⟨o', upd_same, o3, o4⟩
  generalize upd H6 e (.frz o' (.tup (ws.map V.ref))) = H7 at s7 be ⊢
  have s57 := s6.trans s7
  have hx7 := s57 _ _ hx5
  refine ⟨_, rfl, x, C, dx, _, rfl, hx7, R.cls, R.n2, (by show 1 < 1000; decide), ?_⟩
  rw [put2]
  have u8 := but_upd (x := x) (H := H7) (o := .ins C dx (fs2 c e))
  have hx8 : upd H7 x (.ins C dx (fs2 c e)) x = some (.ins C dx (fs2 c e)) := upd_same
  have k8 := u8.pairs hx7 (k5.same s57)
  have p8 := u8.pairs hx7 (p5.same s57)
  have bc8 := u8.bare hx7 (bc5.same s57)
  have be8 := u8.bare hx7 be
  have us8 := u8.tups hx7 (paired_imp (fun _ _ z => s57 _ _ z) us5)
  have ws8 := u8.tups hx7 (paired_imp (fun _ _ z => s57 _ _ z) hws)
  have t8 := (t5.trans (Same.but s57)).trans u8
  clear u8 k5 p5 hx5 hx7 s57 s6 s7 t5 bc5 us5 be hws he hl2
  try rw [← xDictOf_eq]
  try rw [← xSorted_eq]
  show tSeq _ _ _ _ (upd H7 x (.ins C dx (fs2 c e)))
  try rw [xDictOf_eq]
  try rw [xSorted_eq]
  generalize upd H7 x (.ins C dx (fs2 c e)) = H8 at hx8 k8 p8 bc8 be8 us8 ws8 t8 ⊢
  -- the dicts
  refine ⟨_, rfl, ?_⟩
  try rw [← xDictOf_eq]
  try rw [← xSorted_eq]
  show xDictOf K [.ref a] H8 _
  try rw [xDictOf_eq]
  try rw [xSorted_eq]
  refine p8.dict ok.nd fun d hd => ?_
  have s9 := same_new (o := .dK (kvsOf ps)) hd
  have d9 : upd H8 d (.dK (kvsOf ps)) d = some (.dK (kvsOf ps)) := upd_same
  generalize upd H8 d (.dK (kvsOf ps)) = H9 at s9 d9 ⊢
  have hx9 := s9 _ _ hx8
  refine ⟨_, rfl, x, C, dx, _, rfl, hx9, R.cls, R.n3, (by show 2 < 1000; decide), ?_⟩
  rw [put3]
  have u10 := but_upd (x := x) (H := H9) (o := .ins C dx (fs3 c e d))
  have hx10 : upd H9 x (.ins C dx (fs3 c e d)) x = some (.ins C dx (fs3 c e d)) := upd_same
  have k10 := u10.pairs hx9 (k8.same s9)
  have bc10 := u10.bare hx9 (bc8.same s9)
  have be10 := u10.bare hx9 (be8.same s9)
  have us10 := u10.tups hx9 (paired_imp (fun _ _ z => s9 _ _ z) us8)
  have ws10 := u10.tups hx9 (paired_imp (fun _ _ z => s9 _ _ z) ws8)
  have d10 := u10.keep hx9 d9 fun _ _ _ e => nomatch e
  have t10 := (t8.trans (Same.but s9)).trans u10
  clear u10 k8 p8 hx8 hx9 s9 t8 bc8 us8 be8 ws8 d9 hd
  try rw [← xDictOf_eq]
  try rw [← xSorted_eq]
  show sFld K (tVar 0) (tCB (xDictOf K) (tCons (tVar 2) tNil)) "_capacity_at" { nx := fun _ H' => Q .non H', rt := Q } [some (.ref x), some (.ref a), some (.ref b)] (upd H9 x (.ins C dx (fs3 c e d)))
  try rw [xDictOf_eq]
  try rw [xSorted_eq]
  generalize upd H9 x (.ins C dx (fs3 c e d)) = H10 at hx10 k10 bc10 be10 us10 ws10 t10 d10 ⊢
  refine ⟨_, rfl, ?_⟩
  try rw [← xDictOf_eq]
  try rw [← xSorted_eq]
  show xDictOf K [.ref b] H10 _
  try rw [xDictOf_eq]
  try rw [xSorted_eq]
  refine k10.dict ok.kd fun g hg => ?_
  have s11 := same_new (o := .dK (kvsOf ks)) hg
  have g11 : upd H10 g (.dK (kvsOf ks)) g = some (.dK (kvsOf ks)) := upd_same
  generalize upd H10 g (.dK (kvsOf ks)) = H11 at s11 g11 ⊢
  have hx11 := s11 _ _ hx10
  refine ⟨_, rfl, x, C, dx, _, rfl, hx11, R.cls, R.n4, (by show 3 < 1000; decide), ?_⟩
  rw [put4]
  have u12 := but_upd (x := x) (H := H11) (o := .ins C dx (rowFs c e d g))
  refine q _ qs rs ((t10.trans (Same.but s11)).trans u12) ⟨dx, c, e, d, g, ps, ks, upd_same, ⟨us, u12.bare hx11 (bc10.same s11), u12.tups hx11 (paired_imp (fun _ _ z => s11 _ _ z) us10)⟩, ⟨ws, u12.bare hx11 (be10.same s11), u12.tups hx11 (paired_imp (fun _ _ z => s11 _ _ z) ws10)⟩,
    u12.keep hx11 (s11 _ _ d10) (fun _ _ _ e => nomatch e), u12.keep hx11 g11 (fun _ _ _ e => nomatch e), pm1, pm2⟩ pm1 pm2 as1 as2
end SR
set_option Elab.async false
set_option linter.all false
set_option maxRecDepth 100000
set_option maxHeartbeats 4000000
namespace SR
open PySem PySem.Spec PyProof.Rows L2
theorem lookup_none {i : Int} : ∀ {ps : List (Int × Int)}, ps.lookup i = none ↔ i ∉ ps.map Prod.fst
  | [] => ⟨fun _ => List.not_mem_nil, fun _ => rfl⟩
  | (j, n) :: ps => by
    rw [List.lookup_cons, List.map_cons, List.mem_cons]
    by_cases e : i = j
    · subst e
      rw [beq_self_eq_true]
      exact ⟨(fun z => nomatch z), fun z => absurd (Or.inl rfl) z⟩
    · rw [beq_eq_false_iff_ne.mpr e]
      show ps.lookup i = none ↔ _
      rw [lookup_none]
      exact ⟨fun z => fun w => w.elim e z, fun z => fun w => z (.inr w)⟩
theorem lookup_some {i n : Int} : ∀ {ps : List (Int × Int)}, (ps.map Prod.fst).Nodup → (ps.lookup i = some n ↔ (i, n) ∈ ps)
  | [], _ => ⟨(fun z => nomatch z), (fun z => nomatch z)⟩
  | (j, m) :: ps, nd => by
    have nd' := List.nodup_cons.mp nd
    rw [List.lookup_cons, List.mem_cons]
    by_cases e : i = j
    · subst e
      rw [beq_self_eq_true]
      refine ⟨fun z => .inl (by cases z; rfl), fun z => ?_⟩
      rcases z with z | z
      · cases z
        rfl
      · exact absurd (List.mem_map_of_mem (f := Prod.fst) z) nd'.1
    · rw [beq_eq_false_iff_ne.mpr e]
      show ps.lookup i = some n ↔ _
      rw [lookup_some nd'.2]
      exact ⟨.inr, fun z => z.elim (fun w => absurd (congrArg Prod.fst w) e) id⟩
theorem lookup_perm {ps qs : List (Int × Int)} (h : ps.Perm qs) (nd : (ps.map Prod.fst).Nodup) (i : Int) : ps.lookup i = qs.lookup i := by
  have nq : (qs.map Prod.fst).Nodup := (h.map Prod.fst).nodup_iff.mp nd
  cases e : qs.lookup i with
  | none => exact lookup_none.mpr fun m => lookup_none.mp e ((h.map Prod.fst).mem_iff.mp m)
  | some n => exact (lookup_some nd).mpr (h.mem_iff.mpr ((lookup_some nq).mp e))
def cnt (ps : List (Int × Int)) (i : Int) : Int := (ps.lookup i).getD 0
theorem RowAt.same {K : PySem.W.Frag} {C : Addr} {H H' : Hp} {x : Addr} {ps ks : List (Int × Int)} (s : Same H H') (h : RowAt K C H x ps ks) : RowAt K C H' x ps ks := by
  obtain ⟨dx, c, k, d, e, ps0, ks0, h1, ⟨t1, h2, h3⟩, ⟨t2, h4, h5⟩, h6, h7, h8⟩ := h
  exact ⟨dx, c, k, d, e, ps0, ks0, s _ _ h1, ⟨t1, h2.same s, paired_imp (fun _ _ z => s _ _ z) h3⟩, ⟨t2, h4.same s, paired_imp (fun _ _ z => s _ _ z) h5⟩, s _ _ h6, s _ _ h7, h8⟩
/-- what a row gives: its items, its wide boxes -/
def PairsT (H : Hp) (c : Addr) (ps : List (Int × Int)) : Prop := ∃ ts, Bare H c (ts.map V.ref) ∧ Paired (TupAt H) ts ps
theorem PairsT.at {K : PySem.W.Frag} {H : Hp} {c : Addr} {ps : List (Int × Int)} (h : PairsT H c ps) : PairsAt K H c ps := let ⟨ts, h1, h2⟩ := h; ⟨ts, .inr (.inl h1), h2⟩
theorem PairsT.same {H H' : Hp} {c : Addr} {ps : List (Int × Int)} (s : Same H H') (h : PairsT H c ps) : PairsT H' c ps := let ⟨ts, h1, h2⟩ := h; ⟨ts, h1.same s, paired_imp (fun _ _ z => s _ _ z) h2⟩
def spContents (K : PySem.W.Frag) (C : Addr) : Sp := fun vs H Q _ => ∃ x ps ks, vs = [.ref x] ∧ RowAt K C H x ps ks ∧ ∀ c, PairsT H c ps → Q (.ref c) H
def spCapacities (K : PySem.W.Frag) (C : Addr) : Sp := fun vs H Q _ => ∃ x ps ks, vs = [.ref x] ∧ RowAt K C H x ps ks ∧ ∀ c, PairsT H c ks → Q (.ref c) H
def spHeld (K : PySem.W.Frag) (C : Addr) : Sp := fun vs H Q _ => ∃ x i ps ks, vs = [.ref x, .int i] ∧ RowAt K C H x ps ks ∧ (ps.map Prod.fst).Nodup ∧ Q (.int (cnt ps i)) H
def spCapacityOf (K : PySem.W.Frag) (C : Addr) : Sp := fun vs H Q _ => ∃ x i ps ks, vs = [.ref x, .int i] ∧ RowAt K C H x ps ks ∧ (ks.map Prod.fst).Nodup ∧ Q (.int (cap ks i)) H
def t_Row_contents (K : PySem.W.Frag) : TS := tRet (tFld K (tVar 0) "_contents")
def t_Row_capacities (K : PySem.W.Frag) : TS := tRet (tFld K (tVar 0) "_capacities")
def t_Row_held (K : PySem.W.Frag) : TS := tSeq (tIfS (tNot (tB (tCall (spIsInt K) [] E0 (tCons (tVar 1) (tNil)))))
  ((fun _ _ _ => False))
  (tNext))
  (tRet (tDGet2 (tFld K (tVar 0) "_count_at") (tVar 1) (tC (.int 0))))
def t_Row_capacity (K : PySem.W.Frag) : TS := tSeq (tIfS (tNot (tB (tCall (spIsInt K) [] E0 (tCons (tVar 1) (tNil)))))
  ((fun _ _ _ => False))
  (tNext))
  (tRet (tDGet2 (tFld K (tVar 0) "_capacity_at") (tVar 1) (tC (.int 1))))
theorem fl1 (c k d e : Addr) : List.lookup ("_contents" : Str) (rowFs c k d e) = some (V.ref c) := rfl
theorem lkNe {f g : Str} {x : V} {r : List (Str × V)} (h : ¬ f = g) : List.lookup f ((g, x) :: r) = List.lookup f r := by
  rw [List.lookup_cons, beq_eq_false_iff_ne.mpr h]
theorem lkEq {f : Str} {x : V} {r : List (Str × V)} : List.lookup f ((f, x) :: r) = some x := by
  rw [List.lookup_cons, beq_self_eq_true]
theorem fl2 (c k d e : Addr) : List.lookup ("_capacities" : Str) (rowFs c k d e) = some (V.ref k) := by
  unfold rowFs
  rw [lkNe (by decide), lkEq]
theorem fl3 (c k d e : Addr) : List.lookup ("_count_at" : Str) (rowFs c k d e) = some (V.ref d) := by
  unfold rowFs
  rw [lkNe (by decide), lkNe (by decide), lkEq]
theorem fl4 (c k d e : Addr) : List.lookup ("_capacity_at" : Str) (rowFs c k d e) = some (V.ref e) := by
  unfold rowFs
  rw [lkNe (by decide), lkNe (by decide), lkNe (by decide), lkEq]
theorem pure_contents {K : PySem.W.Frag} {C : Addr} (R : RowC K C) (vs : List V) (H : Hp) (Q : VK) (E : XK) (h : spContents K C vs H Q E) : t_Row_contents K { nx := fun _ H' => Q .non H', rt := Q } (start ["self"] vs) H := by
  obtain ⟨x, ps, ks, rfl, ⟨dx, c, k, d, e, ps0, ks0, h1, h2, h3, h4⟩, q⟩ := h
  exact ⟨_, rfl, x, C, dx, _, _, rfl, h1, R.cls, R.n1, fl1 c k d e, q c h2⟩
theorem pure_capacities {K : PySem.W.Frag} {C : Addr} (R : RowC K C) (vs : List V) (H : Hp) (Q : VK) (E : XK) (h : spCapacities K C vs H Q E) : t_Row_capacities K { nx := fun _ H' => Q .non H', rt := Q } (start ["self"] vs) H := by
  obtain ⟨x, ps, ks, rfl, ⟨dx, c, k, d, e, ps0, ks0, h1, h2, h3, h4⟩, q⟩ := h
  exact ⟨_, rfl, x, C, dx, _, _, rfl, h1, R.cls, R.n2, fl2 c k d e, q k h3⟩
theorem pure_held {K : PySem.W.Frag} {C : Addr} (R : RowC K C) (vs : List V) (H : Hp) (Q : VK) (E : XK) (h : spHeld K C vs H Q E) : t_Row_held K { nx := fun _ H' => Q .non H', rt := Q } (start ["self", "index"] vs) H := by
  obtain ⟨x, i, ps, ks, rfl, ⟨dx, c, k, d, e, ps0, ks0, h1, h2, h3, h4, h5, h6, h7⟩, nd, q⟩ := h
  have gv : (valV (kvsOf ps0) (.inl i)).getD (.int 0) = .int (cnt ps i) := by
    rw [val_pairs, ← lookup_perm h6 nd]
    unfold cnt
    cases ps.lookup i <;> rfl
  refine ⟨_, rfl, .int i, _, rfl, .int i, _, rfl, iteF ?_⟩
  exact ⟨_, rfl, x, C, dx, _, _, rfl, h1, R.cls, R.n3, fl3 c k d e, d, rfl, .inl ⟨_, .inl h4⟩, _, rfl, _, DGet.k (k := .inl i) h4, (by rw [gv]; exact q)⟩
theorem pure_capacity_of {K : PySem.W.Frag} {C : Addr} (R : RowC K C) (vs : List V) (H : Hp) (Q : VK) (E : XK) (h : spCapacityOf K C vs H Q E) : t_Row_capacity K { nx := fun _ H' => Q .non H', rt := Q } (start ["self", "index"] vs) H := by
  obtain ⟨x, i, ps, ks, rfl, ⟨dx, c, k, d, e, ps0, ks0, h1, h2, h3, h4, h5, h6, h7⟩, nd, q⟩ := h
  have gv : (valV (kvsOf ks0) (.inl i)).getD (.int 1) = .int (cap ks i) := by
    rw [val_pairs, ← lookup_perm h7 nd]
    unfold cap
    cases ks.lookup i <;> rfl
  refine ⟨_, rfl, .int i, _, rfl, .int i, _, rfl, iteF ?_⟩
  exact ⟨_, rfl, x, C, dx, _, _, rfl, h1, R.cls, R.n4, fl4 c k d e, e, rfl, .inl ⟨_, .inl h5⟩, _, rfl, _, DGet.k (k := .inl i) h5, (by rw [gv]; exact q)⟩
end SR
set_option Elab.async false
set_option linter.all false
set_option maxRecDepth 100000
set_option maxHeartbeats 4000000
namespace SR
open PySem PySem.Spec PyProof.Rows L2
def qSortedD : List V → Hp → VK → Prop := fun xs H Q => ∃ (a : Addr) (kvs : List (Key × V)) (ks : List Int), xs = [.ref a] ∧ Rd H a (.dK kvs) ∧ kvs.map (·.1) = ks.map Sum.inl ∧ ks.length < 64 ∧ ∀ (ys : List Int) (p : Addr), ys.Perm ks → ys.Pairwise (· ≤ ·) → H p = none → Q (.ref p) (upd H p (.lst (ys.map V.int)))
def qDictL (K : PySem.W.Frag) : List V → Hp → VK → Prop := fun xs H Q => ∃ (a : Addr) (ps : List Addr) (kvs : List (Key × V)), xs = [.ref a] ∧ SqL K H a (ps.map V.ref) ∧ Paired (fun p kv => SqT K H p [kV kv.1, kv.2]) ps kvs ∧ ∀ p, H p = none → Q (.ref p) (upd H p (.dK (mergeK [] kvs)))
theorem paired_snoc {α β : Type} {F : α → β → Prop} {x : α} {y : β} (h : F x y) : ∀ {xs : List α} {ys : List β}, Paired F xs ys → Paired F (xs ++ [x]) (ys ++ [y])
  | _, _, .nil => .cons h .nil
  | _, _, .cons z t => .cons z (paired_snoc h t)
theorem with_lookup {fs : List (Int × Int)} (nd : (fs.map Prod.fst).Nodup) : (fs.map Prod.fst).map (fun y => (y, (fs.lookup y).getD 0)) = fs := by
  rw [List.map_map]
  have : ∀ p ∈ fs, ((fun y => (y, (fs.lookup y).getD 0)) ∘ Prod.fst) p = p := fun p m => by
    show (p.1, (fs.lookup p.1).getD 0) = p
    rw [(lookup_some (n := p.2) nd).mpr m]
    rfl
  rw [List.map_congr_left this, List.map_id']
def t_sorted (K : PySem.W.Frag) (f p : Nat) : TE := tCB (qDictL K) (tCons (tLc (iList K (tCB qSortedD (tCons (tVar f) (tNil)))) (gName p) (tYes) (tTup (tCons (tVar p) (tCons (tDGet (tVar f) (tVar p)) (tNil)))) [p]) (tNil))
theorem sorted_dict {K : PySem.W.Frag} {f p : Nat} {F : Addr} {fs : List (Int × Int)} {σ : L2.St} {H : Hp} {Q : VK} (hF : H F = some (.dK (kvsOf fs))) (nd : (fs.map Prod.fst).Nodup) (hl : fs.length < 64)
    (h1 : σ[f]? = some (some (.ref F))) (h2 : ∀ y, ((wipe σ [p]).set p (some y))[f]? = some (some (.ref F))) (h3 : ∀ y, ((wipe σ [p]).set p (some y))[p]? = some (some y)) (h4 : ∀ y, wipe ((wipe σ [p]).set p (some y)) [p] = wipe σ [p])
    (q : ∀ r H' ps, H r = none → Same H H' → H' r = some (.dK (kvsOf ps)) → ps.Perm fs → Asc ps → Q (.ref r) H') : t_sorted K f p σ H Q := by
  have keys : (kvsOf fs).map (·.1) = (fs.map Prod.fst).map Sum.inl := by
    unfold kvsOf
    rw [List.map_map, List.map_map]
    rfl
  refine ⟨_, h1, F, _, _, rfl, .inl hF, keys, (by rw [List.length_map]; exact hl), fun ys l perm pw hlf => ?_⟩
  have s1 := same_new (o := .lst (ys.map V.int)) hlf
  have L1 : upd H l (.lst (ys.map V.int)) l = some (.lst (ys.map V.int)) := upd_same
  generalize upd H l (.lst (ys.map V.int)) = H1 at s1 L1 ⊢
  refine ⟨l, rfl, ⟨_, SqL.of L1⟩, fun D hD => ?_⟩
  have yl : ys.length = fs.length := by rw [perm.length_eq, List.length_map]
  have val : ∀ y ∈ ys, fs.lookup y = some ((fs.lookup y).getD 0) := fun y m => by
    have hm := perm.mem_iff.mp m
    cases e : fs.lookup y with
    | none => exact absurd hm (lookup_none.mp e)
    | some n => rfl
  have ndy : ys.Nodup := perm.nodup_iff.mpr nd
  have pps : (ys.map fun y => (y, (fs.lookup y).getD 0)).Perm fs := by
    have z := perm.map (fun y => (y, (fs.lookup y).getD 0))
    rw [with_lookup nd] at z
    exact z
  have asc : Asc (ys.map fun y => (y, (fs.lookup y).getD 0)) := by
    unfold Asc
    rw [List.pairwise_map]
    refine (List.Pairwise.and pw ndy).imp fun {x y} z => ?_
    have := z.1
    have := z.2
    omega
  refine lc_it (walk_list (K := K) (a := l) (xs := ys.map V.int)) (fun i H2 => Same H1 H2 ∧ ∃ ts, H2 D = some (.lst (ts.map V.ref)) ∧ ts.length = i ∧ Paired (TupAt H2) ts ((ys.map fun y => (y, (fs.lookup y).getD 0)).take i)) ⟨same_new hD, [], upd_same, rfl, .nil⟩ ?_ ?_ ?_
  · rintro i H2 _ ⟨s2, _⟩
    exact SqL.of (s2 _ _ L1)
  · rintro i x H2 H3 hi ⟨s2, ts, d2, tl, pr⟩ ⟨rfl, hx⟩
    rw [List.getElem?_map] at hx
    obtain ⟨y, hy, rfl⟩ := Option.map_eq_some_iff.mp hx
    have hv := val y (List.mem_of_getElem? hy)
    have hF3 := s2 _ _ (s1 _ _ hF)
    have gv : valV (kvsOf fs) (.inl y) = some (.int ((fs.lookup y).getD 0)) := by
      rw [val_pairs, hv]
      rfl
    refine ⟨h4 _, _, h3 _, _, h2 _, _, h3 _, F, _, rfl, (by rw [← gv]; exact DGet.k (k := .inl y) hF3), sz (by show 2 ≤ 1000; decide), fun t ht => ?_⟩
    have s3 := same_new (o := .tup [.int y, .int ((fs.lookup y).getD 0)]) ht
    have T3 : TupAt (upd H3 t (.tup [.int y, .int ((fs.lookup y).getD 0)])) t (y, (fs.lookup y).getD 0) := upd_same
    generalize upd H3 t (.tup [.int y, .int ((fs.lookup y).getD 0)]) = H4 at s3 T3 ⊢
    have d3 := s3 _ _ d2
    have li : i < ys.length := by
      rw [List.length_map] at hi
      exact hi
    have pr3 : Paired (TupAt (upd H4 D (.lst (ts.map V.ref ++ [.ref t])))) (ts ++ [t]) ((ys.map fun y => (y, (fs.lookup y).getD 0)).take (i + 1)) := by
      have tk : (ys.map fun y => (y, (fs.lookup y).getD 0)).take (i + 1) = (ys.map fun y => (y, (fs.lookup y).getD 0)).take i ++ [(y, (fs.lookup y).getD 0)] := by
        rw [List.take_succ, List.getElem?_map, hy]
        rfl
      rw [tk]
      have keep : ∀ {b : Addr} {p : Int × Int}, TupAt H4 b p → TupAt (upd H4 D (.lst (ts.map V.ref ++ [.ref t]))) b p := fun {b p} z => (upd_ne (ne_of z d3 (by intro e; cases e))).trans z
      exact paired_snoc (keep T3) (paired_imp (fun _ _ z => keep (s3 _ _ z)) pr)
    refine ⟨_, d3, ?_, same_upd (s2.trans s3) hD, ts ++ [t], ?_, ?_, pr3⟩
    · rw [List.length_map, tl]
      exact Nat.lt_of_lt_of_le (Nat.lt_of_lt_of_le li (by omega : ys.length ≤ 64)) (by decide)
    · rw [upd_same, List.map_append]
      rfl
    · rw [List.length_append, tl]
      rfl
  · rintro H2 ⟨s2, ts, d2, tl, pr⟩
    have all : (ys.map fun y => (y, (fs.lookup y).getD 0)).take (ys.map V.int).length = ys.map fun y => (y, (fs.lookup y).getD 0) := by
      rw [List.length_map]
      exact List.take_of_length_le (by rw [List.length_map]; exact Nat.le_refl _)
    rw [all] at pr
    refine ⟨D, ts, _, rfl, SqL.of d2, paired_kvs pr, fun r hr => ?_⟩
    have ndp : ((ys.map fun y => (y, (fs.lookup y).getD 0)).map Prod.fst).Nodup := (pps.map Prod.fst).nodup_iff.mpr nd
    rw [merge_pairs ndp]
    have s12 := s1.trans s2
    exact q r _ _ (Same.free s12 hr) (s12.trans (same_new hr)) upd_same pps asc
end SR
set_option Elab.async false
set_option linter.all false
set_option maxRecDepth 100000
set_option maxHeartbeats 4000000
namespace SR
open PySem PySem.Spec PyProof.Rows L2
def putI (fs : List (Int × Int)) (i n : Int) : List (Int × Int) := if i ∈ fs.map Prod.fst then fs.map (fun p => if p.1 = i then (p.1, n) else p) else fs ++ [(i, n)]
theorem any_pairs {i : Int} : ∀ fs : List (Int × Int), ((kvsOf fs).any fun kv => decide (kv.1 = (.inl i : Key))) = decide (i ∈ fs.map Prod.fst)
  | [] => rfl
  | (j, m) :: fs => by
    show (decide ((.inl j : Key) = .inl i) || (kvsOf fs).any _) = _
    rw [any_pairs fs, List.map_cons]
    by_cases e : j = i
    · subst e
      rw [decide_eq_true rfl, Bool.true_or, decide_eq_true List.mem_cons_self]
    · rw [decide_eq_false (fun z => e (Sum.inl.inj z)), Bool.false_or]
      refine decide_eq_decide.mpr ⟨fun z => List.mem_cons_of_mem _ z, fun z => ?_⟩
      rcases List.mem_cons.mp z with z | z
      · exact absurd z.symm e
      · exact z
theorem putK_pairs (fs : List (Int × Int)) (i n : Int) : putK (kvsOf fs) (.inl i) (.int n) = kvsOf (putI fs i n) := by
  unfold putK putI
  rw [any_pairs]
  by_cases h : i ∈ fs.map Prod.fst
  · rw [if_pos (decide_eq_true h), if_pos h]
    unfold kvsOf
    rw [List.map_map, List.map_map]
    refine List.map_congr_left fun p _ => ?_
    show (if (.inl p.1 : Key) = .inl i then _ else _) = _
    by_cases e : p.1 = i
    · rw [if_pos (congrArg Sum.inl e)]
      show _ = (Sum.inl (if p.1 = i then (p.1, n) else p).1, V.int (if p.1 = i then (p.1, n) else p).2)
      rw [if_pos e]
    · rw [if_neg (fun z => e (Sum.inl.inj z))]
      show _ = (Sum.inl (if p.1 = i then (p.1, n) else p).1, V.int (if p.1 = i then (p.1, n) else p).2)
      rw [if_neg e]
  · rw [if_neg (fun z => h (of_decide_eq_true z)), if_neg h]
    unfold kvsOf
    rw [List.map_append]
    rfl
theorem putI_all {P : Int × Int → Prop} {fs : List (Int × Int)} {i n : Int} (h : ∀ p ∈ fs, P p) (hn : P (i, n)) : ∀ p ∈ putI fs i n, P p := by
  unfold putI
  intro p m
  split at m
  · obtain ⟨q, hq, rfl⟩ := List.mem_map.mp m
    split
    · rename_i e
      rw [e]
      exact hn
    · exact h q hq
  · rcases List.mem_append.mp m with m | m
    · exact h p m
    · rw [List.mem_singleton.mp m]
      exact hn
theorem putI_fst {fs : List (Int × Int)} {i n : Int} : (putI fs i n).map Prod.fst = if i ∈ fs.map Prod.fst then fs.map Prod.fst else fs.map Prod.fst ++ [i] := by
  unfold putI
  split
  · rw [List.map_map]
    refine List.map_congr_left fun p _ => ?_
    show (if p.1 = i then (p.1, n) else p).1 = p.1
    split <;> rfl
  · rw [List.map_append]
    rfl
theorem putI_nd {fs : List (Int × Int)} {i n : Int} (h : (fs.map Prod.fst).Nodup) : ((putI fs i n).map Prod.fst).Nodup := by
  rw [putI_fst]
  split
  · exact h
  · rename_i z
    refine List.nodup_append.mpr ⟨h, List.pairwise_singleton _ _, fun a ha b hb e => ?_⟩
    rw [List.mem_singleton.mp hb] at e
    exact z (e ▸ ha)
theorem putI_len {fs : List (Int × Int)} {i n : Int} : (putI fs i n).length ≤ fs.length + 1 := by
  unfold putI
  split
  · rw [List.length_map]
    exact Nat.le_succ _
  · rw [List.length_append]
    exact Nat.le_refl _
theorem dput_pairs {H : Hp} {F : Addr} {fs : List (Int × Int)} {i n : Int} (h : H F = some (.dK (kvsOf fs))) (hl : fs.length < 1000) : DPut H F (.int i) (.int n) (upd H F (.dK (kvsOf (putI fs i n)))) := by
  refine .inl ⟨kvsOf fs, .inl i, h, rfl, ?_, by rw [putK_pairs]⟩
  unfold kvsOf
  rw [List.length_map]
  exact Nat.lt_trans hl (by decide)
/-- drawn sizes -/
def spSizes (K : PySem.W.Frag) : Sp := fun vs H Q _ => ∃ (d g c : Addr) (b : Nat) (n : Int), vs = [.ref d, .int n] ∧ StB H d g c (b + 25) ∧ 0 ≤ n ∧ n ≤ 6 ∧
  ∀ r H' ks, StB H' d g c b → Kp d g H H' → r ≠ d → r ≠ g → r ≠ c → H r = none → H' r = some (.dK (kvsOf ks)) → Asc ks → (∀ p ∈ ks, sizeOk p) → ks.length ≤ 6 → Q (.ref r) H'
def t_szTurn (K : PySem.W.Frag) : TS := sDPut (tVar 2) (tCall (spPick K) [] E0 (tCons (tVar 0) (tCons (tLst (tCons (tOp qSub (tCall spTake [] E0 (tCons (tVar 0) (tCons (tC (.int 12)) (tNil)))) (tC (.int 3))) (tCons (tOp qSub (tCall spTake [] E0 (tCons (tVar 0) (tCons (tC (.int 12)) (tNil)))) (tC (.int 3))) (tCons (tC (.int 60)) (tCons (tUn (rU fun i => .int (-i)) (tC (.int 60))) (tNil)))))) (tNil)))) (tOp qAdd (tC (.int 2)) (tCall spTake [] E0 (tCons (tVar 0) (tCons (tC (.int 8)) (tNil)))))
def t_sizes (K : PySem.W.Frag) : TS := tSeq (tAsg (tDNewK) (gName 2))
  (tSeq (tFor (iRng1 (tCons (tCall spTake [] E0 (tCons (tVar 0) (tCons (tOp qAdd (tVar 1) (tC (.int 1))) (tNil)))) (tNil))) (gName 3)
  (t_szTurn K))
  (tRet (t_sorted K 2 4)))
theorem sz_turn {K : PySem.W.Frag} {H : Hp} {d g c F : Addr} {b : Nat} {fs : List (Int × Int)} {w1 w3 w4 : Option V} {N N2 N3 : L2.St → Hp → Prop} {R : VK} (S : StB H d g c (b + 4)) (hF : H F = some (.dK (kvsOf fs))) (f1 : F ≠ d) (f2 : F ≠ g) (f3 : F ≠ c) (hl : fs.length < 100)
    (hN : ∀ H' i n, StB H' d g c b → (∀ x o, x ≠ F → x ≠ d → x ≠ g → H x = some o → H' x = some o) → H' F = some (.dK (kvsOf (putI fs i n))) → sizeOk (i, n) → N [some (.ref d), w1, some (.ref F), w3, w4] H') :
    t_szTurn K { nx := N, rt := R, bk := N2, ct := N3 } [some (.ref d), w1, some (.ref F), w3, w4] H := by
  refine ⟨_, rfl, d, g, c, b + 3, 8, rfl, S, by decide, by decide, fun n H1 n0 n1 S1 q1 => ⟨_, _, rfl, rfl, ?_⟩⟩
  refine ⟨_, rfl, _, rfl, _, rfl, d, g, c, b + 2, 12, rfl, S1, by decide, by decide, fun i H2 i0 i1 S2 q2 => ⟨_, _, rfl, rfl, ?_⟩⟩
  refine ⟨_, rfl, d, g, c, b + 1, 12, rfl, S2, by decide, by decide, fun j H3 j0 j1 S3 q3 => ⟨_, _, rfl, rfl, 60, rfl, sz (by show 4 ≤ 1000; decide), fun l hl => ?_⟩⟩
  obtain ⟨l1, l2, l3⟩ := S3.off hl
  refine ⟨d, g, c, b, l, _, rfl, S3.new hl, SqL.of upd_same, l1, l2, by show 0 < 4; decide, by show 4 < 1000; decide, fun v H4 hv S4 q4 => ?_⟩
  obtain ⟨k, rfl, k1, k2⟩ : ∃ k : Int, v = .int k ∧ -60 ≤ k ∧ k ≤ 60 := by
    simp only [List.mem_cons, List.not_mem_nil, or_false] at hv
    rcases hv with rfl | rfl | rfl | rfl
    · exact ⟨_, rfl, by omega, by omega⟩
    · exact ⟨_, rfl, by omega, by omega⟩
    · exact ⟨_, rfl, by decide, by decide⟩
    · exact ⟨_, rfl, by decide, by decide⟩
  clear hv
  have k4 : Kp d g H H4 := q1.trans (q2.trans (q3.trans ((Kp.new hl).trans q4)))
  have F4 := k4 _ _ f1 f2 hF
  refine ⟨F, _, rfl, dput_pairs F4 (by omega), ?_⟩
  refine hN _ k (2 + n) (S4.upd f1 f2 f3) (fun x o e0 e1 e2 hx => (upd_ne e0).trans (k4 _ _ e1 e2 hx)) upd_same ⟨⟨k1, k2⟩, by show 2 ≤ 2 + n; omega, by show 2 + n ≤ 9; omega⟩
theorem pure_sizes {K : PySem.W.Frag} (vs : List V) (H : Hp) (Q : VK) (E : XK) (h : spSizes K vs H Q E) : t_sizes K { nx := fun _ H' => Q .non H', rt := Q } (start ["state", "most", "found", "turn", "place"] vs) H := by
  obtain ⟨d, g, c, b, n, rfl, S, n0, n1, q⟩ := h
  intro F hF
  obtain ⟨f1, f2, f3⟩ := S.off hF
  have S1 := S.new (o := .dK []) hF
  have D1 : upd H F (.dK []) F = some (.dK (kvsOf [])) := upd_same
  have K1 : ∀ x o, x ≠ F → x ≠ d → x ≠ g → H x = some o → upd H F (.dK []) x = some o := fun x o e _ _ hx => (upd_ne e).trans hx
  generalize upd H F (.dK []) = H1 at S1 D1 K1 ⊢
  refine ⟨_, rfl, _, rfl, _, _, rfl, rfl, d, g, c, b + 24, n + 1, rfl, S1, by omega, by omega, fun t H2 t0 t1 S2 q2 => ⟨t, rfl, by omega, by omega, ?_⟩⟩
  refine for_range (lo := 0) (n := t.toNat) (fun i σ H3 => StB H3 d g c (b + 24 - 4 * i) ∧ (∃ fs, H3 F = some (.dK (kvsOf fs)) ∧ (fs.map Prod.fst).Nodup ∧ (∀ p ∈ fs, sizeOk p) ∧ fs.length ≤ i) ∧ (∀ x o, x ≠ F → x ≠ d → x ≠ g → H x = some o → H3 x = some o) ∧ ∃ w3 w4, σ = [some (.ref d), some (.int n), some (.ref F), w3, w4])
    ⟨S2, ⟨[], q2 _ _ f1 f2 D1, List.nodup_nil, (fun p m => nomatch m), Nat.le_refl _⟩, fun x o e0 e1 e2 hx => q2 _ _ e1 e2 (K1 x o e0 e1 e2 hx), _, _, rfl⟩ ?_ ?_
  · rintro i σ H3 hi ⟨S3, ⟨fs, D3, nd, ok, len⟩, K3, w3, w4, rfl⟩
    have hb : b + 24 - 4 * i = (b + 24 - 4 * (i + 1)) + 4 := by omega
    rw [hb] at S3
    show t_szTurn K _ [some (.ref d), some (.int n), some (.ref F), some (.int (0 + i)), w4] H3
    refine sz_turn S3 D3 f1 f2 f3 (by omega) fun H4 k m S4 K4 D4 ok4 => ⟨S4, ⟨_, D4, putI_nd nd, putI_all ok ok4, ?_⟩, fun x o e0 e1 e2 hx => K4 x o e0 e1 e2 (K3 x o e0 e1 e2 hx), _, _, rfl⟩
    have := putI_len (fs := fs) (i := k) (n := m)
    omega
  · rintro σ H3 ⟨S3, ⟨fs, D3, nd, ok, len⟩, K3, w3, w4, rfl⟩
    have lt : fs.length ≤ 6 := by omega
    refine sorted_dict D3 nd (by omega) rfl (fun y => rfl) (fun y => rfl) (fun y => rfl) fun r H4 ks hr s4 d4 pm asc => ?_
    have S4 := (StB.same s4 S3).mono (b' := b) (by omega)
    obtain ⟨r1, r2, r3⟩ := S3.off hr
    have hk : ∀ x o, x ≠ d → x ≠ g → H x = some o → H4 x = some o := fun x o e1 e2 hx => s4 _ _ (K3 x o (fun e => by rw [e, hF] at hx; cases hx) e1 e2 hx)
    have hr0 : H r = none := by
      cases e : H r with
      | none => rfl
      | some o =>
        have := K3 r o (fun z => by rw [z, hF] at e; cases e) r1 r2 e
        rw [hr] at this
        cases this
    exact q r H4 ks S4 hk r1 r2 r3 hr0 d4 asc (fun p m => ok p (pm.mem_iff.mp m)) (by rw [pm.length_eq]; exact lt)
end SR
set_option Elab.async false
set_option linter.all false
set_option maxRecDepth 100000
set_option maxHeartbeats 4000000
namespace SR
open PySem PySem.Spec PyProof.Rows L2
theorem cap_ok {ks : List (Int × Int)} (h : ∀ p ∈ ks, sizeOk p) (i : Int) : 1 ≤ cap ks i ∧ cap ks i ≤ 9 := by
  unfold cap
  cases e : ks.lookup i with
  | none => exact ⟨Int.le_refl _, by decide⟩
  | some n =>
    have m : ∃ p ∈ ks, p.2 = n := by
      clear h
      induction ks with
      | nil => cases e
      | cons p ks ih =>
        rw [List.lookup_cons] at e
        split at e
        · exact ⟨p, List.mem_cons_self, Option.some.inj e⟩
        · obtain ⟨q, hq, z⟩ := ih e
          exact ⟨q, List.mem_cons_of_mem _ hq, z⟩
    obtain ⟨p, hp, rfl⟩ := m
    have := h p hp
    exact ⟨Int.le_trans (by decide) this.2.1, this.2.2⟩
/-- what has been put into boxes: fs of n items, spare left -/
structure Bx (n : Int) (ks fs : List (Int × Int)) (spare : Int) : Prop where
  nd : (fs.map Prod.fst).Nodup
  po : ∀ p ∈ fs, 1 ≤ p.2 ∧ p.2 ≤ cap ks p.1
  sm : (fs.map Prod.snd).sum + spare = n
  sp : 0 ≤ spare
  bd : ∀ p ∈ fs, -(10 ^ 30) ≤ p.1 ∧ p.1 ≤ 10 ^ 30
theorem Bx.len {n spare : Int} {ks fs : List (Int × Int)} (h : Bx n ks fs spare) : (fs.length : Int) ≤ n - spare := by
  have h1 := len_sum fun p m => (h.po p m).1
  have h2 := h.sm
  omega
theorem putI_new {fs : List (Int × Int)} {i m : Int} (h : i ∉ fs.map Prod.fst) : putI fs i m = fs ++ [(i, m)] := if_neg h
theorem Bx.put {n spare i m : Int} {ks fs : List (Int × Int)} (h : Bx n ks fs spare) (new : i ∉ fs.map Prod.fst) (m1 : 1 ≤ m) (m2 : m ≤ spare) (m3 : m ≤ cap ks i) (bd : -(10 ^ 30) ≤ i ∧ i ≤ 10 ^ 30) : Bx n ks (putI fs i m) (spare - m) := by
  refine ⟨putI_nd h.nd, putI_all h.po ⟨m1, m3⟩, ?_, by omega, putI_all h.bd bd⟩
  have := h.sm
  rw [putI_new new, List.map_append, List.sum_append]
  show (fs.map Prod.snd).sum + (m + 0) + (spare - m) = n
  omega
def t_bxIn (K : PySem.W.Frag) : TS := (tSeq (tAsg (tCB qMin2 (tCons (tVar 5) (tCons (tOp qAdd (tC (.int 1)) (tCall spTake [] E0 (tCons (tVar 0) (tCons (tDGet2 (tVar 1) (tVar 3) (tC (.int 1))) (tNil))))) (tNil)))) (gName 8))
  (tSeq (tIfS (tTest (tOp qGt (tVar 8) (tC (.int 0))))
  (sDPut (tVar 4) (tVar 3) (tVar 8))
  (tNext))
  (tPar 5 3 (tCons (tOp qSub (tVar 5) (tVar 8)) (tCons (tOp qAdd (tVar 3) (tC (.int 1))) (tNil))))))
/-- what stays beside the boxes' dict F and the dict a -/
def KF (F a d g : Addr) (H H' : Hp) : Prop := ∀ x o, x ≠ F → x ≠ a → x ≠ d → x ≠ g → H x = some o → H' x = some o
theorem KF.trans {F a d g : Addr} {H H1 H2 : Hp} (x : KF F a d g H H1) (y : KF F a d g H1 H2) : KF F a d g H H2 := fun z o h1 h2 h3 h4 h => y z o h1 h2 h3 h4 (x z o h1 h2 h3 h4 h)
theorem Kp.kf {F a d g : Addr} {H H' : Hp} (k : Kp d g H H') : KF F a d g H H' := fun x o _ _ h1 h2 h => k x o h1 h2 h
theorem kf_upd {F a d g : Addr} {H : Hp} {o : HO} : KF F a d g H (upd H F o) := fun x _ h1 _ _ _ h => (upd_ne h1).trans h
theorem kf_updA {F a d g : Addr} {H : Hp} {o : HO} : KF F a d g H (upd H a o) := fun x _ _ h2 _ _ h => (upd_ne h2).trans h
theorem bx_in {K : PySem.W.Frag} {H : Hp} {d g c F a : Addr} {b : Nat} {n place spare : Int} {fs ks : List (Int × Int)} {w6 w7 w8 : Option V} {N N2 N3 : L2.St → Hp → Prop} {R : VK} (S : StB H d g c (b + 1)) (hF : H F = some (.dK (kvsOf fs))) (hA : H a = some (.dK (kvsOf ks)))
    (f1 : F ≠ d) (f2 : F ≠ g) (f3 : F ≠ c) (fa : F ≠ a) (a1 : a ≠ d) (a2 : a ≠ g) (hk : ∀ p ∈ ks, sizeOk p) (B : Bx n ks fs spare) (n40 : n ≤ 40) (lt : ∀ p ∈ fs, p.1 < place) (bd : -(10 ^ 30) ≤ place ∧ place ≤ 10 ^ 30)
    (hN : ∀ H' gs sp w, StB H' d g c b → KF F a d g H H' → H' F = some (.dK (kvsOf gs)) → H' a = some (.dK (kvsOf ks)) → Bx n ks gs sp → (∀ p ∈ gs, p.1 < place + 1) → N [some (.ref d), some (.ref a), some (.int n), some (.int (place + 1)), some (.ref F), some (.int sp), w6, w7, w] H') :
    t_bxIn K { nx := N, rt := R, bk := N2, ct := N3 } [some (.ref d), some (.ref a), some (.int n), some (.int place), some (.ref F), some (.int spare), w6, w7, w8] H := by
  obtain ⟨c1, c2⟩ := cap_ok hk place
  have gv : (valV (kvsOf ks) (.inl place)).getD (.int 1) = .int (cap ks place) := by
    rw [val_pairs]
    unfold cap
    cases ks.lookup place <;> rfl
  refine ⟨_, rfl, _, rfl, _, rfl, a, rfl, .inl ⟨_, .inl hA⟩, _, rfl, _, DGet.k (k := .inl place) hA, d, g, c, b, cap ks place, ?_, S, by omega, by omega, fun t H1 t0 t1 S1 q1 => ⟨_, _, rfl, rfl, _, _, rfl, ?_⟩⟩
  · rw [gv]
    rfl
  generalize hm : (if 1 + t < spare then 1 + t else spare) = m
  have m1 : m ≤ spare := by split at hm <;> omega
  have m2 : m ≤ cap ks place := by split at hm <;> omega
  have m0 : 0 ≤ m := by have := B.sp; split at hm <;> omega
  clear hm
  have F1 := q1 _ _ f1 f2 hF
  have A1 := q1 _ _ a1 a2 hA
  have new : place ∉ fs.map Prod.fst := fun z => by
    obtain ⟨p, hp, e⟩ := List.mem_map.mp z
    have := lt p hp
    omega
  refine ⟨_, rfl, _, _, rfl, rfl, _, rfl, ?_⟩
  by_cases pos : 0 < m
  · rw [decide_eq_true pos]
    have len := B.len
    have sp0 := B.sp
    refine iteT ⟨_, rfl, _, rfl, _, rfl, F, _, rfl, dput_pairs F1 (by omega), ?_⟩
    refine ⟨_, rfl, _, rfl, _, _, rfl, rfl, _, rfl, _, _, rfl, rfl, _, _, rfl, ?_⟩
    refine hN _ (putI fs place m) (spare - m) _ (S1.upd f1 f2 f3) (q1.kf.trans kf_upd) upd_same ((upd_ne (fun e => fa e.symm)).trans A1) (B.put new pos m1 m2 bd) (putI_all (fun p hp => ?_) ?_)
    · have := lt p hp
      omega
    · show place < place + 1
      omega
  · rw [decide_eq_false pos]
    have e0 : m = 0 := by omega
    subst e0
    refine iteF ⟨_, rfl, _, rfl, _, _, rfl, rfl, _, rfl, _, _, rfl, rfl, _, _, rfl, ?_⟩
    refine hN _ fs (spare - 0) _ S1 q1.kf F1 A1 (by rw [Int.sub_zero]; exact B) fun p hp => ?_
    have := lt p hp
    omega
end SR
set_option Elab.async false
set_option linter.all false
set_option maxRecDepth 100000
set_option maxHeartbeats 4000000
namespace SR
open PySem PySem.Spec PyProof.Rows L2
theorem e30 : (10 : Int) ^ 30 = 1000000000000000000000000000000 := by decide
theorem e29 : (10 : Int) ^ 29 = 100000000000000000000000000000 := by decide
theorem e28 : (10 : Int) ^ 28 = 10000000000000000000000000000 := by decide
def t_bxOut (K : PySem.W.Frag) : TS := (tSeq (tFor (iRng1 (tCons (tOp qAdd (tC (.int 1)) (tCall spTake [] E0 (tCons (tVar 0) (tCons (tC (.int 4)) (tNil))))) (tNil))) (gName 7) (t_bxIn K))
  (tAsg (tOp qAdd (tVar 3) (tCall (spPick K) [] E0 (tCons (tVar 0) (tCons (tLst (tCons (tC (.int 1)) (tCons (tC (.int 1)) (tCons (tC (.int 1)) (tCons (tC (.int 2)) (tCons (tC (.int 3)) (tCons (tC (.int 8)) (tCons (tOp qPow (tC (.int 10)) (tC (.int 28))) (tNil))))))))) (tNil))))) (gName 3)))
theorem bx_out {K : PySem.W.Frag} {H : Hp} {d g c F a : Addr} {b : Nat} {n place spare i : Int} {fs ks : List (Int × Int)} {w6 w7 w8 : Option V} {N N2 N3 : L2.St → Hp → Prop} {R : VK} (S : StB H d g c (b + 6)) (hF : H F = some (.dK (kvsOf fs))) (hA : H a = some (.dK (kvsOf ks)))
    (f1 : F ≠ d) (f2 : F ≠ g) (f3 : F ≠ c) (fa : F ≠ a) (a1 : a ≠ d) (a2 : a ≠ g) (hk : ∀ p ∈ ks, sizeOk p) (B : Bx n ks fs spare) (n40 : n ≤ 40) (lt : ∀ p ∈ fs, p.1 < place) (i0 : 0 ≤ i) (i5 : i ≤ 5) (bd : -(10 ^ 29) ≤ place ∧ place ≤ 10 ^ 29 + i * 20000000000000000000000000000)
    (hN : ∀ H' gs sp pl u7 u8, StB H' d g c b → KF F a d g H H' → H' F = some (.dK (kvsOf gs)) → H' a = some (.dK (kvsOf ks)) → Bx n ks gs sp → (∀ p ∈ gs, p.1 < pl) → (-(10 ^ 29) ≤ pl ∧ pl ≤ 10 ^ 29 + (i + 1) * 20000000000000000000000000000) → N [some (.ref d), some (.ref a), some (.int n), some (.int pl), some (.ref F), some (.int sp), w6, u7, u8] H') :
    t_bxOut K { nx := N, rt := R, bk := N2, ct := N3 } [some (.ref d), some (.ref a), some (.int n), some (.int place), some (.ref F), some (.int spare), w6, w7, w8] H := by
  refine ⟨_, rfl, d, g, c, b + 5, 4, rfl, S, by decide, by decide, fun t H1 t0 t1 S1 q1 => ⟨_, _, rfl, rfl, _, rfl, by omega, by omega, ?_⟩⟩
  have F1 := q1 _ _ f1 f2 hF
  have A1 := q1 _ _ a1 a2 hA
  have hj : (1 + t).toNat ≤ 4 := by omega
  generalize (1 + t).toNat = k at hj
  refine for_range (lo := 0) (n := k) (fun j σ H3 => StB H3 d g c (b + 5 - j) ∧ KF F a d g H H3 ∧ ∃ gs sp u7 u8, H3 F = some (.dK (kvsOf gs)) ∧ H3 a = some (.dK (kvsOf ks)) ∧ Bx n ks gs sp ∧ (∀ p ∈ gs, p.1 < place + (j : Int)) ∧ σ = [some (.ref d), some (.ref a), some (.int n), some (.int (place + (j : Int))), some (.ref F), some (.int sp), w6, u7, u8])
    ⟨S1, q1.kf, fs, spare, w7, w8, F1, A1, B, ?_, ?_⟩ ?_ ?_
  · intro p m
    have := lt p m
    omega
  · show _ = [some (V.ref d), some (V.ref a), some (V.int n), some (V.int (place + ((0 : Nat) : Int))), some (V.ref F), some (V.int spare), w6, w7, w8]
    rw [show place + ((0 : Nat) : Int) = place by omega]
  · rintro j σ H3 hj3 ⟨S3, K3, gs, sp, u7, u8, F3, A3, B3, lt3, rfl⟩
    have hb : b + 5 - j = (b + 5 - (j + 1)) + 1 := by omega
    rw [hb] at S3
    show t_bxIn K _ [some (.ref d), some (.ref a), some (.int n), some (.int (place + (j : Int))), some (.ref F), some (.int sp), w6, some (.int (0 + j)), u8] H3
    refine bx_in S3 F3 A3 f1 f2 f3 fa a1 a2 hk B3 n40 lt3 ?_ fun H4 hs sp4 w4 S4 K4 F4 A4 B4 lt4 => ⟨S4, K3.trans K4, hs, sp4, some (.int (0 + j)), w4, F4, A4, B4, ?_, ?_⟩
    · have := e29
      have := e30
      constructor <;> omega
    · intro p m
      have := lt4 p m
      omega
    · rw [show place + (j : Int) + 1 = place + ((j + 1 : Nat) : Int) by omega]
  · rintro σ H3 ⟨S3, K3, gs, sp, u7, u8, F3, A3, B3, lt3, rfl⟩
    refine ⟨_, rfl, _, rfl, 10, 28, rfl, rfl, ⟨by decide, by decide, by decide⟩, sz (by show 7 ≤ 1000; decide), fun l hl => ?_⟩
    obtain ⟨l1, l2, l3⟩ := S3.off hl
    have hb : StB H3 d g c (b + 1) := S3.mono (by omega)
    refine ⟨d, g, c, b, l, _, rfl, hb.new hl, SqL.of upd_same, l1, l2, by show 0 < 7; decide, by show 7 < 1000; decide, fun v H4 hv S4 q4 => ?_⟩
    have E28 : (10 : Int) ^ (28 : Int).toNat = 10000000000000000000000000000 := e28
    obtain ⟨m, rfl, m1, m2⟩ : ∃ m : Int, v = .int m ∧ 1 ≤ m ∧ m ≤ 10000000000000000000000000000 := by
      simp only [List.mem_cons, List.not_mem_nil, or_false] at hv
      rcases hv with rfl | rfl | rfl | rfl | rfl | rfl | rfl
      · exact ⟨1, rfl, by decide, by decide⟩
      · exact ⟨1, rfl, by decide, by decide⟩
      · exact ⟨1, rfl, by decide, by decide⟩
      · exact ⟨2, rfl, by decide, by decide⟩
      · exact ⟨3, rfl, by decide, by decide⟩
      · exact ⟨8, rfl, by decide, by decide⟩
      · exact ⟨_, rfl, by rw [E28]; decide, by rw [E28]; decide⟩
    clear hv
    have q34 : Kp d g H3 H4 := (Kp.new hl).trans q4
    refine ⟨_, _, rfl, rfl, hN H4 gs sp _ _ _ S4 (K3.trans q34.kf) (q34 _ _ f1 f2 F3) (q34 _ _ a1 a2 A3) B3 (fun p hp => ?_) ?_⟩
    · have := lt3 p hp
      omega
    · have := e29
      constructor <;> omega
def t_bxKey (K : PySem.W.Frag) : TS := (tSeq (tAsg (tCB qMin2 (tCons (tVar 5) (tCons (tCall spTake [] E0 (tCons (tVar 0) (tCons (tOp qAdd (tDGet (tVar 1) (tVar 3)) (tC (.int 1))) (tNil)))) (tNil)))) (gName 8))
  (tIfS (tAnd (tB (tDNotIn (tVar 3) (tVar 4))) (tTest (tOp qGt (tVar 8) (tC (.int 0)))))
  (tAsg (tTup (tCons (tVar 8) (tCons (tOp qSub (tVar 5) (tVar 8)) (tNil)))) (gTup K 2 (gCons (gSub (tVar 4) (tVar 3) rSetD) (gCons (gName 5) (gNil)))))
  (tNext)))
theorem bx_key {K : PySem.W.Frag} {H : Hp} {d g c F a : Addr} {b : Nat} {n place spare cp : Int} {od : Obj} {fs ks : List (Int × Int)} {w6 w7 w8 : Option V} {N N2 N3 : L2.St → Hp → Prop} {R : VK} (S : StB H d g c (b + 1)) (hF : H F = some (.dK (kvsOf fs))) (hA : H a = some (.frz od (.dK (kvsOf ks))))
    (f1 : F ≠ d) (f2 : F ≠ g) (f3 : F ≠ c) (fa : F ≠ a) (a1 : a ≠ d) (a2 : a ≠ g) (hk : ∀ p ∈ ks, sizeOk p) (hkd : (ks.map Prod.fst).Nodup) (hp : (place, cp) ∈ ks) (B : Bx n ks fs spare) (n40 : n ≤ 40)
    (hN : ∀ H' gs sp w, StB H' d g c b → KF F a d g H H' → H' F = some (.dK (kvsOf gs)) → H' a = some (.frz od (.dK (kvsOf ks))) → Bx n ks gs sp → N [some (.ref d), some (.ref a), some (.int n), some (.int place), some (.ref F), some (.int sp), w6, w7, w] H') :
    t_bxKey K { nx := N, rt := R, bk := N2, ct := N3 } [some (.ref d), some (.ref a), some (.int n), some (.int place), some (.ref F), some (.int spare), w6, w7, w8] H := by
  have ok := hk _ hp
  have lk := (lookup_some hkd).mpr hp
  have cpe : cap ks place = cp := by
    unfold cap
    rw [lk]
    rfl
  have gv : valV (kvsOf ks) (.inl place) = some (.int cp) := by
    rw [val_pairs, lk]
    rfl
  have o1 : 2 ≤ cp := ok.2.1
  have o2 : cp ≤ 9 := ok.2.2
  have o3 : -60 ≤ place := ok.1.1
  have o4 : place ≤ 60 := ok.1.2
  refine ⟨_, rfl, _, rfl, _, rfl, _, rfl, a, _, rfl, .inl ⟨_, .inl place, .inr ⟨od, hA⟩, rfl, gv.symm⟩, _, _, rfl, rfl, d, g, c, b, cp + 1, rfl, S, by omega, by omega, fun t H1 t0 t1 S1 q1 => ⟨_, _, rfl, ?_⟩⟩
  generalize hm : (if t < spare then t else spare) = m
  have m1 : m ≤ spare := by split at hm <;> omega
  have m2 : m ≤ cap ks place := by rw [cpe]; split at hm <;> omega
  have m0 : 0 ≤ m := by have := B.sp; split at hm <;> omega
  clear hm
  have F1 := q1 _ _ f1 f2 hF
  have A1 := q1 _ _ a1 a2 hA
  refine ⟨_, rfl, _, rfl, F, _, rfl, DGet.k (k := .inl place) F1, _, rfl, ?_⟩
  rw [val_pairs]
  cases e : fs.lookup place with
  | some z => exact iteF (iteF (hN _ fs spare _ S1 q1.kf F1 A1 B))
  | none =>
    have new := lookup_none.mp e
    refine iteT ⟨_, rfl, _, _, rfl, rfl, _, rfl, ?_⟩
    by_cases pos : 0 < m
    · rw [decide_eq_true pos]
      have len := B.len
      have sp0 := B.sp
      refine iteT ⟨_, rfl, _, rfl, _, rfl, _, _, rfl, rfl, sz (by show 2 ≤ 1000; decide), fun t2 ht2 => ?_⟩
      have s2 := same_new (o := .tup [.int m, .int (spare - m)]) ht2
      have S2 := S1.new (o := .tup [.int m, .int (spare - m)]) ht2
      have T2 : upd H1 t2 (.tup [.int m, .int (spare - m)]) t2 = some (.tup [.int m, .int (spare - m)]) := upd_same
      have K2 : KF F a d g H1 (upd H1 t2 (.tup [.int m, .int (spare - m)])) := fun x o _ _ _ _ h => s2 x o h
      generalize upd H1 t2 (.tup [.int m, .int (spare - m)]) = H2 at s2 S2 T2 K2 ⊢
      refine ⟨t2, _, rfl, SqT.of T2, rfl, _, _, rfl, ⟨_, rfl, _, rfl, F, _, rfl, dput_pairs (s2 _ _ F1) (by omega), _, _, rfl, rfl, ?_⟩⟩
      have bd : -(10 ^ 30) ≤ place ∧ place ≤ 10 ^ 30 := by
        have := e30
        constructor <;> omega
      exact hN _ (putI fs place m) (spare - m) _ (S2.upd f1 f2 f3) ((q1.kf.trans K2).trans kf_upd) upd_same ((upd_ne (fun e => fa e.symm)).trans (s2 _ _ A1)) (B.put new pos m1 m2 bd)
    · rw [decide_eq_false pos]
      exact iteF (hN _ fs spare _ S1 q1.kf F1 A1 B)
end SR
set_option Elab.async false
set_option linter.all false
set_option maxRecDepth 100000
set_option maxHeartbeats 4000000
namespace SR
open PySem PySem.Spec PyProof.Rows L2
theorem perm_sum {l m : List Int} (h : l.Perm m) : l.sum = m.sum := by
  induction h with
  | nil => rfl
  | cons x _ ih => rw [List.sum_cons, List.sum_cons, ih]
  | swap x y l =>
    rw [List.sum_cons, List.sum_cons, List.sum_cons, List.sum_cons]
    omega
  | trans _ _ h1 h2 => exact h1.trans h2
def spBoxes (K : PySem.W.Frag) : Sp := fun vs H Q _ => ∃ (d g c : Addr) (b : Nat) (a : Addr) (n : Int) (ks : List (Int × Int)), vs = [.ref d, .ref a, .int n] ∧ StB H d g c (b + 40) ∧ a ≠ d ∧ a ≠ g ∧ a ≠ c ∧ H a = some (.dK (kvsOf ks)) ∧ (ks.map Prod.fst).Nodup ∧ (∀ p ∈ ks, sizeOk p) ∧ ks.length ≤ 6 ∧ 0 ≤ n ∧ n ≤ 40 ∧
  ∀ r H' ps, StB H' d g c b → Kp d g H H' → r ≠ d → r ≠ g → r ≠ c → H r = none → H' r = some (.dK (kvsOf ps)) → Asc ps → (∀ p ∈ ps, 1 ≤ p.2 ∧ p.2 ≤ cap ks p.1) → (∀ p ∈ ps, -(10 ^ 30) ≤ p.1 ∧ p.1 ≤ 10 ^ 30) → (ps.map Prod.snd).sum ≤ n → Q (.ref r) H'
def t_boxes (K : PySem.W.Frag) : TS := tSeq (tAsg (tTup (tCons (tCall (spPick K) [] E0 (tCons (tVar 0) (tCons (tLst (tCons (tC (.int 0)) (tCons (tC (.int 0)) (tCons (tUn (rU fun i => .int (-i)) (tC (.int 2))) (tCons (tUn (rU fun i => .int (-i)) (tC (.int 9))) (tCons (tC (.int 30)) (tCons (tOp qPow (tC (.int 10)) (tC (.int 29))) (tCons (tUn (rU fun i => .int (-i)) (tOp qPow (tC (.int 10)) (tC (.int 29)))) (tNil))))))))) (tNil)))) (tCons (tDNewK) (tCons (tVar 2) (tNil))))) (gTup K 3 (gCons (gName 3) (gCons (gName 4) (gCons (gName 5) (gNil))))))
  (tSeq (tFor (iRng1 (tCons (tCall spTake [] E0 (tCons (tVar 0) (tCons (tC (.int 6)) (tNil)))) (tNil))) (gName 6) (t_bxOut K))
  (tSeq (tLock (tFor (iKeys (tVar 1)) (gName 3) (t_bxKey K)))
  (tRet (t_sorted K 4 3))))
theorem pure_boxes {K : PySem.W.Frag} (vs : List V) (H : Hp) (Q : VK) (E : XK) (h : spBoxes K vs H Q E) : t_boxes K { nx := fun _ H' => Q .non H', rt := Q } (start ["state", "sizes", "most", "place", "found", "spare", "turn", "step", "amount"] vs) H := by
  obtain ⟨d, g, c, b, a, n, ks, rfl, S, a1, a2, a3, hA, hkd, hk, hkl, n0, n40, q⟩ := h
  have E29 : (10 : Int) ^ (29 : Int).toNat = 100000000000000000000000000000 := e29
  refine ⟨_, rfl, 2, rfl, 9, rfl, 10, 29, rfl, rfl, ⟨by decide, by decide, by decide⟩, 10, 29, rfl, rfl, ⟨by decide, by decide, by decide⟩, _, rfl, sz (by show 7 ≤ 1000; decide), fun l hl => ?_⟩
  obtain ⟨l1, l2, l3⟩ := S.off hl
  refine ⟨d, g, c, b + 39, l, _, rfl, S.new hl, SqL.of upd_same, l1, l2, by show 0 < 7; decide, by show 7 < 1000; decide, fun v H1 hv S1 q1 => ?_⟩
  obtain ⟨pl, rfl, pl1, pl2⟩ : ∃ m : Int, v = .int m ∧ -100000000000000000000000000000 ≤ m ∧ m ≤ 100000000000000000000000000000 := by
    simp only [List.mem_cons, List.not_mem_nil, or_false] at hv
    rcases hv with rfl | rfl | rfl | rfl | rfl | rfl | rfl
    · exact ⟨0, rfl, by decide, by decide⟩
    · exact ⟨0, rfl, by decide, by decide⟩
    · exact ⟨_, rfl, by decide, by decide⟩
    · exact ⟨_, rfl, by decide, by decide⟩
    · exact ⟨30, rfl, by decide, by decide⟩
    · exact ⟨_, rfl, by rw [E29]; decide, by rw [E29]; decide⟩
    · exact ⟨_, rfl, by rw [E29]; decide, by rw [E29]; decide⟩
  clear hv
  have k1 : Kp d g H H1 := (Kp.new hl).trans q1
  intro F hF
  obtain ⟨f1, f2, f3⟩ := S1.off hF
  have A1 := k1 _ _ a1 a2 hA
  have fa : F ≠ a := fun e => by
    rw [e, A1] at hF
    cases hF
  have hF0 : H F = none := by
    cases e : H F with
    | none => rfl
    | some o =>
      have := k1 F o f1 f2 e
      rw [hF] at this
      cases this
  have S2 := S1.new (o := .dK []) hF
  have D2 : upd H1 F (.dK []) F = some (.dK (kvsOf [])) := upd_same
  have A2 : upd H1 F (.dK []) a = some (.dK (kvsOf ks)) := (upd_ne fa.symm).trans A1
  have K2 : KF F a d g H (upd H1 F (.dK [])) := k1.kf.trans kf_upd
  generalize upd H1 F (.dK []) = H2 at S2 D2 A2 K2 ⊢
  refine ⟨_, rfl, sz (by show 3 ≤ 1000; decide), fun t ht => ?_⟩
  have s3 := same_new (o := .tup [.int pl, .ref F, .int n]) ht
  have T3 : upd H2 t (.tup [.int pl, .ref F, .int n]) t = some (.tup [.int pl, .ref F, .int n]) := upd_same
  have S3 := S2.new (o := .tup [.int pl, .ref F, .int n]) ht
  generalize upd H2 t (.tup [.int pl, .ref F, .int n]) = H3 at s3 T3 S3 ⊢
  have K3 : KF F a d g H H3 := K2.trans fun x o _ _ _ _ h => s3 x o h
  refine ⟨t, _, rfl, SqT.of T3, rfl, _, _, rfl, _, _, rfl, _, _, rfl, rfl, ?_⟩
  refine ⟨_, rfl, d, g, c, b + 38, 6, rfl, S3, by decide, by decide, fun u H4 u0 u1 S4 q4 => ⟨u, rfl, by omega, by omega, ?_⟩⟩
  have B0 : Bx n ks [] n := ⟨List.nodup_nil, (fun p m => nomatch m), by show 0 + n = n; omega, n0, (fun p m => nomatch m)⟩
  have bd0 : -(10 ^ 29) ≤ pl ∧ pl ≤ 10 ^ 29 + (((0 : Nat) : Int)) * 20000000000000000000000000000 := by
    have := e29
    constructor <;> omega
  refine for_range (lo := 0) (n := u.toNat) (fun i σ H5 => StB H5 d g c (b + 38 - 6 * i) ∧ KF F a d g H H5 ∧ ∃ gs sp pl u6 u7 u8, H5 F = some (.dK (kvsOf gs)) ∧ H5 a = some (.dK (kvsOf ks)) ∧ Bx n ks gs sp ∧ (∀ p ∈ gs, p.1 < pl) ∧ (-(10 ^ 29) ≤ pl ∧ pl ≤ 10 ^ 29 + (i : Int) * 20000000000000000000000000000) ∧ σ = [some (.ref d), some (.ref a), some (.int n), some (.int pl), some (.ref F), some (.int sp), u6, u7, u8])
    ⟨S4, K3.trans q4.kf, [], n, pl, none, none, none, q4 _ _ f1 f2 (s3 _ _ D2), q4 _ _ a1 a2 (s3 _ _ A2), B0, (fun p m => nomatch m), bd0, rfl⟩ ?_ ?_
  · rintro i σ H5 hi ⟨S5, K5, gs, sp, pl5, u6, u7, u8, F5, A5, B5, lt5, bd5, rfl⟩
    have hb : b + 38 - 6 * i = (b + 38 - 6 * (i + 1)) + 6 := by omega
    rw [hb] at S5
    show t_bxOut K _ [some (.ref d), some (.ref a), some (.int n), some (.int pl5), some (.ref F), some (.int sp), some (.int (0 + i)), u7, u8] H5
    refine bx_out (i := (i : Int)) S5 F5 A5 f1 f2 f3 fa a1 a2 hk B5 n40 lt5 (by omega) (by omega) bd5 fun H6 hs sp6 pl6 v7 v8 S6 K6 F6 A6 B6 lt6 bd6 => ⟨S6, K5.trans K6, hs, sp6, pl6, some (.int (0 + i)), v7, v8, F6, A6, B6, lt6, ?_, rfl⟩
    rw [show ((i + 1 : Nat) : Int) = (i : Int) + 1 by omega]
    exact bd6
  · rintro σ H5 ⟨S5, K5, gs, sp, pl5, u6, u7, u8, F5, A5, B5, lt5, bd5, rfl⟩
    have S5' : StB H5 d g c (b + 6) := S5.mono (by omega)
    clear S5
    refine ⟨a, _, A5, trivial, fun od => ?_⟩
    have S6 := S5'.upd (o := .frz od (.dK (kvsOf ks))) a1 a2 a3
    have A6 : upd H5 a (.frz od (.dK (kvsOf ks))) a = some (.frz od (.dK (kvsOf ks))) := upd_same
    have F6 : upd H5 a (.frz od (.dK (kvsOf ks))) F = some (.dK (kvsOf gs)) := (upd_ne fa).trans F5
    have K6 : KF F a d g H (upd H5 a (.frz od (.dK (kvsOf ks)))) := K5.trans kf_updA
    generalize upd H5 a (.frz od (.dK (kvsOf ks))) = H6 at S6 A6 F6 K6 ⊢
    have kl : (kvsOf ks).length = ks.length := by unfold kvsOf; rw [List.length_map]
    refine ⟨_, rfl, a, od, rfl, .inl ⟨_, A6, ?_⟩⟩
    refine for_it (walk_keys (d := a) (o := od) (kvs := kvsOf ks)) (fun i σ H7 => StB H7 d g c (b + 6 - i) ∧ KF F a d g H H7 ∧ ∃ gs sp u3 u6 u7 u8, H7 F = some (.dK (kvsOf gs)) ∧ H7 a = some (.frz od (.dK (kvsOf ks))) ∧ Bx n ks gs sp ∧ σ = [some (.ref d), some (.ref a), some (.int n), u3, some (.ref F), some (.int sp), u6, u7, u8])
      ⟨S6, K6, gs, sp, some (.int pl5), u6, u7, u8, F6, A6, B5, rfl⟩ ?_ ?_ ?_
    · rintro i σ H7 _ ⟨_, _, gs7, sp7, u3, v6, v7, v8, F7, A7, _⟩
      exact A7
    · rintro i x σ H7 H8 hi ⟨S7, K7, gs7, sp7, u3, v6, v7, v8, F7, A7, B7, rfl⟩ ⟨rfl, k, v, hkv, rfl⟩
      obtain ⟨p, hp, e⟩ : ∃ p, ks[i]? = some p ∧ ((.inl p.1, .int p.2) : Key × V) = (k, v) := by
        unfold kvsOf at hkv
        rw [List.getElem?_map] at hkv
        obtain ⟨p, h1, h2⟩ := Option.map_eq_some_iff.mp hkv
        exact ⟨p, h1, h2⟩
      cases e
      have hb : b + 6 - i = (b + 6 - (i + 1)) + 1 := by omega
      rw [hb] at S7
      show t_bxKey K _ [some (.ref d), some (.ref a), some (.int n), some (.int p.1), some (.ref F), some (.int sp7), v6, v7, v8] H8
      refine bx_key (cp := p.2) S7 F7 A7 f1 f2 f3 fa a1 a2 hk hkd (List.mem_of_getElem? hp) B7 n40 fun H9 hs sp9 w9 S9 K9 F9 A9 B9 => ⟨S9, K7.trans K9, hs, sp9, some (.int p.1), v6, v7, w9, F9, A9, B9, rfl⟩
    · rintro σ H7 ⟨S7, K7, gs7, sp7, u3, v6, v7, v8, F7, A7, B7, rfl⟩
      refine ⟨A7, ?_⟩
      have S8 := S7.upd (o := .dK (kvsOf ks)) a1 a2 a3
      have A8 : upd H7 a (.dK (kvsOf ks)) a = some (.dK (kvsOf ks)) := upd_same
      have F8 : upd H7 a (.dK (kvsOf ks)) F = some (.dK (kvsOf gs7)) := (upd_ne fa).trans F7
      have K8 : KF F a d g H (upd H7 a (.dK (kvsOf ks))) := K7.trans kf_updA
      generalize upd H7 a (.dK (kvsOf ks)) = H8 at S8 A8 F8 K8 ⊢
      have len := B7.len
      have sp0 := B7.sp
      refine sorted_dict F8 B7.nd (by omega) rfl (fun y => rfl) (fun y => rfl) (fun y => rfl) fun r H9 ps hr s9 d9 pm asc => ?_
      obtain ⟨r1, r2, r3⟩ := S8.off hr
      have kp : Kp d g H H9 := fun x o e1 e2 hx => by
        refine s9 _ _ ?_
        by_cases ea : x = a
        · subst ea
          rw [hA] at hx
          cases hx
          exact A8
        · exact K8 x o (fun e => by rw [e, hF0] at hx; cases hx) ea e1 e2 hx
      have hr0 : H r = none := by
        cases e : H r with
        | none => rfl
        | some o =>
          have z : H8 r = some o := by
            by_cases ea : r = a
            · subst ea
              rw [A8] at hr
              cases hr
            · exact K8 r o (fun w => by rw [w, hF0] at e; cases e) ea r1 r2 e
          rw [hr] at z
          cases z
      refine q r H9 ps ((StB.same s9 S8).mono (by omega)) kp r1 r2 r3 hr0 d9 asc (fun p m => B7.po p (pm.mem_iff.mp m)) (fun p m => B7.bd p (pm.mem_iff.mp m)) ?_
      have sm := B7.sm
      have : (ps.map Prod.snd).sum = (gs7.map Prod.snd).sum := perm_sum (pm.map Prod.snd)
      omega
end SR
set_option Elab.async false
set_option linter.all false
set_option maxRecDepth 100000
set_option maxHeartbeats 4000000
namespace SR
open PySem PySem.Spec PyProof.Rows L2
theorem asc_eq : ∀ {ps qs : List (Int × Int)}, Asc ps → Asc qs → ps.Perm qs → ps = qs
  | [], qs, _, _, h => (List.nil_perm.mp h).symm
  | p :: ps, [], _, _, h => absurd (List.perm_nil.mp h) (by simp)
  | p :: ps, q :: qs, h1, h2, h => by
    have a := List.pairwise_cons.mp h1
    have b := List.pairwise_cons.mp h2
    have e : p = q := by
      rcases List.mem_cons.mp (h.mem_iff.mp List.mem_cons_self) with e | m
      · exact e
      · rcases List.mem_cons.mp (h.symm.mem_iff.mp (List.mem_cons_self (a := q) (l := qs))) with e | m2
        · exact e.symm
        · have := a.1 q m2
          have := b.1 p m
          omega
    subst e
    rw [asc_eq a.2 b.2 (List.perm_cons p |>.mp h)]
theorem RowOk.perm {ps ks qs ls : List (Int × Int)} (h : RowOk ps ks) (h1 : qs.Perm ps) (h2 : ls.Perm ks) : RowOk qs ls := by
  have ce : ∀ i, cap ls i = cap ks i := fun i => by
    unfold cap
    rw [lookup_perm h2.symm h.kd]
  exact ⟨(h1.map _).nodup_iff.mpr h.nd, (h2.map _).nodup_iff.mpr h.kd, by rw [h2.length_eq]; exact h.kl, fun p m => h.ko p (h2.mem_iff.mp m), fun p m => by rw [ce]; exact h.po p (h1.mem_iff.mp m), by rw [perm_sum (h1.map _)]; exact h.sm⟩
theorem asc_nd {ps : List (Int × Int)} (h : Asc ps) : (ps.map Prod.fst).Nodup := by
  unfold List.Nodup
  rw [List.pairwise_map]
  exact h.imp fun {a b} z e => by omega
/-- a new row -/
theorem make_row {K : PySem.W.Frag} {C : Addr} {H : Hp} {l1 l2 : Addr} {ps ks : List (Int × Int)} {Q : VK} {E : XK} (hp : PairsAt K H l1 ps) (hk : PairsAt K H l2 ks) (ok : RowOk ps ks)
    (q : ∀ x H' qs ls, H x = none → Same H H' → RowAt K C H' x qs ls → qs.Perm ps → ls.Perm ks → Asc qs → Asc ls → Q (.ref x) H') :
    ∀ x dx, H x = none → H dx = none → dx ≠ x → spRowInit K C [.ref x, .ref l1, .ref l2] (upd (upd H dx (.own x)) x (.ins C dx [])) (fun v H2 => v = .non ∧ Q (.ref x) H2) E := by
  intro x dx hx hd ne
  have hx2 : upd H dx (.own x) x = none := (upd_ne ne.symm).trans hx
  have s : Same H (upd (upd H dx (.own x)) x (.ins C dx [])) := (same_new hd).trans (same_new hx2)
  refine ⟨x, l1, l2, dx, ps, ks, rfl, upd_same, hp.same s, hk.same s, ok, fun H' qs ls sb row p1 p2 a1 a2 => ⟨rfl, q x H' qs ls hx (fun b o hb => ?_) row p1 p2 a1 a2⟩⟩
  exact sb b o (ne_of_none hb hx) (s b o hb)
def spMade (K : PySem.W.Frag) (C : Addr) : Sp := fun vs H Q _ => ∃ a b ps ks, vs = [.ref a, .ref b] ∧ H a = some (.dK (kvsOf ps)) ∧ H b = some (.dK (kvsOf ks)) ∧ RowOk ps ks ∧ Asc ps ∧ Asc ks ∧ ∀ x H', H x = none → Same H H' → RowAt K C H' x ps ks → Q (.ref x) H'
def t_made (K : PySem.W.Frag) (c_Row : Addr) : TS := tRet (tMake c_Row (spRowInit K c_Row) [] E0 (tCons (LiI.tListItems (tVar 0)) (tCons (LiI.tListItems (tVar 1)) (tNil))))
theorem items_pairs {K : PySem.W.Frag} {H : Hp} {p : Addr} {ts : List Addr} {ps : List (Int × Int)} (h1 : H p = some (.lst (ts.map V.ref))) (h2 : Paired (fun (t : Addr) (q : Key × V) => H t = some (.tup [kV q.1, q.2])) ts (kvsOf ps)) : PairsAt K H p ps := by
  refine ⟨ts, .inl (SqL.of h1), ?_⟩
  clear h1
  induction ps generalizing ts with
  | nil =>
    cases h2
    exact .nil
  | cons q ps ih =>
    cases h2 with
    | cons a b => exact .cons a (ih b)
theorem pure_made {K : PySem.W.Frag} {C : Addr} (vs : List V) (H : Hp) (Q : VK) (E : XK) (h : spMade K C vs H Q E) : t_made K C { nx := fun _ H' => Q .non H', rt := Q } (start ["boxes", "sizes"] vs) H := by
  obtain ⟨a, b, ps, ks, rfl, hA, hB, ok, ap, ak, q⟩ := h
  refine ⟨_, rfl, a, _, rfl, hA, fun H1 l1 t1 s1 n1 _ _ d1 p1 => ?_⟩
  refine ⟨_, rfl, b, _, rfl, s1 _ _ hB, fun H2 l2 t2 s2 n2 _ _ d2 p2 => ?_⟩
  have q1 : PairsAt K H2 l1 ps := (items_pairs d1 p1).same s2
  have q2 : PairsAt K H2 l2 ks := items_pairs d2 p2
  refine make_row q1 q2 ok fun x H' qs ls hx s row e1 e2 b1 b2 => ?_
  have z1 := asc_eq b1 ap e1
  have z2 := asc_eq b2 ak e2
  subst z1 z2
  exact q x H' (Same.free (Same.trans s1 s2) hx) (Same.trans s1 (Same.trans s2 s)) row
end SR
set_option Elab.async false
set_option linter.all false
set_option maxRecDepth 100000
set_option maxHeartbeats 4000000
namespace SR
open PySem PySem.Spec PyProof.Rows L2
/-- a property of the class, by its promise -/
structure Prp (P : Program) (w : World) (K : PySem.W.Frag) (mg : Str → Option Value) (base : Heap) (k : Nat) (C : Addr) (f : Str) (sp : Sp) : Prop where
  ex : ∃ (p g : Addr) (fd : FuncData) (ps : List Str), Cls K C ∧ PropOf K C f p g ∧ FnOk P w K mg base CX0 k g fd ps sp ∧ Binds K fd ps []
theorem pe_pr {X : Cx} {j k : Nat} {C : Addr} {f : Str} {sp : Sp} {e : Expr} {pos : Pos} {ta : TE} (c : Prp X.prog X.w X.K X.mg X.base k C f sp) (hr : Room j X.A) (hk : k + 1 ≤ j) (he : PE X e ta) (hab : attributeBase e f X.env (eval e X.env) = eval e X.env := by rfl) :
    PE X (.Attribute e f pos) (tProp C sp [] E0 ta) := by
  obtain ⟨p, g, fd, ps, c1, c2, F, b⟩ := c.ex
  exact pe_prop he c1 c2 F (hr.mono hk) b .nil pass0 hab
end SR
set_option Elab.async false
set_option linter.all false
set_option maxRecDepth 100000
set_option maxHeartbeats 4000000
namespace SR
open PySem PySem.Spec PyProof.Rows L2
abbrev Step := Int × Int × Int × Int × Int
def stepAt (cn cp : Int → Int) (most i l : Int) : Step := (i, l, cn i, stL most l (cp i) (cn i), stC most l (cp i) (cn i))
/-- from box i on, with the load l, until it is 0 -/
inductive Walks (cn cp : Int → Int) (most : Int) : Int → Int → List Step → Prop where
  | last {i l : Int} (h : stL most l (cp i) (cn i) = 0) : Walks cn cp most i l [stepAt cn cp most i l]
  | more {i l : Int} {r : List Step} (h : stL most l (cp i) (cn i) ≠ 0) (t : Walks cn cp most (i + 1) (stL most l (cp i) (cn i)) r) : Walks cn cp most i l (stepAt cn cp most i l :: r)
def sumFrom (i : Int) (ps : List (Int × Int)) : Int := (ps.map fun p => if i ≤ p.1 then p.2 else 0).sum
theorem sumFrom_cons (i : Int) (p : Int × Int) (ps : List (Int × Int)) : sumFrom i (p :: ps) = (if i ≤ p.1 then p.2 else 0) + sumFrom i ps := rfl
theorem cnt_cons (i : Int) (p : Int × Int) (ps : List (Int × Int)) : cnt (p :: ps) i = if i = p.1 then p.2 else cnt ps i := by
  unfold cnt
  obtain ⟨j, n⟩ := p
  rw [List.lookup_cons]
  by_cases e : i = j
  · subst e
    rw [beq_self_eq_true, if_pos rfl]
    rfl
  · rw [beq_eq_false_iff_ne.mpr e, if_neg e]
theorem sumFrom_next (i : Int) : ∀ {ps : List (Int × Int)}, (ps.map Prod.fst).Nodup → sumFrom i ps = cnt ps i + sumFrom (i + 1) ps
  | [], _ => rfl
  | p :: ps, nd => by
    have nd' := List.nodup_cons.mp nd
    have ih := sumFrom_next i nd'.2
    rw [sumFrom_cons, sumFrom_cons, cnt_cons, ih]
    by_cases e : i = p.1
    · have z : cnt ps i = 0 := by
        unfold cnt
        rw [lookup_none.mpr (by rw [e]; exact nd'.1)]
        rfl
      rw [if_pos e, if_pos (by omega), if_neg (by omega), z]
    · rw [if_neg e]
      by_cases f : i ≤ p.1
      · rw [if_pos f, if_pos (by omega)]
        omega
      · rw [if_neg f, if_neg (by omega)]
        omega
theorem sumFrom_bd (i : Int) : ∀ {ps : List (Int × Int)}, (∀ p ∈ ps, 1 ≤ p.2) → 0 ≤ sumFrom i ps ∧ sumFrom i ps ≤ (ps.map Prod.snd).sum
  | [], _ => ⟨Int.le_refl _, Int.le_refl _⟩
  | p :: ps, h => by
    have ih := sumFrom_bd i (ps := ps) fun q m => h q (List.mem_cons_of_mem _ m)
    have := h p List.mem_cons_self
    rw [sumFrom_cons, List.map_cons, List.sum_cons]
    split <;> omega
theorem cnt_bd {ps ks : List (Int × Int)} (ok : RowOk ps ks) (i : Int) : 0 ≤ cnt ps i ∧ cnt ps i ≤ cap ks i := by
  have c := cap_ok ok.ko i
  unfold cnt
  cases e : ps.lookup i with
  | none => exact ⟨Int.le_refl _, by show (0 : Int) ≤ _; omega⟩
  | some n =>
    have m := (lookup_some ok.nd).mp e
    have := ok.po _ m
    exact ⟨by show (0 : Int) ≤ n; omega, this.2⟩
def TupS (H : Hp) (t : Addr) (s : Step) : Prop := H t = some (.tup [.int s.1, .int s.2.1, .int s.2.2.1, .int s.2.2.2.1, .int s.2.2.2.2])
def StepsAt (H : Hp) (s : Addr) (st : List Step) : Prop := ∃ ts, H s = some (.lst (ts.map V.ref)) ∧ Paired (TupS H) ts st
def spStepsFrom (K : PySem.W.Frag) (C : Addr) : Sp := fun vs H Q _ => ∃ x most start ps ks, vs = [.ref x, .int most, .int start] ∧ RowAt K C H x ps ks ∧ RowOk ps ks ∧ 1 ≤ most ∧ most ≤ 99 ∧ 1 ≤ cnt ps start ∧
  ∀ s H' st, H s = none → Same H H' → StepsAt H' s st → Walks (cnt ps) (cap ks) most start 0 st → st.length ≤ 80 → Q (.ref s) H'
def t_stBody (K : PySem.W.Frag) (c_BadNumber : Addr) (c_Row : Addr) : TS := (tSeq (tAsg (tMeth c_Row "held" (spHeld K c_Row) [] E0 (tVar 0) (tCons (tVar 4) (tNil))) (gName 6))
  (tSeq (tAsg (tCall (spPassed K c_BadNumber) [] E0 (tCons (tVar 1) (tCons (tVar 5) (tCons (tMeth c_Row "capacity" (spCapacityOf K c_Row) [] E0 (tVar 0) (tCons (tVar 4) (tNil))) (tCons (tVar 6) (tNil)))))) (gTup K 2 (gCons (gName 7) (gCons (gName 8) (gNil)))))
  (tSeq (tDrop (tBM K "list" rAppend (tVar 3) (tCons (tTup (tCons (tVar 4) (tCons (tVar 5) (tCons (tVar 6) (tCons (tVar 8) (tCons (tVar 7) (tNil))))))) (tNil))))
  (tSeq (tAug 4 (tC (.int 1)) (ipI fun i j => i + j))
  (tAsg (tVar 8) (gName 5))))))
def t_steps_from (K : PySem.W.Frag) (c_BadNumber : Addr) (c_Row : Addr) : TS := tSeq (tAsg (tLst (tNil)) (gName 3))
  (tSeq (tAsg (tVar 2) (gName 4))
  (tSeq (tAsg (tC (.int 0)) (gName 5))
  (tSeq (tWhile (tOr (tTest (tOp qGt (tVar 5) (tC (.int 0)))) (tNot ((fun σ H Q => tVar 3 σ H fun x H1 => ∃ k, TruV K x H1 k ∧ Q k H1)))) (t_stBody K c_BadNumber c_Row))
  (tRet (tVar 3)))))
theorem held_none (c k d e : Addr) : List.lookup ("held" : Str) (rowFs c k d e) = none := by
  unfold rowFs
  rw [lkNe (by decide), lkNe (by decide), lkNe (by decide), lkNe (by decide)]
  rfl
theorem capacity_none (c k d e : Addr) : List.lookup ("capacity" : Str) (rowFs c k d e) = none := by
  unfold rowFs
  rw [lkNe (by decide), lkNe (by decide), lkNe (by decide), lkNe (by decide)]
  rfl
theorem RowAt.ins {K : PySem.W.Frag} {C : Addr} {H : Hp} {x : Addr} {ps ks : List (Int × Int)} (h : RowAt K C H x ps ks) : ∃ dx fs, H x = some (.ins C dx fs) ∧ List.lookup ("held" : Str) fs = none ∧ List.lookup ("capacity" : Str) fs = none := by
  obtain ⟨dx, c, k, d, e, _, _, h1, _⟩ := h
  exact ⟨dx, _, h1, held_none c k d e, capacity_none c k d e⟩
theorem st_body {K : PySem.W.Frag} {C B : Addr} {H : Hp} {x s : Addr} {most start i l : Int} {ps ks : List (Int × Int)} {ts : List Addr} {acc : List Step} {w6 w7 w8 : Option V} {N N2 N3 : L2.St → Hp → Prop} {R : VK} (row : RowAt K C H x ps ks) (ok : RowOk ps ks) (m1 : 1 ≤ most) (m2 : most ≤ 99)
    (l0 : 0 ≤ l) (l1 : l ≤ most) (hs : H s = some (.lst (ts.map V.ref))) (hts : Paired (TupS H) ts acc) (short : acc.length ≤ 100)
    (hN : ∀ H' us, SameBut s H H' → H' s = some (.lst (us.map V.ref)) → Paired (TupS H') us (acc ++ [stepAt (cnt ps) (cap ks) most i l]) → N [some (.ref x), some (.int most), some (.int start), some (.ref s), some (.int (i + 1)), some (.int (stL most l (cap ks i) (cnt ps i))), some (.int (cnt ps i)), some (.int (stC most l (cap ks i) (cnt ps i))), some (.int (stL most l (cap ks i) (cnt ps i)))] H') :
    t_stBody K B C { nx := N, rt := R, bk := N2, ct := N3 } [some (.ref x), some (.int most), some (.int start), some (.ref s), some (.int i), some (.int l), w6, w7, w8] H := by
  obtain ⟨dx, fs, hx, no1, no2⟩ := row.ins
  have c := cap_ok ok.ko i
  have n := cnt_bd ok i
  refine ⟨_, rfl, x, dx, fs, rfl, hx, no1, _, rfl, x, i, ps, ks, rfl, row, ok.nd, ?_⟩
  refine ⟨_, rfl, _, rfl, _, rfl, x, dx, fs, rfl, hx, no2, _, rfl, x, i, ps, ks, rfl, row, ok.kd, _, rfl, .int most, .int l, .int (cap ks i), .int (cnt ps i), _, _, _, _, rfl, .int _, .int _, .int _, .int _, fun z => ?_, fun c' u' d' x' e1 e2 e3 e4 _ p H1 hp s1 P1 => ?_⟩
  · rw [okV_yes.mpr ⟨_, _, _, _, rfl, rfl, rfl, rfl, ⟨m1, m2⟩, ⟨l0, l1⟩, ⟨c.1, by omega⟩, n⟩] at z
    cases z
  cases e1
  cases e2
  cases e3
  cases e4
  refine ⟨p, _, rfl, SqT.of P1, rfl, _, _, rfl, _, _, rfl, rfl, ?_⟩
  have L1 := s1 _ _ hs
  refine ⟨_, rfl, .inl ⟨rfl, _, SqL.of L1⟩, _, rfl, _, rfl, _, rfl, _, rfl, _, rfl, sz (by show 5 ≤ 1000; decide), fun t ht => ?_⟩
  have s2 := same_new (o := .tup [.int i, .int l, .int (cnt ps i), .int (stL most l (cap ks i) (cnt ps i)), .int (stC most l (cap ks i) (cnt ps i))]) ht
  have T2 : TupS (upd H1 t (.tup [.int i, .int l, .int (cnt ps i), .int (stL most l (cap ks i) (cnt ps i)), .int (stC most l (cap ks i) (cnt ps i))])) t (stepAt (cnt ps) (cap ks) most i l) := upd_same
  generalize upd H1 t (.tup [.int i, .int l, .int (cnt ps i), .int (stL most l (cap ks i) (cnt ps i)), .int (stC most l (cap ks i) (cnt ps i))]) = H2 at s2 T2 ⊢
  have L2' := s2 _ _ L1
  have tl : ts.length = acc.length := paired_len hts
  refine ⟨s, _, _, rfl, rfl, L2', ?_, ?_⟩
  · rw [List.length_map, tl]
    exact Nat.lt_of_le_of_lt short (by decide)
  refine ⟨_, rfl, _, _, rfl, rfl, _, rfl, ?_⟩
  have keep : ∀ {b : Addr} {st : Step}, TupS H2 b st → TupS (upd H2 s (.lst (ts.map V.ref ++ [.ref t]))) b st := fun {b st} z => (upd_ne (ne_of z L2' (by intro e; cases e))).trans z
  refine hN _ (ts ++ [t]) (fun b o ne h => (upd_ne ne).trans (s2 _ _ (s1 _ _ h))) ?_ (paired_snoc (keep T2) (paired_imp (fun _ _ z => keep (s2 _ _ (s1 _ _ z))) hts))
  rw [upd_same, List.map_append]
  rfl
theorem pure_steps_from {K : PySem.W.Frag} {C B : Addr} (vs : List V) (H : Hp) (Q : VK) (E : XK) (h : spStepsFrom K C vs H Q E) :
    t_steps_from K B C { nx := fun _ H' => Q .non H', rt := Q } (start ["row", "capacity", "start", "steps", "index", "load", "count", "new_count", "new_load"] vs) H := by
  obtain ⟨x, most, start0, ps, ks, rfl, row, ok, m1, m2, c1, q⟩ := h
  refine ⟨sz (Nat.zero_le _), fun s hs => ?_⟩
  have s1 := same_new (o := .lst []) hs
  have L1 : upd H s (.lst []) s = some (.lst []) := upd_same
  generalize upd H s (.lst []) = H1 at s1 L1 ⊢
  refine ⟨_, rfl, ?_⟩
  have total := sumFrom_bd start0 fun p m => (ok.po p m).1
  have top := ok.sm
  refine ⟨fun m σ H2 => ∃ i l acc ts w6 w7 w8, m = (2 * sumFrom i ps + l).toNat ∧ 0 ≤ l ∧ l ≤ most ∧ (acc = [] → i = start0 ∧ l = 0) ∧ ((acc = [] ∨ 0 < l) → ∀ r, Walks (cnt ps) (cap ks) most i l r → Walks (cnt ps) (cap ks) most start0 0 (acc ++ r)) ∧ (acc ≠ [] → l = 0 → Walks (cnt ps) (cap ks) most start0 0 acc) ∧
    SameBut s H1 H2 ∧ H2 s = some (.lst (ts.map V.ref)) ∧ Paired (TupS H2) ts acc ∧ acc.length + m ≤ 80 ∧ σ = [some (.ref x), some (.int most), some (.int start0), some (.ref s), some (.int i), some (.int l), w6, w7, w8],
    ⟨_, start0, 0, [], [], none, none, none, rfl, Int.le_refl _, by omega, fun _ => ⟨rfl, rfl⟩, fun _ r w => w, fun z => absurd rfl z, fun b o _ h => h, L1, .nil, by show 0 + _ ≤ 80; omega, rfl⟩, ?_⟩
  rintro m σ H2 ⟨i, l, acc, ts, w6, w7, w8, rfl, l0, l1, first, ext, fin, k2, L2', hts, len, rfl⟩
  have over : ∀ H3, H3 = H2 → acc ≠ [] → l = 0 → Q (.ref s) H3 := fun H3 e ne z => by
    subst e
    refine q s H3 acc hs (fun b o hb => k2 b o (ne_of_none hb hs) (s1 b o hb)) ⟨ts, L2', hts⟩ (fin ne z) (by omega)
  have row2 : RowAt K C H2 x ps ks := by
    have r1 := row.same s1
    obtain ⟨dx, c, k, d, e, ps0, ks0, h1, ⟨t1, h2, h3⟩, ⟨t2, h4, h5⟩, h6, h7, h8⟩ := r1
    have kp : ∀ {b : Addr} {o : HO}, H1 b = some o → (∀ xs, o ≠ .lst xs) → H2 b = some o := fun {b o} hb no => k2 b o (fun e => by rw [e, L1] at hb; exact no _ (Option.some.inj hb).symm) hb
    refine ⟨dx, c, k, d, e, ps0, ks0, kp h1 (fun _ e => nomatch e), ⟨t1, ?_, paired_imp (fun _ p z => kp (o := .tup [.int p.1, .int p.2]) z (fun _ e => nomatch e)) h3⟩, ⟨t2, ?_, paired_imp (fun _ p z => kp (o := .tup [.int p.1, .int p.2]) z (fun _ e => nomatch e)) h5⟩, kp h6 (fun _ e => nomatch e), kp h7 (fun _ e => nomatch e), h8⟩
    · obtain ⟨o, a1, a2⟩ := h2
      exact ⟨o, kp a1 (fun _ e => nomatch e), a2⟩
    · obtain ⟨o, a1, a2⟩ := h4
      exact ⟨o, kp a1 (fun _ e => nomatch e), a2⟩
  -- one more turn
  have go : (acc = [] ∨ 0 < l) → ∃ Nn : L2.St → Hp → Prop, (∀ σ' H', Nn σ' H' → ∃ m', m' < (2 * sumFrom i ps + l).toNat ∧ ∃ i l acc ts w6 w7 w8, m' = (2 * sumFrom i ps + l).toNat ∧ 0 ≤ l ∧ l ≤ most ∧ (acc = [] → i = start0 ∧ l = 0) ∧ ((acc = [] ∨ 0 < l) → ∀ r, Walks (cnt ps) (cap ks) most i l r → Walks (cnt ps) (cap ks) most start0 0 (acc ++ r)) ∧ (acc ≠ [] → l = 0 → Walks (cnt ps) (cap ks) most start0 0 acc) ∧
    SameBut s H1 H' ∧ H' s = some (.lst (ts.map V.ref)) ∧ Paired (TupS H') ts acc ∧ acc.length + m' ≤ 80 ∧ σ' = [some (.ref x), some (.int most), some (.int start0), some (.ref s), some (.int i), some (.int l), w6, w7, w8]) ∧
    t_stBody K B C { nx := Nn, rt := Q, bk := tRet (tVar 3) { nx := fun _ H' => Q .non H', rt := Q }, ct := Nn } [some (.ref x), some (.int most), some (.int start0), some (.ref s), some (.int i), some (.int l), w6, w7, w8] H2 := by
    intro pos
    have nx := sumFrom_next i ok.nd
    have b1 := sumFrom_bd (i + 1) fun p m => (ok.po p m).1
    have c := cap_ok ok.ko i
    have n := cnt_bd ok i
    have np : acc = [] → 1 ≤ cnt ps i := fun z => by rw [(first z).1]; exact c1
    have lz : acc = [] → l = 0 := fun z => (first z).2
    have l' : 0 ≤ stL most l (cap ks i) (cnt ps i) ∧ stL most l (cap ks i) (cnt ps i) ≤ most := by
      unfold stL
      omega
    have dec : (2 * sumFrom (i + 1) ps + stL most l (cap ks i) (cnt ps i)).toNat < (2 * sumFrom i ps + l).toNat := by
      have d1 : stL most l (cap ks i) (cnt ps i) ≤ l + cnt ps i := by
        unfold stL
        omega
      have d2 : cnt ps i = 0 → 0 < l → stL most l (cap ks i) (cnt ps i) < l := by
        intro z1 z2
        unfold stL
        rw [z1]
        omega
      rcases pos with e | e
      · have := np e
        have := lz e
        omega
      · by_cases z : cnt ps i = 0
        · have := d2 z e
          omega
        · omega
    refine ⟨fun σ' H' => ∃ us, SameBut s H2 H' ∧ H' s = some (.lst (us.map V.ref)) ∧ Paired (TupS H') us (acc ++ [stepAt (cnt ps) (cap ks) most i l]) ∧ ∃ w6 w7 w8, σ' = [some (.ref x), some (.int most), some (.int start0), some (.ref s), some (.int (i + 1)), some (.int (stL most l (cap ks i) (cnt ps i))), w6, w7, w8], ?_, ?_⟩
    · rintro σ' H' ⟨us, k3, L3, hus, v6, v7, v8, rfl⟩
      refine ⟨_, dec, i + 1, _, acc ++ [stepAt (cnt ps) (cap ks) most i l], us, v6, v7, v8, rfl, l'.1, l'.2, fun z => absurd z (by simp), fun more r w => ?_, fun _ z => ?_, k2.trans k3, L3, hus, ?_, rfl⟩
      · rw [List.append_assoc]
        show Walks _ _ _ _ _ (acc ++ (stepAt (cnt ps) (cap ks) most i l :: r))
        have on : stL most l (cap ks i) (cnt ps i) ≠ 0 := by
          rcases more with e | e
          · exact absurd e (by simp)
          · omega
        exact ext pos _ (.more on w)
      · exact ext pos _ (.last z)
      · rw [List.length_append]
        show acc.length + 1 + _ ≤ 80
        omega
    · exact st_body row2 ok m1 m2 l0 l1 L2' hts (by omega) fun H' us k3 L3 hus => ⟨us, k3, L3, hus, _, _, _, rfl⟩
  refine ⟨_, rfl, _, _, rfl, rfl, _, rfl, ?_⟩
  by_cases pos : 0 < l
  · rw [decide_eq_true pos]
    exact iteT (iteT (go (.inr pos)))
  · rw [decide_eq_false pos]
    refine iteF ⟨_, rfl, _, .inl ⟨_, SqL.of L2', rfl⟩, ?_⟩
    have tl := paired_len hts
    cases acc with
    | nil =>
      have e : ts = [] := List.length_eq_zero_iff.mp tl
      subst e
      exact iteT (go (.inl rfl))
    | cons a r =>
      cases ts with
      | nil => cases tl
      | cons b us => exact iteF ⟨_, rfl, over _ rfl (by simp) (by omega)⟩
end SR
set_option Elab.async false
set_option linter.all false
set_option maxRecDepth 100000
set_option maxHeartbeats 4000000
namespace SR
open PySem PySem.Spec PyProof.Rows L2
def lastIdx (acc : List Step) : Int := ((acc.getLast?).map Prod.fst).getD 0
/-- the steps over the items that are left -/
inductive Traces (cn cp : Int → Int) (most : Int) : List (Int × Int) → List Step → List Step → Prop where
  | nil {acc : List Step} : Traces cn cp most [] acc acc
  | skip {p : Int × Int} {ps : List (Int × Int)} {acc r : List Step} (h : acc ≠ []) (h2 : ¬ lastIdx acc < p.1) (t : Traces cn cp most ps acc r) : Traces cn cp most (p :: ps) acc r
  | walk {p : Int × Int} {ps : List (Int × Int)} {acc w r : List Step} (h : acc = [] ∨ lastIdx acc < p.1) (hw : Walks cn cp most p.1 0 w) (t : Traces cn cp most ps (acc ++ w) r) : Traces cn cp most (p :: ps) acc r
def spTrace (K : PySem.W.Frag) (C B : Addr) : Sp := fun vs H Q E => ∃ x v t ps ks, vs = [.ref x, v] ∧ AnyT K H v t ∧ RowAt K C H x ps ks ∧ RowOk ps ks ∧ (btw 1 99 v = false → E (.ref B) none H) ∧
  ∀ most, v = .int most → 1 ≤ most → most ≤ 99 → ∀ s H' st, H s = none → Same H H' → StepsAt H' s st → Traces (cnt ps) (cap ks) most ps [] st → st.length ≤ 3200 → Q (.ref s) H'
def t_trBody (K : PySem.W.Frag) (c_Row : Addr) : TS := (tIfS (tOr (tNot ((fun σ H Q => tVar 2 σ H fun x H1 => ∃ k, TruV K x H1 k ∧ Q k H1))) (tTest (tOp qLt (tOp (rIxT K) (tOp (rIxL K) (tVar 2) (tUn (rU fun i => .int (-i)) (tC (.int 1)))) (tC (.int 0))) (tVar 3))))
  (tDrop (tBM K "list" rExtend (tVar 2) (tCons (tCall (spStepsFrom K c_Row) [] E0 (tCons (tVar 0) (tCons (tVar 1) (tCons (tVar 3) (tNil))))) (tNil))))
  (tNext))
def t_trace (K : PySem.W.Frag) (c_BadCapacity : Addr) (c_Row : Addr) (E : XK) : TS := tSeq (tIfS (tNot (tB (tCall (spCapacity K) [] E0 (tCons (tVar 1) (tNil)))))
  (tOut (.ref c_BadCapacity) E)
  (tNext))
  (tSeq (tAsg (tLst (tNil)) (gName 2))
  (tSeq (tFor (iTup K (tProp c_Row (spContents K c_Row) [] E0 (tVar 0))) (gTup K 2 (gCons (gName 3) (gCons (gName 4) (gNil)))) (t_trBody K c_Row))
  (tRet (tVar 2))))
/-- what a list of the steps' own leaves of a row -/
theorem RowAt.but {K : PySem.W.Frag} {C : Addr} {H H' : Hp} {x s : Addr} {ps ks : List (Int × Int)} {xs : List V} (row : RowAt K C H x ps ks) (hs : H s = some (.lst xs)) (k : SameBut s H H') : RowAt K C H' x ps ks := by
  obtain ⟨dx, c, k0, d, e, ps0, ks0, h1, ⟨t1, h2, h3⟩, ⟨t2, h4, h5⟩, h6, h7, h8⟩ := row
  have kp : ∀ {b : Addr} {o : HO}, H b = some o → (∀ xs, o ≠ .lst xs) → H' b = some o := fun {b o} hb no => k b o (fun e => by rw [e, hs] at hb; exact no _ (Option.some.inj hb).symm) hb
  refine ⟨dx, c, k0, d, e, ps0, ks0, kp h1 (fun _ e => nomatch e), ⟨t1, ?_, paired_imp (fun _ p z => kp (o := .tup [.int p.1, .int p.2]) z (fun _ e => nomatch e)) h3⟩, ⟨t2, ?_, paired_imp (fun _ p z => kp (o := .tup [.int p.1, .int p.2]) z (fun _ e => nomatch e)) h5⟩, kp h6 (fun _ e => nomatch e), kp h7 (fun _ e => nomatch e), h8⟩
  · obtain ⟨o, a1, a2⟩ := h2
    exact ⟨o, kp a1 (fun _ e => nomatch e), a2⟩
  · obtain ⟨o, a1, a2⟩ := h4
    exact ⟨o, kp a1 (fun _ e => nomatch e), a2⟩
theorem at_last {xs : List V} {v : V} (h : xs.getLast? = some v) : atI xs (-1) = some v := by
  have ne : xs ≠ [] := fun z => by rw [z] at h; cases h
  have l1 : 0 < xs.length := List.length_pos_iff.mpr ne
  rw [List.getLast?_eq_getElem?] at h
  unfold atI ixN
  rw [if_neg (by decide), if_pos (by omega), show (-1 + (xs.length : Int)).toNat = xs.length - 1 by omega]
  exact h
theorem walks_ne {cn cp : Int → Int} {most i l : Int} {w : List Step} (h : Walks cn cp most i l w) : w ≠ [] := by
  cases h <;> simp
theorem paired_append {α β : Type} {F : α → β → Prop} : ∀ {xs xs' : List α} {ys ys' : List β}, Paired F xs ys → Paired F xs' ys' → Paired F (xs ++ xs') (ys ++ ys')
  | _, _, _, _, .nil, h => h
  | _, _, _, _, .cons a t, h => .cons a (paired_append t h)
theorem paired_last {α β : Type} {F : α → β → Prop} : ∀ {xs : List α} {ys : List β}, Paired F xs ys → ys ≠ [] → ∃ x y, xs.getLast? = some x ∧ ys.getLast? = some y ∧ F x y
  | _, _, .nil, h => absurd rfl h
  | [x], [y], .cons a .nil, _ => ⟨x, y, rfl, rfl, a⟩
  | x :: x2 :: xs, y :: y2 :: ys, .cons a (.cons b t), _ => by
    obtain ⟨u, v, h1, h2, h3⟩ := paired_last (.cons b t) (by simp)
    exact ⟨u, v, by rw [List.getLast?_cons_cons]; exact h1, by rw [List.getLast?_cons_cons]; exact h2, h3⟩
theorem tr_body {K : PySem.W.Frag} {C : Addr} {H : Hp} {x s : Addr} {most : Int} {p : Int × Int} {ps ks : List (Int × Int)} {ts : List Addr} {acc : List Step} {w4 : Option V} {N N2 N3 : L2.St → Hp → Prop} {R : VK} (row : RowAt K C H x ps ks) (ok : RowOk ps ks) (m1 : 1 ≤ most) (m2 : most ≤ 99) (hp : p ∈ ps)
    (hs : H s = some (.lst (ts.map V.ref))) (hts : Paired (TupS H) ts acc) (short : acc.length ≤ 3200)
    (hN : ∀ H' us acc', SameBut s H H' → H' s = some (.lst (us.map V.ref)) → Paired (TupS H') us acc' → acc'.length ≤ acc.length + 80 → (∀ qs r, Traces (cnt ps) (cap ks) most qs acc' r → Traces (cnt ps) (cap ks) most (p :: qs) acc r) → N [some (.ref x), some (.int most), some (.ref s), some (.int p.1), w4] H') :
    t_trBody K C { nx := N, rt := R, bk := N2, ct := N3 } [some (.ref x), some (.int most), some (.ref s), some (.int p.1), w4] H := by
  have c1 : 1 ≤ cnt ps p.1 := by
    unfold cnt
    rw [(lookup_some (n := p.2) ok.nd).mpr hp]
    exact (ok.po p hp).1
  have go : (acc = [] ∨ lastIdx acc < p.1) → tDrop (tBM K "list" rExtend (tVar 2) (tCons (tCall (spStepsFrom K C) [] E0 (tCons (tVar 0) (tCons (tVar 1) (tCons (tVar 3) (tNil))))) (tNil))) { nx := N, rt := R, bk := N2, ct := N3 } [some (.ref x), some (.int most), some (.ref s), some (.int p.1), w4] H := by
    intro on
    refine ⟨_, rfl, .inl ⟨rfl, _, SqL.of hs⟩, _, rfl, _, rfl, _, rfl, x, most, p.1, ps, ks, rfl, row, ok, m1, m2, c1, fun s2 H2 w hs2 k2 st2 wk len => ?_⟩
    obtain ⟨vs, L2', hvs⟩ := st2
    have L1 := k2 _ _ hs
    have tl := paired_len hts
    have vl := paired_len hvs
    refine ⟨s, s2, _, _, rfl, rfl, L1, L2', ?_, ?_⟩
    · rw [List.length_map, List.length_map, tl, vl]
      exact Nat.le_trans (by omega : acc.length + w.length ≤ 3280) (by decide)
    have keep : ∀ {b : Addr} {st : Step}, TupS H2 b st → TupS (upd H2 s (.lst (ts.map V.ref ++ vs.map V.ref))) b st := fun {b st} z => (upd_ne (ne_of z L1 (by intro e; cases e))).trans z
    refine hN _ (ts ++ vs) (acc ++ w) (fun b o ne h => (upd_ne ne).trans (k2 _ _ h)) ?_ (paired_append (paired_imp (fun _ _ z => keep (k2 _ _ z)) hts) (paired_imp (fun _ _ z => keep z) hvs)) ?_ fun qs r t => .walk on wk t
    · rw [upd_same, List.map_append]
    · rw [List.length_append]
      omega
  have tl := paired_len hts
  refine ⟨_, rfl, _, .inl ⟨_, SqL.of hs, rfl⟩, ?_⟩
  cases hacc : acc with
  | nil =>
    rw [hacc] at tl
    have e : ts = [] := List.length_eq_zero_iff.mp tl
    rw [e]
    exact iteT (iteT (go (.inl hacc)))
  | cons a r =>
    have ne : acc ≠ [] := by rw [hacc]; simp
    obtain ⟨t, st, g1, g2, g3⟩ := paired_last hts ne
    have tne : ts ≠ [] := fun z => by rw [z] at g1; cases g1
    have li : lastIdx acc = st.1 := by unfold lastIdx; rw [g2]; rfl
    have emp : (ts.map V.ref).isEmpty = false := by
      cases ts with
      | nil => exact absurd rfl tne
      | cons _ _ => rfl
    rw [emp]
    have at1 : atI (ts.map V.ref) (-1) = some (.ref t) := at_last (by rw [List.getLast?_map, g1]; rfl)
    refine iteF ⟨_, rfl, 1, rfl, s, _, -1, _, rfl, rfl, SqL.of hs, at1, t, _, 0, _, rfl, rfl, SqT.of g3, rfl, _, rfl, _, _, rfl, rfl, _, rfl, ?_⟩
    by_cases lt : lastIdx acc < p.1
    · rw [li] at lt
      rw [decide_eq_true lt]
      exact iteT (go (.inr (by rw [li]; exact lt)))
    · rw [li] at lt
      rw [decide_eq_false lt]
      refine iteF (hN H ts acc (fun _ _ _ h => h) hs hts (by omega) fun qs r2 tt => .skip ne (by rw [li]; exact lt) tt)
theorem pure_trace {K : PySem.W.Frag} {C B : Addr} (vs : List V) (H : Hp) (Q : VK) (E : XK) (h : spTrace K C B vs H Q E) :
    t_trace K B C E { nx := fun _ H' => Q .non H', rt := Q } (start ["row", "capacity", "steps", "start", "_"] vs) H := by
  obtain ⟨x, v, t, ps, ks, rfl, hv, row, ok, bad, q⟩ := h
  refine ⟨_, rfl, v, t, rfl, hv, _, rfl, ?_⟩
  cases e : btw 1 99 v with
  | false => exact iteT (bad e)
  | true =>
  obtain ⟨most, rfl, m1, m2⟩ := btw_iff.mp e
  refine iteF ⟨sz (Nat.zero_le _), fun s hs => ?_⟩
  have s1 := same_new (o := .lst []) hs
  have L1 : upd H s (.lst []) s = some (.lst []) := upd_same
  generalize upd H s (.lst []) = H1 at s1 L1 ⊢
  have row1 := row.same s1
  obtain ⟨dx, fs, hx, no1, no2⟩ := row1.ins
  refine ⟨_, rfl, x, dx, fs, rfl, hx, x, ps, ks, rfl, row1, fun c hc => ⟨c, rfl, ?_⟩⟩
  obtain ⟨ts0, bc, pc⟩ := hc
  refine ⟨⟨_, bc.sq⟩, ?_⟩
  refine for_it (walk_tup (K := K) (a := c) (xs := ts0.map V.ref)) (fun i σ H2 => SameBut s H1 H2 ∧ ∃ us acc w3 w4, H2 s = some (.lst (us.map V.ref)) ∧ Paired (TupS H2) us acc ∧ acc.length ≤ 80 * i ∧ (∀ r, Traces (cnt ps) (cap ks) most (ps.drop i) acc r → Traces (cnt ps) (cap ks) most ps [] r) ∧ σ = [some (.ref x), some (.int most), some (.ref s), w3, w4])
    ⟨fun b o _ h => h, [], [], none, none, L1, .nil, Nat.zero_le _, fun r z => z, rfl⟩ ?_ ?_ ?_
  · rintro i σ H2 _ ⟨k2, _⟩
    refine Bare.sq ?_
    obtain ⟨o, a1, a2⟩ := bc
    exact ⟨o, k2 _ _ (fun z => by rw [z, L1] at a1; cases a1) a1, a2⟩
  · rintro i v2 σ H2 H3 hi ⟨k2, us, acc, w3, w4, L2', hus, len, tr, rfl⟩ ⟨rfl, hv2⟩
    rw [List.getElem?_map] at hv2
    obtain ⟨u, hu, rfl⟩ := Option.map_eq_some_iff.mp hv2
    obtain ⟨p, hp, hat⟩ := paired_at pc hu
    have at2 : TupAt H3 u p := k2 _ _ (fun z => by
      unfold TupAt at hat
      rw [z, L1] at hat
      cases hat) hat
    have pl : ps.length ≤ 40 := ok.len
    have ip : i < ps.length := (List.getElem?_eq_some_iff.mp hp).1
    refine ⟨u, _, rfl, SqT.of at2, rfl, _, _, rfl, _, _, rfl, rfl, ?_⟩
    show t_trBody K C _ [some (.ref x), some (.int most), some (.ref s), some (.int p.1), some (.int p.2)] H3
    refine tr_body (row1.but L1 k2) ok m1 m2 (List.mem_of_getElem? hp) L2' hus (by omega) fun H4 us4 acc4 k4 L4 hus4 len4 tr4 => ⟨k2.trans k4, us4, acc4, _, _, L4, hus4, by omega, fun r z => tr r ?_, rfl⟩
    have dr : ps.drop i = p :: ps.drop (i + 1) := by
      rw [List.drop_eq_getElem_cons ip]
      congr 1
      exact (List.getElem?_eq_some_iff.mp hp).2
    rw [dr]
    exact tr4 _ r z
  · rintro σ H2 ⟨k2, us, acc, w3, w4, L2', hus, len, tr, rfl⟩
    have pl : ps.length ≤ 40 := ok.len
    have tl : (ts0.map V.ref).length = ps.length := by rw [List.length_map, paired_len pc]
    rw [tl] at len tr
    rw [List.drop_length] at tr
    exact ⟨_, rfl, q most rfl m1 m2 s H2 acc hs (fun b o hb => k2 b o (ne_of_none hb hs) (s1 b o hb)) ⟨us, L2', hus⟩ (tr _ .nil) (by omega)⟩
end SR
set_option Elab.async false
set_option linter.all false
set_option maxRecDepth 100000
set_option maxHeartbeats 4000000
namespace SR
open PySem PySem.Spec PyProof.Rows L2
/-- indexes ascend -/
def AscS (st : List Step) : Prop := st.Pairwise fun a b => a.1 < b.1
/-- what every step is -/
def StepOk (ps ks : List (Int × Int)) (s : Step) : Prop := s.2.2.1 = cnt ps s.1 ∧ 0 ≤ s.2.2.2.2 ∧ s.2.2.2.2 ≤ cap ks s.1
def sumIn (st : List Step) : Int := (st.map fun s => s.2.2.1).sum
def sumOut (st : List Step) : Int := (st.map fun s => s.2.2.2.2).sum
theorem step_ok {ps ks : List (Int × Int)} (ok : RowOk ps ks) {most i l : Int} (m1 : 1 ≤ most) (l0 : 0 ≤ l) (l1 : l ≤ most) :
    StepOk ps ks (stepAt (cnt ps) (cap ks) most i l) ∧ (0 ≤ stL most l (cap ks i) (cnt ps i) ∧ stL most l (cap ks i) (cnt ps i) ≤ most) ∧ stC most l (cap ks i) (cnt ps i) + stL most l (cap ks i) (cnt ps i) = cnt ps i + l := by
  have c := cap_ok ok.ko i
  have n := cnt_bd ok i
  refine ⟨⟨rfl, ?_, ?_⟩, ?_, ?_⟩
  · show 0 ≤ stC most l (cap ks i) (cnt ps i)
    unfold stC
    omega
  · show stC most l (cap ks i) (cnt ps i) ≤ cap ks i
    unfold stC
    omega
  · unfold stL
    omega
  · unfold stC stL
    omega
theorem walks_all {ps ks : List (Int × Int)} (ok : RowOk ps ks) {most : Int} (m1 : 1 ≤ most) {i l : Int} {w : List Step} (h : Walks (cnt ps) (cap ks) most i l w) : 0 ≤ l → l ≤ most → AscS w ∧ (∀ s ∈ w, i ≤ s.1 ∧ StepOk ps ks s) ∧ sumOut w = sumIn w + l := by
  induction h with
  | @last i l h =>
    intro l0 l1
    obtain ⟨a, b, c⟩ := step_ok (i := i) ok m1 l0 l1
    refine ⟨List.pairwise_singleton _ _, fun s m => ?_, ?_⟩
    · rw [List.mem_singleton.mp m]
      exact ⟨Int.le_refl _, a⟩
    · show stC most l (cap ks i) (cnt ps i) + 0 = cnt ps i + 0 + l
      omega
  | @more i l r h t ih =>
    intro l0 l1
    obtain ⟨a, b, c⟩ := step_ok (i := i) ok m1 l0 l1
    obtain ⟨d, e, f⟩ := ih b.1 b.2
    refine ⟨List.pairwise_cons.mpr ⟨fun s m => ?_, d⟩, fun s m => ?_, ?_⟩
    · have := (e s m).1
      show i < s.1
      omega
    · rcases List.mem_cons.mp m with rfl | m
      · exact ⟨Int.le_refl _, a⟩
      · have := e s m
        exact ⟨by omega, this.2⟩
    · show stC most l (cap ks i) (cnt ps i) + sumOut r = cnt ps i + sumIn r + l
      omega
theorem sum_app (a b : List Step) : sumIn (a ++ b) = sumIn a + sumIn b ∧ sumOut (a ++ b) = sumOut a + sumOut b := by
  unfold sumIn sumOut
  rw [List.map_append, List.map_append, List.sum_append, List.sum_append]
  exact ⟨rfl, rfl⟩
theorem last_most {acc : List Step} (h : AscS acc) : ∀ s ∈ acc, s.1 ≤ lastIdx acc := by
  intro s m
  unfold lastIdx
  cases e : acc.getLast? with
  | none =>
    rw [List.getLast?_eq_none_iff.mp e] at m
    cases m
  | some z =>
    show s.1 ≤ z.1
    obtain ⟨ys, rfl⟩ := List.getLast?_eq_some_iff.mp e
    rcases List.mem_append.mp m with m | m
    · have := (List.pairwise_append.mp h).2.2 s m z (List.mem_singleton.mpr rfl)
      omega
    · rw [List.mem_singleton.mp m]
      exact Int.le_refl _
theorem traces_all {ps ks : List (Int × Int)} (ok : RowOk ps ks) {most : Int} (m1 : 1 ≤ most) {qs : List (Int × Int)} {acc st : List Step} (h : Traces (cnt ps) (cap ks) most qs acc st) : AscS acc → (∀ s ∈ acc, StepOk ps ks s) → sumOut acc = sumIn acc → AscS st ∧ (∀ s ∈ st, StepOk ps ks s) ∧ sumOut st = sumIn st := by
  induction h with
  | nil => exact fun a b c => ⟨a, b, c⟩
  | skip _ _ _ ih => exact ih
  | @walk p qs acc w r on hw t ih =>
    intro a b c
    obtain ⟨d, e, f⟩ := walks_all ok m1 hw (Int.le_refl 0) (by omega)
    obtain ⟨s1, s2⟩ := sum_app acc w
    refine ih (List.pairwise_append.mpr ⟨a, d, fun x hx y hy => ?_⟩) (fun s m => ?_) (by omega)
    · rcases on with on | on
      · rw [on] at hx
        cases hx
      · have z1 := last_most a x hx
        have z2 := (e y hy).1
        omega
    · rcases List.mem_append.mp m with m | m
      · exact b s m
      · exact (e s m).2
theorem sumFrom_mono {ps : List (Int × Int)} (h : ∀ p ∈ ps, 1 ≤ p.2) {i j : Int} (ij : i ≤ j) : sumFrom j ps ≤ sumFrom i ps := by
  induction ps with
  | nil => exact Int.le_refl _
  | cons p ps ih =>
    have a := ih fun q m => h q (List.mem_cons_of_mem _ m)
    have b := h p List.mem_cons_self
    rw [sumFrom_cons, sumFrom_cons]
    split <;> split <;> omega
theorem sumIn_le {ps ks : List (Int × Int)} (ok : RowOk ps ks) : ∀ {st : List Step} (i : Int), AscS st → (∀ s ∈ st, i ≤ s.1 ∧ StepOk ps ks s) → sumIn st ≤ sumFrom i ps
  | [], i, _, _ => (sumFrom_bd i fun p m => (ok.po p m).1).1
  | s :: st, i, a, b => by
    have a' := List.pairwise_cons.mp a
    have hs := b s List.mem_cons_self
    have ih := sumIn_le ok (s.1 + 1) a'.2 fun t m => ⟨by have := a'.1 t m; omega, (b t (List.mem_cons_of_mem _ m)).2⟩
    have nx := sumFrom_next s.1 ok.nd
    have mo := sumFrom_mono (fun p m => (ok.po p m).1) hs.1
    have e := hs.2.1
    show s.2.2.1 + sumIn st ≤ _
    omega
/-- the items that steps leave -/
def left (st : List Step) : List (Int × Int) := (st.filter fun s => decide (0 < s.2.2.2.2)).map fun s => (s.1, s.2.2.2.2)
theorem left_sum : ∀ {st : List Step}, (∀ s ∈ st, 0 ≤ s.2.2.2.2) → ((left st).map Prod.snd).sum = sumOut st
  | [], _ => rfl
  | s :: st, h => by
    have ih := left_sum (st := st) fun t m => h t (List.mem_cons_of_mem _ m)
    have z := h s List.mem_cons_self
    show _ = s.2.2.2.2 + sumOut st
    unfold left at ih ⊢
    by_cases e : 0 < s.2.2.2.2
    · rw [List.filter_cons_of_pos (p := fun s : Step => decide (0 < s.2.2.2.2)) (decide_eq_true e), List.map_cons, List.map_cons, List.sum_cons, ih]
    · rw [List.filter_cons_of_neg (p := fun s : Step => decide (0 < s.2.2.2.2)) (by rw [decide_eq_false e]; exact Bool.false_ne_true), ih]
      omega
theorem left_ok {ps ks : List (Int × Int)} (ok : RowOk ps ks) {most : Int} (m1 : 1 ≤ most) {st : List Step} (h : Traces (cnt ps) (cap ks) most ps [] st) : RowOk (left st) ks ∧ Asc (left st) ∧ ((left st).map Prod.snd).sum = sumIn st := by
  obtain ⟨a, b, c⟩ := traces_all ok m1 h List.Pairwise.nil (fun s m => nomatch m) rfl
  have asc : Asc (left st) := by
    unfold Asc left
    rw [List.pairwise_map]
    exact List.Pairwise.filter _ a
  have sm := left_sum fun s m => (b s m).2.1
  have low : ∃ i : Int, ∀ s ∈ st, i ≤ s.1 := by
    cases st with
    | nil => exact ⟨0, fun s m => nomatch m⟩
    | cons s st =>
      refine ⟨s.1, fun t m => ?_⟩
      rcases List.mem_cons.mp m with rfl | m
      · exact Int.le_refl _
      · have := (List.pairwise_cons.mp a).1 t m
        omega
  obtain ⟨i, low⟩ := low
  have le := sumIn_le ok i a fun s m => ⟨low s m, b s m⟩
  have top := (sumFrom_bd i fun p m => (ok.po p m).1).2
  have s40 := ok.sm
  refine ⟨⟨asc_nd asc, ok.kd, ok.kl, ok.ko, fun p m => ?_, by omega⟩, asc, by omega⟩
  obtain ⟨s, hs, rfl⟩ := List.mem_map.mp m
  obtain ⟨hs1, hs2⟩ := List.mem_filter.mp hs
  have := of_decide_eq_true hs2
  exact ⟨by show 1 ≤ s.2.2.2.2; omega, (b s hs1).2.2⟩
end SR
set_option Elab.async false
set_option linter.all false
set_option maxRecDepth 100000
set_option maxHeartbeats 4000000
namespace SR
open PySem PySem.Spec PyProof.Rows L2
def spLeftBy (K : PySem.W.Frag) : Sp := fun vs H Q _ => ∃ a st, vs = [.ref a] ∧ StepsAt H a st ∧ st.length ≤ 3200 ∧ ∀ r H' us, H r = none → Same H H' → H' r = some (.lst (us.map V.ref)) → Paired (TupAt H') us (left st) → Q (.ref r) H'
def t_left_by (K : PySem.W.Frag) : TS := tRet (tLc (iList K (tVar 0)) (gTup K 5 (gCons (gName 1) (gCons (gName 2) (gCons (gName 2) (gCons (gName 2) (gCons (gName 3) (gNil))))))) (tTest (tOp qGt (tVar 3) (tC (.int 0)))) (tTup (tCons (tVar 1) (tCons (tVar 3) (tNil)))) [1, 2, 3])
theorem left_snoc (st : List Step) (s : Step) : left (st ++ [s]) = left st ++ (if 0 < s.2.2.2.2 then [(s.1, s.2.2.2.2)] else []) := by
  unfold left
  rw [List.filter_append, List.map_append]
  by_cases e : 0 < s.2.2.2.2
  · rw [if_pos e, List.filter_cons_of_pos (p := fun s : Step => decide (0 < s.2.2.2.2)) (decide_eq_true e)]
    rfl
  · rw [if_neg e, List.filter_cons_of_neg (p := fun s : Step => decide (0 < s.2.2.2.2)) (by rw [decide_eq_false e]; exact Bool.false_ne_true)]
    rfl
theorem left_len (st : List Step) : (left st).length ≤ st.length := by
  unfold left
  rw [List.length_map]
  exact List.length_filter_le _ _
theorem pure_left_by {K : PySem.W.Frag} (vs : List V) (H : Hp) (Q : VK) (E : XK) (h : spLeftBy K vs H Q E) : t_left_by K { nx := fun _ H' => Q .non H', rt := Q } (start ["steps", "index", "_", "new_count"] vs) H := by
  obtain ⟨a, st, rfl, ⟨ts, hA, hts⟩, len, q⟩ := h
  refine ⟨_, rfl, a, rfl, ⟨_, SqL.of hA⟩, fun D hD => ?_⟩
  refine lc_it (walk_list (K := K) (a := a) (xs := ts.map V.ref)) (fun i H1 => Same H H1 ∧ ∃ us, H1 D = some (.lst (us.map V.ref)) ∧ Paired (TupAt H1) us (left (st.take i))) ⟨same_new hD, [], upd_same, .nil⟩ ?_ ?_ ?_
  · rintro i H1 _ ⟨s1, _⟩
    exact SqL.of (s1 _ _ hA)
  · rintro i v H1 H2 hi ⟨s1, us, d1, hus⟩ ⟨rfl, hv⟩
    rw [List.getElem?_map] at hv
    obtain ⟨t, ht, rfl⟩ := Option.map_eq_some_iff.mp hv
    obtain ⟨s, hs, hat⟩ := paired_at hts ht
    have T1 : TupS H2 t s := s1 _ _ hat
    have tk : st.take (i + 1) = st.take i ++ [s] := by
      rw [List.take_succ, hs]
      rfl
    have ul : us.length ≤ 3200 := by
      have a1 := paired_len hus
      have a2 := left_len (st.take i)
      rw [List.length_take] at a2
      have a3 := Nat.min_le_right i st.length
      omega
    refine ⟨t, _, rfl, SqT.of T1, rfl, _, _, rfl, _, _, rfl, _, _, rfl, _, _, rfl, _, _, rfl, rfl, rfl, _, rfl, _, _, rfl, rfl, _, rfl, ?_⟩
    by_cases e : 0 < s.2.2.2.2
    · rw [decide_eq_true e]
      refine iteT ⟨_, rfl, _, rfl, sz (by show 2 ≤ 1000; decide), fun n hn => ?_⟩
      have s3 := same_new (o := .tup [.int s.1, .int s.2.2.2.2]) hn
      have T3 : TupAt (upd H2 n (.tup [.int s.1, .int s.2.2.2.2])) n (s.1, s.2.2.2.2) := upd_same
      generalize upd H2 n (.tup [.int s.1, .int s.2.2.2.2]) = H3 at s3 T3 ⊢
      have d3 := s3 _ _ d1
      have keep : ∀ {b : Addr} {p : Int × Int}, TupAt H3 b p → TupAt (upd H3 D (.lst (us.map V.ref ++ [.ref n]))) b p := fun {b p} z => (upd_ne (ne_of z d3 (by intro e; cases e))).trans z
      refine ⟨_, d3, ?_, same_upd (s1.trans s3) hD, us ++ [n], ?_, ?_⟩
      · rw [List.length_map]
        exact Nat.lt_of_le_of_lt ul (by decide)
      · rw [upd_same, List.map_append]
        rfl
      · rw [tk, left_snoc, if_pos e]
        exact paired_snoc (keep T3) (paired_imp (fun _ _ z => keep (s3 _ _ z)) hus)
    · rw [decide_eq_false e]
      refine iteF ⟨s1, us, d1, ?_⟩
      rw [tk, left_snoc, if_neg e, List.append_nil]
      exact hus
  · rintro H1 ⟨s1, us, d1, hus⟩
    have tl : (ts.map V.ref).length = st.length := by rw [List.length_map, paired_len hts]
    rw [tl, List.take_length] at hus
    exact q D H1 us hD s1 d1 hus
def spSweep (K : PySem.W.Frag) (C B : Addr) : Sp := fun vs H Q E => ∃ x v t ps ks, vs = [.ref x, v] ∧ AnyT K H v t ∧ RowAt K C H x ps ks ∧ RowOk ps ks ∧ Asc ks ∧ (btw 1 99 v = false → E (.ref B) none H) ∧
  ∀ most, v = .int most → 1 ≤ most → most ≤ 99 → ∀ y H' st, H y = none → Same H H' → Traces (cnt ps) (cap ks) most ps [] st → RowAt K C H' y (left st) ks → Q (.ref y) H'
def t_sweep (K : PySem.W.Frag) (c_BadCapacity c_Row : Addr) (E : XK) : TS := tRet (tMake c_Row (spRowInit K c_Row) [] E0 (tCons (tCall (spLeftBy K) [] E0 (tCons (tCall (spTrace K c_Row c_BadCapacity) [] E (tCons (tVar 0) (tCons (tVar 1) (tNil)))) (tNil))) (tCons (tProp c_Row (spCapacities K c_Row) [] E0 (tVar 0)) (tNil))))
theorem pure_sweep {K : PySem.W.Frag} {C B : Addr} (vs : List V) (H : Hp) (Q : VK) (E : XK) (h : spSweep K C B vs H Q E) : t_sweep K B C E { nx := fun _ H' => Q .non H', rt := Q } (start ["row", "capacity"] vs) H := by
  obtain ⟨x, v, t, ps, ks, rfl, hv, row, ok, ak, bad, q⟩ := h
  refine ⟨_, rfl, _, rfl, x, v, t, ps, ks, rfl, hv, row, ok, bad, fun most e m1 m2 s H1 st hs s1 hst tr len => ?_⟩
  subst e
  refine ⟨s, st, rfl, hst, len, fun r H2 us hr s2 rd rp => ?_⟩
  have pr : PairsAt K H2 r (left st) := ⟨us, .inl (SqL.of rd), rp⟩
  have row2 := (row.same s1).same s2
  obtain ⟨dx, fs, hx, _, _⟩ := row2.ins
  refine ⟨_, rfl, x, dx, fs, rfl, hx, x, ps, ks, rfl, row2, fun c hc => ?_⟩
  obtain ⟨lo, la, _⟩ := left_ok ok m1 tr
  refine make_row pr hc.at lo fun y H3 qs ls hy s3 ry p1 p2 a1 a2 => ?_
  have z1 := asc_eq a1 la p1
  have z2 := asc_eq a2 ak p2
  subst z1 z2
  exact q most rfl m1 m2 y H3 st (Same.free s1 (Same.free s2 hy)) (s1.trans (s2.trans s3)) tr ry
end SR
set_option Elab.async false
set_option linter.all false
set_option maxRecDepth 100000
set_option maxHeartbeats 4000000
namespace SR
open PySem PySem.Spec PyProof.Rows L2
/-- a list of new pairs over a tuple of pairs -/
theorem lc_tups {K : PySem.W.Frag} {te : TE} {g : TG} {telt : TE} {vs : List Nat} {σ : L2.St} {H : Hp} {ps : List (Int × Int)} {Q : VK} (f : Int × Int → Int × Int) (hte : ∀ R : VK, (∀ c, PairsT H c ps → R (.ref c) H) → te σ H R) (hl : ps.length ≤ 1000)
    (hs : ∀ t p H' (R : VK), Same H H' → TupAt H' t p → (∀ n, H' n = none → R (.ref n) (upd H' n (.tup [.int (f p).1, .int (f p).2]))) → g (.ref t) (wipe σ vs) H' fun σ2 H2 => wipe σ2 vs = wipe σ vs ∧ telt σ2 H2 R)
    (hQ : ∀ D H', H D = none → Same H H' → PairsAt K H' D (ps.map f) → Q (.ref D) H') : tLc (iTup K te) g tYes telt vs σ H Q := by
  refine hte _ fun c hp => ?_
  obtain ⟨ts, bc, hts⟩ := hp
  have hlen : (ts.map V.ref).length = ps.length := by rw [List.length_map, paired_len hts]
  refine ⟨c, rfl, ⟨_, bc.sq⟩, fun D hD => ?_⟩
  refine lc_it (walk_tup (K := K) (a := c) (xs := ts.map V.ref)) (fun i H1 => Same H H1 ∧ ∃ us, H1 D = some (.lst (us.map V.ref)) ∧ Paired (TupAt H1) us ((ps.take i).map f)) ⟨same_new hD, [], upd_same, .nil⟩ (fun i H1 _ h => (bc.same h.1).sq) ?_ ?_
  · rintro i v H1 H2 hi ⟨s1, us, d1, hus⟩ ⟨rfl, hv⟩
    rw [List.getElem?_map] at hv
    obtain ⟨t, ht, rfl⟩ := Option.map_eq_some_iff.mp hv
    obtain ⟨p, hpi, hat⟩ := paired_at hts ht
    have ul : us.length ≤ 1000 := by
      rw [paired_len hus, List.length_map, List.length_take]
      exact Nat.le_trans (Nat.min_le_right _ _) hl
    refine hs t p H2 _ s1 (s1 _ _ hat) fun n hn => ?_
    have s3 := same_new (o := .tup [.int (f p).1, .int (f p).2]) hn
    have T3 : TupAt (upd H2 n (.tup [.int (f p).1, .int (f p).2])) n (f p) := upd_same
    generalize upd H2 n (.tup [.int (f p).1, .int (f p).2]) = H3 at s3 T3 ⊢
    have d3 := s3 _ _ d1
    have keep : ∀ {b : Addr} {p : Int × Int}, TupAt H3 b p → TupAt (upd H3 D (.lst (us.map V.ref ++ [.ref n]))) b p := fun {b p} z => (upd_ne (ne_of z d3 (by intro e; cases e))).trans z
    refine ⟨_, d3, ?_, same_upd (s1.trans s3) hD, us ++ [n], ?_, ?_⟩
    · rw [List.length_map]
      exact Nat.lt_of_le_of_lt ul (by decide)
    · rw [upd_same, List.map_append]
      rfl
    · rw [List.take_succ, hpi, List.map_append]
      exact paired_snoc (keep T3) (paired_imp (fun _ _ z => keep (s3 _ _ z)) hus)
  · rintro H1 ⟨s1, us, d1, hus⟩
    rw [hlen, List.take_length] at hus
    exact hQ D H1 hD s1 ⟨us, .inl (SqL.of d1), hus⟩
def neg1 (p : Int × Int) : Int × Int := (-p.1, p.2)
/-- the row seen from the other side -/
def mirror (ps : List (Int × Int)) : List (Int × Int) := (ps.map neg1).reverse
theorem mirror_perm (ps : List (Int × Int)) : (mirror ps).Perm (ps.map neg1) := List.reverse_perm _
theorem mirror_asc {ps : List (Int × Int)} (h : Asc ps) : Asc (mirror ps) := by
  unfold Asc mirror
  rw [List.pairwise_reverse, List.pairwise_map]
  refine h.imp fun {a b} z => ?_
  show -b.1 < -a.1
  omega
theorem lookup_neg (i : Int) : ∀ ps : List (Int × Int), (ps.map neg1).lookup (-i) = ps.lookup i
  | [] => rfl
  | p :: ps => by
    obtain ⟨j, n⟩ := p
    show List.lookup (-i) ((-j, n) :: ps.map neg1) = _
    rw [List.lookup_cons, List.lookup_cons, lookup_neg i ps]
    by_cases e : i = j
    · subst e
      rw [beq_self_eq_true, beq_self_eq_true]
    · rw [beq_eq_false_iff_ne.mpr e, beq_eq_false_iff_ne.mpr (fun z => e (by omega))]
theorem neg_nd {ps : List (Int × Int)} (h : (ps.map Prod.fst).Nodup) : ((ps.map neg1).map Prod.fst).Nodup := by
  unfold List.Nodup at *
  rw [List.pairwise_map, List.pairwise_map] at *
  refine h.imp fun {a b} z e => z ?_
  have : -a.1 = -b.1 := e
  omega
theorem neg_ok {ps ks : List (Int × Int)} (h : RowOk ps ks) : RowOk (ps.map neg1) (ks.map neg1) := by
  have ce : ∀ i, cap (ks.map neg1) (-i) = cap ks i := fun i => by
    unfold cap
    rw [lookup_neg]
  refine ⟨neg_nd h.nd, neg_nd h.kd, by rw [List.length_map]; exact h.kl, fun p m => ?_, fun p m => ?_, ?_⟩
  · obtain ⟨q, hq, rfl⟩ := List.mem_map.mp m
    have := h.ko q hq
    unfold sizeOk neg1 at *
    exact ⟨⟨by show -60 ≤ -q.1; omega, by show -q.1 ≤ 60; omega⟩, this.2⟩
  · obtain ⟨q, hq, rfl⟩ := List.mem_map.mp m
    have := h.po q hq
    show 1 ≤ q.2 ∧ q.2 ≤ cap (ks.map neg1) (-q.1)
    rw [ce]
    exact this
  · rw [List.map_map]
    exact h.sm
def spMirrored (K : PySem.W.Frag) (C : Addr) : Sp := fun vs H Q _ => ∃ x ps ks, vs = [.ref x] ∧ RowAt K C H x ps ks ∧ RowOk ps ks ∧ Asc ps ∧ Asc ks ∧ ∀ y H', H y = none → Same H H' → RowAt K C H' y (mirror ps) (mirror ks) → RowOk (mirror ps) (mirror ks) → Asc (mirror ps) → Asc (mirror ks) → Q (.ref y) H'
def t_mirrored (K : PySem.W.Frag) (c_Row : Addr) : TS := tSeq (tAsg (tLc (iTup K (tProp c_Row (spContents K c_Row) [] E0 (tVar 0))) (gTup K 2 (gCons (gName 2) (gCons (gName 3) (gNil)))) (tYes) (tTup (tCons (tUn (rU fun i => .int (-i)) (tVar 2)) (tCons (tVar 3) (tNil)))) [2, 3]) (gName 1))
  (tRet (tMake c_Row (spRowInit K c_Row) [] E0 (tCons (tVar 1) (tCons (tLc (iTup K (tProp c_Row (spCapacities K c_Row) [] E0 (tVar 0))) (gTup K 2 (gCons (gName 2) (gCons (gName 4) (gNil)))) (tYes) (tTup (tCons (tUn (rU fun i => .int (-i)) (tVar 2)) (tCons (tVar 4) (tNil)))) [2, 4]) (tNil)))))
theorem pure_mirrored {K : PySem.W.Frag} {C : Addr} (vs : List V) (H : Hp) (Q : VK) (E : XK) (h : spMirrored K C vs H Q E) : t_mirrored K C { nx := fun _ H' => Q .non H', rt := Q } (start ["row", "contents", "index", "count", "capacity"] vs) H := by
  obtain ⟨x, ps, ks, rfl, row, ok, ap, ak, q⟩ := h
  obtain ⟨dx, fs, hx, _, _⟩ := row.ins
  have pl := ok.len
  have kl := ok.kl
  unfold t_mirrored
  try rw [← xLc_eq]
  show xLc (iTup K (tProp C (spContents K C) [] E0 (tVar 0))) (gTup K 2 (gCons (gName 2) (gCons (gName 3) gNil))) tYes (tTup (tCons (tUn (rU fun i => .int (-i)) (tVar 2)) (tCons (tVar 3) tNil))) [2, 3] [some (.ref x), none, none, none, none] H _
  try rw [xLc_eq]
  refine lc_tups neg1 (fun R r => ⟨_, rfl, x, dx, fs, rfl, hx, x, ps, ks, rfl, row, r⟩) (by omega) (fun t p H1 R s1 at1 r => ?_) (fun l1 H1 hl1 s1 pr1 => ?_)
  · exact ⟨t, _, rfl, SqT.of at1, rfl, _, _, rfl, _, _, rfl, rfl, rfl, _, rfl, _, rfl, _, rfl, sz (by show 2 ≤ 1000; decide), r⟩
  have hx1 := s1 _ _ hx
  refine ⟨_, rfl, ?_⟩
  try rw [← xLc_eq]
  show xLc (iTup K (tProp C (spCapacities K C) [] E0 (tVar 0))) (gTup K 2 (gCons (gName 2) (gCons (gName 4) gNil))) tYes (tTup (tCons (tUn (rU fun i => .int (-i)) (tVar 2)) (tCons (tVar 4) tNil))) [2, 4] [some (.ref x), some (.ref l1), none, none, none] H1 _
  try rw [xLc_eq]
  refine lc_tups neg1 (fun R r => ⟨_, rfl, x, dx, fs, rfl, hx1, x, ps, ks, rfl, row.same s1, r⟩) (by omega) (fun t p H2 R s2 at2 r => ?_) (fun l2 H2 hl2 s2 pr2 => ?_)
  · exact ⟨t, _, rfl, SqT.of at2, rfl, _, _, rfl, _, _, rfl, rfl, rfl, _, rfl, _, rfl, _, rfl, sz (by show 2 ≤ 1000; decide), r⟩
  refine make_row (pr1.same s2) pr2 (neg_ok ok) fun y H3 qs ls hy s3 ry p1 p2 a1 a2 => ?_
  have mp := mirror_asc ap
  have mk := mirror_asc ak
  have z1 := asc_eq a1 mp (p1.trans (mirror_perm ps).symm)
  have z2 := asc_eq a2 mk (p2.trans (mirror_perm ks).symm)
  subst z1 z2
  exact q y H3 (Same.free s1 (Same.free s2 hy)) (s1.trans (s2.trans s3)) ry ((neg_ok ok).perm (mirror_perm ps) (mirror_perm ks)) mp mk
def spUnsweep (K : PySem.W.Frag) (C B : Addr) : Sp := fun vs H Q E => ∃ x v t ps ks, vs = [.ref x, v] ∧ AnyT K H v t ∧ RowAt K C H x ps ks ∧ RowOk ps ks ∧ Asc ps ∧ Asc ks ∧ (btw 1 99 v = false → ∀ H', Same H H' → E (.ref B) none H') ∧
  ∀ most, v = .int most → 1 ≤ most → most ≤ 99 → ∀ y H' st, H y = none → Same H H' → Traces (cnt (mirror ps)) (cap (mirror ks)) most (mirror ps) [] st → RowAt K C H' y (mirror (left st)) ks → RowOk (mirror (left st)) ks → Asc (mirror (left st)) → Q (.ref y) H'
theorem mirror_mirror (ps : List (Int × Int)) : mirror (mirror ps) = ps := by
  unfold mirror
  rw [List.map_reverse, List.reverse_reverse, List.map_map]
  have : ∀ p ∈ ps, (neg1 ∘ neg1) p = p := fun p _ => by
    show (- -p.1, p.2) = p
    rw [Int.neg_neg]
  rw [List.map_congr_left this, List.map_id']
def t_unsweep (K : PySem.W.Frag) (c_BadCapacity : Addr) (c_Row : Addr) (E : XK) : TS := tRet (tCall (spMirrored K c_Row) [] E0 (tCons (tCall (spSweep K c_Row c_BadCapacity) [] E (tCons (tCall (spMirrored K c_Row) [] E0 (tCons (tVar 0) (tNil))) (tCons (tVar 1) (tNil)))) (tNil)))
theorem pure_unsweep {K : PySem.W.Frag} {C B : Addr} (vs : List V) (H : Hp) (Q : VK) (E : XK) (h : spUnsweep K C B vs H Q E) : t_unsweep K B C E { nx := fun _ H' => Q .non H', rt := Q } (start ["row", "capacity"] vs) H := by
  obtain ⟨x, v, t, ps, ks, rfl, hv, row, ok, ap, ak, bad, q⟩ := h
  refine ⟨_, rfl, x, ps, ks, rfl, row, ok, ap, ak, fun y1 H1 hy1 s1 row1 ok1 ap1 ak1 => ?_⟩
  refine ⟨_, rfl, y1, v, t, mirror ps, mirror ks, rfl, hv.same s1, row1, ok1, ak1, fun z => bad z H1 s1, fun most e m1 m2 y2 H2 st hy2 s2 tr row2 => ?_⟩
  obtain ⟨lo, la, _⟩ := left_ok ok1 m1 tr
  refine ⟨y2, left st, mirror ks, rfl, row2, lo, la, ak1, fun y3 H3 hy3 s3 row3 ok3 ap3 _ => ?_⟩
  rw [mirror_mirror] at row3 ok3
  exact q most e m1 m2 y3 H3 st (Same.free s1 (Same.free s2 hy3)) (s1.trans (s2.trans s3)) tr row3 ok3 ap3
end SR
set_option Elab.async false
set_option linter.all false
set_option maxRecDepth 100000
set_option maxHeartbeats 4000000
namespace SR
open PySem PySem.Spec PyProof.Rows L2
def upSum (most : Int) (st : List Step) : Int := (st.map fun s => min (most - s.2.1) s.2.2.1).sum
def spPicked (K : PySem.W.Frag) (C B : Addr) : Sp := fun vs H Q E => ∃ x v t ps ks, vs = [.ref x, v] ∧ AnyT K H v t ∧ RowAt K C H x ps ks ∧ RowOk ps ks ∧ (btw 1 99 v = false → E (.ref B) none H) ∧
  ∀ most, v = .int most → 1 ≤ most → most ≤ 99 → ∀ H' st, Same H H' → Traces (cnt ps) (cap ks) most ps [] st → Q (.int (upSum most st)) H'
def t_picked (K : PySem.W.Frag) (c_BadCapacity : Addr) (c_Row : Addr) (E : XK) : TS := tRet (tCB (rSum K) (tCons (tLc (iList K (tCall (spTrace K c_Row c_BadCapacity) [] E (tCons (tVar 0) (tCons (tVar 1) (tNil))))) (gTup K 5 (gCons (gName 2) (gCons (gName 3) (gCons (gName 4) (gCons (gName 2) (gCons (gName 2) (gNil))))))) (tYes) (tCB qMin2 (tCons (tOp qSub (tVar 1) (tVar 3)) (tCons (tVar 4) (tNil)))) [2, 3, 4]) (tNil)))
theorem pure_picked {K : PySem.W.Frag} {C B : Addr} (vs : List V) (H : Hp) (Q : VK) (E : XK) (h : spPicked K C B vs H Q E) : t_picked K B C E { nx := fun _ H' => Q .non H', rt := Q } (start ["row", "capacity", "_", "load", "count"] vs) H := by
  obtain ⟨x, v, t, ps, ks, rfl, hv, row, ok, bad, q⟩ := h
  refine ⟨_, rfl, _, rfl, x, v, t, ps, ks, rfl, hv, row, ok, bad, fun most e m1 m2 s H1 st hs s1 hst tr len => ?_⟩
  subst e
  obtain ⟨ts, hA, hts⟩ := hst
  refine ⟨s, rfl, ⟨_, SqL.of hA⟩, fun D hD => ?_⟩
  refine lc_it (walk_list (K := K) (a := s) (xs := ts.map V.ref)) (fun i H2 => Same H1 H2 ∧ H2 D = some (.lst (((st.take i).map fun s => min (most - s.2.1) s.2.2.1).map V.int))) ⟨same_new hD, upd_same⟩ ?_ ?_ ?_
  · rintro i H2 _ ⟨s2, _⟩
    exact SqL.of (s2 _ _ hA)
  · rintro i v H2 H3 hi ⟨s2, d2⟩ ⟨rfl, hv⟩
    rw [List.getElem?_map] at hv
    obtain ⟨t, ht, rfl⟩ := Option.map_eq_some_iff.mp hv
    obtain ⟨u, hu, hat⟩ := paired_at hts ht
    have T1 : TupS H3 t u := s2 _ _ hat
    refine ⟨t, _, rfl, SqT.of T1, rfl, _, _, rfl, _, _, rfl, _, _, rfl, _, _, rfl, _, _, rfl, rfl, rfl, _, rfl, _, rfl, _, _, rfl, rfl, _, rfl, _, _, rfl, ?_⟩
    rw [min_if]
    refine ⟨_, d2, ?_, same_upd s2 hD, ?_⟩
    · rw [List.length_map, List.length_map, List.length_take]
      exact Nat.lt_of_le_of_lt (Nat.le_trans (Nat.min_le_right _ _) len) (by decide)
    · rw [upd_same, List.take_succ, hu, List.map_append, List.map_append]
      rfl
  · rintro H2 ⟨s2, d2⟩
    have tl : (ts.map V.ref).length = st.length := by rw [List.length_map, paired_len hts]
    rw [tl, List.take_length] at d2
    exact ⟨D, _, rfl, SqL.of d2, q most rfl m1 m2 H2 st (s1.trans s2) tr⟩
end SR
set_option Elab.async false
set_option linter.all false
set_option maxRecDepth 100000
set_option maxHeartbeats 4000000
set_option Elab.async false
set_option linter.all false
set_option maxRecDepth 100000
set_option maxHeartbeats 4000000
namespace L2
open PySem PySem.Spec PyProof.Rows
end L2
set_option Elab.async false
set_option linter.all false
set_option maxRecDepth 100000
set_option maxHeartbeats 4000000
namespace SR
open PySem PySem.Spec PyProof.Rows L2
/-- what the class of rows says beside its fields -/
structure RowK (K : PySem.W.Frag) (C : Addr) : Prop where
  kit : PySem.W.kitOne K (.ref C) (.ref C) = some true
  ha : PySem.W.findIn K (.ref C) "__class__" = some (some (.builtin "object.__class__"))
  hg : PySem.W.specialIn K (.builtin "object.__class__") "__get__" = some (some (.builtin "getset_descriptor.__get__"))
  ht : PySem.W.takesIn K (.builtin "object.__class__") = some true
  hm : PySem.W.mroIn K C (.type "object") = some true
  ne : PySem.W.findIn K (.ref C) "__ne__" = some (some (.builtin "object.__ne__"))
theorem rowKB_ok {K : PySem.W.Frag} {C : Addr} (h : rowKB K C = true) : RowK K C := by
  unfold rowKB at h
  simp only [Bool.and_eq_true, decide_eq_true_eq] at h
  obtain ⟨h1, h2, h3, h4, h5, h6⟩ := h
  exact ⟨h1, h2, h3, h4, h5, h6⟩
theorem RowAt.at {K : PySem.W.Frag} {C : Addr} {H : Hp} {x : Addr} {ps ks : List (Int × Int)} (h : RowAt K C H x ps ks) : ∃ dx fs, H x = some (.ins C dx fs) := let ⟨dx, c, k, d, e, _, _, h1, _⟩ := h; ⟨dx, _, h1⟩
def spTotal (K : PySem.W.Frag) (C : Addr) : Sp := fun vs H Q _ => ∃ x ps ks, vs = [.ref x] ∧ RowAt K C H x ps ks ∧ ps.length ≤ 1000 ∧ ∀ H', Same H H' → Q (.int (ps.map Prod.snd).sum) H'
def t_Row_total (K : PySem.W.Frag) : TS := tRet (tCB (rSum K) (tCons (tLc (iTup K (tFld K (tVar 0) "_contents")) (gTup K 2 (gCons (gName 2) (gCons (gName 1) (gNil)))) (tYes) (tVar 1) [2, 1]) (tNil)))
/-- the second parts of a tuple of pairs -/
theorem lc_snd {K : PySem.W.Frag} {te : TE} {g : TG} {telt : TE} {vs : List Nat} {σ : L2.St} {H : Hp} {ps : List (Int × Int)} {Q : VK} (hte : ∀ R : VK, (∀ c, PairsT H c ps → R (.ref c) H) → te σ H R) (hl : ps.length ≤ 1000)
    (hs : ∀ t p H' (R : VK), TupAt H' t p → R (.int p.2) H' → g (.ref t) (wipe σ vs) H' fun σ2 H2 => wipe σ2 vs = wipe σ vs ∧ telt σ2 H2 R)
    (hQ : ∀ D H', H D = none → Same H H' → H' D = some (.lst ((ps.map Prod.snd).map V.int)) → Q (.ref D) H') : tLc (iTup K te) g tYes telt vs σ H Q := by
  refine hte _ fun c hp => ?_
  obtain ⟨ts, bc, hts⟩ := hp
  have hlen : (ts.map V.ref).length = ps.length := by rw [List.length_map, paired_len hts]
  refine ⟨c, rfl, ⟨_, bc.sq⟩, fun D hD => ?_⟩
  refine lc_it (walk_tup (K := K) (a := c) (xs := ts.map V.ref)) (fun i H1 => Same H H1 ∧ H1 D = some (.lst (((ps.take i).map Prod.snd).map V.int))) ⟨same_new hD, upd_same⟩ (fun i H1 _ h => (bc.same h.1).sq) ?_ ?_
  · rintro i v H1 H2 hi ⟨s1, d1⟩ ⟨rfl, hv⟩
    rw [List.getElem?_map] at hv
    obtain ⟨t, ht, rfl⟩ := Option.map_eq_some_iff.mp hv
    obtain ⟨p, hpi, hat⟩ := paired_at hts ht
    refine hs t p H2 _ (s1 _ _ hat) ⟨_, d1, ?_, same_upd s1 hD, ?_⟩
    · rw [List.length_map, List.length_map, List.length_take]
      exact Nat.lt_of_le_of_lt (Nat.le_trans (Nat.min_le_right _ _) hl) (by decide)
    · rw [upd_same, List.take_succ, hpi, List.map_append, List.map_append]
      rfl
  · rintro H1 ⟨s1, d1⟩
    rw [hlen, List.take_length] at d1
    exact hQ D H1 hD s1 d1
theorem pure_total {K : PySem.W.Frag} {C : Addr} (R : RowC K C) (vs : List V) (H : Hp) (Q : VK) (E : XK) (h : spTotal K C vs H Q E) : t_Row_total K { nx := fun _ H' => Q .non H', rt := Q } (start ["self", "count", "_"] vs) H := by
  obtain ⟨x, ps, ks, rfl, ⟨dx, c, k, d, e, ps0, ks0, h1, h2, h3⟩, len, q⟩ := h
  unfold t_Row_total
  rw [← xLc_eq]
  show xLc (iTup K (tFld K (tVar 0) "_contents")) (gTup K 2 (gCons (gName 2) (gCons (gName 1) (gNil)))) (tYes) (tVar 1) [2, 1] [some (.ref x), none, none] H _
  rw [xLc_eq]
  refine lc_snd (fun R' r => ⟨_, rfl, x, C, dx, _, _, rfl, h1, R.cls, R.n1, fl1 c k d e, r c h2⟩) len (fun t p H1 R' at1 r => ?_) fun D H1 hD s1 d1 => ?_
  · exact ⟨t, _, rfl, SqT.of at1, rfl, _, _, rfl, _, _, rfl, rfl, rfl, _, rfl, r⟩
  · exact ⟨D, _, rfl, SqL.of d1, q H1 s1⟩
end SR
set_option Elab.async false
set_option linter.all false
set_option maxRecDepth 100000
set_option maxHeartbeats 4000000
namespace SR
open PySem PySem.Spec PyProof.Rows L2
section
variable {prog : Program} {w : World} {A : Around} {E : Value → Shared → Prop} {h : Heap} {g : Array GenState} {d : Drawn} {t : Nat} {os : OsState}
variable {nm qn : Str} {C N : Addr} {bs bm : List Value} {hdct : Bool} {sn : List Str} {sub : List Value} {ab : Bool} {col : Option Bool} {dd : Option Addr} {k0 k1 k2 k3 k5 : Option Value}
/-- the wrapper of ValueError's __init__, called -/
theorem sup_call {u e t0 : Addr} {us : List Value} {Q : Value → Shared → Prop} (hC : h.get? C = some (excClassObj nm qn C N bs bm hdct sn sub ab col dd k0 k1 k2 k3 k5 "ValueError.__new__"))
    (he : h.get? e = some (PySem.HandSPX.excO C t0)) (hu : h.get? u = some (PySem.W.kxs_mw "ValueError.__init__" e)) (hl : us.length ≤ sizeLine)
    (hq : ∀ h1 t1, (∀ b o, b ≠ e → h.get? b = some o → h1.get? b = some o) → h1.get? e = some (PySem.HandSPX.excO C t1) → Q .none ⟨h1, g, d, t, os⟩) : wpAny (model prog w) A (call (.ref u) us) Q E ⟨h, g, d, t, os⟩ := by
  refine wpAny_call (codeAny_of_tree ?_)
  show wpAny _ A.in1 (callAny (.ref u) ⟨us, []⟩) _ _ (⟨h, g, d, t, os⟩ : Shared)
  simp only [callAny]
  refine wpAny_bind (wpAny_load hu ?_)
  have z : (Value.type "method-wrapper" == Value.type "method" || Value.type "method-wrapper" == Value.type "builtin_function_or_method" || Value.type "method-wrapper" == Value.type "method-wrapper") = true := by decide
  simp only [PySem.W.kxs_mw, z, if_true]
  refine PySem.W.KFB.if_so (by decide) (wpAny_bind (PySem.W.check_bound_init F.excBase_ValueError.toExcCallFacts hC he rfl ?_))
  refine wpAny_bind (wpAny_pure (wpAny_pure ⟨plainId_quiet F.excBase_ValueError.init.plain _, codeAny_builtin F.excBase_ValueError.initEntry ?_⟩))
  exact PySem.W.exc_init_tree (cls := .ref C) (t0 := t0) (dv := none) (c2 := .none) (c3 := .none) (b4 := .bool false) he hl fun h1 k e1 _ => hq h1 _ k e1
end
/-- what the written part says of an error class D and of its __init__ at f: the def's cell cc, its code cda -/
structure SupC (P : Program) (K : PySem.W.Frag) (D f cc cda : Addr) (scope : Scope) (fld : Str) : Prop where
  T : OexC K D
  no : PySem.W.findIn K (.ref D) fld = some none
  al : PySem.W.ks_superIn K D D "__init__" = some (some (.builtin "ValueError.__init__"))
  sb : PySem.W.subIn K (.ref D) (.type "ValueError") = some true
  me : PySem.W.mroIn K D (.ref D) = some true
  tp : PySem.W.nsIn K cStatics "thirdparty.any" = some none
  file : ∃ oc od vs osl s tf, K.lookup cda = some ⟨oc, od, .fields vs, osl⟩ ∧ vs[2]? = some (.str s tf) ∧ ((P.main.file : Str) == s) = true
  cell : ∃ oc od osl, K.lookup cc = some ⟨oc, od, .cell (some (.ref D)), osl⟩
  top : (P.main.scope.names.lookup ("super" : Str)).isSome = false
/-- the context of such a def's body -/
def cxS (P : Program) (w : World) (K : PySem.W.Frag) (mg : Str → Option Value) (base : Heap) (N : List Str) (qual : Str) (scope : Scope) (f cda cc : Addr) (A : Around) (outer : List Env) (s : Shared) (H : Hp) (xe : Value → Shared → Prop) : Cx where
  prog := P
  w := w
  K := K
  mg := mg
  base := base
  A := A.deeper (PySem.W.ksEnv qual scope s.heap.objs.size f (.ref cda) cc)
  N := N
  s_0 := s
  H_0 := H
  env := PySem.W.ksEnv qual scope s.heap.objs.size f (.ref cda) cc
  outer := outer
  stack := PySem.W.ksEnv qual scope s.heap.objs.size f (.ref cda) cc :: outer
  ex := []
  calm := true
  fn := fun _ => false
  pn := []
  xe := xe
/-- the scope of such a def: two names of its own, its class, super -/
structure SupS (scope : Scope) (arg : Str) : Prop where
  kind : scope.kind = .function
  co : scope.isCoroutine = false
  gen : scope.isGenerator = false
  self_ : scope.names.lookup ("self" : Str) = some .local
  arg_ : scope.names.lookup arg = some .local
  cls : scope.names.lookup ("__class__" : Str) = some .free
  sup : scope.names.lookup ("super" : Str) = some .globalImplicit
  one : ∀ x ∈ scope.names, x.2 = .free → x.1 = "__class__"
  noc : ∀ x ∈ scope.names, x.2 ≠ .cell
  ne : (arg == ("self" : Str)) = false
section
variable {P : Program} {w : World} {K : PySem.W.Frag} {mg : Str → Option Value} {base : Heap} {qual arg fld : Str} {scope : Scope} {D f cda cc : Addr} {A : Around} {outer : List Env} {s : Shared} {H : Hp} {a : Addr} {y : V} {u : Value} {h1 : Heap} {n : Nat} {xe : Value → Shared → Prop}
theorem inv_sup (B : SupS scope arg) (S : SupC P K D f cc cda scope fld) (hd : A.handled = none) (e0 : Env0 P w K mg base A outer s H) (r : RelV y u)
    (hns : h1.Ns s.heap.objs.size (fun x => [(arg, u), ("self", Value.ref a)].lookup x)) (hk : ∀ b o, s.heap.get? b = some o → h1.get? b = some o) :
    Inv (cxS P w K mg base ["self", arg] qual scope f cda cc A outer s H xe) [] [some (.ref a), some y] H { s with heap := h1, toks := n } := by
  have KB := e0.mod.kin
  obtain ⟨oc, od, osl, lc⟩ := S.cell
  have hcc := KB _ _ lc
  have noA : ∀ b : Addr, b ∉ (cxS P w K mg base ["self", arg] qual scope f cda cc A outer s H xe).ex := fun b z => absurd (show b ∈ ([] : List Addr) from z) (by simp)
  have one : ∀ (x : Str) (c : Addr), ([("__class__", cc)] : List (Str × Addr)).lookup x = some c → x = "__class__" ∧ c = cc := fun x c e => by
    rw [List.lookup_cons] at e
    by_cases z : x = "__class__"
    · subst z
      rw [beq_self_eq_true] at e
      cases e
      exact ⟨rfl, rfl⟩
    · rw [beq_false_of_ne z] at e
      cases e
  refine ⟨⟨e0.mod, B.kind, rfl, rfl, Nat.le_refl _, fun x z c h2 h3 => ?_, fun x hx => ?_, fun x c z _ => ?_, fun _ => hd, Around.frames_deeper e0.frames, .inr ⟨rfl, rfl⟩, fun b z => absurd z (noA b), e0.bs, e0.bsz, fun b _ _ => noA b, fun b z => absurd z (noA b), e0.funs, e0.frf⟩,
    rfl, e0.bare, Un.kept hk, ⟨_, hns, fun i x v h2 h3 h4 => ?_⟩, fun x c h2 => ?_, e0.hok.fresh (Nat.le_refl _), fun x c h2 => ?_, fun p hp => absurd (show p ∈ ([] : List (Addr × Obj)) from hp) (by simp), e0.hok.kept hk, rfl⟩
  · rw [(one x c h2).1, (one z c h3).1]
  · have hx : scope.names.lookup x = some .cell ∨ scope.names.lookup x = some .free := hx
    rcases hx with hx | hx
    · exact absurd rfl (B.noc _ (PySem.mem_of_lookup hx))
    · have q : x = "__class__" := B.one _ (PySem.mem_of_lookup hx) rfl
      subst q
      exact ⟨cc, rfl⟩
  · exact absurd (show (false : Bool) = true from z) (by decide)
  · match i, h2, h3 with
    | 0, h2, h3 =>
      cases h2
      cases h3
      refine ⟨.ref a, rfl, .inl ⟨B.self_, ?_⟩⟩
      have q : (("self" : Str) == arg) = false := by
        have := B.ne
        rw [beq_eq_false_iff_ne] at this ⊢
        exact Ne.symm this
      show ([(arg, u), ("self", Value.ref a)] : List (Str × Value)).lookup ("self" : Str) = _
      rw [List.lookup_cons, q]
      rfl
    | 1, h2, h3 =>
      cases h2
      cases h3
      refine ⟨u, r, .inl ⟨B.arg_, ?_⟩⟩
      show ([(arg, u), ("self", Value.ref a)] : List (Str × Value)).lookup arg = _
      rw [List.lookup_cons, beq_self_eq_true]
    | i + 2, h2, h3 => cases h2
  · obtain ⟨rfl, rfl⟩ := one x c h2
    exact ⟨some (.ref D), _, hk _ _ (e0.bs _ _ hcc).1, rfl⟩
  · obtain ⟨rfl, rfl⟩ := one x c h2
    exact (e0.bs _ _ hcc).2
/-- what such a def promises: the field stands in the error's dict -/
def spSup (D : Addr) (fld : Str) : Sp := fun vs H Q _ => ∃ (a : Addr) (y : V), vs = [.ref a, y] ∧ H a = some (exo a D none) ∧ ∀ dx, H dx = none → dx ≠ a → Q .non (upd (upd H dx (exd dx [(fld, y)])) a (exo a D (some dx)))
variable {CX : CXT} {k : Nat} {name : Str} {params : Arguments} {dV kV doc pm ct oc : Value} {an od : Option Addr} {osl : Array (Option Value)} {txt : Str} {j : Const} {p0 p1 p2 p3 p4 p5 q0 q1 q2 q3 : Pos} {fa : Arg}
abbrev supBody (arg fld txt : Str) (jj : Nat) (p0 p1 p2 p3 p4 p5 q0 q1 q2 q3 : Pos) : List Stmt :=
  [.Expr (.Call (.Attribute (.Call (.Name "super" p0) [] [] p1) "__init__" p2) [.Constant (.str txt) jj p3] [] p4) p5, .Assign [.Attribute (.Name "self" q0) fld q1] (.Name arg q2) q3]
/-- how the call of super().__init__ is read: by the places of the text -/
def SupE (txt : Str) (jj : Nat) (p0 p1 p2 p3 p4 : Pos) : Prop := ∀ env : Env, ∃ pl : Sem Bool, eval (.Call (.Attribute (.Call (.Name "super" p0) [] [] p1) "__init__" p2) [.Constant (.str txt) jj p3] [] p4) env = (do
      let ov ← attributeBase (.Call (.Name "super" p0) [] [] p1) "__init__" env (eval (.Call (.Name "super" p0) [] [] p1) env)
      standAt p2.atName
      let (f, first) ← holding [ov] (getMethod ov "__init__" pl)
      callWith p4 f first (backTo p4 (starEach [.Constant (.str txt) jj p3] env)) [])
theorem fn_sup {jj : Nat} (he : SupE txt jj p0 p1 p2 p3 p4) (lk : K.lookup f = some ⟨oc, od, .func (PySem.W.ksFn name qual params (supBody arg fld txt jj p0 p1 p2 p3 p4 p5 q0 q1 q2 q3) scope dV kV doc pm an (.ref cda) ct cc), osl⟩) (hcd : PySem.W.codeIn K (.ref cda) qual = true)
    (B : SupS scope arg) (S : SupC P K D f cc cda scope fld) (hm : mg "super" = none) (hp : (params.posonlyargs ++ params.args).head? = some fa) (hfa : fa.arg = "self") (hdb : (arg == ("__debug__" : Str)) = false) (hdc : (arg == ("__classdict__" : Str)) = false) :
    FnOk P w K mg base CX (k + 1) f (PySem.W.ksFn name qual params (supBody arg fld txt jj p0 p1 p2 p3 p4 p5 q0 q1 q2 q3) scope dV kV doc pm an (.ref cda) ct cc) ["self", arg] (spSup D fld) := by
  refine ⟨fun vs H Q E ⟨a, y, e, _⟩ => by rw [e]; rfl, fun A outer s H args us vs Q E hr e0 hb r hsp => ?_⟩
  obtain ⟨a, y, rfl, ha, hq⟩ := hsp
  match us, r with
  | [_, u], .cons ra (.cons ry .nil) =>
  cases ra
  have KX : K.In s.heap := e0.mod.kin.keeps fun b o e => (e0.bs b o e).1
  have lim : s.heap.NoLimit := e0.mod.nolimit.keeps fun b o e => (e0.bs b o e).1
  have T := S.T
  obtain ⟨nm, qn, N, bs, bm, sn, sub, ab, col, dd, k0, k1, k2, k3, k5, hC, hbm⟩ := T.cls
  have hcl : PySem.W.clsIn K D = some { name := nm, bases := bs, mro := .ref D :: bm, ns := N, qualname := qn, hasDict := true, slotNames := sn, subclasses := sub, abstract := ab, collection := col, hasDel := false } := by unfold PySem.W.clsIn; rw [hC] <;> rfl
  have haD : a ≠ D := fun z => by
    have q := (e0.bs _ _ (e0.mod.kin _ _ hC)).2
    rw [← z, ha] at q
    cases q
  have hhd := hr.hd
  obtain ⟨hp0, g, d, t, os⟩ := s
  refine PySem.ks_codeAny_call_defAt (fd := PySem.W.ksFn name qual params (supBody arg fld txt jj p0 p1 p2 p3 p4 p5 q0 q1 q2 q3) scope dV kV doc pm an (.ref cda) ct cc) (body := supBody arg fld txt jj p0 p1 p2 p3 p4 p5 q0 q1 q2 q3) (binds := [("self", .ref a), (arg, u)])
    hr.depth (KX _ _ lk) rfl lim (PySem.W.codeRec_of KX hcd) rfl hb B.noc (fun x hx => ?_) (fun h1 hns hk => ?_) B.co B.gen B.kind
  · rcases List.mem_cons.mp hx with rfl | hx
    · exact B.self_
    · rcases List.mem_cons.mp hx with rfl | hx
      · exact B.arg_
      · cases hx
  have I0 : Inv (cxS P w K mg base ["self", arg] qual scope f cda cc A outer ⟨hp0, g, d, t, os⟩ H (fun e s' => wpAny (model P w) (A.deeper (PySem.W.ksEnv qual scope hp0.objs.size f (.ref cda) cc)) (leaving (PySem.W.ksEnv qual scope hp0.objs.size f (.ref cda) cc) e) (fun _ s'' => CR CX outer P w H ⟨hp0, g, d, t, os⟩ Q E (.error e) s'') (fun e' s'' => CR CX outer P w H ⟨hp0, g, d, t, os⟩ Q E (.error e') s'') s')) [] [some (.ref a), some y] H ⟨h1, g, d, t + 2, os⟩ := inv_sup (n := t + 2) B S hhd e0 ry hns hk
  obtain ⟨oc1, od1, vs1, osl1, s1, tf1, lcode, hvs, hfile⟩ := S.file
  obtain ⟨oc2, od2, osl2, lcell⟩ := S.cell
  have X1 : K.In h1 := I0.kIn
  have ho1 : ∃ t1 : Addr, h1.get? a = some (PySem.HandSPX.excO D t1) := exo_at I0.hok ha
  obtain ⟨t1, ho1⟩ := ho1
  obtain ⟨pl, he⟩ := he (PySem.W.ksEnv qual scope hp0.objs.size f (.ref cda) cc)
  refine PySem.ks_wpAt_execs_cons (PySem.ks_wpAt_Expr_any (hi := I0.quiet) (PySem.ks_wpAt_MethodCall (he := he) (PySem.ks_wpAt_super_base (env := PySem.W.ksEnv qual scope hp0.objs.size f (.ref cda) cc) (ar := fa) B.sup B.cls rfl rfl (X1 _ _ lk) rfl hp rfl (X1 _ _ lcode) rfl hvs hfile S.top ?_)))
  obtain ⟨mb, hb1, hb2⟩ := e0.mod.blt
  have bk1 : ∀ b o, base.get? b = some o → h1.get? b = some o := I0.bk
  refine PySem.W.ks_loadName_global B.kind B.sup (PySem.Calls.loadGlobal_builtin (env := PySem.W.ksEnv qual scope hp0.objs.size f (.ref cda) cc) (e0.mod.glob.keeps bk1) hm (hb1.keeps bk1) ((hb2 _ (by decide)).trans PyProof.Rows.Boot.«super») ⟨rfl, ?_⟩)
  refine wpAny_loadName_free B.kind B.cls rfl ⟨_, X1 _ _ lcell, rfl⟩ ?_
  rw [hfa]
  have hl1 : ([(arg, u), ("self", Value.ref a)] : List (Str × Value)).lookup ("self" : Str) = some (.ref a) := by
    have q : (("self" : Str) == arg) = false := by
      have := B.ne
      rw [beq_eq_false_iff_ne] at this ⊢
      exact Ne.symm this
    rw [List.lookup_cons, q]
    rfl
  refine PySem.wpAny_loadName_local B.kind B.self_ hns hl1 ?_
  refine PySem.ks_wpAny_isType_cls (X1 _ _ hC) rfl ⟨rfl, ?_⟩
  refine PySem.ks_wpAny_call_super (X1 _ _ hC) rfl ho1 rfl (fun c z => by cases z) (PySem.W.looks_mroIn X1 S.me) (fun h2 e2 k2 => ?_)
  have I2 := I0.kept (t' := t + 2) k2
  have X2 : K.In h2 := I2.kIn
  have ho2 := k2 _ _ ho1
  have at2 : PySem.W.InstAt h2 a (PySem.HandSPX.excO D t1) D none := ⟨ho2, rfl, rfl, trivial⟩
  have hal : PySem.W.alongIn K "__init__" (((Value.ref D :: bm).dropWhile (· != .ref D)).drop 1) = some (some (.builtin "ValueError.__init__")) := by
    have q := S.al
    unfold PySem.W.ks_superIn at q
    rw [hcl] at q
    exact q
  refine PySem.W.kxs_getMethod PySem.W.kxs_ValueError e2 (PySem.W.looks_opaque X2 S.tp) (l₀ := .ref D :: bm) ((PySem.W.looks_clsIn X2 hcl).andThen .now) rfl X2 hal (at2.type.andThen (PySem.W.looks_subIn X2 S.sb)) haD rfl ?_
  have k3 : ∀ b o, h2.get? b = some o → (h2.push (PySem.W.kxs_mw "ValueError.__init__" a)).get? b = some o := fun b o z => Heap.get?_push_of_some _ z
  have hu3 : (h2.push (PySem.W.kxs_mw "ValueError.__init__" a)).get? h2.objs.size = some (PySem.W.kxs_mw "ValueError.__init__" a) := Heap.get?_push_at rfl rfl
  have I3 := I2.kept (t' := t + 2 + 1) k3
  have fresh : H h2.objs.size = none := I2.hok.fresh (Nat.le_refl _)
  have nL : h2.objs.size ≠ hp0.objs.size := Nat.ne_of_gt I2.lt
  have nF := I2.nofs (a := h2.objs.size) (Nat.le_refl _)
  have nB : base.get? h2.objs.size = none := by
    cases z : base.get? h2.objs.size with
    | none => rfl
    | some o => exact absurd (Heap.lt_size (I2.bk _ _ z)) (Nat.lt_irrefl _)
  generalize h2.objs.size = ua at hu3 fresh nL nF nB ⊢
  generalize h2.push (PySem.W.kxs_mw "ValueError.__init__" a) = h3 at k3 hu3 I3 ⊢
  refine PySem.W.kxs_callWith1 (h₀ := base) (L := ua + 1) (news := [(ua, PySem.W.kxs_mw "ValueError.__init__" a)]) (x := a) (i := "ValueError.__init__") (fun p hp => ?_) (List.mem_singleton.mpr rfl) ?_
  · obtain rfl := List.mem_singleton.mp hp
    exact ⟨hu3, Nat.ne_of_lt (Nat.lt_succ_self _), nB⟩
  have J3 := I3.pins_of (pins' := [(ua, PySem.W.kxs_mw "ValueError.__init__" a)]) (fun p hp => by
    obtain rfl := List.mem_singleton.mp hp
    exact ⟨hu3, fresh, nL, nF, fun v z => by cases z⟩)
  refine thn ((pa_cons pe_str pa_nil).run p4 _ _ _ H (fun vs H' => vs = [.str txt] ∧ H' = H) J3 ⟨rfl, rfl⟩) fun us s4 hz => ?_
  obtain ⟨vs, H', J4, rv, rfl, rfl⟩ := hz
  obtain ⟨h4, g4, d4, t4, os4⟩ := s4
  have hu4 := (J4.pin (ua, PySem.W.kxs_mw "ValueError.__init__" a) (List.mem_singleton.mpr rfl)).1
  refine ⟨hu4, ?_⟩
  obtain ⟨t5, ho4⟩ := exo_at J4.hok ha
  have hlen : us.length ≤ sizeLine := by
    rw [← Paired.length rv, sizeLine_eq]
    show 1 ≤ _
    omega
  refine sup_call (J4.kIn _ _ hC) ho4 hu4 hlen fun h5 t6 k5' e5 => ?_
  have J5 := J4.write (t' := t4) (x := a) (e := a) (o := exo a D none) (by rw [ha]; exact True.intro) (.inl rfl) k5' ⟨_, e5⟩ (exo_ok e5)
  have eu : upd H' a (exo a D none) = H' := by
    funext b
    by_cases hb' : b = a
    · rw [hb', upd_same, ha]
    · rw [upd_ne hb']
  rw [eu] at J5
  refine wpAt_of_wpAny ?_
  refine thn ((pss_one (ps_ost (pe_var (i := 0) rfl (.inl B.self_)) (pe_var (i := 1) rfl (.inl B.arg_) hdb hdc))).run _ _ _ H' { nx := fun _ H'' => Q .non H'', rt := Q } J5 ⟨y, rfl, .ref a, rfl, a, D, rfl, T, S.no, .inl ⟨ha, fun dx n1 n2 => hq dx n1 n2⟩⟩) fun fl s6 hs => ?_
  cases fl with
  | ret v =>
    obtain ⟨v', σ', H6, J, rv', q⟩ := hs
    exact ⟨v', H6, J.os, J.bare, J.base, J.hok, rv', q⟩
  | next =>
    obtain ⟨σ', H6, J, q⟩ := hs
    exact ⟨.non, H6, J.os, J.bare, J.base, J.hok, rfl, q⟩
  | brk =>
    obtain ⟨_, _, _, q⟩ := hs
    exact False.elim q
  | cont =>
    obtain ⟨_, _, _, q⟩ := hs
    exact False.elim q
end
end SR
set_option Elab.async false
set_option linter.all false
set_option maxRecDepth 100000
set_option maxHeartbeats 4000000
namespace SR
open PySem PySem.Spec PyProof.Rows L2
theorem PropD.of {K : PySem.W.Frag} {p : PropD} (e : defAt K (gAt K p.cls p.f) = p.d.val) (h : p.ok K = true) :
    PropOf K (He.ga K p.cls) p.f (He.ma K (He.ga K p.cls) p.f) (gAt K p.cls p.f) ∧ ∃ fd, FunD K p.d.name p.d.qual p.d.params p.d.body p.d.scope [] [] (gAt K p.cls p.f) fd := by
  unfold PropD.ok at h
  simp only [Bool.and_eq_true, decide_eq_true_eq] at h
  obtain ⟨h1, h2, h3, h4, h5, h6⟩ := h
  refine ⟨⟨h1, h2, h3, ?_⟩, ?_⟩
  · clear h6 h5 e
    unfold gAt
    generalize PySem.W.recIn K (He.ma K (He.ga K p.cls) p.f) "property" = r at h4 ⊢
    match r, h4 with
    | some (.ref g :: rest), _ => exact ⟨rest, rfl⟩
  · generalize gAt K p.cls p.f = g at *
    unfold defAt at e
    cases q : K.lookup g with
    | none =>
      rw [q] at h6
      cases h6
    | some o =>
      rw [q] at h6 e
      obtain ⟨oc, od, dt, osl⟩ := o
      cases dt with
      | func fd =>
        have h7 : (PySem.W.codeIn K fd.code p.d.qual && (He.dflB K fd.defaults [] && He.kwdB K fd.kwdefaults [])) = true := h6
        have e7 : (some (fd.name, fd.qualname, fd.params, fd.body, fd.scope, fd.globals, fd.closure, fd.builtins) : He.FnW) = p.d.val := e
        rw [Bool.and_eq_true, Bool.and_eq_true] at h7
        obtain ⟨b1, b2, b3⟩ := h7
        rcases fd with ⟨a1, a2, a3, a4, a5, a6, a7, a8, a9, a10, a11, a12, a13, a14, a15⟩
        unfold He.DefD.val at e7
        injection e7 with e7
        injection e7 with e1 e7
        injection e7 with e2 e7
        injection e7 with e3 e7
        injection e7 with e4 e7
        injection e7 with e5 e7
        injection e7 with e6 e7
        injection e7 with e8 e9
        dsimp only at e1 e2 e3 e4 e5 e6 e8 e9
        subst e1 e2 e3 e4 e5 e6 e8 e9
        exact ⟨_, ⟨oc, od, a8, a9, a10, a11, a12, a13, a14, osl, rfl, q, b1, He.dflB_ok b2, He.kwdB_ok b3⟩, h5⟩
      | _ => cases h6
end SR
set_option Elab.async false
set_option linter.all false
set_option maxRecDepth 100000
set_option maxHeartbeats 4000000
namespace SR
open PySem PySem.Spec PyProof.Rows L2
/-- raise C(v), C a class with the field fld -/
def tOutF (C : Addr) (E : XK) (fld : Str) (v : V) : TS := fun _ _ H => ∀ d, H d = none → E (.ref C) (some d) (upd H d (.xd [(fld, v)]))
def tMkC (C : Addr) (fld : Str) (v : V) : L2.St → Hp → XK → Prop := fun _ H Q => ∀ d, H d = none → Q (.ref C) (some d) (upd H d (.xd [(fld, v)]))
/-- a class of errors with the field fld that may be made by its name x -/
structure ErrM (P : Program) (w : World) (K : PySem.W.Frag) (mg : Str → Option Value) (base : Heap) (x : Str) (C : Addr) (fld arg : Str) : Prop where
  ex : ∃ (fI : Addr) (fd : FuncData), OexC K C ∧ PySem.W.findIn K (.ref C) "__init__" = some (some (.ref fI)) ∧ PySem.W.typeIn K (.ref fI) = some (.type "function") ∧ FnOk P w K mg base CX0 1 fI fd ["self", arg] (spSup C fld) ∧ Binds K fd ["self", arg] [] ∧ mg x = some (.ref C)
theorem pmk_err {X : Cx} {x fld arg txt : Str} {C : Addr} {j k : Nat} {p p1 pos : Pos} (M : ErrM X.prog X.w X.K X.mg X.base x C fld arg) (hr : Room k X.A) (hk : 2 ≤ k) (hg : Gl X x) (hdb : (x == ("__debug__" : Str)) = false := by decide) :
    PMk X (.Call (.Name x p) [.Constant (.str txt) j p1] [] pos) (tMkC C fld (.str txt)) := by
  obtain ⟨fI, fd, T, iC, tI, F1, hb, hm⟩ := M.ex
  intro pins s σ H Q I h
  refine pmk_oex (CX := CX0) (k := 1) (sp := spSup C fld) (dvs := []) (ds := []) (ps := ["self", arg]) T iC tI F1 (hr.mono hk) hb .nil pass0 hg hm (pa_cons pe_str pa_nil) hdb rfl rfl pins s σ H Q I ?_
  refine ⟨by show 1 ≤ 1000; decide, fun a ha => ⟨a, .str txt, rfl, upd_same, fun dx hdx hne => ⟨rfl, dx, [(fld, .str txt)], upd_same, ?_, ?_, ?_⟩⟩⟩
  · rw [upd_ne hne, upd_same]
  · rw [upd_ne hne] at hdx
    exact hdx
  · rw [upd_ne hne] at hdx
    have e : upd (del (upd (upd (upd H a (exo a C none)) dx (exd dx [(fld, .str txt)])) a (exo a C (some dx))) a) dx (.xd [(fld, .str txt)]) = upd H dx (.xd [(fld, .str txt)]) := by
      funext b
      by_cases h1 : b = dx
      · rw [h1, upd_same, upd_same]
      · rw [upd_ne h1, upd_ne h1]
        by_cases h2 : b = a
        · rw [h2, del_same, ha]
        · rw [del_ne h2, upd_ne h2, upd_ne h1, upd_ne h2]
    rw [e]
    exact h dx hdx
theorem oexB_ok {K : PySem.W.Frag} {C : Addr} (q : oexB K C = true) : ∃ nm qn N bs bm sn sub ab col dd k0 k1 k2 k3 k5, K.lookup C = some (excClassObj nm qn C N bs bm true sn sub ab col dd k0 k1 k2 k3 k5 "ValueError.__new__") ∧ PySem.HandSPX.refsVE bm = true := by
  unfold oexB at q
  split at q
  · rename_i dd cd sl ho
    split at q
    · rename_i C' bm k0 k1 k2 k3 n k5 hm hs
      simp only [Bool.and_eq_true, decide_eq_true_eq, Bool.not_eq_true'] at q
      obtain ⟨rfl, rfl, hdel, hdic, ht⟩ := q
      obtain ⟨nm, bs, mro, ns, qn, hd, sn, sb, ab, col, dl⟩ := cd
      dsimp only at hm hdel hdic
      subst hm hdel hdic
      have hsl : sl = #[k0, k1, k2, k3, some (.builtin "ValueError.__new__"), k5] := by
        obtain ⟨l⟩ := sl
        simp only at hs
        rw [hs]
      subst hsl
      exact ⟨nm, qn, ns, bs, bm, sn, sb, ab, col, dd, k0, k1, k2, k3, k5, ho, ht⟩
    · cases q
  · cases q
/-- what the facts give -/
structure SupOf (K : PySem.W.Frag) (p : SupD) (C f : Addr) : Prop where
  xf : XfC K C
  no : PySem.W.findIn K (.ref C) p.fld = some none
  ex : OexC K C ∧ PySem.W.findIn K (.ref C) "__init__" = some (some (.ref f)) ∧ PySem.W.typeIn K (.ref f) = some (.type "function") ∧
    ∃ oc od osl kV doc pm an ct cc cda, K.lookup f = some ⟨oc, od, .func (PySem.W.ksFn "__init__" (p.cls ++ ".__init__") p.params p.body p.scope .none kV doc pm an (.ref cda) ct cc), osl⟩ ∧ PySem.W.codeIn K (.ref cda) (p.cls ++ ".__init__") = true ∧
      ∀ (P : Program), P.main.file = p.file → (P.main.scope.names.lookup ("super" : Str)).isSome = false → SupC P K C f cc cda p.scope p.fld
theorem SupD.of {K : PySem.W.Frag} {p : SupD} {C f : Addr} (e : supAt K f = p.val) (h1 : p.ok1 K C f = true) (h2 : p.ok2 K C f = true) : SupOf K p C f := by
  unfold SupD.ok1 at h1
  simp only [Bool.and_eq_true, decide_eq_true_eq] at h1
  obtain ⟨a1, a2, a3, a4, a5, a6, a7, a8, a9, a10, a11, a12, a13⟩ := h1
  have T : OexC K C := ⟨oexB_ok a1, a2, a3, a4, a5⟩
  refine ⟨xfB_ok a13, a6, T, a11, a12, ?_⟩
  unfold SupD.ok2 at h2
  unfold supAt at e
  cases q : K.lookup f with
  | none =>
    rw [q] at h2
    cases h2
  | some o =>
    obtain ⟨oc, od, dt, osl⟩ := o
    rw [q] at h2 e
    cases dt with
    | func fd =>
      obtain ⟨n1, n2, n3, n4, n5, n6, n7, n8, n9, n10, n11, n12, n13, n14, n15⟩ := fd
      have e2 : (some (n1, n2, n3, n4, n5, n6, n15) : SupW) = some (("__init__" : Str), p.cls ++ ".__init__", p.params, FuncBody.stmts p.body, p.scope, mainGlobals, builtinsNs) := e
      simp only [Option.some.injEq, Prod.mk.injEq] at e2
      obtain ⟨b1, b2, b3, b4, b5, b6, b8⟩ := e2
      subst b1 b2 b3 b4 b5 b6 b8
      cases n8 with
      | none =>
        have h3 : cellB K C n7 n13 p.file (p.cls ++ ".__init__") = true := h2
        unfold cellB at h3
        split at h3
        · rename_i n cc cda
          simp only [Bool.and_eq_true, decide_eq_true_eq] at h3
          obtain ⟨rfl, c1, c2, c3⟩ := h3
          refine ⟨oc, od, osl, n9, n10, n11, n12, n14, cc, cda, rfl, c1, fun P hf ht => ⟨T, a6, a7, a8, a9, a10, ?_, ?_, ht⟩⟩
          · split at c3
            · rename_i x1 x2 vs x4 hcda
              split at c3
              · rename_i s tf hvs
                exact ⟨_, _, vs, _, s, tf, hcda, hvs, by rw [hf]; exact c3⟩
              · cases c3
            · cases c3
          · split at c2
            · rename_i x1 x2 D x4 hcc
              have z : D = C := of_decide_eq_true c2
              subst z
              exact ⟨_, _, _, hcc⟩
            · cases c2
        · cases h3
      | _ => cases h2
    | _ => cases h2
/-- such a class may be made -/
theorem err_of {P : Program} {w : World} {K : PySem.W.Frag} {mg : Str → Option Value} {base : Heap} {p : SupD} {C f : Addr} {txt : Str} {jj : Nat} {p0 p1 p2 p3 p4 p5 q0 q1 q2 q3 : Pos} {fa : Arg} (S : SupOf K p C f) (hf : P.main.file = p.file) (ht : (P.main.scope.names.lookup ("super" : Str)).isSome = false)
    (hbody : p.body = supBody p.arg p.fld txt jj p0 p1 p2 p3 p4 p5 q0 q1 q2 q3) (he : SupE txt jj p0 p1 p2 p3 p4) (B : SupS p.scope p.arg) (hm : mg "super" = none) (hg : mg p.cls = some (.ref C)) (hp : (p.params.posonlyargs ++ p.params.args).head? = some fa) (hfa : fa.arg = "self")
    (hb : ∀ (kV doc pm : Value) (an : Option Addr) (cda cc : Addr) (ct : Value) (us : List Value), us.length = 2 → bindArgs (PySem.W.ksFn "__init__" (p.cls ++ ".__init__") p.params p.body p.scope .none kV doc pm an (.ref cda) ct cc) ⟨us, []⟩ = pure ((["self", p.arg] : List Str).zip us))
    (hdb : (p.arg == ("__debug__" : Str)) = false := by decide) (hdc : (p.arg == ("__classdict__" : Str)) = false := by decide) : ErrM P w K mg base p.cls C p.fld p.arg := by
  obtain ⟨cls, fld, arg, params, body, scope, file⟩ := p
  dsimp only at *
  obtain ⟨T, iC, tI, oc, od, osl, kV, doc, pm, an, ct, cc, cda, lk, hcd, hS⟩ := S.ex
  dsimp only at *
  subst hbody
  exact ⟨f, _, T, iC, tI, fn_sup he lk hcd B (hS P hf ht) hm hp hfa hdb hdc, .all (fun us hl => hb _ _ _ _ _ _ _ us hl), hg⟩
theorem emptyB_ok {K : PySem.W.Frag} {a : Addr} (h : emptyB K a = true) : BareK K a [] := by
  unfold emptyB at h
  split at h
  · rename_i its n sl hk
    have e : its = #[] := Array.isEmpty_iff.mp h
    subst e
    exact ⟨_, [], n, hk, rfl, rfl, rfl, Nat.zero_le _, .nil⟩
  · cases h
structure SaysS (fa : List He.Fa) (fn : List He.DefD) (pr : List PropD) (su : List SupD) (ex : PySem.W.Frag → Bool) (w : World) (K : PySem.W.Frag) : Prop where
  t : He.SaysT fa fn [] w K
  more : ex K = true
  p : ∀ p ∈ pr, PropOf K (He.ga K p.cls) p.f (He.ma K (He.ga K p.cls) p.f) (gAt K p.cls p.f) ∧ ∃ fd, FunD K p.d.name p.d.qual p.d.params p.d.body p.d.scope [] [] (gAt K p.cls p.f) fd
  s : ∀ p ∈ su, SupOf K p (He.ga K p.cls) (p.f K)
theorem saysS_of {n : Nat} {fa : List He.Fa} {fn : List He.DefD} {pr : List PropD} {su : List SupD} {ex : PySem.W.Frag → Bool} {w : World} {h : Heap} (e : obsS n fa fn pr su ex h.get? = valS fn pr su w) : SaysS fa fn pr su ex w (frS n h.get?) := by
  unfold obsS at e
  generalize frS n h.get? = K at e ⊢
  have e1 : He.obsT fa fn [] K = He.valT fn [] w := congrArg (fun z : AlS => z.1.1.1) e
  have e2 : ex K = true := congrArg (fun z : AlS => z.1.1.2) e
  have e3 : (pr.map fun p => defAt K (gAt K p.cls p.f)) = pr.map fun p => p.d.val := congrArg (fun z : AlS => z.1.2.1) e
  have e4 : (pr.all fun p => p.ok K) = true := congrArg (fun z : AlS => z.1.2.2) e
  have e5 : (su.map fun p => supAt K (p.f K)) = su.map fun p => p.val := congrArg (fun z : AlS => z.2.1) e
  have e6 : (su.all fun p => p.ok1 K (He.ga K p.cls) (p.f K) && p.ok2 K (He.ga K p.cls) (p.f K)) = true := congrArg (fun z : AlS => z.2.2) e
  refine ⟨e1, e2, fun p m => PropD.of (List.map_inj_left.mp e3 p m) (List.all_eq_true.mp e4 p m), fun p m => ?_⟩
  have z := List.all_eq_true.mp e6 p m
  rw [Bool.and_eq_true] at z
  exact SupD.of (List.map_inj_left.mp e5 p m) z.1 z.2
def hookS (n : Nat) (fa : List He.Fa) (fn : List He.DefD) (pr : List PropD) (su : List SupD) (ex : PySem.W.Frag → Bool) : PySem.W.Hook where
  α := AlS
  obs := fun s => obsS n fa fn pr su ex s.heap.get?
  val := fun w => valS fn pr su w
  says := fun w h => ∃ K : PySem.W.Frag, K.In h ∧ SaysS fa fn pr su ex w K
  of := fun _ _ e => ⟨_, He.frT_in, saysS_of e⟩
  keeps := fun _ _ _ ⟨K, hK, c⟩ k => ⟨K, PySem.W.Frag.In.keeps hK k, c⟩
theorem obsS_eq {n : Nat} {fa : List He.Fa} {fn : List He.DefD} {pr : List PropD} {su : List SupD} {ex : PySem.W.Frag → Bool} {g : Addr → Option Obj} {s : Shared} (h : ∀ a, g a = s.heap.get? a) : obsS n fa fn pr su ex g = (hookS n fa fn pr su ex).obs s := by
  have e : g = s.heap.get? := funext h
  subst e
  rfl
end SR
set_option Elab.async false
set_option linter.all false
set_option maxRecDepth 100000
set_option maxHeartbeats 8000000
namespace SR
open PySem PySem.Spec PyProof.Rows L2
abbrev hk : PySem.W.Hook := hookS 6 fas fns propDs supDs more
theorem ob_eq (s : PySem.W.SharedT) : ob s = hk.obs s.abs := obsS_eq (HandSHeadRun.getT_eq s)
theorem run (w : World) : HandSHeadRun.RunEq Rw (PySem.W.view Rw.prog [70]) hk ob 5400 others w := run0 w
end SR
set_option Elab.async false
set_option linter.all false
set_option maxRecDepth 100000
set_option maxHeartbeats 1000000
namespace SR
inductive Lx
  | z | o | m
def bw : List Lx → List Bool
  | [] => []
  | .z :: w => false :: bw w
  | .o :: w => true :: bw w
  | .m :: w => true :: false :: bw w
def bk : List Lx → List Bool
  | [] => []
  | .z :: w => false :: bk w
  | .o :: w => true :: bk w
  | .m :: w => bk w
def swB (c : Nat) : Nat → List Bool → List Bool
  | _, [] => []
  | u, true :: bs => if u < c then false :: swB c (u + 1) bs else true :: swB c u bs
  | u, false :: bs => if 0 < u then true :: swB c (u - 1) bs else false :: swB c 0 bs
def ends : Bool → List Bool → Int → List Int
  | true, [], n => [n]
  | false, [], _ => []
  | _, true :: bs, n => ends true bs (n + 1)
  | true, false :: bs, n => n :: ends false bs (n + 1)
  | false, false :: bs, n => ends false bs (n + 1)
def marks : List Lx → Int → List Int
  | [], _ => []
  | .z :: w, n => marks w (n + 1)
  | .o :: w, n => marks w (n + 1)
  | .m :: w, n => n :: marks w n
/-- the word does not begin with an empty box, nor is it over -/
def hdB : List Lx → Bool
  | [] => false
  | .z :: _ => false
  | _ => true
def gdB : List Lx → Bool
  | [] => true
  | .o :: w => hdB w && gdB w
  | _ :: w => gdB w
def zs (k : Nat) : List Lx := List.replicate k .z
theorem zs_succ (k : Nat) : zs (k + 1) = .z :: zs k := rfl
theorem bk_zs (k : Nat) : bk (zs k) = List.replicate k false := by
  induction k with
  | zero => rfl
  | succ k ih => rw [zs_succ, List.replicate_succ, ← ih]; rfl
/-- what becomes of a word in a sweep, from a state on: pend, a full box not yet told; mem, the letters of the cut row not yet told -/
structure Res (c : Nat) (pend : Bool) (u u' : Nat) (mem : List Bool) (w out : List Lx) : Prop where
  gd : gdB out = true
  hd : pend = true → hdB out = true
  bits : bw out = bif pend then true :: swB c u (bw w) else swB c u (bw w)
  kept : bk out ++ [false] = mem ++ swB (c - 1) u' (bk w)
/-- the removed pairs -/
def Mks (d : Int) (owed : Bool) (e f : Bool) (c u' : Nat) (w out : List Lx) : Prop :=
  ∀ (N x : Int), (marks out (N - d)).count x + (ends e (bk w) N).count x = (bif owed then if N == x then 1 else 0 else 0) + (marks w N).count x + (ends f (swB (c - 1) u' (bk w)) N).count x
theorem swB_t {c u : Nat} {bs : List Bool} (h : u < c) : swB c u (true :: bs) = false :: swB c (u + 1) bs := by
  show (if u < c then _ else _) = _
  rw [if_pos h]
theorem swB_tf {c u : Nat} {bs : List Bool} (h : ¬u < c) : swB c u (true :: bs) = true :: swB c u bs := by
  show (if u < c then _ else _) = _
  rw [if_neg h]
theorem swB_f {c u : Nat} {bs : List Bool} (h : 0 < u) : swB c u (false :: bs) = true :: swB c (u - 1) bs := by
  show (if 0 < u then _ else _) = _
  rw [if_pos h]
theorem swB_z {c : Nat} {bs : List Bool} : swB c 0 (false :: bs) = false :: swB c 0 bs := by
  show (if 0 < 0 then _ else _) = _
  rw [if_neg (Nat.lt_irrefl 0)]
section
variable {c : Nat}
def SA (c u : Nat) (w : List Lx) : Prop := ∃ out, Res c false u (min u (c - 1)) [decide (u = c)] w out ∧ Mks 1 false (decide (0 < u)) (decide (u = c)) c (min u (c - 1)) w out
def SB1 (c u : Nat) (e f : Bool) (w : List Lx) : Prop := ∃ out, Res c true u u [] w out ∧ Mks 0 true e f c u w out
def SB2 (c u : Nat) (w : List Lx) : Prop := ∃ out, Res c true u u [] w out ∧ Mks 0 false false true c u w out
def SC (c : Nat) (w : List Lx) : Prop := ∃ out, Res c true c (c - 1) [true, true] w out ∧ Mks 2 false true true c (c - 1) w out
/-- only empty boxes ahead -/
theorem sA_zs (c1 : 1 ≤ c) (k : Nat) : SA c 0 (zs k) := by
  have d0 : decide (0 = c) = false := decide_eq_false (by omega)
  induction k with
  | zero =>
    refine ⟨[], ⟨rfl, (fun z => nomatch z), rfl, ?_⟩, ?_⟩
    · rw [d0]
      rfl
    · rw [d0]
      exact fun N x => rfl
  | succ k ih =>
    obtain ⟨out, r, mk⟩ := ih
    have m0 : min 0 (c - 1) = 0 := by omega
    rw [m0] at r mk
    rw [d0] at r mk
    unfold SA
    rw [m0, d0]
    refine ⟨.z :: out, ⟨r.gd, (fun z => nomatch z), ?_, ?_⟩, fun N x => ?_⟩
    · show false :: bw out = swB c 0 (false :: bw (zs k))
      rw [swB_z, r.bits]
      rfl
    · show false :: (bk out ++ [false]) = [false] ++ swB (c - 1) 0 (false :: bk (zs k))
      rw [swB_z, r.kept]
      rfl
    · have := mk (N + 1) x
      rw [Int.add_sub_cancel] at this
      show (marks out (N - 1 + 1)).count x + (ends false (bk (zs k)) (N + 1)).count x = 0 + (marks (zs k) (N + 1)).count x + (ends false (swB (c - 1) 0 (false :: bk (zs k))) N).count x
      rw [Int.sub_add_cancel, swB_z]
      exact this
theorem sB2_zs (c1 : 1 ≤ c) : ∀ (u k : Nat), u + 1 ≤ k → SB2 c u (zs k)
  | 0, k + 1, _ => by
    obtain ⟨out, r, mk⟩ := sA_zs c1 k
    have d0 : decide (0 = c) = false := decide_eq_false (by omega)
    have m0 : min 0 (c - 1) = 0 := by omega
    rw [m0, d0] at r mk
    refine ⟨.m :: out, ⟨r.gd, fun _ => rfl, ?_, ?_⟩, fun N x => ?_⟩
    · show true :: false :: bw out = true :: swB c 0 (false :: bw (zs k))
      rw [swB_z, r.bits]
      rfl
    · show bk out ++ [false] = swB (c - 1) 0 (false :: bk (zs k))
      rw [swB_z, r.kept]
      rfl
    · have := mk (N + 1) x
      rw [Int.add_sub_cancel] at this
      show ((N - 0) :: marks out (N - 0)).count x + (ends false (bk (zs k)) (N + 1)).count x = 0 + (marks (zs k) (N + 1)).count x + (ends true (swB (c - 1) 0 (false :: bk (zs k))) N).count x
      rw [swB_z, Int.sub_zero]
      show _ = _ + (N :: ends false (swB (c - 1) 0 (bk (zs k))) (N + 1)).count x
      rw [List.count_cons, List.count_cons]
      have e1 : (ends (decide (0 < 0)) (bk (zs k)) (N + 1)) = ends false (bk (zs k)) (N + 1) := rfl
      rw [e1] at this
      simp only [cond_false] at this
      omega
  | u + 1, k + 1, h => by
    obtain ⟨out, r, mk⟩ := sB2_zs c1 u k (by omega)
    refine ⟨.o :: out, ⟨?_, fun _ => rfl, ?_, ?_⟩, fun N x => ?_⟩
    · show (hdB out && gdB out) = true
      rw [r.hd rfl, r.gd]
      rfl
    · show true :: bw out = true :: swB c (u + 1) (false :: bw (zs k))
      rw [swB_f (Nat.succ_pos u), r.bits]
      rfl
    · show true :: (bk out ++ [false]) = swB (c - 1) (u + 1) (false :: bk (zs k))
      rw [swB_f (Nat.succ_pos u), r.kept]
      rfl
    · have := mk (N + 1) x
      show (marks out (N - 0 + 1)).count x + (ends false (bk (zs k)) (N + 1)).count x = 0 + (marks (zs k) (N + 1)).count x + (ends true (swB (c - 1) (u + 1) (false :: bk (zs k))) N).count x
      rw [swB_f (Nat.succ_pos u)]
      show _ = _ + (ends true (swB (c - 1) u (bk (zs k))) (N + 1)).count x
      rw [Int.sub_zero] at this ⊢
      exact this
/-- one step of state B, over an empty box: the carrier has items -/
theorem sB1_zs (c1 : 1 ≤ c) (u k : Nat) (h : u + 1 ≤ k) (e f : Bool) (ok : (u = 0 ∧ e = f) ∨ (0 < u ∧ e = true)) : SB1 c u e f (zs k) := by
  obtain ⟨k, rfl⟩ : ∃ j, k = j + 1 := ⟨k - 1, by omega⟩
  rcases ok with ⟨rfl, rfl⟩ | ⟨u0, rfl⟩
  · obtain ⟨out, r, mk⟩ := sA_zs c1 k
    have d0 : decide (0 = c) = false := decide_eq_false (by omega)
    have m0 : min 0 (c - 1) = 0 := by omega
    rw [m0, d0] at r mk
    refine ⟨.m :: out, ⟨r.gd, fun _ => rfl, ?_, ?_⟩, fun N x => ?_⟩
    · show true :: false :: bw out = true :: swB c 0 (false :: bw (zs k))
      rw [swB_z, r.bits]
      rfl
    · show bk out ++ [false] = swB (c - 1) 0 (false :: bk (zs k))
      rw [swB_z, r.kept]
      rfl
    · have := mk (N + 1) x
      rw [Int.add_sub_cancel] at this
      show ((N - 0) :: marks out (N - 0)).count x + (ends e (false :: bk (zs k)) N).count x = (if N == x then 1 else 0) + (marks (zs k) (N + 1)).count x + (ends e (swB (c - 1) 0 (false :: bk (zs k))) N).count x
      rw [swB_z, Int.sub_zero]
      have e1 : (ends (decide (0 < 0)) (bk (zs k)) (N + 1)) = ends false (bk (zs k)) (N + 1) := rfl
      rw [e1] at this
      simp only [cond_false] at this
      rw [List.count_cons]
      cases e with
      | true =>
        show _ + (N :: ends false (bk (zs k)) (N + 1)).count x = _ + (N :: ends false (swB (c - 1) 0 (bk (zs k))) (N + 1)).count x
        rw [List.count_cons, List.count_cons]
        omega
      | false =>
        show _ + (ends false (bk (zs k)) (N + 1)).count x = _ + (ends false (swB (c - 1) 0 (bk (zs k))) (N + 1)).count x
        omega
  · obtain ⟨u, rfl⟩ : ∃ j, u = j + 1 := ⟨u - 1, by omega⟩
    obtain ⟨out, r, mk⟩ := sB2_zs c1 u k (by omega)
    refine ⟨.o :: out, ⟨?_, fun _ => rfl, ?_, ?_⟩, fun N x => ?_⟩
    · show (hdB out && gdB out) = true
      rw [r.hd rfl, r.gd]
      rfl
    · show true :: bw out = true :: swB c (u + 1) (false :: bw (zs k))
      rw [swB_f (Nat.succ_pos u), r.bits]
      rfl
    · show true :: (bk out ++ [false]) = swB (c - 1) (u + 1) (false :: bk (zs k))
      rw [swB_f (Nat.succ_pos u), r.kept]
      rfl
    · have := mk (N + 1) x
      show (marks out (N - 0 + 1)).count x + (N :: ends false (bk (zs k)) (N + 1)).count x = (if N == x then 1 else 0) + (marks (zs k) (N + 1)).count x + (ends f (swB (c - 1) (u + 1) (false :: bk (zs k))) N).count x
      rw [swB_f (Nat.succ_pos u), List.count_cons]
      show _ = _ + (ends f (true :: swB (c - 1) u (bk (zs k))) N).count x
      have e2 : ends f (true :: swB (c - 1) u (bk (zs k))) N = ends true (swB (c - 1) u (bk (zs k))) (N + 1) := by cases f <;> rfl
      rw [e2, Int.sub_zero]
      rw [Int.sub_zero] at this
      simp only [cond_false] at this
      omega
end
end SR
set_option Elab.async false
set_option linter.all false
set_option maxRecDepth 100000
set_option maxHeartbeats 1000000
namespace SR
section
variable {c u : Nat} {w : List Lx} {e f : Bool}
theorem dec0 (c1 : 1 ≤ c) : decide (0 = c) = false := decide_eq_false (by omega)
theorem min0 : min 0 (c - 1) = 0 := by omega
theorem endsT (q : Bool) (bs : List Bool) (n : Int) : ends q (true :: bs) n = ends true bs (n + 1) := by cases q <;> rfl
theorem A_z (c1 : 1 ≤ c) (h : SA c 0 w) : SA c 0 (.z :: w) := by
  obtain ⟨out, r, mk⟩ := h
  have d0 := dec0 c1
  rw [min0] at r mk
  rw [d0] at r mk
  unfold SA
  rw [min0, d0]
  refine ⟨.z :: out, ⟨r.gd, (fun z => nomatch z), ?_, ?_⟩, fun N x => ?_⟩
  · show false :: bw out = swB c 0 (false :: bw w)
    rw [swB_z, r.bits]
    rfl
  · show false :: (bk out ++ [false]) = [false] ++ swB (c - 1) 0 (false :: bk w)
    rw [swB_z, r.kept]
    rfl
  · have := mk (N + 1) x
    rw [Int.add_sub_cancel] at this
    show (marks out (N - 1 + 1)).count x + (ends false (bk w) (N + 1)).count x = 0 + (marks w (N + 1)).count x + (ends false (swB (c - 1) 0 (false :: bk w)) N).count x
    rw [Int.sub_add_cancel, swB_z]
    exact this
theorem B2_z0 (c1 : 1 ≤ c) (h : SA c 0 w) : SB2 c 0 (.z :: w) := by
  obtain ⟨out, r, mk⟩ := h
  have d0 := dec0 c1
  rw [min0, d0] at r mk
  refine ⟨.m :: out, ⟨r.gd, fun _ => rfl, ?_, ?_⟩, fun N x => ?_⟩
  · show true :: false :: bw out = true :: swB c 0 (false :: bw w)
    rw [swB_z, r.bits]
    rfl
  · show bk out ++ [false] = swB (c - 1) 0 (false :: bk w)
    rw [swB_z, r.kept]
    rfl
  · have := mk (N + 1) x
    rw [Int.add_sub_cancel] at this
    show ((N - 0) :: marks out (N - 0)).count x + (ends false (bk w) (N + 1)).count x = 0 + (marks w (N + 1)).count x + (ends true (swB (c - 1) 0 (false :: bk w)) N).count x
    rw [swB_z, Int.sub_zero]
    show _ = _ + (N :: ends false (swB (c - 1) 0 (bk w)) (N + 1)).count x
    rw [List.count_cons, List.count_cons]
    have e1 : (ends (decide (0 < 0)) (bk w) (N + 1)) = ends false (bk w) (N + 1) := rfl
    rw [e1] at this
    simp only [cond_false] at this
    omega
theorem B1_z0 (c1 : 1 ≤ c) (h : SA c 0 w) : SB1 c 0 e e (.z :: w) := by
  obtain ⟨out, r, mk⟩ := h
  have d0 := dec0 c1
  rw [min0, d0] at r mk
  refine ⟨.m :: out, ⟨r.gd, fun _ => rfl, ?_, ?_⟩, fun N x => ?_⟩
  · show true :: false :: bw out = true :: swB c 0 (false :: bw w)
    rw [swB_z, r.bits]
    rfl
  · show bk out ++ [false] = swB (c - 1) 0 (false :: bk w)
    rw [swB_z, r.kept]
    rfl
  · have := mk (N + 1) x
    rw [Int.add_sub_cancel] at this
    show ((N - 0) :: marks out (N - 0)).count x + (ends e (false :: bk w) N).count x = (if N == x then 1 else 0) + (marks w (N + 1)).count x + (ends e (swB (c - 1) 0 (false :: bk w)) N).count x
    rw [swB_z, Int.sub_zero]
    have e1 : (ends (decide (0 < 0)) (bk w) (N + 1)) = ends false (bk w) (N + 1) := rfl
    rw [e1] at this
    simp only [cond_false] at this
    rw [List.count_cons]
    cases e with
    | true =>
      show _ + (N :: ends false (bk w) (N + 1)).count x = _ + (N :: ends false (swB (c - 1) 0 (bk w)) (N + 1)).count x
      rw [List.count_cons, List.count_cons]
      omega
    | false =>
      show _ + (ends false (bk w) (N + 1)).count x = _ + (ends false (swB (c - 1) 0 (bk w)) (N + 1)).count x
      omega
theorem B2_z (h : SB2 c u w) : SB2 c (u + 1) (.z :: w) := by
  obtain ⟨out, r, mk⟩ := h
  refine ⟨.o :: out, ⟨?_, fun _ => rfl, ?_, ?_⟩, fun N x => ?_⟩
  · show (hdB out && gdB out) = true
    rw [r.hd rfl, r.gd]
    rfl
  · show true :: bw out = true :: swB c (u + 1) (false :: bw w)
    rw [swB_f (Nat.succ_pos u), r.bits]
    rfl
  · show true :: (bk out ++ [false]) = swB (c - 1) (u + 1) (false :: bk w)
    rw [swB_f (Nat.succ_pos u), r.kept]
    rfl
  · have := mk (N + 1) x
    show (marks out (N - 0 + 1)).count x + (ends false (bk w) (N + 1)).count x = 0 + (marks w (N + 1)).count x + (ends true (swB (c - 1) (u + 1) (false :: bk w)) N).count x
    rw [swB_f (Nat.succ_pos u)]
    show _ = _ + (ends true (swB (c - 1) u (bk w)) (N + 1)).count x
    rw [Int.sub_zero] at this ⊢
    exact this
theorem B1_z (h : SB2 c u w) : SB1 c (u + 1) true f (.z :: w) := by
  obtain ⟨out, r, mk⟩ := h
  refine ⟨.o :: out, ⟨?_, fun _ => rfl, ?_, ?_⟩, fun N x => ?_⟩
  · show (hdB out && gdB out) = true
    rw [r.hd rfl, r.gd]
    rfl
  · show true :: bw out = true :: swB c (u + 1) (false :: bw w)
    rw [swB_f (Nat.succ_pos u), r.bits]
    rfl
  · show true :: (bk out ++ [false]) = swB (c - 1) (u + 1) (false :: bk w)
    rw [swB_f (Nat.succ_pos u), r.kept]
    rfl
  · have := mk (N + 1) x
    show (marks out (N - 0 + 1)).count x + (N :: ends false (bk w) (N + 1)).count x = (if N == x then 1 else 0) + (marks w (N + 1)).count x + (ends f (swB (c - 1) (u + 1) (false :: bk w)) N).count x
    rw [swB_f (Nat.succ_pos u), List.count_cons]
    show _ = _ + (ends f (true :: swB (c - 1) u (bk w)) N).count x
    rw [endsT, Int.sub_zero]
    rw [Int.sub_zero] at this
    simp only [cond_false] at this
    omega
theorem A_o (h1 : u < c) (h : SA c (u + 1) w) : SA c u (.o :: w) := by
  obtain ⟨out, r, mk⟩ := h
  have d1 : decide (u = c) = false := decide_eq_false (by omega)
  have m1 : min u (c - 1) = u := by omega
  have key : decide (u + 1 = c) :: swB (c - 1) (min (u + 1) (c - 1)) (bk w) = swB (c - 1) u (true :: bk w) := by
    by_cases z : u < c - 1
    · rw [swB_t z, decide_eq_false (by omega), show min (u + 1) (c - 1) = u + 1 by omega]
    · rw [swB_tf z, decide_eq_true (by omega), show min (u + 1) (c - 1) = u by omega]
  unfold SA
  rw [d1, m1]
  refine ⟨.z :: out, ⟨r.gd, (fun z => nomatch z), ?_, ?_⟩, fun N x => ?_⟩
  · show false :: bw out = swB c u (true :: bw w)
    rw [swB_t h1, r.bits]
    rfl
  · show false :: (bk out ++ [false]) = [false] ++ swB (c - 1) u (true :: bk w)
    rw [← key, r.kept]
    rfl
  · have := mk (N + 1) x
    rw [Int.add_sub_cancel] at this
    show (marks out (N - 1 + 1)).count x + (ends (decide (0 < u)) (true :: bk w) N).count x = 0 + (marks w (N + 1)).count x + (ends false (swB (c - 1) u (true :: bk w)) N).count x
    rw [Int.sub_add_cancel, endsT, ← key]
    have t : decide (0 < u + 1) = true := decide_eq_true (Nat.succ_pos u)
    rw [t] at this
    have e2 : ends false (decide (u + 1 = c) :: swB (c - 1) (min (u + 1) (c - 1)) (bk w)) N = ends (decide (u + 1 = c)) (swB (c - 1) (min (u + 1) (c - 1)) (bk w)) (N + 1) := by
      cases decide (u + 1 = c) <;> rfl
    rw [e2]
    exact this
theorem A_oc (c1 : 1 ≤ c) (h : SC c w) : SA c c (.o :: w) := by
  obtain ⟨out, r, mk⟩ := h
  have d1 : decide (c = c) = true := decide_eq_true rfl
  have m1 : min c (c - 1) = c - 1 := by omega
  have t : decide (0 < c) = true := decide_eq_true c1
  unfold SA
  rw [d1, m1, t]
  refine ⟨out, ⟨r.gd, (fun z => nomatch z), ?_, ?_⟩, fun N x => ?_⟩
  · show bw out = swB c c (true :: bw w)
    rw [swB_tf (Nat.lt_irrefl c), r.bits]
    rfl
  · show bk out ++ [false] = [true] ++ swB (c - 1) (c - 1) (true :: bk w)
    rw [swB_tf (Nat.lt_irrefl _), r.kept]
    rfl
  · have := mk (N + 1) x
    show (marks out (N - 1)).count x + (ends true (true :: bk w) N).count x = 0 + (marks w (N + 1)).count x + (ends true (swB (c - 1) (c - 1) (true :: bk w)) N).count x
    rw [swB_tf (Nat.lt_irrefl _), endsT, endsT]
    have e1 : N + 1 - 2 = N - 1 := by omega
    rw [e1] at this
    exact this
theorem A_m (h1 : u < c) (h : SB1 c u (decide (0 < u)) false w) : SA c u (.m :: w) := by
  obtain ⟨out, r, mk⟩ := h
  have d1 : decide (u = c) = false := decide_eq_false (by omega)
  have m1 : min u (c - 1) = u := by omega
  unfold SA
  rw [d1, m1]
  refine ⟨.z :: out, ⟨r.gd, (fun z => nomatch z), ?_, ?_⟩, fun N x => ?_⟩
  · show false :: bw out = swB c u (true :: false :: bw w)
    rw [swB_t h1, swB_f (Nat.succ_pos u), r.bits]
    rfl
  · show false :: (bk out ++ [false]) = [false] ++ swB (c - 1) u (bk w)
    rw [r.kept]
    rfl
  · have := mk N x
    show (marks out (N - 1 + 1)).count x + (ends (decide (0 < u)) (bk w) N).count x = 0 + (N :: marks w N).count x + (ends false (swB (c - 1) u (bk w)) N).count x
    rw [Int.sub_add_cancel, List.count_cons]
    rw [Int.sub_zero] at this
    simp only [cond_true] at this
    omega
theorem A_mc (c1 : 1 ≤ c) (h : SB1 c (c - 1) true true w) : SA c c (.m :: w) := by
  obtain ⟨out, r, mk⟩ := h
  have d1 : decide (c = c) = true := decide_eq_true rfl
  have m1 : min c (c - 1) = c - 1 := by omega
  have t : decide (0 < c) = true := decide_eq_true c1
  unfold SA
  rw [d1, m1, t]
  refine ⟨.o :: out, ⟨?_, (fun z => nomatch z), ?_, ?_⟩, fun N x => ?_⟩
  · show (hdB out && gdB out) = true
    rw [r.hd rfl, r.gd]
    rfl
  · show true :: bw out = swB c c (true :: false :: bw w)
    rw [swB_tf (Nat.lt_irrefl c), swB_f c1, r.bits]
    rfl
  · show true :: (bk out ++ [false]) = [true] ++ swB (c - 1) (c - 1) (bk w)
    rw [r.kept]
    rfl
  · have := mk N x
    show (marks out (N - 1 + 1)).count x + (ends true (bk w) N).count x = 0 + (N :: marks w N).count x + (ends true (swB (c - 1) (c - 1) (bk w)) N).count x
    rw [Int.sub_add_cancel, List.count_cons]
    rw [Int.sub_zero] at this
    simp only [cond_true] at this
    omega
theorem aft (h1 : u < c) (h : SA c (u + 1) w) : ∃ out, Res c false (u + 1) (min (u + 1) (c - 1)) [decide (u + 1 = c)] w out ∧ Mks 1 false true (decide (u + 1 = c)) c (min (u + 1) (c - 1)) w out ∧
    decide (u + 1 = c) :: swB (c - 1) (min (u + 1) (c - 1)) (bk w) = swB (c - 1) u (true :: bk w) := by
  obtain ⟨out, r, mk⟩ := h
  have t : decide (0 < u + 1) = true := decide_eq_true (Nat.succ_pos u)
  rw [t] at mk
  refine ⟨out, r, mk, ?_⟩
  by_cases z : u < c - 1
  · rw [swB_t z, decide_eq_false (by omega), show min (u + 1) (c - 1) = u + 1 by omega]
  · rw [swB_tf z, decide_eq_true (by omega), show min (u + 1) (c - 1) = u by omega]
theorem B1_o (h1 : u < c) (hf : f = true → u = c - 1) (h : SA c (u + 1) w) : SB1 c u e f (.o :: w) := by
  obtain ⟨out, r, mk, key⟩ := aft h1 h
  refine ⟨.m :: out, ⟨r.gd, fun _ => rfl, ?_, ?_⟩, fun N x => ?_⟩
  · show true :: false :: bw out = true :: swB c u (true :: bw w)
    rw [swB_t h1, r.bits]
    rfl
  · show bk out ++ [false] = swB (c - 1) u (true :: bk w)
    rw [← key, r.kept]
    rfl
  · have := mk (N + 1) x
    rw [Int.add_sub_cancel] at this
    show ((N - 0) :: marks out (N - 0)).count x + (ends e (true :: bk w) N).count x = (if N == x then 1 else 0) + (marks w (N + 1)).count x + (ends f (swB (c - 1) u (true :: bk w)) N).count x
    have e2 : ends f (decide (u + 1 = c) :: swB (c - 1) (min (u + 1) (c - 1)) (bk w)) N = ends (decide (u + 1 = c)) (swB (c - 1) (min (u + 1) (c - 1)) (bk w)) (N + 1) := by
      cases f with
      | true =>
        rw [decide_eq_true (show u + 1 = c by have := hf rfl; omega)]
        rfl
      | false => cases decide (u + 1 = c) <;> rfl
    rw [Int.sub_zero, endsT, ← key, e2, List.count_cons]
    simp only [cond_false] at this
    omega
theorem B2_o (h1 : u + 1 < c) (h : SA c (u + 1) w) : SB2 c u (.o :: w) := by
  obtain ⟨out, r, mk, key⟩ := aft (by omega) h
  have d : decide (u + 1 = c) = false := decide_eq_false (by omega)
  refine ⟨.m :: out, ⟨r.gd, fun _ => rfl, ?_, ?_⟩, fun N x => ?_⟩
  · show true :: false :: bw out = true :: swB c u (true :: bw w)
    rw [swB_t (by omega), r.bits]
    rfl
  · show bk out ++ [false] = swB (c - 1) u (true :: bk w)
    rw [← key, r.kept]
    rfl
  · have := mk (N + 1) x
    rw [Int.add_sub_cancel] at this
    show ((N - 0) :: marks out (N - 0)).count x + (ends false (true :: bk w) N).count x = 0 + (marks w (N + 1)).count x + (ends true (swB (c - 1) u (true :: bk w)) N).count x
    rw [Int.sub_zero, endsT, ← key]
    rw [d] at this ⊢
    show _ = _ + (N :: ends false (swB (c - 1) (min (u + 1) (c - 1)) (bk w)) (N + 1)).count x
    rw [List.count_cons, List.count_cons]
    simp only [cond_false] at this
    omega
theorem B1_m (h1 : u < c) (h : SB1 c u e f w) : SB1 c u e f (.m :: w) := by
  obtain ⟨out, r, mk⟩ := h
  refine ⟨.m :: out, ⟨r.gd, fun _ => rfl, ?_, ?_⟩, fun N x => ?_⟩
  · show true :: false :: bw out = true :: swB c u (true :: false :: bw w)
    rw [swB_t h1, swB_f (Nat.succ_pos u), r.bits]
    rfl
  · show bk out ++ [false] = swB (c - 1) u (bk w)
    rw [r.kept]
    rfl
  · have := mk N x
    show ((N - 0) :: marks out (N - 0)).count x + (ends e (bk w) N).count x = (if N == x then 1 else 0) + (N :: marks w N).count x + (ends f (swB (c - 1) u (bk w)) N).count x
    rw [Int.sub_zero, List.count_cons, List.count_cons]
    rw [Int.sub_zero] at this
    simp only [cond_true] at this
    omega
theorem B2_m (h1 : u < c) (h : SB2 c u w) : SB2 c u (.m :: w) := by
  obtain ⟨out, r, mk⟩ := h
  refine ⟨.m :: out, ⟨r.gd, fun _ => rfl, ?_, ?_⟩, fun N x => ?_⟩
  · show true :: false :: bw out = true :: swB c u (true :: false :: bw w)
    rw [swB_t h1, swB_f (Nat.succ_pos u), r.bits]
    rfl
  · show bk out ++ [false] = swB (c - 1) u (bk w)
    rw [r.kept]
    rfl
  · have := mk N x
    show ((N - 0) :: marks out (N - 0)).count x + (ends false (bk w) N).count x = 0 + (N :: marks w N).count x + (ends true (swB (c - 1) u (bk w)) N).count x
    rw [Int.sub_zero, List.count_cons, List.count_cons]
    rw [Int.sub_zero] at this
    simp only [cond_false] at this
    omega
theorem C_o (h : SC c w) : SC c (.o :: w) := by
  obtain ⟨out, r, mk⟩ := h
  refine ⟨.o :: out, ⟨?_, fun _ => rfl, ?_, ?_⟩, fun N x => ?_⟩
  · show (hdB out && gdB out) = true
    rw [r.hd rfl, r.gd]
    rfl
  · show true :: bw out = true :: swB c c (true :: bw w)
    rw [swB_tf (Nat.lt_irrefl c), r.bits]
    rfl
  · show true :: (bk out ++ [false]) = [true, true] ++ swB (c - 1) (c - 1) (true :: bk w)
    rw [swB_tf (Nat.lt_irrefl _), r.kept]
    rfl
  · have := mk (N + 1) x
    show (marks out (N - 2 + 1)).count x + (ends true (true :: bk w) N).count x = 0 + (marks w (N + 1)).count x + (ends true (swB (c - 1) (c - 1) (true :: bk w)) N).count x
    rw [swB_tf (Nat.lt_irrefl _), endsT, endsT]
    have e1 : N + 1 - 2 = N - 2 + 1 := by omega
    rw [e1] at this
    exact this
theorem C_m (c1 : 1 ≤ c) (h : SB1 c (c - 1) true true w) : SC c (.m :: w) := by
  obtain ⟨out, r, mk⟩ := h
  refine ⟨.o :: .o :: out, ⟨?_, fun _ => rfl, ?_, ?_⟩, fun N x => ?_⟩
  · show (true && (hdB out && gdB out)) = true
    rw [r.hd rfl, r.gd]
    rfl
  · show true :: true :: bw out = true :: swB c c (true :: false :: bw w)
    rw [swB_tf (Nat.lt_irrefl c), swB_f c1, r.bits]
    rfl
  · show true :: true :: (bk out ++ [false]) = [true, true] ++ swB (c - 1) (c - 1) (bk w)
    rw [r.kept]
    rfl
  · have := mk N x
    show (marks out (N - 2 + 1 + 1)).count x + (ends true (bk w) N).count x = 0 + (N :: marks w N).count x + (ends true (swB (c - 1) (c - 1) (bk w)) N).count x
    have e1 : N - 2 + 1 + 1 = N := by omega
    rw [e1, List.count_cons]
    rw [Int.sub_zero] at this
    simp only [cond_true] at this
    omega
/-- every state, over a word with enough empty boxes behind it -/
theorem sim (c1 : 1 ≤ c) (k : Nat) : ∀ (w : List Lx), gdB w = true →
    (∀ u, u ≤ c → (0 < u → hdB w = true) → u + w.length + 1 ≤ k → SA c u (w ++ zs k)) ∧
    (∀ u e f, u < c → ((u = 0 ∧ e = f) ∨ (0 < u ∧ e = true)) → (f = true → u = c - 1) → u + w.length + 1 ≤ k → SB1 c u e f (w ++ zs k)) ∧
    (∀ u, u + 1 < c → u + w.length + 1 ≤ k → SB2 c u (w ++ zs k)) ∧
    (hdB w = true → c + w.length + 1 ≤ k → SC c (w ++ zs k)) := by
  intro w
  induction w with
  | nil =>
    intro _
    refine ⟨fun u _ h _ => ?_, fun u e f h1 ok hf hk => sB1_zs c1 u k (by simpa using hk) e f ok, fun u _ hk => sB2_zs c1 u k (by simpa using hk), fun h => nomatch h⟩
    obtain rfl : u = 0 := by
      rcases Nat.eq_zero_or_pos u with z | z
      · exact z
      · cases h z
    exact sA_zs c1 k
  | cons l w ih =>
    intro g
    cases l with
    | z =>
      obtain ⟨ia, ib, ib2, ic⟩ := ih g
      refine ⟨fun u h1 h2 hk => ?_, fun u e f h1 ok hf hk => ?_, fun u h1 hk => ?_, fun h => nomatch h⟩
      · obtain rfl : u = 0 := by
          rcases Nat.eq_zero_or_pos u with z | z
          · exact z
          · cases h2 z
        exact A_z c1 (ia 0 (by omega) (fun z => absurd z (Nat.lt_irrefl 0)) (by rw [List.length_cons] at hk; omega))
      · rw [List.length_cons] at hk
        rcases ok with ⟨rfl, rfl⟩ | ⟨u0, rfl⟩
        · exact B1_z0 c1 (ia 0 (by omega) (fun z => absurd z (Nat.lt_irrefl 0)) (by omega))
        · obtain ⟨u, rfl⟩ : ∃ j, u = j + 1 := ⟨u - 1, by omega⟩
          exact B1_z (ib2 u (by omega) (by omega))
      · rw [List.length_cons] at hk
        cases u with
        | zero => exact B2_z0 c1 (ia 0 (by omega) (fun z => absurd z (Nat.lt_irrefl 0)) (by omega))
        | succ u => exact B2_z (ib2 u (by omega) (by omega))
    | o =>
      have g2 : (hdB w && gdB w) = true := g
      rw [Bool.and_eq_true] at g2
      obtain ⟨ia, ib, ib2, ic⟩ := ih g2.2
      refine ⟨fun u h1 h2 hk => ?_, fun u e f h1 ok hf hk => ?_, fun u h1 hk => ?_, fun h hk => ?_⟩
      · rw [List.length_cons] at hk
        by_cases z : u < c
        · exact A_o z (ia (u + 1) (by omega) (fun _ => g2.1) (by omega))
        · obtain rfl : u = c := by omega
          exact A_oc c1 (ic g2.1 (by omega))
      · rw [List.length_cons] at hk
        exact B1_o h1 hf (ia (u + 1) (by omega) (fun _ => g2.1) (by omega))
      · rw [List.length_cons] at hk
        exact B2_o h1 (ia (u + 1) (by omega) (fun _ => g2.1) (by omega))
      · rw [List.length_cons] at hk
        exact C_o (ic g2.1 (by omega))
    | m =>
      obtain ⟨ia, ib, ib2, ic⟩ := ih g
      refine ⟨fun u h1 h2 hk => ?_, fun u e f h1 ok hf hk => ?_, fun u h1 hk => ?_, fun h hk => ?_⟩
      · rw [List.length_cons] at hk
        by_cases z : u < c
        · refine A_m z (ib u _ false z ?_ (fun q => nomatch q) (by omega))
          rcases Nat.eq_zero_or_pos u with q | q
          · exact .inl ⟨q, decide_eq_false (by omega)⟩
          · exact .inr ⟨q, decide_eq_true q⟩
        · obtain rfl : u = c := by omega
          refine A_mc c1 (ib (u - 1) true true (by omega) ?_ (fun _ => rfl) (by omega))
          rcases Nat.eq_zero_or_pos (u - 1) with q | q
          · exact .inl ⟨q, rfl⟩
          · exact .inr ⟨q, rfl⟩
      · rw [List.length_cons] at hk
        exact B1_m h1 (ib u e f h1 ok hf (by omega))
      · rw [List.length_cons] at hk
        exact B2_m (by omega) (ib2 u h1 (by omega))
      · rw [List.length_cons] at hk
        refine C_m c1 (ib (c - 1) true true (by omega) ?_ (fun _ => rfl) (by omega))
        rcases Nat.eq_zero_or_pos (c - 1) with q | q
        · exact .inl ⟨q, rfl⟩
        · exact .inr ⟨q, rfl⟩
end
end SR
set_option Elab.async false
set_option linter.all false
set_option maxRecDepth 100000
set_option maxHeartbeats 4000000
namespace L2
open PySem PySem.Spec PyProof.Rows
end L2
set_option Elab.async false
set_option linter.all false
set_option maxRecDepth 100000
set_option maxHeartbeats 4000000
namespace SR
open PySem PySem.Spec PyProof.Rows L2
section
variable {ps : List (Int × Int)} {most : Int}
/-- one item each -/
def Ones (ps : List (Int × Int)) : Prop := ∀ p ∈ ps, p.2 = 1
def ones (r : List Int) : List (Int × Int) := r.map fun y => (y, 1)
end
end SR
set_option Elab.async false
set_option linter.all false
set_option maxRecDepth 100000
set_option maxHeartbeats 4000000
set_option Elab.async false
set_option linter.all false
set_option maxRecDepth 100000
set_option maxHeartbeats 4000000
namespace SR
open PySem PySem.Spec PyProof.Rows L2
theorem ones_fst (L : List Int) : (ones L).map Prod.fst = L := by
  unfold ones
  rw [List.map_map]
  exact List.map_id' L
theorem ones_len (L : List Int) : (ones L).length = L.length := by
  unfold ones
  rw [List.length_map]
theorem ones_asc {L : List Int} (h : L.Pairwise (· < ·)) : Asc (ones L) := by
  unfold Asc ones
  rw [List.pairwise_map]
  exact h
theorem ones_ones (L : List Int) : Ones (ones L) := fun p m => by
  obtain ⟨y, _, rfl⟩ := List.mem_map.mp m
  rfl
theorem ones_of {ps : List (Int × Int)} (h : Ones ps) : ps = ones (ps.map Prod.fst) := by
  unfold ones
  rw [List.map_map]
  have : ∀ p ∈ ps, ((fun y => (y, (1 : Int))) ∘ Prod.fst) p = p := fun p m => by
    show (p.1, (1 : Int)) = p
    rw [← h p m]
  rw [List.map_congr_left this, List.map_id']
theorem ones_sum (L : List Int) : ((ones L).map Prod.snd).sum = L.length := by
  unfold ones
  rw [List.map_map]
  induction L with
  | nil => rfl
  | cons a L ih => rw [List.map_cons, List.sum_cons, ih, List.length_cons]; show 1 + (L.length : Int) = _; omega
theorem ones_ok {L : List Int} (h : L.Pairwise (· < ·)) (l : L.length ≤ 40) : RowOk (ones L) [] :=
  ⟨by rw [ones_fst]; exact h.imp fun z e => by omega, .nil, Nat.zero_le _, (fun p m => nomatch m), fun p m => by rw [ones_ones L p m]; exact ⟨Int.le_refl _, Int.le_refl _⟩, by rw [ones_sum]; omega⟩
/-- all but the dict that a loop goes over -/
theorem same_lock {H H' : Hp} {F : Addr} {u : HO} (hF : H F = some u) (k : ∀ b o, b ≠ F → H b = some o → H' b = some o) : Same H (upd H' F u) := fun b o h => by
  by_cases e : b = F
  · subst e
    rw [upd_same, ← hF]
    exact h
  · rw [upd_ne e]
    exact k b o e h
end SR
set_option Elab.async false
set_option linter.all false
set_option maxRecDepth 100000
set_option maxHeartbeats 4000000
namespace SR
open PySem PySem.Spec PyProof.Rows L2
section
variable {K : PySem.W.Frag} {H : Hp} {F : Addr} {L : List Int} {x0 x1 x2 x4 x5 x6 x7 x8 x9 : Option V} {Q : VK}
def turned (L : List Int) : List Int := (L.map fun y => -y).reverse
end
end SR
set_option Elab.async false
set_option linter.all false
set_option maxRecDepth 100000
set_option maxHeartbeats 4000000
namespace SR
open PySem PySem.Spec PyProof.Rows L2
section
variable {K : PySem.W.Frag} {C B : Addr}
/-- what is no state of draws stays -/
theorem kp_at {H H' : Hp} {d g c a : Addr} {b : Nat} {o : HO} (S : StB H d g c b) (k : Kp d g H H') (h : H a = some o) (n1 : ∀ xs, o ≠ .lst xs) (n2 : ∀ r t, o ≠ .dK (stK g c r t)) : H' a = some o := by
  obtain ⟨r, t, gs, cs, h1, h2, _⟩ := S
  refine k _ _ (fun z => ?_) (fun z => ?_) h
  · rw [z, h1] at h
    exact n2 r t (Option.some.inj h).symm
  · rw [z, h2] at h
    exact n1 _ (Option.some.inj h).symm
theorem kvs_no {ps : List (Int × Int)} (g c : Addr) (r t : Int) : HO.dK (kvsOf ps) ≠ .dK (stK g c r t) := fun z => by
  cases ps with
  | nil => cases z
  | cons p ps => cases z
theorem kp_dict {H H' : Hp} {d g c a : Addr} {b : Nat} {ps : List (Int × Int)} (S : StB H d g c b) (k : Kp d g H H') (h : H a = some (.dK (kvsOf ps))) : H' a = some (.dK (kvsOf ps)) := kp_at S k h (fun _ z => nomatch z) fun r t => kvs_no g c r t
theorem RowAt.kp {K : PySem.W.Frag} {C : Addr} {H H' : Hp} {d g c x : Addr} {b : Nat} {ps ks : List (Int × Int)} (row : RowAt K C H x ps ks) (S : StB H d g c b) (k : Kp d g H H') : RowAt K C H' x ps ks := by
  obtain ⟨dx, c0, k0, d0, e, ps0, ks0, h1, ⟨t1, h2, h3⟩, ⟨t2, h4, h5⟩, h6, h7, h8⟩ := row
  have tp : ∀ {t : Addr} {p : Int × Int}, TupAt H t p → TupAt H' t p := fun {t p} z => kp_at (o := .tup [.int p.1, .int p.2]) S k z (fun _ z => nomatch z) fun _ _ z => nomatch z
  refine ⟨dx, c0, k0, d0, e, ps0, ks0, kp_at S k h1 (fun _ z => nomatch z) (fun _ _ z => nomatch z), ⟨t1, ?_, paired_imp (fun _ _ z => tp z) h3⟩, ⟨t2, ?_, paired_imp (fun _ _ z => tp z) h5⟩, kp_dict S k h6, kp_dict S k h7, h8⟩
  · obtain ⟨o, a1, a2⟩ := h2
    exact ⟨o, kp_at S k a1 (fun _ z => nomatch z) (fun _ _ z => nomatch z), a2⟩
  · obtain ⟨o, a1, a2⟩ := h4
    exact ⟨o, kp_at S k a1 (fun _ z => nomatch z) (fun _ _ z => nomatch z), a2⟩
end
end SR
set_option Elab.async false
set_option linter.all false
set_option maxRecDepth 100000
set_option maxHeartbeats 4000000
set_option Elab.async false
set_option linter.all false
set_option maxRecDepth 100000
set_option maxHeartbeats 1000000
namespace SR
open PySem PySem.Spec PyProof.Rows L2
/-- the runs so far, with one more place -/
def blkStep (acc : List (Int × Int)) (x : Int) : List (Int × Int) := match acc.getLast? with
  | some q => if q.1 + q.2 = x then acc.set (acc.length - 1) (q.1, q.2 + 1) else acc ++ [(x, 1)]
  | none => acc ++ [(x, 1)]
def blkOf (xs : List Int) : List (Int × Int) := xs.foldl blkStep []
theorem blkStep_len (acc : List (Int × Int)) (x : Int) : (blkStep acc x).length ≤ acc.length + 1 := by
  unfold blkStep
  split
  · split
    · rw [List.length_set]; omega
    · rw [List.length_append]; exact Nat.le_refl _
  · rw [List.length_append]; exact Nat.le_refl _
theorem blkOf_len (xs : List Int) : (blkOf xs).length ≤ xs.length := by
  have key : ∀ (xs : List Int) (acc : List (Int × Int)), (xs.foldl blkStep acc).length ≤ acc.length + xs.length := by
    intro xs
    induction xs with
    | nil => exact fun _ => Nat.le_refl _
    | cons x xs ih =>
      intro acc
      have a := ih (blkStep acc x)
      have b := blkStep_len acc x
      rw [List.foldl_cons, List.length_cons]
      omega
  have := key xs []
  rw [List.length_nil] at this
  unfold blkOf
  omega
theorem blkOf_snoc (xs : List Int) (x : Int) : blkOf (xs ++ [x]) = blkStep (blkOf xs) x := by
  unfold blkOf
  rw [List.foldl_append]
  rfl
theorem paired_set {α β : Type} {R : α → β → Prop} {xs : List α} {ys : List β} (h : Paired R xs ys) {i : Nat} {a : α} {b : β} (r : R a b) : Paired R (xs.set i a) (ys.set i b) := by
  induction h generalizing i with
  | nil => exact .nil
  | cons x y ih =>
    cases i with
    | zero => exact .cons r y
    | succ i => exact .cons x ih
theorem paired_last2 {α β : Type} {R : α → β → Prop} {xs : List α} {ys : List β} (h : Paired R xs ys) {y : β} (e : ys.getLast? = some y) : ∃ x, xs.getLast? = some x ∧ R x y ∧ 0 < xs.length := by
  have l := paired_len h
  rw [List.getLast?_eq_getElem?] at e
  have lt := (List.getElem?_eq_some_iff.mp e).1
  have : ∃ x, xs[ys.length - 1]? = some x := ⟨xs[ys.length - 1]'(by omega), List.getElem?_eq_getElem (by omega)⟩
  obtain ⟨x, hx⟩ := this
  obtain ⟨b, hb, r⟩ := paired_at h hx
  rw [e] at hb
  cases hb
  refine ⟨x, ?_, r, by omega⟩
  rw [List.getLast?_eq_getElem?, l]
  exact hx
def t_blkC (K : PySem.W.Frag) : TT := tTest (tOp rEq (tCB (rSumT K) (tCons (tOp (rIxL K) (tVar 1) (tUn (rU fun i => .int (-i)) (tC (.int 1)))) (tNil))) (tVar 2))
def t_blkT (K : PySem.W.Frag) : TS := tAsg (tTup (tCons (tOp (rIxT K) (tOp (rIxL K) (tVar 1) (tUn (rU fun i => .int (-i)) (tC (.int 1)))) (tC (.int 0))) (tCons (tOp qAdd (tOp (rIxT K) (tOp (rIxL K) (tVar 1) (tUn (rU fun i => .int (-i)) (tC (.int 1)))) (tC (.int 1))) (tC (.int 1))) (tNil)))) (gSub (tVar 1) (tUn (rU fun i => .int (-i)) (tC (.int 1))) rSetL)
def t_blkE (K : PySem.W.Frag) : TS := tDrop (tBM K "list" rAppend (tVar 1) (tCons (tTup (tCons (tVar 2) (tCons (tC (.int 1)) (tNil)))) (tNil)))
section
variable {K : PySem.W.Frag} {H : Hp} {A : Addr} {ts : List Addr} {acc : List (Int × Int)} {x : Int} {x0 x3 : Option V} {xs : List (Option V)}
/-- found: a list of pairs at A -/
def Blk (H : Hp) (A : Addr) (acc : List (Int × Int)) : Prop := ∃ ts : List Addr, H A = some (.lst (ts.map V.ref)) ∧ Paired (TupAt H) ts acc
theorem Blk.last (b : Blk H A acc) {q : Int × Int} (e : acc.getLast? = some q) : ∃ (vs : List V) (t : Addr), H A = some (.lst vs) ∧ atI vs (-1) = some (.ref t) ∧ TupAt H t q := by
  obtain ⟨ts, h, pr⟩ := b
  obtain ⟨t, e2, r, _⟩ := paired_last2 pr e
  refine ⟨_, t, h, at_last ?_, r⟩
  rw [List.getLast?_map, e2]
  rfl
theorem blkT {D : Ends} {q : Int × Int} (b : Blk H A acc) (len : acc.length ≤ 200) (e : acc.getLast? = some q) (eq : q.1 + q.2 = x)
    (k : ∀ H', SameBut A H H' → Blk H' A (blkStep acc x) → D.nx (x0 :: some (.ref A) :: some (.int x) :: xs) H') : t_blkT K D (x0 :: some (.ref A) :: some (.int x) :: xs) H := by
  obtain ⟨vs, t, h, hl, ht⟩ := b.last e
  obtain ⟨ts, h', pr⟩ := b
  cases h.symm.trans h'
  have pos : 0 < acc.length := by
    cases acc with
    | nil => cases e
    | cons _ _ => exact Nat.succ_pos _
  have tl := paired_len pr
  have hA := SqL.of (K := K) h
  have T := SqT.of (K := K) ht
  refine ⟨_, rfl, _, rfl, A, _, -1, _, rfl, rfl, hA, hl, t, _, 0, _, rfl, rfl, T, rfl, ?_⟩
  refine ⟨_, rfl, _, rfl, A, _, -1, _, rfl, rfl, hA, hl, t, _, 1, _, rfl, rfl, T, rfl, _, _, rfl, rfl, sz (by show 2 ≤ 1000; decide), fun n hn => ?_⟩
  have s1 := same_new (o := .tup [.int q.1, .int (q.2 + 1)]) hn
  have N1 : TupAt (upd H n (.tup [.int q.1, .int (q.2 + 1)])) n (q.1, q.2 + 1) := upd_same
  show gSub _ _ _ _ _ (upd H n (.tup [.int q.1, .int (q.2 + 1)])) _
  generalize upd H n (.tup [.int q.1, .int (q.2 + 1)]) = H1 at s1 N1 ⊢
  have h1 := s1 _ _ h
  refine ⟨_, rfl, _, rfl, A, _, -1, acc.length - 1, rfl, rfl, h1, ?_, ?_⟩
  · rw [List.length_map, tl]
    unfold ixN
    rw [if_neg (by decide), if_pos (by omega)]
    congr 1
    omega
  · have st : blkStep acc x = acc.set (acc.length - 1) (q.1, q.2 + 1) := by
      unfold blkStep
      rw [e]
      exact if_pos eq
    refine k _ (fun a o ne z => (upd_ne ne).trans (s1 _ _ z)) ⟨ts.set (acc.length - 1) n, ?_, ?_⟩
    · rw [upd_same, List.map_set]
    · rw [st]
      have keep : ∀ {b : Addr} {p : Int × Int}, TupAt H1 b p → TupAt (upd H1 A (.lst ((ts.map V.ref).set (acc.length - 1) (.ref n)))) b p := fun {b p} z => (upd_ne (ne_of z h1 (by intro e; cases e))).trans z
      exact paired_set (paired_imp (fun _ _ z => keep (s1 _ _ z)) pr) (keep N1)
theorem blkE {D : Ends} (b : Blk H A acc) (len : acc.length ≤ 200) (no : ∀ q, acc.getLast? = some q → q.1 + q.2 ≠ x)
    (k : ∀ H', SameBut A H H' → Blk H' A (blkStep acc x) → D.nx (x0 :: some (.ref A) :: some (.int x) :: xs) H') : t_blkE K D (x0 :: some (.ref A) :: some (.int x) :: xs) H := by
  obtain ⟨ts, h, pr⟩ := b
  have tl := paired_len pr
  refine ⟨_, rfl, .inl ⟨rfl, _, SqL.of h⟩, _, rfl, sz (by show 2 ≤ 1000; decide), fun n hn => ?_⟩
  have s1 := same_new (o := .tup [.int x, .int 1]) hn
  have N1 : TupAt (upd H n (.tup [.int x, .int 1])) n (x, 1) := upd_same
  generalize upd H n (.tup [.int x, .int 1]) = H1 at s1 N1 ⊢
  have h1 := s1 _ _ h
  have st : blkStep acc x = acc ++ [(x, 1)] := by
    unfold blkStep
    split
    · rename_i q e
      exact if_neg (no q e)
    · rfl
  refine ⟨A, _, _, rfl, rfl, h1, ?_, ?_⟩
  · rw [List.length_map, tl]
    exact Nat.lt_of_le_of_lt len (by decide)
  refine k _ (fun a o ne z => (upd_ne ne).trans (s1 _ _ z)) ⟨ts ++ [n], ?_, ?_⟩
  · rw [upd_same, List.map_append]
    rfl
  · rw [st]
    have keep : ∀ {b : Addr} {p : Int × Int}, TupAt H1 b p → TupAt (upd H1 A (.lst (ts.map V.ref ++ [.ref n]))) b p := fun {b p} z => (upd_ne (ne_of z h1 (by intro e; cases e))).trans z
    exact paired_snoc (keep N1) (paired_imp (fun _ _ z => keep (s1 _ _ z)) pr)
end
end SR
set_option Elab.async false
set_option linter.all false
set_option maxRecDepth 100000
set_option maxHeartbeats 1000000
namespace SR
open PySem PySem.Spec PyProof.Rows L2
theorem Blk.same {H H' : Hp} {A : Addr} {acc : List (Int × Int)} (b : Blk H A acc) (s : Same H H') : Blk H' A acc := by
  obtain ⟨ts, h, pr⟩ := b
  exact ⟨ts, s _ _ h, paired_imp (fun _ _ z => s _ _ z) pr⟩
theorem Blk.sq {K : PySem.W.Frag} {H : Hp} {A : Addr} {acc : List (Int × Int)} (b : Blk H A acc) : ∃ xs, SqL K H A xs ∧ (!xs.isEmpty) = (!acc.isEmpty) := by
  obtain ⟨ts, h, pr⟩ := b
  refine ⟨_, SqL.of h, ?_⟩
  cases pr <;> rfl
/-- the body where there is a run, and where there is none -/
theorem blk_pos {K : PySem.W.Frag} {D : Ends} {H : Hp} {A : Addr} {acc : List (Int × Int)} {x : Int} {x0 : Option V} {xs : List (Option V)} (b : Blk H A acc) (len : acc.length ≤ 200) (ne : (!acc.isEmpty) = true)
    (k : ∀ H', SameBut A H H' → Blk H' A (blkStep acc x) → D.nx (x0 :: some (.ref A) :: some (.int x) :: xs) H') :
    t_blkC K (x0 :: some (.ref A) :: some (.int x) :: xs) H (fun c H1 => if c = true then t_blkT K D (x0 :: some (.ref A) :: some (.int x) :: xs) H1 else t_blkE K D (x0 :: some (.ref A) :: some (.int x) :: xs) H1) := by
  cases e : acc.getLast? with
  | none =>
    have := List.getLast?_eq_none_iff.mp e
    subst this
    cases ne
  | some q =>
    obtain ⟨vs, t, h, hl, ht⟩ := b.last e
    refine ⟨_, rfl, _, rfl, A, _, -1, _, rfl, rfl, SqL.of h, hl, t, [q.1, q.2], rfl, SqT.of ht, _, rfl, rfl, _, rfl, ?_⟩
    have sum : [q.1, q.2].sum = q.1 + q.2 := by simp
    by_cases z : q.1 + q.2 = x
    · have : decide (V.int [q.1, q.2].sum = V.int x) = true := decide_eq_true (by rw [sum, z])
      rw [this]
      exact iteT (blkT b len e z k)
    · have : decide (V.int [q.1, q.2].sum = V.int x) = false := decide_eq_false (by rw [sum]; intro y; cases y; exact z rfl)
      rw [this]
      exact iteF (blkE b len (fun q' e' => by rw [e] at e'; cases e'; exact z) k)
theorem blk_neg {K : PySem.W.Frag} {D : Ends} {H : Hp} {A : Addr} {acc : List (Int × Int)} {x : Int} {x0 : Option V} {xs : List (Option V)} (b : Blk H A acc) (len : acc.length ≤ 200) (ne : ¬(!acc.isEmpty) = true)
    (k : ∀ H', SameBut A H H' → Blk H' A (blkStep acc x) → D.nx (x0 :: some (.ref A) :: some (.int x) :: xs) H') : t_blkE K D (x0 :: some (.ref A) :: some (.int x) :: xs) H := by
  cases acc with
  | nil => exact blkE b len (fun q z => by cases z) k
  | cons _ _ => exact absurd rfl ne
def t_ruBody (K : PySem.W.Frag) : TS := (tIfS (tAnd ((fun σ H Q => tVar 1 σ H fun x H1 => ∃ k, TruV K x H1 k ∧ Q k H1)) (t_blkC K))
  (t_blkT K)
  (t_blkE K))
def t_runs_in (K : PySem.W.Frag) (c_Row : Addr) : TS := tSeq (tAsg (tLst (tNil)) (gName 1))
  (tSeq (tFor (iTup K (tProp c_Row (spContents K c_Row) [] E0 (tVar 0))) (gTup K 2 (gCons (gName 2) (gCons (gName 3) (gNil))))
  (t_ruBody K))
  (tRet (tVar 1)))
def spRunsIn (K : PySem.W.Frag) (C : Addr) : Sp := fun vs H Q _ => ∃ x ps ks, vs = [.ref x] ∧ RowAt K C H x ps ks ∧ ps.length ≤ 100 ∧ ∀ A H', H A = none → Same H H' → Blk H' A (blkOf (ps.map Prod.fst)) → Q (.ref A) H'
theorem pure_runs_in {K : PySem.W.Frag} {C : Addr} (vs : List V) (H : Hp) (Q : VK) (E : XK) (h : spRunsIn K C vs H Q E) : t_runs_in K C { nx := fun _ H' => Q .non H', rt := Q } (start ["row", "found", "index", "_"] vs) H := by
  obtain ⟨x, ps, ks, rfl, row, pl, q⟩ := h
  refine ⟨sz (Nat.zero_le _), fun s hs => ?_⟩
  have s1 := same_new (o := .lst []) hs
  have L1 : upd H s (.lst []) s = some (.lst []) := upd_same
  generalize upd H s (.lst []) = H1 at s1 L1 ⊢
  have row1 := row.same s1
  obtain ⟨dx, fs, hx, no1, no2⟩ := row1.ins
  refine ⟨_, rfl, x, dx, fs, rfl, hx, x, ps, ks, rfl, row1, fun c hc => ⟨c, rfl, ?_⟩⟩
  obtain ⟨ts0, bc, pc⟩ := hc
  refine ⟨⟨_, bc.sq⟩, ?_⟩
  refine for_it (walk_tup (K := K) (a := c) (xs := ts0.map V.ref)) (fun i σ H2 => SameBut s H1 H2 ∧ ∃ w2 w3, Blk H2 s (blkOf ((ps.take i).map Prod.fst)) ∧ σ = [some (.ref x), some (.ref s), w2, w3]) ⟨fun b o _ h => h, none, none, ⟨[], L1, .nil⟩, rfl⟩ ?_ ?_ ?_
  · rintro i σ H2 _ ⟨k2, _⟩
    refine Bare.sq ?_
    obtain ⟨o, a1, a2⟩ := bc
    exact ⟨o, k2 _ _ (fun z => by rw [z, L1] at a1; cases a1) a1, a2⟩
  · rintro i v2 σ H2 H3 hi ⟨k2, w2, w3, b, rfl⟩ ⟨rfl, hv2⟩
    rw [List.getElem?_map] at hv2
    obtain ⟨u, hu, rfl⟩ := Option.map_eq_some_iff.mp hv2
    obtain ⟨p, hp, hat⟩ := paired_at pc hu
    have at2 : TupAt H3 u p := k2 _ _ (fun z => by
      unfold TupAt at hat
      rw [z, L1] at hat
      cases hat) hat
    refine ⟨u, _, rfl, SqT.of at2, rfl, _, _, rfl, _, _, rfl, rfl, ?_⟩
    show t_ruBody K _ [some (.ref x), some (.ref s), some (.int p.1), some (.int p.2)] H3
    have tk : (ps.take (i + 1)).map Prod.fst = (ps.take i).map Prod.fst ++ [p.1] := by
      rw [List.take_succ, hp, List.map_append]
      rfl
    have len : (blkOf ((ps.take i).map Prod.fst)).length ≤ 200 := by
      have a := blkOf_len ((ps.take i).map Prod.fst)
      rw [List.length_map] at a
      have b : (ps.take i).length ≤ ps.length := by
        rw [List.length_take]
        exact Nat.min_le_right _ _
      omega
    obtain ⟨xs, sq, em⟩ := b.sq (K := K)
    refine ⟨_, rfl, _, .inl ⟨xs, sq, rfl⟩, ?_⟩
    rw [em]
    have fin : ∀ H', SameBut s H3 H' → Blk H' s (blkStep (blkOf ((ps.take i).map Prod.fst)) p.1) → SameBut s H1 H' ∧ ∃ w2 w3, Blk H' s (blkOf ((ps.take (i + 1)).map Prod.fst)) ∧ [some (.ref x), some (.ref s), some (.int p.1), some (.int p.2)] = [some (V.ref x), some (.ref s), w2, w3] := fun H' k' b' => ⟨k2.trans k', _, _, by rw [tk, blkOf_snoc]; exact b', rfl⟩
    cases ne : (!(blkOf ((ps.take i).map Prod.fst)).isEmpty) with
    | true => exact iteT (blk_pos b len ne fin)
    | false => exact iteF (iteF (blk_neg b len (by rw [ne]; exact Bool.false_ne_true) fin))
  · rintro σ H2 ⟨k2, w2, w3, b, rfl⟩
    have tl : (ts0.map V.ref).length = ps.length := by rw [List.length_map, paired_len pc]
    rw [tl, List.take_length] at b
    exact ⟨_, rfl, q s H2 hs (fun b o hb => k2 b o (ne_of_none hb hs) (s1 b o hb)) b⟩
def t_Row_is_plain (K : PySem.W.Frag) : TS := tRet (tNotT K (tFld K (tVar 0) "_capacities"))
def spIsPlain (K : PySem.W.Frag) (C : Addr) : Sp := fun vs H Q _ => ∃ x ps ks, vs = [.ref x] ∧ RowAt K C H x ps ks ∧ Q (.bl ks.isEmpty) H
theorem pure_is_plain {K : PySem.W.Frag} {C : Addr} (R : RowC K C) (vs : List V) (H : Hp) (Q : VK) (E : XK) (h : spIsPlain K C vs H Q E) : t_Row_is_plain K { nx := fun _ H' => Q .non H', rt := Q } (start ["self"] vs) H := by
  obtain ⟨x, ps, ks, rfl, ⟨dx, c, k, d, e, ps0, ks0, h1, h2, h3, h4⟩, q⟩ := h
  obtain ⟨ts, bc, pr⟩ := h3
  refine ⟨_, rfl, x, C, dx, _, _, rfl, h1, R.cls, R.n2, fl2 c k d e, _, .inr (.inl ⟨_, bc.sq, rfl⟩), ?_⟩
  have : (!(!(ts.map V.ref).isEmpty)) = ks.isEmpty := by cases pr <;> rfl
  rw [this]
  exact q
def t_is_plain_row (K : PySem.W.Frag) (c_Row : Addr) : TS := tRet (tAndV (tCB (rIsi K) (tCons (tVar 0) (tCons (tC (.ref c_Row)) tNil))) (tMeth c_Row "is_plain" (spIsPlain K c_Row) [] E0 (tVar 0) tNil))
def spPlainRow (K : PySem.W.Frag) (C : Addr) : Sp := fun vs H Q _ => ∃ x ps ks, vs = [.ref x] ∧ RowAt K C H x ps ks ∧ Q (.bl ks.isEmpty) H
theorem RowAt.insP {K : PySem.W.Frag} {C : Addr} {H : Hp} {x : Addr} {ps ks : List (Int × Int)} (h : RowAt K C H x ps ks) : ∃ dx fs, H x = some (.ins C dx fs) ∧ List.lookup ("is_plain" : Str) fs = none := by
  obtain ⟨dx, c, k, d, e, ps0, ks0, h1, _⟩ := h
  exact ⟨dx, _, h1, rfl⟩
theorem pure_plain_row {K : PySem.W.Frag} {C : Addr} (R : RowC K C) (Z : RowK K C) (vs : List V) (H : Hp) (Q : VK) (E : XK) (h : spPlainRow K C vs H Q E) : t_is_plain_row K C { nx := fun _ H' => Q .non H', rt := Q } (start ["value"] vs) H := by
  obtain ⟨x, ps, ks, rfl, row, q⟩ := h
  obtain ⟨dx, fs, h1, no⟩ := row.insP
  refine ⟨_, rfl, .ref x, .ref C, .ref C, .ref C, true, rfl, .own C, .base (.ins h1 R.cls Z.ha Z.hg Z.ht Z.hm), Z.kit, ?_⟩
  exact ⟨_, rfl, iteT ⟨_, rfl, x, dx, fs, rfl, h1, no, x, ps, ks, rfl, row, q⟩⟩
end SR
set_option Elab.async false
set_option linter.all false
set_option maxRecDepth 100000
set_option maxHeartbeats 4000000
set_option Elab.async false
set_option linter.all false
set_option maxRecDepth 100000
set_option maxHeartbeats 4000000
set_option Elab.async false
set_option linter.all false
set_option maxRecDepth 100000
set_option maxHeartbeats 1000000
namespace SR
open PySem PySem.Spec PyProof.Rows L2
/-- the boxes that stay and the offsets, of ascending places; g pairs are gone on their left -/
def cutL : List Int → Int → List Int × List Int
  | [], _ => ([], [])
  | x :: xs, g => if xs.head? = some (x + 1) then ((x - 2 * g) :: (cutL xs g).1, (cutL xs g).2) else ((cutL xs (g + 1)).1, (x - 2 * g) :: (cutL xs (g + 1)).2)
def seg (st : Int) (n : Nat) : List Int := (List.range n).map fun p => st + ((p : Nat) : Int)
theorem seg_succ (st : Int) (n : Nat) : seg st (n + 1) = seg st n ++ [st + (n : Int)] := by
  unfold seg
  rw [List.range_succ, List.map_append]
  rfl
theorem seg_len (st : Int) (n : Nat) : (seg st n).length = n := by
  unfold seg
  rw [List.length_map, List.length_range]
def runStep (s : List Int × List Int) (r : Int × Int) : List Int × List Int :=
  (s.1 ++ seg (r.1 - 2 * (s.2.length : Int)) (r.2 - 1).toNat, s.2 ++ [r.1 - 2 * (s.2.length : Int) + r.2 - 1])
theorem blkStep_snoc (bs : List (Int × Int)) (f n x : Int) : blkStep (bs ++ [(f, n)]) x = if f + n = x then bs ++ [(f, n + 1)] else bs ++ [(f, n)] ++ [(x, 1)] := by
  unfold blkStep
  rw [List.getLast?_concat]
  show (if f + n = x then (bs ++ [(f, n)]).set ((bs ++ [(f, n)]).length - 1) (f, n + 1) else _) = _
  split
  · rw [List.length_append, List.length_singleton, Nat.add_sub_cancel, List.set_append_right _ _ (Nat.le_refl _), Nat.sub_self]
    rfl
  · rfl
theorem run_cut : ∀ (xs : List Int) (bs : List (Int × Int)) (f n : Int), 1 ≤ n → ∀ s : List Int × List Int, s = bs.foldl runStep ([], []) →
    (xs.foldl blkStep (bs ++ [(f, n)])).foldl runStep ([], []) = (s.1 ++ seg (f - 2 * (s.2.length : Int)) (n - 1).toNat ++ (cutL ((f + n - 1) :: xs) (s.2.length : Int)).1, s.2 ++ (cutL ((f + n - 1) :: xs) (s.2.length : Int)).2)
  | [], bs, f, n, hn, s, hs => by
    show (bs ++ [(f, n)]).foldl runStep ([], []) = _
    rw [List.foldl_append, ← hs]
    show runStep s (f, n) = _
    unfold runStep
    have c : cutL [f + n - 1] (s.2.length : Int) = ([], [f + n - 1 - 2 * (s.2.length : Int)]) := rfl
    rw [c]
    show (s.1 ++ seg (f - 2 * (s.2.length : Int)) (n - 1).toNat, s.2 ++ [f - 2 * (s.2.length : Int) + n - 1]) = (s.1 ++ seg (f - 2 * (s.2.length : Int)) (n - 1).toNat ++ [], s.2 ++ [f + n - 1 - 2 * (s.2.length : Int)])
    rw [List.append_nil]
    have e : f - 2 * (s.2.length : Int) + n - 1 = f + n - 1 - 2 * (s.2.length : Int) := by omega
    rw [e]
  | x :: xs, bs, f, n, hn, s, hs => by
    rw [List.foldl_cons, blkStep_snoc]
    by_cases e : f + n = x
    · rw [if_pos e, run_cut xs bs f (n + 1) (by omega) s hs]
      have c : cutL ((f + n - 1) :: x :: xs) (s.2.length : Int) = ((f + n - 1 - 2 * (s.2.length : Int)) :: (cutL (x :: xs) (s.2.length : Int)).1, (cutL (x :: xs) (s.2.length : Int)).2) := by
        show (if (x :: xs).head? = some (f + n - 1 + 1) then _ else _) = _
        rw [if_pos (by show some x = _; rw [← e]; congr 1; omega)]
      have e1 : f + (n + 1) - 1 = x := by omega
      have e2 : (n + 1 - 1).toNat = (n - 1).toNat + 1 := by omega
      have e3 : f - 2 * (s.2.length : Int) + ((n - 1).toNat : Int) = f + n - 1 - 2 * (s.2.length : Int) := by omega
      rw [c, e1, e2, seg_succ, e3]
      simp only [List.append_assoc, List.singleton_append]
    · rw [if_neg e, run_cut xs (bs ++ [(f, n)]) x 1 (by omega) (runStep s (f, n)) (by rw [List.foldl_append, ← hs]; rfl)]
      have c : cutL ((f + n - 1) :: x :: xs) (s.2.length : Int) = ((cutL (x :: xs) ((s.2.length : Int) + 1)).1, (f + n - 1 - 2 * (s.2.length : Int)) :: (cutL (x :: xs) ((s.2.length : Int) + 1)).2) := by
        show (if (x :: xs).head? = some (f + n - 1 + 1) then _ else _) = _
        rw [if_neg (by intro z; have := Option.some.inj z; omega)]
      have l : ((runStep s (f, n)).2.length : Int) = (s.2.length : Int) + 1 := by
        unfold runStep
        show ((s.2 ++ [_]).length : Int) = _
        rw [List.length_append]
        rfl
      have e1 : x + 1 - 1 = x := by omega
      have e4 : f - 2 * (s.2.length : Int) + n - 1 = f + n - 1 - 2 * (s.2.length : Int) := by omega
      rw [c, l, e1]
      show ((runStep s (f, n)).1 ++ seg _ 0 ++ _, (runStep s (f, n)).2 ++ _) = _
      unfold runStep
      show (s.1 ++ seg (f - 2 * (s.2.length : Int)) (n - 1).toNat ++ [] ++ _, s.2 ++ [f - 2 * (s.2.length : Int) + n - 1] ++ _) = _
      rw [e4, List.append_nil]
      simp only [List.append_assoc, List.singleton_append]
theorem runs_cut (L : List Int) : (blkOf L).foldl runStep ([], []) = cutL L 0 := by
  cases L with
  | nil => rfl
  | cons x xs =>
    unfold blkOf
    rw [List.foldl_cons]
    have e : blkStep [] x = [] ++ [(x, 1)] := rfl
    rw [e, run_cut xs [] x 1 (by omega) ([], []) rfl]
    have e1 : x + 1 - 1 = x := by omega
    rw [e1]
    show ([] ++ seg _ 0 ++ (cutL (x :: xs) 0).1, [] ++ (cutL (x :: xs) 0).2) = _
    rfl
theorem blk_pos1 (L : List Int) : ∀ r ∈ blkOf L, 1 ≤ r.2 := by
  have key : ∀ (xs : List Int) (acc : List (Int × Int)), (∀ r ∈ acc, 1 ≤ r.2) → ∀ r ∈ xs.foldl blkStep acc, 1 ≤ r.2 := by
    intro xs
    induction xs with
    | nil => exact fun _ h => h
    | cons x xs ih =>
      intro acc h
      refine ih _ fun r m => ?_
      unfold blkStep at m
      split at m
      · rename_i q e
        have hq := h q (List.mem_of_getLast? e)
        split at m
        · rcases List.mem_or_eq_of_mem_set m with m | rfl
          · exact h r m
          · show 1 ≤ q.2 + 1
            omega
        · rcases List.mem_append.mp m with m | m
          · exact h r m
          · rw [List.mem_singleton.mp m]
            exact Int.le_refl _
      · rcases List.mem_append.mp m with m | m
        · exact h r m
        · rw [List.mem_singleton.mp m]
          exact Int.le_refl _
  exact key L [] fun _ m => nomatch m
theorem cutL_len : ∀ (L : List Int) (g : Int), (cutL L g).1.length + (cutL L g).2.length = L.length
  | [], _ => rfl
  | x :: xs, g => by
    unfold cutL
    split
    · have := cutL_len xs g
      show ((cutL xs g).1.length + 1) + (cutL xs g).2.length = xs.length + 1
      omega
    · have := cutL_len xs (g + 1)
      show (cutL xs (g + 1)).1.length + ((cutL xs (g + 1)).2.length + 1) = xs.length + 1
      omega
theorem cutL_asc : ∀ (L : List Int) (g : Int), L.Pairwise (· < ·) → (cutL L g).1.Pairwise (· < ·) ∧ ∀ y ∈ (cutL L g).1, ∀ x, L.head? = some x → x - 2 * g ≤ y
  | [], _, _ => ⟨.nil, fun _ m => nomatch m⟩
  | x :: xs, g, asc => by
    have a := List.pairwise_cons.mp asc
    unfold cutL
    split
    · rename_i e
      obtain ⟨h1, h2⟩ := cutL_asc xs g a.2
      refine ⟨List.pairwise_cons.mpr ⟨fun y m => ?_, h1⟩, fun y m z hz => ?_⟩
      · have := h2 y m _ e
        omega
      · cases hz
        rcases List.mem_cons.mp m with rfl | m
        · exact Int.le_refl _
        · have := h2 y m _ e
          omega
    · rename_i e
      obtain ⟨h1, h2⟩ := cutL_asc xs (g + 1) a.2
      refine ⟨h1, fun y m z hz => ?_⟩
      cases hz
      cases xs with
      | nil => cases m
      | cons w ws =>
        have hw := a.1 w List.mem_cons_self
        have ne : w ≠ x + 1 := fun z => e (by rw [z]; rfl)
        have := h2 y m w rfl
        omega
end SR
set_option Elab.async false
set_option linter.all false
set_option maxRecDepth 100000
set_option maxHeartbeats 1000000
namespace SR
open PySem PySem.Spec PyProof.Rows L2
def t_cutSeg : TE := (tLc (iRng1 (tCons (tOp qSub (tVar 4) (tC (.int 1))) (tNil))) (gName 6) (tYes) (tTup (tCons (tOp qAdd (tVar 5) (tVar 6)) (tCons (tC (.int 1)) (tNil)))) [6])
def t_cutRest (K : PySem.W.Frag) : TS := (tSeq (tDrop (tBM K "list" rExtend (tVar 1) (tCons t_cutSeg (tNil))))
  (tDrop (tBM K "list" rAppend (tVar 2) (tCons (tOp qSub (tOp qAdd (tVar 5) (tVar 4)) (tC (.int 1))) (tNil)))))
def t_cutBody (K : PySem.W.Frag) : TS := (tSeq (tAsg (tOp qSub (tVar 3) (tOp qMul (tC (.int 2)) (tCB (qLen K) (tCons (tVar 2) (tNil))))) (gName 5))
  (t_cutRest K))
def t_cut (K : PySem.W.Frag) (a0 : Addr) (c_BadRow : Addr) (c_Row : Addr) (E : XK) : TS := tSeq (tIfS (tNot (tB (tCall (spPlainRow K c_Row) [] E0 (tCons (tVar 0) (tNil)))))
  (tOutF c_BadRow E "field" (.str "plain"))
  (tNext))
  (tSeq (tAsg (tLst (tNil)) (gName 1))
  (tSeq (tAsg (tLst (tNil)) (gName 2))
  (tSeq (tFor (iList K (tCall (spRunsIn K c_Row) [] E0 (tCons (tVar 0) (tNil)))) (gTup K 2 (gCons (gName 3) (gCons (gName 4) (gNil))))
  (t_cutBody K))
  (tRet (tTup (tCons (tMake c_Row (spRowInit K c_Row) [.ref a0] E0 (tCons (tVar 1) (tNil))) (tCons (tVar 2) (tNil))))))))
def But2 (A O : Addr) (H H' : Hp) : Prop := ∀ b o, b ≠ A → b ≠ O → H b = some o → H' b = some o
theorem But2.trans {A O : Addr} {H H1 H2 : Hp} (s : But2 A O H H1) (t : But2 A O H1 H2) : But2 A O H H2 := fun b o n1 n2 h => t b o n1 n2 (s b o n1 n2 h)
theorem ones_app (a b : List Int) : ones (a ++ b) = ones a ++ ones b := List.map_append
theorem yes_if {σ : L2.St} {H : Hp} {A B : Hp → Prop} (h : A H) : tYes σ H fun b H1 => if b = true then A H1 else B H1 := h
/-- the segment of a run that stays -/
theorem cut_seg {H : Hp} {Q : VK} {st f n : Int} {y0 y1 y2 y6 : Option V} (hn : 1 ≤ n ∧ n ≤ 100)
    (q : ∀ D H' us, H D = none → Same H H' → H' D = some (.lst (us.map V.ref)) → Paired (TupAt H') us (ones (seg st (n - 1).toNat)) → Q (.ref D) H') :
    t_cutSeg [y0, y1, y2, some (.int f), some (.int n), some (.int st), y6] H Q := by
  refine ⟨_, rfl, _, _, rfl, rfl, n - 1, rfl, by omega, by omega, fun D hD => ?_⟩
  refine lc_range (lo := 0) (n := (n - 1).toNat) (fun i H' => Same H H' ∧ ∃ us, H' D = some (.lst (us.map V.ref)) ∧ Paired (TupAt H') us (ones (seg st i))) ⟨same_new hD, [], upd_same, .nil⟩ ?_ ?_
  · rintro i H1 hi ⟨s1, us, d1, pr⟩
    have ul : us.length = i := by
      have := paired_len pr
      rw [ones_len, seg_len] at this
      exact this
    refine ⟨rfl, yes_if ?_⟩
    refine ⟨_, rfl, _, rfl, _, _, rfl, rfl, sz (by show 2 ≤ 1000; decide), fun p hp => ?_⟩
    show ∃ acc, (upd H1 p (.tup [.int (st + (0 + (i : Int))), .int 1])) D = some (.lst acc) ∧ acc.length < sizeLine ∧ Same H (upd (upd H1 p (.tup [.int (st + (0 + (i : Int))), .int 1])) D (.lst (acc ++ [.ref p]))) ∧ _
    have e0 : (0 : Int) + (i : Int) = (i : Int) := by omega
    rw [e0]
    have s3 := same_new (o := .tup [.int (st + (i : Int)), .int 1]) hp
    have T3 : TupAt (upd H1 p (.tup [.int (st + (i : Int)), .int 1])) p (st + (i : Int), 1) := upd_same
    generalize upd H1 p (.tup [.int (st + (i : Int)), .int 1]) = H3 at s3 T3 ⊢
    have d3 := s3 _ _ d1
    have keep : ∀ {b : Addr} {z : Int × Int}, TupAt H3 b z → TupAt (upd H3 D (.lst (us.map V.ref ++ [.ref p]))) b z := fun {b z} w => (upd_ne (ne_of w d3 (by intro e; cases e))).trans w
    refine ⟨_, d3, ?_, same_upd (s1.trans s3) hD, us ++ [p], ?_, ?_⟩
    · rw [List.length_map, ul]
      have : i < 1000 := by omega
      exact Nat.lt_of_lt_of_le this (by decide)
    · rw [upd_same, List.map_append]
      rfl
    · rw [seg_succ, ones_app]
      exact paired_snoc (keep T3) (paired_imp (fun _ _ z => keep (s3 _ _ z)) pr)
  · rintro H1 ⟨s1, us, d1, pr⟩
    exact q D H1 us hD s1 d1 pr
theorem cut_turn {K : PySem.W.Frag} {H : Hp} {A O : Addr} {f n : Int} {k o : List Int} {us : List Addr} {y0 y5 y6 : Option V} {N N2 N3 : L2.St → Hp → Prop} {R : VK} (nAO : A ≠ O) (hn : 1 ≤ n ∧ n ≤ 100) (kl : k.length ≤ 100) (ol : o.length ≤ 100)
    (hA : H A = some (.lst (us.map V.ref))) (pr : Paired (TupAt H) us (ones k)) (hO : H O = some (.lst (o.map V.int)))
    (q : ∀ y5 H' us', But2 A O H H' → H' A = some (.lst (us'.map V.ref)) → Paired (TupAt H') us' (ones (runStep (k, o) (f, n)).1) → H' O = some (.lst ((runStep (k, o) (f, n)).2.map V.int)) →
      N [y0, some (.ref A), some (.ref O), some (.int f), some (.int n), y5, y6] H') :
    t_cutBody K { nx := N, rt := R, bk := N2, ct := N3 } [y0, some (.ref A), some (.ref O), some (.int f), some (.int n), y5, y6] H := by
  refine ⟨_, rfl, _, rfl, O, _, rfl, .inl (SqL.of hO), _, _, rfl, rfl, .inl ⟨by decide, by decide⟩, _, _, rfl, rfl, ?_⟩
  show t_cutRest K _ [y0, some (.ref A), some (.ref O), some (.int f), some (.int n), some (.int (f - 2 * ((o.map V.int).length : Int))), y6] H
  rw [List.length_map]
  generalize hst : f - 2 * (o.length : Int) = st
  refine ⟨_, rfl, .inl ⟨rfl, _, SqL.of hA⟩, ?_⟩
  refine cut_seg (st := st) hn fun D H1 ws hD s1 d1 pr1 => ?_
  have A1 := s1 _ _ hA
  have O1 := s1 _ _ hO
  have ul : us.length = k.length := by rw [paired_len pr, ones_len]
  have wl : ws.length = (n - 1).toNat := by rw [paired_len pr1, ones_len, seg_len]
  refine ⟨A, D, _, _, rfl, rfl, A1, d1, ?_, ?_⟩
  · rw [List.length_map, List.length_map]
    have : us.length + ws.length ≤ 300 := by omega
    exact Nat.le_trans this (by decide)
  have keep : ∀ {b : Addr} {z : Int × Int}, TupAt H1 b z → TupAt (upd H1 A (.lst (us.map V.ref ++ ws.map V.ref))) b z := fun {b z} w => (upd_ne (ne_of w A1 (by intro e; cases e))).trans w
  have A2 : upd H1 A (.lst (us.map V.ref ++ ws.map V.ref)) A = some (.lst ((us ++ ws).map V.ref)) := by rw [upd_same, List.map_append]
  have O2 : upd H1 A (.lst (us.map V.ref ++ ws.map V.ref)) O = some (.lst (o.map V.int)) := (upd_ne (Ne.symm nAO)).trans O1
  have pr2 : Paired (TupAt (upd H1 A (.lst (us.map V.ref ++ ws.map V.ref)))) (us ++ ws) (ones (k ++ seg st (n - 1).toNat)) := by
    rw [ones_app]
    exact paired_append (paired_imp (fun _ _ z => keep (s1 _ _ z)) pr) (paired_imp (fun _ _ z => keep z) pr1)
  have b2 : But2 A O H (upd H1 A (.lst (us.map V.ref ++ ws.map V.ref))) := fun b ob n1 n2 h => (upd_ne n1).trans (s1 _ _ h)
  generalize upd H1 A (.lst (us.map V.ref ++ ws.map V.ref)) = H2 at A2 O2 pr2 b2 ⊢
  refine ⟨_, rfl, .inl ⟨rfl, _, SqL.of O2⟩, _, rfl, _, rfl, _, _, rfl, rfl, _, _, rfl, rfl, O, _, _, rfl, rfl, O2, ?_, ?_⟩
  · rw [List.length_map]
    exact Nat.lt_of_le_of_lt ol (by decide)
  have keep3 : ∀ {b : Addr} {z : Int × Int}, TupAt H2 b z → TupAt (upd H2 O (.lst (o.map V.int ++ [.int (st + n - 1)]))) b z := fun {b z} w => (upd_ne (ne_of w O2 (by intro e; cases e))).trans w
  have rs : runStep (k, o) (f, n) = (k ++ seg st (n - 1).toNat, o ++ [st + n - 1]) := by
    unfold runStep
    show (k ++ seg (f - 2 * (o.length : Int)) (n - 1).toNat, o ++ [f - 2 * (o.length : Int) + n - 1]) = _
    rw [hst]
  refine q _ _ (us ++ ws) (b2.trans fun b ob n1 n2 h => (upd_ne n2).trans h) ?_ ?_ ?_
  · exact (upd_ne nAO).trans A2
  · rw [rs]
    exact paired_imp (fun _ _ z => keep3 z) pr2
  · rw [rs, upd_same, List.map_append]
    rfl
/-- the package's cut: a plain row is cut, any other row refused -/
def spCut (K : PySem.W.Frag) (C B : Addr) : Sp := fun vs H Q E => ∃ x ps ks, vs = [.ref x] ∧ RowAt K C H x ps ks ∧ RowOk ps ks ∧ Asc ps ∧
  (ks ≠ [] → ∀ H' d, Same H H' → H' d = none → E (.ref B) (some d) (upd H' d (.xd [("field", .str "plain")]))) ∧
  (ks = [] → ∀ t y O H', H t = none → H O = none → Same H H' → H' t = some (.tup [.ref y, .ref O]) → RowAt K C H' y (ones (cutL (ps.map Prod.fst) 0).1) [] → H' O = some (.lst ((cutL (ps.map Prod.fst) 0).2.map V.int)) → Q (.ref t) H')
theorem run_mono : ∀ (bs : List (Int × Int)) (s : List Int × List Int), s.1.length ≤ (bs.foldl runStep s).1.length ∧ s.2.length ≤ (bs.foldl runStep s).2.length
  | [], _ => ⟨Nat.le_refl _, Nat.le_refl _⟩
  | b :: bs, s => by
    have h := run_mono bs (runStep s b)
    have h1 : s.1.length ≤ (runStep s b).1.length := by
      unfold runStep
      rw [List.length_append]
      exact Nat.le_add_right _ _
    have h2 : s.2.length ≤ (runStep s b).2.length := by
      unfold runStep
      rw [List.length_append]
      exact Nat.le_add_right _ _
    exact ⟨Nat.le_trans h1 h.1, Nat.le_trans h2 h.2⟩
theorem run_take (bs : List (Int × Int)) (i : Nat) : ((bs.take i).foldl runStep ([], [])).1.length ≤ (bs.foldl runStep ([], [])).1.length ∧ ((bs.take i).foldl runStep ([], [])).2.length ≤ (bs.foldl runStep ([], [])).2.length := by
  have h := run_mono (bs.drop i) ((bs.take i).foldl runStep ([], []))
  rw [← List.foldl_append, List.take_append_drop] at h
  exact h
theorem none_back {H H' : Hp} (s : Same H H') {a : Addr} (h : H' a = none) : H a = none := by
  cases e : H a with
  | none => rfl
  | some o => exact absurd ((s _ _ e).symm.trans h) (fun z => nomatch z)
theorem pure_cut {K : PySem.W.Frag} {C B a0 : Addr} (hE : BareK K a0 []) (vs : List V) (H : Hp) (Q : VK) (E : XK) (h : spCut K C B vs H Q E) : t_cut K a0 B C E { nx := fun _ H' => Q .non H', rt := Q } (start ["row", "kept", "offsets", "first", "length", "start", "place"] vs) H := by
  obtain ⟨x, ps, ks, rfl, row, ok, asc, q1, q2⟩ := h
  refine ⟨_, rfl, x, ps, ks, rfl, row, _, rfl, ?_⟩
  cases ks with
  | cons k ks => exact iteT fun d hd => q1 (fun z => nomatch z) H d (fun _ _ h => h) hd
  | nil =>
    refine iteF ⟨sz (Nat.zero_le _), fun A hA => ⟨sz (Nat.zero_le _), fun O hO => ?_⟩⟩
    have s1 := same_new (o := .lst []) hA
    have A1 : upd H A (.lst []) A = some (.lst []) := upd_same
    generalize upd H A (.lst []) = H1 at s1 A1 hO ⊢
    have s2 := same_new (o := .lst []) hO
    have A2 := s2 _ _ A1
    have O2 : upd H1 O (.lst []) O = some (.lst []) := upd_same
    have nAO : A ≠ O := fun z => by
      rw [z, hO] at A1
      cases A1
    generalize upd H1 O (.lst []) = H2 at s2 A2 O2 ⊢
    have s02 := s1.trans s2
    have row2 := row.same s02
    have l40 := len_sum (fun p m => (ok.po p m).1)
    have osm := ok.sm
    have O0 : H O = none := none_back s1 hO
    refine ⟨_, rfl, x, ps, [], rfl, row2, by omega, fun R H3 hR s3 blk => ?_⟩
    obtain ⟨ts, hRl, prR⟩ := blk
    have A3 := s3 _ _ A2
    have O3 := s3 _ _ O2
    have nRA : R ≠ A := fun z => by rw [z, A2] at hR; cases hR
    have nRO : R ≠ O := fun z => by rw [z, O2] at hR; cases hR
    have fin : (blkOf (ps.map Prod.fst)).foldl runStep ([], []) = cutL (ps.map Prod.fst) 0 := runs_cut _
    have pos := blk_pos1 (ps.map Prod.fst)
    have tot := cutL_len (ps.map Prod.fst) 0
    rw [List.length_map] at tot
    have lim : ∀ i, (((blkOf (ps.map Prod.fst)).take i).foldl runStep ([], [])).1.length ≤ 40 ∧ (((blkOf (ps.map Prod.fst)).take i).foldl runStep ([], [])).2.length ≤ 40 := fun i => by
      have h := run_take (blkOf (ps.map Prod.fst)) i
      rw [fin] at h
      omega
    generalize blkOf (ps.map Prod.fst) = bs at prR fin pos lim
    refine ⟨R, rfl, ⟨_, SqL.of hRl⟩, ?_⟩
    refine for_it (walk_list (K := K) (a := R) (xs := ts.map V.ref)) (fun i σ H' => But2 A O H3 H' ∧ ∃ us y3 y4 y5, σ = [some (.ref x), some (.ref A), some (.ref O), y3, y4, y5, none] ∧ H' A = some (.lst (us.map V.ref)) ∧ Paired (TupAt H') us (ones ((bs.take i).foldl runStep ([], [])).1) ∧ H' O = some (.lst (((bs.take i).foldl runStep ([], [])).2.map V.int)))
      ⟨fun _ _ _ _ h => h, [], _, _, _, rfl, A3, .nil, O3⟩ ?_ ?_ ?_
    · rintro i σ H' _ ⟨b, _⟩
      exact SqL.of (b _ _ nRA nRO hRl)
    · rintro i v σ H' H'' hi ⟨b, us, y3, y4, y5, rfl, hA', pr, hO'⟩ ⟨rfl, hv⟩
      rw [List.getElem?_map] at hv
      obtain ⟨t, ht, rfl⟩ := Option.map_eq_some_iff.mp hv
      obtain ⟨r, hr, hat⟩ := paired_at prR ht
      have T : TupAt H'' t r := b _ _ (ne_of hat A3 (by intro e; cases e)) (ne_of hat O3 (by intro e; cases e)) hat
      have tk : (bs.take (i + 1)).foldl runStep ([], []) = runStep ((bs.take i).foldl runStep ([], [])) r := by
        rw [List.take_succ, hr, List.foldl_append]
        rfl
      have li := lim i
      have li1 := lim (i + 1)
      rw [tk] at li1
      generalize (bs.take i).foldl runStep ([], []) = s at pr hO' tk li li1
      obtain ⟨k, o⟩ := s
      obtain ⟨f, n⟩ := r
      have n1 : 1 ≤ n := pos _ (List.mem_of_getElem? hr)
      have n2 : n ≤ 100 := by
        have z := li1.1
        unfold runStep at z
        rw [List.length_append, seg_len] at z
        omega
      refine ⟨t, _, rfl, SqT.of T, rfl, _, _, rfl, _, _, rfl, rfl, ?_⟩
      show t_cutBody K _ [some (.ref x), some (.ref A), some (.ref O), some (.int f), some (.int n), y5, none] H''
      refine cut_turn nAO ⟨n1, n2⟩ (Nat.le_trans li.1 (by decide)) (Nat.le_trans li.2 (by decide)) hA' pr hO' fun y5' H5 us' b5 a5 p5 o5 => ?_
      refine ⟨b.trans b5, us', _, _, _, rfl, a5, ?_, ?_⟩
      · rw [tk]
        exact p5
      · rw [tk]
        exact o5
    · rintro σ H' ⟨b, us, y3, y4, y5, rfl, hA', pr, hO'⟩
      have tl : (ts.map V.ref).length = bs.length := by rw [List.length_map, paired_len prR]
      rw [tl, List.take_length, fin] at pr hO'
      have s3' : Same H H' := fun c o hc => b _ _ (fun z => by rw [z, hA] at hc; cases hc) (fun z => by rw [z, O0] at hc; cases hc) (s3 _ _ (s02 _ _ hc))
      have L := (cutL_asc (ps.map Prod.fst) 0 (by rw [List.pairwise_map]; exact asc)).1
      have kl : (cutL (ps.map Prod.fst) 0).1.length ≤ 40 := by omega
      have hp : PairsAt K H' A (ones (cutL (ps.map Prod.fst) 0).1) := ⟨us, .inl (SqL.of hA'), pr⟩
      have hk : PairsAt K H' a0 [] := ⟨[], .inr (.inr hE), .nil⟩
      refine ⟨_, rfl, fun y0 dx g1 g2 g3 => make_row (C := C) (E := E0) (Q := fun z H1 => tCons (tVar 2) tNil [some (.ref x), some (.ref A), some (.ref O), y3, y4, y5, none] H1 fun xs H2 => (z :: xs).length ≤ sizeLine ∧ ∀ p, H2 p = none → Q (.ref p) (upd H2 p (.tup (z :: xs)))) hp hk (ones_ok L kl) (fun y H5 qs ls hy s5 row5 p1 p2 a1 a2 => ?_) y0 dx g1 g2 g3⟩
      refine ⟨_, rfl, sz (by show 2 ≤ 1000; decide), fun t ht => ?_⟩
      have e1 : qs = ones (cutL (ps.map Prod.fst) 0).1 := asc_eq a1 (ones_asc L) p1
      have e2 : ls = [] := List.Perm.eq_nil p2
      subst e1 e2
      have s6 := same_new (o := .tup [.ref y, .ref O]) ht
      have s05 := s3'.trans s5
      exact q2 rfl t y O _ (none_back s05 ht) O0 (s05.trans s6) upd_same (row5.same s6) (s6 _ _ (s5 _ _ hO'))
end SR
set_option Elab.async false
set_option linter.all false
set_option maxRecDepth 100000
set_option maxHeartbeats 4000000
namespace SR
open PySem PySem.Spec PyProof.Rows L2
def sumAt (f : Step → Int) (st : List Step) (i : Int) : Int := (st.map fun s => if s.1 = i then f s else 0).sum
theorem sumAt_cons (f : Step → Int) (s : Step) (st : List Step) (i : Int) : sumAt f (s :: st) i = (if s.1 = i then f s else 0) + sumAt f st i := rfl
theorem sumAt_app (f : Step → Int) (a b : List Step) (i : Int) : sumAt f (a ++ b) i = sumAt f a i + sumAt f b i := by
  unfold sumAt
  rw [List.map_append, List.sum_append]
theorem sumAt_none {f : Step → Int} {st : List Step} {i : Int} (h : ∀ s ∈ st, s.1 ≠ i) : sumAt f st i = 0 := by
  induction st with
  | nil => rfl
  | cons s st ih =>
    rw [sumAt_cons, if_neg (h s List.mem_cons_self), ih fun t m => h t (List.mem_cons_of_mem _ m)]
    rfl
theorem sumAt_mem {f : Step → Int} {st : List Step} (a : AscS st) {s : Step} (m : s ∈ st) : sumAt f st s.1 = f s := by
  induction st with
  | nil => cases m
  | cons t st ih =>
    obtain ⟨a1, a2⟩ := List.pairwise_cons.mp a
    rw [sumAt_cons]
    rcases List.mem_cons.mp m with e | m
    · subst e
      rw [if_pos rfl, sumAt_none fun z hz e => by have := a1 z hz; omega]
      omega
    · have := a1 s m
      rw [if_neg (by omega), ih a2 m]
      omega
abbrev ldF : Step → Int := fun s => s.2.1
abbrev nlF : Step → Int := fun s => s.2.2.2.1
/-- what a step is -/
def StepIs (cn cp : Int → Int) (most : Int) (s : Step) : Prop := s = stepAt cn cp most s.1 s.2.1 ∧ 0 ≤ s.2.1 ∧ s.2.1 ≤ most
section
variable {ps ks : List (Int × Int)} {most : Int}
theorem walks_more (ok : RowOk ps ks) (m1 : 1 ≤ most) {i l : Int} {w : List Step} (h : Walks (cnt ps) (cap ks) most i l w) : 0 ≤ l → l ≤ most →
    (∀ s ∈ w, StepIs (cnt ps) (cap ks) most s ∧ i ≤ s.1) ∧ (∀ j, sumAt nlF w j + (if j + 1 = i then l else 0) = sumAt ldF w (j + 1)) ∧ (∀ j, i ≤ j → j ≤ lastIdx w → ∃ s ∈ w, s.1 = j) ∧ i ≤ lastIdx w := by
  induction h with
  | @last i l h =>
    intro l0 l1
    refine ⟨fun s m => ?_, fun j => ?_, fun j j0 j1 => ⟨_, List.mem_singleton.mpr rfl, ?_⟩, Int.le_refl _⟩
    · rw [List.mem_singleton.mp m]
      exact ⟨⟨rfl, l0, l1⟩, Int.le_refl _⟩
    · rw [sumAt_cons, sumAt_cons]
      show (if i = j then stL most l (cap ks i) (cnt ps i) else 0) + 0 + _ = (if i = j + 1 then l else 0) + 0
      rw [h]
      split <;> split <;> split <;> omega
    · have : lastIdx [stepAt (cnt ps) (cap ks) most i l] = i := rfl
      rw [this] at j1
      show i = j
      omega
  | @more i l r h t ih =>
    intro l0 l1
    obtain ⟨_, b, _⟩ := step_ok (i := i) ok m1 l0 l1
    obtain ⟨a1, a2, a3, a4⟩ := ih b.1 b.2
    have ne : r ≠ [] := by cases t <;> simp
    have ll : lastIdx (stepAt (cnt ps) (cap ks) most i l :: r) = lastIdx r := by
      unfold lastIdx
      cases r with
      | nil => exact absurd rfl ne
      | cons x r => rw [List.getLast?_cons_cons]
    refine ⟨fun s m => ?_, fun j => ?_, fun j j0 j1 => ?_, by rw [ll]; omega⟩
    · rcases List.mem_cons.mp m with rfl | m
      · exact ⟨⟨rfl, l0, l1⟩, Int.le_refl _⟩
      · have := a1 s m
        exact ⟨this.1, by omega⟩
    · rw [sumAt_cons, sumAt_cons]
      have := a2 j
      show (if i = j then stL most l (cap ks i) (cnt ps i) else 0) + sumAt nlF r j + _ = (if i = j + 1 then l else 0) + sumAt ldF r (j + 1)
      by_cases e1 : i = j
      · rw [if_pos e1, if_neg (by omega), if_neg (by omega)]
        rw [if_pos (by omega)] at this
        omega
      · rw [if_neg e1]
        rw [if_neg (by omega)] at this
        by_cases e2 : j + 1 = i
        · rw [if_pos e2, if_pos e2.symm]
          omega
        · rw [if_neg e2, if_neg (by omega)]
          omega
    · rw [ll] at j1
      by_cases e : j = i
      · exact ⟨_, List.mem_cons_self, e.symm⟩
      · obtain ⟨s, hs, e2⟩ := a3 j (by omega) j1
        exact ⟨s, List.mem_cons_of_mem _ hs, e2⟩
theorem traces_more (ok : RowOk ps ks) (m1 : 1 ≤ most) {qs : List (Int × Int)} {acc st : List Step} (h : Traces (cnt ps) (cap ks) most qs acc st) : Asc qs →
    (∀ s ∈ acc, StepIs (cnt ps) (cap ks) most s) → (∀ j, sumAt nlF acc j = sumAt ldF acc (j + 1)) → (acc ≠ [] → ∃ b, (∀ q ∈ qs, b ≤ q.1) ∧ ∀ j, b ≤ j → j ≤ lastIdx acc → ∃ s ∈ acc, s.1 = j) →
    (∀ s ∈ st, StepIs (cnt ps) (cap ks) most s) ∧ (∀ j, sumAt nlF st j = sumAt ldF st (j + 1)) ∧ (∀ s ∈ acc, s ∈ st) ∧ ∀ q ∈ qs, ∃ s ∈ st, s.1 = q.1 := by
  induction h with
  | nil => exact fun _ a b _ => ⟨a, b, fun _ m => m, fun _ m => nomatch m⟩
  | @skip p qs acc r hn h2 t ih =>
    intro asc a b c
    obtain ⟨x, x1, x2⟩ := c hn
    obtain ⟨i1, i2, i3, i4⟩ := ih (List.pairwise_cons.mp asc).2 a b fun _ => ⟨x, fun q m => x1 q (List.mem_cons_of_mem _ m), x2⟩
    refine ⟨i1, i2, i3, fun q m => ?_⟩
    rcases List.mem_cons.mp m with rfl | m
    · obtain ⟨s, hs, e⟩ := x2 q.1 (x1 q List.mem_cons_self) (by omega)
      exact ⟨s, i3 s hs, e⟩
    · exact i4 q m
  | @walk p qs acc w r hon hw t ih =>
    intro asc a b c
    obtain ⟨p1, p2⟩ := List.pairwise_cons.mp asc
    obtain ⟨w1, w2, w3, w4⟩ := walks_more ok m1 hw (Int.le_refl 0) (by omega)
    have wn := walks_ne hw
    have la : lastIdx (acc ++ w) = lastIdx w := by
      unfold lastIdx
      rw [List.getLast?_append]
      cases e : w.getLast? with
      | none => exact absurd (List.getLast?_eq_none_iff.mp e) wn
      | some x => rfl
    obtain ⟨i1, i2, i3, i4⟩ := ih p2 (fun s m => (List.mem_append.mp m).elim (a s) fun m => (w1 s m).1) (fun j => by
      rw [sumAt_app, sumAt_app, b j, ← w2 j]
      split <;> omega) fun _ => ⟨p.1, fun q m => by have := p1 q m; omega, fun j j0 j1 => by
        rw [la] at j1
        obtain ⟨s, hs, e⟩ := w3 j j0 j1
        exact ⟨s, List.mem_append_right _ hs, e⟩⟩
    refine ⟨i1, i2, fun s m => i3 s (List.mem_append_left _ m), fun q m => ?_⟩
    rcases List.mem_cons.mp m with rfl | m
    · obtain ⟨s, hs, e⟩ := w3 q.1 (Int.le_refl _) w4
      exact ⟨s, i3 s (List.mem_append_right _ hs), e⟩
    · exact i4 q m
/-- qs is ps after a sweep -/
def Sw (ks : List (Int × Int)) (most : Int) (ps qs : List (Int × Int)) : Prop := ∃ ld : Int → Int, (∃ lo, ∀ i, i ≤ lo → ld i = 0) ∧ (∃ hi, ∀ i, hi ≤ i → ld i = 0) ∧ ∀ i, 0 ≤ ld i ∧ ld i ≤ most ∧ cnt qs i = stC most (ld i) (cap ks i) (cnt ps i) ∧ ld (i + 1) = stL most (ld i) (cap ks i) (cnt ps i)
theorem span (st : List Step) : ∃ lo hi : Int, ∀ s ∈ st, lo < s.1 ∧ s.1 < hi := by
  induction st with
  | nil => exact ⟨0, 0, fun _ m => nomatch m⟩
  | cons s st ih =>
    obtain ⟨lo, hi, h⟩ := ih
    refine ⟨min lo (s.1 - 1), max hi (s.1 + 1), fun t m => ?_⟩
    rcases List.mem_cons.mp m with rfl | m
    · omega
    · have := h t m
      omega
theorem cnt_left {st : List Step} (a : AscS st) {s : Step} (m : s ∈ st) (h : 0 ≤ s.2.2.2.2) (la : Asc (left st)) : cnt (left st) s.1 = s.2.2.2.2 := by
  unfold cnt
  by_cases e : 0 < s.2.2.2.2
  · have z : (s.1, s.2.2.2.2) ∈ left st := List.mem_map.mpr ⟨s, List.mem_filter.mpr ⟨m, decide_eq_true e⟩, rfl⟩
    rw [(lookup_some (asc_nd la)).mpr z]
    rfl
  · rw [lookup_none.mpr]
    · show (0 : Int) = _
      omega
    · intro z
      obtain ⟨p, hp, e2⟩ := List.mem_map.mp z
      obtain ⟨t, ht, rfl⟩ := List.mem_map.mp hp
      obtain ⟨t1, t2⟩ := List.mem_filter.mp ht
      have e3 := sumAt_mem (f := fun s => s.2.2.2.2) a t1
      have e4 := sumAt_mem (f := fun s => s.2.2.2.2) a m
      have e5 : t.1 = s.1 := e2
      rw [e5] at e3
      have := of_decide_eq_true t2
      omega
theorem cnt_left_none {st : List Step} {i : Int} (h : ∀ s ∈ st, s.1 ≠ i) : cnt (left st) i = 0 := by
  unfold cnt
  rw [lookup_none.mpr]
  · rfl
  · intro z
    obtain ⟨p, hp, e2⟩ := List.mem_map.mp z
    obtain ⟨t, ht, rfl⟩ := List.mem_map.mp hp
    exact h t (List.mem_filter.mp ht).1 e2
theorem sw_traces (ok : RowOk ps ks) (asc : Asc ps) (m1 : 1 ≤ most) {st : List Step} (h : Traces (cnt ps) (cap ks) most ps [] st) : Sw ks most ps (left st) := by
  obtain ⟨lo, la, _⟩ := left_ok ok m1 h
  obtain ⟨a, b, _⟩ := traces_all ok m1 h List.Pairwise.nil (fun s m => nomatch m) rfl
  obtain ⟨t1, t2, _, t4⟩ := traces_more ok m1 h asc (fun s m => nomatch m) (fun j => rfl) fun z => absurd rfl z
  obtain ⟨x, y, xy⟩ := span st
  refine ⟨sumAt ldF st, ⟨x, fun i hi => sumAt_none fun s m e => by have := xy s m; omega⟩, ⟨y, fun i hi => sumAt_none fun s m e => by have := xy s m; omega⟩, fun i => ?_⟩
  have nl := t2 i
  by_cases ex : ∃ s ∈ st, s.1 = i
  · obtain ⟨s, m, rfl⟩ := ex
    obtain ⟨e, l0, l1⟩ := t1 s m
    have k1 := sumAt_mem (f := ldF) a m
    have k2 := sumAt_mem (f := nlF) a m
    have k3 := cnt_left a m (b s m).2.1 la
    have n1 : s.2.2.2.1 = stL most s.2.1 (cap ks s.1) (cnt ps s.1) := congrArg (fun s : Step => s.2.2.2.1) e
    have n2 : s.2.2.2.2 = stC most s.2.1 (cap ks s.1) (cnt ps s.1) := congrArg (fun s : Step => s.2.2.2.2) e
    refine ⟨by rw [k1]; exact l0, by rw [k1]; exact l1, ?_, ?_⟩
    · rw [k1, k3]
      exact n2
    · rw [k1, ← nl, k2]
      exact n1
  · have no : ∀ s ∈ st, s.1 ≠ i := fun s m e => ex ⟨s, m, e⟩
    have c0 : cnt ps i = 0 := by
      unfold cnt
      rw [lookup_none.mpr]
      · rfl
      · intro z
        obtain ⟨p, hp, e⟩ := List.mem_map.mp z
        obtain ⟨s, hs, e2⟩ := t4 p hp
        exact no s hs (by omega)
    have k1 := sumAt_none (f := ldF) no
    have k2 := sumAt_none (f := nlF) no
    have k3 := cnt_left_none no
    have cp := cap_ok ok.ko i
    refine ⟨by rw [k1]; exact Int.le_refl _, by rw [k1]; omega, ?_, ?_⟩
    · rw [k1, k3, c0]
      unfold stC
      omega
    · rw [k1, ← nl, k2, c0]
      unfold stL
      omega
theorem walks_ex (ok : RowOk ps ks) (m1 : 1 ≤ most) : ∀ (n : Nat) (i l : Int), 2 * sumFrom i ps + l ≤ n → 0 ≤ l → l ≤ most → (l = 0 → 1 ≤ cnt ps i) → ∃ w, Walks (cnt ps) (cap ks) most i l w := by
  intro n
  induction n with
  | zero =>
    intro i l h l0 l1 lz
    have nx := sumFrom_next i ok.nd
    have b := sumFrom_bd (i + 1) fun p m => (ok.po p m).1
    have c := cnt_bd ok i
    have := lz (by omega)
    omega
  | succ n ih =>
    intro i l h l0 l1 lz
    have nx := sumFrom_next i ok.nd
    have b := sumFrom_bd (i + 1) fun p m => (ok.po p m).1
    have c := cnt_bd ok i
    have cp := cap_ok ok.ko i
    obtain ⟨_, s2, s3⟩ := step_ok (i := i) ok m1 l0 l1
    by_cases e : stL most l (cap ks i) (cnt ps i) = 0
    · exact ⟨_, .last e⟩
    · have dec : 2 * sumFrom (i + 1) ps + stL most l (cap ks i) (cnt ps i) ≤ n := by
        have d1 : stL most l (cap ks i) (cnt ps i) ≤ l + cnt ps i := by
          unfold stL
          omega
        by_cases z : cnt ps i = 0
        · have : stL most l (cap ks i) (cnt ps i) < l := by
            have : l ≠ 0 := fun q => by have := lz q; omega
            unfold stL
            rw [z]
            omega
          omega
        · omega
      obtain ⟨w, hw⟩ := ih (i + 1) _ dec s2.1 s2.2 fun q => absurd q e
      exact ⟨_, .more e hw⟩
theorem traces_ex (ok : RowOk ps ks) (m1 : 1 ≤ most) : ∀ (qs : List (Int × Int)) (acc : List Step), (∀ q ∈ qs, q ∈ ps) → ∃ st, Traces (cnt ps) (cap ks) most qs acc st
  | [], acc, _ => ⟨acc, .nil⟩
  | p :: qs, acc, h => by
    by_cases on : acc = [] ∨ lastIdx acc < p.1
    · have c1 : 1 ≤ cnt ps p.1 := by
        unfold cnt
        rw [(lookup_some (n := p.2) ok.nd).mpr (h p List.mem_cons_self)]
        exact (ok.po p (h p List.mem_cons_self)).1
      have b := sumFrom_bd p.1 fun p m => (ok.po p m).1
      obtain ⟨w, hw⟩ := walks_ex ok m1 (2 * sumFrom p.1 ps).toNat p.1 0 (by omega) (Int.le_refl _) (by omega) fun _ => c1
      obtain ⟨st, hs⟩ := traces_ex ok m1 qs (acc ++ w) fun q m => h q (List.mem_cons_of_mem _ m)
      exact ⟨st, .walk on hw hs⟩
    · obtain ⟨st, hs⟩ := traces_ex ok m1 qs acc fun q m => h q (List.mem_cons_of_mem _ m)
      exact ⟨st, .skip (fun z => on (.inl z)) (fun z => on (.inr z)) hs⟩
theorem cnt_eq {qs : List (Int × Int)} (a : Asc ps) (b : Asc qs) (pa : ∀ p ∈ ps, 1 ≤ p.2) (pb : ∀ p ∈ qs, 1 ≤ p.2) (h : ∀ i, cnt ps i = cnt qs i) : ps = qs := by
  have sub : ∀ {xs ys : List (Int × Int)}, Asc xs → Asc ys → (∀ p ∈ xs, 1 ≤ p.2) → (∀ i, cnt xs i = cnt ys i) → ∀ p ∈ xs, p ∈ ys := fun {xs ys} ax ay px e p m => by
    have z := e p.1
    unfold cnt at z
    rw [(lookup_some (n := p.2) (asc_nd ax)).mpr m] at z
    have := px p m
    cases q : ys.lookup p.1 with
    | none =>
      rw [q] at z
      have z2 : p.2 = 0 := z
      omega
    | some n =>
      rw [q] at z
      have z2 : p.2 = n := z
      have := (lookup_some (asc_nd ay)).mp q
      rw [← z2] at this
      exact this
  have nx : ps.Nodup := a.imp fun {x y} z e => by rw [e] at z; omega
  have ny : qs.Nodup := b.imp fun {x y} z e => by rw [e] at z; omega
  exact asc_eq a b ((List.perm_ext_iff_of_nodup nx ny).mpr fun p => ⟨sub a b pa h p, sub b a pb (fun i => (h i).symm) p⟩)
end
end SR
set_option Elab.async false
set_option linter.all false
set_option maxRecDepth 100000
set_option maxHeartbeats 4000000
namespace SR
open PySem PySem.Spec PyProof.Rows L2
/-- valid rows -/
structure Vd (ps ks : List (Int × Int)) : Prop where
  ok : RowOk ps ks
  ap : Asc ps
  ak : Asc ks
theorem Vd.one {ps ks : List (Int × Int)} (v : Vd ps ks) : ∀ p ∈ ps, 1 ≤ p.2 := fun p m => (v.ok.po p m).1
section
variable {ks ps qs rs qs' rs' : List (Int × Int)} {c d : Int}
theorem up_from {P : Int → Prop} (lo : Int) (h0 : P lo) (h : ∀ i, lo ≤ i → P i → P (i + 1)) : ∀ i, lo ≤ i → P i := by
  have key : ∀ n : Nat, P (lo + n) := by
    intro n
    induction n with
    | zero => simpa using h0
    | succ n ih =>
      have := h (lo + n) (by omega) ih
      rw [show lo + ((n + 1 : Nat) : Int) = lo + n + 1 by omega]
      exact this
  intro i hi
  have := key (i - lo).toNat
  rw [show lo + ((i - lo).toNat : Int) = i by omega] at this
  exact this
theorem down_from {P : Int → Prop} (hi : Int) (h0 : P hi) (h : ∀ i, i < hi → P (i + 1) → P i) : ∀ i, i ≤ hi → P i := by
  have key : ∀ n : Nat, P (hi - n) := by
    intro n
    induction n with
    | zero => simpa using h0
    | succ n ih =>
      refine h _ (by omega) ?_
      rw [show hi - ((n + 1 : Nat) : Int) + 1 = hi - n by omega]
      exact ih
  intro i le
  have := key (hi - i).toNat
  rw [show hi - ((hi - i).toNat : Int) = i by omega] at this
  exact this
/-- one sweep only -/
theorem sw_one (v : Vd qs ks) (v' : Vd qs' ks) (h : Sw ks c ps qs) (h' : Sw ks c ps qs') : qs = qs' := by
  obtain ⟨l, ⟨a, ha⟩, _, st⟩ := h
  obtain ⟨l', ⟨a', ha'⟩, _, st'⟩ := h'
  have eq : ∀ i, l i = l' i := by
    intro i
    by_cases z : i ≤ min a a'
    · rw [ha i (by omega), ha' i (by omega)]
    · refine up_from (P := fun i => l i = l' i) (min a a') (by rw [ha _ (by omega), ha' _ (by omega)]) (fun j _ e => ?_) i (by omega)
      rw [(st j).2.2.2, (st' j).2.2.2, e]
  exact cnt_eq v.ap v'.ap v.one v'.one fun i => by rw [(st i).2.2.1, (st' i).2.2.1, eq]
/-- passing back -/
theorem pass_back {u D x : Int} (c1 : 1 ≤ c) (u0 : 0 ≤ u) (u1 : u ≤ c) (x0 : 0 ≤ x) (x1 : x ≤ D) : stL c (stL c u D x) D (stC c u D x) = u ∧ stC c (stL c u D x) D (stC c u D x) = x := by
  unfold stC stL
  omega
/-- a row is a sweep of one row only -/
theorem sw_from (v : Vd ps ks) (v' : Vd qs ks) (c1 : 1 ≤ c) (h : Sw ks c ps rs) (h' : Sw ks c qs rs) : ps = qs := by
  obtain ⟨l, _, ⟨b, hb⟩, st⟩ := h
  obtain ⟨l', _, ⟨b', hb'⟩, st'⟩ := h'
  have back : ∀ i, l (i + 1) = l' (i + 1) → l i = l' i ∧ cnt ps i = cnt qs i := fun i e => by
    obtain ⟨p0, p1, p2, p3⟩ := st i
    obtain ⟨q0, q1, q2, q3⟩ := st' i
    have n := cnt_bd v.ok i
    have m := cnt_bd v'.ok i
    obtain ⟨k1, k2⟩ := pass_back c1 p0 p1 n.1 n.2
    obtain ⟨k3, k4⟩ := pass_back c1 q0 q1 m.1 m.2
    rw [← p3, ← p2] at k1 k2
    rw [← q3, ← q2, ← e] at k3 k4
    exact ⟨k1.symm.trans k3, k2.symm.trans k4⟩
  have eq : ∀ i, l i = l' i := by
    intro i
    by_cases z : max b b' ≤ i
    · rw [hb i (by omega), hb' i (by omega)]
    · exact down_from (P := fun i => l i = l' i) (max b b') (by rw [hb _ (by omega), hb' _ (by omega)]) (fun j _ e => (back j e).1) i (by omega)
  exact cnt_eq v.ap v'.ap v.one v'.one fun i => (back i (eq _)).2
theorem cnt_mirror (v : Vd ps ks) (i : Int) : cnt (mirror ps) (-i) = cnt ps i := by
  unfold cnt
  rw [lookup_perm (mirror_perm ps) (by
    have := asc_nd (mirror_asc v.ap)
    exact this), lookup_neg]
theorem cap_mirror (v : Vd ps ks) (i : Int) : cap (mirror ks) (-i) = cap ks i := by
  unfold cap
  rw [lookup_perm (mirror_perm ks) (by
    have := asc_nd (mirror_asc v.ak)
    exact this), lookup_neg]
theorem Vd.mirror (v : Vd ps ks) : Vd (mirror ps) (mirror ks) := ⟨(neg_ok v.ok).perm (mirror_perm ps) (mirror_perm ks), mirror_asc v.ap, mirror_asc v.ak⟩
/-- a sweep from right to left is an inverse one -/
theorem sw_mirror (v : Vd ps ks) (v' : Vd qs ks) (c1 : 1 ≤ c) (h : Sw (mirror ks) c (mirror ps) (mirror qs)) : Sw ks c qs ps := by
  obtain ⟨l, ⟨a, ha⟩, ⟨b, hb⟩, st⟩ := h
  refine ⟨fun i => l (-i + 1), ⟨-b, fun i hi => hb _ (by omega)⟩, ⟨-a + 1, fun i hi => ha _ (by omega)⟩, fun i => ?_⟩
  obtain ⟨p0, p1, p2, p3⟩ := st (-i)
  obtain ⟨q0, q1, _, _⟩ := st (-i + 1)
  rw [cnt_mirror v', cnt_mirror v, cap_mirror v] at p2
  rw [cnt_mirror v, cap_mirror v] at p3
  have n := cnt_bd v.ok i
  obtain ⟨k1, k2⟩ := pass_back c1 p0 p1 n.1 n.2
  rw [← p3, ← p2] at k1 k2
  refine ⟨q0, q1, k2.symm, ?_⟩
  show l (-(i + 1) + 1) = _
  rw [show -(i + 1) + 1 = -i by omega]
  exact k1.symm
end
/-- valid rows with these wide boxes -/
abbrev Rws (ks : List (Int × Int)) : Type := { ps : List (Int × Int) // Vd ps ks }
section
variable {ks : List (Int × Int)}
def total (ps : List (Int × Int)) : Int := (ps.map Prod.snd).sum
theorem sum_zero (st : List Step) : (st.map fun _ => (0 : Int)).sum = 0 := by
  induction st with
  | nil => rfl
  | cons s st ih => rw [List.map_cons, List.sum_cons, ih]; rfl
theorem sum_cover {st : List Step} (a : AscS st) : ∀ {ps : List (Int × Int)}, (ps.map Prod.fst).Nodup → (∀ p ∈ ps, ∃ s ∈ st, s.1 = p.1) → (st.map fun s => cnt ps s.1).sum = total ps
  | [], _, _ => by
    have : (st.map fun s => cnt [] s.1) = st.map fun _ => (0 : Int) := rfl
    rw [this]
    exact sum_zero st
  | p :: ps, nd, h => by
    obtain ⟨n1, n2⟩ := List.nodup_cons.mp nd
    have ih := sum_cover a n2 fun q m => h q (List.mem_cons_of_mem _ m)
    obtain ⟨s, hs, e⟩ := h p List.mem_cons_self
    have one := sumAt_mem (f := fun _ => p.2) a hs
    have z : cnt ps p.1 = 0 := by
      unfold cnt
      rw [lookup_none.mpr n1]
      rfl
    have split : ∀ xs : List Step, (xs.map fun s => cnt (p :: ps) s.1).sum = sumAt (fun _ => p.2) xs p.1 + (xs.map fun s => cnt ps s.1).sum := by
      intro xs
      induction xs with
      | nil => rfl
      | cons x xs ih2 =>
        rw [List.map_cons, List.sum_cons, ih2, sumAt_cons, List.map_cons, List.sum_cons, cnt_cons]
        by_cases e : x.1 = p.1
        · rw [if_pos e, if_pos e, e, z]
          omega
        · rw [if_neg e, if_neg e]
          omega
    rw [split, ih, ← e, one]
    show p.2 + total ps = total (p :: ps)
    unfold total
    rw [List.map_cons, List.sum_cons]
theorem sum_traces {ps : List (Int × Int)} (v : Vd ps ks) {most : Int} (m1 : 1 ≤ most) {st : List Step} (h : Traces (cnt ps) (cap ks) most ps [] st) : sumIn st = total ps := by
  obtain ⟨a, b, _⟩ := traces_all v.ok m1 h List.Pairwise.nil (fun s m => nomatch m) rfl
  obtain ⟨_, _, _, t4⟩ := traces_more v.ok m1 h v.ap (fun s m => nomatch m) (fun j => rfl) fun z => absurd rfl z
  rw [← sum_cover a v.ok.nd t4]
  unfold sumIn
  rw [List.map_congr_left fun s m => (b s m).1]
theorem total_mirror (ps : List (Int × Int)) : total (mirror ps) = total ps := by
  unfold total
  rw [perm_sum ((mirror_perm ps).map _), List.map_map]
  rfl
theorem fwd_ex {c : Int} (c1 : 1 ≤ c) (p : Rws ks) : ∃ q : Rws ks, Sw ks c p.1 q.1 ∧ total q.1 = total p.1 := by
  obtain ⟨st, h⟩ := traces_ex p.2.ok c1 p.1 [] fun q m => m
  obtain ⟨lo, la, ls⟩ := left_ok p.2.ok c1 h
  refine ⟨⟨left st, lo, la, p.2.ak⟩, sw_traces p.2.ok p.2.ap c1 h, ?_⟩
  exact ls.trans (sum_traces p.2 c1 h)
theorem bwd_ex {c : Int} (c1 : 1 ≤ c) (p : Rws ks) : ∃ q : Rws ks, Sw ks c q.1 p.1 ∧ total q.1 = total p.1 := by
  obtain ⟨q, h, e⟩ := fwd_ex c1 (⟨mirror p.1, p.2.mirror⟩ : Rws (mirror ks))
  have vq : Vd (mirror q.1) ks := by
    have := q.2.mirror
    rw [mirror_mirror] at this
    exact this
  refine ⟨⟨mirror q.1, vq⟩, sw_mirror p.2 vq c1 ?_, ?_⟩
  · rw [mirror_mirror]
    exact h
  · rw [total_mirror, e, total_mirror]
/-- one sweep, or one inverse sweep -/
def Tn (c : Int) (back : Bool) (p q : Rws ks) : Prop := if back = true then Sw ks c q.1 p.1 else Sw ks c p.1 q.1
theorem tn_one {c : Int} (c1 : 1 ≤ c) {b : Bool} {p q q' : Rws ks} (h : Tn c b p q) (h' : Tn c b p q') : q = q' := by
  unfold Tn at h h'
  cases b with
  | true => exact Subtype.ext (sw_from q.2 q'.2 c1 h h')
  | false => exact Subtype.ext (sw_one q.2 q'.2 h h')
open Classical in
/-- the row behind a sweep, or an inverse one -/
noncomputable def Fn (s : Int × Bool) (p : Rws ks) : Rws ks := if h : ∃ q, Tn s.1 s.2 p q then Classical.choose h else p
theorem fn_is {c : Int} (c1 : 1 ≤ c) (b : Bool) (p : Rws ks) : Tn c b p (Fn (c, b) p) ∧ total (Fn (c, b) p).1 = total p.1 := by
  have ex : ∃ q, Tn c b p q ∧ total q.1 = total p.1 := by
    cases b with
    | true => exact bwd_ex c1 p
    | false => exact fwd_ex c1 p
  obtain ⟨q, h1, h2⟩ := ex
  have ex2 : ∃ q, Tn c b p q := ⟨q, h1⟩
  have e : Fn (c, b) p = Classical.choose ex2 := dif_pos ex2
  have t := Classical.choose_spec ex2
  rw [← e] at t
  refine ⟨t, ?_⟩
  rw [tn_one c1 t h1]
  exact h2
theorem fn_of {c : Int} (c1 : 1 ≤ c) {b : Bool} {p q : Rws ks} (h : Tn c b p q) : q = Fn (c, b) p := tn_one c1 h (fn_is c1 b p).1
theorem fn_back {c : Int} (c1 : 1 ≤ c) (b : Bool) (p : Rws ks) : Fn (c, b) (Fn (c, !b) p) = p := by
  have h := (fn_is c1 (!b) p).1
  refine (fn_of c1 ?_).symm
  unfold Tn at h ⊢
  cases b with
  | true => exact h
  | false => exact h
end
end SR
namespace SR
section
variable {ks : List (Int × Int)}
/-- the row behind some sweeps -/
noncomputable def FnL (some : List (Int × Bool)) (p : Rws ks) : Rws ks := some.foldl (fun p s => Fn s p) p
end
end SR
set_option Elab.async false
set_option linter.all false
set_option maxRecDepth 100000
set_option maxHeartbeats 4000000
namespace SR
open PySem PySem.Spec PyProof.Rows L2
structure Good (ps ks : List (Int × Int)) (most : Int) (st : List Step) : Prop where
  asc : AscS st
  is : ∀ s ∈ st, StepIs (cnt ps) (cap ks) most s
  nz : ∀ s ∈ st, 0 < s.2.1 ∨ 0 < cnt ps s.1
  ch : ∀ j, sumAt nlF st j = sumAt ldF st (j + 1)
  cov : ∀ p ∈ ps, ∃ s ∈ st, s.1 = p.1
section
variable {ps ks : List (Int × Int)} {most : Int}
theorem walks_nz (ok : RowOk ps ks) (m1 : 1 ≤ most) {i l : Int} {w : List Step} (h : Walks (cnt ps) (cap ks) most i l w) : 0 ≤ l → l ≤ most → (l = 0 → 0 < cnt ps i) → ∀ s ∈ w, 0 < s.2.1 ∨ 0 < cnt ps s.1 := by
  induction h with
  | @last i l h =>
    intro l0 l1 z s m
    rw [List.mem_singleton.mp m]
    show 0 < l ∨ 0 < cnt ps i
    by_cases e : l = 0
    · exact .inr (z e)
    · exact .inl (by omega)
  | @more i l r h t ih =>
    intro l0 l1 z s m
    obtain ⟨_, b, _⟩ := step_ok (i := i) ok m1 l0 l1
    rcases List.mem_cons.mp m with rfl | m
    · show 0 < l ∨ 0 < cnt ps i
      by_cases e : l = 0
      · exact .inr (z e)
      · exact .inl (by omega)
    · exact ih b.1 b.2 (fun e => absurd e h) s m
theorem traces_nz (ok : RowOk ps ks) (m1 : 1 ≤ most) {qs : List (Int × Int)} {acc st : List Step} (h : Traces (cnt ps) (cap ks) most qs acc st) : (∀ q ∈ qs, q ∈ ps) → (∀ s ∈ acc, 0 < s.2.1 ∨ 0 < cnt ps s.1) → ∀ s ∈ st, 0 < s.2.1 ∨ 0 < cnt ps s.1 := by
  induction h with
  | nil => exact fun _ a => a
  | skip _ _ _ ih => exact fun a b => ih (fun q m => a q (List.mem_cons_of_mem _ m)) b
  | @walk p qs acc w r on hw t ih =>
    intro a b
    have c1 : 0 < cnt ps p.1 := by
      unfold cnt
      rw [(lookup_some (n := p.2) ok.nd).mpr (a p List.mem_cons_self)]
      have := (ok.po p (a p List.mem_cons_self)).1
      show 0 < p.2
      omega
    have wz := walks_nz ok m1 hw (Int.le_refl 0) (by omega) fun _ => c1
    exact ih (fun q m => a q (List.mem_cons_of_mem _ m)) fun s m => (List.mem_append.mp m).elim (b s) (wz s)
theorem good_traces (v : Vd ps ks) (m1 : 1 ≤ most) {st : List Step} (h : Traces (cnt ps) (cap ks) most ps [] st) : Good ps ks most st := by
  obtain ⟨a, _, _⟩ := traces_all v.ok m1 h List.Pairwise.nil (fun s m => nomatch m) rfl
  obtain ⟨t1, t2, _, t4⟩ := traces_more v.ok m1 h v.ap (fun s m => nomatch m) (fun j => rfl) fun z => absurd rfl z
  exact ⟨a, t1, traces_nz v.ok m1 h (fun q m => m) (fun s m => nomatch m), t2, t4⟩
theorem good_next (v : Vd ps ks) (m1 : 1 ≤ most) {st : List Step} (g : Good ps ks most st) (i : Int) : sumAt ldF st (i + 1) = stL most (sumAt ldF st i) (cap ks i) (cnt ps i) ∧ ((∀ s ∈ st, s.1 ≠ i) → sumAt ldF st i = 0 ∧ cnt ps i = 0) := by
  by_cases ex : ∃ s ∈ st, s.1 = i
  · obtain ⟨s, m, rfl⟩ := ex
    have e := (g.is s m).1
    have n1 : s.2.2.2.1 = stL most s.2.1 (cap ks s.1) (cnt ps s.1) := congrArg (fun s : Step => s.2.2.2.1) e
    refine ⟨?_, fun z => absurd rfl (z s m)⟩
    rw [← g.ch, sumAt_mem (f := nlF) g.asc m, sumAt_mem (f := ldF) g.asc m]
    exact n1
  · have no : ∀ s ∈ st, s.1 ≠ i := fun s m e => ex ⟨s, m, e⟩
    have c0 : cnt ps i = 0 := by
      unfold cnt
      rw [lookup_none.mpr]
      · rfl
      · intro z
        obtain ⟨p, hp, e⟩ := List.mem_map.mp z
        obtain ⟨s, hs, e2⟩ := g.cov p hp
        exact no s hs (by omega)
    have cp := cap_ok v.ok.ko i
    refine ⟨?_, fun _ => ⟨sumAt_none no, c0⟩⟩
    rw [← g.ch, sumAt_none no, sumAt_none no, c0]
    unfold stL
    omega
end
end SR
set_option Elab.async false
set_option linter.all false
set_option maxRecDepth 100000
set_option maxHeartbeats 4000000
set_option Elab.async false
set_option linter.all false
set_option maxRecDepth 100000
set_option maxHeartbeats 4000000
set_option Elab.async false
set_option linter.all false
set_option maxRecDepth 100000
set_option maxHeartbeats 4000000
namespace SR
open PySem PySem.Spec PyProof.Rows L2
theorem putI_look (fs : List (Int × Int)) (k n i : Int) : (putI fs k n).lookup i = if i = k then some n else fs.lookup i := by
  unfold putI
  split
  · rename_i h
    induction fs with
    | nil => cases h
    | cons p fs ih =>
      rw [List.map_cons]
      show List.lookup i ((if p.1 = k then (p.1, n) else p) :: _) = if i = k then some n else List.lookup i (p :: fs)
      obtain ⟨a, b⟩ := p
      by_cases e : a = k
      · subst e
        rw [if_pos rfl, List.lookup_cons, List.lookup_cons]
        by_cases z : i = a
        · subst z
          rw [beq_self_eq_true, if_pos rfl]
        · rw [beq_eq_false_iff_ne.mpr z, if_neg z]
          have : fs.map (fun p => if p.1 = a then (p.1, n) else p) = fs.map fun p => if p.1 = a then (p.1, n) else p := rfl
          by_cases m : a ∈ fs.map Prod.fst
          · have := ih m
            rw [if_neg z] at this
            exact this
          · have id_ : fs.map (fun p => if p.1 = a then (p.1, n) else p) = fs := by
              have : ∀ p ∈ fs, (if p.1 = a then (p.1, n) else p) = p := fun p hp => if_neg fun q => m (List.mem_map.mpr ⟨p, hp, q⟩)
              rw [List.map_congr_left this, List.map_id']
            rw [id_]
      · rw [if_neg e, List.lookup_cons, List.lookup_cons]
        have hm : k ∈ fs.map Prod.fst := by
          rcases List.mem_cons.mp h with q | q
          · exact absurd q.symm e
          · exact q
        have := ih hm
        by_cases z : i = a
        · subst z
          rw [beq_self_eq_true, if_neg e]
        · rw [beq_eq_false_iff_ne.mpr z]
          exact this
  · rename_i h
    rw [List.lookup_append]
    by_cases z : i = k
    · subst z
      rw [if_pos rfl, lookup_none.mpr h]
      show List.lookup i [(i, n)] = some n
      rw [List.lookup_cons, beq_self_eq_true]
    · rw [if_neg z]
      have : List.lookup i [(k, n)] = none := by
        rw [List.lookup_cons, beq_eq_false_iff_ne.mpr z]
        rfl
      rw [this, Option.or_none]
end SR
set_option Elab.async false
set_option linter.all false
set_option maxRecDepth 100000
set_option maxHeartbeats 4000000
namespace SR
open PySem PySem.Spec PyProof.Rows L2
/-- a tuple of plain values -/
def Flat (H : Hp) (t : Addr) : Prop := ∃ xs ds, H t = some (.tup xs) ∧ (∀ (K : PySem.W.Frag) (H' : Hp), DpAll K H' xs ds) ∧ PyData.canLayAll0 ds = true ∧ PyData.depthAll ds ≤ 10
theorem Flat.kp {H H' : Hp} {d g c t : Addr} {b : Nat} (f : Flat H t) (S : StB H d g c b) (k : Kp d g H H') : Flat H' t := let ⟨xs, ds, h1, h2⟩ := f; ⟨xs, ds, kp_at S k h1 (fun _ z => nomatch z) (fun _ _ z => nomatch z), h2⟩
theorem Flat.same {H H' : Hp} {t : Addr} (f : Flat H t) (s : Same H H') : Flat H' t := let ⟨xs, ds, h1, h2⟩ := f; ⟨xs, ds, s _ _ h1, h2⟩
end SR
set_option Elab.async false
set_option linter.all false
set_option maxRecDepth 100000
set_option maxHeartbeats 4000000
namespace SR
open PySem PySem.Spec PyProof.Rows L2
def TupB (H : Hp) (t : Addr) (s : Int × Bool) : Prop := H t = some (.tup [.int s.1, .bl s.2])
theorem TupB.flat {H : Hp} {t : Addr} {s : Int × Bool} (h : TupB H t s) : Flat H t := ⟨_, [.int s.1, .bool s.2], h, fun K H' => .cons (.int _) (.cons (.bl _) .nil), rfl, by simp [PyData.depthAll, PyData.depth]⟩
section
variable {K : PySem.W.Frag} {C B : Addr} {ks : List (Int × Int)}
/-- a sweep, or an inverse one, by its promise -/
theorem sweep_fn {H : Hp} {y : Addr} {p : Rws ks} {c : Int} {Q : VK} (row : RowAt K C H y p.1 ks) (c1 : 1 ≤ c) (c2 : c ≤ 99) (q : ∀ z H', Same H H' → RowAt K C H' z (Fn (c, false) p).1 ks → Q (.ref z) H') : spSweep K C B [.ref y, .int c] H Q E0 := by
  have yes : btw 1 99 (.int c) = true := btw_iff.mpr ⟨c, rfl, c1, c2⟩
  refine ⟨y, .int c, _, p.1, ks, rfl, .int c, row, p.2.ok, p.2.ak, (fun z => by rw [yes] at z; cases z), fun m e m1 m2 z H' st hz s tr row' => q z H' s ?_⟩
  cases e
  obtain ⟨lo, la, _⟩ := left_ok p.2.ok c1 tr
  have := fn_of (p := p) (q := ⟨left st, lo, la, p.2.ak⟩) (b := false) c1 (sw_traces p.2.ok p.2.ap c1 tr)
  rw [← this]
  exact row'
theorem unsweep_fn {H : Hp} {y : Addr} {p : Rws ks} {c : Int} {Q : VK} (row : RowAt K C H y p.1 ks) (c1 : 1 ≤ c) (c2 : c ≤ 99) (q : ∀ z H', Same H H' → RowAt K C H' z (Fn (c, true) p).1 ks → Q (.ref z) H') : spUnsweep K C B [.ref y, .int c] H Q E0 := by
  have yes : btw 1 99 (.int c) = true := btw_iff.mpr ⟨c, rfl, c1, c2⟩
  refine ⟨y, .int c, _, p.1, ks, rfl, .int c, row, p.2.ok, p.2.ap, p.2.ak, (fun z => by rw [yes] at z; cases z), fun m e m1 m2 z H' st hz s tr row' ok' ap' => q z H' s ?_⟩
  cases e
  have v' : Vd (mirror (left st)) ks := ⟨ok', ap', p.2.ak⟩
  have vm := p.2.mirror
  have sw := sw_traces vm.ok vm.ap c1 tr
  have := fn_of (p := p) (q := ⟨mirror (left st), v'⟩) (b := true) c1 (by
    show Sw ks c (mirror (left st)) p.1
    refine sw_mirror p.2 v' c1 ?_
    rw [mirror_mirror]
    exact sw)
  rw [← this]
  exact row'
end
end SR
set_option Elab.async false
set_option linter.all false
set_option maxRecDepth 100000
set_option maxHeartbeats 4000000
set_option Elab.async false
set_option linter.all false
set_option maxRecDepth 100000
set_option maxHeartbeats 4000000
set_option Elab.async false
set_option linter.all false
set_option maxRecDepth 100000
set_option maxHeartbeats 4000000
set_option Elab.async false
set_option linter.all false
set_option maxRecDepth 100000
set_option maxHeartbeats 4000000
namespace L2
open PySem PySem.Spec PyProof.Rows
end L2
set_option Elab.async false
set_option linter.all false
set_option maxRecDepth 100000
set_option maxHeartbeats 1000000
set_option Elab.async false
set_option linter.all false
set_option maxRecDepth 100000
set_option maxHeartbeats 4000000
set_option Elab.async false
set_option linter.all false
set_option maxRecDepth 100000
set_option maxHeartbeats 2000000
set_option Elab.async false
set_option linter.all false
set_option maxRecDepth 100000
set_option maxHeartbeats 1000000
set_option Elab.async false
set_option linter.all false
set_option maxRecDepth 100000
set_option maxHeartbeats 1000000
namespace SR
open PySem PySem.Spec PyProof.Rows L2
def dropL (L : List Int) (p : Int) : List Int := L.filter fun y => decide (p ≤ y)
end SR
set_option Elab.async false
set_option linter.all false
set_option maxRecDepth 100000
set_option maxHeartbeats 1000000
set_option Elab.async false
set_option linter.all false
set_option maxRecDepth 100000
set_option maxHeartbeats 1000000
namespace SR
open PySem PySem.Spec PyProof.Rows L2
section
variable {K : PySem.W.Frag} {H0 : Hp} {l F O : Addr} {L : List Int} {first : Int} {n : Nat}
/-- behind at signs of the word -/
structure Wlk (H0 : Hp) (F O : Addr) (L : List Int) (first : Int) (n : Nat) (at_ g : Nat) (f o : List Int) (H : Hp) : Prop where
  le : at_ ≤ n
  b : But2 F O H0 H
  hf : H F = some (.lst (f.map V.int))
  ho : H O = some (.lst (o.map V.int))
  e : (f ++ (cutL (dropL L (first + (at_ : Int))) (g : Int)).1, o ++ (cutL (dropL L (first + (at_ : Int))) (g : Int)).2) = cutL L 0
theorem Wlk.len {H : Hp} {at_ g : Nat} {f o : List Int} (w : Wlk H0 F O L first n at_ g f o H) : f.length + o.length ≤ L.length := by
  have h := cutL_len L 0
  have h1 : (cutL L 0).1 = f ++ (cutL (dropL L (first + (at_ : Int))) (g : Int)).1 := by rw [← w.e]
  have h2 : (cutL L 0).2 = o ++ (cutL (dropL L (first + (at_ : Int))) (g : Int)).2 := by rw [← w.e]
  rw [h1, h2, List.length_append, List.length_append] at h
  omega
end
end SR
set_option Elab.async false
set_option linter.all false
set_option maxRecDepth 100000
set_option maxHeartbeats 1000000
namespace SR
open PySem PySem.Spec PyProof.Rows L2
theorem cutL_cons (x : Int) (xs : List Int) (g : Int) : cutL (x :: xs) g = if xs.head? = some (x + 1) then ((x - 2 * g) :: (cutL xs g).1, (cutL xs g).2) else ((cutL xs (g + 1)).1, (x - 2 * g) :: (cutL xs (g + 1)).2) := rfl
theorem cutL_shift (far : Int) : ∀ (L : List Int) (g : Int), cutL (L.map (· + far)) g = ((cutL L g).1.map (· + far), (cutL L g).2.map (· + far))
  | [], _ => rfl
  | x :: xs, g => by
    have h1 := cutL_shift far xs g
    have h2 := cutL_shift far xs (g + 1)
    have c : ((xs.map (· + far)).head? = some (x + far + 1)) ↔ (xs.head? = some (x + 1)) := by
      rw [List.head?_map]
      cases xs.head? with
      | none => exact ⟨(fun z => nomatch z), fun z => nomatch z⟩
      | some y =>
        show some (y + far) = some (x + far + 1) ↔ _
        constructor
        · intro z
          have := Option.some.inj z
          congr 1
          omega
        · intro z
          have := Option.some.inj z
          congr 1
          omega
    have e : x + far - 2 * g = x - 2 * g + far := by omega
    rw [List.map_cons, cutL_cons, cutL_cons, h1, h2, e]
    by_cases h : xs.head? = some (x + 1)
    · rw [if_pos h, if_pos (c.mpr h)]
      rfl
    · rw [if_neg h, if_neg fun z => h (c.mp z)]
      rfl
end SR
set_option Elab.async false
set_option linter.all false
set_option maxRecDepth 100000
set_option maxHeartbeats 1000000
namespace SR
def pos : List Bool → Int → List Int
  | [], _ => []
  | true :: bs, p => p :: pos bs (p + 1)
  | false :: bs, p => pos bs (p + 1)
theorem pos_ge : ∀ (bs : List Bool) (p : Int), ∀ y ∈ pos bs p, p ≤ y
  | [], _ => fun _ m => nomatch m
  | true :: bs, p => fun y m => by
    rcases List.mem_cons.mp m with rfl | m
    · exact Int.le_refl _
    · have := pos_ge bs (p + 1) y m
      omega
  | false :: bs, p => fun y m => by
    have := pos_ge bs (p + 1) y m
    omega
theorem pos_asc : ∀ (bs : List Bool) (p : Int), (pos bs p).Pairwise (· < ·)
  | [], _ => .nil
  | true :: bs, p => .cons (fun y m => by have := pos_ge bs (p + 1) y m; omega) (pos_asc bs (p + 1))
  | false :: bs, p => pos_asc bs (p + 1)
theorem pos_false (k : Nat) : ∀ p : Int, pos (List.replicate k false) p = [] := by
  induction k with
  | zero => exact fun _ => rfl
  | succ k ih => exact fun p => ih (p + 1)
theorem pos_app (k : Nat) : ∀ (bs : List Bool) (p : Int), pos (bs ++ List.replicate k false) p = pos bs p
  | [], p => pos_false k p
  | true :: bs, p => congrArg (p :: ·) (pos_app k bs (p + 1))
  | false :: bs, p => pos_app k bs (p + 1)
theorem pos_pre (bs : List Bool) (k : Nat) : ∀ p : Int, pos (List.replicate k false ++ bs) p = pos bs (p + k) := by
  induction k with
  | zero => exact fun p => by simp
  | succ k ih =>
    intro p
    show pos (List.replicate k false ++ bs) (p + 1) = _
    rw [ih, show p + 1 + (k : Int) = p + ((k + 1 : Nat) : Int) by omega]
theorem pos_shift (a : Int) : ∀ (bs : List Bool) (p : Int), pos bs (p + a) = (pos bs p).map (· + a)
  | [], _ => rfl
  | true :: bs, p => by
    show (p + a) :: pos bs (p + a + 1) = (p + a) :: (pos bs (p + 1)).map (· + a)
    rw [← pos_shift a bs (p + 1), show p + a + 1 = p + 1 + a by omega]
  | false :: bs, p => by
    show pos bs (p + a + 1) = (pos bs (p + 1)).map (· + a)
    rw [← pos_shift a bs (p + 1), show p + a + 1 = p + 1 + a by omega]
theorem bw_app : ∀ (a b : List Lx), bw (a ++ b) = bw a ++ bw b
  | [], _ => rfl
  | .z :: a, b => congrArg (false :: ·) (bw_app a b)
  | .o :: a, b => congrArg (true :: ·) (bw_app a b)
  | .m :: a, b => congrArg (true :: false :: ·) (bw_app a b)
theorem bk_app : ∀ (a b : List Lx), bk (a ++ b) = bk a ++ bk b
  | [], _ => rfl
  | .z :: a, b => congrArg (false :: ·) (bk_app a b)
  | .o :: a, b => congrArg (true :: ·) (bk_app a b)
  | .m :: a, b => bk_app a b
theorem bw_zs (k : Nat) : bw (zs k) = List.replicate k false := by
  induction k with
  | zero => rfl
  | succ k ih => rw [zs_succ, List.replicate_succ, ← ih]; rfl
theorem hd_pos : ∀ (w : List Lx) (p : Int), hdB w = true → (pos (bw w) p).head? = some p
  | .o :: _, _, _ => rfl
  | .m :: _, _, _ => rfl
theorem hdB_app {w : List Lx} (v : List Lx) (h : hdB w = true) : hdB (w ++ v) = true := by
  cases w with
  | nil => cases h
  | cons l w => cases l <;> first | exact h | rfl
theorem gd_zs (k : Nat) : gdB (zs k) = true := by
  induction k with
  | zero => rfl
  | succ k ih => exact ih
theorem gd_app (k : Nat) : ∀ {w : List Lx}, gdB w = true → gdB (w ++ zs k) = true
  | [], _ => gd_zs k
  | .z :: w, h => gd_app k (w := w) h
  | .m :: w, h => gd_app k (w := w) h
  | .o :: w, h => by
    have h : (hdB w && gdB w) = true := h
    rw [Bool.and_eq_true] at h
    show (hdB (w ++ zs k) && gdB (w ++ zs k)) = true
    rw [hdB_app _ h.1, gd_app k h.2]
    rfl
theorem gd_pre (k : Nat) (w : List Lx) : gdB (zs k ++ w) = gdB w := by
  induction k with
  | zero => rfl
  | succ k ih => exact ih
/-- a cut of a word's places -/
theorem cut_word : ∀ (w : List Lx) (p g : Int), gdB w = true → cutL (pos (bw w) p) g = (pos (bk w) (p - 2 * g), marks w (p - 2 * g))
  | [], _, _, _ => rfl
  | .z :: w, p, g, h => by
    show cutL (pos (bw w) (p + 1)) g = (pos (bk w) (p - 2 * g + 1), marks w (p - 2 * g + 1))
    rw [cut_word w (p + 1) g h, show p + 1 - 2 * g = p - 2 * g + 1 by omega]
  | .o :: w, p, g, h => by
    have h : (hdB w && gdB w) = true := h
    rw [Bool.and_eq_true] at h
    show cutL (p :: pos (bw w) (p + 1)) g = ((p - 2 * g) :: pos (bk w) (p - 2 * g + 1), marks w (p - 2 * g + 1))
    rw [cutL_cons, if_pos (hd_pos w (p + 1) h.1), cut_word w (p + 1) g h.2, show p + 1 - 2 * g = p - 2 * g + 1 by omega]
  | .m :: w, p, g, h => by
    show cutL (p :: pos (bw w) (p + 1 + 1)) g = (pos (bk w) (p - 2 * g), (p - 2 * g) :: marks w (p - 2 * g))
    rw [cutL_cons, if_neg (fun z => ?_), cut_word w (p + 1 + 1) (g + 1) h, show p + 1 + 1 - 2 * (g + 1) = p - 2 * g by omega]
    have m := List.mem_of_mem_head? (Option.mem_def.mpr z)
    have := pos_ge _ _ _ m
    omega
/-- every row has a word -/
theorem word_ex : ∀ (L : List Int) (p : Int), L.Pairwise (· < ·) → (∀ y ∈ L, p ≤ y) → ∃ w, gdB w = true ∧ pos (bw w) p = L ∧ (L.head? = some p → hdB w = true)
  | [], p, _, _ => ⟨[], rfl, rfl, fun z => nomatch z⟩
  | x :: xs, p, a, h => by
    have px := h x List.mem_cons_self
    obtain ⟨a1, a2⟩ := List.pairwise_cons.mp a
    by_cases c : xs.head? = some (x + 1)
    · obtain ⟨w, g, e, hd⟩ := word_ex xs (x + 1) a2 fun y m => by have := a1 y m; omega
      refine ⟨zs (x - p).toNat ++ .o :: w, ?_, ?_, fun z => ?_⟩
      · rw [gd_pre]
        show (hdB w && gdB w) = true
        rw [hd c, g]
        rfl
      · rw [bw_app, bw_zs, pos_pre]
        show (p + ((x - p).toNat : Int)) :: pos (bw w) (p + ((x - p).toNat : Int) + 1) = _
        rw [show p + ((x - p).toNat : Int) = x by omega, e]
      · have : x = p := Option.some.inj z
        rw [show (x - p).toNat = 0 by omega]
        rfl
    · obtain ⟨w, g, e, hd⟩ := word_ex xs (x + 1 + 1) a2 fun y m => by
        have := a1 y m
        by_cases q : y = x + 1
        · subst q
          cases xs with
          | nil => cases m
          | cons z zs =>
            rcases List.mem_cons.mp m with q | q
            · exact absurd (by rw [q]; rfl) c
            · have h1 := (List.pairwise_cons.mp a2).1 _ q
              have h2 := a1 z List.mem_cons_self
              omega
        · omega
      refine ⟨zs (x - p).toNat ++ .m :: w, ?_, ?_, fun z => ?_⟩
      · rw [gd_pre]
        exact g
      · rw [bw_app, bw_zs, pos_pre]
        show (p + ((x - p).toNat : Int)) :: pos (bw w) (p + ((x - p).toNat : Int) + 1 + 1) = _
        rw [show p + ((x - p).toNat : Int) = x by omega, e]
      · have : x = p := Option.some.inj z
        rw [show (x - p).toNat = 0 by omega]
        rfl
/-- the places behind the runs -/
def rends : List Int → List Int
  | [] => []
  | x :: xs => if xs.head? = some (x + 1) then rends xs else (x + 1) :: rends xs
theorem rends_cons (x : Int) (xs : List Int) : rends (x :: xs) = if xs.head? = some (x + 1) then rends xs else (x + 1) :: rends xs := rfl
theorem ends_pos : ∀ (bs : List Bool) (n : Int), ends false bs n = rends (pos bs n) ∧ ends true bs n = rends ((n - 1) :: pos bs n)
  | [], n => ⟨rfl, by
    rw [rends_cons, if_neg (fun z => nomatch z), show n - 1 + 1 = n by omega]
    rfl⟩
  | true :: bs, n => by
    have h := (ends_pos bs (n + 1)).2
    rw [show n + 1 - 1 = n by omega] at h
    refine ⟨h, ?_⟩
    rw [rends_cons, if_pos (show (pos (true :: bs) n).head? = some (n - 1 + 1) by rw [show n - 1 + 1 = n by omega]; rfl)]
    exact h
  | false :: bs, n => by
    have h := (ends_pos bs (n + 1)).1
    refine ⟨h, ?_⟩
    rw [rends_cons, if_neg (fun z => ?_)]
    · rw [show n - 1 + 1 = n by omega]
      show n :: ends false bs (n + 1) = _
      rw [h]
      rfl
    · have m := List.mem_of_mem_head? (Option.mem_def.mpr z)
      have := pos_ge bs (n + 1) _ m
      omega
theorem marks_ge : ∀ (w : List Lx) (n : Int), ∀ y ∈ marks w n, n ≤ y
  | [], _ => fun _ m => nomatch m
  | .z :: w, n => fun y m => by have := marks_ge w (n + 1) y m; omega
  | .o :: w, n => fun y m => by have := marks_ge w (n + 1) y m; omega
  | .m :: w, n => fun y m => by
    rcases List.mem_cons.mp m with rfl | m
    · exact Int.le_refl _
    · exact marks_ge w n y m
theorem marks_up : ∀ (w : List Lx) (n : Int), (marks w n).Pairwise (· ≤ ·)
  | [], _ => .nil
  | .z :: w, n => marks_up w (n + 1)
  | .o :: w, n => marks_up w (n + 1)
  | .m :: w, n => .cons (marks_ge w n) (marks_up w n)
theorem marks_shift (a : Int) : ∀ (w : List Lx) (n : Int), marks w (n + a) = (marks w n).map (· + a)
  | [], _ => rfl
  | .z :: w, n => by
    show marks w (n + a + 1) = (marks w (n + 1)).map (· + a)
    rw [← marks_shift a w (n + 1), show n + a + 1 = n + 1 + a by omega]
  | .o :: w, n => by
    show marks w (n + a + 1) = (marks w (n + 1)).map (· + a)
    rw [← marks_shift a w (n + 1), show n + a + 1 = n + 1 + a by omega]
  | .m :: w, n => by
    show (n + a) :: marks w (n + a) = (n + a) :: (marks w n).map (· + a)
    rw [← marks_shift a w n]
theorem ends_tf (bs : List Bool) (N x : Int) : (ends true bs N).count x ≤ (if N == x then 1 else 0) + (ends false bs N).count x := by
  cases bs with
  | nil =>
    show ([N] : List Int).count x ≤ _ + ([] : List Int).count x
    rw [List.count_cons]
    omega
  | cons b bs =>
    cases b with
    | true =>
      show (ends true bs (N + 1)).count x ≤ _ + (ends true bs (N + 1)).count x
      omega
    | false =>
      show (N :: ends false bs (N + 1)).count x ≤ _ + (ends false bs (N + 1)).count x
      rw [List.count_cons]
      omega
/-- behind each run of the cut row a pair was removed -/
theorem ends_le : ∀ (w : List Lx), gdB w = true → ∀ N x : Int, (ends false (bk w) N).count x ≤ (marks w N).count x ∧ (hdB w = true → (ends true (bk w) N).count x ≤ (marks w N).count x)
  | [], _, N, x => ⟨Nat.le_refl _, fun z => nomatch z⟩
  | .z :: w, h, N, x => ⟨(ends_le w h (N + 1) x).1, fun z => nomatch z⟩
  | .o :: w, h, N, x => by
    have h : (hdB w && gdB w) = true := h
    rw [Bool.and_eq_true] at h
    have := (ends_le w h.2 (N + 1) x).2 h.1
    exact ⟨this, fun _ => this⟩
  | .m :: w, h, N, x => by
    have h1 := (ends_le w h N x).1
    have h2 := ends_tf (bk w) N x
    refine ⟨?_, fun _ => ?_⟩
    · show (ends false (bk w) N).count x ≤ (N :: marks w N).count x
      rw [List.count_cons]
      omega
    · show (ends true (bk w) N).count x ≤ (N :: marks w N).count x
      rw [List.count_cons]
      omega
/-- the list without the items of another one -/
def less (B E : List Int) : List Int := E.foldl List.erase B
theorem less_count (x : Int) : ∀ (E B : List Int), (less B E).count x = B.count x - E.count x
  | [], B => rfl
  | e :: E, B => by
    show (less (B.erase e) E).count x = _
    rw [less_count x E, List.count_erase, List.count_cons]
    omega
theorem less_sub : ∀ (E B : List Int), (less B E).Sublist B
  | [], B => List.Sublist.refl B
  | e :: E, B => (less_sub E (B.erase e)).trans List.erase_sublist
/-- the offsets of the trains of length 1 -/
def ofs (L : List Int) : List Int := less (cutL L 0).2 (rends (cutL L 0).1)
theorem up_eq : ∀ {a b : List Int}, a.Pairwise (· ≤ ·) → b.Pairwise (· ≤ ·) → (∀ x, a.count x = b.count x) → a = b
  | [], [], _, _, _ => rfl
  | [], y :: b, _, _, h => by
    have := h y
    rw [List.count_cons_self] at this
    cases this
  | x :: a, [], _, _, h => by
    have := h x
    rw [List.count_cons_self] at this
    cases this
  | x :: a, y :: b, ha, hb, h => by
    obtain ⟨a1, a2⟩ := List.pairwise_cons.mp ha
    obtain ⟨b1, b2⟩ := List.pairwise_cons.mp hb
    have mx : x ∈ y :: b := List.count_pos_iff.mp (by rw [← h x, List.count_cons_self]; exact Nat.succ_pos _)
    have my : y ∈ x :: a := List.count_pos_iff.mp (by rw [h y, List.count_cons_self]; exact Nat.succ_pos _)
    have e : x = y := by
      rcases List.mem_cons.mp mx with q | q
      · exact q
      · rcases List.mem_cons.mp my with r | r
        · exact r.symm
        · have h1 := b1 x q
          have h2 := a1 y r
          omega
    subst e
    rw [up_eq a2 b2 fun z => by
      have := h z
      rw [List.count_cons, List.count_cons] at this
      omega]
end SR
set_option Elab.async false
set_option linter.all false
set_option maxRecDepth 100000
set_option maxHeartbeats 1000000
namespace SR
open PySem PySem.Spec PyProof.Rows L2
def cB (L : List Int) (i : Int) : Int := if i ∈ L then 1 else 0
theorem cnt_ones (i : Int) : ∀ L : List Int, cnt (ones L) i = cB L i
  | [] => rfl
  | x :: L => by
    have ih := cnt_ones i L
    unfold cnt cB at ih ⊢
    show (List.lookup i ((x, 1) :: ones L)).getD 0 = _
    by_cases h : i = x
    · subst h
      rw [List.lookup_cons_self, if_pos List.mem_cons_self]
      rfl
    · have : (i == x) = false := by simpa using h
      rw [List.lookup_cons, this]
      show ((ones L).lookup i).getD 0 = _
      rw [ih]
      by_cases m : i ∈ L
      · rw [if_pos m, if_pos (List.mem_cons_of_mem _ m)]
      · rw [if_neg m, if_neg fun z => (List.mem_cons.mp z).elim h m]
/-- the load at the end -/
def fin (c : Nat) : Nat → List Bool → Nat
  | u, [] => u
  | u, true :: bs => if u < c then fin c (u + 1) bs else fin c u bs
  | u, false :: bs => fin c (u - 1) bs
theorem fin_falses {c : Nat} : ∀ (k u : Nat), u ≤ k → fin c u (List.replicate k false) = 0
  | 0, u, h => by
    show u = 0
    omega
  | k + 1, u, h => fin_falses k (u - 1) (by omega)
theorem fin_zero {c k : Nat} : ∀ (bs : List Bool) (u : Nat), u + bs.length ≤ k → fin c u (bs ++ List.replicate k false) = 0
  | [], u, h => fin_falses k u (by simpa using h)
  | true :: bs, u, h => by
    rw [List.length_cons] at h
    show (if u < c then fin c (u + 1) (bs ++ _) else fin c u (bs ++ _)) = 0
    split
    · exact fin_zero bs (u + 1) (by omega)
    · exact fin_zero bs u (by omega)
  | false :: bs, u, h => by
    rw [List.length_cons] at h
    exact fin_zero bs (u - 1) (by omega)
theorem len_sw {c : Nat} : ∀ (bs : List Bool) (u : Nat) (p : Int), (pos (swB c u bs) p).length + fin c u bs = (pos bs p).length + u
  | [], u, p => rfl
  | true :: bs, u, p => by
    by_cases h : u < c
    · rw [swB_t h]
      show (pos (swB c (u + 1) bs) (p + 1)).length + (if u < c then fin c (u + 1) bs else fin c u bs) = (pos bs (p + 1)).length + 1 + u
      rw [if_pos h]
      have := len_sw (c := c) bs (u + 1) (p + 1)
      omega
    · rw [swB_tf h]
      show (pos (swB c u bs) (p + 1)).length + 1 + (if u < c then fin c (u + 1) bs else fin c u bs) = (pos bs (p + 1)).length + 1 + u
      rw [if_neg h]
      have := len_sw (c := c) bs u (p + 1)
      omega
  | false :: bs, u, p => by
    by_cases h : 0 < u
    · rw [swB_f h]
      show (pos (swB c (u - 1) bs) (p + 1)).length + 1 + fin c (u - 1) bs = (pos bs (p + 1)).length + u
      have := len_sw (c := c) bs (u - 1) (p + 1)
      omega
    · obtain rfl : u = 0 := by omega
      rw [swB_z]
      exact len_sw bs 0 (p + 1)
def ldB (c : Nat) : Nat → List Bool → Int → Int → Int
  | u, [], _, _ => u
  | u, true :: bs, p, i => if i ≤ p then u else ldB c (if u < c then u + 1 else u) bs (p + 1) i
  | u, false :: bs, p, i => if i ≤ p then u else ldB c (u - 1) bs (p + 1) i
theorem ldB_le {c u : Nat} {bs : List Bool} {p i : Int} (h : i ≤ p) : ldB c u bs p i = u := by
  cases bs with
  | nil => rfl
  | cons b bs => cases b <;> exact if_pos h
theorem ldB_hi {c : Nat} : ∀ (bs : List Bool) (u : Nat) (p i : Int), fin c u bs = 0 → p + bs.length ≤ i → ldB c u bs p i = 0
  | [], u, p, i, h, _ => by
    have h : u = 0 := h
    subst h
    rfl
  | true :: bs, u, p, i, h, l => by
    rw [List.length_cons] at l
    show (if i ≤ p then (u : Int) else ldB c (if u < c then u + 1 else u) bs (p + 1) i) = 0
    rw [if_neg (by omega)]
    have h : (if u < c then fin c (u + 1) bs else fin c u bs) = 0 := h
    refine ldB_hi bs _ (p + 1) i ?_ (by omega)
    split
    · rename_i z
      rw [if_pos z] at h
      exact h
    · rename_i z
      rw [if_neg z] at h
      exact h
  | false :: bs, u, p, i, h, l => by
    rw [List.length_cons] at l
    show (if i ≤ p then (u : Int) else ldB c (u - 1) bs (p + 1) i) = 0
    rw [if_neg (by omega)]
    exact ldB_hi bs (u - 1) (p + 1) i h (by omega)
theorem cB_t (bs : List Bool) (p : Int) : cB (pos (true :: bs) p) p = 1 := if_pos List.mem_cons_self
theorem cB_f (bs : List Bool) (p : Int) : cB (pos (false :: bs) p) p = 0 := if_neg fun m => by
  have := pos_ge bs (p + 1) p m
  omega
theorem cB_n (b : Bool) (bs : List Bool) {p i : Int} (h : p < i) : cB (pos (b :: bs) p) i = cB (pos bs (p + 1)) i := by
  cases b with
  | false => rfl
  | true =>
    show cB (p :: pos bs (p + 1)) i = _
    unfold cB
    by_cases m : i ∈ pos bs (p + 1)
    · rw [if_pos m, if_pos (List.mem_cons_of_mem _ m)]
    · rw [if_neg m, if_neg fun z => (List.mem_cons.mp z).elim (fun e => by omega) m]
theorem sw_at {c : Nat} (c1 : 1 ≤ c) : ∀ (bs : List Bool) (u : Nat) (p : Int), u ≤ c → fin c u bs = 0 → ∀ i, p ≤ i →
    0 ≤ ldB c u bs p i ∧ ldB c u bs p i ≤ c ∧ cB (pos (swB c u bs) p) i = stC c (ldB c u bs p i) 1 (cB (pos bs p) i) ∧ ldB c u bs p (i + 1) = stL c (ldB c u bs p i) 1 (cB (pos bs p) i)
  | [], u, p, hu, h, i, hi => by
    have h : u = 0 := h
    subst h
    refine ⟨Int.le_refl _, ?_, ?_, ?_⟩
    · show (0 : Int) ≤ c
      omega
    · show (0 : Int) = 0 - min ((c : Int) - 0) 0 + min 0 (1 - 0)
      omega
    · show (0 : Int) = 0 + min ((c : Int) - 0) 0 - min 0 (1 - 0)
      omega
  | b :: bs, u, p, hu, h, i, hi => by
    obtain ⟨u', e1, e2, e3, e4, e5⟩ : ∃ u' : Nat, u' ≤ c ∧ fin c u' bs = 0 ∧ (∀ i, p < i → ldB c u (b :: bs) p i = ldB c u' bs (p + 1) i) ∧ (∃ b', swB c u (b :: bs) = b' :: swB c u' bs ∧ cB (pos (b' :: swB c u' bs) p) p = stC c u 1 (cB (pos (b :: bs) p) p)) ∧ (u' : Int) = stL c u 1 (cB (pos (b :: bs) p) p) := by
      cases b with
      | true =>
        have h : (if u < c then fin c (u + 1) bs else fin c u bs) = 0 := h
        rw [cB_t]
        by_cases z : u < c
        · rw [if_pos z] at h
          refine ⟨u + 1, by omega, h, fun i hi => ?_, ⟨false, swB_t z, ?_⟩, ?_⟩
          · show (if i ≤ p then (u : Int) else ldB c (if u < c then u + 1 else u) bs (p + 1) i) = _
            rw [if_neg (by omega), if_pos z]
          · rw [cB_f]
            unfold stC
            omega
          · unfold stL
            omega
        · rw [if_neg z] at h
          refine ⟨u, hu, h, fun i hi => ?_, ⟨true, swB_tf z, ?_⟩, ?_⟩
          · show (if i ≤ p then (u : Int) else ldB c (if u < c then u + 1 else u) bs (p + 1) i) = _
            rw [if_neg (by omega), if_neg z]
          · rw [cB_t]
            unfold stC
            omega
          · unfold stL
            omega
      | false =>
        have h : fin c (u - 1) bs = 0 := h
        rw [cB_f]
        refine ⟨u - 1, by omega, h, fun i hi => ?_, ?_, ?_⟩
        · show (if i ≤ p then (u : Int) else ldB c (u - 1) bs (p + 1) i) = _
          rw [if_neg (by omega)]
        · by_cases z : 0 < u
          · refine ⟨true, swB_f z, ?_⟩
            rw [cB_t]
            unfold stC
            omega
          · obtain rfl : u = 0 := by omega
            refine ⟨false, swB_z, ?_⟩
            rw [cB_f]
            unfold stC
            omega
        · unfold stL
          omega
    obtain ⟨b', e4, e6⟩ := e4
    rw [e4]
    by_cases z : i = p
    · subst z
      rw [ldB_le (Int.le_refl i), e3 (i + 1) (by omega), ldB_le (Int.le_refl _), e6, ← e5]
      exact ⟨by omega, by omega, rfl, rfl⟩
    · have lt : p < i := by omega
      rw [e3 i lt, e3 (i + 1) (by omega), cB_n b' _ lt, cB_n b _ lt]
      exact sw_at c1 bs u' (p + 1) e1 e2 i (by omega)
theorem sw_bits {c : Nat} (c1 : 1 ≤ c) {bs : List Bool} {p : Int} (h : fin c 0 bs = 0) : Sw [] c (ones (pos bs p)) (ones (pos (swB c 0 bs) p)) := by
  refine ⟨ldB c 0 bs p, ⟨p, fun i hi => ldB_le hi⟩, ⟨p + bs.length, fun i hi => ldB_hi bs 0 p i h hi⟩, fun i => ?_⟩
  rw [cnt_ones, cnt_ones]
  show 0 ≤ _ ∧ _ ∧ _ = stC c _ 1 _ ∧ _ = stL c _ 1 _
  by_cases z : p ≤ i
  · exact sw_at c1 bs 0 p (Nat.zero_le c) h i z
  · have n : ∀ bs : List Bool, cB (pos bs p) i = 0 := fun bs => if_neg fun m => z (pos_ge bs p i m)
    rw [ldB_le (by omega), ldB_le (by omega), n, n]
    refine ⟨by omega, by omega, ?_, ?_⟩
    · unfold stC
      omega
    · unfold stL
      omega
theorem swB_0 : ∀ bs : List Bool, swB 0 0 bs = bs
  | [] => rfl
  | true :: bs => by rw [swB_tf (Nat.lt_irrefl 0), swB_0 bs]
  | false :: bs => by rw [swB_z, swB_0 bs]
/-- L' is L after a sweep of a carrier of the capacity c, or L if there is none -/
structure TL (c : Nat) (L L' : List Int) : Prop where
  a : L.Pairwise (· < ·)
  b : L'.Pairwise (· < ·)
  none : c = 0 → L' = L
  sw : 1 ≤ c → Sw [] c (ones L) (ones L')
theorem sw_uni {c : Int} {ks ps qs qs' : List (Int × Int)} (a : Asc qs) (b : Asc qs') (o : ∀ p ∈ qs, 1 ≤ p.2) (o' : ∀ p ∈ qs', 1 ≤ p.2) (h : Sw ks c ps qs) (h' : Sw ks c ps qs') : qs = qs' := by
  obtain ⟨l, ⟨a0, ha⟩, _, st⟩ := h
  obtain ⟨l', ⟨a', ha'⟩, _, st'⟩ := h'
  have eq : ∀ i, l i = l' i := by
    intro i
    by_cases z : i ≤ min a0 a'
    · rw [ha i (by omega), ha' i (by omega)]
    · refine up_from (P := fun i => l i = l' i) (min a0 a') (by rw [ha _ (by omega), ha' _ (by omega)]) (fun j _ e => ?_) i (by omega)
      rw [(st j).2.2.2, (st' j).2.2.2, e]
  exact cnt_eq a b o o' fun i => by rw [(st i).2.2.1, (st' i).2.2.1, eq]
theorem ones_one (L : List Int) : ∀ p ∈ ones L, 1 ≤ p.2 := fun p m => by
  obtain ⟨y, _, rfl⟩ := List.mem_map.mp m
  exact Int.le_refl 1
theorem swL_one {c : Int} {L L' L'' : List Int} (a : L'.Pairwise (· < ·)) (b : L''.Pairwise (· < ·)) (h : Sw [] c (ones L) (ones L')) (h' : Sw [] c (ones L) (ones L'')) : L' = L'' := by
  have := sw_uni (ones_asc a) (ones_asc b) (ones_one _) (ones_one _) h h'
  rw [← ones_fst L', this, ones_fst]
theorem low_ex {L : List Int} (a : L.Pairwise (· < ·)) : ∃ p, ∀ y ∈ L, p ≤ y := by
  cases L with
  | nil => exact ⟨0, fun _ m => nomatch m⟩
  | cons x xs => exact ⟨x, fun y m => by
      rcases List.mem_cons.mp m with rfl | m
      · exact Int.le_refl _
      · exact Int.le_of_lt ((List.pairwise_cons.mp a).1 y m)⟩
theorem bk_len : ∀ w : List Lx, (bk w).length ≤ w.length
  | [] => Nat.le_refl _
  | .z :: w => Nat.succ_le_succ (bk_len w)
  | .o :: w => Nat.succ_le_succ (bk_len w)
  | .m :: w => Nat.le_succ_of_le (bk_len w)
theorem bw_len : ∀ w : List Lx, (bw w).length ≤ 2 * w.length
  | [] => Nat.le_refl _
  | .z :: w => by
    have := bw_len w
    show (bw w).length + 1 ≤ 2 * (w.length + 1)
    omega
  | .o :: w => by
    have := bw_len w
    show (bw w).length + 1 ≤ 2 * (w.length + 1)
    omega
  | .m :: w => by
    have := bw_len w
    show (bw w).length + 1 + 1 ≤ 2 * (w.length + 1)
    omega
theorem ofs_word {w : List Lx} {p : Int} (g : gdB w = true) : ofs (pos (bw w) p) = less (marks w p) (ends false (bk w) p) := by
  unfold ofs
  rw [cut_word w p 0 g, show p - 2 * 0 = p by omega, (ends_pos (bk w) p).1]
theorem up_map {l : List Int} (h : l.Pairwise (· ≤ ·)) (a : Int) : (l.map (· + a)).Pairwise (· ≤ ·) := List.pairwise_map.mpr (h.imp fun {x y} z => by omega)
theorem count_add (a x : Int) : ∀ l : List Int, (l.map (· + a)).count x = l.count (x - a)
  | [] => rfl
  | y :: l => by
    rw [List.map_cons, List.count_cons, List.count_cons, count_add a x l]
    by_cases h : y = x - a
    · subst h
      rw [show x - a + a = x by omega]
      simp
    · have h1 : ((y + a) == x) = false := by
        rw [beq_eq_false_iff_ne]
        omega
      have h2 : (y == x - a) = false := by simpa using h
      rw [h1, h2]
theorem rends_shift (a : Int) : ∀ M : List Int, rends (M.map (· + a)) = (rends M).map (· + a)
  | [] => rfl
  | y :: M => by
    rw [List.map_cons, rends_cons, rends_cons, rends_shift a M]
    have hh : ((M.map (· + a)).head? = some (y + a + 1)) ↔ (M.head? = some (y + 1)) := by
      rw [List.head?_map]
      cases M.head? with
      | none => exact ⟨(fun z => nomatch z), fun z => nomatch z⟩
      | some q =>
        show some (q + a) = some (y + a + 1) ↔ _
        constructor
        · intro z
          have := Option.some.inj z
          congr 1
          omega
        · intro z
          have := Option.some.inj z
          congr 1
          omega
    by_cases z : M.head? = some (y + 1)
    · rw [if_pos z, if_pos (hh.mpr z)]
    · rw [if_neg z, if_neg fun q => z (hh.mp q), List.map_cons, show y + a + 1 = y + 1 + a by omega]
theorem cut_TL {c : Nat} (c1 : 1 ≤ c) {L L' : List Int} (h : TL c L L') : ∃ K, TL (c - 1) (cutL L 0).1 K ∧ (cutL L' 0).1 = K.map (· + 1) ∧ ofs L' = (ofs L).map (· + 1) ∧ L'.length = L.length := by
  obtain ⟨p, hp⟩ := low_ex h.a
  obtain ⟨w, g, e, _⟩ := word_ex L p h.a hp
  have k1 : 0 + w.length + 1 ≤ 2 * w.length + 1 := by omega
  obtain ⟨out, r, mk⟩ := (sim c1 (2 * w.length + 1) w g).1 0 (Nat.zero_le c) (fun z => absurd z (Nat.lt_irrefl 0)) k1
  have d0 := dec0 c1
  rw [min0, d0] at r mk
  generalize hW : w ++ zs (2 * w.length + 1) = W at r mk
  have gW : gdB W = true := by rw [← hW]; exact gd_app _ g
  have eW : pos (bw W) p = L := by
    rw [← hW, bw_app, bw_zs, pos_app]
    exact e
  have fW : fin c 0 (bw W) = 0 := by
    rw [← hW, bw_app, bw_zs]
    exact fin_zero _ 0 (by have := bw_len w; omega)
  have fK : fin (c - 1) 0 (bk W) = 0 := by
    rw [← hW, bk_app, bk_zs]
    exact fin_zero _ 0 (by have := bk_len w; omega)
  have bits : bw out = swB c 0 (bw W) := r.bits
  have eL : L' = pos (bw out) p := by
    refine swL_one h.b (pos_asc _ _) (h.sw c1) ?_
    rw [bits, ← eW]
    exact sw_bits c1 fW
  have kp : pos (bk out) p = pos (swB (c - 1) 0 (bk W)) (p + 1) := by
    have h1 := pos_app 1 (bk out) p
    have h2 : bk out ++ List.replicate 1 false = false :: swB (c - 1) 0 (bk W) := r.kept
    rw [h2] at h1
    exact h1.symm
  have cL : cutL L 0 = (pos (bk W) p, marks W p) := by
    rw [← eW, cut_word W p 0 gW, show p - 2 * 0 = p by omega]
  have cL' : cutL L' 0 = (pos (bk out) p, marks out p) := by
    rw [eL, cut_word out p 0 r.gd, show p - 2 * 0 = p by omega]
  refine ⟨pos (swB (c - 1) 0 (bk W)) p, ⟨?_, pos_asc _ _, fun z => ?_, fun z => ?_⟩, ?_, ?_, ?_⟩
  · rw [cL]
    exact pos_asc _ _
  · rw [cL, z, swB_0]
  · rw [cL]
    exact sw_bits z fK
  · rw [cL', kp, pos_shift]
  · have o1 : ofs L' = less (marks out p) (ends false (bk out) p) := by rw [eL]; exact ofs_word r.gd
    have o2 : ofs L = less (marks W p) (ends false (bk W) p) := by rw [← eW]; exact ofs_word gW
    have e1 : ends false (bk out) p = ends false (swB (c - 1) 0 (bk W)) (p + 1) := by rw [(ends_pos _ _).1, kp, ← (ends_pos _ _).1]
    rw [o1, o2]
    refine up_eq ((marks_up out p).sublist (less_sub _ _)) (up_map ((marks_up W p).sublist (less_sub _ _)) 1) fun x => ?_
    have hc := mk (p + 1) x
    have hd : decide (0 < 0) = false := rfl
    rw [hd] at hc
    simp only [cond_false] at hc
    rw [show p + 1 - 1 = p by omega] at hc
    rw [less_count, e1]
    have cm : ((less (marks W p) (ends false (bk W) p)).map (· + 1)).count x = (less (marks W p) (ends false (bk W) p)).count (x - 1) := count_add 1 x _
    rw [cm, less_count]
    have m1 : (marks W (p + 1)).count x = (marks W p).count (x - 1) := by
      rw [marks_shift]
      exact count_add 1 x _
    have m2 : (ends false (bk W) (p + 1)).count x = (ends false (bk W) p).count (x - 1) := by
      rw [(ends_pos _ _).1, (ends_pos _ _).1, pos_shift]
      rw [rends_shift]
      exact count_add 1 x _
    rw [m1, m2] at hc
    have le1 := (ends_le W gW p (x - 1)).1
    have le2 := (ends_le out r.gd p x).1
    rw [e1] at le2
    omega
  · have := len_sw (c := c) (bw W) 0 p
    rw [fW, eW, ← bits, ← eL] at this
    omega
end SR
set_option Elab.async false
set_option linter.all false
set_option maxRecDepth 100000
set_option maxHeartbeats 1000000
namespace SR
open PySem PySem.Spec PyProof.Rows L2
/-- all indexes moved -/
def mv (k : Int) (ps : List (Int × Int)) : List (Int × Int) := ps.map fun p => (p.1 + k, p.2)
theorem mv_mv (k : Int) (ps : List (Int × Int)) : mv (-k) (mv k ps) = ps := by
  unfold mv
  rw [List.map_map]
  have : ((fun p : Int × Int => (p.1 + -k, p.2)) ∘ fun p : Int × Int => (p.1 + k, p.2)) = id := by
    funext p
    show (p.1 + k + -k, p.2) = p
    have e : p.1 + k + -k = p.1 := by omega
    rw [e]
  rw [this, List.map_id]
theorem mv_asc {k : Int} {ps : List (Int × Int)} (h : Asc ps) : Asc (mv k ps) := List.pairwise_map.mpr (h.imp fun {a b} h => by show a.1 + k < b.1 + k; omega)
theorem mv_total (k : Int) (ps : List (Int × Int)) : total (mv k ps) = total ps := by
  unfold total mv
  rw [List.map_map]
  rfl
theorem mv_mem {k : Int} {ps : List (Int × Int)} {p : Int × Int} (h : p ∈ mv k ps) : ∃ q ∈ ps, p = (q.1 + k, q.2) := by
  obtain ⟨q, m, e⟩ := List.mem_map.mp h
  exact ⟨q, m, e.symm⟩
def lo (i : Int) (ps : List (Int × Int)) : List (Int × Int) := ps.filter fun p => decide (p.1 ≤ i)
def hi (i : Int) (ps : List (Int × Int)) : List (Int × Int) := ps.filter fun p => decide (i < p.1)
theorem lo_mem {i : Int} {ps : List (Int × Int)} {p : Int × Int} (h : p ∈ lo i ps) : p ∈ ps ∧ p.1 ≤ i := ⟨(List.mem_filter.mp h).1, of_decide_eq_true (List.mem_filter.mp h).2⟩
theorem hi_mem {i : Int} {ps : List (Int × Int)} {p : Int × Int} (h : p ∈ hi i ps) : p ∈ ps ∧ i < p.1 := ⟨(List.mem_filter.mp h).1, of_decide_eq_true (List.mem_filter.mp h).2⟩
theorem lo_hi : ∀ {ps : List (Int × Int)} (i : Int), Asc ps → lo i ps ++ hi i ps = ps
  | [], _, _ => rfl
  | p :: ps, i, asc => by
    have a := List.pairwise_cons.mp asc
    by_cases h : p.1 ≤ i
    · have e1 : lo i (p :: ps) = p :: lo i ps := List.filter_cons_of_pos (decide_eq_true h)
      have e2 : hi i (p :: ps) = hi i ps := List.filter_cons_of_neg (by rw [decide_eq_true_eq]; omega)
      rw [e1, e2, List.cons_append, lo_hi i a.2]
    · have e1 : lo i (p :: ps) = [] := List.filter_eq_nil_iff.mpr fun q m => by
        rw [decide_eq_true_eq]
        rcases List.mem_cons.mp m with rfl | m
        · exact h
        · have : p.1 < q.1 := a.1 q m
          omega
      have e2 : hi i (p :: ps) = p :: ps := List.filter_eq_self.mpr fun q m => by
        rw [decide_eq_true_eq]
        rcases List.mem_cons.mp m with rfl | m
        · omega
        · have : p.1 < q.1 := a.1 q m
          omega
      rw [e1, e2]
      rfl
theorem lo_app {i : Int} {a b : List (Int × Int)} (ha : ∀ p ∈ a, p.1 ≤ i) (hb : ∀ p ∈ b, i < p.1) : lo i (a ++ b) = a ∧ hi i (a ++ b) = b := by
  unfold lo hi
  rw [List.filter_append, List.filter_append]
  have e1 : (a.filter fun p => decide (p.1 ≤ i)) = a := List.filter_eq_self.mpr fun q m => decide_eq_true (ha q m)
  have e2 : (b.filter fun p => decide (p.1 ≤ i)) = [] := List.filter_eq_nil_iff.mpr fun q m => by
    have := hb q m
    rw [decide_eq_true_eq]
    omega
  have e3 : (a.filter fun p => decide (i < p.1)) = [] := List.filter_eq_nil_iff.mpr fun q m => by
    have := ha q m
    rw [decide_eq_true_eq]
    omega
  have e4 : (b.filter fun p => decide (i < p.1)) = b := List.filter_eq_self.mpr fun q m => decide_eq_true (hb q m)
  rw [e1, e2, e3, e4, List.append_nil]
  exact ⟨rfl, rfl⟩
theorem total_app (a b : List (Int × Int)) : total (a ++ b) = total a + total b := by
  unfold total
  rw [List.map_append, List.sum_append]
theorem total_lo_hi {ps : List (Int × Int)} (i : Int) (h : Asc ps) : total (lo i ps) + total (hi i ps) = total ps := by
  rw [← total_app, lo_hi i h]
theorem total_nn {ps : List (Int × Int)} (h : ∀ p ∈ ps, 1 ≤ p.2) : 0 ≤ total ps := by
  have := len_sum h
  unfold total
  omega
theorem asc_app {a b : List (Int × Int)} (ha : Asc a) (hb : Asc b) (h : ∀ p ∈ a, ∀ q ∈ b, p.1 < q.1) : Asc (a ++ b) := List.pairwise_append.mpr ⟨ha, hb, h⟩
theorem cap_one {idx c i : Int} : cap [(idx, c)] i = if i = idx then c else 1 := by
  unfold cap
  rw [List.lookup_cons]
  by_cases h : i = idx
  · rw [if_pos h, h, beq_self_eq_true]
    rfl
  · rw [if_neg h, beq_false_of_ne h]
    rfl
theorem cap_cons {idx c i : Int} {rest : List (Int × Int)} : cap ((idx, c) :: rest) i = if i = idx then c else cap rest i := by
  unfold cap
  rw [List.lookup_cons]
  by_cases h : i = idx
  · rw [if_pos h, h, beq_self_eq_true]
    rfl
  · rw [if_neg h, beq_false_of_ne h]
theorem cap_no {rest : List (Int × Int)} {i : Int} (h : ∀ r ∈ rest, i ≠ r.1) : cap rest i = 1 := by
  induction rest with
  | nil => rfl
  | cons r rest ih =>
    obtain ⟨a, b⟩ := r
    rw [cap_cons, if_neg (h _ List.mem_cons_self)]
    exact ih fun q m => h q (List.mem_cons_of_mem _ m)
theorem cnt_inA {ps : List (Int × Int)} (h : Asc ps) {p : Int × Int} (m : p ∈ ps) : cnt ps p.1 = p.2 := by
  unfold cnt
  rw [(lookup_some (n := p.2) (asc_nd h)).mpr m]
  rfl
theorem cnt_outA {ps : List (Int × Int)} {i : Int} (h : ∀ p ∈ ps, p.1 ≠ i) : cnt ps i = 0 := by
  induction ps with
  | nil => rfl
  | cons p ps ih =>
    rw [cnt_cons, if_neg (fun z => h p List.mem_cons_self z.symm)]
    exact ih fun q m => h q (List.mem_cons_of_mem _ m)
section
variable {idx c : Int} {cs ns rest : List (Int × Int)}
/-- one wide box alone -/
theorem one_vd (asc : Asc ns) (sz : sizeOk (idx, c)) (po : ∀ p ∈ ns, 1 ≤ p.2 ∧ p.2 ≤ cap [(idx, c)] p.1) (sm : total ns ≤ 40) : Vd ns [(idx, c)] :=
  ⟨⟨asc_nd asc, List.pairwise_singleton _ _, by show 1 ≤ 6; decide, fun p m => by rw [List.mem_singleton.mp m]; exact sz, po, sm⟩, asc, List.pairwise_singleton _ _⟩
open Classical in
noncomputable def fn1 (back : Bool) (idx c : Int) (ns : List (Int × Int)) : List (Int × Int) := if v : Vd ns [(idx, c)] then (Fn (c, back) (⟨ns, v⟩ : Rws [(idx, c)])).1 else []
theorem fn1_eq (back : Bool) (v : Vd ns [(idx, c)]) : fn1 back idx c ns = (Fn (c, back) (⟨ns, v⟩ : Rws [(idx, c)])).1 := dif_pos v
theorem fn1_vd {back : Bool} (v : Vd ns [(idx, c)]) : Vd (fn1 back idx c ns) [(idx, c)] := by
  rw [fn1_eq back v]
  exact (Fn (c, back) (⟨ns, v⟩ : Rws [(idx, c)])).2
theorem fn1_back {back : Bool} (c1 : 1 ≤ c) (v : Vd ns [(idx, c)]) : fn1 (!back) idx c (fn1 back idx c ns) = ns := by
  rw [fn1_eq (!back) (fn1_vd v)]
  have e : (⟨fn1 back idx c ns, fn1_vd v⟩ : Rws [(idx, c)]) = Fn (c, back) ⟨ns, v⟩ := Subtype.ext (fn1_eq back v)
  rw [e]
  have b := fn_back c1 (!back) (⟨ns, v⟩ : Rws [(idx, c)])
  rw [Bool.not_not] at b
  rw [b]
theorem fn1_total {back : Bool} (c1 : 1 ≤ c) (v : Vd ns [(idx, c)]) : total (fn1 back idx c ns) = total ns := by
  rw [fn1_eq back v]
  exact (fn_is c1 back _).2
theorem fn1_sw (c1 : 1 ≤ c) (v : Vd ns [(idx, c)]) : Sw [(idx, c)] c (fn1 true idx c ns) ns ∧ Sw [(idx, c)] c ns (fn1 false idx c ns) := by
  rw [fn1_eq true v, fn1_eq false v]
  exact ⟨(fn_is c1 true (⟨ns, v⟩ : Rws [(idx, c)])).1, (fn_is c1 false (⟨ns, v⟩ : Rws [(idx, c)])).1⟩
/-- a sweep that ends at the wide box: what it takes there comes from its left -/
theorem sw_end {qs : List (Int × Int)} (c1 : 1 ≤ c) (vq : Vd qs [(idx, c)]) (sw : Sw [(idx, c)] c qs ns) (h : ∀ i, idx < i → cnt ns i = 0) : ∃ ld : Int → Int, (∀ i, 0 ≤ ld i ∧ ld i ≤ c ∧ cnt ns i = stC c (ld i) (cap [(idx, c)] i) (cnt qs i) ∧ ld (i + 1) = stL c (ld i) (cap [(idx, c)] i) (cnt qs i)) ∧ (∃ lo, ∀ i, i ≤ lo → ld i = 0) ∧
    (∀ i, idx < i → ld i = 0 ∧ cnt qs i = 0) ∧ cnt qs idx = 0 ∧ ld idx = cnt ns idx := by
  obtain ⟨ld, l0, ⟨hh, l1⟩, st⟩ := sw
  have keep : ∀ i, ld i + cnt qs i = cnt ns i + ld (i + 1) := fun i => by
    obtain ⟨_, _, e1, e2⟩ := st i
    rw [e1, e2]
    unfold stC stL
    omega
  have q0 : ∀ i, 0 ≤ cnt qs i := fun i => (cnt_bd vq.ok i).1
  have zero : ∀ i, i ≤ max hh (idx + 1) → idx < i → ld i = 0 := by
    refine down_from (P := fun i => idx < i → ld i = 0) (max hh (idx + 1)) (fun _ => l1 _ (by omega)) fun i lt ih l => ?_
    have a := ih (by omega)
    have b := keep i
    have d := h i l
    have e := (st i).1
    have f := q0 i
    omega
  have zero2 : ∀ i, idx < i → ld i = 0 := fun i l => by
    by_cases k : i ≤ max hh (idx + 1)
    · exact zero i k l
    · exact l1 i (by omega)
  have qz : ∀ i, idx < i → cnt qs i = 0 := fun i l => by
    have a := keep i
    have b := zero2 i l
    have d := zero2 (i + 1) (by omega)
    have e := h i l
    omega
  have cc : cap [(idx, c)] idx = c := by rw [cap_one, if_pos rfl]
  obtain ⟨u0, u1, e1, e2⟩ := st idx
  have z := zero2 (idx + 1) (by omega)
  rw [cc] at e1 e2
  have qb := (cnt_bd vq.ok idx)
  rw [cc] at qb
  have q00 : cnt qs idx = 0 := by
    rw [z] at e2
    unfold stL at e2
    omega
  refine ⟨ld, st, l0, fun i l => ⟨zero2 i l, qz i l⟩, q00, ?_⟩
  have k := keep idx
  omega
end
end SR
set_option Elab.async false
set_option linter.all false
set_option maxRecDepth 100000
set_option maxHeartbeats 1000000
namespace SR
open PySem PySem.Spec PyProof.Rows L2
/-- the wide box at idx is shifted out | in -/
noncomputable def outBox (idx c : Int) (cs : List (Int × Int)) : List (Int × Int) := mv 1 (fn1 true idx c (lo idx cs)) ++ hi idx cs
noncomputable def inBox (idx c : Int) (cs : List (Int × Int)) : List (Int × Int) := fn1 false idx c (mv (-1) (lo idx cs)) ++ hi idx cs
section
variable {idx c : Int} {cs ns rest : List (Int × Int)}
theorem Vd.head (v : Vd cs ((idx, c) :: rest)) : sizeOk (idx, c) ∧ (∀ r ∈ rest, idx < r.1) ∧ 1 ≤ c ∧ c ≤ 99 := by
  have s := v.ok.ko _ List.mem_cons_self
  have a := List.pairwise_cons.mp v.ak
  obtain ⟨_, h1, h2⟩ := s
  exact ⟨v.ok.ko _ List.mem_cons_self, a.1, by show 1 ≤ c; have : 2 ≤ c := h1; omega, by have : c ≤ 9 := h2; omega⟩
theorem near_vd (v : Vd cs ((idx, c) :: rest)) : Vd (lo idx cs) [(idx, c)] := by
  obtain ⟨s, far, _, _⟩ := v.head
  refine one_vd (v.ap.sublist List.filter_sublist) s (fun p m => ?_) ?_
  · obtain ⟨m1, m2⟩ := lo_mem m
    have := v.ok.po p m1
    rw [cap_cons] at this
    rw [cap_one]
    by_cases e : p.1 = idx
    · rw [if_pos e] at this ⊢
      exact this
    · rw [if_neg e] at this ⊢
      rw [cap_no fun r hr => by have := far r hr; omega] at this
      exact this
  · have a := total_lo_hi idx v.ap
    have b := total_nn (ps := hi idx cs) fun p m => v.one p (hi_mem m).1
    have d : total cs ≤ 40 := v.ok.sm
    omega
theorem fn1_in (v : Vd ns [(idx, c)]) (c1 : 1 ≤ c) (h : ∀ p ∈ ns, p.1 ≤ idx) : ∀ p ∈ fn1 true idx c ns, p.1 < idx := fun p m => by
  obtain ⟨ld, _, _, z, z0, _⟩ := sw_end c1 (fn1_vd v) (fn1_sw c1 v).1 fun i l => cnt_outA fun q mq => by have := h q mq; omega
  have vv := fn1_vd (back := true) v
  have e := cnt_inA vv.ap m
  have o := vv.one p m
  by_cases k : idx < p.1
  · have := (z p.1 k).2
    omega
  · by_cases k2 : p.1 = idx
    · rw [k2, z0] at e
      omega
    · omega
theorem fn1_out (v : Vd ns [(idx, c)]) (c1 : 1 ≤ c) (h : ∀ p ∈ ns, p.1 < idx) : ∀ p ∈ fn1 false idx c ns, p.1 ≤ idx := fun p m => by
  obtain ⟨ld, _, _, st⟩ := (fn1_sw c1 v).2
  have vv := fn1_vd (back := false) v
  have e := cnt_inA vv.ap m
  have o := vv.one p m
  have cc : cap [(idx, c)] idx = c := by rw [cap_one, if_pos rfl]
  have n0 : ∀ i, idx ≤ i → cnt ns i = 0 := fun i l => cnt_outA fun q mq => by have := h q mq; omega
  have z1 : ld (idx + 1) = 0 := by
    obtain ⟨u0, u1, _, e2⟩ := st idx
    rw [e2, cc, n0 idx (Int.le_refl _)]
    unfold stL
    omega
  have zero : ∀ i, idx + 1 ≤ i → ld i = 0 := by
    refine up_from (P := fun i => ld i = 0) (idx + 1) z1 fun i l ih => ?_
    obtain ⟨_, _, _, e2⟩ := st i
    have d : cap [(idx, c)] i = 1 := by rw [cap_one, if_neg (by omega)]
    rw [e2, ih, d, n0 i (by omega)]
    unfold stL
    omega
  by_cases k : p.1 ≤ idx
  · exact k
  · obtain ⟨_, _, e1, _⟩ := st p.1
    have d : cap [(idx, c)] p.1 = 1 := by rw [cap_one, if_neg (by omega)]
    rw [zero p.1 (by omega), d, n0 p.1 (by omega)] at e1
    unfold stC at e1
    omega
theorem out_vd (v : Vd cs ((idx, c) :: rest)) : Vd (outBox idx c cs) rest ∧ total (outBox idx c cs) = total cs := by
  obtain ⟨s, far, c1, _⟩ := v.head
  have nv := near_vd v
  have qv := fn1_vd (back := true) nv
  have left := fn1_in nv c1 fun p m => (lo_mem m).2
  have tot : total (outBox idx c cs) = total cs := by
    unfold outBox
    rw [total_app, mv_total, fn1_total c1 nv, total_lo_hi idx v.ap]
  have kd := List.nodup_cons.mp v.ok.kd
  have ks : ∀ r ∈ rest, sizeOk r := fun r m => v.ok.ko r (List.mem_cons_of_mem _ m)
  have ap : Asc (outBox idx c cs) := asc_app (mv_asc qv.ap) (v.ap.sublist List.filter_sublist) fun p m q mq => by
    obtain ⟨z, mz, rfl⟩ := mv_mem m
    have := left z mz
    have := (hi_mem mq).2
    show z.1 + 1 < q.1
    omega
  have l := v.ok.kl
  rw [List.length_cons] at l
  refine ⟨⟨⟨asc_nd ap, kd.2, by omega, ks, fun p m => ?_, ?_⟩, ap, (List.pairwise_cons.mp v.ak).2⟩, tot⟩
  · rcases List.mem_append.mp m with m | m
    · obtain ⟨z, mz, rfl⟩ := mv_mem m
      have a := qv.ok.po z mz
      rw [cap_one, if_neg (by have := left z mz; omega)] at a
      have b := (cap_ok ks (z.1 + 1)).1
      exact ⟨a.1, Int.le_trans a.2 b⟩
    · obtain ⟨m1, m2⟩ := hi_mem m
      have a := v.ok.po p m1
      rw [cap_cons, if_neg (by omega)] at a
      exact a
  · have : total cs ≤ 40 := v.ok.sm
    rw [← tot] at this
    exact this
theorem mv_near (v : Vd cs rest) (s : sizeOk (idx, c)) (far : ∀ r ∈ rest, idx < r.1) : Vd (mv (-1) (lo idx cs)) [(idx, c)] := by
  have c1 : 2 ≤ c := s.2.1
  refine one_vd (mv_asc (v.ap.sublist List.filter_sublist)) s (fun p m => ?_) ?_
  · obtain ⟨z, mz, rfl⟩ := mv_mem m
    obtain ⟨m1, m2⟩ := lo_mem mz
    have a := v.ok.po z m1
    rw [cap_no fun r hr => by have := far r hr; omega] at a
    refine ⟨a.1, Int.le_trans a.2 ?_⟩
    rw [cap_one]
    split <;> omega
  · rw [mv_total]
    have a := total_lo_hi idx v.ap
    have b := total_nn (ps := hi idx cs) fun p m => v.one p (hi_mem m).1
    have d : total cs ≤ 40 := v.ok.sm
    omega
theorem in_vd (v : Vd cs rest) (s : sizeOk (idx, c)) (far : ∀ r ∈ rest, idx < r.1) (l5 : rest.length ≤ 5) : Vd (inBox idx c cs) ((idx, c) :: rest) ∧ total (inBox idx c cs) = total cs := by
  have c1 : 1 ≤ c := by have : 2 ≤ c := s.2.1; omega
  have nv := mv_near v s far
  have qv := fn1_vd (back := false) nv
  have left := fn1_out nv c1 fun p m => by
    obtain ⟨z, mz, rfl⟩ := mv_mem m
    have := (lo_mem mz).2
    show z.1 + -1 < idx
    omega
  have tot : total (inBox idx c cs) = total cs := by
    unfold inBox
    rw [total_app, fn1_total c1 nv, mv_total, total_lo_hi idx v.ap]
  have ap : Asc (inBox idx c cs) := asc_app qv.ap (v.ap.sublist List.filter_sublist) fun p m q mq => by
    have := left p m
    have := (hi_mem mq).2
    omega
  refine ⟨⟨⟨asc_nd ap, ?_, by rw [List.length_cons]; omega, fun p m => ?_, fun p m => ?_, ?_⟩, ap, List.pairwise_cons.mpr ⟨far, v.ak⟩⟩, tot⟩
  · refine List.nodup_cons.mpr ⟨fun z => ?_, v.ok.kd⟩
    obtain ⟨r, mr, e⟩ := List.mem_map.mp z
    have := far r mr
    have e2 : r.1 = idx := e
    omega
  · rcases List.mem_cons.mp m with rfl | m
    · exact s
    · exact v.ok.ko p m
  · rcases List.mem_append.mp m with m | m
    · have a := qv.ok.po p m
      rw [cap_one] at a
      rw [cap_cons]
      by_cases e : p.1 = idx
      · rw [if_pos e] at a ⊢
        exact a
      · rw [if_neg e] at a ⊢
        have b := (cap_ok v.ok.ko p.1).1
        exact ⟨a.1, Int.le_trans a.2 b⟩
    · obtain ⟨m1, m2⟩ := hi_mem m
      have a := v.ok.po p m1
      rw [cap_cons, if_neg (by omega)]
      exact a
  · have : total cs ≤ 40 := v.ok.sm
    rw [← tot] at this
    exact this
theorem in_out (v : Vd cs ((idx, c) :: rest)) : inBox idx c (outBox idx c cs) = cs := by
  obtain ⟨s, far, c1, _⟩ := v.head
  have nv := near_vd v
  have left := fn1_in nv c1 fun p m => (lo_mem m).2
  have h := lo_app (i := idx) (a := mv 1 (fn1 true idx c (lo idx cs))) (b := hi idx cs) (fun p m => by
    obtain ⟨z, mz, rfl⟩ := mv_mem m
    have := left z mz
    show z.1 + 1 ≤ idx
    omega) fun p m => (hi_mem m).2
  unfold inBox
  unfold outBox
  rw [h.1, h.2, mv_mv 1]
  have b := fn1_back (back := true) c1 nv
  rw [Bool.not_true] at b
  rw [b, lo_hi idx v.ap]
end
/-- the plain form, and the row with these boxes whose plain form it is -/
noncomputable def plainF (ks cs : List (Int × Int)) : List (Int × Int) := ks.foldl (fun cs k => outBox k.1 k.2 cs) cs
noncomputable def withF (ks cs : List (Int × Int)) : List (Int × Int) := ks.foldr (fun k cs => inBox k.1 k.2 cs) cs
theorem plainF_cons (k : Int × Int) (ks cs : List (Int × Int)) : plainF (k :: ks) cs = plainF ks (outBox k.1 k.2 cs) := rfl
theorem withF_cons (k : Int × Int) (ks cs : List (Int × Int)) : withF (k :: ks) cs = inBox k.1 k.2 (withF ks cs) := rfl
theorem plain_vd : ∀ {ks cs : List (Int × Int)}, Vd cs ks → Vd (plainF ks cs) [] ∧ total (plainF ks cs) = total cs
  | [], _, v => ⟨v, rfl⟩
  | (i, c) :: ks, cs, v => by
    have h := out_vd v
    obtain ⟨a, b⟩ := plain_vd h.1
    rw [plainF_cons]
    exact ⟨a, b.trans h.2⟩
/-- boxes that a row may have -/
structure KsOk (ks : List (Int × Int)) : Prop where
  ak : Asc ks
  kl : ks.length ≤ 6
  ko : ∀ p ∈ ks, sizeOk p
theorem KsOk.tail {k : Int × Int} {ks : List (Int × Int)} (h : KsOk (k :: ks)) : KsOk ks ∧ sizeOk k ∧ (∀ r ∈ ks, k.1 < r.1) ∧ ks.length ≤ 5 := by
  have a := List.pairwise_cons.mp h.ak
  have l := h.kl
  rw [List.length_cons] at l
  exact ⟨⟨a.2, by omega, fun p m => h.ko p (List.mem_cons_of_mem _ m)⟩, h.ko _ List.mem_cons_self, a.1, by omega⟩
theorem with_vd : ∀ {ks cs : List (Int × Int)}, KsOk ks → Vd cs [] → Vd (withF ks cs) ks ∧ total (withF ks cs) = total cs
  | [], _, _, v => ⟨v, rfl⟩
  | (i, c) :: ks, cs, h, v => by
    obtain ⟨h1, h2, h3, h4⟩ := h.tail
    obtain ⟨a, b⟩ := with_vd h1 v
    have d := in_vd a h2 h3 h4
    rw [withF_cons]
    exact ⟨d.1, d.2.trans b⟩
theorem with_plain : ∀ {ks cs : List (Int × Int)}, Vd cs ks → withF ks (plainF ks cs) = cs
  | [], _, _ => rfl
  | (i, c) :: ks, cs, v => by
    have h := out_vd v
    rw [withF_cons, plainF_cons]
    rw [with_plain h.1]
    exact in_out v
theorem Vd.ks {ps ks : List (Int × Int)} (v : Vd ps ks) : KsOk ks := ⟨v.ak, v.ok.kl, v.ok.ko⟩
end SR
set_option Elab.async false
set_option linter.all false
set_option maxRecDepth 100000
set_option maxHeartbeats 2000000
set_option Elab.async false
set_option linter.all false
set_option maxRecDepth 100000
set_option maxHeartbeats 1000000
namespace SR
open PySem PySem.Spec PyProof.Rows L2
theorem cnt_filter (g : Int → Bool) (i : Int) : ∀ fs : List (Int × Int), cnt (fs.filter fun p => g p.1) i = if g i = true then cnt fs i else 0
  | [] => by
    split <;> rfl
  | p :: fs => by
    have ih := cnt_filter g i fs
    cases e : g p.1 with
    | true =>
      rw [List.filter_cons_of_pos (p := fun p : Int × Int => g p.1) (a := p) (l := fs) e, cnt_cons, cnt_cons, ih]
      by_cases h : i = p.1
      · rw [if_pos h, if_pos h, h, if_pos e]
      · rw [if_neg h, if_neg h]
    | false =>
      rw [List.filter_cons_of_neg (p := fun p : Int × Int => g p.1) (a := p) (l := fs) (by show ¬ g p.1 = true; rw [e]; exact Bool.false_ne_true), ih, cnt_cons]
      by_cases h : i = p.1
      · rw [h, e]
        rfl
      · rw [if_neg h]
theorem cnt_app_l {a b : List (Int × Int)} {i : Int} (h : ∀ p ∈ b, p.1 ≠ i) : cnt (a ++ b) i = cnt a i := by
  induction a with
  | nil => exact cnt_outA h
  | cons p a ih => rw [List.cons_append, cnt_cons, cnt_cons, ih]
theorem cnt_app_r {a b : List (Int × Int)} {i : Int} (h : ∀ p ∈ a, p.1 ≠ i) : cnt (a ++ b) i = cnt b i := by
  induction a with
  | nil => rfl
  | cons p a ih =>
    rw [List.cons_append, cnt_cons, if_neg (fun z => h p List.mem_cons_self z.symm)]
    exact ih fun q m => h q (List.mem_cons_of_mem _ m)
theorem cnt_mv (k i : Int) : ∀ a : List (Int × Int), cnt (mv k a) i = cnt a (i - k)
  | [] => rfl
  | p :: a => by
    show cnt ((p.1 + k, p.2) :: mv k a) i = _
    rw [cnt_cons, cnt_cons, cnt_mv k i a]
    by_cases h : i = p.1 + k
    · rw [if_pos h, if_pos (by omega)]
    · rw [if_neg h, if_neg (by omega)]
def dropI (fs : List (Int × Int)) (i : Int) : List (Int × Int) := fs.filter fun p => decide (p.1 ≠ i)
theorem dropI_cnt (fs : List (Int × Int)) (i j : Int) : cnt (dropI fs i) j = if j = i then 0 else cnt fs j := by
  unfold dropI
  rw [cnt_filter (fun a => decide (a ≠ i)) j fs]
  by_cases h : j = i
  · rw [if_pos h, if_neg (by rw [h]; simp)]
  · rw [if_neg h, if_pos (decide_eq_true h)]
theorem dropI_nd {fs : List (Int × Int)} (i : Int) (h : (fs.map Prod.fst).Nodup) : ((dropI fs i).map Prod.fst).Nodup := (List.Sublist.map _ List.filter_sublist).nodup h
theorem dropI_len (fs : List (Int × Int)) (i : Int) : (dropI fs i).length ≤ fs.length := List.length_filter_le _ _
theorem putI_cnt (fs : List (Int × Int)) (k n i : Int) : cnt (putI fs k n) i = if i = k then n else cnt fs i := by
  unfold cnt
  rw [putI_look]
  split <;> rfl
/-- what a box is shifted out by -/
structure Ldr (cs q : List (Int × Int)) (ld : Int → Int) (w c : Int) : Prop where
  bd : ∀ i, 0 ≤ ld i ∧ ld i ≤ c
  st : ∀ i, i < w → cnt cs i = stC c (ld i) 1 (cnt q i) ∧ ld (i + 1) = stL c (ld i) 1 (cnt q i)
  q1 : ∀ i, i < w → 0 ≤ cnt q i ∧ cnt q i ≤ 1
  top : ld w = cnt cs w
  cs0 : ∀ i, 0 ≤ cnt cs i
  out : ∀ i, cnt (outBox w c cs) i = if i ≤ w then cnt q (i - 1) else cnt cs i
  c1 : 1 ≤ c
theorem ldr_of {w c : Int} {cs rest : List (Int × Int)} (v : Vd cs ((w, c) :: rest)) : ∃ q ld, Ldr cs q ld w c := by
  obtain ⟨s, far, c1, c99⟩ := v.head
  have nv := near_vd v
  have qv := fn1_vd (back := true) nv
  have left := fn1_in nv c1 fun p m => (lo_mem m).2
  obtain ⟨ld, st, _, z, z0, top⟩ := sw_end c1 qv (fn1_sw c1 nv).1 fun i l => cnt_outA fun q mq => by have := (lo_mem mq).2; omega
  have lc : ∀ i, i ≤ w → cnt (lo w cs) i = cnt cs i := fun i l => by
    unfold lo
    rw [cnt_filter (fun a => decide (a ≤ w)) i cs, if_pos (decide_eq_true l)]
  have hc : ∀ i, w < i → cnt (hi w cs) i = cnt cs i := fun i l => by
    unfold hi
    rw [cnt_filter (fun a => decide (w < a)) i cs, if_pos (decide_eq_true l)]
  refine ⟨fn1 true w c (lo w cs), ld, ⟨fun i => ⟨(st i).1, (st i).2.1⟩, fun i l => ?_, fun i l => ?_, ?_, fun i => (cnt_bd v.ok i).1, fun i => ?_, c1⟩⟩
  · obtain ⟨_, _, e1, e2⟩ := st i
    rw [cap_one, if_neg (by omega)] at e1 e2
    rw [← lc i (by omega)]
    exact ⟨e1, e2⟩
  · have := cnt_bd qv.ok i
    rw [cap_one, if_neg (by omega)] at this
    exact this
  · rw [top, lc w (Int.le_refl _)]
  · unfold outBox
    by_cases l : i ≤ w
    · rw [if_pos l, cnt_app_l (fun p m => by have := (hi_mem m).2; omega), cnt_mv]
    · rw [if_neg l, cnt_app_r (fun p m => by
        obtain ⟨y, my, rfl⟩ := mv_mem m
        have := left y my
        show y.1 + 1 ≠ i
        omega)]
      exact hc i (by omega)
theorem st_back {c l x n m : Int} (c1 : 1 ≤ c) (l0 : 0 ≤ l) (l1 : l ≤ c) (x0 : 0 ≤ x) (x1 : x ≤ 1) (e1 : n = stC c l 1 x) (e2 : m = stL c l 1 x) : stC 1 n c m = l ∧ stL 1 n c m = x := by
  subst e1 e2
  unfold stC stL
  omega
structure Wk (cs q : List (Int × Int)) (ld : Int → Int) (w c B : Int) (n0 : Int) (fs : List (Int × Int)) (x pl : Int) : Prop where
  nd : (fs.map Prod.fst).Nodup
  le : pl ≤ w
  xe : x = ld pl
  up : ∀ i, w < i → cnt fs i = cnt cs i
  mid : ∀ i, pl < i → i ≤ w → cnt fs i = cnt q (i - 1)
  dn : ∀ i, i < pl → cnt fs i = cnt cs i
  z : cnt fs pl = 0
  j : pl ≤ B → B - pl + x ≤ c
  len : (fs.length : Int) ≤ n0 + (w - pl)
section
variable {cs q fs : List (Int × Int)} {ld : Int → Int} {w c B n0 x pl : Int}
theorem Wk.init {gs : List (Int × Int)} (L : Ldr cs q ld w c) (nd : (gs.map Prod.fst).Nodup) (e : ∀ i, cnt gs i = cnt cs i) (hB : B ≤ w) (len : (gs.length : Int) ≤ n0) : Wk cs q ld w c B n0 (dropI gs w) (cnt gs w) w := by
  have dl := dropI_len gs w
  refine ⟨dropI_nd w nd, Int.le_refl _, by rw [e w, L.top], fun i l => ?_, fun i l l2 => by omega, fun i l => ?_, ?_, fun l => ?_, by omega⟩
  · rw [dropI_cnt, if_neg (by omega), e]
  · rw [dropI_cnt, if_neg (by omega), e]
  · rw [dropI_cnt, if_pos rfl]
  · have := (L.bd w).2
    rw [e w, ← L.top]
    omega
theorem Wk.step (L : Ldr cs q ld w c) (k : Wk cs q ld w c B n0 fs x pl) (lowB : ∀ i, i < B → cnt cs i = 0) (go : 0 < x ∨ ∃ i, i < pl ∧ 0 < cnt fs i) :
    Wk cs q ld w c B n0 (putI (dropI fs (pl - 1)) pl (stL 1 (cnt fs (pl - 1)) c x)) (stC 1 (cnt fs (pl - 1)) c x) (pl - 1) ∧
    2 * (pl - 1 - B).toNat + (stC 1 (cnt fs (pl - 1)) c x).toNat < 2 * (pl - B).toNat + x.toNat := by
  have le := k.le
  have eu : cnt fs (pl - 1) = cnt cs (pl - 1) := k.dn _ (by omega)
  have s := L.st (pl - 1) (by omega)
  have b := L.bd (pl - 1)
  have qb := L.q1 (pl - 1) (by omega)
  have e1 : pl - 1 + 1 = pl := by omega
  rw [e1, ← k.xe, ← eu] at s
  have sb := st_back L.c1 b.1 b.2 qb.1 qb.2 s.1 s.2
  have xb := L.bd pl
  rw [← k.xe] at xb
  have u0 : pl ≤ B → cnt fs (pl - 1) = 0 := fun l => by
    rw [eu]
    exact lowB _ (by omega)
  have x1 : pl ≤ B → 0 < x := fun l => by
    rcases go with h | ⟨i, hi1, hi2⟩
    · exact h
    · rw [k.dn i hi1, lowB i (by omega)] at hi2
      omega
  have ub : 0 ≤ cnt fs (pl - 1) ∧ cnt fs (pl - 1) ≤ 1 := by
    rw [s.1]
    unfold stC
    omega
  generalize cnt fs (pl - 1) = u at *
  have xn : stC 1 u c x = x - min (1 - u) x + min u (c - x) := rfl
  refine ⟨⟨putI_nd (dropI_nd _ k.nd), by omega, sb.1, fun i l => ?_, fun i l l2 => ?_, fun i l => ?_, ?_, fun l => ?_, ?_⟩, ?_⟩
  · rw [putI_cnt, if_neg (by omega), dropI_cnt, if_neg (by omega)]
    exact k.up i l
  · rw [putI_cnt]
    by_cases e : i = pl
    · rw [if_pos e, sb.2, e]
    · rw [if_neg e, dropI_cnt, if_neg (by omega)]
      exact k.mid i (by omega) l2
  · rw [putI_cnt, if_neg (by omega), dropI_cnt, if_neg (by omega)]
    exact k.dn i (by omega)
  · rw [putI_cnt, if_neg (by omega), dropI_cnt, if_pos rfl]
  · by_cases l2 : pl ≤ B
    · have := k.j l2
      have := u0 l2
      have := x1 l2
      omega
    · have : stC 1 u c x ≤ c := by
        rw [sb.1]
        exact b.2
      omega
  · have := @putI_len (dropI fs (pl - 1)) pl (stL 1 u c x)
    have := dropI_len fs (pl - 1)
    have := k.len
    omega
  · by_cases l2 : pl ≤ B
    · have := u0 l2
      have := x1 l2
      omega
    · omega
theorem Wk.stop (L : Ldr cs q ld w c) (k : Wk cs q ld w c B n0 fs x pl) (x0 : x ≤ 0) (no : ∀ i, i < pl → cnt fs i ≤ 0) : (∀ i, cnt fs i = cnt (outBox w c cs) i) ∧ (∀ i, i ≤ B - c → cnt (outBox w c cs) i = 0) ∧ B - c ≤ pl := by
  have le := k.le
  have csz : ∀ i, i < pl → cnt cs i = 0 := fun i l => by
    have a := no i l
    rw [k.dn i l] at a
    have := L.cs0 i
    omega
  have xz : ld pl = 0 := by
    have := (L.bd pl).1
    have := k.xe
    omega
  have keep : ∀ i, i < w → ld i + cnt q i = cnt cs i + ld (i + 1) := fun i l => by
    obtain ⟨e1, e2⟩ := L.st i l
    rw [e1, e2]
    unfold stC stL
    omega
  have lz : ∀ i, i ≤ pl → ld i = 0 := by
    refine down_from (P := fun i => ld i = 0) pl xz fun i lt ih => ?_
    have a := keep i (by omega)
    have b := csz i lt
    have d := (L.bd i).1
    have e := (L.q1 i (by omega)).1
    omega
  have qz : ∀ i, i < pl → cnt q i = 0 := fun i l => by
    have a := keep i (by omega)
    have b := csz i l
    have d := lz i (by omega)
    have e := lz (i + 1) (by omega)
    omega
  have all : ∀ i, cnt fs i = cnt (outBox w c cs) i := fun i => by
    rw [L.out]
    by_cases l : i ≤ w
    · rw [if_pos l]
      by_cases l2 : pl < i
      · exact k.mid i l2 l
      · rw [qz (i - 1) (by omega)]
        by_cases e : i = pl
        · rw [e]
          exact k.z
        · rw [k.dn i (by omega)]
          exact csz i (by omega)
    · rw [if_neg l]
      exact k.up i (by omega)
  have c1 := L.c1
  have pb : B - c ≤ pl := by
    by_cases l : pl ≤ B
    · have := k.j l
      have := (L.bd pl).1
      have := k.xe
      omega
    · omega
  refine ⟨all, fun i l => ?_, pb⟩
  rw [L.out, if_pos (by omega)]
  exact qz _ (by omega)
end
end SR
set_option Elab.async false
set_option linter.all false
set_option maxRecDepth 100000
set_option maxHeartbeats 1000000
namespace SR
open PySem PySem.Spec PyProof.Rows L2
section
variable {cs ds q : List (Int × Int)} {ld : Int → Int} {w c c1 : Int} {rest ks ls : List (Int × Int)}
/-- the load and what is left, one place further to the left -/
theorem Ldr.back (L : Ldr cs q ld w c) {i : Int} (h : i < w) : ld i = stC 1 (cnt cs i) c (ld (i + 1)) ∧ cnt q i = stL 1 (cnt cs i) c (ld (i + 1)) ∧ 0 ≤ cnt cs i ∧ cnt cs i ≤ 1 := by
  obtain ⟨e1, e2⟩ := L.st i h
  have b := L.bd i
  have qb := L.q1 i h
  have s := st_back L.c1 b.1 b.2 qb.1 qb.2 e1 e2
  refine ⟨s.1.symm, s.2.symm, L.cs0 i, ?_⟩
  rw [e1]
  unfold stC
  omega
end
end SR
set_option Elab.async false
set_option linter.all false
set_option maxRecDepth 100000
set_option maxHeartbeats 1000000
namespace SR
open PySem PySem.Spec PyProof.Rows L2
theorem ybG {a b c u x y : Int} (u0 : 0 ≤ u) (u1 : u ≤ a) (x0 : 0 ≤ x) (x1 : x ≤ b) (y0 : 0 ≤ y) (y1 : y ≤ c) :
    (stC b (stC a u b x) c (stC a (stL a u b x) c y) = stC a u c (stC b x c y) ∧ stL b (stC a u b x) c (stC a (stL a u b x) c y) = stC a (stL a u c (stC b x c y)) b (stL b x c y) ∧
    stL a (stL a u b x) c y = stL a (stL a u c (stC b x c y)) b (stL b x c y)) ∧
    min (a - u) x + min (a - stL a u b x) y = min (a - u) (stC b x c y) + min (a - stL a u c (stC b x c y)) (stL b x c y) := by
  have h := yb a b c u x y u0 x0 y0 u1 x1 y1 _ _ _ _ _ _ (stC a u b x) (stL a u b x) (stC a (stL a u b x) c y) (stL a (stL a u b x) c y) (stC b (stC a u b x) c (stC a (stL a u b x) c y)) (stL b (stC a u b x) c (stC a (stL a u b x) c y))
    rfl rfl rfl rfl rfl rfl rfl rfl rfl rfl rfl rfl _ _ _ _ _ _ (stC b x c y) (stL b x c y) (stC a u c (stC b x c y)) (stL a u c (stC b x c y)) (stC a (stL a u c (stC b x c y)) b (stL b x c y)) (stL a (stL a u c (stC b x c y)) b (stL b x c y))
    rfl rfl rfl rfl rfl rfl rfl rfl rfl rfl rfl rfl
  exact ⟨⟨h.1, h.2.1, h.2.2.1⟩, h.2.2.2.1⟩
section
variable {w d c : Int} {cs ds rest ks : List (Int × Int)}
/-- the leader's load is 0 far on the left -/
theorem ldr_of0 (v : Vd cs ((w, d) :: rest)) : ∃ q ld, Ldr cs q ld w d ∧ ∃ lo, ∀ i, i ≤ lo → ld i = 0 := by
  obtain ⟨s, far, c1, c99⟩ := v.head
  have nv := near_vd v
  have qv := fn1_vd (back := true) nv
  have left := fn1_in nv c1 fun p m => (lo_mem m).2
  obtain ⟨ld, st, low, z, z0, top⟩ := sw_end c1 qv (fn1_sw c1 nv).1 fun i l => cnt_outA fun q mq => by have := (lo_mem mq).2; omega
  have lc : ∀ i, i ≤ w → cnt (lo w cs) i = cnt cs i := fun i l => by
    unfold lo
    rw [cnt_filter (fun a => decide (a ≤ w)) i cs, if_pos (decide_eq_true l)]
  have hc : ∀ i, w < i → cnt (hi w cs) i = cnt cs i := fun i l => by
    unfold hi
    rw [cnt_filter (fun a => decide (w < a)) i cs, if_pos (decide_eq_true l)]
  refine ⟨fn1 true w d (lo w cs), ld, ⟨fun i => ⟨(st i).1, (st i).2.1⟩, fun i l => ?_, fun i l => ?_, ?_, fun i => (cnt_bd v.ok i).1, fun i => ?_, c1⟩, low⟩
  · obtain ⟨_, _, e1, e2⟩ := st i
    rw [cap_one, if_neg (by omega)] at e1 e2
    rw [← lc i (by omega)]
    exact ⟨e1, e2⟩
  · have := cnt_bd qv.ok i
    rw [cap_one, if_neg (by omega)] at this
    exact this
  · rw [top, lc w (Int.le_refl _)]
  · unfold outBox
    by_cases l : i ≤ w
    · rw [if_pos l, cnt_app_l (fun p m => by have := (hi_mem m).2; omega), cnt_mv]
    · rw [if_neg l, cnt_app_r (fun p m => by
        obtain ⟨y, my, rfl⟩ := mv_mem m
        have := left y my
        show y.1 + 1 ≠ i
        omega)]
      exact hc i (by omega)
theorem st_bd {a u b x : Int} (u0 : 0 ≤ u) (u1 : u ≤ a) (x0 : 0 ≤ x) (x1 : x ≤ b) : 0 ≤ stL a u b x ∧ stL a u b x ≤ a ∧ 0 ≤ stC a u b x ∧ stC a u b x ≤ b ∧ stC a u b x + stL a u b x = u + x := by
  unfold stC stL
  omega
theorem out_sw (v : Vd cs ((w, d) :: rest)) (v' : Vd ds ((w, d) :: rest)) (c1 : 1 ≤ c) (h : Sw ((w, d) :: rest) c cs ds) : Sw rest c (outBox w d cs) (outBox w d ds) := by
  obtain ⟨q, l, L, ⟨l0, hl0⟩⟩ := ldr_of0 v
  obtain ⟨r, m, M⟩ := ldr_of v'
  obtain ⟨s, ⟨s0, hs0⟩, ⟨s1, hs1⟩, st⟩ := h
  have far := v.head.2.1
  have capw : cap ((w, d) :: rest) w = d := by rw [cap_cons, if_pos rfl]
  have capl : ∀ i, i < w → cap ((w, d) :: rest) i = 1 := fun i h => by
    rw [cap_cons, if_neg (by omega)]
    exact cap_no fun r hr => by have := far r hr; omega
  have capr : ∀ i, i ≤ w → cap rest i = 1 := fun i h => cap_no fun r hr => by have := far r hr; omega
  have caph : ∀ i, w < i → cap ((w, d) :: rest) i = cap rest i := fun i h => by rw [cap_cons, if_neg (by omega)]
  -- the leader behind the carrier
  have key : ∀ j, j ≤ w → m j = stC c (s j) d (l j) := by
    refine down_from (P := fun j => m j = stC c (s j) d (l j)) w ?_ fun j lt ih => ?_
    · have a := st w
      rw [capw] at a
      rw [M.top, L.top, a.2.2.1]
    · have b := L.back lt
      have b' := M.back lt
      have a := st j
      rw [capl j lt] at a
      have y := (ybG (a := c) (b := 1) (c := d) a.1 a.2.1 b.2.2.1 b.2.2.2 (L.bd (j + 1)).1 (L.bd (j + 1)).2).1.1
      rw [← a.2.2.1, ← a.2.2.2, ← b.1, ← ih, ← b'.1] at y
      exact y
  have turn : ∀ j, j < w → cnt r j = stC c (stL c (s j) d (l j)) 1 (cnt q j) ∧ stL c (s (j + 1)) d (l (j + 1)) = stL c (stL c (s j) d (l j)) 1 (cnt q j) := fun j lt => by
    have b := L.back lt
    have b' := M.back lt
    have a := st j
    rw [capl j lt] at a
    have y := (ybG (a := c) (b := 1) (c := d) a.1 a.2.1 b.2.2.1 b.2.2.2 (L.bd (j + 1)).1 (L.bd (j + 1)).2).1.2
    rw [← a.2.2.1, ← a.2.2.2, ← b.1, ← b.2.1, ← key (j + 1) (by omega), ← b'.2.1] at y
    exact y
  have sb : ∀ j, 0 ≤ stL c (s j) d (l j) ∧ stL c (s j) d (l j) ≤ c := fun j => by
    have := st_bd (st j).1 (st j).2.1 (L.bd j).1 (L.bd j).2
    exact ⟨this.1, this.2.1⟩
  have top : s (w + 1) = stL c (s w) d (l w) := by
    have a := (st w).2.2.2
    rw [capw] at a
    rw [L.top, a]
  refine ⟨fun i => if i ≤ w + 1 then stL c (s (i - 1)) d (l (i - 1)) else s i, ⟨min (min s0 l0) w, fun i hi => ?_⟩, ⟨max s1 (w + 2), fun i hi => ?_⟩, fun i => ?_⟩
  · show (if i ≤ w + 1 then stL c (s (i - 1)) d (l (i - 1)) else s i) = 0
    rw [if_pos (by omega), hs0 _ (by omega), hl0 _ (by omega)]
    have := v.head.2.2.1
    unfold stL
    omega
  · show (if i ≤ w + 1 then stL c (s (i - 1)) d (l (i - 1)) else s i) = 0
    rw [if_neg (by omega), hs1 _ (by omega)]
  · rw [L.out, M.out]
    dsimp only
    by_cases h1 : i ≤ w
    · have t := turn (i - 1) (by omega)
      rw [show i - 1 + 1 = i by omega] at t
      rw [if_pos h1, if_pos (by omega), if_pos h1, if_pos (by omega), capr i h1, show i + 1 - 1 = i by omega]
      exact ⟨(sb _).1, (sb _).2, t.1, t.2⟩
    · have a := st i
      rw [caph i (by omega)] at a
      rw [if_neg h1, if_neg h1, if_neg (show ¬ i + 1 ≤ w + 1 by omega)]
      by_cases h2 : i ≤ w + 1
      · rw [if_pos h2]
        have e : i = w + 1 := by omega
        subst e
        rw [show w + 1 - 1 = w by omega, ← top]
        exact a
      · rw [if_neg h2]
        exact a
end
theorem plain_sw {c : Int} (c1 : 1 ≤ c) : ∀ {ks cs ds : List (Int × Int)}, Vd cs ks → Vd ds ks → Sw ks c cs ds → Sw [] c (plainF ks cs) (plainF ks ds)
  | [], _, _, _, _, h => h
  | (w, d) :: ks, cs, ds, v, v', h => by
    rw [plainF_cons, plainF_cons]
    exact plain_sw c1 (out_vd v).1 (out_vd v').1 (out_sw v v' c1 h)
/-- the plain form as a valid row -/
noncomputable def plainP {ks : List (Int × Int)} (p : Rws ks) : Rws [] := ⟨plainF ks p.1, (plain_vd p.2).1⟩
end SR
set_option Elab.async false
set_option linter.all false
set_option maxRecDepth 100000
set_option maxHeartbeats 1000000
namespace SR
open PySem PySem.Spec PyProof.Rows L2
theorem cutL_snd : ∀ (L : List Int) (g : Int), (cutL L g).2.length = (rends L).length
  | [], _ => rfl
  | x :: xs, g => by
    rw [cutL_cons, rends_cons]
    by_cases h : xs.head? = some (x + 1)
    · rw [if_pos h, if_pos h]
      exact cutL_snd xs g
    · rw [if_neg h, if_neg h]
      show (cutL xs (g + 1)).2.length + 1 = (rends xs).length + 1
      rw [cutL_snd xs (g + 1)]
theorem rends_pos {L : List Int} (h : L ≠ []) : 0 < (rends L).length := by
  cases L with
  | nil => exact absurd rfl h
  | cons x xs =>
    induction xs generalizing x with
    | nil => exact Nat.succ_pos _
    | cons y ys ih =>
      rw [rends_cons]
      split
      · exact ih y (fun z => nomatch z)
      · exact Nat.succ_pos _
theorem cut_lt {L : List Int} (h : L ≠ []) : (cutL L 0).1.length < L.length := by
  have a := cutL_len L 0
  have b := cutL_snd L 0
  have c := rends_pos h
  omega
/-- what the cut of an ascending row is, and what was removed -/
theorem cut_wordE {L : List Int} (a : L.Pairwise (· < ·)) : ∃ w p, gdB w = true ∧ L = pos (bw w) p ∧ cutL L 0 = (pos (bk w) p, marks w p) := by
  obtain ⟨p, hp⟩ := low_ex a
  obtain ⟨w, g, e, _⟩ := word_ex L p a hp
  refine ⟨w, p, g, e.symm, ?_⟩
  rw [← e, cut_word w p 0 g, show p - 2 * 0 = p by omega]
theorem cut_up {L : List Int} (a : L.Pairwise (· < ·)) : (cutL L 0).1.Pairwise (· < ·) ∧ (cutL L 0).2.Pairwise (· ≤ ·) ∧ ∀ x, (rends (cutL L 0).1).count x ≤ (cutL L 0).2.count x := by
  obtain ⟨w, p, g, e, c⟩ := cut_wordE a
  rw [c]
  refine ⟨pos_asc _ _, marks_up _ _, fun x => ?_⟩
  have := (ends_le w g p x).1
  rw [(ends_pos _ _).1] at this
  exact this
theorem less_perm {B E : List Int} (h : ∀ x, E.count x ≤ B.count x) : (E ++ less B E).Perm B := by
  rw [List.perm_iff_count]
  intro x
  rw [List.count_append, less_count]
  have := h x
  omega
theorem ofs_perm {L : List Int} (a : L.Pairwise (· < ·)) : (rends (cutL L 0).1 ++ ofs L).Perm (cutL L 0).2 := less_perm (cut_up a).2.2
/-- the trains from the length k on, L what is left of the row -/
def tr : Nat → Int → List Int → List (Int × Int)
  | 0, _, _ => []
  | f + 1, k, L => if L = [] then [] else (ofs L).map (fun b => (k, b)) ++ tr f (k + 1) (cutL L 0).1
theorem tr_nil : ∀ (f : Nat) (k : Int), tr f k [] = []
  | 0, _ => rfl
  | _ + 1, _ => if_pos rfl
theorem tr_fuel : ∀ (f g : Nat) (k : Int) (L : List Int), L.length ≤ f → L.length ≤ g → tr f k L = tr g k L
  | 0, g, k, L, h, _ => by
    have : L = [] := List.length_eq_zero_iff.mp (by omega)
    rw [this, tr_nil, tr_nil]
  | f + 1, 0, k, L, _, h => by
    have : L = [] := List.length_eq_zero_iff.mp (by omega)
    rw [this, tr_nil, tr_nil]
  | f + 1, g + 1, k, L, h1, h2 => by
    show (if L = [] then _ else _) = if L = [] then _ else _
    by_cases z : L = []
    · rw [if_pos z, if_pos z]
    · have := cut_lt z
      rw [if_neg z, if_neg z, tr_fuel f g (k + 1) _ (by omega) (by omega)]
theorem ofs_shift (a : Int) (L : List Int) : ofs (L.map (· + a)) = (ofs L).map (· + a) := by
  unfold ofs
  rw [cutL_shift]
  show less ((cutL L 0).2.map (· + a)) (rends ((cutL L 0).1.map (· + a))) = _
  rw [rends_shift]
  have key : ∀ (E B : List Int), less (B.map (· + a)) (E.map (· + a)) = (less B E).map (· + a) := by
    intro E
    induction E with
    | nil => exact fun _ => rfl
    | cons e E ih =>
      intro B
      show less ((B.map (· + a)).erase (e + a)) (E.map (· + a)) = (less (B.erase e) E).map (· + a)
      rw [← ih]
      congr 1
      induction B with
      | nil => rfl
      | cons y B ih2 =>
        rw [List.map_cons, List.erase_cons, List.erase_cons]
        by_cases h : y = e
        · subst h
          simp
        · have h1 : (y == e) = false := by simpa using h
          have h2 : (y + a == e + a) = false := by
            rw [beq_eq_false_iff_ne]
            omega
          rw [h1, h2]
          simp only [Bool.false_eq_true, if_false, List.map_cons]
          rw [ih2]
  exact key _ _
theorem tr_shift (a : Int) : ∀ (f : Nat) (k : Int) (L : List Int), tr f k (L.map (· + a)) = (tr f k L).map fun t => (t.1, t.2 + a)
  | 0, _, _ => rfl
  | f + 1, k, L => by
    show (if L.map (· + a) = [] then _ else _) = (if L = [] then _ else _ : List (Int × Int)).map _
    by_cases z : L = []
    · subst z
      rfl
    · rw [if_neg z, if_neg fun q => z (List.map_eq_nil_iff.mp q), cutL_shift, ofs_shift]
      show _ ++ tr f (k + 1) ((cutL L 0).1.map (· + a)) = _
      rw [tr_shift a f (k + 1), List.map_append, List.map_map, List.map_map]
      rfl
theorem tr_fst : ∀ (f : Nat) (k : Int) (L : List Int), ∀ t ∈ tr f k L, k ≤ t.1
  | 0, _, _ => fun _ m => nomatch m
  | f + 1, k, L => fun t m => by
    have m : t ∈ (if L = [] then [] else (ofs L).map (fun b => (k, b)) ++ tr f (k + 1) (cutL L 0).1) := m
    by_cases z : L = []
    · rw [if_pos z] at m
      cases m
    · rw [if_neg z] at m
      rcases List.mem_append.mp m with m | m
      · obtain ⟨b, _, rfl⟩ := List.mem_map.mp m
        exact Int.le_refl _
      · have := tr_fst f (k + 1) _ t m
        omega
theorem map_same {α β : Type} {f g : α → β} {l : List α} (h : ∀ x ∈ l, f x = g x) : l.map f = l.map g := List.map_congr_left h
/-- trains under a sweep -/
theorem tr_sweep : ∀ (f : Nat) (c : Nat) (k : Int) (L L' : List Int), TL c L L' → tr f k L' = (tr f k L).map fun t => (t.1, t.2 + min (c : Int) (t.1 - k + 1))
  | 0, _, _, _, _, _ => rfl
  | f + 1, 0, k, L, L', h => by
    rw [h.none rfl]
    have : ∀ t ∈ tr (f + 1) k L, (t.1, t.2 + min ((0 : Nat) : Int) (t.1 - k + 1)) = t := fun t m => by
      have := tr_fst _ _ _ t m
      rw [show min ((0 : Nat) : Int) (t.1 - k + 1) = 0 by omega, Int.add_zero]
    rw [map_same this, List.map_id']
  | f + 1, c + 1, k, L, L', h => by
    obtain ⟨K, tl, e1, e2, e3⟩ := cut_TL (Nat.succ_pos c) h
    show (if L' = [] then _ else _) = (if L = [] then _ else _ : List (Int × Int)).map _
    by_cases z : L = []
    · have z' : L' = [] := List.length_eq_zero_iff.mp (by rw [e3, z]; rfl)
      rw [if_pos z, if_pos z']
      rfl
    · have z' : ¬L' = [] := fun q => z (List.length_eq_zero_iff.mp (by rw [← e3, q]; rfl))
      rw [if_neg z, if_neg z', e1, e2, tr_shift, List.map_append, List.map_map, List.map_map]
      have tl' : TL c (cutL L 0).1 K := tl
      rw [tr_sweep f c (k + 1) _ _ tl', List.map_map]
      congr 1
      · refine map_same fun b _ => ?_
        show ((k, b + 1) : Int × Int) = (k, b + min ((c + 1 : Nat) : Int) (k - k + 1))
        rw [show min ((c + 1 : Nat) : Int) (k - k + 1) = 1 by omega]
      · refine map_same fun t m => ?_
        have := tr_fst _ _ _ t m
        show ((t.1, t.2 + min (c : Int) (t.1 - (k + 1) + 1) + 1) : Int × Int) = (t.1, t.2 + min ((c + 1 : Nat) : Int) (t.1 - k + 1))
        rw [show t.2 + min (c : Int) (t.1 - (k + 1) + 1) + 1 = t.2 + min ((c + 1 : Nat) : Int) (t.1 - k + 1) by omega]
/-- the trains of a plain row -/
def trL (L : List Int) : List (Int × Int) := tr L.length 1 L
theorem TL.len {c : Nat} {L L' : List Int} (h : TL c L L') : L'.length = L.length := by
  cases c with
  | zero => rw [h.none rfl]
  | succ c =>
    obtain ⟨_, _, _, _, e⟩ := cut_TL (Nat.succ_pos c) h
    exact e
theorem trL_sweep {c : Nat} {L L' : List Int} (h : TL c L L') : trL L' = (trL L).map fun t => (t.1, t.2 + min (c : Int) t.1) := by
  unfold trL
  rw [h.len, tr_sweep _ _ _ _ _ h]
  refine map_same fun t _ => ?_
  rw [show t.1 - 1 + 1 = t.1 by omega]
theorem tr_many : ∀ (f : Nat) (k : Int) (L : List Int), L.Pairwise (· < ·) → L.length ≤ f → (tr f k L).length = (rends L).length
  | 0, k, L, _, h => by
    have : L = [] := List.length_eq_zero_iff.mp (by omega)
    rw [this]
    rfl
  | f + 1, k, L, a, h => by
    show (if L = [] then [] else (ofs L).map (fun b => (k, b)) ++ tr f (k + 1) (cutL L 0).1).length = _
    by_cases z : L = []
    · rw [if_pos z, z]
      rfl
    · have lt := cut_lt z
      have p := (ofs_perm a).length_eq
      rw [List.length_append] at p
      rw [if_neg z, List.length_append, List.length_map, tr_many f (k + 1) _ (cut_up a).1 (by omega), ← cutL_snd L 0, ← p]
      omega
/-- the lengths add up -/
theorem tr_sum : ∀ (f : Nat) (k : Int) (L : List Int), L.Pairwise (· < ·) → L.length ≤ f → ((tr f k L).map fun t => t.1 - k + 1).sum = L.length
  | 0, k, L, _, h => by
    have : L = [] := List.length_eq_zero_iff.mp (by omega)
    rw [this]
    rfl
  | f + 1, k, L, a, h => by
    show ((if L = [] then [] else (ofs L).map (fun b => (k, b)) ++ tr f (k + 1) (cutL L 0).1).map fun t => t.1 - k + 1).sum = _
    by_cases z : L = []
    · rw [if_pos z, z]
      rfl
    · have lt := cut_lt z
      have p := (ofs_perm a).length_eq
      rw [List.length_append] at p
      have ih := tr_sum f (k + 1) _ (cut_up a).1 (show (cutL L 0).1.length ≤ f by omega)
      have mn := tr_many f (k + 1) _ (cut_up a).1 (show (cutL L 0).1.length ≤ f by omega)
      have cl := cutL_len L 0
      rw [if_neg z, List.map_append, List.map_map, List.sum_append]
      have s1 : ((ofs L).map ((fun t : Int × Int => t.1 - k + 1) ∘ fun b => (k, b))).sum = (ofs L).length := by
        generalize ofs L = M
        induction M with
        | nil => rfl
        | cons y M ih =>
          rw [List.map_cons, List.sum_cons, ih, List.length_cons]
          show k - k + 1 + (M.length : Int) = ((M.length + 1 : Nat) : Int)
          omega
      have s2 : ∀ M : List (Int × Int), (M.map fun t => t.1 - k + 1).sum = (M.map fun t => t.1 - (k + 1) + 1).sum + M.length := by
        intro M
        induction M with
        | nil => rfl
        | cons y M ih =>
          rw [List.map_cons, List.sum_cons, ih, List.map_cons, List.sum_cons, List.length_cons]
          omega
      rw [s1, s2, ih, mn]
      omega
theorem trL_sum {L : List Int} (a : L.Pairwise (· < ·)) : ((trL L).map Prod.fst).sum = L.length := by
  have := tr_sum L.length 1 L a (Nat.le_refl _)
  rw [← this]
  unfold trL
  congr 1
  exact map_same fun t _ => by omega
theorem trL_one {L : List Int} : ∀ t ∈ trL L, 1 ≤ t.1 := tr_fst _ _ _
end SR
set_option Elab.async false
set_option linter.all false
set_option maxRecDepth 100000
set_option maxHeartbeats 1000000
namespace SR
open PySem PySem.Spec PyProof.Rows L2
/-- the places where the removed pairs come back -/
def en : Int → List Int → List Int
  | _, [] => []
  | g, b :: B => (b + 2 * g) :: en (g + 1) B
/-- how many of the offsets are not behind i -/
def nLe (B : List Int) (i : Int) : Int := ((B.filter fun b => decide (b ≤ i)).length : Int)
theorem nLe_none {B : List Int} {i : Int} (h : ∀ b ∈ B, i < b) : nLe B i = 0 := by
  unfold nLe
  rw [List.filter_eq_nil_iff.mpr fun b m => by have := h b m; simp; omega]
  rfl
theorem nLe_cons {B : List Int} {b i : Int} (h : b ≤ i) : nLe (b :: B) i = nLe B i + 1 := by
  unfold nLe
  rw [List.filter_cons_of_pos (by simpa using h), List.length_cons]
  omega
theorem nLe_perm {B B' : List Int} (h : B.Perm B') (i : Int) : nLe B i = nLe B' i := by
  unfold nLe
  rw [(h.filter _).length_eq]
theorem uncut_word : ∀ (w : List Lx) (n g : Int), ((pos (bk w) n).map (fun i => i + 2 * (g + nLe (marks w n) i)) ++ en g (marks w n)).Perm (pos (bw w) (n + 2 * g))
  | [], _, _ => .nil
  | .z :: w, n, g => by
    have := uncut_word w (n + 1) g
    rw [show n + 1 + 2 * g = n + 2 * g + 1 by omega] at this
    exact this
  | .o :: w, n, g => by
    have := uncut_word w (n + 1) g
    rw [show n + 1 + 2 * g = n + 2 * g + 1 by omega] at this
    show ((n + 2 * (g + nLe (marks w (n + 1)) n)) :: (pos (bk w) (n + 1)).map (fun i => i + 2 * (g + nLe (marks w (n + 1)) i)) ++ en g (marks w (n + 1))).Perm ((n + 2 * g) :: pos (bw w) (n + 2 * g + 1))
    rw [nLe_none fun b m => by have := marks_ge w (n + 1) b m; omega, show n + 2 * (g + 0) = n + 2 * g by omega]
    exact this.cons _
  | .m :: w, n, g => by
    have := uncut_word w n (g + 1)
    rw [show n + 2 * (g + 1) = n + 2 * g + 1 + 1 by omega] at this
    show ((pos (bk w) n).map (fun i => i + 2 * (g + nLe (n :: marks w n) i)) ++ ((n + 2 * g) :: en (g + 1) (marks w n))).Perm ((n + 2 * g) :: pos (bw w) (n + 2 * g + 1 + 1))
    have e : (pos (bk w) n).map (fun i => i + 2 * (g + nLe (n :: marks w n) i)) = (pos (bk w) n).map (fun i => i + 2 * (g + 1 + nLe (marks w n) i)) := map_same fun i m => by
      rw [nLe_cons (pos_ge _ _ i m)]
      omega
    rw [e]
    exact List.perm_middle.trans (this.cons _)
/-- the row again from what its cut left and the offsets -/
theorem uncut_ok {L : List Int} (a : L.Pairwise (· < ·)) : ((cutL L 0).1.map (fun i => i + 2 * nLe (cutL L 0).2 i) ++ en 0 (cutL L 0).2).Perm L := by
  obtain ⟨w, p, g, e, c⟩ := cut_wordE a
  have := uncut_word w p 0
  rw [show p + 2 * 0 = p by omega, ← e] at this
  rw [c]
  have e2 : (pos (bk w) p).map (fun i => i + 2 * nLe (marks w p) i) = (pos (bk w) p).map (fun i => i + 2 * (0 + nLe (marks w p) i)) := map_same fun i _ => by rw [Int.zero_add]
  rw [e2]
  exact this
/-- what is left after so many cuts -/
def cuts : Nat → List Int → List Int
  | 0, L => L
  | j + 1, L => cuts j (cutL L 0).1
theorem cuts_succ : ∀ (j : Nat) (L : List Int), cuts (j + 1) L = (cutL (cuts j L) 0).1
  | 0, _ => rfl
  | j + 1, L => cuts_succ j (cutL L 0).1
theorem cuts_nil : ∀ j : Nat, cuts j [] = []
  | 0 => rfl
  | j + 1 => cuts_nil j
theorem cuts_asc : ∀ (j : Nat) {L : List Int}, L.Pairwise (· < ·) → (cuts j L).Pairwise (· < ·)
  | 0, _, a => a
  | j + 1, _, a => cuts_asc j (cut_up a).1
theorem cuts_len : ∀ (j : Nat) (L : List Int), (cuts j L).length ≤ L.length
  | 0, _ => Nat.le_refl _
  | j + 1, L => by
    have a := cuts_len j (cutL L 0).1
    have b := cutL_len L 0
    show (cuts j (cutL L 0).1).length ≤ _
    omega
/-- the offsets of the trains of one length -/
def bg (ts : List (Int × Int)) (j : Int) : List Int := (ts.filter fun t => decide (t.1 = j)).map Prod.snd
theorem bg_app (a b : List (Int × Int)) (j : Int) : bg (a ++ b) j = bg a j ++ bg b j := by
  unfold bg
  rw [List.filter_append, List.map_append]
theorem bg_same (B : List Int) (k : Int) : bg (B.map fun b => (k, b)) k = B := by
  induction B with
  | nil => rfl
  | cons b B ih =>
    unfold bg at ih ⊢
    rw [List.map_cons, List.filter_cons_of_pos (by simp), List.map_cons, ih]
theorem bg_none {ts : List (Int × Int)} {j : Int} (h : ∀ t ∈ ts, t.1 ≠ j) : bg ts j = [] := by
  unfold bg
  rw [List.filter_eq_nil_iff.mpr fun t m => by simpa using h t m]
  rfl
theorem tr_bg : ∀ (f : Nat) (k : Int) (L : List Int) (j : Nat), L.length ≤ f → bg (tr f k L) (k + j) = ofs (cuts j L)
  | 0, k, L, j, h => by
    have : L = [] := List.length_eq_zero_iff.mp (by omega)
    rw [this, cuts_nil]
    rfl
  | f + 1, k, L, j, h => by
    show bg (if L = [] then [] else (ofs L).map (fun b => (k, b)) ++ tr f (k + 1) (cutL L 0).1) (k + j) = _
    by_cases z : L = []
    · rw [if_pos z, z, cuts_nil]
      rfl
    · have lt := cut_lt z
      rw [if_neg z, bg_app]
      cases j with
      | zero =>
        rw [show k + ((0 : Nat) : Int) = k by omega, bg_same, bg_none fun t m => by have := tr_fst _ _ _ t m; omega, List.append_nil]
        rfl
      | succ j =>
        rw [bg_none (ts := (ofs L).map fun b => (k, b)) fun t m => by
          obtain ⟨b, _, rfl⟩ := List.mem_map.mp m
          show k ≠ k + ((j + 1 : Nat) : Int)
          omega, List.nil_append]
        have := tr_bg f (k + 1) (cutL L 0).1 j (by omega)
        rw [show k + 1 + (j : Int) = k + ((j + 1 : Nat) : Int) by omega] at this
        exact this
theorem trL_bg (L : List Int) (j : Nat) : bg (trL L) ((j : Int) + 1) = ofs (cuts j L) := by
  have := tr_bg L.length 1 L j (Nat.le_refl _)
  rw [show (1 : Int) + j = j + 1 by omega] at this
  exact this
theorem tr_lt : ∀ (f : Nat) (k : Int) (L : List Int) (j : Nat), L.Pairwise (· < ·) → L.length ≤ f → cuts j L ≠ [] → ∃ t ∈ tr f k L, k + j ≤ t.1
  | 0, k, L, j, _, h, n => by
    have : L = [] := List.length_eq_zero_iff.mp (by omega)
    rw [this, cuts_nil] at n
    exact absurd rfl n
  | f + 1, k, L, 0, a, h, n => by
    have l := tr_many (f + 1) k L a h
    have p := rends_pos (L := L) n
    cases e : tr (f + 1) k L with
    | nil =>
      rw [e] at l
      have : (0 : Nat) = (rends L).length := l
      omega
    | cons t ts =>
      refine ⟨t, List.mem_cons_self, ?_⟩
      have := tr_fst (f + 1) k L t (by rw [e]; exact List.mem_cons_self)
      omega
  | f + 1, k, L, j + 1, a, h, n => by
    have z : L ≠ [] := fun z => by
      rw [z, cuts_nil] at n
      exact n rfl
    have lt := cut_lt z
    obtain ⟨t, m, b⟩ := tr_lt f (k + 1) (cutL L 0).1 j (cut_up a).1 (by omega) n
    refine ⟨t, ?_, by omega⟩
    show t ∈ (if L = [] then [] else (ofs L).map (fun b => (k, b)) ++ tr f (k + 1) (cutL L 0).1)
    rw [if_neg z]
    exact List.mem_append_right _ m
/-- no box is left behind the longest train's cuts -/
theorem cuts_end {L : List Int} (a : L.Pairwise (· < ·)) {m : Nat} (h : ∀ t ∈ trL L, t.1 ≤ m) : cuts m L = [] := by
  refine Classical.byContradiction fun n => ?_
  obtain ⟨t, mt, b⟩ := tr_lt L.length 1 L m a (Nat.le_refl _) n
  have := h t mt
  omega
theorem vd_ones {cs : List (Int × Int)} (v : Vd cs []) : cs = ones (cs.map Prod.fst) := ones_of fun p m => by
  have a := v.ok.po p m
  have b : p.2 ≤ 1 := a.2
  omega
theorem vd_asc {cs ks : List (Int × Int)} (v : Vd cs ks) : (cs.map Prod.fst).Pairwise (· < ·) := List.pairwise_map.mpr v.ap
/-- the places of the plain form -/
noncomputable def plL {ks : List (Int × Int)} (p : Rws ks) : List Int := (plainF ks p.1).map Prod.fst
theorem plL_ones {ks : List (Int × Int)} (p : Rws ks) : plainF ks p.1 = ones (plL p) := vd_ones (plain_vd p.2).1
theorem plL_asc {ks : List (Int × Int)} (p : Rws ks) : (plL p).Pairwise (· < ·) := vd_asc (plain_vd p.2).1
theorem plL_len {ks : List (Int × Int)} (p : Rws ks) : ((plL p).length : Int) = total p.1 := by
  have h := (plain_vd p.2).2
  rw [plL_ones p] at h
  rw [← h]
  unfold total
  rw [ones_sum]
theorem plL_40 {ks : List (Int × Int)} (p : Rws ks) : (plL p).length ≤ 40 := by
  have a := plL_len p
  have b : total p.1 ≤ 40 := p.2.ok.sm
  omega
/-- the trains of any row -/
noncomputable def trP {ks : List (Int × Int)} (p : Rws ks) : List (Int × Int) := trL (plL p)
/-- trains moved: so many sweeps of a carrier of capacity c -/
def mvT (c n : Int) (ts : List (Int × Int)) : List (Int × Int) := ts.map fun t => (t.1, t.2 + n * min c t.1)
theorem mvT_mvT (c n m : Int) (ts : List (Int × Int)) : mvT c n (mvT c m ts) = mvT c (m + n) ts := by
  unfold mvT
  rw [List.map_map]
  refine map_same fun t _ => ?_
  show ((t.1, t.2 + m * min c t.1 + n * min c t.1) : Int × Int) = (t.1, t.2 + (m + n) * min c t.1)
  rw [Int.add_mul]
  congr 1
  omega
theorem mvT_0 (c : Int) (ts : List (Int × Int)) : mvT c 0 ts = ts := by
  unfold mvT
  have : ∀ t ∈ ts, ((t.1, t.2 + 0 * min c t.1) : Int × Int) = t := fun t _ => by rw [Int.zero_mul, Int.add_zero]
  rw [map_same this, List.map_id']
theorem tl_of {c : Int} (c1 : 1 ≤ c) {p q : Rws []} (h : Sw [] c p.1 q.1) : TL c.toNat (p.1.map Prod.fst) (q.1.map Prod.fst) := by
  refine ⟨vd_asc p.2, vd_asc q.2, fun z => by omega, fun _ => ?_⟩
  rw [← vd_ones p.2, ← vd_ones q.2, show ((c.toNat : Nat) : Int) = c by omega]
  exact h
theorem plain_plL {ks : List (Int × Int)} (p : Rws ks) : plL p = (plainP p).1.map Prod.fst := rfl
theorem trP_sw {ks : List (Int × Int)} {c : Int} (c1 : 1 ≤ c) {p q : Rws ks} (h : Sw ks c p.1 q.1) : trP q = mvT c 1 (trP p) := by
  have s := plain_sw c1 p.2 q.2 h
  have t := trL_sweep (tl_of c1 (p := plainP p) (q := plainP q) s)
  unfold trP mvT
  rw [plain_plL, plain_plL, t]
  refine map_same fun t _ => ?_
  rw [show ((c.toNat : Nat) : Int) = c by omega, Int.one_mul]
theorem trP_fn {ks : List (Int × Int)} {c : Int} (c1 : 1 ≤ c) (b : Bool) (p : Rws ks) : trP (Fn (c, b) p) = mvT c (if b then -1 else 1) (trP p) := by
  have h := (fn_is c1 b p).1
  unfold Tn at h
  cases b with
  | false => exact trP_sw c1 h
  | true =>
    have e := trP_sw c1 (p := Fn (c, true) p) (q := p) h
    show trP (Fn (c, true) p) = mvT c (-1) (trP p)
    rw [e, mvT_mvT]
    exact (mvT_0 c _).symm
end SR
set_option Elab.async false
set_option linter.all false
set_option maxRecDepth 100000
set_option maxHeartbeats 2000000
namespace SR
/-- for each j: the best of at most j stretches -/
abbrev Sq := Nat → Int
def mn (j n : Nat) : Int := if j ≤ n then j else n
/-- m: the best so far; u: the best if the next box is taken in -/
def fullS (s : Sq × Sq) : Sq × Sq := (fun j => match j with | 0 => 0 | j + 1 => max (s.1 (j + 1)) (1 + s.2 j), fun j => 1 + s.2 j)
def gapS (g : Int) (s : Sq × Sq) : Sq × Sq := (s.1, fun j => max (s.2 j - g) (s.1 j))
def zeS : Sq × Sq := (fun _ => 0, fun _ => 0)
def dpB : List Bool → Sq × Sq → Sq × Sq
  | [], s => s
  | true :: bs, s => dpB bs (fullS s)
  | false :: bs, s => dpB bs (gapS 1 s)
structure GdS (s : Sq × Sq) : Prop where
  m0 : s.1 0 = 0
  mm : ∀ j, s.1 j ≤ s.1 (j + 1)
  uu : ∀ j, s.2 j ≤ s.2 (j + 1)
  le : ∀ j, s.1 j ≤ s.2 j
  up : ∀ j, s.2 j ≤ s.1 (j + 1)
theorem GdS.ze : GdS zeS := ⟨rfl, fun _ => Int.le_refl _, fun _ => Int.le_refl _, fun _ => Int.le_refl _, fun _ => Int.le_refl _⟩
theorem GdS.pos {s : Sq × Sq} (g : GdS s) : ∀ j, 0 ≤ s.1 j
  | 0 => by rw [g.m0]; exact Int.le_refl _
  | j + 1 => Int.le_trans (g.pos j) (g.mm j)
theorem full_m {s : Sq × Sq} (j : Nat) : (fullS s).1 (j + 1) = max (s.1 (j + 1)) (1 + s.2 j) := rfl
theorem full_0 {s : Sq × Sq} : (fullS s).1 0 = 0 := rfl
theorem full_u {s : Sq × Sq} (j : Nat) : (fullS s).2 j = 1 + s.2 j := rfl
theorem gap_m {s : Sq × Sq} {g : Int} (j : Nat) : (gapS g s).1 j = s.1 j := rfl
theorem gap_u {s : Sq × Sq} {g : Int} (j : Nat) : (gapS g s).2 j = max (s.2 j - g) (s.1 j) := rfl
theorem GdS.full {s : Sq × Sq} (g : GdS s) : GdS (fullS s) := by
  refine ⟨rfl, fun j => ?_, fun j => ?_, fun j => ?_, fun j => ?_⟩
  · cases j with
    | zero =>
      rw [full_0, full_m]
      have := g.pos (0 + 1)
      omega
    | succ j =>
      rw [full_m, full_m]
      have := g.mm (j + 1)
      have := g.uu j
      omega
  · rw [full_u, full_u]
    have := g.uu j
    omega
  · cases j with
    | zero =>
      rw [full_0, full_u]
      have := g.le 0
      have := g.m0
      omega
    | succ j =>
      rw [full_m, full_u]
      have := g.le (j + 1)
      have := g.uu j
      omega
  · rw [full_u, full_m]
    omega
theorem GdS.gap {s : Sq × Sq} (g : GdS s) {k : Int} (k0 : 0 ≤ k) : GdS (gapS k s) := by
  refine ⟨g.m0, g.mm, fun j => ?_, fun j => ?_, fun j => ?_⟩
  · rw [gap_u, gap_u]
    have := g.uu j
    have := g.mm j
    omega
  · rw [gap_m, gap_u]
    omega
  · rw [gap_u, gap_m]
    have := g.up j
    have := g.mm j
    omega
/-- a row's state against its cut's -/
structure Rl (n : Nat) (out : Bool) (a b : Sq × Sq) : Prop where
  ga : GdS a
  gb : GdS b
  u : ∀ j, a.2 j = b.2 j + mn j n
  mm : ∃ m0 : Sq, (∀ j, b.1 (j + 1) = max (m0 (j + 1)) (b.2 j)) ∧ (∀ j, a.1 (j + 1) = max (m0 (j + 1) + mn (j + 1) n) (a.2 j)) ∧ ∀ j, n ≤ j → m0 (j + 1) ≤ b.2 j
  flat : ∀ j, n ≤ j → b.2 (j + 1) = b.2 j
  outs : out = true → (∀ j, a.1 j = b.1 j + mn j n) ∧ ∀ j, n ≤ j → b.1 (j + 1) = b.1 j
theorem mn_le {j n : Nat} (h : j ≤ n) : mn j n = j := if_pos h
theorem mn_ge {j n : Nat} (h : n ≤ j) : mn j n = n := by
  unfold mn
  split <;> omega
theorem Rl.start : Rl 0 true zeS zeS := by
  have z : ∀ j, mn j 0 = 0 := fun j => mn_ge (Nat.zero_le _)
  refine ⟨.ze, .ze, fun j => ?_, ⟨fun _ => 0, fun j => ?_, fun j => ?_, fun j _ => ?_⟩, fun j _ => rfl, fun _ => ⟨fun j => ?_, fun j _ => rfl⟩⟩
  · rw [z]; rfl
  · rfl
  · rw [z]; rfl
  · exact Int.le_refl _
  · rw [z]; rfl
theorem Rl.o {n : Nat} {out : Bool} {a b : Sq × Sq} (r : Rl n out a b) : Rl n false (fullS a) (fullS b) := by
  obtain ⟨m0, e1, e2, e3⟩ := r.mm
  refine ⟨r.ga.full, r.gb.full, fun j => ?_, ⟨m0, fun j => ?_, fun j => ?_, fun j h => ?_⟩, fun j h => ?_, fun z => by cases z⟩
  · rw [full_u, full_u, r.u]
    omega
  · rw [full_m, full_u, e1]
    omega
  · rw [full_m, full_u, e2]
    omega
  · rw [full_u]
    have := e3 j h
    omega
  · rw [full_u, full_u, r.flat j h]
theorem Rl.m {n : Nat} {out : Bool} {a b : Sq × Sq} (r : Rl n out a b) : Rl (n + 1) true (gapS 1 (fullS a)) b := by
  obtain ⟨m0, e1, e2, e3⟩ := r.mm
  have g' : GdS (gapS 1 (fullS a)) := r.ga.full.gap (by decide)
  have mo : ∀ j, (gapS 1 (fullS a)).1 j = b.1 j + mn j (n + 1) := fun j => by
    rw [gap_m]
    cases j with
    | zero =>
      rw [full_0, r.gb.m0, mn_le (Nat.zero_le _)]
      rfl
    | succ j =>
      rw [full_m, e2, e1, r.u]
      by_cases h : j < n
      · rw [mn_le (show j + 1 ≤ n from h), mn_le (show j + 1 ≤ n + 1 by omega), mn_le (show j ≤ n by omega)]
        omega
      · have := e3 j (by omega)
        rw [mn_ge (show n ≤ j + 1 by omega), mn_ge (show n + 1 ≤ j + 1 by omega), mn_ge (show n ≤ j by omega)]
        omega
  have fl : ∀ j, n + 1 ≤ j → b.1 (j + 1) = b.2 j ∧ b.1 (j + 1) = b.1 j := fun j h => by
    match j, h with
    | i + 1, h =>
      have h1 := e1 (i + 1)
      have h2 := e1 i
      have h3 := e3 (i + 1) (by omega)
      have h4 := e3 i (by omega)
      have h5 := r.flat i (by omega)
      constructor <;> omega
  refine ⟨g', r.gb, fun j => ?_, ⟨b.1, fun j => ?_, fun j => ?_, fun j h => ?_⟩, fun j h => r.flat j (by omega), fun _ => ⟨mo, fun j h => (fl j h).2⟩⟩
  · have h1 := mo j
    rw [gap_m] at h1
    rw [gap_u, full_u]
    cases j with
    | zero =>
      have := r.ga.le 0
      have h2 := r.u 0
      rw [mn_le (Nat.zero_le _)] at h2 ⊢
      have := r.ga.m0
      rw [full_0] at h1 ⊢
      omega
    | succ j =>
      rw [full_m]
      have h2 := r.u (j + 1)
      have h3 := r.u j
      have h4 := r.ga.le (j + 1)
      have h5 := r.gb.uu j
      by_cases h : j < n
      · rw [mn_le (show j + 1 ≤ n from h)] at h2
        rw [mn_le (show j ≤ n by omega)] at h3
        rw [mn_le (show j + 1 ≤ n + 1 by omega)]
        omega
      · have h6 := r.flat j (by omega)
        rw [mn_ge (show n ≤ j + 1 by omega)] at h2
        rw [mn_ge (show n ≤ j by omega)] at h3
        rw [mn_ge (show n + 1 ≤ j + 1 by omega)]
        omega
  · have := r.gb.up j
    omega
  · have h1 := g'.up j
    have h2 := mo (j + 1)
    omega
  · have := (fl j h).1
    omega
theorem Rl.z {n : Nat} {a b : Sq × Sq} (r : Rl n true a b) : Rl n true (gapS 1 a) (gapS 1 b) := by
  obtain ⟨o1, o2⟩ := r.outs rfl
  have ga' := r.ga.gap (k := 1) (by decide)
  have gb' := r.gb.gap (k := 1) (by decide)
  refine ⟨ga', gb', fun j => ?_, ⟨b.1, fun j => ?_, fun j => ?_, fun j h => ?_⟩, fun j h => ?_, fun _ => ⟨fun j => ?_, fun j h => ?_⟩⟩
  · rw [gap_u, gap_u, r.u, o1]
    omega
  · have := gb'.up j
    rw [gap_m] at this ⊢
    omega
  · have h1 := ga'.up j
    have h2 := o1 (j + 1)
    rw [gap_m] at h1 ⊢
    omega
  · rw [gap_u]
    have := o2 j h
    omega
  · rw [gap_u, gap_u, r.flat j h, o2 j h]
  · rw [gap_m, gap_m]
    exact o1 j
  · rw [gap_m, gap_m]
    exact o2 j h
theorem marks_n (w : List Lx) : ∀ p q : Int, (marks w p).length = (marks w q).length := by
  induction w with
  | nil => exact fun _ _ => rfl
  | cons x w ih =>
    intro p q
    cases x with
    | z => exact ih _ _
    | o => exact ih _ _
    | m =>
      show (marks w p).length + 1 = (marks w q).length + 1
      rw [ih p q]
theorem dp_cut : ∀ (w : List Lx) (n : Nat) (out : Bool) (a b : Sq × Sq), gdB w = true → (out = true ∨ hdB w = true) → Rl n out a b → ∀ j, (dpB (bw w) a).1 j = (dpB (bk w) b).1 j + mn j (n + (marks w 0).length)
  | [], n, out, a, b, _, ho, r, j => (r.outs (ho.resolve_right (fun z => by cases z))).1 j
  | .z :: w, n, out, a, b, g, ho, r, j => by
    have e : out = true := ho.resolve_right (fun z => by cases z)
    subst e
    have := dp_cut w n true (gapS 1 a) (gapS 1 b) g (.inl rfl) r.z j
    show (dpB (bw w) (gapS 1 a)).1 j = (dpB (bk w) (gapS 1 b)).1 j + mn j (n + (marks w (0 + 1)).length)
    rw [marks_n w (0 + 1) 0]
    exact this
  | .o :: w, n, out, a, b, g, ho, r, j => by
    obtain ⟨g1, g2⟩ := Bool.and_eq_true_iff.mp (show (hdB w && gdB w) = true from g)
    have := dp_cut w n false (fullS a) (fullS b) g2 (.inr g1) r.o j
    show (dpB (bw w) (fullS a)).1 j = (dpB (bk w) (fullS b)).1 j + mn j (n + (marks w (0 + 1)).length)
    rw [marks_n w (0 + 1) 0]
    exact this
  | .m :: w, n, out, a, b, g, ho, r, j => by
    have := dp_cut w (n + 1) true (gapS 1 (fullS a)) b g (.inl rfl) r.m j
    show (dpB (bw w) (gapS 1 (fullS a))).1 j = (dpB (bk w) b).1 j + mn j (n + ((marks w 0).length + 1))
    rw [show n + ((marks w 0).length + 1) = n + 1 + (marks w 0).length by omega]
    exact this
def dpP : List Int → Int → Sq × Sq → Sq × Sq
  | [], _, s => s
  | x :: xs, q, s => dpP xs (x + 1) (fullS (gapS (x - q) s))
theorem gap_0 {s : Sq × Sq} (g : GdS s) : gapS 0 s = s := by
  have : (gapS 0 s).2 = s.2 := funext fun j => by
    rw [gap_u]
    have := g.le j
    omega
  show (s.1, (gapS 0 s).2) = s
  rw [this]
theorem gap_add {s : Sq × Sq} {g : Int} (k : Int) (g0 : 0 ≤ g) (k0 : 0 ≤ k) : gapS k (gapS g s) = gapS (g + k) s := by
  show ((s.1, (gapS k (gapS g s)).2) : Sq × Sq) = (s.1, (gapS (g + k) s).2)
  congr 1
  funext j
  rw [gap_u, gap_u, gap_u, gap_m]
  omega
theorem dp_bits : ∀ (bs : List Bool) (p q : Int) (s : Sq × Sq), GdS s → q ≤ p → (dpB bs (gapS (p - q) s)).1 = (dpP (pos bs p) q s).1
  | [], _, _, _, _, _ => rfl
  | true :: bs, p, q, s, g, h => by
    have g1 := (g.gap (k := p - q) (by omega)).full
    have := dp_bits bs (p + 1) (p + 1) (fullS (gapS (p - q) s)) g1 (Int.le_refl _)
    rw [Int.sub_self, gap_0 g1] at this
    exact this
  | false :: bs, p, q, s, g, h => by
    have := dp_bits bs (p + 1) q s g (by omega)
    show (dpB bs (gapS 1 (gapS (p - q) s))).1 = (dpP (pos bs (p + 1)) q s).1
    rw [gap_add 1 (by omega) (by decide), show p - q + 1 = p + 1 - q by omega]
    exact this
/-- the best of at most j stretches of a plain row -/
def bst (L : List Int) : Sq := (dpP L (L.headD 0) zeS).1
theorem gap_ze {g : Int} (g0 : 0 ≤ g) : gapS g zeS = zeS := by
  show ((fun _ => (0 : Int), fun j => max ((0 : Int) - g) 0) : Sq × Sq) = (fun _ => 0, fun _ => 0)
  congr 1
  funext j
  omega
theorem bst_at {L : List Int} {q : Int} (h : ∀ y ∈ L, q ≤ y) : (dpP L q zeS).1 = bst L := by
  cases L with
  | nil => rfl
  | cons x xs =>
    show (dpP xs (x + 1) (fullS (gapS (x - q) zeS))).1 = (dpP xs (x + 1) (fullS (gapS (x - x) zeS))).1
    rw [gap_ze (by have := h x List.mem_cons_self; omega), gap_ze (by omega)]
theorem bst_bits (bs : List Bool) (p : Int) : (dpB bs zeS).1 = bst (pos bs p) := by
  have := dp_bits bs p p zeS .ze (Int.le_refl _)
  rw [Int.sub_self, gap_0 .ze, bst_at (pos_ge bs p)] at this
  exact this
theorem bst_cut {L : List Int} (a : L.Pairwise (· < ·)) (j : Nat) : bst L j = bst (cutL L 0).1 j + mn j (rends L).length := by
  obtain ⟨w, p, g, e1, e2⟩ := cut_wordE a
  have h := dp_cut w 0 true zeS zeS g (.inl rfl) .start j
  have l : (rends L).length = (marks w 0).length := by
    rw [← cutL_snd L 0, e2]
    exact marks_n w _ _
  rw [bst_bits _ p, bst_bits _ p, ← e1, Nat.zero_add, ← l] at h
  rw [h, e2]
def dlen : Nat → List Int → List Int
  | 0, _ => []
  | f + 1, L => if L = [] then [] else (dlen f (cutL L 0).1).map (· + 1) ++ List.replicate (ofs L).length 1
theorem dlen_perm : ∀ (f : Nat) (k : Int) (L : List Int), (dlen f L).Perm ((tr f k L).map fun t => t.1 - k + 1)
  | 0, _, _ => .nil
  | f + 1, k, L => by
    show (if L = [] then _ else _ : List Int).Perm ((if L = [] then _ else _ : List (Int × Int)).map _)
    by_cases z : L = []
    · rw [if_pos z, if_pos z]
      exact .nil
    · rw [if_neg z, if_neg z, List.map_append]
      have h := (dlen_perm f (k + 1) (cutL L 0).1).map (· + 1)
      rw [List.map_map] at h
      have e1 : ((fun x : Int => x + 1) ∘ fun t : Int × Int => t.1 - (k + 1) + 1) = fun t => t.1 - k + 1 := by
        funext t
        show t.1 - (k + 1) + 1 + 1 = t.1 - k + 1
        omega
      rw [e1] at h
      have e2 : ((ofs L).map fun b => (k, b)).map (fun t : Int × Int => t.1 - k + 1) = List.replicate (ofs L).length 1 := by
        rw [List.map_map]
        have : ((fun t : Int × Int => t.1 - k + 1) ∘ fun b : Int => (k, b)) = fun _ => 1 := by
          funext b
          show k - k + 1 = 1
          omega
        rw [this, List.map_const']
      rw [e2]
      exact List.perm_append_comm.trans (h.append_left _)
theorem dlen_one : ∀ (f : Nat) (L : List Int), ∀ x ∈ dlen f L, 1 ≤ x
  | 0, _, _, m => nomatch m
  | f + 1, L, x, m => by
    rw [show dlen (f + 1) L = if L = [] then [] else (dlen f (cutL L 0).1).map (· + 1) ++ List.replicate (ofs L).length 1 from rfl] at m
    by_cases z : L = []
    · rw [if_pos z] at m
      cases m
    · rw [if_neg z] at m
      rcases List.mem_append.mp m with m | m
      · obtain ⟨y, hy, rfl⟩ := List.mem_map.mp m
        have := dlen_one f _ y hy
        show 1 ≤ y + 1
        omega
      · rw [List.eq_of_mem_replicate m]
        exact Int.le_refl _
theorem dlen_desc : ∀ (f : Nat) (L : List Int), (dlen f L).Pairwise (fun x y => y ≤ x)
  | 0, _ => .nil
  | f + 1, L => by
    show (if L = [] then _ else _ : List Int).Pairwise _
    by_cases z : L = []
    · rw [if_pos z]
      exact .nil
    · rw [if_neg z]
      refine List.pairwise_append.mpr ⟨List.pairwise_map.mpr ((dlen_desc f _).imp fun h => by omega), ?_, fun x hx y hy => ?_⟩
      · exact List.pairwise_replicate.mpr (.inr (Int.le_refl _))
      · obtain ⟨v, hv, rfl⟩ := List.mem_map.mp hx
        have := dlen_one f _ v hv
        rw [List.eq_of_mem_replicate hy]
        omega
theorem dlen_len {f : Nat} {L : List Int} (a : L.Pairwise (· < ·)) (h : L.length ≤ f) : (dlen f L).length = (rends L).length := by
  rw [(dlen_perm f 1 L).length_eq, List.length_map, tr_many f 1 L a h]
theorem take_rep (j b : Nat) : ((List.replicate b (1 : Int)).take j).sum = mn j b := by
  induction b generalizing j with
  | zero =>
    rw [List.replicate_zero, List.take_nil, mn_ge (Nat.zero_le _)]
    rfl
  | succ b ih =>
    cases j with
    | zero => rfl
    | succ j =>
      rw [List.replicate_succ, List.take_succ_cons, List.sum_cons, ih]
      unfold mn
      split <;> split <;> omega
theorem take_up : ∀ (A : List Int) (b j : Nat), (((A.map (· + 1)) ++ List.replicate b 1).take j).sum = (A.take j).sum + mn j (A.length + b)
  | [], b, j => by
    rw [List.map_nil, List.nil_append, take_rep, List.take_nil, List.length_nil, Nat.zero_add]
    simp
  | x :: A, b, 0 => by
    rw [List.take_zero, List.take_zero, mn_le (Nat.zero_le _)]
    rfl
  | x :: A, b, j + 1 => by
    rw [List.map_cons, List.cons_append, List.take_succ_cons, List.sum_cons, take_up A b j, List.take_succ_cons, List.sum_cons, List.length_cons]
    unfold mn
    split <;> split <;> omega
theorem bst_len : ∀ (f : Nat) (L : List Int), L.Pairwise (· < ·) → L.length ≤ f → ∀ j, bst L j = ((dlen f L).take j).sum
  | 0, L, _, h, j => by
    have : L = [] := List.length_eq_zero_iff.mp (by omega)
    rw [this]
    show (0 : Int) = (([] : List Int).take j).sum
    rw [List.take_nil]
    rfl
  | f + 1, L, a, h, j => by
    by_cases z : L = []
    · subst z
      show (0 : Int) = ((if ([] : List Int) = [] then [] else _ : List Int).take j).sum
      rw [if_pos rfl, List.take_nil]
      rfl
    · have lt := cut_lt z
      have l1 := dlen_len a h
      have e : dlen (f + 1) L = (dlen f (cutL L 0).1).map (· + 1) ++ List.replicate (ofs L).length 1 := if_neg z
      rw [bst_cut a, bst_len f _ (cut_up a).1 (by omega), ← l1, e, take_up, List.length_append, List.length_map, List.length_replicate]
end SR
set_option Elab.async false
set_option linter.all false
set_option maxRecDepth 100000
set_option maxHeartbeats 1000000
namespace SR
open PySem PySem.Spec PyProof.Rows L2
def pkB (c : Nat) : Nat → List Bool → Int
  | _, [] => 0
  | u, true :: bs => if u < c then 1 + pkB c (u + 1) bs else pkB c u bs
  | u, false :: bs => pkB c (u - 1) bs
theorem pkB_t {c u : Nat} {bs : List Bool} (h : u < c) : pkB c u (true :: bs) = 1 + pkB c (u + 1) bs := if_pos h
theorem pkB_tf {c u : Nat} {bs : List Bool} (h : ¬u < c) : pkB c u (true :: bs) = pkB c u bs := if_neg h
theorem pkB_0 : ∀ bs : List Bool, pkB 0 0 bs = 0
  | [] => rfl
  | true :: bs => by rw [pkB_tf (Nat.lt_irrefl 0), pkB_0 bs]
  | false :: bs => pkB_0 bs
def mk : List Lx → Int
  | [] => 0
  | .z :: w => mk w
  | .o :: w => mk w
  | .m :: w => 1 + mk w
theorem mk_len : ∀ (w : List Lx) (n : Int), ((marks w n).length : Int) = mk w
  | [], _ => rfl
  | .z :: w, n => mk_len w (n + 1)
  | .o :: w, n => mk_len w (n + 1)
  | .m :: w, n => by
    have := mk_len w n
    show ((((marks w n).length + 1 : Nat)) : Int) = 1 + mk w
    omega
/-- a carrier of the capacity c on a word, and one of the capacity c - 1 on its cut -/
theorem pk_cut {c : Nat} (c1 : 1 ≤ c) : ∀ w : List Lx, gdB w = true → (∀ u, u < c → pkB c u (bw w) = mk w + pkB (c - 1) u (bk w)) ∧ (hdB w = true → pkB c c (bw w) + 1 = mk w + pkB (c - 1) (c - 1) (bk w))
  | [], _ => ⟨fun _ _ => rfl, fun z => nomatch z⟩
  | .z :: w, g => ⟨fun u h => (pk_cut c1 w g).1 (u - 1) (by omega), fun z => nomatch z⟩
  | .o :: w, g => by
    have g : (hdB w && gdB w) = true := g
    rw [Bool.and_eq_true] at g
    obtain ⟨a, b⟩ := pk_cut c1 w g.2
    have b := b g.1
    refine ⟨fun u h => ?_, fun _ => ?_⟩
    · show pkB c u (true :: bw w) = mk w + pkB (c - 1) u (true :: bk w)
      rw [pkB_t h]
      by_cases z : u < c - 1
      · rw [pkB_t z, a (u + 1) (by omega)]
        omega
      · obtain rfl : u = c - 1 := by omega
        rw [pkB_tf z, show c - 1 + 1 = c by omega]
        omega
    · show pkB c c (true :: bw w) + 1 = mk w + pkB (c - 1) (c - 1) (true :: bk w)
      rw [pkB_tf (Nat.lt_irrefl c), pkB_tf (Nat.lt_irrefl (c - 1)), b]
  | .m :: w, g => by
    obtain ⟨a, _⟩ := pk_cut c1 w g
    refine ⟨fun u h => ?_, fun _ => ?_⟩
    · show pkB c u (true :: false :: bw w) = 1 + mk w + pkB (c - 1) u (bk w)
      rw [pkB_t h]
      show 1 + pkB c (u + 1 - 1) (bw w) = _
      rw [Nat.add_sub_cancel, a u h]
      omega
    · show pkB c c (true :: false :: bw w) + 1 = 1 + mk w + pkB (c - 1) (c - 1) (bk w)
      rw [pkB_tf (Nat.lt_irrefl c)]
      show pkB c (c - 1) (bw w) + 1 = _
      rw [a (c - 1) (by omega)]
      omega
theorem pkB_none : ∀ (c u : Nat) (bs : List Bool) (p : Int), pos bs p = [] → pkB c u bs = 0
  | _, _, [], _, _ => rfl
  | c, u, false :: bs, p, h => pkB_none c (u - 1) bs (p + 1) h
theorem sum_one {α : Type} (f : α → Int) : ∀ l : List α, (∀ x ∈ l, f x = 1) → (l.map f).sum = l.length
  | [], _ => rfl
  | x :: l, h => by
    rw [List.map_cons, List.sum_cons, h x List.mem_cons_self, sum_one f l fun y m => h y (List.mem_cons_of_mem _ m), List.length_cons]
    omega
theorem sum_inc {α : Type} {f g : α → Int} : ∀ l : List α, (∀ x ∈ l, f x = 1 + g x) → (l.map f).sum = l.length + (l.map g).sum
  | [], _ => rfl
  | x :: l, h => by
    rw [List.map_cons, List.sum_cons, h x List.mem_cons_self, sum_inc l fun y m => h y (List.mem_cons_of_mem _ m), List.length_cons, List.map_cons, List.sum_cons]
    omega
theorem sum_nil {α : Type} {f : α → Int} : ∀ l : List α, (∀ x ∈ l, f x = 0) → (l.map f).sum = 0
  | [], _ => rfl
  | x :: l, h => by
    rw [List.map_cons, List.sum_cons, h x List.mem_cons_self, sum_nil l fun y m => h y (List.mem_cons_of_mem _ m)]
    rfl
/-- the trains tell what a carrier picks up, from bits -/
theorem pk_tr : ∀ (f c : Nat) (k : Int) (bs : List Bool) (p : Int), (pos bs p).length ≤ f → ((tr f k (pos bs p)).map fun t => min (c : Int) (t.1 - k + 1)).sum = pkB c 0 bs
  | 0, c, k, bs, p, h => by
    rw [pkB_none c 0 bs p (List.length_eq_zero_iff.mp (by omega))]
    rfl
  | f + 1, 0, k, bs, p, h => by
    rw [pkB_0, sum_nil]
    intro t m
    have := tr_fst _ _ _ t m
    omega
  | f + 1, c + 1, k, bs, p, h => by
    show ((if pos bs p = [] then [] else (ofs (pos bs p)).map (fun b => (k, b)) ++ tr f (k + 1) (cutL (pos bs p) 0).1).map fun t => min ((c + 1 : Nat) : Int) (t.1 - k + 1)).sum = _
    by_cases z : pos bs p = []
    · rw [if_pos z, pkB_none (c + 1) 0 bs p z]
      rfl
    · obtain ⟨w, g, e, _⟩ := word_ex (pos bs p) p (pos_asc bs p) (pos_ge bs p)
      have same : ∀ (bs cs : List Bool) (u : Nat) (p : Int), pos bs p = pos cs p → pkB (c + 1) u bs = pkB (c + 1) u cs := by
        intro bs
        induction bs with
        | nil => exact fun cs u p e => (pkB_none _ u cs p e.symm).symm
        | cons b bs ih =>
          intro cs u p e
          cases cs with
          | nil => exact pkB_none _ u (b :: bs) p e
          | cons b' cs =>
            cases b <;> cases b'
            · exact ih cs (u - 1) (p + 1) e
            · exfalso
              have e : pos bs (p + 1) = p :: pos cs (p + 1) := e
              have := pos_ge bs (p + 1) p (by rw [e]; exact List.mem_cons_self)
              omega
            · exfalso
              have e : p :: pos bs (p + 1) = pos cs (p + 1) := e
              have := pos_ge cs (p + 1) p (by rw [← e]; exact List.mem_cons_self)
              omega
            · have e : p :: pos bs (p + 1) = p :: pos cs (p + 1) := e
              have e2 := (List.cons.inj e).2
              show (if u < c + 1 then 1 + pkB (c + 1) (u + 1) bs else pkB (c + 1) u bs) = if u < c + 1 then 1 + pkB (c + 1) (u + 1) cs else pkB (c + 1) u cs
              rw [ih cs (u + 1) (p + 1) e2, ih cs u (p + 1) e2]
      have lt := cut_lt z
      have ad := cut_up (pos_asc bs p)
      have pm := (ofs_perm (pos_asc bs p)).length_eq
      have ct := cut_word w p 0 g
      rw [e, show p - 2 * 0 = p by omega] at ct
      have mn := tr_many f (k + 1) _ ad.1 (show (cutL (pos bs p) 0).1.length ≤ f by omega)
      have b1 : (cutL (pos bs p) 0).1.length ≤ f := by omega
      rw [List.length_append] at pm
      rw [if_neg z, List.map_append, List.sum_append, List.map_map, sum_one _ _ (fun b _ => ?_), sum_inc (g := fun t => min (c : Int) (t.1 - (k + 1) + 1)) _ (fun t m => ?_), mn]
      · have ml := mk_len w p
        rw [ct] at b1 pm mn ⊢
        have ih := pk_tr f c (k + 1) (bk w) p b1
        rw [ih, same bs (bw w) 0 p e.symm, ((pk_cut (Nat.succ_pos c) w g).1 0 (Nat.succ_pos c))]
        have pm : (rends (pos (bk w) p)).length + (ofs (pos bs p)).length = (marks w p).length := pm
        show ((ofs (pos bs p)).length : Int) + (((rends (pos (bk w) p)).length : Int) + pkB c 0 (bk w)) = mk w + pkB c 0 (bk w)
        omega
      · have := tr_fst _ _ _ t m
        show min ((c + 1 : Nat) : Int) (t.1 - k + 1) = 1 + min (c : Int) (t.1 - (k + 1) + 1)
        omega
      · show min ((c + 1 : Nat) : Int) (k - k + 1) = 1
        omega
end SR
set_option Elab.async false
set_option linter.all false
set_option maxRecDepth 100000
set_option maxHeartbeats 1000000
namespace SR
open PySem PySem.Spec PyProof.Rows L2
def rs (F : Int → Int) : Int → Nat → Int
  | _, 0 => 0
  | a, n + 1 => F a + rs F (a + 1) n
theorem rs_list (F : Int → Int) : ∀ (n : Nat) (a : Int) (xs : List Int), xs.Pairwise (· < ·) → (∀ x ∈ xs, a ≤ x ∧ x < a + n) → (∀ i, a ≤ i → i ∉ xs → F i = 0) → (xs.map F).sum = rs F a n
  | 0, a, xs, _, h, _ => by
    cases xs with
    | nil => rfl
    | cons x xs =>
      have := h x List.mem_cons_self
      omega
  | n + 1, a, xs, as, h, z => by
    show _ = F a + rs F (a + 1) n
    cases xs with
    | nil =>
      rw [z a (Int.le_refl _) (fun m => nomatch m), ← rs_list F n (a + 1) [] .nil (fun _ m => nomatch m) fun i hi m => z i (by omega) m]
      rfl
    | cons x xs =>
      obtain ⟨a1, a2⟩ := List.pairwise_cons.mp as
      by_cases e : x = a
      · subst e
        rw [List.map_cons, List.sum_cons, rs_list F n (x + 1) xs a2 (fun y m => by have := a1 y m; have := h y (List.mem_cons_of_mem _ m); omega) fun i hi m => z i (by omega) fun q => by
          rcases List.mem_cons.mp q with q | q
          · omega
          · exact m q]
      · have hx := h x List.mem_cons_self
        rw [z a (Int.le_refl _) (fun q => by
          rcases List.mem_cons.mp q with q | q
          · exact e q.symm
          · have := a1 a q
            omega), rs_list F n (a + 1) (x :: xs) as (fun y m => by
          have := h y m
          rcases List.mem_cons.mp m with rfl | m
          · omega
          · have := a1 y m
            omega) fun i hi m => z i (by omega) m]
        omega
theorem rs_eq {F G : Int → Int} : ∀ (n : Nat) (a : Int), (∀ i, a ≤ i → i < a + n → F i = G i) → rs F a n = rs G a n
  | 0, _, _ => rfl
  | n + 1, a, h => by
    show F a + rs F (a + 1) n = G a + rs G (a + 1) n
    rw [h a (Int.le_refl _) (by omega), rs_eq n (a + 1) fun i h1 h2 => h i (by omega) (by omega)]
theorem rs_add (F : Int → Int) : ∀ (n m : Nat) (a : Int), rs F a (n + m) = rs F a n + rs F (a + n) m
  | 0, m, a => by
    rw [Nat.zero_add]
    show _ = 0 + rs F (a + ((0 : Nat) : Int)) m
    rw [show a + ((0 : Nat) : Int) = a by omega]
    omega
  | n + 1, m, a => by
    rw [show n + 1 + m = n + m + 1 by omega]
    show F a + rs F (a + 1) (n + m) = F a + rs F (a + 1) n + rs F (a + ((n + 1 : Nat) : Int)) m
    rw [rs_add F n m (a + 1), show a + 1 + (n : Int) = a + ((n + 1 : Nat) : Int) by omega]
    omega
/-- telescoping: P j + B (j+1) = B j + R (j+1) -/
theorem rs_tel {P R B : Int → Int} : ∀ (n : Nat) (a : Int), (∀ j, a ≤ j → j < a + n → P j + B (j + 1) = B j + R (j + 1)) → rs P a n + B (a + n) = B a + rs R (a + 1) n
  | 0, a, _ => by
    show 0 + B (a + ((0 : Nat) : Int)) = B a + 0
    rw [show a + ((0 : Nat) : Int) = a by omega]
    omega
  | n + 1, a, h => by
    have h0 := h a (Int.le_refl _) (by omega)
    have ih := rs_tel n (a + 1) fun j h1 h2 => h j (by omega) (by omega)
    rw [show a + 1 + (n : Int) = a + ((n + 1 : Nat) : Int) by omega] at ih
    show P a + rs P (a + 1) n + B (a + ((n + 1 : Nat) : Int)) = B a + (R (a + 1) + rs R (a + 1 + 1) n)
    omega
/-- the loads of a carrier -/
structure LdS (ks : List (Int × Int)) (c : Int) (cs : List (Int × Int)) (s : Int → Int) : Prop where
  low : ∃ lo, ∀ i, i ≤ lo → s i = 0
  st : ∀ i, 0 ≤ s i ∧ s i ≤ c ∧ s (i + 1) = stL c (s i) (cap ks i) (cnt cs i)
theorem LdS.one {ks cs : List (Int × Int)} {c : Int} {s s' : Int → Int} (h : LdS ks c cs s) (h' : LdS ks c cs s') : ∀ i, s i = s' i := by
  obtain ⟨a, ha⟩ := h.low
  obtain ⟨a', ha'⟩ := h'.low
  intro i
  by_cases z : i ≤ min a a'
  · rw [ha i (by omega), ha' i (by omega)]
  · refine up_from (P := fun i => s i = s' i) (min a a') (by rw [ha _ (by omega), ha' _ (by omega)]) (fun j _ e => ?_) i (by omega)
    rw [(h.st j).2.2, (h'.st j).2.2, e]
/-- n items are picked up -/
def Pks (ks : List (Int × Int)) (c : Int) (cs : List (Int × Int)) (n : Int) : Prop := ∃ s, LdS ks c cs s ∧ (cs.map fun p => min (c - s p.1) p.2).sum = n
theorem Pks.uni {ks cs : List (Int × Int)} {c n m : Int} (h : Pks ks c cs n) (h' : Pks ks c cs m) : n = m := by
  obtain ⟨s, hs, e⟩ := h
  obtain ⟨s', hs', e'⟩ := h'
  rw [← e, ← e']
  congr 1
  exact map_same fun p _ => by rw [hs.one hs']
theorem cnt_at {cs : List (Int × Int)} (a : Asc cs) {p : Int × Int} (m : p ∈ cs) : cnt cs p.1 = p.2 := by
  unfold cnt
  rw [(lookup_some (n := p.2) (asc_nd a)).mpr m]
  rfl
theorem cnt_outK {cs : List (Int × Int)} {i : Int} (h : i ∉ cs.map Prod.fst) : cnt cs i = 0 := by
  unfold cnt
  rw [lookup_none.mpr h]
  rfl
/-- the range of a list -/
theorem low_hi (xs : List Int) : ∃ a : Int, ∃ n : Nat, ∀ x ∈ xs, a ≤ x ∧ x < a + n := by
  induction xs with
  | nil => exact ⟨0, 0, fun _ m => nomatch m⟩
  | cons x xs ih =>
    obtain ⟨a, n, h⟩ := ih
    refine ⟨min a x, ((max (a + n) (x + 1)) - min a x).toNat, fun y m => ?_⟩
    rcases List.mem_cons.mp m with rfl | m
    · omega
    · have := h y m
      omega
theorem asc_fst {cs : List (Int × Int)} (a : Asc cs) : (cs.map Prod.fst).Pairwise (· < ·) := List.pairwise_map.mpr a
theorem pk_rs {cs : List (Int × Int)} {c : Int} {s : Int → Int} (a : Asc cs) (sc : ∀ i, s i ≤ c) {x : Int} {n : Nat} (h : ∀ p ∈ cs, x ≤ p.1 ∧ p.1 < x + n) : (cs.map fun p => min (c - s p.1) p.2).sum = rs (fun i => min (c - s i) (cnt cs i)) x n := by
  rw [← rs_list (fun i => min (c - s i) (cnt cs i)) n x (cs.map Prod.fst) (asc_fst a) (fun y m => by
    obtain ⟨p, mp, rfl⟩ := List.mem_map.mp m
    exact h p mp) fun i _ m => by
    rw [cnt_outK m]
    have := sc i
    omega, List.map_map]
  congr 1
  refine map_same fun p m => ?_
  show _ = min (c - s p.1) (cnt cs p.1)
  rw [cnt_at a m]
/-- the picks of a trace -/
theorem pks_trace {ps ks : List (Int × Int)} {c : Int} {st : List Step} (v : Vd ps ks) (c1 : 1 ≤ c) (g : Good ps ks c st) : Pks ks c ps (upSum c st) := by
  obtain ⟨lo, hi, sp⟩ := span st
  have low : ∀ i, i ≤ lo → sumAt ldF st i = 0 := fun i hi => sumAt_none fun s m e => by have := sp s m; omega
  have nx := fun i => (good_next v c1 g i).1
  have bd : ∀ i, 0 ≤ sumAt ldF st i ∧ sumAt ldF st i ≤ c := fun i => by
    by_cases ex : ∃ s ∈ st, s.1 = i
    · obtain ⟨s, m, rfl⟩ := ex
      rw [sumAt_mem (f := ldF) g.asc m]
      exact ⟨(g.is s m).2.1, (g.is s m).2.2⟩
    · rw [sumAt_none fun s m e => ex ⟨s, m, e⟩]
      omega
  refine ⟨sumAt ldF st, ⟨⟨lo, low⟩, fun i => ⟨(bd i).1, (bd i).2, nx i⟩⟩, ?_⟩
  obtain ⟨x, n, hx⟩ := low_hi (st.map fun s => s.1)
  have sub : ∀ p ∈ ps, x ≤ p.1 ∧ p.1 < x + n := fun p m => by
    obtain ⟨s, ms, e⟩ := g.cov p m
    rw [← e]
    exact hx s.1 (List.mem_map.mpr ⟨s, ms, rfl⟩)
  rw [pk_rs v.ap (fun i => (bd i).2) sub, ← rs_list (fun i => min (c - sumAt ldF st i) (cnt ps i)) n x (st.map fun s => s.1) ((List.pairwise_map (f := fun s : Step => s.1)).mpr g.asc) hx fun i _ m => by
    rw [cnt_outK fun z => ?_]
    · have := bd i
      omega
    · obtain ⟨p, mp, e⟩ := List.mem_map.mp z
      obtain ⟨s, ms, e2⟩ := g.cov p mp
      exact m (List.mem_map.mpr ⟨s, ms, by omega⟩), List.map_map]
  unfold upSum
  congr 1
  refine map_same fun s m => ?_
  show min (c - sumAt ldF st s.1) (cnt ps s.1) = _
  rw [sumAt_mem (f := ldF) g.asc m]
  have e : s.2.2.1 = cnt ps s.1 := congrArg (fun s : Step => s.2.2.1) (g.is s m).1
  rw [e]
section
variable {w d c n : Int} {cs ds rest ks : List (Int × Int)}
theorem out_pks (v : Vd cs ((w, d) :: rest)) (c1 : 1 ≤ c) (h : Pks ((w, d) :: rest) c cs n) : Pks rest c (outBox w d cs) n := by
  obtain ⟨q, l, L, ⟨l0, hl0⟩⟩ := ldr_of0 v
  obtain ⟨s, ⟨⟨s0, hs0⟩, st⟩, e⟩ := h
  have far := v.head.2.1
  have d1 := v.head.2.2.1
  have capw : cap ((w, d) :: rest) w = d := by rw [cap_cons, if_pos rfl]
  have capl : ∀ i, i < w → cap ((w, d) :: rest) i = 1 := fun i h => by
    rw [cap_cons, if_neg (by omega)]
    exact cap_no fun r hr => by have := far r hr; omega
  have capr : ∀ i, i ≤ w → cap rest i = 1 := fun i h => cap_no fun r hr => by have := far r hr; omega
  have caph : ∀ i, w < i → cap ((w, d) :: rest) i = cap rest i := fun i h => by rw [cap_cons, if_neg (by omega)]
  have turn : ∀ j, j < w → stL c (s (j + 1)) d (l (j + 1)) = stL c (stL c (s j) d (l j)) 1 (cnt q j) ∧ min (c - s j) (cnt cs j) + min (c - s (j + 1)) (l (j + 1)) = min (c - s j) (l j) + min (c - stL c (s j) d (l j)) (cnt q j) := fun j lt => by
    have b := L.back lt
    have a := st j
    rw [capl j lt] at a
    have y := ybG (a := c) (b := 1) (c := d) a.1 a.2.1 b.2.2.1 b.2.2.2 (L.bd (j + 1)).1 (L.bd (j + 1)).2
    have y1 := y.1.2.2
    have y2 := y.2
    rw [← a.2.2, ← b.1, ← b.2.1] at y1 y2
    exact ⟨y1, y2⟩
  have sb : ∀ j, 0 ≤ stL c (s j) d (l j) ∧ stL c (s j) d (l j) ≤ c := fun j => by
    have := st_bd (st j).1 (st j).2.1 (L.bd j).1 (L.bd j).2
    exact ⟨this.1, this.2.1⟩
  have top : s (w + 1) = stL c (s w) d (l w) := by
    have a := (st w).2.2
    rw [capw] at a
    rw [L.top, a]
  let S := fun i => if i ≤ w + 1 then stL c (s (i - 1)) d (l (i - 1)) else s i
  have S1 : ∀ i, i ≤ w + 1 → S i = stL c (s (i - 1)) d (l (i - 1)) := fun i h => if_pos h
  have S2 : ∀ i, w < i → S i = s i := fun i h => by
    by_cases z : i ≤ w + 1
    · rw [S1 i z]
      have e : i = w + 1 := by omega
      subst e
      rw [show w + 1 - 1 = w by omega, ← top]
    · exact if_neg z
  have SB : ∀ i, 0 ≤ S i ∧ S i ≤ c := fun i => by
    by_cases z : i ≤ w + 1
    · rw [S1 i z]
      exact sb _
    · rw [S2 i (by omega)]
      exact ⟨(st i).1, (st i).2.1⟩
  have SL : LdS rest c (outBox w d cs) S := by
    refine ⟨⟨min (min s0 l0) w, fun i hi => ?_⟩, fun i => ⟨(SB i).1, (SB i).2, ?_⟩⟩
    · rw [S1 i (by omega), hs0 _ (by omega), hl0 _ (by omega)]
      unfold stL
      omega
    · rw [L.out]
      by_cases h1 : i ≤ w
      · have t := (turn (i - 1) (by omega)).1
        rw [show i - 1 + 1 = i by omega] at t
        rw [if_pos h1, S1 i (by omega), S1 (i + 1) (by omega), capr i h1, show i + 1 - 1 = i by omega]
        exact t
      · have a := (st i).2.2
        rw [caph i (by omega)] at a
        rw [if_neg h1, S2 i (by omega), S2 (i + 1) (by omega)]
        exact a
  refine ⟨S, SL, ?_⟩
  have vo := (out_vd v).1
  obtain ⟨x, N, hx⟩ := low_hi (w :: l0 :: (cs.map Prod.fst ++ (outBox w d cs).map Prod.fst))
  have hw := hx w List.mem_cons_self
  have hl := hx l0 (List.mem_cons_of_mem _ List.mem_cons_self)
  have hc : ∀ p ∈ cs, x - 1 ≤ p.1 ∧ p.1 < (x - 1) + ((N + 1 : Nat) : Int) := fun p m => by
    have := hx p.1 (List.mem_cons_of_mem _ (List.mem_cons_of_mem _ (List.mem_append_left _ (List.mem_map.mpr ⟨p, m, rfl⟩))))
    omega
  have ho : ∀ p ∈ outBox w d cs, x ≤ p.1 ∧ p.1 < x + (N : Int) := fun p m => by
    have := hx p.1 (List.mem_cons_of_mem _ (List.mem_cons_of_mem _ (List.mem_append_right _ (List.mem_map.mpr ⟨p, m, rfl⟩))))
    omega
  rw [← e, pk_rs v.ap (fun i => (st i).2.1) hc, pk_rs vo.ap (fun i => (SB i).2) ho]
  -- the range up to w, and behind it
  obtain ⟨k, hk⟩ : ∃ k : Nat, (k : Int) = w - (x - 1) := ⟨(w - (x - 1)).toNat, by omega⟩
  obtain ⟨m, hm⟩ : ∃ m : Nat, k + (1 + m) = N + 1 := ⟨N - k, by omega⟩
  rw [← hm, rs_add, show N = k + m by omega, rs_add, rs_add]
  have tel := rs_tel (P := fun j => min (c - s j) (cnt cs j)) (R := fun i => min (c - S i) (cnt (outBox w d cs) i)) (B := fun j => min (c - s j) (l j)) k (x - 1) fun j h1 h2 => by
    have t := (turn j (by omega)).2
    rw [S1 (j + 1) (by omega), L.out, if_pos (by omega), show j + 1 - 1 = j by omega]
    exact t
  have z1 : l (x - 1) = 0 := hl0 _ (by omega)
  rw [show x - 1 + (k : Int) = w by omega] at tel
  rw [z1, L.top, show x - 1 + 1 = x by omega] at tel
  have b0 := (st (x - 1)).2.1
  have e1 : rs (fun i => min (c - s i) (cnt cs i)) (x - 1 + (k : Int)) 1 = min (c - s w) (cnt cs w) := by
    show min (c - s (x - 1 + (k : Int))) (cnt cs (x - 1 + (k : Int))) + 0 = _
    rw [show x - 1 + (k : Int) = w by omega]
    omega
  have e2 : rs (fun i => min (c - s i) (cnt cs i)) (x - 1 + (k : Int) + ((1 : Nat) : Int)) m = rs (fun i => min (c - S i) (cnt (outBox w d cs) i)) (x + (k : Int)) m := by
    rw [show x - 1 + (k : Int) + ((1 : Nat) : Int) = x + k by omega]
    refine rs_eq m _ fun i h1 h2 => ?_
    rw [S2 i (by omega), L.out, if_neg (by omega)]
  rw [e1, e2]
  omega
end
theorem plain_pks {c n : Int} (c1 : 1 ≤ c) : ∀ {ks cs : List (Int × Int)}, Vd cs ks → Pks ks c cs n → Pks [] c (plainF ks cs) n
  | [], _, _, h => h
  | (w, d) :: ks, cs, v, h => by
    rw [plainF_cons]
    exact plain_pks c1 (out_vd v).1 (out_pks v c1 h)
end SR
set_option Elab.async false
set_option linter.all false
set_option maxRecDepth 100000
set_option maxHeartbeats 1000000
namespace SR
open PySem PySem.Spec PyProof.Rows L2
def pkT (c : Int) (ts : List (Int × Int)) : Int := (ts.map fun t => min c t.1).sum
theorem ldB_next {c u : Nat} {b : Bool} {bs : List Bool} {p i : Int} (h : p < i) : ldB c u (b :: bs) p i = ldB c (if b then (if u < c then u + 1 else u) else u - 1) bs (p + 1) i := by
  cases b with
  | true =>
    show (if i ≤ p then (u : Int) else _) = _
    rw [if_neg (by omega)]
    rfl
  | false =>
    show (if i ≤ p then (u : Int) else _) = _
    rw [if_neg (by omega)]
    rfl
theorem pk_bits {c : Nat} : ∀ (bs : List Bool) (u : Nat) (p : Int), u ≤ c → ((pos bs p).map fun x => min ((c : Int) - ldB c u bs p x) 1).sum = pkB c u bs
  | [], _, _, _ => rfl
  | false :: bs, u, p, h => by
    show ((pos bs (p + 1)).map fun x => min ((c : Int) - ldB c u (false :: bs) p x) 1).sum = pkB c (u - 1) bs
    rw [← pk_bits bs (u - 1) (p + 1) (by omega)]
    congr 1
    refine map_same fun x m => ?_
    have := pos_ge bs (p + 1) x m
    rw [ldB_next (by omega)]
    rfl
  | true :: bs, u, p, h => by
    show ((p :: pos bs (p + 1)).map fun x => min ((c : Int) - ldB c u (true :: bs) p x) 1).sum = _
    rw [List.map_cons, List.sum_cons, ldB_le (Int.le_refl p)]
    have e : (pos bs (p + 1)).map (fun x => min ((c : Int) - ldB c u (true :: bs) p x) 1) = (pos bs (p + 1)).map (fun x => min ((c : Int) - ldB c (if u < c then u + 1 else u) bs (p + 1) x) 1) := map_same fun x m => by
      have := pos_ge bs (p + 1) x m
      rw [ldB_next (by omega)]
      rfl
    rw [e]
    by_cases z : u < c
    · rw [if_pos z, pk_bits bs (u + 1) (p + 1) (by omega), pkB_t z, show min ((c : Int) - u) 1 = 1 by omega]
    · rw [if_neg z, pk_bits bs u (p + 1) h, pkB_tf z, show min ((c : Int) - u) 1 = 0 by omega, Int.zero_add]
theorem lds_bits {c : Nat} (c1 : 1 ≤ c) {bs : List Bool} {p : Int} (h : fin c 0 bs = 0) : LdS [] c (ones (pos bs p)) (ldB c 0 bs p) := by
  refine ⟨⟨p, fun i hi => ldB_le hi⟩, fun i => ?_⟩
  rw [cnt_ones]
  show 0 ≤ _ ∧ _ ∧ _ = stL c _ 1 _
  by_cases z : p ≤ i
  · have := sw_at c1 bs 0 p (Nat.zero_le c) h i z
    exact ⟨this.1, this.2.1, this.2.2.2⟩
  · have n : cB (pos bs p) i = 0 := if_neg fun m => z (pos_ge bs p i m)
    rw [ldB_le (by omega), ldB_le (by omega), n]
    refine ⟨by omega, by omega, ?_⟩
    unfold stL
    omega
theorem pks_ones {c : Nat} (c1 : 1 ≤ c) {L : List Int} (a : L.Pairwise (· < ·)) : Pks [] c (ones L) (pkT c (trL L)) := by
  obtain ⟨p, hp⟩ := low_ex a
  obtain ⟨w, g, e, _⟩ := word_ex L p a hp
  generalize hb : bw w ++ List.replicate (2 * w.length) false = bs
  have eb : pos bs p = L := by
    rw [← hb, pos_app]
    exact e
  have fb : fin c 0 bs = 0 := by
    rw [← hb]
    exact fin_zero _ 0 (by have := bw_len w; omega)
  refine ⟨ldB c 0 bs p, ?_, ?_⟩
  · rw [← eb]
    exact lds_bits c1 fb
  · have k := pk_tr L.length c 1 bs p (by rw [eb]; exact Nat.le_refl _)
    rw [eb] at k
    have e1 : pkT c (trL L) = pkB c 0 bs := by
      rw [← k]
      unfold pkT trL
      congr 1
      exact map_same fun t _ => by rw [show t.1 - 1 + 1 = t.1 by omega]
    rw [e1, ← pk_bits bs 0 p (Nat.zero_le c), eb]
    unfold ones
    rw [List.map_map]
    rfl
/-- what a carrier picks up from any row -/
theorem pks_tr {ks : List (Int × Int)} {c n : Int} (c1 : 1 ≤ c) (p : Rws ks) (h : Pks ks c p.1 n) : n = pkT c (trP p) := by
  have h1 := plain_pks c1 p.2 h
  rw [plL_ones p] at h1
  obtain ⟨k, rfl⟩ : ∃ k : Nat, c = k := ⟨c.toNat, by omega⟩
  exact h1.uni (pks_ones (by omega) (plL_asc p))
theorem sum_permI {a b : List Int} (h : a.Perm b) : a.sum = b.sum := by
  induction h with
  | nil => rfl
  | cons x _ ih => rw [List.sum_cons, List.sum_cons, ih]
  | swap x y l =>
    rw [List.sum_cons, List.sum_cons, List.sum_cons, List.sum_cons]
    omega
  | trans _ _ h1 h2 => exact h1.trans h2
theorem pkT_perm {c : Int} {M : List Int} {ts : List (Int × Int)} (h : M.Perm (ts.map Prod.fst)) : (M.map fun x => min c x).sum = pkT c ts := by
  rw [sum_permI (h.map fun x => min c x), List.map_map]
  rfl
theorem sum_pos_le : ∀ {M : List Int}, (∀ x ∈ M, 1 ≤ x) → ∀ x ∈ M, x ≤ M.sum
  | [], _, _, m => nomatch m
  | y :: M, h, x, m => by
    have s0 : 0 ≤ M.sum := by
      have : ∀ N : List Int, (∀ x ∈ N, 1 ≤ x) → 0 ≤ N.sum := by
        intro N
        induction N with
        | nil => exact fun _ => Int.le_refl _
        | cons z N ih =>
          intro hn
          rw [List.sum_cons]
          have := ih fun x m => hn x (List.mem_cons_of_mem _ m)
          have := hn z List.mem_cons_self
          omega
      exact this M fun x m => h x (List.mem_cons_of_mem _ m)
    rw [List.sum_cons]
    rcases List.mem_cons.mp m with rfl | m
    · omega
    · have := sum_pos_le (fun x m => h x (List.mem_cons_of_mem _ m)) x m
      have := h y List.mem_cons_self
      omega
theorem trP_sum {ks : List (Int × Int)} (p : Rws ks) : ((trP p).map Prod.fst).sum = total p.1 := by
  have := trL_sum (plL_asc p)
  rw [← plL_len p, ← this]
  rfl
theorem trP_40 {ks : List (Int × Int)} (p : Rws ks) : ∀ t ∈ trP p, 1 ≤ t.1 ∧ t.1 ≤ 40 := fun t m => by
  have a : ∀ x ∈ (trP p).map Prod.fst, 1 ≤ x := fun x mx => by
    obtain ⟨t, mt, rfl⟩ := List.mem_map.mp mx
    exact trL_one t mt
  have b := sum_pos_le a t.1 (List.mem_map.mpr ⟨t, m, rfl⟩)
  rw [trP_sum] at b
  have c : total p.1 ≤ 40 := p.2.ok.sm
  exact ⟨trL_one t m, by omega⟩
end SR
set_option Elab.async false
set_option linter.all false
set_option maxRecDepth 100000
set_option maxHeartbeats 1000000
set_option Elab.async false
set_option linter.all false
set_option maxRecDepth 100000
set_option maxHeartbeats 1000000
set_option Elab.async false
set_option linter.all false
set_option maxRecDepth 100000
set_option maxHeartbeats 1000000
namespace SR
open PySem PySem.Spec PyProof.Rows L2
theorem seg_cons (st : Int) : ∀ n : Nat, seg st (n + 1) = st :: seg (st + 1) n
  | 0 => by
    rw [seg_succ]
    show [] ++ [st + 0] = [st]
    rw [Int.add_zero]
    rfl
  | n + 1 => by
    rw [seg_succ, seg_cons st n, seg_succ (st + 1) n, List.cons_append, show st + 1 + (n : Int) = st + ((n + 1 : Nat) : Int) by omega]
theorem seg_bd (st : Int) (n : Nat) : ∀ y ∈ seg st n, st ≤ y ∧ y < st + n := fun y m => by
  obtain ⟨i, hi, rfl⟩ := List.mem_map.mp m
  have := List.mem_range.mp hi
  omega
def NonDec (ts : List (Int × Int)) : Prop := ts.Pairwise fun t u => t.1 ≤ u.1 ∧ t.2 ≤ u.2
def dn (t : Int × Int) : Int × Int := (t.1 - 1, t.2)
theorem NonDec.dn {ts : List (Int × Int)} (h : NonDec ts) : NonDec ((ts.filter fun t => decide (t.1 ≠ 1)).map dn) := by
  unfold NonDec
  rw [List.pairwise_map]
  exact (List.Pairwise.filter _ h).imp fun {t u} h => ⟨by show t.1 - 1 ≤ u.1 - 1; omega, h.2⟩
def layR : List (Int × Int) → List Int
  | [] => []
  | r :: rs => seg r.1 r.2.toNat ++ layR rs
theorem layR_app : ∀ (a b : List (Int × Int)), layR (a ++ b) = layR a ++ layR b
  | [], _ => rfl
  | r :: a, b => by
    show seg r.1 r.2.toNat ++ layR (a ++ b) = seg r.1 r.2.toNat ++ layR a ++ layR b
    rw [layR_app a b, List.append_assoc]
theorem layR_step {acc : List (Int × Int)} (h : ∀ r ∈ acc, 1 ≤ r.2) (x : Int) : layR (blkStep acc x) = layR acc ++ [x] := by
  rcases List.eq_nil_or_concat acc with rfl | ⟨bs, r, rfl⟩
  · show seg x 1 ++ [] = [] ++ [x]
    rw [seg_cons]
    rfl
  · obtain ⟨f, n⟩ := r
    have n1 := h (f, n) (by simp)
    have n1 : 1 ≤ n := n1
    rw [List.concat_eq_append, blkStep_snoc]
    split
    · rename_i e
      rw [layR_app, layR_app, List.append_assoc]
      show layR bs ++ (seg f (n + 1).toNat ++ []) = layR bs ++ (seg f n.toNat ++ [] ++ [x])
      rw [List.append_nil, List.append_nil, show (n + 1).toNat = n.toNat + 1 by omega, seg_succ, show f + (n.toNat : Int) = x by omega]
    · rw [layR_app]
      show _ ++ (seg x 1 ++ []) = _
      rw [seg_cons]
      rfl
theorem blk_posF : ∀ (L : List Int) (acc : List (Int × Int)), (∀ r ∈ acc, 1 ≤ r.2) → layR (L.foldl blkStep acc) = layR acc ++ L ∧ ∀ r ∈ L.foldl blkStep acc, 1 ≤ r.2
  | [], acc, h => ⟨(List.append_nil _).symm, h⟩
  | x :: L, acc, h => by
    have h2 : ∀ r ∈ blkStep acc x, 1 ≤ r.2 := fun r m => by
      rcases List.eq_nil_or_concat acc with rfl | ⟨bs, q, rfl⟩
      · have : r = (x, 1) := List.mem_singleton.mp m
        rw [this]
        exact Int.le_refl _
      · obtain ⟨f, n⟩ := q
        rw [List.concat_eq_append, blkStep_snoc] at m
        have n1 : 1 ≤ n := h (f, n) (by simp)
        split at m
        · rcases List.mem_append.mp m with m | m
          · exact h r (by rw [List.concat_eq_append]; exact List.mem_append_left _ m)
          · rw [List.mem_singleton.mp m]
            show 1 ≤ n + 1
            omega
        · rcases List.mem_append.mp m with m | m
          · exact h r (by rw [List.concat_eq_append]; exact m)
          · rw [List.mem_singleton.mp m]
            exact Int.le_refl _
    obtain ⟨a, b⟩ := blk_posF L (blkStep acc x) h2
    refine ⟨?_, b⟩
    rw [List.foldl_cons, a, layR_step h, List.append_assoc]
    rfl
end SR
set_option Elab.async false
set_option linter.all false
set_option maxRecDepth 100000
set_option maxHeartbeats 1000000
namespace SR
open PySem PySem.Spec PyProof.Rows L2
/-- a list of pairs -/
def PairsL (H : Hp) (D : Addr) (ps : List (Int × Int)) : Prop := ∃ us : List Addr, H D = some (.lst (us.map V.ref)) ∧ Paired (TupAt H) us ps
theorem PairsL.same {H H' : Hp} {D : Addr} {ps : List (Int × Int)} (s : Same H H') (h : PairsL H D ps) : PairsL H' D ps := let ⟨us, h1, h2⟩ := h; ⟨us, s _ _ h1, paired_imp (fun _ _ z => s _ _ z) h2⟩
theorem PairsL.at {K : PySem.W.Frag} {H : Hp} {D : Addr} {ps : List (Int × Int)} (h : PairsL H D ps) : PairsAt K H D ps := let ⟨us, h1, h2⟩ := h; ⟨us, .inl (SqL.of h1), h2⟩
/-- [pair for pair in a if test] -/
theorem lc_keep {K : PySem.W.Frag} {te : TE} {tt : TT} {vn : Nat} {σ : L2.St} {H : Hp} {a : Addr} {ps : List (Int × Int)} {Q : VK} (P : Int × Int → Bool) (hte : ∀ R : VK, R (.ref a) H → te σ H R) (hp : PairsAt K H a ps) (hl : ps.length ≤ 1000)
    (hw : ∀ v, wipe ((wipe σ [vn]).set vn (some v)) [vn] = wipe σ [vn]) (hv : ∀ v, ((wipe σ [vn]).set vn (some v))[vn]? = some (some v))
    (hs : ∀ t p H' (R : Bool → Hp → Prop), Same H H' → TupAt H' t p → R (P p) H' → tt ((wipe σ [vn]).set vn (some (.ref t))) H' R)
    (hQ : ∀ D H', H D = none → Same H H' → PairsL H' D (ps.filter P) → Q (.ref D) H') :
    tLc (fun σ H R => iList K te σ H R ∨ iTup K te σ H R) (gName vn) tt (tVar vn) [vn] σ H Q := by
  obtain ⟨ts, hsq, hts⟩ := hp
  have hlen : (ts.map V.ref).length = ps.length := by rw [List.length_map, paired_len hts]
  have step : ∀ (D : Addr), H D = none → ∀ i x H1 H2, i < (ts.map V.ref).length → (Same H H1 ∧ ∃ us, H1 D = some (.lst (us.map V.ref)) ∧ Paired (TupAt H) us ((ps.take i).filter P)) → YAt (ts.map V.ref) i H1 x H2 → gName vn x (wipe σ [vn]) H2 fun σ2 H3 => wipe σ2 [vn] = wipe σ [vn] ∧ tt σ2 H3 fun b H4 =>
      if b = true then tVar vn σ2 H4 fun y H5 => ∃ acc, H5 D = some (.lst acc) ∧ acc.length < sizeLine ∧ (Same H (upd H5 D (.lst (acc ++ [y]))) ∧ ∃ us, upd H5 D (.lst (acc ++ [y])) D = some (.lst (us.map V.ref)) ∧ Paired (TupAt H) us ((ps.take (i + 1)).filter P)) else Same H H4 ∧ ∃ us, H4 D = some (.lst (us.map V.ref)) ∧ Paired (TupAt H) us ((ps.take (i + 1)).filter P) := by
    rintro D hD i x H1 H2 hi ⟨s1, us, d1, pr⟩ ⟨rfl, hx⟩
    rw [List.getElem?_map] at hx
    obtain ⟨t, ht, rfl⟩ := Option.map_eq_some_iff.mp hx
    obtain ⟨p, hpi, hat⟩ := paired_at hts ht
    have ul : us.length ≤ 1000 := by
      have a := paired_len pr
      have b := List.length_filter_le P (ps.take i)
      rw [List.length_take] at b
      have c := Nat.min_le_right i ps.length
      omega
    have tk : ps.take (i + 1) = ps.take i ++ [p] := by
      rw [List.take_succ, hpi]
      rfl
    refine ⟨hw _, hs t p H2 _ s1 (s1 _ _ hat) ?_⟩
    cases e : P p with
    | true =>
      refine iteT ⟨_, hv _, _, d1, ?_, same_upd s1 hD, us ++ [t], ?_, ?_⟩
      · rw [List.length_map]
        exact Nat.lt_of_le_of_lt ul (by decide)
      · rw [upd_same, List.map_append]
        rfl
      · rw [tk, List.filter_append]
        have : ([p].filter P) = [p] := by
          rw [List.filter_cons_of_pos e]
          rfl
        rw [this]
        exact paired_snoc hat pr
    | false =>
      refine iteF ⟨s1, us, d1, ?_⟩
      rw [tk, List.filter_append]
      have : ([p].filter P) = [] := by
        rw [List.filter_cons_of_neg (by rw [e]; exact Bool.false_ne_true)]
        rfl
      rw [this, List.append_nil]
      exact pr
  have fin : ∀ D, H D = none → ∀ H1, (Same H H1 ∧ ∃ us, H1 D = some (.lst (us.map V.ref)) ∧ Paired (TupAt H) us ((ps.take (ts.map V.ref).length).filter P)) → Q (.ref D) H1 := by
    rintro D hD H1 ⟨s1, us, d1, pr⟩
    rw [hlen, List.take_length] at pr
    exact hQ D H1 hD s1 ⟨us, d1, paired_imp (fun _ _ z => s1 _ _ z) pr⟩
  rcases hsq with hsq | hsq
  · refine .inl (hte _ ⟨a, rfl, ⟨_, hsq⟩, fun D hD => ?_⟩)
    exact lc_it (walk_list (K := K) (a := a) (xs := ts.map V.ref)) (fun i H1 => Same H H1 ∧ ∃ us, H1 D = some (.lst (us.map V.ref)) ∧ Paired (TupAt H) us ((ps.take i).filter P)) ⟨same_new hD, [], upd_same, .nil⟩ (fun i H1 _ h => SqL.same h.1 hsq) (step D hD) (fin D hD)
  · refine .inr (hte _ ⟨a, rfl, ⟨_, hsq.sq⟩, fun D hD => ?_⟩)
    exact lc_it (walk_tup (K := K) (a := a) (xs := ts.map V.ref)) (fun i H1 => Same H H1 ∧ ∃ us, H1 D = some (.lst (us.map V.ref)) ∧ Paired (TupAt H) us ((ps.take i).filter P)) ⟨same_new hD, [], upd_same, .nil⟩ (fun i H1 _ h => SqT.same h.1 hsq.sq) (step D hD) (fin D hD)
theorem make_two {C : Addr} {sp : Sp} {E : XK} {t1 t2 : TE} {σ : L2.St} {H : Hp} {Q : VK} (h : t1 σ H fun v1 H1 => t2 σ H1 fun v2 H2 => ∀ x dx, H2 x = none → H2 dx = none → dx ≠ x → sp [.ref x, v1, v2] (upd (upd H2 dx (.own x)) x (.ins C dx [])) (fun v H3 => v = .non ∧ Q (.ref x) H3) E) : tMake C sp [] E (tCons t1 (tCons t2 tNil)) σ H Q := h
def t_wo2 (K : PySem.W.Frag) (c_BadCapacity : Addr) (c_Row : Addr) : TS := (tRet (tLc (iTup K (tProp c_Row (spContents K c_Row) [] E0 (tCall (spUnsweep K c_Row c_BadCapacity) [] E0 (tCons (tVar 3) (tCons (tVar 2) (tNil)))))) (gTup K 2 (gCons (gName 5) (gCons (gName 6) (gNil)))) (tYes) (tTup (tCons (tOp qAdd (tVar 5) (tC (.int 1))) (tCons (tVar 6) (tNil)))) [5, 6]))
def t_without_box (K : PySem.W.Frag) (c_BadCapacity : Addr) (c_Row : Addr) : TS := tSeq (tAsg (tMake c_Row (spRowInit K c_Row) [] E0 (tCons (tLc ((fun σ H R => iList K (tVar 0) σ H R ∨ iTup K (tVar 0) σ H R)) (gName 4) (tTest (tOp qLe (tOp (rIxT K) (tVar 4) (tC (.int 0))) (tVar 1))) (tVar 4) [4]) (tCons (tLst (tCons (tTup (tCons (tVar 1) (tCons (tVar 2) (tNil)))) (tNil))) (tNil)))) (gName 3))
  (t_wo2 K c_BadCapacity c_Row)
def spWithout (K : PySem.W.Frag) : Sp := fun vs H Q _ => ∃ (a : Addr) (i c : Int) (ps : List (Int × Int)), vs = [.ref a, .int i, .int c] ∧ PairsAt K H a ps ∧ Vd (lo i ps) [(i, c)] ∧ Asc ps ∧ ps.length ≤ 1000 ∧ 1 ≤ c ∧ c ≤ 99 ∧
  ∀ D H', H D = none → Same H H' → PairsL H' D (mv 1 (fn1 true i c (lo i ps))) → Q (.ref D) H'
theorem vd_len {ps ks : List (Int × Int)} (v : Vd ps ks) : ps.length ≤ 40 := by
  have a := len_sum (fun p m => (v.ok.po p m).1)
  have b := v.ok.sm
  omega
theorem pure_without {K : PySem.W.Frag} {B C : Addr} (vs : List V) (H : Hp) (Q : VK) (E : XK) (h : spWithout K vs H Q E) : t_without_box K B C { nx := fun _ H' => Q .non H', rt := Q } (start ["contents", "index", "capacity", "near", "pair", "place", "count"] vs) H := by
  obtain ⟨a, i, c, ps, rfl, hp, v, asc, len, c1, c2, q⟩ := h
  unfold t_without_box
  unfold tSeq
  unfold tAsg
  refine make_two ?_
  refine lc_keep (vn := 4) (fun p => decide (p.1 ≤ i)) (fun R r => ⟨_, rfl, r⟩) hp len (fun _ => rfl) (fun _ => rfl) (fun t p H' R s T r => ⟨_, rfl, t, _, 0, _, rfl, rfl, SqT.of T, rfl, _, rfl, _, _, rfl, rfl, _, rfl, r⟩) fun D H1 hD s1 pl => ?_
  refine ⟨_, rfl, _, rfl, sz (by show 2 ≤ 1000; decide), fun t ht => ?_⟩
  have s2 := same_new (o := .tup [.int i, .int c]) ht
  have T2 : TupAt (upd H1 t (.tup [.int i, .int c])) t (i, c) := upd_same
  generalize upd H1 t (.tup [.int i, .int c]) = H2 at s2 T2 ⊢
  refine ⟨sz (by show 1 ≤ 1000; decide), fun l hl => ?_⟩
  have s3 := same_new (o := .lst [.ref t]) hl
  have L3 : PairsL (upd H2 l (.lst [.ref t])) l [(i, c)] := ⟨[t], upd_same, .cons (s3 _ _ T2) .nil⟩
  generalize upd H2 l (.lst [.ref t]) = H3 at s3 L3 ⊢
  have s13 := s2.trans s3
  intro y0 dx g1 g2 g3
  refine make_row (C := C) (E := E0) (Q := fun z H4 => t_wo2 K B C { nx := fun _ H' => Q .non H', rt := Q } [some (.ref a), some (.int i), some (.int c), some z, none, none, none] H4) (pl.same s13).at L3.at v.ok (fun x H4 qs ls hx s4 row p1 p2 a1 a2 => ?_) y0 dx g1 g2 g3
  have e1 := asc_eq a1 v.ap p1
  have e2 := asc_eq a2 v.ak p2
  subst e1 e2
  have s04 := s1.trans (s13.trans s4)
  refine ⟨_, rfl, _, rfl, ?_⟩
  generalize hz : spUnsweep K C B = zz
  show zz [.ref x, .int c] H4 _ E0
  subst hz
  refine unsweep_fn (p := ⟨_, v⟩) row c1 c2 fun z H5 s5 row5 => ?_
  rw [← fn1_eq true v] at row5
  obtain ⟨dx5, fs5, hx5⟩ := row5.at
  refine ⟨z, dx5, fs5, rfl, hx5, z, _, _, rfl, row5, fun w hw => ?_⟩
  obtain ⟨ts, bare, pr⟩ := hw
  have s05 := s04.trans s5
  have ql : (fn1 true i c (lo i ps)).length ≤ 40 := vd_len (fn1_vd v)
  generalize fn1 true i c (lo i ps) = us at pr q ql
  have tl : (ts.map V.ref).length = us.length := by rw [List.length_map, paired_len pr]
  refine ⟨w, rfl, ⟨_, BareW.sq (.inl bare)⟩, fun D2 hD2 => ?_⟩
  refine lc_it (walk_tup (K := K) (a := w) (xs := ts.map V.ref)) (fun j H6 => Same H5 H6 ∧ ∃ ws, H6 D2 = some (.lst (ws.map V.ref)) ∧ Paired (TupAt H6) ws (mv 1 (us.take j))) ⟨same_new hD2, [], upd_same, .nil⟩ (fun j H6 _ h => SqT.same h.1 (BareW.sq (.inl bare))) ?_ ?_
  · rintro j v0 H6 H7 hj ⟨s6, ws, d6, pr6⟩ ⟨rfl, hv⟩
    rw [List.getElem?_map] at hv
    obtain ⟨t, ht, rfl⟩ := Option.map_eq_some_iff.mp hv
    obtain ⟨p, hpi, hat⟩ := paired_at pr ht
    have wl : ws.length ≤ 40 := by
      have z := paired_len pr6
      unfold mv at z
      rw [List.length_map, List.length_take] at z
      have := Nat.min_le_right j us.length
      omega
    refine ⟨t, _, rfl, SqT.of (s6 _ _ hat), rfl, _, _, rfl, _, _, rfl, rfl, rfl, yes_if ?_⟩
    refine ⟨_, rfl, _, _, rfl, rfl, _, rfl, sz (by show 2 ≤ 1000; decide), fun n hn => ?_⟩
    have s8 := same_new (o := .tup [.int (p.1 + 1), .int p.2]) hn
    have T8 : TupAt (upd H7 n (.tup [.int (p.1 + 1), .int p.2])) n (p.1 + 1, p.2) := upd_same
    generalize upd H7 n (.tup [.int (p.1 + 1), .int p.2]) = H8 at s8 T8 ⊢
    have d8 := s8 _ _ d6
    have keep : ∀ {b : Addr} {p : Int × Int}, TupAt H8 b p → TupAt (upd H8 D2 (.lst (ws.map V.ref ++ [.ref n]))) b p := fun {b p} z => (upd_ne (ne_of z d8 (by intro e; cases e))).trans z
    refine ⟨_, d8, ?_, same_upd (s6.trans s8) hD2, ws ++ [n], ?_, ?_⟩
    · rw [List.length_map]
      exact Nat.lt_of_le_of_lt wl (by decide)
    · rw [upd_same, List.map_append]
      rfl
    · have e : mv 1 (us.take (j + 1)) = mv 1 (us.take j) ++ [(p.1 + 1, p.2)] := by
        rw [List.take_succ, hpi]
        exact List.map_append
      rw [e]
      exact paired_snoc (keep T8) (paired_imp (fun _ _ z => keep (s8 _ _ z)) pr6)
  · rintro H6 ⟨s6, ws, d6, pr6⟩
    rw [tl, List.take_length] at pr6
    exact q D2 H6 (none_back s05 hD2) (s05.trans s6) ⟨ws, d6, pr6⟩
theorem plain_take : ∀ {ks cs : List (Int × Int)}, Vd cs ks → ∀ i, Vd (plainF (ks.take i) cs) (ks.drop i)
  | [], cs, v, i => by
    rw [List.take_nil, List.drop_nil]
    exact v
  | (a, b) :: ks, cs, v, 0 => v
  | (a, b) :: ks, cs, v, i + 1 => by
    rw [List.take_succ_cons, List.drop_succ_cons, plainF_cons]
    exact plain_take (out_vd v).1 i
theorem plain_snoc (ks cs : List (Int × Int)) (k : Int × Int) : plainF (ks ++ [k]) cs = outBox k.1 k.2 (plainF ks cs) := by
  unfold plainF
  rw [List.foldl_append]
  rfl
def t_pfBody (K : PySem.W.Frag) : TS := (tSeq (tAsg (tLc ((fun σ H R => iList K (tVar 1) σ H R ∨ iTup K (tVar 1) σ H R)) (gName 5) (tTest (tOp qGt (tOp (rIxT K) (tVar 5) (tC (.int 0))) (tVar 2))) (tVar 5) [5]) (gName 4))
  (tAsg (tOp rCat (tCall (spWithout K) [] E0 (tCons (tVar 1) (tCons (tVar 2) (tCons (tVar 3) (tNil))))) (tVar 4)) (gName 1)))
def t_plain_form (K : PySem.W.Frag) (a0 : Addr) (c_Row : Addr) : TS := tSeq (tAsg (tProp c_Row (spContents K c_Row) [] E0 (tVar 0)) (gName 1))
  (tSeq (tFor (iTup K (tProp c_Row (spCapacities K c_Row) [] E0 (tVar 0))) (gTup K 2 (gCons (gName 2) (gCons (gName 3) (gNil))))
  (t_pfBody K))
  (tRet (tMake c_Row (spRowInit K c_Row) [.ref a0] E0 (tCons (tVar 1) (tNil)))))
def spPlainForm (K : PySem.W.Frag) (C : Addr) : Sp := fun vs H Q _ => ∃ x ps ks, vs = [.ref x] ∧ RowAt K C H x ps ks ∧ Vd ps ks ∧ ∀ y H', H y = none → Same H H' → RowAt K C H' y (plainF ks ps) [] → Q (.ref y) H'
theorem pure_plain_form {K : PySem.W.Frag} {C a0 : Addr} (hE : BareK K a0 []) (vs : List V) (H : Hp) (Q : VK) (E : XK) (h : spPlainForm K C vs H Q E) : t_plain_form K a0 C { nx := fun _ H' => Q .non H', rt := Q } (start ["row", "contents", "index", "capacity", "behind", "pair"] vs) H := by
  obtain ⟨x, ps, ks, rfl, row, v, q⟩ := h
  obtain ⟨dx, fs, hx⟩ := row.at
  refine ⟨_, rfl, x, dx, fs, rfl, hx, x, ps, ks, rfl, row, fun a ha => ?_⟩
  refine ⟨_, rfl, x, dx, fs, rfl, hx, x, ps, ks, rfl, row, fun b hb => ?_⟩
  obtain ⟨ts, bare, pr⟩ := hb
  refine ⟨b, rfl, ⟨_, BareW.sq (.inl bare)⟩, ?_⟩
  have tl : (ts.map V.ref).length = ks.length := by rw [List.length_map, paired_len pr]
  refine for_it (walk_tup (K := K) (a := b) (xs := ts.map V.ref)) (fun i σ H1 => Same H H1 ∧ ∃ A w2 w3 w4 w5, PairsAt K H1 A (plainF (ks.take i) ps) ∧ σ = [some (.ref x), some (.ref A), w2, w3, w4, w5]) ⟨fun _ _ h => h, a, none, none, none, none, ha.at, rfl⟩ ?_ ?_ ?_
  · rintro i σ H1 _ ⟨s1, _⟩
    exact SqT.same s1 (BareW.sq (.inl bare))
  · rintro i w σ H1 H2 _ ⟨s1, A, w2, w3, w4, w5, pA, rfl⟩ ⟨rfl, hw⟩
    rw [List.getElem?_map] at hw
    obtain ⟨t, ht, rfl⟩ := Option.map_eq_some_iff.mp hw
    obtain ⟨k, hk, hat⟩ := paired_at pr ht
    obtain ⟨idx, c⟩ := k
    have vi := plain_take v i
    have tk : ks.take (i + 1) = ks.take i ++ [(idx, c)] := by
      rw [List.take_succ, hk]
      rfl
    obtain ⟨rest, dr⟩ : ∃ rest, ks.drop i = (idx, c) :: rest := ⟨ks.drop (i + 1), by
      obtain ⟨h1, h2⟩ := List.getElem?_eq_some_iff.mp hk
      rw [← h2]
      exact List.drop_eq_getElem_cons h1⟩
    rw [dr] at vi
    have e : plainF (ks.take (i + 1)) ps = outBox idx c (plainF (ks.take i) ps) := by
      rw [tk, plain_snoc]
    rw [e]
    generalize plainF (ks.take i) ps = cs at pA vi ⊢
    obtain ⟨_, _, c1, c2⟩ := vi.head
    have cl := vd_len vi
    refine ⟨t, _, rfl, SqT.of (s1 _ _ hat), rfl, _, _, rfl, _, _, rfl, rfl, ?_⟩
    show t_pfBody K _ [some (.ref x), some (.ref A), some (.int idx), some (.int c), w4, w5] H2
    unfold t_pfBody
    unfold tSeq
    unfold tAsg
    refine lc_keep (vn := 5) (fun p => decide (idx < p.1)) (fun R r => ⟨_, rfl, r⟩) pA (by omega) (fun _ => rfl) (fun _ => rfl) (fun t p H' R s T r => ⟨_, rfl, t, _, 0, _, rfl, rfl, SqT.of T, rfl, _, rfl, _, _, rfl, rfl, _, rfl, r⟩) fun D H3 hD s3 pD => ?_
    refine ⟨_, rfl, _, rfl, _, rfl, ?_⟩
    generalize hz : spWithout K = zz
    show zz [.ref A, .int idx, .int c] H3 _ E0
    subst hz
    refine ⟨A, idx, c, cs, rfl, pA.same s3, near_vd vi, vi.ap, by omega, c1, c2, fun D2 H4 hD2 s4 pD2 => ?_⟩
    obtain ⟨us1, L1, pr1⟩ := pD2
    obtain ⟨us2, L2, pr2⟩ := pD.same s4
    refine ⟨_, rfl, D2, D, _, _, rfl, rfl, L1, L2, ?_, fun n hn => ?_⟩
    · rw [List.length_map, List.length_map, paired_len pr1, paired_len pr2]
      have o := vd_len (out_vd vi).1
      unfold outBox hi at o
      rw [List.length_append] at o
      exact Nat.le_trans o (by decide)
    have s5 := same_new (o := .lst (us1.map V.ref ++ us2.map V.ref)) hn
    refine ⟨s1.trans (s3.trans (s4.trans s5)), n, some (.int idx), some (.int c), some (.ref D), w5, ⟨us1 ++ us2, .inl (SqL.of (by rw [upd_same, List.map_append])), ?_⟩, rfl⟩
    unfold outBox
    exact paired_append (paired_imp (fun _ _ z => s5 _ _ z) pr1) (paired_imp (fun _ _ z => s5 _ _ z) pr2)
  · rintro σ H1 ⟨s1, A, w2, w3, w4, w5, pA, rfl⟩
    rw [tl, List.take_length] at pA
    have pv := (plain_vd v).1
    have hk : PairsAt K H1 a0 [] := ⟨[], .inr (.inr hE), .nil⟩
    refine ⟨_, rfl, fun y0 dx g1 g2 g3 => make_row (C := C) (E := E0) (Q := Q) pA hk pv.ok (fun y H5 qs ls hy s5 row5 p1 p2 a1 a2 => ?_) y0 dx g1 g2 g3⟩
    have e1 : qs = plainF ks ps := asc_eq a1 pv.ap p1
    have e2 : ls = [] := List.Perm.eq_nil p2
    subst e1 e2
    exact q y H5 (none_back s1 hy) (s1.trans s5) row5
end SR
set_option Elab.async false
set_option linter.all false
set_option maxRecDepth 100000
set_option maxHeartbeats 4000000
namespace SR
open PySem PySem.Spec PyProof.Rows L2
/-- () -/
def tTup0 : TE := fun σ H Q => ∀ p o, H p = none → o.cls = .type "tuple" → o.dict = none → Q (.ref p) (upd H p (.frz o (.tup [])))
section
variable {X : Cx}
theorem pe_tup0 {x1} {pos : Pos} : PE X (.Tuple [] x1 pos) tTup0 := by
  refine ⟨fun pins s σ H Q I hq => ?_⟩
  refine wpAny_Tuple_spliced (thn ((pa_nil (X := X)).run pos pins s σ H (fun xs H1 => xs = [] ∧ H1 = H) I ⟨rfl, rfl⟩) fun us s1 ⟨xs, H1, I1, r, ex, eh⟩ => ?_)
  subst ex eh
  cases r
  refine ⟨Nat.zero_le _, ?_⟩
  have hf : H1 s1.heap.objs.size = none := I1.hok.fresh (Nat.le_refl _)
  exact ⟨.ref s1.heap.objs.size, upd H1 s1.heap.objs.size (.frz { cls := .type "tuple", data := .seq ([] : List Value).toArray } (.tup [])), I1.laid (t' := s1.toks) (fun b u e => Heap.get?_push_of_some _ e) (Nat.le_refl _) ⟨Heap.get?_push_size _ rfl, Nat.zero_le _, [], .nil, IsTup.new _ _⟩, rfl, hq _ _ hf rfl rfl⟩
theorem sorted_seqR {prog : Program} {w : World} {A : Around} {E : Value → Shared → Prop} {s : Shared} {l : Addr} {vs : List Value} {ltv : Value → Value → Bool} {Q : Value → Shared → Prop} (O : SrtO.Swo ltv) (hl : IsTup s.heap l vs.toArray) (hz : vs.length ≤ sizeLine)
    (hS : 2 ≤ vs.length → ∀ (h1 : Heap) (a : Addr), h1.get? a = some (seqObj "list" vs.toArray 0) → (∀ b o, s.heap.get? b = some o → b ≠ a ∧ h1.get? b = some o) → SrtO.SortableO prog w A.in1.in1 { s with heap := h1 } a vs ltv)
    (h : ∀ (out : List Value) (h1 h' : Heap) (d : Addr), SrtO.Srtd ltv out → SrtO.Stb ltv out vs.reverse → (∀ b o, s.heap.get? b = some o → h1.get? b = some o) → (∀ b o, h1.get? b = some o → h'.get? b = some o) → h1.objs.size ≤ d → (∃ n, h'.get? d = some (seqObj "list" out.toArray.reverse n)) → Q (.ref d) { s with heap := h' }) :
    wpAny (model prog w) A (call (.builtin "sorted") [.ref l] [(Str.ofString "reverse", .bool true)]) Q E s := by
  obtain ⟨o, ho, hcl, n, hd⟩ := hl
  refine call_function_entry_kw kind_sorted plain_sorted entry_sorted (args_sorted_rev _ _) ?_
  unfold Builtin.«sorted»
  apply wpAny_bind (m := checkCount "sorted" 1 1 _)
  apply wpAny_pure
  apply wpAny_bind
  refine wpAny_collect_seq l (.inr rfl) ho hcl hd (fun h1 k1 => ?_) (by rw [List.size_toArray]; exact hz)
  rw [List.toList_toArray]
  apply wpAny_bind
  refine wpAny_newList ?_ hz
  have new : (h1.push (seqObj "list" vs.toArray 0)).get? h1.objs.size = some (seqObj "list" vs.toArray 0) := Heap.get?_push_size _ rfl
  have old : ∀ b o, s.heap.get? b = some o → b ≠ h1.objs.size ∧ (h1.push (seqObj "list" vs.toArray 0)).get? b = some o := fun b o e => ⟨Nat.ne_of_lt (Heap.lt_size (k1 b o e)), Heap.get?_push_of_some _ (k1 b o e)⟩
  show wpAny _ _ _ _ _ { s with heap := h1.push (seqObj "list" vs.toArray 0) }
  apply wpAny_bind
  refine wpAny_holding (wpAny_call_entry_kw slot_list_sort ⟨_, new, rfl⟩ entry_list_sort (SrtR.list_sort_ordR (b := true) O new hz (fun h2 => hS h2 _ _ new old) fun out hs hb => ⟨_, rfl, ?_⟩) (args_list_sort_rev _ _))
  refine wpAny_pure ⟨_, rfl, h out h1 _ _ hs hb k1 (fun b o e => ?_) (Nat.le_refl _) (sortedHeap_at new)⟩
  have lt := Heap.lt_size e
  rw [sortedHeap_old (Nat.ne_of_lt lt) (by rw [size_push']; exact Nat.lt_succ_of_lt lt)]
  exact Heap.get?_push_of_some _ e
def rSortedPR (K : PySem.W.Frag) : List V → List V → Hp → VK → Prop := fun vs zs H Q => ∃ (a : Addr) (xs : List V) (k : V → Int × Int), vs = [V.ref a] ∧ zs = [.bl true] ∧ (SqL K H a xs ∨ SqT K H a xs) ∧ (∀ x ∈ xs, ∃ t, x = V.ref t ∧ H t = some (.tup [.int (k x).1, .int (k x).2])) ∧
  ∀ ys p, SrtO.Srtd (ltP k) ys → SrtO.Stb (ltP k) ys xs.reverse → H p = none → Q (.ref p) (upd H p (.lst ys.reverse))
theorem cr_sortedPR : CallRK X (.builtin "sorted") [Str.ofString "reverse"] (rSortedPR X.K) := by
  intro pins s σ H vs zs us ws Q I r rz h
  obtain ⟨a, xs, k, rfl, rfl, hs, hx, q⟩ := h
  obtain rfl := Vals.ref1 r
  obtain ⟨w1, rfl, e1⟩ := vals1 rz
  obtain rfl : w1 = Value.bool true := e1
  have common : ∃ its, Vals xs its ∧ (s.heap.IsList a its.toArray ∨ IsTup s.heap a its.toArray) ∧ xs.length ≤ sizeLine := by
    rcases hs with hs | hs
    · obtain ⟨its, rv, hl, hz⟩ := I.list hs
      exact ⟨its, rv, .inl hl.isList, hz⟩
    · obtain ⟨its, rv, hl, hz⟩ := I.tuple hs
      exact ⟨its, rv, .inr hl, hz⟩
  obtain ⟨its, rv, hl, hz⟩ := common
  obtain ⟨e1, e2⟩ := refs_back rv fun x m => let ⟨t, e, _⟩ := hx x m; ⟨t, e⟩
  have prs : ∀ v ∈ its, Srt.IsPair s.heap v (k (backV v)).1 (k (backV v)).2 := by
    intro v hv
    obtain ⟨t, rfl⟩ := e2 v hv
    have hm : V.ref t ∈ xs := by rw [e1]; exact List.mem_map.mpr ⟨_, hv, rfl⟩
    obtain ⟨t', e, ht⟩ := hx _ hm
    cases e
    obtain ⟨_, its2, r2, o, ho, hc, n, hd⟩ := I.hok _ _ ht
    obtain ⟨u1, u2, rfl, ⟨t1, rfl⟩, t2, rfl⟩ := vals2 r2
    exact ⟨t, o, t1, t2, n, rfl, ho, hc, hd⟩
  have hS : 2 ≤ its.length → ∀ (h1 : Heap) (b : Addr), h1.get? b = some (seqObj "list" its.toArray 0) → (∀ c o, s.heap.get? c = some o → c ≠ b ∧ h1.get? c = some o) → SrtO.SortableO X.prog X.w X.A.in1.in1 { s with heap := h1 } b its (fun v u => SrtO.lexB (k (backV v)) (k (backV u))) := fun h2 h1 b hb kk => by
    refine SrtO.pairs_sortableO (s := { s with heap := h1 }) (by omega) (fun v hm => (prs v hm).keeps fun c o e _ => (kk c o e).2) fun o e => ?_
    cases Option.some.inj (e.symm.trans hb)
    intro c
    exact absurd (Value.type.inj c) (by decide)
  have er : xs.reverse = its.reverse.map backV := by rw [e1, List.map_reverse]
  have fin : ∀ (out : List Value) (h1 h' : Heap) (d : Addr), SrtO.Srtd (fun v u => SrtO.lexB (k (backV v)) (k (backV u))) out → SrtO.Stb (fun v u => SrtO.lexB (k (backV v)) (k (backV u))) out its.reverse → (∀ b o, s.heap.get? b = some o → h1.get? b = some o) → (∀ b o, h1.get? b = some o → h'.get? b = some o) → h1.objs.size ≤ d → (∃ n, h'.get? d = some (seqObj "list" out.toArray.reverse n)) → EP X pins σ Q (.ref d) { s with heap := h' } := fun out h1 h' d o1 o2 k1 k2 far nw => by
    have I1 : L2.Inv X pins σ H { s with heap := h1 } := I.kept (t' := s.toks) k1
    obtain ⟨n, hn⟩ := nw
    have rf : ∀ u ∈ out, ∃ a, u = Value.ref a := fun u hu => e2 u (List.mem_reverse.mp (o2.perm.mem_iff.mp hu))
    have rf2 : ∀ u ∈ out.reverse, ∃ a, u = Value.ref a := fun u hu => rf u (List.mem_reverse.mp hu)
    have st : SrtO.Stb (ltP k) (out.map backV) xs.reverse := by rw [er]; exact SrtO.Stb.map (ltP_swo k) backV o2
    have e3 : out.toArray.reverse = out.reverse.toArray := by simp
    have e4 : (out.map backV).reverse = out.reverse.map backV := by rw [List.map_reverse]
    refine ⟨.ref d, upd H d (.lst (out.map backV).reverse), I1.laid (t' := s.toks) k2 far ⟨?_, out.reverse, n, by rw [e4]; exact vals_back rf2, by rw [← e3]; exact hn⟩, rfl, q _ d (SrtO.srtd_map o1) st (I1.hok.fresh far)⟩
    rw [List.length_reverse, st.len, List.length_reverse]
    exact hz
  rcases hl with hl | hl
  · refine SrtR.sorted_ordK (b := true) (fun _ => rfl) (args_sorted_rev _ _) (fun _ => args_list_sort_rev _ _) (SrtO.swo_lex fun u => k (backV u)) hl (by rw [← rv.length]; exact hz) (fun h2 h1 b hb kk => hS h2 h1 b hb kk) fun out h1 h2 => ?_
    exact fin out s.heap _ _ h1 h2 (fun _ _ e => e) (fun _ _ e => sortedAll_old e) (Nat.le_succ _) (sortedAll_at s.heap its out.toArray.reverse)
  · exact sorted_seqR (SrtO.swo_lex fun u => k (backV u)) hl (by rw [← rv.length]; exact hz) (fun h2 h1 b hb kk => hS h2 h1 b hb kk) fin
end
theorem PairsAt.sortedR {K : PySem.W.Frag} {H : Hp} {a : Addr} {ps : List (Int × Int)} {Q : VK} (h : PairsAt K H a ps) (nd : (ps.map Prod.fst).Nodup)
    (q : ∀ l us qs, H l = none → Paired (TupAt H) us qs → qs.Perm ps → Asc qs → Q (.ref l) (upd H l (.lst (us.map V.ref).reverse))) : rSortedPR K [.ref a] [.bl true] H Q := by
  obtain ⟨ts, h1, h2⟩ := h
  have it : ∀ x ∈ ts.map V.ref, ∃ t, x = V.ref t ∧ H t = some (.tup [.int (pk H x).1, .int (pk H x).2]) := fun x m => by
    obtain ⟨t, ht, rfl⟩ := List.mem_map.mp m
    obtain ⟨p, _, hat⟩ := paired_mem h2 t ht
    refine ⟨t, rfl, ?_⟩
    rw [pk_at hat]
    exact hat
  refine ⟨a, _, pk H, rfl, rfl, h1.imp id BareW.sq, it, fun ys p a1 a2 a3 => ?_⟩
  have rev : (ts.map V.ref).reverse = ts.reverse.map V.ref := by rw [List.map_reverse]
  rw [rev] at a2
  have pr : Paired (TupAt H) ts.reverse ps.reverse := by
    have key : ∀ {ts : List Addr} {ps : List (Int × Int)}, Paired (TupAt H) ts ps → Paired (TupAt H) ts.reverse ps.reverse := by
      intro ts ps h
      induction h with
      | nil => exact .nil
      | cons f _ ih =>
        rw [List.reverse_cons, List.reverse_cons]
        exact paired_snoc f ih
    exact key h2
  have nd2 : (ps.reverse.map Prod.fst).Nodup := ((List.reverse_perm ps).map _).nodup_iff.mpr nd
  obtain ⟨us, qs, rfl, b1, b2, b3⟩ := sorted_out pr nd2 a1 a2
  exact q p us qs a3 b1 (b2.trans (List.reverse_perm ps)) b3
end SR
set_option Elab.async false
set_option linter.all false
set_option maxRecDepth 100000
set_option maxHeartbeats 4000000
namespace SR
open PySem PySem.Spec PyProof.Rows L2
theorem args_maxD (a d : Value) : argsOk "max" ⟨[a], [(Str.ofString "default", d)]⟩ := by unfold argsOk; kernel_rfl
theorem nameML : (toString "max" ++ toString ".loop" : String) = "max.loop" := by decide
section
variable {prog : Program} {w : World} {A : Around} {R : Result → Shared → Prop} {it : Addr} {fp wr : List Addr} {n : Nat} {P : Nat → Value → Prop} {St : Nat → Heap → Prop} {kw : List (Str × Value)}
/-- the walk behind the first item; kw is handed on -/
theorem mxd_more (W : PySem.Walks prog w A.in1 it fp wr n P St) (bt : Nat → Nat → Bool) (cmp : CmpOf prog w A.in1 .Gt P bt) (B : Addr) (nB : B ∉ fp) :
    ∀ (k j : Nat) (s : Shared) (best : Value) (c : Nat), n - (j + 1) = k → j + 1 ≤ n → St (j + 1) s.heap → P (argBest bt j) best → s.heap.get? B = some { cls := .type "list", dict := none, data := .seq #[best, best] c, slots := #[] } →
    (∀ v h' tk, P (argBest bt (n - 1)) v → (∀ b o, b ∉ wr → b ≠ B → s.heap.get? b = some o → h'.get? b = some o) → R (.ok (.ret v)) { s with heap := h', toks := tk }) →
    codeAny (model prog w) A (.builtin "max.loop" ⟨[.ref it, .none, .ref B], kw⟩) R s
  | 0, j, s, best, c, ek, lj, st, pb, hB, fin => by
    have nW : B ∉ wr := fun h => nB (W.sub _ h)
    have end_ : j + 1 = n := by omega
    refine codeAny_builtin (b := Builtin.«max.loop») PySem.F.entry_max_loop ?_
    rw [Around.under_plainId (id := "max.loop") PySem.F.plain_max_loop _]
    show wpAny _ A.in1 (seqItems? (.ref B) >>= _) _ _ s
    refine wpAny_bind (wpAny_seqItems hB rfl (wpAny_bind (wpAny_tryCatch (W.done s _ _ (end_ ▸ st) fun h1 tk k1 => ?_))))
    have hB1 := k1 B _ nW hB
    show wpAny _ A.in1 (updateSeq B (fun _ => #[]) >>= _) _ _ _
    refine wpAny_bind (wpAny_updateSeq hB1 rfl (wpAny_bind (wpAny_letGo (wpAny_pure ?_))))
    exact fin best _ tk (by rw [← end_]; exact pb) fun b o q1 q2 e => (Heap.get?_update_other _ _ (Ne.symm q2)).trans (k1 b o q1 e)
  | k + 1, j, s, best, c, ek, lj, st, pb, hB, fin => by
    have nW : B ∉ wr := fun h => nB (W.sub _ h)
    have more_ : j + 1 < n := by omega
    refine codeAny_builtin (b := Builtin.«max.loop») PySem.F.entry_max_loop ?_
    rw [Around.under_plainId (id := "max.loop") PySem.F.plain_max_loop _]
    show wpAny _ A.in1 (seqItems? (.ref B) >>= _) _ _ s
    refine wpAny_bind (wpAny_seqItems hB rfl (wpAny_bind (wpAny_tryCatch (W.item (j + 1) s _ _ more_ st fun v h1 tk pv st1 k1 => ?_))))
    have hB1 := k1 B _ nW hB
    show wpAny _ A.in1 (tryCatch (holding [v, v] (richCompare .Gt v best >>= _)) _ >>= _) _ _ _
    refine wpAny_bind (wpAny_tryCatch (wpAny_holding (wpAny_bind (cmp (j + 1) (argBest bt j) v best _ _ _ pv pb (wpAny_bind (wpAny_holding (wpAny_truthy_bool (wpAny_bind (wpAny_letGo (wpAny_pure ?_))))))))))
    cases q : bt (j + 1) (argBest bt j) with
    | true =>
      simp only [if_true]
      refine wpAny_bind (wpAny_updateSeq hB1 rfl (wpAny_bind (wpAny_letGo ?_)))
      rw [nameML]
      refine wpAny_pure ⟨plainId_quiet PySem.F.plain_max_loop _, mxd_more W bt cmp B nB k (j + 1) _ v _ (by omega) more_ (W.frame _ _ _ st1 fun b hb o e => ?_) (by unfold argBest; rw [if_pos q]; exact pv) (Heap.get?_update_self _ hB1 rfl) fun v2 h2 tk2 pv2 k2 => ?_⟩
      · exact (Heap.get?_update_other _ _ (fun z : B = b => nB (by rw [z]; exact hb))).trans e
      · exact fin v2 h2 tk2 pv2 fun b o q1 q2 e => k2 b o q1 q2 ((Heap.get?_update_other _ _ (Ne.symm q2)).trans (k1 b o q1 e))
    | false =>
      simp only [Bool.false_eq_true, if_false]
      refine wpAny_bind (wpAny_letGo ?_)
      rw [nameML]
      exact wpAny_pure ⟨plainId_quiet PySem.F.plain_max_loop _, mxd_more W bt cmp B nB k (j + 1) _ best c (by omega) more_ st1 (by unfold argBest; rw [if_neg (by rw [q]; exact Bool.false_ne_true)]; exact pb) hB1 fun v2 h2 tk2 pv2 k2 => fin v2 h2 tk2 pv2 fun b o q1 q2 e => k2 b o q1 q2 (k1 b o q1 e)⟩
end
section
variable {prog : Program} {w : World} {A : Around} {E : Value → Shared → Prop} {s : Shared} {l : Addr} {xs : Array (Int × Tok)} {d : Value}
theorem maxD_ints {Q : Value → Shared → Prop} (hh : A.handled = none) (hl : s.heap.IsList l (intItems xs)) (h0 : xs.size = 0 → ∀ h' tk, (∀ b o, s.heap.get? b = some o → h'.get? b = some o) → Q d { s with heap := h', toks := tk })
    (h : 0 < xs.size → ∀ v h' tk, (intItems xs)[argBest (fun i j => decide (numAt xs i > numAt xs j)) (xs.size - 1)]? = some v → (∀ b o, s.heap.get? b = some o → h'.get? b = some o) → Q v { s with heap := h', toks := tk }) :
    wpAny (model prog w) A (call (.builtin "max") [.ref l] [(Str.ofString "default", d)]) Q E s := by
  refine kmb_tree PySem.F.kind_max PySem.F.plain_max PySem.F.entry_max (args_maxD _ _) ?_
  show wpAny _ A.in1 (Builtin.Builtins.bindParams "max" ["key", "default"] 0 ⟨[], [(Str.ofString "default", d)]⟩ >>= _) _ _ s
  refine wpAny_bind (wpAny_of_eq (show Builtin.Builtins.bindParams "max" ["key", "default"] 0 ⟨[], [(Str.ofString "default", d)]⟩ = pure [none, some d] from rfl) ?_)
  refine wpAny_bind (wpAny_pure ?_)
  refine wpAny_bind (iter_intList hl fun s2 es st hfp hlI => ?_)
  subst es
  generalize hs2 : ({ s with heap := s.heap.push { cls := .type "list_iterator", data := .fields #[.ref l, .int 0 0] } } : Shared) = s2 at st hfp ⊢
  have W := PySem.Walks.list (prog := prog) (w := w) (A := A.in1) hh s.heap.objs.size l hlI (intItems xs)
  have sz : (intItems xs).size = xs.size := by simp [intItems]
  rw [sz] at W
  have old2 : ∀ b o, s.heap.get? b = some o → s2.heap.get? b = some o := fun b o e => by
    rw [← hs2]
    exact Heap.get?_push_of_some _ e
  have lt2 : ∀ b o, s.heap.get? b = some o → b ≠ s.heap.objs.size ∧ b ≠ s2.heap.objs.size := fun b o e => ⟨Nat.ne_of_lt (Heap.lt_size e), Nat.ne_of_lt (Heap.lt_size (old2 b o e))⟩
  refine wpAny_bind (wpAny_newList ?_ (Nat.zero_le _))
  rw [nameML]
  have nB : s2.heap.objs.size ∉ [s.heap.objs.size, l] := fun m => Nat.lt_irrefl _ (hfp _ m)
  have hB : (s2.heap.push (seqObj "list" #[] 0)).get? s2.heap.objs.size = some (seqObj "list" #[] 0) := Heap.get?_push_size _ rfl
  have st3 : (s2.heap.push (seqObj "list" #[] 0)).IsListIter s.heap.objs.size l 0 ∧ (s2.heap.push (seqObj "list" #[] 0)).IsList l (intItems xs) := W.frame 0 _ _ st fun b _ o e => Heap.get?_push_of_some _ e
  refine wpAny_pure ⟨plainId_quiet PySem.F.plain_max_loop _, ?_⟩
  refine codeAny_builtin (b := Builtin.«max.loop») PySem.F.entry_max_loop ?_
  rw [Around.under_plainId (id := "max.loop") PySem.F.plain_max_loop _]
  show wpAny _ A.in1 (seqItems? (.ref s2.heap.objs.size) >>= _) _ _ _
  have nW : s2.heap.objs.size ∉ [s.heap.objs.size] := fun m => nB (by rw [List.mem_singleton.mp m]; exact List.mem_cons_self)
  have sEq : ∀ (h' : Heap) (tk : Nat), ({ s2 with heap := h', toks := tk } : Shared) = { s with heap := h', toks := tk } := fun h' tk => by rw [← hs2]
  by_cases z : xs.size = 0
  · refine wpAny_bind (wpAny_seqItems hB rfl (wpAny_bind (wpAny_tryCatch (W.done _ _ _ (by rw [z]; exact st3) fun h1 tk k1 => ?_))))
    have fin := h0 z h1 tk fun b o e => k1 b o (fun m => (lt2 b o e).1 (List.mem_singleton.mp m)) (Heap.get?_push_of_some _ (old2 b o e))
    rw [← sEq] at fin
    show wpAny (model prog w) A.in1 (rule _ >>= fun _ => (pure (PySem.Fin.done (.ret d)) : Sem PySem.Fin)) _ _ _
    refine wpAny_bind (wpAny_rule ?_)
    exact wpAny_pure fin
  · have pos : 0 < xs.size := Nat.pos_of_ne_zero z
    refine wpAny_bind (wpAny_seqItems hB rfl (wpAny_bind (wpAny_tryCatch (W.item 0 _ _ _ pos st3 fun v h1 tk pv st1 k1 => ?_))))
    have hB1 := k1 _ _ nW hB
    show wpAny _ A.in1 (updateSeq s2.heap.objs.size (fun _ => #[v, v]) >>= _) _ _ _
    refine wpAny_bind (wpAny_updateSeq hB1 rfl ?_)
    rw [nameML]
    refine wpAny_pure ⟨plainId_quiet PySem.F.plain_max_loop _, mxd_more W (fun i j => decide (numAt xs i > numAt xs j)) (CmpOf.ints_gt (numAt xs) (fun _ _ => intItems_at)) s2.heap.objs.size nB _ 0 _ v _ rfl pos (W.frame _ _ _ st1 fun b hb o e => ?_) pv (Heap.get?_update_self _ hB1 rfl) fun v2 h2 tk2 pv2 k2 => ?_⟩
    · exact (Heap.get?_update_other _ _ (fun q : s2.heap.objs.size = b => nB (by rw [q]; exact hb))).trans e
    · have fin := h pos v2 h2 tk2 (by simpa [intItems] using pv2) fun b o e => k2 b o (fun m => (lt2 b o e).1 (List.mem_singleton.mp m)) (lt2 b o e).2 ((Heap.get?_update_other _ _ (Ne.symm (lt2 b o e).2)).trans (k1 b o (fun m => (lt2 b o e).1 (List.mem_singleton.mp m)) (Heap.get?_push_of_some _ (old2 b o e))))
      rw [← sEq] at fin
      exact fin
end
def rMaxDf (K : PySem.W.Frag) : List V → List V → Hp → VK → Prop := fun vs zs H Q => ∃ (a : Addr) (ns : List Int) (d : Int), vs = [V.ref a] ∧ zs = [.int d] ∧ SqL K H a (ns.map V.int) ∧ (ns = [] → Q (.int d) H) ∧ ∀ m, m ∈ ns → (∀ y ∈ ns, y ≤ m) → Q (.int m) H
theorem cr_maxDf {X : Cx} (hc : X.calm = true) : CallRK X (.builtin "max") [Str.ofString "default"] (rMaxDf X.K) := by
  intro pins s σ H vs zs us ws Q I r rz h
  obtain ⟨a, ns, d, rfl, rfl, hs, q0, q⟩ := h
  obtain ⟨its, rv, hl, _⟩ := I.list hs
  obtain rfl := Vals.ref1 r
  obtain ⟨w1, rfl, td, e1⟩ := vals1 rz
  subst e1
  have hi := rv.ints
  obtain ⟨xs, e⟩ := hi.allInts.items
  have hn : numsOf (intItems xs).toList = ns := by rw [← e]; exact hi.numsOf
  rw [nums_intItems] at hn
  subst hn
  have hl' : s.heap.IsList a (intItems xs) := by rw [← e]; exact hl.isList
  refine maxD_ints (I.ok.hd hc) hl' (fun z h' tk k => ⟨.int d, H, I.kept k, ⟨_, rfl⟩, q0 ?_⟩) fun pos v h' tk hv k => ?_
  · exact List.length_eq_zero_iff.mp (by simpa using z)
  · obtain ⟨t, rfl⟩ := intItems_at hv
    obtain ⟨h1, h2⟩ := argBest_gt (numAt xs) (xs.size - 1)
    refine ⟨.int _, H, I.kept k, ⟨_, rfl⟩, q _ ?_ fun y m => ?_⟩
    · rw [numAt_eq]
      exact PySem.getD_mem (by rw [List.length_map, Array.length_toList]; omega)
    · obtain ⟨j, hj, rfl⟩ := mem_getD m
      rw [List.length_map, Array.length_toList] at hj
      rw [← numAt_eq]
      exact h2 j (by omega)
end SR
set_option Elab.async false
set_option linter.all false
set_option maxRecDepth 100000
set_option maxHeartbeats 1000000
namespace SR
open PySem PySem.Spec PyProof.Rows L2
section
variable {K : PySem.W.Frag} {B C : Addr} {N N2 N3 : L2.St → Hp → Prop} {R : VK}
/-- what is no list stays -/
theorem RowAt.lst {H H' : Hp} {O x : Addr} {xs : List V} {ps ks : List (Int × Int)} (row : RowAt K C H x ps ks) (hO : H O = some (.lst xs)) (k : SameBut O H H') : RowAt K C H' x ps ks := by
  have kp : ∀ {a : Addr} {o : HO}, H a = some o → (∀ ys, o ≠ .lst ys) → H' a = some o := fun {a o} h n => k _ _ (fun z => by
    rw [z, hO] at h
    exact n xs (Option.some.inj h).symm) h
  obtain ⟨dx, c0, k0, d0, e, ps0, ks0, h1, ⟨t1, h2, h3⟩, ⟨t2, h4, h5⟩, h6, h7, h8⟩ := row
  have tp : ∀ {t : Addr} {p : Int × Int}, TupAt H t p → TupAt H' t p := fun {t p} z => kp (o := .tup [.int p.1, .int p.2]) z (fun _ z => nomatch z)
  refine ⟨dx, c0, k0, d0, e, ps0, ks0, kp h1 (fun _ z => nomatch z), ⟨t1, ?_, paired_imp (fun _ _ z => tp z) h3⟩, ⟨t2, ?_, paired_imp (fun _ _ z => tp z) h5⟩, kp h6 (fun _ z => nomatch z), kp h7 (fun _ z => nomatch z), h8⟩
  · obtain ⟨o, a1, a2⟩ := h2
    exact ⟨o, kp a1 (fun _ z => nomatch z), a2⟩
  · obtain ⟨o, a1, a2⟩ := h4
    exact ⟨o, kp a1 (fun _ z => nomatch z), a2⟩
end
end SR
set_option Elab.async false
set_option linter.all false
set_option maxRecDepth 100000
set_option maxHeartbeats 1000000
set_option Elab.async false
set_option linter.all false
set_option maxRecDepth 100000
set_option maxHeartbeats 1000000
namespace SR
open PySem PySem.Spec PyProof.Rows L2
theorem Same.sb {F : Addr} {H H1 : Hp} (a : Same H H1) : SameBut F H H1 := fun x o _ h => a x o h
end SR
set_option Elab.async false
set_option linter.all false
set_option maxRecDepth 100000
set_option maxHeartbeats 1000000
namespace SR
open PySem PySem.Spec PyProof.Rows L2
/-- [new pair for a, b in l if test] -/
theorem lc_mapF {K : PySem.W.Frag} {te : TE} {g : TG} {tt : TT} {telt : TE} {vs : List Nat} {σ : L2.St} {H : Hp} {a : Addr} {ps : List (Int × Int)} {Q : VK} (P : Int × Int → Bool) (f : Int × Int → Int × Int) (hte : ∀ R : VK, R (.ref a) H → te σ H R) (hp : PairsAt K H a ps) (hl : ps.length ≤ 1000)
    (hs : ∀ t p H' (Rt : VK) (Rf : Hp → Prop), Same H H' → TupAt H' t p → (P p = true → ∀ n, H' n = none → Rt (.ref n) (upd H' n (.tup [.int (f p).1, .int (f p).2]))) → (P p = false → Rf H') → g (.ref t) (wipe σ vs) H' fun σ2 H2 => wipe σ2 vs = wipe σ vs ∧ tt σ2 H2 fun b H3 => if b = true then telt σ2 H3 Rt else Rf H3)
    (hQ : ∀ D H', H D = none → Same H H' → PairsL H' D ((ps.filter P).map f) → Q (.ref D) H') :
    tLc (fun σ H R => iList K te σ H R ∨ iTup K te σ H R) g tt telt vs σ H Q := by
  obtain ⟨ts, hsq, hts⟩ := hp
  have hlen : (ts.map V.ref).length = ps.length := by rw [List.length_map, paired_len hts]
  have step : ∀ (D : Addr), H D = none → ∀ i x H1 H2, i < (ts.map V.ref).length → (Same H H1 ∧ PairsL H1 D (((ps.take i).filter P).map f)) → YAt (ts.map V.ref) i H1 x H2 → g x (wipe σ vs) H2 fun σ2 H3 => wipe σ2 vs = wipe σ vs ∧ tt σ2 H3 fun b H4 =>
      if b = true then telt σ2 H4 fun y H5 => ∃ acc, H5 D = some (.lst acc) ∧ acc.length < sizeLine ∧ (Same H (upd H5 D (.lst (acc ++ [y]))) ∧ PairsL (upd H5 D (.lst (acc ++ [y]))) D (((ps.take (i + 1)).filter P).map f)) else Same H H4 ∧ PairsL H4 D (((ps.take (i + 1)).filter P).map f) := by
    rintro D hD i x H1 H2 hi ⟨s1, us, d1, pr⟩ ⟨rfl, hx⟩
    rw [List.getElem?_map] at hx
    obtain ⟨t, ht, rfl⟩ := Option.map_eq_some_iff.mp hx
    obtain ⟨p, hpi, hat⟩ := paired_at hts ht
    have ul : us.length ≤ 1000 := by
      have a := paired_len pr
      rw [List.length_map] at a
      have b := List.length_filter_le P (ps.take i)
      rw [List.length_take] at b
      have c := Nat.min_le_right i ps.length
      omega
    have tk : ps.take (i + 1) = ps.take i ++ [p] := by
      rw [List.take_succ, hpi]
      rfl
    refine hs t p H2 _ _ s1 (s1 _ _ hat) (fun e n hn => ?_) fun e => ⟨s1, us, d1, ?_⟩
    · have s3 := same_new (o := .tup [.int (f p).1, .int (f p).2]) hn
      have T3 : TupAt (upd H2 n (.tup [.int (f p).1, .int (f p).2])) n (f p) := upd_same
      generalize upd H2 n (.tup [.int (f p).1, .int (f p).2]) = H3 at s3 T3 ⊢
      have d3 := s3 _ _ d1
      have keep : ∀ {b : Addr} {p : Int × Int}, TupAt H3 b p → TupAt (upd H3 D (.lst (us.map V.ref ++ [.ref n]))) b p := fun {b p} z => (upd_ne (ne_of z d3 (by intro e; cases e))).trans z
      refine ⟨_, d3, ?_, same_upd (s1.trans s3) hD, us ++ [n], ?_, ?_⟩
      · rw [List.length_map]
        exact Nat.lt_of_le_of_lt ul (by decide)
      · rw [upd_same, List.map_append]
        rfl
      · rw [tk, List.filter_append, List.map_append]
        have : ([p].filter P) = [p] := by
          rw [List.filter_cons_of_pos e]
          rfl
        rw [this]
        exact paired_snoc (keep T3) (paired_imp (fun _ _ z => keep (s3 _ _ z)) pr)
    · rw [tk, List.filter_append, List.map_append]
      have : ([p].filter P) = [] := by
        rw [List.filter_cons_of_neg (by rw [e]; exact Bool.false_ne_true)]
        rfl
      rw [this]
      show Paired _ _ (_ ++ [])
      rw [List.append_nil]
      exact pr
  have fin : ∀ D, H D = none → ∀ H1, (Same H H1 ∧ PairsL H1 D (((ps.take (ts.map V.ref).length).filter P).map f)) → Q (.ref D) H1 := by
    rintro D hD H1 ⟨s1, pl⟩
    rw [hlen, List.take_length] at pl
    exact hQ D H1 hD s1 pl
  rcases hsq with hsq | hsq
  · refine .inl (hte _ ⟨a, rfl, ⟨_, hsq⟩, fun D hD => ?_⟩)
    exact lc_it (walk_list (K := K) (a := a) (xs := ts.map V.ref)) (fun i H1 => Same H H1 ∧ PairsL H1 D (((ps.take i).filter P).map f)) ⟨same_new hD, [], upd_same, .nil⟩ (fun i H1 _ h => SqL.same h.1 hsq) (step D hD) (fin D hD)
  · refine .inr (hte _ ⟨a, rfl, ⟨_, hsq.sq⟩, fun D hD => ?_⟩)
    exact lc_it (walk_tup (K := K) (a := a) (xs := ts.map V.ref)) (fun i H1 => Same H H1 ∧ PairsL H1 D (((ps.take i).filter P).map f)) ⟨same_new hD, [], upd_same, .nil⟩ (fun i H1 _ h => SqT.same h.1 hsq.sq) (step D hD) (fin D hD)
def t_wi2 (K : PySem.W.Frag) (c_BadCapacity : Addr) (c_Row : Addr) : TS := (tRet (tCB (qListOf K) (tCons (tProp c_Row (spContents K c_Row) [] E0 (tCall (spSweep K c_Row c_BadCapacity) [] E0 (tCons (tVar 3) (tCons (tVar 2) (tNil))))) (tNil))))
def t_with_box (K : PySem.W.Frag) (c_BadCapacity : Addr) (c_Row : Addr) : TS := tSeq (tAsg (tMake c_Row (spRowInit K c_Row) [] E0 (tCons (tLc ((fun σ H R => iList K (tVar 0) σ H R ∨ iTup K (tVar 0) σ H R)) (gTup K 2 (gCons (gName 4) (gCons (gName 5) (gNil)))) (tTest (tOp qLe (tVar 4) (tVar 1))) (tTup (tCons (tOp qSub (tVar 4) (tC (.int 1))) (tCons (tVar 5) (tNil)))) [4, 5]) (tCons (tLst (tCons (tTup (tCons (tVar 1) (tCons (tVar 2) (tNil)))) (tNil))) (tNil)))) (gName 3))
  (t_wi2 K c_BadCapacity c_Row)
def spWith (K : PySem.W.Frag) : Sp := fun vs H Q _ => ∃ (a : Addr) (i c : Int) (ps : List (Int × Int)), vs = [.ref a, .int i, .int c] ∧ PairsAt K H a ps ∧ Vd (mv (-1) (lo i ps)) [(i, c)] ∧ ps.length ≤ 1000 ∧ 1 ≤ c ∧ c ≤ 99 ∧
  ∀ D H', H D = none → Same H H' → PairsL H' D (fn1 false i c (mv (-1) (lo i ps))) → Q (.ref D) H'
theorem pure_with {K : PySem.W.Frag} {B C : Addr} (vs : List V) (H : Hp) (Q : VK) (E : XK) (h : spWith K vs H Q E) : t_with_box K B C { nx := fun _ H' => Q .non H', rt := Q } (start ["contents", "index", "capacity", "near", "place", "count"] vs) H := by
  obtain ⟨a, i, c, ps, rfl, hp, v, len, c1, c2, q⟩ := h
  unfold t_with_box
  unfold tSeq
  unfold tAsg
  refine make_two ?_
  refine lc_mapF (fun p => decide (p.1 ≤ i)) (fun p => (p.1 - 1, p.2)) (fun R r => ⟨_, rfl, r⟩) hp len (fun t p H' Rt Rf s T y n => ⟨t, _, rfl, SqT.of T, rfl, _, _, rfl, _, _, rfl, rfl, rfl, _, rfl, _, rfl, _, _, rfl, rfl, _, rfl, ?_⟩) fun D H1 hD s1 pl => ?_
  · cases e : decide (p.1 ≤ i) with
    | true => exact iteT ⟨_, rfl, _, _, rfl, rfl, _, rfl, sz (by show 2 ≤ 1000; decide), y e⟩
    | false => exact iteF (n e)
  have em : ((ps.filter fun p => decide (p.1 ≤ i)).map fun p : Int × Int => (p.1 - 1, p.2)) = mv (-1) (lo i ps) := List.map_congr_left fun p _ => by
    show (p.1 - 1, p.2) = (p.1 + -1, p.2)
    rw [Int.sub_eq_add_neg]
  rw [em] at pl
  generalize mv (-1) (lo i ps) = ns at pl v q
  refine ⟨_, rfl, _, rfl, sz (by show 2 ≤ 1000; decide), fun t ht => ?_⟩
  have s2 := same_new (o := .tup [.int i, .int c]) ht
  have T2 : TupAt (upd H1 t (.tup [.int i, .int c])) t (i, c) := upd_same
  generalize upd H1 t (.tup [.int i, .int c]) = H2 at s2 T2 ⊢
  refine ⟨sz (by show 1 ≤ 1000; decide), fun l hl => ?_⟩
  have s3 := same_new (o := .lst [.ref t]) hl
  have L3 : PairsL (upd H2 l (.lst [.ref t])) l [(i, c)] := ⟨[t], upd_same, .cons (s3 _ _ T2) .nil⟩
  generalize upd H2 l (.lst [.ref t]) = H3 at s3 L3 ⊢
  have s13 := s2.trans s3
  intro y0 dx g1 g2 g3
  refine make_row (C := C) (E := E0) (Q := fun z H4 => t_wi2 K B C { nx := fun _ H' => Q .non H', rt := Q } [some (.ref a), some (.int i), some (.int c), some z, none, none] H4) (pl.same s13).at L3.at v.ok (fun x H4 qs ls hx s4 row p1 p2 a1 a2 => ?_) y0 dx g1 g2 g3
  have e1 := asc_eq a1 v.ap p1
  have e2 := asc_eq a2 v.ak p2
  subst e1 e2
  have s04 := s1.trans (s13.trans s4)
  refine ⟨_, rfl, _, rfl, ?_⟩
  generalize hz : spSweep K C B = zz
  show zz [.ref x, .int c] H4 _ E0
  subst hz
  refine sweep_fn (p := ⟨_, v⟩) row c1 c2 fun z H5 s5 row5 => ?_
  rw [← fn1_eq false v] at row5
  obtain ⟨dx5, fs5, hx5⟩ := row5.at
  refine ⟨z, dx5, fs5, rfl, hx5, z, _, _, rfl, row5, fun w hw => ?_⟩
  obtain ⟨ts, bare, pr⟩ := hw
  have s05 := s04.trans s5
  refine ⟨w, _, rfl, .inr (BareW.sq (.inl bare)), fun D2 hD2 => ?_⟩
  have s6 := same_new (o := .lst (ts.map V.ref)) hD2
  exact q D2 _ (none_back s05 hD2) (s05.trans s6) ⟨ts, upd_same, paired_imp (fun _ _ z => s6 _ _ z) pr⟩
end SR
set_option Elab.async false
set_option linter.all false
set_option maxRecDepth 100000
set_option maxHeartbeats 4000000
namespace SR
open PySem PySem.Spec PyProof.Rows L2
def wbB (p : Int × Int) : Bool := btw (-60) 60 (.int p.1) && btw 2 9 (.int p.2)
theorem wbB_ok {p : Int × Int} : wbB p = true ↔ sizeOk p := by
  unfold wbB
  rw [Bool.and_eq_true]
  constructor
  · rintro ⟨h1, h2⟩
    obtain ⟨i, e1, b1⟩ := btw_iff.mp h1
    obtain ⟨c, e2, b2⟩ := btw_iff.mp h2
    cases e1
    cases e2
    exact ⟨b1, b2⟩
  · rintro ⟨h1, h2⟩
    exact ⟨btw_iff.mpr ⟨_, rfl, h1⟩, btw_iff.mpr ⟨_, rfl, h2⟩⟩
/-- no pairs at all, or the same first twice -/
inductive OddP (K : PySem.W.Frag) (H : Hp) : V → Prop where
  | kind {v : V} {t : String} (h : AnyT K H v t) (h1 : (t == "list") = false) (h2 : (t == "tuple") = false) : OddP K H v
  | elem {a : Addr} {x : V} {o : Option (List V)} (h : SqL K H a [x]) (hx : Val2 K H x o) (ho : pairO o = false) : OddP K H (.ref a)
  | dup {a t1 t2 : Addr} {i m n : Int} (h : SqL K H a [.ref t1, .ref t2]) (h1 : TupAt H t1 (i, m)) (h2 : TupAt H t2 (i, n)) : OddP K H (.ref a)
inductive OddC (K : PySem.W.Frag) (H : Hp) : V → Prop where
  | odd {v : V} (h : OddP K H v) : OddC K H v
  | size {a t : Addr} {p : Int × Int} (h : SqL K H a [.ref t]) (h1 : TupAt H t p) (h2 : wbB p = false) : OddC K H (.ref a)
theorem OddP.same {K : PySem.W.Frag} {H H' : Hp} {v : V} (s : Same H H') (h : OddP K H v) : OddP K H' v := by
  cases h with
  | kind h h1 h2 => exact .kind (h.same s) h1 h2
  | elem h hx ho => exact .elem (Same.seq s h) (hx.same s) ho
  | dup h h1 h2 => exact .dup (Same.seq s h) (s _ _ h1) (s _ _ h2)
theorem OddC.same {K : PySem.W.Frag} {H H' : Hp} {v : V} (s : Same H H') (h : OddC K H v) : OddC K H' v := by
  cases h with
  | odd h => exact .odd (h.same s)
  | size h h1 h2 => exact .size (Same.seq s h) (s _ _ h1) h2
theorem OddP.lst {K : PySem.W.Frag} {H : Hp} {v : V} (h : OddP K H v) : (∃ t, AnyT K H v t ∧ (t == "list") = false ∧ (t == "tuple") = false) ∨ ∃ (a : Addr) (xs : List V), v = V.ref a ∧ SqL K H a xs ∧ ((∃ x o, xs = [x] ∧ Val2 K H x o ∧ pairO o = false) ∨ ∃ (t1 t2 : Addr) (i m n : Int), xs = [V.ref t1, V.ref t2] ∧ TupAt H t1 (i, m) ∧ TupAt H t2 (i, n)) := by
  cases h with
  | kind h h1 h2 => exact .inl ⟨_, h, h1, h2⟩
  | elem h hx ho => exact .inr ⟨_, _, rfl, h, .inl ⟨_, _, rfl, hx, ho⟩⟩
  | dup h h1 h2 => exact .inr ⟨_, _, rfl, h, .inr ⟨_, _, _, _, _, rfl, h1, h2⟩⟩
def spArePairs2 (K : PySem.W.Frag) : Sp := fun vs H Q E => ∃ v, vs = [v] ∧ (spArePairs K [v] H Q E ∨ OddP K H v ∧ ∀ H', Same H H' → Q (.bl false) H')
theorem kit_no {K : PySem.W.Frag} {H : Hp} {v : V} {t : String} (h : AnyT K H v t) (h1 : (t == "list") = false) (h2 : (t == "tuple") = false) : PySem.W.kitAny K (.type t) [.type "list", .type "tuple"] = some false := by
  obtain ⟨_, _, k1, k2, _⟩ := h.kit
  unfold PySem.W.kitAny
  rw [k2, h1]
  show PySem.W.kitAny K (.type t) [.type "tuple"] = some false
  unfold PySem.W.kitAny
  rw [k1, h2]
  rfl
theorem pure_are_pairs2 {w : World} {K : PySem.W.Frag} (vs : List V) (H : Hp) (Q : VK) (E : XK) (h : spArePairs2 K vs H Q E) : t_are_pairs w K { nx := fun _ H' => Q .non H', rt := Q } (start ["value", "part", "first", "_"] vs) H := by
  obtain ⟨v, rfl, h⟩ := h
  rcases h with h | ⟨od, q⟩
  · exact pure_are_pairs [v] H Q E h
  refine ⟨_, rfl, sz (by show 2 ≤ 1000; decide), fun T hT => ?_⟩
  have s1 := same_new (o := .tup [.ty "list", .ty "tuple"]) hT
  have od1 := od.same s1
  have T1 : upd H T (.tup [.ty "list", .ty "tuple"]) T = some (.tup [.ty "list", .ty "tuple"]) := upd_same
  generalize upd H T (.tup [.ty "list", .ty "tuple"]) = H1 at s1 od1 T1 ⊢
  rcases od1.lst with ⟨t, any, n1, n2⟩ | ⟨a, xs, rfl, hL, hx⟩
  · exact ⟨_, T, _, _, [.type "list", .type "tuple"], false, rfl, T1, .cons (.ty _) (.cons (.ty _) .nil), any.ty, kit_no any n1 n2, _, rfl, iteT (q H1 s1)⟩
  have any : AnyT K H1 (.ref a) "list" := .lst hL
  refine ⟨_, T, _, _, [.type "list", .type "tuple"], true, rfl, T1, .cons (.ty _) (.cons (.ty _) .nil), any.ty, kit_seq any (.inl rfl), _, rfl, iteF ?_⟩
  rcases hx with ⟨x, o, rfl, vx, no⟩ | ⟨t1, t2, i, m, n, rfl, h1, h2⟩
  · refine .inl ⟨_, rfl, a, rfl, ⟨_, hL⟩, fun D hD => ?_⟩
    refine lc_it (walk_list (K := K) (a := a) (xs := [x])) (fun j H2 => Same H1 H2 ∧ H2 D = some (.lst ((List.replicate j false).map V.bl))) ⟨same_new hD, upd_same⟩ (fun j H2 _ h => Same.seq h.1 hL) ?_ ?_
    · rintro j v H2 H3 hj ⟨s2, d2⟩ ⟨rfl, hv⟩
      have hj1 : j < 1 := hj
      have ej : j = 0 := by omega
      subst ej
      cases hv
      refine ⟨rfl, yes_if ⟨_, rfl, _, o, rfl, vx.same s2, ?_⟩⟩
      rw [no]
      exact ⟨_, d2, sz (by show 1 ≤ 1000; decide), same_upd s2 hD, upd_same⟩
    · rintro H2 ⟨s2, d2⟩
      exact ⟨D, _, rfl, SqL.of d2, _, rfl, iteT (q H2 (s1.trans s2))⟩
  · refine .inl ⟨_, rfl, a, rfl, ⟨_, hL⟩, fun D hD => ?_⟩
    have tw : ∀ (j : Nat) (v : V), [V.ref t1, V.ref t2][j]? = some v → ∃ (t : Addr) (p : Int × Int), v = V.ref t ∧ TupAt H1 t p ∧ p.1 = i := fun j v e => by
      rcases j with _ | _ | j
      · cases e
        exact ⟨t1, _, rfl, h1, rfl⟩
      · cases e
        exact ⟨t2, _, rfl, h2, rfl⟩
      · cases e
    refine lc_it (walk_list (K := K) (a := a) (xs := [.ref t1, .ref t2])) (fun j H2 => Same H1 H2 ∧ H2 D = some (.lst ((List.replicate j true).map V.bl))) ⟨same_new hD, upd_same⟩ (fun j H2 _ h => Same.seq h.1 hL) ?_ ?_
    · rintro j v H2 H3 hj ⟨s2, d2⟩ ⟨rfl, hv⟩
      obtain ⟨t, p, rfl, hat, _⟩ := tw j v hv
      refine ⟨rfl, yes_if ⟨_, rfl, _, _, rfl, val2_tup (s2 _ _ hat), ?_⟩⟩
      have hj2 : j < 2 := hj
      refine ⟨_, d2, ?_, same_upd s2 hD, ?_⟩
      · rw [List.length_map, List.length_replicate]
        exact Nat.lt_of_lt_of_le hj2 (by decide)
      · rw [upd_same, List.replicate_succ', List.map_append]
        rfl
    · rintro H2 ⟨s2, d2⟩
      refine ⟨D, _, rfl, SqL.of d2, _, rfl, iteF ?_⟩
      refine .inl ⟨_, rfl, a, rfl, ⟨_, Same.seq s2 hL⟩, fun D3 hD3 => ?_⟩
      refine scN_it (walk_list (K := K) (a := a) (xs := [.ref t1, .ref t2])) (fun j H3 => Same H2 H3 ∧ ∃ S n, H3 D3 = some (SetO w D3 S n) ∧ (j = 0 ∧ n = 0 ∧ (∀ k, S k = false) ∨ 0 < j ∧ n = 1 ∧ S i = true)) ⟨same_new hD3, _, _, upd_same, .inl ⟨rfl, rfl, fun _ => rfl⟩⟩ (fun j H3 _ h => Same.seq h.1 (Same.seq s2 hL)) ?_ ?_
      · rintro j v H3 H4 hj ⟨s3, S, k, d3, st⟩ ⟨rfl, hv⟩
        obtain ⟨t, p, rfl, hat, ep⟩ := tw j v hv
        obtain ⟨p1, p2⟩ := p
        have ep : p1 = i := ep
        subst ep
        have hat3 := s3 _ _ (s2 _ _ hat)
        refine ⟨t, _, rfl, SqT.of hat3, rfl, _, _, rfl, _, _, rfl, rfl, rfl, yes_if ⟨_, rfl, D3, p1, S, k, rfl, rfl, d3, ?_, same_upd s3 hD3, (fun j => S j || decide (j = p1)), _, upd_same, .inr ⟨Nat.succ_pos _, ?_, ?_⟩⟩⟩
        · rcases st with ⟨_, rfl, _⟩ | ⟨_, rfl, _⟩ <;> decide
        · rcases st with ⟨_, rfl, z⟩ | ⟨_, rfl, z⟩
          · rw [z p1, if_neg Bool.false_ne_true]
          · rw [z, if_pos rfl]
        · show (S p1 || decide (p1 = p1)) = true
          rw [decide_eq_true rfl, Bool.or_true]
      · rintro H3 ⟨s3, S, k, d3, st⟩
        have k1 : k = 1 := by
          rcases st with ⟨z, _⟩ | ⟨_, z, _⟩
          · cases z
          · exact z
        subst k1
        refine ⟨D3, S, _, rfl, d3, _, rfl, a, _, rfl, .inl (Same.seq s3 (Same.seq s2 hL)), rfl, ?_⟩
        exact q H3 (s1.trans (s2.trans s3))
end SR
set_option Elab.async false
set_option linter.all false
set_option maxRecDepth 100000
set_option maxHeartbeats 4000000
namespace SR
open PySem PySem.Spec PyProof.Rows L2
def spWideBox2 (K : PySem.W.Frag) : Sp := fun vs H Q _ => ∃ i c : Int, vs = [.int i, .int c] ∧ Q (.bl (wbB (i, c))) H
theorem pure_wide_box2 {K : PySem.W.Frag} (vs : List V) (H : Hp) (Q : VK) (E : XK) (h : spWideBox2 K vs H Q E) : t_is_wide_box K { nx := fun _ H' => Q .non H', rt := Q } (start ["index", "capacity"] vs) H := by
  obtain ⟨i, c, rfl, q⟩ := h
  have q : Q (.bl (btw (-60) 60 (.int i) && btw 2 9 (.int c))) H := q
  refine ⟨_, rfl, .int i, _, _, _, rfl, .int i, fun _ => ⟨_, _, rfl, rfl, _, rfl, ?_⟩, fun z => nomatch z⟩
  cases e : btw (-60) 60 (.int i) with
  | true =>
    rw [e] at q
    exact iteF ⟨_, rfl, .int c, _, _, _, rfl, .int c, fun _ => ⟨_, _, rfl, rfl, q⟩, fun z => nomatch z⟩
  | false =>
    rw [e] at q
    exact iteT q
def spAreCap2 (K : PySem.W.Frag) : Sp := fun vs H Q E => ∃ v, vs = [v] ∧ (spAreCapacities K [v] H Q E ∨ OddC K H v ∧ ∀ H', Same H H' → Q (.bl false) H')
def t_are_capacities2 (K : PySem.W.Frag) : TS := tSeq (tIfS (tOr (tNot (tB (tCall (spArePairs2 K) [] E0 (tCons (tVar 0) (tNil))))) (tTest (tOp qGt (tCB (qLen K) (tCons (tVar 0) (tNil))) (tC (.int 6)))))
  (tRet (tC (.bl false)))
  (tNext))
  (tRet (tCB (rAll K) (tCons (tLc ((fun σ H R => iList K (tVar 0) σ H R ∨ iTup K (tVar 0) σ H R)) (gTup K 2 (gCons (gName 1) (gCons (gName 2) (gNil)))) (tYes) (tCall (spWideBox2 K) [] E0 (tCons (tVar 1) (tCons (tVar 2) (tNil)))) [1, 2]) (tNil))))
theorem caps_all {K : PySem.W.Frag} {H : Hp} {a : Addr} {ps : List (Int × Int)} {Q : VK} (hp : PairsAt K H a ps) (hd : (ps.map Prod.fst).Nodup) (hl : ps.length ≤ 6) (q : ∀ H', Same H H' → Q (.bl (ps.all wbB)) H') : t_are_capacities2 K { nx := fun _ H' => Q .non H', rt := Q } [some (.ref a), none, none] H := by
  refine ⟨_, rfl, _, rfl, .inl ⟨a, ps, rfl, hp, hd, by omega, fun H1 s1 => ⟨_, rfl, iteF ?_⟩⟩⟩
  obtain ⟨ys, hys, ylen⟩ := (hp.same s1).len
  refine ⟨_, rfl, a, ys, rfl, hys, _, _, rfl, rfl, _, rfl, ?_⟩
  have no : ¬ (6 : Int) < (ys.length : Int) := by omega
  rw [decide_eq_false no]
  refine iteF ?_
  try rw [← xLc_eq]
  try rw [← xScN_eq]
  show xLc (fun σ H R => iList K (tVar 0) σ H R ∨ iTup K (tVar 0) σ H R) (gTup K 2 (gCons (gName 1) (gCons (gName 2) gNil))) tYes (tCall (spWideBox2 K) [] E0 (tCons (tVar 1) (tCons (tVar 2) tNil))) [1, 2] [some (.ref a), none, none] H1 _
  try rw [xLc_eq]
  try rw [xScN_eq]
  refine lc_pairs (K := K) (a := a) (ps := ps) (fun p => .bl (wbB p)) (fun R r => ⟨_, rfl, r⟩) (hp.same s1) (by omega) (fun t p H2 R s2 m2 at2 r => ?_) (fun D H2 hD s2 d2 => ?_)
  · exact ⟨t, _, rfl, SqT.of at2, rfl, _, _, rfl, _, _, rfl, rfl, rfl, _, rfl, _, rfl, p.1, p.2, rfl, r⟩
  have all : (ps.map fun p => V.bl (wbB p)) = (ps.map wbB).map V.bl := by rw [List.map_map] <;> rfl
  rw [all] at d2
  have tr : (ps.map wbB).all id = ps.all wbB := by
    rw [List.all_map]
    rfl
  refine ⟨D, _, rfl, SqL.of d2, ?_⟩
  rw [tr]
  exact q H2 (s1.trans s2)
theorem pure_are_cap2 {K : PySem.W.Frag} (vs : List V) (H : Hp) (Q : VK) (E : XK) (h : spAreCap2 K vs H Q E) : t_are_capacities2 K { nx := fun _ H' => Q .non H', rt := Q } (start ["value", "index", "capacity"] vs) H := by
  obtain ⟨v, rfl, h⟩ := h
  rcases h with ⟨a, ps, e, hp, hd, hl, hs, q⟩ | ⟨od, q⟩
  · cases e
    refine caps_all hp hd hl fun H' s => ?_
    have : ps.all wbB = true := List.all_eq_true.mpr fun p m => wbB_ok.mpr (hs p m)
    rw [this]
    exact q H' s
  · cases od with
    | odd h => exact ⟨_, rfl, _, rfl, .inr ⟨h, fun H1 s1 => ⟨_, rfl, iteT (iteT (q H1 s1))⟩⟩⟩
    | @size a t p h h1 h2 =>
      refine caps_all (ps := [p]) ⟨[t], .inl h, .cons h1 .nil⟩ (List.pairwise_singleton _ _) (by show 1 ≤ 6; decide) fun H' s => ?_
      have : [p].all wbB = false := by
        show (wbB p && true) = false
        rw [h2]
        rfl
      rw [this]
      exact q H' s
def t_are_contents2 (K : PySem.W.Frag) : TS := tSeq (tIfS (tNot (tB (tCall (spArePairs2 K) [] E0 (tCons (tVar 0) (tNil)))))
  (tRet (tC (.bl false)))
  (tNext))
  (tSeq (tAsg (tCB (qDictOf K) (tCons (tVar 1) (tNil))) (gName 2))
  (tSeq (tIfS (tNot (tB (tCB (rAll K) (tCons (tLc ((fun σ H R => iList K (tVar 0) σ H R ∨ iTup K (tVar 0) σ H R)) (gTup K 2 (gCons (gName 3) (gCons (gName 4) (gNil)))) (tYes) (tChain qLe qLe (tC (.int 1)) (tVar 4) (tDGet2 (tVar 2) (tVar 3) (tC (.int 1)))) [3, 4]) (tNil)))))
  (tRet (tC (.bl false)))
  (tNext))
  (tRet (tOp qLe (tCB (rSum K) (tCons (tLc ((fun σ H R => iList K (tVar 0) σ H R ∨ iTup K (tVar 0) σ H R)) (gTup K 2 (gCons (gName 5) (gCons (gName 4) (gNil)))) (tYes) (tVar 4) [4, 5]) (tNil))) (tC (.int 40))))))
theorem pure_are_contents2 {K : PySem.W.Frag} (vs : List V) (H : Hp) (Q : VK) (E : XK) (h : spAreContents K vs H Q E) : t_are_contents2 K { nx := fun _ H' => Q .non H', rt := Q } (start ["value", "capacities", "wide", "index", "count", "_"] vs) H := by
  obtain ⟨v, e, z⟩ := pure_are_contents vs H Q E h
  exact ⟨v, e, _, rfl, .inl z⟩
def t_Row_init2 (K : PySem.W.Frag) : TS := tSeq (tIfS (tNot (tB (tCall (spAreCap2 K) [] E0 (tCons (tVar 2) (tNil)))))
  ((fun _ _ _ => False))
  (tNext))
  (tSeq (tIfS (tNot (tB (tCall (spAreContents K) [] E0 (tCons (tVar 1) (tCons (tVar 2) (tNil))))))
  ((fun _ _ _ => False))
  (tNext))
  (tSeq (sFld K (tVar 0) (tCB (qTupOf K) (tCons (tCB (qSorted K) (tCons (tVar 1) (tNil))) (tNil))) "_contents")
  (tSeq (sFld K (tVar 0) (tCB (qTupOf K) (tCons (tCB (qSorted K) (tCons (tVar 2) (tNil))) (tNil))) "_capacities")
  (tSeq (sFld K (tVar 0) (tCB (qDictOf K) (tCons (tVar 1) (tNil))) "_count_at")
  (sFld K (tVar 0) (tCB (qDictOf K) (tCons (tVar 2) (tNil))) "_capacity_at")))))
theorem pure_row_init2 {K : PySem.W.Frag} {C : Addr} (R : RowC K C) (vs : List V) (H : Hp) (Q : VK) (E : XK) (h : spRowInit K C vs H Q E) : t_Row_init2 K { nx := fun _ H' => Q .non H', rt := Q } (start ["self", "contents", "capacities"] vs) H := by
  obtain ⟨v, e, z⟩ := pure_row_init R vs H Q E h
  exact ⟨v, e, _, rfl, .inl z⟩
def t_is_row_like (K : PySem.W.Frag) : TS := tRet (tAndV (tCall (spAreCap2 K) [] E0 (tCons (tVar 1) (tNil))) (tCall (spAreContents K) [] E0 (tCons (tVar 0) (tCons (tVar 1) (tNil)))))
def CapsAt (K : PySem.W.Frag) (H : Hp) (v : V) (ls : List (Int × Int)) : Prop := ∃ a, v = .ref a ∧ PairsAt K H a ls ∧ (ls.map Prod.fst).Nodup ∧ ls.length ≤ 6 ∧ ∀ p ∈ ls, sizeOk p
theorem CapsAt.same {K : PySem.W.Frag} {H H' : Hp} {v : V} {ls : List (Int × Int)} (s : Same H H') (h : CapsAt K H v ls) : CapsAt K H' v ls := let ⟨a, h1, h2, h3⟩ := h; ⟨a, h1, h2.same s, h3⟩
def spRowLike (K : PySem.W.Frag) : Sp := fun vs H Q _ => ∃ (c : Addr) (v : V), vs = [.ref c, v] ∧ PairsAt K H c [] ∧ ((∃ ls, CapsAt K H v ls ∧ ∀ H', Same H H' → Q (.bl true) H') ∨ (OddC K H v ∧ ∀ H', Same H H' → Q (.bl false) H'))
theorem pure_row_like {K : PySem.W.Frag} (vs : List V) (H : Hp) (Q : VK) (E : XK) (h : spRowLike K vs H Q E) : t_is_row_like K { nx := fun _ H' => Q .non H', rt := Q } (start ["contents", "capacities"] vs) H := by
  obtain ⟨c, v, rfl, hc, h⟩ := h
  rcases h with ⟨ls, ⟨a, rfl, hp, hd, hl, hs⟩, q⟩ | ⟨od, q⟩
  · refine ⟨_, rfl, _, rfl, .inl ⟨a, ls, rfl, hp, hd, hl, hs, fun H1 s1 => ⟨_, rfl, iteT ?_⟩⟩⟩
    exact ⟨_, rfl, _, rfl, c, a, [], ls, rfl, hc.same s1, hp.same s1, .nil, hd, Nat.zero_le _, (fun p m => nomatch m), (by decide), fun H2 s2 => q H2 (s1.trans s2)⟩
  · exact ⟨_, rfl, _, rfl, .inr ⟨od, fun H1 s1 => ⟨_, rfl, iteF (q H1 s1)⟩⟩⟩
def t_wcBody (K : PySem.W.Frag) : TS := (tSeq (tAsg (tLc ((fun σ H R => iList K (tVar 2) σ H R ∨ iTup K (tVar 2) σ H R)) (gName 6) (tTest (tOp qGt (tOp (rIxT K) (tVar 6) (tC (.int 0))) (tVar 3))) (tVar 6) [6]) (gName 5))
  (tAsg (tOp rCat (tCall (spWith K) [] E0 (tCons (tVar 2) (tCons (tVar 3) (tCons (tVar 4) (tNil))))) (tVar 5)) (gName 2)))
def t_wcEnd (K : PySem.W.Frag) (c_Row : Addr) : TS := (tSeq (tFor (iList K (tCKw (rSortedPR K) (tCons (tVar 1) (tNil)) (tCons (tC (.bl true)) tNil))) (gTup K 2 (gCons (gName 3) (gCons (gName 4) (gNil))))
  (t_wcBody K))
  (tRet (tMake c_Row (spRowInit K c_Row) [] E0 (tCons (tVar 2) (tCons (tVar 1) (tNil))))))
def t_with_capacities (K : PySem.W.Frag) (c_BadRow : Addr) (c_Row : Addr) (E : XK) : TS := tSeq (tIfS (tNot (tB (tCall (spPlainRow K c_Row) [] E0 (tCons (tVar 0) (tNil)))))
  (tOutF c_BadRow E "field" (.str "plain"))
  (tNext))
  (tSeq (tIfS (tNot (tB (tCall (spRowLike K) [] E0 (tCons (tTup0) (tCons (tVar 1) (tNil))))))
  (tOutF c_BadRow E "field" (.str "capacities"))
  (tNext))
  (tSeq (tAsg (tProp c_Row (spContents K c_Row) [] E0 (tVar 0)) (gName 2))
  (t_wcEnd K c_Row)))
/-- a row with given wide boxes: of a plain row, where they are valid; else an error -/
def spWithCap (K : PySem.W.Frag) (C B : Addr) : Sp := fun vs H Q E => ∃ (x : Addr) (v : V) (ps ks : List (Int × Int)), vs = [.ref x, v] ∧ RowAt K C H x ps ks ∧ Vd ps ks ∧
  ((ks ≠ [] ∧ ∀ d H', Same H H' → H' d = none → E (.ref B) (some d) (upd H' d (.xd [("field", .str "plain")]))) ∨
   (ks = [] ∧ OddC K H v ∧ ∀ d H', Same H H' → H' d = none → E (.ref B) (some d) (upd H' d (.xd [("field", .str "capacities")]))) ∨
   (ks = [] ∧ ∃ ls rs, CapsAt K H v ls ∧ ls.Perm rs ∧ KsOk rs ∧ ∀ y H', H y = none → Same H H' → RowAt K C H' y (withF rs ps) rs → Q (.ref y) H'))
end SR
set_option Elab.async false
set_option linter.all false
set_option maxRecDepth 100000
set_option maxHeartbeats 1000000
namespace SR
open PySem PySem.Spec PyProof.Rows L2
theorem KsOk.sub {ks ls : List (Int × Int)} (h : KsOk ks) (s : ls.Sublist ks) : KsOk ls := ⟨h.ak.sublist s, Nat.le_trans s.length_le h.kl, fun p m => h.ko p (s.subset m)⟩
theorem paired_rev {H : Hp} {ts : List Addr} {ps : List (Int × Int)} (h : Paired (TupAt H) ts ps) : Paired (TupAt H) ts.reverse ps.reverse := by
  induction h with
  | nil => exact .nil
  | cons f _ ih =>
    rw [List.reverse_cons, List.reverse_cons]
    exact paired_snoc f ih
section
variable {K : PySem.W.Frag} {B C : Addr} {N N2 N3 : L2.St → Hp → Prop} {R : VK}
theorem wc_body {H : Hp} {A : Addr} {idx c : Int} {cs rest : List (Int × Int)} {x0 x1 x5 x6 : Option V} (pA : PairsAt K H A cs) (v : Vd cs rest) (k : KsOk ((idx, c) :: rest))
    (hN : ∀ A' y5 H', Same H H' → PairsAt K H' A' (inBox idx c cs) → N [x0, x1, some (.ref A'), some (.int idx), some (.int c), y5, x6] H') :
    t_wcBody K { nx := N, rt := R, bk := N2, ct := N3 } [x0, x1, some (.ref A), some (.int idx), some (.int c), x5, x6] H := by
  obtain ⟨_, s, far, l5⟩ := k.tail
  have c1 : 2 ≤ c := s.2.1
  have c2 : c ≤ 9 := s.2.2
  have cl := vd_len v
  unfold t_wcBody
  unfold tSeq
  unfold tAsg
  refine lc_keep (vn := 6) (fun p => decide (idx < p.1)) (fun R r => ⟨_, rfl, r⟩) pA (by omega) (fun _ => rfl) (fun _ => rfl) (fun t p H' R s T r => ⟨_, rfl, t, _, 0, _, rfl, rfl, SqT.of T, rfl, _, rfl, _, _, rfl, rfl, _, rfl, r⟩) fun D H3 hD s3 pD => ?_
  refine ⟨_, rfl, _, rfl, _, rfl, ?_⟩
  generalize hz : spWith K = zz
  show zz [.ref A, .int idx, .int c] H3 _ E0
  subst hz
  refine ⟨A, idx, c, cs, rfl, pA.same s3, mv_near v s far, by omega, by omega, by omega, fun D2 H4 hD2 s4 pD2 => ?_⟩
  obtain ⟨us1, L1, pr1⟩ := pD2
  obtain ⟨us2, L2, pr2⟩ := pD.same s4
  refine ⟨_, rfl, D2, D, _, _, rfl, rfl, L1, L2, ?_, fun n hn => ?_⟩
  · rw [List.length_map, List.length_map, paired_len pr1, paired_len pr2]
    have o := vd_len (in_vd v s far l5).1
    unfold inBox hi at o
    rw [List.length_append] at o
    exact Nat.le_trans o (by decide)
  have s5 := same_new (o := .lst (us1.map V.ref ++ us2.map V.ref)) hn
  refine hN n _ _ (s3.trans (s4.trans s5)) ⟨us1 ++ us2, .inl (SqL.of (by rw [upd_same, List.map_append])), ?_⟩
  unfold inBox
  exact paired_append (paired_imp (fun _ _ z => s5 _ _ z) pr1) (paired_imp (fun _ _ z => s5 _ _ z) pr2)
theorem wc_end {H : Hp} {A a : Addr} {ps ls rs : List (Int × Int)} {x0 x3 x4 x5 x6 : Option V} {Q : VK} (pA : PairsAt K H A ps) (v : Vd ps []) (hp : PairsAt K H a ls) (nd : (ls.map Prod.fst).Nodup) (pm : ls.Perm rs) (k : KsOk rs)
    (q : ∀ y H', H y = none → Same H H' → RowAt K C H' y (withF rs ps) rs → Q (.ref y) H') :
    t_wcEnd K C { nx := fun _ H' => Q .non H', rt := Q } [x0, some (.ref a), some (.ref A), x3, x4, x5, x6] H := by
  refine ⟨_, rfl, ?_⟩
  generalize hz : rSortedPR K = zz
  show zz [.ref a] [.bl true] H _
  subst hz
  refine hp.sortedR nd fun l us qs hl hus pq aq => ?_
  have eq : qs = rs := asc_eq aq k.ak (pq.trans pm)
  subst eq
  have rev : (us.map V.ref).reverse = us.reverse.map V.ref := by rw [List.map_reverse]
  rw [rev]
  have s1 := same_new (o := .lst (us.reverse.map V.ref)) hl
  have L1 : upd H l (.lst (us.reverse.map V.ref)) l = some (.lst (us.reverse.map V.ref)) := upd_same
  generalize upd H l (.lst (us.reverse.map V.ref)) = H1 at s1 L1 ⊢
  have hr : Paired (TupAt H1) us.reverse qs.reverse := paired_rev (paired_imp (fun _ _ z => s1 _ _ z) hus)
  have tl : (us.reverse.map V.ref).length = qs.reverse.length := by rw [List.length_map, paired_len hr]
  refine ⟨l, rfl, ⟨_, SqL.of L1⟩, ?_⟩
  refine for_it (walk_list (K := K) (a := l) (xs := us.reverse.map V.ref)) (fun j σ H2 => Same H1 H2 ∧ ∃ A' y3 y4 y5, PairsAt K H2 A' (withF (qs.reverse.take j).reverse ps) ∧ σ = [x0, some (.ref a), some (.ref A'), y3, y4, y5, x6]) ⟨fun _ _ h => h, A, x3, x4, x5, pA.same s1, rfl⟩ ?_ ?_ ?_
  · rintro j σ H2 _ ⟨s2, _⟩
    exact Same.seq s2 (SqL.of L1)
  · rintro j w σ H2 H3 _ ⟨s2, A', y3, y4, y5, pA', rfl⟩ ⟨rfl, hw⟩
    rw [List.getElem?_map] at hw
    obtain ⟨t, ht, rfl⟩ := Option.map_eq_some_iff.mp hw
    obtain ⟨r, hr1, hat⟩ := paired_at hr ht
    obtain ⟨idx, c⟩ := r
    have tk : (qs.reverse.take (j + 1)).reverse = (idx, c) :: (qs.reverse.take j).reverse := by
      rw [List.take_succ, hr1, List.reverse_append]
      rfl
    have sub : ∀ i, (qs.reverse.take i).reverse.Sublist qs := fun i => by
      have := (List.take_sublist i qs.reverse).reverse
      rw [List.reverse_reverse] at this
      exact this
    have k1 := k.sub (sub (j + 1))
    rw [tk] at k1
    have vj := (with_vd (k.sub (sub j)) v).1
    have e : withF (qs.reverse.take (j + 1)).reverse ps = inBox idx c (withF (qs.reverse.take j).reverse ps) := by
      rw [tk, withF_cons]
    rw [e]
    refine ⟨t, _, rfl, SqT.of (s2 _ _ hat), rfl, _, _, rfl, _, _, rfl, rfl, ?_⟩
    show t_wcBody K _ [x0, some (.ref a), some (.ref A'), some (.int idx), some (.int c), y5, x6] H3
    exact wc_body pA' vj k1 fun A'' z5 H4 s4 p4 => ⟨s2.trans s4, A'', _, _, _, p4, rfl⟩
  · rintro σ H2 ⟨s2, A', y3, y4, y5, pA', rfl⟩
    rw [tl, List.take_length, List.reverse_reverse] at pA'
    have s02 := s1.trans s2
    have wv := (with_vd k v).1
    refine ⟨_, rfl, _, rfl, fun y0 dx g1 g2 g3 => make_row (C := C) (E := E0) (Q := Q) pA' (hp.same s02) (wv.ok.perm (.refl _) pm) (fun y H5 us' ls' hy s5 row5 p1 p2 a1 a2 => ?_) y0 dx g1 g2 g3⟩
    have e1 := asc_eq a1 wv.ap p1
    have e2 := asc_eq a2 k.ak (p2.trans pm)
    subst e1 e2
    exact q y H5 (none_back s02 hy) (s02.trans s5) row5
theorem pure_with_cap (vs : List V) (H : Hp) (Q : VK) (E : XK) (h : spWithCap K C B vs H Q E) : t_with_capacities K B C E { nx := fun _ H' => Q .non H', rt := Q } (start ["row", "capacities", "contents", "index", "capacity", "behind", "pair"] vs) H := by
  obtain ⟨x, v, ps, ks, rfl, row, vd, h⟩ := h
  refine ⟨_, rfl, x, ps, ks, rfl, row, _, rfl, ?_⟩
  rcases h with ⟨ne, q⟩ | ⟨rfl, od, q⟩ | ⟨rfl, ls, rs, cs, pm, k, q⟩
  · cases ks with
    | nil => exact absurd rfl ne
    | cons k ks => exact iteT fun d hd => q d H (fun _ _ h => h) hd
  · refine iteF (fun p o hp o1 o2 => ?_)
    have s1 := same_new (o := .frz o (.tup [])) hp
    have P1 : PairsAt K (upd H p (.frz o (.tup []))) p [] := ⟨[], .inr (.inl ⟨o, upd_same, o1, o2⟩), .nil⟩
    generalize upd H p (.frz o (.tup [])) = H1 at s1 P1 ⊢
    refine ⟨_, rfl, p, v, rfl, P1, .inr ⟨od.same s1, fun H2 s2 => ⟨_, rfl, iteT fun d hd => q d H2 (s1.trans s2) hd⟩⟩⟩
  · refine iteF (fun p o hp o1 o2 => ?_)
    have s1 := same_new (o := .frz o (.tup [])) hp
    have P1 : PairsAt K (upd H p (.frz o (.tup []))) p [] := ⟨[], .inr (.inl ⟨o, upd_same, o1, o2⟩), .nil⟩
    generalize upd H p (.frz o (.tup [])) = H1 at s1 P1 ⊢
    refine ⟨_, rfl, p, v, rfl, P1, .inl ⟨ls, cs.same s1, fun H2 s2 => ⟨_, rfl, iteF ?_⟩⟩⟩
    have s12 := s1.trans s2
    obtain ⟨a, rfl, hp', nd, _, _⟩ := cs
    obtain ⟨dx, fs, hx⟩ := (row.same s12).at
    refine ⟨_, rfl, x, dx, fs, rfl, hx, x, ps, [], rfl, row.same s12, fun A hA => ?_⟩
    show t_wcEnd K C _ [some (.ref x), some (.ref a), some (.ref A), none, none, none, none] H2
    exact wc_end hA.at vd (hp'.same s12) nd pm k fun y H3 hy s3 r3 => q y H3 (none_back s12 hy) (s12.trans s3) r3
end
end SR
set_option Elab.async false
set_option linter.all false
set_option maxRecDepth 100000
set_option maxHeartbeats 1000000
set_option Elab.async false
set_option linter.all false
set_option maxRecDepth 100000
set_option maxHeartbeats 1000000
namespace SR
open PySem PySem.Spec PyProof.Rows L2
section
variable {w c m B : Int} {ns cs rg ks : List (Int × Int)}
theorem Vd.tail {p : Int × Int} {ps : List (Int × Int)} (v : Vd (p :: ps) ks) : Vd ps ks := by
  have a := List.pairwise_cons.mp v.ap
  have n := v.ok.nd
  rw [List.map_cons] at n
  have s : ((p :: ps).map Prod.snd).sum ≤ 40 := v.ok.sm
  rw [List.map_cons, List.sum_cons] at s
  have o := (v.ok.po p List.mem_cons_self).1
  exact ⟨⟨(List.nodup_cons.mp n).2, v.ok.kd, v.ok.kl, v.ok.ko, fun q h => v.ok.po q (List.mem_cons_of_mem _ h), by omega⟩, a.2, v.ak⟩
end
end SR
set_option Elab.async false
set_option linter.all false
set_option maxRecDepth 100000
set_option maxHeartbeats 4000000
namespace SR
open PySem PySem.Spec PyProof.Rows L2
section
variable {K : PySem.W.Frag} {C B : Addr} {ks : List (Int × Int)} {p : Rws ks}
/-- the rows on the way -/
inductive Way (K : PySem.W.Frag) (C : Addr) {ks : List (Int × Int)} (p : Rws ks) (H : Hp) : List Addr → List (Int × Bool) → Prop where
  | nil : Way K C p H [] []
  | snoc {ts : List Addr} {l : List (Int × Bool)} {t a : Addr} {s : Int × Bool} (w : Way K C p H ts l) (h : H t = some (.tup [.ref a, .int s.1, .bl s.2])) (row : RowAt K C H a (FnL l p).1 ks) (c : 1 ≤ s.1 ∧ s.1 ≤ 99) : Way K C p H (ts ++ [t]) (l ++ [s])
theorem Way.len {H : Hp} {ts : List Addr} {l : List (Int × Bool)} (w : Way K C p H ts l) : ts.length = l.length := by
  induction w with
  | nil => rfl
  | snoc _ _ _ _ ih => rw [List.length_append, List.length_append, ih]; rfl
theorem Way.same {H H' : Hp} {ts : List Addr} {l : List (Int × Bool)} (w : Way K C p H ts l) (s : Same H H') : Way K C p H' ts l := by
  induction w with
  | nil => exact .nil
  | snoc _ h row c ih => exact .snoc ih (s _ _ h) (row.same s) c
theorem Way.kp {H H' : Hp} {d g c : Addr} {b : Nat} {ts : List Addr} {l : List (Int × Bool)} (w : Way K C p H ts l) (S : StB H d g c b) (k : Kp d g H H') : Way K C p H' ts l := by
  induction w with
  | nil => exact .nil
  | snoc _ h row c ih => exact .snoc ih (kp_at S k h (fun _ z => nomatch z) fun _ _ z => nomatch z) (row.kp S k) c
theorem Way.but {H H' : Hp} {so : Addr} {xs : List V} {ts : List Addr} {l : List (Int × Bool)} (w : Way K C p H ts l) (hs : H so = some (.lst xs)) (k : SameBut so H H') : Way K C p H' ts l := by
  induction w with
  | nil => exact .nil
  | snoc _ h row c ih => exact .snoc ih (k _ _ (fun z => by rw [z, hs] at h; cases h) h) (row.but hs k) c
theorem RowAt.ins2' {H : Hp} {x : Addr} {ps ks : List (Int × Int)} (h : RowAt K C H x ps ks) : ∃ dx fs, H x = some (.ins C dx fs) ∧ List.lookup ("total" : Str) fs = none := by
  obtain ⟨dx, c, k, d, e, _, _, h1, _⟩ := h
  refine ⟨dx, _, h1, ?_⟩
  unfold rowFs
  rw [lkNe (by decide), lkNe (by decide), lkNe (by decide), lkNe (by decide)]
  rfl
/-- .total() of a row -/
theorem meth_total {H : Hp} {y : Addr} {q : Rws ks} {σ : L2.St} {i : Nat} {Q : VK} (hi : σ[i]? = some (some (.ref y))) (row : RowAt K C H y q.1 ks) (k : ∀ H', Same H H' → Q (.int (total q.1)) H') : tMeth C "total" (spTotal K C) [] E0 (tVar i) tNil σ H Q := by
  obtain ⟨dy, fy, hy, ny⟩ := row.ins2'
  have yl := q.2.ok.len
  exact ⟨_, hi, y, dy, fy, rfl, hy, ny, y, _, ks, rfl, row, by omega, k⟩
end
end SR
set_option Elab.async false
set_option linter.all false
set_option maxRecDepth 100000
set_option maxHeartbeats 4000000
set_option Elab.async false
set_option linter.all false
set_option maxRecDepth 100000
set_option maxHeartbeats 4000000
set_option Elab.async false
set_option linter.all false
set_option maxRecDepth 100000
set_option maxHeartbeats 1000000
set_option Elab.async false
set_option linter.all false
set_option maxRecDepth 100000
set_option maxHeartbeats 1000000
set_option Elab.async false
set_option linter.all false
set_option maxRecDepth 100000
set_option maxHeartbeats 1000000
namespace SR
open PySem PySem.Spec PyProof.Rows L2
section
variable {σ : L2.St} {H : Hp} {Q : VK} {R : List V → Hp → Prop} {t ta : TA} {te : TE} {u v : V} {d g c : Addr} {b : Nat}
theorem cons_run (h : te σ H fun v H1 => ta σ H1 fun vs H2 => R (v :: vs) H2) : tCons te ta σ H R := h
theorem Kp.of {H H1 H2 : Hp} (s : Same H H1) (k : Kp d g H1 H2) : Kp d g H H2 := fun x o e1 e2 h => k x o e1 e2 (s _ _ h)
end
end SR
set_option Elab.async false
set_option linter.all false
set_option maxRecDepth 100000
set_option maxHeartbeats 1000000
namespace SR
open PySem PySem.Spec PyProof.Rows L2
structure X12 (K : PySem.W.Frag) (C : Addr) (H : Hp) (d g c : Addr) (b : Nat) (Z1 Z2 F1 F2 xf xm : Addr) (sz ot bx it : List (Int × Int)) : Prop where
  S : StB H d g c b
  z1 : H Z1 = some (.dK (kvsOf sz))
  z2 : H Z2 = some (.dK (kvsOf ot))
  f1 : H F1 = some (.dK (kvsOf bx))
  f2 : H F2 = some (.dK (kvsOf it))
  rf : RowAt K C H xf bx []
  rm : RowAt K C H xm it ot
theorem X12.same {K : PySem.W.Frag} {C : Addr} {H H' : Hp} {d g c : Addr} {b : Nat} {Z1 Z2 F1 F2 xf xm : Addr} {sz ot bx it : List (Int × Int)} (s : Same H H') (X : X12 K C H d g c b Z1 Z2 F1 F2 xf xm sz ot bx it) : X12 K C H' d g c b Z1 Z2 F1 F2 xf xm sz ot bx it :=
  ⟨StB.same s X.S, s _ _ X.z1, s _ _ X.z2, s _ _ X.f1, s _ _ X.f2, X.rf.same s, X.rm.same s⟩
theorem X12.kp {K : PySem.W.Frag} {C : Addr} {H H' : Hp} {d g c : Addr} {b b' : Nat} {Z1 Z2 F1 F2 xf xm : Addr} {sz ot bx it : List (Int × Int)} (k : Kp d g H H') (S : StB H' d g c b') (X : X12 K C H d g c b Z1 Z2 F1 F2 xf xm sz ot bx it) : X12 K C H' d g c b' Z1 Z2 F1 F2 xf xm sz ot bx it :=
  ⟨S, kp_dict X.S k X.z1, kp_dict X.S k X.z2, kp_dict X.S k X.f1, kp_dict X.S k X.f2, X.rf.kp X.S k, X.rm.kp X.S k⟩
section
variable {K : PySem.W.Frag} {C B : Addr} {N N2 N3 : L2.St → Hp → Prop} {R : VK} {H : Hp} {d g c Z1 Z2 F1 F2 xf xm : Addr} {b : Nat} {sz ot bx it ls : List (Int × Int)} {x0 x2 x9 x10 x11 x12 : Option V}
theorem caps_of {l : Addr} {os : List (Int × Int)} (h : PairsAt K H l os) (k : KsOk ls) (pm : os.Perm ls) : CapsAt K H (.ref l) os :=
  ⟨l, rfl, h, (pm.map _).nodup_iff.mpr (asc_nd k.ak), by rw [pm.length_eq]; exact k.kl, fun p m => k.ko p (pm.mem_iff.mp m)⟩
end
end SR
set_option Elab.async false
set_option linter.all false
set_option maxRecDepth 100000
set_option maxHeartbeats 1000000
set_option Elab.async false
set_option linter.all false
set_option maxRecDepth 100000
set_option maxHeartbeats 2000000
namespace SR
open PySem PySem.Spec PyProof.Rows L2
section
variable {α : Type} {K : PySem.W.Frag} {te : TE} {g : TG} {tt : TT} {telt : TE} {vs : List Nat} {σ : L2.St} {H : Hp} {a : Addr} {xs : List V} {ys : List α} {Q : VK}
/-- what is asked of a turn; the item's value is f y -/
def TurnV (g : TG) (tt : TT) (telt : TE) (vs : List Nat) (σ : L2.St) (H : Hp) (G : Hp → V → α → Prop) (ys : List α) (P : α → Bool) (f : α → V) : Prop :=
  ∀ x y H' (Rt : VK) (Rf : Hp → Prop), Same H H' → G H' x y → y ∈ ys → (P y = true → ∀ H4, Same H' H4 → Rt (f y) H4) → (P y = false → ∀ H4, Same H' H4 → Rf H4) →
    g x (wipe σ vs) H' fun σ2 H2 => wipe σ2 vs = wipe σ vs ∧ tt σ2 H2 fun b H3 => if b = true then telt σ2 H3 Rt else Rf H3
/-- the item is a new pair -/
def TurnT (g : TG) (tt : TT) (telt : TE) (vs : List Nat) (σ : L2.St) (H : Hp) (G : Hp → V → α → Prop) (ys : List α) (P : α → Bool) (f : α → Int × Int) : Prop :=
  ∀ x y H' (Rt : VK) (Rf : Hp → Prop), Same H H' → G H' x y → y ∈ ys → (P y = true → ∀ n H4, Same H' H4 → H4 n = none → Rt (.ref n) (upd H4 n (.tup [.int (f y).1, .int (f y).2]))) → (P y = false → ∀ H4, Same H' H4 → Rf H4) →
    g x (wipe σ vs) H' fun σ2 H2 => wipe σ2 vs = wipe σ vs ∧ tt σ2 H2 fun b H3 => if b = true then telt σ2 H3 Rt else Rf H3
theorem stepV {G : Hp → V → α → Prop} {P : α → Bool} {f : α → V} (rel : ∀ (i : Nat) (x : V), xs[i]? = some x → ∃ y, ys[i]? = some y ∧ G H x y) (hl : ys.length ≤ 5000) (hG : ∀ H' x y, Same H H' → G H x y → G H' x y) (turn : TurnV g tt telt vs σ H G ys P f) {D : Addr} (hD : H D = none) :
    ∀ i x H1 H2, i < xs.length → (Same H H1 ∧ H1 D = some (.lst (((ys.take i).filter P).map f))) → YAt xs i H1 x H2 → g x (wipe σ vs) H2 fun σ2 H3 => wipe σ2 vs = wipe σ vs ∧ tt σ2 H3 fun b H4 =>
      if b = true then telt σ2 H4 fun y H5 => ∃ acc, H5 D = some (.lst acc) ∧ acc.length < sizeLine ∧ (Same H (upd H5 D (.lst (acc ++ [y]))) ∧ upd H5 D (.lst (acc ++ [y])) D = some (.lst (((ys.take (i + 1)).filter P).map f))) else Same H H4 ∧ H4 D = some (.lst (((ys.take (i + 1)).filter P).map f)) := by
  rintro i x H1 H2 hi ⟨s1, d1⟩ ⟨rfl, hx⟩
  obtain ⟨y, hy, gy⟩ := rel i x hx
  have tk : ys.take (i + 1) = ys.take i ++ [y] := by
    rw [List.take_succ, hy]
    rfl
  refine turn x y H2 _ _ s1 (hG _ _ _ s1 gy) (List.mem_of_getElem? hy) (fun py H4 s4 => ⟨_, s4 _ _ d1, ?_, same_upd (s1.trans s4) hD, ?_⟩) fun py H4 s4 => ⟨s1.trans s4, ?_⟩
  · rw [List.length_map]
    have := List.length_filter_le P (ys.take i)
    rw [List.length_take] at this
    exact Nat.lt_of_le_of_lt (show _ ≤ 5000 by have := Nat.min_le_right i ys.length; omega) (by decide)
  · rw [upd_same, tk, List.filter_append, List.filter_cons_of_pos py, List.map_append]
    rfl
  · rw [tk, List.filter_append, List.filter_cons_of_neg (by rw [py]; exact Bool.false_ne_true)]
    rw [List.filter_nil, List.append_nil]
    exact s4 _ _ d1
theorem stepT {G : Hp → V → α → Prop} {P : α → Bool} {f : α → Int × Int} (rel : ∀ (i : Nat) (x : V), xs[i]? = some x → ∃ y, ys[i]? = some y ∧ G H x y) (hl : ys.length ≤ 5000) (hG : ∀ H' x y, Same H H' → G H x y → G H' x y) (turn : TurnT g tt telt vs σ H G ys P f) {D : Addr} (hD : H D = none) :
    ∀ i x H1 H2, i < xs.length → (Same H H1 ∧ PairsL H1 D (((ys.take i).filter P).map f)) → YAt xs i H1 x H2 → g x (wipe σ vs) H2 fun σ2 H3 => wipe σ2 vs = wipe σ vs ∧ tt σ2 H3 fun b H4 =>
      if b = true then telt σ2 H4 fun y H5 => ∃ acc, H5 D = some (.lst acc) ∧ acc.length < sizeLine ∧ (Same H (upd H5 D (.lst (acc ++ [y]))) ∧ PairsL (upd H5 D (.lst (acc ++ [y]))) D (((ys.take (i + 1)).filter P).map f)) else Same H H4 ∧ PairsL H4 D (((ys.take (i + 1)).filter P).map f) := by
  rintro i x H1 H2 hi ⟨s1, us, d1, pr⟩ ⟨rfl, hx⟩
  obtain ⟨y, hy, gy⟩ := rel i x hx
  have tk : ys.take (i + 1) = ys.take i ++ [y] := by
    rw [List.take_succ, hy]
    rfl
  refine turn x y H2 _ _ s1 (hG _ _ _ s1 gy) (List.mem_of_getElem? hy) (fun py n H4 s4 hn => ?_) fun py H4 s4 => ⟨s1.trans s4, us, s4 _ _ d1, ?_⟩
  · have s5 := same_new (o := .tup [.int (f y).1, .int (f y).2]) hn
    have T5 : TupAt (upd H4 n (.tup [.int (f y).1, .int (f y).2])) n (f y) := upd_same
    generalize upd H4 n (.tup [.int (f y).1, .int (f y).2]) = H5 at s5 T5 ⊢
    have d5 := s5 _ _ (s4 _ _ d1)
    have keep : ∀ {b : Addr} {z : Int × Int}, TupAt H5 b z → TupAt (upd H5 D (.lst (us.map V.ref ++ [.ref n]))) b z := fun {b z} w => (upd_ne (ne_of w d5 (by intro e; cases e))).trans w
    refine ⟨_, d5, ?_, same_upd ((s1.trans s4).trans s5) hD, us ++ [n], ?_, ?_⟩
    · rw [List.length_map]
      have l1 := paired_len pr
      rw [List.length_map] at l1
      have l2 := List.length_filter_le P (ys.take i)
      rw [List.length_take] at l2
      exact Nat.lt_of_le_of_lt (show _ ≤ 5000 by have := Nat.min_le_right i ys.length; omega) (by decide)
    · rw [upd_same, List.map_append]
      rfl
    · rw [tk, List.filter_append, List.filter_cons_of_pos py, List.map_append]
      exact paired_snoc (keep T5) (paired_imp (fun _ _ z => keep (s5 _ _ (s4 _ _ z))) pr)
  · rw [tk, List.filter_append, List.filter_cons_of_neg (by rw [py]; exact Bool.false_ne_true), List.filter_nil, List.append_nil]
    exact paired_imp (fun _ _ z => s4 _ _ z) pr
theorem lcV {G : Hp → V → α → Prop} (P : α → Bool) (f : α → V) (hte : ∀ R : VK, R (.ref a) H → te σ H R) (hs : SqL K H a xs) (rel : ∀ (i : Nat) (x : V), xs[i]? = some x → ∃ y, ys[i]? = some y ∧ G H x y) (len : xs.length = ys.length) (hl : ys.length ≤ 5000) (hG : ∀ H' x y, Same H H' → G H x y → G H' x y)
    (turn : TurnV g tt telt vs σ H G ys P f) (q : ∀ D H', H D = none → Same H H' → H' D = some (.lst ((ys.filter P).map f)) → Q (.ref D) H') : tLc (iList K te) g tt telt vs σ H Q := by
  refine hte _ ⟨a, rfl, ⟨_, hs⟩, fun D hD => ?_⟩
  refine lc_it (walk_list (K := K) (a := a) (xs := xs)) (fun i H1 => Same H H1 ∧ H1 D = some (.lst (((ys.take i).filter P).map f))) ⟨same_new hD, upd_same⟩ (fun i H1 _ h => SqL.same h.1 hs) (stepV rel hl hG turn hD) fun H1 h => ?_
  have d1 := h.2
  rw [len, List.take_length] at d1
  exact q D H1 hD h.1 d1
theorem lcT {G : Hp → V → α → Prop} (P : α → Bool) (f : α → Int × Int) (hte : ∀ R : VK, R (.ref a) H → te σ H R) (hs : SqL K H a xs) (rel : ∀ (i : Nat) (x : V), xs[i]? = some x → ∃ y, ys[i]? = some y ∧ G H x y) (len : xs.length = ys.length) (hl : ys.length ≤ 5000) (hG : ∀ H' x y, Same H H' → G H x y → G H' x y)
    (turn : TurnT g tt telt vs σ H G ys P f) (q : ∀ D H', H D = none → Same H H' → PairsL H' D ((ys.filter P).map f) → Q (.ref D) H') : tLc (iList K te) g tt telt vs σ H Q := by
  refine hte _ ⟨a, rfl, ⟨_, hs⟩, fun D hD => ?_⟩
  refine lc_it (walk_list (K := K) (a := a) (xs := xs)) (fun i H1 => Same H H1 ∧ PairsL H1 D (((ys.take i).filter P).map f)) ⟨same_new hD, [], upd_same, .nil⟩ (fun i H1 _ h => SqL.same h.1 hs) (stepT rel hl hG turn hD) fun H1 h => ?_
  have d1 := h.2
  rw [len, List.take_length] at d1
  exact q D H1 hD h.1 d1
theorem lcTt {G : Hp → V → α → Prop} (P : α → Bool) (f : α → Int × Int) (hte : ∀ R : VK, R (.ref a) H → te σ H R) (hs : SqT K H a xs) (rel : ∀ (i : Nat) (x : V), xs[i]? = some x → ∃ y, ys[i]? = some y ∧ G H x y) (len : xs.length = ys.length) (hl : ys.length ≤ 5000) (hG : ∀ H' x y, Same H H' → G H x y → G H' x y)
    (turn : TurnT g tt telt vs σ H G ys P f) (q : ∀ D H', H D = none → Same H H' → PairsL H' D ((ys.filter P).map f) → Q (.ref D) H') : tLc (iTup K te) g tt telt vs σ H Q := by
  refine hte _ ⟨a, rfl, ⟨_, hs⟩, fun D hD => ?_⟩
  refine lc_it (walk_tup (K := K) (a := a) (xs := xs)) (fun i H1 => Same H H1 ∧ PairsL H1 D (((ys.take i).filter P).map f)) ⟨same_new hD, [], upd_same, .nil⟩ (fun i H1 _ h => SqT.same h.1 hs) (stepT rel hl hG turn hD) fun H1 h => ?_
  have d1 := h.2
  rw [len, List.take_length] at d1
  exact q D H1 hD h.1 d1
theorem lcO {G : Hp → V → α → Prop} (P : α → Bool) (f : α → V) (hte : ∀ R : VK, R (.ref a) H → te σ H R) (hs : SqL K H a xs ∨ SqT K H a xs) (rel : ∀ (i : Nat) (x : V), xs[i]? = some x → ∃ y, ys[i]? = some y ∧ G H x y) (len : xs.length = ys.length) (hl : ys.length ≤ 5000) (hG : ∀ H' x y, Same H H' → G H x y → G H' x y)
    (turn : TurnV g tt telt vs σ H G ys P f) (q : ∀ D H', H D = none → Same H H' → H' D = some (.lst ((ys.filter P).map f)) → Q (.ref D) H') : tLc (fun σ H R => iList K te σ H R ∨ iTup K te σ H R) g tt telt vs σ H Q := by
  rcases hs with hs | hs
  · exact .inl (lcV P f hte hs rel len hl hG turn q)
  · refine .inr (hte _ ⟨a, rfl, ⟨_, hs⟩, fun D hD => ?_⟩)
    refine lc_it (walk_tup (K := K) (a := a) (xs := xs)) (fun i H1 => Same H H1 ∧ H1 D = some (.lst (((ys.take i).filter P).map f))) ⟨same_new hD, upd_same⟩ (fun i H1 _ h => SqT.same h.1 hs) (stepV rel hl hG turn hD) fun H1 h => ?_
    have d1 := h.2
    rw [len, List.take_length] at d1
    exact q D H1 hD h.1 d1
/-- the same, the list being what a call gives -/
theorem lcV_c {Cc : Addr → Hp → Prop} {H0 : Hp} (P : α → Bool) (f : α → V) (hte : ∀ R : VK, (∀ a H, Cc a H → R (.ref a) H) → te σ H0 R)
    (go : ∀ a H, Cc a H → ∃ (xs : List V) (G : Hp → V → α → Prop), SqL K H a xs ∧ (∀ (i : Nat) (x : V), xs[i]? = some x → ∃ y, ys[i]? = some y ∧ G H x y) ∧ xs.length = ys.length ∧ (∀ H' x y, Same H H' → G H x y → G H' x y) ∧ TurnV g tt telt vs σ H G ys P f ∧ ∀ D H', H D = none → Same H H' → H' D = some (.lst ((ys.filter P).map f)) → Q (.ref D) H')
    (hl : ys.length ≤ 5000) : tLc (iList K te) g tt telt vs σ H0 Q := by
  refine hte _ fun a H hc => ?_
  obtain ⟨xs, G, h1, h2, h3, h4, h5, h6⟩ := go a H hc
  exact lcV (te := fun _ H' R => R (.ref a) H') P f (fun R r => r) h1 h2 h3 hl h4 h5 h6
theorem lcTt_c {Cc : Addr → Hp → Prop} {H0 : Hp} (P : α → Bool) (f : α → Int × Int) (hte : ∀ R : VK, (∀ a H, Cc a H → R (.ref a) H) → te σ H0 R)
    (go : ∀ a H, Cc a H → ∃ (xs : List V) (G : Hp → V → α → Prop), SqT K H a xs ∧ (∀ (i : Nat) (x : V), xs[i]? = some x → ∃ y, ys[i]? = some y ∧ G H x y) ∧ xs.length = ys.length ∧ (∀ H' x y, Same H H' → G H x y → G H' x y) ∧ TurnT g tt telt vs σ H G ys P f ∧ ∀ D H', H D = none → Same H H' → PairsL H' D ((ys.filter P).map f) → Q (.ref D) H')
    (hl : ys.length ≤ 5000) : tLc (iTup K te) g tt telt vs σ H0 Q := by
  refine hte _ fun a H hc => ?_
  obtain ⟨xs, G, h1, h2, h3, h4, h5, h6⟩ := go a H hc
  exact lcTt (te := fun _ H' R => R (.ref a) H') P f (fun R r => r) h1 h2 h3 hl h4 h5 h6
theorem ckw_go {r : List V → List V → Hp → VK → Prop} {t tk : TA} (h : t σ H fun vs H1 => tk σ H1 fun zs H2 => r vs zs H2 Q) : tCKw r t tk σ H Q := h
theorem cb_go {r : List V → Hp → VK → Prop} {t : TA} (h : t σ H fun vs H1 => r vs H1 Q) : tCB r t σ H Q := h
theorem cons1_go {te : TE} {R : List V → Hp → Prop} (h : te σ H fun v H1 => R [v] H1) : tCons te tNil σ H R := h
theorem ret_go {te : TE} {D : Ends} (h : te σ H D.rt) : tRet te D σ H := h
/-- what is known of the pairs of a list, item by item -/
theorem pairs_rel {ts : List Addr} {ps : List (Int × Int)} (pr : Paired (TupAt H) ts ps) : ∀ (i : Nat) (x : V), (ts.map V.ref)[i]? = some x → ∃ p, ps[i]? = some p ∧ ∃ t, x = .ref t ∧ TupAt H t p := fun i x hx => by
  rw [List.getElem?_map] at hx
  obtain ⟨t, ht, rfl⟩ := Option.map_eq_some_iff.mp hx
  obtain ⟨p, hp, hat⟩ := paired_at pr ht
  exact ⟨p, hp, t, rfl, hat⟩
theorem ints_rel {L : List Int} : ∀ (i : Nat) (x : V), (L.map V.int)[i]? = some x → ∃ y, L[i]? = some y ∧ x = .int y := fun i x hx => by
  rw [List.getElem?_map] at hx
  obtain ⟨y, hy, rfl⟩ := Option.map_eq_some_iff.mp hx
  exact ⟨y, hy, rfl⟩
def GT (H : Hp) (x : V) (p : Int × Int) : Prop := ∃ t, x = .ref t ∧ TupAt H t p
def GI (_ : Hp) (x : V) (y : Int) : Prop := x = .int y
theorem GT.same {H H' : Hp} {x : V} {p : Int × Int} (s : Same H H') (h : GT H x p) : GT H' x p := let ⟨t, e, z⟩ := h; ⟨t, e, s _ _ z⟩
theorem all_true (l : List α) : l.filter (fun _ => true) = l := List.filter_eq_self.mpr fun _ _ => rfl
end
theorem blk_sum : ∀ (xs : List Int) (bs : List (Int × Int)) (f n : Int), (xs.foldl blkStep (bs ++ [(f, n)])).map (fun p => p.1 + p.2) = bs.map (fun p => p.1 + p.2) ++ rends ((f + n - 1) :: xs)
  | [], bs, f, n => by
    show (bs ++ [(f, n)]).map _ = _
    rw [List.map_append, rends_cons, if_neg (fun z => nomatch z)]
    show _ ++ [f + n] = _ ++ [f + n - 1 + 1]
    rw [show f + n - 1 + 1 = f + n by omega]
  | x :: xs, bs, f, n => by
    rw [List.foldl_cons, rends_cons]
    have gl : (bs ++ [(f, n)]).getLast? = some (f, n) := by simp
    by_cases h : f + n = x
    · have e : blkStep (bs ++ [(f, n)]) x = bs ++ [(f, n + 1)] := by
        unfold blkStep
        rw [gl]
        show (if f + n = x then _ else _) = _
        rw [if_pos h]
        simp
      rw [e, blk_sum xs bs f (n + 1), if_pos (show (x :: xs).head? = some (f + n - 1 + 1) by rw [show f + n - 1 + 1 = x by omega]; rfl), show f + (n + 1) - 1 = x by omega]
    · have e : blkStep (bs ++ [(f, n)]) x = (bs ++ [(f, n)]) ++ [(x, 1)] := by
        unfold blkStep
        rw [gl]
        show (if f + n = x then _ else _) = _
        rw [if_neg h]
      rw [e, blk_sum xs (bs ++ [(f, n)]) x 1, if_neg (show ¬(x :: xs).head? = some (f + n - 1 + 1) by
        intro z
        have : x = f + n - 1 + 1 := Option.some.inj z
        omega), show x + 1 - 1 = x by omega, List.map_append, List.append_assoc]
      show _ ++ ([f + n] ++ _) = _ ++ ((f + n - 1 + 1) :: _)
      rw [show f + n - 1 + 1 = f + n by omega]
      rfl
theorem blk_rends (L : List Int) : (blkOf L).map (fun p => p.1 + p.2) = rends L := by
  cases L with
  | nil => rfl
  | cons x xs =>
    unfold blkOf
    rw [List.foldl_cons]
    have e : blkStep [] x = [] ++ [(x, 1)] := rfl
    rw [e, blk_sum xs [] x 1, show x + 1 - 1 = x by omega]
    rfl
def spBehind (K : PySem.W.Frag) (C : Addr) : Sp := fun vs H Q _ => ∃ x L, vs = [.ref x] ∧ RowAt K C H x (ones L) [] ∧ L.length ≤ 100 ∧ ∀ A H', H A = none → Same H H' → H' A = some (.lst ((rends L).map V.int)) → Q (.ref A) H'
def t_behind_runs (K : PySem.W.Frag) (c_Row : Addr) : TS := tRet (tLc (iList K (tCall (spRunsIn K c_Row) [] E0 (tCons (tVar 0) (tNil)))) (gTup K 2 (gCons (gName 1) (gCons (gName 2) (gNil)))) (tYes) (tOp qAdd (tVar 1) (tVar 2)) [1, 2])
theorem pure_behind {K : PySem.W.Frag} {C : Addr} (vs : List V) (H : Hp) (Q : VK) (E : XK) (h : spBehind K C vs H Q E) : t_behind_runs K C { nx := fun _ H' => Q .non H', rt := Q } (start ["row", "first", "length"] vs) H := by
  obtain ⟨x, L, rfl, row, len, q⟩ := h
  have ol : (ones L).length ≤ 100 := by rw [ones_len]; exact len
  refine ⟨_, rfl, x, ones L, [], rfl, row, ol, fun A H1 hA s1 blk => ?_⟩
  rw [ones_fst] at blk
  obtain ⟨ts, hl, pr⟩ := blk
  have bl := blkOf_len L
  show tLc (iList K fun _ H' R => R (.ref A) H') (gTup K 2 (gCons (gName 1) (gCons (gName 2) (gNil)))) (tYes) (tOp qAdd (tVar 1) (tVar 2)) [1, 2] [some (.ref x), none, none] H1 Q
  refine lcV (G := GT) (fun _ => true) (fun p : Int × Int => .int (p.1 + p.2)) (fun R r => r) (SqL.of hl) (pairs_rel pr) (by rw [List.length_map, paired_len pr]) (by omega) (fun _ _ _ s z => z.same s) ?_ fun D H2 hD s2 d2 => ?_
  · rintro v p H' Rt Rf s' ⟨t, rfl, hat⟩ m rt rf
    exact ⟨t, _, rfl, SqT.of hat, rfl, _, _, rfl, _, _, rfl, rfl, rfl, yes_if ⟨_, rfl, _, rfl, _, _, rfl, rfl, rt rfl _ (fun _ _ h => h)⟩⟩
  · rw [all_true] at d2
    refine q D H2 (none_back s1 hD) (s1.trans s2) ?_
    rw [d2, ← blk_rends, List.map_map]
    rfl
end SR
set_option Elab.async false
set_option linter.all false
set_option maxRecDepth 100000
set_option maxHeartbeats 2000000
namespace SR
open PySem PySem.Spec PyProof.Rows L2
/-- a run of s full boxes -/
def bigS (s : Int) (st : Sq × Sq) : Sq × Sq := (fun j => match j with | 0 => 0 | j + 1 => max (st.1 (j + 1)) (s + st.2 j), fun j => s + st.2 j)
theorem big_m {s : Int} {st : Sq × Sq} (j : Nat) : (bigS s st).1 (j + 1) = max (st.1 (j + 1)) (s + st.2 j) := rfl
theorem big_u {s : Int} {st : Sq × Sq} (j : Nat) : (bigS s st).2 j = s + st.2 j := rfl
theorem sq_ext {a b : Sq × Sq} (h1 : ∀ j, a.1 j = b.1 j) (h2 : ∀ j, a.2 j = b.2 j) : a = b := Prod.ext (funext h1) (funext h2)
theorem big_0 {st : Sq × Sq} (g : GdS st) : bigS 0 st = st := sq_ext (fun j => by
  cases j with
  | zero => exact g.m0.symm
  | succ j =>
    rw [big_m]
    have := g.up j
    omega) fun j => by
  rw [big_u]
  omega
theorem big_full {st : Sq × Sq} {n : Int} (n0 : 0 ≤ n) : bigS n (fullS st) = bigS (n + 1) st := sq_ext (fun j => by
  cases j with
  | zero => rfl
  | succ j =>
    rw [big_m, big_m, full_m, full_u]
    omega) fun j => by
  rw [big_u, big_u, full_u]
  omega
theorem GdS.big {st : Sq × Sq} (g : GdS st) {s : Int} (s1 : 0 ≤ s) : GdS (bigS s st) := by
  refine ⟨rfl, fun j => ?_, fun j => ?_, fun j => ?_, fun j => ?_⟩
  · cases j with
    | zero =>
      rw [big_m]
      have := g.pos (0 + 1)
      show (0 : Int) ≤ _
      omega
    | succ j =>
      rw [big_m, big_m]
      have := g.mm (j + 1)
      have := g.uu j
      omega
  · rw [big_u, big_u]
    have := g.uu j
    omega
  · cases j with
    | zero =>
      rw [big_u]
      have := g.le 0
      have := g.m0
      show (0 : Int) ≤ _
      omega
    | succ j =>
      rw [big_m, big_u]
      have := g.le (j + 1)
      have := g.uu j
      omega
  · rw [big_u, big_m]
    omega
theorem dp_seg : ∀ (n : Nat) (y : Int) (r : List Int) (st : Sq × Sq), GdS st → dpP (seg y n ++ r) y st = dpP r (y + n) (bigS n st)
  | 0, y, r, st, g => by
    rw [show bigS ((0 : Nat) : Int) st = st from big_0 g, show y + ((0 : Nat) : Int) = y by omega]
    rfl
  | n + 1, y, r, st, g => by
    rw [seg_cons]
    show dpP (seg (y + 1) n ++ r) (y + 1) (fullS (gapS (y - y) st)) = _
    rw [Int.sub_self, gap_0 g, dp_seg n (y + 1) r _ g.full, big_full (by omega)]
    congr 1
    omega
/-- by runs -/
def dpR : List (Int × Int) → Int → Sq × Sq → Sq × Sq
  | [], _, st => st
  | p :: r, q, st => dpR r (p.1 + p.2) (bigS p.2 (gapS (p.1 - q) st))
/-- runs one behind the other -/
def Rns : List (Int × Int) → Int → Prop
  | [], _ => True
  | p :: r, q => q ≤ p.1 ∧ 1 ≤ p.2 ∧ Rns r (p.1 + p.2)
theorem dp_runs : ∀ (rs : List (Int × Int)) (q : Int) (st : Sq × Sq), GdS st → Rns rs q → dpP (layR rs) q st = dpR rs q st
  | [], _, _, _, _ => rfl
  | p :: r, q, st, g, h => by
    obtain ⟨h1, h2, h3⟩ := h
    have gg := g.gap (k := p.1 - q) (by omega)
    show dpP (seg p.1 p.2.toNat ++ layR r) q st = dpR r (p.1 + p.2) (bigS p.2 (gapS (p.1 - q) st))
    have e : p.2.toNat = (p.2.toNat - 1) + 1 := by omega
    have e2 : ((p.2.toNat - 1 : Nat) : Int) = p.2 - 1 := by omega
    rw [e, seg_cons]
    show dpP (seg (p.1 + 1) (p.2.toNat - 1) ++ layR r) (p.1 + 1) (fullS (gapS (p.1 - q) st)) = _
    rw [dp_seg _ _ _ _ gg.full, e2, big_full (by omega), show p.1 + 1 + (p.2 - 1) = p.1 + p.2 by omega, show p.2 - 1 + 1 = p.2 by omega]
    exact dp_runs r _ _ (gg.big (by omega)) h3
theorem rns_of : ∀ (rs : List (Int × Int)) (q : Int), (∀ p ∈ rs, 1 ≤ p.2) → (layR rs).Pairwise (· < ·) → (∀ y ∈ layR rs, q ≤ y) → Rns rs q
  | [], _, _, _, _ => trivial
  | p :: r, q, h1, h2, h3 => by
    have p1 := h1 p List.mem_cons_self
    have h2' := List.pairwise_append.mp (show (seg p.1 p.2.toNat ++ layR r).Pairwise (· < ·) from h2)
    have mem : ∀ y, p.1 ≤ y → y < p.1 + p.2 → y ∈ seg p.1 p.2.toNat := fun y a b => List.mem_map.mpr ⟨(y - p.1).toNat, List.mem_range.mpr (by omega), by show p.1 + (((y - p.1).toNat : Nat) : Int) = y; omega⟩
    refine ⟨h3 p.1 (List.mem_append_left _ (mem p.1 (Int.le_refl _) (by omega))), p1, rns_of r _ (fun q m => h1 q (List.mem_cons_of_mem _ m)) h2'.2.1 fun y m => ?_⟩
    have := h2'.2.2 (p.1 + p.2 - 1) (mem _ (by omega) (by omega)) y m
    omega
theorem blk_rns {L : List Int} (a : L.Pairwise (· < ·)) : ∃ q, Rns (blkOf L) q ∧ (dpR (blkOf L) q zeS).1 = bst L ∧ ∀ p rs, blkOf L = p :: rs → q = p.1 := by
  obtain ⟨e, pos⟩ := blk_posF L [] (fun _ m => nomatch m)
  have e : layR (blkOf L) = L := e
  cases h : blkOf L with
  | nil =>
    rw [h] at e
    have : L = [] := e.symm
    subst this
    exact ⟨0, trivial, rfl, fun p rs z => by cases z⟩
  | cons p rs =>
    rw [h] at e
    have pos : ∀ r ∈ p :: rs, 1 ≤ r.2 := fun r m => pos r (by rw [show L.foldl blkStep [] = blkOf L from rfl, h]; exact m)
    have lo : ∀ y ∈ L, p.1 ≤ y := fun y m => by
      have p1 := pos p List.mem_cons_self
      rw [← e] at a m
      have a' := List.pairwise_append.mp (show (seg p.1 p.2.toNat ++ layR rs).Pairwise (· < ·) from a)
      rcases List.mem_append.mp (show y ∈ seg p.1 p.2.toNat ++ layR rs from m) with m | m
      · exact (seg_bd _ _ y m).1
      · have := a'.2.2 p.1 (List.mem_map.mpr ⟨0, List.mem_range.mpr (by omega), by show p.1 + ((0 : Nat) : Int) = p.1; omega⟩) y m
        omega
    have R : Rns (p :: rs) p.1 := rns_of _ _ pos (by rw [e]; exact a) (by rw [e]; exact lo)
    refine ⟨p.1, R, ?_, fun p' rs' z => by injection z with z1 z2; rw [z1]⟩
    rw [← dp_runs _ _ _ .ze R, e, bst_at lo]
theorem blk_many (L : List Int) : (blkOf L).length = (rends L).length := by
  rw [← blk_rends L, List.length_map]
/-- the greatest of the first j + 1 -/
def px (f : Sq) : Sq
  | 0 => f 0
  | j + 1 => max (px f j) (f (j + 1))
theorem px_max (f h : Sq) : ∀ j, px (fun i => max (f i) (h i)) j = max (px f j) (px h j)
  | 0 => rfl
  | j + 1 => by
    show max (px _ j) (max (f (j + 1)) (h (j + 1))) = max (max (px f j) (f (j + 1))) (max (px h j) (h (j + 1)))
    rw [px_max f h j]
    omega
theorem px_le (f : Sq) : ∀ (j i : Nat), i ≤ j → f i ≤ px f j
  | 0, i, h => by
    obtain rfl : i = 0 := by omega
    exact Int.le_refl _
  | j + 1, i, h => by
    show f i ≤ max (px f j) (f (j + 1))
    by_cases e : i = j + 1
    · subst e
      omega
    · have := px_le f j i (by omega)
      omega
theorem px_mem (f : Sq) : ∀ j, ∃ i, i ≤ j ∧ px f j = f i
  | 0 => ⟨0, Nat.le_refl _, rfl⟩
  | j + 1 => by
    obtain ⟨i, h, e⟩ := px_mem f j
    by_cases c : px f j ≤ f (j + 1)
    · exact ⟨j + 1, Nat.le_refl _, by show max (px f j) (f (j + 1)) = _; omega⟩
    · exact ⟨i, by omega, by show max (px f j) (f (j + 1)) = _; omega⟩
/-- f: closed, h: held -/
structure Bs (N : Nat) (st : Sq × Sq) (f h : Sq) : Prop where
  g : GdS st
  a : ∀ j, j ≤ N → px (fun i => max (f i) (h i)) j = st.1 j
  b : ∀ j, j + 1 ≤ N → max (px h (j + 1)) (st.1 j) = st.2 j
/-- what a run makes of held -/
def nxH (z s g : Int) (f h : Sq) : Sq
  | 0 => z
  | i + 1 => s + max (max (h (i + 1) - g) (f i)) (h i)
theorem Bs.start {N : Nat} {z : Int} (z0 : z ≤ 0) : Bs N zeS (fun j => match j with | 0 => 0 | _ + 1 => z) (fun _ => z) := by
  have pz : ∀ j, px (fun _ => z) j = z := fun j => by
    induction j with
    | zero => rfl
    | succ j ih =>
      show max (px (fun _ => z) j) z = z
      rw [ih]
      omega
  refine ⟨.ze, fun j _ => ?_, fun j _ => ?_⟩
  · induction j with
    | zero =>
      show max 0 z = 0
      omega
    | succ j ih =>
      show max (px _ j) (max z z) = 0
      rw [ih (by omega)]
      show max (0 : Int) (max z z) = 0
      omega
  · rw [pz]
    show max z 0 = 0
    omega
theorem Bs.px {N : Nat} {st : Sq × Sq} {f h : Sq} (b : Bs N st f h) {z s g : Int} (z0 : z ≤ 0) (s0 : 0 ≤ s) (g0 : 0 ≤ g) : ∀ j, j + 1 ≤ N → px (nxH z s g f h) (j + 1) = s + max (st.2 j - g) (st.1 j) := by
  intro j
  induction j with
  | zero =>
    intro hj
    have a0 : max (f 0) (h 0) = st.1 0 := b.a 0 (by omega)
    have b0 : max (max (h 0) (h (0 + 1))) (st.1 0) = st.2 0 := b.b 0 hj
    have m0 := b.g.m0
    show max z (s + max (max (h (0 + 1) - g) (f 0)) (h 0)) = s + max (st.2 0 - g) (st.1 0)
    omega
  | succ j ih =>
    intro hj
    have i1 := ih (by omega)
    have a1 : max (SR.px (fun i => max (f i) (h i)) j) (max (f (j + 1)) (h (j + 1))) = st.1 (j + 1) := b.a (j + 1) (by omega)
    rw [b.a j (by omega)] at a1
    have b0 := b.b j (by omega)
    have b1 : max (max (SR.px h (j + 1)) (h (j + 1 + 1))) (st.1 (j + 1)) = st.2 (j + 1) := b.b (j + 1) hj
    show max (SR.px (nxH z s g f h) (j + 1)) (s + max (max (h (j + 1 + 1) - g) (f (j + 1))) (h (j + 1))) = s + max (st.2 (j + 1) - g) (st.1 (j + 1))
    rw [i1]
    omega
theorem Bs.step {N : Nat} {st : Sq × Sq} {f h : Sq} (b : Bs N st f h) {z s g : Int} (z0 : z ≤ 0) (s0 : 0 ≤ s) (g0 : 0 ≤ g) : Bs N (bigS s (gapS g st)) (fun j => max (f j) (h j)) (nxH z s g f h) := by
  have g' : GdS (bigS s (gapS g st)) := (b.g.gap g0).big s0
  refine ⟨g', fun j hj => ?_, fun j hj => ?_⟩
  · rw [px_max, b.a j hj]
    cases j with
    | zero =>
      show max (st.1 0) z = 0
      have := b.g.m0
      omega
    | succ j =>
      rw [b.px z0 s0 g0 j hj, big_m, gap_m, gap_u]
  · rw [b.px z0 s0 g0 j hj]
    have := g'.le j
    rw [big_u, gap_u] at this ⊢
    omega
theorem desc_eq {a b : List Int} (h1 : a.Pairwise fun x y => y ≤ x) (h2 : b.Pairwise fun x y => y ≤ x) (p : a.Perm b) : a = b := by
  have r1 : a.reverse.Pairwise (· ≤ ·) := List.pairwise_reverse.mpr h1
  have r2 : b.reverse.Pairwise (· ≤ ·) := List.pairwise_reverse.mpr h2
  have e := up_eq r1 r2 fun x => ((List.reverse_perm a).trans (p.trans (List.reverse_perm b).symm)).count_eq x
  rw [← List.reverse_reverse a, e, List.reverse_reverse]
/-- the lengths of a row's trains, greatest first -/
def lnD (L : List Int) : List Int := dlen L.length L
theorem lnD_perm (L : List Int) : (lnD L).Perm ((trL L).map Prod.fst) := by
  have h := dlen_perm L.length 1 L
  have e : (fun t : Int × Int => t.1 - 1 + 1) = Prod.fst := by
    funext t
    show t.1 - 1 + 1 = t.1
    omega
  rw [e] at h
  exact h
theorem lnD_desc (L : List Int) : (lnD L).Pairwise fun x y => y ≤ x := dlen_desc _ _
theorem lnD_len {L : List Int} (a : L.Pairwise (· < ·)) : (lnD L).length = (blkOf L).length := by
  rw [blk_many]
  exact dlen_len a (Nat.le_refl _)
theorem bst_take {L : List Int} (a : L.Pairwise (· < ·)) (j : Nat) : bst L j = ((lnD L).take j).sum := bst_len _ L a (Nat.le_refl _) j
theorem bst_diff {L : List Int} (a : L.Pairwise (· < ·)) : (List.range (blkOf L).length).map (fun i => bst L (i + 1) - bst L i) = lnD L := by
  rw [← lnD_len a]
  apply List.ext_getElem
  · rw [List.length_map, List.length_range]
  · intro i h1 h2
    rw [List.getElem_map, List.getElem_range, bst_take a, bst_take a, List.take_succ, List.sum_append, List.getElem?_eq_getElem h2]
    show _ + ([(lnD L)[i]] : List Int).sum - _ = _
    simp
    omega
end SR
set_option Elab.async false
set_option linter.all false
set_option maxRecDepth 100000
set_option maxHeartbeats 1000000
set_option Elab.async false
set_option linter.all false
set_option maxRecDepth 100000
set_option maxHeartbeats 4000000
set_option Elab.async false
set_option linter.all false
set_option maxRecDepth 100000
set_option maxHeartbeats 4000000
set_option Elab.async false
set_option linter.all false
set_option maxRecDepth 100000
set_option maxHeartbeats 4000000
namespace SR
open PySem PySem.Spec PyProof.Rows L2
section
variable {K : PySem.W.Frag} {C : Addr} {H H' : Hp} {d g c x a : Addr} {b : Nat} {ps ks : List (Int × Int)}
theorem StB.ext (S : StB H d g c b) (e : LamX.ExtN H H') : StB H' d g c b := by
  obtain ⟨r, t, gs, cs, h1, h2, h3, h4⟩ := S
  exact ⟨r, t, gs, cs, e _ _ h1 (fun _ z => by cases z), e _ _ h2 (fun _ z => by cases z), e _ _ h3 (fun _ z => by cases z), h4⟩
theorem RowAt.ext (row : RowAt K C H x ps ks) (e : LamX.ExtN H H') : RowAt K C H' x ps ks := by
  obtain ⟨dx, c0, k0, dd, de, ps0, ks0, h1, ⟨t1, h2, h3⟩, ⟨t2, h4, h5⟩, h6, h7, h8⟩ := row
  have tp : ∀ {t : Addr} {p : Int × Int}, TupAt H t p → TupAt H' t p := fun {t p} z => e t (.tup [.int p.1, .int p.2]) z (fun _ z => nomatch z)
  refine ⟨dx, c0, k0, dd, de, ps0, ks0, e _ _ h1 (fun _ z => nomatch z), ⟨t1, ?_, paired_imp (fun _ _ z => tp z) h3⟩, ⟨t2, ?_, paired_imp (fun _ _ z => tp z) h5⟩, e _ _ h6 (fun _ z => by cases z), e _ _ h7 (fun _ z => by cases z), h8⟩
  · obtain ⟨o, a1, a2⟩ := h2
    exact ⟨o, e _ _ a1 (fun _ z => by cases z), a2⟩
  · obtain ⟨o, a1, a2⟩ := h4
    exact ⟨o, e _ _ a1 (fun _ z => by cases z), a2⟩
theorem Tabs.same {T : List (Addr × Str)} (t : LamX.Tabs T H) (s : Same H H') : LamX.Tabs T H' := t.ext s
theorem Tabs.kp {T : List (Addr × Str)} (S : StB H d g c b) (t : LamX.Tabs T H) (k : Kp d g H H') : LamX.Tabs T H' := fun p hp => by
  obtain ⟨ps, h1, h2, h3⟩ := t p hp
  exact ⟨ps, kp_at S k h1 (fun _ z => by cases z) (fun _ _ z => by cases z), h2, fun pos cv hc => by
    obtain ⟨c0, e1, e2⟩ := h3 pos cv hc
    exact ⟨c0, e1, kp_at S k e2 (fun _ z => by unfold LamX.CodeO at z; cases z) (fun _ _ z => by unfold LamX.CodeO at z; cases z)⟩⟩
end
end SR
set_option Elab.async false
set_option linter.all false
set_option maxRecDepth 100000
set_option maxHeartbeats 2000000
namespace SR
open PySem PySem.Spec PyProof.Rows L2
def spTrains (K : PySem.W.Frag) (C : Addr) : Sp := fun vs H Q _ => ∃ (x : Addr) (ks : List (Int × Int)) (p : Rws ks), vs = [.ref x] ∧ RowAt K C H x p.1 ks ∧ ∀ D H', H D = none → Same H H' → PairsL H' D (trP p) → Q (.ref D) H'
def t_trOfs (K : PySem.W.Frag) (C : Addr) : TS := (tFor (iList K (tCall (spBehind K C) [] E0 (tCons (tVar 2) (tNil)))) (gName 5)
  (tDrop (tBM K "list" rRemI (tVar 4) (tCons (tVar 5) (tNil)))))
def t_trEnd (K : PySem.W.Frag) : TS := (tSeq (tDrop (tBM K "list" rExtend (tVar 1) (tCons (tLc (iList K (tVar 4)) (gName 6) (tYes) (tTup (tCons (tVar 3) (tCons (tVar 6) (tNil)))) [6]) (tNil))))
  (tAug 3 (tC (.int 1)) (ipI fun i j => i + j)))
def t_trTurn (K : PySem.W.Frag) (B C : Addr) : TS := (tSeq (tAsg (tCall (spCut K C B) [] E0 (tCons (tVar 2) (tNil))) (gTup K 2 (gCons (gName 2) (gCons (gName 4) (gNil)))))
  (tSeq (t_trOfs K C) (t_trEnd K)))
def t_trains (K : PySem.W.Frag) (c_BadRow : Addr) (c_Row : Addr) : TS := tSeq (tAsg (tLst (tNil)) (gName 1))
  (tSeq (tAsg (tCall (spPlainForm K c_Row) [] E0 (tCons (tVar 0) (tNil))) (gName 2))
  (tSeq (tAsg (tC (.int 1)) (gName 3))
  (tSeq (tWhile ((fun σ H Q => (tProp c_Row (spContents K c_Row) [] E0 (tVar 2)) σ H fun x H1 => ∃ k, TruV K x H1 k ∧ Q k H1))
  (t_trTurn K c_BadRow c_Row))
  (tRet (tVar 1)))))
section
variable {K : PySem.W.Frag} {B C : Addr} {N N2 N3 : L2.St → Hp → Prop} {R : VK}
theorem take_count {E : List Int} {i : Nat} {e x : Int} (h : E[i]? = some e) : (E.take (i + 1)).count x = (E.take i).count x + if e == x then 1 else 0 := by
  rw [List.take_succ, h]
  show (E.take i ++ [e]).count x = _
  rw [List.count_append, List.count_cons, List.count_nil, Nat.zero_add]
theorem less_snoc (M : List Int) {E : List Int} {i : Nat} {e : Int} (h : E[i]? = some e) : less M (E.take (i + 1)) = (less M (E.take i)).erase e := by
  rw [List.take_succ, h]
  show less M (E.take i ++ [e]) = _
  unfold less
  rw [List.foldl_append]
  rfl
theorem take_le (E : List Int) (i : Nat) (x : Int) : (E.take i).count x ≤ E.count x := (List.take_sublist i E).count_le x
/-- what is behind the runs is taken out of the offsets -/
theorem tr_ofs {H : Hp} {y O : Addr} {L M : List Int} {x0 x1 x3 x5 x6 : Option V} (row : RowAt K C H y (ones L) []) (len : L.length ≤ 100) (hO : H O = some (.lst (M.map V.int))) (sub : ∀ x, (rends L).count x ≤ M.count x)
    (hN : ∀ y5 H', SameBut O H H' → H' O = some (.lst ((less M (rends L)).map V.int)) → N [x0, x1, some (.ref y), x3, some (.ref O), y5, x6] H') :
    t_trOfs K C { nx := N, rt := R, bk := N2, ct := N3 } [x0, x1, some (.ref y), x3, some (.ref O), x5, x6] H := by
  refine ⟨_, rfl, y, L, rfl, row, len, fun A H1 hA s1 hA1 => ?_⟩
  have nAO : A ≠ O := fun z => by rw [z, hO] at hA; cases hA
  have O1 := s1 _ _ hO
  generalize hE : rends L = E at hA1 sub hN
  refine ⟨A, rfl, ⟨_, SqL.of hA1⟩, ?_⟩
  refine for_it (walk_list (K := K) (a := A) (xs := E.map V.int)) (fun i σ H2 => SameBut O H1 H2 ∧ H2 O = some (.lst ((less M (E.take i)).map V.int)) ∧ ∃ w5, σ = [x0, x1, some (.ref y), x3, some (.ref O), w5, x6]) ⟨fun _ _ _ h => h, O1, x5, rfl⟩ ?_ ?_ ?_
  · rintro i σ H2 _ ⟨k2, _⟩
    exact SqL.of (k2 _ _ nAO hA1)
  · rintro i v σ H2 H3 hi ⟨k2, o2, w5, rfl⟩ ⟨rfl, hv⟩
    obtain ⟨e, he, rfl⟩ := ints_rel i v hv
    have mem : e ∈ less M (E.take i) := by
      refine List.count_pos_iff.mp ?_
      rw [less_count]
      have a := sub e
      have b := take_le E (i + 1) e
      rw [take_count he] at b
      have c : (if (e == e) = true then 1 else 0) = 1 := by simp
      rw [c] at b
      omega
    obtain ⟨j, _, j1, j2, j3⟩ := first_at mem
    refine ⟨_, rfl, .inl ⟨rfl, _, SqL.of o2⟩, _, rfl, O, less M (E.take i), e, j, rfl, rfl, o2, j1, j2, ?_⟩
    refine ⟨fun b o ne h => (upd_ne ne).trans (k2 _ _ ne h), ?_, _, rfl⟩
    rw [upd_same, j3, less_snoc M he]
  · rintro σ H2 ⟨k2, o2, w5, rfl⟩
    rw [List.length_map, List.take_length] at o2
    exact hN _ _ (fun b o ne h => k2 _ _ ne (s1 _ _ h)) o2
/-- the trains of one length are told -/
theorem tr_end {H : Hp} {A O : Addr} {ts : List (Int × Int)} {M : List Int} {k : Int} {x0 x2 x5 : Option V} (nAO : A ≠ O) (hA : PairsL H A ts) (hO : H O = some (.lst (M.map V.int))) (tl : ts.length ≤ 1000) (ml : M.length ≤ 1000)
    (hN : ∀ H', SameBut A H H' → PairsL H' A (ts ++ M.map fun b => (k, b)) → N [x0, some (.ref A), x2, some (.int (k + 1)), some (.ref O), x5, none] H') :
    t_trEnd K { nx := N, rt := R, bk := N2, ct := N3 } [x0, some (.ref A), x2, some (.int k), some (.ref O), x5, none] H := by
  obtain ⟨us, a1, pr⟩ := hA
  refine ⟨_, rfl, .inl ⟨rfl, _, SqL.of a1⟩, ?_⟩
  refine lcT (G := GI) (fun _ => true) (fun b : Int => (k, b)) (fun R r => ⟨_, rfl, r⟩) (SqL.of hO) (ints_rel) (by rw [List.length_map]) (by omega) (fun _ _ _ _ z => z) ?_ fun D H1 hD s1 d1 => ?_
  · rintro v b H' Rt Rf s' rfl m rt rf
    refine ⟨rfl, yes_if ⟨_, rfl, _, rfl, sz (by show 2 ≤ 1000; decide), fun n hn => rt rfl n H' (fun _ _ h => h) hn⟩⟩
  · rw [all_true] at d1
    obtain ⟨ws, dl, pd⟩ := d1
    have A1 := s1 _ _ a1
    have nAD : A ≠ D := fun z => by rw [← z, a1] at hD; cases hD
    have wl := paired_len pd
    rw [List.length_map] at wl
    have ul := paired_len pr
    refine ⟨A, D, _, _, rfl, rfl, A1, dl, ?_, ?_⟩
    · rw [List.length_map, List.length_map, wl, ul]
      exact Nat.le_trans (show ts.length + M.length ≤ 5000 by omega) (by decide)
    refine ⟨_, rfl, _, _, rfl, rfl, ?_⟩
    have keep : ∀ {b : Addr} {z : Int × Int}, TupAt H1 b z → TupAt (upd H1 A (.lst (us.map V.ref ++ ws.map V.ref))) b z := fun {b z} w => (upd_ne (ne_of w A1 (by intro e; cases e))).trans w
    refine hN _ (fun b o ne h => (upd_ne ne).trans (s1 _ _ h)) ⟨us ++ ws, ?_, ?_⟩
    · rw [upd_same, List.map_append]
    · have app : ∀ {xs ys : List Addr} {as bs : List (Int × Int)} {F : Addr → Int × Int → Prop}, Paired F xs as → Paired F ys bs → Paired F (xs ++ ys) (as ++ bs) := fun {xs ys as bs F} h1 h2 => by
        induction h1 with
        | nil => exact h2
        | cons f _ ih => exact .cons f ih
      exact app (paired_imp (fun _ _ z => keep (s1 _ _ z)) pr) (paired_imp (fun _ _ z => keep z) pd)
end
theorem tr_many_le {L : List Int} (a : L.Pairwise (· < ·)) : (trL L).length ≤ L.length := by
  have h := tr_many L.length 1 L a (Nat.le_refl _)
  have c := cutL_snd L 0
  have d := cutL_len L 0
  unfold trL
  omega
theorem pure_trains {K : PySem.W.Frag} {B C : Addr} (vs : List V) (H : Hp) (Q : VK) (E : XK) (h : spTrains K C vs H Q E) : t_trains K B C { nx := fun _ H' => Q .non H', rt := Q } (start ["row", "found", "rest", "length", "offsets", "index", "offset"] vs) H := by
  obtain ⟨x, ks, p, rfl, row, q⟩ := h
  unfold t_trains
  refine ⟨sz (Nat.zero_le _), fun A hA => ?_⟩
  have s1 := same_new (o := .lst []) hA
  have A1 : upd H A (.lst []) A = some (.lst []) := upd_same
  generalize upd H A (.lst []) = H1 at s1 A1 ⊢
  refine ⟨_, rfl, x, p.1, ks, rfl, row.same s1, p.2, fun y H2 hy s2 ry => ?_⟩
  rw [plL_ones p] at ry
  have A2 := s2 _ _ A1
  have l40 := plL_40 p
  have tl40 : (trP p).length ≤ 40 := Nat.le_trans (tr_many_le (plL_asc p)) l40
  refine ⟨fun m σ H3 => ∃ (L : List Int) (k : Int) (z : Addr) (acc : List (Int × Int)) (w4 w5 : Option V), m = L.length ∧ σ = [some (.ref x), some (.ref A), some (.ref z), some (.int k), w4, w5, none] ∧ SameBut A H2 H3 ∧ RowAt K C H3 z (ones L) [] ∧ L.Pairwise (· < ·) ∧ L.length ≤ 40 ∧ PairsL H3 A acc ∧ acc ++ tr 40 k L = trP p,
    ⟨_, plL p, 1, y, [], _, _, rfl, rfl, fun _ _ _ h => h, ry, plL_asc p, l40, ⟨[], A2, .nil⟩, ?_⟩, ?_⟩
  · exact tr_fuel _ _ _ _ l40 (Nat.le_refl _)
  rintro m σ H3 ⟨L, k, z, acc, w4, w5, rfl, rfl, k3, rz, asc, len, pa, eq⟩
  obtain ⟨dz, fz, hz⟩ := rz.at
  refine ⟨_, rfl, z, dz, fz, rfl, hz, z, ones L, [], rfl, rz, fun c hc => ?_⟩
  obtain ⟨tc, bc, pc⟩ := hc
  refine ⟨_, .inr (.inl ⟨_, bc.sq, rfl⟩), ?_⟩
  have tcl := paired_len pc
  rw [ones_len] at tcl
  have emp : (!(tc.map V.ref).isEmpty) = !L.isEmpty := by
    cases tc with
    | nil =>
      cases L with
      | nil => rfl
      | cons _ _ => cases tcl
    | cons _ _ =>
      cases L with
      | nil => cases tcl
      | cons _ _ => rfl
  rw [emp]
  by_cases ne : L = []
  · subst ne
    refine iteF ?_
    rw [tr_nil, List.append_nil] at eq
    obtain ⟨us, a3, pr⟩ := pa
    refine ⟨_, rfl, q A H3 hA (fun b o hb => k3 _ _ (ne_of_none hb hA) (s2 _ _ (s1 _ _ hb))) ?_⟩
    rw [← eq]
    exact ⟨us, a3, pr⟩
  · have nb : (!L.isEmpty) = true := by
      cases L with
      | nil => exact absurd rfl ne
      | cons _ _ => rfl
    rw [nb]
    refine iteT ?_
    refine ⟨fun σ' H' => ∃ m', m' < L.length ∧ ∃ (L2 : List Int) (k2 : Int) (z2 : Addr) (acc2 : List (Int × Int)) (w4 w5 : Option V), m' = L2.length ∧ σ' = [some (.ref x), some (.ref A), some (.ref z2), some (.int k2), w4, w5, none] ∧ SameBut A H2 H' ∧ RowAt K C H' z2 (ones L2) [] ∧ L2.Pairwise (· < ·) ∧ L2.length ≤ 40 ∧ PairsL H' A acc2 ∧ acc2 ++ tr 40 k2 L2 = trP p, fun σ' H' h => h, ?_⟩
    have ok := ones_ok asc len
    refine ⟨_, rfl, z, ones L, [], rfl, rz, ok, ones_asc asc, (fun n => absurd rfl n), fun _ t z2 O H4 ht hO s4 t4 r4 o4 => ?_⟩
    rw [ones_fst] at r4 o4
    have cu := cut_up asc
    have lt := cut_lt ne
    have bl := cutL_len L 0
    refine ⟨t, [.ref z2, .ref O], rfl, SqT.of t4, rfl, _, _, rfl, _, _, rfl, rfl, ?_⟩
    have pa4 := pa.same s4
    obtain ⟨us, a4, pr⟩ := pa4
    have nOA : O ≠ A := fun e => by
      obtain ⟨us3, a3, _⟩ := pa
      rw [e, a3] at hO
      cases hO
    show tSeq (t_trOfs K C) (t_trEnd K) _ [some (.ref x), some (.ref A), some (.ref z2), some (.int k), some (.ref O), w5, none] H4
    refine tr_ofs (K := K) (C := C) r4 (by omega) o4 cu.2.2 fun y5 H5 k5 o5 => ?_
    have pa5 : PairsL H5 A acc := by
      refine ⟨us, k5 _ _ (Ne.symm nOA) a4, paired_imp (fun b w z => k5 _ _ (fun e => ?_) z) pr⟩
      rw [e] at z
      cases (z : H4 O = _).symm.trans o4
    have al : acc.length ≤ 40 := by
      have := congrArg List.length eq
      rw [List.length_append] at this
      omega
    refine tr_end (K := K) (Ne.symm nOA) pa5 o5 (by omega) ?_ fun H6 k6 p6 => ?_
    · have := (less_sub (rends (cutL L 0).1) (cutL L 0).2).length_le
      omega
    · have r5 : RowAt K C H5 z2 (ones (cutL L 0).1) [] := r4.lst o4 k5
      obtain ⟨us5, a5, _⟩ := pa5
      have r6 : RowAt K C H6 z2 (ones (cutL L 0).1) [] := r5.lst a5 k6
      refine ⟨_, lt, (cutL L 0).1, k + 1, z2, _, _, _, rfl, rfl, fun b o hb h => ?_, r6, cu.1, by omega, p6, ?_⟩
      · have h3 := k3 _ _ hb h
        have h4 := s4 _ _ h3
        exact k6 _ _ hb (k5 _ _ (fun e => by rw [e, hO] at h3; cases h3) h4)
      · rw [List.append_assoc, ← eq]
        congr 1
        show (ofs L).map (fun b => (k, b)) ++ tr 40 (k + 1) (cutL L 0).1 = (if L = [] then [] else (ofs L).map (fun b => (k, b)) ++ tr 39 (k + 1) (cutL L 0).1)
        rw [if_neg ne, tr_fuel 40 39 (k + 1) (cutL L 0).1 (by omega) (by omega)]
def spLengths (K : PySem.W.Frag) (C : Addr) : Sp := fun vs H Q _ => ∃ (x : Addr) (ks : List (Int × Int)) (p : Rws ks), vs = [.ref x] ∧ RowAt K C H x p.1 ks ∧ ∀ D H' M, H D = none → Same H H' → H' D = some (.lst (M.map V.int)) → M.Perm ((trP p).map Prod.fst) → OrdB true M → Q (.ref D) H'
def t_lengths (K : PySem.W.Frag) (c_Row : Addr) : TS := tRet (tCKw (rSortedKw K true [.bl true]) (tCons (tLc (iList K (tCall (spTrains K c_Row) [] E0 (tCons (tVar 0) (tNil)))) (gTup K 2 (gCons (gName 1) (gCons (gName 2) (gNil)))) (tYes) (tVar 1) [1, 2]) (tNil)) (tCons (tC (.bl true)) tNil))
theorem trP_len {ks : List (Int × Int)} (p : Rws ks) : (trP p).length ≤ 40 := Nat.le_trans (tr_many_le (plL_asc p)) (plL_40 p)
theorem pure_lengths {K : PySem.W.Frag} {C : Addr} (vs : List V) (H : Hp) (Q : VK) (E : XK) (h : spLengths K C vs H Q E) : t_lengths K C { nx := fun _ H' => Q .non H', rt := Q } (start ["row", "length", "_"] vs) H := by
  obtain ⟨x, ks, p, rfl, row, q⟩ := h
  have tl := trP_len p
  refine ret_go (ckw_go (cons1_go (lcV_c (Cc := fun A H1 => Same H H1 ∧ PairsL H1 A (trP p)) (ys := trP p) (fun _ => true) (fun t : Int × Int => .int t.1) (fun R r => ⟨_, rfl, x, ks, p, rfl, row, fun A H1 hA s1 pa => r A H1 ⟨s1, pa⟩⟩) (fun A H1 z => ?_) (by omega))))
  obtain ⟨s1, us, a1, pr⟩ := z
  refine ⟨_, GT, SqL.of a1, pairs_rel pr, by rw [List.length_map, paired_len pr], fun _ _ _ s z => z.same s, ?_, fun D H2 hD s2 d2 => ?_⟩
  · rintro v t H' Rt Rf s' ⟨u, rfl, hat⟩ m rt rf
    exact ⟨u, _, rfl, SqT.of hat, rfl, _, _, rfl, _, _, rfl, rfl, rfl, yes_if ⟨_, rfl, rt rfl _ (fun _ _ h => h)⟩⟩
  · rw [all_true] at d2
    have s12 := s1.trans s2
    refine ⟨D, (trP p).map Prod.fst, rfl, rfl, ?_, fun M r pm od hr => ?_⟩
    · rw [List.map_map]
      exact SqL.of d2
    · exact q r _ M (none_back s12 hr) (s12.trans (same_new hr)) upd_same pm od
end SR
set_option Elab.async false
set_option linter.all false
set_option maxRecDepth 100000
set_option maxHeartbeats 2000000
namespace SR
open PySem PySem.Spec PyProof.Rows L2
section
variable {K : PySem.W.Frag} {σ : L2.St} {H : Hp} {Q : VK} {D : Ends}
theorem seq_go {a b : TS} (h : a { D with nx := b D } σ H) : tSeq a b D σ H := h
theorem ifs_go {tc : TT} {a b : TS} (h : tc σ H fun c H1 => if c = true then a D σ H1 else b D σ H1) : tIfS tc a b D σ H := h
theorem not_go {tt : TT} {R : Bool → Hp → Prop} (h : tt σ H fun c H1 => R (!c) H1) : tNot tt σ H R := h
theorem tb_go {te : TE} {R : Bool → Hp → Prop} (h : te σ H fun x H1 => ∃ c, x = .bl c ∧ R c H1) : tB te σ H R := h
theorem op_go {r : R2} {ta tb : TE} (h : ta σ H fun x H1 => tb σ H1 fun y H2 => r x y H2 Q) : tOp r ta tb σ H Q := h
theorem c_go {v : V} (h : Q v H) : tC v σ H Q := h
theorem asg_go {te : TE} {g : TG} (h : te σ H fun x H1 => g x σ H1 D.nx) : tAsg te g D σ H := h
theorem make_go {C : Addr} {sp : Sp} {dvs : List V} {E : XK} {t : TA} (h : t σ H fun vs H1 => ∀ x dx, H1 x = none → H1 dx = none → dx ≠ x → sp (.ref x :: (vs ++ dvs)) (upd (upd H1 dx (.own x)) x (.ins C dx [])) (fun v H2 => v = .non ∧ Q (.ref x) H2) E) : tMake C sp dvs E t σ H Q := h
end
def spAreTrains (K : PySem.W.Frag) : Sp := fun vs H Q _ => ∃ (a : Addr) (ts : List (Int × Int)), vs = [.ref a] ∧ PairsAt K H a ts ∧ ts.length ≤ 1000 ∧ (∀ t ∈ ts, 1 ≤ t.1) ∧ (ts.map Prod.fst).sum ≤ 40 ∧ ∀ H', Same H H' → Q (.bl true) H'
def t_are_trains (K : PySem.W.Frag) : TS := tSeq (tIfS (tNot (tB (tCB (rIsiT K) (tCons (tVar 0) (tCons (tTup (tCons (tC (.ty "list")) (tCons (tC (.ty "tuple")) (tNil)))) tNil)))))
  (tRet (tC (.bl false)))
  (tNext))
  (tSeq (tIfS (tNot (tB (tCB (rAll K) (tCons (tLc ((fun σ H R => iList K (tVar 0) σ H R ∨ iTup K (tVar 0) σ H R)) (gName 1) (tYes) (tCall (spIsPair K) [] E0 (tCons (tVar 1) (tNil))) [1]) (tNil)))))
  (tRet (tC (.bl false)))
  (tNext))
  (tSeq (tIfS (tNot (tB (tCB (rAll K) (tCons (tLc ((fun σ H R => iList K (tVar 0) σ H R ∨ iTup K (tVar 0) σ H R)) (gTup K 2 (gCons (gName 2) (gCons (gName 3) (gNil)))) (tYes) (tOp qGe (tVar 2) (tC (.int 1))) [2, 3]) (tNil)))))
  (tRet (tC (.bl false)))
  (tNext))
  (tRet (tOp qLe (tCB (rSum K) (tCons (tLc ((fun σ H R => iList K (tVar 0) σ H R ∨ iTup K (tVar 0) σ H R)) (gTup K 2 (gCons (gName 2) (gCons (gName 3) (gNil)))) (tYes) (tVar 2) [2, 3]) (tNil))) (tC (.int 40))))))
theorem PairsAt.rel {K : PySem.W.Frag} {H : Hp} {a : Addr} {ps : List (Int × Int)} (h : PairsAt K H a ps) : ∃ xs : List V, (SqL K H a xs ∨ SqT K H a xs) ∧ (∀ (i : Nat) (x : V), xs[i]? = some x → ∃ p, ps[i]? = some p ∧ GT H x p) ∧ xs.length = ps.length := by
  obtain ⟨ts, h1, h2⟩ := h
  exact ⟨_, h1.imp id BareW.sq, pairs_rel h2, by rw [List.length_map, paired_len h2]⟩
theorem all_map {α : Type} (l : List α) (f : α → Bool) (h : ∀ x ∈ l, f x = true) : (l.map f).all id = true := by
  rw [List.all_map]
  exact List.all_eq_true.mpr h
theorem pure_are_trains {K : PySem.W.Frag} (vs : List V) (H : Hp) (Q : VK) (E : XK) (h : spAreTrains K vs H Q E) : t_are_trains K { nx := fun _ H' => Q .non H', rt := Q } (start ["value", "part", "length", "_"] vs) H := by
  obtain ⟨a, ts, rfl, hp, hl, one, sum, q⟩ := h
  refine seq_go ⟨_, rfl, sz (by show 2 ≤ 1000; decide), fun T hT => ?_⟩
  have s1 := same_new (o := .tup [.ty "list", .ty "tuple"]) hT
  have p1 := hp.same s1
  obtain ⟨ty, any, hty⟩ := p1.ty
  refine ⟨_, T, _, _, [.type "list", .type "tuple"], true, rfl, upd_same, .cons (.ty _) (.cons (.ty _) .nil), any.ty, kit_seq any hty, _, rfl, iteF ?_⟩
  generalize upd H T (.tup [.ty "list", .ty "tuple"]) = H1 at s1 p1 ⊢
  obtain ⟨xs, sq, rel, len⟩ := p1.rel
  refine seq_go (ifs_go (not_go (tb_go (cb_go (cons1_go (lcO (G := GT) (ys := ts) (fun _ => true) (fun _ => V.bl true) (fun R r => ⟨_, rfl, r⟩) sq rel len (by omega) (fun _ _ _ s z => z.same s) ?_ fun D H2 hD s2 d2 => ?_))))))
  · rintro v t H' Rt Rf s' ⟨u, rfl, hat⟩ m rt rf
    exact ⟨rfl, yes_if ⟨_, rfl, _, _, rfl, val2_tup hat, rt rfl _ (fun _ _ h => h)⟩⟩
  rw [all_true] at d2
  refine ⟨D, ts.map fun _ => true, rfl, by rw [List.map_map]; exact SqL.of d2, _, rfl, ?_⟩
  rw [all_map _ _ (fun _ _ => rfl)]
  refine iteF ?_
  have p2 := p1.same s2
  obtain ⟨xs2, sq2, rel2, len2⟩ := p2.rel
  refine seq_go (ifs_go (not_go (tb_go (cb_go (cons1_go (lcO (G := GT) (ys := ts) (fun _ => true) (fun t => V.bl (decide (t.1 ≥ 1))) (fun R r => ⟨_, rfl, r⟩) sq2 rel2 len2 (by omega) (fun _ _ _ s z => z.same s) ?_ fun D3 H3 hD3 s3 d3 => ?_))))))
  · rintro v t H' Rt Rf s' ⟨u, rfl, hat⟩ m rt rf
    exact ⟨u, _, rfl, SqT.of hat, rfl, _, _, rfl, _, _, rfl, rfl, rfl, yes_if ⟨_, rfl, _, _, rfl, rfl, rt rfl _ (fun _ _ h => h)⟩⟩
  rw [all_true] at d3
  refine ⟨D3, ts.map fun t => decide (t.1 ≥ 1), rfl, by rw [List.map_map]; exact SqL.of d3, _, rfl, ?_⟩
  rw [all_map _ _ (fun t m => decide_eq_true (one t m))]
  refine iteF ?_
  have p3 := p2.same s3
  obtain ⟨xs3, sq3, rel3, len3⟩ := p3.rel
  refine ret_go (op_go (cb_go (cons1_go (lcO (G := GT) (ys := ts) (fun _ => true) (fun t => V.int t.1) (fun R r => ⟨_, rfl, r⟩) sq3 rel3 len3 (by omega) (fun _ _ _ s z => z.same s) ?_ fun D4 H4 hD4 s4 d4 => ?_))))
  · rintro v t H' Rt Rf s' ⟨u, rfl, hat⟩ m rt rf
    exact ⟨u, _, rfl, SqT.of hat, rfl, _, _, rfl, _, _, rfl, rfl, rfl, yes_if ⟨_, rfl, rt rfl _ (fun _ _ h => h)⟩⟩
  rw [all_true] at d4
  refine ⟨D4, ts.map Prod.fst, rfl, by rw [List.map_map]; exact SqL.of d4, _, _, rfl, rfl, ?_⟩
  show Q (.bl (decide ((ts.map Prod.fst).sum ≤ 40))) H4
  rw [decide_eq_true sum]
  exact q H4 (s1.trans (s2.trans (s3.trans s4)))
theorem en_snoc (B : List Int) (b : Int) : ∀ g : Int, en g (B ++ [b]) = en g B ++ [b + 2 * (g + B.length)] := by
  induction B with
  | nil =>
    intro g
    show [b + 2 * g] = [b + 2 * (g + ((0 : Nat) : Int))]
    rw [show g + ((0 : Nat) : Int) = g by omega]
  | cons y B ih =>
    intro g
    show (y + 2 * g) :: en (g + 1) (B ++ [b]) = (y + 2 * g) :: (en (g + 1) B ++ [b + 2 * (g + ((B.length + 1 : Nat) : Int))])
    rw [ih, show g + 1 + (B.length : Int) = g + ((B.length + 1 : Nat) : Int) by omega]
theorem en_len (B : List Int) : ∀ g : Int, (en g B).length = B.length := by
  induction B with
  | nil => exact fun _ => rfl
  | cons y B ih => exact fun g => congrArg (· + 1) (ih (g + 1))
def t_ucM (K : PySem.W.Frag) (C : Addr) : TE := (tLc (iTup K (tProp C (spContents K C) [] E0 (tVar 0))) (gTup K 2 (gCons (gName 6) (gCons (gName 7) (gNil)))) (tYes) (tTup (tCons (tOp qAdd (tVar 6) (tOp qMul (tC (.int 2)) (tCB (qLen K) (tCons (tLc (iList K (tVar 1)) (gName 5) (tTest (tOp qLe (tVar 5) (tVar 6))) (tVar 5) [5]) (tNil))))) (tCons (tC (.int 1)) (tNil)))) [6, 7])
def t_ucA (K : PySem.W.Frag) : TE := (tLc (iEnum K (tCons (tCB (rSortedI K) (tCons (tVar 1) (tNil))) (tNil))) (gTup K 2 (gCons (gName 4) (gCons (gName 5) (gNil)))) (tYes) (tTup (tCons (tOp qAdd (tVar 5) (tOp qMul (tC (.int 2)) (tVar 4))) (tCons (tC (.int 1)) (tNil)))) [4, 5])
def t_uncut (K : PySem.W.Frag) (a0 : Addr) (c_Row : Addr) : TS := tSeq (tAsg (t_ucA K) (gName 2))
  (tSeq (tAsg (t_ucM K c_Row) (gName 3))
  (tRet (tMake c_Row (spRowInit K c_Row) [.ref a0] E0 (tCons (tOp rCat (tVar 3) (tVar 2)) (tNil)))))
/-- [(offset + 2 * before, 1) for before, offset in enumerate(sorted(offsets))] -/
theorem uc_added {K : PySem.W.Frag} {H0 : Hp} {O : Addr} {M B : List Int} {Q : VK} {y0 y2 y3 : Option V} (hO : H0 O = some (.lst (M.map V.int))) (pm : M.Perm B) (up : B.Pairwise (· ≤ ·)) (hl : B.length ≤ 1000)
    (q : ∀ D H', H0 D = none → Same H0 H' → PairsL H' D (ones (en 0 B)) → Q (.ref D) H') : t_ucA K [y0, some (.ref O), y2, y3, none, none, none, none] H0 Q := by
  refine ⟨_, rfl, O, M, rfl, SqL.of hO, fun ns a pn un ha => ?_⟩
  have eB : ns = B := up_eq un up fun y => (pn.trans pm).count_eq y
  subst eB
  have s0 := same_new (o := .lst (ns.map V.int)) ha
  have N0 : upd H0 a (.lst (ns.map V.int)) a = some (.lst (ns.map V.int)) := upd_same
  generalize upd H0 a (.lst (ns.map V.int)) = H at s0 N0 ⊢
  refine ⟨a, _, rfl, SqL.of N0, fun D hD => ?_⟩
  have hs : SqL K H a (ns.map V.int) := SqL.of N0
  refine lc_it (walk_enum (K := K) (a := a) (xs := ns.map V.int)) (fun i H1 => Same H H1 ∧ PairsL H1 D (ones (en 0 (ns.take i)))) ⟨same_new hD, [], upd_same, .nil⟩ (fun i H1 _ h => SqL.same h.1 hs) ?_ ?_
  · rintro i x H1 H2 hi ⟨s1, us, d1, pr⟩ ⟨T, v1, v2, rfl, hT, rfl, e1, e2⟩
    cases e1
    obtain ⟨b, hb, rfl⟩ := ints_rel i v2 e2
    have s2 := same_new (o := .tup [.int (i : Nat), .int b]) hT
    have T2 : upd H1 T (.tup [.int (i : Nat), .int b]) T = some (.tup [.int (i : Nat), .int b]) := upd_same
    generalize upd H1 T (.tup [.int (i : Nat), .int b]) = H2 at s2 T2 ⊢
    refine ⟨T, _, rfl, SqT.of T2, rfl, _, _, rfl, _, _, rfl, rfl, rfl, yes_if ⟨_, rfl, _, rfl, _, _, rfl, rfl, .inl ⟨by decide, by decide⟩, _, _, rfl, rfl, sz (by show 2 ≤ 1000; decide), fun n hn => ?_⟩⟩
    show ∃ acc, (upd H2 n (.tup [.int (b + 2 * (i : Int)), .int 1])) D = some (.lst acc) ∧ acc.length < sizeLine ∧ _
    have s3 := same_new (o := .tup [.int (b + 2 * (i : Int)), .int 1]) hn
    have T3 : TupAt (upd H2 n (.tup [.int (b + 2 * (i : Int)), .int 1])) n (b + 2 * (i : Int), 1) := upd_same
    generalize upd H2 n (.tup [.int (b + 2 * (i : Int)), .int 1]) = H3 at s3 T3 ⊢
    have s23 := s2.trans s3
    have d3 := s23 _ _ d1
    have keep : ∀ {c : Addr} {z : Int × Int}, TupAt H3 c z → TupAt (upd H3 D (.lst (us.map V.ref ++ [.ref n]))) c z := fun {c z} w => (upd_ne (ne_of w d3 (by intro e; cases e))).trans w
    have il : i < ns.length := (List.getElem?_eq_some_iff.mp hb).1
    have tl : (ns.take i).length = i := by rw [List.length_take]; omega
    have ul : us.length = i := by rw [paired_len pr, ones_len, en_len, tl]
    refine ⟨_, d3, ?_, same_upd (s1.trans s23) hD, us ++ [n], ?_, ?_⟩
    · rw [List.length_map, ul]
      exact Nat.lt_of_lt_of_le (Nat.lt_of_lt_of_le il hl) (by decide)
    · rw [upd_same, List.map_append]
      rfl
    · rw [List.take_succ, hb]
      show Paired _ _ (ones (en 0 (ns.take i ++ [b])))
      rw [en_snoc, tl, Int.zero_add]
      rw [show ∀ A C : List Int, ones (A ++ C) = ones A ++ ones C from fun A C => List.map_append]
      exact paired_snoc (keep T3) (paired_imp (fun _ _ z => keep (s23 _ _ z)) pr)
  · rintro H1 ⟨s1, d1⟩
    rw [List.length_map, List.take_length] at d1
    exact q D H1 (none_back s0 hD) (s0.trans s1) d1
def spUncut (K : PySem.W.Frag) (C : Addr) : Sp := fun vs H Q _ => ∃ (x O : Addr) (X M B L : List Int), vs = [.ref x, .ref O] ∧ RowAt K C H x (ones X) [] ∧ H O = some (.lst (M.map V.int)) ∧ M.Perm B ∧ B.Pairwise (· ≤ ·) ∧ (X.map (fun i => i + 2 * nLe B i) ++ en 0 B).Perm L ∧ L.Pairwise (· < ·) ∧ L.length ≤ 40 ∧
  ∀ y H', H y = none → Same H H' → RowAt K C H' y (ones L) [] → Q (.ref y) H'
theorem uc_moved {K : PySem.W.Frag} {C : Addr} {H : Hp} {x O : Addr} {X M : List Int} {y2 y3 : Option V} {Q : VK} (row : RowAt K C H x (ones X) []) (hO : H O = some (.lst (M.map V.int))) (xl : X.length ≤ 1000) (ml : M.length ≤ 1000)
    (q : ∀ D H', H D = none → Same H H' → PairsL H' D (ones (X.map fun i => i + 2 * nLe M i)) → Q (.ref D) H') :
    t_ucM K C [some (.ref x), some (.ref O), y2, y3, none, none, none, none] H Q := by
  obtain ⟨dx, fs, hx⟩ := row.at
  refine lcTt_c (Cc := fun c H1 => H1 = H ∧ PairsT H c (ones X)) (ys := ones X) (fun _ => true) (fun p : Int × Int => (p.1 + 2 * nLe M p.1, 1)) (fun R r => ⟨_, rfl, x, dx, fs, rfl, hx, x, ones X, [], rfl, row, fun c hc => r c H ⟨rfl, hc⟩⟩) (fun c H1 z => ?_) (by rw [ones_len]; omega)
  obtain ⟨rfl, ts, bc, pr⟩ := z
  refine ⟨_, GT, bc.sq, pairs_rel pr, by rw [List.length_map, paired_len pr], fun _ _ _ s z => z.same s, ?_, fun D H2 hD s2 d2 => ?_⟩
  · rintro v p H' Rt Rf s' ⟨u, rfl, hat⟩ m rt rf
    refine ⟨u, _, rfl, SqT.of hat, rfl, _, _, rfl, _, _, rfl, rfl, rfl, yes_if ⟨_, rfl, ?_⟩⟩
    refine op_go (c_go (cb_go (cons1_go (lcV (G := GI) (ys := M) (fun b : Int => decide (b ≤ p.1)) V.int (fun R r => ⟨_, rfl, r⟩) (SqL.of (s' _ _ hO)) ints_rel (by rw [List.length_map]) (by omega) (fun _ _ _ _ z => z) ?_ fun D2 H2 hD2 s2 d2 => ?_))))
    · rintro v b H2 Rt2 Rf2 s2 rfl m2 rt2 rf2
      refine ⟨rfl, _, rfl, _, rfl, _, _, rfl, rfl, _, rfl, ?_⟩
      by_cases e : b ≤ p.1
      · rw [decide_eq_true e]
        exact iteT ⟨_, rfl, rt2 (decide_eq_true e) _ (fun _ _ h => h)⟩
      · rw [decide_eq_false e]
        exact iteF (rf2 (decide_eq_false e) _ (fun _ _ h => h))
    · refine ⟨D2, _, rfl, .inl (SqL.of d2), _, _, rfl, rfl, .inl ⟨by decide, by decide⟩, _, _, rfl, rfl, sz (by show 2 ≤ 1000; decide), fun n hn => ?_⟩
      have e : p.1 + 2 * (((M.filter fun b => decide (b ≤ p.1)).map V.int).length : Int) = p.1 + 2 * nLe M p.1 := by
        rw [List.length_map]
        rfl
      show Rt (V.ref n) (upd H2 n (.tup [.int (p.1 + 2 * (((M.filter fun b => decide (b ≤ p.1)).map V.int).length : Int)), .int 1]))
      rw [e]
      exact rt rfl n H2 s2 hn
  · rw [all_true] at d2
    refine q D H2 hD s2 ?_
    have e : (ones X).map (fun p : Int × Int => (p.1 + 2 * nLe M p.1, (1 : Int))) = ones (X.map fun i => i + 2 * nLe M i) := by
      unfold ones
      rw [List.map_map, List.map_map]
      rfl
    rw [← e]
    exact d2
theorem pure_uncut {K : PySem.W.Frag} {C a0 : Addr} (hE : BareK K a0 []) (vs : List V) (H : Hp) (Q : VK) (E : XK) (h : spUncut K C vs H Q E) : t_uncut K a0 C { nx := fun _ H' => Q .non H', rt := Q } (start ["row", "offsets", "added", "moved", "before", "offset", "index", "_"] vs) H := by
  obtain ⟨x, O, X, M, B, L, rfl, row, hO, pm, up, pl, asc, len, q⟩ := h
  have ll := pl.length_eq
  rw [List.length_append, List.length_map, en_len] at ll
  have ml := pm.length_eq
  refine seq_go (asg_go (uc_added (K := K) hO pm up (by omega) fun D H2 hD s02 d2 => ?_))
  show tSeq (tAsg (t_ucM K C) (gName 3)) _ _ [some (.ref x), some (.ref O), some (.ref D), none, none, none, none, none] H2
  refine seq_go (asg_go (uc_moved (row.same s02) (s02 _ _ hO) (by omega) (by omega) fun D2 H3 hD2 s3 d3 => ?_))
  have eM : (X.map fun i => i + 2 * nLe M i) = X.map fun i => i + 2 * nLe B i := map_same fun i _ => by rw [nLe_perm pm]
  rw [eM] at d3
  obtain ⟨us, a3, pr3⟩ := d3
  obtain ⟨ws, a2, pr2⟩ := d2
  have w3 := s3 _ _ a2
  have ul := paired_len pr3
  have wl := paired_len pr2
  rw [ones_len, List.length_map] at ul
  rw [ones_len, en_len] at wl
  show tRet (tMake C (spRowInit K C) [.ref a0] E0 (tCons (tOp rCat (tVar 3) (tVar 2)) tNil)) _ [some (.ref x), some (.ref O), some (.ref D), some (.ref D2), none, none, none, none] H3
  refine ret_go (make_go (cons1_go (op_go ?_)))
  refine ⟨_, rfl, _, rfl, D2, D, _, _, rfl, rfl, a3, w3, ?_, fun p hp => ?_⟩
  · rw [List.length_map, List.length_map, ul, wl]
    exact Nat.le_trans (show X.length + B.length ≤ 1000 by omega) (by decide)
  have s4 := same_new (o := .lst (us.map V.ref ++ ws.map V.ref)) hp
  have P4 : upd H3 p (.lst (us.map V.ref ++ ws.map V.ref)) p = some (.lst ((us ++ ws).map V.ref)) := by rw [upd_same, List.map_append]
  generalize upd H3 p (.lst (us.map V.ref ++ ws.map V.ref)) = H4 at s4 P4 ⊢
  have pr4 : Paired (TupAt H4) (us ++ ws) (ones (X.map (fun i => i + 2 * nLe B i)) ++ ones (en 0 B)) := paired_append (paired_imp (fun _ _ z => s4 _ _ z) pr3) (paired_imp (fun _ _ z => s4 _ _ (s3 _ _ z)) pr2)
  have hp4 : PairsAt K H4 p (ones (X.map (fun i => i + 2 * nLe B i)) ++ ones (en 0 B)) := ⟨us ++ ws, .inl (SqL.of P4), pr4⟩
  have hk : PairsAt K H4 a0 [] := ⟨[], .inr (.inr hE), .nil⟩
  have pmL : (ones (X.map (fun i => i + 2 * nLe B i)) ++ ones (en 0 B)).Perm (ones L) := by
    have := pl.map (fun y : Int => (y, (1 : Int)))
    rw [List.map_append] at this
    exact this
  have okL : RowOk (ones (X.map (fun i => i + 2 * nLe B i)) ++ ones (en 0 B)) [] := (ones_ok asc len).perm pmL (.refl _)
  refine make_row hp4 hk okL fun y H5 qs ls hy s5 row5 p1 p2 a1 a2 => ?_
  have e1 : qs = ones L := asc_eq a1 (ones_asc asc) (p1.trans pmL)
  have e2 : ls = [] := List.Perm.eq_nil p2
  subst e1 e2
  have s04 := (s02.trans s3).trans s4
  exact q y H5 (none_back s04 hy) (s04.trans s5) row5
end SR
set_option Elab.async false
set_option linter.all false
set_option maxRecDepth 100000
set_option maxHeartbeats 2000000
namespace SR
open PySem PySem.Spec PyProof.Rows L2
theorem pe_mk0 {X : Cx} {x : Str} {C : Addr} {sp : Sp} {dvs : List V} {j k : Nat} {p pos : Pos} (c : C8.Mak X.prog X.w X.K X.mg X.base k x C sp dvs) (hr : Room j X.A) (hk : k + 1 ≤ j) (hg : Gl X x) (hdb : (x == ("__debug__" : Str)) = false := by decide) : PE X (.Call (.Name x p) [] [] pos) (tMake C sp dvs E0 tNil) := by
  obtain ⟨f, fd, ps, ds, M, F, hm, b, d⟩ := c.ex
  exact pe_make0 M F (hr.mono hk) hg hm b d pass0 hdb
/-- a def with defaults, called with all its arguments -/
theorem bindsFull {K : PySem.W.Frag} {x qual : Str} {params : Arguments} {body : List Stmt} {scope : Scope} {dvs : List V} {kws : List (Str × V)} {f : Addr} {fd : FuncData} {ps : List Str} (F : FunD K x qual params body scope dvs kws f fd) (hd : dvs ≠ [])
    (h : ∀ (T : Addr) (kV doc pm : Value) (an : Option Addr) (cdv ct : Value) (us its : List Value), us.length = ps.length → its.length = dvs.length →
      ∃ k, bindArgs (PySem.W.fnOf x qual params body scope (.ref T) kV doc pm an cdv ct) ⟨us, []⟩ = seqItems? (.ref T) >>= k ∧ k (some its.toArray) = pure (ps.zip (us ++ its.drop dvs.length))) : Binds K fd ps [] := by
  obtain ⟨ds, v, b⟩ := FunD.binds1 F ps.length dvs.length hd (by omega) h
  rw [List.drop_length] at v
  cases v
  exact b
theorem nil0_go {σ : L2.St} {H : Hp} {R : List V → Hp → Prop} (h : R [] H) : tNil σ H R := h
theorem le_sum : ∀ {l : List Int}, (∀ y ∈ l, 0 ≤ y) → ∀ m ∈ l, m ≤ l.sum
  | [], _, _, h => nomatch h
  | y :: l, p, m, h => by
    have hs : 0 ≤ l.sum := by
      have : ∀ {l : List Int}, (∀ y ∈ l, 0 ≤ y) → 0 ≤ l.sum := by
        intro l
        induction l with
        | nil => exact fun _ => Int.le_refl _
        | cons z l ih =>
          intro q
          have a := q z List.mem_cons_self
          have b := ih fun y m => q y (List.mem_cons_of_mem _ m)
          rw [List.sum_cons]
          omega
      exact this fun y m => p y (List.mem_cons_of_mem _ m)
    rw [List.sum_cons]
    rcases List.mem_cons.mp h with rfl | h
    · omega
    · have a := p y List.mem_cons_self
      have b := le_sum (fun y m => p y (List.mem_cons_of_mem _ m)) m h
      omega
theorem trL_le {L : List Int} (a : L.Pairwise (· < ·)) : ∀ t ∈ trL L, t.1 ≤ L.length := fun t m => by
  rw [← trL_sum a]
  refine le_sum (fun y my => ?_) t.1 (List.mem_map.mpr ⟨t, m, rfl⟩)
  obtain ⟨s, ms, rfl⟩ := List.mem_map.mp my
  have := trL_one s ms
  omega
theorem bg_perm {ts us : List (Int × Int)} (h : ts.Perm us) (j : Int) : (bg ts j).Perm (bg us j) := (h.filter _).map _
/-- what a row of trains is put together of, one length after another -/
theorem level_ok {L : List Int} {ts : List (Int × Int)} (a : L.Pairwise (· < ·)) (pm : ts.Perm (trL L)) (j : Nat) :
    (rends (cuts (j + 1) L) ++ bg ts ((j : Int) + 1)).Perm (cutL (cuts j L) 0).2 ∧ ((cuts (j + 1) L).map (fun i => i + 2 * nLe (cutL (cuts j L) 0).2 i) ++ en 0 (cutL (cuts j L) 0).2).Perm (cuts j L) := by
  have aj := cuts_asc j a
  refine ⟨?_, ?_⟩
  · have h1 := bg_perm pm ((j : Int) + 1)
    rw [trL_bg] at h1
    rw [cuts_succ]
    exact (h1.append_left _).trans (ofs_perm aj)
  · rw [cuts_succ]
    exact uncut_ok aj
def spRowOf (K : PySem.W.Frag) (C T B : Addr) : Sp := fun vs H Q E => ∃ (a : Addr) (v : V) (ts : List (Int × Int)) (L : List Int), vs = [.ref a, v] ∧ PairsAt K H a ts ∧ L.Pairwise (· < ·) ∧ L.length ≤ 40 ∧ ts.Perm (trL L) ∧
  ((OddC K H v ∧ ∀ d H', Same H H' → H' d = none → E (.ref B) (some d) (upd H' d (.xd [("field", .str "capacities")]))) ∨
   ∃ ls rs, CapsAt K H v ls ∧ ls.Perm rs ∧ KsOk rs ∧ ∀ y H', H y = none → Same H H' → RowAt K C H' y (withF rs (ones L)) rs → Q (.ref y) H')
def t_roBegun (K : PySem.W.Frag) : TE := (tLc ((fun σ H R => iList K (tVar 0) σ H R ∨ iTup K (tVar 0) σ H R)) (gTup K 2 (gCons (gName 5) (gCons (gName 6) (gNil)))) (tTest (tOp rEq (tVar 5) (tVar 3))) (tVar 6) [5, 6])
def t_roBody (K : PySem.W.Frag) (C : Addr) : TS := (tSeq (tAsg (t_roBegun K) (gName 4))
  (tAsg (tCall (spUncut K C) [] E0 (tCons (tVar 2) (tCons (tOp rCat (tCall (spBehind K C) [] E0 (tCons (tVar 2) (tNil))) (tVar 4)) (tNil)))) (gName 2)))
def t_roMax (K : PySem.W.Frag) : TE := (tCKw (rMaxDf K) (tCons (tLc ((fun σ H R => iList K (tVar 0) σ H R ∨ iTup K (tVar 0) σ H R)) (gTup K 2 (gCons (gName 5) (gCons (gName 7) (gNil)))) (tYes) (tVar 5) [5, 7]) (tNil)) (tCons (tC (.int 0)) tNil))
def t_roLoop (K : PySem.W.Frag) (C B : Addr) (E : XK) : TS := (tSeq (tFor (iRng3 (tCons (t_roMax K) (tCons (tC (.int 0)) (tCons (tUn (rU fun i => .int (-i)) (tC (.int 1))) (tNil))))) (gName 3)
  (t_roBody K C))
  (tRet (tCall (spWithCap K C B) [] E (tCons (tVar 2) (tCons (tVar 1) (tNil))))))
def t_row_of (K : PySem.W.Frag) (a00 a0 : Addr) (c_BadRow : Addr) (c_BadTrains : Addr) (c_Row : Addr) (E : XK) : TS := tSeq (tIfS (tNot (tB (tCall (spAreTrains K) [] E0 (tCons (tVar 0) (tNil)))))
  (tOut (.ref c_BadTrains) E)
  (tNext))
  (tSeq (tAsg (tMake c_Row (spRowInit K c_Row) [.ref a00, .ref a0] E0 (tNil)) (gName 2))
  (t_roLoop K c_Row c_BadRow E))
section
variable {K : PySem.W.Frag} {C B : Addr} {N N2 N3 : L2.St → Hp → Prop} {R : VK}
theorem ro_begun {H : Hp} {a : Addr} {ts : List (Int × Int)} {l : Int} {Q : VK} {y1 y2 y4 : Option V} (hp : PairsAt K H a ts) (tl : ts.length ≤ 1000) (q : ∀ D H', H D = none → Same H H' → H' D = some (.lst ((bg ts l).map V.int)) → Q (.ref D) H') :
    t_roBegun K [some (.ref a), y1, y2, some (.int l), y4, none, none, none] H Q := by
  obtain ⟨xs, sq, rel, len⟩ := hp.rel
  refine lcO (G := GT) (ys := ts) (fun t => decide (t.1 = l)) (fun t => V.int t.2) (fun R r => ⟨_, rfl, r⟩) sq rel len (by omega) (fun _ _ _ s z => z.same s) ?_ fun D H2 hD s2 d2 => ?_
  · rintro v t H' Rt Rf s' ⟨u, rfl, hat⟩ m rt rf
    refine ⟨u, _, rfl, SqT.of hat, rfl, _, _, rfl, _, _, rfl, rfl, rfl, _, rfl, _, rfl, rfl, _, rfl, ?_⟩
    by_cases e : t.1 = l
    · rw [decide_eq_true (show V.int t.1 = V.int l by rw [e])]
      exact iteT ⟨_, rfl, rt (decide_eq_true e) _ (fun _ _ h => h)⟩
    · rw [decide_eq_false (show ¬V.int t.1 = V.int l from fun z => e (V.int.inj z))]
      exact iteF (rf (decide_eq_false e) _ (fun _ _ h => h))
  · refine q D H2 hD s2 ?_
    rw [d2]
    unfold bg
    rw [List.map_map]
    rfl
theorem ro_body {H : Hp} {a x : Addr} {v : V} {ts : List (Int × Int)} {L : List Int} {j : Nat} {y4 : Option V} (hp : PairsAt K H a ts) (asc : L.Pairwise (· < ·)) (len : L.length ≤ 40) (pm : ts.Perm (trL L)) (row : RowAt K C H x (ones (cuts (j + 1) L)) [])
    (hN : ∀ y4 y H', Same H H' → RowAt K C H' y (ones (cuts j L)) [] → N [some (.ref a), some v, some (.ref y), some (.int ((j : Int) + 1)), y4, none, none, none] H') :
    t_roBody K C { nx := N, rt := R, bk := N2, ct := N3 } [some (.ref a), some v, some (.ref x), some (.int ((j : Int) + 1)), y4, none, none, none] H := by
  have tl : ts.length ≤ 40 := by
    have := tr_many_le asc
    rw [pm.length_eq]
    omega
  have lv := level_ok asc pm j
  have cl := cuts_len (j + 1) L
  have cl2 := cuts_len j L
  refine seq_go (asg_go (ro_begun hp (by omega) fun D H1 hD s1 d1 => ?_))
  show tAsg (tCall (spUncut K C) [] E0 (tCons (tVar 2) (tCons (tOp rCat (tCall (spBehind K C) [] E0 (tCons (tVar 2) (tNil))) (tVar 4)) (tNil)))) (gName 2) _ [some (.ref a), some v, some (.ref x), some (.int ((j : Int) + 1)), some (.ref D), none, none, none] H1
  refine ⟨_, rfl, _, rfl, x, cuts (j + 1) L, rfl, row.same s1, by omega, fun A H2 hA s2 a2 => ⟨_, rfl, A, D, _, _, rfl, rfl, a2, s2 _ _ d1, ?_, fun p hp2 => ?_⟩⟩
  · have h1 := (List.Perm.length_eq lv.1)
    have h2 := cutL_len (cuts j L) 0
    rw [List.length_append] at h1
    rw [List.length_map, List.length_map]
    exact Nat.le_trans (show (rends (cuts (j + 1) L)).length + (bg ts ((j : Int) + 1)).length ≤ 1000 by omega) (by decide)
  have s3 := same_new (o := .lst ((rends (cuts (j + 1) L)).map V.int ++ (bg ts ((j : Int) + 1)).map V.int)) hp2
  have P3 : upd H2 p (.lst ((rends (cuts (j + 1) L)).map V.int ++ (bg ts ((j : Int) + 1)).map V.int)) p = some (.lst ((rends (cuts (j + 1) L) ++ bg ts ((j : Int) + 1)).map V.int)) := by rw [upd_same, List.map_append]
  generalize upd H2 p (.lst ((rends (cuts (j + 1) L)).map V.int ++ (bg ts ((j : Int) + 1)).map V.int)) = H3 at s3 P3 ⊢
  have s03 := (s1.trans s2).trans s3
  have aj := cuts_asc j asc
  exact ⟨x, p, cuts (j + 1) L, _, (cutL (cuts j L) 0).2, cuts j L, rfl, row.same s03, P3, lv.1, (cut_up aj).2.1, lv.2, aj, by omega, fun y H4 hy s4 r4 => hN _ y H4 (s03.trans s4) r4⟩
theorem ro_max {H : Hp} {a : Addr} {ts : List (Int × Int)} {Q : VK} {y1 y2 y3 y4 : Option V} (hp : PairsAt K H a ts) (tl : ts.length ≤ 1000) (one : ∀ t ∈ ts, 1 ≤ t.1) (q : ∀ (m : Nat) H', Same H H' → (∀ t ∈ ts, t.1 ≤ m) → (m = 0 ∨ ∃ t ∈ ts, t.1 = m) → Q (.int m) H') :
    t_roMax K [some (.ref a), y1, y2, y3, y4, none, none, none] H Q := by
  obtain ⟨xs, sq, rel, len⟩ := hp.rel
  refine ckw_go (cons1_go (lcO (G := GT) (ys := ts) (fun _ => true) (fun t => V.int t.1) (fun R r => ⟨_, rfl, r⟩) sq rel len (by omega) (fun _ _ _ s z => z.same s) ?_ fun D H2 hD s2 d2 => ?_))
  · rintro v t H' Rt Rf s' ⟨u, rfl, hat⟩ m rt rf
    exact ⟨u, _, rfl, SqT.of hat, rfl, _, _, rfl, _, _, rfl, rfl, rfl, yes_if ⟨_, rfl, rt rfl _ (fun _ _ h => h)⟩⟩
  · rw [all_true] at d2
    refine ⟨D, ts.map Prod.fst, 0, rfl, rfl, by rw [List.map_map]; exact SqL.of d2, fun z => ?_, fun m hm hx => ?_⟩
    · have : ts = [] := List.map_eq_nil_iff.mp z
      exact q 0 H2 s2 (fun t ht => by rw [this] at ht; cases ht) (.inl rfl)
    · obtain ⟨t, ht, rfl⟩ := List.mem_map.mp hm
      have p1 := one t ht
      have := q t.1.toNat H2 s2 (fun s hs => by have := hx s.1 (List.mem_map.mpr ⟨s, hs, rfl⟩); omega) (.inr ⟨t, ht, by omega⟩)
      rw [show ((t.1.toNat : Nat) : Int) = t.1 by omega] at this
      exact this
end
theorem pure_row_of {K : PySem.W.Frag} {C T B a00 a0 : Addr} (hE0 : BareK K a00 []) (hE : BareK K a0 []) (vs : List V) (H : Hp) (Q : VK) (E : XK) (h : spRowOf K C T B vs H Q E) : t_row_of K a00 a0 B T C E { nx := fun _ H' => Q .non H', rt := Q } (start ["trains", "capacities", "row", "level", "begun", "length", "offset", "_"] vs) H := by
  obtain ⟨a, v, ts, L, rfl, hp, asc, len, pm, q⟩ := h
  have tl : ts.length ≤ 40 := by
    have := tr_many_le asc
    rw [pm.length_eq]
    omega
  have one : ∀ t ∈ ts, 1 ≤ t.1 := fun t m => trL_one t (pm.mem_iff.mp m)
  have sum : (ts.map Prod.fst).sum ≤ 40 := by
    rw [perm_sum (pm.map Prod.fst), trL_sum asc]
    omega
  refine ⟨_, rfl, a, ts, rfl, hp, by omega, one, sum, fun H1 s1 => ⟨_, rfl, iteF ?_⟩⟩
  show tSeq (tAsg (tMake C (spRowInit K C) [.ref a00, .ref a0] E0 (tNil)) (gName 2)) (t_roLoop K C B E) _ [some (.ref a), some v, none, none, none, none, none, none] H1
  have e1 : PairsAt K H1 a00 [] := ⟨[], .inr (.inr hE0), .nil⟩
  have e2 : PairsAt K H1 a0 [] := ⟨[], .inr (.inr hE), .nil⟩
  refine seq_go (asg_go (make_go (nil0_go ?_)))
  refine make_row (C := C) (E := E0) (Q := fun y H6 => t_roLoop K C B E { nx := fun _ H' => Q .non H', rt := Q } [some (.ref a), some v, some y, none, none, none, none, none] H6) e1 e2 (ones_ok (L := []) .nil (by decide)) fun x H2 qs ls hx s2 row p1 p2 _ _ => ?_
  have eq1 : qs = [] := List.Perm.eq_nil p1
  have eq2 : ls = [] := List.Perm.eq_nil p2
  subst eq1 eq2
  have s02 := s1.trans s2
  show t_roLoop K C B E _ [some (.ref a), some v, some (.ref x), none, none, none, none, none] H2
  refine seq_go (ro_max (K := K) (hp.same s02) (by omega) one fun m H3 s3 hm hm2 => ?_)
  have m40 : m ≤ 40 := by
    rcases hm2 with rfl | ⟨t, ht, e⟩
    · omega
    · have := trL_le asc t (pm.mem_iff.mp ht)
      omega
  have s03 := s02.trans s3
  refine ⟨_, rfl, m, 0, -1, m, rfl, ?_, ?_⟩
  · have := RgC.neg (i := m) (j := 0) (by omega) (by omega) (by decide) (by decide)
    rw [show ((m : Int) - 0).toNat = m by omega] at this
    exact this
  refine for_it (walk_rangeC (lo := m) (c := -1) (n := m)) (fun i σ H4 => Same H3 H4 ∧ ∃ y w3 w4, RowAt K C H4 y (ones (cuts (m - i) L)) [] ∧ σ = [some (.ref a), some v, some (.ref y), w3, w4, none, none, none]) ⟨fun _ _ h => h, x, none, none, ?_, rfl⟩ (fun _ _ _ _ _ => True.intro) ?_ ?_
  · rw [Nat.sub_zero, cuts_end asc fun t ht => hm t (pm.mem_iff.mpr ht)]
    exact row.same s3
  · rintro i w σ H4 H5 hi ⟨s4, y, w3, w4, ry, rfl⟩ ⟨rfl, rfl⟩
    obtain ⟨j, hj⟩ : ∃ j, m - i = j + 1 := ⟨m - i - 1, by omega⟩
    rw [hj] at ry
    have e : (m : Int) + (i : Int) * -1 = (j : Int) + 1 := by omega
    show t_roBody K C _ [some (.ref a), some v, some (.ref y), some (.int ((m : Int) + (i : Int) * -1)), w4, none, none, none] H5
    rw [e]
    refine ro_body (hp.same (s03.trans s4)) asc len pm ry fun y4 y' H6 s6 r6 => ⟨s4.trans s6, y', _, y4, ?_, rfl⟩
    rw [show m - (i + 1) = j by omega]
    exact r6
  · rintro σ H4 ⟨s4, y, w3, w4, ry, rfl⟩
    rw [Nat.sub_self] at ry
    have s04 := s03.trans s4
    refine ⟨_, rfl, _, rfl, y, v, ones L, [], rfl, ry, ⟨ones_ok asc len, ones_asc asc, .nil⟩, ?_⟩
    rcases q with ⟨od, q⟩ | ⟨ls, rs, cp, pr, ko, q⟩
    · exact .inr (.inl ⟨rfl, od.same s04, fun d H5 s5 hd => q d H5 (s04.trans s5) hd⟩)
    · exact .inr (.inr ⟨rfl, ls, rs, cp.same s04, pr, ko, fun z H5 hz s5 r5 => q z H5 (none_back s04 hz) (s04.trans s5) r5⟩)
end SR
set_option Elab.async false
set_option linter.all false
set_option maxRecDepth 100000
set_option maxHeartbeats 4000000
set_option Elab.async false
set_option linter.all false
set_option maxRecDepth 100000
set_option maxHeartbeats 4000000
set_option Elab.async false
set_option linter.all false
set_option maxRecDepth 100000
set_option maxHeartbeats 2000000
namespace SR
open PySem PySem.Spec PyProof.Rows L2
theorem ne_dd {K : PySem.W.Frag} {H : Hp} {x y : V} {d : PyData} {Q : VK} (hx : Dp K H x d) (hy : Dp K H y d) (s : SeqAt.shaped d = true) (q : Q (.bl false) H) : rNeD K x y H Q :=
  ⟨d, d, hx, hy, s, s, by rw [eqv_same s]; exact q⟩
end SR
set_option Elab.async false
set_option linter.all false
set_option maxRecDepth 100000
set_option maxHeartbeats 1000000
namespace SR
open PySem PySem.Spec PyProof.Rows L2
section
variable {ks : List (Int × Int)} {c : Int}
noncomputable def iterF (s : Int × Bool) : Nat → Rws ks → Rws ks
  | 0, p => p
  | n + 1, p => iterF s n (Fn s p)
noncomputable def FnN (c n : Int) (p : Rws ks) : Rws ks := iterF (c, decide (n < 0)) n.natAbs p
theorem trP_iter (c1 : 1 ≤ c) (b : Bool) : ∀ (n : Nat) (p : Rws ks), trP (iterF (c, b) n p) = mvT c (if b then -(n : Int) else n) (trP p)
  | 0, p => by
    show trP p = _
    cases b <;> exact (mvT_0 c _).symm
  | n + 1, p => by
    show trP (iterF (c, b) n (Fn (c, b) p)) = _
    rw [trP_iter c1 b n, trP_fn c1, mvT_mvT]
    congr 1
    cases b
    · show (1 : Int) + (n : Int) = ((n + 1 : Nat) : Int)
      omega
    · show (-1 : Int) + -(n : Int) = -((n + 1 : Nat) : Int)
      omega
theorem trP_fnN (c1 : 1 ≤ c) (n : Int) (p : Rws ks) : trP (FnN c n p) = mvT c n (trP p) := by
  unfold FnN
  rw [trP_iter c1]
  congr 1
  by_cases h : n < 0
  · rw [decide_eq_true h, if_pos rfl]
    omega
  · rw [decide_eq_false h, if_neg Bool.false_ne_true]
    omega
noncomputable def advP (cs : List (Int × Int)) (p : Rws ks) : Rws ks := cs.foldl (fun p t => FnN t.1 t.2 p) p
def wayS (cs : List (Int × Int)) (x : Int) : Int := (cs.map fun t => t.2 * min t.1 x).sum
theorem wayS_cons (t : Int × Int) (cs : List (Int × Int)) (x : Int) : wayS (t :: cs) x = t.2 * min t.1 x + wayS cs x := rfl
theorem trP_adv : ∀ {cs : List (Int × Int)} (p : Rws ks), (∀ t ∈ cs, 1 ≤ t.1) → trP (advP cs p) = (trP p).map fun t => (t.1, t.2 + wayS cs t.1)
  | [], p, _ => by
    show trP p = _
    have : ∀ t ∈ trP p, (t.1, t.2 + wayS [] t.1) = t := fun t _ => by
      show (t.1, t.2 + 0) = t
      rw [Int.add_zero]
    rw [map_same this, List.map_id']
  | s :: cs, p, h => by
    show trP (advP cs (FnN s.1 s.2 p)) = _
    rw [trP_adv _ (fun t m => h t (List.mem_cons_of_mem _ m)), trP_fnN (h s List.mem_cons_self)]
    unfold mvT
    rw [List.map_map]
    refine map_same fun t _ => ?_
    show (t.1, t.2 + s.2 * min s.1 t.1 + wayS cs t.1) = (t.1, t.2 + wayS (s :: cs) t.1)
    rw [wayS_cons, Int.add_assoc]
def mirP (p : Rws ks) : Rws (mirror ks) := ⟨mirror p.1, p.2.mirror⟩
end
end SR
set_option Elab.async false
set_option linter.all false
set_option maxRecDepth 100000
set_option maxHeartbeats 2000000
namespace SR
open PySem PySem.Spec PyProof.Rows L2
/-- a list over the items of a dict from ints to ints -/
theorem lcItV {K : PySem.W.Frag} {te : TE} {g : TG} {telt : TE} {vs : List Nat} {σ : L2.St} {H : Hp} {F : Addr} {cs : List (Int × Int)} {Q : VK} (f : Int × Int → V) (hF : H F = some (.dK (kvsOf cs))) (hl : cs.length ≤ 1000)
    (hte : ∀ (H1 : Hp) (R : VK), R (.ref F) H1 → te σ H1 R)
    (turn : ∀ p ∈ cs, ∀ T H' (Rt : VK), H' T = some (.tup [.int p.1, .int p.2]) → (∀ H'', Same H' H'' → Rt (f p) H'') → g (.ref T) (wipe σ vs) H' fun σ2 H2 => wipe σ2 vs = wipe σ vs ∧ telt σ2 H2 Rt)
    (q : ∀ D H', H D = none → Same H H' → H' D = some (.lst (cs.map f)) → Q (.ref D) H') : tLockE (tLc (iItems te) g tYes telt vs) σ H Q := by
  refine ⟨F, _, hF, trivial, fun od => ?_⟩
  have A : upd H F (.frz od (.dK (kvsOf cs))) F = some (.frz od (.dK (kvsOf cs))) := upd_same
  have k1 : ∀ b o, b ≠ F → H b = some o → upd H F (.frz od (.dK (kvsOf cs))) b = some o := fun b o e h => (upd_ne e).trans h
  have fr : ∀ b, upd H F (.frz od (.dK (kvsOf cs))) b = none → H b = none ∧ b ≠ F := fun b e => by
    by_cases z : b = F
    · rw [z, upd_same] at e
      cases e
    · rw [upd_ne z] at e
      exact ⟨e, z⟩
  generalize upd H F (.frz od (.dK (kvsOf cs))) = H1 at A k1 fr ⊢
  refine hte _ _ ⟨F, od, _, rfl, A, fun D hD => ?_⟩
  obtain ⟨hD0, nDF⟩ := fr D hD
  have kl : (kvsOf cs).length = cs.length := by unfold kvsOf; rw [List.length_map]
  refine lc_it (walk_items (d := F) (o := od) (kvs := kvsOf cs)) (fun i H2 => Same H1 H2 ∧ H2 D = some (.lst ((cs.take i).map f))) ⟨same_new hD, upd_same⟩ ?_ ?_ ?_
  · rintro i H2 _ ⟨s2, _⟩
    exact s2 _ _ A
  · rintro i x H2 H3 hi ⟨s2, d2⟩ ⟨T, v1, v2, rfl, hT, rfl, e1, e2⟩
    obtain ⟨p, hp, rfl, rfl⟩ : ∃ p : Int × Int, cs[i]? = some p ∧ v1 = .int p.1 ∧ v2 = .int p.2 := by
      have g : (kvsOf cs)[i]? = (cs[i]?).map fun p => ((.inl p.1, .int p.2) : Key × V) := List.getElem?_map ..
      dsimp only at e1 e2
      rw [g] at e1 e2
      cases h : cs[i]? with
      | none =>
        rw [h] at e1
        cases e1
      | some p =>
        rw [h] at e1 e2
        exact ⟨p, rfl, (Option.some.inj e1).symm, (Option.some.inj e2).symm⟩
    have s3 := same_new (o := .tup [.int p.1, .int p.2]) hT
    have T3 : upd H2 T (.tup [.int p.1, .int p.2]) T = some (.tup [.int p.1, .int p.2]) := upd_same
    generalize upd H2 T (.tup [.int p.1, .int p.2]) = H3 at s3 T3 ⊢
    have t := turn p (List.mem_of_getElem? hp) T H3 (fun y H5 => ∃ acc, H5 D = some (.lst acc) ∧ acc.length < sizeLine ∧ (Same H1 (upd H5 D (.lst (acc ++ [y]))) ∧ upd H5 D (.lst (acc ++ [y])) D = some (.lst ((cs.take (i + 1)).map f)))) T3 fun H5 s5 => by
      refine ⟨_, s5 _ _ (s3 _ _ d2), ?_, same_upd ((s2.trans s3).trans s5) hD, ?_⟩
      · rw [List.length_map, List.length_take]
        exact Nat.lt_of_le_of_lt (show _ ≤ 1000 by have := Nat.min_le_right i cs.length; omega) (by decide)
      · rw [upd_same, List.take_succ, hp, List.map_append]
        rfl
    exact t
  · rintro H2 ⟨s2, d2⟩
    rw [kl, List.take_length] at d2
    have s4 : Same H (upd H2 F (.dK (kvsOf cs))) := same_lock hF fun b o e h => s2 _ _ (k1 b o e h)
    exact ⟨s2 _ _ A, q D _ hD0 s4 ((upd_ne nDF).trans d2)⟩
def spIsCounts (K : PySem.W.Frag) : Sp := fun vs H Q _ => ∃ (a : Addr) (cs : List (Int × Int)), vs = [.ref a] ∧ H a = some (.dK (kvsOf cs)) ∧ cs.length ≤ 1000 ∧ (∀ t ∈ cs, 1 ≤ t.1 ∧ t.1 ≤ 99) ∧ ∀ H', Same H H' → Q (.bl true) H'
def t_is_counts (K : PySem.W.Frag) : TS := tSeq (tIfS (tNot (tB (tCB (rIsi K) (tCons (tVar 0) (tCons (tC (.ty "dict")) tNil)))))
  (tRet (tC (.bl false)))
  (tNext))
  (tRet (tCB (rAll K) (tCons (tLockE (tLc (iItems (tVar 0)) (gTup K 2 (gCons (gName 1) (gCons (gName 2) (gNil)))) (tYes) (tAndV (tCall (spCapacity K) [] E0 (tCons (tVar 1) (tNil))) (tCall (spIsInt K) [] E0 (tCons (tVar 2) (tNil)))) [1, 2])) (tNil))))
theorem pure_is_counts {K : PySem.W.Frag} (vs : List V) (H : Hp) (Q : VK) (E : XK) (h : spIsCounts K vs H Q E) : t_is_counts K { nx := fun _ H' => Q .non H', rt := Q } (start ["value", "capacity", "many"] vs) H := by
  obtain ⟨a, cs, rfl, hF, hl, one, q⟩ := h
  refine seq_go ⟨_, rfl, _, _, _, _, true, rfl, .ty _, (AnyT.dct (K := K) (.inl hF)).ty, (AnyT.dct (K := K) (.inl hF)).kit.2.2.2.2.2, _, rfl, iteF ?_⟩
  refine ret_go (cb_go (cons1_go (lcItV (K := K) (fun _ => V.bl true) hF hl (fun _ _ r => ⟨_, rfl, r⟩) ?_ fun D H1 hD s1 d1 => ?_)))
  · rintro p mp T H' Rt hT rt
    refine ⟨T, _, rfl, SqT.of hT, rfl, _, _, rfl, _, _, rfl, rfl, rfl, _, rfl, .int p.1, _, rfl, .int _, true, ?_, ?_⟩
    · rw [btw_iff.mpr ⟨p.1, rfl, (one p mp).1, (one p mp).2⟩]
    · refine iteT ⟨_, rfl, ?_⟩
      exact ⟨.int p.2, _, rfl, .int _, rt H' fun _ _ h => h⟩
  · have e : cs.map (fun _ => V.bl true) = (cs.map fun _ => true).map V.bl := by rw [List.map_map]; rfl
    rw [e] at d1
    refine ⟨D, cs.map fun _ => true, rfl, SqL.of d1, ?_⟩
    rw [all_map _ _ (fun _ _ => rfl)]
    exact q H1 s1
def spWay (K : PySem.W.Frag) : Sp := fun vs H Q _ => ∃ (x : Int) (a : Addr) (cs : List (Int × Int)), vs = [.int x, .ref a] ∧ H a = some (.dK (kvsOf cs)) ∧ cs.length ≤ 1000 ∧ 1 ≤ x ∧ x ≤ 40 ∧ (∀ t ∈ cs, 1 ≤ t.1 ∧ t.1 ≤ 99) ∧ ∀ H', Same H H' → Q (.int (wayS cs x)) H'
def t_way (K : PySem.W.Frag) : TS := tRet (tCB (rSum K) (tCons (tLockE (tLc (iItems (tVar 1)) (gTup K 2 (gCons (gName 3) (gCons (gName 2) (gNil)))) (tYes) (tOp qMul (tVar 2) (tCB qMin2 (tCons (tVar 3) (tCons (tVar 0) (tNil))))) [2, 3])) (tNil)))
theorem pure_way {K : PySem.W.Frag} (vs : List V) (H : Hp) (Q : VK) (E : XK) (h : spWay K vs H Q E) : t_way K { nx := fun _ H' => Q .non H', rt := Q } (start ["length", "counts", "many", "capacity"] vs) H := by
  obtain ⟨x, a, cs, rfl, hF, hl, x1, x2, one, q⟩ := h
  refine ret_go (cb_go (cons1_go (lcItV (K := K) (fun t => V.int (t.2 * min t.1 x)) hF hl (fun _ _ r => ⟨_, rfl, r⟩) ?_ fun D H1 hD s1 d1 => ?_)))
  · rintro p mp T H' Rt hT rt
    have mn : (if x < p.1 then x else p.1) = min p.1 x := min_if _ _
    have o := one p mp
    refine ⟨T, _, rfl, SqT.of hT, rfl, _, _, rfl, _, _, rfl, rfl, rfl, _, rfl, _, rfl, _, rfl, _, _, rfl, ?_⟩
    rw [mn]
    exact ⟨_, _, rfl, rfl, .inr ⟨by omega, by omega⟩, rt H' fun _ _ h => h⟩
  · have e : cs.map (fun t => V.int (t.2 * min t.1 x)) = (cs.map fun t => t.2 * min t.1 x).map V.int := by rw [List.map_map]; rfl
    rw [e] at d1
    exact ⟨D, _, rfl, SqL.of d1, q H1 s1⟩
def spMovedA (K : PySem.W.Frag) : Sp := fun vs H Q _ => ∃ (a c : Addr) (ts cs : List (Int × Int)), vs = [.ref a, .ref c] ∧ PairsL H a ts ∧ ts.length ≤ 40 ∧ (∀ t ∈ ts, 1 ≤ t.1 ∧ t.1 ≤ 40) ∧ H c = some (.dK (kvsOf cs)) ∧ cs.length ≤ 1000 ∧ (∀ t ∈ cs, 1 ≤ t.1 ∧ t.1 ≤ 99) ∧
  ∀ D H', H D = none → Same H H' → PairsL H' D (ts.map fun t => (t.1, t.2 + wayS cs t.1)) → Q (.ref D) H'
def t_movedA (K : PySem.W.Frag) : TS := tRet (tLc (iList K (tVar 0)) (gTup K 2 (gCons (gName 2) (gCons (gName 3) (gNil)))) (tYes) (tTup (tCons (tVar 2) (tCons (tOp qAdd (tVar 3) (tCall (spWay K) [] E0 (tCons (tVar 2) (tCons (tVar 1) (tNil))))) (tNil)))) [2, 3])
theorem pure_movedA {K : PySem.W.Frag} (vs : List V) (H : Hp) (Q : VK) (E : XK) (h : spMovedA K vs H Q E) : t_movedA K { nx := fun _ H' => Q .non H', rt := Q } (start ["found", "counts", "length", "offset"] vs) H := by
  obtain ⟨a, c, ts, cs, rfl, hp, tl, tb, hc, cl, one, q⟩ := h
  obtain ⟨us, hA, pr⟩ := hp
  refine ret_go (lcT (G := fun H' x p => GT H' x p ∧ H' c = some (.dK (kvsOf cs))) (ys := ts) (fun _ => true) (fun t : Int × Int => (t.1, t.2 + wayS cs t.1)) (fun R r => ⟨_, rfl, r⟩) (SqL.of hA) (fun i x hx => ?_) (by rw [List.length_map, paired_len pr]) (by omega) (fun _ _ _ s z => ⟨z.1.same s, s _ _ z.2⟩) ?_ fun D H1 hD s1 d1 => ?_)
  · obtain ⟨p, h1, h2⟩ := pairs_rel pr i x hx
    exact ⟨p, h1, h2, hc⟩
  · rintro v t H' Rt Rf s' ⟨⟨u, rfl, hat⟩, hc'⟩ mm rt rf
    have b := tb t mm
    refine ⟨u, _, rfl, SqT.of hat, rfl, _, _, rfl, _, _, rfl, rfl, rfl, yes_if ⟨_, rfl, _, rfl, _, rfl, _, rfl, t.1, c, cs, rfl, hc', cl, b.1, b.2, one, fun H2 s2 => ⟨_, _, rfl, rfl, sz (by show 2 ≤ 1000; decide), fun n hn => rt rfl n H2 s2 hn⟩⟩⟩
  · rw [all_true] at d1
    exact q D H1 hD s1 d1
def spAdvance (K : PySem.W.Frag) (C : Addr) : Sp := fun vs H Q _ => ∃ (x c : Addr) (ks cs : List (Int × Int)) (p : Rws ks), vs = [.ref x, .ref c] ∧ RowAt K C H x p.1 ks ∧ H c = some (.dK (kvsOf cs)) ∧ cs.length ≤ 1000 ∧ (∀ t ∈ cs, 1 ≤ t.1 ∧ t.1 ≤ 99) ∧
  ∀ y H', H y = none → Same H H' → RowAt K C H' y (advP cs p).1 ks → Q (.ref y) H'
def t_advance (K : PySem.W.Frag) (c_BadCounts : Addr) (c_BadRow : Addr) (c_BadTrains : Addr) (c_Row : Addr) (E : XK) : TS := tSeq (tIfS (tNot (tB (tCall (spIsCounts K) [] E0 (tCons (tVar 1) (tNil)))))
  (tOut (.ref c_BadCounts) E)
  (tNext))
  (tRet (tCall (spRowOf K c_Row c_BadTrains c_BadRow) [] E0 (tCons (tCall (spMovedA K) [] E0 (tCons (tCall (spTrains K c_Row) [] E0 (tCons (tVar 0) (tNil))) (tCons (tVar 1) (tNil)))) (tCons (tProp c_Row (spCapacities K c_Row) [] E0 (tVar 0)) (tNil)))))
theorem pure_advance {K : PySem.W.Frag} {BC B T C : Addr} (vs : List V) (H : Hp) (Q : VK) (E : XK) (h : spAdvance K C vs H Q E) : t_advance K BC B T C E { nx := fun _ H' => Q .non H', rt := Q } (start ["row", "counts"] vs) H := by
  obtain ⟨x, c, ks, cs, p, rfl, row, hc, cl, one, q⟩ := h
  refine seq_go ⟨_, rfl, c, cs, rfl, hc, cl, one, fun H1 s1 => ⟨_, rfl, iteF ?_⟩⟩
  have row1 := row.same s1
  have hc1 := s1 _ _ hc
  refine ⟨_, rfl, x, ks, p, rfl, row1, fun D H2 hD s2 d2 => ⟨_, rfl, D, c, trP p, cs, rfl, d2, trP_len p, trP_40 p, s2 _ _ hc1, cl, one, fun D3 H3 hD3 s3 d3 => ?_⟩⟩
  have row3 := (row1.same s2).same s3
  obtain ⟨dx, fs, hx⟩ := row3.at
  refine ⟨_, rfl, x, dx, fs, rfl, hx, x, p.1, ks, rfl, row3, fun ac hac => ?_⟩
  generalize hz : spRowOf K C T B = zz
  show zz [.ref D3, .ref ac] H3 _ E0
  subst hz
  have e := trP_adv (cs := cs) p fun t m => (one t m).1
  rw [← e] at d3
  refine ⟨D3, .ref ac, trP (advP cs p), plL (advP cs p), rfl, d3.at, plL_asc _, plL_40 _, .refl _, .inr ⟨ks, ks, caps_of hac.at p.2.ks (.refl _), .refl _, p.2.ks, fun z H4 hz s4 rz => ?_⟩⟩
  rw [← plL_ones, with_plain (advP cs p).2] at rz
  have s14 := (s1.trans s2).trans (s3.trans s4)
  exact q z H4 (Same.free ((s1.trans s2).trans s3) hz) s14 rz
end SR
set_option Elab.async false
set_option linter.all false
set_option maxRecDepth 100000
set_option maxHeartbeats 2000000
set_option Elab.async false
set_option linter.all false
set_option maxRecDepth 100000
set_option maxHeartbeats 2000000
set_option Elab.async false
set_option linter.all false
set_option maxRecDepth 100000
set_option maxHeartbeats 2000000
set_option Elab.async false
set_option linter.all false
set_option maxRecDepth 100000
set_option maxHeartbeats 1000000
namespace SR
open PySem PySem.Spec PyProof.Rows L2
section
variable {ps ks : List (Int × Int)} {w c c1 : Int}
/-- counts, where the two places have others -/
def two (w l r : Int) (ps : List (Int × Int)) : List (Int × Int) := (ps.filter fun p => decide (p.1 ≠ w - 1 ∧ p.1 ≠ w)) ++ [(w - 1, l), (w, r)]
end
end SR
set_option Elab.async false
set_option linter.all false
set_option maxRecDepth 100000
set_option maxHeartbeats 1000000
namespace SR
open PySem PySem.Spec PyProof.Rows L2
/-- a method that may raise -/
structure MetX (P : Program) (w : World) (K : PySem.W.Frag) (mg : Str → Option Value) (base : Heap) (CX : CXT) (k : Nat) (C : Addr) (m : Str) (sp : Sp) (dvs : List V) : Prop where
  ex : ∃ (f : Addr) (fd : FuncData) (ps : List Str) (ds : List Value), Cls K C ∧ Meth K C m f ∧ FnOk P w K mg base CX k f fd ps sp ∧ Binds K fd ps ds ∧ Vals dvs ds
theorem MetX.weak {P : Program} {w : World} {K : PySem.W.Frag} {mg : Str → Option Value} {base : Heap} {CX : CXT} {k : Nat} {C : Addr} {m : Str} {sp sp' : Sp} {dvs : List V} (c : MetX P w K mg base CX k C m sp dvs) (h : ∀ vs H Q E, sp' vs H Q E → sp vs H Q E) : MetX P w K mg base CX k C m sp' dvs := by
  obtain ⟨f, fd, ps, ds, h1, h2, F, h4, h5⟩ := c.ex
  exact ⟨f, fd, ps, ds, h1, h2, F.imp h, h4, h5⟩
end SR
set_option Elab.async false
set_option linter.all false
set_option maxRecDepth 100000
set_option maxHeartbeats 1000000
set_option Elab.async false
set_option linter.all false
set_option maxRecDepth 100000
set_option maxHeartbeats 2000000
set_option Elab.async false
set_option linter.all false
set_option maxRecDepth 100000
set_option maxHeartbeats 2000000
set_option Elab.async false
set_option linter.all false
set_option maxRecDepth 100000
set_option maxHeartbeats 2000000
set_option Elab.async false
set_option linter.all false
set_option maxRecDepth 100000
set_option maxHeartbeats 1000000
namespace SR
open PySem PySem.Spec PyProof.Rows L2
section
variable {K : PySem.W.Frag} {C : Addr} {N N2 N3 : L2.St → Hp → Prop} {R : VK}
/-- what the boxes are while they are drawn -/
structure B11 (ks qs : List (Int × Int)) : Prop where
  nd : (qs.map Prod.fst).Nodup
  ok : ∀ p ∈ qs, 1 ≤ p.2 ∧ p.2 ≤ cap ks p.1
  bd : ∀ p ∈ qs, -60 ≤ p.1 ∧ p.1 ≤ 100
  sm : total qs ≤ 40
theorem B11.len {ks qs : List (Int × Int)} (b : B11 ks qs) : qs.length ≤ 40 := by
  have h := len_sum fun p m => (b.ok p m).1
  have s := b.sm
  unfold total at s
  omega
end
end SR
set_option Elab.async false
set_option linter.all false
set_option maxRecDepth 100000
set_option maxHeartbeats 2000000
namespace SR
open PySem PySem.Spec PyProof.Rows L2 LiI
/-- no index of a wide box that can be shifted -/
def OddI (K : PySem.W.Frag) (H : Hp) (ks : List (Int × Int)) (v : V) : Prop := ∃ t, AnyT K H v t ∧ (isI v = false ∨ ∃ i, v = .int i ∧ (cap ks i = 1 ∨ i = -60))
theorem OddI.same {K : PySem.W.Frag} {H H' : Hp} {ks : List (Int × Int)} {v : V} (s : Same H H') (h : OddI K H ks v) : OddI K H' ks v := let ⟨t, a, b⟩ := h; ⟨t, a.same s, b⟩
end SR
set_option Elab.async false
set_option linter.all false
set_option maxRecDepth 100000
set_option maxHeartbeats 2000000
set_option Elab.async false
set_option linter.all false
set_option maxRecDepth 100000
set_option maxHeartbeats 2000000
set_option Elab.async false
set_option linter.all false
set_option maxRecDepth 100000
set_option maxHeartbeats 2000000
namespace SR
open PySem PySem.Spec PyProof.Rows L2 LiI
/-- a dict that is no field of the row may be locked and unlocked -/
theorem RowAt.off {K : PySem.W.Frag} {C : Addr} {H H' : Hp} {x Z : Addr} {ps ks : List (Int × Int)} (row : RowAt K C H x ps ks) (nz : ∀ dx c k d e, H x = some (.ins C dx (rowFs c k d e)) → Z ≠ d ∧ Z ≠ e) (hz : (∃ kvs, H Z = some (.dK kvs)) ∨ ∃ o kvs, H Z = some (.frz o (.dK kvs))) (k : ∀ b o, b ≠ Z → H b = some o → H' b = some o) : RowAt K C H' x ps ks := by
  obtain ⟨dx, c0, k0, d, e, ps0, ks0, h1, ⟨t1, h2, h3⟩, ⟨t2, h4, h5⟩, h6, h7, h8⟩ := row
  obtain ⟨n1, n2⟩ := nz _ _ _ _ _ h1
  have kp : ∀ {a : Addr} {o : HO}, H a = some o → (∀ kvs, o ≠ .dK kvs) → (∀ o' kvs, o ≠ .frz o' (.dK kvs)) → H' a = some o := fun {a o} h m1 m2 => k _ _ (fun z => by
    rw [z] at h
    rcases hz with ⟨kvs, g⟩ | ⟨o', kvs, g⟩
    · rw [g] at h
      exact m1 _ (Option.some.inj h).symm
    · rw [g] at h
      exact m2 _ _ (Option.some.inj h).symm) h
  have tp : ∀ {t : Addr} {p : Int × Int}, TupAt H t p → TupAt H' t p := fun {t p} z => kp (o := .tup [.int p.1, .int p.2]) z (fun _ z => nomatch z) fun _ _ z => nomatch z
  refine ⟨dx, c0, k0, d, e, ps0, ks0, kp h1 (fun _ z => nomatch z) (fun _ _ z => nomatch z), ⟨t1, ?_, paired_imp (fun _ _ z => tp z) h3⟩, ⟨t2, ?_, paired_imp (fun _ _ z => tp z) h5⟩, k _ _ (Ne.symm n1) h6, k _ _ (Ne.symm n2) h7, h8⟩
  · obtain ⟨o, a1, a2⟩ := h2
    exact ⟨o, kp a1 (fun _ z => nomatch z) (fun _ _ z => by cases z), a2⟩
  · obtain ⟨o, a1, a2⟩ := h4
    exact ⟨o, kp a1 (fun _ z => nomatch z) (fun _ _ z => by cases z), a2⟩
end SR
set_option Elab.async false
set_option linter.all false
set_option maxRecDepth 100000
set_option maxHeartbeats 2000000
namespace SR
open PySem PySem.Spec PyProof.Rows L2
/-- the dict at W is none of the row's own -/
def Nw (C : Addr) (H : Hp) (W x : Addr) : Prop := ∃ dx c k d e, H x = some (.ins C dx (rowFs c k d e)) ∧ W ≠ d ∧ W ≠ e
theorem Nw.all {C W x : Addr} {H : Hp} (h : Nw C H W x) : ∀ dx c k d e, H x = some (.ins C dx (rowFs c k d e)) → W ≠ d ∧ W ≠ e := fun dx c k d e h1 => by
  obtain ⟨dx', c', k', d', e', h2, n1, n2⟩ := h
  rw [h1] at h2
  have z := Option.some.inj h2
  have fe : rowFs c k d e = rowFs c' k' d' e' := by
    injection z
  unfold rowFs at fe
  injection fe with _ fe
  injection fe with _ fe
  injection fe with f3 fe
  injection fe with f4 _
  have e3 : d = d' := V.ref.inj (congrArg Prod.snd f3)
  have e4 : e = e' := V.ref.inj (congrArg Prod.snd f4)
  subst e3 e4
  exact ⟨n1, n2⟩
theorem Nw.same {C W x : Addr} {H H' : Hp} (s : Same H H') (h : Nw C H W x) : Nw C H' W x := let ⟨dx, c, k, d, e, h1, n⟩ := h; ⟨dx, c, k, d, e, s _ _ h1, n⟩
theorem Nw.kp {C W x d g c : Addr} {b : Nat} {H H' : Hp} (S : StB H d g c b) (k : Kp d g H H') (h : Nw C H W x) : Nw C H' W x := let ⟨dx, c, k', d, e, h1, n⟩ := h; ⟨dx, c, k', d, e, kp_at S k h1 (fun _ z => nomatch z) (fun _ _ z => nomatch z), n⟩
theorem Nw.put {C W x : Addr} {H H' : Hp} {kvs : List (Key × V)} (hW : H W = some (.dK kvs)) (k : ∀ a o, a ≠ W → H a = some o → H' a = some o) (h : Nw C H W x) : Nw C H' W x := by
  obtain ⟨dx, c, k', d, e, h1, n⟩ := h
  exact ⟨dx, c, k', d, e, k _ _ (fun z => by rw [z, hW] at h1; cases h1) h1, n⟩
theorem Nw.new {K : PySem.W.Frag} {C W x : Addr} {H : Hp} {ps ks : List (Int × Int)} (row : RowAt K C H x ps ks) (hW : H W = none) : Nw C H W x := by
  obtain ⟨dx, c, k, d, e, _, _, h1, _, _, h6, h7, _⟩ := row
  exact ⟨dx, c, k, d, e, h1, (fun z => by rw [← z, hW] at h6; cases h6), fun z => by rw [← z, hW] at h7; cases h7⟩
end SR
set_option Elab.async false
set_option linter.all false
set_option maxRecDepth 100000
set_option maxHeartbeats 2000000
namespace SR
open PySem PySem.Spec PyProof.Rows L2
/-- what all sweeps of each capacity pick up, from the least capacity on -/
def allPk (cs ts : List (Int × Int)) (L : List Int) : List (Int × Int) := L.map fun y => (y, cnt cs y * pkT y ts)
end SR
set_option Elab.async false
set_option linter.all false
set_option maxRecDepth 100000
set_option maxHeartbeats 2000000
set_option Elab.async false
set_option linter.all false
set_option maxRecDepth 100000
set_option maxHeartbeats 4000000
set_option Elab.async false
set_option linter.all false
set_option maxRecDepth 100000
set_option maxHeartbeats 1000000
set_option Elab.async false
set_option linter.all false
set_option maxRecDepth 100000
set_option maxHeartbeats 1000000
set_option Elab.async false
set_option linter.all false
set_option maxRecDepth 100000
set_option maxHeartbeats 1000000
set_option Elab.async false
set_option linter.all false
set_option maxRecDepth 100000
set_option maxHeartbeats 2000000
set_option Elab.async false
set_option linter.all false
set_option maxRecDepth 100000
set_option maxHeartbeats 4000000
namespace SR
open PySem PySem.Spec PyProof.Rows L2
theorem lc_d {K : PySem.W.Frag} {te : TE} {g : TG} {tt : TT} {telt : TE} {vs : List Nat} {σ : L2.St} {H0 : Hp} {Q : VK} {Cc : Addr → Hp → Prop} (hte : ∀ R : VK, (∀ a H, Cc a H → R (.ref a) H) → te σ H0 R)
    (go : ∀ a H, Cc a H → tLc (iList K (fun _ H' R => R (.ref a) H')) g tt telt vs σ H Q) : tLc (iList K te) g tt telt vs σ H0 Q := hte _ fun a H hc => go a H hc
end SR
set_option Elab.async false
set_option linter.all false
set_option maxRecDepth 100000
set_option maxHeartbeats 4000000
set_option Elab.async false
set_option linter.all false
set_option maxRecDepth 100000
set_option maxHeartbeats 4000000
set_option Elab.async false
set_option linter.all false
set_option maxRecDepth 100000
set_option maxHeartbeats 4000000
set_option Elab.async false
set_option linter.all false
set_option maxRecDepth 100000
set_option maxHeartbeats 4000000
set_option Elab.async false
set_option linter.all false
set_option maxRecDepth 100000
set_option maxHeartbeats 4000000
namespace SR
open PySem PySem.Spec PyProof.Rows L2
def NumsOk (ns : List (Int × Int)) : Prop := (ns.map Prod.fst).Nodup ∧ ns.length ≤ 7 ∧ ∀ t ∈ ns, 1 ≤ t.1 ∧ t.1 ≤ 99 ∧ -6 ≤ t.2 ∧ t.2 ≤ 6
end SR
set_option Elab.async false
set_option linter.all false
set_option maxRecDepth 100000
set_option maxHeartbeats 4000000
set_option Elab.async false
set_option linter.all false
set_option maxRecDepth 100000
set_option maxHeartbeats 4000000
set_option Elab.async false
set_option linter.all false
set_option maxRecDepth 100000
set_option maxHeartbeats 4000000
set_option Elab.async false
set_option linter.all false
set_option maxRecDepth 100000
set_option maxHeartbeats 4000000
namespace SR
open PySem PySem.Spec PyProof.Rows L2
theorem StB.but {H H' : Hp} {d g c U : Addr} {b : Nat} (S : StB H d g c b) (k : SameBut U H H') (u1 : d ≠ U) (u2 : g ≠ U) (u3 : c ≠ U) : StB H' d g c b := by
  obtain ⟨r, t, gs, cs, h1, h2, h3, h4⟩ := S
  exact ⟨r, t, gs, cs, k _ _ u1 h1, k _ _ u2 h2, k _ _ u3 h3, h4⟩
end SR
set_option Elab.async false
set_option linter.all false
set_option maxRecDepth 100000
set_option maxHeartbeats 4000000
set_option Elab.async false
set_option linter.all false
set_option maxRecDepth 100000
set_option maxHeartbeats 4000000
namespace SR
open PySem PySem.Spec PyProof.Rows L2
def spRuns (K : PySem.W.Frag) (C B : Addr) : Sp := fun vs H Q E => ∃ x ps ks, vs = [.ref x] ∧ RowAt K C H x ps ks ∧ ps.length ≤ 100 ∧
  (ks ≠ [] → ∀ H' d, Same H H' → H' d = none → E (.ref B) (some d) (upd H' d (.xd [("field", .str "plain")]))) ∧
  (ks = [] → ∀ A H', H A = none → Same H H' → Blk H' A (blkOf (ps.map Prod.fst)) → Q (.ref A) H')
def t_runs (K : PySem.W.Frag) (c_BadRow : Addr) (c_Row : Addr) (E : XK) : TS := tSeq (tIfS (tNot (tB (tCall (spPlainRow K c_Row) [] E0 (tCons (tVar 0) (tNil)))))
  (tOutF c_BadRow E "field" (.str "plain"))
  (tNext))
  (tRet (tCall (spRunsIn K c_Row) [] E0 (tCons (tVar 0) (tNil))))
theorem pure_runs {K : PySem.W.Frag} {C B : Addr} (vs : List V) (H : Hp) (Q : VK) (E : XK) (h : spRuns K C B vs H Q E) : t_runs K B C E { nx := fun _ H' => Q .non H', rt := Q } (start ["row"] vs) H := by
  obtain ⟨x, ps, ks, rfl, row, len, q1, q2⟩ := h
  refine ⟨_, rfl, x, ps, ks, rfl, row, _, rfl, ?_⟩
  cases ks with
  | cons k ks => exact iteT fun d hd => q1 (fun z => nomatch z) H d (fun _ _ h => h) hd
  | nil => exact iteF ⟨_, rfl, x, ps, [], rfl, row, len, fun A H' hA s b => q2 rfl A H' hA s b⟩
end SR
set_option Elab.async false
set_option linter.all false
set_option maxRecDepth 100000
set_option maxHeartbeats 2000000
namespace SR
open PySem PySem.Spec PyProof.Rows L2
/-- what is known of a turn, its boxes drawn -/
structure B14 (qs ps ks : List (Int × Int)) (far : Int) : Prop where
  v : Vd ps ks
  pm : qs.Perm ps
  bd : ∀ p ∈ ps, -60 ≤ p.1 ∧ p.1 ≤ 250
  fk : far = 0 ∨ ks = []
  f1 : -(10 ^ 29) ≤ far
  f2 : far ≤ 10 ^ 29
section
variable {qs ps ks : List (Int × Int)} {far : Int}
theorem B14.nd (B : B14 qs ps ks far) : (qs.map Prod.fst).Nodup := (B.pm.map _).nodup_iff.mpr B.v.ok.nd
theorem B14.len (B : B14 qs ps ks far) : ps.length ≤ 40 := vd_len B.v
end
structure J14 (H : Hp) (d g c : Addr) (b : Nat) (qs ps ks : List (Int × Int)) (far : Int) (F Z : Addr) : Prop where
  S : StB H d g c b
  f : H F = some (.dK (kvsOf qs))
  z : H Z = some (.dK (kvsOf ks))
  B : B14 qs ps ks far
section
variable {K : PySem.W.Frag} {C : Addr} {N N2 N3 : L2.St → Hp → Prop} {R : VK} {H : Hp} {d g c F Z : Addr} {b : Nat} {qs ps ks : List (Int × Int)} {far : Int}
theorem J14.same {H' : Hp} (s : Same H H') (J : J14 H d g c b qs ps ks far F Z) : J14 H' d g c b qs ps ks far F Z := ⟨StB.same s J.S, s _ _ J.f, s _ _ J.z, J.B⟩
/-- what is known of the dict while it is filled -/
structure U14 (ks us : List (Int × Int)) (i : Nat) : Prop where
  nd : (us.map Prod.fst).Nodup
  ok : ∀ p ∈ us, 1 ≤ p.2 ∧ p.2 ≤ cap ks p.1
  bd : ∀ p ∈ us, -60 ≤ p.1 ∧ p.1 ≤ 60
  sm : total us ≤ 20 + 9 * (i : Int)
theorem U14.len {us : List (Int × Int)} {i : Nat} (u : U14 ks us i) : (us.length : Int) ≤ 20 + 9 * (i : Int) := by
  have h := len_sum fun p m => (u.ok p m).1
  have s := u.sm
  unfold total at s
  omega
end
end SR
set_option Elab.async false
set_option linter.all false
set_option maxRecDepth 100000
set_option maxHeartbeats 4000000
set_option Elab.async false
set_option linter.all false
set_option maxRecDepth 100000
set_option maxHeartbeats 4000000
namespace SR
open PySem PySem.Spec PyProof.Rows L2
theorem drop_at {α : Type} {l : List α} {i : Nat} {x : α} (h : l[i]? = some x) : l.drop i = x :: l.drop (i + 1) := by
  obtain ⟨hl, e⟩ := List.getElem?_eq_some_iff.mp h
  rw [List.drop_eq_getElem_cons hl, e]
end SR
set_option Elab.async false
set_option linter.all false
set_option maxRecDepth 100000
set_option maxHeartbeats 4000000
namespace SR
open PySem PySem.Spec PyProof.Rows L2
theorem nuMax2_int (i j : Int) : nuMax2 (.int i) (.int j) = some (.int (max i j)) := by
  show some (if decide (i < j) = true then V.int j else V.int i) = _
  by_cases h : i < j
  · rw [decide_eq_true h, if_pos rfl, show max i j = j by omega]
  · rw [decide_eq_false h, if_neg Bool.false_ne_true, show max i j = i by omega]
theorem nuMax3_int (i j k : Int) : nuMax3 (.int i) (.int j) (.int k) = some (.int (max (max i j) k)) := by
  show (nuMax2 (.int i) (.int j)).bind (fun m => nuMax2 m (.int k)) = _
  rw [nuMax2_int]
  exact nuMax2_int _ _
/-- the first N + 1 values -/
def rg (N : Nat) (f : Sq) : List Int := (List.range (N + 1)).map f
theorem rg_len (N : Nat) (f : Sq) : (rg N f).length = N + 1 := by
  unfold rg
  rw [List.length_map, List.length_range]
theorem rgV_len (N : Nat) (f : Sq) : ((rg N f).map V.int).length = N + 1 := by rw [List.length_map, rg_len]
theorem rg_at {N i : Nat} (f : Sq) (h : i ≤ N) : (rg N f)[i]? = some (f i) := by
  unfold rg
  rw [List.getElem?_map, List.getElem?_range (by omega)]
  rfl
theorem rgV_at {N i : Nat} (f : Sq) (h : i ≤ N) : ((rg N f).map V.int)[i]? = some (.int (f i)) := by
  rw [List.getElem?_map, rg_at f h]
  rfl
theorem rg_succ (N : Nat) (f : Sq) : rg (N + 1) f = rg N f ++ [f (N + 1)] := by
  unfold rg
  rw [List.range_succ, List.map_append]
  rfl
theorem rg_take {N i : Nat} (f : Sq) (h : i ≤ N) : (rg N f).take (i + 1) = (rg N f).take i ++ [f i] := by
  rw [List.take_succ, rg_at f h]
  rfl
theorem rg_px {N i : Nat} (f : Sq) (h : i ≤ N) : (rg N f).take (i + 1) = rg i f := by
  unfold rg
  rw [← List.map_take, List.take_range, show min (i + 1) (N + 1) = i + 1 by omega]
def t_zip81 (K : PySem.W.Frag) : TE := (tLc (iZip K (tCons (tVar 3) (tCons (tVar 4) (tNil)))) (gTup K 2 (gCons (gName 11) (gCons (gName 12) (gNil)))) (tYes) (tCB qMax2 (tCons (tVar 11) (tCons (tVar 12) (tNil)))) [11, 12])
section
variable {K : PySem.W.Frag} {H H' : Hp} {A C E G : Addr} {N : Nat} {f h : Sq} {Q : VK} {x0 x1 x2 x3 x4 x5 x6 x7 x8 x9 x10 x11 x12 x13 : Option V} {Nx N2 N3 : L2.St → Hp → Prop} {z s g : Int}
theorem zip81 (nl : N ≤ 100) (hC : H C = some (.lst ((rg N f).map V.int))) (hE : H E = some (.lst ((rg N h).map V.int))) (q : ∀ D H', H D = none → Same H H' → H' D = some (.lst ((rg N (fun j => max (f j) (h j))).map V.int)) → Q (.ref D) H') :
    t_zip81 K [x0, x1, x2, some (.ref C), some (.ref E), x5, x6, x7, x8, x9, x10, x11, x12, x13] H Q := by
  refine ⟨_, rfl, _, rfl, C, E, _, _, rfl, SqL.of hC, SqL.of hE, fun D hD => ?_⟩
  refine lc_it (walk_zip (K := K) (a := C) (b := E) (xs := (rg N f).map V.int) (ys := (rg N h).map V.int) (n := N + 1) (by rw [rgV_len, rgV_len]; omega)) (fun i H3 => Same H H3 ∧ H3 D = some (.lst (((rg N (fun j => max (f j) (h j))).take i).map V.int))) ⟨same_new hD, upd_same⟩ ?_ ?_ ?_
  · rintro i H3 _ ⟨s3, _⟩
    exact ⟨SqL.of (s3 _ _ hC), SqL.of (s3 _ _ hE)⟩
  · rintro i v H3 H4 hi ⟨s3, d3⟩ ⟨T, v1, v2, rfl, hT, rfl, e1, e2⟩
    obtain rfl := Option.some.inj ((show ((rg N f).map V.int)[i]? = some v1 from e1).symm.trans (rgV_at f (by omega)))
    obtain rfl := Option.some.inj ((show ((rg N h).map V.int)[i]? = some v2 from e2).symm.trans (rgV_at h (by omega)))
    have s4 := same_new (o := .tup [.int (f i), .int (h i)]) hT
    have T4 : upd H3 T (.tup [.int (f i), .int (h i)]) T = some (.tup [.int (f i), .int (h i)]) := upd_same
    have d4 := s4 _ _ d3
    generalize upd H3 T (.tup [.int (f i), .int (h i)]) = H4 at s4 T4 d4 ⊢
    refine ⟨T, _, rfl, SqT.of T4, rfl, _, _, rfl, _, _, rfl, rfl, rfl, ?_⟩
    refine yes_if ⟨_, rfl, _, rfl, _, _, rfl, _, d4, ?_, same_upd (s3.trans s4) hD, ?_⟩
    · rw [List.length_map, List.length_take]
      exact Nat.lt_of_le_of_lt (show min i (rg N fun j => max (f j) (h j)).length ≤ 1000 by omega) (by decide)
    · rw [upd_same, rg_take _ (by omega), List.map_append]
      have e : (if h i > f i then h i else f i) = max (f i) (h i) := by split <;> omega
      rw [e]
      rfl
  · rintro H3 ⟨s3, d3⟩
    rw [show N + 1 = (rg N fun j => max (f j) (h j)).length from (rg_len _ _).symm, List.take_length] at d3
    exact q D H3 hD s3 d3
def t_in81 (K : PySem.W.Frag) : TS := (tSeq (tAsg (tLst (tCons (tVar 2) (tNil))) (gName 9))
  (tFor (iRng2 (tCons (tC (.int 1)) (tCons (tOp qAdd (tVar 1) (tC (.int 1))) (tNil)))) (gName 10)
  (tDrop (tBM K "list" rAppend (tVar 9) (tCons (tOp qAdd (tVar 7) (tCB (rNuC3 nuMax3) (tCons (tOp qSub (tOp (rIxL K) (tVar 4) (tVar 10)) (tVar 8)) (tCons (tOp (rIxL K) (tVar 3) (tOp qSub (tVar 10) (tC (.int 1)))) (tCons (tOp (rIxL K) (tVar 4) (tOp qSub (tVar 10) (tC (.int 1)))) (tNil)))))) (tNil))))))
theorem in81 (nl : N ≤ 100) (hC : H C = some (.lst ((rg N f).map V.int))) (hE : H E = some (.lst ((rg N h).map V.int)))
    (q : ∀ G y10 H', H G = none → Same H H' → H' G = some (.lst ((rg N (nxH z s g f h)).map V.int)) → Nx [x0, some (.int (N : Int)), some (.int z), some (.ref C), some (.ref E), x5, x6, some (.int s), some (.int g), some (.ref G), y10, x11, x12, x13] H') :
    t_in81 K { nx := Nx, rt := Q, bk := N2, ct := N3 } [x0, some (.int (N : Int)), some (.int z), some (.ref C), some (.ref E), x5, x6, some (.int s), some (.int g), x9, x10, x11, x12, x13] H := by
  refine ⟨_, rfl, SR.sz (by show 1 ≤ 1000; decide), fun G hG => ?_⟩
  have s1 := same_new (o := .lst [.int z]) hG
  have G1 : upd H G (.lst [.int z]) G = some (.lst [.int z]) := upd_same
  generalize upd H G (.lst [.int z]) = H1 at s1 G1 ⊢
  refine ⟨_, rfl, _, _, rfl, rfl, 1, _, rfl, ⟨by omega, by omega, by omega, by omega⟩, ?_⟩
  rw [show ((N : Int) + 1 - 1).toNat = N by omega]
  have nC : C ≠ G := ne_of_none hC hG
  have nE : E ≠ G := ne_of_none hE hG
  refine for_range (lo := 1) (n := N) (fun i σ H2 => Same H H2 ∧ H2 G = some (.lst ((rg i (nxH z s g f h)).map V.int)) ∧ ∃ y10, σ = [x0, some (.int (N : Int)), some (.int z), some (.ref C), some (.ref E), x5, x6, some (.int s), some (.int g), some (.ref G), y10, x11, x12, x13]) ⟨s1, G1, _, rfl⟩ ?_ ?_
  · rintro i σ H2 hi ⟨s2, G2, y10, rfl⟩
    have C2 := s2 _ _ hC
    have E2 := s2 _ _ hE
    have a1 : atI ((rg N h).map V.int) (1 + (i : Int)) = some (.int (h (i + 1))) := by
      rw [show 1 + (i : Int) = ((i + 1 : Nat) : Int) by omega]
      exact atI_nat (rgV_at h (by omega))
    have a2 : atI ((rg N f).map V.int) (1 + (i : Int) - 1) = some (.int (f i)) := by
      rw [show 1 + (i : Int) - 1 = ((i : Nat) : Int) by omega]
      exact atI_nat (rgV_at f (by omega))
    have a3 : atI ((rg N h).map V.int) (1 + (i : Int) - 1) = some (.int (h i)) := by
      rw [show 1 + (i : Int) - 1 = ((i : Nat) : Int) by omega]
      exact atI_nat (rgV_at h (by omega))
    refine ⟨_, rfl, .inl ⟨rfl, _, SqL.of G2⟩, _, rfl, _, rfl, _, rfl, E, _, _, _, rfl, rfl, SqL.of E2, a1, _, rfl, _, _, rfl, rfl, _, rfl, _, rfl, _, _, rfl, rfl, C, _, _, _, rfl, rfl, SqL.of C2, a2, _, rfl, _, rfl, _, _, rfl, rfl, E, _, _, _, rfl, rfl, SqL.of E2, a3, _, _, _, _, rfl, nuMax3_int _ _ _, _, _, rfl, rfl, G, _, _, rfl, rfl, G2, ?_, ?_⟩
    · rw [rgV_len]
      exact Nat.lt_of_le_of_lt (show i + 1 ≤ 1000 by omega) (by decide)
    · refine ⟨same_upd s2 hG, ?_, _, rfl⟩
      rw [upd_same, rg_succ, List.map_append]
      rfl
  · rintro σ H2 ⟨s2, G2, y10, rfl⟩
    exact q G y10 H2 hG s2 G2
end
end SR
set_option Elab.async false
set_option linter.all false
set_option maxRecDepth 100000
set_option maxHeartbeats 4000000
namespace SR
open PySem PySem.Spec PyProof.Rows L2
def t_gap81 (K : PySem.W.Frag) : TS := (tAsg (tIf (tTest (tOp qGt (tVar 5) (tC (.int 0)))) (tOp qSub (tOp qSub (tVar 6) (tOp (rIxT K) (tOp (rIxL K) (tVar 0) (tOp qSub (tVar 5) (tC (.int 1)))) (tC (.int 0)))) (tOp (rIxT K) (tOp (rIxL K) (tVar 0) (tOp qSub (tVar 5) (tC (.int 1)))) (tC (.int 1)))) (tC (.int 0))) (gName 8))
def t_end81 (K : PySem.W.Frag) : TS := (tSeq (tAsg (t_zip81 K) (gName 3))
  (tAsg (tVar 9) (gName 4)))
def t_bd81 (K : PySem.W.Frag) : TS := (tSeq (t_gap81 K)
  (tSeq (tAsg (tLst (tCons (tVar 2) (tNil))) (gName 9))
  (tSeq (tFor (iRng2 (tCons (tC (.int 1)) (tCons (tOp qAdd (tVar 1) (tC (.int 1))) (tNil)))) (gName 10)
  (tDrop (tBM K "list" rAppend (tVar 9) (tCons (tOp qAdd (tVar 7) (tCB (rNuC3 nuMax3) (tCons (tOp qSub (tOp (rIxL K) (tVar 4) (tVar 10)) (tVar 8)) (tCons (tOp (rIxL K) (tVar 3) (tOp qSub (tVar 10) (tC (.int 1)))) (tCons (tOp (rIxL K) (tVar 4) (tOp qSub (tVar 10) (tC (.int 1)))) (tNil)))))) (tNil)))))
  (t_end81 K))))
def t_fin81 (K : PySem.W.Frag) : TS := (tSeq (tAsg (t_zip81 K) (gName 13))
  (tRet (tLc (iRng1 (tCons (tOp qAdd (tVar 1) (tC (.int 1))) (tNil))) (gName 10) (tYes) (tCB (rMax K) (tCons (tSl (rSlL K) (tVar 13) (tNoPart) (tPart (tOp qAdd (tVar 10) (tC (.int 1))))) (tNil))) [10])))
section
variable {K : PySem.W.Frag} {H H' : Hp} {A C E G : Addr} {N : Nat} {f h : Sq} {Q : VK} {x0 x1 x2 x3 x4 x5 x6 x7 x8 x9 x10 x11 x12 x13 : Option V} {Nx N2 N3 : L2.St → Hp → Prop} {z s g y : Int} {ts : List Addr} {rs : List (Int × Int)} {L : List Int}
theorem gap81 {i : Nat} (hA : H A = some (.lst (ts.map V.ref))) (pr : Paired (TupAt H) ts rs) (il : i ≤ rs.length)
    (h0 : i = 0 → Nx [some (.ref A), x1, x2, x3, x4, some (.int (i : Int)), some (.int y), x7, some (.int 0), x9, x10, x11, x12, x13] H)
    (h1 : ∀ k p, i = k + 1 → rs[k]? = some p → Nx [some (.ref A), x1, x2, x3, x4, some (.int (i : Int)), some (.int y), x7, some (.int (y - p.1 - p.2)), x9, x10, x11, x12, x13] H) :
    t_gap81 K { nx := Nx, rt := Q, bk := N2, ct := N3 } [some (.ref A), x1, x2, x3, x4, some (.int (i : Int)), some (.int y), x7, x8, x9, x10, x11, x12, x13] H := by
  refine ⟨_, rfl, _, _, rfl, rfl, _, rfl, ?_⟩
  by_cases e : (i : Int) > 0
  · rw [decide_eq_true e]
    obtain ⟨k, rfl⟩ : ∃ k, i = k + 1 := ⟨i - 1, by omega⟩
    have hk : rs[k]? = some rs[k] := List.getElem?_eq_getElem (by omega)
    have tl := paired_len pr
    have htk : ts[k]? = some ts[k] := List.getElem?_eq_getElem (by omega)
    obtain ⟨p, hp, tp⟩ := paired_at pr htk
    obtain rfl := Option.some.inj (hk.symm.trans hp)
    have TP : H ts[k] = some (.tup [.int (rs[k]).1, .int (rs[k]).2]) := tp
    have a1 : atI (ts.map V.ref) (((k + 1 : Nat) : Int) - 1) = some (.ref ts[k]) := by
      rw [show ((k + 1 : Nat) : Int) - 1 = ((k : Nat) : Int) by omega]
      refine atI_nat ?_
      rw [List.getElem?_map, htk]
      rfl
    exact iteT ⟨_, rfl, _, rfl, _, rfl, _, _, rfl, rfl, A, _, _, _, rfl, rfl, SqL.of hA, a1, ts[k], _, _, _, rfl, rfl, SqT.of TP, rfl, _, _, rfl, rfl, _, rfl, _, rfl, _, _, rfl, rfl, A, _, _, _, rfl, rfl, SqL.of hA, a1, ts[k], _, _, _, rfl, rfl, SqT.of TP, rfl, _, _, rfl, rfl, h1 k _ rfl hk⟩
  · rw [decide_eq_false e]
    exact iteF (h0 (by omega))
theorem bd81 {i : Nat} {st : Sq × Sq} (nl : N ≤ 100) (hA : H A = some (.lst (ts.map V.ref))) (pr : Paired (TupAt H) ts rs) (il : i ≤ rs.length) (hC : H C = some (.lst ((rg N f).map V.int))) (hE : H E = some (.lst ((rg N h).map V.int))) (b : Bs N st f h) (z0 : z ≤ 0) (s0 : 0 ≤ s) (g0 : 0 ≤ g)
    (e0 : i = 0 → g = 0) (e1 : ∀ k p, i = k + 1 → rs[k]? = some p → g = y - p.1 - p.2)
    (q : ∀ C' E' f' h' y8 y9 y10 H', Same H H' → H' C' = some (.lst ((rg N f').map V.int)) → H' E' = some (.lst ((rg N h').map V.int)) → Bs N (bigS s (gapS g st)) f' h' → Nx [some (.ref A), some (.int (N : Int)), some (.int z), some (.ref C'), some (.ref E'), some (.int (i : Int)), some (.int y), some (.int s), y8, y9, y10, x11, x12, x13] H') :
    t_bd81 K { nx := Nx, rt := Q, bk := N2, ct := N3 } [some (.ref A), some (.int (N : Int)), some (.int z), some (.ref C), some (.ref E), some (.int (i : Int)), some (.int y), some (.int s), x8, x9, x10, x11, x12, x13] H := by
  have rest : t_in81 K { nx := t_end81 K { nx := Nx, rt := Q, bk := N2, ct := N3 }, rt := Q, bk := N2, ct := N3 } [some (.ref A), some (.int (N : Int)), some (.int z), some (.ref C), some (.ref E), some (.int (i : Int)), some (.int y), some (.int s), some (.int g), x9, x10, x11, x12, x13] H := by
    refine in81 (z := z) (s := s) (g := g) nl hC hE fun G y10 H1 hG s1 G1 => ?_
    refine seq_go (asg_go (zip81 nl (s1 _ _ hC) (s1 _ _ hE) fun D H2 hD s2 D2 => ?_))
    refine ⟨_, rfl, ?_⟩
    exact q D G _ _ _ _ _ H2 (s1.trans s2) D2 (s2 _ _ G1) (b.step z0 s0 g0)
  show t_gap81 K { nx := t_in81 K { nx := t_end81 K { nx := Nx, rt := Q, bk := N2, ct := N3 }, rt := Q, bk := N2, ct := N3 }, rt := Q, bk := N2, ct := N3 } [some (.ref A), some (.int (N : Int)), some (.int z), some (.ref C), some (.ref E), some (.int (i : Int)), some (.int y), some (.int s), x8, x9, x10, x11, x12, x13] H
  refine gap81 hA pr il (fun z0 => ?_) fun k p ek hp => ?_
  · rw [e0 z0] at rest
    exact rest
  · rw [e1 k p ek hp] at rest
    exact rest
theorem cut_fst (xs : List V) (n : Nat) : cutV xs none (some ((n : Nat) : Int)) = xs.take n := by
  unfold cutV
  rw [HT.sIx_none, HT.sIx_nat, List.drop_zero, Nat.sub_zero]
  by_cases e : n ≤ xs.length
  · rw [show min n xs.length = n by omega]
  · rw [show min n xs.length = xs.length by omega, List.take_length, List.take_of_length_le (by omega)]
theorem fin81 {st : Sq × Sq} (nl : N ≤ 100) (hC : H C = some (.lst ((rg N f).map V.int))) (hE : H E = some (.lst ((rg N h).map V.int))) (b : Bs N st f h) (q : ∀ D H', H D = none → Same H H' → H' D = some (.lst ((rg N st.1).map V.int)) → Q (.ref D) H') :
    t_fin81 K { nx := Nx, rt := Q, bk := N2, ct := N3 } [x0, some (.int (N : Int)), x2, some (.ref C), some (.ref E), x5, x6, x7, x8, x9, x10, x11, x12, x13] H := by
  refine seq_go (asg_go (zip81 nl hC hE fun F H1 hF s1 F1 => ?_))
  refine ⟨_, rfl, _, _, rfl, rfl, _, rfl, by omega, by omega, fun D hD => ?_⟩
  rw [show ((N : Int) + 1).toNat = N + 1 by omega]
  refine lc_it (walk_range (lo := 0) (n := N + 1)) (fun i H2 => Same H1 H2 ∧ H2 D = some (.lst (((rg N st.1).take i).map V.int))) ⟨same_new hD, upd_same⟩ (fun _ _ _ _ => trivial) ?_ ?_
  · rintro i v H2 H3 hi ⟨s2, d2⟩ ⟨rfl, rfl⟩
    refine ⟨rfl, yes_if ⟨_, rfl, _, rfl, _, _, rfl, rfl, _, rfl, F, _, rfl, SqL.of (s2 _ _ F1), fun P hP => ?_⟩⟩
    rw [show (0 : Int) + (i : Int) + 1 = ((i + 1 : Nat) : Int) by omega, cut_fst, ← List.map_take, rg_px (fun j => max (f j) (h j)) (show i ≤ N by omega)]
    have s3 := same_new (o := .lst ((rg i (fun j => max (f j) (h j))).map V.int)) hP
    refine ⟨P, _, rfl, SqL.of upd_same, by rw [rg_len]; omega, fun m mm mx => ?_⟩
    have em : m = st.1 i := by
      rw [← b.a i (by omega)]
      obtain ⟨k, hk, ek⟩ := px_mem (fun j => max (f j) (h j)) i
      have le1 := mx _ (List.mem_of_getElem? (rg_at (fun j => max (f j) (h j)) hk))
      unfold rg at mm
      obtain ⟨j, hj, ej⟩ := List.mem_map.mp mm
      have le2 := px_le (fun j => max (f j) (h j)) i j (by have := List.mem_range.mp hj; omega)
      rw [ek]
      rw [ek] at le2
      have ej : max (f j) (h j) = m := ej
      have le2 : max (f j) (h j) ≤ max (f k) (h k) := le2
      have le1 : max (f k) (h k) ≤ m := le1
      show m = max (f k) (h k)
      omega
    subst em
    have d3 := s3 _ _ d2
    refine ⟨_, d3, ?_, same_upd (s2.trans s3) hD, ?_⟩
    · rw [List.length_map, List.length_take]
      exact Nat.lt_of_le_of_lt (show min i (rg N st.1).length ≤ 1000 by omega) (by decide)
    · rw [upd_same, rg_take _ (by omega), List.map_append]
      rfl
  · rintro H2 ⟨s2, d2⟩
    rw [show N + 1 = (rg N st.1).length from (rg_len _ _).symm, List.take_length] at d2
    exact q D H2 (none_back s1 hD) (s1.trans s2) d2
def spBest81 (K : PySem.W.Frag) : Sp := fun vs H Q _ => ∃ (A : Addr) (L : List Int), vs = [.ref A] ∧ Blk H A (blkOf L) ∧ L.Pairwise (· < ·) ∧ L.length ≤ 100 ∧ ∀ D H', H D = none → Same H H' → H' D = some (.lst ((rg (blkOf L).length (bst L)).map V.int)) → Q (.ref D) H'
def t_best81 (K : PySem.W.Frag) : TS := tSeq (tAsg (tCB (qLen K) (tCons (tVar 0) (tNil))) (gName 1))
  (tSeq (tPar 2 3 (tCons (tUn (rU fun i => .int (-i)) (tOp qPow (tC (.int 10)) (tC (.int 40)))) (tCons (tLst (tCons (tC (.int 0)) (tNil))) (tNil))))
  (tSeq (tAsg (tOp rCat (tVar 3) (tOp rRep (tLst (tCons (tVar 2) (tNil))) (tVar 1))) (gName 3))
  (tSeq (tAsg (tOp rRep (tLst (tCons (tVar 2) (tNil))) (tOp qAdd (tVar 1) (tC (.int 1)))) (gName 4))
  (tSeq (tFor (iEnum K (tCons (tVar 0) (tNil))) (gTup K 2 (gCons (gName 5) (gCons (gTup K 2 (gCons (gName 6) (gCons (gName 7) (gNil)))) (gNil))))
  (t_bd81 K))
  (t_fin81 K)))))
@[irreducible] def xBd81 := @t_bd81
theorem xBd81_eq : @xBd81 = @t_bd81 := by
  unfold xBd81
  rfl
@[irreducible] def xFin81 := @t_fin81
theorem xFin81_eq : @xFin81 = @t_fin81 := by
  unfold xFin81
  rfl
theorem rep_flat (n : Nat) (v : V) : (List.replicate n [v]).flatten = List.replicate n v := by
  induction n with
  | zero => rfl
  | succ n ih =>
    rw [List.replicate_succ, List.replicate_succ, List.flatten_cons, ih]
    rfl
def fst81 (z : Int) : Sq := fun j => match j with
  | 0 => 0
  | _ + 1 => z
theorem rg_const (N : Nat) (z : Int) : (rg N fun _ => z).map V.int = List.replicate (N + 1) (.int z) := by
  unfold rg
  rw [List.map_map]
  have e : (V.int ∘ fun _ : Nat => z) = fun _ => V.int z := rfl
  rw [e, List.map_const', List.length_range]
theorem rg_fst (N : Nat) (z : Int) : (rg N (fst81 z)).map V.int = .int 0 :: List.replicate N (.int z) := by
  unfold rg
  rw [List.range_succ_eq_map, List.map_cons, List.map_map, List.map_cons, List.map_map]
  have e : (V.int ∘ fst81 z ∘ Nat.succ) = fun _ => V.int z := rfl
  rw [e, List.map_const', List.length_range]
  rfl
theorem pure_best81 (vs : List V) (H : Hp) (Q : VK) (E : XK) (h : spBest81 K vs H Q E) : t_best81 K { nx := fun _ H' => Q .non H', rt := Q } (start ["told", "many", "none", "closed", "held", "at", "place", "size", "gap", "fresh", "number", "one", "other", "found"] vs) H := by
  obtain ⟨A, L, rfl, ⟨ts, hA, pr⟩, asc, ll, q⟩ := h
  unfold t_best81
  rw [← xBd81_eq, ← xFin81_eq]
  have tl : (ts.map V.ref).length = (blkOf L).length := by rw [List.length_map, paired_len pr]
  have nl : (blkOf L).length ≤ 100 := Nat.le_trans (blkOf_len L) ll
  obtain ⟨q0, R0, D0, F0⟩ := blk_rns asc
  generalize er : blkOf L = rs at pr tl nl q R0 D0 F0
  refine ⟨_, rfl, A, _, rfl, .inl (SqL.of hA), ?_⟩
  rw [tl]
  obtain ⟨z, ez⟩ : ∃ z, z = -((10 : Int) ^ (40 : Int).toNat) := ⟨_, rfl⟩
  refine ⟨10, 40, rfl, rfl, ⟨by decide, by decide, by decide⟩, _, rfl, SR.sz (by show 1 ≤ 1000; decide), fun C0 hC0 => ⟨V.int z, .ref C0, by subst ez; rfl, ?_⟩⟩
  have z0 : z ≤ 0 := by
    have : -((10 : Int) ^ (40 : Int).toNat) ≤ 0 := by decide +kernel
    rw [ez]
    exact this
  clear ez
  have s1 := same_new (o := .lst [.int 0]) hC0
  have C1 : upd H C0 (.lst [.int 0]) C0 = some (.lst [.int 0]) := upd_same
  generalize upd H C0 (.lst [.int 0]) = H1 at s1 C1 ⊢
  refine ⟨_, rfl, _, rfl, SR.sz (by show 1 ≤ 1000; decide), fun B hB => ?_⟩
  have s2 := same_new (o := .lst [.int z]) hB
  have B2 : upd H1 B (.lst [.int z]) B = some (.lst [.int z]) := upd_same
  have C2 := s2 _ _ C1
  generalize upd H1 B (.lst [.int z]) = H2 at s2 B2 C2 ⊢
  refine ⟨_, rfl, B, _, _, rfl, rfl, B2, by omega, by omega, ?_, fun P hP => ?_⟩
  · show 1 * ((rs.length : Nat) : Int).toNat ≤ sizeLine
    rw [Int.toNat_natCast]
    exact Nat.le_trans (show 1 * rs.length ≤ 1000 by omega) (by decide)
  rw [Int.toNat_natCast, rep_flat]
  have s3 := same_new (o := .lst (List.replicate rs.length (V.int z))) hP
  have P3 : upd H2 P (.lst (List.replicate rs.length (V.int z))) P = some (.lst (List.replicate rs.length (V.int z))) := upd_same
  have C3 := s3 _ _ C2
  generalize upd H2 P (.lst (List.replicate rs.length (V.int z))) = H3 at s3 P3 C3 ⊢
  refine ⟨C0, P, _, _, rfl, rfl, C3, P3, ?_, fun C hC => ?_⟩
  · rw [List.length_replicate]
    exact Nat.le_trans (show [V.int 0].length + rs.length ≤ 1000 by show 1 + rs.length ≤ 1000; omega) (by decide)
  have e4 : [V.int 0] ++ List.replicate rs.length (V.int z) = (rg rs.length (fst81 z)).map V.int := (rg_fst rs.length z).symm
  rw [e4]
  have s4 := same_new (o := .lst ((rg rs.length (fst81 z)).map V.int)) hC
  have C4 : upd H3 C (.lst ((rg rs.length (fst81 z)).map V.int)) C = some (.lst ((rg rs.length (fst81 z)).map V.int)) := upd_same
  generalize upd H3 C (.lst ((rg rs.length (fst81 z)).map V.int)) = H4 at s4 C4 ⊢
  refine ⟨_, rfl, SR.sz (by show 1 ≤ 1000; decide), fun B' hB' => ?_⟩
  have s5 := same_new (o := .lst [.int z]) hB'
  have B5 : upd H4 B' (.lst [.int z]) B' = some (.lst [.int z]) := upd_same
  have C5 := s5 _ _ C4
  generalize upd H4 B' (.lst [.int z]) = H5 at s5 B5 C5 ⊢
  refine ⟨_, rfl, _, _, rfl, rfl, B', _, _, rfl, rfl, B5, by omega, by omega, ?_, fun E hE => ?_⟩
  · show 1 * (((rs.length : Nat) : Int) + 1).toNat ≤ sizeLine
    exact Nat.le_trans (show 1 * (((rs.length : Nat) : Int) + 1).toNat ≤ 1000 by omega) (by decide)
  rw [show (((rs.length : Nat) : Int) + 1).toNat = rs.length + 1 by omega, rep_flat, ← rg_const]
  have s6 := same_new (o := .lst ((rg rs.length fun _ => z).map V.int)) hE
  have E6 : upd H5 E (.lst ((rg rs.length fun _ => z).map V.int)) E = some (.lst ((rg rs.length fun _ => z).map V.int)) := upd_same
  have C6 := s6 _ _ C5
  have s06 := s1.trans (s2.trans (s3.trans (s4.trans (s5.trans s6))))
  generalize upd H5 E (.lst ((rg rs.length fun _ => z).map V.int)) = H6 at s6 E6 C6 s06 ⊢
  have A6 := s06 _ _ hA
  have pr6 := paired_imp (fun _ _ w => s06 _ _ w) pr
  refine ⟨_, rfl, A, _, rfl, SqL.of A6, ?_⟩
  refine for_it (walk_enum (K := K) (a := A) (xs := ts.map V.ref)) (fun i σ H7 => Same H6 H7 ∧ ∃ f h C E st qq y5 y6 y7 y8 y9 y10 y11 y12 y13, H7 C = some (.lst ((rg rs.length f).map V.int)) ∧ H7 E = some (.lst ((rg rs.length h).map V.int)) ∧ Bs rs.length st f h ∧ Rns (rs.drop i) qq ∧ (dpR (rs.drop i) qq st).1 = bst L ∧
      (i = 0 → ∀ p rs', rs = p :: rs' → qq = p.1) ∧ (∀ k, i = k + 1 → ∀ p, rs[k]? = some p → qq = p.1 + p.2) ∧ σ = [some (.ref A), some (.int ((rs.length : Nat) : Int)), some (.int z), some (.ref C), some (.ref E), y5, y6, y7, y8, y9, y10, y11, y12, y13])
    ⟨fun _ _ h => h, fst81 z, fun _ => z, C, E, zeS, q0, _, _, _, _, _, _, _, _, _, C6, E6, Bs.start z0, R0, D0, fun _ => F0, fun k e => by omega, rfl⟩ ?_ ?_ ?_
  · rintro i σ H7 _ ⟨s7, _⟩
    exact SqL.of (s7 _ _ A6)
  · rintro i v σ H7 H8 hi ⟨s7, f, h, C, E, st, qq, y5, y6, y7, y8, y9, y10, y11, y12, y13, C7, E7, b, R, D, f0, f1, rfl⟩ ⟨T, v1, v2, rfl, hT, rfl, e1, e2⟩
    obtain rfl := Option.some.inj (show some (V.int ((i : Nat) : Int)) = some v1 from e1)
    rw [tl] at hi
    have tl' := paired_len pr6
    have htk : ts[i]? = some ts[i] := List.getElem?_eq_getElem (by omega)
    obtain rfl := Option.some.inj ((show (ts.map V.ref)[i]? = some v2 from e2).symm.trans (show (ts.map V.ref)[i]? = some (V.ref ts[i]) by rw [List.getElem?_map, htk]; rfl))
    obtain ⟨p, hp, tp⟩ := paired_at pr6 htk
    have s8 := same_new (o := .tup [.int ((i : Nat) : Int), .ref ts[i]]) hT
    have T8 : upd H7 T (.tup [.int ((i : Nat) : Int), .ref ts[i]]) T = some (.tup [.int ((i : Nat) : Int), .ref ts[i]]) := upd_same
    have U8 : upd H7 T (.tup [.int ((i : Nat) : Int), .ref ts[i]]) ts[i] = some (.tup [.int p.1, .int p.2]) := s8 _ _ (s7 _ _ tp)
    generalize upd H7 T (.tup [.int ((i : Nat) : Int), .ref ts[i]]) = H8 at s8 T8 U8 ⊢
    have s68 := s7.trans s8
    refine ⟨T, _, rfl, SqT.of T8, rfl, _, _, rfl, _, _, rfl, ts[i], _, rfl, SqT.of U8, rfl, _, _, rfl, _, _, rfl, rfl, rfl, ?_⟩
    show xBd81 K _ [some (.ref A), some (.int ((rs.length : Nat) : Int)), some (.int z), some (.ref C), some (.ref E), some (.int ((i : Nat) : Int)), some (.int p.1), some (.int p.2), y8, y9, y10, y11, y12, y13] H8
    rw [xBd81_eq]
    rw [drop_at hp] at R D
    obtain ⟨r1, r2, r3⟩ := R
    refine bd81 (g := p.1 - qq) nl (s68 _ _ A6) (paired_imp (fun _ _ w => s68 _ _ w) pr6) (by omega) (s8 _ _ C7) (s8 _ _ E7) b z0 (by omega) (by omega) (fun e => ?_) (fun k p' ek hp' => ?_) fun C' E' f' h' z8 z9 z10 H9 s9 C9 E9 b' => ⟨s68.trans s9, f', h', C', E', _, p.1 + p.2, _, _, _, _, _, _, _, _, _, C9, E9, b', r3, D, fun e => by omega, fun k ek p' hp' => ?_, rfl⟩
    · have : rs = p :: rs.drop 1 := by
        have := drop_at hp
        rw [e, List.drop_zero] at this
        exact this
      rw [f0 e p _ this]
      omega
    · rw [f1 k ek p' hp']
      omega
    · obtain rfl : k = i := by omega
      rw [Option.some.inj (hp.symm.trans hp')]
  · rintro σ H7 ⟨s7, f, h, C, E, st, qq, y5, y6, y7, y8, y9, y10, y11, y12, y13, C7, E7, b, R, D, f0, f1, rfl⟩
    rw [tl, List.drop_length] at D
    have D : st.1 = bst L := D
    show xFin81 K _ [some (.ref A), some (.int ((rs.length : Nat) : Int)), some (.int z), some (.ref C), some (.ref E), y5, y6, y7, y8, y9, y10, y11, y12, y13] H7
    rw [xFin81_eq]
    refine fin81 nl C7 E7 b fun D' H8 hD s8 D8 => ?_
    rw [D] at D8
    exact q D' H8 (none_back (s06.trans s7) hD) (s06.trans (s7.trans s8)) D8
end
end SR
set_option Elab.async false
set_option linter.all false
set_option maxRecDepth 100000
set_option maxHeartbeats 2000000
namespace SR
open PySem PySem.Spec PyProof.Rows L2
/-- what the steps keep -/
structure I17 (K : PySem.W.Frag) (C : Addr) (H : Hp) (d g c : Addr) (b : Nat) {ks : List (Int × Int)} (p : Rws ks) (y F Z L6 : Addr) (M : List Int) : Prop where
  S : StB H d g c b
  row : RowAt K C H y p.1 ks
  f : H F = some (.dK (kvsOf p.1))
  z : H Z = some (.dK (kvsOf ks))
  l6 : H L6 = some (.lst (M.map V.int))
  e1 : L6 ≠ d
  e2 : L6 ≠ g
  pm : M.Perm ((trP p).map Prod.fst)
section
variable {K : PySem.W.Frag} {C B : Addr} {ks : List (Int × Int)} {N N2 N3 : L2.St → Hp → Prop} {R : VK} {H : Hp} {d g c y F Z L6 : Addr} {b : Nat} {m : Int} {p : Rws ks} {M : List Int}
theorem I17.same {H' : Hp} (s : Same H H') (J : I17 K C H d g c b p y F Z L6 M) : I17 K C H' d g c b p y F Z L6 M :=
  ⟨StB.same s J.S, J.row.same s, s _ _ J.f, s _ _ J.z, s _ _ J.l6, J.e1, J.e2, J.pm⟩
theorem I17.kp {H' : Hp} {b' : Nat} (k : Kp d g H H') (S : StB H' d g c b') (J : I17 K C H d g c b p y F Z L6 M) : I17 K C H' d g c b' p y F Z L6 M :=
  ⟨S, J.row.kp J.S k, kp_dict J.S k J.f, kp_dict J.S k J.z, k _ _ J.e1 J.e2 J.l6, J.e1, J.e2, J.pm⟩
theorem picked_tr {x : Addr} {Q : VK} (row : RowAt K C H x p.1 ks) (m1 : 1 ≤ m) (m2 : m ≤ 99) (q : ∀ H', Same H H' → Q (.int (pkT m (trP p))) H') : spPicked K C B [.ref x, .int m] H Q E0 := by
  have yes : btw 1 99 (.int m) = true := btw_iff.mpr ⟨m, rfl, m1, m2⟩
  refine ⟨x, .int m, _, p.1, ks, rfl, .int m, row, p.2.ok, (fun z => by rw [yes] at z; cases z), fun m' e _ _ H' st' s1 tr => ?_⟩
  cases e
  have e := pks_tr m1 p (pks_trace p.2 m1 (good_traces p.2 m1 tr))
  rw [e]
  exact q H' s1
end
end SR
set_option Elab.async false
set_option linter.all false
set_option maxRecDepth 100000
set_option maxHeartbeats 2000000
namespace SR
open PySem PySem.Spec PyProof.Rows L2
/-- the dict at W is none of the row's own -/
def Nz (C : Addr) (H : Hp) (W x : Addr) : Prop := ∃ dx c k d e, H x = some (.ins C dx (rowFs c k d e)) ∧ W ≠ d ∧ W ≠ e
theorem Nz.all {C W x : Addr} {H : Hp} (h : Nz C H W x) : ∀ dx c k d e, H x = some (.ins C dx (rowFs c k d e)) → W ≠ d ∧ W ≠ e := fun dx c k d e h1 => by
  obtain ⟨dx', c', k', d', e', h2, n1, n2⟩ := h
  rw [h1] at h2
  have z := Option.some.inj h2
  have fe : rowFs c k d e = rowFs c' k' d' e' := by
    injection z
  unfold rowFs at fe
  injection fe with _ fe
  injection fe with _ fe
  injection fe with f3 fe
  injection fe with f4 _
  have e3 : d = d' := V.ref.inj (congrArg Prod.snd f3)
  have e4 : e = e' := V.ref.inj (congrArg Prod.snd f4)
  subst e3 e4
  exact ⟨n1, n2⟩
theorem Nz.same {C W x : Addr} {H H' : Hp} (s : Same H H') (h : Nz C H W x) : Nz C H' W x := let ⟨dx, c, k, d, e, h1, n⟩ := h; ⟨dx, c, k, d, e, s _ _ h1, n⟩
theorem Nz.kp {C W x d g c : Addr} {b : Nat} {H H' : Hp} (S : StB H d g c b) (k : Kp d g H H') (h : Nz C H W x) : Nz C H' W x := let ⟨dx, c, k', d, e, h1, n⟩ := h; ⟨dx, c, k', d, e, kp_at S k h1 (fun _ z => nomatch z) (fun _ _ z => nomatch z), n⟩
theorem Nz.put {C W x : Addr} {H H' : Hp} {kvs : List (Key × V)} (hW : H W = some (.dK kvs)) (k : ∀ a o, a ≠ W → H a = some o → H' a = some o) (h : Nz C H W x) : Nz C H' W x := by
  obtain ⟨dx, c, k', d, e, h1, n⟩ := h
  exact ⟨dx, c, k', d, e, k _ _ (fun z => by rw [z, hW] at h1; cases h1) h1, n⟩
theorem Nz.new {K : PySem.W.Frag} {C W x : Addr} {H : Hp} {ps ks : List (Int × Int)} (row : RowAt K C H x ps ks) (hW : H W = none) : Nz C H W x := by
  obtain ⟨dx, c, k, d, e, _, _, h1, _, _, h6, h7, _⟩ := row
  exact ⟨dx, c, k, d, e, h1, (fun z => by rw [← z, hW] at h6; cases h6), fun z => by rw [← z, hW] at h7; cases h7⟩
/-- what all the steps keep -/
structure J78 (K : PySem.W.Frag) (C : Addr) (H : Hp) (d g c : Addr) (b : Nat) {ks : List (Int × Int)} (p : Rws ks) (y4 y5 W : Addr) (cs : List (Int × Int)) : Prop where
  S : StB H d g c b
  r4 : RowAt K C H y4 p.1 ks
  r5 : RowAt K C H y5 (mirP p).1 (mirror ks)
  w : H W = some (.dK (kvsOf cs))
  n1 : W ≠ d
  n2 : W ≠ g
  n3 : W ≠ c
  z4 : Nz C H W y4
  z5 : Nz C H W y5
section
variable {K : PySem.W.Frag} {C B : Addr} {ks : List (Int × Int)} {N N2 N3 : L2.St → Hp → Prop} {R : VK} {H : Hp} {d g c y4 y5 y6 y8 W : Addr} {b : Nat} {p q : Rws ks} {cs : List (Int × Int)}
theorem J78.same {H' : Hp} (s : Same H H') (J : J78 K C H d g c b p y4 y5 W cs) : J78 K C H' d g c b p y4 y5 W cs :=
  ⟨StB.same s J.S, J.r4.same s, J.r5.same s, s _ _ J.w, J.n1, J.n2, J.n3, J.z4.same s, J.z5.same s⟩
theorem J78.kp {H' : Hp} {b' : Nat} (k : Kp d g H H') (S : StB H' d g c b') (J : J78 K C H d g c b p y4 y5 W cs) : J78 K C H' d g c b' p y4 y5 W cs :=
  ⟨S, J.r4.kp J.S k, J.r5.kp J.S k, k _ _ J.n1 J.n2 J.w, J.n1, J.n2, J.n3, J.z4.kp J.S k, J.z5.kp J.S k⟩
end
end SR
set_option Elab.async false
set_option linter.all false
set_option maxRecDepth 100000
set_option maxHeartbeats 4000000
namespace SR
open PySem PySem.Spec PyProof.Rows L2
section
variable {K : PySem.W.Frag} {C : Addr} {N N2 N3 : L2.St → Hp → Prop} {R : VK} {H : Hp} {d g c : Addr} {b : Nat} {ks ns gs fs : List (Int × Int)} {p : Rws ks} {F Z W G U x : Addr} {L : List Int}
/-- what stands behind the law's own sweeps -/
structure J20 (K : PySem.W.Frag) (C : Addr) (H : Hp) (d g c : Addr) (b : Nat) {ks : List (Int × Int)} (p : Rws ks) (ns gs : List (Int × Int)) (L : List Int) (F Z W G U x : Addr) : Prop where
  S : StB H d g c b
  row : RowAt K C H x p.1 ks
  hF : H F = some (.dK (kvsOf p.1))
  hZ : H Z = some (.dK (kvsOf ks))
  hW : H W = some (.dK (kvsOf ns))
  hG : H G = some (.dK (kvsOf gs))
  hU : H U = some (.dK (kvsOf (allPk ns (trP p) L)))
  gp : gs.Perm (advP ns p).1
  pL : L.Perm (ns.map Prod.fst)
  wL : L.Pairwise (· ≤ ·)
  ok : NumsOk ns
  bd : ∀ q ∈ p.1, -1000 ≤ q.1 ∧ q.1 ≤ 1000
theorem J20.same {H' : Hp} (s : Same H H') (J : J20 K C H d g c b p ns gs L F Z W G U x) : J20 K C H' d g c b p ns gs L F Z W G U x :=
  ⟨StB.same s J.S, J.row.same s, s _ _ J.hF, s _ _ J.hZ, s _ _ J.hW, s _ _ J.hG, s _ _ J.hU, J.gp, J.pL, J.wL, J.ok, J.bd⟩
theorem J20.one (J : J20 K C H d g c b p ns gs L F Z W G U x) : ∀ t ∈ ns, 1 ≤ t.1 ∧ t.1 ≤ 99 := fun t m => ⟨(J.ok.2.2 t m).1, (J.ok.2.2 t m).2.1⟩
end
end SR
set_option Elab.async false
set_option linter.all false
set_option maxRecDepth 100000
set_option maxHeartbeats 1000000
set_option Elab.async false
set_option linter.all false
set_option maxRecDepth 100000
set_option maxHeartbeats 2000000
namespace SR
open PySem PySem.Spec PyProof.Rows L2
def Agr (i : Int) (ps ks qs ls : List (Int × Int)) : Prop := ∀ j, j ≤ i → cnt ps j = cnt qs j ∧ cap ks j = cap ls j
theorem Agr.symm {i : Int} {ps ks qs ls : List (Int × Int)} (a : Agr i ps ks qs ls) : Agr i qs ls ps ks := fun j h => ⟨(a j h).1.symm, (a j h).2.symm⟩
theorem Agr.trans {i : Int} {ps ks qs ls rs ms : List (Int × Int)} (a : Agr i ps ks qs ls) (b : Agr i qs ls rs ms) : Agr i ps ks rs ms := fun j h => ⟨(a j h).1.trans (b j h).1, (a j h).2.trans (b j h).2⟩
end SR
set_option Elab.async false
set_option linter.all false
set_option maxRecDepth 100000
set_option maxHeartbeats 2000000
set_option Elab.async false
set_option linter.all false
set_option maxRecDepth 100000
set_option maxHeartbeats 4000000
set_option Elab.async false
set_option linter.all false
set_option maxRecDepth 100000
set_option maxHeartbeats 4000000
set_option Elab.async false
set_option linter.all false
set_option maxRecDepth 100000
set_option maxHeartbeats 4000000
namespace SR
open PySem PySem.Spec PyProof.Rows L2
section
variable {K : PySem.W.Frag} {C BC : Addr} {H : Hp} {N N2 N3 : L2.St → Hp → Prop}
theorem SameBut.of {F : Addr} {H H' : Hp} (s : Same H H') : SameBut F H H' := fun b o _ h => s b o h
noncomputable def giveN {ks : List (Int × Int)} (p : Rws ks) (X : Int) : Int := ((trP p).map fun t => min (cap ks X) t.1).sum
def spGivenUp (K : PySem.W.Frag) (C BC : Addr) : Sp := fun vs H Q E => ∃ (x : Addr) (v : V) (t1 : String) (X : Int) (ks : List (Int × Int)) (p : Rws ks), vs = [.ref x, v, .int X] ∧ AnyT K H v t1 ∧ RowAt K C H x p.1 ks ∧
  (btw 1 99 v = false → E (.ref BC) none H) ∧ (btw 1 99 v = true → ∀ H', Same H H' → Q (.int (giveN p X)) H')
def t_givenup (K : PySem.W.Frag) (BC C : Addr) (E : XK) : TS := tSeq (tIfS (tNot (tB (tCall (spCapacity K) [] E0 (tCons (tVar 1) (tNil)))))
  (tOut (.ref BC) E)
  (tNext))
  (tSeq (tAsg (tMeth C "capacity" (spCapacityOf K C) [] E0 (tVar 0) (tCons (tVar 2) (tNil))) (gName 3))
  (tRet (tCB (rSum K) (tCons (tLc (iList K (tCall (spLengths K C) [] E0 (tCons (tVar 0) (tNil)))) (gName 4) (tYes) (tCB qMin2 (tCons (tVar 3) (tCons (tVar 4) (tNil)))) [4]) (tNil)))))
theorem pure_givenup (vs : List V) (H : Hp) (Q : VK) (E : XK) (h : spGivenUp K C BC vs H Q E) : t_givenup K BC C E { nx := fun _ H' => Q .non H', rt := Q } (start ["row", "capacity", "index", "box_capacity", "length"] vs) H := by
  obtain ⟨x, v, t1, X, ks, p, rfl, av, row, e1, q⟩ := h
  refine seq_go (ifs_go (not_go (tb_go ⟨_, rfl, v, t1, rfl, av, _, rfl, ?_⟩)))
  cases b1 : btw 1 99 v with
  | false => exact iteT (e1 b1)
  | true =>
    obtain ⟨dx, fx, hx, no1, no2⟩ := row.ins
    refine iteF ⟨_, rfl, x, dx, fx, rfl, hx, no2, _, rfl, x, X, p.1, ks, rfl, row, p.2.ok.kd, ?_⟩
    show tRet (tCB (rSum K) (tCons (tLc (iList K (tCall (spLengths K C) [] E0 (tCons (tVar 0) (tNil)))) (gName 4) (tYes) (tCB qMin2 (tCons (tVar 3) (tCons (tVar 4) (tNil)))) [4]) (tNil))) { nx := fun _ H' => Q .non H', rt := Q } [some (.ref x), some v, some (.int X), some (.int (cap ks X)), none] H
    refine ret_go (cb_go (cons1_go (lc_d (Cc := fun a H1 => Same H H1 ∧ ∃ M : List Int, H1 a = some (.lst (M.map V.int)) ∧ M.Perm ((trP p).map Prod.fst)) (fun R r => ⟨_, rfl, x, ks, p, rfl, row, fun D H1 M hD s1 d1 pm _ => r D H1 ⟨s1, M, d1, pm⟩⟩) fun a H1 hc => ?_)))
    obtain ⟨s1, M, a1, pm⟩ := hc
    have ml : M.length ≤ 40 := by
      rw [pm.length_eq, List.length_map]
      exact trP_len p
    refine lcV (G := GI) (ys := M) (fun _ => true) (fun i => .int (min (cap ks X) i)) (fun R r => r) (SqL.of a1) ints_rel (by rw [List.length_map]) (by omega) (fun _ _ _ _ z => z) ?_ fun D H2 hD s2 d2 => ?_
    · rintro u i H' Rt Rf s' rfl m rt rf
      refine ⟨rfl, yes_if ⟨_, rfl, _, rfl, _, _, rfl, ?_⟩⟩
      have em : (if i < cap ks X then i else cap ks X) = min (cap ks X) i := by split <;> omega
      rw [em]
      exact rt rfl H' fun _ _ h => h
    · rw [all_true] at d2
      refine ⟨D, M.map fun i => min (cap ks X) i, rfl, SqL.of ?_, ?_⟩
      · rw [List.map_map]
        exact d2
      · have e : (M.map fun i => min (cap ks X) i).sum = giveN p X := by
          unfold giveN
          rw [perm_sum (pm.map _), List.map_map]
          rfl
        rw [e]
        exact q b1 H2 (s1.trans s2)
end
end SR
set_option Elab.async false
set_option linter.all false
set_option maxRecDepth 100000
set_option maxHeartbeats 4000000
namespace SR
open PySem PySem.Spec PyProof.Rows L2
section
variable {K : PySem.W.Frag} {C BC BR : Addr} {H : Hp}
def dfS (F : Sq) : Sq := fun i => F (i + 1) - F i
def spSizesBy81 (K : PySem.W.Frag) : Sp := fun vs H Q _ => ∃ (A : Addr) (N : Nat) (F : Sq), vs = [.ref A] ∧ H A = some (.lst ((rg N F).map V.int)) ∧ N ≤ 100 ∧ ∀ D H', H D = none → Same H H' → H' D = some (.lst (((List.range N).map (dfS F)).map V.int)) → Q (.ref D) H'
def t_sizesby81 (K : PySem.W.Frag) : TS := tRet (tLc (iRng1 (tCons (tOp qSub (tCB (qLen K) (tCons (tVar 0) (tNil))) (tC (.int 1))) (tNil))) (gName 1) (tYes) (tOp qSub (tOp (rIxL K) (tVar 0) (tOp qAdd (tVar 1) (tC (.int 1)))) (tOp (rIxL K) (tVar 0) (tVar 1))) [1])
theorem pure_sizesby81 (vs : List V) (H : Hp) (Q : VK) (E : XK) (h : spSizesBy81 K vs H Q E) : t_sizesby81 K { nx := fun _ H' => Q .non H', rt := Q } (start ["surplus", "at"] vs) H := by
  obtain ⟨A, N, F, rfl, hA, nl, q⟩ := h
  refine ⟨_, rfl, A, _, rfl, .inl (SqL.of hA), _, _, rfl, rfl, _, rfl, by rw [rgV_len]; omega, by rw [rgV_len]; omega, fun D hD => ?_⟩
  rw [rgV_len, show (((N + 1 : Nat) : Int) - 1).toNat = N by omega]
  refine lc_it (walk_range (lo := 0) (n := N)) (fun i H2 => Same H H2 ∧ H2 D = some (.lst ((((List.range N).map (dfS F)).take i).map V.int))) ⟨same_new hD, upd_same⟩ (fun _ _ _ _ => trivial) ?_ ?_
  · rintro i v H2 H3 hi ⟨s2, d2⟩ ⟨rfl, rfl⟩
    have A2 := s2 _ _ hA
    have a1 : atI ((rg N F).map V.int) (0 + (i : Int) + 1) = some (.int (F (i + 1))) := by
      rw [show 0 + (i : Int) + 1 = ((i + 1 : Nat) : Int) by omega]
      exact atI_nat (rgV_at F (by omega))
    have a2 : atI ((rg N F).map V.int) (0 + (i : Int)) = some (.int (F i)) := by
      rw [show 0 + (i : Int) = ((i : Nat) : Int) by omega]
      exact atI_nat (rgV_at F (by omega))
    refine ⟨rfl, yes_if ⟨_, rfl, _, rfl, _, _, rfl, rfl, A, _, _, _, rfl, rfl, SqL.of A2, a1, _, rfl, _, rfl, A, _, _, _, rfl, rfl, SqL.of A2, a2, _, _, rfl, rfl, _, d2, ?_, same_upd s2 hD, ?_⟩⟩
    · rw [List.length_map, List.length_take]
      exact Nat.lt_of_le_of_lt (show min i ((List.range N).map (dfS F)).length ≤ 1000 by omega) (by decide)
    · have e : ((List.range N).map (dfS F))[i]? = some (dfS F i) := by
        rw [List.getElem?_map, List.getElem?_range hi]
        rfl
      rw [upd_same, List.take_succ, e, List.map_append]
      rfl
  · rintro H2 ⟨s2, d2⟩
    have e : ((List.range N).map (dfS F)).length = N := by rw [List.length_map, List.length_range]
    have d3 : H2 D = some (.lst ((((List.range N).map (dfS F)).take ((List.range N).map (dfS F)).length).map V.int)) := by rw [e]; exact d2
    rw [List.take_length] at d3
    exact q D H2 hD s2 d3
/-- the lengths of a row's trains, greatest first -/
noncomputable def lnP {ks : List (Int × Int)} (p : Rws ks) : List Int := lnD (plL p)
theorem lnP_perm {ks : List (Int × Int)} (p : Rws ks) : (lnP p).Perm ((trP p).map Prod.fst) := lnD_perm _
theorem lnP_eq {ks : List (Int × Int)} {p q : Rws ks} (h : ((trP q).map Prod.fst).Perm ((trP p).map Prod.fst)) : lnP q = lnP p := desc_eq (lnD_desc _) (lnD_desc _) ((lnP_perm q).trans (h.trans (lnP_perm p).symm))
theorem lnP_mv {ks : List (Int × Int)} {p q : Rws ks} {c n : Int} (h : trP q = mvT c n (trP p)) : lnP q = lnP p := lnP_eq (by
  rw [h]
  unfold mvT
  rw [List.map_map]
  exact List.Perm.refl _)
theorem lnP_is {ks : List (Int × Int)} {p : Rws ks} {M : List Int} (h : M.Perm ((trP p).map Prod.fst)) (o : OrdB true M) : M = lnP p := desc_eq o (lnD_desc _) (h.trans (lnP_perm p).symm)
theorem lnP_len {ks : List (Int × Int)} (p : Rws ks) : (lnP p).length ≤ 40 := by
  rw [(lnP_perm p).length_eq, List.length_map]
  exact trP_len p
theorem lnP_up {ks : List (Int × Int)} {p : Rws ks} {M : List Int} (h : M.Perm ((trP p).map Prod.fst)) (u : M.Pairwise (· ≤ ·)) : M = (lnP p).reverse := by
  have e : M.reverse = lnP p := desc_eq (List.pairwise_reverse.mpr u) (lnD_desc _) ((List.reverse_perm M).trans (h.trans (lnP_perm p).symm))
  rw [← e, List.reverse_reverse]
/-- runs of the plain form, and what the search makes of them -/
theorem runs81 {x y0 : Addr} {ks : List (Int × Int)} {p : Rws ks} {σ : L2.St} {Q : VK} {i : Nat} (hx : σ[i]? = some (some (.ref x))) (row : RowAt K C H x p.1 ks) (q : ∀ T H', Same H H' → Blk H' T (blkOf (plL p)) → Q (.ref T) H') :
    tCall (spRuns K C BR) [] E0 (tCons (tCall (spPlainForm K C) [] E0 (tCons (tVar i) (tNil))) (tNil)) σ H Q := by
  refine ⟨_, hx, x, p.1, ks, rfl, row, p.2, fun y H1 hy s1 ry => ?_⟩
  refine ⟨y, plainF ks p.1, [], rfl, ry, ?_, fun z => absurd rfl z, fun _ T H2 hT s2 bT => q T H2 (s1.trans s2) bT⟩
  have := plL_40 p
  unfold plL at this
  rw [List.length_map] at this
  omega
theorem due81 {T : Addr} {ks : List (Int × Int)} {p : Rws ks} {σ : L2.St} {Q : VK} {te : TE} (hT : ∀ R : VK, (∀ T H', Same H H' → Blk H' T (blkOf (plL p)) → R (.ref T) H') → te σ H R) (q : ∀ D H', H D = none → Same H H' → H' D = some (.lst ((lnP p).map V.int)) → Q (.ref D) H') :
    tCall (spSizesBy81 K) [] E0 (tCons (tCall (spBest81 K) [] E0 (tCons te (tNil))) (tNil)) σ H Q := by
  refine hT _ fun T H1 s1 bT => ?_
  have pl := plL_40 p
  refine ⟨T, plL p, rfl, bT, plL_asc p, by omega, fun D H2 hD s2 d2 => ?_⟩
  refine ⟨D, _, _, rfl, d2, by have := blkOf_len (plL p); omega, fun D' H3 hD' s3 d3 => ?_⟩
  have e : (List.range (blkOf (plL p)).length).map (dfS (bst (plL p))) = lnP p := bst_diff (plL_asc p)
  rw [e] at d3
  exact q D' H3 (none_back (s1.trans s2) hD') (s1.trans (s2.trans s3)) d3
def spTold81 (K : PySem.W.Frag) (C : Addr) : Sp := fun vs H Q _ => ∃ (x A : Addr) (ks : List (Int × Int)) (p : Rws ks), vs = [.ref x, .ref A] ∧ RowAt K C H x p.1 ks ∧ H A = some (.lst ((lnP p).map V.int)) ∧ ∀ H', Same H H' → Q (.bl true) H'
def t_chk81 (K : PySem.W.Frag) (C : Addr) : TS := (tIfS (tOr (tTest (tOp rNe (tCB (qLen K) (tCons (tVar 2) (tNil))) (tCB (qLen K) (tCons (tVar 1) (tNil))))) (tOr (tTest (tOp (rNeD K) (tCall (spSizesBy81 K) [] E0 (tCons (tCall (spBest81 K) [] E0 (tCons (tVar 2) (tNil))) (tNil))) (tVar 1))) (tTest (tOp (rNeD K) (tCall (spLengths K C) [] E0 (tCons (tVar 0) (tNil))) (tVar 1)))))
  (tRet (tC (.bl false)))
  (tNext))
def t_sum81 (K : PySem.W.Frag) : TE := (tCB (rSum K) (tCons (tLc (iList K (tVar 1)) (gName 4) (tYes) (tCB qMin2 (tCons (tVar 3) (tCons (tVar 4) (tNil)))) [4]) (tNil)))
def t_pick81 (K : PySem.W.Frag) (BC C : Addr) : TS := (tIfS (tTest (tOp rNe (tCall (spPicked K C BC) [] E0 (tCons (tVar 0) (tCons (tVar 3) (tNil)))) (t_sum81 K)))
  (tRet (tC (.bl false)))
  (tNext))
def t_srt81 (K : PySem.W.Frag) (C : Addr) : TS := (tRet (tOp (rEqD K) (tCB (rSortedI K) (tCons (tLc (iList K (tCall (spTrains K C) [] E0 (tCons (tVar 0) (tNil)))) (gTup K 2 (gCons (gName 4) (gCons (gName 5) (gNil)))) (tYes) (tVar 4) [4, 5]) (tNil))) (tRevL K (tVar 1))))
def t_told81 (K : PySem.W.Frag) (BC BR C : Addr) : TS := tSeq (tAsg (tCall (spRuns K C BR) [] E0 (tCons (tCall (spPlainForm K C) [] E0 (tCons (tVar 0) (tNil))) (tNil))) (gName 2))
  (tSeq (t_chk81 K C)
  (tSeq (tFor (iList K (tLst (tCons (tC (.int 1)) (tCons (tC (.int 2)) (tCons (tC (.int 3)) (tCons (tC (.int 5)) (tCons (tC (.int 40)) (tCons (tC (.int 99)) (tNil))))))))) (gName 3)
  (t_pick81 K BC C))
  (t_srt81 K C)))
variable {x A T : Addr} {ks : List (Int × Int)} {p : Rws ks} {Q : VK} {Nx N2 N3 : L2.St → Hp → Prop} {x0 x1 x2 x3 : Option V}
theorem chk81 (row : RowAt K C H x p.1 ks) (hA : H A = some (.lst ((lnP p).map V.int))) (bT : Blk H T (blkOf (plL p))) (hN : ∀ H', Same H H' → Nx [some (.ref x), some (.ref A), some (.ref T), none, none, none] H') :
    t_chk81 K C { nx := Nx, rt := Q, bk := N2, ct := N3 } [some (.ref x), some (.ref A), some (.ref T), none, none, none] H := by
  obtain ⟨ts, hT, pr⟩ := bT
  have l1 : (ts.map V.ref).length = ((lnP p).map V.int).length := by
    rw [List.length_map, List.length_map, paired_len pr]
    exact (lnD_len (plL_asc p)).symm
  refine ⟨_, rfl, T, _, rfl, .inl (SqL.of hT), _, rfl, A, _, rfl, .inl (SqL.of hA), ?_⟩
  rw [l1]
  refine ⟨rfl, _, rfl, ?_⟩
  rw [decide_eq_true rfl]
  refine iteF ?_
  have both : ∀ {D : Addr} {H' : Hp}, Same H H' → H' D = some (.lst ((lnP p).map V.int)) → ∀ {R : VK}, R (.bl false) H' → rNeD K (.ref D) (.ref A) H' R := fun {D H'} s d {R} r => ne_dd (.lst (SqL.of d) (dp_ints _)) (.lst (SqL.of (s _ _ hA)) (dp_ints _)) (shaped_ints _) r
  refine due81 (T := T) (p := p) (fun R r => ⟨_, rfl, r T H (fun _ _ h => h) ⟨ts, hT, pr⟩⟩) fun D H1 _ s1 d1 => ⟨_, rfl, both s1 d1 ⟨_, rfl, iteF ?_⟩⟩
  refine ⟨_, rfl, x, ks, p, rfl, row.same s1, fun D2 H2 M hD2 s2 d2 pm od => ⟨_, rfl, ?_⟩⟩
  have e := lnP_is pm od
  subst e
  exact both (s1.trans s2) d2 ⟨_, rfl, iteF (hN H2 (s1.trans s2))⟩
theorem sum81 {m : Int} (hA : H A = some (.lst ((lnP p).map V.int))) (q : ∀ H', Same H H' → Q (.int (pkT m (trP p))) H') : t_sum81 K [x0, some (.ref A), x2, some (.int m), none, none] H Q := by
  have ml := lnP_len p
  refine cb_go (cons1_go (lcV (G := GI) (ys := lnP p) (fun _ => true) (fun x => V.int (min m x)) (fun R r => ⟨_, rfl, r⟩) (SqL.of hA) ints_rel (by rw [List.length_map]) (by omega) (fun _ _ _ _ z => z) ?_ fun D H1 hD s1 d1 => ?_))
  · rintro v x H' Rt Rf s' rfl mm rt rf
    refine ⟨rfl, yes_if ⟨_, rfl, _, rfl, _, _, rfl, ?_⟩⟩
    rw [min_if]
    exact rt rfl H' fun _ _ h => h
  · rw [all_true] at d1
    have e : (lnP p).map (fun x => V.int (min m x)) = ((lnP p).map fun x => min m x).map V.int := by rw [List.map_map]; rfl
    rw [e] at d1
    refine ⟨D, _, rfl, SqL.of d1, ?_⟩
    rw [pkT_perm (lnP_perm p)]
    exact q H1 s1
@[irreducible] def xSum81 := @t_sum81
theorem xSum81_eq : @xSum81 = @t_sum81 := by
  unfold xSum81
  rfl
theorem tcall_pk {σ : L2.St} {i j : Nat} {m : Int} (h0 : σ[i]? = some (some (.ref x))) (h1 : σ[j]? = some (some (.int m))) (h : spPicked K C BC [.ref x, .int m] H Q E0) : tCall (spPicked K C BC) [] E0 (tCons (tVar i) (tCons (tVar j) tNil)) σ H Q := ⟨_, h0, _, h1, h⟩
theorem pick81 {m : Int} (row : RowAt K C H x p.1 ks) (hA : H A = some (.lst ((lnP p).map V.int))) (m1 : 1 ≤ m) (m2 : m ≤ 99) (hN : ∀ H', Same H H' → Nx [some (.ref x), some (.ref A), some (.ref T), some (.int m), none, none] H') :
    t_pick81 K BC C { nx := Nx, rt := Q, bk := N2, ct := N3 } [some (.ref x), some (.ref A), some (.ref T), some (.int m), none, none] H := by
  unfold t_pick81
  rw [← xSum81_eq]
  refine ifs_go (tcall_pk (i := 0) (j := 3) rfl rfl (picked_tr row m1 m2 fun H1 s1 => ?_))
  show xSum81 K [some (.ref x), some (.ref A), some (.ref T), some (.int m), none, none] H1 _
  rw [xSum81_eq]
  refine sum81 (p := p) (s1 _ _ hA) fun H2 s2 => ⟨rfl, _, rfl, ?_⟩
  rw [decide_eq_true rfl]
  exact iteF (hN H2 (s1.trans s2))
theorem srt81 (row : RowAt K C H x p.1 ks) (hA : H A = some (.lst ((lnP p).map V.int))) (q : ∀ H', Same H H' → Q (.bl true) H') :
    t_srt81 K C { nx := Nx, rt := Q, bk := N2, ct := N3 } [some (.ref x), some (.ref A), x2, x3, none, none] H := by
  have tl := trP_len p
  refine ret_go (show tCB (rSortedI K) _ _ _ _ from cb_go (cons1_go (lcV_c (Cc := fun A H1 => Same H H1 ∧ PairsL H1 A (trP p)) (ys := trP p) (fun _ => true) (fun t : Int × Int => .int t.1) (fun R r => ⟨_, rfl, x, ks, p, rfl, row, fun A H1 hA s1 pa => r A H1 ⟨s1, pa⟩⟩) (fun A' H1 z => ?_) (by omega))))
  obtain ⟨s1, us, a1, pr⟩ := z
  refine ⟨_, GT, SqL.of a1, pairs_rel pr, by rw [List.length_map, paired_len pr], fun _ _ _ s z => z.same s, ?_, fun D H2 hD s2 d2 => ?_⟩
  · rintro v t H' Rt Rf s' ⟨u, rfl, hat⟩ m rt rf
    exact ⟨u, _, rfl, SqT.of hat, rfl, _, _, rfl, _, _, rfl, rfl, rfl, yes_if ⟨_, rfl, rt rfl _ (fun _ _ h => h)⟩⟩
  · rw [all_true] at d2
    have s12 := s1.trans s2
    refine ⟨D, (trP p).map Prod.fst, rfl, ?_, fun M r pm up hr => ?_⟩
    · rw [List.map_map]
      exact SqL.of d2
    have e := lnP_up pm up
    subst e
    have s3 := same_new (o := .lst ((lnP p).reverse.map V.int)) hr
    have R3 : upd H2 r (.lst ((lnP p).reverse.map V.int)) r = some (.lst ((lnP p).reverse.map V.int)) := upd_same
    generalize upd H2 r (.lst ((lnP p).reverse.map V.int)) = H3 at s3 R3 ⊢
    have s13 := s12.trans s3
    refine ⟨_, rfl, A, _, rfl, SqL.of (s13 _ _ hA), fun P hP => ?_⟩
    rw [← List.map_reverse]
    have s4 := same_new (o := .lst ((lnP p).reverse.map V.int)) hP
    refine ⟨.list ((lnP p).reverse.map PyData.int), .list ((lnP p).reverse.map PyData.int), .lst (SqL.of (s4 _ _ R3)) (dp_ints _), .lst (SqL.of upd_same) (dp_ints _), shaped_ints _, shaped_ints _, ?_⟩
    rw [eqv_same (shaped_ints _)]
    exact q _ (s13.trans s4)
@[irreducible] def xChk81 := @t_chk81
theorem xChk81_eq : @xChk81 = @t_chk81 := by
  unfold xChk81
  rfl
@[irreducible] def xPick81 := @t_pick81
theorem xPick81_eq : @xPick81 = @t_pick81 := by
  unfold xPick81
  rfl
@[irreducible] def xSrt81 := @t_srt81
theorem xSrt81_eq : @xSrt81 = @t_srt81 := by
  unfold xSrt81
  rfl
theorem pure_told81 (vs : List V) (H : Hp) (Q : VK) (E : XK) (h : spTold81 K C vs H Q E) : t_told81 K BC BR C { nx := fun _ H' => Q .non H', rt := Q } (start ["made", "due", "told", "most", "size", "offset"] vs) H := by
  obtain ⟨x, A, ks, p, rfl, row, hA, q⟩ := h
  unfold t_told81
  rw [← xChk81_eq, ← xPick81_eq, ← xSrt81_eq]
  refine seq_go (asg_go (runs81 (p := p) (y0 := x) rfl row fun T H1 s1 bT => ?_))
  show xChk81 K C _ [some (.ref x), some (.ref A), some (.ref T), none, none, none] H1
  rw [xChk81_eq]
  refine chk81 (row.same s1) (s1 _ _ hA) bT fun H2 s2 => ?_
  have s02 := s1.trans s2
  refine seq_go ⟨SR.sz (by show 6 ≤ 1000; decide), fun o ho => ?_⟩
  have s3 := same_new (o := .lst [.int 1, .int 2, .int 3, .int 5, .int 40, .int 99]) ho
  have O3 : upd H2 o (.lst [.int 1, .int 2, .int 3, .int 5, .int 40, .int 99]) o = some (.lst ([1, 2, 3, 5, 40, 99].map V.int)) := upd_same
  generalize upd H2 o (.lst [.int 1, .int 2, .int 3, .int 5, .int 40, .int 99]) = H3 at s3 O3 ⊢
  have s03 := s02.trans s3
  refine ⟨o, rfl, ⟨_, SqL.of O3⟩, ?_⟩
  refine for_it (walk_list (K := K) (a := o) (xs := [1, 2, 3, 5, 40, 99].map V.int)) (fun i σ H4 => Same H3 H4 ∧ ∃ y3, σ = [some (.ref x), some (.ref A), some (.ref T), y3, none, none]) ⟨fun _ _ h => h, _, rfl⟩ ?_ ?_ ?_
  · rintro i σ H4 _ ⟨s4, _⟩
    exact SqL.of (s4 _ _ O3)
  · rintro i v σ H4 H5 hi ⟨s4, y3, rfl⟩ ⟨rfl, hv⟩
    rw [List.getElem?_map] at hv
    obtain ⟨m, hm, rfl⟩ := Option.map_eq_some_iff.mp hv
    have mb : 1 ≤ m ∧ m ≤ 99 := by
      have := List.mem_of_getElem? hm
      simp only [List.mem_cons, List.not_mem_nil, or_false] at this
      omega
    show xPick81 K BC C _ [some (.ref x), some (.ref A), some (.ref T), some (.int m), none, none] _
    rw [xPick81_eq]
    have s04 := s03.trans s4
    exact pick81 (p := p) (row.same s04) (s04 _ _ hA) mb.1 mb.2 fun H6 s6 => ⟨s4.trans s6, _, rfl⟩
  · rintro σ H4 ⟨s4, y3, rfl⟩
    show xSrt81 K C _ [some (.ref x), some (.ref A), some (.ref T), y3, none, none] H4
    rw [xSrt81_eq]
    have s04 := s03.trans s4
    exact srt81 (p := p) (row.same s04) (s04 _ _ hA) fun H5 s5 => q H5 (s04.trans s5)
end
end SR
set_option Elab.async false
set_option linter.all false
set_option maxRecDepth 100000
set_option maxHeartbeats 4000000
namespace SR
open PySem PySem.Spec PyProof.Rows L2
def t_sz81 (K : PySem.W.Frag) : TS := (tAsg (tCall (spSizes K) [] E0 (tCons (tVar 1) (tCons (tCall (spPick K) [] E0 (tCons (tVar 1) (tCons (tLst (tCons (tC (.int 0)) (tCons (tC (.int 0)) (tCons (tC (.int 2)) (tCons (tC (.int 4)) (tNil)))))) (tNil)))) (tNil)))) (gName 3))
def t_md81 (K : PySem.W.Frag) (C : Addr) : TS := (tAsg (tCall (spMade K C) [] E0 (tCons (tCall (spBoxes K) [] E0 (tCons (tVar 1) (tCons (tVar 3) (tCons (tCall (spPick K) [] E0 (tCons (tVar 1) (tCons (tLst (tCons (tC (.int 6)) (tCons (tC (.int 14)) (tCons (tC (.int 24)) (tNil))))) (tNil)))) (tNil))))) (tCons (tVar 3) (tNil)))) (gName 4))
def t_du81 (K : PySem.W.Frag) (BR C : Addr) : TS := (tAsg (tCall (spSizesBy81 K) [] E0 (tCons (tCall (spBest81 K) [] E0 (tCons (tCall (spRuns K C BR) [] E0 (tCons (tCall (spPlainForm K C) [] E0 (tCons (tVar 4) (tNil))) (tNil))) (tNil))) (tNil))) (gName 5))
def t_ck81 (K : PySem.W.Frag) (C : Addr) : TS := (tIfS (tOr (tTest (tOp (rNeD K) (tVar 5) (tRevL K (tCB (rSortedI K) (tCons (tVar 5) (tNil)))))) (tOr (tTest (tOp rNe (tCB (rSum K) (tCons (tVar 5) (tNil))) (tMeth C "total" (spTotal K C) [] E0 (tVar 4) tNil))) (tNot (tB (tCall (spTold81 K C) [] E0 (tCons (tVar 4) (tCons (tVar 5) (tNil))))))))
  (tRet (tC (.bl false)))
  (tNext))
def t_st81 (K : PySem.W.Frag) (BC C : Addr) : TS := (tSeq (tAsg (tCall (spPick K) [] E0 (tCons (tVar 1) (tCons (tLst (tCons (tC (.int 1)) (tCons (tC (.int 2)) (tCons (tC (.int 3)) (tCons (tC (.int 4)) (tCons (tC (.int 9)) (tCons (tC (.int 99)) (tNil)))))))) (tNil)))) (gName 7))
  (tSeq (tAsg (tCall (spPick K) [] E0 (tCons (tVar 1) (tCons (tLst (tCons (tCall (spSweep K C BC) [] E0 (tCons (tVar 4) (tCons (tVar 7) (tNil)))) (tCons (tCall (spUnsweep K C BC) [] E0 (tCons (tVar 4) (tCons (tVar 7) (tNil)))) (tNil)))) (tNil)))) (gName 4))
  (tIfS (tNot (tB (tCall (spTold81 K C) [] E0 (tCons (tVar 4) (tCons (tVar 5) (tNil))))))
  (tRet (tC (.bl false)))
  (tNext))))
def t_sd81 (K : PySem.W.Frag) : TS := (tAsg (tDisp ((tC (.int 1), tOp qSub (tCall spTake [] E0 (tCons (tVar 1) (tCons (tC (.int 9)) (tNil)))) (tC (.int 4))) :: (tC (.int 2), tCall (spPick K) [] E0 (tCons (tVar 1) (tCons (tLst (tCons (tC (.int 0)) (tCons (tC (.int 3)) (tCons (tOp qPow (tC (.int 10)) (tC (.int 20))) (tNil))))) (tNil)))) :: (tC (.int 99), tOp qSub (tCall spTake [] E0 (tCons (tVar 1) (tCons (tC (.int 7)) (tNil)))) (tC (.int 3))) :: [])) (gName 8))
def t_ad81 (K : PySem.W.Frag) (BC C : Addr) : TS := (tIfS (tOr (tNot (tB (tCall (spTold81 K C) [] E0 (tCons (tCall (spAdvance K C) [] E0 (tCons (tVar 4) (tCons (tVar 8) (tNil)))) (tCons (tVar 5) (tNil)))))) (tTest (tOp rNe (tCall (spGivenUp K C BC) [] E0 (tCons (tVar 4) (tCons (tC (.int 1)) (tCons (tC (.int 61)) (tNil))))) (tCB (qLen K) (tCons (tVar 5) (tNil))))))
  (tRet (tC (.bl false)))
  (tNext))
section
variable {K : PySem.W.Frag} {C BC BR : Addr} {H H' : Hp} {d g c x A : Addr} {b : Nat} {ks : List (Int × Int)} {p : Rws ks} {M : List Int} {Q : VK} {Nx N2 N3 : L2.St → Hp → Prop} {x0 x1 x2 x3 x4 x5 x6 x7 x8 : Option V}
structure J81 (K : PySem.W.Frag) (C : Addr) (H : Hp) (d g c : Addr) (b : Nat) (x A : Addr) {ks : List (Int × Int)} (p : Rws ks) (M : List Int) : Prop where
  S : StB H d g c b
  row : RowAt K C H x p.1 ks
  hA : H A = some (.lst (M.map V.int))
  a1 : A ≠ d
  a2 : A ≠ g
  e : lnP p = M
theorem J81.same (J : J81 K C H d g c b x A p M) (s : Same H H') : J81 K C H' d g c b x A p M := ⟨StB.same s J.S, J.row.same s, s _ _ J.hA, J.a1, J.a2, J.e⟩
theorem J81.kp {b' : Nat} (J : J81 K C H d g c b x A p M) (S : StB H' d g c b') (k : Kp d g H H') : J81 K C H' d g c b' x A p M := ⟨S, J.row.kp J.S k, k _ _ J.a1 J.a2 J.hA, J.a1, J.a2, J.e⟩
theorem J81.tell (J : J81 K C H d g c b x A p M) (q : ∀ H', J81 K C H' d g c b x A p M → Same H H' → Q (.bl true) H') : spTold81 K C [.ref x, .ref A] H Q E0 := ⟨x, A, ks, p, rfl, J.row, by rw [J.e]; exact J.hA, fun H' s => q H' (J.same s) s⟩
theorem lnP_fn {m : Int} {v : Bool} (m1 : 1 ≤ m) (p : Rws ks) : lnP (Fn (m, v) p) = lnP p := lnP_mv (trP_fn m1 v p)
theorem lnP_adv {cs : List (Int × Int)} (p : Rws ks) (h : ∀ t ∈ cs, 1 ≤ t.1) : lnP (advP cs p) = lnP p := lnP_eq (by
  rw [trP_adv p h, List.map_map]
  exact List.Perm.refl _)
theorem lnP_sum (p : Rws ks) : (lnP p).sum = total p.1 := by
  rw [← plL_len p, ← trL_sum (plL_asc p)]
  exact sum_permI (lnP_perm p)
theorem tc2 {sp : Sp} {σ : L2.St} {i j : Nat} {u v : V} {E : XK} (h0 : σ[i]? = some (some u)) (h1 : σ[j]? = some (some v)) (h : sp [u, v] H Q E) : tCall sp [] E (tCons (tVar i) (tCons (tVar j) tNil)) σ H Q := ⟨_, h0, _, h1, h⟩
theorem tc1 {sp : Sp} {σ : L2.St} {j : Nat} {u v : V} {E : XK} (h1 : σ[j]? = some (some v)) (h : sp [u, v] H Q E) : (tCons (tVar j) tNil) σ H (fun vs H1 => sp (u :: vs ++ []) H1 Q E) := ⟨_, h1, h⟩
theorem ck81 (J : J81 K C H d g c b x A p M) (hN : ∀ H', J81 K C H' d g c b x A p M → Nx [x0, x1, x2, x3, some (.ref x), some (.ref A), x6, x7, x8] H') :
    t_ck81 K C { nx := Nx, rt := Q, bk := N2, ct := N3 } [x0, x1, x2, x3, some (.ref x), some (.ref A), x6, x7, x8] H := by
  refine ⟨_, rfl, _, rfl, A, M, rfl, SqL.of J.hA, fun M' r pm up hr => ?_⟩
  have e : M' = M.reverse := by
    rw [← J.e] at pm ⊢
    exact lnP_up (pm.trans (lnP_perm p)) up
  subst e
  have s1 := same_new (o := .lst (M.reverse.map V.int)) hr
  have R1 : upd H r (.lst (M.reverse.map V.int)) r = some (.lst (M.reverse.map V.int)) := upd_same
  generalize upd H r (.lst (M.reverse.map V.int)) = H1 at s1 R1 ⊢
  refine ⟨r, _, rfl, SqL.of R1, fun P hP => ?_⟩
  rw [← List.map_reverse, List.reverse_reverse]
  have s2 := same_new (o := .lst (M.map V.int)) hP
  have J2 := (J.same s1).same s2
  refine ne_dd (.lst (SqL.of J2.hA) (dp_ints _)) (.lst (SqL.of upd_same) (dp_ints _)) (shaped_ints _) ⟨_, rfl, iteF ?_⟩
  generalize upd H1 P (.lst (M.map V.int)) = H2 at J2
  refine ⟨_, rfl, A, M, rfl, SqL.of J2.hA, meth_total (i := 4) rfl J2.row fun H3 s3 => ⟨rfl, _, rfl, ?_⟩⟩
  have e2 : M.sum = total p.1 := by rw [← J.e, lnP_sum]
  rw [e2, decide_eq_true rfl]
  exact iteF (not_go (tb_go (tc2 (i := 4) (j := 5) rfl rfl ((J2.same s3).tell fun H4 J4 _ => ⟨_, rfl, iteF (hN H4 J4)⟩))))
theorem st81 (J : J81 K C H d g c (b + 2) x A p M) (hN : ∀ y7 x' (p' : Rws ks) H', J81 K C H' d g c b x' A p' M → Nx [x0, some (.ref d), x2, x3, some (.ref x'), some (.ref A), x6, y7, x8] H') :
    t_st81 K BC C { nx := Nx, rt := Q, bk := N2, ct := N3 } [x0, some (.ref d), x2, x3, some (.ref x), some (.ref A), x6, x7, x8] H := by
  refine ⟨_, rfl, SR.sz (by show 6 ≤ 1000; decide), fun L hL => ?_⟩
  obtain ⟨l1, l2, _⟩ := J.S.off hL
  have s1 := same_new (o := .lst [.int 1, .int 2, .int 3, .int 4, .int 9, .int 99]) hL
  refine ⟨d, g, c, b + 1, L, _, rfl, J.S.new hL, SqL.of upd_same, l1, l2, by show 0 < 6; decide, by show 6 < 1000; decide, fun v H2 hv S2 k2 => ?_⟩
  have J2 := (J.same s1).kp S2 k2
  obtain ⟨m, rfl, m1, m2⟩ : ∃ m : Int, v = .int m ∧ 1 ≤ m ∧ m ≤ 99 := by
    simp only [List.mem_cons, List.not_mem_nil, or_false] at hv
    rcases hv with rfl | rfl | rfl | rfl | rfl | rfl <;> exact ⟨_, rfl, by decide, by decide⟩
  clear hv
  have two : ∀ (R : List V → Hp → Prop), (∀ y z H', Same H2 H' → RowAt K C H' y (Fn (m, false) p).1 ks → RowAt K C H' z (Fn (m, true) p).1 ks → R [.ref y, .ref z] H') →
      (tCons (tCall (spSweep K C BC) [] E0 (tCons (tVar 4) (tCons (tVar 7) (tNil)))) (tCons (tCall (spUnsweep K C BC) [] E0 (tCons (tVar 4) (tCons (tVar 7) (tNil)))) (tNil))) [x0, some (.ref d), x2, x3, some (.ref x), some (.ref A), x6, some (.int m), x8] H2 R := fun R r =>
    cons_run (tc2 (i := 4) (j := 7) rfl rfl (sweep_fn J2.row m1 m2 fun y H3 s3 ry => cons_run (tc2 (i := 4) (j := 7) rfl rfl (unsweep_fn (J2.row.same s3) m1 m2 fun z H4 s4 rz => r y z H4 (s3.trans s4) (ry.same s4) rz))))
  refine ⟨_, rfl, ?_⟩
  refine cons_run ?_
  show (tCons (tCall (spSweep K C BC) [] E0 (tCons (tVar 4) (tCons (tVar 7) (tNil)))) (tCons (tCall (spUnsweep K C BC) [] E0 (tCons (tVar 4) (tCons (tVar 7) (tNil)))) (tNil))) [x0, some (.ref d), x2, x3, some (.ref x), some (.ref A), x6, some (.int m), x8] H2 _
  refine two _ fun y z H4 s4 ry rz => ⟨SR.sz (by show 2 ≤ 1000; decide), fun O hO => ?_⟩
  have J4 := J2.same s4
  obtain ⟨o1, o2, _⟩ := J4.S.off hO
  have s5 := same_new (o := .lst [.ref y, .ref z]) hO
  refine ⟨d, g, c, b, O, _, rfl, J4.S.new hO, SqL.of upd_same, o1, o2, by show 0 < 2; decide, by show 2 < 1000; decide, fun v H6 hv S6 k6 => ?_⟩
  have J6 := (J4.same s5).kp S6 k6
  have S5 := StB.same s5 J4.S
  obtain ⟨x', p', rfl, r', e'⟩ : ∃ (x' : Addr) (p' : Rws ks), v = .ref x' ∧ RowAt K C H6 x' p'.1 ks ∧ lnP p' = M := by
    simp only [List.mem_cons, List.not_mem_nil, or_false] at hv
    rcases hv with rfl | rfl
    · exact ⟨y, _, rfl, (ry.same s5).kp S5 k6, (lnP_fn m1 p).trans J.e⟩
    · exact ⟨z, _, rfl, (rz.same s5).kp S5 k6, (lnP_fn m1 p).trans J.e⟩
  clear hv
  have J7 : J81 K C H6 d g c b x' A p' M := ⟨S6, r', J6.hA, J.a1, J.a2, e'⟩
  exact ifs_go (not_go (tb_go (tc2 (i := 4) (j := 5) rfl rfl (J7.tell fun H8 J8 _ => ⟨_, rfl, iteF (hN _ x' p' H8 J8)⟩))))
theorem sd81 (J : J81 K C H d g c (b + 3) x A p M) (hN : ∀ W cs H', J81 K C H' d g c b x A p M → H' W = some (.dK (kvsOf cs)) → cs.length ≤ 1000 → (∀ t ∈ cs, 1 ≤ t.1 ∧ t.1 ≤ 99) → Nx [x0, some (.ref d), x2, x3, some (.ref x), some (.ref A), x6, x7, some (.ref W)] H') :
    t_sd81 K { nx := Nx, rt := Q, bk := N2, ct := N3 } [x0, some (.ref d), x2, x3, some (.ref x), some (.ref A), x6, x7, x8] H := by
  refine fun W hW => ?_
  obtain ⟨w1, w2, w3⟩ := J.S.off hW
  have s1 := same_new (o := .dK []) hW
  have S1 := J.S.new (o := .dK []) hW
  have W1 : upd H W (.dK []) W = some (.dK []) := upd_same
  generalize upd H W (.dK []) = H1 at s1 S1 W1 ⊢
  refine ⟨_, rfl, d, g, c, b + 2, 9, rfl, S1, by decide, by decide, fun u H2 u0 u1 S2 k2 => ⟨_, _, rfl, rfl, ?_⟩⟩
  refine ⟨_, rfl, 10, 20, rfl, rfl, ⟨by decide, by decide, by decide⟩, SR.sz (by show 3 ≤ 1000; decide), fun L hL => ?_⟩
  obtain ⟨l1, l2, _⟩ := S2.off hL
  have s3 := same_new (o := .lst [.int 0, .int 3, .int (10 ^ (20 : Int).toNat)]) hL
  refine ⟨d, g, c, b + 1, L, _, rfl, S2.new hL, SqL.of upd_same, l1, l2, by show 0 < 3; decide, by show 3 < 1000; decide, fun v H4 hv S4 k4 => ?_⟩
  obtain ⟨m, rfl⟩ : ∃ m : Int, v = .int m := by
    simp only [List.mem_cons, List.not_mem_nil, or_false] at hv
    rcases hv with rfl | rfl | rfl <;> exact ⟨_, rfl⟩
  clear hv
  refine ⟨_, rfl, d, g, c, b, 7, rfl, S4, by decide, by decide, fun w H5 w0 w1' S5 k5 => ⟨_, _, rfl, rfl, ?_⟩⟩
  have k15 : Kp d g H1 H5 := Kp.trans k2 (Kp.trans (Kp.of s3 k4) k5)
  have W5 := k15 _ _ w1 w2 W1
  refine ⟨W5, [(.inl 1, .int (u - 4)), (.inl 2, .int m), (.inl 99, .int (w - 3))], rfl, by show 3 ≤ 15; decide, ?_⟩
  have em : mergeK [] (kvsOf [(1, u - 4), (2, m), (99, w - 3)]) = kvsOf [(1, u - 4), (2, m), (99, w - 3)] := merge_pairs (by show ([1, 2, 99] : List Int).Nodup; decide)
  have kf : Kp d g H (upd H5 W (.dK (kvsOf [(1, u - 4), (2, m), (99, w - 3)]))) := fun a o n1 n2 h => (upd_ne (ne_of_none h hW)).trans (k15 _ _ n1 n2 (s1 _ _ h))
  have Sf : StB (upd H5 W (.dK (kvsOf [(1, u - 4), (2, m), (99, w - 3)]))) d g c b := S5.upd w1 w2 w3
  show Nx _ (upd H5 W (.dK (mergeK [] (kvsOf [(1, u - 4), (2, m), (99, w - 3)]))))
  rw [em]
  refine hN W [(1, u - 4), (2, m), (99, w - 3)] _ (J.kp Sf kf) upd_same (by show 3 ≤ 1000; decide) fun t mt => ?_
  simp only [List.mem_cons, List.not_mem_nil, or_false] at mt
  rcases mt with rfl | rfl | rfl
  · exact ⟨by show (1 : Int) ≤ 1; decide, by show (1 : Int) ≤ 99; decide⟩
  · exact ⟨by show (1 : Int) ≤ 2; decide, by show (2 : Int) ≤ 99; decide⟩
  · exact ⟨by show (1 : Int) ≤ 99; decide, by show (99 : Int) ≤ 99; decide⟩
theorem give_one (p : Rws ks) : giveN p 61 = ((lnP p).length : Int) := by
  have c1 : cap ks 61 = 1 := cap_no fun t mt e => by
    have := (p.2.ok.ko t mt).1
    omega
  unfold giveN
  rw [c1, (lnP_perm p).length_eq, List.length_map]
  have h : ∀ ts : List (Int × Int), (∀ t ∈ ts, 1 ≤ t.1) → (ts.map fun t => min 1 t.1).sum = (ts.length : Int) := by
    intro ts
    induction ts with
    | nil => exact fun _ => rfl
    | cons t ts ih =>
      intro h
      rw [List.map_cons, List.sum_cons, List.length_cons, ih fun q m => h q (List.mem_cons_of_mem _ m)]
      have := h t List.mem_cons_self
      omega
  exact h _ trL_one
theorem ad81 {W : Addr} {cs : List (Int × Int)} (J : J81 K C H d g c b x A p M) (hW : H W = some (.dK (kvsOf cs))) (cl : cs.length ≤ 1000) (co : ∀ t ∈ cs, 1 ≤ t.1 ∧ t.1 ≤ 99) (hN : ∀ H', J81 K C H' d g c b x A p M → Nx [x0, x1, x2, x3, some (.ref x), some (.ref A), x6, x7, some (.ref W)] H') :
    t_ad81 K BC C { nx := Nx, rt := Q, bk := N2, ct := N3 } [x0, x1, x2, x3, some (.ref x), some (.ref A), x6, x7, some (.ref W)] H := by
  refine ⟨_, rfl, _, rfl, x, W, ks, cs, p, rfl, J.row, hW, cl, co, fun y H1 hy s1 ry => ?_⟩
  have J1 : J81 K C H1 d g c b y A (advP cs p) M := ⟨StB.same s1 J.S, ry, s1 _ _ J.hA, J.a1, J.a2, (lnP_adv p fun t m => (co t m).1).trans J.e⟩
  refine tc1 (j := 5) rfl (J1.tell fun H2 J2 s2 => ⟨_, rfl, iteF ?_⟩)
  have J3 := J.same (s1.trans s2)
  have yes : btw 1 99 (.int 1) = true := by decide
  refine ⟨_, rfl, x, .int 1, _, 61, ks, p, rfl, .int 1, J3.row, fun z => (by rw [yes] at z; cases z), fun _ H4 s4 => ?_⟩
  have J4 := J3.same s4
  refine ⟨_, rfl, A, _, rfl, .inl (SqL.of J4.hA), ?_⟩
  have el : giveN p 61 = (((M.map V.int).length : Nat) : Int) := by rw [give_one, J.e, List.length_map]
  rw [el]
  refine ⟨rfl, _, rfl, ?_⟩
  rw [decide_eq_true rfl]
  exact iteF (hN H4 J4)
@[irreducible] def xSz81 := @t_sz81
theorem xSz81_eq : @xSz81 = @t_sz81 := by
  unfold xSz81
  rfl
@[irreducible] def xMd81 := @t_md81
theorem xMd81_eq : @xMd81 = @t_md81 := by
  unfold xMd81
  rfl
@[irreducible] def xDu81 := @t_du81
theorem xDu81_eq : @xDu81 = @t_du81 := by
  unfold xDu81
  rfl
@[irreducible] def xCk81 := @t_ck81
theorem xCk81_eq : @xCk81 = @t_ck81 := by
  unfold xCk81
  rfl
@[irreducible] def xSt81 := @t_st81
theorem xSt81_eq : @xSt81 = @t_st81 := by
  unfold xSt81
  rfl
@[irreducible] def xSd81 := @t_sd81
theorem xSd81_eq : @xSd81 = @t_sd81 := by
  unfold xSd81
  rfl
@[irreducible] def xAd81 := @t_ad81
theorem xAd81_eq : @xAd81 = @t_ad81 := by
  unfold xAd81
  rfl
def t_turn81 (K : PySem.W.Frag) (BC BR C : Addr) : TS := (tSeq (t_sz81 K)
  (tSeq (t_md81 K C)
  (tSeq (t_du81 K BR C)
  (tSeq (t_ck81 K C)
  (tSeq (tFor (iRng1 (tCons (tC (.int 3)) (tNil))) (gName 6)
  (t_st81 K BC C))
  (tSeq (t_sd81 K)
  (t_ad81 K BC C)))))))
theorem turn81 (S : StB H d g c (b + 100))
    (hN : ∀ y3 y4 y5 y6 y7 y8 H', StB H' d g c b → Nx [x0, some (.ref d), x2, y3, y4, y5, y6, y7, y8] H') :
    t_turn81 K BC BR C { nx := Nx, rt := Q, bk := N2, ct := N3 } [x0, some (.ref d), x2, x3, x4, x5, x6, x7, x8] H := by
  unfold t_turn81
  rw [← xSz81_eq, ← xMd81_eq, ← xDu81_eq, ← xCk81_eq, ← xSt81_eq, ← xSd81_eq, ← xAd81_eq]
  show xSz81 K _ _ H
  rw [xSz81_eq]
  refine ⟨_, rfl, _, rfl, SR.sz (by show 4 ≤ 1000; decide), fun L hL => ?_⟩
  obtain ⟨l1, l2, _⟩ := S.off hL
  refine ⟨d, g, c, b + 99, L, _, rfl, S.new hL, SqL.of upd_same, l1, l2, by show 0 < 4; decide, by show 4 < 1000; decide, fun v H1 hv S1 k1 => ?_⟩
  obtain ⟨n, rfl, n0, n6⟩ : ∃ n : Int, v = .int n ∧ 0 ≤ n ∧ n ≤ 6 := by
    simp only [List.mem_cons, List.not_mem_nil, or_false] at hv
    rcases hv with rfl | rfl | rfl | rfl <;> exact ⟨_, rfl, by decide, by decide⟩
  clear hv
  refine ⟨d, g, c, b + 74, n, rfl, S1, n0, n6, fun Z H2 ks S2 q2 z1 z2 z3 hz hZ ak ok kl => ?_⟩
  show xMd81 K C _ [x0, some (.ref d), x2, some (.ref Z), x4, x5, x6, x7, x8] H2
  rw [xMd81_eq]
  refine ⟨_, rfl, _, rfl, _, rfl, SR.sz (by show 3 ≤ 1000; decide), fun l hl => ?_⟩
  obtain ⟨m1, m2, _⟩ := S2.off hl
  refine ⟨d, g, c, b + 73, l, _, rfl, S2.new hl, SqL.of upd_same, m1, m2, by show 0 < 3; decide, by show 3 < 1000; decide, fun v H3 hv S3 q3 => ?_⟩
  obtain ⟨n, rfl, n0, n40⟩ : ∃ n : Int, v = .int n ∧ 0 ≤ n ∧ n ≤ 24 := by
    simp only [List.mem_cons, List.not_mem_nil, or_false] at hv
    rcases hv with rfl | rfl | rfl <;> exact ⟨_, rfl, by decide, by decide⟩
  clear hv
  have Z3 := q3 _ _ z1 z2 (same_new (o := .lst [.int 6, .int 14, .int 24]) hl _ _ hZ)
  refine ⟨d, g, c, b + 33, Z, n, ks, rfl, S3, z1, z2, z3, Z3, asc_nd ak, ok, by omega, n0, by omega, fun F H4 ps S4 q4 f1 f2 f3 hF F4 ap po bd sm => ?_⟩
  have v : Vd ps ks := ⟨⟨asc_nd ap, asc_nd ak, by omega, ok, po, by omega⟩, ap, ak⟩
  have Z4 := q4 _ _ z1 z2 Z3
  refine ⟨_, rfl, F, Z, ps, ks, rfl, F4, Z4, v.ok, ap, ak, fun x H5 hx s5 row => ?_⟩
  have S5 := StB.same s5 S4
  show xDu81 K BR C _ [x0, some (.ref d), x2, some (.ref Z), some (.ref x), x5, x6, x7, x8] H5
  rw [xDu81_eq]
  refine asg_go (due81 (T := x) (p := (⟨ps, v⟩ : Rws ks)) (fun R r => runs81 (i := 4) (y0 := x) rfl row fun T H' s bT => r T H' s bT) fun A H6 hA0 s6 hA => ?_)
  obtain ⟨a1, a2, _⟩ := S5.off hA0
  have J6 : J81 K C H6 d g c (b + 33) x A (⟨ps, v⟩ : Rws ks) (lnP (⟨ps, v⟩ : Rws ks)) := ⟨StB.same s6 S5, row.same s6, hA, a1, a2, rfl⟩
  generalize lnP (⟨ps, v⟩ : Rws ks) = M at J6
  show xCk81 K C _ [x0, some (.ref d), x2, some (.ref Z), some (.ref x), some (.ref A), x6, x7, x8] H6
  rw [xCk81_eq]
  refine ck81 J6 fun H7 J7 => ?_
  refine seq_go ⟨3, rfl, by decide, by decide, ?_⟩
  refine for_range (lo := 0) (n := 3) (fun i σ H8 => ∃ x' p' y6 y7, J81 K C H8 d g c (b + 33 - 2 * i) x' A p' M ∧ σ = [x0, some (.ref d), x2, some (.ref Z), some (.ref x'), some (.ref A), y6, y7, x8]) ⟨x, _, _, _, J7, rfl⟩ ?_ ?_
  · rintro i σ H8 hi ⟨x', p', y6, y7, J8, rfl⟩
    have e : b + 33 - 2 * i = (b + 33 - 2 * (i + 1)) + 2 := by omega
    rw [e] at J8
    show xSt81 K BC C _ [x0, some (.ref d), x2, some (.ref Z), some (.ref x'), some (.ref A), some (.int (0 + i)), y7, x8] H8
    rw [xSt81_eq]
    exact st81 J8 fun z7 x'' p'' H' J' => ⟨x'', p'', _, _, J', rfl⟩
  · rintro σ H8 ⟨x', p', y6, y7, J8, rfl⟩
    show xSd81 K _ [x0, some (.ref d), x2, some (.ref Z), some (.ref x'), some (.ref A), y6, y7, x8] H8
    rw [xSd81_eq]
    refine sd81 (b := b + 24) ⟨J8.S.mono (by omega), J8.row, J8.hA, J8.a1, J8.a2, J8.e⟩ fun W cs H9 J9 hW cl co => ?_
    show xAd81 K BC C _ [x0, some (.ref d), x2, some (.ref Z), some (.ref x'), some (.ref A), y6, y7, some (.ref W)] H9
    rw [xAd81_eq]
    exact ad81 J9 hW cl co fun H' J' => hN _ _ _ _ _ _ H' (J'.S.mono (by omega))
@[irreducible] def xTurn81 := @t_turn81
theorem xTurn81_eq : @xTurn81 = @t_turn81 := by
  unfold xTurn81
  rfl
def t_law81 (K : PySem.W.Frag) (BC BR C : Addr) : TS := tSeq (tAsg (tCall (spBegun K) [] E0 (tCons (tVar 0) (tNil))) (gName 1))
  (tSeq (tFor (iRng1 (tCons (tOp qAdd (tC (.int 2)) (tCB qMin2 (tCons (tCB (qLen K) (tCons (tVar 0) (tNil))) (tCons (tC (.int 5)) (tNil))))) (tNil))) (gName 2)
  (t_turn81 K BC BR C))
  (tRet (tC (.bl true))))
theorem pure_law81 (vs : List V) (H : Hp) (Q : VK) (E : XK) (h : spLaw K vs H Q E) : t_law81 K BC BR C { nx := fun _ H' => Q .non H', rt := Q } (start ["script", "state", "turn", "sizes", "made", "due", "step", "most", "sums"] vs) H := by
  obtain ⟨a, ns, rfl, hL, hlen, k⟩ := h
  unfold t_law81
  rw [← xTurn81_eq]
  refine ⟨_, rfl, a, ns, rfl, hL, hlen, fun d g c H1 S1 e1 _ _ _ => ?_⟩
  have hL1 : SqL K H1 a (ns.map V.int) := Same.seq e1 hL
  refine ⟨_, rfl, a, _, rfl, .inl hL1, _, _, rfl, _, _, rfl, rfl, _, rfl, ?_, ?_, ?_⟩
  · show -(2 ^ 62) ≤ 2 + (if (5 : Int) < ((ns.map V.int).length : Int) then 5 else ((ns.map V.int).length : Int))
    split <;> omega
  · show 2 + (if (5 : Int) < ((ns.map V.int).length : Int) then 5 else ((ns.map V.int).length : Int)) < 2 ^ 62
    rw [List.length_map]
    split <;> omega
  have hn : (2 + (if (5 : Int) < ((ns.map V.int).length : Int) then 5 else ((ns.map V.int).length : Int))).toNat ≤ 7 := by
    split <;> omega
  generalize (2 + (if (5 : Int) < ((ns.map V.int).length : Int) then 5 else ((ns.map V.int).length : Int))).toNat = n at hn
  refine for_range (lo := 0) (n := n) (fun i σ H2 => StB H2 d g c (1000 - 100 * i) ∧ ∃ x2 x3 x4 x5 x6 x7 x8, σ = [some (.ref a), some (.ref d), x2, x3, x4, x5, x6, x7, x8]) ⟨S1.mono (by decide), _, _, _, _, _, _, _, rfl⟩ ?_ ?_
  · rintro i σ H2 hi ⟨S2, x2, x3, x4, x5, x6, x7, x8, rfl⟩
    have e : 1000 - 100 * i = (1000 - 100 * (i + 1)) + 100 := by omega
    rw [e] at S2
    show xTurn81 K BC BR C _ [some (.ref a), some (.ref d), some (.int (0 + i)), x3, x4, x5, x6, x7, x8] H2
    rw [xTurn81_eq]
    exact turn81 S2 fun y3 y4 y5 y6 y7 y8 H' S' => ⟨S', _, _, _, _, _, _, _, rfl⟩
  · rintro σ H2 _
    exact k H2
end
end SR
set_option Elab.async false
set_option linter.all false
set_option maxRecDepth 100000
set_option maxHeartbeats 8000000
namespace SR
open PySem PySem.Spec PyProof.Rows L2
theorem sc_is_integer : FnScope ["value"] ["value"] (defScope s_is_integer) := ⟨rfl, rfl, rfl, by decide +kernel, rfl, by decide +kernel, by decide +kernel⟩
theorem sc_is_between : FnScope ["value", "low", "high"] ["value", "low", "high"] (defScope s_is_between) := ⟨rfl, rfl, rfl, by decide +kernel, rfl, by decide +kernel, by decide +kernel⟩
theorem sc_is_pair : FnScope ["value"] ["value"] (defScope s_is_pair) := ⟨rfl, rfl, rfl, by decide +kernel, rfl, by decide +kernel, by decide +kernel⟩
theorem sc_are_pairs : FnScope ["value", "part", "first", "_"] ["value"] (defScope s_are_pairs) := ⟨rfl, rfl, rfl, by decide +kernel, rfl, by decide +kernel, by decide +kernel⟩
theorem sc_is_wide_box : FnScope ["index", "capacity"] ["index", "capacity"] (defScope s_is_wide_box) := ⟨rfl, rfl, rfl, by decide +kernel, rfl, by decide +kernel, by decide +kernel⟩
theorem sc_are_capacities : FnScope ["value", "index", "capacity"] ["value"] (defScope s_are_capacities) := ⟨rfl, rfl, rfl, by decide +kernel, rfl, by decide +kernel, by decide +kernel⟩
theorem sc_are_contents : FnScope ["value", "capacities", "wide", "index", "count", "_"] ["value", "capacities"] (defScope s_are_contents) := ⟨rfl, rfl, rfl, by decide +kernel, rfl, by decide +kernel, by decide +kernel⟩
theorem sc_is_row_like : FnScope ["contents", "capacities"] ["contents", "capacities"] (defScope s_is_row_like) := ⟨rfl, rfl, rfl, by decide +kernel, rfl, by decide +kernel, by decide +kernel⟩
theorem sc_Row_init : FnScope ["self", "contents", "capacities"] ["self", "contents", "capacities"] (defScope s_Row_init) := ⟨rfl, rfl, rfl, by decide +kernel, rfl, by decide +kernel, by decide +kernel⟩
theorem sc_Row_contents : FnScope ["self"] ["self"] (defScope s_Row_contents) := ⟨rfl, rfl, rfl, by decide +kernel, rfl, by decide +kernel, by decide +kernel⟩
theorem sc_Row_capacities : FnScope ["self"] ["self"] (defScope s_Row_capacities) := ⟨rfl, rfl, rfl, by decide +kernel, rfl, by decide +kernel, by decide +kernel⟩
theorem sc_Row_held : FnScope ["self", "index"] ["self", "index"] (defScope s_Row_held) := ⟨rfl, rfl, rfl, by decide +kernel, rfl, by decide +kernel, by decide +kernel⟩
theorem sc_Row_capacity : FnScope ["self", "index"] ["self", "index"] (defScope s_Row_capacity) := ⟨rfl, rfl, rfl, by decide +kernel, rfl, by decide +kernel, by decide +kernel⟩
theorem sc_Row_total : FnScope ["self", "count", "_"] ["self"] (defScope s_Row_total) := ⟨rfl, rfl, rfl, by decide +kernel, rfl, by decide +kernel, by decide +kernel⟩
theorem sc_Row_is_plain : FnScope ["self"] ["self"] (defScope s_Row_is_plain) := ⟨rfl, rfl, rfl, by decide +kernel, rfl, by decide +kernel, by decide +kernel⟩
theorem sc_is_plain_row : FnScope ["value"] ["value"] (defScope s_is_plain_row) := ⟨rfl, rfl, rfl, by decide +kernel, rfl, by decide +kernel, by decide +kernel⟩
theorem sc_is_capacity : FnScope ["value"] ["value"] (defScope s_is_capacity) := ⟨rfl, rfl, rfl, by decide +kernel, rfl, by decide +kernel, by decide +kernel⟩
theorem sc_handled : FnScope ["capacity", "load", "box_capacity", "count"] ["capacity", "load", "box_capacity", "count"] (defScope s_handled) := ⟨rfl, rfl, rfl, by decide +kernel, rfl, by decide +kernel, by decide +kernel⟩
theorem sc_passed : FnScope ["capacity", "load", "box_capacity", "count", "up", "down"] ["capacity", "load", "box_capacity", "count"] (defScope s_passed) := ⟨rfl, rfl, rfl, by decide +kernel, rfl, by decide +kernel, by decide +kernel⟩
theorem sc_steps_from : FnScope ["row", "capacity", "start", "steps", "index", "load", "count", "new_count", "new_load"] ["row", "capacity", "start"] (defScope s_steps_from) := ⟨rfl, rfl, rfl, by decide +kernel, rfl, by decide +kernel, by decide +kernel⟩
theorem sc_trace : FnScope ["row", "capacity", "steps", "start", "_"] ["row", "capacity"] (defScope s_trace) := ⟨rfl, rfl, rfl, by decide +kernel, rfl, by decide +kernel, by decide +kernel⟩
theorem sc_left_by : FnScope ["steps", "index", "_", "new_count"] ["steps"] (defScope s_left_by) := ⟨rfl, rfl, rfl, by decide +kernel, rfl, by decide +kernel, by decide +kernel⟩
theorem sc_sweep : FnScope ["row", "capacity"] ["row", "capacity"] (defScope s_sweep) := ⟨rfl, rfl, rfl, by decide +kernel, rfl, by decide +kernel, by decide +kernel⟩
theorem sc_mirrored : FnScope ["row", "contents", "index", "count", "capacity"] ["row"] (defScope s_mirrored) := ⟨rfl, rfl, rfl, by decide +kernel, rfl, by decide +kernel, by decide +kernel⟩
theorem sc_unsweep : FnScope ["row", "capacity"] ["row", "capacity"] (defScope s_unsweep) := ⟨rfl, rfl, rfl, by decide +kernel, rfl, by decide +kernel, by decide +kernel⟩
theorem sc_picked : FnScope ["row", "capacity", "_", "load", "count"] ["row", "capacity"] (defScope s_picked) := ⟨rfl, rfl, rfl, by decide +kernel, rfl, by decide +kernel, by decide +kernel⟩
theorem sc_without_box : FnScope ["contents", "index", "capacity", "near", "pair", "place", "count"] ["contents", "index", "capacity"] (defScope s_without_box) := ⟨rfl, rfl, rfl, by decide +kernel, rfl, by decide +kernel, by decide +kernel⟩
theorem sc_plain_form : FnScope ["row", "contents", "index", "capacity", "behind", "pair"] ["row"] (defScope s_plain_form) := ⟨rfl, rfl, rfl, by decide +kernel, rfl, by decide +kernel, by decide +kernel⟩
theorem sc_with_box : FnScope ["contents", "index", "capacity", "near", "place", "count"] ["contents", "index", "capacity"] (defScope s_with_box) := ⟨rfl, rfl, rfl, by decide +kernel, rfl, by decide +kernel, by decide +kernel⟩
theorem sc_with_capacities : FnScope ["row", "capacities", "contents", "index", "capacity", "behind", "pair"] ["row", "capacities"] (defScope s_with_capacities) := ⟨rfl, rfl, rfl, by decide +kernel, rfl, by decide +kernel, by decide +kernel⟩
theorem sc_runs_in : FnScope ["row", "found", "index", "_"] ["row"] (defScope s_runs_in) := ⟨rfl, rfl, rfl, by decide +kernel, rfl, by decide +kernel, by decide +kernel⟩
theorem sc_runs : FnScope ["row"] ["row"] (defScope s_runs) := ⟨rfl, rfl, rfl, by decide +kernel, rfl, by decide +kernel, by decide +kernel⟩
theorem sc_cut : FnScope ["row", "kept", "offsets", "first", "length", "start", "place"] ["row"] (defScope s_cut) := ⟨rfl, rfl, rfl, by decide +kernel, rfl, by decide +kernel, by decide +kernel⟩
theorem sc_behind_runs : FnScope ["row", "first", "length"] ["row"] (defScope s_behind_runs) := ⟨rfl, rfl, rfl, by decide +kernel, rfl, by decide +kernel, by decide +kernel⟩
theorem sc_trains : FnScope ["row", "found", "rest", "length", "offsets", "index", "offset"] ["row"] (defScope s_trains) := ⟨rfl, rfl, rfl, by decide +kernel, rfl, by decide +kernel, by decide +kernel⟩
theorem sc_lengths : FnScope ["row", "length", "_"] ["row"] (defScope s_lengths) := ⟨rfl, rfl, rfl, by decide +kernel, rfl, by decide +kernel, by decide +kernel⟩
theorem sc_are_trains : FnScope ["value", "part", "length", "_"] ["value"] (defScope s_are_trains) := ⟨rfl, rfl, rfl, by decide +kernel, rfl, by decide +kernel, by decide +kernel⟩
theorem sc_uncut : FnScope ["row", "offsets", "added", "moved", "before", "offset", "index", "_"] ["row", "offsets"] (defScope s_uncut) := ⟨rfl, rfl, rfl, by decide +kernel, rfl, by decide +kernel, by decide +kernel⟩
theorem sc_row_of : FnScope ["trains", "capacities", "row", "level", "begun", "length", "offset", "_"] ["trains", "capacities"] (defScope s_row_of) := ⟨rfl, rfl, rfl, by decide +kernel, rfl, by decide +kernel, by decide +kernel⟩
theorem sc_is_counts : FnScope ["value", "capacity", "many"] ["value"] (defScope s_is_counts) := ⟨rfl, rfl, rfl, by decide +kernel, rfl, by decide +kernel, by decide +kernel⟩
theorem sc_way : FnScope ["length", "counts", "many", "capacity"] ["length", "counts"] (defScope s_way) := ⟨rfl, rfl, rfl, by decide +kernel, rfl, by decide +kernel, by decide +kernel⟩
theorem sc_moved : FnScope ["found", "counts", "length", "offset"] ["found", "counts"] (defScope s_moved) := ⟨rfl, rfl, rfl, by decide +kernel, rfl, by decide +kernel, by decide +kernel⟩
theorem sc_advance : FnScope ["row", "counts"] ["row", "counts"] (defScope s_advance) := ⟨rfl, rfl, rfl, by decide +kernel, rfl, by decide +kernel, by decide +kernel⟩
theorem sc_given_up : FnScope ["row", "capacity", "index", "box_capacity", "length"] ["row", "capacity", "index"] (defScope s_given_up) := ⟨rfl, rfl, rfl, by decide +kernel, rfl, by decide +kernel, by decide +kernel⟩
theorem sc_begun : FnScope ["script", "wide", "cell"] ["script"] (defScope s_begun) := ⟨rfl, rfl, rfl, by decide +kernel, rfl, by decide +kernel, by decide +kernel⟩
theorem sc_mixed : FnScope ["state", "turn", "found", "prime", "blend", "cell"] ["state"] (defScope s_mixed) := ⟨rfl, rfl, rfl, by decide +kernel, rfl, by decide +kernel, by decide +kernel⟩
theorem sc_take : FnScope ["state", "size", "found"] ["state", "size"] (defScope s_take) := ⟨rfl, rfl, rfl, by decide +kernel, rfl, by decide +kernel, by decide +kernel⟩
theorem sc_pick : FnScope ["state", "some"] ["state", "some"] (defScope s_pick) := ⟨rfl, rfl, rfl, by decide +kernel, rfl, by decide +kernel, by decide +kernel⟩
theorem sc_sizes : FnScope ["state", "most", "found", "turn", "place"] ["state", "most"] (defScope s_sizes) := ⟨rfl, rfl, rfl, by decide +kernel, rfl, by decide +kernel, by decide +kernel⟩
theorem sc_boxes : FnScope ["state", "sizes", "most", "place", "found", "spare", "turn", "step", "amount"] ["state", "sizes", "most"] (defScope s_boxes) := ⟨rfl, rfl, rfl, by decide +kernel, rfl, by decide +kernel, by decide +kernel⟩
theorem sc_made : FnScope ["boxes", "sizes"] ["boxes", "sizes"] (defScope s_made) := ⟨rfl, rfl, rfl, by decide +kernel, rfl, by decide +kernel, by decide +kernel⟩
theorem sc_best : FnScope ["told", "many", "none", "closed", "held", "at", "place", "size", "gap", "fresh", "number", "one", "other", "found"] ["told"] (defScope s_best) := ⟨rfl, rfl, rfl, by decide +kernel, rfl, by decide +kernel, by decide +kernel⟩
theorem sc_sizes_by : FnScope ["surplus", "at"] ["surplus"] (defScope s_sizes_by) := ⟨rfl, rfl, rfl, by decide +kernel, rfl, by decide +kernel, by decide +kernel⟩
theorem sc_told_right : FnScope ["made", "due", "told", "most", "size", "offset"] ["made", "due"] (defScope s_told_right) := ⟨rfl, rfl, rfl, by decide +kernel, rfl, by decide +kernel, by decide +kernel⟩
theorem sc_law : FnScope ["script", "state", "turn", "sizes", "made", "due", "step", "most", "sums"] ["script"] (defScope s_law) := ⟨rfl, rfl, rfl, by decide +kernel, rfl, by decide +kernel, by decide +kernel⟩
structure Tx (K : PySem.W.Frag) (mg : Str → Option Value) (c_Row : Addr) (c_BadNumber : Addr) (c_BadCapacity : Addr) (c_BadIndex : Addr) (c_BadRow : Addr) (c_BadTrains : Addr) (c_BadCounts : Addr) : Prop where
  n_isinstance : mg "isinstance" = none
  n_int : mg "int" = none
  n_bool : mg "bool" = none
  n_list : mg "list" = none
  n_tuple : mg "tuple" = none
  n_all : mg "all" = none
  n_len : mg "len" = none
  n_dict : mg "dict" = none
  n_sum : mg "sum" = none
  n_sorted : mg "sorted" = none
  n_range : mg "range" = none
  n_min : mg "min" = none
  n_max : mg "max" = none
  n_repr : mg "repr" = none
  n_super : mg "super" = none
  n_enumerate : mg "enumerate" = none
  n_zip : mg "zip" = none
  n_abs : mg "abs" = none
  c_GREATEST_CAPACITY : ∃ u, mg "GREATEST_CAPACITY" = some u ∧ RelV (.int (99)) u
  c_FIRST_WIDE_INDEX : ∃ u, mg "FIRST_WIDE_INDEX" = some u ∧ RelV (.int (-60)) u
  c_LAST_WIDE_INDEX : ∃ u, mg "LAST_WIDE_INDEX" = some u ∧ RelV (.int (60)) u
  c_LEAST_WIDE_CAPACITY : ∃ u, mg "LEAST_WIDE_CAPACITY" = some u ∧ RelV (.int (2)) u
  c_GREATEST_WIDE_CAPACITY : ∃ u, mg "GREATEST_WIDE_CAPACITY" = some u ∧ RelV (.int (9)) u
  c_MOST_WIDE_BOXES : ∃ u, mg "MOST_WIDE_BOXES" = some u ∧ RelV (.int (6)) u
  c_MOST_ITEMS : ∃ u, mg "MOST_ITEMS" = some u ∧ RelV (.int (40)) u
  g_Row : mg "Row" = some (.ref c_Row)
  g_BadNumber : mg "BadNumber" = some (.ref c_BadNumber)
  g_BadCapacity : mg "BadCapacity" = some (.ref c_BadCapacity)
  g_BadIndex : mg "BadIndex" = some (.ref c_BadIndex)
  g_BadRow : mg "BadRow" = some (.ref c_BadRow)
  g_BadTrains : mg "BadTrains" = some (.ref c_BadTrains)
  g_BadCounts : mg "BadCounts" = some (.ref c_BadCounts)
  x_BadNumber : PySem.W.excIn K c_BadNumber He.veBase "ValueError.__new__" = true
  k_BadNumber : PySem.W.keepIn K (.ref c_BadNumber) = true
  s_BadNumber : PySem.W.subIn K (.ref c_BadNumber) (.type "BaseException") = some true
  t_BadNumber : PySem.W.typeIn K (.ref c_BadNumber) = some (.type "type")
  x_BadCapacity : PySem.W.excIn K c_BadCapacity He.veBase "ValueError.__new__" = true
  k_BadCapacity : PySem.W.keepIn K (.ref c_BadCapacity) = true
  s_BadCapacity : PySem.W.subIn K (.ref c_BadCapacity) (.type "BaseException") = some true
  t_BadCapacity : PySem.W.typeIn K (.ref c_BadCapacity) = some (.type "type")
  x_BadIndex : PySem.W.excIn K c_BadIndex He.veBase "ValueError.__new__" = true
  k_BadIndex : PySem.W.keepIn K (.ref c_BadIndex) = true
  s_BadIndex : PySem.W.subIn K (.ref c_BadIndex) (.type "BaseException") = some true
  t_BadIndex : PySem.W.typeIn K (.ref c_BadIndex) = some (.type "type")
  x_BadTrains : PySem.W.excIn K c_BadTrains He.veBase "ValueError.__new__" = true
  k_BadTrains : PySem.W.keepIn K (.ref c_BadTrains) = true
  s_BadTrains : PySem.W.subIn K (.ref c_BadTrains) (.type "BaseException") = some true
  t_BadTrains : PySem.W.typeIn K (.ref c_BadTrains) = some (.type "type")
  x_BadCounts : PySem.W.excIn K c_BadCounts He.veBase "ValueError.__new__" = true
  k_BadCounts : PySem.W.keepIn K (.ref c_BadCounts) = true
  s_BadCounts : PySem.W.subIn K (.ref c_BadCounts) (.type "BaseException") = some true
  t_BadCounts : PySem.W.typeIn K (.ref c_BadCounts) = some (.type "type")
section
variable {P : Program} {w : World} {K : PySem.W.Frag} {mg : Str → Option Value} {base : Heap} {c_Row : Addr} {c_BadNumber : Addr} {c_BadCapacity : Addr} {c_BadIndex : Addr} {c_BadRow : Addr} {c_BadTrains : Addr} {c_BadCounts : Addr}
theorem dfn_is_integer (T : Tx K mg c_Row c_BadNumber c_BadCapacity c_BadIndex c_BadRow c_BadTrains c_BadCounts) {f : Addr} {fd : FuncData} (F : FunD K "is_integer" "is_integer" (defArgs s_is_integer) (defBody s_is_integer) (defScope s_is_integer) [] [] f fd) :
    FnOk P w K mg base CX0 1 f fd ["value"] (spIsInt K) := by
  have D : ∀ (cdv : Value) (A : Around) (outer : List Env) (s : Shared) (H : Hp) (vs : List V) (Q : VK) (E : XK), Room 0 (A.deeper (envOfC "is_integer" (defScope s_is_integer) s.heap.objs.size f cdv)) → (spIsInt K) vs H Q E →
      ∃ t, PSs (cxOf CX0 P w K mg base ["value"] "is_integer" (defScope s_is_integer) f cdv A outer s H E) (defBody s_is_integer) t ∧ t { nx := fun _ H' => Q .non H', rt := Q } (start ["value"] vs) H := by
    intro cdv A outer s H vs Q E hr h
    refine ⟨t_is_integer K, PSs.nox ?_, pure_is_integer vs H Q E h⟩
    exact pss_one (ps_ret (pe_and (pe_callB call_isi (by rfl) T.n_isinstance PyProof.Rows.boot_isinstance (pa_cons (pv 0) (pa_cons (pe_bltn (v := .ty "int") (by rfl) T.n_int (by decide +kernel) rfl) pa_nil))) (pe_one (pe_not (pe_callB call_isi (by rfl) T.n_isinstance PyProof.Rows.boot_isinstance (pa_cons (pv 0) (pa_cons (pe_bltn (v := .ty "bool") (by rfl) T.n_bool (by decide +kernel) rfl) pa_nil)))))))
  exact F.ok sc_is_integer (fun vs H Q E h => by
    repeat (first | (obtain ⟨rfl, _⟩ := h; rfl) | obtain ⟨_, h⟩ := h)) D
theorem dfn_is_between (T : Tx K mg c_Row c_BadNumber c_BadCapacity c_BadIndex c_BadRow c_BadTrains c_BadCounts) (C_is_integer : Kn P w K mg base CX0 1 "is_integer" ["value"] (spIsInt K)) {f : Addr} {fd : FuncData} (F : FunD K "is_between" "is_between" (defArgs s_is_between) (defBody s_is_between) (defScope s_is_between) [] [] f fd) :
    FnOk P w K mg base CX0 2 f fd ["value", "low", "high"] (spBetween K) := by
  have D : ∀ (cdv : Value) (A : Around) (outer : List Env) (s : Shared) (H : Hp) (vs : List V) (Q : VK) (E : XK), Room 1 (A.deeper (envOfC "is_between" (defScope s_is_between) s.heap.objs.size f cdv)) → (spBetween K) vs H Q E →
      ∃ t, PSs (cxOf CX0 P w K mg base ["value", "low", "high"] "is_between" (defScope s_is_between) f cdv A outer s H E) (defBody s_is_between) t ∧ t { nx := fun _ H' => Q .non H', rt := Q } (start ["value", "low", "high"] vs) H := by
    intro cdv A outer s H vs Q E hr h
    refine ⟨t_is_between K, PSs.nox ?_, pure_is_between vs H Q E h⟩
    exact pss_one (ps_ret (pe_and (pe_k C_is_integer hr (by decide) rfl pass0 (pa_cons (pv 0) (pa_nil))) (pe_one (pe_chain op_le op_le (pv 1) (pv 0) (pv 2)))))
  exact F.ok sc_is_between (fun vs H Q E h => by
    repeat (first | (obtain ⟨rfl, _⟩ := h; rfl) | obtain ⟨_, h⟩ := h)) D
theorem dfn_is_pair (T : Tx K mg c_Row c_BadNumber c_BadCapacity c_BadIndex c_BadRow c_BadTrains c_BadCounts) (C_is_integer : Kn P w K mg base CX0 1 "is_integer" ["value"] (spIsInt K)) {f : Addr} {fd : FuncData} (F : FunD K "is_pair" "is_pair" (defArgs s_is_pair) (defBody s_is_pair) (defScope s_is_pair) [] [] f fd) :
    FnOk P w K mg base CX0 2 f fd ["value"] (spIsPair K) := by
  have D : ∀ (cdv : Value) (A : Around) (outer : List Env) (s : Shared) (H : Hp) (vs : List V) (Q : VK) (E : XK), Room 1 (A.deeper (envOfC "is_pair" (defScope s_is_pair) s.heap.objs.size f cdv)) → (spIsPair K) vs H Q E →
      ∃ t, PSs (cxOf CX0 P w K mg base ["value"] "is_pair" (defScope s_is_pair) f cdv A outer s H E) (defBody s_is_pair) t ∧ t { nx := fun _ H' => Q .non H', rt := Q } (start ["value"] vs) H := by
    intro cdv A outer s H vs Q E hr h
    refine ⟨t_is_pair K, PSs.nox ?_, pure_is_pair vs H Q E h⟩
    exact pss_cons (ps_if (PW.pt (pw_or (pt_not (pt_val (pe_callB call_isi (by rfl) T.n_isinstance PyProof.Rows.boot_isinstance (pa_cons (pv 0) (pa_cons (pe_bltn (v := .ty "tuple") (by rfl) T.n_tuple (by decide +kernel) rfl) pa_nil))))) (pw_or1 (pt_cmpR op_ne (pe_callB call_len_seq (by rfl) T.n_len PySem.boot_len (pa_cons (pv 0) (pa_nil))) (pe_int) (nomark _)))))
      (pss_one (ps_ret (pe_bl)))
      (pss_nil))
      (pss_one (ps_ret (pe_and (pe_k C_is_integer hr (by decide) rfl pass0 (pa_cons (pe_ix ix_tup (pv 0) (pe_int) (fun _ _ => rfl)) (pa_nil))) (pe_one (pe_k C_is_integer hr (by decide) rfl pass0 (pa_cons (pe_ix ix_tup (pv 0) (pe_int) (fun _ _ => rfl)) (pa_nil)))))))
  exact F.ok sc_is_pair (fun vs H Q E h => by
    repeat (first | (obtain ⟨rfl, _⟩ := h; rfl) | obtain ⟨_, h⟩ := h)) D
theorem dfn_are_pairs (T : Tx K mg c_Row c_BadNumber c_BadCapacity c_BadIndex c_BadRow c_BadTrains c_BadCounts) (C_is_pair : Kn P w K mg base CX0 2 "is_pair" ["value"] (spIsPair K)) {f : Addr} {fd : FuncData} (F : FunD K "are_pairs" "are_pairs" (defArgs s_are_pairs) (defBody s_are_pairs) (defScope s_are_pairs) [] [] f fd) :
    FnOk P w K mg base CX0 3 f fd ["value"] (spArePairs2 K) := by
  have D : ∀ (cdv : Value) (A : Around) (outer : List Env) (s : Shared) (H : Hp) (vs : List V) (Q : VK) (E : XK), Room 2 (A.deeper (envOfC "are_pairs" (defScope s_are_pairs) s.heap.objs.size f cdv)) → (spArePairs2 K) vs H Q E →
      ∃ t, PSs (cxOf CX0 P w K mg base ["value", "part", "first", "_"] "are_pairs" (defScope s_are_pairs) f cdv A outer s H E) (defBody s_are_pairs) t ∧ t { nx := fun _ H' => Q .non H', rt := Q } (start ["value", "part", "first", "_"] vs) H := by
    intro cdv A outer s H vs Q E hr h
    refine ⟨t_are_pairs w K, PSs.nox ?_, pure_are_pairs2 vs H Q E h⟩
    exact pss_cons (ps_if (pt_not (pt_val (pe_callB call_isiT (by rfl) T.n_isinstance PyProof.Rows.boot_isinstance (pa_cons (pv 0) (pa_cons (pe_tup (pa_cons (pe_bltn (v := .ty "list") (by rfl) T.n_list (by decide +kernel) rfl) (pa_cons (pe_bltn (v := .ty "tuple") (by rfl) T.n_tuple (by decide +kernel) rfl) (pa_nil)))) pa_nil)))))
      (pss_one (ps_ret (pe_bl)))
      (pss_nil))
      (pss_cons (ps_if (pt_not (pt_val (pe_callB (cr_all rfl) (by rfl) T.n_all (by decide +kernel) (pa_cons (pe_lc (own := [("part", 1)]) (g := gName 1) (tt := tYes) rfl sc_are_pairs.nd (pi_or (pi_list (pv 0)) (pi_tup (pv 0))) (blkOk_by (own := [("part", 1)]) (N := ["value", "part", "first", "_"]) (sc := defScope s_are_pairs) (by decide +kernel)) (fun _ _ _ _ _ => pg_name (i := 1) sc_are_pairs.nd rfl (Or.inl rfl)) (fun _ _ _ _ _ => pts_nil) (fun _ _ _ _ _ => pe_k C_is_pair hr (by decide) rfl pass0 (pa_cons (pv 1) (pa_nil)))) (pa_nil)))))
      (pss_one (ps_ret (pe_bl)))
      (pss_nil))
      (pss_one (ps_ret (pe_cmpR op_eq (pe_callB cr_lenSet (by rfl) T.n_len PySem.boot_len (pa_cons (pe_scN (own := [("first", 2), ("_", 3)]) (g := gTup K 2 (gCons (gName 2) (gCons (gName 3) (gNil)))) (tt := tYes) rfl sc_are_pairs.nd (pi_or (pi_list (pv 0)) (pi_tup (pv 0))) (blkOk_by (own := [("first", 2), ("_", 3)]) (N := ["value", "part", "first", "_"]) (sc := defScope s_are_pairs) (by decide +kernel)) (fun _ _ _ _ _ => pg_tup rfl (pgs_cons (pg_name (i := 2) sc_are_pairs.nd rfl (Or.inl rfl)) (pgs_cons (pg_name (i := 3) sc_are_pairs.nd rfl (Or.inl rfl)) (pgs_nil)))) (fun _ _ _ _ _ => pts_nil) (fun _ _ _ _ _ => pv 2)) (pa_nil))) (pe_callB call_len_seq (by rfl) T.n_len PySem.boot_len (pa_cons (pv 0) (pa_nil))) (nomark _)))))
  exact F.ok sc_are_pairs (fun vs H Q E h => by
    repeat (first | (obtain ⟨rfl, _⟩ := h; rfl) | obtain ⟨_, h⟩ := h)) D
theorem dfn_is_wide_box (T : Tx K mg c_Row c_BadNumber c_BadCapacity c_BadIndex c_BadRow c_BadTrains c_BadCounts) (C_is_between : Kn P w K mg base CX0 2 "is_between" ["value", "low", "high"] (spBetween K)) {f : Addr} {fd : FuncData} (F : FunD K "_is_wide_box" "_is_wide_box" (defArgs s_is_wide_box) (defBody s_is_wide_box) (defScope s_is_wide_box) [] [] f fd) :
    FnOk P w K mg base CX0 3 f fd ["index", "capacity"] (spWideBox2 K) := by
  have D : ∀ (cdv : Value) (A : Around) (outer : List Env) (s : Shared) (H : Hp) (vs : List V) (Q : VK) (E : XK), Room 2 (A.deeper (envOfC "_is_wide_box" (defScope s_is_wide_box) s.heap.objs.size f cdv)) → (spWideBox2 K) vs H Q E →
      ∃ t, PSs (cxOf CX0 P w K mg base ["index", "capacity"] "_is_wide_box" (defScope s_is_wide_box) f cdv A outer s H E) (defBody s_is_wide_box) t ∧ t { nx := fun _ H' => Q .non H', rt := Q } (start ["index", "capacity"] vs) H := by
    intro cdv A outer s H vs Q E hr h
    refine ⟨t_is_wide_box K, PSs.nox ?_, pure_wide_box2 vs H Q E h⟩
    exact pss_cons (ps_if (pt_not (pt_val (pe_k C_is_between hr (by decide) rfl pass0 (pa_cons (pv 0) (pa_cons (pe_gl (by rfl) T.c_FIRST_WIDE_INDEX) (pa_cons (pe_gl (by rfl) T.c_LAST_WIDE_INDEX) (pa_nil)))))))
      (pss_one (ps_ret (pe_bl)))
      (pss_nil))
      (pss_one (ps_ret (pe_k C_is_between hr (by decide) rfl pass0 (pa_cons (pv 1) (pa_cons (pe_gl (by rfl) T.c_LEAST_WIDE_CAPACITY) (pa_cons (pe_gl (by rfl) T.c_GREATEST_WIDE_CAPACITY) (pa_nil)))))))
  exact F.ok sc_is_wide_box (fun vs H Q E h => by
    repeat (first | (obtain ⟨rfl, _⟩ := h; rfl) | obtain ⟨_, h⟩ := h)) D
theorem dfn_are_capacities (T : Tx K mg c_Row c_BadNumber c_BadCapacity c_BadIndex c_BadRow c_BadTrains c_BadCounts) (C_are_pairs : Kn P w K mg base CX0 3 "are_pairs" ["value"] (spArePairs2 K)) (C_is_wide_box : Kn P w K mg base CX0 3 "_is_wide_box" ["index", "capacity"] (spWideBox2 K)) {f : Addr} {fd : FuncData} (F : FunD K "_are_capacities" "_are_capacities" (defArgs s_are_capacities) (defBody s_are_capacities) (defScope s_are_capacities) [] [] f fd) :
    FnOk P w K mg base CX0 4 f fd ["value"] (spAreCap2 K) := by
  have D : ∀ (cdv : Value) (A : Around) (outer : List Env) (s : Shared) (H : Hp) (vs : List V) (Q : VK) (E : XK), Room 3 (A.deeper (envOfC "_are_capacities" (defScope s_are_capacities) s.heap.objs.size f cdv)) → (spAreCap2 K) vs H Q E →
      ∃ t, PSs (cxOf CX0 P w K mg base ["value", "index", "capacity"] "_are_capacities" (defScope s_are_capacities) f cdv A outer s H E) (defBody s_are_capacities) t ∧ t { nx := fun _ H' => Q .non H', rt := Q } (start ["value", "index", "capacity"] vs) H := by
    intro cdv A outer s H vs Q E hr h
    refine ⟨t_are_capacities2 K, PSs.nox ?_, pure_are_cap2 vs H Q E h⟩
    exact pss_cons (ps_if (PW.pt (pw_or (pt_not (pt_val (pe_k C_are_pairs hr (by decide) rfl pass0 (pa_cons (pv 0) (pa_nil))))) (pw_or1 (pt_cmpR op_gt (pe_callB call_len_seq (by rfl) T.n_len PySem.boot_len (pa_cons (pv 0) (pa_nil))) (pe_gl (by rfl) T.c_MOST_WIDE_BOXES) (nomark _)))))
      (pss_one (ps_ret (pe_bl)))
      (pss_nil))
      (pss_one (ps_ret (pe_callB (cr_all rfl) (by rfl) T.n_all (by decide +kernel) (pa_cons (pe_lc (own := [("index", 1), ("capacity", 2)]) (g := gTup K 2 (gCons (gName 1) (gCons (gName 2) (gNil)))) (tt := tYes) rfl sc_are_capacities.nd (pi_or (pi_list (pv 0)) (pi_tup (pv 0))) (blkOk_by (own := [("index", 1), ("capacity", 2)]) (N := ["value", "index", "capacity"]) (sc := defScope s_are_capacities) (by decide +kernel)) (fun _ _ _ _ _ => pg_tup rfl (pgs_cons (pg_name (i := 1) sc_are_capacities.nd rfl (Or.inl rfl)) (pgs_cons (pg_name (i := 2) sc_are_capacities.nd rfl (Or.inl rfl)) (pgs_nil)))) (fun _ _ _ _ _ => pts_nil) (fun _ _ _ _ _ => pe_k C_is_wide_box hr (by decide) rfl pass0 (pa_cons (pv 1) (pa_cons (pv 2) (pa_nil))))) (pa_nil)))))
  exact F.ok sc_are_capacities (fun vs H Q E h => by
    repeat (first | (obtain ⟨rfl, _⟩ := h; rfl) | obtain ⟨_, h⟩ := h)) D
theorem dfn_are_contents (T : Tx K mg c_Row c_BadNumber c_BadCapacity c_BadIndex c_BadRow c_BadTrains c_BadCounts) (C_are_pairs : Kn P w K mg base CX0 3 "are_pairs" ["value"] (spArePairs2 K)) {f : Addr} {fd : FuncData} (F : FunD K "_are_contents" "_are_contents" (defArgs s_are_contents) (defBody s_are_contents) (defScope s_are_contents) [] [] f fd) :
    FnOk P w K mg base CX0 4 f fd ["value", "capacities"] (spAreContents K) := by
  have D : ∀ (cdv : Value) (A : Around) (outer : List Env) (s : Shared) (H : Hp) (vs : List V) (Q : VK) (E : XK), Room 3 (A.deeper (envOfC "_are_contents" (defScope s_are_contents) s.heap.objs.size f cdv)) → (spAreContents K) vs H Q E →
      ∃ t, PSs (cxOf CX0 P w K mg base ["value", "capacities", "wide", "index", "count", "_"] "_are_contents" (defScope s_are_contents) f cdv A outer s H E) (defBody s_are_contents) t ∧ t { nx := fun _ H' => Q .non H', rt := Q } (start ["value", "capacities", "wide", "index", "count", "_"] vs) H := by
    intro cdv A outer s H vs Q E hr h
    refine ⟨t_are_contents2 K, PSs.nox ?_, pure_are_contents2 vs H Q E h⟩
    exact pss_cons (ps_if (pt_not (pt_val (pe_k C_are_pairs hr (by decide) rfl pass0 (pa_cons (pv 0) (pa_nil)))))
      (pss_one (ps_ret (pe_bl)))
      (pss_nil))
      (pss_cons (ps_set (i := 2) sc_are_contents.nd rfl (Or.inr rfl) (pe_callTy (cr_or (call_dictP rfl) (cr_dictPT rfl)) (by rfl) T.n_dict (by decide +kernel) (pa_cons (pv 1) (pa_nil))))
      (pss_cons (ps_if (pt_not (pt_val (pe_callB (cr_all rfl) (by rfl) T.n_all (by decide +kernel) (pa_cons (pe_lc (own := [("index", 3), ("count", 4)]) (g := gTup K 2 (gCons (gName 3) (gCons (gName 4) (gNil)))) (tt := tYes) rfl sc_are_contents.nd (pi_or (pi_list (pv 0)) (pi_tup (pv 0))) (blkOk_by (own := [("index", 3), ("count", 4)]) (N := ["value", "capacities", "wide", "index", "count", "_"]) (sc := defScope s_are_contents) (by decide +kernel)) (fun _ _ _ _ _ => pg_tup rfl (pgs_cons (pg_name (i := 3) sc_are_contents.nd rfl (Or.inl rfl)) (pgs_cons (pg_name (i := 4) sc_are_contents.nd rfl (Or.inl rfl)) (pgs_nil)))) (fun _ _ _ _ _ => pts_nil) (fun _ _ _ _ _ => pe_chain op_le op_le (pe_int) (pv 4) (pe_dget2 (hu_of hr) (pv 2) (pv 3) (pe_int) ⟨rfl, rfl, rfl, rfl⟩))) (pa_nil)))))
      (pss_one (ps_ret (pe_bl)))
      (pss_nil))
      (pss_one (ps_ret (pe_cmpR op_le (pe_callB (cr_sum rfl) (by rfl) T.n_sum (by decide +kernel) (pa_cons (pe_lc (own := [("count", 4), ("_", 5)]) (g := gTup K 2 (gCons (gName 5) (gCons (gName 4) (gNil)))) (tt := tYes) rfl sc_are_contents.nd (pi_or (pi_list (pv 0)) (pi_tup (pv 0))) (blkOk_by (own := [("count", 4), ("_", 5)]) (N := ["value", "capacities", "wide", "index", "count", "_"]) (sc := defScope s_are_contents) (by decide +kernel)) (fun _ _ _ _ _ => pg_tup rfl (pgs_cons (pg_name (i := 5) sc_are_contents.nd rfl (Or.inl rfl)) (pgs_cons (pg_name (i := 4) sc_are_contents.nd rfl (Or.inl rfl)) (pgs_nil)))) (fun _ _ _ _ _ => pts_nil) (fun _ _ _ _ _ => pv 4)) (pa_nil))) (pe_gl (by rfl) T.c_MOST_ITEMS) (nomark _))))))
  exact F.ok sc_are_contents (fun vs H Q E h => by
    repeat (first | (obtain ⟨rfl, _⟩ := h; rfl) | obtain ⟨_, h⟩ := h)) D
theorem dfn_is_row_like (T : Tx K mg c_Row c_BadNumber c_BadCapacity c_BadIndex c_BadRow c_BadTrains c_BadCounts) (C_are_capacities : Kn P w K mg base CX0 4 "_are_capacities" ["value"] (spAreCap2 K)) (C_are_contents : Kn P w K mg base CX0 4 "_are_contents" ["value", "capacities"] (spAreContents K)) {f : Addr} {fd : FuncData} (F : FunD K "is_row_like" "is_row_like" (defArgs s_is_row_like) (defBody s_is_row_like) (defScope s_is_row_like) [] [] f fd) :
    FnOk P w K mg base CX0 6 f fd ["contents", "capacities"] (spRowLike K) := by
  have D : ∀ (cdv : Value) (A : Around) (outer : List Env) (s : Shared) (H : Hp) (vs : List V) (Q : VK) (E : XK), Room 5 (A.deeper (envOfC "is_row_like" (defScope s_is_row_like) s.heap.objs.size f cdv)) → (spRowLike K) vs H Q E →
      ∃ t, PSs (cxOf CX0 P w K mg base ["contents", "capacities"] "is_row_like" (defScope s_is_row_like) f cdv A outer s H E) (defBody s_is_row_like) t ∧ t { nx := fun _ H' => Q .non H', rt := Q } (start ["contents", "capacities"] vs) H := by
    intro cdv A outer s H vs Q E hr h
    refine ⟨t_is_row_like K, PSs.nox ?_, pure_row_like vs H Q E h⟩
    exact pss_one (ps_ret (pe_and (pe_k C_are_capacities hr (by decide) rfl pass0 (pa_cons (pv 1) (pa_nil))) (pe_one (pe_k C_are_contents hr (by decide) rfl pass0 (pa_cons (pv 0) (pa_cons (pv 1) (pa_nil)))))))
  exact F.ok sc_is_row_like (fun vs H Q E h => by
    repeat (first | (obtain ⟨rfl, _⟩ := h; rfl) | obtain ⟨_, h⟩ := h)) D
theorem dfn_Row_init (T : Tx K mg c_Row c_BadNumber c_BadCapacity c_BadIndex c_BadRow c_BadTrains c_BadCounts) (C_are_capacities : Kn P w K mg base CX0 4 "_are_capacities" ["value"] (spAreCap2 K)) (C_are_contents : Kn P w K mg base CX0 4 "_are_contents" ["value", "capacities"] (spAreContents K)) (R_Row : RowC K c_Row) {f : Addr} {fd : FuncData} {dv : List V} (F : FunD K "__init__" "Row.__init__" (defArgs s_Row_init) (defBody s_Row_init) (defScope s_Row_init) dv [] f fd) :
    FnOk P w K mg base CX0 5 f fd ["self", "contents", "capacities"] (spRowInit K c_Row) := by
  have D : ∀ (cdv : Value) (A : Around) (outer : List Env) (s : Shared) (H : Hp) (vs : List V) (Q : VK) (E : XK), Room 4 (A.deeper (envOfC "Row.__init__" (defScope s_Row_init) s.heap.objs.size f cdv)) → (spRowInit K c_Row) vs H Q E →
      ∃ t, PSs (cxOf CX0 P w K mg base ["self", "contents", "capacities"] "Row.__init__" (defScope s_Row_init) f cdv A outer s H E) (defBody s_Row_init) t ∧ t { nx := fun _ H' => Q .non H', rt := Q } (start ["self", "contents", "capacities"] vs) H := by
    intro cdv A outer s H vs Q E hr h
    refine ⟨t_Row_init2 K, PSs.nox ?_, pure_row_init2 R_Row vs H Q E h⟩
    exact pss_cons (ps_if (pt_not (pt_val (pe_k C_are_capacities hr (by decide) rfl pass0 (pa_cons (pv 2) (pa_nil)))))
      (pss_one (ps_no))
      (pss_nil))
      (pss_cons (ps_if (pt_not (pt_val (pe_k C_are_contents hr (by decide) rfl pass0 (pa_cons (pv 1) (pa_cons (pv 2) (pa_nil))))))
      (pss_one (ps_no))
      (pss_nil))
      (pss_cons (ps_fld (pv 0) (pe_callTy cr_tupB (by rfl) T.n_tuple (by decide +kernel) (pa_cons (pe_callB (cr_or cr_sortedPO cr_sortedPT) (by rfl) T.n_sorted (by decide +kernel) (pa_cons (pv 1) (pa_nil))) (pa_nil))) rfl)
      (pss_cons (ps_fld (pv 0) (pe_callTy cr_tupB (by rfl) T.n_tuple (by decide +kernel) (pa_cons (pe_callB (cr_or cr_sortedPO cr_sortedPT) (by rfl) T.n_sorted (by decide +kernel) (pa_cons (pv 2) (pa_nil))) (pa_nil))) rfl)
      (pss_cons (ps_fld (pv 0) (pe_callTy (cr_or (call_dictP rfl) (cr_dictPT rfl)) (by rfl) T.n_dict (by decide +kernel) (pa_cons (pv 1) (pa_nil))) rfl)
      (pss_one (ps_fld (pv 0) (pe_callTy (cr_or (call_dictP rfl) (cr_dictPT rfl)) (by rfl) T.n_dict (by decide +kernel) (pa_cons (pv 2) (pa_nil))) rfl))))))
  exact F.ok sc_Row_init (fun vs H Q E h => by
    repeat (first | (obtain ⟨rfl, _⟩ := h; rfl) | obtain ⟨_, h⟩ := h)) D
theorem dfn_Row_contents (T : Tx K mg c_Row c_BadNumber c_BadCapacity c_BadIndex c_BadRow c_BadTrains c_BadCounts) (R_Row : RowC K c_Row) {f : Addr} {fd : FuncData} {dv : List V} (F : FunD K "contents" "Row.contents" (defArgs s_Row_contents) (defBody s_Row_contents) (defScope s_Row_contents) dv [] f fd) :
    FnOk P w K mg base CX0 1 f fd ["self"] (spContents K c_Row) := by
  have D : ∀ (cdv : Value) (A : Around) (outer : List Env) (s : Shared) (H : Hp) (vs : List V) (Q : VK) (E : XK), Room 0 (A.deeper (envOfC "Row.contents" (defScope s_Row_contents) s.heap.objs.size f cdv)) → (spContents K c_Row) vs H Q E →
      ∃ t, PSs (cxOf CX0 P w K mg base ["self"] "Row.contents" (defScope s_Row_contents) f cdv A outer s H E) (defBody s_Row_contents) t ∧ t { nx := fun _ H' => Q .non H', rt := Q } (start ["self"] vs) H := by
    intro cdv A outer s H vs Q E hr h
    refine ⟨t_Row_contents K, PSs.nox ?_, pure_contents R_Row vs H Q E h⟩
    exact pss_one (ps_ret (pe_fld (pv 0) rfl))
  exact F.ok sc_Row_contents (fun vs H Q E h => by
    repeat (first | (obtain ⟨rfl, _⟩ := h; rfl) | obtain ⟨_, h⟩ := h)) D
theorem dfn_Row_capacities (T : Tx K mg c_Row c_BadNumber c_BadCapacity c_BadIndex c_BadRow c_BadTrains c_BadCounts) (R_Row : RowC K c_Row) {f : Addr} {fd : FuncData} {dv : List V} (F : FunD K "capacities" "Row.capacities" (defArgs s_Row_capacities) (defBody s_Row_capacities) (defScope s_Row_capacities) dv [] f fd) :
    FnOk P w K mg base CX0 1 f fd ["self"] (spCapacities K c_Row) := by
  have D : ∀ (cdv : Value) (A : Around) (outer : List Env) (s : Shared) (H : Hp) (vs : List V) (Q : VK) (E : XK), Room 0 (A.deeper (envOfC "Row.capacities" (defScope s_Row_capacities) s.heap.objs.size f cdv)) → (spCapacities K c_Row) vs H Q E →
      ∃ t, PSs (cxOf CX0 P w K mg base ["self"] "Row.capacities" (defScope s_Row_capacities) f cdv A outer s H E) (defBody s_Row_capacities) t ∧ t { nx := fun _ H' => Q .non H', rt := Q } (start ["self"] vs) H := by
    intro cdv A outer s H vs Q E hr h
    refine ⟨t_Row_capacities K, PSs.nox ?_, pure_capacities R_Row vs H Q E h⟩
    exact pss_one (ps_ret (pe_fld (pv 0) rfl))
  exact F.ok sc_Row_capacities (fun vs H Q E h => by
    repeat (first | (obtain ⟨rfl, _⟩ := h; rfl) | obtain ⟨_, h⟩ := h)) D
theorem dfn_Row_held (T : Tx K mg c_Row c_BadNumber c_BadCapacity c_BadIndex c_BadRow c_BadTrains c_BadCounts) (C_is_integer : Kn P w K mg base CX0 1 "is_integer" ["value"] (spIsInt K)) (R_Row : RowC K c_Row) {f : Addr} {fd : FuncData} {dv : List V} (F : FunD K "held" "Row.held" (defArgs s_Row_held) (defBody s_Row_held) (defScope s_Row_held) dv [] f fd) :
    FnOk P w K mg base CX0 2 f fd ["self", "index"] (spHeld K c_Row) := by
  have D : ∀ (cdv : Value) (A : Around) (outer : List Env) (s : Shared) (H : Hp) (vs : List V) (Q : VK) (E : XK), Room 1 (A.deeper (envOfC "Row.held" (defScope s_Row_held) s.heap.objs.size f cdv)) → (spHeld K c_Row) vs H Q E →
      ∃ t, PSs (cxOf CX0 P w K mg base ["self", "index"] "Row.held" (defScope s_Row_held) f cdv A outer s H E) (defBody s_Row_held) t ∧ t { nx := fun _ H' => Q .non H', rt := Q } (start ["self", "index"] vs) H := by
    intro cdv A outer s H vs Q E hr h
    refine ⟨t_Row_held K, PSs.nox ?_, pure_held R_Row vs H Q E h⟩
    exact pss_cons (ps_if (pt_not (pt_val (pe_k C_is_integer hr (by decide) rfl pass0 (pa_cons (pv 1) (pa_nil)))))
      (pss_one (ps_no))
      (pss_nil))
      (pss_one (ps_ret (pe_dget2 (hu_of hr) (pe_fld (pv 0) rfl) (pv 1) (pe_int) ⟨rfl, rfl, rfl, rfl⟩)))
  exact F.ok sc_Row_held (fun vs H Q E h => by
    repeat (first | (obtain ⟨rfl, _⟩ := h; rfl) | obtain ⟨_, h⟩ := h)) D
theorem dfn_Row_capacity (T : Tx K mg c_Row c_BadNumber c_BadCapacity c_BadIndex c_BadRow c_BadTrains c_BadCounts) (C_is_integer : Kn P w K mg base CX0 1 "is_integer" ["value"] (spIsInt K)) (R_Row : RowC K c_Row) {f : Addr} {fd : FuncData} {dv : List V} (F : FunD K "capacity" "Row.capacity" (defArgs s_Row_capacity) (defBody s_Row_capacity) (defScope s_Row_capacity) dv [] f fd) :
    FnOk P w K mg base CX0 2 f fd ["self", "index"] (spCapacityOf K c_Row) := by
  have D : ∀ (cdv : Value) (A : Around) (outer : List Env) (s : Shared) (H : Hp) (vs : List V) (Q : VK) (E : XK), Room 1 (A.deeper (envOfC "Row.capacity" (defScope s_Row_capacity) s.heap.objs.size f cdv)) → (spCapacityOf K c_Row) vs H Q E →
      ∃ t, PSs (cxOf CX0 P w K mg base ["self", "index"] "Row.capacity" (defScope s_Row_capacity) f cdv A outer s H E) (defBody s_Row_capacity) t ∧ t { nx := fun _ H' => Q .non H', rt := Q } (start ["self", "index"] vs) H := by
    intro cdv A outer s H vs Q E hr h
    refine ⟨t_Row_capacity K, PSs.nox ?_, pure_capacity_of R_Row vs H Q E h⟩
    exact pss_cons (ps_if (pt_not (pt_val (pe_k C_is_integer hr (by decide) rfl pass0 (pa_cons (pv 1) (pa_nil)))))
      (pss_one (ps_no))
      (pss_nil))
      (pss_one (ps_ret (pe_dget2 (hu_of hr) (pe_fld (pv 0) rfl) (pv 1) (pe_int) ⟨rfl, rfl, rfl, rfl⟩)))
  exact F.ok sc_Row_capacity (fun vs H Q E h => by
    repeat (first | (obtain ⟨rfl, _⟩ := h; rfl) | obtain ⟨_, h⟩ := h)) D
theorem dfn_Row_total (T : Tx K mg c_Row c_BadNumber c_BadCapacity c_BadIndex c_BadRow c_BadTrains c_BadCounts) (R_Row : RowC K c_Row) {f : Addr} {fd : FuncData} {dv : List V} (F : FunD K "total" "Row.total" (defArgs s_Row_total) (defBody s_Row_total) (defScope s_Row_total) dv [] f fd) :
    FnOk P w K mg base CX0 1 f fd ["self"] (spTotal K c_Row) := by
  have D : ∀ (cdv : Value) (A : Around) (outer : List Env) (s : Shared) (H : Hp) (vs : List V) (Q : VK) (E : XK), Room 0 (A.deeper (envOfC "Row.total" (defScope s_Row_total) s.heap.objs.size f cdv)) → (spTotal K c_Row) vs H Q E →
      ∃ t, PSs (cxOf CX0 P w K mg base ["self", "count", "_"] "Row.total" (defScope s_Row_total) f cdv A outer s H E) (defBody s_Row_total) t ∧ t { nx := fun _ H' => Q .non H', rt := Q } (start ["self", "count", "_"] vs) H := by
    intro cdv A outer s H vs Q E hr h
    refine ⟨t_Row_total K, PSs.nox ?_, pure_total R_Row vs H Q E h⟩
    exact pss_one (ps_ret (pe_callB (cr_sum rfl) (by rfl) T.n_sum (by decide +kernel) (pa_cons (pe_lc (own := [("_", 2), ("count", 1)]) (g := gTup K 2 (gCons (gName 2) (gCons (gName 1) (gNil)))) (tt := tYes) rfl sc_Row_total.nd (pi_tup (pe_fld (pv 0) rfl)) (blkOk_by (own := [("_", 2), ("count", 1)]) (N := ["self", "count", "_"]) (sc := defScope s_Row_total) (by decide +kernel)) (fun _ _ _ _ _ => pg_tup rfl (pgs_cons (pg_name (i := 2) sc_Row_total.nd rfl (Or.inl rfl)) (pgs_cons (pg_name (i := 1) sc_Row_total.nd rfl (Or.inl rfl)) (pgs_nil)))) (fun _ _ _ _ _ => pts_nil) (fun _ _ _ _ _ => pv 1)) (pa_nil))))
  exact F.ok sc_Row_total (fun vs H Q E h => by
    repeat (first | (obtain ⟨rfl, _⟩ := h; rfl) | obtain ⟨_, h⟩ := h)) D
theorem dfn_Row_is_plain (T : Tx K mg c_Row c_BadNumber c_BadCapacity c_BadIndex c_BadRow c_BadTrains c_BadCounts) (R_Row : RowC K c_Row) {f : Addr} {fd : FuncData} {dv : List V} (F : FunD K "is_plain" "Row.is_plain" (defArgs s_Row_is_plain) (defBody s_Row_is_plain) (defScope s_Row_is_plain) dv [] f fd) :
    FnOk P w K mg base CX0 1 f fd ["self"] (spIsPlain K c_Row) := by
  have D : ∀ (cdv : Value) (A : Around) (outer : List Env) (s : Shared) (H : Hp) (vs : List V) (Q : VK) (E : XK), Room 0 (A.deeper (envOfC "Row.is_plain" (defScope s_Row_is_plain) s.heap.objs.size f cdv)) → (spIsPlain K c_Row) vs H Q E →
      ∃ t, PSs (cxOf CX0 P w K mg base ["self"] "Row.is_plain" (defScope s_Row_is_plain) f cdv A outer s H E) (defBody s_Row_is_plain) t ∧ t { nx := fun _ H' => Q .non H', rt := Q } (start ["self"] vs) H := by
    intro cdv A outer s H vs Q E hr h
    refine ⟨t_Row_is_plain K, PSs.nox ?_, pure_is_plain R_Row vs H Q E h⟩
    exact pss_one (ps_ret (pe_notT (pe_fld (pv 0) rfl)))
  exact F.ok sc_Row_is_plain (fun vs H Q E h => by
    repeat (first | (obtain ⟨rfl, _⟩ := h; rfl) | obtain ⟨_, h⟩ := h)) D
theorem dfn_is_plain_row (T : Tx K mg c_Row c_BadNumber c_BadCapacity c_BadIndex c_BadRow c_BadTrains c_BadCounts) (C_is_plain : C8.Met P w K mg base 1 c_Row "is_plain" (spIsPlain K c_Row) []) (R_Row : RowC K c_Row) (Z_Row : RowK K c_Row) {f : Addr} {fd : FuncData} (F : FunD K "is_plain_row" "is_plain_row" (defArgs s_is_plain_row) (defBody s_is_plain_row) (defScope s_is_plain_row) [] [] f fd) :
    FnOk P w K mg base CX0 2 f fd ["value"] (spPlainRow K c_Row) := by
  have D : ∀ (cdv : Value) (A : Around) (outer : List Env) (s : Shared) (H : Hp) (vs : List V) (Q : VK) (E : XK), Room 1 (A.deeper (envOfC "is_plain_row" (defScope s_is_plain_row) s.heap.objs.size f cdv)) → (spPlainRow K c_Row) vs H Q E →
      ∃ t, PSs (cxOf CX0 P w K mg base ["value"] "is_plain_row" (defScope s_is_plain_row) f cdv A outer s H E) (defBody s_is_plain_row) t ∧ t { nx := fun _ H' => Q .non H', rt := Q } (start ["value"] vs) H := by
    intro cdv A outer s H vs Q E hr h
    refine ⟨t_is_plain_row K c_Row, PSs.nox ?_, pure_plain_row R_Row Z_Row vs H Q E h⟩
    exact pss_one (ps_ret (pe_and (pe_callB call_isi (by rfl) T.n_isinstance PyProof.Rows.boot_isinstance (pa_cons (pv 0) (pa_cons (pe_gl (by rfl) ⟨_, T.g_Row, rfl⟩) pa_nil))) (pe_one (C8.pe_mt0 C_is_plain hr (by decide) (pv 0)))))
  exact F.ok sc_is_plain_row (fun vs H Q E h => by
    repeat (first | (obtain ⟨rfl, _⟩ := h; rfl) | obtain ⟨_, h⟩ := h)) D
theorem dfn_is_capacity (T : Tx K mg c_Row c_BadNumber c_BadCapacity c_BadIndex c_BadRow c_BadTrains c_BadCounts) (C_is_between : Kn P w K mg base CX0 2 "is_between" ["value", "low", "high"] (spBetween K)) {f : Addr} {fd : FuncData} (F : FunD K "is_capacity" "is_capacity" (defArgs s_is_capacity) (defBody s_is_capacity) (defScope s_is_capacity) [] [] f fd) :
    FnOk P w K mg base CX0 3 f fd ["value"] (spCapacity K) := by
  have D : ∀ (cdv : Value) (A : Around) (outer : List Env) (s : Shared) (H : Hp) (vs : List V) (Q : VK) (E : XK), Room 2 (A.deeper (envOfC "is_capacity" (defScope s_is_capacity) s.heap.objs.size f cdv)) → (spCapacity K) vs H Q E →
      ∃ t, PSs (cxOf CX0 P w K mg base ["value"] "is_capacity" (defScope s_is_capacity) f cdv A outer s H E) (defBody s_is_capacity) t ∧ t { nx := fun _ H' => Q .non H', rt := Q } (start ["value"] vs) H := by
    intro cdv A outer s H vs Q E hr h
    refine ⟨t_is_capacity K, PSs.nox ?_, pure_is_capacity vs H Q E h⟩
    exact pss_one (ps_ret (pe_k C_is_between hr (by decide) rfl pass0 (pa_cons (pv 0) (pa_cons (pe_int) (pa_cons (pe_gl (by rfl) T.c_GREATEST_CAPACITY) (pa_nil))))))
  exact F.ok sc_is_capacity (fun vs H Q E h => by
    repeat (first | (obtain ⟨rfl, _⟩ := h; rfl) | obtain ⟨_, h⟩ := h)) D
theorem dfn_handled (T : Tx K mg c_Row c_BadNumber c_BadCapacity c_BadIndex c_BadRow c_BadTrains c_BadCounts) {f : Addr} {fd : FuncData} (F : FunD K "handled" "handled" (defArgs s_handled) (defBody s_handled) (defScope s_handled) [] [] f fd) :
    FnOk P w K mg base CX0 1 f fd ["capacity", "load", "box_capacity", "count"] spHandled := by
  have D : ∀ (cdv : Value) (A : Around) (outer : List Env) (s : Shared) (H : Hp) (vs : List V) (Q : VK) (E : XK), Room 0 (A.deeper (envOfC "handled" (defScope s_handled) s.heap.objs.size f cdv)) → spHandled vs H Q E →
      ∃ t, PSs (cxOf CX0 P w K mg base ["capacity", "load", "box_capacity", "count"] "handled" (defScope s_handled) f cdv A outer s H E) (defBody s_handled) t ∧ t { nx := fun _ H' => Q .non H', rt := Q } (start ["capacity", "load", "box_capacity", "count"] vs) H := by
    intro cdv A outer s H vs Q E hr h
    refine ⟨t_handled, PSs.nox ?_, pure_handled vs H Q E h⟩
    exact pss_one (ps_ret (pe_tup (pa_cons (pe_callB (call_min2 rfl) (by rfl) T.n_min (by decide +kernel) (pa_cons (pe_op op_sub (pv 0) (pv 1)) (pa_cons (pv 3) (pa_nil)))) (pa_cons (pe_callB (call_min2 rfl) (by rfl) T.n_min (by decide +kernel) (pa_cons (pv 1) (pa_cons (pe_op op_sub (pv 2) (pv 3)) (pa_nil)))) (pa_nil)))))
  exact F.ok sc_handled (fun vs H Q E h => by
    repeat (first | (obtain ⟨rfl, _⟩ := h; rfl) | obtain ⟨_, h⟩ := h)) D
theorem dfn_passed (T : Tx K mg c_Row c_BadNumber c_BadCapacity c_BadIndex c_BadRow c_BadTrains c_BadCounts) (C_is_capacity : Kn P w K mg base CX0 3 "is_capacity" ["value"] (spCapacity K)) (C_is_between : Kn P w K mg base CX0 2 "is_between" ["value", "low", "high"] (spBetween K)) (C_handled : Kn P w K mg base CX0 1 "handled" ["capacity", "load", "box_capacity", "count"] spHandled) {f : Addr} {fd : FuncData} (F : FunD K "passed" "passed" (defArgs s_passed) (defBody s_passed) (defScope s_passed) [] [] f fd) :
    FnOk P w K mg base (L2.CX P w) 4 f fd ["capacity", "load", "box_capacity", "count"] (spPassed K c_BadNumber) := by
  have D : ∀ (cdv : Value) (A : Around) (outer : List Env) (s : Shared) (H : Hp) (vs : List V) (Q : VK) (E : XK), Room 3 (A.deeper (envOfC "passed" (defScope s_passed) s.heap.objs.size f cdv)) → (spPassed K c_BadNumber) vs H Q E →
      ∃ t, PSs (cxOf (L2.CX P w) P w K mg base ["capacity", "load", "box_capacity", "count", "up", "down"] "passed" (defScope s_passed) f cdv A outer s H E) (defBody s_passed) t ∧ t { nx := fun _ H' => Q .non H', rt := Q } (start ["capacity", "load", "box_capacity", "count", "up", "down"] vs) H := by
    intro cdv A outer s H vs Q E hr h
    refine ⟨t_passed K c_BadNumber E, ?_, pure_passed vs H Q E h⟩
    exact pss_cons (ps_if (PW.pt (pw_or (pt_not (pt_val (pe_k C_is_capacity hr (by decide) rfl pass0 (pa_cons (pv 0) (pa_nil))))) (pw_or1 (pt_not (pt_val (pe_k C_is_between hr (by decide) rfl pass0 (pa_cons (pv 1) (pa_cons (pe_int) (pa_cons (pv 0) (pa_nil))))))))))
      (pss_one (ps_raise rfl (takes_of rfl rfl rfl rfl) (pmk_own PySem.F.excBase_ValueError T.x_BadNumber T.g_BadNumber T.k_BadNumber (raises_own T.s_BadNumber T.t_BadNumber) (by exact rfl))))
      (pss_nil))
      (pss_cons (ps_if (PW.pt (pw_or (pt_not (pt_val (pe_k C_is_capacity hr (by decide) rfl pass0 (pa_cons (pv 2) (pa_nil))))) (pw_or1 (pt_not (pt_val (pe_k C_is_between hr (by decide) rfl pass0 (pa_cons (pv 3) (pa_cons (pe_int) (pa_cons (pv 2) (pa_nil))))))))))
      (pss_one (ps_raise rfl (takes_of rfl rfl rfl rfl) (pmk_own PySem.F.excBase_ValueError T.x_BadNumber T.g_BadNumber T.k_BadNumber (raises_own T.s_BadNumber T.t_BadNumber) (by exact rfl))))
      (pss_nil))
      (pss_cons (ps_asg (pe_k C_handled hr (by decide) rfl pass0 (pa_cons (pv 0) (pa_cons (pv 1) (pa_cons (pv 2) (pa_cons (pv 3) (pa_nil)))))) (pg_tup rfl (pgs_cons (pg_name (i := 4) sc_passed.nd rfl (Or.inl rfl)) (pgs_cons (pg_name (i := 5) sc_passed.nd rfl (Or.inl rfl)) (pgs_nil)))))
      (pss_one (ps_ret (pe_tup (pa_cons (pe_op op_add (pe_op op_sub (pv 3) (pv 4)) (pv 5)) (pa_cons (pe_op op_sub (pe_op op_add (pv 1) (pv 4)) (pv 5)) (pa_nil))))))))
  exact F.ok sc_passed (fun vs H Q E h => by
    repeat (first | (obtain ⟨rfl, _⟩ := h; rfl) | obtain ⟨_, h⟩ := h)) D
theorem dfn_steps_from (T : Tx K mg c_Row c_BadNumber c_BadCapacity c_BadIndex c_BadRow c_BadTrains c_BadCounts) (C_passed : Kn P w K mg base (L2.CX P w) 4 "passed" ["capacity", "load", "box_capacity", "count"] (spPassed K c_BadNumber)) (C_held : C8.Met P w K mg base 2 c_Row "held" (spHeld K c_Row) []) (C_capacity : C8.Met P w K mg base 2 c_Row "capacity" (spCapacityOf K c_Row) []) {f : Addr} {fd : FuncData} (F : FunD K "_steps_from" "_steps_from" (defArgs s_steps_from) (defBody s_steps_from) (defScope s_steps_from) [] [] f fd) :
    FnOk P w K mg base CX0 6 f fd ["row", "capacity", "start"] (spStepsFrom K c_Row) := by
  have D : ∀ (cdv : Value) (A : Around) (outer : List Env) (s : Shared) (H : Hp) (vs : List V) (Q : VK) (E : XK), Room 5 (A.deeper (envOfC "_steps_from" (defScope s_steps_from) s.heap.objs.size f cdv)) → (spStepsFrom K c_Row) vs H Q E →
      ∃ t, PSs (cxOf CX0 P w K mg base ["row", "capacity", "start", "steps", "index", "load", "count", "new_count", "new_load"] "_steps_from" (defScope s_steps_from) f cdv A outer s H E) (defBody s_steps_from) t ∧ t { nx := fun _ H' => Q .non H', rt := Q } (start ["row", "capacity", "start", "steps", "index", "load", "count", "new_count", "new_load"] vs) H := by
    intro cdv A outer s H vs Q E hr h
    refine ⟨t_steps_from K c_BadNumber c_Row, PSs.nox ?_, pure_steps_from vs H Q E h⟩
    exact pss_cons (ps_set (i := 3) sc_steps_from.nd rfl (Or.inl rfl) (pe_lst (pa_nil)))
      (pss_cons (ps_set (i := 4) sc_steps_from.nd rfl (Or.inl rfl) (pv 2))
      (pss_cons (ps_set (i := 5) sc_steps_from.nd rfl (Or.inl rfl) (pe_int))
      (pss_cons (ps_while PassesOwn.never (PW.pt (pw_or (pt_cmpR op_gt (pv 5) (pe_int) (nomark _)) (pw_or1 (pt_not (pt_truth (pv 3) (fun _ => rfl))))))
      (pss_cons (ps_set (i := 6) sc_steps_from.nd rfl (Or.inl rfl) (C8.pe_mt C_held hr (by decide) (pv 0) (pa_cons (pv 4) (pa_nil))))
      (pss_cons (ps_asg (pe_k C_passed hr (by decide) rfl passL (pa_cons (pv 1) (pa_cons (pv 5) (pa_cons (C8.pe_mt C_capacity hr (by decide) (pv 0) (pa_cons (pv 4) (pa_nil))) (pa_cons (pv 6) (pa_nil)))))) (pg_tup rfl (pgs_cons (pg_name (i := 7) sc_steps_from.nd rfl (Or.inl rfl)) (pgs_cons (pg_name (i := 8) sc_steps_from.nd rfl (Or.inl rfl)) (pgs_nil)))))
      (pss_cons (ps_expr (pe_bm PySem.F.plainAttrs_list PySem.F.slot_list_append PySem.F.type_list_append mt_append (pv 3) (pa_cons (pe_tup (pa_cons (pv 4) (pa_cons (pv 5) (pa_cons (pv 6) (pa_cons (pv 8) (pa_cons (pv 7) (pa_nil))))))) (pa_nil))))
      (pss_cons (ps_aug (i := 4) sc_steps_from.nd rfl (Or.inl rfl) (pe_int) ip_add)
      (pss_one (ps_set (i := 5) sc_steps_from.nd rfl (Or.inl rfl) (pv 8))))))))
      (pss_one (ps_ret (pv 3))))))
  exact F.ok sc_steps_from (fun vs H Q E h => by
    repeat (first | (obtain ⟨rfl, _⟩ := h; rfl) | obtain ⟨_, h⟩ := h)) D
theorem dfn_trace (T : Tx K mg c_Row c_BadNumber c_BadCapacity c_BadIndex c_BadRow c_BadTrains c_BadCounts) (C_is_capacity : Kn P w K mg base CX0 3 "is_capacity" ["value"] (spCapacity K)) (C_steps_from : Kn P w K mg base CX0 6 "_steps_from" ["row", "capacity", "start"] (spStepsFrom K c_Row)) (C_contents : Prp P w K mg base 1 c_Row "contents" (spContents K c_Row)) {f : Addr} {fd : FuncData} (F : FunD K "trace" "trace" (defArgs s_trace) (defBody s_trace) (defScope s_trace) [] [] f fd) :
    FnOk P w K mg base (L2.CX P w) 7 f fd ["row", "capacity"] (spTrace K c_Row c_BadCapacity) := by
  have D : ∀ (cdv : Value) (A : Around) (outer : List Env) (s : Shared) (H : Hp) (vs : List V) (Q : VK) (E : XK), Room 6 (A.deeper (envOfC "trace" (defScope s_trace) s.heap.objs.size f cdv)) → (spTrace K c_Row c_BadCapacity) vs H Q E →
      ∃ t, PSs (cxOf (L2.CX P w) P w K mg base ["row", "capacity", "steps", "start", "_"] "trace" (defScope s_trace) f cdv A outer s H E) (defBody s_trace) t ∧ t { nx := fun _ H' => Q .non H', rt := Q } (start ["row", "capacity", "steps", "start", "_"] vs) H := by
    intro cdv A outer s H vs Q E hr h
    refine ⟨t_trace K c_BadCapacity c_Row E, ?_, pure_trace vs H Q E h⟩
    exact pss_cons (ps_if (pt_not (pt_val (pe_k C_is_capacity hr (by decide) rfl pass0 (pa_cons (pv 1) (pa_nil)))))
      (pss_one (ps_raise rfl (takes_of rfl rfl rfl rfl) (pmk_own PySem.F.excBase_ValueError T.x_BadCapacity T.g_BadCapacity T.k_BadCapacity (raises_own T.s_BadCapacity T.t_BadCapacity) (by exact rfl))))
      (pss_nil))
      (pss_cons (ps_set (i := 2) sc_trace.nd rfl (Or.inl rfl) (pe_lst (pa_nil)))
      (pss_cons (ps_for (passes_of rfl) rfl (pi_tup (pe_pr C_contents hr (by decide) (pv 0))) (pg_tup rfl (pgs_cons (pg_name (i := 3) sc_trace.nd rfl (Or.inl rfl)) (pgs_cons (pg_name (i := 4) sc_trace.nd rfl (Or.inl rfl)) (pgs_nil))))
      (pss_one (ps_if (PW.pt (pw_or (pt_not (pt_truth (pv 2) (fun _ => rfl))) (pw_or1 (pt_cmpR op_lt (pe_ix ix_tup (pe_ix ix_list (pv 2) (pe_un un_neg (pe_int)) (fun _ _ => rfl)) (pe_int) (fun _ _ => rfl)) (pv 3) (nomark _)))))
      (pss_one (ps_expr (pe_bm PySem.F.plainAttrs_list PySem.F.slot_list_extend PySem.F.type_list_extend mt_extend (pv 2) (pa_cons (pe_k C_steps_from hr (by decide) rfl pass0 (pa_cons (pv 0) (pa_cons (pv 1) (pa_cons (pv 3) (pa_nil))))) (pa_nil)))))
      (pss_nil))))
      (pss_one (ps_ret (pv 2)))))
  exact F.ok sc_trace (fun vs H Q E h => by
    repeat (first | (obtain ⟨rfl, _⟩ := h; rfl) | obtain ⟨_, h⟩ := h)) D
theorem dfn_left_by (T : Tx K mg c_Row c_BadNumber c_BadCapacity c_BadIndex c_BadRow c_BadTrains c_BadCounts) {f : Addr} {fd : FuncData} (F : FunD K "_left_by" "_left_by" (defArgs s_left_by) (defBody s_left_by) (defScope s_left_by) [] [] f fd) :
    FnOk P w K mg base CX0 1 f fd ["steps"] (spLeftBy K) := by
  have D : ∀ (cdv : Value) (A : Around) (outer : List Env) (s : Shared) (H : Hp) (vs : List V) (Q : VK) (E : XK), Room 0 (A.deeper (envOfC "_left_by" (defScope s_left_by) s.heap.objs.size f cdv)) → (spLeftBy K) vs H Q E →
      ∃ t, PSs (cxOf CX0 P w K mg base ["steps", "index", "_", "new_count"] "_left_by" (defScope s_left_by) f cdv A outer s H E) (defBody s_left_by) t ∧ t { nx := fun _ H' => Q .non H', rt := Q } (start ["steps", "index", "_", "new_count"] vs) H := by
    intro cdv A outer s H vs Q E hr h
    refine ⟨t_left_by K, PSs.nox ?_, pure_left_by vs H Q E h⟩
    exact pss_one (ps_ret (pe_lc (own := [("index", 1), ("_", 2), ("new_count", 3)]) (g := gTup K 5 (gCons (gName 1) (gCons (gName 2) (gCons (gName 2) (gCons (gName 2) (gCons (gName 3) (gNil))))))) (tt := tTest (tOp qGt (tVar 3) (tC (.int 0)))) rfl sc_left_by.nd (pi_list (pv 0)) (blkOk_by (own := [("index", 1), ("_", 2), ("new_count", 3)]) (N := ["steps", "index", "_", "new_count"]) (sc := defScope s_left_by) (by decide +kernel)) (fun _ _ _ _ _ => pg_tup rfl (pgs_cons (pg_name (i := 1) sc_left_by.nd rfl (Or.inl rfl)) (pgs_cons (pg_name (i := 2) sc_left_by.nd rfl (Or.inl rfl)) (pgs_cons (pg_name (i := 2) sc_left_by.nd rfl (Or.inl rfl)) (pgs_cons (pg_name (i := 2) sc_left_by.nd rfl (Or.inl rfl)) (pgs_cons (pg_name (i := 3) sc_left_by.nd rfl (Or.inl rfl)) (pgs_nil))))))) (fun _ _ _ _ _ => pts_one (pt_cmpR op_gt (pv 3) (pe_int) (nomark _))) (fun _ _ _ _ _ => pe_tup (pa_cons (pv 1) (pa_cons (pv 3) (pa_nil))))))
  exact F.ok sc_left_by (fun vs H Q E h => by
    repeat (first | (obtain ⟨rfl, _⟩ := h; rfl) | obtain ⟨_, h⟩ := h)) D
theorem dfn_sweep (T : Tx K mg c_Row c_BadNumber c_BadCapacity c_BadIndex c_BadRow c_BadTrains c_BadCounts) (C_trace : Kn P w K mg base (L2.CX P w) 7 "trace" ["row", "capacity"] (spTrace K c_Row c_BadCapacity)) (C_left_by : Kn P w K mg base CX0 1 "_left_by" ["steps"] (spLeftBy K)) (C_Row : C8.Mak P w K mg base 5 "Row" c_Row (spRowInit K c_Row) []) (C_capacities : Prp P w K mg base 1 c_Row "capacities" (spCapacities K c_Row)) {f : Addr} {fd : FuncData} (F : FunD K "sweep" "sweep" (defArgs s_sweep) (defBody s_sweep) (defScope s_sweep) [] [] f fd) :
    FnOk P w K mg base (L2.CX P w) 8 f fd ["row", "capacity"] (spSweep K c_Row c_BadCapacity) := by
  have D : ∀ (cdv : Value) (A : Around) (outer : List Env) (s : Shared) (H : Hp) (vs : List V) (Q : VK) (E : XK), Room 7 (A.deeper (envOfC "sweep" (defScope s_sweep) s.heap.objs.size f cdv)) → (spSweep K c_Row c_BadCapacity) vs H Q E →
      ∃ t, PSs (cxOf (L2.CX P w) P w K mg base ["row", "capacity"] "sweep" (defScope s_sweep) f cdv A outer s H E) (defBody s_sweep) t ∧ t { nx := fun _ H' => Q .non H', rt := Q } (start ["row", "capacity"] vs) H := by
    intro cdv A outer s H vs Q E hr h
    refine ⟨t_sweep K c_BadCapacity c_Row E, ?_, pure_sweep vs H Q E h⟩
    exact pss_one (ps_ret (C8.pe_mk C_Row hr (by decide) (by rfl) (pa_cons (pe_k C_left_by hr (by decide) rfl pass0 (pa_cons (pe_k C_trace hr (by decide) rfl (passes_call (takes_of rfl rfl rfl rfl) (fun _ _ _ _ h => h)) (pa_cons (pv 0) (pa_cons (pv 1) (pa_nil)))) (pa_nil))) (pa_cons (pe_pr C_capacities hr (by decide) (pv 0)) (pa_nil)))))
  exact F.ok sc_sweep (fun vs H Q E h => by
    repeat (first | (obtain ⟨rfl, _⟩ := h; rfl) | obtain ⟨_, h⟩ := h)) D
theorem dfn_mirrored (T : Tx K mg c_Row c_BadNumber c_BadCapacity c_BadIndex c_BadRow c_BadTrains c_BadCounts) (C_Row : C8.Mak P w K mg base 5 "Row" c_Row (spRowInit K c_Row) []) (C_contents : Prp P w K mg base 1 c_Row "contents" (spContents K c_Row)) (C_capacities : Prp P w K mg base 1 c_Row "capacities" (spCapacities K c_Row)) {f : Addr} {fd : FuncData} (F : FunD K "mirrored" "mirrored" (defArgs s_mirrored) (defBody s_mirrored) (defScope s_mirrored) [] [] f fd) :
    FnOk P w K mg base CX0 7 f fd ["row"] (spMirrored K c_Row) := by
  have D : ∀ (cdv : Value) (A : Around) (outer : List Env) (s : Shared) (H : Hp) (vs : List V) (Q : VK) (E : XK), Room 6 (A.deeper (envOfC "mirrored" (defScope s_mirrored) s.heap.objs.size f cdv)) → (spMirrored K c_Row) vs H Q E →
      ∃ t, PSs (cxOf CX0 P w K mg base ["row", "contents", "index", "count", "capacity"] "mirrored" (defScope s_mirrored) f cdv A outer s H E) (defBody s_mirrored) t ∧ t { nx := fun _ H' => Q .non H', rt := Q } (start ["row", "contents", "index", "count", "capacity"] vs) H := by
    intro cdv A outer s H vs Q E hr h
    refine ⟨t_mirrored K c_Row, PSs.nox ?_, pure_mirrored vs H Q E h⟩
    exact pss_cons (ps_setLc (i := 1) (own := [("index", 2), ("count", 3)]) (g := gTup K 2 (gCons (gName 2) (gCons (gName 3) (gNil)))) (tt := tYes) rfl sc_mirrored.nd rfl rfl (sw_true rfl rfl rfl (by decide +kernel)) (pi_tup (pe_pr C_contents hr (by decide) (pv 0))) (blkOk_by (own := [("index", 2), ("count", 3)]) (N := ["row", "contents", "index", "count", "capacity"]) (sc := defScope s_mirrored) (by decide +kernel)) (fun _ _ _ _ _ => pg_tup rfl (pgs_cons (pg_name (i := 2) sc_mirrored.nd rfl (Or.inl rfl)) (pgs_cons (pg_name (i := 3) sc_mirrored.nd rfl (Or.inl rfl)) (pgs_nil)))) (fun _ _ _ _ _ => pts_nil) (fun _ _ _ _ _ => pe_tup (pa_cons (pe_un un_neg (pv 2)) (pa_cons (pv 3) (pa_nil)))))
      (pss_one (ps_ret (C8.pe_mk C_Row hr (by decide) (by rfl) (pa_cons (pv 1) (pa_cons (pe_lc (own := [("index", 2), ("capacity", 4)]) (g := gTup K 2 (gCons (gName 2) (gCons (gName 4) (gNil)))) (tt := tYes) rfl sc_mirrored.nd (pi_tup (pe_pr C_capacities hr (by decide) (pv 0))) (blkOk_by (own := [("index", 2), ("capacity", 4)]) (N := ["row", "contents", "index", "count", "capacity"]) (sc := defScope s_mirrored) (by decide +kernel)) (fun _ _ _ _ _ => pg_tup rfl (pgs_cons (pg_name (i := 2) sc_mirrored.nd rfl (Or.inl rfl)) (pgs_cons (pg_name (i := 4) sc_mirrored.nd rfl (Or.inl rfl)) (pgs_nil)))) (fun _ _ _ _ _ => pts_nil) (fun _ _ _ _ _ => pe_tup (pa_cons (pe_un un_neg (pv 2)) (pa_cons (pv 4) (pa_nil))))) (pa_nil))))))
  exact F.ok sc_mirrored (fun vs H Q E h => by
    repeat (first | (obtain ⟨rfl, _⟩ := h; rfl) | obtain ⟨_, h⟩ := h)) D
theorem dfn_unsweep (T : Tx K mg c_Row c_BadNumber c_BadCapacity c_BadIndex c_BadRow c_BadTrains c_BadCounts) (C_mirrored : Kn P w K mg base CX0 7 "mirrored" ["row"] (spMirrored K c_Row)) (C_sweep : Kn P w K mg base (L2.CX P w) 8 "sweep" ["row", "capacity"] (spSweep K c_Row c_BadCapacity)) {f : Addr} {fd : FuncData} (F : FunD K "unsweep" "unsweep" (defArgs s_unsweep) (defBody s_unsweep) (defScope s_unsweep) [] [] f fd) :
    FnOk P w K mg base (L2.CX P w) 9 f fd ["row", "capacity"] (spUnsweep K c_Row c_BadCapacity) := by
  have D : ∀ (cdv : Value) (A : Around) (outer : List Env) (s : Shared) (H : Hp) (vs : List V) (Q : VK) (E : XK), Room 8 (A.deeper (envOfC "unsweep" (defScope s_unsweep) s.heap.objs.size f cdv)) → (spUnsweep K c_Row c_BadCapacity) vs H Q E →
      ∃ t, PSs (cxOf (L2.CX P w) P w K mg base ["row", "capacity"] "unsweep" (defScope s_unsweep) f cdv A outer s H E) (defBody s_unsweep) t ∧ t { nx := fun _ H' => Q .non H', rt := Q } (start ["row", "capacity"] vs) H := by
    intro cdv A outer s H vs Q E hr h
    refine ⟨t_unsweep K c_BadCapacity c_Row E, ?_, pure_unsweep vs H Q E h⟩
    exact pss_one (ps_ret (pe_k C_mirrored hr (by decide) rfl pass0 (pa_cons (pe_k C_sweep hr (by decide) rfl (passes_call (takes_of rfl rfl rfl rfl) (fun _ _ _ _ h => h)) (pa_cons (pe_k C_mirrored hr (by decide) rfl pass0 (pa_cons (pv 0) (pa_nil))) (pa_cons (pv 1) (pa_nil)))) (pa_nil))))
  exact F.ok sc_unsweep (fun vs H Q E h => by
    repeat (first | (obtain ⟨rfl, _⟩ := h; rfl) | obtain ⟨_, h⟩ := h)) D
theorem dfn_picked (T : Tx K mg c_Row c_BadNumber c_BadCapacity c_BadIndex c_BadRow c_BadTrains c_BadCounts) (C_trace : Kn P w K mg base (L2.CX P w) 7 "trace" ["row", "capacity"] (spTrace K c_Row c_BadCapacity)) {f : Addr} {fd : FuncData} (F : FunD K "picked" "picked" (defArgs s_picked) (defBody s_picked) (defScope s_picked) [] [] f fd) :
    FnOk P w K mg base (L2.CX P w) 8 f fd ["row", "capacity"] (spPicked K c_Row c_BadCapacity) := by
  have D : ∀ (cdv : Value) (A : Around) (outer : List Env) (s : Shared) (H : Hp) (vs : List V) (Q : VK) (E : XK), Room 7 (A.deeper (envOfC "picked" (defScope s_picked) s.heap.objs.size f cdv)) → (spPicked K c_Row c_BadCapacity) vs H Q E →
      ∃ t, PSs (cxOf (L2.CX P w) P w K mg base ["row", "capacity", "_", "load", "count"] "picked" (defScope s_picked) f cdv A outer s H E) (defBody s_picked) t ∧ t { nx := fun _ H' => Q .non H', rt := Q } (start ["row", "capacity", "_", "load", "count"] vs) H := by
    intro cdv A outer s H vs Q E hr h
    refine ⟨t_picked K c_BadCapacity c_Row E, ?_, pure_picked vs H Q E h⟩
    exact pss_one (ps_ret (pe_callB (cr_sum rfl) (by rfl) T.n_sum (by decide +kernel) (pa_cons (pe_lc (own := [("_", 2), ("load", 3), ("count", 4)]) (g := gTup K 5 (gCons (gName 2) (gCons (gName 3) (gCons (gName 4) (gCons (gName 2) (gCons (gName 2) (gNil))))))) (tt := tYes) rfl sc_picked.nd (pi_list (pe_k C_trace hr (by decide) rfl (passes_call (takes_of rfl rfl rfl rfl) (fun _ _ _ _ h => h)) (pa_cons (pv 0) (pa_cons (pv 1) (pa_nil))))) (blkOk_by (own := [("_", 2), ("load", 3), ("count", 4)]) (N := ["row", "capacity", "_", "load", "count"]) (sc := defScope s_picked) (by decide +kernel)) (fun _ _ _ _ _ => pg_tup rfl (pgs_cons (pg_name (i := 2) sc_picked.nd rfl (Or.inl rfl)) (pgs_cons (pg_name (i := 3) sc_picked.nd rfl (Or.inl rfl)) (pgs_cons (pg_name (i := 4) sc_picked.nd rfl (Or.inl rfl)) (pgs_cons (pg_name (i := 2) sc_picked.nd rfl (Or.inl rfl)) (pgs_cons (pg_name (i := 2) sc_picked.nd rfl (Or.inl rfl)) (pgs_nil))))))) (fun _ _ _ _ _ => pts_nil) (fun _ _ _ _ _ => pe_callB (call_min2 rfl) (by rfl) T.n_min (by decide +kernel) (pa_cons (pe_op op_sub (pv 1) (pv 3)) (pa_cons (pv 4) (pa_nil))))) (pa_nil))))
  exact F.ok sc_picked (fun vs H Q E h => by
    repeat (first | (obtain ⟨rfl, _⟩ := h; rfl) | obtain ⟨_, h⟩ := h)) D
theorem dfn_without_box (T : Tx K mg c_Row c_BadNumber c_BadCapacity c_BadIndex c_BadRow c_BadTrains c_BadCounts) (C_unsweep : Kn P w K mg base (L2.CX P w) 9 "unsweep" ["row", "capacity"] (spUnsweep K c_Row c_BadCapacity)) (C_Row : C8.Mak P w K mg base 5 "Row" c_Row (spRowInit K c_Row) []) (C_contents : Prp P w K mg base 1 c_Row "contents" (spContents K c_Row)) {f : Addr} {fd : FuncData} (F : FunD K "_without_box" "_without_box" (defArgs s_without_box) (defBody s_without_box) (defScope s_without_box) [] [] f fd) :
    FnOk P w K mg base CX0 11 f fd ["contents", "index", "capacity"] (spWithout K) := by
  have D : ∀ (cdv : Value) (A : Around) (outer : List Env) (s : Shared) (H : Hp) (vs : List V) (Q : VK) (E : XK), Room 10 (A.deeper (envOfC "_without_box" (defScope s_without_box) s.heap.objs.size f cdv)) → (spWithout K) vs H Q E →
      ∃ t, PSs (cxOf CX0 P w K mg base ["contents", "index", "capacity", "near", "pair", "place", "count"] "_without_box" (defScope s_without_box) f cdv A outer s H E) (defBody s_without_box) t ∧ t { nx := fun _ H' => Q .non H', rt := Q } (start ["contents", "index", "capacity", "near", "pair", "place", "count"] vs) H := by
    intro cdv A outer s H vs Q E hr h
    refine ⟨t_without_box K c_BadCapacity c_Row, PSs.nox ?_, pure_without vs H Q E h⟩
    exact pss_cons (ps_set (i := 3) sc_without_box.nd rfl (Or.inl rfl) (C8.pe_mk C_Row hr (by decide) (by rfl) (pa_cons (pe_lc (own := [("pair", 4)]) (g := gName 4) (tt := tTest (tOp qLe (tOp (rIxT K) (tVar 4) (tC (.int 0))) (tVar 1))) rfl sc_without_box.nd (pi_or (pi_list (pv 0)) (pi_tup (pv 0))) (blkOk_by (own := [("pair", 4)]) (N := ["contents", "index", "capacity", "near", "pair", "place", "count"]) (sc := defScope s_without_box) (by decide +kernel)) (fun _ _ _ _ _ => pg_name (i := 4) sc_without_box.nd rfl (Or.inl rfl)) (fun _ _ _ _ _ => pts_one (pt_cmpR op_le (pe_ix ix_tup (pv 4) (pe_int) (fun _ _ => rfl)) (pv 1) (nomark _))) (fun _ _ _ _ _ => pv 4)) (pa_cons (pe_lst (pa_cons (pe_tup (pa_cons (pv 1) (pa_cons (pv 2) (pa_nil)))) (pa_nil))) (pa_nil)))))
      (pss_one (ps_ret (pe_lc (own := [("place", 5), ("count", 6)]) (g := gTup K 2 (gCons (gName 5) (gCons (gName 6) (gNil)))) (tt := tYes) rfl sc_without_box.nd (pi_tup (pe_pr C_contents hr (by decide) (pe_k C_unsweep hr (by decide) rfl passL (pa_cons (pv 3) (pa_cons (pv 2) (pa_nil)))))) (blkOk_by (own := [("place", 5), ("count", 6)]) (N := ["contents", "index", "capacity", "near", "pair", "place", "count"]) (sc := defScope s_without_box) (by decide +kernel)) (fun _ _ _ _ _ => pg_tup rfl (pgs_cons (pg_name (i := 5) sc_without_box.nd rfl (Or.inl rfl)) (pgs_cons (pg_name (i := 6) sc_without_box.nd rfl (Or.inl rfl)) (pgs_nil)))) (fun _ _ _ _ _ => pts_nil) (fun _ _ _ _ _ => pe_tup (pa_cons (pe_op op_add (pv 5) (pe_int)) (pa_cons (pv 6) (pa_nil)))))))
  exact F.ok sc_without_box (fun vs H Q E h => by
    repeat (first | (obtain ⟨rfl, _⟩ := h; rfl) | obtain ⟨_, h⟩ := h)) D
theorem dfn_plain_form (T : Tx K mg c_Row c_BadNumber c_BadCapacity c_BadIndex c_BadRow c_BadTrains c_BadCounts) (C_without_box : Kn P w K mg base CX0 11 "_without_box" ["contents", "index", "capacity"] (spWithout K)) (C_contents : Prp P w K mg base 1 c_Row "contents" (spContents K c_Row)) (C_capacities : Prp P w K mg base 1 c_Row "capacities" (spCapacities K c_Row)) {a0 : Addr} (C_Row1 : C8.Mak P w K mg base 5 "Row" c_Row (spRowInit K c_Row) [.ref a0]) (hE : BareK K a0 []) {f : Addr} {fd : FuncData} (F : FunD K "plain_form" "plain_form" (defArgs s_plain_form) (defBody s_plain_form) (defScope s_plain_form) [] [] f fd) :
    FnOk P w K mg base CX0 12 f fd ["row"] (spPlainForm K c_Row) := by
  have D : ∀ (cdv : Value) (A : Around) (outer : List Env) (s : Shared) (H : Hp) (vs : List V) (Q : VK) (E : XK), Room 11 (A.deeper (envOfC "plain_form" (defScope s_plain_form) s.heap.objs.size f cdv)) → (spPlainForm K c_Row) vs H Q E →
      ∃ t, PSs (cxOf CX0 P w K mg base ["row", "contents", "index", "capacity", "behind", "pair"] "plain_form" (defScope s_plain_form) f cdv A outer s H E) (defBody s_plain_form) t ∧ t { nx := fun _ H' => Q .non H', rt := Q } (start ["row", "contents", "index", "capacity", "behind", "pair"] vs) H := by
    intro cdv A outer s H vs Q E hr h
    refine ⟨t_plain_form K a0 c_Row, PSs.nox ?_, pure_plain_form hE vs H Q E h⟩
    exact pss_cons (ps_set (i := 1) sc_plain_form.nd rfl (Or.inl rfl) (pe_pr C_contents hr (by decide) (pv 0)))
      (pss_cons (ps_for PassesOwn.never rfl (pi_tup (pe_pr C_capacities hr (by decide) (pv 0))) (pg_tup rfl (pgs_cons (pg_name (i := 2) sc_plain_form.nd rfl (Or.inr rfl)) (pgs_cons (pg_name (i := 3) sc_plain_form.nd rfl (Or.inl rfl)) (pgs_nil))))
      (pss_cons (ps_setLc (i := 4) (own := [("pair", 5)]) (g := gName 5) (tt := tTest (tOp qGt (tOp (rIxT K) (tVar 5) (tC (.int 0))) (tVar 2))) rfl sc_plain_form.nd rfl rfl (sw_true rfl rfl rfl (by decide +kernel)) (pi_or (pi_list (pv 1)) (pi_tup (pv 1))) (blkOk_by (own := [("pair", 5)]) (N := ["row", "contents", "index", "capacity", "behind", "pair"]) (sc := defScope s_plain_form) (by decide +kernel)) (fun _ _ _ _ _ => pg_name (i := 5) sc_plain_form.nd rfl (Or.inl rfl)) (fun _ _ _ _ _ => pts_one (pt_cmpR op_gt (pe_ix ix_tup (pv 5) (pe_int) (fun _ _ => rfl)) (pv 2) (nomark _))) (fun _ _ _ _ _ => pv 5))
      (pss_one (ps_set (i := 1) sc_plain_form.nd rfl (Or.inl rfl) (pe_op op_cat (pe_k C_without_box hr (by decide) rfl pass0 (pa_cons (pv 1) (pa_cons (pv 2) (pa_cons (pv 3) (pa_nil))))) (pv 4))))))
      (pss_one (ps_ret (C8.pe_mk C_Row1 hr (by decide) (by rfl) (pa_cons (pv 1) (pa_nil))))))
  exact F.ok sc_plain_form (fun vs H Q E h => by
    repeat (first | (obtain ⟨rfl, _⟩ := h; rfl) | obtain ⟨_, h⟩ := h)) D
theorem dfn_with_box (T : Tx K mg c_Row c_BadNumber c_BadCapacity c_BadIndex c_BadRow c_BadTrains c_BadCounts) (C_sweep : Kn P w K mg base (L2.CX P w) 8 "sweep" ["row", "capacity"] (spSweep K c_Row c_BadCapacity)) (C_Row : C8.Mak P w K mg base 5 "Row" c_Row (spRowInit K c_Row) []) (C_contents : Prp P w K mg base 1 c_Row "contents" (spContents K c_Row)) {f : Addr} {fd : FuncData} (F : FunD K "_with_box" "_with_box" (defArgs s_with_box) (defBody s_with_box) (defScope s_with_box) [] [] f fd) :
    FnOk P w K mg base CX0 11 f fd ["contents", "index", "capacity"] (spWith K) := by
  have D : ∀ (cdv : Value) (A : Around) (outer : List Env) (s : Shared) (H : Hp) (vs : List V) (Q : VK) (E : XK), Room 10 (A.deeper (envOfC "_with_box" (defScope s_with_box) s.heap.objs.size f cdv)) → (spWith K) vs H Q E →
      ∃ t, PSs (cxOf CX0 P w K mg base ["contents", "index", "capacity", "near", "place", "count"] "_with_box" (defScope s_with_box) f cdv A outer s H E) (defBody s_with_box) t ∧ t { nx := fun _ H' => Q .non H', rt := Q } (start ["contents", "index", "capacity", "near", "place", "count"] vs) H := by
    intro cdv A outer s H vs Q E hr h
    refine ⟨t_with_box K c_BadCapacity c_Row, PSs.nox ?_, pure_with vs H Q E h⟩
    exact pss_cons (ps_set (i := 3) sc_with_box.nd rfl (Or.inl rfl) (C8.pe_mk C_Row hr (by decide) (by rfl) (pa_cons (pe_lc (own := [("place", 4), ("count", 5)]) (g := gTup K 2 (gCons (gName 4) (gCons (gName 5) (gNil)))) (tt := tTest (tOp qLe (tVar 4) (tVar 1))) rfl sc_with_box.nd (pi_or (pi_list (pv 0)) (pi_tup (pv 0))) (blkOk_by (own := [("place", 4), ("count", 5)]) (N := ["contents", "index", "capacity", "near", "place", "count"]) (sc := defScope s_with_box) (by decide +kernel)) (fun _ _ _ _ _ => pg_tup rfl (pgs_cons (pg_name (i := 4) sc_with_box.nd rfl (Or.inl rfl)) (pgs_cons (pg_name (i := 5) sc_with_box.nd rfl (Or.inl rfl)) (pgs_nil)))) (fun _ _ _ _ _ => pts_one (pt_cmpR op_le (pv 4) (pv 1) (nomark _))) (fun _ _ _ _ _ => pe_tup (pa_cons (pe_op op_sub (pv 4) (pe_int)) (pa_cons (pv 5) (pa_nil))))) (pa_cons (pe_lst (pa_cons (pe_tup (pa_cons (pv 1) (pa_cons (pv 2) (pa_nil)))) (pa_nil))) (pa_nil)))))
      (pss_one (ps_ret (pe_callTy call_list_of (by rfl) T.n_list (by decide +kernel) (pa_cons (pe_pr C_contents hr (by decide) (pe_k C_sweep hr (by decide) rfl passL (pa_cons (pv 3) (pa_cons (pv 2) (pa_nil))))) (pa_nil)))))
  exact F.ok sc_with_box (fun vs H Q E h => by
    repeat (first | (obtain ⟨rfl, _⟩ := h; rfl) | obtain ⟨_, h⟩ := h)) D
theorem dfn_with_capacities (T : Tx K mg c_Row c_BadNumber c_BadCapacity c_BadIndex c_BadRow c_BadTrains c_BadCounts) (C_is_plain_row : Kn P w K mg base CX0 2 "is_plain_row" ["value"] (spPlainRow K c_Row)) (C_is_row_like : Kn P w K mg base CX0 6 "is_row_like" ["contents", "capacities"] (spRowLike K)) (C_with_box : Kn P w K mg base CX0 11 "_with_box" ["contents", "index", "capacity"] (spWith K)) (C_Row : C8.Mak P w K mg base 5 "Row" c_Row (spRowInit K c_Row) []) (C_contents : Prp P w K mg base 1 c_Row "contents" (spContents K c_Row)) (M_BadRow : ErrM P w K mg base "BadRow" c_BadRow "field" "field") {f : Addr} {fd : FuncData} (F : FunD K "with_capacities" "with_capacities" (defArgs s_with_capacities) (defBody s_with_capacities) (defScope s_with_capacities) [] [] f fd) :
    FnOk P w K mg base (L2.CX P w) 12 f fd ["row", "capacities"] (spWithCap K c_Row c_BadRow) := by
  have D : ∀ (cdv : Value) (A : Around) (outer : List Env) (s : Shared) (H : Hp) (vs : List V) (Q : VK) (E : XK), Room 11 (A.deeper (envOfC "with_capacities" (defScope s_with_capacities) s.heap.objs.size f cdv)) → (spWithCap K c_Row c_BadRow) vs H Q E →
      ∃ t, PSs (cxOf (L2.CX P w) P w K mg base ["row", "capacities", "contents", "index", "capacity", "behind", "pair"] "with_capacities" (defScope s_with_capacities) f cdv A outer s H E) (defBody s_with_capacities) t ∧ t { nx := fun _ H' => Q .non H', rt := Q } (start ["row", "capacities", "contents", "index", "capacity", "behind", "pair"] vs) H := by
    intro cdv A outer s H vs Q E hr h
    refine ⟨t_with_capacities K c_BadRow c_Row E, ?_, pure_with_cap vs H Q E h⟩
    exact pss_cons (ps_if (pt_not (pt_val (pe_k C_is_plain_row hr (by decide) rfl pass0 (pa_cons (pv 0) (pa_nil)))))
      (pss_one (ps_raise rfl (takes_of rfl rfl rfl rfl) (pmk_err M_BadRow hr (by decide) (by rfl))))
      (pss_nil))
      (pss_cons (ps_if (pt_not (pt_val (pe_k C_is_row_like hr (by decide) rfl pass0 (pa_cons (pe_tup0) (pa_cons (pv 1) (pa_nil))))))
      (pss_one (ps_raise rfl (takes_of rfl rfl rfl rfl) (pmk_err M_BadRow hr (by decide) (by rfl))))
      (pss_nil))
      (pss_cons (ps_set (i := 2) sc_with_capacities.nd rfl (Or.inl rfl) (pe_pr C_contents hr (by decide) (pv 0)))
      (pss_cons (ps_for (passes_of rfl) rfl (pi_list (pe_callBK cr_sortedPR (by rfl) T.n_sorted (by decide +kernel) (pa_cons (pv 1) (pa_nil)) (pk_cons (pe_bl) pk_nil))) (pg_tup rfl (pgs_cons (pg_name (i := 3) sc_with_capacities.nd rfl (Or.inr rfl)) (pgs_cons (pg_name (i := 4) sc_with_capacities.nd rfl (Or.inl rfl)) (pgs_nil))))
      (pss_cons (ps_setLc (i := 5) (own := [("pair", 6)]) (g := gName 6) (tt := tTest (tOp qGt (tOp (rIxT K) (tVar 6) (tC (.int 0))) (tVar 3))) rfl sc_with_capacities.nd rfl rfl (sw_true rfl rfl rfl (by decide +kernel)) (pi_or (pi_list (pv 2)) (pi_tup (pv 2))) (blkOk_by (own := [("pair", 6)]) (N := ["row", "capacities", "contents", "index", "capacity", "behind", "pair"]) (sc := defScope s_with_capacities) (by decide +kernel)) (fun _ _ _ _ _ => pg_name (i := 6) sc_with_capacities.nd rfl (Or.inl rfl)) (fun _ _ _ _ _ => pts_one (pt_cmpR op_gt (pe_ix ix_tup (pv 6) (pe_int) (fun _ _ => rfl)) (pv 3) (nomark _))) (fun _ _ _ _ _ => pv 6))
      (pss_one (ps_set (i := 2) sc_with_capacities.nd rfl (Or.inl rfl) (pe_op op_cat (pe_k C_with_box hr (by decide) rfl pass0 (pa_cons (pv 2) (pa_cons (pv 3) (pa_cons (pv 4) (pa_nil))))) (pv 5))))))
      (pss_one (ps_ret (C8.pe_mk C_Row hr (by decide) (by rfl) (pa_cons (pv 2) (pa_cons (pv 1) (pa_nil)))))))))
  exact F.ok sc_with_capacities (fun vs H Q E h => by
    repeat (first | (obtain ⟨rfl, _⟩ := h; rfl) | obtain ⟨_, h⟩ := h)) D
theorem dfn_runs_in (T : Tx K mg c_Row c_BadNumber c_BadCapacity c_BadIndex c_BadRow c_BadTrains c_BadCounts) (C_contents : Prp P w K mg base 1 c_Row "contents" (spContents K c_Row)) {f : Addr} {fd : FuncData} (F : FunD K "runs_in" "runs_in" (defArgs s_runs_in) (defBody s_runs_in) (defScope s_runs_in) [] [] f fd) :
    FnOk P w K mg base CX0 3 f fd ["row"] (spRunsIn K c_Row) := by
  have D : ∀ (cdv : Value) (A : Around) (outer : List Env) (s : Shared) (H : Hp) (vs : List V) (Q : VK) (E : XK), Room 2 (A.deeper (envOfC "runs_in" (defScope s_runs_in) s.heap.objs.size f cdv)) → (spRunsIn K c_Row) vs H Q E →
      ∃ t, PSs (cxOf CX0 P w K mg base ["row", "found", "index", "_"] "runs_in" (defScope s_runs_in) f cdv A outer s H E) (defBody s_runs_in) t ∧ t { nx := fun _ H' => Q .non H', rt := Q } (start ["row", "found", "index", "_"] vs) H := by
    intro cdv A outer s H vs Q E hr h
    refine ⟨t_runs_in K c_Row, PSs.nox ?_, pure_runs_in vs H Q E h⟩
    exact pss_cons (ps_set (i := 1) sc_runs_in.nd rfl (Or.inl rfl) (pe_lst (pa_nil)))
      (pss_cons (ps_for PassesOwn.never rfl (pi_tup (pe_pr C_contents hr (by decide) (pv 0))) (pg_tup rfl (pgs_cons (pg_name (i := 2) sc_runs_in.nd rfl (Or.inl rfl)) (pgs_cons (pg_name (i := 3) sc_runs_in.nd rfl (Or.inl rfl)) (pgs_nil))))
      (pss_one (ps_if (PW.pt (pw_and (pt_truth (pv 1) (fun _ => rfl)) (pw_and1 (pt_cmpR op_eq (pe_callB (cr_sumT rfl) (by rfl) T.n_sum (by decide +kernel) (pa_cons (pe_ix ix_list (pv 1) (pe_un un_neg (pe_int)) (fun _ _ => rfl)) (pa_nil))) (pv 2) (nomark _)))))
      (pss_one (ps_asg (pe_tup (pa_cons (pe_ix ix_tup (pe_ix ix_list (pv 1) (pe_un un_neg (pe_int)) (fun _ _ => rfl)) (pe_int) (fun _ _ => rfl)) (pa_cons (pe_op op_add (pe_ix ix_tup (pe_ix ix_list (pv 1) (pe_un un_neg (pe_int)) (fun _ _ => rfl)) (pe_int) (fun _ _ => rfl)) (pe_int)) (pa_nil)))) (pg_sub (pv 1) (pe_un un_neg (pe_int)) set_list)))
      (pss_one (ps_expr (pe_bm PySem.F.plainAttrs_list PySem.F.slot_list_append PySem.F.type_list_append mt_append (pv 1) (pa_cons (pe_tup (pa_cons (pv 2) (pa_cons (pe_int) (pa_nil)))) (pa_nil))))))))
      (pss_one (ps_ret (pv 1))))
  exact F.ok sc_runs_in (fun vs H Q E h => by
    repeat (first | (obtain ⟨rfl, _⟩ := h; rfl) | obtain ⟨_, h⟩ := h)) D
theorem dfn_runs (T : Tx K mg c_Row c_BadNumber c_BadCapacity c_BadIndex c_BadRow c_BadTrains c_BadCounts) (C_is_plain_row : Kn P w K mg base CX0 2 "is_plain_row" ["value"] (spPlainRow K c_Row)) (C_runs_in : Kn P w K mg base CX0 3 "runs_in" ["row"] (spRunsIn K c_Row)) (M_BadRow : ErrM P w K mg base "BadRow" c_BadRow "field" "field") {f : Addr} {fd : FuncData} (F : FunD K "runs" "runs" (defArgs s_runs) (defBody s_runs) (defScope s_runs) [] [] f fd) :
    FnOk P w K mg base (L2.CX P w) 4 f fd ["row"] (spRuns K c_Row c_BadRow) := by
  have D : ∀ (cdv : Value) (A : Around) (outer : List Env) (s : Shared) (H : Hp) (vs : List V) (Q : VK) (E : XK), Room 3 (A.deeper (envOfC "runs" (defScope s_runs) s.heap.objs.size f cdv)) → (spRuns K c_Row c_BadRow) vs H Q E →
      ∃ t, PSs (cxOf (L2.CX P w) P w K mg base ["row"] "runs" (defScope s_runs) f cdv A outer s H E) (defBody s_runs) t ∧ t { nx := fun _ H' => Q .non H', rt := Q } (start ["row"] vs) H := by
    intro cdv A outer s H vs Q E hr h
    refine ⟨t_runs K c_BadRow c_Row E, ?_, pure_runs vs H Q E h⟩
    exact pss_cons (ps_if (pt_not (pt_val (pe_k C_is_plain_row hr (by decide) rfl pass0 (pa_cons (pv 0) (pa_nil)))))
      (pss_one (ps_raise rfl (takes_of rfl rfl rfl rfl) (pmk_err M_BadRow hr (by decide) (by rfl))))
      (pss_nil))
      (pss_one (ps_ret (pe_k C_runs_in hr (by decide) rfl pass0 (pa_cons (pv 0) (pa_nil)))))
  exact F.ok sc_runs (fun vs H Q E h => by
    repeat (first | (obtain ⟨rfl, _⟩ := h; rfl) | obtain ⟨_, h⟩ := h)) D
theorem dfn_cut (T : Tx K mg c_Row c_BadNumber c_BadCapacity c_BadIndex c_BadRow c_BadTrains c_BadCounts) (C_is_plain_row : Kn P w K mg base CX0 2 "is_plain_row" ["value"] (spPlainRow K c_Row)) (C_runs_in : Kn P w K mg base CX0 3 "runs_in" ["row"] (spRunsIn K c_Row)) {a0 : Addr} (C_Row1 : C8.Mak P w K mg base 5 "Row" c_Row (spRowInit K c_Row) [.ref a0]) (hE : BareK K a0 []) (M_BadRow : ErrM P w K mg base "BadRow" c_BadRow "field" "field") {f : Addr} {fd : FuncData} (F : FunD K "cut" "cut" (defArgs s_cut) (defBody s_cut) (defScope s_cut) [] [] f fd) :
    FnOk P w K mg base (L2.CX P w) 7 f fd ["row"] (spCut K c_Row c_BadRow) := by
  have D : ∀ (cdv : Value) (A : Around) (outer : List Env) (s : Shared) (H : Hp) (vs : List V) (Q : VK) (E : XK), Room 6 (A.deeper (envOfC "cut" (defScope s_cut) s.heap.objs.size f cdv)) → (spCut K c_Row c_BadRow) vs H Q E →
      ∃ t, PSs (cxOf (L2.CX P w) P w K mg base ["row", "kept", "offsets", "first", "length", "start", "place"] "cut" (defScope s_cut) f cdv A outer s H E) (defBody s_cut) t ∧ t { nx := fun _ H' => Q .non H', rt := Q } (start ["row", "kept", "offsets", "first", "length", "start", "place"] vs) H := by
    intro cdv A outer s H vs Q E hr h
    refine ⟨t_cut K a0 c_BadRow c_Row E, ?_, pure_cut hE vs H Q E h⟩
    exact pss_cons (ps_if (pt_not (pt_val (pe_k C_is_plain_row hr (by decide) rfl pass0 (pa_cons (pv 0) (pa_nil)))))
      (pss_one (ps_raise rfl (takes_of rfl rfl rfl rfl) (pmk_err M_BadRow hr (by decide) (by rfl))))
      (pss_nil))
      (pss_cons (ps_set (i := 1) sc_cut.nd rfl (Or.inl rfl) (pe_lst (pa_nil)))
      (pss_cons (ps_set (i := 2) sc_cut.nd rfl (Or.inl rfl) (pe_lst (pa_nil)))
      (pss_cons (ps_for (passes_of rfl) rfl (pi_list (pe_k C_runs_in hr (by decide) rfl pass0 (pa_cons (pv 0) (pa_nil)))) (pg_tup rfl (pgs_cons (pg_name (i := 3) sc_cut.nd rfl (Or.inl rfl)) (pgs_cons (pg_name (i := 4) sc_cut.nd rfl (Or.inl rfl)) (pgs_nil))))
      (pss_cons (ps_set (i := 5) sc_cut.nd rfl (Or.inr rfl) (pe_op op_sub (pv 3) (pe_op op_mul (pe_int) (pe_callB call_len_seq (by rfl) T.n_len PySem.boot_len (pa_cons (pv 2) (pa_nil))))))
      (pss_cons (ps_expr (pe_bm PySem.F.plainAttrs_list PySem.F.slot_list_extend PySem.F.type_list_extend mt_extend (pv 1) (pa_cons (pe_lc (own := [("place", 6)]) (g := gName 6) (tt := tYes) rfl sc_cut.nd (pi_range1 rfl T.n_range (pa_cons (pe_op op_sub (pv 4) (pe_int)) (pa_nil))) (blkOk_by (own := [("place", 6)]) (N := ["row", "kept", "offsets", "first", "length", "start", "place"]) (sc := defScope s_cut) (by decide +kernel)) (fun _ _ _ _ _ => pg_name (i := 6) sc_cut.nd rfl (Or.inl rfl)) (fun _ _ _ _ _ => pts_nil) (fun _ _ _ _ _ => pe_tup (pa_cons (pe_op op_add (pv 5) (pv 6)) (pa_cons (pe_int) (pa_nil))))) (pa_nil))))
      (pss_one (ps_expr (pe_bm PySem.F.plainAttrs_list PySem.F.slot_list_append PySem.F.type_list_append mt_append (pv 2) (pa_cons (pe_op op_sub (pe_op op_add (pv 5) (pv 4)) (pe_int)) (pa_nil))))))))
      (pss_one (ps_ret (pe_tup (pa_cons (C8.pe_mk C_Row1 hr (by decide) (by rfl) (pa_cons (pv 1) (pa_nil))) (pa_cons (pv 2) (pa_nil)))))))))
  exact F.ok sc_cut (fun vs H Q E h => by
    repeat (first | (obtain ⟨rfl, _⟩ := h; rfl) | obtain ⟨_, h⟩ := h)) D
theorem dfn_behind_runs (T : Tx K mg c_Row c_BadNumber c_BadCapacity c_BadIndex c_BadRow c_BadTrains c_BadCounts) (C_runs_in : Kn P w K mg base CX0 3 "runs_in" ["row"] (spRunsIn K c_Row)) {f : Addr} {fd : FuncData} (F : FunD K "_behind_runs" "_behind_runs" (defArgs s_behind_runs) (defBody s_behind_runs) (defScope s_behind_runs) [] [] f fd) :
    FnOk P w K mg base CX0 4 f fd ["row"] (spBehind K c_Row) := by
  have D : ∀ (cdv : Value) (A : Around) (outer : List Env) (s : Shared) (H : Hp) (vs : List V) (Q : VK) (E : XK), Room 3 (A.deeper (envOfC "_behind_runs" (defScope s_behind_runs) s.heap.objs.size f cdv)) → (spBehind K c_Row) vs H Q E →
      ∃ t, PSs (cxOf CX0 P w K mg base ["row", "first", "length"] "_behind_runs" (defScope s_behind_runs) f cdv A outer s H E) (defBody s_behind_runs) t ∧ t { nx := fun _ H' => Q .non H', rt := Q } (start ["row", "first", "length"] vs) H := by
    intro cdv A outer s H vs Q E hr h
    refine ⟨t_behind_runs K c_Row, PSs.nox ?_, pure_behind vs H Q E h⟩
    exact pss_one (ps_ret (pe_lc (own := [("first", 1), ("length", 2)]) (g := gTup K 2 (gCons (gName 1) (gCons (gName 2) (gNil)))) (tt := tYes) rfl sc_behind_runs.nd (pi_list (pe_k C_runs_in hr (by decide) rfl pass0 (pa_cons (pv 0) (pa_nil)))) (blkOk_by (own := [("first", 1), ("length", 2)]) (N := ["row", "first", "length"]) (sc := defScope s_behind_runs) (by decide +kernel)) (fun _ _ _ _ _ => pg_tup rfl (pgs_cons (pg_name (i := 1) sc_behind_runs.nd rfl (Or.inl rfl)) (pgs_cons (pg_name (i := 2) sc_behind_runs.nd rfl (Or.inl rfl)) (pgs_nil)))) (fun _ _ _ _ _ => pts_nil) (fun _ _ _ _ _ => pe_op op_add (pv 1) (pv 2))))
  exact F.ok sc_behind_runs (fun vs H Q E h => by
    repeat (first | (obtain ⟨rfl, _⟩ := h; rfl) | obtain ⟨_, h⟩ := h)) D
theorem dfn_trains (T : Tx K mg c_Row c_BadNumber c_BadCapacity c_BadIndex c_BadRow c_BadTrains c_BadCounts) (C_plain_form : Kn P w K mg base CX0 12 "plain_form" ["row"] (spPlainForm K c_Row)) (C_cut : Kn P w K mg base (L2.CX P w) 7 "cut" ["row"] (spCut K c_Row c_BadRow)) (C_behind_runs : Kn P w K mg base CX0 4 "_behind_runs" ["row"] (spBehind K c_Row)) (C_contents : Prp P w K mg base 1 c_Row "contents" (spContents K c_Row)) {f : Addr} {fd : FuncData} (F : FunD K "trains" "trains" (defArgs s_trains) (defBody s_trains) (defScope s_trains) [] [] f fd) :
    FnOk P w K mg base CX0 13 f fd ["row"] (spTrains K c_Row) := by
  have D : ∀ (cdv : Value) (A : Around) (outer : List Env) (s : Shared) (H : Hp) (vs : List V) (Q : VK) (E : XK), Room 12 (A.deeper (envOfC "trains" (defScope s_trains) s.heap.objs.size f cdv)) → (spTrains K c_Row) vs H Q E →
      ∃ t, PSs (cxOf CX0 P w K mg base ["row", "found", "rest", "length", "offsets", "index", "offset"] "trains" (defScope s_trains) f cdv A outer s H E) (defBody s_trains) t ∧ t { nx := fun _ H' => Q .non H', rt := Q } (start ["row", "found", "rest", "length", "offsets", "index", "offset"] vs) H := by
    intro cdv A outer s H vs Q E hr h
    refine ⟨t_trains K c_BadRow c_Row, PSs.nox ?_, pure_trains vs H Q E h⟩
    exact pss_cons (ps_set (i := 1) sc_trains.nd rfl (Or.inl rfl) (pe_lst (pa_nil)))
      (pss_cons (ps_set (i := 2) sc_trains.nd rfl (Or.inl rfl) (pe_k C_plain_form hr (by decide) rfl pass0 (pa_cons (pv 0) (pa_nil))))
      (pss_cons (ps_set (i := 3) sc_trains.nd rfl (Or.inr rfl) (pe_int))
      (pss_cons (ps_while PassesOwn.never (pt_truth (pe_pr C_contents hr (by decide) (pv 2)) (fun _ => rfl))
      (pss_cons (ps_asg (pe_k C_cut hr (by decide) rfl passL (pa_cons (pv 2) (pa_nil))) (pg_tup rfl (pgs_cons (pg_name (i := 2) sc_trains.nd rfl (Or.inl rfl)) (pgs_cons (pg_name (i := 4) sc_trains.nd rfl (Or.inl rfl)) (pgs_nil)))))
      (pss_cons (ps_for PassesOwn.never rfl (pi_list (pe_k C_behind_runs hr (by decide) rfl pass0 (pa_cons (pv 2) (pa_nil)))) (pg_name (i := 5) sc_trains.nd rfl (Or.inl rfl))
      (pss_one (ps_expr (pe_bm PySem.F.plainAttrs_list PySem.F.slot_list_remove PySem.F.type_list_remove mt_remove (pv 4) (pa_cons (pv 5) (pa_nil))))))
      (pss_cons (ps_expr (pe_bm PySem.F.plainAttrs_list PySem.F.slot_list_extend PySem.F.type_list_extend mt_extend (pv 1) (pa_cons (pe_lc (own := [("offset", 6)]) (g := gName 6) (tt := tYes) rfl sc_trains.nd (pi_list (pv 4)) (blkOk_by (own := [("offset", 6)]) (N := ["row", "found", "rest", "length", "offsets", "index", "offset"]) (sc := defScope s_trains) (by decide +kernel)) (fun _ _ _ _ _ => pg_name (i := 6) sc_trains.nd rfl (Or.inl rfl)) (fun _ _ _ _ _ => pts_nil) (fun _ _ _ _ _ => pe_tup (pa_cons (pv 3) (pa_cons (pv 6) (pa_nil))))) (pa_nil))))
      (pss_one (ps_aug (i := 3) sc_trains.nd rfl (Or.inr rfl) (pe_int) ip_add))))))
      (pss_one (ps_ret (pv 1))))))
  exact F.ok sc_trains (fun vs H Q E h => by
    repeat (first | (obtain ⟨rfl, _⟩ := h; rfl) | obtain ⟨_, h⟩ := h)) D
theorem dfn_lengths (T : Tx K mg c_Row c_BadNumber c_BadCapacity c_BadIndex c_BadRow c_BadTrains c_BadCounts) (C_trains : Kn P w K mg base CX0 13 "trains" ["row"] (spTrains K c_Row)) {f : Addr} {fd : FuncData} (F : FunD K "lengths" "lengths" (defArgs s_lengths) (defBody s_lengths) (defScope s_lengths) [] [] f fd) :
    FnOk P w K mg base CX0 14 f fd ["row"] (spLengths K c_Row) := by
  have D : ∀ (cdv : Value) (A : Around) (outer : List Env) (s : Shared) (H : Hp) (vs : List V) (Q : VK) (E : XK), Room 13 (A.deeper (envOfC "lengths" (defScope s_lengths) s.heap.objs.size f cdv)) → (spLengths K c_Row) vs H Q E →
      ∃ t, PSs (cxOf CX0 P w K mg base ["row", "length", "_"] "lengths" (defScope s_lengths) f cdv A outer s H E) (defBody s_lengths) t ∧ t { nx := fun _ H' => Q .non H', rt := Q } (start ["row", "length", "_"] vs) H := by
    intro cdv A outer s H vs Q E hr h
    refine ⟨t_lengths K c_Row, PSs.nox ?_, pure_lengths vs H Q E h⟩
    exact pss_one (ps_ret (pe_callBK cr_sortedRev (by rfl) T.n_sorted (by decide +kernel) (pa_cons (pe_lc (own := [("length", 1), ("_", 2)]) (g := gTup K 2 (gCons (gName 1) (gCons (gName 2) (gNil)))) (tt := tYes) rfl sc_lengths.nd (pi_list (pe_k C_trains hr (by decide) rfl pass0 (pa_cons (pv 0) (pa_nil)))) (blkOk_by (own := [("length", 1), ("_", 2)]) (N := ["row", "length", "_"]) (sc := defScope s_lengths) (by decide +kernel)) (fun _ _ _ _ _ => pg_tup rfl (pgs_cons (pg_name (i := 1) sc_lengths.nd rfl (Or.inl rfl)) (pgs_cons (pg_name (i := 2) sc_lengths.nd rfl (Or.inl rfl)) (pgs_nil)))) (fun _ _ _ _ _ => pts_nil) (fun _ _ _ _ _ => pv 1)) (pa_nil)) (pk_cons (pe_bl) pk_nil)))
  exact F.ok sc_lengths (fun vs H Q E h => by
    repeat (first | (obtain ⟨rfl, _⟩ := h; rfl) | obtain ⟨_, h⟩ := h)) D
theorem dfn_are_trains (T : Tx K mg c_Row c_BadNumber c_BadCapacity c_BadIndex c_BadRow c_BadTrains c_BadCounts) (C_is_pair : Kn P w K mg base CX0 2 "is_pair" ["value"] (spIsPair K)) {f : Addr} {fd : FuncData} (F : FunD K "_are_trains" "_are_trains" (defArgs s_are_trains) (defBody s_are_trains) (defScope s_are_trains) [] [] f fd) :
    FnOk P w K mg base CX0 3 f fd ["value"] (spAreTrains K) := by
  have D : ∀ (cdv : Value) (A : Around) (outer : List Env) (s : Shared) (H : Hp) (vs : List V) (Q : VK) (E : XK), Room 2 (A.deeper (envOfC "_are_trains" (defScope s_are_trains) s.heap.objs.size f cdv)) → (spAreTrains K) vs H Q E →
      ∃ t, PSs (cxOf CX0 P w K mg base ["value", "part", "length", "_"] "_are_trains" (defScope s_are_trains) f cdv A outer s H E) (defBody s_are_trains) t ∧ t { nx := fun _ H' => Q .non H', rt := Q } (start ["value", "part", "length", "_"] vs) H := by
    intro cdv A outer s H vs Q E hr h
    refine ⟨t_are_trains K, PSs.nox ?_, pure_are_trains vs H Q E h⟩
    exact pss_cons (ps_if (pt_not (pt_val (pe_callB call_isiT (by rfl) T.n_isinstance PyProof.Rows.boot_isinstance (pa_cons (pv 0) (pa_cons (pe_tup (pa_cons (pe_bltn (v := .ty "list") (by rfl) T.n_list (by decide +kernel) rfl) (pa_cons (pe_bltn (v := .ty "tuple") (by rfl) T.n_tuple (by decide +kernel) rfl) (pa_nil)))) pa_nil)))))
      (pss_one (ps_ret (pe_bl)))
      (pss_nil))
      (pss_cons (ps_if (pt_not (pt_val (pe_callB (cr_all rfl) (by rfl) T.n_all (by decide +kernel) (pa_cons (pe_lc (own := [("part", 1)]) (g := gName 1) (tt := tYes) rfl sc_are_trains.nd (pi_or (pi_list (pv 0)) (pi_tup (pv 0))) (blkOk_by (own := [("part", 1)]) (N := ["value", "part", "length", "_"]) (sc := defScope s_are_trains) (by decide +kernel)) (fun _ _ _ _ _ => pg_name (i := 1) sc_are_trains.nd rfl (Or.inl rfl)) (fun _ _ _ _ _ => pts_nil) (fun _ _ _ _ _ => pe_k C_is_pair hr (by decide) rfl pass0 (pa_cons (pv 1) (pa_nil)))) (pa_nil)))))
      (pss_one (ps_ret (pe_bl)))
      (pss_nil))
      (pss_cons (ps_if (pt_not (pt_val (pe_callB (cr_all rfl) (by rfl) T.n_all (by decide +kernel) (pa_cons (pe_lc (own := [("length", 2), ("_", 3)]) (g := gTup K 2 (gCons (gName 2) (gCons (gName 3) (gNil)))) (tt := tYes) rfl sc_are_trains.nd (pi_or (pi_list (pv 0)) (pi_tup (pv 0))) (blkOk_by (own := [("length", 2), ("_", 3)]) (N := ["value", "part", "length", "_"]) (sc := defScope s_are_trains) (by decide +kernel)) (fun _ _ _ _ _ => pg_tup rfl (pgs_cons (pg_name (i := 2) sc_are_trains.nd rfl (Or.inl rfl)) (pgs_cons (pg_name (i := 3) sc_are_trains.nd rfl (Or.inl rfl)) (pgs_nil)))) (fun _ _ _ _ _ => pts_nil) (fun _ _ _ _ _ => pe_cmpR op_ge (pv 2) (pe_int) (nomark _))) (pa_nil)))))
      (pss_one (ps_ret (pe_bl)))
      (pss_nil))
      (pss_one (ps_ret (pe_cmpR op_le (pe_callB (cr_sum rfl) (by rfl) T.n_sum (by decide +kernel) (pa_cons (pe_lc (own := [("length", 2), ("_", 3)]) (g := gTup K 2 (gCons (gName 2) (gCons (gName 3) (gNil)))) (tt := tYes) rfl sc_are_trains.nd (pi_or (pi_list (pv 0)) (pi_tup (pv 0))) (blkOk_by (own := [("length", 2), ("_", 3)]) (N := ["value", "part", "length", "_"]) (sc := defScope s_are_trains) (by decide +kernel)) (fun _ _ _ _ _ => pg_tup rfl (pgs_cons (pg_name (i := 2) sc_are_trains.nd rfl (Or.inl rfl)) (pgs_cons (pg_name (i := 3) sc_are_trains.nd rfl (Or.inl rfl)) (pgs_nil)))) (fun _ _ _ _ _ => pts_nil) (fun _ _ _ _ _ => pv 2)) (pa_nil))) (pe_gl (by rfl) T.c_MOST_ITEMS) (nomark _))))))
  exact F.ok sc_are_trains (fun vs H Q E h => by
    repeat (first | (obtain ⟨rfl, _⟩ := h; rfl) | obtain ⟨_, h⟩ := h)) D
theorem dfn_uncut (T : Tx K mg c_Row c_BadNumber c_BadCapacity c_BadIndex c_BadRow c_BadTrains c_BadCounts) (C_contents : Prp P w K mg base 1 c_Row "contents" (spContents K c_Row)) {a0 : Addr} (C_Row1 : C8.Mak P w K mg base 5 "Row" c_Row (spRowInit K c_Row) [.ref a0]) (hE : BareK K a0 []) {f : Addr} {fd : FuncData} (F : FunD K "_uncut" "_uncut" (defArgs s_uncut) (defBody s_uncut) (defScope s_uncut) [] [] f fd) :
    FnOk P w K mg base CX0 7 f fd ["row", "offsets"] (spUncut K c_Row) := by
  have D : ∀ (cdv : Value) (A : Around) (outer : List Env) (s : Shared) (H : Hp) (vs : List V) (Q : VK) (E : XK), Room 6 (A.deeper (envOfC "_uncut" (defScope s_uncut) s.heap.objs.size f cdv)) → (spUncut K c_Row) vs H Q E →
      ∃ t, PSs (cxOf CX0 P w K mg base ["row", "offsets", "added", "moved", "before", "offset", "index", "_"] "_uncut" (defScope s_uncut) f cdv A outer s H E) (defBody s_uncut) t ∧ t { nx := fun _ H' => Q .non H', rt := Q } (start ["row", "offsets", "added", "moved", "before", "offset", "index", "_"] vs) H := by
    intro cdv A outer s H vs Q E hr h
    refine ⟨t_uncut K a0 c_Row, PSs.nox ?_, pure_uncut hE vs H Q E h⟩
    exact pss_cons (ps_setLc (i := 2) (own := [("before", 4), ("offset", 5)]) (g := gTup K 2 (gCons (gName 4) (gCons (gName 5) (gNil)))) (tt := tYes) rfl sc_uncut.nd rfl rfl (sw_true rfl rfl rfl (by decide +kernel)) (pi_enum (by rfl) T.n_enumerate (pa_cons (pe_callB cr_sortedI (by rfl) T.n_sorted (by decide +kernel) (pa_cons (pv 1) (pa_nil))) (pa_nil))) (blkOk_by (own := [("before", 4), ("offset", 5)]) (N := ["row", "offsets", "added", "moved", "before", "offset", "index", "_"]) (sc := defScope s_uncut) (by decide +kernel)) (fun _ _ _ _ _ => pg_tup rfl (pgs_cons (pg_name (i := 4) sc_uncut.nd rfl (Or.inl rfl)) (pgs_cons (pg_name (i := 5) sc_uncut.nd rfl (Or.inl rfl)) (pgs_nil)))) (fun _ _ _ _ _ => pts_nil) (fun _ _ _ _ _ => pe_tup (pa_cons (pe_op op_add (pv 5) (pe_op op_mul (pe_int) (pv 4))) (pa_cons (pe_int) (pa_nil)))))
      (pss_cons (ps_setLc (i := 3) (own := [("index", 6), ("_", 7)]) (g := gTup K 2 (gCons (gName 6) (gCons (gName 7) (gNil)))) (tt := tYes) rfl sc_uncut.nd rfl rfl (sw_true rfl rfl rfl (by decide +kernel)) (pi_tup (pe_pr C_contents hr (by decide) (pv 0))) (blkOk_by (own := [("index", 6), ("_", 7)]) (N := ["row", "offsets", "added", "moved", "before", "offset", "index", "_"]) (sc := defScope s_uncut) (by decide +kernel)) (fun _ _ _ _ _ => pg_tup rfl (pgs_cons (pg_name (i := 6) sc_uncut.nd rfl (Or.inr rfl)) (pgs_cons (pg_name (i := 7) sc_uncut.nd rfl (Or.inl rfl)) (pgs_nil)))) (fun _ _ _ _ _ => pts_nil) (fun _ _ _ _ _ => pe_tup (pa_cons (pe_op op_add (pv 6) (pe_op op_mul (pe_int) (pe_callB call_len_seq (by rfl) T.n_len PySem.boot_len (pa_cons (pe_lc (own := [("offset", 5)]) (g := gName 5) (tt := tTest (tOp qLe (tVar 5) (tVar 6))) rfl sc_uncut.nd (pi_list (pv 1)) (blkOk_by (own := [("offset", 5)]) (N := ["row", "offsets", "added", "moved", "before", "offset", "index", "_"]) (sc := _) (by kernel_rfl)) (fun _ _ _ _ _ => pg_name (i := 5) sc_uncut.nd rfl (Or.inl rfl)) (fun _ _ _ _ _ => pts_one (pt_cmpR op_le (pv 5) (pv 6) (nomark _))) (fun _ _ _ _ _ => pv 5)) (pa_nil))))) (pa_cons (pe_int) (pa_nil)))))
      (pss_one (ps_ret (C8.pe_mk C_Row1 hr (by decide) (by rfl) (pa_cons (pe_op op_cat (pv 3) (pv 2)) (pa_nil))))))
  exact F.ok sc_uncut (fun vs H Q E h => by
    repeat (first | (obtain ⟨rfl, _⟩ := h; rfl) | obtain ⟨_, h⟩ := h)) D
theorem dfn_row_of (T : Tx K mg c_Row c_BadNumber c_BadCapacity c_BadIndex c_BadRow c_BadTrains c_BadCounts) (C_are_trains : Kn P w K mg base CX0 3 "_are_trains" ["value"] (spAreTrains K)) (C_behind_runs : Kn P w K mg base CX0 4 "_behind_runs" ["row"] (spBehind K c_Row)) (C_uncut : Kn P w K mg base CX0 7 "_uncut" ["row", "offsets"] (spUncut K c_Row)) (C_with_capacities : Kn P w K mg base (L2.CX P w) 12 "with_capacities" ["row", "capacities"] (spWithCap K c_Row c_BadRow)) {a00 a0 : Addr} (C_Row0 : C8.Mak P w K mg base 5 "Row" c_Row (spRowInit K c_Row) [.ref a00, .ref a0]) (hE0 : BareK K a00 []) (hE : BareK K a0 []) {f : Addr} {fd : FuncData} {dv : List V} (F : FunD K "row_of" "row_of" (defArgs s_row_of) (defBody s_row_of) (defScope s_row_of) dv [] f fd) :
    FnOk P w K mg base (L2.CX P w) 13 f fd ["trains", "capacities"] (spRowOf K c_Row c_BadTrains c_BadRow) := by
  have D : ∀ (cdv : Value) (A : Around) (outer : List Env) (s : Shared) (H : Hp) (vs : List V) (Q : VK) (E : XK), Room 12 (A.deeper (envOfC "row_of" (defScope s_row_of) s.heap.objs.size f cdv)) → (spRowOf K c_Row c_BadTrains c_BadRow) vs H Q E →
      ∃ t, PSs (cxOf (L2.CX P w) P w K mg base ["trains", "capacities", "row", "level", "begun", "length", "offset", "_"] "row_of" (defScope s_row_of) f cdv A outer s H E) (defBody s_row_of) t ∧ t { nx := fun _ H' => Q .non H', rt := Q } (start ["trains", "capacities", "row", "level", "begun", "length", "offset", "_"] vs) H := by
    intro cdv A outer s H vs Q E hr h
    refine ⟨t_row_of K a00 a0 c_BadRow c_BadTrains c_Row E, ?_, pure_row_of hE0 hE vs H Q E h⟩
    exact pss_cons (ps_if (pt_not (pt_val (pe_k C_are_trains hr (by decide) rfl pass0 (pa_cons (pv 0) (pa_nil)))))
      (pss_one (ps_raise rfl (takes_of rfl rfl rfl rfl) (pmk_own PySem.F.excBase_ValueError T.x_BadTrains T.g_BadTrains T.k_BadTrains (raises_own T.s_BadTrains T.t_BadTrains) (by exact rfl))))
      (pss_nil))
      (pss_cons (ps_set (i := 2) sc_row_of.nd rfl (Or.inl rfl) (pe_mk0 C_Row0 hr (by decide) (by rfl)))
      (pss_cons (ps_for (passes_of rfl) rfl (pi_range3 rfl T.n_range (pa_cons (pe_callBK (cr_maxDf rfl) (by rfl) T.n_max (by decide +kernel) (pa_cons (pe_lc (own := [("length", 5), ("_", 7)]) (g := gTup K 2 (gCons (gName 5) (gCons (gName 7) (gNil)))) (tt := tYes) rfl sc_row_of.nd (pi_or (pi_list (pv 0)) (pi_tup (pv 0))) (blkOk_by (own := [("length", 5), ("_", 7)]) (N := ["trains", "capacities", "row", "level", "begun", "length", "offset", "_"]) (sc := defScope s_row_of) (by decide +kernel)) (fun _ _ _ _ _ => pg_tup rfl (pgs_cons (pg_name (i := 5) sc_row_of.nd rfl (Or.inl rfl)) (pgs_cons (pg_name (i := 7) sc_row_of.nd rfl (Or.inl rfl)) (pgs_nil)))) (fun _ _ _ _ _ => pts_nil) (fun _ _ _ _ _ => pv 5)) (pa_nil)) (pk_cons (pe_int) pk_nil)) (pa_cons (pe_int) (pa_cons (pe_un un_neg (pe_int)) (pa_nil))))) (pg_name (i := 3) sc_row_of.nd rfl (Or.inr rfl))
      (pss_cons (ps_setLc (i := 4) (own := [("length", 5), ("offset", 6)]) (g := gTup K 2 (gCons (gName 5) (gCons (gName 6) (gNil)))) (tt := tTest (tOp rEq (tVar 5) (tVar 3))) rfl sc_row_of.nd rfl rfl (sw_true rfl rfl rfl (by decide +kernel)) (pi_or (pi_list (pv 0)) (pi_tup (pv 0))) (blkOk_by (own := [("length", 5), ("offset", 6)]) (N := ["trains", "capacities", "row", "level", "begun", "length", "offset", "_"]) (sc := defScope s_row_of) (by decide +kernel)) (fun _ _ _ _ _ => pg_tup rfl (pgs_cons (pg_name (i := 5) sc_row_of.nd rfl (Or.inl rfl)) (pgs_cons (pg_name (i := 6) sc_row_of.nd rfl (Or.inl rfl)) (pgs_nil)))) (fun _ _ _ _ _ => pts_one (pt_cmpR op_eq (pv 5) (pv 3) (nomark _))) (fun _ _ _ _ _ => pv 6))
      (pss_one (ps_set (i := 2) sc_row_of.nd rfl (Or.inl rfl) (pe_k C_uncut hr (by decide) rfl pass0 (pa_cons (pv 2) (pa_cons (pe_op op_cat (pe_k C_behind_runs hr (by decide) rfl pass0 (pa_cons (pv 2) (pa_nil))) (pv 4)) (pa_nil))))))))
      (pss_one (ps_ret (pe_k C_with_capacities hr (by decide) rfl (passes_call (takes_of rfl rfl rfl rfl) (fun _ _ _ _ h => h)) (pa_cons (pv 2) (pa_cons (pv 1) (pa_nil))))))))
  exact F.ok sc_row_of (fun vs H Q E h => by
    repeat (first | (obtain ⟨rfl, _⟩ := h; rfl) | obtain ⟨_, h⟩ := h)) D
theorem dfn_is_counts (T : Tx K mg c_Row c_BadNumber c_BadCapacity c_BadIndex c_BadRow c_BadTrains c_BadCounts) (C_is_capacity : Kn P w K mg base CX0 3 "is_capacity" ["value"] (spCapacity K)) (C_is_integer : Kn P w K mg base CX0 1 "is_integer" ["value"] (spIsInt K)) {f : Addr} {fd : FuncData} (F : FunD K "is_counts" "is_counts" (defArgs s_is_counts) (defBody s_is_counts) (defScope s_is_counts) [] [] f fd) :
    FnOk P w K mg base CX0 4 f fd ["value"] (spIsCounts K) := by
  have D : ∀ (cdv : Value) (A : Around) (outer : List Env) (s : Shared) (H : Hp) (vs : List V) (Q : VK) (E : XK), Room 3 (A.deeper (envOfC "is_counts" (defScope s_is_counts) s.heap.objs.size f cdv)) → (spIsCounts K) vs H Q E →
      ∃ t, PSs (cxOf CX0 P w K mg base ["value", "capacity", "many"] "is_counts" (defScope s_is_counts) f cdv A outer s H E) (defBody s_is_counts) t ∧ t { nx := fun _ H' => Q .non H', rt := Q } (start ["value", "capacity", "many"] vs) H := by
    intro cdv A outer s H vs Q E hr h
    refine ⟨t_is_counts K, PSs.nox ?_, pure_is_counts vs H Q E h⟩
    exact pss_cons (ps_if (pt_not (pt_val (pe_callB call_isi (by rfl) T.n_isinstance PyProof.Rows.boot_isinstance (pa_cons (pv 0) (pa_cons (pe_bltn (v := .ty "dict") (by rfl) T.n_dict (by decide +kernel) rfl) pa_nil)))))
      (pss_one (ps_ret (pe_bl)))
      (pss_nil))
      (pss_one (ps_ret (pe_callB (cr_all rfl) (by rfl) T.n_all (by decide +kernel) (pa_cons (pe_lock (pe_lc (own := [("capacity", 1), ("many", 2)]) (g := gTup K 2 (gCons (gName 1) (gCons (gName 2) (gNil)))) (tt := tYes) rfl sc_is_counts.nd (pi_items (pv 0)) (blkOk_by (own := [("capacity", 1), ("many", 2)]) (N := ["value", "capacity", "many"]) (sc := defScope s_is_counts) (by decide +kernel)) (fun _ _ _ _ _ => pg_tup rfl (pgs_cons (pg_name (i := 1) sc_is_counts.nd rfl (Or.inl rfl)) (pgs_cons (pg_name (i := 2) sc_is_counts.nd rfl (Or.inl rfl)) (pgs_nil)))) (fun _ _ _ _ _ => pts_nil) (fun _ _ _ _ _ => pe_and (pe_k C_is_capacity hr (by decide) rfl pass0 (pa_cons (pv 1) (pa_nil))) (pe_one (pe_k C_is_integer hr (by decide) rfl pass0 (pa_cons (pv 2) (pa_nil))))))) (pa_nil)))))
  exact F.ok sc_is_counts (fun vs H Q E h => by
    repeat (first | (obtain ⟨rfl, _⟩ := h; rfl) | obtain ⟨_, h⟩ := h)) D
theorem dfn_way (T : Tx K mg c_Row c_BadNumber c_BadCapacity c_BadIndex c_BadRow c_BadTrains c_BadCounts) {f : Addr} {fd : FuncData} (F : FunD K "way" "way" (defArgs s_way) (defBody s_way) (defScope s_way) [] [] f fd) :
    FnOk P w K mg base CX0 1 f fd ["length", "counts"] (spWay K) := by
  have D : ∀ (cdv : Value) (A : Around) (outer : List Env) (s : Shared) (H : Hp) (vs : List V) (Q : VK) (E : XK), Room 0 (A.deeper (envOfC "way" (defScope s_way) s.heap.objs.size f cdv)) → (spWay K) vs H Q E →
      ∃ t, PSs (cxOf CX0 P w K mg base ["length", "counts", "many", "capacity"] "way" (defScope s_way) f cdv A outer s H E) (defBody s_way) t ∧ t { nx := fun _ H' => Q .non H', rt := Q } (start ["length", "counts", "many", "capacity"] vs) H := by
    intro cdv A outer s H vs Q E hr h
    refine ⟨t_way K, PSs.nox ?_, pure_way vs H Q E h⟩
    exact pss_one (ps_ret (pe_callB (cr_sum rfl) (by rfl) T.n_sum (by decide +kernel) (pa_cons (pe_lock (pe_lc (own := [("many", 2), ("capacity", 3)]) (g := gTup K 2 (gCons (gName 3) (gCons (gName 2) (gNil)))) (tt := tYes) rfl sc_way.nd (pi_items (pv 1)) (blkOk_by (own := [("many", 2), ("capacity", 3)]) (N := ["length", "counts", "many", "capacity"]) (sc := defScope s_way) (by decide +kernel)) (fun _ _ _ _ _ => pg_tup rfl (pgs_cons (pg_name (i := 3) sc_way.nd rfl (Or.inl rfl)) (pgs_cons (pg_name (i := 2) sc_way.nd rfl (Or.inl rfl)) (pgs_nil)))) (fun _ _ _ _ _ => pts_nil) (fun _ _ _ _ _ => pe_op op_mul (pv 2) (pe_callB (call_min2 rfl) (by rfl) T.n_min (by decide +kernel) (pa_cons (pv 3) (pa_cons (pv 0) (pa_nil))))))) (pa_nil))))
  exact F.ok sc_way (fun vs H Q E h => by
    repeat (first | (obtain ⟨rfl, _⟩ := h; rfl) | obtain ⟨_, h⟩ := h)) D
theorem dfn_moved (T : Tx K mg c_Row c_BadNumber c_BadCapacity c_BadIndex c_BadRow c_BadTrains c_BadCounts) (C_way : Kn P w K mg base CX0 1 "way" ["length", "counts"] (spWay K)) {f : Addr} {fd : FuncData} (F : FunD K "moved" "moved" (defArgs s_moved) (defBody s_moved) (defScope s_moved) [] [] f fd) :
    FnOk P w K mg base CX0 2 f fd ["found", "counts"] (spMovedA K) := by
  have D : ∀ (cdv : Value) (A : Around) (outer : List Env) (s : Shared) (H : Hp) (vs : List V) (Q : VK) (E : XK), Room 1 (A.deeper (envOfC "moved" (defScope s_moved) s.heap.objs.size f cdv)) → (spMovedA K) vs H Q E →
      ∃ t, PSs (cxOf CX0 P w K mg base ["found", "counts", "length", "offset"] "moved" (defScope s_moved) f cdv A outer s H E) (defBody s_moved) t ∧ t { nx := fun _ H' => Q .non H', rt := Q } (start ["found", "counts", "length", "offset"] vs) H := by
    intro cdv A outer s H vs Q E hr h
    refine ⟨t_movedA K, PSs.nox ?_, pure_movedA vs H Q E h⟩
    exact pss_one (ps_ret (pe_lc (own := [("length", 2), ("offset", 3)]) (g := gTup K 2 (gCons (gName 2) (gCons (gName 3) (gNil)))) (tt := tYes) rfl sc_moved.nd (pi_list (pv 0)) (blkOk_by (own := [("length", 2), ("offset", 3)]) (N := ["found", "counts", "length", "offset"]) (sc := defScope s_moved) (by decide +kernel)) (fun _ _ _ _ _ => pg_tup rfl (pgs_cons (pg_name (i := 2) sc_moved.nd rfl (Or.inl rfl)) (pgs_cons (pg_name (i := 3) sc_moved.nd rfl (Or.inl rfl)) (pgs_nil)))) (fun _ _ _ _ _ => pts_nil) (fun _ _ _ _ _ => pe_tup (pa_cons (pv 2) (pa_cons (pe_op op_add (pv 3) (pe_k C_way hr (by decide) rfl pass0 (pa_cons (pv 2) (pa_cons (pv 1) (pa_nil))))) (pa_nil))))))
  exact F.ok sc_moved (fun vs H Q E h => by
    repeat (first | (obtain ⟨rfl, _⟩ := h; rfl) | obtain ⟨_, h⟩ := h)) D
theorem dfn_advance (T : Tx K mg c_Row c_BadNumber c_BadCapacity c_BadIndex c_BadRow c_BadTrains c_BadCounts) (C_is_counts : Kn P w K mg base CX0 4 "is_counts" ["value"] (spIsCounts K)) (C_moved : Kn P w K mg base CX0 2 "moved" ["found", "counts"] (spMovedA K)) (C_trains : Kn P w K mg base CX0 13 "trains" ["row"] (spTrains K c_Row)) (C_row_of : Kn P w K mg base (L2.CX P w) 13 "row_of" ["trains", "capacities"] (spRowOf K c_Row c_BadTrains c_BadRow)) (C_capacities : Prp P w K mg base 1 c_Row "capacities" (spCapacities K c_Row)) {f : Addr} {fd : FuncData} (F : FunD K "advance" "advance" (defArgs s_advance) (defBody s_advance) (defScope s_advance) [] [] f fd) :
    FnOk P w K mg base (L2.CX P w) 14 f fd ["row", "counts"] (spAdvance K c_Row) := by
  have D : ∀ (cdv : Value) (A : Around) (outer : List Env) (s : Shared) (H : Hp) (vs : List V) (Q : VK) (E : XK), Room 13 (A.deeper (envOfC "advance" (defScope s_advance) s.heap.objs.size f cdv)) → (spAdvance K c_Row) vs H Q E →
      ∃ t, PSs (cxOf (L2.CX P w) P w K mg base ["row", "counts"] "advance" (defScope s_advance) f cdv A outer s H E) (defBody s_advance) t ∧ t { nx := fun _ H' => Q .non H', rt := Q } (start ["row", "counts"] vs) H := by
    intro cdv A outer s H vs Q E hr h
    refine ⟨t_advance K c_BadCounts c_BadRow c_BadTrains c_Row E, ?_, pure_advance vs H Q E h⟩
    exact pss_cons (ps_if (pt_not (pt_val (pe_k C_is_counts hr (by decide) rfl pass0 (pa_cons (pv 1) (pa_nil)))))
      (pss_one (ps_raise rfl (takes_of rfl rfl rfl rfl) (pmk_own PySem.F.excBase_ValueError T.x_BadCounts T.g_BadCounts T.k_BadCounts (raises_own T.s_BadCounts T.t_BadCounts) (by exact rfl))))
      (pss_nil))
      (pss_one (ps_ret (pe_k C_row_of hr (by decide) rfl passL (pa_cons (pe_k C_moved hr (by decide) rfl pass0 (pa_cons (pe_k C_trains hr (by decide) rfl pass0 (pa_cons (pv 0) (pa_nil))) (pa_cons (pv 1) (pa_nil)))) (pa_cons (pe_pr C_capacities hr (by decide) (pv 0)) (pa_nil))))))
  exact F.ok sc_advance (fun vs H Q E h => by
    repeat (first | (obtain ⟨rfl, _⟩ := h; rfl) | obtain ⟨_, h⟩ := h)) D
theorem dfn_given_up (T : Tx K mg c_Row c_BadNumber c_BadCapacity c_BadIndex c_BadRow c_BadTrains c_BadCounts) (C_is_capacity : Kn P w K mg base CX0 3 "is_capacity" ["value"] (spCapacity K)) (C_lengths : Kn P w K mg base CX0 14 "lengths" ["row"] (spLengths K c_Row)) (C_capacity : C8.Met P w K mg base 2 c_Row "capacity" (spCapacityOf K c_Row) []) {f : Addr} {fd : FuncData} (F : FunD K "given_up" "given_up" (defArgs s_given_up) (defBody s_given_up) (defScope s_given_up) [] [] f fd) :
    FnOk P w K mg base (L2.CX P w) 16 f fd ["row", "capacity", "index"] (spGivenUp K c_Row c_BadCapacity) := by
  have D : ∀ (cdv : Value) (A : Around) (outer : List Env) (s : Shared) (H : Hp) (vs : List V) (Q : VK) (E : XK), Room 15 (A.deeper (envOfC "given_up" (defScope s_given_up) s.heap.objs.size f cdv)) → (spGivenUp K c_Row c_BadCapacity) vs H Q E →
      ∃ t, PSs (cxOf (L2.CX P w) P w K mg base ["row", "capacity", "index", "box_capacity", "length"] "given_up" (defScope s_given_up) f cdv A outer s H E) (defBody s_given_up) t ∧ t { nx := fun _ H' => Q .non H', rt := Q } (start ["row", "capacity", "index", "box_capacity", "length"] vs) H := by
    intro cdv A outer s H vs Q E hr h
    refine ⟨t_givenup K c_BadCapacity c_Row E, ?_, pure_givenup vs H Q E h⟩
    exact pss_cons (ps_if (pt_not (pt_val (pe_k C_is_capacity hr (by decide) rfl pass0 (pa_cons (pv 1) (pa_nil)))))
      (pss_one (ps_raise rfl (takes_of rfl rfl rfl rfl) (pmk_own PySem.F.excBase_ValueError T.x_BadCapacity T.g_BadCapacity T.k_BadCapacity (raises_own T.s_BadCapacity T.t_BadCapacity) (by exact rfl))))
      (pss_nil))
      (pss_cons (ps_set (i := 3) sc_given_up.nd rfl (Or.inr rfl) (C8.pe_mt C_capacity hr (by decide) (pv 0) (pa_cons (pv 2) (pa_nil))))
      (pss_one (ps_ret (pe_callB (cr_sum rfl) (by rfl) T.n_sum (by decide +kernel) (pa_cons (pe_lc (own := [("length", 4)]) (g := gName 4) (tt := tYes) rfl sc_given_up.nd (pi_list (pe_k C_lengths hr (by decide) rfl pass0 (pa_cons (pv 0) (pa_nil)))) (blkOk_by (own := [("length", 4)]) (N := ["row", "capacity", "index", "box_capacity", "length"]) (sc := defScope s_given_up) (by decide +kernel)) (fun _ _ _ _ _ => pg_name (i := 4) sc_given_up.nd rfl (Or.inl rfl)) (fun _ _ _ _ _ => pts_nil) (fun _ _ _ _ _ => pe_callB (call_min2 rfl) (by rfl) T.n_min (by decide +kernel) (pa_cons (pv 3) (pa_cons (pv 4) (pa_nil))))) (pa_nil))))))
  exact F.ok sc_given_up (fun vs H Q E h => by
    repeat (first | (obtain ⟨rfl, _⟩ := h; rfl) | obtain ⟨_, h⟩ := h)) D
theorem dfn_begun (T : Tx K mg c_Row c_BadNumber c_BadCapacity c_BadIndex c_BadRow c_BadTrains c_BadCounts) {f : Addr} {fd : FuncData} (F : FunD K "_law_begun" "_law_begun" (defArgs s_begun) (defBody s_begun) (defScope s_begun) [] [] f fd) :
    FnOk P w K mg base CX0 1 f fd ["script"] (spBegun K) := by
  have D : ∀ (cdv : Value) (A : Around) (outer : List Env) (s : Shared) (H : Hp) (vs : List V) (Q : VK) (E : XK), Room 0 (A.deeper (envOfC "_law_begun" (defScope s_begun) s.heap.objs.size f cdv)) → (spBegun K) vs H Q E →
      ∃ t, PSs (cxOf CX0 P w K mg base ["script", "wide", "cell"] "_law_begun" (defScope s_begun) f cdv A outer s H E) (defBody s_begun) t ∧ t { nx := fun _ H' => Q .non H', rt := Q } (start ["script", "wide", "cell"] vs) H := by
    intro cdv A outer s H vs Q E hr h
    refine ⟨t_begun K, PSs.nox ?_, pure_begun vs H Q E h⟩
    exact pss_cons (ps_setLc (i := 1) (own := [("cell", 2)]) (g := gName 2) (tt := tTest (tOp qGe (tVar 2) (tOp qPow (tC (.int 10)) (tC (.int 18))))) rfl sc_begun.nd rfl rfl (sw_true rfl rfl rfl (by decide +kernel)) (pi_list (pv 0)) (blkOk_by (own := [("cell", 2)]) (N := ["script", "wide", "cell"]) (sc := defScope s_begun) (by decide +kernel)) (fun _ _ _ _ _ => pg_name (i := 2) sc_begun.nd rfl (Or.inl rfl)) (fun _ _ _ _ _ => pts_one (pt_cmpR op_ge (pv 2) (pe_op op_pow (pe_int) (pe_int)) (nomark _))) (fun _ _ _ _ _ => pe_op op_sub (pv 2) (pe_op op_pow (pe_int) (pe_int))))
      (pss_one (ps_ret (pe_disp (pps_cons (pe_str) (pv 1) (pps_cons (pe_str) (pe_callTy call_list_of (by rfl) T.n_list (by decide +kernel) (pa_cons (pv 0) (pa_nil))) (pps_cons (pe_str) (pe_int) (pps_cons (pe_str) (pe_int) (pps_nil))))) (by rfl) (by rfl) (fun z => by cases z) (by decide))))
  exact F.ok sc_begun (fun vs H Q E h => by
    repeat (first | (obtain ⟨rfl, _⟩ := h; rfl) | obtain ⟨_, h⟩ := h)) D
theorem dfn_mixed (T : Tx K mg c_Row c_BadNumber c_BadCapacity c_BadIndex c_BadRow c_BadTrains c_BadCounts) {f : Addr} {fd : FuncData} (F : FunD K "_law_mixed" "_law_mixed" (defArgs s_mixed) (defBody s_mixed) (defScope s_mixed) [] [] f fd) :
    FnOk P w K mg base CX0 1 f fd ["state"] spMixed := by
  have D : ∀ (cdv : Value) (A : Around) (outer : List Env) (s : Shared) (H : Hp) (vs : List V) (Q : VK) (E : XK), Room 0 (A.deeper (envOfC "_law_mixed" (defScope s_mixed) s.heap.objs.size f cdv)) → spMixed vs H Q E →
      ∃ t, PSs (cxOf CX0 P w K mg base ["state", "turn", "found", "prime", "blend", "cell"] "_law_mixed" (defScope s_mixed) f cdv A outer s H E) (defBody s_mixed) t ∧ t { nx := fun _ H' => Q .non H', rt := Q } (start ["state", "turn", "found", "prime", "blend", "cell"] vs) H := by
    intro cdv A outer s H vs Q E hr h
    refine ⟨t_mixed K, PSs.nox ?_, pure_mixed vs H Q E h⟩
    exact pss_cons (ps_set (i := 1) sc_mixed.nd rfl (Or.inl rfl) (pe_op op_add (pe_dget (hu_of hr) (pv 0) (pe_str) (fun _ _ => rfl)) (pe_int)))
      (pss_cons (ps_dput (hu_of hr) (pv 0) (pe_str) (pv 1) rfl)
      (pss_cons (ps_set (i := 2) sc_mixed.nd rfl (Or.inl rfl) (pe_int))
      (pss_cons (ps_for PassesOwn.never rfl (pi_list (pe_lst (pa_cons (pe_int) (pa_cons (pe_int) (pa_cons (pe_int) (pa_cons (pe_int) (pa_cons (pe_int) (pa_cons (pe_int) (pa_nil))))))))) (pg_name (i := 3) sc_mixed.nd rfl (Or.inl rfl))
      (pss_cons (ps_set (i := 4) sc_mixed.nd rfl (Or.inl rfl) (pe_op op_add (pe_op op_mul (pe_int) (pv 1)) (pe_op op_fdivN (pv 3) (pe_int))))
      (pss_cons (ps_for PassesOwn.never rfl (pi_list (pe_dget (hu_of hr) (pv 0) (pe_str) (fun _ _ => rfl))) (pg_name (i := 5) sc_mixed.nd rfl (Or.inl rfl))
      (pss_one (ps_set (i := 4) sc_mixed.nd rfl (Or.inl rfl) (pe_op op_modN (pe_callTy call_int1 (by rfl) T.n_int (by decide +kernel) (pa_cons (pe_op op_add (pe_op op_mul (pv 4) (pe_int)) (pv 5)) (pa_nil))) (pv 3)))))
      (pss_one (ps_set (i := 2) sc_mixed.nd rfl (Or.inl rfl) (pe_op op_add (pe_op op_mul (pv 2) (pe_int)) (pe_op op_modN (pe_callTy call_int1 (by rfl) T.n_int (by decide +kernel) (pa_cons (pe_op op_pow (pv 4) (pe_int)) (pa_nil))) (pv 3))))))))
      (pss_one (ps_ret (pv 2))))))
  exact F.ok sc_mixed (fun vs H Q E h => by
    repeat (first | (obtain ⟨rfl, _⟩ := h; rfl) | obtain ⟨_, h⟩ := h)) D
theorem dfn_take (T : Tx K mg c_Row c_BadNumber c_BadCapacity c_BadIndex c_BadRow c_BadTrains c_BadCounts) (C_mixed : Kn P w K mg base CX0 1 "_law_mixed" ["state"] spMixed) {f : Addr} {fd : FuncData} (F : FunD K "_law_take" "_law_take" (defArgs s_take) (defBody s_take) (defScope s_take) [] [] f fd) :
    FnOk P w K mg base CX0 2 f fd ["state", "size"] spTake := by
  have D : ∀ (cdv : Value) (A : Around) (outer : List Env) (s : Shared) (H : Hp) (vs : List V) (Q : VK) (E : XK), Room 1 (A.deeper (envOfC "_law_take" (defScope s_take) s.heap.objs.size f cdv)) → spTake vs H Q E →
      ∃ t, PSs (cxOf CX0 P w K mg base ["state", "size", "found"] "_law_take" (defScope s_take) f cdv A outer s H E) (defBody s_take) t ∧ t { nx := fun _ H' => Q .non H', rt := Q } (start ["state", "size", "found"] vs) H := by
    intro cdv A outer s H vs Q E hr h
    refine ⟨t_take K, PSs.nox ?_, pure_take vs H Q E h⟩
    exact pss_cons (ps_if (PW.pt (pw_and (pt_cmpR op_eq (pe_dget (hu_of hr) (pv 0) (pe_str) (fun _ _ => rfl)) (pe_int) (nomark _)) (pw_and1 (pt_cmpR (op_neD hr.units) (pe_dget (hu_of hr) (pv 0) (pe_str) (fun _ _ => rfl)) (pe_lst (pa_nil)) (nomark _)))))
      (pss_one (ps_dput (hu_of hr) (pv 0) (pe_str) (pe_bm PySem.F.plainAttrs_list PySem.F.slot_list_pop PySem.F.type_list_pop mt_popAt (pe_dget (hu_of hr) (pv 0) (pe_str) (fun _ _ => rfl)) (pa_cons (pe_int) (pa_nil))) rfl))
      (pss_one (ps_if (pt_cmpR op_eq (pe_dget (hu_of hr) (pv 0) (pe_str) (fun _ _ => rfl)) (pe_int) (nomark _))
      (pss_one (ps_dput (hu_of hr) (pv 0) (pe_str) (pe_k C_mixed hr (by decide) rfl pass0 (pa_cons (pv 0) (pa_nil))) rfl))
      (pss_nil))))
      (pss_cons (ps_set (i := 2) sc_take.nd rfl (Or.inl rfl) (pe_op op_modN (pe_callTy call_int1 (by rfl) T.n_int (by decide +kernel) (pa_cons (pe_dget (hu_of hr) (pv 0) (pe_str) (fun _ _ => rfl)) (pa_nil))) (pv 1)))
      (pss_cons (ps_dput (hu_of hr) (pv 0) (pe_str) (pe_op op_fdivN (pe_dget (hu_of hr) (pv 0) (pe_str) (fun _ _ => rfl)) (pv 1)) rfl)
      (pss_one (ps_ret (pv 2)))))
  exact F.ok sc_take (fun vs H Q E h => by
    repeat (first | (obtain ⟨rfl, _⟩ := h; rfl) | obtain ⟨_, h⟩ := h)) D
theorem dfn_pick (T : Tx K mg c_Row c_BadNumber c_BadCapacity c_BadIndex c_BadRow c_BadTrains c_BadCounts) (C_take : Kn P w K mg base CX0 2 "_law_take" ["state", "size"] spTake) {f : Addr} {fd : FuncData} (F : FunD K "_law_pick" "_law_pick" (defArgs s_pick) (defBody s_pick) (defScope s_pick) [] [] f fd) :
    FnOk P w K mg base CX0 3 f fd ["state", "some"] (spPick K) := by
  have D : ∀ (cdv : Value) (A : Around) (outer : List Env) (s : Shared) (H : Hp) (vs : List V) (Q : VK) (E : XK), Room 2 (A.deeper (envOfC "_law_pick" (defScope s_pick) s.heap.objs.size f cdv)) → (spPick K) vs H Q E →
      ∃ t, PSs (cxOf CX0 P w K mg base ["state", "some"] "_law_pick" (defScope s_pick) f cdv A outer s H E) (defBody s_pick) t ∧ t { nx := fun _ H' => Q .non H', rt := Q } (start ["state", "some"] vs) H := by
    intro cdv A outer s H vs Q E hr h
    refine ⟨t_pick K, PSs.nox ?_, pure_pick vs H Q E h⟩
    exact pss_one (ps_ret (pe_ix ix_list (pv 1) (pe_k C_take hr (by decide) rfl pass0 (pa_cons (pv 0) (pa_cons (pe_callB call_len_seq (by rfl) T.n_len PySem.boot_len (pa_cons (pv 1) (pa_nil))) (pa_nil)))) (fun _ _ => rfl)))
  exact F.ok sc_pick (fun vs H Q E h => by
    repeat (first | (obtain ⟨rfl, _⟩ := h; rfl) | obtain ⟨_, h⟩ := h)) D
theorem dfn_sizes (T : Tx K mg c_Row c_BadNumber c_BadCapacity c_BadIndex c_BadRow c_BadTrains c_BadCounts) (C_take : Kn P w K mg base CX0 2 "_law_take" ["state", "size"] spTake) (C_pick : Kn P w K mg base CX0 3 "_law_pick" ["state", "some"] (spPick K)) {f : Addr} {fd : FuncData} (F : FunD K "_law_sizes" "_law_sizes" (defArgs s_sizes) (defBody s_sizes) (defScope s_sizes) [] [] f fd) :
    FnOk P w K mg base CX0 4 f fd ["state", "most"] (spSizes K) := by
  have D : ∀ (cdv : Value) (A : Around) (outer : List Env) (s : Shared) (H : Hp) (vs : List V) (Q : VK) (E : XK), Room 3 (A.deeper (envOfC "_law_sizes" (defScope s_sizes) s.heap.objs.size f cdv)) → (spSizes K) vs H Q E →
      ∃ t, PSs (cxOf CX0 P w K mg base ["state", "most", "found", "turn", "place"] "_law_sizes" (defScope s_sizes) f cdv A outer s H E) (defBody s_sizes) t ∧ t { nx := fun _ H' => Q .non H', rt := Q } (start ["state", "most", "found", "turn", "place"] vs) H := by
    intro cdv A outer s H vs Q E hr h
    refine ⟨t_sizes K, PSs.nox ?_, pure_sizes vs H Q E h⟩
    exact pss_cons (ps_set (i := 2) sc_sizes.nd rfl (Or.inr rfl) (pe_dnewK))
      (pss_cons (ps_for PassesOwn.never rfl (pi_range1 rfl T.n_range (pa_cons (pe_k C_take hr (by decide) rfl pass0 (pa_cons (pv 0) (pa_cons (pe_op op_add (pv 1) (pe_int)) (pa_nil)))) (pa_nil))) (pg_name (i := 3) sc_sizes.nd rfl (Or.inl rfl))
      (pss_one (ps_dput (hu_of hr) (pv 2) (pe_k C_pick hr (by decide) rfl pass0 (pa_cons (pv 0) (pa_cons (pe_lst (pa_cons (pe_op op_sub (pe_k C_take hr (by decide) rfl pass0 (pa_cons (pv 0) (pa_cons (pe_int) (pa_nil)))) (pe_int)) (pa_cons (pe_op op_sub (pe_k C_take hr (by decide) rfl pass0 (pa_cons (pv 0) (pa_cons (pe_int) (pa_nil)))) (pe_int)) (pa_cons (pe_int) (pa_cons (pe_un un_neg (pe_int)) (pa_nil)))))) (pa_nil)))) (pe_op op_add (pe_int) (pe_k C_take hr (by decide) rfl pass0 (pa_cons (pv 0) (pa_cons (pe_int) (pa_nil))))) rfl)))
      (pss_one (ps_ret (pe_callTy (call_dictP rfl) (by rfl) T.n_dict (by decide +kernel) (pa_cons (pe_lc (own := [("place", 4)]) (g := gName 4) (tt := tYes) rfl sc_sizes.nd (pi_list (pe_callB (call_sortedDI rfl) (by rfl) T.n_sorted (by decide +kernel) (pa_cons (pv 2) (pa_nil)))) (blkOk_by (own := [("place", 4)]) (N := ["state", "most", "found", "turn", "place"]) (sc := defScope s_sizes) (by decide +kernel)) (fun _ _ _ _ _ => pg_name (i := 4) sc_sizes.nd rfl (Or.inl rfl)) (fun _ _ _ _ _ => pts_nil) (fun _ _ _ _ _ => pe_tup (pa_cons (pv 4) (pa_cons (pe_dget (hu_of hr) (pv 2) (pv 4) (fun _ _ => rfl)) (pa_nil))))) (pa_nil))))))
  exact F.ok sc_sizes (fun vs H Q E h => by
    repeat (first | (obtain ⟨rfl, _⟩ := h; rfl) | obtain ⟨_, h⟩ := h)) D
theorem dfn_boxes (T : Tx K mg c_Row c_BadNumber c_BadCapacity c_BadIndex c_BadRow c_BadTrains c_BadCounts) (C_take : Kn P w K mg base CX0 2 "_law_take" ["state", "size"] spTake) (C_pick : Kn P w K mg base CX0 3 "_law_pick" ["state", "some"] (spPick K)) {f : Addr} {fd : FuncData} (F : FunD K "_law_boxes" "_law_boxes" (defArgs s_boxes) (defBody s_boxes) (defScope s_boxes) [] [] f fd) :
    FnOk P w K mg base CX0 4 f fd ["state", "sizes", "most"] (spBoxes K) := by
  have D : ∀ (cdv : Value) (A : Around) (outer : List Env) (s : Shared) (H : Hp) (vs : List V) (Q : VK) (E : XK), Room 3 (A.deeper (envOfC "_law_boxes" (defScope s_boxes) s.heap.objs.size f cdv)) → (spBoxes K) vs H Q E →
      ∃ t, PSs (cxOf CX0 P w K mg base ["state", "sizes", "most", "place", "found", "spare", "turn", "step", "amount"] "_law_boxes" (defScope s_boxes) f cdv A outer s H E) (defBody s_boxes) t ∧ t { nx := fun _ H' => Q .non H', rt := Q } (start ["state", "sizes", "most", "place", "found", "spare", "turn", "step", "amount"] vs) H := by
    intro cdv A outer s H vs Q E hr h
    refine ⟨t_boxes K, PSs.nox ?_, pure_boxes vs H Q E h⟩
    exact pss_cons (ps_asg (pe_tup (pa_cons (pe_k C_pick hr (by decide) rfl pass0 (pa_cons (pv 0) (pa_cons (pe_lst (pa_cons (pe_int) (pa_cons (pe_int) (pa_cons (pe_un un_neg (pe_int)) (pa_cons (pe_un un_neg (pe_int)) (pa_cons (pe_int) (pa_cons (pe_op op_pow (pe_int) (pe_int)) (pa_cons (pe_un un_neg (pe_op op_pow (pe_int) (pe_int))) (pa_nil))))))))) (pa_nil)))) (pa_cons (pe_dnewK) (pa_cons (pv 2) (pa_nil))))) (pg_tup rfl (pgs_cons (pg_name (i := 3) sc_boxes.nd rfl (Or.inl rfl)) (pgs_cons (pg_name (i := 4) sc_boxes.nd rfl (Or.inr rfl)) (pgs_cons (pg_name (i := 5) sc_boxes.nd rfl (Or.inl rfl)) (pgs_nil))))))
      (pss_cons (ps_for PassesOwn.never rfl (pi_range1 rfl T.n_range (pa_cons (pe_k C_take hr (by decide) rfl pass0 (pa_cons (pv 0) (pa_cons (pe_int) (pa_nil)))) (pa_nil))) (pg_name (i := 6) sc_boxes.nd rfl (Or.inl rfl))
      (pss_cons (ps_for PassesOwn.never rfl (pi_range1 rfl T.n_range (pa_cons (pe_op op_add (pe_int) (pe_k C_take hr (by decide) rfl pass0 (pa_cons (pv 0) (pa_cons (pe_int) (pa_nil))))) (pa_nil))) (pg_name (i := 7) sc_boxes.nd rfl (Or.inl rfl))
      (pss_cons (ps_set (i := 8) sc_boxes.nd rfl (Or.inl rfl) (pe_callB (call_min2 rfl) (by rfl) T.n_min (by decide +kernel) (pa_cons (pv 5) (pa_cons (pe_op op_add (pe_int) (pe_k C_take hr (by decide) rfl pass0 (pa_cons (pv 0) (pa_cons (pe_dget2 (hu_of hr) (pv 1) (pv 3) (pe_int) ⟨rfl, rfl, rfl, rfl⟩) (pa_nil))))) (pa_nil)))))
      (pss_cons (ps_if (pt_cmpR op_gt (pv 8) (pe_int) (nomark _))
      (pss_one (ps_dput (hu_of hr) (pv 4) (pv 3) (pv 8) rfl))
      (pss_nil))
      (pss_one (ps_par (by rfl) sc_boxes.nd rfl rfl (by decide) rfl rfl (pa_cons (pe_op op_sub (pv 5) (pv 8)) (pa_cons (pe_op op_add (pv 3) (pe_int)) (pa_nil))) (by rfl))))))
      (pss_one (ps_set (i := 3) sc_boxes.nd rfl (Or.inl rfl) (pe_op op_add (pv 3) (pe_k C_pick hr (by decide) rfl pass0 (pa_cons (pv 0) (pa_cons (pe_lst (pa_cons (pe_int) (pa_cons (pe_int) (pa_cons (pe_int) (pa_cons (pe_int) (pa_cons (pe_int) (pa_cons (pe_int) (pa_cons (pe_op op_pow (pe_int) (pe_int)) (pa_nil))))))))) (pa_nil)))))))))
      (pss_cons (ps_lock (ps_for PassesOwn.never rfl (pi_keys (pv 1)) (pg_name (i := 3) sc_boxes.nd rfl (Or.inl rfl))
      (pss_cons (ps_set (i := 8) sc_boxes.nd rfl (Or.inl rfl) (pe_callB (call_min2 rfl) (by rfl) T.n_min (by decide +kernel) (pa_cons (pv 5) (pa_cons (pe_k C_take hr (by decide) rfl pass0 (pa_cons (pv 0) (pa_cons (pe_op op_add (pe_dget (hu_of hr) (pv 1) (pv 3) (fun _ _ => rfl)) (pe_int)) (pa_nil)))) (pa_nil)))))
      (pss_one (ps_if (PW.pt (pw_and (pt_cmp (pc_dnotin (hu_of hr) (pv 3) (pv 4))) (pw_and1 (pt_cmpR op_gt (pv 8) (pe_int) (nomark _)))))
      (pss_one (ps_asg (pe_tup (pa_cons (pv 8) (pa_cons (pe_op op_sub (pv 5) (pv 8)) (pa_nil)))) (pg_tup rfl (pgs_cons (pg_sub (pv 4) (pv 3) (set_dict (hu_of hr))) (pgs_cons (pg_name (i := 5) sc_boxes.nd rfl (Or.inl rfl)) (pgs_nil))))))
      (pss_nil))))))
      (pss_one (ps_ret (pe_callTy (call_dictP rfl) (by rfl) T.n_dict (by decide +kernel) (pa_cons (pe_lc (own := [("place", 3)]) (g := gName 3) (tt := tYes) rfl sc_boxes.nd (pi_list (pe_callB (call_sortedDI rfl) (by rfl) T.n_sorted (by decide +kernel) (pa_cons (pv 4) (pa_nil)))) (blkOk_by (own := [("place", 3)]) (N := ["state", "sizes", "most", "place", "found", "spare", "turn", "step", "amount"]) (sc := defScope s_boxes) (by decide +kernel)) (fun _ _ _ _ _ => pg_name (i := 3) sc_boxes.nd rfl (Or.inl rfl)) (fun _ _ _ _ _ => pts_nil) (fun _ _ _ _ _ => pe_tup (pa_cons (pv 3) (pa_cons (pe_dget (hu_of hr) (pv 4) (pv 3) (fun _ _ => rfl)) (pa_nil))))) (pa_nil)))))))
  exact F.ok sc_boxes (fun vs H Q E h => by
    repeat (first | (obtain ⟨rfl, _⟩ := h; rfl) | obtain ⟨_, h⟩ := h)) D
theorem dfn_made (T : Tx K mg c_Row c_BadNumber c_BadCapacity c_BadIndex c_BadRow c_BadTrains c_BadCounts) (C_Row : C8.Mak P w K mg base 5 "Row" c_Row (spRowInit K c_Row) []) {f : Addr} {fd : FuncData} (F : FunD K "_law_made" "_law_made" (defArgs s_made) (defBody s_made) (defScope s_made) [] [] f fd) :
    FnOk P w K mg base CX0 7 f fd ["boxes", "sizes"] (spMade K c_Row) := by
  have D : ∀ (cdv : Value) (A : Around) (outer : List Env) (s : Shared) (H : Hp) (vs : List V) (Q : VK) (E : XK), Room 6 (A.deeper (envOfC "_law_made" (defScope s_made) s.heap.objs.size f cdv)) → (spMade K c_Row) vs H Q E →
      ∃ t, PSs (cxOf CX0 P w K mg base ["boxes", "sizes"] "_law_made" (defScope s_made) f cdv A outer s H E) (defBody s_made) t ∧ t { nx := fun _ H' => Q .non H', rt := Q } (start ["boxes", "sizes"] vs) H := by
    intro cdv A outer s H vs Q E hr h
    refine ⟨t_made K c_Row, PSs.nox ?_, pure_made vs H Q E h⟩
    exact pss_one (ps_ret (C8.pe_mk C_Row hr (by decide) (by rfl) (pa_cons (LiI.pe_listItems rfl (pv 0) (by rfl) T.n_list (by decide +kernel)) (pa_cons (LiI.pe_listItems rfl (pv 1) (by rfl) T.n_list (by decide +kernel)) (pa_nil)))))
  exact F.ok sc_made (fun vs H Q E h => by
    repeat (first | (obtain ⟨rfl, _⟩ := h; rfl) | obtain ⟨_, h⟩ := h)) D
theorem dfn_best (T : Tx K mg c_Row c_BadNumber c_BadCapacity c_BadIndex c_BadRow c_BadTrains c_BadCounts) {f : Addr} {fd : FuncData} (F : FunD K "_law_best" "_law_best" (defArgs s_best) (defBody s_best) (defScope s_best) [] [] f fd) :
    FnOk P w K mg base CX0 1 f fd ["told"] (spBest81 K) := by
  have D : ∀ (cdv : Value) (A : Around) (outer : List Env) (s : Shared) (H : Hp) (vs : List V) (Q : VK) (E : XK), Room 0 (A.deeper (envOfC "_law_best" (defScope s_best) s.heap.objs.size f cdv)) → (spBest81 K) vs H Q E →
      ∃ t, PSs (cxOf CX0 P w K mg base ["told", "many", "none", "closed", "held", "at", "place", "size", "gap", "fresh", "number", "one", "other", "found"] "_law_best" (defScope s_best) f cdv A outer s H E) (defBody s_best) t ∧ t { nx := fun _ H' => Q .non H', rt := Q } (start ["told", "many", "none", "closed", "held", "at", "place", "size", "gap", "fresh", "number", "one", "other", "found"] vs) H := by
    intro cdv A outer s H vs Q E hr h
    refine ⟨t_best81 K, PSs.nox ?_, pure_best81 vs H Q E h⟩
    exact pss_cons (ps_set (i := 1) sc_best.nd rfl (Or.inl rfl) (pe_callB call_len_seq (by rfl) T.n_len PySem.boot_len (pa_cons (pv 0) (pa_nil))))
      (pss_cons (ps_par (by rfl) sc_best.nd rfl rfl (by decide) rfl rfl (pa_cons (pe_un un_neg (pe_op op_pow (pe_int) (pe_int))) (pa_cons (pe_lst (pa_cons (pe_int) (pa_nil))) (pa_nil))) (by rfl))
      (pss_cons (ps_set (i := 3) sc_best.nd rfl (Or.inl rfl) (pe_op op_cat (pv 3) (pe_op op_rep (pe_lst (pa_cons (pv 2) (pa_nil))) (pv 1))))
      (pss_cons (ps_set (i := 4) sc_best.nd rfl (Or.inl rfl) (pe_op op_rep (pe_lst (pa_cons (pv 2) (pa_nil))) (pe_op op_add (pv 1) (pe_int))))
      (pss_cons (ps_for PassesOwn.never rfl (pi_enum (by rfl) T.n_enumerate (pa_cons (pv 0) (pa_nil))) (pg_tup rfl (pgs_cons (pg_name (i := 5) sc_best.nd rfl (Or.inl rfl)) (pgs_cons (pg_tup rfl (pgs_cons (pg_name (i := 6) sc_best.nd rfl (Or.inl rfl)) (pgs_cons (pg_name (i := 7) sc_best.nd rfl (Or.inl rfl)) (pgs_nil)))) (pgs_nil))))
      (pss_cons (ps_set (i := 8) sc_best.nd rfl (Or.inl rfl) (pe_ifExp (pt_cmpR op_gt (pv 5) (pe_int) (nomark _)) (pe_op op_sub (pe_op op_sub (pv 6) (pe_ix ix_tup (pe_ix ix_list (pv 0) (pe_op op_sub (pv 5) (pe_int)) (fun _ _ => rfl)) (pe_int) (fun _ _ => rfl))) (pe_ix ix_tup (pe_ix ix_list (pv 0) (pe_op op_sub (pv 5) (pe_int)) (fun _ _ => rfl)) (pe_int) (fun _ _ => rfl))) (pe_int)))
      (pss_cons (ps_set (i := 9) sc_best.nd rfl (Or.inl rfl) (pe_lst (pa_cons (pv 2) (pa_nil))))
      (pss_cons (ps_for PassesOwn.never rfl (pi_range2 rfl T.n_range (pa_cons (pe_int) (pa_cons (pe_op op_add (pv 1) (pe_int)) (pa_nil)))) (pg_name (i := 10) sc_best.nd rfl (Or.inl rfl))
      (pss_one (ps_expr (pe_bm PySem.F.plainAttrs_list PySem.F.slot_list_append PySem.F.type_list_append mt_append (pv 9) (pa_cons (pe_op op_add (pv 7) (pe_callB (call_max3Nu rfl) (by rfl) T.n_max (by decide +kernel) (pa_cons (pe_op op_sub (pe_ix ix_list (pv 4) (pv 10) (fun _ _ => rfl)) (pv 8)) (pa_cons (pe_ix ix_list (pv 3) (pe_op op_sub (pv 10) (pe_int)) (fun _ _ => rfl)) (pa_cons (pe_ix ix_list (pv 4) (pe_op op_sub (pv 10) (pe_int)) (fun _ _ => rfl)) (pa_nil)))))) (pa_nil))))))
      (pss_cons (ps_setLc (i := 3) (own := [("one", 11), ("other", 12)]) (g := gTup K 2 (gCons (gName 11) (gCons (gName 12) (gNil)))) (tt := tYes) rfl sc_best.nd rfl rfl (sw_true rfl rfl rfl (by decide +kernel)) (pi_zip (by rfl) T.n_zip (pa_cons (pv 3) (pa_cons (pv 4) (pa_nil)))) (blkOk_by (own := [("one", 11), ("other", 12)]) (N := ["told", "many", "none", "closed", "held", "at", "place", "size", "gap", "fresh", "number", "one", "other", "found"]) (sc := defScope s_best) (by decide +kernel)) (fun _ _ _ _ _ => pg_tup rfl (pgs_cons (pg_name (i := 11) sc_best.nd rfl (Or.inl rfl)) (pgs_cons (pg_name (i := 12) sc_best.nd rfl (Or.inl rfl)) (pgs_nil)))) (fun _ _ _ _ _ => pts_nil) (fun _ _ _ _ _ => pe_callB (call_max2 rfl) (by rfl) T.n_max (by decide +kernel) (pa_cons (pv 11) (pa_cons (pv 12) (pa_nil)))))
      (pss_one (ps_set (i := 4) sc_best.nd rfl (Or.inl rfl) (pv 9))))))))
      (pss_cons (ps_set (i := 13) sc_best.nd rfl (Or.inr rfl) (pe_lc (own := [("one", 11), ("other", 12)]) (g := gTup K 2 (gCons (gName 11) (gCons (gName 12) (gNil)))) (tt := tYes) rfl sc_best.nd (pi_zip (by rfl) T.n_zip (pa_cons (pv 3) (pa_cons (pv 4) (pa_nil)))) (blkOk_by (own := [("one", 11), ("other", 12)]) (N := ["told", "many", "none", "closed", "held", "at", "place", "size", "gap", "fresh", "number", "one", "other", "found"]) (sc := defScope s_best) (by decide +kernel)) (fun _ _ _ _ _ => pg_tup rfl (pgs_cons (pg_name (i := 11) sc_best.nd rfl (Or.inl rfl)) (pgs_cons (pg_name (i := 12) sc_best.nd rfl (Or.inl rfl)) (pgs_nil)))) (fun _ _ _ _ _ => pts_nil) (fun _ _ _ _ _ => pe_callB (call_max2 rfl) (by rfl) T.n_max (by decide +kernel) (pa_cons (pv 11) (pa_cons (pv 12) (pa_nil))))))
      (pss_one (ps_ret (pe_lc (own := [("number", 10)]) (g := gName 10) (tt := tYes) rfl sc_best.nd (pi_range1 rfl T.n_range (pa_cons (pe_op op_add (pv 1) (pe_int)) (pa_nil))) (blkOk_by (own := [("number", 10)]) (N := ["told", "many", "none", "closed", "held", "at", "place", "size", "gap", "fresh", "number", "one", "other", "found"]) (sc := defScope s_best) (by decide +kernel)) (fun _ _ _ _ _ => pg_name (i := 10) sc_best.nd rfl (Or.inl rfl)) (fun _ _ _ _ _ => pts_nil) (fun _ _ _ _ _ => pe_callB (cr_max rfl) (by rfl) T.n_max (by decide +kernel) (pa_cons (pe_slice sl_list (pv 13) (po_none) (po_some (pe_op op_add (pv 10) (pe_int)))) (pa_nil)))))))))))
  exact F.ok sc_best (fun vs H Q E h => by
    repeat (first | (obtain ⟨rfl, _⟩ := h; rfl) | obtain ⟨_, h⟩ := h)) D
theorem dfn_sizes_by (T : Tx K mg c_Row c_BadNumber c_BadCapacity c_BadIndex c_BadRow c_BadTrains c_BadCounts) {f : Addr} {fd : FuncData} (F : FunD K "_law_sizes_by" "_law_sizes_by" (defArgs s_sizes_by) (defBody s_sizes_by) (defScope s_sizes_by) [] [] f fd) :
    FnOk P w K mg base CX0 1 f fd ["surplus"] (spSizesBy81 K) := by
  have D : ∀ (cdv : Value) (A : Around) (outer : List Env) (s : Shared) (H : Hp) (vs : List V) (Q : VK) (E : XK), Room 0 (A.deeper (envOfC "_law_sizes_by" (defScope s_sizes_by) s.heap.objs.size f cdv)) → (spSizesBy81 K) vs H Q E →
      ∃ t, PSs (cxOf CX0 P w K mg base ["surplus", "at"] "_law_sizes_by" (defScope s_sizes_by) f cdv A outer s H E) (defBody s_sizes_by) t ∧ t { nx := fun _ H' => Q .non H', rt := Q } (start ["surplus", "at"] vs) H := by
    intro cdv A outer s H vs Q E hr h
    refine ⟨t_sizesby81 K, PSs.nox ?_, pure_sizesby81 vs H Q E h⟩
    exact pss_one (ps_ret (pe_lc (own := [("at", 1)]) (g := gName 1) (tt := tYes) rfl sc_sizes_by.nd (pi_range1 rfl T.n_range (pa_cons (pe_op op_sub (pe_callB call_len_seq (by rfl) T.n_len PySem.boot_len (pa_cons (pv 0) (pa_nil))) (pe_int)) (pa_nil))) (blkOk_by (own := [("at", 1)]) (N := ["surplus", "at"]) (sc := defScope s_sizes_by) (by decide +kernel)) (fun _ _ _ _ _ => pg_name (i := 1) sc_sizes_by.nd rfl (Or.inl rfl)) (fun _ _ _ _ _ => pts_nil) (fun _ _ _ _ _ => pe_op op_sub (pe_ix ix_list (pv 0) (pe_op op_add (pv 1) (pe_int)) (fun _ _ => rfl)) (pe_ix ix_list (pv 0) (pv 1) (fun _ _ => rfl)))))
  exact F.ok sc_sizes_by (fun vs H Q E h => by
    repeat (first | (obtain ⟨rfl, _⟩ := h; rfl) | obtain ⟨_, h⟩ := h)) D
theorem dfn_told_right (T : Tx K mg c_Row c_BadNumber c_BadCapacity c_BadIndex c_BadRow c_BadTrains c_BadCounts) (C_runs : Kn P w K mg base (L2.CX P w) 4 "runs" ["row"] (spRuns K c_Row c_BadRow)) (C_plain_form : Kn P w K mg base CX0 12 "plain_form" ["row"] (spPlainForm K c_Row)) (C_best : Kn P w K mg base CX0 1 "_law_best" ["told"] (spBest81 K)) (C_sizes_by : Kn P w K mg base CX0 1 "_law_sizes_by" ["surplus"] (spSizesBy81 K)) (C_lengths : Kn P w K mg base CX0 14 "lengths" ["row"] (spLengths K c_Row)) (C_picked : Kn P w K mg base (L2.CX P w) 8 "picked" ["row", "capacity"] (spPicked K c_Row c_BadCapacity)) (C_trains : Kn P w K mg base CX0 13 "trains" ["row"] (spTrains K c_Row)) {f : Addr} {fd : FuncData} (F : FunD K "_law_told_right" "_law_told_right" (defArgs s_told_right) (defBody s_told_right) (defScope s_told_right) [] [] f fd) :
    FnOk P w K mg base CX0 20 f fd ["made", "due"] (spTold81 K c_Row) := by
  have D : ∀ (cdv : Value) (A : Around) (outer : List Env) (s : Shared) (H : Hp) (vs : List V) (Q : VK) (E : XK), Room 19 (A.deeper (envOfC "_law_told_right" (defScope s_told_right) s.heap.objs.size f cdv)) → (spTold81 K c_Row) vs H Q E →
      ∃ t, PSs (cxOf CX0 P w K mg base ["made", "due", "told", "most", "size", "offset"] "_law_told_right" (defScope s_told_right) f cdv A outer s H E) (defBody s_told_right) t ∧ t { nx := fun _ H' => Q .non H', rt := Q } (start ["made", "due", "told", "most", "size", "offset"] vs) H := by
    intro cdv A outer s H vs Q E hr h
    refine ⟨t_told81 K c_BadCapacity c_BadRow c_Row, PSs.nox ?_, pure_told81 vs H Q E h⟩
    exact pss_cons (ps_set (i := 2) sc_told_right.nd rfl (Or.inl rfl) (pe_k C_runs hr (by decide) rfl passL (pa_cons (pe_k C_plain_form hr (by decide) rfl pass0 (pa_cons (pv 0) (pa_nil))) (pa_nil))))
      (pss_cons (ps_if (PW.pt (pw_or (pt_cmpR op_ne (pe_callB call_len_seq (by rfl) T.n_len PySem.boot_len (pa_cons (pv 2) (pa_nil))) (pe_callB call_len_seq (by rfl) T.n_len PySem.boot_len (pa_cons (pv 1) (pa_nil))) (nomark _)) (pw_or (pt_cmpR (op_neD hr.units) (pe_k C_sizes_by hr (by decide) rfl pass0 (pa_cons (pe_k C_best hr (by decide) rfl pass0 (pa_cons (pv 2) (pa_nil))) (pa_nil))) (pv 1) (nomark _)) (pw_or1 (pt_cmpR (op_neD hr.units) (pe_k C_lengths hr (by decide) rfl pass0 (pa_cons (pv 0) (pa_nil))) (pv 1) (nomark _))))))
      (pss_one (ps_ret (pe_bl)))
      (pss_nil))
      (pss_cons (ps_for PassesOwn.never rfl (pi_list (pe_lst (pa_cons (pe_int) (pa_cons (pe_int) (pa_cons (pe_int) (pa_cons (pe_int) (pa_cons (pe_int) (pa_cons (pe_int) (pa_nil))))))))) (pg_name (i := 3) sc_told_right.nd rfl (Or.inr rfl))
      (pss_one (ps_if (pt_cmpR op_ne (pe_k C_picked hr (by decide) rfl passL (pa_cons (pv 0) (pa_cons (pv 3) (pa_nil)))) (pe_callB (cr_sum rfl) (by rfl) T.n_sum (by decide +kernel) (pa_cons (pe_lc (own := [("size", 4)]) (g := gName 4) (tt := tYes) rfl sc_told_right.nd (pi_list (pv 1)) (blkOk_by (own := [("size", 4)]) (N := ["made", "due", "told", "most", "size", "offset"]) (sc := defScope s_told_right) (by decide +kernel)) (fun _ _ _ _ _ => pg_name (i := 4) sc_told_right.nd rfl (Or.inl rfl)) (fun _ _ _ _ _ => pts_nil) (fun _ _ _ _ _ => pe_callB (call_min2 rfl) (by rfl) T.n_min (by decide +kernel) (pa_cons (pv 3) (pa_cons (pv 4) (pa_nil))))) (pa_nil))) (nomark _))
      (pss_one (ps_ret (pe_bl)))
      (pss_nil))))
      (pss_one (ps_ret (pe_cmpR (op_eqD hr.units) (pe_callB cr_sortedI (by rfl) T.n_sorted (by decide +kernel) (pa_cons (pe_lc (own := [("size", 4), ("offset", 5)]) (g := gTup K 2 (gCons (gName 4) (gCons (gName 5) (gNil)))) (tt := tYes) rfl sc_told_right.nd (pi_list (pe_k C_trains hr (by decide) rfl pass0 (pa_cons (pv 0) (pa_nil)))) (blkOk_by (own := [("size", 4), ("offset", 5)]) (N := ["made", "due", "told", "most", "size", "offset"]) (sc := defScope s_told_right) (by decide +kernel)) (fun _ _ _ _ _ => pg_tup rfl (pgs_cons (pg_name (i := 4) sc_told_right.nd rfl (Or.inl rfl)) (pgs_cons (pg_name (i := 5) sc_told_right.nd rfl (Or.inl rfl)) (pgs_nil)))) (fun _ _ _ _ _ => pts_nil) (fun _ _ _ _ _ => pv 4)) (pa_nil))) (pe_revL (pv 1)) (nomark _))))))
  exact F.ok sc_told_right (fun vs H Q E h => by
    repeat (first | (obtain ⟨rfl, _⟩ := h; rfl) | obtain ⟨_, h⟩ := h)) D
theorem dfn_law (T : Tx K mg c_Row c_BadNumber c_BadCapacity c_BadIndex c_BadRow c_BadTrains c_BadCounts) (C_begun : Kn P w K mg base CX0 1 "_law_begun" ["script"] (spBegun K)) (C_pick : Kn P w K mg base CX0 3 "_law_pick" ["state", "some"] (spPick K)) (C_take : Kn P w K mg base CX0 2 "_law_take" ["state", "size"] spTake) (C_sizes : Kn P w K mg base CX0 4 "_law_sizes" ["state", "most"] (spSizes K)) (C_boxes : Kn P w K mg base CX0 4 "_law_boxes" ["state", "sizes", "most"] (spBoxes K)) (C_made : Kn P w K mg base CX0 7 "_law_made" ["boxes", "sizes"] (spMade K c_Row)) (C_best : Kn P w K mg base CX0 1 "_law_best" ["told"] (spBest81 K)) (C_sizes_by : Kn P w K mg base CX0 1 "_law_sizes_by" ["surplus"] (spSizesBy81 K)) (C_told_right : Kn P w K mg base CX0 20 "_law_told_right" ["made", "due"] (spTold81 K c_Row)) (C_runs : Kn P w K mg base (L2.CX P w) 4 "runs" ["row"] (spRuns K c_Row c_BadRow)) (C_plain_form : Kn P w K mg base CX0 12 "plain_form" ["row"] (spPlainForm K c_Row)) (C_sweep : Kn P w K mg base (L2.CX P w) 8 "sweep" ["row", "capacity"] (spSweep K c_Row c_BadCapacity)) (C_unsweep : Kn P w K mg base (L2.CX P w) 9 "unsweep" ["row", "capacity"] (spUnsweep K c_Row c_BadCapacity)) (C_advance : Kn P w K mg base (L2.CX P w) 14 "advance" ["row", "counts"] (spAdvance K c_Row)) (C_given_up : Kn P w K mg base (L2.CX P w) 16 "given_up" ["row", "capacity", "index"] (spGivenUp K c_Row c_BadCapacity)) (C_total : C8.Met P w K mg base 1 c_Row "total" (spTotal K c_Row) []) {f : Addr} {fd : FuncData} (F : FunD K "law" "law" (defArgs s_law) (defBody s_law) (defScope s_law) [] [] f fd) :
    FnG P w K mg base CX0 32 f fd ["script"] (spLaw K) := by
  have D : ∀ (cdv : Value) (A : Around) (outer : List Env) (s : Shared) (H : Hp) (vs : List V) (Q : VK) (E : XK), Gs A → Room 31 (A.deeper (envOfC "law" (defScope s_law) s.heap.objs.size f cdv)) → (spLaw K) vs H Q E →
      ∃ t, PSs (cxOf CX0 P w K mg base ["script", "state", "turn", "sizes", "made", "due", "step", "most", "sums"] "law" (defScope s_law) f cdv A outer s H E) (defBody s_law) t ∧ t { nx := fun _ H' => Q .non H', rt := Q } (start ["script", "state", "turn", "sizes", "made", "due", "step", "most", "sums"] vs) H := by
    intro cdv A outer s H vs Q E hgs hr h
    refine ⟨t_law81 K c_BadCapacity c_BadRow c_Row, PSs.nox ?_, pure_law81 vs H Q E h⟩
    exact pss_cons (ps_set (i := 1) sc_law.nd rfl (Or.inl rfl) (pe_k C_begun hr (by decide) rfl pass0 (pa_cons (pv 0) (pa_nil))))
      (pss_cons (ps_for PassesOwn.never rfl (pi_range1 rfl T.n_range (pa_cons (pe_op op_add (pe_int) (pe_callB (call_min2 rfl) (by rfl) T.n_min (by decide +kernel) (pa_cons (pe_callB call_len_seq (by rfl) T.n_len PySem.boot_len (pa_cons (pv 0) (pa_nil))) (pa_cons (pe_int) (pa_nil))))) (pa_nil))) (pg_name (i := 2) sc_law.nd rfl (Or.inl rfl))
      (pss_cons (ps_set (i := 3) sc_law.nd rfl (Or.inl rfl) (pe_k C_sizes hr (by decide) rfl pass0 (pa_cons (pv 1) (pa_cons (pe_k C_pick hr (by decide) rfl pass0 (pa_cons (pv 1) (pa_cons (pe_lst (pa_cons (pe_int) (pa_cons (pe_int) (pa_cons (pe_int) (pa_cons (pe_int) (pa_nil)))))) (pa_nil)))) (pa_nil)))))
      (pss_cons (ps_set (i := 4) sc_law.nd rfl (Or.inl rfl) (pe_k C_made hr (by decide) rfl pass0 (pa_cons (pe_k C_boxes hr (by decide) rfl pass0 (pa_cons (pv 1) (pa_cons (pv 3) (pa_cons (pe_k C_pick hr (by decide) rfl pass0 (pa_cons (pv 1) (pa_cons (pe_lst (pa_cons (pe_int) (pa_cons (pe_int) (pa_cons (pe_int) (pa_nil))))) (pa_nil)))) (pa_nil))))) (pa_cons (pv 3) (pa_nil)))))
      (pss_cons (ps_set (i := 5) sc_law.nd rfl (Or.inl rfl) (pe_k C_sizes_by hr (by decide) rfl pass0 (pa_cons (pe_k C_best hr (by decide) rfl pass0 (pa_cons (pe_k C_runs hr (by decide) rfl passL (pa_cons (pe_k C_plain_form hr (by decide) rfl pass0 (pa_cons (pv 4) (pa_nil))) (pa_nil))) (pa_nil))) (pa_nil))))
      (pss_cons (ps_if (PW.pt (pw_or (pt_cmpR (op_neD hr.units) (pv 5) (pe_revL (pe_callB cr_sortedI (by rfl) T.n_sorted (by decide +kernel) (pa_cons (pv 5) (pa_nil)))) (nomark _)) (pw_or (pt_cmpR op_ne (pe_callB (cr_sum rfl) (by rfl) T.n_sum (by decide +kernel) (pa_cons (pv 5) (pa_nil))) (C8.pe_mt0 C_total hr (by decide) (pv 4)) (nomark _)) (pw_or1 (pt_not (pt_val (pe_k C_told_right hr (by decide) rfl pass0 (pa_cons (pv 4) (pa_cons (pv 5) (pa_nil))))))))))
      (pss_one (ps_ret (pe_bl)))
      (pss_nil))
      (pss_cons (ps_for PassesOwn.never rfl (pi_range1 rfl T.n_range (pa_cons (pe_int) (pa_nil))) (pg_name (i := 6) sc_law.nd rfl (Or.inl rfl))
      (pss_cons (ps_set (i := 7) sc_law.nd rfl (Or.inl rfl) (pe_k C_pick hr (by decide) rfl pass0 (pa_cons (pv 1) (pa_cons (pe_lst (pa_cons (pe_int) (pa_cons (pe_int) (pa_cons (pe_int) (pa_cons (pe_int) (pa_cons (pe_int) (pa_cons (pe_int) (pa_nil)))))))) (pa_nil)))))
      (pss_cons (ps_set (i := 4) sc_law.nd rfl (Or.inl rfl) (pe_k C_pick hr (by decide) rfl pass0 (pa_cons (pv 1) (pa_cons (pe_lst (pa_cons (pe_k C_sweep hr (by decide) rfl passL (pa_cons (pv 4) (pa_cons (pv 7) (pa_nil)))) (pa_cons (pe_k C_unsweep hr (by decide) rfl passL (pa_cons (pv 4) (pa_cons (pv 7) (pa_nil)))) (pa_nil)))) (pa_nil)))))
      (pss_one (ps_if (pt_not (pt_val (pe_k C_told_right hr (by decide) rfl pass0 (pa_cons (pv 4) (pa_cons (pv 5) (pa_nil))))))
      (pss_one (ps_ret (pe_bl)))
      (pss_nil))))))
      (pss_cons (ps_set (i := 8) sc_law.nd rfl (Or.inl rfl) (pe_disp (pps_cons (pe_int) (pe_op op_sub (pe_k C_take hr (by decide) rfl pass0 (pa_cons (pv 1) (pa_cons (pe_int) (pa_nil)))) (pe_int)) (pps_cons (pe_int) (pe_k C_pick hr (by decide) rfl pass0 (pa_cons (pv 1) (pa_cons (pe_lst (pa_cons (pe_int) (pa_cons (pe_int) (pa_cons (pe_op op_pow (pe_int) (pe_int)) (pa_nil))))) (pa_nil)))) (pps_cons (pe_int) (pe_op op_sub (pe_k C_take hr (by decide) rfl pass0 (pa_cons (pv 1) (pa_cons (pe_int) (pa_nil)))) (pe_int)) (pps_nil)))) (by rfl) (by rfl) (fun z => by cases z) (by decide)))
      (pss_one (ps_if (PW.pt (pw_or (pt_not (pt_val (pe_k C_told_right hr (by decide) rfl pass0 (pa_cons (pe_k C_advance hr (by decide) rfl passL (pa_cons (pv 4) (pa_cons (pv 8) (pa_nil)))) (pa_cons (pv 5) (pa_nil)))))) (pw_or1 (pt_cmpR op_ne (pe_k C_given_up hr (by decide) rfl passL (pa_cons (pv 4) (pa_cons (pe_int) (pa_cons (pe_int) (pa_nil))))) (pe_callB call_len_seq (by rfl) T.n_len PySem.boot_len (pa_cons (pv 5) (pa_nil))) (nomark _)))))
      (pss_one (ps_ret (pe_bl)))
      (pss_nil))))))))))
      (pss_one (ps_ret (pe_bl))))
  exact okG F sc_law (fun vs H Q E h => by
    repeat (first | (obtain ⟨rfl, _⟩ := h; rfl) | obtain ⟨_, h⟩ := h)) D
end
theorem facts {P : Program} {w : World} {K : PySem.W.Frag} {h : Heap} {mg : Str → Option Value} {f : Addr} (X : K.In h) (G : h.Ns mainGlobals mg) (hfa : mg ("law" : Str) = some (.ref f)) (c : SaysS fas fns propDs supDs more w K) (hPf : P.main.file = "/claim/cut.py") (hPt : (P.main.scope.names.lookup ("super" : Str)).isSome = false) :
    ∃ fd : FuncData, (∀ (s : Shared) (v : Value), BindsTo s fd ⟨[v], []⟩ [("script", v)]) ∧ ∀ base : Heap, K.In base → base.Ns mainGlobals mg → FnG P w K mg base CX0 32 f fd ["script"] (spLaw K) := by
  have c1 := c.t.d
  have cm := c.more
  unfold more at cm
  simp only [Bool.and_eq_true] at cm
  obtain ⟨⟨m_Z_Row, m_hE⟩, m_hE0⟩ := cm
  have Z_Row := rowKB_ok m_Z_Row
  have hE := emptyB_ok m_hE
  have hE0 := emptyB_ok m_hE0
  obtain ⟨x_BadNumber, k_BadNumber, s_BadNumber, t_BadNumber⟩ := He.exc_ok (c1.fact 80 (f := .exc "BadNumber") rfl)
  obtain ⟨x_BadCapacity, k_BadCapacity, s_BadCapacity, t_BadCapacity⟩ := He.exc_ok (c1.fact 81 (f := .exc "BadCapacity") rfl)
  obtain ⟨x_BadIndex, k_BadIndex, s_BadIndex, t_BadIndex⟩ := He.exc_ok (c1.fact 82 (f := .exc "BadIndex") rfl)
  obtain ⟨x_BadTrains, k_BadTrains, s_BadTrains, t_BadTrains⟩ := He.exc_ok (c1.fact 83 (f := .exc "BadTrains") rfl)
  obtain ⟨x_BadCounts, k_BadCounts, s_BadCounts, t_BadCounts⟩ := He.exc_ok (c1.fact 84 (f := .exc "BadCounts") rfl)
  have T : Tx K mg (He.ga K "Row") (He.ga K "BadNumber") (He.ga K "BadCapacity") (He.ga K "BadIndex") (He.ga K "BadRow") (He.ga K "BadTrains") (He.ga K "BadCounts") := ⟨He.free_ok X G (c1.fact 55 (f := .free "isinstance") rfl),
    He.free_ok X G (c1.fact 56 (f := .free "int") rfl),
    He.free_ok X G (c1.fact 57 (f := .free "bool") rfl),
    He.free_ok X G (c1.fact 58 (f := .free "list") rfl),
    He.free_ok X G (c1.fact 59 (f := .free "tuple") rfl),
    He.free_ok X G (c1.fact 60 (f := .free "all") rfl),
    He.free_ok X G (c1.fact 61 (f := .free "len") rfl),
    He.free_ok X G (c1.fact 62 (f := .free "dict") rfl),
    He.free_ok X G (c1.fact 63 (f := .free "sum") rfl),
    He.free_ok X G (c1.fact 64 (f := .free "sorted") rfl),
    He.free_ok X G (c1.fact 65 (f := .free "range") rfl),
    He.free_ok X G (c1.fact 66 (f := .free "min") rfl),
    He.free_ok X G (c1.fact 67 (f := .free "max") rfl),
    He.free_ok X G (c1.fact 68 (f := .free "repr") rfl),
    He.free_ok X G (c1.fact 69 (f := .free "super") rfl),
    He.free_ok X G (c1.fact 70 (f := .free "enumerate") rfl),
    He.free_ok X G (c1.fact 71 (f := .free "zip") rfl),
    He.free_ok X G (c1.fact 72 (f := .free "abs") rfl),
    (let ⟨t, e⟩ := He.int_ok X G (c1.fact 73 (f := .int "GREATEST_CAPACITY" (99)) rfl); ⟨_, e, ⟨t, rfl⟩⟩),
    (let ⟨t, e⟩ := He.int_ok X G (c1.fact 74 (f := .int "FIRST_WIDE_INDEX" (-60)) rfl); ⟨_, e, ⟨t, rfl⟩⟩),
    (let ⟨t, e⟩ := He.int_ok X G (c1.fact 75 (f := .int "LAST_WIDE_INDEX" (60)) rfl); ⟨_, e, ⟨t, rfl⟩⟩),
    (let ⟨t, e⟩ := He.int_ok X G (c1.fact 76 (f := .int "LEAST_WIDE_CAPACITY" (2)) rfl); ⟨_, e, ⟨t, rfl⟩⟩),
    (let ⟨t, e⟩ := He.int_ok X G (c1.fact 77 (f := .int "GREATEST_WIDE_CAPACITY" (9)) rfl); ⟨_, e, ⟨t, rfl⟩⟩),
    (let ⟨t, e⟩ := He.int_ok X G (c1.fact 78 (f := .int "MOST_WIDE_BOXES" (6)) rfl); ⟨_, e, ⟨t, rfl⟩⟩),
    (let ⟨t, e⟩ := He.int_ok X G (c1.fact 79 (f := .int "MOST_ITEMS" (40)) rfl); ⟨_, e, ⟨t, rfl⟩⟩),
    He.glo_ok X G (c1.fact 48 (f := .glo "Row") rfl),
    He.glo_ok X G (c1.fact 49 (f := .glo "BadNumber") rfl),
    He.glo_ok X G (c1.fact 50 (f := .glo "BadCapacity") rfl),
    He.glo_ok X G (c1.fact 51 (f := .glo "BadIndex") rfl),
    He.glo_ok X G (c1.fact 52 (f := .glo "BadRow") rfl),
    He.glo_ok X G (c1.fact 53 (f := .glo "BadTrains") rfl),
    He.glo_ok X G (c1.fact 54 (f := .glo "BadCounts") rfl),
    x_BadNumber,
    k_BadNumber,
    s_BadNumber,
    t_BadNumber,
    x_BadCapacity,
    k_BadCapacity,
    s_BadCapacity,
    t_BadCapacity,
    x_BadIndex,
    k_BadIndex,
    s_BadIndex,
    t_BadIndex,
    x_BadTrains,
    k_BadTrains,
    s_BadTrains,
    t_BadTrains,
    x_BadCounts,
    k_BadCounts,
    s_BadCounts,
    t_BadCounts⟩
  have L_Row := He.cls_ok (c1.fact 85 (f := .cls "Row") rfl)
  have R_Row : RowC K (He.ga K "Row") := ⟨L_Row, He.noat_ok (c1.fact 86 (f := .noat "Row" "_contents") rfl), He.noat_ok (c1.fact 87 (f := .noat "Row" "_capacities") rfl), He.noat_ok (c1.fact 88 (f := .noat "Row" "_count_at") rfl), He.noat_ok (c1.fact 89 (f := .noat "Row" "_capacity_at") rfl)⟩
  obtain ⟨fd_is_integer, F_is_integer⟩ := c1.def_ 0 (d := d_is_integer) rfl
  obtain ⟨fd_is_between, F_is_between⟩ := c1.def_ 1 (d := d_is_between) rfl
  obtain ⟨fd_is_pair, F_is_pair⟩ := c1.def_ 2 (d := d_is_pair) rfl
  obtain ⟨fd_are_pairs, F_are_pairs⟩ := c1.def_ 3 (d := d_are_pairs) rfl
  obtain ⟨fd_is_wide_box, F_is_wide_box⟩ := c1.def_ 4 (d := d_is_wide_box) rfl
  obtain ⟨fd_are_capacities, F_are_capacities⟩ := c1.def_ 5 (d := d_are_capacities) rfl
  obtain ⟨fd_are_contents, F_are_contents⟩ := c1.def_ 6 (d := d_are_contents) rfl
  obtain ⟨fd_is_row_like, F_is_row_like⟩ := c1.def_ 7 (d := d_is_row_like) rfl
  obtain ⟨fd_Row_init, F_Row_init⟩ := c1.def_ 8 (d := d_Row_init) rfl
  obtain ⟨fd_Row_held, F_Row_held⟩ := c1.def_ 9 (d := d_Row_held) rfl
  obtain ⟨fd_Row_capacity, F_Row_capacity⟩ := c1.def_ 10 (d := d_Row_capacity) rfl
  obtain ⟨fd_Row_total, F_Row_total⟩ := c1.def_ 11 (d := d_Row_total) rfl
  obtain ⟨fd_Row_is_plain, F_Row_is_plain⟩ := c1.def_ 12 (d := d_Row_is_plain) rfl
  obtain ⟨fd_is_plain_row, F_is_plain_row⟩ := c1.def_ 13 (d := d_is_plain_row) rfl
  obtain ⟨fd_is_capacity, F_is_capacity⟩ := c1.def_ 14 (d := d_is_capacity) rfl
  obtain ⟨fd_handled, F_handled⟩ := c1.def_ 15 (d := d_handled) rfl
  obtain ⟨fd_passed, F_passed⟩ := c1.def_ 16 (d := d_passed) rfl
  obtain ⟨fd_steps_from, F_steps_from⟩ := c1.def_ 17 (d := d_steps_from) rfl
  obtain ⟨fd_trace, F_trace⟩ := c1.def_ 18 (d := d_trace) rfl
  obtain ⟨fd_left_by, F_left_by⟩ := c1.def_ 19 (d := d_left_by) rfl
  obtain ⟨fd_sweep, F_sweep⟩ := c1.def_ 20 (d := d_sweep) rfl
  obtain ⟨fd_mirrored, F_mirrored⟩ := c1.def_ 21 (d := d_mirrored) rfl
  obtain ⟨fd_unsweep, F_unsweep⟩ := c1.def_ 22 (d := d_unsweep) rfl
  obtain ⟨fd_picked, F_picked⟩ := c1.def_ 23 (d := d_picked) rfl
  obtain ⟨fd_without_box, F_without_box⟩ := c1.def_ 24 (d := d_without_box) rfl
  obtain ⟨fd_plain_form, F_plain_form⟩ := c1.def_ 25 (d := d_plain_form) rfl
  obtain ⟨fd_with_box, F_with_box⟩ := c1.def_ 26 (d := d_with_box) rfl
  obtain ⟨fd_with_capacities, F_with_capacities⟩ := c1.def_ 27 (d := d_with_capacities) rfl
  obtain ⟨fd_runs_in, F_runs_in⟩ := c1.def_ 28 (d := d_runs_in) rfl
  obtain ⟨fd_runs, F_runs⟩ := c1.def_ 29 (d := d_runs) rfl
  obtain ⟨fd_cut, F_cut⟩ := c1.def_ 30 (d := d_cut) rfl
  obtain ⟨fd_behind_runs, F_behind_runs⟩ := c1.def_ 31 (d := d_behind_runs) rfl
  obtain ⟨fd_trains, F_trains⟩ := c1.def_ 32 (d := d_trains) rfl
  obtain ⟨fd_lengths, F_lengths⟩ := c1.def_ 33 (d := d_lengths) rfl
  obtain ⟨fd_are_trains, F_are_trains⟩ := c1.def_ 34 (d := d_are_trains) rfl
  obtain ⟨fd_uncut, F_uncut⟩ := c1.def_ 35 (d := d_uncut) rfl
  obtain ⟨fd_row_of, F_row_of⟩ := c1.def_ 36 (d := d_row_of) rfl
  obtain ⟨fd_is_counts, F_is_counts⟩ := c1.def_ 37 (d := d_is_counts) rfl
  obtain ⟨fd_way, F_way⟩ := c1.def_ 38 (d := d_way) rfl
  obtain ⟨fd_moved, F_moved⟩ := c1.def_ 39 (d := d_moved) rfl
  obtain ⟨fd_advance, F_advance⟩ := c1.def_ 40 (d := d_advance) rfl
  obtain ⟨fd_given_up, F_given_up⟩ := c1.def_ 41 (d := d_given_up) rfl
  obtain ⟨fd_begun, F_begun⟩ := c1.def_ 42 (d := d_begun) rfl
  obtain ⟨fd_mixed, F_mixed⟩ := c1.def_ 43 (d := d_mixed) rfl
  obtain ⟨fd_take, F_take⟩ := c1.def_ 44 (d := d_take) rfl
  obtain ⟨fd_pick, F_pick⟩ := c1.def_ 45 (d := d_pick) rfl
  obtain ⟨fd_sizes, F_sizes⟩ := c1.def_ 46 (d := d_sizes) rfl
  obtain ⟨fd_boxes, F_boxes⟩ := c1.def_ 47 (d := d_boxes) rfl
  obtain ⟨fd_made, F_made⟩ := c1.def_ 48 (d := d_made) rfl
  obtain ⟨fd_best, F_best⟩ := c1.def_ 49 (d := d_best) rfl
  obtain ⟨fd_sizes_by, F_sizes_by⟩ := c1.def_ 50 (d := d_sizes_by) rfl
  obtain ⟨fd_told_right, F_told_right⟩ := c1.def_ 51 (d := d_told_right) rfl
  obtain ⟨fd_law, F_law⟩ := c1.def_ 52 (d := d_law) rfl
  obtain ⟨po_Row_contents, fd_Row_contents, F_Row_contents⟩ := c.p ⟨"Row", "contents", d_Row_contents⟩ (List.mem_of_getElem? (l := propDs) (i := 0) rfl)
  obtain ⟨po_Row_capacities, fd_Row_capacities, F_Row_capacities⟩ := c.p ⟨"Row", "capacities", d_Row_capacities⟩ (List.mem_of_getElem? (l := propDs) (i := 1) rfl)
  have e := hfa.symm.trans (He.glo_ok X G (c1.fact 47 (f := .glo "law") rfl))
  cases e
  have b := FunD.bindsA (ps := ["script"]) F_law fun _ _ _ _ _ _ us hl => match us, hl with | [_], _ => rfl
  refine ⟨fd_law, fun s v => b s [v] rfl, fun base _ _ => ?_⟩
  have O_BadRow := c.s e_BadRow (List.mem_of_getElem? (l := supDs) (i := 0) rfl)
  have B_BadRow : SupS (defScope s_BadRow_init) "field" := ⟨rfl, rfl, rfl, rfl, rfl, rfl, rfl, by decide +kernel, by decide +kernel, by decide⟩
  have M_BadRow : ErrM P w K mg base "BadRow" (He.ga K "BadRow") "field" "field" := err_of (p := e_BadRow) O_BadRow hPf hPt rfl (fun env => ⟨_, rfl⟩) B_BadRow T.n_super T.g_BadRow rfl rfl (fun _ _ _ _ _ _ _ us hl => match us, hl with | [_, _], _ => rfl)
  have G_is_integer := dfn_is_integer (P := P) (w := w) (base := base) T F_is_integer
  have C_is_integer : Kn P w K mg base CX0 1 "is_integer" ["value"] _ := ⟨_, _, G_is_integer, (He.glo_ok X G (c1.fact 0 (f := .glo "is_integer") rfl)), F_is_integer.kp, (FunD.bindsN F_is_integer fun _ _ _ _ _ _ us hl => match us, hl with | [_], _ => rfl)⟩
  have G_is_between := dfn_is_between (P := P) (w := w) (base := base) T C_is_integer F_is_between
  have C_is_between : Kn P w K mg base CX0 2 "is_between" ["value", "low", "high"] _ := ⟨_, _, G_is_between, (He.glo_ok X G (c1.fact 1 (f := .glo "is_between") rfl)), F_is_between.kp, (FunD.bindsN F_is_between fun _ _ _ _ _ _ us hl => match us, hl with | [_, _, _], _ => rfl)⟩
  have G_is_pair := dfn_is_pair (P := P) (w := w) (base := base) T C_is_integer F_is_pair
  have C_is_pair : Kn P w K mg base CX0 2 "is_pair" ["value"] _ := ⟨_, _, G_is_pair, (He.glo_ok X G (c1.fact 2 (f := .glo "is_pair") rfl)), F_is_pair.kp, (FunD.bindsN F_is_pair fun _ _ _ _ _ _ us hl => match us, hl with | [_], _ => rfl)⟩
  have G_are_pairs := dfn_are_pairs (P := P) (w := w) (base := base) T C_is_pair F_are_pairs
  have C_are_pairs : Kn P w K mg base CX0 3 "are_pairs" ["value"] _ := ⟨_, _, G_are_pairs, (He.glo_ok X G (c1.fact 3 (f := .glo "are_pairs") rfl)), F_are_pairs.kp, (FunD.bindsN F_are_pairs fun _ _ _ _ _ _ us hl => match us, hl with | [_], _ => rfl)⟩
  have G_is_wide_box := dfn_is_wide_box (P := P) (w := w) (base := base) T C_is_between F_is_wide_box
  have C_is_wide_box : Kn P w K mg base CX0 3 "_is_wide_box" ["index", "capacity"] _ := ⟨_, _, G_is_wide_box, (He.glo_ok X G (c1.fact 4 (f := .glo "_is_wide_box") rfl)), F_is_wide_box.kp, (FunD.bindsN F_is_wide_box fun _ _ _ _ _ _ us hl => match us, hl with | [_, _], _ => rfl)⟩
  have G_are_capacities := dfn_are_capacities (P := P) (w := w) (base := base) T C_are_pairs C_is_wide_box F_are_capacities
  have C_are_capacities : Kn P w K mg base CX0 4 "_are_capacities" ["value"] _ := ⟨_, _, G_are_capacities, (He.glo_ok X G (c1.fact 5 (f := .glo "_are_capacities") rfl)), F_are_capacities.kp, (FunD.bindsN F_are_capacities fun _ _ _ _ _ _ us hl => match us, hl with | [_], _ => rfl)⟩
  have G_are_contents := dfn_are_contents (P := P) (w := w) (base := base) T C_are_pairs F_are_contents
  have C_are_contents : Kn P w K mg base CX0 4 "_are_contents" ["value", "capacities"] _ := ⟨_, _, G_are_contents, (He.glo_ok X G (c1.fact 6 (f := .glo "_are_contents") rfl)), F_are_contents.kp, (FunD.bindsN F_are_contents fun _ _ _ _ _ _ us hl => match us, hl with | [_, _], _ => rfl)⟩
  have G_is_row_like := dfn_is_row_like (P := P) (w := w) (base := base) T C_are_capacities C_are_contents F_is_row_like
  have C_is_row_like : Kn P w K mg base CX0 6 "is_row_like" ["contents", "capacities"] _ := ⟨_, _, G_is_row_like, (He.glo_ok X G (c1.fact 7 (f := .glo "is_row_like") rfl)), F_is_row_like.kp, (FunD.bindsN F_is_row_like fun _ _ _ _ _ _ us hl => match us, hl with | [_, _], _ => rfl)⟩
  have G_Row_init := dfn_Row_init (P := P) (w := w) (base := base) T C_are_capacities C_are_contents R_Row F_Row_init
  obtain ⟨ds_Row, dv_Row, db_Row⟩ := FunD.binds1 (ps := ["self", "contents", "capacities"]) F_Row_init 3 2 (List.cons_ne_nil _ _) rfl fun _ _ _ _ _ _ _ us its h1 h2 => match us, its, h1, h2 with | [_, _, _], [_, _], _, _ => ⟨_, rfl, rfl⟩
  have C_Row : C8.Mak P w K mg base 5 "Row" (He.ga K "Row") _ [] := ⟨_, _, _, ds_Row, He.mkr_ok (c1.fact 90 (f := .mkr "Row") rfl), G_Row_init, He.glo_ok X G (c1.fact 48 (f := .glo "Row") rfl), db_Row, dv_Row⟩
  obtain ⟨ds_Row1, dv_Row1, db_Row1⟩ := FunD.binds1 (ps := ["self", "contents", "capacities"]) F_Row_init 2 1 (List.cons_ne_nil _ _) rfl fun _ _ _ _ _ _ _ us its h1 h2 => match us, its, h1, h2 with | [_, _], [_, _], _, _ => ⟨_, rfl, rfl⟩
  have C_Row1 : C8.Mak P w K mg base 5 "Row" (He.ga K "Row") _ [.ref (He.dflAt ("Row", some "__init__") 1 K)] := ⟨_, _, _, ds_Row1, He.mkr_ok (c1.fact 90 (f := .mkr "Row") rfl), G_Row_init, He.glo_ok X G (c1.fact 48 (f := .glo "Row") rfl), db_Row1, dv_Row1⟩
  obtain ⟨ds_Row0, dv_Row0, db_Row0⟩ := FunD.binds1 (ps := ["self", "contents", "capacities"]) F_Row_init 1 0 (List.cons_ne_nil _ _) rfl fun _ _ _ _ _ _ _ us its h1 h2 => match us, its, h1, h2 with | [_], [_, _], _, _ => ⟨_, rfl, rfl⟩
  have C_Row0 : C8.Mak P w K mg base 5 "Row" (He.ga K "Row") _ [.ref (He.dflAt ("Row", some "__init__") 0 K), .ref (He.dflAt ("Row", some "__init__") 1 K)] := ⟨_, _, _, ds_Row0, He.mkr_ok (c1.fact 90 (f := .mkr "Row") rfl), G_Row_init, He.glo_ok X G (c1.fact 48 (f := .glo "Row") rfl), db_Row0, dv_Row0⟩
  have G_Row_contents := dfn_Row_contents (P := P) (w := w) (base := base) T R_Row F_Row_contents
  have C_contents : Prp P w K mg base 1 (He.ga K "Row") "contents" _ := ⟨_, _, _, _, L_Row, po_Row_contents, G_Row_contents, (FunD.bindsN F_Row_contents fun _ _ _ _ _ _ us hl => match us, hl with | [_], _ => rfl)⟩
  have G_Row_capacities := dfn_Row_capacities (P := P) (w := w) (base := base) T R_Row F_Row_capacities
  have C_capacities : Prp P w K mg base 1 (He.ga K "Row") "capacities" _ := ⟨_, _, _, _, L_Row, po_Row_capacities, G_Row_capacities, (FunD.bindsN F_Row_capacities fun _ _ _ _ _ _ us hl => match us, hl with | [_], _ => rfl)⟩
  have G_Row_held := dfn_Row_held (P := P) (w := w) (base := base) T C_is_integer R_Row F_Row_held
  have C_held : C8.Met P w K mg base 2 (He.ga K "Row") "held" _ [] := ⟨_, _, _, [], L_Row, He.meth_ok (c1.fact 91 (f := .meth "Row" "held") rfl), G_Row_held, (FunD.bindsN F_Row_held fun _ _ _ _ _ _ us hl => match us, hl with | [_, _], _ => rfl), .nil⟩
  have G_Row_capacity := dfn_Row_capacity (P := P) (w := w) (base := base) T C_is_integer R_Row F_Row_capacity
  have C_capacity : C8.Met P w K mg base 2 (He.ga K "Row") "capacity" _ [] := ⟨_, _, _, [], L_Row, He.meth_ok (c1.fact 92 (f := .meth "Row" "capacity") rfl), G_Row_capacity, (FunD.bindsN F_Row_capacity fun _ _ _ _ _ _ us hl => match us, hl with | [_, _], _ => rfl), .nil⟩
  have G_Row_total := dfn_Row_total (P := P) (w := w) (base := base) T R_Row F_Row_total
  have C_total : C8.Met P w K mg base 1 (He.ga K "Row") "total" _ [] := ⟨_, _, _, [], L_Row, He.meth_ok (c1.fact 93 (f := .meth "Row" "total") rfl), G_Row_total, (FunD.bindsN F_Row_total fun _ _ _ _ _ _ us hl => match us, hl with | [_], _ => rfl), .nil⟩
  have G_Row_is_plain := dfn_Row_is_plain (P := P) (w := w) (base := base) T R_Row F_Row_is_plain
  have C_is_plain : C8.Met P w K mg base 1 (He.ga K "Row") "is_plain" _ [] := ⟨_, _, _, [], L_Row, He.meth_ok (c1.fact 94 (f := .meth "Row" "is_plain") rfl), G_Row_is_plain, (FunD.bindsN F_Row_is_plain fun _ _ _ _ _ _ us hl => match us, hl with | [_], _ => rfl), .nil⟩
  have G_is_plain_row := dfn_is_plain_row (P := P) (w := w) (base := base) T C_is_plain R_Row Z_Row F_is_plain_row
  have C_is_plain_row : Kn P w K mg base CX0 2 "is_plain_row" ["value"] _ := ⟨_, _, G_is_plain_row, (He.glo_ok X G (c1.fact 8 (f := .glo "is_plain_row") rfl)), F_is_plain_row.kp, (FunD.bindsN F_is_plain_row fun _ _ _ _ _ _ us hl => match us, hl with | [_], _ => rfl)⟩
  have G_is_capacity := dfn_is_capacity (P := P) (w := w) (base := base) T C_is_between F_is_capacity
  have C_is_capacity : Kn P w K mg base CX0 3 "is_capacity" ["value"] _ := ⟨_, _, G_is_capacity, (He.glo_ok X G (c1.fact 9 (f := .glo "is_capacity") rfl)), F_is_capacity.kp, (FunD.bindsN F_is_capacity fun _ _ _ _ _ _ us hl => match us, hl with | [_], _ => rfl)⟩
  have G_handled := dfn_handled (P := P) (w := w) (base := base) T F_handled
  have C_handled : Kn P w K mg base CX0 1 "handled" ["capacity", "load", "box_capacity", "count"] _ := ⟨_, _, G_handled, (He.glo_ok X G (c1.fact 10 (f := .glo "handled") rfl)), F_handled.kp, (FunD.bindsN F_handled fun _ _ _ _ _ _ us hl => match us, hl with | [_, _, _, _], _ => rfl)⟩
  have G_passed := dfn_passed (P := P) (w := w) (base := base) T C_is_capacity C_is_between C_handled F_passed
  have C_passed : Kn P w K mg base (L2.CX P w) 4 "passed" ["capacity", "load", "box_capacity", "count"] _ := ⟨_, _, G_passed, (He.glo_ok X G (c1.fact 11 (f := .glo "passed") rfl)), F_passed.kp, (FunD.bindsN F_passed fun _ _ _ _ _ _ us hl => match us, hl with | [_, _, _, _], _ => rfl)⟩
  have G_steps_from := dfn_steps_from (P := P) (w := w) (base := base) T C_passed C_held C_capacity F_steps_from
  have C_steps_from : Kn P w K mg base CX0 6 "_steps_from" ["row", "capacity", "start"] _ := ⟨_, _, G_steps_from, (He.glo_ok X G (c1.fact 12 (f := .glo "_steps_from") rfl)), F_steps_from.kp, (FunD.bindsN F_steps_from fun _ _ _ _ _ _ us hl => match us, hl with | [_, _, _], _ => rfl)⟩
  have G_trace := dfn_trace (P := P) (w := w) (base := base) T C_is_capacity C_steps_from C_contents F_trace
  have C_trace : Kn P w K mg base (L2.CX P w) 7 "trace" ["row", "capacity"] _ := ⟨_, _, G_trace, (He.glo_ok X G (c1.fact 13 (f := .glo "trace") rfl)), F_trace.kp, (FunD.bindsN F_trace fun _ _ _ _ _ _ us hl => match us, hl with | [_, _], _ => rfl)⟩
  have G_left_by := dfn_left_by (P := P) (w := w) (base := base) T F_left_by
  have C_left_by : Kn P w K mg base CX0 1 "_left_by" ["steps"] _ := ⟨_, _, G_left_by, (He.glo_ok X G (c1.fact 14 (f := .glo "_left_by") rfl)), F_left_by.kp, (FunD.bindsN F_left_by fun _ _ _ _ _ _ us hl => match us, hl with | [_], _ => rfl)⟩
  have G_sweep := dfn_sweep (P := P) (w := w) (base := base) T C_trace C_left_by C_Row C_capacities F_sweep
  have C_sweep : Kn P w K mg base (L2.CX P w) 8 "sweep" ["row", "capacity"] _ := ⟨_, _, G_sweep, (He.glo_ok X G (c1.fact 15 (f := .glo "sweep") rfl)), F_sweep.kp, (FunD.bindsN F_sweep fun _ _ _ _ _ _ us hl => match us, hl with | [_, _], _ => rfl)⟩
  have G_mirrored := dfn_mirrored (P := P) (w := w) (base := base) T C_Row C_contents C_capacities F_mirrored
  have C_mirrored : Kn P w K mg base CX0 7 "mirrored" ["row"] _ := ⟨_, _, G_mirrored, (He.glo_ok X G (c1.fact 16 (f := .glo "mirrored") rfl)), F_mirrored.kp, (FunD.bindsN F_mirrored fun _ _ _ _ _ _ us hl => match us, hl with | [_], _ => rfl)⟩
  have G_unsweep := dfn_unsweep (P := P) (w := w) (base := base) T C_mirrored C_sweep F_unsweep
  have C_unsweep : Kn P w K mg base (L2.CX P w) 9 "unsweep" ["row", "capacity"] _ := ⟨_, _, G_unsweep, (He.glo_ok X G (c1.fact 17 (f := .glo "unsweep") rfl)), F_unsweep.kp, (FunD.bindsN F_unsweep fun _ _ _ _ _ _ us hl => match us, hl with | [_, _], _ => rfl)⟩
  have G_picked := dfn_picked (P := P) (w := w) (base := base) T C_trace F_picked
  have C_picked : Kn P w K mg base (L2.CX P w) 8 "picked" ["row", "capacity"] _ := ⟨_, _, G_picked, (He.glo_ok X G (c1.fact 18 (f := .glo "picked") rfl)), F_picked.kp, (FunD.bindsN F_picked fun _ _ _ _ _ _ us hl => match us, hl with | [_, _], _ => rfl)⟩
  have G_without_box := dfn_without_box (P := P) (w := w) (base := base) T C_unsweep C_Row C_contents F_without_box
  have C_without_box : Kn P w K mg base CX0 11 "_without_box" ["contents", "index", "capacity"] _ := ⟨_, _, G_without_box, (He.glo_ok X G (c1.fact 19 (f := .glo "_without_box") rfl)), F_without_box.kp, (FunD.bindsN F_without_box fun _ _ _ _ _ _ us hl => match us, hl with | [_, _, _], _ => rfl)⟩
  have G_plain_form := dfn_plain_form (P := P) (w := w) (base := base) T C_without_box C_contents C_capacities C_Row1 hE F_plain_form
  have C_plain_form : Kn P w K mg base CX0 12 "plain_form" ["row"] _ := ⟨_, _, G_plain_form, (He.glo_ok X G (c1.fact 20 (f := .glo "plain_form") rfl)), F_plain_form.kp, (FunD.bindsN F_plain_form fun _ _ _ _ _ _ us hl => match us, hl with | [_], _ => rfl)⟩
  have G_with_box := dfn_with_box (P := P) (w := w) (base := base) T C_sweep C_Row C_contents F_with_box
  have C_with_box : Kn P w K mg base CX0 11 "_with_box" ["contents", "index", "capacity"] _ := ⟨_, _, G_with_box, (He.glo_ok X G (c1.fact 21 (f := .glo "_with_box") rfl)), F_with_box.kp, (FunD.bindsN F_with_box fun _ _ _ _ _ _ us hl => match us, hl with | [_, _, _], _ => rfl)⟩
  have G_with_capacities := dfn_with_capacities (P := P) (w := w) (base := base) T C_is_plain_row C_is_row_like C_with_box C_Row C_contents M_BadRow F_with_capacities
  have C_with_capacities : Kn P w K mg base (L2.CX P w) 12 "with_capacities" ["row", "capacities"] _ := ⟨_, _, G_with_capacities, (He.glo_ok X G (c1.fact 22 (f := .glo "with_capacities") rfl)), F_with_capacities.kp, (FunD.bindsN F_with_capacities fun _ _ _ _ _ _ us hl => match us, hl with | [_, _], _ => rfl)⟩
  have G_runs_in := dfn_runs_in (P := P) (w := w) (base := base) T C_contents F_runs_in
  have C_runs_in : Kn P w K mg base CX0 3 "runs_in" ["row"] _ := ⟨_, _, G_runs_in, (He.glo_ok X G (c1.fact 23 (f := .glo "runs_in") rfl)), F_runs_in.kp, (FunD.bindsN F_runs_in fun _ _ _ _ _ _ us hl => match us, hl with | [_], _ => rfl)⟩
  have G_runs := dfn_runs (P := P) (w := w) (base := base) T C_is_plain_row C_runs_in M_BadRow F_runs
  have C_runs : Kn P w K mg base (L2.CX P w) 4 "runs" ["row"] _ := ⟨_, _, G_runs, (He.glo_ok X G (c1.fact 24 (f := .glo "runs") rfl)), F_runs.kp, (FunD.bindsN F_runs fun _ _ _ _ _ _ us hl => match us, hl with | [_], _ => rfl)⟩
  have G_cut := dfn_cut (P := P) (w := w) (base := base) T C_is_plain_row C_runs_in C_Row1 hE M_BadRow F_cut
  have C_cut : Kn P w K mg base (L2.CX P w) 7 "cut" ["row"] _ := ⟨_, _, G_cut, (He.glo_ok X G (c1.fact 25 (f := .glo "cut") rfl)), F_cut.kp, (FunD.bindsN F_cut fun _ _ _ _ _ _ us hl => match us, hl with | [_], _ => rfl)⟩
  have G_behind_runs := dfn_behind_runs (P := P) (w := w) (base := base) T C_runs_in F_behind_runs
  have C_behind_runs : Kn P w K mg base CX0 4 "_behind_runs" ["row"] _ := ⟨_, _, G_behind_runs, (He.glo_ok X G (c1.fact 26 (f := .glo "_behind_runs") rfl)), F_behind_runs.kp, (FunD.bindsN F_behind_runs fun _ _ _ _ _ _ us hl => match us, hl with | [_], _ => rfl)⟩
  have G_trains := dfn_trains (P := P) (w := w) (base := base) T C_plain_form C_cut C_behind_runs C_contents F_trains
  have C_trains : Kn P w K mg base CX0 13 "trains" ["row"] _ := ⟨_, _, G_trains, (He.glo_ok X G (c1.fact 27 (f := .glo "trains") rfl)), F_trains.kp, (FunD.bindsN F_trains fun _ _ _ _ _ _ us hl => match us, hl with | [_], _ => rfl)⟩
  have G_lengths := dfn_lengths (P := P) (w := w) (base := base) T C_trains F_lengths
  have C_lengths : Kn P w K mg base CX0 14 "lengths" ["row"] _ := ⟨_, _, G_lengths, (He.glo_ok X G (c1.fact 28 (f := .glo "lengths") rfl)), F_lengths.kp, (FunD.bindsN F_lengths fun _ _ _ _ _ _ us hl => match us, hl with | [_], _ => rfl)⟩
  have G_are_trains := dfn_are_trains (P := P) (w := w) (base := base) T C_is_pair F_are_trains
  have C_are_trains : Kn P w K mg base CX0 3 "_are_trains" ["value"] _ := ⟨_, _, G_are_trains, (He.glo_ok X G (c1.fact 29 (f := .glo "_are_trains") rfl)), F_are_trains.kp, (FunD.bindsN F_are_trains fun _ _ _ _ _ _ us hl => match us, hl with | [_], _ => rfl)⟩
  have G_uncut := dfn_uncut (P := P) (w := w) (base := base) T C_contents C_Row1 hE F_uncut
  have C_uncut : Kn P w K mg base CX0 7 "_uncut" ["row", "offsets"] _ := ⟨_, _, G_uncut, (He.glo_ok X G (c1.fact 30 (f := .glo "_uncut") rfl)), F_uncut.kp, (FunD.bindsN F_uncut fun _ _ _ _ _ _ us hl => match us, hl with | [_, _], _ => rfl)⟩
  have G_row_of := dfn_row_of (P := P) (w := w) (base := base) T C_are_trains C_behind_runs C_uncut C_with_capacities C_Row0 hE0 hE F_row_of
  have C_row_of : Kn P w K mg base (L2.CX P w) 13 "row_of" ["trains", "capacities"] _ := ⟨_, _, G_row_of, (He.glo_ok X G (c1.fact 31 (f := .glo "row_of") rfl)), F_row_of.kp, (bindsFull (ps := ["trains", "capacities"]) F_row_of (List.cons_ne_nil _ _) fun _ _ _ _ _ _ _ us its h1 h2 => match us, its, h1, h2 with | [_, _], [_], _, _ => ⟨_, rfl, rfl⟩)⟩
  have G_is_counts := dfn_is_counts (P := P) (w := w) (base := base) T C_is_capacity C_is_integer F_is_counts
  have C_is_counts : Kn P w K mg base CX0 4 "is_counts" ["value"] _ := ⟨_, _, G_is_counts, (He.glo_ok X G (c1.fact 32 (f := .glo "is_counts") rfl)), F_is_counts.kp, (FunD.bindsN F_is_counts fun _ _ _ _ _ _ us hl => match us, hl with | [_], _ => rfl)⟩
  have G_way := dfn_way (P := P) (w := w) (base := base) T F_way
  have C_way : Kn P w K mg base CX0 1 "way" ["length", "counts"] _ := ⟨_, _, G_way, (He.glo_ok X G (c1.fact 33 (f := .glo "way") rfl)), F_way.kp, (FunD.bindsN F_way fun _ _ _ _ _ _ us hl => match us, hl with | [_, _], _ => rfl)⟩
  have G_moved := dfn_moved (P := P) (w := w) (base := base) T C_way F_moved
  have C_moved : Kn P w K mg base CX0 2 "moved" ["found", "counts"] _ := ⟨_, _, G_moved, (He.glo_ok X G (c1.fact 34 (f := .glo "moved") rfl)), F_moved.kp, (FunD.bindsN F_moved fun _ _ _ _ _ _ us hl => match us, hl with | [_, _], _ => rfl)⟩
  have G_advance := dfn_advance (P := P) (w := w) (base := base) T C_is_counts C_moved C_trains C_row_of C_capacities F_advance
  have C_advance : Kn P w K mg base (L2.CX P w) 14 "advance" ["row", "counts"] _ := ⟨_, _, G_advance, (He.glo_ok X G (c1.fact 35 (f := .glo "advance") rfl)), F_advance.kp, (FunD.bindsN F_advance fun _ _ _ _ _ _ us hl => match us, hl with | [_, _], _ => rfl)⟩
  have G_given_up := dfn_given_up (P := P) (w := w) (base := base) T C_is_capacity C_lengths C_capacity F_given_up
  have C_given_up : Kn P w K mg base (L2.CX P w) 16 "given_up" ["row", "capacity", "index"] _ := ⟨_, _, G_given_up, (He.glo_ok X G (c1.fact 36 (f := .glo "given_up") rfl)), F_given_up.kp, (FunD.bindsN F_given_up fun _ _ _ _ _ _ us hl => match us, hl with | [_, _, _], _ => rfl)⟩
  have G_begun := dfn_begun (P := P) (w := w) (base := base) T F_begun
  have C_begun : Kn P w K mg base CX0 1 "_law_begun" ["script"] _ := ⟨_, _, G_begun, (He.glo_ok X G (c1.fact 37 (f := .glo "_law_begun") rfl)), F_begun.kp, (FunD.bindsN F_begun fun _ _ _ _ _ _ us hl => match us, hl with | [_], _ => rfl)⟩
  have G_mixed := dfn_mixed (P := P) (w := w) (base := base) T F_mixed
  have C_mixed : Kn P w K mg base CX0 1 "_law_mixed" ["state"] _ := ⟨_, _, G_mixed, (He.glo_ok X G (c1.fact 38 (f := .glo "_law_mixed") rfl)), F_mixed.kp, (FunD.bindsN F_mixed fun _ _ _ _ _ _ us hl => match us, hl with | [_], _ => rfl)⟩
  have G_take := dfn_take (P := P) (w := w) (base := base) T C_mixed F_take
  have C_take : Kn P w K mg base CX0 2 "_law_take" ["state", "size"] _ := ⟨_, _, G_take, (He.glo_ok X G (c1.fact 39 (f := .glo "_law_take") rfl)), F_take.kp, (FunD.bindsN F_take fun _ _ _ _ _ _ us hl => match us, hl with | [_, _], _ => rfl)⟩
  have G_pick := dfn_pick (P := P) (w := w) (base := base) T C_take F_pick
  have C_pick : Kn P w K mg base CX0 3 "_law_pick" ["state", "some"] _ := ⟨_, _, G_pick, (He.glo_ok X G (c1.fact 40 (f := .glo "_law_pick") rfl)), F_pick.kp, (FunD.bindsN F_pick fun _ _ _ _ _ _ us hl => match us, hl with | [_, _], _ => rfl)⟩
  have G_sizes := dfn_sizes (P := P) (w := w) (base := base) T C_take C_pick F_sizes
  have C_sizes : Kn P w K mg base CX0 4 "_law_sizes" ["state", "most"] _ := ⟨_, _, G_sizes, (He.glo_ok X G (c1.fact 41 (f := .glo "_law_sizes") rfl)), F_sizes.kp, (FunD.bindsN F_sizes fun _ _ _ _ _ _ us hl => match us, hl with | [_, _], _ => rfl)⟩
  have G_boxes := dfn_boxes (P := P) (w := w) (base := base) T C_take C_pick F_boxes
  have C_boxes : Kn P w K mg base CX0 4 "_law_boxes" ["state", "sizes", "most"] _ := ⟨_, _, G_boxes, (He.glo_ok X G (c1.fact 42 (f := .glo "_law_boxes") rfl)), F_boxes.kp, (FunD.bindsN F_boxes fun _ _ _ _ _ _ us hl => match us, hl with | [_, _, _], _ => rfl)⟩
  have G_made := dfn_made (P := P) (w := w) (base := base) T C_Row F_made
  have C_made : Kn P w K mg base CX0 7 "_law_made" ["boxes", "sizes"] _ := ⟨_, _, G_made, (He.glo_ok X G (c1.fact 43 (f := .glo "_law_made") rfl)), F_made.kp, (FunD.bindsN F_made fun _ _ _ _ _ _ us hl => match us, hl with | [_, _], _ => rfl)⟩
  have G_best := dfn_best (P := P) (w := w) (base := base) T F_best
  have C_best : Kn P w K mg base CX0 1 "_law_best" ["told"] _ := ⟨_, _, G_best, (He.glo_ok X G (c1.fact 44 (f := .glo "_law_best") rfl)), F_best.kp, (FunD.bindsN F_best fun _ _ _ _ _ _ us hl => match us, hl with | [_], _ => rfl)⟩
  have G_sizes_by := dfn_sizes_by (P := P) (w := w) (base := base) T F_sizes_by
  have C_sizes_by : Kn P w K mg base CX0 1 "_law_sizes_by" ["surplus"] _ := ⟨_, _, G_sizes_by, (He.glo_ok X G (c1.fact 45 (f := .glo "_law_sizes_by") rfl)), F_sizes_by.kp, (FunD.bindsN F_sizes_by fun _ _ _ _ _ _ us hl => match us, hl with | [_], _ => rfl)⟩
  have G_told_right := dfn_told_right (P := P) (w := w) (base := base) T C_runs C_plain_form C_best C_sizes_by C_lengths C_picked C_trains F_told_right
  have C_told_right : Kn P w K mg base CX0 20 "_law_told_right" ["made", "due"] _ := ⟨_, _, G_told_right, (He.glo_ok X G (c1.fact 46 (f := .glo "_law_told_right") rfl)), F_told_right.kp, (FunD.bindsN F_told_right fun _ _ _ _ _ _ us hl => match us, hl with | [_, _], _ => rfl)⟩
  exact dfn_law (P := P) (w := w) (base := base) T C_begun C_pick C_take C_sizes C_boxes C_made C_best C_sizes_by C_told_right C_runs C_plain_form C_sweep C_unsweep C_advance C_given_up C_total F_law
end SR
open PySem PySem.W PySem.Calls PyProof.Rows
set_option maxRecDepth 100000 in
set_option maxHeartbeats 0 in
theorem PySem.Challenge.cw_scooprow_k81_whole_trains_by_stretches_holds : PySem.Challenge.rw_scooprow_k81_whole_trains_by_stretches.Holds := by
  w_on; o_law
  refine HandSHeadRun.head_any (r := OpenLaw.row PySem.Challenge.rw_scooprow_k81_whole_trains_by_stretches) (q := view (OpenLaw.row PySem.Challenge.rw_scooprow_k81_whole_trains_by_stretches).prog [70]) (H := SR.hk) (ob := SR.ob) (M := 5400) (loose := SR.others) (d := HandSHeadRun.topDef (OpenLaw.row PySem.Challenge.rw_scooprow_k81_whole_trains_by_stretches).prog 70) (kwd := []) SR.ob_eq
    (by kernel_rfl) (fun s => by kernel_rfl) SR.run (by kernel_rfl) (by kernel_rfl) (by kernel_rfl) (by rfl) (by first | assumption | decide +kernel) (by decide +kernel) ⟨rfl, rfl, rfl, rfl, rfl, by decide +kernel⟩ ?hw ?hc
  case hw => w_witness2
  case hc =>
    refine SR.walk_ofG (l := PySem.Challenge.rw_scooprow_k81_whole_trains_by_stretches) (n := 63) (k := 32) (x := "script") (CX := L2.CX0) rfl (by decide) (by kernel_rfl) ⟨rfl, by decide, by decide⟩ ?F (fun _ _ _ _ z => z)
    intro w mg fa h Y G hmg0
    obtain ⟨K, KX, c⟩ := Y
    have hmg : mg ("law" : PySem.Str) = some (.ref fa) := by
      have e : (HandSHeadRun.topDef (OpenLaw.row PySem.Challenge.rw_scooprow_k81_whole_trains_by_stretches).prog 70).name = ("law" : PySem.Str) := by kernel_rfl
      rw [← e]
      exact hmg0
    obtain ⟨fd, hb, hF⟩ := SR.facts (P := (PySem.Challenge.rw_scooprow_k81_whole_trains_by_stretches).prog) (w := w) KX G hmg c rfl rfl
    exact ⟨K, fd, (SR.spLaw K), KX, hb, fun H a ns hl _ hS => ⟨a, ns, rfl, hS, hl, fun _ => rfl⟩, hF⟩
