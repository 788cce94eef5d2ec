import PyProof.Rows.All
import Wide.All
import OpenK.AllK
import Wide.FinOn
import KE.KStateDown
import HandS.ForMost
import HandS.ForExc
import HandS.More
import HandS.Defaults
import HandS.IsInst
import HandS.Wide
import HandS.Conv
import HandS.Flow
import HandS.Zip
import HandS.Head0
import HandS.Head1
import HandS.Head2
import HandS.HeadEnd
import HandS.HeadHook1
import HandS.HeadHook2
import KE.GoesMore
import KE.GoesEnum
import HandS.OwnEq
import HandS.SortRule
import HandS.Deep
import HandS.ExcIs
import HandS.TryMany
import HandS.CallSlots
import HandS.Strs
import HandS.SortInts
import HandS.RevRange
import HandS.SlotsOwn
import HandS.TupMul
import HandS.TupAny
import HandS.Rev
import HandS.Star
import HandS.Gcd
import HandS.Style
import KE.KOpsOwn
import KE.KTupSum
import PyProof.InstNe
import HandS.Head3
import PySem.Challenge.RW_stepsvanish_k08_values_move_with_differe
set_option Elab.async false
set_option linter.all false
set_option maxRecDepth 100000
set_option maxHeartbeats 0
namespace K08
open PySem PySem.Spec PyProof.Rows L2
def top (i : Nat) : Stmt := PySem.Challenge.pw_stepsvanish_k08_values_move_with_differe.main.body.getD i (.Pass ⟨0, 0, 0, 0⟩)
abbrev s__has_shape : Stmt := (top 16)
abbrev s__has_identity : Stmt := (top 17)
abbrev s__has_inverses : Stmt := (top 18)
abbrev s__is_associative : Stmt := (top 19)
abbrev s_Group___init__ : Stmt := (inClass (top 15) 0)
abbrev s_Group_require : Stmt := (inClass (top 15) 2)
abbrev s__law_bag : Stmt := (top 25)
abbrev s__law_take : Stmt := (top 26)
abbrev s__law_is_integer : Stmt := (top 35)
abbrev s__law_power : Stmt := (top 27)
abbrev s__law_metacyclic : Stmt := (top 28)
abbrev s__law_permutations : Stmt := (top 29)
abbrev s__law_renamed : Stmt := (top 30)
abbrev s__law_table : Stmt := (top 31)
abbrev s__law_same : Stmt := (top 36)
abbrev s_Target___init__ : Stmt := (inClass (top 23) 0)
abbrev s_Target___eq__ : Stmt := (inClass (top 23) 1)
abbrev s_Group___eq__ : Stmt := (inClass (top 15) 1)
abbrev s_Target_is_value : Stmt := (inClass (top 23) 2)
abbrev s_Target_plus : Stmt := (inClass (top 23) 3)
abbrev s_Target_minus : Stmt := (inClass (top 23) 4)
abbrev s_Target_times : Stmt := (inClass (top 23) 5)
abbrev s_GroupMap___init__ : Stmt := (inClass (top 12) 0)
abbrev s_GroupMap__require_same : Stmt := (inClass (top 12) 10)
abbrev s_GroupMap___add__ : Stmt := (inClass (top 12) 6)
abbrev s_GroupMap___sub__ : Stmt := (inClass (top 12) 7)
abbrev s_GroupMap___mul__ : Stmt := (inClass (top 12) 9)
abbrev s_GroupMap__arranged : Stmt := (inClass (top 12) 16)
abbrev s_GroupMap_translated : Stmt := (inClass (top 12) 15)
abbrev s_GroupMap_left_step : Stmt := (inClass (top 12) 14)
abbrev s_GroupMap_step : Stmt := (inClass (top 12) 13)
abbrev s_GroupMap_evaluate : Stmt := (inClass (top 12) 17)
abbrev s_shifted : Stmt := (top 21)
abbrev s__law_integer : Stmt := (top 38)
abbrev s__law_images : Stmt := (top 33)
abbrev s__law_moved_sum : Stmt := (top 39)
abbrev s__law_moved : Stmt := (top 40)
abbrev s__law_at : Stmt := (top 34)
abbrev s__law_moduli : Stmt := (top 32)
abbrev s__law_ask : Stmt := (top 41)
abbrev s__law_has : Stmt := (top 42)
abbrev s__law_valued : Stmt := (top 43)
abbrev s__law_is_map : Stmt := (top 37)
abbrev s__law_once : Stmt := (top 44)
abbrev s__law_twice : Stmt := (top 45)
abbrev s__law_along : Stmt := (top 46)
abbrev s__law_added : Stmt := (top 47)
abbrev s_law : Stmt := (top 48)
def d_Group___eq__ : He.DefD := ⟨("Group", some "__eq__"), "__eq__", "Group.__eq__", defArgs s_Group___eq__, defBody s_Group___eq__, defScope s_Group___eq__, [], []⟩
def d_Group_require : He.DefD := ⟨("Group", some "require"), "require", "Group.require", defArgs s_Group_require, defBody s_Group_require, defScope s_Group_require, [], []⟩
def d__has_shape : He.DefD := ⟨("_has_shape", none), "_has_shape", "_has_shape", defArgs s__has_shape, defBody s__has_shape, defScope s__has_shape, [], []⟩
def d__has_identity : He.DefD := ⟨("_has_identity", none), "_has_identity", "_has_identity", defArgs s__has_identity, defBody s__has_identity, defScope s__has_identity, [], []⟩
def d__has_inverses : He.DefD := ⟨("_has_inverses", none), "_has_inverses", "_has_inverses", defArgs s__has_inverses, defBody s__has_inverses, defScope s__has_inverses, [], []⟩
def d__is_associative : He.DefD := ⟨("_is_associative", none), "_is_associative", "_is_associative", defArgs s__is_associative, defBody s__is_associative, defScope s__is_associative, [], []⟩
def d_Group___init__ : He.DefD := ⟨("Group", some "__init__"), "__init__", "Group.__init__", defArgs s_Group___init__, defBody s_Group___init__, defScope s_Group___init__, [], []⟩
def d_shifted : He.DefD := ⟨("shifted", none), "shifted", "shifted", defArgs s_shifted, defBody s_shifted, defScope s_shifted, [], []⟩
def d_Target___init__ : He.DefD := ⟨("Target", some "__init__"), "__init__", "Target.__init__", defArgs s_Target___init__, defBody s_Target___init__, defScope s_Target___init__, [], []⟩
def d_Target___eq__ : He.DefD := ⟨("Target", some "__eq__"), "__eq__", "Target.__eq__", defArgs s_Target___eq__, defBody s_Target___eq__, defScope s_Target___eq__, [], []⟩
def d_GroupMap__require_same : He.DefD := ⟨("GroupMap", some "_require_same"), "_require_same", "GroupMap._require_same", defArgs s_GroupMap__require_same, defBody s_GroupMap__require_same, defScope s_GroupMap__require_same, [], []⟩
def d_Target_is_value : He.DefD := ⟨("Target", some "is_value"), "is_value", "Target.is_value", defArgs s_Target_is_value, defBody s_Target_is_value, defScope s_Target_is_value, [], []⟩
def d_GroupMap___init__ : He.DefD := ⟨("GroupMap", some "__init__"), "__init__", "GroupMap.__init__", defArgs s_GroupMap___init__, defBody s_GroupMap___init__, defScope s_GroupMap___init__, [], []⟩
def d_GroupMap__arranged : He.DefD := ⟨("GroupMap", some "_arranged"), "_arranged", "GroupMap._arranged", defArgs s_GroupMap__arranged, defBody s_GroupMap__arranged, defScope s_GroupMap__arranged, [], []⟩
def d_GroupMap_translated : He.DefD := ⟨("GroupMap", some "translated"), "translated", "GroupMap.translated", defArgs s_GroupMap_translated, defBody s_GroupMap_translated, defScope s_GroupMap_translated, [], []⟩
def d_Target_plus : He.DefD := ⟨("Target", some "plus"), "plus", "Target.plus", defArgs s_Target_plus, defBody s_Target_plus, defScope s_Target_plus, [], []⟩
def d_GroupMap___add__ : He.DefD := ⟨("GroupMap", some "__add__"), "__add__", "GroupMap.__add__", defArgs s_GroupMap___add__, defBody s_GroupMap___add__, defScope s_GroupMap___add__, [], []⟩
def d_Target_minus : He.DefD := ⟨("Target", some "minus"), "minus", "Target.minus", defArgs s_Target_minus, defBody s_Target_minus, defScope s_Target_minus, [], []⟩
def d_GroupMap___sub__ : He.DefD := ⟨("GroupMap", some "__sub__"), "__sub__", "GroupMap.__sub__", defArgs s_GroupMap___sub__, defBody s_GroupMap___sub__, defScope s_GroupMap___sub__, [], []⟩
def d_GroupMap_step : He.DefD := ⟨("GroupMap", some "step"), "step", "GroupMap.step", defArgs s_GroupMap_step, defBody s_GroupMap_step, defScope s_GroupMap_step, [], []⟩
def d_GroupMap_left_step : He.DefD := ⟨("GroupMap", some "left_step"), "left_step", "GroupMap.left_step", defArgs s_GroupMap_left_step, defBody s_GroupMap_left_step, defScope s_GroupMap_left_step, [], []⟩
def d_Target_times : He.DefD := ⟨("Target", some "times"), "times", "Target.times", defArgs s_Target_times, defBody s_Target_times, defScope s_Target_times, [], []⟩
def d_GroupMap___mul__ : He.DefD := ⟨("GroupMap", some "__mul__"), "__mul__", "GroupMap.__mul__", defArgs s_GroupMap___mul__, defBody s_GroupMap___mul__, defScope s_GroupMap___mul__, [], []⟩
def d_GroupMap_evaluate : He.DefD := ⟨("GroupMap", some "evaluate"), "evaluate", "GroupMap.evaluate", defArgs s_GroupMap_evaluate, defBody s_GroupMap_evaluate, defScope s_GroupMap_evaluate, [], []⟩
def d__law_bag : He.DefD := ⟨("_law_bag", none), "_law_bag", "_law_bag", defArgs s__law_bag, defBody s__law_bag, defScope s__law_bag, [], []⟩
def d__law_take : He.DefD := ⟨("_law_take", none), "_law_take", "_law_take", defArgs s__law_take, defBody s__law_take, defScope s__law_take, [], []⟩
def d__law_power : He.DefD := ⟨("_law_power", none), "_law_power", "_law_power", defArgs s__law_power, defBody s__law_power, defScope s__law_power, [], []⟩
def d__law_metacyclic : He.DefD := ⟨("_law_metacyclic", none), "_law_metacyclic", "_law_metacyclic", defArgs s__law_metacyclic, defBody s__law_metacyclic, defScope s__law_metacyclic, [], []⟩
def d__law_permutations : He.DefD := ⟨("_law_permutations", none), "_law_permutations", "_law_permutations", defArgs s__law_permutations, defBody s__law_permutations, defScope s__law_permutations, [], []⟩
def d__law_renamed : He.DefD := ⟨("_law_renamed", none), "_law_renamed", "_law_renamed", defArgs s__law_renamed, defBody s__law_renamed, defScope s__law_renamed, [], []⟩
def d__law_table : He.DefD := ⟨("_law_table", none), "_law_table", "_law_table", defArgs s__law_table, defBody s__law_table, defScope s__law_table, [], []⟩
def d__law_moduli : He.DefD := ⟨("_law_moduli", none), "_law_moduli", "_law_moduli", defArgs s__law_moduli, defBody s__law_moduli, defScope s__law_moduli, [], []⟩
def d__law_images : He.DefD := ⟨("_law_images", none), "_law_images", "_law_images", defArgs s__law_images, defBody s__law_images, defScope s__law_images, [], []⟩
def d__law_at : He.DefD := ⟨("_law_at", none), "_law_at", "_law_at", defArgs s__law_at, defBody s__law_at, defScope s__law_at, [], []⟩
def d__law_is_integer : He.DefD := ⟨("_law_is_integer", none), "_law_is_integer", "_law_is_integer", defArgs s__law_is_integer, defBody s__law_is_integer, defScope s__law_is_integer, [], []⟩
def d__law_same : He.DefD := ⟨("_law_same", none), "_law_same", "_law_same", defArgs s__law_same, defBody s__law_same, defScope s__law_same, [], []⟩
def d__law_is_map : He.DefD := ⟨("_law_is_map", none), "_law_is_map", "_law_is_map", defArgs s__law_is_map, defBody s__law_is_map, defScope s__law_is_map, [], []⟩
def d__law_integer : He.DefD := ⟨("_law_integer", none), "_law_integer", "_law_integer", defArgs s__law_integer, defBody s__law_integer, defScope s__law_integer, [], []⟩
def d__law_moved_sum : He.DefD := ⟨("_law_moved_sum", none), "_law_moved_sum", "_law_moved_sum", defArgs s__law_moved_sum, defBody s__law_moved_sum, defScope s__law_moved_sum, [], []⟩
def d__law_moved : He.DefD := ⟨("_law_moved", none), "_law_moved", "_law_moved", defArgs s__law_moved, defBody s__law_moved, defScope s__law_moved, [], []⟩
def d__law_ask : He.DefD := ⟨("_law_ask", none), "_law_ask", "_law_ask", defArgs s__law_ask, defBody s__law_ask, defScope s__law_ask, [], []⟩
def d__law_has : He.DefD := ⟨("_law_has", none), "_law_has", "_law_has", defArgs s__law_has, defBody s__law_has, defScope s__law_has, [], []⟩
def d__law_valued : He.DefD := ⟨("_law_valued", none), "_law_valued", "_law_valued", defArgs s__law_valued, defBody s__law_valued, defScope s__law_valued, [], []⟩
def d__law_once : He.DefD := ⟨("_law_once", none), "_law_once", "_law_once", defArgs s__law_once, defBody s__law_once, defScope s__law_once, [], []⟩
def d__law_twice : He.DefD := ⟨("_law_twice", none), "_law_twice", "_law_twice", defArgs s__law_twice, defBody s__law_twice, defScope s__law_twice, [], []⟩
def d__law_along : He.DefD := ⟨("_law_along", none), "_law_along", "_law_along", defArgs s__law_along, defBody s__law_along, defScope s__law_along, [], []⟩
def d__law_added : He.DefD := ⟨("_law_added", none), "_law_added", "_law_added", defArgs s__law_added, defBody s__law_added, defScope s__law_added, [], []⟩
def d_law : He.DefD := ⟨("law", none), "law", "law", defArgs s_law, defBody s_law, defScope s_law, [], []⟩
def fnL : List He.DefD := [d_Group___eq__, d_Group_require, d__has_shape, d__has_identity, d__has_inverses, d__is_associative, d_Group___init__, d_shifted, d_Target___init__, d_Target___eq__, d_GroupMap__require_same, d_Target_is_value, d_GroupMap___init__, d_GroupMap__arranged, d_GroupMap_translated, d_Target_plus, d_GroupMap___add__, d_Target_minus, d_GroupMap___sub__, d_GroupMap_step, d_GroupMap_left_step, d_Target_times, d_GroupMap___mul__, d_GroupMap_evaluate, d__law_bag, d__law_take, d__law_power, d__law_metacyclic, d__law_permutations, d__law_renamed, d__law_table, d__law_moduli, d__law_images, d__law_at, d__law_is_integer, d__law_same, d__law_is_map, d__law_integer, d__law_moved_sum, d__law_moved, d__law_ask, d__law_has, d__law_valued, d__law_once, d__law_twice, d__law_along, d__law_added, d_law]
def faL : List He.Fa := [.meth "Group" "__eq__", .meth "Group" "require", .glo "_has_shape", .glo "_has_identity", .glo "_has_inverses", .glo "_is_associative", .glo "shifted", .meth "Target" "__eq__", .meth "GroupMap" "_require_same", .meth "Target" "is_value", .meth "GroupMap" "_arranged", .meth "GroupMap" "translated", .meth "Target" "plus", .meth "GroupMap" "__add__", .meth "Target" "minus", .meth "GroupMap" "__sub__", .meth "GroupMap" "step", .meth "GroupMap" "left_step", .meth "Target" "times", .meth "GroupMap" "__mul__", .meth "GroupMap" "evaluate", .glo "_law_bag", .glo "_law_take", .glo "_law_power", .glo "_law_metacyclic", .glo "_law_permutations", .glo "_law_renamed", .glo "_law_table", .glo "_law_moduli", .glo "_law_images", .glo "_law_at", .glo "_law_is_integer", .glo "_law_same", .glo "_law_is_map", .glo "_law_integer", .glo "_law_moved_sum", .glo "_law_moved", .glo "_law_ask", .glo "_law_has", .glo "_law_valued", .glo "_law_once", .glo "_law_twice", .glo "_law_along", .glo "_law_added", .glo "law", .glo "LimitExceeded", .glo "InvalidGroup", .glo "InvalidElement", .glo "InvalidTarget", .glo "InvalidValue", .glo "InvalidVector", .glo "Mismatch", .glo "StepError", .glo "Group", .glo "Target", .glo "GroupMap", .exc "LimitExceeded", .exc "InvalidGroup", .exc "InvalidElement", .exc "InvalidTarget", .exc "InvalidValue", .exc "InvalidVector", .exc "Mismatch", .exc "StepError", .cls "Group", .mkr "Group", .cls "Target", .mkr "Target", .cls "GroupMap", .mkr "GroupMap", .noat "Group" "order", .noat "Group" "rows", .noat "Group" "inverses", .free "len", .free "tuple", .free "list", .free "range", .free "all", .free "enumerate", .free "sorted", .free "int", .free "bool", .free "abs", .free "isinstance", .free "str", .free "dict", .free "zip", .free "sum", .free "reversed", .free "ValueError", .noat "Target" "moduli", .noat "Target" "order", .noat "Target" "exponent", .noat "Target" "zero", .noat "GroupMap" "group", .noat "GroupMap" "target", .noat "GroupMap" "images", .int "LIMIT" 32]
def exL (K : PySem.W.Frag) : List Bool := [He.eqO (PySem.W.specialIn K (.builtin "object.__class__") "__get__") (some (some (.builtin "getset_descriptor.__get__"))),
  decide (PySem.W.takesIn K (.builtin "object.__class__") = some true),
  He.eqO (PySem.W.nsIn K mainGlobals "lcm") (some (some (.builtin "math.lcm"))),
  He.eqO (PySem.W.findIn K (.ref (He.ga K "Group")) "__ne__") (some (some (.builtin "object.__ne__"))),
  decide (PySem.W.mroIn K (He.ga K "Group") (.type "object") = some true),
  He.eqO (PySem.W.findIn K (.ref (He.ga K "Target")) "__ne__") (some (some (.builtin "object.__ne__"))),
  decide (PySem.W.mroIn K (He.ga K "Target") (.type "object") = some true),
  He.eqO (PySem.W.findIn K (.ref (He.ga K "Group")) "__class__") (some (some (.builtin "object.__class__"))),
  He.eqO (PySem.W.findIn K (.ref (He.ga K "Target")) "__class__") (some (some (.builtin "object.__class__"))),
  decide (PySem.W.kitOne K (.ref (He.ga K "Group")) (.ref (He.ga K "Group")) = some true),
  decide (PySem.W.kitOne K (.ref (He.ga K "Target")) (.ref (He.ga K "Target")) = some true),
  decide (PySem.W.kitOne K (.ref (He.ga K "Group")) (.ref (He.ga K "Target")) = some false),
  decide (PySem.W.kitOne K (.ref (He.ga K "Target")) (.ref (He.ga K "Group")) = some false),
  PySem.W.notFirst K (He.ga K "Target") (.ref (He.ga K "Group")),
  PySem.W.notFirst K (He.ga K "Group") (.ref (He.ga K "Target")),
  He.eqO (PySem.W.findIn K (.ref (He.ga K "GroupMap")) "__class__") (some (some (.builtin "object.__class__"))),
  decide (PySem.W.mroIn K (He.ga K "GroupMap") (.type "object") = some true),
  decide (PySem.W.kitOne K (.ref (He.ga K "GroupMap")) (.ref (He.ga K "GroupMap")) = some true),
  He.eqO (PySem.W.findIn K (.ref (He.ga K "GroupMap")) "__rmul__") (some none),
  (match PySem.W.findIn K (.type "int") "__mul__" with | some _ => true | none => false),
  (match PySem.W.findIn K (.type "int") "__rmul__" with | some _ => true | none => false),
  decide (PySem.W.subIn K (.type "int") (.ref (He.ga K "GroupMap")) = some false),
  PySem.W.selfFirst K (He.ga K "GroupMap")]
theorem exAt {K : PySem.W.Frag} (c : (exL K).all id = true) (i : Nat) {b : Bool} (h : (exL K)[i]? = some b) : b = true := List.all_eq_true.mp c b (List.mem_of_getElem? h)
abbrev RR : PySem.W.OpenRow := PySem.W.OpenLaw.row PySem.Challenge.rw_stepsvanish_k08_values_move_with_differe
def obE (g : Addr → Option Obj) : He.AlD × Bool := (He.obsD faL fnL (He.frG g (He.asD g 4)), (exL (He.frG g (He.asD g 4))).all id)
def hkL : PySem.W.Hook where
  α := He.AlD × Bool
  obs := fun s => obE s.heap.get?
  val := fun _ => (He.valD fnL, true)
  says := fun _ h => ∃ K : PySem.W.Frag, K.In h ∧ He.SaysD faL fnL K ∧ (exL K).all id = true
  of := fun _ _ e => ⟨_, He.frG_in, congrArg Prod.fst e, congrArg Prod.snd e⟩
  keeps := fun _ _ _ ⟨K, hK, c⟩ k => ⟨K, PySem.W.Frag.In.keeps hK k, c⟩
def obL (s : PySem.W.SharedT) : He.AlD × Bool := obE (HandSHeadRun.getT s)
theorem obL_eq (s : PySem.W.SharedT) : obL s = hkL.obs s.abs := by
  have e : HandSHeadRun.getT s = s.abs.heap.get? := funext (HandSHeadRun.getT_eq s)
  show obE _ = obE _
  rw [e]
def looseL : List PySem.Str := [("_wall" : PySem.Str), ("__name__" : PySem.Str), ("StepError" : PySem.Str), ("InvalidGroup" : PySem.Str), ("InvalidTarget" : PySem.Str), ("InvalidElement" : PySem.Str), ("InvalidValue" : PySem.Str), ("InvalidVector" : PySem.Str), ("LimitExceeded" : PySem.Str), ("Mismatch" : PySem.Str), ("__name__" : PySem.Str), ("GroupMap" : PySem.Str), ("__name__" : PySem.Str), ("LIMIT" : PySem.Str), ("Group" : PySem.Str), ("_has_shape" : PySem.Str), ("_has_identity" : PySem.Str), ("_has_inverses" : PySem.Str), ("_is_associative" : PySem.Str), ("__name__" : PySem.Str), ("shifted" : PySem.Str), ("__name__" : PySem.Str), ("Target" : PySem.Str), ("__name__" : PySem.Str), ("_law_bag" : PySem.Str), ("_law_take" : PySem.Str), ("_law_power" : PySem.Str), ("_law_metacyclic" : PySem.Str), ("_law_permutations" : PySem.Str), ("_law_renamed" : PySem.Str), ("_law_table" : PySem.Str), ("_law_moduli" : PySem.Str), ("_law_images" : PySem.Str), ("_law_at" : PySem.Str), ("_law_is_integer" : PySem.Str), ("_law_same" : PySem.Str), ("_law_is_map" : PySem.Str), ("_law_integer" : PySem.Str), ("_law_moved_sum" : PySem.Str), ("_law_moved" : PySem.Str), ("_law_ask" : PySem.Str), ("_law_has" : PySem.Str), ("_law_valued" : PySem.Str), ("_law_once" : PySem.Str), ("_law_twice" : PySem.Str), ("_law_along" : PySem.Str), ("_law_added" : PySem.Str)]
theorem runL (w : World) : HandSHeadRun.RunEqI RR (PySem.W.view RR.prog [0, 48]) hkL obL 20000 looseL w := by
  unfold HandSHeadRun.RunEqI
  kernel_rfl
end K08

set_option Elab.async false
set_option linter.all false
set_option maxRecDepth 100000
namespace Rd
open PySem PySem.Spec PyProof.Rows L2
/-! ### readings, step by step -/
section
variable {D : Ends} {σ : L2.St} {H : Hp} {t u : TS} {te ta tb tc : TE} {g : TG} {Q : VK} {v x y z : V} {c c1 c2 : TT} {i j : Int} {n : Nat} {K : PySem.W.Frag} {r r' : R2}
theorem seq (h : t { D with nx := u D } σ H) : tSeq t u D σ H := h
theorem seqA {u : TS} (h : tAsg te g { D with nx := u D } σ H) : tSeq (tAsg te g) u D σ H := h
theorem seqD {u : TS} (h : tDrop te { D with nx := u D } σ H) : tSeq (tDrop te) u D σ H := h
theorem seqF {u : TS} {wi : TI} {tb : TS} (h : tFor wi g tb { D with nx := u D } σ H) : tSeq (tFor wi g tb) u D σ H := h
theorem seqW {u : TS} {tb : TS} (h : tWhile c tb { D with nx := u D } σ H) : tSeq (tWhile c tb) u D σ H := h
/-- ways that join: what holds behind t, said once -/
theorem seqJ (P : L2.St → Hp → Prop) (h1 : ∀ σ' H', P σ' H' → u D σ' H') (h2 : ∀ N : L2.St → Hp → Prop, (∀ σ' H', P σ' H' → N σ' H') → t { D with nx := N } σ H) : tSeq t u D σ H := h2 _ h1
theorem nxt (h : D.nx σ H) : tNext D σ H := h
theorem asg (h : te σ H fun x H1 => g x σ H1 D.nx) : tAsg te g D σ H := h
theorem nm {P : L2.St → Hp → Prop} (h : P (σ.set n (some v)) H) : gName n v σ H P := h
theorem sub {to ti : TE} {t : TSet} {P : L2.St → Hp → Prop} (h : to σ H fun o H1 => ti σ H1 fun i H2 => t o i v H2 fun H3 => P σ H3) : gSub to ti t v σ H P := h
theorem setL {p : Addr} {xs : List V} {k : Int} {j : Nat} {P : Hp → Prop} (h1 : H p = some (.lst xs)) (h2 : ixN xs.length k = some j) (h : P (upd H p (.lst (xs.set j v)))) : rSetL (.ref p) (.int k) v H P := ⟨p, xs, k, j, rfl, rfl, h1, h2, h⟩
theorem var (e : σ[n]? = some (some v)) (h : Q v H) : tVar n σ H Q := ⟨v, e, h⟩
theorem con (h : Q v H) : tC v σ H Q := h
theorem op (h : ta σ H fun x H1 => tb σ H1 fun y H2 => r x y H2 Q) : tOp r ta tb σ H Q := h
theorem i0 {f : Int → Int → V} (h : Q (f i j) H) : rI0 f (.int i) (.int j) H Q := ⟨i, j, rfl, rfl, h⟩
theorem iC {C : Int → Int → Prop} {f : Int → Int → V} (hc : C i j) (h : Q (f i j) H) : rI C f (.int i) (.int j) H Q := ⟨i, j, rfl, rfl, hc, h⟩
theorem un {r : V → Hp → VK → Prop} (h : ta σ H fun x H1 => r x H1 Q) : tUn r ta σ H Q := h
theorem u0 {f : Int → V} (h : Q (f i) H) : rU f (.int i) H Q := ⟨i, rfl, h⟩
theorem eqI (h : Q (.bl (decide (i = j))) H) : rEq (.int i) (.int j) H Q := ⟨rfl, (show Q (.bl (decide (V.int i = V.int j))) H from by rw [show decide (V.int i = V.int j) = decide (i = j) from decide_eq_decide.mpr ⟨V.int.inj, congrArg _⟩]; exact h)⟩
theorem neI (h : Q (.bl (!decide (i = j))) H) : rNe (.int i) (.int j) H Q := ⟨rfl, (show Q (.bl (!decide (V.int i = V.int j))) H from by rw [show decide (V.int i = V.int j) = decide (i = j) from decide_eq_decide.mpr ⟨V.int.inj, congrArg _⟩]; exact h)⟩
theorem eqB {a b : Bool} (h : Q (.bl (a == b)) H) : rEq (.bl a) (.bl b) H Q := ⟨rfl, (show Q (.bl (decide (V.bl a = V.bl b))) H from by rw [dec_bl]; exact h)⟩
theorem tst {P : Bool → Hp → Prop} (h : te σ H fun x H' => ∃ k, x = .bl k ∧ P k H') : tTest te σ H P := h
theorem tB_ {P : Bool → Hp → Prop} (h : te σ H fun x H' => ∃ k, x = .bl k ∧ P k H') : tB te σ H P := h
theorem exb {P : Bool → Prop} {b : Bool} (h : P b) : ∃ k, V.bl b = .bl k ∧ P k := ⟨b, rfl, h⟩
theorem ifS (h : c σ H fun b H1 => if b = true then t D σ H1 else u D σ H1) : tIfS c t u D σ H := h
theorem ret (h : te σ H D.rt) : tRet te D σ H := h
theorem retN (h : D.rt .non H) : tRetN D σ H := h
theorem drop (h : te σ H fun _ H1 => D.nx σ H1) : tDrop te D σ H := h
theorem nil {P : List V → Hp → Prop} (h : P [] H) : tNil σ H P := h
theorem cons {ts : TA} {P : List V → Hp → Prop} (h : ta σ H fun x H1 => ts σ H1 fun xs H2 => P (x :: xs) H2) : tCons ta ts σ H P := h
theorem cb {r : List V → Hp → VK → Prop} {ts : TA} (h : ts σ H fun vs H1 => r vs H1 Q) : tCB r ts σ H Q := h
theorem call {sp : Sp} {E : XK} {ts : TA} (h : ts σ H fun vs H1 => sp (vs ++ []) H1 Q E) : tCall sp [] E ts σ H Q := h
theorem andT {P : Bool → Hp → Prop} (h : c1 σ H fun b H1 => if b = true then c2 σ H1 P else P false H1) : tAnd c1 c2 σ H P := h
theorem orT {P : Bool → Hp → Prop} (h : c1 σ H fun b H1 => if b = true then P true H1 else c2 σ H1 P) : tOr c1 c2 σ H P := h
theorem notT {P : Bool → Hp → Prop} (h : c σ H fun b H1 => P (!b) H1) : tNot c σ H P := h
theorem andV (h : ta σ H fun x H1 => ∃ c, x = .bl c ∧ if c = true then tb σ H1 Q else Q (.bl false) H1) : tAndV ta tb σ H Q := h
theorem orV (h : ta σ H fun x H1 => ∃ c, x = .bl c ∧ if c = true then Q (.bl true) H1 else tb σ H1 Q) : tOrV ta tb σ H Q := h
theorem notV (h : ta σ H fun x H1 => ∃ c, x = .bl c ∧ Q (.bl (!c)) H1) : tNotV ta σ H Q := h
theorem chain (h : ta σ H fun x H1 => tb σ H1 fun y H2 => r x y H2 fun z H3 => ∃ k, z = .bl k ∧ (if k = true then tc σ H3 fun w' H4 => r' y w' H4 Q else Q (.bl false) H3)) : tChain r r' ta tb tc σ H Q := h
theorem ixL {p : Addr} {xs : List V} (h1 : SqL K H p xs) (h2 : atI xs i = some v) (h : Q v H) : rIxL K (.ref p) (.int i) H Q := ⟨p, xs, i, v, rfl, rfl, h1, h2, h⟩
theorem ixT {p : Addr} {xs : List V} (h1 : SqT K H p xs) (h2 : atI xs i = some v) (h : Q v H) : rIxT K (.ref p) (.int i) H Q := ⟨p, xs, i, v, rfl, rfl, h1, h2, h⟩
theorem lst {ts : TA} (h : ts σ H fun xs H1 => xs.length ≤ sizeLine ∧ ∀ p, H1 p = none → Q (.ref p) (upd H1 p (.lst xs))) : tLst ts σ H Q := h
theorem tup {ts : TA} (h : ts σ H fun xs H1 => xs.length ≤ sizeLine ∧ ∀ p, H1 p = none → Q (.ref p) (upd H1 p (.tup xs))) : tTup ts σ H Q := h
theorem for_ {wi : TI} {tb : TS} (h : wi σ H fun J H1 => ∃ W : Nat → Nat → L2.St → Hp → Prop, (∃ m, W 0 m σ H1) ∧ ∀ i m σ H, W i m σ H →
  (J.stop i H ∧ D.nx σ H) ∨ (J.go i H ∧ ∃ N : L2.St → Hp → Prop, (∀ σ' H', N σ' H' → ∃ m', m' < m ∧ W (i + 1) m' σ' H') ∧ ∀ x H', J.yld i H x H' → g x σ H' fun σ2 H2 => tb { D with nx := N, ct := N, bk := D.nx } σ2 H2)) : tFor wi g tb D σ H := h
theorem rng1 {ts : TA} {R : It → Hp → Prop} (h : ts σ H fun vs H1 => ∃ j : Int, vs = [.int j] ∧ -(2 ^ 62) ≤ j ∧ j < 2 ^ 62 ∧ R (Itr 0 j.toNat) H1) : iRng1 ts σ H R := h
theorem rng1' {j : Int} {P : Int → Prop} (h1 : -(2 ^ 62) ≤ j) (h2 : j < 2 ^ 62) (h : P j) : ∃ k : Int, [V.int j] = [.int k] ∧ -(2 ^ 62) ≤ k ∧ k < 2 ^ 62 ∧ P k := ⟨j, rfl, h1, h2, h⟩
theorem rng2' {i j : Int} {P : Int → Int → Prop} (h1 : -(2 ^ 62) ≤ i ∧ i < 2 ^ 62 ∧ -(2 ^ 62) ≤ j ∧ j < 2 ^ 62) (h : P i j) : ∃ a b : Int, [V.int i, V.int j] = [.int a, .int b] ∧ (-(2 ^ 62) ≤ a ∧ a < 2 ^ 62 ∧ -(2 ^ 62) ≤ b ∧ b < 2 ^ 62) ∧ P a b := ⟨i, j, rfl, h1, h⟩
theorem lrg {te : L2.St → Hp → (Int → Int → Hp → Prop) → Prop} (h : te σ H fun a b H1 => RgOk a b ∧ ∀ q, H1 q = none → Q (.ref q) (upd H1 q (.lst (rgV a b)))) : tLstRg te σ H Q := h
theorem rg1 {P : Int → Int → Hp → Prop} (h : ta σ H fun x H1 => ∃ n, x = .int n ∧ P 0 n H1) : tRg1 ta σ H P := h
theorem rg2 {P : Int → Int → Hp → Prop} (h : ta σ H fun x H1 => tb σ H1 fun y H2 => ∃ i j, x = .int i ∧ y = .int j ∧ P i j H2) : tRg2 ta tb σ H P := h
theorem exi {P : Int → Prop} (h : P i) : ∃ n, V.int i = .int n ∧ P n := ⟨i, rfl, h⟩
theorem exi2 {P : Int → Int → Prop} (h : P i j) : ∃ a b, V.int i = .int a ∧ V.int j = .int b ∧ P a b := ⟨i, j, rfl, rfl, h⟩
theorem rng2 {ts : TA} {R : It → Hp → Prop} (h : ts σ H fun vs H1 => ∃ i j : Int, vs = [.int i, .int j] ∧ (-(2 ^ 62) ≤ i ∧ i < 2 ^ 62 ∧ -(2 ^ 62) ≤ j ∧ j < 2 ^ 62) ∧ R (Itr i (j - i).toNat) H1) : iRng2 ts σ H R := h
theorem itl {tl : TE} {R : It → Hp → Prop} (h : tl σ H fun x H1 => ∃ a, x = .ref a ∧ (∃ xs, SqL K H1 a xs) ∧ R (Itl K a) H1) : iList K tl σ H R := h
theorem itt {tl : TE} {R : It → Hp → Prop} (h : tl σ H fun x H1 => ∃ a, x = .ref a ∧ (∃ xs, SqT K H1 a xs) ∧ R (Itt K a) H1) : iTup K tl σ H R := h
theorem itl' {a : Addr} {xs : List V} {P : Addr → Prop} (h1 : SqL K H a xs) (h : P a) : ∃ b, V.ref a = .ref b ∧ (∃ xs, SqL K H b xs) ∧ P b := ⟨a, rfl, ⟨xs, h1⟩, h⟩
theorem itt' {a : Addr} {xs : List V} {P : Addr → Prop} (h1 : SqT K H a xs) (h : P a) : ∃ b, V.ref a = .ref b ∧ (∃ xs, SqT K H b xs) ∧ P b := ⟨a, rfl, ⟨xs, h1⟩, h⟩
theorem ite_d {A B C : Prop} [Decidable C] (h1 : C → A) (h2 : ¬ C → B) : if decide C = true then A else B := by
  by_cases h : C
  · rw [if_pos (decide_eq_true h)]; exact h1 h
  · rw [if_neg (by rw [decide_eq_false h]; exact Bool.false_ne_true)]; exact h2 h
theorem ite_n {A B C : Prop} [Decidable C] (h1 : ¬ C → A) (h2 : C → B) : if (!decide C) = true then A else B := by
  by_cases h : C
  · rw [decide_eq_true h]; exact (if_neg Bool.false_ne_true).mpr (h2 h)
  · rw [decide_eq_false h]; exact (if_pos rfl).mpr (h1 h)
theorem ite_b {A B : Prop} {b : Bool} (h1 : b = true → A) (h2 : b = false → B) : if b = true then A else B := by
  cases b with
  | true => exact (if_pos rfl).mpr (h1 rfl)
  | false => exact (if_neg Bool.false_ne_true).mpr (h2 rfl)
theorem ite_nb {A B : Prop} {b : Bool} (h1 : b = false → A) (h2 : b = true → B) : if (!b) = true then A else B := by
  cases b with
  | true => exact (if_neg Bool.false_ne_true).mpr (h2 rfl)
  | false => exact (if_pos rfl).mpr (h1 rfl)
theorem len1 {p : Addr} {xs : List V} {P : Addr → List V → Prop} (h1 : SqL K H p xs ∨ SqT K H p xs) (h : P p xs) : ∃ q ys, [V.ref p] = [.ref q] ∧ (SqL K H q ys ∨ SqT K H q ys) ∧ P q ys := ⟨p, xs, rfl, h1, h⟩
theorem int1 {P : Int → Prop} {B : Prop} (h : P i) : (∃ j, [V.int i] = [.int j] ∧ P j) ∨ B := Or.inl ⟨i, rfl, h⟩
theorem ex1 {P : Int → Prop} (h : P i) : ∃ j, [V.int i] = [.int j] ∧ P j := ⟨i, rfl, h⟩
theorem ex2 {P : Int → Int → Prop} (h : P i j) : ∃ a b, [V.int i, V.int j] = [.int a, .int b] ∧ P a b := ⟨i, j, rfl, h⟩

theorem isi {T : String} {t : Value} {b : Bool} (ty : TyX K H x t) (e : PySem.W.kitOne K t (.type T) = some b) (h : Q (.bl b) H) : rIsi K [x, .ty T] H Q := ⟨x, .ty T, t, .type T, b, rfl, .ty T, ty, e, h⟩
end
theorem kit_ty {K : PySem.W.Frag} {a b : String} {v : Bool} (h : PySem.W.kitOne [] (.type a) (.type b) = some v) (h2 : ∀ K : PySem.W.Frag, PySem.W.kitOne K (.type a) (.type b) = PySem.W.kitOne [] (.type a) (.type b) := by intro K; rfl) : PySem.W.kitOne K (.type a) (.type b) = some v := (h2 K).trans h
theorem RelV_ty (n : String) : RelV (.ty n) (.type n) := rfl
/-! ### heaps -/
theorem same_mk {H : Hp} {p : Addr} {o : HO} (h : H p = none) : Same H (upd H p o) := fun b w e => by
  rw [upd_ne (ne_of_none e h)]
  exact e
theorem same_t {K : PySem.W.Frag} {H H' : Hp} {a : Addr} {xs : List V} (e : Same H H') (h : SqT K H a xs) : SqT K H' a xs := by
  rcases h with (h | ⟨o,
        h⟩) | h
  · exact .inl (.inl (e _ _ h))
  · exact .inl (.inr
        ⟨o, e _ _ h⟩)
  · exact .inr h
theorem same_mut {H H' : Hp} {p : Addr} {o : HO} (e : Same H H') (h : H p = none) : Same H (upd H' p o) := fun b w hb => by
  rw [upd_ne (ne_of_none hb h)]
  exact e _ _ hb
theorem same_add {H H' : Hp} {p : Addr} {o : HO} (e : Same H H') (h : H' p = none) : Same H (upd H' p o) := fun b w hb => by
  rw [upd_ne (ne_of_none (e _ _ hb) h)]
  exact e _ _ hb
/-- all but a -/
def But (a : Addr) (H H' : Hp) : Prop := ∀ b o, b ≠ a → H b = some o → H' b = some o
theorem But.refl (a : Addr) (H : Hp) : But a H H := fun _ _ _ h => h
theorem But.trans {a : Addr} {H H1 H2 : Hp} (x : But a H H1) (y : But a H1 H2) : But a H H2 := fun b o n h => y b o n (x b o n h)
theorem But.put {a : Addr} {H : Hp} {o : HO} : But a H (upd H a o) := fun b w n e => by rw [upd_ne n]; exact e
theorem But.of {a : Addr} {H H' : Hp} (x : Same H H') : But a H H' := fun b o _ h => x b o h
/-! ### a def, called -/
structure DOk (P : Program) (w : World) (K : PySem.W.Frag) (mg : Str → Option Value) (base : Heap) (CX : CXT) (x : Str) (k : Nat) (ps : List Str) (sp : Sp) : Prop where
  ok : ∃ f fd, FnOk P w K mg base CX k f fd ps sp ∧ mg x = some (.ref f) ∧ PySem.W.keepIn K (.ref f) = true ∧ Binds K fd ps []
section
variable {X : Cx} {x : Str} {p pos : Pos} {e : Expr} {es : List Expr} {ts : TA} {k : Nat} {ps : List Str} {sp : Sp}
theorem callD (D : DOk X.prog X.w X.K X.mg X.base CX0 x k ps sp) (hr : Room k X.A) (ha : PA X (e :: es) ts) (hg : Gl X x := by rfl) (hdb : (x == ("__debug__" : Str)) = false := by decide)
    (he : starEach (e :: es) X.env = (false, eval e X.env) :: starEach es X.env :=
          by rfl) (hpl : (backTo pos (starEach es X.env)).any (·.1) = false := by rfl) :
    PE X (.Call (.Name x p) (e :: es) [] pos) (tCall sp [] E0 ts) := by
  obtain ⟨f, fd, F, hm, hk, hb⟩ := D.ok
  exact pe_call F hr hg hm hk hb .nil pass0 ha hdb he hpl
theorem callD0 (D : DOk X.prog X.w X.K X.mg X.base CX0 x k ps sp) (hr : Room k X.A) (hg : Gl X x := by rfl) (hdb : (x == ("__debug__" : Str)) = false := by decide) :
    PE X (.Call (.Name x p) [] [] pos) (tCall sp [] E0 tNil) := by
  obtain ⟨f, fd, F, hm, hk, hb⟩ := D.ok
  exact pe_call0 F hr hg hm hk hb .nil pass0 hdb
end
/-- a def of the text, without defaults, as a datum of the head -/
abbrev FnP (K : PySem.W.Frag) (x q : Str) (st : Stmt) (f : Addr) (fd : FuncData) : Prop := FunD K x q (defArgs st) (defBody st) (defScope st) [] [] f fd
end Rd

set_option Elab.async false
set_option linter.all false
set_option maxRecDepth 100000
set_option maxHeartbeats 2000000
/-! rules of this repo's own: what the layer lacks -/
namespace Rx
open PySem PySem.Spec PyProof.Rows L2 RZ
open AutoSeq1 (wpAny_loadPart')
/-! ### enumerate over a tuple -/
theorem enumNewT (l : Addr) (vals : Array Value) (n : Nat) (dct : Option Addr) (sl : Array (Option Value)) :
    Meets (Builtin.«enumerate.__new__» ⟨[.type "enumerate", .ref l], []⟩) (fun _ R s => s.heap.get? l = some { cls := .type "tuple", dict := dct, data := .seq vals n, slots := sl } ∧
      R (.ok (.ret (.ref (s.heap.push { cls := .type "tuple_iterator", data := .fields #[.ref l, .int 0 0] }).objs.size)))
        { s with heap := (s.heap.push { cls := .type "tuple_iterator", data := .fields #[.ref l, .int 0 0] }).push { cls := .type "enumerate", data := .fields #[.none, .bool false, .ref s.heap.objs.size, rawInt 0, .none, .none] } }) :=
  .of_wp fun prog
        w A R s h => by
    obtain ⟨hp, g,
          d, tk, os⟩ := s
    obtain ⟨hl, h⟩ := h
    have hsub := sub_enumerate
    have hT : Heap.IsTuple (Shared.heap ⟨hp, g, d, tk, os⟩) l vals := ⟨_, hl, rfl, n, rfl⟩
    wp_walk using
          wpAny_loadPart' hl
    refine wpAny_stack_any
          fun st => wpAny_pure ?_
    split
    · rename_i c _ _ _ _ _
      cases (c == Value.type
            "enumerate")
      · wp_walk using wpAny_loadPart' hl, wpAny_pyIter_tuple hT
        exact ⟨_, rfl, h⟩
      · wp_walk using wpAny_loadPart' hl, wpAny_pyIter_tuple hT
        exact ⟨_, rfl, h⟩
    · wp_walk using wpAny_loadPart' hl, wpAny_pyIter_tuple hT
      exact ⟨_, rfl, h⟩
section
variable {prog : Program} {w : World} {A :
      Around} {E : Value → Shared → Prop} {s : Shared}
theorem callEnumT {l : Addr} {vals : Array Value} {Q : Value → Shared → Prop} (hL : s.heap.IsTuple l vals)
    (h : ∀ h', IsEnum h' (s.heap.objs.size + 1) s.heap.objs.size 0 .none → h'.IsTupleIter s.heap.objs.size l 0 → h'.objs.size = s.heap.objs.size + 2 →
      (∀ b o, s.heap.get? b = some o → h'.get? b = some
            o) → Q (.ref (s.heap.objs.size + 1)) { s with heap := h' }) :
    wpAny (model prog w) A (PySem.call (.type "enumerate") [.ref l]) Q E s := by
  obtain ⟨⟨c, dct, dt, sl⟩,
        hl, hc, n, hd⟩ := hL
  replace hc : c = .type "tuple" := hc
  replace hd : dt = .seq vals n := hd
  subst hc hd
  refine callType_new F.called_enumerate (by decide) (F.typeCall_enumerate_1
        _) (F.newCall_enumerate_1 _) (fun obj => F.args_object_init_2 obj _) F.entry_enumerate_new
    (enumNewT l vals n dct sl) ⟨hl, ?_⟩
  have hz : (s.heap.push { cls := .type "tuple_iterator", data := .fields #[.ref l, .int 0 0] }).objs.size = s.heap.objs.size + 1 := Heap.size_push ..
  show _ ∧ _
  rw [hz]
  have he : IsEnum ((s.heap.push { cls := .type "tuple_iterator", data := .fields #[.ref l, .int 0 0] }).push
      { cls := .type "enumerate", data := .fields #[.none, .bool false, .ref s.heap.objs.size,
            rawInt 0, .none, .none] }) (s.heap.objs.size + 1) s.heap.objs.size 0 .none := by
    have := Heap.get?_push_size (s.heap.push { cls := .type "tuple_iterator", data := .fields #[.ref l, .int 0 0] })
      (o := { cls := .type "enumerate", data := .fields #[.none, .bool
            false, .ref s.heap.objs.size, rawInt 0, .none, .none] }) rfl
    rw [hz] at this; exact this
  refine ⟨⟨_, he, rfl⟩, h _ he ⟨_, Heap.get?_push_of_some _ (Heap.get?_push_size _ rfl), rfl, rfl⟩
        (by rw [Heap.size_push, hz]) fun b o x => Heap.get?_push_of_some _ (Heap.get?_push_of_some _ x)⟩
end
/-- the tuple at a, each item in a new pair with its place -/
def IteT (K : PySem.W.Frag) (a : Addr) : It :=
  ⟨fun i H => ∃ (xs : List V) (x : V), SqT K H a xs ∧ xs[i]? = some x, fun i H v H' => ∃ T x, v = .ref T ∧ H T = none ∧ H' = upd H T (.tup [.int (i : Nat), x]) ∧ ∀ xs, SqT K H a xs → xs[i]? = some x, fun i H => ∃ xs : List V, SqT K H a xs ∧ xs.length ≤ i⟩
theorem turnEnumT {P : Program} {w : World} {K : PySem.W.Frag} {elts : List Expr} {kk : Nat} {tpos : Pos} (a e it : Addr) :
    Turn P w K (.Tuple elts kk tpos) (IteT K a) [e, it] e (fun i h => (∃ old, IsEnum h e it ((i : Nat) : Int) old) ∧ h.IsTupleIter it a i ∧ e ≠ it ∧ a ≠ it ∧ e ≠ a) where
  mem := by simp
  obj := fun i h st b hb => by
    obtain ⟨⟨old, he⟩, ⟨o,
          ho, hc, hd⟩, _⟩ := st
    have e' : b = e ∨ b =
          it := by simpa using hb
    rcases e' with z | z
    · rw [z]; exact ⟨_, he,
          fun v q => nomatch q⟩
    · rw [z]; exact ⟨o, ho, fun v
          q => by rw [hd] at q; cases q⟩
  keep := fun i h h' st k => let ⟨⟨old, he⟩, hi, hne⟩ := st; ⟨⟨old,
        k e (by simp) _ he⟩, hi.at fun o q => k it (by simp) o q, hne⟩
  item := by
    intro X hP hw hK hc i
          pins s σ H E I hf st hg
    subst hP hw hK
    obtain ⟨⟨old, he⟩, hit, hne, hat, hea⟩ := st
    obtain ⟨xs, x, hq, hx⟩ := hg
    obtain ⟨its, rv, p,
          hz⟩ := I.tuple hq
    obtain ⟨u, hu,
          ru⟩ := rv.get hx
    have hel : e < s.heap.objs.size
          := Heap.lt_size he
    have hil : it < s.heap.objs.size := by
      obtain ⟨_, q, _⟩ := hit
      exact Heap.lt_size q
    have hlt : i < its.toArray.size := by
      have := (List.getElem?_eq_some_iff.mp hu).1
      simpa using this
    have D := Draws.tuple (prog := X.prog) (w := X.w) (A := X.A.in1) (I.ok.hd hc) it a hat its.toArray
    refine wpAny_pyNext_enum_itemD D he ⟨hit, p⟩ hlt hne (by simp only [List.mem_cons, List.not_mem_nil, or_false, not_or]; exact ⟨hne, hea⟩) fun y h' tk hy ho hit' hT hsz hk => ?_
    have ey : y = u := by
      have h1 : its.toArray[i]? = some u := by simpa using hu
      rw [h1] at hy
      exact (Option.some.inj hy).symm
    subst ey
    refine ⟨_, rfl, wpAny_letOwnedTupleGo_enum (s := { s with heap := h', toks := tk + 1 }) ho fun h'' he' sb => ?_⟩
    have hT2 : h''.get? s.heap.objs.size = some { cls := .type "tuple", data := .seq #[.int i tk, y] } := (sb.2 _ (Nat.ne_of_gt hel)).trans hT
    have new : ObjOk X.prog X.w (upd H s.heap.objs.size (.tup [.int (i
          : Nat), x])) h'' s.heap.objs.size (.tup [.int (i : Nat), x]) :=
      ⟨by show 2 ≤ sizeLine; decide, [.int i tk, y], .cons ⟨_, rfl⟩ (.cons ru .nil), ⟨_, hT2, rfl, _, rfl⟩⟩
    have I1 : Inv X pins σ (upd H s.heap.objs.size (.tup [.int (i : Nat), x])) { s with heap := h'', toks := tk + 1 } :=
      I.turnedNew (ch := [e, it]) (fun b ob hb q => (sb.2 b (fun z => hb (by simp [z]))).trans
            (hk b ob (fun z => hb (by simp [z])) (fun z => hb (by simp [z])) q)) hf (Nat.le_refl _) new
    refine ⟨.ref s.heap.objs.size, _, I1, rfl, ⟨_, x, rfl, I.hok.fresh (Nat.le_refl _), rfl, fun ys hy => by rw [I.tuple_inj hy hq]; exact hx⟩, ⟨⟨y, ?_⟩, hit'.1.at fun o q => (sb.2 it (Ne.symm hne)).trans q, hne, hat, hea⟩, fun b hb => ?_⟩
    · have e1 : ((i + 1 : Nat) :
          Int) = (i : Int) + 1 := by omega
      rw [e1]; exact he'
    · have hb' : b <
          s.heap.objs.size := by
        have e' : b = e ∨ b =
              it := by simpa using hb
        rcases e' with z | z
        · rw [z]; exact hel
        · rw [z]; exact hil
      rw [upd_ne
            (Nat.ne_of_lt hb')]
      exact (hf b hb).1
  done := by
    intro X hP hw hK hc i
          pins s σ H E I hf st hg
    subst hP hw hK
    obtain ⟨⟨old, he⟩, hit, hne, hat, hea⟩ := st
    obtain ⟨xs, hq, hx⟩ := hg
    obtain ⟨its, rv, p,
          hz⟩ := I.tuple hq
    obtain ⟨f0, f1, f2, f3,
          f4, f5⟩ := hf it (by simp)
    have hl := rv.length
    have hT : s.TypeIs (.ref
          e) "enumerate" := ⟨_, he, rfl⟩
    unfold pyNext
    refine wpAny_bind (wpAny_attempt (wpAny_callSpecial?_slot
          (name := Str.ofString "__next__") hT F.slot_enumerate_next
      (wpAny_call_entry F.slot_enumerate_next hT
            F.entry_enumerate_next ?_ (F.args_enumerate_next_1 _))))
    show wpAny _ _ (field
          (.ref e) 2 >>= _) _ _ _
    refine wpAny_bind (wpAny_field
          he rfl (x := .ref it) rfl ?_)
    refine wpAny_bind (wpAny_nextOf_tuple_end (I.ok.hd hc) hit p (by simp; omega) fun h' x he' hx' => ?_)
    obtain ⟨o, ho, hc'⟩ := hx'
    refine wpAny_bind (wpAny_isInstance (T := "StopIteration") (b := true) ⟨o, ho, hc'⟩ isSubtype_stop ?_)
    exact wpAny_pure ⟨rfl, I.turned (t' := s.toks) (fun b o hb q => he' b o hb q) f0 f1 f3 f4 f5⟩
  self := fun A i s Q E st h => let ⟨⟨_,
        he⟩, _⟩ := st; wpAny_pyIter_enum he h
def iEnumT (K : PySem.W.Frag) (ta : TA) : TI := fun σ H R => ta σ H fun vs H1 => ∃ a xs, vs = [.ref a] ∧ SqT K H1 a xs ∧ R (IteT K a) H1
theorem pi_enumT {X : Cx} {e : Expr} {ta : TA} {p pos tpos : Pos} {elts : List Expr} {kk : Nat} (hg : Gl X "enumerate") (hm : X.mg "enumerate" = none) (ha : PA X [e] ta) (hs : starEach [e] X.env = [(false, eval e X.env)] := by rfl) :
    PI X (.Tuple elts kk tpos) (.Call (.Name "enumerate" p) [e] [] pos) (iEnumT X.K ta) := by
  refine ⟨fun pins
        s σ H R I h => ?_⟩
  refine Call_ (ld_blt I hg hm boot_enumerate (PyProof.Rows.callWith_type1 (thn
        (ha.run pos pins s σ H _ I h) fun us s1 ⟨vs, H1, I1, r1, q1⟩ => ?_) hs rfl))
  obtain ⟨a, xs,
        ex, hq, q⟩ := q1
  subst ex
  cases r1 with
  | cons r rr =>
    cases rr
    cases r
    obtain ⟨its, rv, p', hz⟩ := I1.tuple hq
    have hal : a < s1.heap.objs.size := by obtain ⟨_, q, _⟩ := p'; exact Heap.lt_size q
    refine callEnumT p' fun h' he hit hsz hk => wpAny_pyIter_enum he ?_
    have I2 : Inv X pins σ H1 { s1 with heap
          := h' } := I1.kept (t' := s1.toks) hk
    refine ⟨s1.heap.objs.size + 1, [s1.heap.objs.size + 1, s1.heap.objs.size], _, _, H1, rfl, I2, turnEnumT a (s1.heap.objs.size + 1) s1.heap.objs.size, ⟨⟨.none, he⟩, hit, Nat.succ_ne_self _, Nat.ne_of_lt hal, Nat.ne_of_gt (Nat.lt_succ_of_lt hal)⟩, fun b hb => ?_, q⟩
    have e' : b = s1.heap.objs.size + 1 ∨ b
          = s1.heap.objs.size := by simpa using hb
    have hle :
          s1.heap.objs.size ≤ b := by
      rcases e' with z | z
      · rw [z]; exact
            Nat.le_add_right _ _
      · rw [z]; exact Nat.le_refl _
    exact I1.fpOk hle (I1.hok.fresh
          hle)
/-- for i, x in enumerate(t): the invariant -/
theorem for_enumT {K : PySem.W.Frag} {a : Addr} {xs : List V} {g : TG} {tb : TS} {D : Ends} {σ : L2.St} {H : Hp} (Pv : Nat → L2.St → Hp → Prop) (h0 : Pv 0 σ H) (hl : ∀ i σ H, Pv i σ H → SqT K H a xs)
    (hs : ∀ (i : Nat) (x : V) (T : Addr) (σ : L2.St) (H : Hp), xs[i]? = some x → Pv i σ H → H T = none → g (.ref T) σ (upd H T (.tup [.int (i : Nat), x])) fun σ2 H2 => tb { D with nx := Pv (i + 1), ct := Pv (i + 1), bk := D.nx } σ2 H2) (hd : ∀ σ H, Pv xs.length σ H → D.nx σ H) :
    ∃ W : Nat → Nat → L2.St → Hp → Prop, (∃
          m, W 0 m σ H) ∧ ∀ i m σ H, W i m σ H →
      ((IteT K a).stop i H ∧ D.nx σ H) ∨ ((IteT K a).go i H ∧ ∃ N : L2.St → Hp → Prop, (∀ σ' H', N σ' H' → ∃ m', m' < m ∧ W (i + 1) m' σ' H') ∧ ∀ x H', (IteT K a).yld i H x H' → g x σ H' fun σ2 H2 => tb { D with nx := N, ct := N, bk := D.nx } σ2 H2) := by
  refine ⟨fun i m σ H => m = xs.length - i ∧ i ≤ xs.length
        ∧ Pv i σ H, ⟨xs.length, by simp, Nat.zero_le _, h0⟩, ?_⟩
  rintro i m σ H ⟨rfl, hi, p⟩
  have q := hl i σ H p
  by_cases hlt : i < xs.length
  · refine .inr ⟨⟨xs, xs[i], q, by simp [hlt]⟩, Pv (i + 1), fun σ' H' p'
        => ⟨xs.length - (i + 1), by omega, rfl, hlt, p'⟩, fun x H' y => ?_⟩
    obtain ⟨T, x', rfl, hT, rfl, y⟩ := y
    exact hs i x' T σ H (y xs q) p hT
  · have e : i =
        xs.length := by omega
    subst e
    exact .inl ⟨⟨xs, q,
          Nat.le_refl _⟩, hd σ H p⟩
end Rx

set_option Elab.async false
set_option linter.all false
set_option maxRecDepth 100000
set_option maxHeartbeats 2000000
/-! rules of this repo's own: sorted of a list of lists of ints -/
namespace Rs
open PySem PySem.Spec PyProof.Rows L2 GQ PySem.SeqAt MeetsSeq MeetsSeq2 MeetsSeq3 SeqRoads2
open AutoSeq1 (wpAny_loadPart')
/-- the order of lists of ints -/
def ltL : List Int → List Int → Bool
  | _, [] => false
  | [], _ :: _ => true
  | x :: xs, y :: ys => if x = y then ltL xs ys else decide (x < y)
/-- an array of ints as values -/
def Nums (its : Array Value) (ns : List Int) : Prop := its.size = ns.length ∧ ∀ (j : Nat) (n : Int), ns[j]? = some n → ∃ t, its[j]? = some (.int n t)
section
variable {prog : Program} {w : World} {A
      : Around} {R : Result → Shared → Prop}
theorem lt_loop (l b : Addr) (its its2 : Array Value) (m m2 : Nat) (ns ms : List Int) (h1 : Nums its ns) (h2 : Nums its2 ms) (k : Nat) :
    ∀ i : Nat, ns.length - i = k → i ≤ ns.length → i ≤ ms.length → ∀ s : Shared, s.heap.get? l = some { cls := .type "list", data := .seq its m } → s.heap.get? b = some { cls := .type "list", data := .seq its2 m2 } →
      R (.ok (.ret (.bool (ltL (ns.drop i) (ms.drop i))))) s →
      wpAny (model prog w) A.in1 (Builtin.«list.__eq__.loop» ⟨[.ref l, .ref b, rawInt i, rawInt 0], []⟩) (FinOf prog w A R) (fun e s' => R (.error e) s') s := by
  induction k with
  | zero =>
    intro i hk hi hi2 s hl hb h
    have e : i = ns.length := by omega
    have e1 : its[((i : Nat) : Int).toNat]? = none := by
      rw [Array.getElem?_eq_none]; have := h1.1; simp; omega
    obtain ⟨hp, g,
          d, tk, os⟩ := s
    wp_walk using wpAny_loadPart'
          hl, wpAny_loadPart' hb
    rw [e1]
    wp_walk using wpAny_loadPart'
          hl, wpAny_loadPart' hb
    show R (.ok (.ret (.bool (decide (its.size < its2.size))))) _
    have e2 : ltL (ns.drop i) (ms.drop i) = decide (its.size < its2.size) := by
      rw [e, List.drop_length, h1.1, h2.1]
      by_cases c : ns.length < ms.length
      · rw [decide_eq_true c]
        obtain ⟨y, ys, q⟩ : ∃ y ys, ms.drop ns.length = y :: ys := by
          rw [List.drop_eq_getElem_cons c]; exact ⟨_, _, rfl⟩
        rw [q]; rfl
      · rw [decide_eq_false c, List.drop_of_length_le (by omega)]; rfl
    rw [← e2]; exact h
  | succ k ih =>
    intro i hk hi hi2 s hl hb h
    have hlt : i <
          ns.length := by omega
    obtain ⟨t, e1⟩ := h1.2 i ns[i] (List.getElem?_eq_getElem hlt)
    have e1' : its[((i : Nat) : Int).toNat]? = some (.int ns[i] t) := e1
    by_cases c : i < ms.length
    · obtain ⟨u, e2⟩ := h2.2 i ms[i] (List.getElem?_eq_getElem c)
      have e2' : its2[((i : Nat) : Int).toNat]? = some (.int ms[i] u) := e2
      have ed : ltL (ns.drop i) (ms.drop i) = if ns[i] = ms[i] then ltL (ns.drop (i + 1)) (ms.drop (i + 1)) else decide (ns[i] < ms[i]) := by
        rw [List.drop_eq_getElem_cons hlt, List.drop_eq_getElem_cons c]; rfl
      rw [ed] at h
      obtain ⟨hp, g,
            d, tk, os⟩ := s
      wp_walk using wpAny_loadPart'
            hl, wpAny_loadPart' hb
      rw [e1', e2']
      refine wpAny_bind (wpAny_eqBool_int
            ?_)
      by_cases q : ns[i] = ms[i]
      · rw [if_pos q] at h
        rw [show (ns[i] == ms[i]) = true from beq_iff_eq.mpr q]
        have hrec := ih (i + 1) (by omega) (by omega) (by omega) _ hl hb h
        have hc : ((i : Int) + 1) = ((i
              + 1 : Nat) : Int) := by omega
        wp_walk
        rw [hc]
        exact ⟨plainId_quiet plain_eq_loop
              _, codeAny_builtin entry_eq_loop (by
          rw [Around.under_plainId
                plain_eq_loop _]
          exact hrec)⟩
      · rw [if_neg q] at h
        rw [show (ns[i] == ms[i]) = false from beq_eq_false_iff_ne.mpr q]
        wp_walk using wpAny_loadPart'
              hl, wpAny_loadPart' hb
        rw [e1', e2']
        refine wpAny_bind (PyProof.Rows.lt_int ?_)
        exact wpAny_pure h
    · have e2' : its2[((i : Nat) : Int).toNat]? = none := by
        rw [Array.getElem?_eq_none]; have := h2.1; simp; omega
      have em : ms.drop i = [] := List.drop_of_length_le (by omega)
      rw [em] at h
      obtain ⟨hp, g,
            d, tk, os⟩ := s
      wp_walk using wpAny_loadPart'
            hl, wpAny_loadPart' hb
      rw [e1', e2']
      wp_walk using wpAny_loadPart'
            hl, wpAny_loadPart' hb
      show R (.ok (.ret (.bool (decide (its.size < its2.size))))) _
      rw [decide_eq_false (by rw [h1.1, h2.1]; omega)]
      rw [List.drop_eq_getElem_cons hlt] at h
      exact h
theorem list_lt (l b : Addr) (its its2 : Array Value) (m m2 : Nat) (ns ms : List Int) (h1 : Nums its ns) (h2 : Nums its2 ms) :
    Meets (Builtin.«list.__lt__» ⟨[.ref l, .ref b], []⟩) (fun A R s => s.heap.get? l = some { cls := .type "list", data := .seq its m } ∧ s.heap.get? b = some { cls := .type "list", data := .seq its2 m2 } ∧
      R (.ok (.ret (.bool (ltL ns ms)))) s) := by
  intro prog w A R s h
  obtain ⟨hl, hb, h⟩ := h
  have hrec := lt_loop (prog := prog) (w := w) (A := A) (R := R) l b its its2 m m2 ns ms h1 h2 _ 0 rfl (Nat.zero_le _) (Nat.zero_le _) s hl hb h
  obtain ⟨hp, g,
        d, tk, os⟩ := s
  have f3 :=
        AutoSeq1.sub_list_list
  wp_walk using wpAny_loadPart'
        hl, wpAny_loadPart' hb
  exact ⟨plainId_quiet plain_eq_loop
        _, codeAny_builtin entry_eq_loop (by
    rw [Around.under_plainId
          plain_eq_loop _]
    exact hrec)⟩
end

/-! ### the kind of such keys, their comparison in a sort -/
section
variable {prog : Program} {w : World} {A :
      Around} {E : Value → Shared → Prop} {s : Shared}
/-- the value is a list of these ints -/
def IsNums (h : Heap) (v : Value) (ns : List Int) : Prop := ∃ (a : Addr) (its : Array Value) (m : Nat), v = .ref a ∧ h.get? a = some { cls := .type "list", data := .seq its m } ∧ Nums its ns
theorem oneLt_lists {v u : Value} {ns ms : List Int} {Q : Bool → Shared → Prop} (hu : A.units < cLine) (h1 : IsNums s.heap v ns) (h2 : IsNums s.heap u ms) (h : Q (ltL ns ms) s) : wpAny (model prog w) A (oneLt' true v u) Q E s := by
  obtain ⟨a, its, m, rfl, e1, n1⟩ := h1
  obtain ⟨b, its2, m2, rfl, e2, n2⟩ := h2
  rw [oneLt'_eq]
  simp only [if_true]
  refine wpAny_bind (wpAny_cRoomFor
        hu ?_)
  refine wpAny_bind (wpAny_callSpecialIfBound?_slot ⟨_, e1, rfl⟩ F.slot_list_lt (call_meets F.slot_list_lt ⟨_, e1, rfl⟩ F.entry_list_lt (F.args_list_lt_2 _ _) (list_lt a b its its2 m m2 ns ms n1 n2) ⟨e1, e2, ?_⟩))
  show wpAny _ _ (truthOfDropped (.bool (ltL ns ms))) _ _ _
  exact wpAny_truthy_bool h
theorem firsts_lists : ∀ (vs : List Value) {Q : List (Option Value) → Shared → Prop}, (∀ v ∈ vs, ∃ ns, IsNums s.heap v ns) → Q (vs.map fun _ => none) s → wpAny (model prog w) A (vs.mapM firstOfTuple') Q E s
  | [], Q, _, h => by rw [List.mapM_nil]; exact wpAny_pure h
  | v :: vs, Q, hv, h => by
    obtain ⟨ns, a, its, m, rfl, e1, n1⟩ := hv v List.mem_cons_self
    rw [List.mapM_cons]
    refine wpAny_bind ?_
    show wpAny _ _ (typeOf (.ref a) >>= _) _ _ _
    refine wpAny_bind (wpAny_typeOf_ref e1 ?_)
    show wpAny _ _ (if (Value.type "list" != Value.type "tuple") = true then _ else _) _ _ _
    rw [if_pos (show (Value.type "list" != Value.type "tuple") = true from by decide +kernel)]
    refine wpAny_pure ?_
    refine wpAny_bind (firsts_lists vs (fun z hz => hv z (List.mem_cons_of_mem _ hz)) ?_)
    exact wpAny_pure h
theorem types_lists : ∀ (vs : List Value) {Q : List Value → Shared → Prop}, (∀ v ∈ vs, ∃ ns, IsNums s.heap v ns) → Q (vs.map fun _ => .type "list") s → wpAny (model prog w) A (vs.mapM typeOf) Q E s
  | [], Q, _, h => by rw [List.mapM_nil]; exact wpAny_pure h
  | v :: vs, Q, hv, h => by
    obtain ⟨ns, a, its, m, rfl, e1, n1⟩ := hv v List.mem_cons_self
    rw [List.mapM_cons]
    refine wpAny_bind (wpAny_typeOf_ref e1 ?_)
    refine wpAny_bind (types_lists vs (fun z hz => hv z (List.mem_cons_of_mem _ hz)) ?_)
    exact wpAny_pure h
theorem kind_lists {vs : List Value} {Q : SortKind → Shared → Prop} (hv : ∀ v ∈ vs, ∃ ns, IsNums s.heap v ns) (h2 : 2 ≤ vs.length) (h : Q oneType' s) : wpAny (model prog w) A (keyKind' vs.toArray) Q E s := by
  obtain ⟨v1, v2, vs, rfl⟩ : ∃ v1 v2 r, vs = v1 :: v2 :: r := by
    match vs, h2 with
    | v1 :: v2 :: r, _ => exact ⟨v1, v2, r, rfl⟩
  rw [keyKind'_eq, List.mapM_toArray]
  simp only [map_eq_pure_bind, bind_assoc, pure_bind]
  refine wpAny_bind (firsts_lists _ hv ?_)
  rw [if_neg (by simp),
        if_neg (by simp)]
  rw [oneTypeOnly'_eq, List.mapM_toArray]
  simp only [map_eq_pure_bind, bind_assoc, pure_bind]
  refine wpAny_bind (types_lists _ hv ?_)
  have hall : ((List.map (fun _ => Value.type "list") (v1 :: v2 :: vs)).toArray.all fun x => x == Value.type "list") = true := by
    simp only [List.all_toArray,
          List.all_map, List.all_eq_true]
    intro _ _
    rfl
  have h0 : (List.map (fun _ => Value.type "list") (v1 :: v2 :: vs)).toArray[0]? = some (Value.type "list") := by simp
  rw [h0]
  simp only [hall, if_true,
        pure_bind, Option.isSome_some]
  exact wpAny_pure h
end
theorem ltL_irr : ∀ x : List Int, ltL x x = false
  | [] => rfl
  | a :: x => by show (if a = a then ltL x x else _) = false; rw [if_pos rfl]; exact ltL_irr x
theorem ltL_asym : ∀ x y : List Int, ltL x y = true → ltL y x = false
  | _, [], h => by cases ‹List Int› <;> cases h
  | [], _ :: _, _ => rfl
  | a :: x, b :: y, h => by
    have h' : (if a = b then ltL x y else decide (a < b)) = true := h
    show (if b = a then ltL y x else decide (b < a)) = false
    by_cases e : a = b
    · rw [if_pos e] at h'; rw [if_pos e.symm]; exact ltL_asym x y h'
    · rw [if_neg e] at h'; rw [if_neg (fun q => e q.symm)]
      have := of_decide_eq_true h'
      exact decide_eq_false
            (by omega)
theorem ltL_neg : ∀ x y z : List Int, ltL x y = false → ltL y z = false → ltL x z = false
  | x, y, [], _, _ => by cases x <;> rfl
  | x, [], c :: z, _, h => by cases h
  | [], b :: y, c :: z, h, _ => by cases h
  | a :: x, b :: y, c :: z, h1, h2 => by
    have h1' : (if a = b then ltL x y else decide (a < b)) = false := h1
    have h2' : (if b = c then ltL y z else decide (b < c)) = false := h2
    show (if a = c then ltL x z else decide (a < c)) = false
    by_cases e : a = b
    · rw [if_pos e] at h1'
      by_cases f : b = c
      · rw [if_pos f] at h2'; rw [if_pos (e.trans f)]; exact ltL_neg x y z h1' h2'
      · rw [if_neg f] at h2'
        have := of_decide_eq_false h2'
        rw [if_neg (by omega)]; exact decide_eq_false (by omega)
    · rw [if_neg e] at h1'
      have q1 := of_decide_eq_false h1'
      by_cases f : b = c
      · rw [if_neg (by omega)]; exact decide_eq_false (by omega)
      · rw [if_neg f] at h2'
        have := of_decide_eq_false h2'
        rw [if_neg (by omega)]; exact decide_eq_false (by omega)
theorem ltL_swo {α : Type} (k : α → List Int) : SrtO.Swo fun x y => ltL (k x) (k y) := ⟨fun x y h => ltL_asym _ _ h, fun x y z h1 h2 => ltL_neg _ _ _ h2 h1⟩
/-- sorted(xs), xs a list of lists of ints (k says which): a new list, sorted -/
def rSortLL (K : PySem.W.Frag) : List V → Hp → VK → Prop := fun vs H Q => ∃ (a : Addr) (as : List Addr) (k : Addr → List Int), vs = [V.ref a] ∧ SqL K H a (as.map V.ref) ∧ (∀ x ∈ as, H x = some (.lst ((k x).map V.int))) ∧
  ∀ (bs : List Addr) (p : Addr), bs.Perm as → bs.Pairwise (fun x y => ltL (k y) (k x) = false) → H p = none → Q (.ref p) (upd H p (.lst (bs.map V.ref)))
theorem nums_of : ∀ {ns : List Int} {its : List Value}, Vals (ns.map V.int) its → Nums its.toArray ns
  | [], _, .nil => ⟨rfl, fun j n h => by simp at h⟩
  | n :: ns, v :: its, .cons r rr => by
    obtain ⟨t, rfl⟩ := r
    have ih := nums_of rr
    have h1 : its.length = ns.length := by simpa using ih.1
    refine ⟨by simp [h1], fun j m h => ?_⟩
    cases j with
    | zero => cases h; exact ⟨t, by simp⟩
    | succ j => obtain ⟨u, e⟩ := ih.2 j m (by simpa using h); exact ⟨u, by simpa using e⟩
def adr : V → Addr
  | .ref a => a
  | _ => 0
theorem cr_sortLL {X : Cx} (hu : X.A.units + 8 < cLine) : CallR X (.builtin "sorted") (rSortLL X.K) := by
  intro pins s σ
        H vs us Q I r h
  obtain ⟨a, as, k, rfl, hs, hx, q⟩ := h
  obtain ⟨its, rv,
        hl, hz⟩ := I.list hs
  obtain ⟨u, rfl,
        ru⟩ := vals1 r
  obtain rfl : u =
        Value.ref a := ru
  obtain ⟨e1,
        e2⟩ := refs_back rv fun x m => by
    obtain ⟨t, _, e⟩ := List.mem_map.mp m
    exact ⟨t, e.symm⟩
  have num : ∀ v ∈ its, IsNums s.heap v (k (adr (backV v))) := fun v hv => by
    obtain ⟨t, rfl⟩ := e2 v hv
    have hm : V.ref t ∈ as.map V.ref := by rw [e1]; exact List.mem_map.mpr ⟨_, hv, rfl⟩
    obtain ⟨t', ht', e⟩ := List.mem_map.mp hm
    cases e
    obtain ⟨_, its2, n, r2, ho⟩ := (show ObjOk X.prog X.w H s.heap t (.lst ((k t).map V.int)) from I.hok _ _ (hx t ht'))
    exact ⟨t, _, n, rfl, ho, nums_of r2⟩
  refine SrtO.sorted_ord (ltv := fun v u => ltL (k (adr (backV v))) (k (adr (backV u)))) (ltL_swo _) hl.isList (by rw [← rv.length]; exact hz) (fun h2 h₁ b hb kk => ?_) fun out h1 h2 => ?_
  · intro h' keep
    have num' : ∀ v ∈ its, IsNums h' v (k (adr (backV v))) := fun v hv => by
      obtain ⟨t, jt, n, e, ho, nn⟩ := num v hv
      exact ⟨t, jt, n, e, keep _ _ (kk _ _ ho).1 (kk _ _ ho).2, nn⟩
    refine ⟨oneType', fun Q E hq => kind_lists (s := { s with heap := h' }) (fun v hv => ⟨_, num' v hv⟩) h2 hq, fun p q hp hq => ?_⟩
    show wpAny _ _ (keyLt' oneType' p.1 q.1) _ _ _
    rw [keyLt'_oneType]
    refine oneLt_lists (s := { s with heap := h' }) ?_ (num' _ hp) (num' _ hq) ⟨rfl, rfl⟩
    show X.A.in1.in1.units < cLine
    have : X.A.in1.in1.units ≤ X.A.units + 8 := by show X.A.units + _ + _ ≤ _; omega
    omega
  · have h3 : ∀ u ∈ out, ∃ a, u = Value.ref a := fun u hu => e2 u (h2.perm.mem_iff.mp
        hu)
    have eb : out.map backV = (out.map fun v => adr (backV v)).map V.ref := by
      rw [List.map_map]
      refine List.map_congr_left fun v hv => ?_
      obtain ⟨t, rfl⟩ := h3 v hv
      rfl
    have ea : as = its.map fun v => adr (backV v) := by
      have z := congrArg (List.map adr) e1
      rw [List.map_map, List.map_map] at z
      have z1 : as.map (adr ∘ V.ref) = as := by
        exact (List.map_congr_left (g := id) (fun _ _ => rfl)).trans (List.map_id _)
      rw [z1] at z
      exact z
    have hq := q (out.map fun v => adr (backV v)) (s.heap.objs.size + 1) (by rw [ea]; exact h2.perm.map _) (List.pairwise_map.mpr h1) (I.hok.fresh (Nat.le_succ _))
    obtain ⟨n, hn⟩ := sortedAll_at s.heap its out.toArray
    have ok : ObjOk X.prog X.w (upd H (s.heap.objs.size + 1) (.lst ((out.map fun v => adr (backV v)).map V.ref))) (sortedAll s.heap its out.toArray) (s.heap.objs.size + 1) (.lst ((out.map fun v => adr (backV v)).map V.ref)) := by
      refine ⟨?_, out, n, ?_, hn⟩
      · rw [← eb, List.length_map, h2.perm.length_eq, ← rv.length]
        exact hz
      · rw [← eb]; exact vals_back h3
    exact ⟨.ref (s.heap.objs.size + 1), _, I.laid (t' := s.toks) (fun b o e => sortedAll_old e) (Nat.le_succ _) ok, rfl, hq⟩
    /-
    · rw [← eb, List.length_map, h2.perm.length_eq, ← rv.length]
      exact hz
    · rw [← eb]; exact vals_back h3 -/
end Rs

set_option Elab.async false
set_option linter.all false
set_option maxRecDepth 100000
set_option maxHeartbeats 2000000
/-! comprehensions by what they make; data at two depths -/
namespace Rd
open PySem PySem.Spec PyProof.Rows L2
/-- what is walked stands still and gives these values -/
structure Src (J : It) (xs : List V) (H : Hp) : Prop where
  go : ∀ (H1 : Hp) (i : Nat), Same H H1 → i < xs.length → J.go i H1
  yld : ∀ (H1 : Hp) (i : Nat) (x : V) (H' : Hp), Same H H1 → J.yld i H1 x H' → H' = H1 ∧ (i < xs.length → xs[i]? = some x)
  stop : ∀ (H1 : Hp), Same H H1 → J.stop xs.length H1
theorem src_list {K : PySem.W.Frag} {a : Addr} {xs : List V} {H : Hp} (h : SqL K H a xs) : Src (Itl K a) xs H where
  go := fun H1 i e hi => ⟨xs, xs[i], Same.seq e h, List.getElem?_eq_getElem hi⟩
  yld := fun H1 i x H' e y => ⟨y.1, fun _ => y.2 xs (Same.seq e h)⟩
  stop := fun H1 e => ⟨xs, Same.seq e h, Nat.le_refl _⟩
theorem src_tup {K : PySem.W.Frag} {a : Addr} {xs : List V} {H : Hp} (h : SqT K H a xs) : Src (Itt K a) xs H where
  go := fun H1 i e hi => ⟨xs, xs[i], same_t e h, List.getElem?_eq_getElem hi⟩
  yld := fun H1 i x H' e y => ⟨y.1, fun _ => y.2 xs (same_t e h)⟩
  stop := fun H1 e => ⟨xs, same_t e h, Nat.le_refl _⟩
def rgL (lo : Int) (n : Nat) : List V := (List.range n).map fun i => V.int (lo + (i : Nat))
theorem rgL_len (lo : Int) (n : Nat) : (rgL lo n).length = n := by unfold rgL; rw [List.length_map, List.length_range]
theorem rgL_get {lo : Int} {n i : Nat} (h : i < n) : (rgL lo n)[i]? = some (.int (lo + (i : Nat))) := by
  unfold rgL
  rw [List.getElem?_map, List.getElem?_range h]; rfl
theorem src_rng (lo : Int) (n : Nat) (H : Hp) : Src (Itr lo n) (rgL lo n) H where
  go := fun H1 i e hi => by rw [rgL_len] at hi; exact hi
  yld := fun H1 i x H' e y => ⟨y.1, fun hi => by rw [rgL_len] at hi; rw [rgL_get hi, y.2]⟩
  stop := fun H1 e => by rw [rgL_len]; exact Nat.le_refl _
section
variable {J : It} {xs : List V} {j : Nat} {te : TE} {vs : List Nat} {σ : L2.St} {H : Hp} {Q : VK} {D : Addr} {Qd : Addr → Hp → Prop}
theorem tyes {P : Bool → Hp → Prop} (h : P true H) : tYes σ H P := h
theorem lc {wi : TI} {g : TG} {tt : TT} (h : wi σ H fun J H1 => ∀ D, H1 D = none → ∃ W : Nat → Nat → Hp → Prop, (∃ m, W 0 m (upd H1 D (.lst []))) ∧ ∀ i m H, W i m H →
  (J.stop i H ∧ Q (.ref D) H) ∨ (J.go i H ∧ ∃ Nx : Hp → Prop, (∀ H', Nx H' → ∃ m', m' < m ∧ W (i + 1) m' H')
        ∧ ∀ x H', J.yld i H x H' → g x (wipe σ vs) H' fun σ2 H2 => wipe σ2 vs = wipe σ vs ∧ tt σ2 H2 fun b H3 =>
    if b = true then te σ2 H3 fun y H4 => ∃ acc, H4 D = some (.lst acc) ∧ acc.length < sizeLine ∧ Nx (upd H4 D (.lst (acc ++ [y]))) else Nx H3)) : tLc wi g tt te vs σ H Q := h
/-- a comprehension without a test: what holds of the list so far -/
theorem lcOf (S : Src J xs H) (hz : xs.length ≤ 100000) (hw : ∀ x : V, wipe ((wipe σ vs).set j (some x)) vs = wipe σ vs) (hD : H D = none) (P : List V → Hp → Prop)
    (h0 : P [] (upd H D (.lst [])))
    (hs : ∀ (x : V) (acc : List V) (H1 : Hp), xs[acc.length]? = some x → Same H H1 → H1 D = some (.lst acc) → P acc H1 →
      te ((wipe σ vs).set j (some x)) H1 fun y H2 => Same H1 H2 ∧ P (acc ++ [y]) (upd H2 D (.lst (acc ++ [y]))))
    (hq : ∀ (acc : List V) (H1 : Hp), acc.length = xs.length → Same H H1 → H1 D = some (.lst acc) → P acc H1 → Qd D H1)
    (mono : ∀ (σ : L2.St) (H : Hp) (Q Q' : VK), (∀ y H1, Q y H1 → Q' y H1) → te σ H Q → te σ H Q') :
    ∃ W : Nat → Nat → Hp → Prop, (∃ m, W 0 m (upd H D (.lst []))) ∧ ∀ i m H, W i m H →
      (J.stop i H ∧ Qd D H) ∨ (J.go i H ∧ ∃ Nx : Hp → Prop, (∀ H', Nx H' → ∃ m', m' < m ∧ W (i + 1) m' H') ∧ ∀ x H', J.yld i H x H' → gName j x (wipe σ vs) H' fun σ2 H2 => wipe σ2 vs = wipe σ vs ∧ tYes σ2 H2 fun b H3 =>
        if b = true then te σ2 H3 fun y H4 => ∃ acc, H4 D = some (.lst
              acc) ∧ acc.length < sizeLine ∧ Nx (upd H4 D (.lst (acc ++ [y]))) else Nx H3) := by
  refine ⟨fun i m H1 => m = xs.length - i ∧ i ≤ xs.length ∧ ∃ acc, acc.length = i ∧ Same H H1 ∧ H1 D = some (.lst acc) ∧ P acc H1, ⟨xs.length, rfl, Nat.zero_le _, [], rfl, same_mk hD, upd_same, h0⟩, ?_⟩
  rintro i m H1 ⟨rfl, hi, acc, rfl, e, hacc, p⟩
  by_cases c : acc.length < xs.length
  · refine .inr ⟨S.go H1 _ e c, fun H' => ∃ m', m' < xs.length - acc.length ∧ (m' = xs.length - (acc.length + 1) ∧ acc.length + 1 ≤ xs.length ∧ ∃ acc', acc'.length = acc.length + 1 ∧ Same H H' ∧ H' D = some (.lst acc') ∧ P acc' H'), fun H' z => z, fun x H' y => ?_⟩
    obtain ⟨rfl, hx⟩ := S.yld H1 _ x H' e y
    refine ⟨hw x, ?_⟩
    refine tyes (iteT ?_)
    refine mono _ _ _ _ (fun y H2 z => ?_) (hs x acc H' (hx c) e hacc p)
    obtain ⟨s2, p2⟩ := z
    refine ⟨acc, s2 _ _ hacc, Nat.lt_of_lt_of_le (by omega : acc.length < 100000) (by decide), xs.length - (acc.length + 1), by omega, rfl, by omega, acc ++ [y], by simp, ?_, upd_same, p2⟩
    exact same_mut (Same.trans e s2) hD
  · have e1 : acc.length = xs.length := by omega
    refine .inl ⟨?_, hq acc H1 e1 e hacc p⟩
    rw [e1]; exact S.stop H1 e
/-- each element is reckoned to a value that needs no heap -/
theorem lcMap (f : Nat → V) (S : Src J xs H) (hz : xs.length ≤ 100000) (hw : ∀ x : V, wipe ((wipe σ vs).set j (some x)) vs = wipe σ vs)
    (hs : ∀ (n : Nat) (x : V) (H1 : Hp) (Q1 : VK), xs[n]? = some x → Same H H1 → (∀ H2, Same H1 H2 → Q1 (f n) H2) → te ((wipe σ vs).set j (some x)) H1 Q1)
    (hq : ∀ (p : Addr) (H1 : Hp), H p = none → Same H H1 → H1 p = some (.lst ((List.range xs.length).map f)) → Qd p H1)
    (D : Addr) (hD : H D = none) :
    ∃ W : Nat → Nat → Hp → Prop, (∃ m, W 0 m (upd H D (.lst []))) ∧ ∀ i m H, W i m H →
      (J.stop i H ∧ Qd D H) ∨ (J.go i H ∧ ∃ Nx : Hp → Prop, (∀ H', Nx H' → ∃ m', m' < m ∧ W (i + 1) m' H') ∧ ∀ x H', J.yld i H x H' → gName j x (wipe σ vs) H' fun σ2 H2 => wipe σ2 vs = wipe σ vs ∧ tYes σ2 H2 fun b H3 =>
        if b = true then te σ2 H3 fun y H4 => ∃ acc, H4 D = some (.lst
              acc) ∧ acc.length < sizeLine ∧ Nx (upd H4 D (.lst (acc ++ [y]))) else Nx H3) := by
  refine ⟨fun i m H1 => m = xs.length - i ∧ i ≤ xs.length ∧ Same H H1 ∧ H1 D = some (.lst ((List.range i).map f)), ⟨xs.length, rfl, Nat.zero_le _, same_mk hD, upd_same⟩, ?_⟩
  rintro i m H1 ⟨rfl, hi, e, hacc⟩
  by_cases c : i < xs.length
  · refine .inr ⟨S.go H1 _ e c, fun H' => Same H H' ∧ H' D = some (.lst ((List.range (i + 1)).map f)), fun H' z => ⟨xs.length - (i + 1), by omega, rfl, c, z⟩, fun x H' y => ?_⟩
    obtain ⟨rfl, hx⟩ := S.yld H1 _ x H' e y
    refine ⟨hw x, ?_⟩
    refine tyes (iteT ?_)
    refine hs i x H' _ (hx c) e fun H2 s2 => ?_
    refine ⟨_, s2 _ _ hacc, ?_, same_mut (Same.trans e s2) hD, ?_⟩
    · rw [List.length_map,
          List.length_range]
      exact Nat.lt_of_lt_of_le (by omega : i < 100000) (by decide)
    · rw [upd_same, List.range_succ, List.map_append]; rfl
  · have e1 : i = xs.length := by omega
    subst e1
    exact .inl ⟨S.stop H1 e, hq D H1 hD e hacc⟩
/-- each element is a new object -/
theorem lcNew (obj : Nat → HO → Prop) (S : Src J xs H) (hz : xs.length ≤ 100000) (hw : ∀ x : V, wipe ((wipe σ vs).set j (some x)) vs = wipe σ vs)
    (hs : ∀ (n : Nat) (x : V) (H1 : Hp) (Q1 : VK), xs[n]? = some x → Same H H1 → (∀ (p : Addr) (H2 : Hp) (o : HO), H1 p = none → Same H1 H2 → H2 p = some o → obj n o → Q1 (.ref p) H2) → te ((wipe σ vs).set j (some x)) H1 Q1)
    (hq : ∀ (p : Addr) (as : List Addr) (H1 : Hp), H p = none → Same H H1 → H1 p = some (.lst (as.map V.ref)) → as.length = xs.length → (∀ (n : Nat) (a : Addr), as[n]? = some a → (∃ o, H1 a = some o ∧ obj n o) ∧ H a = none ∧ a ≠ p) → as.Nodup → Qd p H1)
    (D : Addr) (hD : H D = none) :
    ∃ W : Nat → Nat → Hp → Prop, (∃ m, W 0 m (upd H D (.lst []))) ∧ ∀ i m H, W i m H →
      (J.stop i H ∧ Qd D H) ∨ (J.go i H ∧ ∃ Nx : Hp → Prop, (∀ H', Nx H' → ∃ m', m' < m ∧ W (i + 1) m' H') ∧ ∀ x H', J.yld i H x H' → gName j x (wipe σ vs) H' fun σ2 H2 => wipe σ2 vs = wipe σ vs ∧ tYes σ2 H2 fun b H3 =>
        if b = true then te σ2 H3 fun y H4 => ∃ acc, H4 D = some (.lst
              acc) ∧ acc.length < sizeLine ∧ Nx (upd H4 D (.lst (acc ++ [y]))) else Nx H3) := by
  refine ⟨fun i m H1 => m = xs.length - i ∧ i ≤ xs.length ∧ ∃ as : List Addr, as.length = i ∧ Same H H1 ∧ H1 D = some (.lst (as.map V.ref)) ∧ (∀ (n : Nat) (a : Addr), as[n]? = some a → (∃ o, H1 a = some o ∧ obj n o) ∧ H a = none ∧ a ≠ D) ∧ as.Nodup,
    ⟨xs.length, rfl, Nat.zero_le _, [], rfl, same_mk hD, upd_same, fun n a h => by simp at h, List.nodup_nil⟩, ?_⟩
  rintro i m H1 ⟨rfl, hi, as, rfl, e, hacc, ho, nd⟩
  by_cases c : as.length < xs.length
  · refine .inr ⟨S.go H1 _ e c, fun H' => ∃ as' : List Addr, as'.length = as.length + 1 ∧ Same H H' ∧ H' D = some (.lst (as'.map V.ref)) ∧ (∀ (n : Nat) (a : Addr), as'[n]? = some a → (∃ o, H' a = some o ∧ obj n o) ∧ H a = none ∧ a ≠ D) ∧ as'.Nodup,
      fun H' z => ⟨xs.length - (as.length + 1), by omega, rfl, c, z⟩, fun x H' y => ?_⟩
    obtain ⟨rfl, hx⟩ := S.yld H1 _ x H' e y
    refine ⟨hw x, ?_⟩
    refine tyes (iteT ?_)
    refine hs as.length x H' _ (hx c) e fun p H2 ob hp s2 h2 hob => ?_
    have npD : p ≠ D := fun z => by rw [z, hacc] at hp; cases hp
    have pn : p ∉ as := fun hm => by
      obtain ⟨n, hn⟩ := List.getElem?_of_mem hm
      obtain ⟨_, w, _⟩ := (ho n p hn).1
      rw [w] at hp; cases hp
    refine ⟨_, s2 _ _ hacc, ?_, as ++ [p], by simp, same_mut (Same.trans e s2) hD, by rw [upd_same, List.map_append]; rfl, fun n a hn => ?_, ?_⟩
    · rw [List.length_map]
      exact Nat.lt_of_lt_of_le (by omega : as.length < 100000) (by decide)
    · by_cases q : n < as.length
      · rw [List.getElem?_append_left q] at hn
        obtain ⟨⟨o1, a1, b1⟩, a2, a3⟩ := ho n a hn
        exact ⟨⟨o1, by rw [upd_ne a3]; exact s2 _ _ a1, b1⟩, a2, a3⟩
      · rw [List.getElem?_append_right (by omega)] at hn
        have q0 : n - as.length = 0 := by
          apply Classical.byContradiction
          intro z
          rw [List.getElem?_eq_none (by simp; omega)] at hn
          cases hn
        rw [q0] at hn
        cases hn
        have q1 : n = as.length := by omega
        rw [q1]
        exact ⟨⟨ob, by rw [upd_ne npD]; exact h2, hob⟩, Same.free e hp, npD⟩
    · refine List.nodup_append.mpr ⟨nd, by simp, fun a ha b hb => ?_⟩
      rw [List.mem_singleton.mp hb]
      intro z
      rw [z] at ha
      exact pn ha
  · have e1 : as.length = xs.length := by omega
    refine .inl ⟨?_, hq D as H1 hD e hacc e1 ho nd⟩
    rw [e1]; exact S.stop H1 e
end
theorem enT {K : PySem.W.Frag} {ta : TA} {σ : L2.St} {H : Hp} {R : It → Hp → Prop} (h : ta σ H fun vs H1 => ∃ a xs, vs = [.ref a] ∧ SqT K H1 a xs ∧ R (Rx.IteT K a) H1) : Rx.iEnumT K ta σ H R := h
theorem enL {K : PySem.W.Frag} {ta : TA} {σ : L2.St} {H : Hp} {R : It → Hp → Prop} (h : ta σ H fun vs H1 => ∃ a xs, vs = [.ref a] ∧ SqL K H1 a xs ∧ R (Ite K a) H1) : iEnum K ta σ H R := h
/-! ### data: lists of ints, lists of lists of ints, tuples of them -/
def iL (ns : List Int) : PyData := .list (ns.map .int)
def iT (ns : List Int) : PyData := .tuple (ns.map .int)
theorem dpInts {K : PySem.W.Frag} {H : Hp} : ∀ ns : List Int, DpAll K H (ns.map V.int) (ns.map .int)
  | [] => .nil
  | n :: ns => .cons (.int n) (dpInts ns)
theorem dpL {K : PySem.W.Frag} {H : Hp} {a : Addr} {ns : List Int} (h : SqL K H a (ns.map V.int)) : Dp K H (.ref a) (iL ns) := .lst h (dpInts ns)
theorem dpT {K : PySem.W.Frag} {H : Hp} {a : Addr} {ns : List Int} (h : SqT K H a (ns.map V.int)) : Dp K H (.ref a) (iT ns) := .tup h (dpInts ns)
theorem layInts : ∀ ns : List Int, PyData.canLayAll0 (ns.map PyData.int) = true
  | [] => by simp
        [PyData.canLayAll0]
  | n :: ns => by simp [PyData.canLayAll0, PyData.canLay0, layInts ns]
theorem depInts : ∀ ns : List Int, PyData.depthAll (ns.map PyData.int) ≤ 1
  | [] => by simp
        [PyData.depthAll]
  | n :: ns => by
    have := depInts ns
    simp only [List.map_cons,
          PyData.depthAll, PyData.depth]
    omega
theorem iL_shaped (ns : List Int) : SeqAt.shaped (iL ns) = true := by
  have h := depInts ns
  show (PyData.canLay0 (iL ns) && decide (PyData.depth (iL ns) ≤ 64)) = true
  rw [Bool.and_eq_true]
  refine ⟨by simp only [iL, PyData.canLay0]; exact layInts ns, decide_eq_true ?_⟩
  simp only [iL, PyData.depth]; omega
theorem iT_shaped (ns : List Int) : SeqAt.shaped (iT ns) = true := by
  have h := depInts ns
  show (PyData.canLay0 (iT ns) && decide (PyData.depth (iT ns) ≤ 64)) = true
  rw [Bool.and_eq_true]
  refine ⟨by simp only [iT, PyData.canLay0]; exact layInts ns, decide_eq_true ?_⟩
  simp only [iT, PyData.depth]; omega
theorem eqvInts : ∀ ns ms : List Int, PyData.eqvAll (ns.map .int) (ms.map .int) = decide (ns = ms)
  | [], [] => by simp
        [PyData.eqvAll]
  | [], _ :: _ =>
        by simp [PyData.eqvAll]
  | _ :: _, [] =>
        by simp [PyData.eqvAll]
  | n :: ns, m :: ms => by
    have ih := eqvInts ns ms
    simp only [List.map_cons, PyData.eqvAll, PyData.eqv, ih]
    by_cases h : n = m
    · subst h; simp
    · simp [h]
theorem iL_eqv (ns ms : List Int) : PyData.eqv (iL ns) (iL ms) = decide (ns = ms) := by simp only [iL, PyData.eqv]; exact eqvInts ns ms
theorem iT_eqv (ns ms : List Int) : PyData.eqv (iT ns) (iT ms) = decide (ns = ms) := by simp only [iT, PyData.eqv]; exact eqvInts ns ms
def lL (t : List (List Int)) : PyData := .list (t.map iL)
def tT (t : List (List Int)) : PyData := .tuple (t.map iT)
theorem layLL : ∀ t : List (List Int), PyData.canLayAll0 (t.map iL) = true
  | [] => by simp
        [PyData.canLayAll0]
  | r :: t => by
    have h : PyData.canLay0 (iL r) = true := by simp only [iL, PyData.canLay0]; exact layInts r
    simp [PyData.canLayAll0, h, layLL t]
theorem layTT : ∀ t : List (List Int), PyData.canLayAll0 (t.map iT) = true
  | [] => by simp
        [PyData.canLayAll0]
  | r :: t => by
    have h : PyData.canLay0 (iT r) = true := by simp only [iT, PyData.canLay0]; exact layInts r
    simp [PyData.canLayAll0, h, layTT t]
theorem depLL : ∀ t : List (List Int), PyData.depthAll (t.map iL) ≤ 3
  | [] => by simp
        [PyData.depthAll]
  | r :: t => by
    have h1 := depLL t
    have h2 := depInts r
    have h3 : (iL r).depth = 1 + PyData.depthAll (r.map PyData.int) ∨ (iL r).depth = PyData.depthAll (r.map PyData.int) + 1 := by
      simp only [iL, PyData.depth]; omega
    simp only [List.map_cons,
          PyData.depthAll]
    omega
theorem depTT : ∀ t : List (List Int), PyData.depthAll (t.map iT) ≤ 3
  | [] => by simp
        [PyData.depthAll]
  | r :: t => by
    have h1 := depTT t
    have h2 := depInts r
    have h3 : (iT r).depth = 1 + PyData.depthAll (r.map PyData.int) ∨ (iT r).depth = PyData.depthAll (r.map PyData.int) + 1 := by
      simp only [iT, PyData.depth]; omega
    simp only [List.map_cons,
          PyData.depthAll]
    omega
theorem lL_shaped (t : List (List Int)) : SeqAt.shaped (lL t) = true := by
  have h := depLL t
  show (PyData.canLay0 (lL t) && decide (PyData.depth (lL t) ≤ 64)) = true
  rw [Bool.and_eq_true]
  refine ⟨by simp only [lL, PyData.canLay0]; exact layLL t, decide_eq_true ?_⟩
  simp only [lL, PyData.depth]; omega
theorem tT_shaped (t : List (List Int)) : SeqAt.shaped (tT t) = true := by
  have h := depTT t
  show (PyData.canLay0 (tT t) && decide (PyData.depth (tT t) ≤ 64)) = true
  rw [Bool.and_eq_true]
  refine ⟨by simp only [tT, PyData.canLay0]; exact layTT t, decide_eq_true ?_⟩
  simp only [tT, PyData.depth]; omega
theorem eqvLL : ∀ t u : List (List Int), PyData.eqvAll (t.map iL) (u.map iL) = decide (t = u)
  | [], [] => by simp
        [PyData.eqvAll]
  | [], _ :: _ =>
        by simp [PyData.eqvAll]
  | _ :: _, [] =>
        by simp [PyData.eqvAll]
  | r :: t, q :: u => by
    have ih := eqvLL t u
    simp only [List.map_cons, PyData.eqvAll, iL_eqv, ih]
    by_cases h : r = q
    · subst h; simp
    · simp [h]
theorem eqvTT : ∀ t u : List (List Int), PyData.eqvAll (t.map iT) (u.map iT) = decide (t = u)
  | [], [] => by simp
        [PyData.eqvAll]
  | [], _ :: _ =>
        by simp [PyData.eqvAll]
  | _ :: _, [] =>
        by simp [PyData.eqvAll]
  | r :: t, q :: u => by
    have ih := eqvTT t u
    simp only [List.map_cons, PyData.eqvAll, iT_eqv, ih]
    by_cases h : r = q
    · subst h; simp
    · simp [h]
theorem lL_eqv (t u : List (List Int)) : PyData.eqv (lL t) (lL u) = decide (t = u) := by simp only [lL, PyData.eqv]; exact eqvLL t u
theorem tT_eqv (t u : List (List Int)) : PyData.eqv (tT t) (tT u) = decide (t = u) := by simp only [tT, PyData.eqv]; exact eqvTT t u
section
variable {K : PySem.W.Frag} {H : Hp} {Q : VK} {a b : Addr} {ns ms : List Int}
theorem eqLL (h1 : SqL K H a (ns.map V.int)) (h2 : SqL K H b (ms.map V.int)) (h : Q (.bl (decide (ns = ms))) H) : rEqD K (.ref a) (.ref b) H Q := ⟨_, _, dpL h1, dpL h2, iL_shaped _, iL_shaped _, by rw [iL_eqv]; exact h⟩
theorem neLL (h1 : SqL K H a (ns.map V.int)) (h2 : SqL K H b (ms.map V.int)) (h : Q (.bl (!decide (ns = ms))) H) : rNeD K (.ref a) (.ref b) H Q := ⟨_, _, dpL h1, dpL h2, iL_shaped _, iL_shaped _, by rw [iL_eqv]; exact h⟩
theorem eqTT (h1 : SqT K H a (ns.map V.int)) (h2 : SqT K H b (ms.map V.int)) (h : Q (.bl (decide (ns = ms))) H) : rEqD K (.ref a) (.ref b) H Q := ⟨_, _, dpT h1, dpT h2, iT_shaped _, iT_shaped _, by rw [iT_eqv]; exact h⟩
theorem neTT (h1 : SqT K H a (ns.map V.int)) (h2 : SqT K H b (ms.map V.int)) (h : Q (.bl (!decide (ns = ms))) H) : rNeD K (.ref a) (.ref b) H Q := ⟨_, _, dpT h1, dpT h2, iT_shaped _, iT_shaped _, by rw [iT_eqv]; exact h⟩
end
end Rd

set_option Elab.async false
set_option linter.all false
set_option maxRecDepth 100000
set_option maxHeartbeats 2000000
/-! defs, methods, classes as they are called; what they raise -/
namespace Rd
open PySem PySem.Spec PyProof.Rows L2
theorem fnUp {P : Program} {w : World} {K : PySem.W.Frag} {mg : Str → Option Value} {base : Heap} {CX : CXT} {k : Nat} {f : Addr} {fd : FuncData} {ps : List Str} {sp : Sp} (F : FnOk P w K mg base CX0 k f fd ps sp) : FnOk P w K mg base CX k f fd ps sp :=
  ⟨F.len, fun A outer s H args us vs Q E hr he hb hv hs => codeAny_mono (F.run A outer s H args us vs Q E hr he hb hv hs) fun r s' h => by
    cases r with
    | ok fl => cases fl <;> exact h
    | error e => exact False.elim h⟩
/-- a method of
      the class at C -/
structure MOk (P : Program) (w : World) (K : PySem.W.Frag) (mg : Str → Option Value) (base : Heap) (CX : CXT) (C : Addr) (m : Str) (k : Nat) (ps : List Str) (sp : Sp) : Prop where
  cl : Cls K C
  ok : ∃ f fd, Meth K C m f ∧ FnOk P w K mg base CX k f fd ps sp ∧ Binds K fd ps []
/-- a class that is made by its __init__ -/
structure KOk (P : Program) (w : World) (K : PySem.W.Frag) (mg : Str → Option Value) (base : Heap) (CX : CXT) (x : Str) (C : Addr) (k : Nat) (ps : List Str) (sp : Sp) : Prop where
  ok : ∃ f fd, Mk K C f ∧ FnOk P w K mg base CX k f fd ps sp ∧ mg x = some (.ref C) ∧ Binds K fd ps []
section
variable {X : Cx} {x m : Str} {p pos apos : Pos} {e o : Expr} {es : List Expr} {ts : TA} {ta : TE} {k : Nat} {ps : List Str} {sp : Sp} {CX : CXT} {E : XK} {C : Addr}
/-- what a def lets out, its callee's too -/
theorem passX {E₁ : Value → Shared → Prop} (hs : X.stack = X.env :: X.outer) (hf : X.env.frame = some X.env.locals) (hex : X.ex = [])
    (hx : X.xe = fun e s' => wpAny (model X.prog X.w) X.A (leaving X.env e) (fun _ s'' => L2.CX X.prog X.w X.outer X.H_0 X.s_0 E e s'') E₁ s') : Passes (L2.CX X.prog X.w) X E :=
  passes_call (takes_of hs hf hex hx) fun _ _ _ _ h => h
theorem passN {X : Cx} {CX : CXT} (h : Passes CX X E0 := by first | exact pass0 | exact passL) : Passes CX X E0 := h
theorem callX (D : DOk X.prog X.w X.K X.mg X.base CX x k ps sp) (hr : Room k X.A) (hx : Passes CX X E) (ha : PA X (e :: es) ts) (hg : Gl X x := by rfl) (hdb : (x == ("__debug__" : Str)) = false := by decide)
    (he : starEach (e :: es) X.env = (false, eval e X.env) :: starEach es X.env :=
          by rfl) (hpl : (backTo pos (starEach es X.env)).any (·.1) = false := by rfl) :
    PE X (.Call (.Name x p) (e :: es) [] pos) (tCall sp [] E ts) := by
  obtain ⟨f, fd, F, hm, hk, hb⟩ := D.ok
  exact pe_call F hr hg hm hk hb .nil hx ha hdb he hpl
theorem callX0 (D : DOk X.prog X.w X.K X.mg X.base CX x k ps sp) (hr : Room k X.A) (hx : Passes CX X E) (hg : Gl X x := by rfl) (hdb : (x == ("__debug__" : Str)) = false := by decide) :
    PE X (.Call (.Name x p) [] [] pos) (tCall sp [] E tNil) := by
  obtain ⟨f, fd, F, hm, hk, hb⟩ := D.ok
  exact pe_call0 F hr hg hm hk hb .nil hx hdb
theorem methX {pl : Sem Bool} (M : MOk X.prog X.w X.K X.mg X.base CX C m k ps sp) (hr : Room k X.A) (hx : Passes CX X E) (he : PE X o ta) (ha : PA X (e :: es) ts)
    (hst : starEach (e :: es) X.env = (false, eval e X.env) :: starEach es X.env :=
          by rfl) (hpl : (backTo pos (starEach es X.env)).any (·.1) = false := by rfl)
    (ht : eval (.Call (.Attribute o m
          apos) (e :: es) [] pos) X.env = (do
      let ov ← eval o X.env
      standAt apos.atName
      let (f, first) ← holding [ov] (getMethod
            ov m pl)
      callWith pos f first (backTo pos (starEach (e :: es)
            X.env)) (backToKw pos (keywordEach [] X.env))) := by rfl) :
    PE X (.Call (.Attribute o m apos) (e :: es) [] pos) (tMeth C m sp [] E ta ts) := by
  obtain ⟨f, fd, hm, F, hb⟩ := M.ok
  exact pe_meth he M.cl hm F hr hb .nil hx ha hst hpl ht
theorem methX0 {pl : Sem Bool} (M : MOk X.prog X.w X.K X.mg X.base CX C m k ps sp) (hr : Room k X.A) (hx : Passes CX X E) (he : PE X o ta)
    (ht : eval (.Call (.Attribute o
          m apos) [] [] pos) X.env = (do
      let ov ← eval o X.env
      standAt apos.atName
      let (f, first) ← holding [ov] (getMethod
            ov m pl)
      callWith pos f first [] []) := by rfl) : PE X (.Call (.Attribute o m apos) [] [] pos) (tMeth C m sp [] E ta tNil) := by
  obtain ⟨f, fd, hm, F, hb⟩ := M.ok
  exact pe_meth0 he M.cl hm F hr hb .nil hx ht
theorem makeX (D : KOk X.prog X.w X.K X.mg X.base CX x C k ps sp) (hr : Room (k + 1) X.A) (hx : Passes CX X E) (ha : PA X (e :: es) ts) (hg : Gl X x := by rfl) (hdb : (x == ("__debug__" : Str)) = false := by decide)
    (he : starEach (e :: es) X.env = (false, eval e X.env) :: starEach es X.env :=
          by rfl) (hpl : (backTo pos (starEach es X.env)).any (·.1) = false := by rfl) :
    PE X (.Call (.Name x p) (e :: es) [] pos) (tMake C sp [] E ts) := by
  obtain ⟨f, fd, M, F, hm, hb⟩ := D.ok
  exact pe_make M F hr hg hm hb .nil hx ha hdb he hpl
end
/-- what the head tells of an error's class -/
structure ExF (K : PySem.W.Frag) (mg : Str → Option Value) (x : Str) (C : Addr) : Prop where
  gP : mg x = some (.ref C)
  xP : PySem.W.excIn K C [.type "ValueError", .type "Exception", .type "BaseException", .type "object"] "ValueError.__new__" = true
  kP : PySem.W.keepIn K (.ref C) = true
  bP : PySem.W.subIn K (.ref C) (.type "BaseException") = some true
  tP : PySem.W.typeIn K (.ref C) = some (.type "type")
section
variable {D : Ends} {σ : L2.St} {H : Hp} {ta tv : TE} {Q : VK} {K : PySem.W.Frag} {f : Str} {a C dx : Addr} {fs : List (Str × V)} {v : V}
theorem fld (h : ta σ H fun x H1 => ∃ a C dx fs v, x = .ref a ∧ H1 a = some (.ins C dx fs) ∧ Cls K C ∧ NoAttr K C f ∧ fs.lookup f = some v ∧ Q v H1) : tFld K ta f σ H Q := h
theorem fld' {P : V → Prop} (h1 : H a = some (.ins C dx fs)) (c : Cls K C) (n : NoAttr K C f) (hl : fs.lookup f = some v) (h : P v) : ∃ b C dx fs v, V.ref a = .ref b ∧ H b = some (.ins C dx fs) ∧ Cls K C ∧ NoAttr K C f ∧ fs.lookup f = some v ∧ P v :=
  ⟨a, C, dx, fs, v, rfl, h1, c, n, hl, h⟩
theorem sfld (h : tv σ H fun y H1 => ta σ H1 fun x H2 => ∃ a C dx fs, x = .ref a ∧ H2 a = some (.ins C dx fs) ∧ Cls K C ∧ NoAttr K C f ∧ fs.length < 1000 ∧ D.nx σ (upd H2 a (.ins C dx (putF f y fs)))) : sFld K ta tv f D σ H := h
theorem meth {m : Str} {sp : Sp} {E : XK} {ts : TA} (h : ta σ H fun x H1 => ∃ a dx fs, x = .ref a ∧ H1 a = some (.ins C dx fs) ∧ fs.lookup m = none ∧ ts σ H1 fun vs H2 => sp (x :: (vs ++ [])) H2 Q E) : tMeth C m sp [] E ta ts σ H Q := h
theorem make {sp : Sp} {E : XK} {ts : TA} (h : ts σ H fun vs H1 => ∀ x dx, H1 x = none → H1 dx = none → dx ≠ x → sp (.ref x :: (vs ++ [])) (upd (upd H1 dx (.own x)) x (.ins C dx [])) (fun v H2 => v = .non ∧ Q (.ref x) H2) E) : tMake C sp [] E ts σ H Q := h
end
end Rd
namespace Rd
open PySem PySem.Spec PyProof.Rows L2
/-- t.index(n), t a tuple of ints that has it -/
theorem mt_tup_indexI {X : Cx} : MtR X "tuple.index" (fun x xs H Q => ∃ p, ∃ ys : List Int, ∃ (z : Int) (j : Nat), x = .ref p ∧ xs = [.int z] ∧ SqT X.K H p (ys.map V.int) ∧ ys[j]? = some z ∧ (∀ m, m < j → ys[m]? ≠ some z) ∧ Q (.int (j : Nat)) H) := by
  intro pins s σ H x
        xs v us Q I rx rs h
  obtain ⟨p, ys, z, j, rfl,
        rfl, hq, hy, hno, q⟩ := h
  cases rx
  obtain ⟨u, rfl, t,
        rfl⟩ := vals1 rs
  obtain ⟨its, r, pl,
        hz⟩ := I.tuple hq
  obtain ⟨⟨cls, dd, dt,
        sl⟩, ho, hc, n, hd⟩ := pl
  simp only at hc hd
  subst hc
  subst hd
  have nn := Rs.nums_of r
  have hj : j < its.toArray.size := by rw [nn.1]; exact (List.getElem?_eq_some_iff.mp hy).1
  have fl : (ys.map V.int).all flatV = true := by rw [List.all_map]; exact List.all_eq_true.mpr fun _ _ => rfl
  have get : ∀ (m : Nat) (hm : m < its.toArray.size), ∃ y t', ys[m]? = some y ∧ its.toArray[m] = Value.int y t' := fun m hm => by
    have hm' : m < ys.length := by rw [← nn.1]; exact hm
    obtain ⟨t', e⟩ := nn.2 m ys[m] (List.getElem?_eq_getElem hm')
    refine ⟨ys[m], t',
          List.getElem?_eq_getElem hm', ?_⟩
    have := (Array.getElem?_eq_some_iff.mp e).2
    exact this
  refine call_meets PySem.F.slot_tuple_index ⟨_, ho, rfl⟩ PySem.F.entry_tuple_index (PySem.F.args_tuple_index_2 _ _) (TI.tuple_indexAt p its.toArray n dd sl (.int z t) (eqU (.int z)) j hj ?_ ?_)
    ⟨ho, fun w hw => mem_eqAt (x := .int z) ⟨t, rfl⟩ rfl r fl w (by simpa using hw), ⟨.int (j : Nat), H, I.tok _, ⟨_, rfl⟩, q⟩⟩
  · obtain ⟨y, t', h1, h2⟩ := get j hj
    rw [hy] at h1
    cases h1
    rw [h2]
    show (z == z) = true
    exact beq_self_eq_true z
  · intro m hm hmj
    obtain ⟨y, t', h1, h2⟩ := get m hm
    rw [h2]
    show (y == z) = false
    exact beq_eq_false_iff_ne.mpr fun e => hno m hmj (e
          ▸ h1)
theorem un64 {k : Nat} {A : Around} (hr : Room k A) : A.units + 64 < cLine := by have := hr.un; omega
theorem un8 {k : Nat} {A : Around} (hr : Room k A) : A.units + 8 < cLine := by have := hr.un; omega
theorem un65 {k : Nat} {A : Around} (hr : Room k A) : A.units + 65 < cLine := by have := hr.un; omega
theorem inV_int {n : Int} {ns : List Int} : inV (.int n) (ns.map V.int) = decide (n ∈ ns) := by
  unfold inV
  rw [List.any_map, Bool.eq_iff_iff,
        List.any_eq_true, decide_eq_true_eq]
  constructor
  · rintro ⟨x, hx, h⟩
    have : x = n := by simpa [eqV] using h
    rw [← this]; exact hx
  · intro h
    exact ⟨n, h, by simp [eqV]⟩
theorem flat_ints (ns : List Int) : (ns.map V.int).all flatV = true := by rw [List.all_map]; exact List.all_eq_true.mpr fun _ _ => rfl
section
variable {K : PySem.W.Frag} {H : Hp} {Q : VK} {p : Addr} {n : Int} {ns : List Int}
theorem inI (h : SqL K H p (ns.map V.int) ∨ SqT K H p (ns.map V.int)) (q : Q (.bl (decide (n ∈ ns))) H) : rIn K false (.int n) (.ref p) H Q := ⟨p, _, rfl, h, rfl, flat_ints ns, by rw [inV_int]; exact q⟩
theorem notInI (h : SqL K H p (ns.map V.int) ∨ SqT K H p (ns.map V.int)) (q : Q (.bl (!decide (n ∈ ns))) H) : rIn K true (.int n) (.ref p) H Q := ⟨p, _, rfl, h, rfl, flat_ints ns, by rw [inV_int]; exact q⟩
theorem gtup2 {i j : Nat} {a : Addr} {x y : V} {σ : L2.St} {P : L2.St → Hp → Prop} (h : SqT K H a [x, y]) (hq : P ((σ.set i (some x)).set j (some y)) H) : gTup K 2 (gCons (gName i) (gCons (gName j) gNil)) (.ref a) σ H P :=
  ⟨a, [x, y], rfl, h, rfl, x, [y], rfl, y, [], rfl, rfl, hq⟩
end
end Rd
namespace Rd
open PySem PySem.Spec L2 PyProof.Rows
/-- a tuple made by the run: it has no dictionary -/
def TupN (H : Hp) (a : Addr) (xs : List V) : Prop := ∃ ob : Obj, ob.dict = none ∧ H a = some (.frz ob (.tup xs))
section
variable {H H' : Hp} {a b : Addr} {xs ys : List V}
theorem TupN.sq {K : PySem.W.Frag} (h : TupN H a xs) : SqT K H a xs := by
  obtain ⟨ob, _, q⟩ := h
  exact .inl (.inr ⟨ob, q⟩)
theorem TupN.same (h : TupN H a xs) (e : Same H H') : TupN H' a xs := by
  obtain ⟨ob, d, q⟩ := h
  exact ⟨ob, d, e _ _ q⟩
theorem TupN.but (h : TupN H a xs) (e : But b H H') (n : a ≠ b) : TupN H' a xs := by
  obtain ⟨ob, d, q⟩ := h
  exact ⟨ob, d, e _ _ n q⟩
theorem TupN.ne (h : TupN H a xs) (n : H b = none) : a ≠ b := by
  obtain ⟨ob, d, q⟩ := h
  exact ne_of_none q n
theorem TupN.put {o : HO} (h : TupN H a xs) (n : a ≠ b) : TupN (upd H b o) a xs := by
  obtain ⟨ob, d, q⟩ := h
  exact ⟨ob, d, by rw [upd_ne n]; exact q⟩
theorem TupN.mk {ob : Obj} (d : ob.dict = none) : TupN (upd H a (.frz ob (.tup xs))) a xs := ⟨ob, d, upd_same⟩
theorem TupN.fn (h : TupN H a xs) : ∀ {C dx : Addr} {fs : List (Str × V)}, H a ≠ some (.ins C dx fs) := by
  obtain ⟨ob, d, q⟩ := h
  intro C dx fs z
  rw [q] at z
  cases z
theorem TupN.nl (h : TupN H a xs) : H a ≠ some (.lst ys) := by
  obtain ⟨ob, d, q⟩ := h
  intro z
  rw [q] at z
  cases z
end
/-- tuple(x): of a list a new one, of a tuple itself -/
def rTup (K : PySem.W.Frag) : List V → Hp → VK → Prop := fun vs H Q => ∃ p ys, vs = [.ref p] ∧
  ((SqL K H p ys ∧ ∀ (l : Addr) (ob : Obj), H l = none → ob.dict = none → Q (.ref l) (upd H l (.frz ob (.tup ys)))) ∨ (SqT K H p ys ∧ Q (.ref p) H))
theorem cr_tup {X : Cx} : CallR X (.type "tuple") (rTup X.K) := by
  intro _ s σ H _ _ Q I r ⟨p, ys, e, way⟩
  subst e
  obtain ⟨u, rfl,
        ru⟩ := vals1 r
  obtain rfl : u =
        Value.ref p := ru
  cases way with
  | inr tw =>
    obtain ⟨its, _, at_, _⟩ := I.tuple tw.1
    exact call_tuple_same at_ ⟨.ref p, H, I, rfl, tw.2⟩
  | inl lw =>
    obtain ⟨its, vals, at_, fit⟩ := I.list lw.1
    have few := vals.length
    refine call_tuple_list at_.isList (fun hp grow => ?_) (by rw [List.size_toArray]; omega)
    have J := I.kept (t' := s.toks) grow
    let ob : Obj := { cls := .type "tuple", data := .seq its.toArray }
    have lay : ObjOk X.prog X.w (upd H hp.objs.size (.frz ob (.tup ys))) (hp.push ob) hp.objs.size (.frz ob (.tup ys)) := ⟨Heap.get?_push_size _ rfl, fit, its, vals, IsTup.new _ _⟩
    exact ⟨.ref hp.objs.size, _, J.laid (t' := s.toks) (fun _ _ z => Heap.get?_push_of_some _ z) (Nat.le_refl _) lay, rfl, lw.2 _ ob (J.hok.fresh (Nat.le_refl _)) rfl⟩
section
variable {X : Cx}
theorem tup_is {pins : List (Addr × Obj)} {σ : L2.St} {H : Hp} {s : Shared} {p : Addr} {xs : List V} {v : Value} (I : L2.Inv X pins σ H s) (rv : RelV (.ref p) v) (h : TupN H p xs) :
    s.TypeIs v "tuple" ∧ ∀ a, v = .ref a → ∃ ob, s.heap.get? a = some ob ∧ ob.dict = none := by
  obtain ⟨ob, d, q⟩ := h
  obtain ⟨g, _, its, _, o2, g2, c, _⟩ := I.hok p _ q
  rw [g] at g2
  cases g2
  obtain rfl : v = Value.ref p := rv
  refine ⟨⟨ob, g, c⟩, fun a e => ?_⟩
  cases e
  exact ⟨ob, g, d⟩
/-- t.m(..), t such a tuple -/
def tBT (r : V → List V → Hp → VK → Prop) (to : TE) (t : TA) : TE := fun σ H Q => to σ H fun x H1 => (∃ p xs, x = .ref p ∧ TupN H1 p xs) ∧ t σ H1 fun xs H2 => r x xs H2 Q
theorem pe_bt {o e : Expr} {es : List Expr} {to : TE} {t : TA} {name : Str} {apos cpos : Pos} {id : String} {r : V → List V → Hp → VK → Prop}
    (pa : PlainAttrs "tuple") (slot : Slot "tuple" name id) (hty : typeOf (.builtin id) = pure (.type "method_descriptor")) (hm : MtR X id r) (ho : PE X o to) (ha : PA X (e :: es) t)
    (hbase : attributeBase o name X.env
          (eval o X.env) = eval o X.env := by rfl)
    (hfew : ((backTo cpos (starEach (e :: es) X.env)).all (fun x => !x.1)
          && (backToKw cpos (keywordEach [] X.env)).all (fun x => x.1.isSome)
      && decide ((e :: es).length + 0 + 0 < 30)) = true := by rfl)
    (hline : (apos.endLine == cpos.line) = true := by rfl) (hs : starEach (e :: es) X.env = (false, eval e X.env) :: starEach es X.env := by rfl) (hp : (backTo cpos (starEach es X.env)).any (·.1) = false := by rfl) :
    PE X (.Call (.Attribute o name apos) (e :: es) [] cpos) (tBT r to t) := by
  constructor
  intro pins s σ H Q I way
  refine wpAny_Call_method_late hbase hfew hline rfl (thn (ho.run pins s σ H _ I way) ?_)
  rintro v s1 ⟨_, H1, J, rv, ⟨p, xs, rfl, tn⟩, q1⟩
  have is := tup_is J rv tn
  refine ⟨"tuple", id, pa, slot, hty, is.1, is.2, ?_⟩
  have args := ha.run cpos pins s1 σ H1 _ J q1
  rw [hs] at args ⊢
  refine Calls.callWith_builtin (by rw [show (backTo cpos ((false, eval e X.env) :: starEach es X.env)).any (·.1) = (false || (backTo cpos (starEach es X.env)).any (·.1)) from rfl, hp]; rfl) (Calls.evalArgs_plain (thn args ?_))
  rintro us s2 ⟨vs, H2, J2, r2, q2⟩
  exact hm pins s2 σ H2 _ vs v us Q J2 rv r2 q2
theorem bm {K : PySem.W.Frag} {T : String} {σ : L2.St} {H : Hp} {to : TE} {t : TA} {r : V → List V → Hp → VK → Prop} {Q : VK} (h : to σ H fun x H1 => tyV K T x H1 ∧ t σ H1 fun xs H2 => r x xs H2 Q) : tBM K T r to t σ H Q := h
theorem bm0 {K : PySem.W.Frag} {T : String} {σ : L2.St} {H : Hp} {to : TE} {r : V → List V → Hp → VK → Prop} {Q : VK} (h : to σ H fun x H1 => tyV K T x H1 ∧ r x [] H1 Q) : tBM0 K T r to σ H Q := h
theorem tyL {K : PySem.W.Frag} {p : Addr} {xs : List V} {H : Hp} {B : Prop} (h : H p = some (.lst xs)) (b : B) : tyV K "list" (.ref p) H ∧ B := ⟨.inl ⟨rfl, xs, SqL.of h⟩, b⟩
theorem app {H : Hp} {Q : VK} {l : Addr} {xs : List V} {y : V} (h : H l = some (.lst xs)) (z : xs.length < sizeLine) (q : Q .non (upd H l (.lst (xs ++ [y])))) : rAppend (.ref l) [y] H Q := ⟨l, xs, y, rfl, rfl, h, z, q⟩
theorem bt {σ : L2.St} {H : Hp} {to : TE} {t : TA} {r : V → List V → Hp → VK → Prop} {Q : VK} (h : to σ H fun x H1 => (∃ p xs, x = .ref p ∧ TupN H1 p xs) ∧ t σ H1 fun xs H2 => r x xs H2 Q) : tBT r to t σ H Q := h
end
end Rd
/-! the rules with the written part named: within a comprehension it must not hang on the block -/
namespace Rk
open PySem PySem.Spec PyProof.Rows L2 Rd
section
variable {X : Cx} (K : PySem.W.Frag) (h : X.K = K := by rfl)
include h
theorem ixL : IxR X (rIxL K) := h ▸ ix_list
theorem ixT : IxR X (rIxT K) := h ▸ ix_tup
theorem inS : OpR X (compareOp .In) (rIn K false) := h ▸ op_in_seq
theorem ninS : OpR X (compareOp .NotIn) (rIn K true) := h ▸ op_notIn_seq
theorem bt {id : String} {name : Str} {r : V → List V → Hp → VK → Prop} {o e : Expr} {es : List Expr} {to : TE} {t : TA} {apos cpos : Pos} (pa : PlainAttrs "tuple") (slot : Slot "tuple" name id) (hty : typeOf (.builtin id) = pure (.type "method_descriptor")) (hm : MtR X id r) (ho : PE X o to) (ha : PA X (e :: es) t)
    (hbase : attributeBase o name X.env
          (eval o X.env) = eval o X.env := by rfl)
    (hfew : ((backTo cpos (starEach (e :: es) X.env)).all (fun x => !x.1)
          && (backToKw cpos (keywordEach [] X.env)).all (fun x => x.1.isSome)
      && decide ((e :: es).length + 0 + 0 < 30)) = true := by rfl)
    (hline : (apos.endLine == cpos.line) = true := by rfl) (hs : starEach (e :: es) X.env = (false, eval e X.env) :: starEach es X.env := by rfl) (hp : (backTo cpos (starEach es X.env)).any (·.1) = false := by rfl) :
    PE X (.Call (.Attribute o name apos) (e :: es) [] cpos) (tBT r to t) := pe_bt pa slot hty hm ho ha hbase hfew hline hs hp
theorem len : CallR X (.builtin "len") (fun xs H Q => ∃ p ys, xs = [.ref p] ∧ (SqL K H p ys ∨ SqT K H p ys) ∧ Q (.int ys.length) H) := h ▸ call_len_seq
theorem tup : CallR X (.type "tuple") (rTup K) := h ▸ cr_tup
theorem lis : CallR X (.type "list") (fun xs H Q => ∃ p ys, xs = [.ref p] ∧ (SqL K H p ys ∨ SqT K H p ys) ∧ ∀ l, H l = none → Q (.ref l) (upd H l (.lst ys))) := h ▸ call_list_of
theorem all (hc : X.calm = true) : CallR X (.builtin "all") (rAll K) := h ▸ cr_all hc
theorem any (hc : X.calm = true) : CallR X (.builtin "any") (rAny K) := h ▸ cr_any hc
theorem sum (hc : X.calm = true) : CallR X (.builtin "sum") (rSum K) := h ▸ cr_sum hc
theorem sortI : CallR X (.builtin "sorted") (rSortedI K) := h ▸ cr_sortedI
theorem sortLL (hu : X.A.units + 8 < cLine) : CallR X (.builtin "sorted") (Rs.rSortLL K) := h ▸ Rs.cr_sortLL hu
theorem isi : CallR X (.builtin "isinstance") (rIsi K) := h ▸ call_isi
theorem eqD (hu : X.A.units + 64 < cLine) : OpR X (compareOp .Eq) (rEqD K) := h ▸ op_eqD hu
theorem neD (hu : X.A.units + 64 < cLine) : OpR X (compareOp .NotEq) (rNeD K) := h ▸ op_neD hu
theorem inD (hu : X.A.units + 65 < cLine) : OpR X (compareOp .In) (rInD K) := h ▸ op_inD hu
theorem ninD (hu : X.A.units + 65 < cLine) : OpR X (compareOp .NotIn) (rNotInD K) := h ▸ op_notInD hu
theorem index : MtR X "list.index" (rIndex K) := h ▸ mt_index
theorem indexD (hu : X.A.units + 65 < cLine) : MtR X "list.index" (rIndexD K) := h ▸ mt_indexD hu
theorem tindex : MtR X "tuple.index" (fun x xs H Q => ∃ p, ∃ ys : List Int, ∃ (z : Int) (j : Nat), x = .ref p ∧ xs = [.int z] ∧ SqT K H p (ys.map V.int) ∧ ys[j]? = some z ∧ (∀ m, m < j → ys[m]? ≠ some z) ∧ Q (.int (j : Nat)) H) := h ▸ mt_tup_indexI
theorem fld {e : Expr} {ta : TE} {f : Str} {pos : Pos} (he : PE X e ta) (hb : attributeBase e f X.env (eval e X.env) = eval e X.env) : PE X (.Attribute e f pos) (tFld K ta f) := h ▸ pe_fld he hb
theorem pl {tg l : Expr} {tl : TE} (hl : PE X l tl) : PI X tg l (iList K tl) := h ▸ pi_list hl
theorem pt {tg l : Expr} {tl : TE} (hl : PE X l tl) : PI X tg l (iTup K tl) := h ▸ pi_tup hl
theorem bm0 {T id : String} {name : Str} {r : V → List V → Hp → VK → Prop} {o : Expr} {to : TE} {apos cpos : Pos} (pa : PlainAttrs T) (slot : Slot T name id) (hty : typeOf (.builtin id) = pure (.type "method_descriptor")) (hm : MtR X id r) (ho : PE X o to)
    (hbase : attributeBase o name X.env (eval o X.env) = eval o X.env := by rfl) (hline : (apos.endLine == cpos.line) = true := by rfl) : PE X (.Call (.Attribute o name apos) [] [] cpos) (tBM0 K T r to) := h ▸ pe_bm0 pa slot hty hm ho hbase hline
theorem bm {T id : String} {name : Str} {r : V → List V → Hp → VK → Prop} {o e : Expr} {es : List Expr} {to : TE} {t : TA} {apos cpos : Pos} (pa : PlainAttrs T) (slot : Slot T name id) (hty : typeOf (.builtin id) = pure (.type "method_descriptor")) (hm : MtR X id r) (ho : PE X o to) (ha : PA X (e :: es) t)
    (hbase : attributeBase o name X.env
          (eval o X.env) = eval o X.env := by rfl)
    (hfew : ((backTo cpos (starEach (e :: es) X.env)).all (fun x => !x.1)
          && (backToKw cpos (keywordEach [] X.env)).all (fun x => x.1.isSome)
      && decide ((e :: es).length + ([] : List Keyword).length + (if ([]
            : List Keyword).isEmpty then 0 else 1) < 30)) = true := by rfl)
    (hline : (apos.endLine == cpos.line) = true := by rfl) (hs : starEach (e :: es) X.env = (false, eval e X.env)
          :: starEach es X.env := by rfl) (hplain : (backTo cpos (starEach es X.env)).any (·.1) = false := by rfl) :
    PE X (.Call (.Attribute o name apos) (e :: es) [] cpos) (tBM K T r to t) := h ▸ pe_bm pa slot hty hm ho ha hbase hfew hline hs hplain
theorem gtup {es : List Expr} {k : Nat} {t : TGs} {n : Nat} {pos : Pos} (hc : X.calm = true) (hg : PGs X es t)
    (hn : (assignEach es X.env).length = n := by rfl) (hst : (assignEach es X.env).findIdx? (·.1) = none := by rfl) : PG X (.Tuple es k pos) (gTup K n t) := h ▸ pg_tup hc hg hn hst
end
end Rk

set_option linter.all false
/-! tables of groups: plain Lean, and how they lie in the heap -/
namespace GT
open PySem PySem.Spec PyProof.Rows L2 Rd
/-- entry y of row x -/
def at2 (t : List (List Int)) (x y : Nat) : Int := (t.getD x []).getD y 0
structure Sq (t : List (List Int)) : Prop where
  pos : 0 < t.length
  row : ∀ r ∈ t, r.length = t.length ∧ ∀ e ∈ r, 0 ≤ e ∧ e < (t.length : Int)
def Idn (t : List (List Int)) : Prop := ∀ x, x < t.length → at2 t 0 x = (x : Int) ∧ at2 t x 0 = (x : Int)
def Inv (t : List (List Int)) : Prop := ∀ r ∈ t, (0 : Int) ∈ r
def Asc (t : List (List Int)) : Prop := ∀ x y z, x < t.length → y < t.length → z < t.length → at2 t (at2 t x y).toNat z = at2 t x (at2 t y z).toNat
structure Grp (t : List (List Int)) : Prop where
  sq : Sq t
  idn : Idn t
  inv : Inv t
  asc : Asc t
theorem getD_of {α : Type} {l : List α} {i : Nat} {x d : α} (h : l[i]? = some x) : l.getD i d = x := by
  rw [List.getD_eq_getElem?_getD, h]; rfl
theorem Sq.rowAt {t : List (List Int)} (S : Sq t) {x : Nat} (h : x < t.length) : ∃ r, t[x]? = some r ∧ r.length = t.length ∧ t.getD x [] = r ∧ ∀ e ∈ r, 0 ≤ e ∧ e < (t.length : Int) := by
  refine ⟨t[x], List.getElem?_eq_getElem h, (S.row _ (List.getElem_mem h)).1, getD_of (List.getElem?_eq_getElem h), (S.row _ (List.getElem_mem h)).2⟩
theorem Sq.at {t : List (List Int)} (S : Sq t) {x y : Nat} (hx : x < t.length) (hy : y < t.length) : 0 ≤ at2 t x y ∧ at2 t x y < (t.length : Int) ∧ ∃ r, t[x]? = some r ∧ r[y]? = some (at2 t x y) := by
  obtain ⟨r, h1, h2, h3, h4⟩ := S.rowAt hx
  have h5 : r[y]? = some r[y] := List.getElem?_eq_getElem (by omega)
  have h6 : at2 t x y = r[y] := by unfold at2; rw [h3, getD_of h5]
  rw [h6]
  obtain ⟨a, b⟩ := h4 _ (List.getElem_mem (by omega : y < r.length))
  exact ⟨a, b, r, h1, h5⟩
theorem at2_of {t : List (List Int)} {x y : Nat} {r : List Int} {e : Int} (h1 : t[x]? = some r) (h2 : r[y]? = some e) : at2 t x y = e := by
  unfold at2; rw [getD_of h1, getD_of h2]
/-- the product as a natural number -/
def mul (t : List (List Int)) (x y : Nat) : Nat := (at2 t x y).toNat
theorem Sq.mul_lt {t : List (List Int)} (S : Sq t) {x y : Nat} (hx : x < t.length) (hy : y < t.length) : mul t x y < t.length := by
  obtain ⟨a, b, _⟩ := S.at hx hy
  unfold mul; omega
theorem Sq.mul_eq {t : List (List Int)} (S : Sq t) {x y : Nat} (hx : x < t.length) (hy : y < t.length) : at2 t x y = (mul t x y : Int) := by
  obtain ⟨a, b, _⟩ := S.at hx hy
  unfold mul; omega
theorem intAt {r : List Int} {n : Nat} {y : V} (h : (r.map V.int)[n]? = some y) : ∃ z, r[n]? = some z ∧ y = .int z := by
  rw [List.getElem?_map] at h
  cases q : r[n]? with
  | none => rw [q] at h; cases h
  | some z => rw [q] at h; cases h; exact ⟨z, rfl, rfl⟩
theorem all_id {n : Nat} {f : Nat → Bool} : ((List.range n).map f).all id = true ↔ ∀ i, i < n → f i = true := by
  rw [List.all_map, List.all_eq_true]
  simp
theorem map_bl (n : Nat) (f : Nat → Bool) : (List.range n).map (fun i => V.bl (f i)) = ((List.range n).map f).map V.bl := by rw [List.map_map]; rfl
theorem map_in (n : Nat) (f : Nat → Int) : (List.range n).map (fun i => V.int (f i)) = ((List.range n).map f).map V.int := by rw [List.map_map]; rfl
theorem rgV_eq (n : Nat) : rgV 0 (n : Int) = ((List.range n).map fun i => ((i : Nat) : Int)).map V.int := by
  unfold rgV
  rw [List.map_map]
  have e : ((n : Int) - 0).toNat = n := by omega
  rw [e]
  refine List.map_congr_left
        fun i _ => ?_
  show V.int (0 + (i : Int)) = V.int (i : Int)
  rw [Int.zero_add]
theorem eq_range {l : List Int} {n : Nat} : l = (List.range n).map (fun i => ((i : Nat) : Int)) ↔ l.length = n ∧ ∀ i, i < n → l[i]? = some (i : Int) := by
  constructor
  · rintro rfl
    refine ⟨by simp, fun i h => ?_⟩
    rw [List.getElem?_map, List.getElem?_range h]; rfl
  · rintro ⟨h1, h2⟩
    refine List.ext_getElem? fun i => ?_
    by_cases c : i < n
    · rw [h2 i c, List.getElem?_map, List.getElem?_range c]; rfl
    · rw [List.getElem?_eq_none (by omega), List.getElem?_eq_none (by simp; omega)]
/-! ### how they lie -/
/-- a list -/
def LstN (H : Hp) (a : Addr) (xs : List V) : Prop := H a = some (.lst xs)
abbrev AtK : Type := Hp → Addr → List V → Prop
/-- objects (lists or tuples of ints) at the addresses -/
structure Rows (at_ : AtK) (H : Hp) (rs : List Addr) (t : List (List Int)) : Prop where
  len : rs.length = t.length
  row : ∀ (i : Nat) (a : Addr) (r : List Int), rs[i]? = some a → t[i]? = some r → at_ H a (r.map V.int)
section
variable {H H' : Hp} {rs : List Addr} {t : List (List Int)} {at_ : AtK}
theorem Rows.map (R : Rows at_ H rs t) (k : ∀ a xs, a ∈ rs → at_ H a xs → at_ H' a xs) : Rows at_ H' rs t := ⟨R.len, fun i a r h1 h2 => k _ _ (List.mem_of_getElem? h1) (R.row i a r h1 h2)⟩
theorem Rows.same (R : Rows TupN H rs t) (e : Same H H') : Rows TupN H' rs t := R.map fun _ _ _ h => h.same e
theorem Rows.sameL (R : Rows LstN H rs t) (e : Same H H') : Rows LstN H' rs t := R.map fun _ _ _ h => e _ _ h
theorem Rows.get (R : Rows at_ H rs t) {i : Nat} (h : i < t.length) : ∃ a r, rs[i]? = some a ∧ t[i]? = some r ∧ at_ H a (r.map V.int) := by
  have h2 : i < rs.length := by rw [R.len]; exact h
  exact ⟨rs[i], t[i], List.getElem?_eq_getElem h2, List.getElem?_eq_getElem h, R.row i _ _ (List.getElem?_eq_getElem h2) (List.getElem?_eq_getElem h)⟩
theorem Rows.at (R : Rows at_ H rs t) {i : Nat} {x : V} (h : (rs.map V.ref)[i]? = some x) : ∃ a r, x = .ref a ∧ rs[i]? = some a ∧ t[i]? = some r ∧ at_ H a (r.map V.int) := by
  have hi : i < t.length := by
    have := (List.getElem?_eq_some_iff.mp h).1
    rw [List.length_map, R.len] at this
    exact this
  obtain ⟨a, r, h1, h2, h3⟩ := R.get hi
  rw [List.getElem?_map, h1] at h
  cases h
  exact ⟨a, r, rfl, h1, h2, h3⟩
end
/-- the group's object -/
def gfs (n : Int) (R I : Addr) : List (Str × V) := [("order", .int n), ("rows", .ref R), ("inverses", .ref I)]
/-- the first place of 0 in each row -/
def invs (t : List (List Int)) : List Int := t.map fun r => ((r.idxOf 0 : Nat) : Int)
theorem _root_.Rd.TupN.butL {H H' : Hp} {a b : Addr} {xs ys : List V} (h : TupN H a ys) (hb : H b = some (.lst xs)) (e : But b H H') : TupN H' a ys := h.but e fun z => h.nl (ys := xs) (z ▸ hb)
structure GrpAt (C : Addr) (H : Hp) (g : Addr) (t : List (List Int)) : Prop where
  grp : Grp t
  le : t.length ≤ 32
  ob : ∃ dx R I rs, H g = some (.ins C dx (gfs (t.length : Int) R I)) ∧ TupN H R (rs.map V.ref) ∧ Rows TupN H rs t ∧ TupN H I ((invs t).map V.int)
section
variable {C : Addr} {H H' : Hp} {g b : Addr} {t : List (List Int)} {xs : List V}
theorem GrpAt.same (G : GrpAt C H g t) (e : Same H H') : GrpAt C H' g t := by
  obtain ⟨dx, R, I, rs, h1, h2, h3, h4⟩ := G.ob
  exact ⟨G.grp, G.le, dx, R, I, rs, e _ _ h1, h2.same e, h3.same e, h4.same e⟩
theorem GrpAt.but (G : GrpAt C H g t) (hb : H b = some (.lst xs)) (e : But b H H') : GrpAt C H' g t := by
  obtain ⟨dx, R, I, rs, h1, h2, h3, h4⟩ := G.ob
  exact ⟨G.grp, G.le, dx, R, I, rs, e _ _ (fun z => by rw [z, hb] at h1; cases h1) h1, h2.butL hb e, h3.map fun _ _ _ h => h.butL hb e, h4.butL hb e⟩
end
theorem lkHere {k : Str} {v : V} {r : List (Str × V)} : List.lookup k ((k, v) :: r) = some v := by
  have e : (k ==
        k) = true := beq_self_eq_true k
  simp only [List.lookup, e]
theorem lkPast {k g : Str} {v : V} {r : List (Str × V)} (h : (k == g) = false) : List.lookup k ((g, v) :: r) = List.lookup k r := by
  simp only [List.lookup, h]
theorem lk_order (n : Int) (R I : Addr) : (gfs n R I).lookup ("order" : Str) = some (.int n) := lkHere
theorem lk_rows (n : Int) (R I : Addr) : (gfs n R I).lookup ("rows" : Str) = some (.ref R) := (lkPast (by decide +kernel)).trans lkHere
theorem lk_inv (n : Int) (R I : Addr) : (gfs n R I).lookup ("inverses" : Str) = some (.ref I) := (lkPast (by decide +kernel)).trans ((lkPast (by decide +kernel)).trans lkHere)
theorem lk_no {m : Str} (h1 : (m == ("order" : Str)) = false) (h2 : (m == ("rows" : Str)) = false) (h3 : (m == ("inverses" : Str)) = false) (n : Int) (R I : Addr) : (gfs n R I).lookup m = none :=
  (lkPast h1).trans ((lkPast h2).trans ((lkPast h3).trans rfl))
theorem put3 (n : Int) (R I : Addr) : putF "inverses" (.ref I) (putF "rows" (.ref R) (putF "order" (.int n) [])) = gfs n R I := by
  have e1 : ¬ (("order" : Str) = "rows") := by decide +kernel
  have e2 : ¬ (("order" : Str) = "inverses") := by decide +kernel
  have e3 : ¬ (("rows" : Str) = "inverses") := by decide +kernel
  show putF "inverses" (.ref I) (if ("order" : Str) = "rows" then _ else (("order" : Str), V.int n) :: putF "rows" (.ref R) []) = _
  rw [if_neg e1]
  show (if ("order" : Str) = "inverses" then _ else (("order" : Str), V.int n) :: (if ("rows" : Str) = "inverses" then _ else (("rows" : Str), V.ref R) :: putF "inverses" (.ref I) [])) = _
  rw [if_neg e2, if_neg e3]; rfl
theorem put2_len (n : Int) (R : Addr) : (putF "rows" (.ref R) (putF "order" (.int n) [])).length < 1000 := by
  have e1 : ¬ (("order" : Str) = "rows") := by decide +kernel
  show (if ("order" : Str) = "rows" then _ else (("order" : Str), V.int n) :: putF "rows" (.ref R) []).length < 1000
  rw [if_neg e1]
  show 2 < 1000
  decide
end GT

set_option linter.all false
/-! powers, orders, closures in a table that is a group's -/
namespace GT
section
variable {t : List (List Int)} (G : Grp t)
include G
theorem Grp.pos : 0 < t.length := G.sq.pos
theorem Grp.lt {x y : Nat} (hx : x < t.length) (hy : y < t.length) : mul t x y < t.length := G.sq.mul_lt hx hy
theorem Grp.assoc {x y z : Nat} (hx : x < t.length) (hy : y < t.length) (hz : z < t.length) : mul t (mul t x y) z = mul t x (mul t y z) :=
  congrArg Int.toNat (G.asc x y z hx hy hz)
theorem Grp.one_mul {x : Nat} (hx : x < t.length) : mul t 0 x = x := by
  show (at2 t 0 x).toNat = x
  rw [(G.idn x hx).1]; rfl
theorem Grp.mul_one {x : Nat} (hx : x < t.length) : mul t x 0 = x := by
  show (at2 t x 0).toNat = x
  rw [(G.idn x hx).2]; rfl
end
/-- the inverse: the first place of 0 in the row -/
def ivn (t : List (List Int)) (x : Nat) : Nat := (t.getD x []).idxOf 0
section
variable {t : List (List Int)} (G : Grp t)
include G
theorem Grp.inv_at {x : Nat} (hx : x < t.length) : ivn t x < t.length ∧ mul t x (ivn t x) = 0 := by
  obtain ⟨r, h1, h2, h3, h4⟩ := G.sq.rowAt hx
  have h5 := G.inv r (List.mem_of_getElem? h1)
  have h6 : r.idxOf 0 < r.length := List.idxOf_lt_length_of_mem h5
  have h7 : r[r.idxOf 0]? = some 0 := by
    rw [List.getElem?_eq_getElem h6]
    exact congrArg some (List.getElem_idxOf h6)
  unfold ivn
  rw [h3]
  refine ⟨by omega, ?_⟩
  show (at2 t x (r.idxOf 0)).toNat = 0
  rw [at2_of h1 h7]; rfl
theorem Grp.inv_lt {x : Nat} (hx : x < t.length) : ivn t x < t.length := (G.inv_at hx).1
theorem Grp.mul_inv {x : Nat} (hx : x < t.length) : mul t x (ivn t x) = 0 := (G.inv_at hx).2
theorem Grp.cancel {a b x : Nat} (ha : a < t.length) (hb : b < t.length) (hx : x < t.length) (h : mul t a x = mul t b x) : a = b := by
  have q := congrArg (fun u => mul t u (ivn t x)) h
  rw [G.assoc ha hx (G.inv_lt hx), G.assoc hb hx (G.inv_lt hx), G.mul_inv hx, G.mul_one ha, G.mul_one hb] at q
  exact q
theorem Grp.inv_mul {x : Nat} (hx : x < t.length) : mul t (ivn t x) x = 0 := by
  have hy := G.inv_lt hx
  have hz := G.inv_lt hy
  have p := G.lt hy hx
  have e1 : mul t (mul t (ivn t x) x) (mul t (ivn t x) (ivn t (ivn t x))) = mul t (ivn t x) (ivn t (ivn t x)) := by
    rw [G.assoc hy hx (G.lt hy hz), ← G.assoc hx hy hz, G.mul_inv hx, G.one_mul hz]
  rw [G.mul_inv hy, G.mul_one p] at e1
  exact e1
end
/-- x multiplied k times from the right to 0 -/
def pw (t : List (List Int)) (x : Nat) : Nat → Nat
  | 0 => 0
  | k + 1 => mul t (pw t x k) x
structure IsOrd (t : List (List Int)) (x k : Nat) : Prop where
  pos : 1 ≤ k
  one : pw t x k = 0
  least : ∀ j, 1 ≤ j → j < k → pw t x j ≠ 0
section
variable {t : List (List Int)} (G : Grp t)
include G
theorem Grp.pw_lt {x : Nat} (hx : x < t.length) : ∀ k, pw t x k < t.length
  | 0 => G.pos
  | k + 1 => G.lt (Grp.pw_lt hx k) hx
theorem Grp.pw_one {x : Nat} (hx : x < t.length) : pw t x 1 = x := G.one_mul hx
theorem Grp.pw_add {x : Nat} (hx : x < t.length) (a : Nat) : ∀ b, pw t x (a + b) = mul t (pw t x a) (pw t x b)
  | 0 => (G.mul_one (G.pw_lt hx a)).symm
  | b + 1 => by
    show mul t (pw t x (a + b)) x = _
    rw [Grp.pw_add hx a b, G.assoc (G.pw_lt hx a) (G.pw_lt hx b) hx]; rfl
theorem Grp.pw_back {x : Nat} (hx : x < t.length) : ∀ i j, i ≤ j → pw t x i = pw t x j → pw t x (j - i) = 0
  | 0, j, _, h => h.symm
  | i + 1, j, hij, h => by
    obtain ⟨m, rfl⟩ : ∃ m, j = m + 1 := ⟨j - 1, by omega⟩
    have := Grp.pw_back hx i m (by omega) (G.cancel (G.pw_lt hx i) (G.pw_lt hx m) hx h)
    rw [show m + 1 - (i + 1) = m - i by omega]
    exact this
theorem Grp.pw_zero {x : Nat} (hx : x < t.length) : ∃ k, 1 ≤ k ∧ k ≤ t.length ∧ pw t x k = 0 := by
  apply Classical.byContradiction
  intro no
  have nd : ((List.range (t.length + 1)).map (pw t x)).Nodup := by
    rw [List.Nodup, List.pairwise_map, List.pairwise_iff_getElem]
    intro i j hi hj hij
    rw [List.getElem_range, List.getElem_range]
    rw [List.length_range] at hi hj
    intro e
    exact no ⟨j - i, by omega, by omega, G.pw_back hx i j (by omega) e⟩
  have := nd.length_le_of_subset (l₂ := List.range t.length) (fun y hy => by
    obtain ⟨k, _, rfl⟩ := List.mem_map.mp hy
    exact List.mem_range.mpr (G.pw_lt hx k))
  rw [List.length_map, List.length_range, List.length_range] at this
  omega
theorem Grp.has_ord {x : Nat} (hx : x < t.length) : ∃ k, IsOrd t x k ∧ k ≤ t.length := by
  have H : ∀ n k, k ≤ n → 1 ≤ k → k ≤ t.length → pw t x k = 0 → ∃ k, IsOrd t x k ∧ k ≤ t.length := by
    intro n
    induction n with
    | zero => intro k h1 h2; omega
    | succ n ih =>
      intro k h1 h2 h3 h4
      by_cases c : ∃ j, 1 ≤ j ∧ j < k ∧ pw t x j = 0
      · obtain ⟨j, j1, j2, j3⟩ := c
        exact ih j (by omega) j1 (by omega) j3
      · exact ⟨k, ⟨h2, h4, fun j j1 j2 j3 => c ⟨j, j1, j2, j3⟩⟩, h3⟩
  obtain ⟨k, h1, h2, h3⟩ := G.pw_zero hx
  exact H k k (Nat.le_refl k) h1 h2 h3
theorem Grp.pw_mod {x k : Nat} (hx : x < t.length) (hk : IsOrd t x k) (e : Nat) : pw t x (e % k) = pw t x e := by
  have add : ∀ a q, pw t x (a + k * q) = pw t x a := by
    intro a q
    induction q with
    | zero => rfl
    | succ q ih =>
      rw [Nat.mul_succ, ← Nat.add_assoc, G.pw_add hx, hk.one, G.mul_one (G.pw_lt hx _)]
      exact ih
  have := add (e % k) (e / k)
  rw [Nat.mod_add_div] at this
  exact this.symm
theorem Grp.pw_inv {x : Nat} (hx : x < t.length) : ∀ e, mul t (pw t (ivn t x) e) (pw t x e) = 0
  | 0 => G.one_mul G.pos
  | e + 1 => by
    have hy := G.inv_lt hx
    have e1 : pw t x (e + 1) = mul t x (pw t x e) := by
      rw [Nat.add_comm e 1, G.pw_add hx 1 e, G.pw_one hx]
    rw [e1]
    show mul t (mul t (pw t (ivn t x) e) (ivn t x)) (mul t x (pw t x e)) = 0
    rw [G.assoc (G.pw_lt hy e) hy (G.lt hx (G.pw_lt hx e)), ← G.assoc hy hx (G.pw_lt hx e), G.inv_mul hx, G.one_mul (G.pw_lt hx e)]
    exact Grp.pw_inv hx e
theorem Grp.pw_neg {x k : Nat} (hx : x < t.length) (hk : IsOrd t x k) (e : Nat) : pw t x ((-(e : Int)) % (k : Int)).toNat = pw t (ivn t x) e := by
  have kp := hk.pos
  have h0 := Int.emod_nonneg (-(e : Int)) (by omega : (k : Int) ≠ 0)
  refine G.cancel (G.pw_lt hx _) (G.pw_lt (G.inv_lt hx) e) (G.pw_lt hx e) ?_
  rw [G.pw_inv hx e, ← G.pw_add hx, ← G.pw_mod hx hk]
  have h2 : (((-(e : Int)) % (k : Int)).toNat + e) % k = 0 := by
    have h3 : (((((-(e : Int)) % (k : Int)).toNat + e : Nat) : Int)) % (k : Int) = 0 := by
      rw [Int.natCast_add, Int.toNat_of_nonneg h0, Int.emod_add_emod]
      rw [show -(e : Int) + (e : Int) = 0 by omega]
      exact Int.zero_emod _
    have := Int.ofNat.inj (show ((((((-(e : Int)) % (k : Int)).toNat + e) % k : Nat)) : Int) = ((0 : Nat) : Int) by rw [Int.natCast_emod]; exact h3)
    exact this
  rw [h2]; rfl
end
theorem IsOrd.uniq {t : List (List Int)} {x k j : Nat} (h1 : IsOrd t x k) (h2 : IsOrd t x j) : k = j := by
  rcases Nat.lt_trichotomy k j with h | h | h
  · exact absurd h1.one (h2.least k h1.pos h)
  · exact h
  · exact absurd h2.one (h1.least j h2.pos h)
/-- what products of the elements reach from 0 -/
inductive Reach (t : List (List Int)) (ms : List Int) : Int → Prop
  | zero : Reach t ms 0
  | step {x m : Int} : Reach t ms x → m ∈ ms → Reach t ms (at2 t x.toNat m.toNat)
/-- the list of them, ascending -/
structure Closed (t : List (List Int)) (ms out : List Int) : Prop where
  asc : out.Pairwise (· < ·)
  mem : ∀ z, z ∈ out ↔ Reach t ms z
theorem Closed.uniq {t : List (List Int)} {ms a b : List Int} (h1 : Closed t ms a) (h2 : Closed t ms b) : a = b := by
  have n1 : a.Nodup := h1.asc.imp fun h => Int.ne_of_lt h
  have n2 : b.Nodup := h2.asc.imp fun h => Int.ne_of_lt h
  refine ((List.perm_ext_iff_of_nodup n1 n2).mpr fun z => (h1.mem z).trans (h2.mem z).symm).eq_of_pairwise (le := fun a b => a ≤ b) (fun x y _ _ h3 h4 => Int.le_antisymm h3 h4) (h1.asc.imp fun h => Int.le_of_lt h) (h2.asc.imp fun h => Int.le_of_lt h)
theorem Reach.lt {t : List (List Int)} {ms : List Int} (S : Sq t) (hm : ∀ m ∈ ms, 0 ≤ m ∧ m < (t.length : Int)) {z : Int} (h : Reach t ms z) : 0 ≤ z ∧ z < (t.length : Int) := by
  induction h with
  | zero => exact ⟨Int.le_refl 0, by have := S.pos; omega⟩
  | @step x m r hm2 ih =>
    obtain ⟨a, b⟩ := hm _ hm2
    have hx : x.toNat < t.length := by omega
    have hy : m.toNat < t.length := by omega
    obtain ⟨p, q, _⟩ := S.at hx hy
    exact ⟨p, q⟩
/-- a sorted list without duplicates is strictly ascending -/
theorem asc_of {a b : List Int} (p : b.Perm a) (s : b.Pairwise (· ≤ ·)) (n : a.Nodup) : b.Pairwise (· < ·) := by
  have nb : b.Nodup := p.nodup_iff.mpr n
  refine (s.and nb).imp fun {x y} h => ?_
  have := h.1
  have := h.2
  omega
/-- found so far -/
structure GenF (t : List (List Int)) (ms fs : List Int) : Prop where
  nd : fs.Nodup
  re : ∀ z ∈ fs, Reach t ms z
  z0 : (0 : Int) ∈ fs
theorem GenF.start (t : List (List Int)) (ms : List Int) : GenF t ms [0] := ⟨by simp, fun z h => by rw [List.mem_singleton.mp h]; exact .zero, by simp⟩
theorem GenF.add {t : List (List Int)} {ms fs : List Int} {x m : Int} (F : GenF t ms fs) (hx : x ∈ fs) (hm : m ∈ ms) (no : at2 t x.toNat m.toNat ∉ fs) : GenF t ms (fs ++ [at2 t x.toNat m.toNat]) := by
  refine ⟨List.nodup_append.mpr ⟨F.nd, by simp, fun a ha b hb => ?_⟩, fun z hz => ?_, List.mem_append_left _ F.z0⟩
  · rw [List.mem_singleton.mp
        hb]
    intro e
    exact no (e ▸ ha)
  · rcases List.mem_append.mp hz with h | h
    · exact F.re z h
    · rw [List.mem_singleton.mp h]
      exact .step (F.re x hx) hm
theorem GenF.few {t : List (List Int)} {ms fs : List Int} (F : GenF t ms fs) (S : Sq t) (hm : ∀ m ∈ ms, 0 ≤ m ∧ m < (t.length : Int)) : fs.length ≤ t.length := by
  have := F.nd.length_le_of_subset (l₂ := (List.range t.length).map fun i => ((i : Nat) : Int)) (fun z hz => by
    obtain ⟨a, b⟩ := (F.re z hz).lt S hm
    exact List.mem_map.mpr ⟨z.toNat, List.mem_range.mpr (by omega), by omega⟩)
  rw [List.length_map, List.length_range] at this
  exact this
theorem GenF.done {t : List (List Int)} {ms fs out : List Int} (F : GenF t ms fs) (cl : ∀ x ∈ fs, ∀ m ∈ ms, at2 t x.toNat m.toNat ∈ fs) (p : out.Perm fs) (s : out.Pairwise (· ≤ ·)) : Closed t ms out := by
  refine ⟨asc_of p s F.nd, fun z => ⟨fun h => F.re z (p.mem_iff.mp h), fun h => p.mem_iff.mpr ?_⟩⟩
  induction h with
  | zero => exact F.z0
  | step r hm ih => exact cl _ ih _ hm
/-- the marks of what is found -/
structure GenK (n : Nat) (fs : List Int) (kb : List Bool) : Prop where
  len : kb.length = n
  iff : ∀ i, i < n → (kb[i]? = some true ↔ ((i : Nat) : Int) ∈ fs)
theorem GenK.start {n : Nat} (h : 0 < n) : GenK n [0] ((List.replicate n false).set 0 true) := by
  refine ⟨by simp, fun i hi => ?_⟩
  rw [List.getElem?_set]
  by_cases c : 0 = i
  · subst c
    rw [if_pos rfl, if_pos (by simpa using h)]
    simp
  · rw [if_neg c, List.getElem?_replicate, if_pos hi]
    constructor
    · intro e; cases e
    · intro e
      have := List.mem_singleton.mp e
      omega
theorem GenK.add {n : Nat} {fs : List Int} {kb : List Bool} {p : Int} (Kb : GenK n fs kb) (h0 : 0 ≤ p) (h1 : p < (n : Int)) : GenK n (fs ++ [p]) (kb.set p.toNat true) := by
  refine ⟨by rw [List.length_set]; exact Kb.len, fun i hi => ?_⟩
  rw [List.getElem?_set]
  by_cases c : p.toNat = i
  · rw [if_pos c, if_pos (by rw [Kb.len]; omega)]
    refine iff_of_true rfl (List.mem_append_right _ (List.mem_singleton.mpr (by omega)))
  · rw [if_neg c, Kb.iff i hi, List.mem_append, List.mem_singleton]
    constructor
    · exact .inl
    · rintro (h | h)
      · exact h
      · omega
theorem GenK.get {n : Nat} {fs : List Int} {kb : List Bool} {p : Int} (Kb : GenK n fs kb) (h0 : 0 ≤ p) (h1 : p < (n : Int)) : kb[p.toNat]? = some (decide (p ∈ fs)) := by
  have h2 : p.toNat < kb.length := by rw [Kb.len]; omega
  have h3 := Kb.iff p.toNat (by omega)
  rw [Int.toNat_of_nonneg h0] at h3
  rw [List.getElem?_eq_getElem h2] at h3 ⊢
  congr 1
  by_cases c : p ∈ fs
  · rw [decide_eq_true c]
    exact Option.some.inj (h3.mpr c)
  · rw [decide_eq_false c]
    cases q : kb[p.toNat] with
    | false => rfl
    | true => rw [q] at h3; exact absurd (h3.mp rfl) c
theorem ixN_of {n j : Nat} {i : Int} (e : i = (j : Int)) (h : j < n) : L2.ixN n i = some j := by
  unfold L2.ixN
  rw [if_pos (by omega),
        if_pos (by omega)]
  congr 1
  omega
theorem map_set_bl {kb : List Bool} {j : Nat} {b : Bool} : (kb.map L2.V.bl).set j (.bl b) = (kb.set j b).map L2.V.bl := by rw [List.map_set]
theorem map_add_int {fs : List Int} {p : Int} : fs.map L2.V.int ++ [.int p] = (fs ++ [p]).map L2.V.int := by rw [List.map_append]; rfl
theorem map_get_bl {kb : List Bool} {j : Nat} {b : Bool} (h : kb[j]? = some b) : (kb.map L2.V.bl)[j]? = some (.bl b) := by rw [List.getElem?_map, h]; rfl
theorem map_get_int {kb : List Int} {j : Nat} {b : Int} (h : kb[j]? = some b) : (kb.map L2.V.int)[j]? = some (.int b) := by rw [List.getElem?_map, h]; rfl
open Classical in
/-- the generators among the elements below i -/
noncomputable def gensTo (t : List (List Int)) : Nat → List Int
  | 0 => []
  | i + 1 => if Reach t (gensTo t i) (i : Int) then gensTo t i else gensTo t i ++ [(i : Int)]
theorem gens_yes {t : List (List Int)} {i : Nat} (h : Reach t (gensTo t i) (i : Int)) : gensTo t (i + 1) = gensTo t i := if_pos h
theorem gens_no {t : List (List Int)} {i : Nat} (h : ¬ Reach t (gensTo t i) (i : Int)) : gensTo t (i + 1) = gensTo t i ++ [(i : Int)] := if_neg h
theorem gens_lt {t : List (List Int)} : ∀ i, ∀ x ∈ gensTo t i, 0 ≤ x ∧ x < (i : Int)
  | 0 => fun x h => by cases h
  | i + 1 => fun x h => by
    by_cases c : Reach t (gensTo t i) (i : Int)
    · rw [gens_yes c] at h
      have := gens_lt i x h
      omega
    · rw [gens_no c] at h
      rcases List.mem_append.mp
            h with h | h
      · have := gens_lt i x h
        omega
      · rw [List.mem_singleton.mp h]
        omega
theorem gens_len {t : List (List Int)} : ∀ i, (gensTo t i).length ≤ i
  | 0 => Nat.le_refl 0
  | i + 1 => by
    have := gens_len (t := t) i
    by_cases c : Reach t (gensTo t i) (i : Int)
    · rw [gens_yes c]; omega
    · rw [gens_no c, List.length_append, List.length_singleton]; omega
theorem Closed.nil (t : List (List Int)) : Closed t [] [0] := by
  refine ⟨by simp, fun z => ⟨fun h => by rw [List.mem_singleton.mp h]; exact .zero, fun h => ?_⟩⟩
  cases h with
  | zero => exact List.mem_singleton.mpr rfl
  | step _ h => cases h
def Comm (t : List (List Int)) : Prop := ∀ x y, x < t.length → y < t.length → at2 t x y = at2 t y x
/-- the table read by columns -/
def cols (t : List (List Int)) : List (List Int) := (List.range t.length).map fun y => (List.range t.length).map fun x => at2 t x y
theorem cols_at {t : List (List Int)} {y : Nat} (h : y < t.length) : (cols t).getD y [] = (List.range t.length).map fun x => at2 t x y := getD_of (by unfold cols; rw [List.getElem?_map, List.getElem?_range h]; rfl)
theorem comm_iff {t : List (List Int)} (S : Sq t) : t = cols t ↔ Comm t := by
  have rowx : ∀ x, x < t.length → ∃ r, t[x]? = some r ∧ r.length = t.length ∧ ∀ y, y < t.length → r[y]? = some (at2 t x y) := fun x hx => by
    obtain ⟨r, h1, h2, _, _⟩ := S.rowAt hx
    refine ⟨r, h1, h2, fun y hy => ?_⟩
    obtain ⟨_, _, r', w1, w2⟩ := S.at hx hy
    rw [h1] at w1
    cases w1
    exact w2
  constructor
  · intro h x y hx hy
    obtain ⟨r, h1, h2, h3⟩ := rowx x hx
    have h4 : (cols t)[x]? = some r := by rw [← h]; exact h1
    unfold cols at h4
    rw [List.getElem?_map, List.getElem?_range hx] at h4
    have h5 := h3 y hy
    rw [← Option.some.inj h4, List.getElem?_map, List.getElem?_range hy] at h5
    exact (Option.some.inj h5).symm
  · intro h
    refine List.ext_getElem? fun x => ?_
    by_cases hx : x < t.length
    · obtain ⟨r, h1, h2, h3⟩ := rowx x hx
      rw [h1]
      unfold cols
      rw [List.getElem?_map, List.getElem?_range hx]
      congr 1
      refine List.ext_getElem? fun y => ?_
      by_cases hy : y < t.length
      · rw [h3 y hy, List.getElem?_map, List.getElem?_range hy, h x y hx hy]; rfl
      · rw [List.getElem?_eq_none (by omega), List.getElem?_eq_none (by simp; omega)]
    · rw [List.getElem?_eq_none (by omega), List.getElem?_eq_none (by unfold cols; simp; omega)]
open L2 Rd in
/-- such tables as data -/
theorem dpRows {K : PySem.W.Frag} {H : Hp} : ∀ {rs : List PySem.Addr} {t : List (List Int)}, Rows TupN H rs t → DpAll K H (rs.map V.ref) (t.map iT)
  | [], [], _ => .nil
  | [], _ :: _, R => absurd R.len (by simp)
  | _ :: _, [], R => absurd R.len (by simp)
  | a :: rs, r :: t, R => .cons (dpT (R.row 0 a r rfl rfl).sq) (dpRows ⟨by have := R.len; simpa using this, fun i b q h1 h2 => R.row (i + 1) b q h1 h2⟩)
open L2 Rd in
theorem dpTab {K : PySem.W.Frag} {H : Hp} {R : PySem.Addr} {rs : List PySem.Addr} {t : List (List Int)} (h : TupN H R (rs.map V.ref)) (r : Rows TupN H rs t) : Dp K H (.ref R) (tT t) := .tup h.sq (dpRows r)
open L2 Rd in
theorem eqTab {K : PySem.W.Frag} {H : Hp} {Q : VK} {R R' : PySem.Addr} {rs rs' : List PySem.Addr} {t u : List (List Int)} (h1 : TupN H R (rs.map V.ref)) (r1 : Rows TupN H rs t) (h2 : TupN H R' (rs'.map V.ref)) (r2 : Rows TupN H rs' u) (h : Q (.bl (decide (t = u))) H) : rEqD K (.ref R) (.ref R') H Q :=
  ⟨_, _, dpTab h1 r1, dpTab h2 r2, tT_shaped _, tT_shaped _, by rw [tT_eqv]; exact h⟩
end GT

set_option linter.all false
/-! comprehensions with a test; pairs; the tables that laws draw -/
namespace Rd
open PySem PySem.Spec PyProof.Rows L2
section
variable {J : It} {xs : List V} {j : Nat} {te : TE} {tt : TT} {vs : List Nat} {σ : L2.St} {H : Hp} {Q : VK} {Qd : Addr → Hp → Prop}
/-- a comprehension with a test; nothing needs the heap -/
theorem lcIf (f : Nat → V) (p : Nat → Bool) (S : Src J xs H) (hz : xs.length ≤ 100000) (hw : ∀ x : V, wipe ((wipe σ vs).set j (some x)) vs = wipe σ vs)
    (ht : ∀ (n : Nat) (x : V) (H1 : Hp) (Q1 : Bool → Hp → Prop), xs[n]? = some x → Same H H1 → Q1 (p n) H1 → tt ((wipe σ vs).set j (some x)) H1 Q1)
    (hs : ∀ (n : Nat) (x : V) (H1 : Hp) (Q1 : VK), xs[n]? = some x → p n = true → Same H H1 → (∀ H2, Same H1 H2 → Q1 (f n) H2) → te ((wipe σ vs).set j (some x)) H1 Q1)
    (hq : ∀ (q : Addr) (H1 : Hp), H q = none → Same H H1 → H1 q = some (.lst (((List.range xs.length).filter p).map f)) → Qd q H1)
    (D : Addr) (hD : H D = none) :
    ∃ W : Nat → Nat → Hp → Prop, (∃ m, W 0 m (upd H D (.lst []))) ∧ ∀ i m H, W i m H →
      (J.stop i H ∧ Qd D H) ∨ (J.go i H ∧ ∃ Nx : Hp → Prop, (∀ H', Nx H' → ∃ m', m' < m ∧ W (i + 1) m' H') ∧ ∀ x H', J.yld i H x H' → gName j x (wipe σ vs) H' fun σ2 H2 => wipe σ2 vs = wipe σ vs ∧ tt σ2 H2 fun b H3 =>
        if b = true then te σ2 H3 fun y H4 => ∃ acc, H4 D = some (.lst
              acc) ∧ acc.length < sizeLine ∧ Nx (upd H4 D (.lst (acc ++ [y]))) else Nx H3) := by
  refine ⟨fun i m H1 => m = xs.length - i ∧ i ≤ xs.length ∧ Same H H1 ∧ H1 D = some (.lst (((List.range i).filter p).map f)), ⟨xs.length, rfl, Nat.zero_le _, same_mk hD, upd_same⟩, ?_⟩
  rintro i m H1 ⟨rfl, hi, e, hacc⟩
  by_cases c : i < xs.length
  · refine .inr ⟨S.go H1 _ e c, fun H' => Same H H' ∧ H' D = some (.lst (((List.range (i + 1)).filter p).map f)), fun H' z => ⟨xs.length - (i + 1), by omega, rfl, c, z⟩, fun x H' y => ?_⟩
    obtain ⟨rfl, hx⟩ := S.yld H1 _ x H' e y
    refine ⟨hw x, ht i x H' _ (hx c) e ?_⟩
    cases hp : p i with
    | true =>
      refine (if_pos rfl).mpr (hs i x H' _ (hx c) hp e fun H2 s2 => ?_)
      refine ⟨_, s2 _ _ hacc, ?_, same_mut (Same.trans e s2) hD, ?_⟩
      · rw [List.length_map]
        have := List.length_filter_le p (List.range i)
        rw [List.length_range] at this
        exact Nat.lt_of_lt_of_le (by omega : _ < 100000) (by decide)
      · rw [upd_same, List.range_succ, List.filter_append, List.map_append, List.filter_cons_of_pos hp]; rfl
    | false =>
      refine (if_neg Bool.false_ne_true).mpr ⟨e, ?_⟩
      rw [hacc, List.range_succ, List.filter_append, List.map_append, List.filter_cons_of_neg (by rw [hp]; exact Bool.false_ne_true)]
      simp
  · have e1 : i = xs.length := by omega
    subst e1
    exact .inl ⟨S.stop H1 e, hq D H1 hD e hacc⟩
end
/-- tuples of two ints: their addresses with what stands there -/
structure Prs (H : Hp) (ts : List Addr) (l : List (Int × Int)) : Prop where
  len : ts.length = l.length
  at_ : ∀ (i : Nat) (t : Addr) (q : Int × Int), ts[i]? = some t → l[i]? = some q → H t = some (.tup [.int q.1, .int q.2])
section
variable {H H' : Hp} {ts : List Addr} {l : List (Int × Int)}
theorem Prs.nil : Prs H [] [] := ⟨rfl, fun i t q h => by simp at h⟩
theorem Prs.same (h : Prs H ts l) (e : Same H H') : Prs H' ts l := ⟨h.len, fun i t q a b => e _ _ (h.at_ i t q a b)⟩
theorem Prs.but {p : Addr} {xs : List V} (h : Prs H ts l) (hp : H p = some (.lst xs)) (e : But p H H') : Prs H' ts l := ⟨h.len, fun i t q a b => by
  have z := h.at_ i t q a b
  exact e _ _ (ne_of z hp (by intro z; cases z)) z⟩
theorem Prs.snoc {t : Addr} {q : Int × Int} (h : Prs H ts l) (ht : H t = some (.tup [.int q.1, .int q.2])) : Prs H (ts ++ [t]) (l ++ [q]) := by
  refine ⟨by rw [List.length_append, List.length_append, h.len]; rfl, fun i u r a b => ?_⟩
  by_cases c : i < ts.length
  · rw [List.getElem?_append_left c] at a
    rw [List.getElem?_append_left (by rw [← h.len]; exact c)] at b
    exact h.at_ i u r a b
  · have lu := (List.getElem?_eq_some_iff.mp a).1
    rw [List.length_append, List.length_singleton] at lu
    have e : i = ts.length := by omega
    subst e
    rw [List.getElem?_append_right (Nat.le_refl _), Nat.sub_self] at a
    rw [h.len, List.getElem?_append_right (Nat.le_refl _), Nat.sub_self] at b
    cases a; cases b; exact ht
theorem Prs.pick (h : Prs H ts l) (idx : List Nat) (hi : ∀ j ∈ idx, j < l.length) : Prs H (idx.map fun j => ts.getD j 0) (idx.map fun j => l.getD j (0, 0)) := by
  refine ⟨by rw [List.length_map, List.length_map], fun i t q a b => ?_⟩
  rw [List.getElem?_map] at a b
  cases e : idx[i]? with
  | none => rw [e] at a; cases a
  | some j =>
    rw [e] at a b
    have hj := hi j (List.mem_of_getElem? e)
    have h1 : l[j]? = some l[j] := List.getElem?_eq_getElem hj
    have hj2 : j < ts.length := by rw [h.len]; exact hj
    have h2 : ts[j]? = some ts[j] := List.getElem?_eq_getElem hj2
    simp only [Option.map_some, List.getD_eq_getElem?_getD, h1, h2, Option.getD_some, Option.some.injEq] at a b
    subst a
    subst b
    exact h.at_ j _ _ h2 h1
theorem pick_mem (idx : List Nat) (hi : ∀ j ∈ idx, j < l.length) : ∀ q ∈ (idx.map fun j => l.getD j (0, 0)), q ∈ l := by
  intro q hq
  obtain ⟨j, hj, rfl⟩ := List.mem_map.mp hq
  have h := hi j hj
  rw [List.getD_eq_getElem?_getD, List.getElem?_eq_getElem h]
  exact List.getElem_mem h
theorem Prs.get (h : Prs H ts l) {i : Nat} {x : V} (hx : (ts.map V.ref)[i]? = some x) : ∃ t q, x = .ref t ∧ ts[i]? = some t ∧ l[i]? = some q ∧ H t = some (.tup [.int q.1, .int q.2]) := by
  rw [List.getElem?_map] at hx
  cases q : ts[i]? with
  | none => rw [q] at hx; cases hx
  | some t =>
    rw [q] at hx
    cases hx
    have hi : i < l.length := by rw [← h.len]; exact (List.getElem?_eq_some_iff.mp q).1
    exact ⟨t, l[i], rfl, rfl, List.getElem?_eq_getElem hi, h.at_ i t _ q (List.getElem?_eq_getElem hi)⟩
end
end Rd
namespace GT
/-- powers modulo n -/
def pwm (b n : Int) : Nat → Int
  | 0 => 1 % n
  | k + 1 => pwm b n k * b % n
theorem pwm_range {b n : Int} (hn : 1 ≤ n) : ∀ k, 0 ≤ pwm b n k ∧ pwm b n k < n
  | 0 => ⟨Int.emod_nonneg _ (by omega), Int.emod_lt_of_pos _ (by omega)⟩
  | k + 1 => ⟨Int.emod_nonneg _ (by omega), Int.emod_lt_of_pos _ (by omega)⟩
theorem pwm_one {n : Int} : ∀ k, pwm 1 n k = 1 % n
  | 0 => rfl
  | k + 1 => by
    show pwm 1 n k * 1 % n = _
    rw [pwm_one k, Int.mul_one, Int.emod_emod]
/-- entry y of row x of the metacyclic table times a cyclic one -/
def metaE (n m k r s x y : Int) : Int :=
  let a := x / (m * k) + pwm r n (x / k % m).toNat * (y / (m * k))
  let b := x / k % m + y / k % m
  ((if m ≤ b then a + s else a) % n * m + b % m) * k + (x + y) % k
theorem pack_lt {u v n m : Int} (hu0 : 0 ≤ u) (hu : u < n) (hv0 : 0 ≤ v) (hv : v < m) : 0 ≤ u * m + v ∧ u * m + v < n * m := by
  have h1 : 0 ≤ u * m := Int.mul_nonneg hu0 (by omega)
  have h2 : (u + 1) * m ≤ n * m := Int.mul_le_mul_of_nonneg_right (by omega) (by omega)
  rw [Int.add_mul,
        Int.one_mul] at h2
  omega
theorem metaE_range {n m k r s x y : Int} (hn : 1 ≤ n) (hm : 1 ≤ m) (hk : 1 ≤ k) : 0 ≤ metaE n m k r s x y ∧ metaE n m k r s x y < n * m * k := by
  unfold metaE
  simp only []
  have a := pack_lt (Int.emod_nonneg (if m ≤ x / k % m + y / k % m then x / (m * k) + pwm r n (x / k % m).toNat * (y / (m * k)) + s else x / (m * k) + pwm r n (x / k % m).toNat * (y / (m * k))) (by omega : n ≠ 0)) (Int.emod_lt_of_pos _ (by omega)) (Int.emod_nonneg (x / k % m + y / k % m) (by omega : m ≠ 0)) (Int.emod_lt_of_pos _ (by omega))
  exact pack_lt a.1 a.2 (Int.emod_nonneg (x + y) (by omega : k ≠ 0)) (Int.emod_lt_of_pos _ (by omega))
def metaT (n m k r s : Int) : List (List Int) := (List.range (n * m * k).toNat).map fun x => (List.range (n * m * k).toNat).map fun y => metaE n m k r s (x : Nat) (y : Nat)
structure MetaOk (n m k r s : Int) : Prop where
  n1 : 1 ≤ n
  m1 : 1 ≤ m
  k1 : 1 ≤ k
  r1 : 1 ≤ r
  rn : r ≤ n
  s0 : 0 ≤ s
  sn : s < n
  one : pwm r n m.toNat = 1 % n
  fix : (r - 1) * s % n = 0
theorem MetaOk.sq {n m k r s : Int} (M : MetaOk n m k r s) : Sq (metaT n m k r s) ∧ ((metaT n m k r s).length : Int) = n * m * k := by
  have p1 : 1 ≤ n * m := Int.mul_le_mul M.n1 M.m1 (by decide) (by have := M.n1; omega)
  have p2 : 1 ≤ n * m * k := Int.mul_le_mul p1 M.k1 (by decide) (by omega)
  have l : ((metaT n m k r s).length : Int) = n * m * k := by unfold metaT; rw [List.length_map, List.length_range]; omega
  refine ⟨⟨by omega, fun q hq => ?_⟩, l⟩
  rw [l]
  unfold metaT at hq ⊢
  obtain ⟨x, _, rfl⟩ := List.mem_map.mp hq
  refine ⟨by simp, fun e he => ?_⟩
  obtain ⟨y, _, rfl⟩ := List.mem_map.mp he
  exact metaE_range M.n1 M.m1 M.k1
end GT

set_option linter.all false
set_option maxRecDepth 100000
/-! permutations of four points -/
namespace GT
def quads : List (List Int) := [0, 1, 2, 3].flatMap fun a => [0, 1, 2, 3].flatMap fun b => [0, 1, 2, 3].flatMap fun c => [0, 1, 2, 3].map fun d => [a, b, c, d]
def perms4 : List (List Int) := quads.filter fun r => decide r.Nodup
/-- q after p -/
def comp (q p : List Int) : List Int := p.map fun x => q.getD x.toNat 0
def id4 : List Int := [0, 1, 2, 3]
theorem p4_len : perms4.length = 24 := by decide +kernel
theorem p4_id : id4 ∈ perms4 := by decide +kernel
theorem p4_comp : ∀ q ∈ perms4, ∀ p ∈ perms4, comp q p ∈ perms4 := by decide +kernel
theorem p4_rng : ∀ p ∈ perms4, p.length = 4 ∧ ∀ x ∈ p, 0 ≤ x ∧ x < 4 := by decide +kernel
theorem p4_one : ∀ p ∈ perms4, comp id4 p = p ∧ comp p id4 = p := by decide +kernel
theorem p4_of {r : List Int} (h : r.Perm [0, 1, 2, 3]) : r ∈ perms4 := by
  have l := h.length_eq
  have m : ∀ x ∈ r, x ∈ ([0, 1, 2, 3] : List Int) := fun x hx => h.mem_iff.mp hx
  have n : r.Nodup := h.nodup_iff.mpr (by decide)
  match r, l with
  | [a, b, c, d], _ =>
    refine List.mem_filter.mpr ⟨?_, decide_eq_true n⟩
    refine List.mem_flatMap.mpr ⟨a, m a (by simp), List.mem_flatMap.mpr ⟨b, m b (by simp), List.mem_flatMap.mpr ⟨c, m c (by simp), List.mem_map.mpr ⟨d, m d (by simp), rfl⟩⟩⟩⟩
theorem comp_assoc {a b c : List Int} (hb : b.length = 4) (hc : ∀ x ∈ c, 0 ≤ x ∧ x < 4) : comp (comp a b) c = comp a (comp b c) := by
  unfold comp
  rw [List.map_map]
  refine List.map_congr_left fun x hx => ?_
  obtain ⟨h0, h1⟩ := hc x hx
  show (b.map fun x => a.getD x.toNat 0).getD x.toNat 0 = a.getD (b.getD x.toNat 0).toNat 0
  have hl : x.toNat < b.length := by omega
  rw [List.getD_eq_getElem?_getD, List.getElem?_map, List.getD_eq_getElem?_getD (l := b), List.getElem?_eq_getElem hl]; rfl
/-- words in the makers -/
inductive Word (ms : List (List Int)) : List Int → Prop
  | one : Word ms id4
  | step {m z : List Int} : m ∈ ms → Word ms z → Word ms (comp m z)
structure GenP (ms fs : List (List Int)) : Prop where
  nd : fs.Nodup
  p4 : ∀ z ∈ fs, z ∈ perms4
  re : ∀ z ∈ fs, Word ms z
  one : id4 ∈ fs
theorem GenP.start (ms : List (List Int)) : GenP ms [id4] := ⟨by simp, fun z h => by rw [List.mem_singleton.mp h]; exact p4_id, fun z h => by rw [List.mem_singleton.mp h]; exact .one, by simp⟩
theorem GenP.add {ms fs : List (List Int)} {m z : List Int} (F : GenP ms fs) (hp : ∀ m ∈ ms, m ∈ perms4) (hm : m ∈ ms) (hz : z ∈ fs) (no : comp m z ∉ fs) : GenP ms (fs ++ [comp m z]) := by
  refine ⟨List.nodup_append.mpr ⟨F.nd, by simp, fun a ha b hb => ?_⟩, fun y hy => ?_, fun y hy => ?_, List.mem_append_left _ F.one⟩
  · rw [List.mem_singleton.mp
        hb]
    intro e
    exact no (e ▸ ha)
  · rcases List.mem_append.mp hy with h | h
    · exact F.p4 y h
    · rw [List.mem_singleton.mp h]
      exact p4_comp m (hp m hm) z (F.p4 z hz)
  · rcases List.mem_append.mp hy with h | h
    · exact F.re y h
    · rw [List.mem_singleton.mp h]
      exact .step hm (F.re z hz)
theorem GenP.few {ms fs : List (List Int)} (F : GenP ms fs) : fs.length ≤ 24 := by
  have := F.nd.length_le_of_subset (l₂ := perms4) F.p4
  rw [p4_len] at this
  exact this
theorem GenP.closed {ms fs : List (List Int)} (F : GenP ms fs) (hp : ∀ m ∈ ms, m ∈ perms4) (cl : ∀ z ∈ fs, ∀ m ∈ ms, comp m z ∈ fs) : ∀ q ∈ fs, ∀ p ∈ fs, comp q p ∈ fs := by
  intro q hq p hp2
  have hw := F.re q hq
  clear hq
  have pr := (p4_rng p (F.p4 p hp2)).2
  have key : ∀ q, Word ms q → q ∈ perms4 ∧ comp q p ∈ fs := by
    intro q hw
    induction hw with
    | one => exact ⟨p4_id, by rw [(p4_one p (F.p4 p hp2)).1]; exact hp2⟩
    | @step m z hm _ ih =>
      refine ⟨p4_comp m (hp m hm) z ih.1, ?_⟩
      rw [comp_assoc (p4_rng z ih.1).1 pr]
      exact cl _ ih.2 m hm
  exact (key q hw).2
/-- a set of permutations that is a group, in some order -/
structure PermOk (fs : List (List Int)) : Prop where
  nd : fs.Nodup
  p4 : ∀ z ∈ fs, z ∈ perms4
  one : id4 ∈ fs
  cl : ∀ q ∈ fs, ∀ p ∈ fs, comp q p ∈ fs
  le : fs.length ≤ 24
  asc : fs.Pairwise (fun x y => Rs.ltL y x = false)
def permT (fs : List (List Int)) : List (List Int) := fs.map fun p => fs.map fun q => ((fs.idxOf (comp q p) : Nat) : Int)
theorem PermOk.sq {fs : List (List Int)} (O : PermOk fs) : Sq (permT fs) ∧ (permT fs).length = fs.length := by
  have l : (permT fs).length = fs.length := by unfold permT; rw [List.length_map]
  refine ⟨⟨by rw [l]; exact List.length_pos_of_mem O.one, fun r hr => ?_⟩, l⟩
  rw [l]
  unfold permT at hr
  obtain ⟨p, hp, rfl⟩ := List.mem_map.mp hr
  refine ⟨by rw [List.length_map], fun e he => ?_⟩
  obtain ⟨q, hq, rfl⟩ := List.mem_map.mp he
  have := List.idxOf_lt_length_of_mem (O.cl q hq p hp)
  omega
open L2 Rd in
theorem dpRowsL {K : PySem.W.Frag} {H : Hp} : ∀ {rs : List PySem.Addr} {t : List (List Int)}, Rows LstN H rs t → DpAll K H (rs.map V.ref) (t.map iL)
  | [], [], _ => .nil
  | [], _ :: _, R => absurd R.len (by simp)
  | _ :: _, [], R => absurd R.len (by simp)
  | a :: rs, r :: t, R => .cons (dpL (SqL.of (R.row 0 a r rfl rfl))) (dpRowsL ⟨by have := R.len; simpa using this, fun i b q h1 h2 => R.row (i + 1) b q h1 h2⟩)
open Rd in
theorem anyL (d : List Int) : ∀ t : List (List Int), ((t.map iL).any fun z => PySem.PyData.eqv z (iL d)) = decide (d ∈ t)
  | [] => rfl
  | r :: t => by
    rw [List.map_cons, List.any_cons, anyL d t, iL_eqv, Bool.eq_iff_iff, Bool.or_eq_true, decide_eq_true_eq, decide_eq_true_eq, decide_eq_true_eq, List.mem_cons]
    constructor
    · rintro (h | h)
      · exact .inl h.symm
      · exact .inr h
    · rintro (h | h)
      · exact .inl h.symm
      · exact .inr h
open L2 Rd in
theorem notInLL {K : PySem.W.Frag} {H : Hp} {Q : VK} {a p : PySem.Addr} {rs : List PySem.Addr} {t : List (List Int)} {d : List Int} (hd : H a = some (.lst (d.map V.int))) (hp : H p = some (.lst (rs.map V.ref))) (R : Rows LstN H rs t) (h : Q (.bl (!decide (d ∈ t))) H) : rNotInD K (.ref a) (.ref p) H Q :=
  ⟨iL d, t.map iL, dpL (SqL.of hd), .lst (SqL.of hp) (dpRowsL R), iL_shaped d, lL_shaped t, by rw [anyL]; exact h⟩
open L2 Rd in
theorem indexLL {K : PySem.W.Frag} {H : Hp} {Q : VK} {a p : PySem.Addr} {rs : List PySem.Addr} {t : List (List Int)} {d : List Int} (hd : H a = some (.lst (d.map V.int))) (hp : H p = some (.lst (rs.map V.ref))) (R : Rows LstN H rs t) (m : d ∈ t) (h : Q (.int (t.idxOf d : Nat)) H) : rIndexD K (.ref p) [.ref a] H Q := by
  have h1 : t.idxOf d < t.length := List.idxOf_lt_length_of_mem m
  refine ⟨p, .ref a, iL d, t.map iL, t.idxOf d, iL d, rfl, rfl, .lst (SqL.of hp) (dpRowsL R), dpL (SqL.of hd), lL_shaped t, iL_shaped d, ?_, by rw [iL_eqv]; exact decide_eq_true rfl, fun n z' hn hz => ?_, h⟩
  · rw [List.getElem?_map, List.getElem?_eq_getElem h1, List.getElem_idxOf h1]; rfl
  · have hn2 : n < t.length := by omega
    rw [List.getElem?_map, List.getElem?_eq_getElem hn2] at hz
    cases hz
    rw [iL_eqv]
    refine decide_eq_false fun e => ?_
    have := List.not_of_lt_findIdx (p := fun x => x == d) (xs := t) (i := n) hn
    rw [e] at this
    simp at this
theorem erase_perm {α : Type} {l : List α} {k : Nat} {y : α} (h : l[k]? = some y) : (y :: l.eraseIdx k).Perm l := by
  obtain ⟨hk, e⟩ := List.getElem?_eq_some_iff.mp h
  have e2 : l = l.take k ++ y :: l.drop (k + 1) := by
    rw [← e, List.getElem_cons_drop hk, List.take_append_drop]
  rw [List.eraseIdx_eq_take_drop_succ]
  refine List.Perm.trans ?_ (List.Perm.of_eq e2.symm)
  exact List.perm_middle.symm
theorem ref_int {as : List PySem.Addr} {m : List Int} (h : as.map L2.V.ref = m.map L2.V.int) : m = [] := by
  cases m with
  | nil => rfl
  | cons x xs =>
    cases as with
    | nil => cases h
    | cons a as => cases h
end GT

set_option linter.all false
/-! tables with other numbers -/
namespace GT
structure NmOk (n : Nat) (ns : List Int) : Prop where
  len : ns.length = n
  rng : ∀ x ∈ ns, 0 ≤ x ∧ x < (n : Int)
  nd : ns.Nodup
  zero : 0 < n → ns[0]? = some 0
theorem NmOk.start (n : Nat) : NmOk n ((List.range n).map fun i => ((i : Nat) : Int)) := by
  refine ⟨by rw [List.length_map, List.length_range], fun x hx => ?_, ?_, fun h => by rw [List.getElem?_map, List.getElem?_range h]; rfl⟩
  · obtain ⟨i, hi, rfl⟩ := List.mem_map.mp hx
    have := List.mem_range.mp hi
    omega
  · rw [List.Nodup, List.pairwise_map]
    exact List.nodup_range.imp fun {a b} h e => h (by omega)
theorem swap_at {ns : List Int} {x y i : Nat} {a b : Int} (hx : ns[x]? = some a) (hy : ns[y]? = some b) : ((ns.set x b).set y a)[i]? = ns[if i = y then x else if i = x then y else i]? := by
  have lx := (List.getElem?_eq_some_iff.mp hx).1
  have ly := (List.getElem?_eq_some_iff.mp hy).1
  rw [List.getElem?_set, List.getElem?_set, List.length_set]
  by_cases c : i = y
  · subst c
    rw [if_pos rfl, if_pos ly, if_pos rfl, hx]
  · rw [if_neg (fun z => c z.symm), if_neg c]
    by_cases d : i = x
    · subst d
      rw [if_pos rfl, if_pos lx, if_pos rfl, hy]
    · rw [if_neg (fun z => d z.symm), if_neg d]
theorem NmOk.swap {n : Nat} {ns : List Int} {x y : Nat} {a b : Int} (N : NmOk n ns) (hx : ns[x]? = some a) (hy : ns[y]? = some b) (x1 : 1 ≤ x) (y1 : 1 ≤ y) : NmOk n ((ns.set x b).set y a) := by
  have lx := (List.getElem?_eq_some_iff.mp hx).1
  have ly := (List.getElem?_eq_some_iff.mp hy).1
  refine ⟨by rw [List.length_set, List.length_set]; exact N.len, fun z hz => ?_, ?_, fun h => ?_⟩
  · obtain ⟨i, hi⟩ := List.getElem?_of_mem hz
    rw [swap_at hx hy] at hi
    exact N.rng z (List.mem_of_getElem? hi)
  · rw [List.Nodup, List.pairwise_iff_getElem]
    intro i j hi hj hij e
    have e1 : ((ns.set x b).set y a)[i]? = ((ns.set x b).set y a)[j]? := by rw [List.getElem?_eq_getElem hi, List.getElem?_eq_getElem hj, e]
    rw [List.length_set, List.length_set] at hi hj
    rw [swap_at hx hy, swap_at hx hy] at e1
    have lt : (if i = y then x else if i = x then y else i) < ns.length := by
      split
      · exact lx
      · split
        · exact ly
        · exact hi
    have := (List.getElem?_inj lt N.nd).mp e1
    split at this <;> split at this <;> (try split at this) <;> (try split at this) <;> omega
  · rw [swap_at hx hy, if_neg (by omega), if_neg (by omega)]
    exact N.zero h
theorem NmOk.onto {n : Nat} {ns : List Int} (N : NmOk n ns) {k : Nat} (hk : k < n) : ∃ i, i < n ∧ ns[i]? = some (k : Int) := by
  have m : (k : Int) ∈ ns := by
    apply Classical.byContradiction
    intro no
    have := (List.nodup_cons.mpr ⟨no, N.nd⟩).length_le_of_subset (l₂ := (List.range n).map fun i => ((i : Nat) : Int)) (fun z hz => by
      rcases List.mem_cons.mp hz with h | h
      · rw [h]
        exact List.mem_map.mpr ⟨k, List.mem_range.mpr hk, rfl⟩
      · obtain ⟨h1, h2⟩ := N.rng z h
        exact List.mem_map.mpr ⟨z.toNat, List.mem_range.mpr (by omega), by omega⟩)
    rw [List.length_cons, List.length_map, List.length_range, N.len] at this
    omega
  obtain ⟨i, hi⟩ := List.getElem?_of_mem m
  exact ⟨i, by rw [← N.len]; exact (List.getElem?_eq_some_iff.mp hi).1, hi⟩
/-- the name of x -/
def nm (ns : List Int) (x : Nat) : Nat := (ns.getD x 0).toNat
theorem NmOk.at_ {n : Nat} {ns : List Int} (N : NmOk n ns) {x : Nat} (hx : x < n) : ns[x]? = some (nm ns x : Int) ∧ nm ns x < n := by
  have lx : x < ns.length := by rw [N.len]; exact hx
  obtain ⟨h1, h2⟩ := N.rng ns[x] (List.getElem_mem lx)
  unfold nm
  rw [getD_of (List.getElem?_eq_getElem lx), List.getElem?_eq_getElem lx]
  exact ⟨congrArg some (by omega), by omega⟩
theorem NmOk.inj {n : Nat} {ns : List Int} (N : NmOk n ns) {x y : Nat} (hx : x < n) (hy : y < n) (h : nm ns x = nm ns y) : x = y := by
  refine (List.getElem?_inj (by rw [N.len]; exact hx) N.nd).mp ?_
  rw [(N.at_ hx).1, (N.at_ hy).1, h]
structure Ren (t : List (List Int)) (ns : List Int) (u : List (List Int)) : Prop where
  nms : NmOk t.length ns
  len : u.length = t.length
  row : ∀ r ∈ u, r.length = t.length
  at_ : ∀ x y, x < t.length → y < t.length → at2 u (nm ns x) (nm ns y) = (nm ns (mul t x y) : Int)
theorem Ren.sq {t u : List (List Int)} {ns : List Int} (R : Ren t ns u) (S : Sq t) : Sq u := by
  refine ⟨by rw [R.len]; exact S.pos, fun r hr => ⟨by rw [R.len]; exact R.row r hr, fun e he => ?_⟩⟩
  obtain ⟨i, hi⟩ := List.getElem?_of_mem hr
  obtain ⟨j, hj⟩ := List.getElem?_of_mem he
  have li : i < t.length := by rw [← R.len]; exact (List.getElem?_eq_some_iff.mp hi).1
  have lj : j < t.length := by rw [← R.row r hr]; exact (List.getElem?_eq_some_iff.mp hj).1
  obtain ⟨x, hx, ex⟩ := R.nms.onto li
  obtain ⟨y, hy, ey⟩ := R.nms.onto lj
  have nx : nm ns x = i := by
    have := (R.nms.at_ hx).1
    rw [ex] at this
    have := Option.some.inj this
    omega
  have ny : nm ns y = j := by
    have := (R.nms.at_ hy).1
    rw [ey] at this
    have := Option.some.inj this
    omega
  have h := R.at_ x y hx hy
  rw [nx, ny, at2_of hi hj] at h
  have l := (R.nms.at_ (S.mul_lt hx hy)).2
  rw [h, R.len]
  omega
theorem at2_set {u : List (List Int)} {X Y : Nat} {r : List Int} {v : Int} (hr : u[X]? = some r) (hY : Y < r.length) (X' Y' : Nat) : at2 (u.set X (r.set Y v)) X' Y' = if X' = X ∧ Y' = Y then v else at2 u X' Y' := by
  have lX := (List.getElem?_eq_some_iff.mp hr).1
  unfold at2
  rw [List.getD_eq_getElem?_getD (l := u.set X (r.set Y v)), List.getElem?_set]
  by_cases c : X = X'
  · subst c
    rw [if_pos rfl, if_pos lX, Option.getD_some, List.getD_eq_getElem?_getD, List.getElem?_set, getD_of hr]
    by_cases d : Y = Y'
    · subst d
      rw [if_pos rfl, if_pos hY, if_pos ⟨rfl, rfl⟩]; rfl
    · rw [if_neg d, if_neg (fun z => d z.2.symm), List.getD_eq_getElem?_getD]
  · rw [if_neg c, if_neg (fun z => c z.1.symm), ← List.getD_eq_getElem?_getD]
open PySem L2 Rd in
theorem Rows.put {H : Hp} {ra : List Addr} {u : List (List Int)} {X : Nat} {a : Addr} {r : List Int} (R : Rows LstN H ra u) (nd : ra.Nodup) (ha : ra[X]? = some a) : Rows LstN (upd H a (.lst (r.map V.int))) ra (u.set X r) := by
  have lX := (List.getElem?_eq_some_iff.mp ha).1
  refine ⟨by rw [List.length_set]; exact R.len, fun i b q h1 h2 => ?_⟩
  unfold LstN
  rw [List.getElem?_set] at h2
  by_cases c : X = i
  · subst c
    rw [ha] at h1
    cases h1
    rw [if_pos rfl, if_pos (by rw [← R.len]; exact lX)] at h2
    cases h2
    exact upd_same
  · rw [if_neg c] at h2
    rw [upd_ne (fun z => c ((List.getElem?_inj lX nd).mp (by rw [ha, h1, z])))]
    exact R.row i b q h1 h2
end GT
namespace Rd
open PySem PySem.Spec PyProof.Rows L2
theorem rng3 {ta : TA} {σ : L2.St} {H : Hp} {R : It → Hp → Prop} (h : ta σ H fun vs H1 => ∃ (i j c : Int) (n : Nat), vs = [.int i, .int j, .int c] ∧ RgC i j c n ∧ R (Itc i c n) H1) : iRng3 ta σ H R := h
end Rd

set_option linter.all false
/-! what is tried -/
namespace Rd
open PySem PySem.Spec L2 PyProof.Rows
/-- what a callee lets out, to an except clause that asks nothing of the slots but how many they are -/
theorem passT {X : Cx} {W : WX} {n : Nat} (tk : Takes X W) (hn : X.N.length = n) : Passes (L2.CX X.prog X.w) X (fun cls d H' => ∀ σ' : L2.St, σ'.length = n → W cls d σ' H') :=
  fun _ σ _ _ e s' I c => tk e s' (XE.of_call I (fun _ _ _ h => h σ (I.len.trans hn)) c)
theorem psIf {X : Cx} {b : List Stmt} {P : Prop} {t : TS} (h : P → PSs X b t) : PSs X b (fun D σ H => P ∧ t D σ H) :=
  ⟨fun pins s σ H D I q => (h q.1).run pins s σ H D I q.2⟩
theorem zc_of {cls c : Value} {d : Option Addr} {oe : Obj} (h : Zc cls d oe) (e : cls = c) (z : d = none) : Zc c none oe := by
  subst e
  subst z
  exact h
theorem excOk {K : PySem.W.Frag} {C : Addr} {b : Bool} {cls : Value} (E : ExcC K C) (t : PySem.W.typeIn K (.ref C) = some (.type "type")) (s : PySem.W.subIn K cls (.ref C) = some b) : PySem.W.exmOne K cls (.ref C) = some b :=
  PySem.W.exm_ref E.hs E.hd t s
end Rd

namespace Rd
open PySem PySem.Spec L2 PyProof.Rows
abbrev Cl : Type := Value × Nat × (Addr → Value → Option Addr → TS)
/-- the ends of a suite whose name is unbound behind it -/
abbrev endsAs (D : Ends) (i : Nat) : Ends := { nx := fun σ' H' => D.nx (σ'.set i none) H', rt := D.rt, bk := fun σ' H' => D.bk (σ'.set i none) H', ct := fun σ' H' => D.ct (σ'.set i none) H' }
/-- what several clauses 'except x as n' wish, one after the other -/
def wAsMany (K : PySem.W.Frag) (Wout : WX) (D : Ends) : List Cl → WX
  | [] => Wout
  | (c, i, ts) :: r => fun cls d σ H => ∃ b, PySem.W.exmOne K cls c = some b ∧ (b = true → ∀ a, H a = none → ts a cls d (endsAs D i) (σ.set i (some (.ref a))) H) ∧ (b = false → wAsMany K Wout D r cls d σ H)
inductive HdsAs (X : Cx) : List ExceptHandler → List Cl → Prop
  | nil : HdsAs X [] []
  | cons {x n : Str} {c : Value} {i : Nat} {ts : Addr → Value → Option Addr → TS} {b₀ : Stmt} {suite : List Stmt} {np q : Pos} {hds : List ExceptHandler} {l : List Cl} (hi : X.N[i]? = some n) (hln : X.env.kindOf n = some .local) (hc : Names X x c)
      (hsu : ∀ (a : Addr) (oe : Obj) (cls : Value) (d : Option Addr) (pn : List (Addr × Obj)), Zc cls d oe → (∃ vs, oe.data = .fields vs) → PSs (X.suite a ((a, oe) :: pn)) (b₀ :: suite) (ts a cls d))
      (r : HdsAs X hds l) : HdsAs X (.ExceptHandler (some (.Name x np)) (some n) (b₀ :: suite) q :: hds) ((c, i, ts) :: l)
section
variable {X : Cx} {body : List Stmt} {h₀ : ExceptHandler} {hds : List ExceptHandler} {l : List Cl} {pos : Pos} {tb : WX → TS} {Wout : WX}
theorem ps_try_asMany (hs : X.stack = X.env :: X.outer) (hf : X.env.frame = some X.env.locals) (hN : X.N.Nodup) (tk : Takes X Wout)
    (hb : ∀ (W : WX) (pn : List (Addr × Obj)) (xe : Value → Shared → Prop), Takes (X.tr pn xe) W → PassesOwn (model X.prog X.w) X.A X.env xe → PSs (X.tr pn xe) body (tb W))
    (hh : HdsAs X (h₀ :: hds) l) : PS X (.Try body (h₀ :: hds) [] [] pos) (fun D σ H => tb (wAsMany X.K Wout D l) D σ H) := by
  constructor
  intro pins s σ H D I way
  have ok := I.ok
  have fr : X.A.frames = some (X.env :: X.outer) := by rw [ok.frames, hs]
  refine wpAny_Try_except ?_
  have run := fun xe t p => (hb (wAsMany X.K Wout D l) (X.pn ++ pins) xe t p).run [] s σ H D (I.toTry _) way
  refine wpAny_mono (run (fun e s₁ => wpAny (model X.prog X.w) X.A (noteFrame e X.env) (fun _ s₂ => wpAny (model X.prog X.w) X.A (setFlight e none) (fun _ s₃ =>
    wpAny (model X.prog X.w) X.A (handleBy e X.env (h₀ :: hds)) (SP X pins D) X.xe s₃) X.xe s₂) X.xe s₁) ?_ PassesOwn.looking) ?_ (fun _ _ z => z)
  · rintro u s' ⟨a, B, sI, pins', σ', H', cls, d, rfl, J', nb, up, sky, na, os, ag, wish⟩
    have J : Inv X pins σ' H' sI := J'.ofTry ok
    rw [hs] at sky
    show wpAny _ X.A (noteFrame (.ref a) X.env) _ _ _
    refine Sky.land Zc.steady fr hf sky fun h3 fl3 up3 => ?_
    have up13 := up.trans up3
    have J3 : Inv X pins σ' H' { s' with heap := h3 } := J.landed nb fl3.1 up13 os ag
    obtain ⟨oe3, vs3, he3, hz3, hd3⟩ := fl3.there
    have nfr : a ∉ frs (X.env :: X.outer) := fun hm => by
      obtain ⟨_, o2, e2, k2⟩ := fl3.2.2.1.mem hm
      rw [he3] at e2
      cases e2
      exact k2 _ hd3
    have nL : a ≠ X.env.locals := fun z => nfr (List.mem_filterMap.mpr ⟨X.env, List.mem_cons_self, by rw [z]; exact hf⟩)
    have nF : a ∉ X.fs := fun hm => by
      obtain ⟨e2, h2, q2⟩ := List.mem_filterMap.mp hm
      exact nfr (List.mem_filterMap.mpr ⟨e2, List.mem_cons_of_mem _ h2, q2⟩)
    have S3 := J3.suite he3 hd3 na nL nF
    have go : ∀ {hds2 : List ExceptHandler} {l2 : List Cl}, HdsAs X hds2 l2 → wAsMany X.K Wout D l2 cls d σ' H' → wpAny (model X.prog X.w) X.A (handleBy (.ref a) X.env hds2) (SP X pins D) X.xe { s' with heap := h3 } := by
      intro hds2 l2 hk
      induction hk with
      | nil =>
        intro out
        refine wpAny_handleBy_nil ?_
        obtain ⟨_, _, _, oe, vs, T, _, _, he, _, hd, h1, _⟩ := id fl3
        unfold PySem.passOn
        refine wpAny_bind (wpAny_field he hd h1 ?_)
        rw [if_neg (by simp)]
        have fly : wpAny (model X.prog X.w) X.A (setFlight (.ref a) X.env.frame) (fun _ s4 => wpAny (model X.prog X.w) X.A (throw (.ref a) : Sem Flow) (SP X pins D) X.xe s4) X.xe { s' with heap := h3 } := by
          rw [hf]
          refine HandSPX.setFlight_upZ fl3 fun h4 held up4 => wpAny_throw (tk _ _ ⟨a, B, sI, pins, σ', H', cls, d, rfl, J, nb, up13.trans up4, .inr (.inr ?_), na, os, ag, out⟩)
          rw [hs]
          exact held
        first
          | exact wpAny_bind fly
          | exact wpAny_bind (wpAny_pure (wpAny_bind fly))
      | @cons x n c i ts b₀ suite np q hds3 l3 hi hln hc hsu r ih =>
        rintro ⟨b, hb1, yes, no⟩
        have loc : Loc X.env.scope n := .inl hln
        refine wpAny_handleBy_cons (codeAny_handlers_test ?_) (by intro z; cases z)
        have look : PySem.W.Looks (model X.prog X.w) h3 (typeOf (.ref a)) cls := fun _ _ _ _ k z => wpAny_typeOf_ref (k _ _ he3) (by rw [hz3.1]; exact z)
        have ans := PySem.W.exm_one (M := model X.prog X.w) J3.kIn look hb1
        have ask : ∀ {Q E : Value → Shared → Prop}, Q c { s' with heap := h3 } → wpAny (model X.prog X.w) (X.A.mark (some (.ref a))) (eval (.Name x np) X.env) Q E { s' with heap := h3 } := by
          intro Q E z
          obtain ⟨hg, hdb, own | ⟨hm, hv, hn⟩⟩ := hc
          · exact ld_glob (X := X.suite a ((a, oe3) :: (X.pn ++ pins))) S3 hg own z hdb
          · exact ld_blt (X := X.suite a ((a, oe3) :: (X.pn ++ pins))) S3 hg hm hv z hn hdb
        refine ask (ans.here ?_)
        cases b with
        | false =>
          show wpAny _ X.A (handleBy (.ref a) X.env hds3) _ _ _
          exact ih (no rfl)
        | true =>
          refine codeAny_handlers_suite_as (HandSPX.lands_againZ fl3 fun h4 fl4 up4 => ?_)
          have J4 : Inv X pins σ' H' { s' with heap := h4 } := J.landed nb fl4.1 (up13.trans up4) os ag
          obtain ⟨oe4, vs4, he4, hz4, hd4⟩ := fl4.there
          have S4 := J4.suite he4 hd4 na nL nF
          refine store_ok (X := X.suite a ((a, oe4) :: (X.pn ++ pins))) (v := .ref a) S4 hN hi loc rfl (fun s5 S5 => ?_) (.inr hln)
          have went := (hsu a oe4 cls d (X.pn ++ pins) hz4 ⟨_, hd4⟩).run [] s5 _ H' _ S5 (yes rfl a na)
          refine wpAny_mono went (fun f s6 out => ?_) (fun _ _ z => z.elim)
          have behind : ∀ {σ6 : L2.St} {H6 : Hp} {Q : Shared → Prop}, Inv (X.suite a ((a, oe4) :: (X.pn ++ pins))) [] σ6 H6 s6 → (∀ s7, Inv X pins (σ6.set i none) H6 s7 → Q s7) →
              wpAny (model X.prog X.w) X.A (do bindName X.env n .none; unbindBehindTheSuite X.env n q) (fun _ s7 => Q s7) X.xe s6 := fun S6 k => gone_ok (S6.unsuite ok) hN hi hln k
          cases f with
          | ret u =>
            obtain ⟨v6, σ6, H6, S6, r6, q6⟩ := out
            exact behind S6 fun s7 J7 => ⟨_, _, _, J7, r6, q6⟩
          | next =>
            obtain ⟨σ6, H6, S6, q6⟩ := out
            exact behind S6 fun s7 J7 => ⟨_, _, J7, q6⟩
          | brk =>
            obtain ⟨σ6, H6, S6, q6⟩ := out
            exact behind S6 fun s7 J7 => ⟨_, _, J7, q6⟩
          | cont =>
            obtain ⟨σ6, H6, S6, q6⟩ := out
            exact behind S6 fun s7 J7 => ⟨_, _, J7, q6⟩
    exact go hh wish
  · intro f s1 out
    cases f with
    | ret u =>
      obtain ⟨v, σ2, H2, J2, r2, q2⟩ := out
      exact ⟨v, σ2, H2, J2.ofTry ok, r2, q2⟩
    | next =>
      obtain ⟨σ2, H2, J2, q2⟩ := out
      exact wpAny_execs_nil ⟨σ2, H2, J2.ofTry ok, q2⟩
    | brk =>
      obtain ⟨σ2, H2, J2, q2⟩ := out
      exact ⟨σ2, H2, J2.ofTry ok, q2⟩
    | cont =>
      obtain ⟨σ2, H2, J2, q2⟩ := out
      exact ⟨σ2, H2, J2.ofTry ok, q2⟩
end
end Rd
namespace Rd
open PySem PySem.Spec L2 PyProof.Rows
/-- the own == of the class at C -/
structure EqOk (P : Program) (w : World) (K : PySem.W.Frag) (mg : Str → Option Value) (base : Heap) (CX : CXT) (C : Addr) (k : Nat) (ps : List Str) (sp : Sp) : Prop where
  ok : ∃ f fd, PySem.W.findIn K (.ref C) "__eq__" = some (some (.ref f)) ∧ PySem.W.isFn K (.ref f) = true ∧ FnOk P w K mg base CX k f fd ps sp ∧ Binds K fd ps []
def rInsEq (C : Addr) (sp : Sp) (E : XK) : R2 := fun x y H Q => ∃ a dx fs b dy gs, x = .ref a ∧ y = .ref b ∧ H a = some (.ins C dx fs) ∧ H b = some (.ins C dy gs) ∧ sp [x, y] H Q E
theorem op_insEq {X : Cx} {CX : CXT} {C : Addr} {k : Nat} {ps : List Str} {sp : Sp} {E : XK} (M : EqOk X.prog X.w X.K X.mg X.base CX C k ps sp) (hr : Room k X.A) (hx : Passes CX X E) : OpR X (compareOp .Eq) (rInsEq C sp E) := by
  intro pins s σ H x y v u Q I rx ry ⟨a, dx, fs, b, dy, gs, ex, ey, ha, hb, q⟩
  obtain ⟨f, fd, find, fn, F, bi⟩ := M.ok
  subst ex ey
  obtain rfl : v = Value.ref a := rx
  obtain rfl : u = Value.ref b := ry
  obtain ⟨_, ja, _⟩ := ins_get I.hok ha
  obtain ⟨_, jb, _⟩ := ins_get I.hok hb
  obtain ⟨_, la, _⟩ := ja.look
  obtain ⟨_, lb, _⟩ := jb.look
  obtain ⟨_, fr⟩ := I.fr
  show wpAny _ X.A (richCompare .Eq (.ref a) (.ref b)) _ _ _
  refine PySem.W.cmp_K (op := .Eq) (tb := .ref C) hr.units0 fr I.ok.mod.kin la lb.type (by simp [PySem.W.notFirst]) find fn ?_
  refine wpAny_mono (run_fn (us := [.ref a, .ref b]) (vs := [.ref a, .ref b]) F hr bi .nil hx I (.cons rfl (.cons rfl .nil)) q) ?_ (fun _ _ z => z)
  rintro w2 s2 ⟨z, H2, I2, rz, qz⟩
  exact SlX.cmpback rz ⟨z, H2, I2, rz, qz⟩
end Rd

set_option linter.all false
namespace GT
/-- congruent modulo n -/
def Cg (n a b : Int) : Prop := ∃ q, a = b + n * q
section
variable {n a b c d : Int}
theorem Cg.refl (n a : Int) : Cg n a a := ⟨0, by grind⟩
theorem Cg.symm (h : Cg n a b) : Cg n b a := by obtain ⟨q, h⟩ := h; exact ⟨-q, by grind⟩
theorem Cg.trans (h : Cg n a b) (h2 : Cg n b c) : Cg n a c := by obtain ⟨q, h⟩ := h; obtain ⟨q2, h2⟩ := h2; exact ⟨q + q2, by grind⟩
theorem Cg.add (h : Cg n a b) (h2 : Cg n c d) : Cg n (a + c) (b + d) := by obtain ⟨q, h⟩ := h; obtain ⟨q2, h2⟩ := h2; exact ⟨q + q2, by grind⟩
theorem Cg.mul (h : Cg n a b) (h2 : Cg n c d) : Cg n (a * c) (b * d) := by obtain ⟨q, h⟩ := h; obtain ⟨q2, h2⟩ := h2; exact ⟨q * d + b * q2 + n * q * q2, by grind⟩
theorem Cg.mod (n a : Int) : Cg n (a % n) a := ⟨-(a / n), by have := Int.emod_add_mul_ediv a n; grind⟩
theorem Cg.eq (h : Cg n a b) : a % n = b % n := by obtain ⟨q, rfl⟩ := h; exact Int.add_mul_emod_self_left ..
theorem Cg.of (h : a % n = b % n) : Cg n a b := ((Cg.mod n a).symm).trans ((h ▸ Cg.mod n b : Cg n (a % n) b))
theorem Cg.small (h : Cg n a b) (h0 : 0 ≤ b) (h1 : b < n) : a % n = b := h.eq.trans (Int.emod_eq_of_lt h0 h1)
end
theorem pwm_cg (b n : Int) (k : Nat) : Cg n (pwm b n (k + 1)) (pwm b n k * b) := Cg.mod _ _
theorem pwm_add (b n : Int) (i : Nat) : ∀ j, Cg n (pwm b n (i + j)) (pwm b n i * pwm b n j)
  | 0 => by
    have h := (Cg.refl n (pwm b n i)).mul (Cg.mod n 1).symm
    rw [Int.mul_one] at h; exact h
  | j + 1 => by
    have h1 : Cg n (pwm b n (i + j + 1)) (pwm b n (i + j) * b) := pwm_cg b n (i + j)
    have h2 := (pwm_add b n i j).mul (Cg.refl n b)
    have h3 := (Cg.refl n (pwm b n i)).mul (pwm_cg b n j).symm
    rw [← Int.mul_assoc] at h3
    exact h1.trans (h2.trans h3)
namespace MetaOk
variable {n m k r s : Int} (M : MetaOk n m k r s)
include M
theorem pmul (q : Nat) : Cg n (pwm r n (m.toNat * q)) 1 := by
  induction q with
  | zero => exact Cg.mod n 1
  | succ q ih =>
    rw [Nat.mul_succ]
    refine (pwm_add r n _ _).trans ?_
    have h : Cg n (pwm r n m.toNat) 1 := by rw [M.one]; exact Cg.mod n 1
    have := ih.mul h
    rw [Int.mul_one] at this; exact this
theorem pmod (i : Nat) : Cg n (pwm r n (i % m.toNat)) (pwm r n i) := by
  have h := pwm_add r n (i % m.toNat) (m.toNat * (i / m.toNat))
  rw [Nat.mod_add_div] at h
  have h2 := (Cg.refl n (pwm r n (i % m.toNat))).mul (M.pmul (i / m.toNat))
  rw [Int.mul_one] at h2
  exact (h.trans h2).symm
theorem pfix (i : Nat) : Cg n (pwm r n i * s) s := by
  have rs : Cg n (r * s) s := by
    have h : Cg n ((r - 1) * s) 0 := Cg.of (by rw [M.fix, Int.zero_emod])
    have := h.add (Cg.refl n s)
    rw [Int.zero_add, show (r - 1) * s + s = r * s by grind] at this; exact this
  induction i with
  | zero => have := (Cg.mod n 1).mul (Cg.refl n s); rw [Int.one_mul] at this; exact this
  | succ i ih =>
    have h := (pwm_cg r n i).mul (Cg.refl n s)
    rw [Int.mul_assoc] at h
    exact h.trans (((Cg.refl n _).mul rs).trans ih)
theorem dec {u v c : Int} (v0 : 0 ≤ v) (v1 : v < m) (c0 : 0 ≤ c) (c1 : c < k) :
    ((u * m + v) * k + c) / (m * k) = u ∧ ((u * m + v) * k + c) / k % m = v ∧ ((u * m + v) * k + c) % k = c := by
  have m1 := M.m1
  have k1 := M.k1
  have e1 : ((u * m + v) * k + c) / k = u * m + v := by
    rw [Int.add_comm, Int.add_mul_ediv_right _ _ (by omega), Int.ediv_eq_zero_of_lt c0 c1, Int.zero_add]
  have e2 : (u * m + v) / m = u := by
    rw [Int.add_comm, Int.add_mul_ediv_right _ _ (by omega), Int.ediv_eq_zero_of_lt v0 v1, Int.zero_add]
  refine ⟨?_, ?_, ?_⟩
  · rw [Int.mul_comm m k, ← Int.ediv_ediv_of_nonneg (by omega : 0 ≤ k), e1, e2]
  · rw [e1, Int.add_comm, Int.add_mul_emod_self_right, Int.emod_eq_of_lt v0 v1]
  · rw [Int.add_comm, Int.add_mul_emod_self_right, Int.emod_eq_of_lt c0 c1]
theorem enc (y : Int) : (y / (m * k) * m + y / k % m) * k + y % k = y := by
  have k1 := M.k1
  have h1 := Int.emod_add_mul_ediv y k
  have h2 := Int.emod_add_mul_ediv (y / k) m
  rw [Int.mul_comm m k, ← Int.ediv_ediv_of_nonneg (by omega : 0 ≤ k)]
  grind
/-- the carry -/
abbrev ca (m x y : Int) : Int := if m ≤ x + y then 1 else 0
theorem eq (x y : Int) : metaE n m k r s x y = ((x / (m * k) + pwm r n (x / k % m).toNat * (y / (m * k)) + ca m (x / k % m) (y / k % m) * s) % n * m + (x / k % m + y / k % m) % m) * k + (x + y) % k := by
  unfold metaE ca
  simp only []
  split
  · rw [Int.one_mul]
  · rw [Int.zero_mul, Int.add_zero]
theorem comps (x y : Int) : metaE n m k r s x y / (m * k) = (x / (m * k) + pwm r n (x / k % m).toNat * (y / (m * k)) + ca m (x / k % m) (y / k % m) * s) % n ∧ metaE n m k r s x y / k % m = (x / k % m + y / k % m) % m ∧ metaE n m k r s x y % k = (x + y) % k := by
  have m1 := M.m1
  have k1 := M.k1
  rw [M.eq]
  exact M.dec (Int.emod_nonneg _ (by omega)) (Int.emod_lt_of_pos _ (by omega)) (Int.emod_nonneg _ (by omega)) (Int.emod_lt_of_pos _ (by omega))
theorem assoc (x y z : Int) : metaE n m k r s (metaE n m k r s x y) z = metaE n m k r s x (metaE n m k r s y z) := by
  have m1 := M.m1
  rw [M.eq (metaE n m k r s x y) z, M.eq x (metaE n m k r s y z)]
  obtain ⟨a1, b1, c1⟩ := M.comps x y
  obtain ⟨a2, b2, c2⟩ := M.comps y z
  have hc : (metaE n m k r s x y + z) % k = (x + metaE n m k r s y z) % k :=
    ((Cg.of c1 : Cg k _ (x + y)).add (Cg.refl k z)).trans ((by rw [Int.add_assoc]; exact ((Cg.refl k x).add (Cg.of c2)).symm : Cg k (x + y + z) _)) |>.eq
  rw [hc, a1, b1, a2, b2]
  have bx := Int.emod_nonneg (x / k) (by omega : m ≠ 0)
  have by_ := Int.emod_nonneg (y / k) (by omega : m ≠ 0)
  have bz := Int.emod_nonneg (z / k) (by omega : m ≠ 0)
  have bx' := Int.emod_lt_of_pos (x / k) (by omega : 0 < m)
  have by' := Int.emod_lt_of_pos (y / k) (by omega : 0 < m)
  have bz' := Int.emod_lt_of_pos (z / k) (by omega : 0 < m)
  generalize x / k % m = X at bx bx' ⊢
  generalize y / k % m = Y at by_ by' ⊢
  generalize z / k % m = Z at bz bz' ⊢
  generalize x / (m * k) = A
  generalize y / (m * k) = B
  generalize z / (m * k) = C
  have hb : ((X + Y) % m + Z) % m = (X + (Y + Z) % m) % m := by
    refine (((Cg.mod m (X + Y)).add (Cg.refl m Z)).trans ?_).eq
    rw [Int.add_assoc]
    exact ((Cg.refl m X).add (Cg.mod m (Y + Z))).symm
  rw [hb]
  have mod1 : (X + Y) % m = X + Y - ca m X Y * m := by
    unfold ca
    split
    · rw [← Int.emod_eq_of_lt (by omega : 0 ≤ X + Y - 1 * m) (by omega : X + Y - 1 * m < m)]
      exact Cg.eq ⟨1, by grind⟩
    · rw [Int.emod_eq_of_lt (by omega) (by omega)]; omega
  have mod2 : (Y + Z) % m = Y + Z - ca m Y Z * m := by
    unfold ca
    split
    · rw [← Int.emod_eq_of_lt (by omega : 0 ≤ Y + Z - 1 * m) (by omega : Y + Z - 1 * m < m)]
      exact Cg.eq ⟨1, by grind⟩
    · rw [Int.emod_eq_of_lt (by omega) (by omega)]; omega
  have car : ca m X Y + ca m ((X + Y) % m) Z = ca m Y Z + ca m X ((Y + Z) % m) := by
    rw [mod1, mod2]
    unfold ca
    repeat' split
    all_goals omega
  have pw : Cg n (pwm r n ((X + Y) % m).toNat) (pwm r n X.toNat * pwm r n Y.toNat) := by
    have e : ((X + Y) % m).toNat = (X.toNat + Y.toNat) % m.toNat := by
      have : (((X + Y) % m).toNat : Int) = (((X.toNat + Y.toNat) % m.toNat : Nat) : Int) := by
        rw [Int.toNat_of_nonneg (Int.emod_nonneg _ (by omega)), Int.natCast_emod, Int.natCast_add, Int.toNat_of_nonneg bx, Int.toNat_of_nonneg by_, Int.toNat_of_nonneg (by omega)]
      omega
    rw [e]
    exact (M.pmod _).trans (pwm_add r n _ _)
  refine congrArg (fun u => (u * m + (X + (Y + Z) % m) % m) * k + (x + metaE n m k r s y z) % k) (Cg.eq ?_)
  have l1 : Cg n ((A + pwm r n X.toNat * B + ca m X Y * s) % n) (A + pwm r n X.toNat * B + ca m X Y * s) := Cg.mod _ _
  have l2 := ((l1.add (pw.mul (Cg.refl n C))).add (Cg.refl n (ca m ((X + Y) % m) Z * s)))
  refine l2.trans ?_
  have q1 : Cg n ((B + pwm r n Y.toNat * C + ca m Y Z * s) % n) (B + pwm r n Y.toNat * C + ca m Y Z * s) := Cg.mod _ _
  have q2 := (((Cg.refl n A).add ((Cg.refl n (pwm r n X.toNat)).mul q1)).add (Cg.refl n (ca m X ((Y + Z) % m) * s)))
  refine Cg.trans ?_ q2.symm
  have f := (M.pfix X.toNat).mul (Cg.refl n (ca m Y Z))
  obtain ⟨w, hw⟩ := f
  refine ⟨-w, ?_⟩
  generalize ca m X Y = c1 at *
  generalize ca m ((X + Y) % m) Z = c2 at *
  generalize ca m Y Z = c3 at *
  generalize ca m X ((Y + Z) % m) = c4 at *
  grind
theorem zero_l {y : Int} (y0 : 0 ≤ y) (y1 : y < n * m * k) : metaE n m k r s 0 y = y := by
  have m1 := M.m1
  have k1 := M.k1
  rw [M.eq, Int.zero_ediv, Int.zero_ediv, Int.zero_emod]
  have by_ := Int.emod_nonneg (y / k) (by omega : m ≠ 0)
  have by' := Int.emod_lt_of_pos (y / k) (by omega : 0 < m)
  have a0 : 0 ≤ y / (m * k) := Int.ediv_nonneg y0 (Int.mul_nonneg (by omega) (by omega))
  have a1 : y / (m * k) < n := Int.ediv_lt_of_lt_mul (Int.mul_pos (by omega) (by omega)) (by rw [← Int.mul_assoc]; exact y1)
  have hca : ca m 0 (y / k % m) = 0 := if_neg (by omega)
  have h : Cg n (0 + pwm r n (0 : Int).toNat * (y / (m * k)) + 0 * s) (y / (m * k)) := by
    have := (Cg.mod n 1).mul (Cg.refl n (y / (m * k)))
    rw [Int.one_mul] at this
    have e : 0 + pwm r n (0 : Int).toNat * (y / (m * k)) + 0 * s = 1 % n * (y / (m * k)) := by
      show 0 + 1 % n * (y / (m * k)) + 0 * s = _
      grind
    rw [e]; exact this
  rw [hca, h.small a0 a1, Int.zero_add, Int.zero_add, Int.emod_emod, M.enc]
theorem zero_r {x : Int} (x0 : 0 ≤ x) (x1 : x < n * m * k) : metaE n m k r s x 0 = x := by
  have m1 := M.m1
  have k1 := M.k1
  rw [M.eq, Int.zero_ediv, Int.zero_ediv, Int.zero_emod]
  have bx := Int.emod_nonneg (x / k) (by omega : m ≠ 0)
  have bx' := Int.emod_lt_of_pos (x / k) (by omega : 0 < m)
  have a0 : 0 ≤ x / (m * k) := Int.ediv_nonneg x0 (Int.mul_nonneg (by omega) (by omega))
  have a1 : x / (m * k) < n := Int.ediv_lt_of_lt_mul (Int.mul_pos (by omega) (by omega)) (by rw [← Int.mul_assoc]; exact x1)
  have hca : ca m (x / k % m) 0 = 0 := if_neg (by omega)
  rw [hca, Int.mul_zero, Int.add_zero, Int.zero_mul, Int.add_zero, Int.emod_eq_of_lt a0 a1, Int.add_zero, Int.add_zero, Int.emod_emod, M.enc]
theorem inv_ex (x : Int) : ∃ y, 0 ≤ y ∧ y < n * m * k ∧ metaE n m k r s x y = 0 := by
  have n1 := M.n1
  have m1 := M.m1
  have k1 := M.k1
  have bx := Int.emod_nonneg (x / k) (by omega : m ≠ 0)
  have bx' := Int.emod_lt_of_pos (x / k) (by omega : 0 < m)
  generalize hX : x / k % m = X at bx bx'
  generalize hA : x / (m * k) = A
  have v0 := Int.emod_nonneg (-X) (by omega : m ≠ 0)
  have v1 := Int.emod_lt_of_pos (-X) (by omega : 0 < m)
  have c0 := Int.emod_nonneg (-x) (by omega : k ≠ 0)
  have c1 := Int.emod_lt_of_pos (-x) (by omega : 0 < k)
  obtain ⟨V, hV⟩ : ∃ V, V = (-X) % m := ⟨_, rfl⟩
  obtain ⟨U, hU⟩ : ∃ U, U = (-(A + ca m X V * s) * pwm r n V.toNat) % n := ⟨_, rfl⟩
  have u0 : 0 ≤ U := by rw [hU]; exact Int.emod_nonneg _ (by omega)
  have u1 : U < n := by rw [hU]; exact Int.emod_lt_of_pos _ (by omega)
  rw [← hV] at v0 v1
  refine ⟨(U * m + V) * k + (-x) % k, ?_, ?_, ?_⟩
  · exact (pack_lt (pack_lt u0 u1 v0 v1).1 (pack_lt u0 u1 v0 v1).2 c0 c1).1
  · exact (pack_lt (pack_lt u0 u1 v0 v1).1 (pack_lt u0 u1 v0 v1).2 c0 c1).2
  · obtain ⟨d1, d2, d3⟩ := M.dec (u := U) v0 v1 c0 c1
    rw [M.eq, d1, d2, hX, hA]
    have hb : (X + V) % m = 0 := by
      have : Cg m (X + V) 0 := by
        have := (Cg.refl m X).add (Cg.mod m (-X))
        rw [← hV, Int.add_right_neg] at this; exact this
      rw [this.eq, Int.zero_emod]
    have hc : (x + ((U * m + V) * k + (-x) % k)) % k = 0 := by
      have h : Cg k ((U * m + V) * k + (-x) % k) (-x) := (Cg.of (d3.trans (Int.emod_emod ..).symm) : Cg k _ ((-x) % k)).trans (Cg.mod k (-x))
      have := (Cg.refl k x).add h
      rw [Int.add_right_neg] at this
      rw [this.eq, Int.zero_emod]
    have pw : Cg n (pwm r n X.toNat * pwm r n V.toNat) 1 := by
      have h := (pwm_add r n X.toNat V.toNat).symm
      have e : (X.toNat + V.toNat) % m.toNat = 0 := by
        have : (((X.toNat + V.toNat) % m.toNat : Nat) : Int) = 0 := by
          rw [Int.natCast_emod, Int.natCast_add, Int.toNat_of_nonneg bx, Int.toNat_of_nonneg v0, Int.toNat_of_nonneg (by omega), hb]
        omega
      have h2 := M.pmod (X.toNat + V.toNat)
      rw [e] at h2
      exact h.trans (h2.symm.trans (Cg.mod n 1))
    have ha : (A + pwm r n X.toNat * U + ca m X V * s) % n = 0 := by
      have h1 : Cg n U (-(A + ca m X V * s) * pwm r n V.toNat) := by rw [hU]; exact Cg.mod _ _
      have h2 := (Cg.refl n (pwm r n X.toNat)).mul h1
      obtain ⟨w, hw⟩ := h2
      obtain ⟨z, hz⟩ := pw
      have : Cg n (A + pwm r n X.toNat * U + ca m X V * s) 0 := by
        refine ⟨w - z * (A + ca m X V * s), ?_⟩
        generalize ca m X V = c at *
        grind
      rw [this.eq, Int.zero_emod]
    rw [ha, hb, hc, Int.zero_mul, Int.zero_add, Int.zero_mul, Int.zero_add]
end MetaOk
theorem metaT_at {n m k r s : Int} {x y : Nat} (hx : x < (n * m * k).toNat) (hy : y < (n * m * k).toNat) : at2 (metaT n m k r s) x y = metaE n m k r s x y := by
  refine at2_of (r := (List.range (n * m * k).toNat).map fun y => metaE n m k r s (x : Nat) (y : Nat)) ?_ ?_
  · unfold metaT; rw [List.getElem?_map, List.getElem?_range hx]; rfl
  · rw [List.getElem?_map, List.getElem?_range hy]; rfl
theorem MetaOk.grp {n m k r s : Int} (M : MetaOk n m k r s) : Grp (metaT n m k r s) := by
  have l : (metaT n m k r s).length = (n * m * k).toNat := by unfold metaT; rw [List.length_map, List.length_range]
  have rg : ∀ x y : Int, 0 ≤ metaE n m k r s x y ∧ metaE n m k r s x y < n * m * k := fun x y => metaE_range M.n1 M.m1 M.k1
  refine ⟨M.sq.1, fun x hx => ?_, fun q hq => ?_, fun x y z hx hy hz => ?_⟩
  · rw [l] at hx
    rw [metaT_at (by omega) hx, metaT_at hx (by omega)]
    exact ⟨M.zero_l (by omega) (by omega), M.zero_r (by omega) (by omega)⟩
  · unfold metaT at hq
    obtain ⟨x, _, rfl⟩ := List.mem_map.mp hq
    obtain ⟨y, y0, y1, e⟩ := M.inv_ex x
    refine List.mem_map.mpr ⟨y.toNat, List.mem_range.mpr (by omega), ?_⟩
    rw [Int.toNat_of_nonneg y0, e]
  · rw [l] at hx hy hz
    obtain ⟨a0, a1⟩ := rg x y
    obtain ⟨b0, b1⟩ := rg y z
    rw [metaT_at hx hy, metaT_at hy hz, metaT_at (by omega) hz, metaT_at hx (by omega), Int.toNat_of_nonneg a0, Int.toNat_of_nonneg b0]
    exact M.assoc _ _ _
end GT

set_option linter.all false
set_option maxRecDepth 100000
namespace GT
theorem p4_inv : ∀ p ∈ perms4, ∃ q ∈ perms4, comp p q = id4 := by decide +kernel
theorem p4_least : ∀ p ∈ perms4, p = id4 ∨ Rs.ltL id4 p = true := by decide +kernel
namespace PermOk
variable {fs : List (List Int)} (O : PermOk fs)
include O
theorem inj {q q' p : List Int} (hq : q ∈ perms4) (hq' : q' ∈ perms4) (hp : p ∈ perms4) (h : comp q p = comp q' p) : q = q' := by
  obtain ⟨z, hz, e⟩ := p4_inv p hp
  have h1 : comp (comp q p) z = comp (comp q' p) z := congrArg (fun w => comp w z) h
  rw [comp_assoc (p4_rng p hp).1 (p4_rng z hz).2, comp_assoc (p4_rng p hp).1 (p4_rng z hz).2, e, (p4_one q hq).2, (p4_one q' hq').2] at h1
  exact h1
theorem zero : fs[0]? = some id4 := by
  have pos := List.length_pos_of_mem O.one
  rw [List.getElem?_eq_getElem pos]
  obtain ⟨j, hj, e⟩ := List.getElem_of_mem O.one
  by_cases c : j = 0
  · subst c; exact congrArg some e
  · have h := (List.pairwise_iff_getElem.mp O.asc) 0 j pos hj (by omega)
    rw [e] at h
    rcases p4_least _ (O.p4 _ (List.getElem_mem pos)) with h2 | h2
    · exact congrArg some h2
    · rw [h2] at h; cases h
theorem at_ {x y : Nat} (hx : x < fs.length) (hy : y < fs.length) : at2 (permT fs) x y = (fs.idxOf (comp fs[y] fs[x]) : Nat) := by
  refine at2_of (r := fs.map fun q => ((fs.idxOf (comp q fs[x]) : Nat) : Int)) ?_ ?_
  · unfold permT; rw [List.getElem?_map, List.getElem?_eq_getElem hx]; rfl
  · rw [List.getElem?_map, List.getElem?_eq_getElem hy]; rfl
theorem get_ {x y : Nat} (hx : x < fs.length) (hy : y < fs.length) : ∃ h : (at2 (permT fs) x y).toNat < fs.length, fs[(at2 (permT fs) x y).toNat] = comp fs[y] fs[x] := by
  have m := O.cl fs[y] (List.getElem_mem hy) fs[x] (List.getElem_mem hx)
  have l := List.idxOf_lt_length_of_mem m
  have e : (at2 (permT fs) x y).toNat = fs.idxOf (comp fs[y] fs[x]) := by rw [O.at_ hx hy]; rfl
  refine ⟨by rw [e]; exact l, ?_⟩
  have h1 : fs[(at2 (permT fs) x y).toNat]? = fs[fs.idxOf (comp fs[y] fs[x])]? := by rw [e]
  rw [List.getElem?_eq_getElem (by rw [e]; exact l), List.getElem?_eq_getElem l] at h1
  exact (Option.some.inj h1).trans (List.getElem_idxOf l)
theorem grp : Grp (permT fs) := by
  have l := O.sq.2
  have p4 := fun x (hx : x < fs.length) => O.p4 fs[x] (List.getElem_mem hx)
  have pos := List.length_pos_of_mem O.one
  have z0 : fs[0] = id4 := by
    have h := O.zero
    rw [List.getElem?_eq_getElem pos] at h
    exact Option.some.inj h
  refine ⟨O.sq.1, fun x hx => ?_, fun r hr => ?_, fun x y z hx hy hz => ?_⟩
  · rw [l] at hx
    rw [O.at_ pos hx, O.at_ hx pos, z0, (p4_one _ (p4 x hx)).1, (p4_one _ (p4 x hx)).2, O.nd.idxOf_getElem x hx]
    exact ⟨rfl, rfl⟩
  · unfold permT at hr
    obtain ⟨p, hp, rfl⟩ := List.mem_map.mp hr
    have nd : (fs.map fun q => comp q p).Nodup := by
      rw [List.Nodup, List.pairwise_map]
      refine O.nd.imp_of_mem fun {a b} ha hb n e => n (O.inj (O.p4 a ha) (O.p4 b hb) (O.p4 p hp) e)
    have m : id4 ∈ fs.map fun q => comp q p := by
      apply Classical.byContradiction
      intro no
      have := (List.nodup_cons.mpr ⟨no, nd⟩).length_le_of_subset (l₂ := fs) (fun z hz => by
        rcases List.mem_cons.mp hz with h | h
        · rw [h]; exact O.one
        · obtain ⟨q, hq, rfl⟩ := List.mem_map.mp h
          exact O.cl q hq p hp)
      rw [List.length_cons, List.length_map] at this
      omega
    obtain ⟨q, hq, e⟩ := List.mem_map.mp m
    refine List.mem_map.mpr ⟨q, hq, ?_⟩
    have e' : comp q p = id4 := e
    rw [e', ← z0, O.nd.idxOf_getElem 0 pos]; rfl
  · rw [l] at hx hy hz
    obtain ⟨h1, e1⟩ := O.get_ hx hy
    obtain ⟨h2, e2⟩ := O.get_ hy hz
    rw [O.at_ h1 hz, O.at_ hx h2, e1, e2, comp_assoc (p4_rng _ (p4 y hy)).1 (p4_rng _ (p4 x hx)).2]
end PermOk
theorem Ren.grp {t u : List (List Int)} {ns : List Int} (R : Ren t ns u) (G : Grp t) : Grp u := by
  have N := R.nms
  have on : ∀ i, i < u.length → ∃ x, x < t.length ∧ nm ns x = i := fun i hi => by
    obtain ⟨x, hx, ex⟩ := N.onto (k := i) (by rw [← R.len]; exact hi)
    refine ⟨x, hx, ?_⟩
    have := (N.at_ hx).1
    rw [ex] at this
    have := Option.some.inj this
    omega
  have z0 : nm ns 0 = 0 := by
    have := (N.at_ G.sq.pos).1
    rw [N.zero G.sq.pos] at this
    have := Option.some.inj this
    omega
  have ml : ∀ {x y}, x < t.length → y < t.length → mul t x y < t.length := fun hx hy => G.sq.mul_lt hx hy
  have at_ : ∀ x y, x < t.length → y < t.length → at2 u (nm ns x) (nm ns y) = (nm ns (mul t x y) : Int) := R.at_
  refine ⟨R.sq G.sq, fun i hi => ?_, fun r hr => ?_, fun i j k hi hj hk => ?_⟩
  · obtain ⟨x, hx, rfl⟩ := on i hi
    have a := at_ 0 x G.sq.pos hx
    have b := at_ x 0 hx G.sq.pos
    rw [z0] at a b
    have e1 : mul t 0 x = x := by unfold mul; rw [(G.idn x hx).1]; rfl
    have e2 : mul t x 0 = x := by unfold mul; rw [(G.idn x hx).2]; rfl
    rw [e1] at a; rw [e2] at b
    exact ⟨a, b⟩
  · obtain ⟨i, hi, rfl⟩ := List.getElem_of_mem hr
    obtain ⟨x, hx, e⟩ := on i hi
    obtain ⟨r, h1, h2, h3, h4⟩ := G.sq.rowAt hx
    have hm := G.inv r (List.mem_of_getElem? h1)
    obtain ⟨y, hy, ey⟩ := List.getElem_of_mem hm
    have hy' : y < t.length := by rw [← h2]; exact hy
    have h5 : at2 t x y = 0 := at2_of h1 (by rw [List.getElem?_eq_getElem hy, ey])
    have h6 := at_ x y hx hy'
    have h7 : mul t x y = 0 := by unfold mul; rw [h5]; rfl
    rw [h7, z0, e] at h6
    have lu : nm ns y < (u[i]).length := by rw [R.row _ (List.getElem_mem hi)]; exact (N.at_ hy').2
    have h8 : at2 u i (nm ns y) = u[i][nm ns y] := at2_of (List.getElem?_eq_getElem hi) (List.getElem?_eq_getElem lu)
    rw [h8] at h6
    have h9 : u[i][nm ns y] = 0 := h6
    rw [← h9]
    exact List.getElem_mem lu
  · obtain ⟨x, hx, rfl⟩ := on i hi
    obtain ⟨y, hy, rfl⟩ := on j hj
    obtain ⟨z, hz, rfl⟩ := on k hk
    rw [at_ x y hx hy, at_ y z hy hz, Int.toNat_natCast, Int.toNat_natCast, at_ _ z (ml hx hy) hz, at_ x _ hx (ml hy hz)]
    have := G.asc x y z hx hy hz
    have e : mul t (mul t x y) z = mul t x (mul t y z) := congrArg Int.toNat this
    rw [e]
end GT

set_option linter.all false
set_option maxRecDepth 100000
namespace GT
/-! ### the table of an operation on a list -/
def tabOf {α : Type} [BEq α] (f : α → α → α) (l : List α) : List (List Int) := l.map fun x => l.map fun y => ((l.idxOf (f x y) : Nat) : Int)
section
variable {α : Type} [BEq α] [LawfulBEq α] {f : α → α → α} {l : List α}
theorem tabOf_len : (tabOf f l).length = l.length := by unfold tabOf; rw [List.length_map]
theorem tabOf_at {x y : Nat} (hx : x < l.length) (hy : y < l.length) : at2 (tabOf f l) x y = (l.idxOf (f l[x] l[y]) : Nat) := by
  refine at2_of (r := l.map fun q => ((l.idxOf (f l[x] q) : Nat) : Int)) ?_ ?_
  · unfold tabOf; rw [List.getElem?_map, List.getElem?_eq_getElem hx]; rfl
  · rw [List.getElem?_map, List.getElem?_eq_getElem hy]; rfl
theorem tabOf_sq (pos : 0 < l.length) (cl : ∀ x ∈ l, ∀ y ∈ l, f x y ∈ l) : Sq (tabOf f l) := by
  refine ⟨by rw [tabOf_len]; exact pos, fun r hr => ?_⟩
  rw [tabOf_len]
  unfold tabOf at hr
  obtain ⟨p, hp, rfl⟩ := List.mem_map.mp hr
  refine ⟨by rw [List.length_map], fun e he => ?_⟩
  obtain ⟨q, hq, rfl⟩ := List.mem_map.mp he
  have := List.idxOf_lt_length_of_mem (cl p hp q hq)
  omega
theorem tabOf_get (cl : ∀ x ∈ l, ∀ y ∈ l, f x y ∈ l) {x y : Nat} (hx : x < l.length) (hy : y < l.length) : ∃ h : (at2 (tabOf f l) x y).toNat < l.length, l[(at2 (tabOf f l) x y).toNat] = f l[x] l[y] := by
  have m := cl l[x] (List.getElem_mem hx) l[y] (List.getElem_mem hy)
  have lt := List.idxOf_lt_length_of_mem m
  have e : (at2 (tabOf f l) x y).toNat = l.idxOf (f l[x] l[y]) := by rw [tabOf_at hx hy]; rfl
  refine ⟨by rw [e]; exact lt, ?_⟩
  have h1 : l[(at2 (tabOf f l) x y).toNat]? = l[l.idxOf (f l[x] l[y])]? := by rw [e]
  rw [List.getElem?_eq_getElem (by rw [e]; exact lt), List.getElem?_eq_getElem lt] at h1
  exact (Option.some.inj h1).trans (List.getElem_idxOf lt)
theorem tabOf_grp (nd : l.Nodup) (cl : ∀ x ∈ l, ∀ y ∈ l, f x y ∈ l) {e : α} (h0 : l[0]? = some e) (ol : ∀ x ∈ l, f e x = x) (or_ : ∀ x ∈ l, f x e = x) (asc : ∀ x ∈ l, ∀ y ∈ l, ∀ z ∈ l, f (f x y) z = f x (f y z))
    (can : ∀ x ∈ l, ∀ y ∈ l, ∀ z ∈ l, f x y = f x z → y = z) : Grp (tabOf f l) := by
  obtain ⟨pos, z0⟩ := List.getElem?_eq_some_iff.mp h0
  have me : e ∈ l := z0 ▸ List.getElem_mem pos
  refine ⟨tabOf_sq pos cl, fun x hx => ?_, fun r hr => ?_, fun x y z hx hy hz => ?_⟩
  · rw [tabOf_len] at hx
    have mx := List.getElem_mem hx
    rw [tabOf_at pos hx, tabOf_at hx pos, z0, ol _ mx, or_ _ mx, nd.idxOf_getElem x hx]
    exact ⟨rfl, rfl⟩
  · unfold tabOf at hr
    obtain ⟨p, hp, rfl⟩ := List.mem_map.mp hr
    have nd2 : (l.map fun q => f p q).Nodup := by
      rw [List.Nodup, List.pairwise_map]
      exact nd.imp_of_mem fun {a b} ha hb n e => n (can p hp a ha b hb e)
    have m : e ∈ l.map fun q => f p q := by
      apply Classical.byContradiction
      intro no
      have := (List.nodup_cons.mpr ⟨no, nd2⟩).length_le_of_subset (l₂ := l) (fun z hz => by
        rcases List.mem_cons.mp hz with h | h
        · rw [h]; exact me
        · obtain ⟨q, hq, rfl⟩ := List.mem_map.mp h
          exact cl p hp q hq)
      rw [List.length_cons, List.length_map] at this
      omega
    obtain ⟨q, hq, e1⟩ := List.mem_map.mp m
    refine List.mem_map.mpr ⟨q, hq, ?_⟩
    rw [e1, ← z0, nd.idxOf_getElem 0 pos]; rfl
  · rw [tabOf_len] at hx hy hz
    obtain ⟨h1, e1⟩ := tabOf_get cl hx hy
    obtain ⟨h2, e2⟩ := tabOf_get cl hy hz
    rw [tabOf_at h1 hz, tabOf_at hx h2, e1, e2, asc _ (List.getElem_mem hx) _ (List.getElem_mem hy) _ (List.getElem_mem hz)]
theorem idxOf_map {β : Type} [BEq β] [LawfulBEq β] {φ : α → β} : ∀ {l : List α} {a : α}, (∀ x ∈ l, φ x = φ a → x = a) → (l.map φ).idxOf (φ a) = l.idxOf a
  | [], a, _ => rfl
  | b :: l, a, inj => by
    rw [List.map_cons, List.idxOf_cons, List.idxOf_cons]
    by_cases c : b = a
    · subst c
      rw [beq_self_eq_true, beq_self_eq_true]; rfl
    · have : φ b ≠ φ a := fun e => c (inj b List.mem_cons_self e)
      rw [beq_eq_false_iff_ne.mpr c, beq_eq_false_iff_ne.mpr this, idxOf_map fun x hx => inj x (List.mem_cons_of_mem _ hx)]
theorem tabOf_map {β : Type} [BEq β] [LawfulBEq β] {g : β → β → β} {φ : α → β} (inj : ∀ x ∈ l, ∀ y ∈ l, φ x = φ y → x = y) (hom : ∀ x ∈ l, ∀ y ∈ l, φ (f x y) = g (φ x) (φ y)) (cl : ∀ x ∈ l, ∀ y ∈ l, f x y ∈ l) : tabOf g (l.map φ) = tabOf f l := by
  unfold tabOf
  rw [List.map_map]
  refine List.map_congr_left fun x hx => ?_
  show (l.map φ).map _ = _
  rw [List.map_map]
  refine List.map_congr_left fun y hy => ?_
  show (((l.map φ).idxOf (g (φ x) (φ y)) : Nat) : Int) = _
  rw [← hom x hx y hy, idxOf_map fun z hz e => inj z hz _ (cl x hx y hy) e]
end
/-! ### subgroups -/
/-- product of ints -/
def mi (t : List (List Int)) (x y : Int) : Int := at2 t x.toNat y.toNat
def InT (t : List (List Int)) (x : Int) : Prop := 0 ≤ x ∧ x < (t.length : Int)
section
variable {t : List (List Int)} (G : Grp t) {ns ms : List Int}
include G
theorem Grp.mi_in {x y : Int} (hx : InT t x) (hy : InT t y) : InT t (mi t x y) := by
  obtain ⟨a, b, _⟩ := G.sq.at (x := x.toNat) (y := y.toNat) (by have := hx.1; have := hx.2; omega) (by have := hy.1; have := hy.2; omega)
  exact ⟨a, b⟩
theorem Grp.mi_assoc {x y z : Int} (hx : InT t x) (hy : InT t y) (hz : InT t z) : mi t (mi t x y) z = mi t x (mi t y z) :=
  G.asc x.toNat y.toNat z.toNat (by have := hx.1; have := hx.2; omega) (by have := hy.1; have := hy.2; omega) (by have := hz.1; have := hz.2; omega)
theorem Grp.mi_one {x : Int} (hx : InT t x) : mi t 0 x = x ∧ mi t x 0 = x := by
  have h := G.idn x.toNat (by have := hx.1; have := hx.2; omega)
  rw [Int.toNat_of_nonneg hx.1] at h
  exact h
theorem Grp.mi_zero : InT t 0 := ⟨Int.le_refl 0, by have := G.sq.pos; omega⟩
theorem Grp.mi_inv {x : Int} (hx : InT t x) : ∃ y, InT t y ∧ mi t x y = 0 ∧ mi t y x = 0 := by
  have hx' : x.toNat < t.length := by have := hx.1; have := hx.2; omega
  have h := G.inv_at hx'
  have h2 := G.inv_mul hx'
  refine ⟨(ivn t x.toNat : Nat), ⟨by omega, by have := h.1; omega⟩, ?_, ?_⟩
  · show at2 t x.toNat ((ivn t x.toNat : Nat) : Int).toNat = 0
    rw [Int.toNat_natCast, G.sq.mul_eq hx' h.1, h.2]; rfl
  · show at2 t ((ivn t x.toNat : Nat) : Int).toNat x.toNat = 0
    rw [Int.toNat_natCast, G.sq.mul_eq h.1 hx', h2]; rfl
theorem Grp.mi_lc {x y z : Int} (hx : InT t x) (hy : InT t y) (hz : InT t z) (e : mi t x y = mi t x z) : y = z := by
  obtain ⟨i, hi, _, h2⟩ := G.mi_inv hx
  have := congrArg (mi t i) e
  rw [← G.mi_assoc hi hx hy, ← G.mi_assoc hi hx hz, h2, (G.mi_one hy).1, (G.mi_one hz).1] at this
  exact this
theorem Grp.mi_rc {x y z : Int} (hx : InT t x) (hy : InT t y) (hz : InT t z) (e : mi t y x = mi t z x) : y = z := by
  obtain ⟨i, hi, h1, _⟩ := G.mi_inv hx
  have : mi t (mi t y x) i = mi t (mi t z x) i := congrArg (fun w => mi t w i) e
  rw [G.mi_assoc hy hx hi, G.mi_assoc hz hx hi, h1, (G.mi_one hy).2, (G.mi_one hz).2] at this
  exact this
theorem Grp.reach_in (hn : ∀ m ∈ ns, InT t m) {z : Int} (h : Reach t ns z) : InT t z := h.lt G.sq hn
theorem Grp.reach_mul (hn : ∀ m ∈ ns, InT t m) {x y : Int} (hx : Reach t ns x) (hy : Reach t ns y) : Reach t ns (mi t x y) := by
  induction hy with
  | zero => rw [(G.mi_one (G.reach_in hn hx)).2]; exact hx
  | @step y m r hm ih =>
    show Reach t ns (mi t x (mi t y m))
    rw [← G.mi_assoc (G.reach_in hn hx) (G.reach_in hn r) (hn m hm)]
    exact .step ih hm
/-- the list of a subgroup that is generated -/
structure SubG (t : List (List Int)) (ns ms : List Int) : Prop where
  gen : ∀ m ∈ ns, InT t m
  cl : Closed t ns ms
omit G in
theorem SubG.nd (S : SubG t ns ms) : ms.Nodup := S.cl.asc.imp fun h => Int.ne_of_lt h
theorem SubG.in_ (S : SubG t ns ms) : ∀ x ∈ ms, InT t x := fun x hx => G.reach_in S.gen ((S.cl.mem x).mp hx)
theorem SubG.mul (S : SubG t ns ms) : ∀ x ∈ ms, ∀ y ∈ ms, mi t x y ∈ ms := fun x hx y hy => (S.cl.mem _).mpr (G.reach_mul S.gen ((S.cl.mem x).mp hx) ((S.cl.mem y).mp hy))
theorem SubG.zero (S : SubG t ns ms) : ms[0]? = some 0 := by
  have m0 : (0 : Int) ∈ ms := (S.cl.mem 0).mpr .zero
  have pos := List.length_pos_of_mem m0
  rw [List.getElem?_eq_getElem pos]
  obtain ⟨j, hj, e⟩ := List.getElem_of_mem m0
  by_cases c : j = 0
  · subst c; exact congrArg some e
  · have h := (List.pairwise_iff_getElem.mp S.cl.asc) 0 j pos hj (by omega)
    have := (S.in_ G _ (List.getElem_mem pos)).1
    omega
theorem SubG.le (S : SubG t ns ms) : ms.length ≤ t.length := by
  have := S.nd.length_le_of_subset (l₂ := (List.range t.length).map fun i => ((i : Nat) : Int)) (fun z hz => by
    obtain ⟨a, b⟩ := S.in_ G z hz
    exact List.mem_map.mpr ⟨z.toNat, List.mem_range.mpr (by omega), by omega⟩)
  rw [List.length_map, List.length_range] at this
  exact this
theorem SubG.grp (S : SubG t ns ms) : Grp (tabOf (mi t) ms) :=
  tabOf_grp S.nd (S.mul G) (S.zero G) (fun x hx => (G.mi_one (S.in_ G x hx)).1) (fun x hx => (G.mi_one (S.in_ G x hx)).2) (fun x hx y hy z hz => G.mi_assoc (S.in_ G x hx) (S.in_ G y hy) (S.in_ G z hz))
    (fun x hx y hy z hz => G.mi_lc (S.in_ G x hx) (S.in_ G y hy) (S.in_ G z hz))
theorem SubG.grpT (S : SubG t ns ms) : Grp (tabOf (fun x y => mi t y x) ms) :=
  tabOf_grp S.nd (fun x hx y hy => S.mul G y hy x hx) (S.zero G) (fun x hx => (G.mi_one (S.in_ G x hx)).2) (fun x hx => (G.mi_one (S.in_ G x hx)).1) (fun x hx y hy z hz => (G.mi_assoc (S.in_ G z hz) (S.in_ G y hy) (S.in_ G x hx)).symm)
    (fun x hx y hy z hz => G.mi_rc (S.in_ G x hx) (S.in_ G y hy) (S.in_ G z hz))
end
end GT

set_option linter.all false
set_option maxRecDepth 100000
namespace GT
/-! ### words in lists, in order -/
inductive PReach (ps : List (List Int)) (e : List Int) : List Int → Prop
  | one : PReach ps e e
  | step {z p : List Int} : PReach ps e z → p ∈ ps → PReach ps e (comp p z)
structure PClosed (ps : List (List Int)) (e : List Int) (cs : List (List Int)) : Prop where
  asc : cs.Pairwise (fun x y => Rs.ltL x y = true)
  mem : ∀ z, z ∈ cs ↔ PReach ps e z
theorem ltL_tri : ∀ x y : List Int, Rs.ltL x y = false → Rs.ltL y x = false → x = y
  | [], [], _, _ => rfl
  | [], _ :: _, h, _ => by cases h
  | _ :: _, [], _, h => by cases h
  | a :: x, b :: y, h1, h2 => by
    have h1' : (if a = b then Rs.ltL x y else decide (a < b)) = false := h1
    have h2' : (if b = a then Rs.ltL y x else decide (b < a)) = false := h2
    by_cases e : a = b
    · rw [if_pos e] at h1'
      rw [if_pos e.symm] at h2'
      rw [e, ltL_tri x y h1' h2']
    · rw [if_neg e] at h1'
      rw [if_neg (fun q => e q.symm)] at h2'
      have := of_decide_eq_false h1'
      have := of_decide_eq_false h2'
      omega
theorem ltL_ne {x y : List Int} (h : Rs.ltL x y = true) : x ≠ y := fun e => by rw [e, Rs.ltL_irr] at h; cases h
theorem PClosed.nd {ps cs : List (List Int)} {e : List Int} (C : PClosed ps e cs) : cs.Nodup := C.asc.imp fun h => ltL_ne h
theorem PClosed.sorted {ps cs fs bs : List (List Int)} {e : List Int} (C : PClosed ps e cs) (nd : fs.Nodup) (m : ∀ z, z ∈ fs ↔ PReach ps e z) (p : bs.Perm fs) (s : bs.Pairwise fun x y => Rs.ltL y x = false) : bs = cs := by
  have nb : bs.Nodup := p.nodup_iff.mpr nd
  refine ((List.perm_ext_iff_of_nodup nb C.nd).mpr fun z => (p.mem_iff.trans (m z)).trans (C.mem z).symm).eq_of_pairwise (le := fun a b => Rs.ltL b a = false) (fun x y _ _ h3 h4 => ltL_tri x y h4 h3) s (C.asc.imp fun h => Rs.ltL_asym _ _ h)
/-- found so far -/
structure PGen (ps : List (List Int)) (e : List Int) (fs : List (List Int)) : Prop where
  nd : fs.Nodup
  re : ∀ z ∈ fs, PReach ps e z
  z0 : e ∈ fs
theorem PGen.start (ps : List (List Int)) (e : List Int) : PGen ps e [e] := ⟨by simp, fun z h => by rw [List.mem_singleton.mp h]; exact .one, by simp⟩
theorem PGen.add {ps fs : List (List Int)} {e z p : List Int} (F : PGen ps e fs) (hz : z ∈ fs) (hp : p ∈ ps) (no : comp p z ∉ fs) : PGen ps e (fs ++ [comp p z]) := by
  refine ⟨List.nodup_append.mpr ⟨F.nd, by simp, fun a ha b hb => ?_⟩, fun y hy => ?_, List.mem_append_left _ F.z0⟩
  · rw [List.mem_singleton.mp hb]
    intro e
    exact no (e ▸ ha)
  · rcases List.mem_append.mp hy with h | h
    · exact F.re y h
    · rw [List.mem_singleton.mp h]
      exact .step (F.re z hz) hp
theorem PGen.few {ps fs cs : List (List Int)} {e : List Int} (F : PGen ps e fs) (C : PClosed ps e cs) : fs.length ≤ cs.length := F.nd.length_le_of_subset fun z hz => (C.mem z).mpr (F.re z hz)
theorem PGen.room {ps fs cs : List (List Int)} {e z p : List Int} (F : PGen ps e fs) (C : PClosed ps e cs) (hz : z ∈ fs) (hp : p ∈ ps) (no : comp p z ∉ fs) : fs.length < cs.length := by
  have := (F.add hz hp no).few C
  rw [List.length_append, List.length_singleton] at this
  omega
theorem PGen.done {ps fs : List (List Int)} {e : List Int} (F : PGen ps e fs) (cl : ∀ z ∈ fs, ∀ p ∈ ps, comp p z ∈ fs) (z : List Int) : z ∈ fs ↔ PReach ps e z := by
  refine ⟨F.re z, fun h => ?_⟩
  induction h with
  | one => exact F.z0
  | step _ hp ih => exact cl _ ih _ hp
/-! ### widened lists -/
def rngI (n : Nat) : List Int := (List.range n).map fun i => ((i : Nat) : Int)
theorem rngI_len (n : Nat) : (rngI n).length = n := by unfold rngI; rw [List.length_map, List.length_range]
theorem rngI_get {n i : Nat} (h : i < n) : (rngI n)[i]? = some (i : Int) := by unfold rngI; rw [List.getElem?_map, List.getElem?_range h]; rfl
theorem rngI_mem {n : Nat} {x : Int} : x ∈ rngI n ↔ 0 ≤ x ∧ x < (n : Int) := by
  unfold rngI
  constructor
  · intro h
    obtain ⟨i, hi, rfl⟩ := List.mem_map.mp h
    have := List.mem_range.mp hi
    omega
  · rintro ⟨h0, h1⟩
    exact List.mem_map.mpr ⟨x.toNat, List.mem_range.mpr (by omega), by omega⟩
theorem rngI_add (a b : Nat) : rngI (a + b) = rngI a ++ (rngI b).map (· + (a : Int)) := by
  unfold rngI
  rw [List.range_add, List.map_append, List.map_map, List.map_map]
  congr 1
  refine List.map_congr_left fun i _ => ?_
  show ((a + i : Nat) : Int) = (i : Int) + (a : Int)
  omega
def widen (b h : Nat) (r : List Int) : List Int := rngI b ++ r.map (· + (b : Int)) ++ (rngI h).map (· + ((b + r.length : Nat) : Int))
theorem widen_len (b h : Nat) (r : List Int) : (widen b h r).length = b + r.length + h := by unfold widen; simp [rngI_len]; omega
theorem widen_lo {b h : Nat} {r : List Int} {i : Nat} (hi : i < b) : (widen b h r)[i]? = some (i : Int) := by
  unfold widen
  rw [List.append_assoc, List.getElem?_append_left (by rw [rngI_len]; exact hi), rngI_get hi]
theorem widen_mid {b h : Nat} {r : List Int} {i : Nat} {x : Int} (hx : r[i]? = some x) : (widen b h r)[b + i]? = some (x + (b : Int)) := by
  have hi := (List.getElem?_eq_some_iff.mp hx).1
  unfold widen
  rw [List.append_assoc, List.getElem?_append_right (by rw [rngI_len]; omega), rngI_len, List.getElem?_append_left (by rw [List.length_map]; omega), List.getElem?_map, show b + i - b = i by omega, hx]; rfl
theorem widen_hi {b h : Nat} {r : List Int} {i : Nat} (hi : i < h) : (widen b h r)[b + r.length + i]? = some ((b + r.length + i : Nat) : Int) := by
  unfold widen
  rw [List.getElem?_append_right (by rw [List.length_append, rngI_len, List.length_map]; omega), List.length_append, rngI_len, List.length_map, List.getElem?_map, show b + r.length + i - (b + r.length) = i by omega, rngI_get hi]
  show some ((i : Int) + ((b + r.length : Nat) : Int)) = _
  congr 1
  omega
theorem comp_widen {b h : Nat} {q p : List Int} (l : p.length = q.length) (rg : ∀ x ∈ p, 0 ≤ x ∧ x < (q.length : Int)) : comp (widen b h q) (widen b h p) = widen b h (comp q p) := by
  unfold comp
  conv => lhs; arg 2; unfold widen
  conv => rhs; unfold widen
  rw [List.map_append, List.map_append]
  have e1 : (rngI b).map (fun x => (widen b h q).getD x.toNat 0) = rngI b := by
    conv => rhs; rw [← List.map_id (rngI b)]
    refine List.map_congr_left fun x hx => ?_
    obtain ⟨h0, h1⟩ := rngI_mem.mp hx
    show (widen b h q).getD x.toNat 0 = x
    rw [getD_of (widen_lo (by omega))]
    omega
  have e2 : (p.map (· + (b : Int))).map (fun x => (widen b h q).getD x.toNat 0) = (p.map fun x => q.getD x.toNat 0).map (· + (b : Int)) := by
    rw [List.map_map, List.map_map]
    refine List.map_congr_left fun x hx => ?_
    obtain ⟨h0, h1⟩ := rg x hx
    show (widen b h q).getD (x + (b : Int)).toNat 0 = q.getD x.toNat 0 + (b : Int)
    have hq : q[x.toNat]? = some q[x.toNat] := List.getElem?_eq_getElem (by omega)
    rw [show (x + (b : Int)).toNat = b + x.toNat by omega, getD_of (widen_mid hq), getD_of hq]
  have e3 : ((rngI h).map (· + ((b + p.length : Nat) : Int))).map (fun x => (widen b h q).getD x.toNat 0) = (rngI h).map (· + ((b + (p.map fun x => q.getD x.toNat 0).length : Nat) : Int)) := by
    rw [List.map_map, List.length_map]
    refine List.map_congr_left fun x hx => ?_
    obtain ⟨h0, h1⟩ := rngI_mem.mp hx
    show (widen b h q).getD (x + ((b + p.length : Nat) : Int)).toNat 0 = x + ((b + p.length : Nat) : Int)
    rw [show (x + ((b + p.length : Nat) : Int)).toNat = b + q.length + x.toNat by omega, getD_of (widen_hi (by omega))]
    omega
  rw [e1, e2, e3]
theorem widen_rng (b n h : Nat) : widen b h (rngI n) = rngI (b + n + h) := by
  unfold widen
  rw [rngI_add (b + n) h, rngI_add b n, rngI_len]
theorem widen_perm {b h : Nat} {r : List Int} {n : Nat} (p : r.Perm (rngI n)) : (widen b h r).Perm (rngI (b + n + h)) := by
  have l := p.length_eq
  rw [rngI_len] at l
  rw [← widen_rng]
  unfold widen
  rw [rngI_len, l]
  exact ((List.Perm.refl _).append (p.map _)).append (List.Perm.refl _)
theorem ltL_pre (a : List Int) (x y : List Int) : Rs.ltL (a ++ x) (a ++ y) = Rs.ltL x y := by
  induction a with
  | nil => rfl
  | cons c a ih =>
    show (if c = c then Rs.ltL (a ++ x) (a ++ y) else _) = _
    rw [if_pos rfl]; exact ih
theorem ltL_widen {b h : Nat} {x y : Int} {r s : List Int} (lt : x < y) : Rs.ltL (widen b h (x :: r)) (widen b h (y :: s)) = true := by
  unfold widen
  rw [List.append_assoc, List.append_assoc, ltL_pre]
  show (if x + (b : Int) = y + (b : Int) then _ else decide (x + (b : Int) < y + (b : Int))) = true
  rw [if_neg (by omega), decide_eq_true (by omega)]
theorem widen_inj {b h : Nat} {x y : Int} {r s : List Int} (e : widen b h (x :: r) = widen b h (y :: s)) : x = y := by
  have h1 : (widen b h (x :: r))[b + 0]? = some (x + (b : Int)) := widen_mid (by rfl)
  have h2 : (widen b h (y :: s))[b + 0]? = some (y + (b : Int)) := widen_mid (by rfl)
  rw [e, h2] at h1
  have := Option.some.inj h1
  omega
theorem perm_rng {l : List Int} {n : Nat} (nd : l.Nodup) (len : l.length = n) (rg : ∀ x ∈ l, 0 ≤ x ∧ x < (n : Int)) : l.Perm (rngI n) := by
  have nr : (rngI n).Nodup := by
    unfold rngI
    rw [List.Nodup, List.pairwise_map]
    exact List.nodup_range.imp fun {a b} h e => h (by omega)
  refine (List.perm_ext_iff_of_nodup nd nr).mpr fun z => ⟨fun h => rngI_mem.mpr (rg z h), fun h => ?_⟩
  apply Classical.byContradiction
  intro no
  have := (List.nodup_cons.mpr ⟨no, nd⟩).length_le_of_subset (l₂ := rngI n) (fun w hw => by
    rcases List.mem_cons.mp hw with e | e
    · rw [e]; exact h
    · exact rngI_mem.mpr (rg w e))
  rw [List.length_cons, rngI_len, len] at this
  omega
/-! ### columns and rows -/
def colOf (t : List (List Int)) (y : Int) : List Int := (rngI t.length).map fun x => mi t x y
def rowOf (t : List (List Int)) (x : Int) : List Int := (rngI t.length).map fun y => mi t x y
section
variable {t : List (List Int)} (G : Grp t) {ns ms : List Int}
include G
theorem Grp.rngT {x : Int} (h : x ∈ rngI t.length) : InT t x := rngI_mem.mp h
theorem Grp.col_perm {y : Int} (hy : InT t y) : (colOf t y).Perm (rngI t.length) := by
  unfold colOf
  refine perm_rng ?_ (by rw [List.length_map, rngI_len]) fun z hz => ?_
  · rw [List.Nodup, List.pairwise_map]
    have nr : (rngI t.length).Nodup := by
      unfold rngI
      rw [List.Nodup, List.pairwise_map]
      exact List.nodup_range.imp fun {a b} h e => h (by omega)
    exact nr.imp_of_mem fun {a b} ha hb n e => n (G.mi_rc hy (rngI_mem.mp ha) (rngI_mem.mp hb) e)
  · obtain ⟨x, hx, rfl⟩ := List.mem_map.mp hz
    exact G.mi_in (rngI_mem.mp hx) hy
theorem Grp.row_perm {y : Int} (hy : InT t y) : (rowOf t y).Perm (rngI t.length) := by
  unfold rowOf
  refine perm_rng ?_ (by rw [List.length_map, rngI_len]) fun z hz => ?_
  · rw [List.Nodup, List.pairwise_map]
    have nr : (rngI t.length).Nodup := by
      unfold rngI
      rw [List.Nodup, List.pairwise_map]
      exact List.nodup_range.imp fun {a b} h e => h (by omega)
    exact nr.imp_of_mem fun {a b} ha hb n e => n (G.mi_lc hy (rngI_mem.mp ha) (rngI_mem.mp hb) e)
  · obtain ⟨x, hx, rfl⟩ := List.mem_map.mp hz
    exact G.mi_in hy (rngI_mem.mp hx)
theorem Grp.comp_col {x y : Int} (hx : InT t x) (hy : InT t y) : comp (colOf t y) (colOf t x) = colOf t (mi t x y) := by
  unfold comp
  conv => lhs; arg 2; unfold colOf
  conv => rhs; unfold colOf
  rw [List.map_map]
  refine List.map_congr_left fun z hz => ?_
  have hz := rngI_mem.mp hz
  have h := G.mi_in hz hx
  show (colOf t y).getD (mi t z x).toNat 0 = mi t z (mi t x y)
  rw [← G.mi_assoc hz hx hy]
  refine getD_of ?_
  unfold colOf
  rw [List.getElem?_map, rngI_get (by have := h.1; have := h.2; omega), Option.map_some, Int.toNat_of_nonneg h.1]
theorem Grp.comp_row {x y : Int} (hx : InT t x) (hy : InT t y) : comp (rowOf t y) (rowOf t x) = rowOf t (mi t y x) := by
  unfold comp
  conv => lhs; arg 2; unfold rowOf
  conv => rhs; unfold rowOf
  rw [List.map_map]
  refine List.map_congr_left fun z hz => ?_
  have hz := rngI_mem.mp hz
  have h := G.mi_in hx hz
  show (rowOf t y).getD (mi t x z).toNat 0 = mi t (mi t y x) z
  rw [G.mi_assoc hy hx hz]
  refine getD_of ?_
  unfold rowOf
  rw [List.getElem?_map, rngI_get (by have := h.1; have := h.2; omega), Option.map_some, Int.toNat_of_nonneg h.1]
theorem Grp.col_cons {y : Int} (hy : InT t y) : ∃ r, colOf t y = y :: r := by
  unfold colOf rngI
  obtain ⟨n, hn⟩ : ∃ n, t.length = n + 1 := ⟨t.length - 1, by have := G.sq.pos; omega⟩
  rw [hn, List.range_succ_eq_map, List.map_cons, List.map_cons]
  have : mi t ((0 : Nat) : Int) y = y := (G.mi_one hy).1
  rw [this]
  exact ⟨_, rfl⟩
theorem Grp.row_cons {y : Int} (hy : InT t y) : ∃ r, rowOf t y = y :: r := by
  unfold rowOf rngI
  obtain ⟨n, hn⟩ : ∃ n, t.length = n + 1 := ⟨t.length - 1, by have := G.sq.pos; omega⟩
  rw [hn, List.range_succ_eq_map, List.map_cons, List.map_cons]
  have : mi t y ((0 : Nat) : Int) = y := (G.mi_one hy).2
  rw [this]
  exact ⟨_, rfl⟩
theorem Grp.col_zero : colOf t 0 = rngI t.length := by
  unfold colOf
  conv => rhs; rw [← List.map_id (rngI t.length)]
  exact List.map_congr_left fun x hx => (G.mi_one (rngI_mem.mp hx)).2
theorem Grp.row_zero : rowOf t 0 = rngI t.length := by
  unfold rowOf
  conv => rhs; rw [← List.map_id (rngI t.length)]
  exact List.map_congr_left fun x hx => (G.mi_one (rngI_mem.mp hx)).1
omit G in
theorem col_len (y : Int) : (colOf t y).length = t.length := by unfold colOf; rw [List.length_map, rngI_len]
omit G in
theorem row_len (y : Int) : (rowOf t y).length = t.length := by unfold rowOf; rw [List.length_map, rngI_len]
theorem Grp.col_rg {y : Int} (hy : InT t y) (z : Int) : ∀ x ∈ colOf t y, 0 ≤ x ∧ x < ((colOf t z).length : Int) := fun x hx => by
  rw [col_len]; exact rngI_mem.mp ((G.col_perm hy).mem_iff.mp hx)
theorem Grp.row_rg {y : Int} (hy : InT t y) (z : Int) : ∀ x ∈ rowOf t y, 0 ≤ x ∧ x < ((rowOf t z).length : Int) := fun x hx => by
  rw [row_len]; exact rngI_mem.mp ((G.row_perm hy).mem_iff.mp hx)
theorem Grp.comp_wcol {b h : Nat} {x y : Int} (hx : InT t x) (hy : InT t y) : comp (widen b h (colOf t y)) (widen b h (colOf t x)) = widen b h (colOf t (mi t x y)) := by
  rw [comp_widen (by rw [col_len, col_len]) (G.col_rg hx y), G.comp_col hx hy]
theorem Grp.comp_wrow {b h : Nat} {x y : Int} (hx : InT t x) (hy : InT t y) : comp (widen b h (rowOf t y)) (widen b h (rowOf t x)) = widen b h (rowOf t (mi t y x)) := by
  rw [comp_widen (by rw [row_len, row_len]) (G.row_rg hx y), G.comp_row hx hy]
theorem SubG.cols (S : SubG t ns ms) (b h : Nat) : PClosed (ns.map fun y => widen b h (colOf t y)) (rngI (b + t.length + h)) (ms.map fun y => widen b h (colOf t y)) := by
  constructor
  · rw [List.pairwise_map]
    refine S.cl.asc.imp_of_mem fun {x y} hx hy lt => ?_
    obtain ⟨r, e1⟩ := G.col_cons (S.in_ G x hx)
    obtain ⟨s, e2⟩ := G.col_cons (S.in_ G y hy)
    rw [e1, e2]
    exact ltL_widen lt
  · intro z
    have fwd : ∀ x, Reach t ns x → PReach (ns.map fun y => widen b h (colOf t y)) (rngI (b + t.length + h)) (widen b h (colOf t x)) := by
      intro x hx
      induction hx with
      | zero => rw [G.col_zero, widen_rng]; exact .one
      | @step x m r hm ih =>
        rw [show at2 t x.toNat m.toNat = mi t x m from rfl, ← G.comp_wcol (G.reach_in S.gen r) (S.gen m hm)]
        exact .step ih (List.mem_map.mpr ⟨m, hm, rfl⟩)
    constructor
    · intro hz
      obtain ⟨x, hx, rfl⟩ := List.mem_map.mp hz
      exact fwd x ((S.cl.mem x).mp hx)
    · intro hz
      have : ∃ x, Reach t ns x ∧ z = widen b h (colOf t x) := by
        induction hz with
        | one => exact ⟨0, .zero, by rw [G.col_zero, widen_rng]⟩
        | @step z p _ hp ih =>
          obtain ⟨x, hx, rfl⟩ := ih
          obtain ⟨m, hm, rfl⟩ := List.mem_map.mp hp
          exact ⟨mi t x m, .step hx hm, G.comp_wcol (G.reach_in S.gen hx) (S.gen m hm)⟩
      obtain ⟨x, hx, rfl⟩ := this
      exact List.mem_map.mpr ⟨x, (S.cl.mem x).mpr hx, rfl⟩
theorem SubG.rows (S : SubG t ns ms) (b h : Nat) : PClosed (ns.map fun y => widen b h (rowOf t y)) (rngI (b + t.length + h)) (ms.map fun y => widen b h (rowOf t y)) := by
  constructor
  · rw [List.pairwise_map]
    refine S.cl.asc.imp_of_mem fun {x y} hx hy lt => ?_
    obtain ⟨r, e1⟩ := G.row_cons (S.in_ G x hx)
    obtain ⟨s, e2⟩ := G.row_cons (S.in_ G y hy)
    rw [e1, e2]
    exact ltL_widen lt
  · intro z
    have one : ∀ m ∈ ns, Reach t ns m := fun m hm => by
      have := Reach.step (t := t) Reach.zero hm
      rw [show at2 t (0 : Int).toNat m.toNat = mi t 0 m from rfl, (G.mi_one (S.gen m hm)).1] at this
      exact this
    constructor
    · intro hz
      obtain ⟨x, hx, rfl⟩ := List.mem_map.mp hz
      have hx := (S.cl.mem x).mp hx
      -- words may be prolonged at the other end
      have key : ∀ x, Reach t ns x → ∀ y, InT t y → PReach (ns.map fun y => widen b h (rowOf t y)) (rngI (b + t.length + h)) (widen b h (rowOf t y)) → PReach (ns.map fun y => widen b h (rowOf t y)) (rngI (b + t.length + h)) (widen b h (rowOf t (mi t x y))) := by
        intro x hx
        induction hx with
        | zero => intro y hy h2; rw [(G.mi_one hy).1]; exact h2
        | @step x m r hm ih =>
          intro y hy h2
          have hx := G.reach_in S.gen r
          have hm' := S.gen m hm
          show PReach _ _ (widen b h (rowOf t (mi t (mi t x m) y)))
          rw [G.mi_assoc hx hm' hy]
          refine ih _ (G.mi_in hm' hy) ?_
          rw [← G.comp_wrow hy hm']
          exact .step h2 (List.mem_map.mpr ⟨m, hm, rfl⟩)
      have := key x hx 0 G.mi_zero (by rw [G.row_zero, widen_rng]; exact .one)
      rw [(G.mi_one (G.reach_in S.gen hx)).2] at this
      exact this
    · intro hz
      have : ∃ x, Reach t ns x ∧ z = widen b h (rowOf t x) := by
        induction hz with
        | one => exact ⟨0, .zero, by rw [G.row_zero, widen_rng]⟩
        | @step z p _ hp ih =>
          obtain ⟨x, hx, rfl⟩ := ih
          obtain ⟨m, hm, rfl⟩ := List.mem_map.mp hp
          exact ⟨mi t m x, G.reach_mul S.gen (one m hm) hx, G.comp_wrow (G.reach_in S.gen hx) (S.gen m hm)⟩
      obtain ⟨x, hx, rfl⟩ := this
      exact List.mem_map.mpr ⟨x, (S.cl.mem x).mpr hx, rfl⟩
theorem SubG.tabCols (S : SubG t ns ms) (b h : Nat) : tabOf (fun p q => comp q p) (ms.map fun y => widen b h (colOf t y)) = tabOf (mi t) ms := by
  refine tabOf_map (fun x hx y hy e => ?_) (fun x hx y hy => (G.comp_wcol (S.in_ G x hx) (S.in_ G y hy)).symm) (S.mul G)
  obtain ⟨r, e1⟩ := G.col_cons (S.in_ G x hx)
  obtain ⟨s, e2⟩ := G.col_cons (S.in_ G y hy)
  rw [e1, e2] at e
  exact widen_inj e
theorem SubG.tabRows (S : SubG t ns ms) (b h : Nat) : tabOf (fun p q => comp q p) (ms.map fun y => widen b h (rowOf t y)) = tabOf (fun x y => mi t y x) ms := by
  refine tabOf_map (f := fun x y => mi t y x) (fun x hx y hy e => ?_) (fun x hx y hy => (G.comp_wrow (S.in_ G x hx) (S.in_ G y hy)).symm) (fun x hx y hy => S.mul G y hy x hx)
  obtain ⟨r, e1⟩ := G.row_cons (S.in_ G x hx)
  obtain ⟨s, e2⟩ := G.row_cons (S.in_ G y hy)
  rw [e1, e2] at e
  exact widen_inj e
end
theorem widen0 (r : List Int) : widen 0 0 r = r := by
  unfold widen rngI
  simp
end GT

set_option Elab.async false
set_option linter.all false
set_option maxRecDepth 100000
set_option maxHeartbeats 2000000
/-! calls with keywords; values that are alike -/
namespace Rd
open PySem PySem.Spec PyProof.Rows L2
/-- a def with keyword-only parameters (without defaults), called by keywords -/
structure DOkN (P : Program) (w : World) (K : PySem.W.Frag) (mg : Str → Option Value) (base : Heap) (CX : CXT) (x : Str) (k : Nat) (ps : List Str) (n : Nat) (ks : List Str) (sp : Sp) : Prop where
  ok : ∃ f fd, FnOk P w K mg base CX k f fd ps sp ∧ mg x = some (.ref f) ∧ PySem.W.keepIn K (.ref f) = true ∧ KBn K fd ps n ks (fun us ws => us ++ ws) (fun vs zs => vs ++ zs)
section
variable {X : Cx} {x : Str} {p pos : Pos} {e : Expr} {es : List Expr} {kws : List Keyword} {ts tk : TA} {k n : Nat} {ps ks : List Str} {sp : Sp} {CX : CXT} {E : XK}
theorem callXN (D : DOkN X.prog X.w X.K X.mg X.base CX x k ps n ks sp) (hr : Room k X.A) (hx : Passes CX X E) (ha : PA X (e :: es) ts) (hkw : PK X kws tk) (hg : Gl X x := by rfl)
    (hall : (backToKw pos (keywordEach kws X.env)).all (·.1.isSome) = true := by rfl) (hks : (backToKw pos (keywordEach kws X.env)).filterMap (·.1) = ks := by rfl)
    (hdb : (x == ("__debug__" : Str)) = false := by decide) (he : starEach (e :: es) X.env = (false, eval e X.env) :: starEach es X.env := by rfl)
    (hpl : ((backTo pos (starEach (e :: es) X.env)).any (·.1) || (backToKw pos (keywordEach kws X.env)).any (·.1.isNone)) = false := by rfl) :
    PE X (.Call (.Name x p) (e :: es) kws pos) (tCallN n ks.length sp (fun vs zs => vs ++ zs) E ts tk) := by
  obtain ⟨f, fd, F, hm, hk, hb⟩ := D.ok
  exact pe_callN F hr hg hm hk hb hx ha hkw hall hks hdb he hpl
theorem callN {m : Nat} {gV : List V → List V → List V} {σ : L2.St} {H : Hp} {Q : VK} (h : ts σ H fun vs H1 => tk σ H1 fun zs H2 => vs.length = n ∧ zs.length = m ∧ sp (gV vs zs) H2 Q E) : tCallN n m sp gV E ts tk σ H Q := h
end
theorem _root_.L2.FunD.kbn {K : PySem.W.Frag} {x qual : Str} {params : Arguments} {body : List Stmt} {scope : Scope} {f : Addr} {fd : FuncData} {ps ks : List Str} {n : Nat} (F : FunD K x qual params body scope [] [] f fd)
    (h : ∀ (kV doc pm : Value) (an : Option Addr) (cdv ct : Value) (us ws : List Value), us.length = n → ws.length = ks.length → bindArgs (PySem.W.fnOf x qual params body scope .none kV doc pm an cdv ct) ⟨us, ks.zip ws⟩ = pure (ps.zip (us ++ ws))) :
    KBn K fd ps n ks (fun us ws => us ++ ws) (fun vs zs => vs ++ zs) := by
  obtain ⟨oc, od, dV, kV, doc, pm, an, cdv, ct, osl, rfl, lk, hcd, hD, hK⟩ := F.ex
  refine ⟨fun s us ws _ h1 h2 => ?_, fun r1 r2 => r1.append r2⟩
  rcases hD with ⟨_, rfl⟩ | ⟨e, _⟩
  · exact BindsTo.of_eq (h kV doc pm an cdv ct us ws h1 h2)
  · exact absurd rfl e
/-- a promise of nothing -/
theorem fnFalse {P : Program} {w : World} {K : PySem.W.Frag} {mg : Str → Option Value} {base : Heap} {CX : CXT} {k : Nat} {f : Addr} {fd : FuncData} {ps : List Str} : FnOk P w K mg base CX k f fd ps (fun _ _ _ _ => False) :=
  ⟨fun _ _ _ _ h => h.elim, fun _ _ _ _ _ _ _ _ _ _ _ _ _ h => h.elim⟩
/-- x[i] of a list or a tuple -/
def rIxA (K : PySem.W.Frag) : R2 := fun x y H Q => rIxL K x y H Q ∨ rIxT K x y H Q
/-! ### alike values -/
def TupX (H : Hp) (a : Addr) (xs : List V) : Prop := H a = some (.tup xs) ∨ ∃ ob : Obj, H a = some (.frz ob (.tup xs))
theorem TupX.same {H H' : Hp} {a : Addr} {xs : List V} (h : TupX H a xs) (e : Same H H') : TupX H' a xs := by
  rcases h with h | ⟨o, h⟩
  · exact .inl (e _ _ h)
  · exact .inr ⟨o, e _ _ h⟩
theorem TupX.sq {K : PySem.W.Frag} {H : Hp} {a : Addr} {xs : List V} (h : TupX H a xs) : SqT K H a xs := by
  rcases h with h | ⟨o, h⟩
  · exact .inl (.inl h)
  · exact .inl (.inr ⟨o, h⟩)
theorem TupN.x {H : Hp} {a : Addr} {xs : List V} (h : TupN H a xs) : TupX H a xs := by
  obtain ⟨ob, _, q⟩ := h
  exact .inr ⟨ob, q⟩
inductive DD (H : Hp) : Nat → V → V → Prop
  | bl (n : Nat) (b : Bool) : DD H n (.bl b) (.bl b)
  | int (n : Nat) (i : Int) : DD H n (.int i) (.int i)
  | lst {n : Nat} {a b : Addr} {xs ys : List V} : H a = some (.lst xs) → H b = some (.lst ys) → xs.length = ys.length → ys.length ≤ 1000 → (∀ (i : Nat) (x y : V), xs[i]? = some x → ys[i]? = some y → DD H n x y) → DD H (n + 1) (.ref a) (.ref b)
  | tup {n : Nat} {a b : Addr} {xs ys : List V} : TupX H a xs → TupX H b ys → xs.length = ys.length → ys.length ≤ 1000 → (∀ (i : Nat) (x y : V), xs[i]? = some x → ys[i]? = some y → DD H n x y) → DD H (n + 1) (.ref a) (.ref b)
theorem DD.same {H H' : Hp} {n : Nat} {x y : V} (h : DD H n x y) (e : Same H H') : DD H' n x y := by
  induction h with
  | bl n b => exact .bl n b
  | int n i => exact .int n i
  | lst h1 h2 h3 h4 _ ih => exact .lst (e _ _ h1) (e _ _ h2) h3 h4 ih
  | tup h1 h2 h3 h4 _ ih => exact .tup (h1.same e) (h2.same e) h3 h4 ih
theorem DD.up {H : Hp} {n : Nat} {x y : V} (h : DD H n x y) : DD H (n + 1) x y := by
  induction h with
  | bl n b => exact .bl _ b
  | int n i => exact .int _ i
  | lst h1 h2 h3 h4 _ ih => exact .lst h1 h2 h3 h4 ih
  | tup h1 h2 h3 h4 _ ih => exact .tup h1 h2 h3 h4 ih
theorem DD.ints {H : Hp} {a b : Addr} {ns : List Int} (h1 : H a = some (.lst (ns.map V.int))) (h2 : H b = some (.lst (ns.map V.int))) (z : ns.length ≤ 1000) : DD H 1 (.ref a) (.ref b) := by
  refine .lst h1 h2 rfl (by rw [List.length_map]; exact z) fun i x y hx hy => ?_
  rw [hx] at hy
  cases hy
  obtain ⟨n, _, rfl⟩ := GT.intAt hx
  exact .int 0 n
theorem DD.tints {H : Hp} {a b : Addr} {ns : List Int} (h1 : TupX H a (ns.map V.int)) (h2 : TupX H b (ns.map V.int)) (z : ns.length ≤ 1000) : DD H 1 (.ref a) (.ref b) := by
  refine .tup h1 h2 rfl (by rw [List.length_map]; exact z) fun i x y hx hy => ?_
  rw [hx] at hy
  cases hy
  obtain ⟨n, _, rfl⟩ := GT.intAt hx
  exact .int 0 n
open GT in
theorem DD.tab {H : Hp} {a b : Addr} {as bs : List Addr} {t : List (List Int)} (h1 : H a = some (.lst (as.map V.ref))) (h2 : H b = some (.lst (bs.map V.ref))) (r1 : Rows LstN H as t) (r2 : Rows LstN H bs t) (z : t.length ≤ 1000) (z2 : ∀ r ∈ t, r.length ≤ 1000) : DD H 2 (.ref a) (.ref b) := by
  refine .lst h1 h2 (by rw [List.length_map, List.length_map, r1.len, r2.len]) (by rw [List.length_map, r2.len]; exact z) fun i x y hx hy => ?_
  obtain ⟨a, r, rfl, _, q1, g1⟩ := r1.at hx
  obtain ⟨b, r', rfl, _, q2, g2⟩ := r2.at hy
  rw [q1] at q2
  cases q2
  exact .ints g1 g2 (z2 r (List.mem_of_getElem? q1))
open GT in
theorem DD.ttab {H : Hp} {a b : Addr} {as bs : List Addr} {t : List (List Int)} (h1 : TupX H a (as.map V.ref)) (h2 : TupX H b (bs.map V.ref)) (r1 : Rows TupN H as t) (r2 : Rows TupN H bs t) (z : t.length ≤ 1000) (z2 : ∀ r ∈ t, r.length ≤ 1000) : DD H 2 (.ref a) (.ref b) := by
  refine .tup h1 h2 (by rw [List.length_map, List.length_map, r1.len, r2.len]) (by rw [List.length_map, r2.len]; exact z) fun i x y hx hy => ?_
  obtain ⟨a, r, rfl, _, q1, g1⟩ := r1.at hx
  obtain ⟨b, r', rfl, _, q2, g2⟩ := r2.at hy
  rw [q1] at q2
  cases q2
  exact .tints g1.x g2.x (z2 r (List.mem_of_getElem? q1))
end Rd
namespace Rk
open PySem PySem.Spec PyProof.Rows L2 Rd
theorem ixA {X : Cx} (K : PySem.W.Frag) (h : X.K = K := by rfl) : IxR X (rIxA K) := by
  intro value slice pins s σ H x y v u Q I rx ry q hs
  rcases q with q | q
  · exact ixL K h value slice pins s σ H x y v u Q I rx ry q hs
  · exact ixT K h value slice pins s σ H x y v u Q I rx ry q hs
end Rk

set_option Elab.async false
set_option linter.all false
set_option maxRecDepth 100000
set_option maxHeartbeats 4000000
/-! zips of lists and tuples in any mix -/
namespace Rz
open PySem PySem.Spec PyProof.Rows L2 RZ
inductive SK | L | T
def SqK (k : SK) (K : PySem.W.Frag) (H : Hp) (a : Addr) (xs : List V) : Prop := match k with | .L => SqL K H a xs | .T => SqT K H a xs
def HasK (k : SK) (h : Heap) (a : Addr) (its : Array Value) : Prop := match k with | .L => h.IsList a its | .T => h.IsTuple a its
def IterK (k : SK) (h : Heap) (it a : Addr) (i : Nat) : Prop := match k with | .L => h.IsListIter it a i | .T => h.IsTupleIter it a i
def begO (k : SK) (a : Addr) : Obj := match k with | .L => { cls := .type "list_iterator", data := .fields #[.ref a, .int 0 0] } | .T => { cls := .type "tuple_iterator", data := .fields #[.ref a, .int 0 0] }
theorem begins_ (k : SK) (a : Addr) (its : Array Value) : Begins (.ref a) (begO k a) fun h => HasK k h a its := by
  cases k
  · exact begins_list a its
  · exact begins_tuple a its
theorem draws_ {prog : Program} {w : World} {A : Around} (k : SK) (hh : A.handled = none) (it a : Addr) (hne : a ≠ it) (its : Array Value) : Draws prog w A it [it, a] its.size (fun i v => its[i]? = some v) (fun i h => IterK k h it a i ∧ HasK k h a its) := by
  cases k
  · exact Draws.list hh it a hne its
  · exact Draws.tuple hh it a hne its
theorem iter0 {k : SK} {h : Heap} {it a : Addr} (e : h.get? it = some (begO k a)) : IterK k h it a 0 := by
  cases k
  · exact ⟨_, e, rfl, rfl⟩
  · exact ⟨_, e, rfl, rfl⟩
theorem IterK.at_ {k : SK} {h h' : Heap} {it a : Addr} {i : Nat} (st : IterK k h it a i) (e : ∀ o, h.get? it = some o → h'.get? it = some o) : IterK k h' it a i := by
  cases k
  · exact Heap.IsListIter.at st e
  · exact Heap.IsTupleIter.at st e
theorem IterK.ob {k : SK} {h : Heap} {it a : Addr} {i : Nat} (st : IterK k h it a i) : ∃ o, h.get? it = some o ∧ ∀ v, o.data ≠ .cell v := by
  cases k
  · obtain ⟨o, e, _, d⟩ := st
    exact ⟨o, e, fun v q => by rw [d] at q; cases q⟩
  · obtain ⟨o, e, _, d⟩ := st
    exact ⟨o, e, fun v q => by rw [d] at q; cases q⟩
section
variable {X : Cx} {pins : List (Addr × Obj)} {σ : L2.St} {H : Hp} {s : Shared} {a : Addr} {xs ys : List V}
theorem seqOf {k : SK} (I : L2.Inv X pins σ H s) (h : SqK k X.K H a xs) : ∃ its : List Value, Vals xs its ∧ HasK k s.heap a its.toArray ∧ a < s.heap.objs.size := by
  cases k
  · obtain ⟨its, r, p, _⟩ := I.list h
    exact ⟨its, r, p.isList, p.lt⟩
  · obtain ⟨its, r, p, _⟩ := I.tuple h
    obtain ⟨o, e, _⟩ := id p
    exact ⟨its, r, p, Heap.lt_size e⟩
theorem seq_inj {k : SK} (I : L2.Inv X pins σ H s) (h : SqK k X.K H a xs) (h' : SqK k X.K H a ys) : xs = ys := by
  cases k
  · exact I.list_inj h h'
  · exact I.tuple_inj h h'
end
theorem SqK.same {k : SK} {K : PySem.W.Frag} {H H' : Hp} {a : Addr} {xs : List V} (h : SqK k K H a xs) (e : Same H H') : SqK k K H' a xs := by
  cases k
  · exact Same.seq e h
  · exact Rd.same_t e h
/-- two of them as they stand, the items in new pairs -/
def It2 (K : PySem.W.Frag) (k1 k2 : SK) (a b : Addr) : It :=
  ⟨fun i H => ∃ (xs ys : List V) (x y : V), SqK k1 K H a xs ∧ SqK k2 K H b ys ∧ xs[i]? = some x ∧ ys[i]? = some y,
    fun i H v H' => ∃ T x y, v = .ref T ∧ H T = none ∧ H' = upd H T (.tup [x, y]) ∧ (∀ xs, SqK k1 K H a xs → xs[i]? = some x) ∧ ∀ ys, SqK k2 K H b ys → ys[i]? = some y,
    fun i H => ∃ xs ys : List V, SqK k1 K H a xs ∧ SqK k2 K H b ys ∧ i ≤ xs.length ∧ i ≤ ys.length ∧ (i = xs.length ∨ i = ys.length)⟩
theorem turn2 {P : Program} {w : World} {K : PySem.W.Frag} {elts : List Expr} {kk : Nat} {tpos : Pos} {k1 k2 : SK} {a b z TI TO i1 i2 : Addr} (S : ZipSep2 z TI TO i1 i2 [i1, a] [i2, b]) (ne : z ≠ i1 ∧ z ≠ i2) (na : a ≠ i1) (nb : b ≠ i2) :
    Turn P w K (.Tuple elts kk tpos) (It2 K k1 k2 a b) [z, TI, TO, i1, i2] z (fun i h => IsZip h z TI TO .none ∧ IsTupOf2 h TI (.ref i1) (.ref i2) ∧ (∃ x y, IsTupOf2 h TO x y) ∧ IterK k1 h i1 a i ∧ IterK k2 h i2 b i) where
  mem := by simp
  obj := fun i h st d hd => by
    obtain ⟨hz, hTI, ⟨x, y, hTO⟩, h1, h2⟩ := st
    have e' : d = z ∨ d = TI ∨ d = TO ∨ d = i1 ∨ d = i2 := by simpa using hd
    rcases e' with q | q | q | q | q
    · rw [q]; exact ⟨_, hz, fun v q => nomatch q⟩
    · rw [q]; exact ⟨_, hTI, fun v q => nomatch q⟩
    · rw [q]; exact ⟨_, hTO, fun v q => nomatch q⟩
    · rw [q]; exact h1.ob
    · rw [q]; exact h2.ob
  keep := fun i h h' st k => by
    obtain ⟨hz, hTI, ⟨x, y, hTO⟩, h1, h2⟩ := st
    exact ⟨k z (by simp) _ hz, k TI (by simp) _ hTI, ⟨x, y, k TO (by simp) _ hTO⟩, h1.at_ fun o q => k i1 (by simp) o q, h2.at_ fun o q => k i2 (by simp) o q⟩
  item := by
    intro X hP hw hK hc i pins s σ H E I hf st hg
    subst hP hw hK
    obtain ⟨hz, hTI, ⟨x0, y0, hTO⟩, h1, h2⟩ := st
    obtain ⟨xs, ys, x, y, hqx, hqy, hx, hy⟩ := hg
    obtain ⟨its, rv, p1, la⟩ := seqOf I hqx
    obtain ⟨its2, rv2, p2, lb⟩ := seqOf I hqy
    obtain ⟨v1, hv1, ru1⟩ := rv.get hx
    obtain ⟨v2, hv2, ru2⟩ := rv2.get hy
    have hzl : z < s.heap.objs.size := Heap.lt_size hz
    have l1 : i < its.toArray.size := by have := (List.getElem?_eq_some_iff.mp hv1).1; simpa using this
    have l2 : i < its2.toArray.size := by have := (List.getElem?_eq_some_iff.mp hv2).1; simpa using this
    have D1 := draws_ (prog := X.prog) (w := X.w) (A := X.A.in1) k1 (I.ok.hd hc) i1 a na its.toArray
    have D2 := draws_ (prog := X.prog) (w := X.w) (A := X.A.in1) k2 (I.ok.hd hc) i2 b nb its2.toArray
    obtain ⟨n1, n2⟩ := ne
    refine wpAny_pyNext_zipD2_item S D1 D2 hz hTI hTO ⟨h1, p1⟩ ⟨h2, p2⟩ l1 l2 fun x1 x2 h' tk e1 e2 z' TO' st1 st2 hT hsz hk => ?_
    have ev1 : x1 = v1 := by
      have h1 : its.toArray[i]? = some v1 := by simpa using hv1
      rw [h1] at e1; exact (Option.some.inj e1).symm
    have ev2 : x2 = v2 := by
      have h1 : its2.toArray[i]? = some v2 := by simpa using hv2
      rw [h1] at e2; exact (Option.some.inj e2).symm
    subst ev1 ev2
    refine ⟨_, rfl, wpAny_letOwnedTupleGo_zip (s := { s with heap := h', toks := tk }) z' fun h'' z'' sb => ?_⟩
    have hT2 : h''.get? s.heap.objs.size = some { cls := .type "tuple", data := .seq #[x1, x2] } := (sb.2 _ (Nat.ne_of_gt hzl)).trans hT
    have new : ObjOk X.prog X.w (upd H s.heap.objs.size (.tup [x, y])) h'' s.heap.objs.size (.tup [x, y]) :=
      ⟨by show 2 ≤ sizeLine; decide, [x1, x2], .cons ru1 (.cons ru2 .nil), ⟨_, hT2, rfl, _, rfl⟩⟩
    have I1 : L2.Inv X pins σ (upd H s.heap.objs.size (.tup [x, y])) { s with heap := h'', toks := tk } :=
      I.turnedNew (t' := tk) (ch := [z, TI, TO, i1, i2]) (fun d o hb q => (sb.2 d (fun q' => hb (by simp [q']))).trans (hk d o (fun q' => hb (by simp [q'])) (fun q' => hb (by simp [q'])) (fun q' => hb (by simp [q'])) (fun q' => hb (by simp [q'])) q)) hf (Nat.le_refl _) new
    refine ⟨.ref s.heap.objs.size, _, I1, rfl, ⟨_, x, y, rfl, I.hok.fresh (Nat.le_refl _), rfl, fun l hl => by rw [seq_inj I hl hqx]; exact hx, fun l hl => by rw [seq_inj I hl hqy]; exact hy⟩, ⟨z'', ?_, ⟨x1, x2, ?_⟩, ?_, ?_⟩, fun d hdm => ?_⟩
    · exact (sb.2 _ S.TIz).trans (hk _ _ S.TIz S.TITO S.TIi1 S.TIi2 hTI)
    · exact (sb.2 _ S.TOz).trans TO'
    · exact st1.1.at_ fun o q => (sb.2 _ n1.symm).trans q
    · exact st2.1.at_ fun o q => (sb.2 _ n2.symm).trans q
    · have hlt : d < s.heap.objs.size := by
        have e' : d = z ∨ d = TI ∨ d = TO ∨ d = i1 ∨ d = i2 := by simpa using hdm
        rcases e' with q | q | q | q | q
        · rw [q]; exact hzl
        · rw [q]; exact Heap.lt_size hTI
        · rw [q]; exact Heap.lt_size hTO
        · rw [q]; obtain ⟨_, e1, _⟩ := h1.ob; exact Heap.lt_size e1
        · rw [q]; obtain ⟨_, e2, _⟩ := h2.ob; exact Heap.lt_size e2
      rw [upd_ne (Nat.ne_of_lt hlt)]
      exact (hf d hdm).1
  done := by
    intro X hP hw hK hc i pins s σ H E I hf st hg
    subst hP hw hK
    obtain ⟨hz, hTI, ⟨x0, y0, hTO⟩, h1, h2⟩ := st
    obtain ⟨xs, ys, hqx, hqy, q1, q2, hend⟩ := hg
    obtain ⟨its, rv, p1, la⟩ := seqOf I hqx
    obtain ⟨its2, rv2, p2, lb⟩ := seqOf I hqy
    have l1 := rv.length
    have l2 := rv2.length
    have D1 := draws_ (prog := X.prog) (w := X.w) (A := X.A.in1) k1 (I.ok.hd hc) i1 a na its.toArray
    have D2 := draws_ (prog := X.prog) (w := X.w) (A := X.A.in1) k2 (I.ok.hd hc) i2 b nb its2.toArray
    refine wpAny_pyNext_zipD2_end S D1 D2 hz hTI hTO ⟨h1, p1⟩ ⟨h2, p2⟩ (by simp; omega) (by simp; omega) (by simp; omega) fun h' tk hk => ⟨rfl, I.turnedL (t' := tk) (ch := [z, TI, TO, i1, i2]) (fun d o hb q =>
      hk d o (fun q' => hb (by simp [q'])) (fun q' => hb (by simp [q'])) (fun q' => hb (by simp [q'])) (fun q' => hb (by simp [q'])) q) hf⟩
  self := fun A i s Q E st h => wpAny_pyIter_zip st.1 h
def iZip2 (K : PySem.W.Frag) (ta : TA) : TI := fun σ H R => ta σ H fun vs H1 => ∃ a b k1 k2 xs ys, vs = [.ref a, .ref b] ∧ SqK k1 K H1 a xs ∧ SqK k2 K H1 b ys ∧ R (It2 K k1 k2 a b) H1
theorem pi_zip2 {X : Cx} {e e2 : Expr} {ta : TA} {p pos tpos : Pos} {elts : List Expr} {kk : Nat} (hg : Gl X "zip") (hm : X.mg "zip" = none) (ha : PA X [e, e2] ta)
    (hs : starEach [e, e2] X.env = (false, eval e X.env) :: starEach [e2] X.env := by rfl) (hpl : (backTo pos (starEach [e2] X.env)).any (·.1) = false := by rfl) :
    PI X (.Tuple elts kk tpos) (.Call (.Name "zip" p) [e, e2] [] pos) (iZip2 X.K ta) := by
  refine ⟨fun pins s σ H R I h => ?_⟩
  refine Call_ (ld_blt I hg hm PyProof.Rows.boot_zip (PyProof.Rows.callWith_type1 (thn (ha.run pos pins s σ H _ I h) fun us s1 ⟨vs, H1, I1, r1, q1⟩ => ?_) hs hpl))
  obtain ⟨a, b, k1, k2, xs, ys, ex, hqx, hqy, q⟩ := q1
  subst ex
  cases r1 with
  | cons r rr =>
    cases rr with
    | cons r' rr =>
      cases rr
      cases r
      cases r'
      obtain ⟨its, rv, p1, la⟩ := seqOf I1 hqx
      obtain ⟨its2, rv2, p2, lb⟩ := seqOf I1 hqy
      refine zip_begins2 (begins_ k1 a its.toArray) (begins_ k2 b its2.toArray) p1 p2 fun h' hz hTI hTO h1 h2 hsz hk => wpAny_pyIter_zip hz ?_
      have I2 : L2.Inv X pins σ H1 { s1 with heap := h' } := I1.kept (t' := s1.toks) hk
      generalize hN : s1.heap.objs.size = N at *
      refine ⟨(N + 4 : Nat), [(N + 4 : Nat), (N + 2 : Nat), (N + 3 : Nat), (N : Nat), (N + 1 : Nat)], _, _, H1, rfl, I2, turn2 (zip_sep2 (N := N) (fp1 := [a]) (fp2 := [b]) (fun d hd => by rw [List.mem_singleton.mp hd]; exact la) (fun d hd => by rw [List.mem_singleton.mp hd]; exact lb))
        ⟨show (N + 4 : Nat) ≠ N by omega, show (N + 4 : Nat) ≠ N + 1 by omega⟩ (Nat.ne_of_lt la) (Nat.ne_of_lt (Nat.lt_succ_of_lt lb)), ⟨hz, hTI, ⟨_, _, hTO⟩, iter0 h1, iter0 h2⟩, fun d hd => ?_, q⟩
      have e' : d = N + 4 ∨ d = N + 2 ∨ d = N + 3 ∨ d = N ∨ d = N + 1 := by simpa using hd
      have hle : s1.heap.objs.size ≤ d := by
        rw [hN]
        rcases e' with z | z | z | z | z <;> rw [z]
        · exact Nat.le_add_right _ _
        · exact Nat.le_add_right _ _
        · exact Nat.le_add_right _ _
        · exact Nat.le_refl _
        · exact Nat.le_add_right _ _
      exact I1.fpOk hle (I1.hok.fresh hle)
/-- three of them as they stand, the items in new triples -/
def It3 (K : PySem.W.Frag) (k1 k2 k3 : SK) (a b c : Addr) : It :=
  ⟨fun i H => ∃ (xs ys zs : List V) (x y z : V), SqK k1 K H a xs ∧ SqK k2 K H b ys ∧ SqK k3 K H c zs ∧ xs[i]? = some x ∧ ys[i]? = some y ∧ zs[i]? = some z,
    fun i H v H' => ∃ T x y z, v = .ref T ∧ H T = none ∧ H' = upd H T (.tup [x, y, z]) ∧ (∀ xs, SqK k1 K H a xs → xs[i]? = some x) ∧ (∀ ys, SqK k2 K H b ys → ys[i]? = some y) ∧ ∀ zs, SqK k3 K H c zs → zs[i]? = some z,
    fun i H => ∃ xs ys zs : List V, SqK k1 K H a xs ∧ SqK k2 K H b ys ∧ SqK k3 K H c zs ∧ i ≤ xs.length ∧ i ≤ ys.length ∧ i ≤ zs.length ∧ (i = xs.length ∨ i = ys.length ∨ i = zs.length)⟩
theorem turn3 {P : Program} {w : World} {K : PySem.W.Frag} {elts : List Expr} {kk : Nat} {tpos : Pos} {k1 k2 k3 : SK} {a b c z TI TO i1 i2 i3 : Addr} (S : ZipSep3 z TI TO i1 i2 i3 [i1, a] [i2, b] [i3, c]) (ne : z ≠ i1 ∧ z ≠ i2 ∧ z ≠ i3) (na : a ≠ i1) (nb : b ≠ i2) (nc : c ≠ i3) :
    Turn P w K (.Tuple elts kk tpos) (It3 K k1 k2 k3 a b c) [z, TI, TO, i1, i2, i3] z (fun i h => IsZip h z TI TO .none ∧ IsTupOf3 h TI (.ref i1) (.ref i2) (.ref i3) ∧ (∃ x y u, IsTupOf3 h TO x y u) ∧ IterK k1 h i1 a i ∧ IterK k2 h i2 b i ∧ IterK k3 h i3 c i) where
  mem := by simp
  obj := fun i h st d hd => by
    obtain ⟨hz, hTI, ⟨x, y, u, hTO⟩, h1, h2, h3⟩ := st
    have e' : d = z ∨ d = TI ∨ d = TO ∨ d = i1 ∨ d = i2 ∨ d = i3 := by simpa using hd
    rcases e' with q | q | q | q | q | q
    · rw [q]; exact ⟨_, hz, fun v q => nomatch q⟩
    · rw [q]; exact ⟨_, hTI, fun v q => nomatch q⟩
    · rw [q]; exact ⟨_, hTO, fun v q => nomatch q⟩
    · rw [q]; exact h1.ob
    · rw [q]; exact h2.ob
    · rw [q]; exact h3.ob
  keep := fun i h h' st k => by
    obtain ⟨hz, hTI, ⟨x, y, u, hTO⟩, h1, h2, h3⟩ := st
    exact ⟨k z (by simp) _ hz, k TI (by simp) _ hTI, ⟨x, y, u, k TO (by simp) _ hTO⟩, h1.at_ fun o q => k i1 (by simp) o q, h2.at_ fun o q => k i2 (by simp) o q, h3.at_ fun o q => k i3 (by simp) o q⟩
  item := by
    intro X hP hw hK hc i pins s σ H E I hf st hg
    subst hP hw hK
    obtain ⟨hz, hTI, ⟨x0, y0, u0, hTO⟩, h1, h2, h3⟩ := st
    obtain ⟨xs, ys, zs, x, y, u, hqx, hqy, hqz, hx, hy, hu⟩ := hg
    obtain ⟨its, rv, p1, la⟩ := seqOf I hqx
    obtain ⟨its2, rv2, p2, lb⟩ := seqOf I hqy
    obtain ⟨its3, rv3, p3, lc⟩ := seqOf I hqz
    obtain ⟨v1, hv1, ru1⟩ := rv.get hx
    obtain ⟨v2, hv2, ru2⟩ := rv2.get hy
    obtain ⟨v3, hv3, ru3⟩ := rv3.get hu
    have hzl : z < s.heap.objs.size := Heap.lt_size hz
    have l1 : i < its.toArray.size := by have := (List.getElem?_eq_some_iff.mp hv1).1; simpa using this
    have l2 : i < its2.toArray.size := by have := (List.getElem?_eq_some_iff.mp hv2).1; simpa using this
    have l3 : i < its3.toArray.size := by have := (List.getElem?_eq_some_iff.mp hv3).1; simpa using this
    have D1 := draws_ (prog := X.prog) (w := X.w) (A := X.A.in1) k1 (I.ok.hd hc) i1 a na its.toArray
    have D2 := draws_ (prog := X.prog) (w := X.w) (A := X.A.in1) k2 (I.ok.hd hc) i2 b nb its2.toArray
    have D3 := draws_ (prog := X.prog) (w := X.w) (A := X.A.in1) k3 (I.ok.hd hc) i3 c nc its3.toArray
    obtain ⟨n1, n2, n3⟩ := ne
    refine wpAny_pyNext_zipD3_item S D1 D2 D3 hz hTI hTO ⟨h1, p1⟩ ⟨h2, p2⟩ ⟨h3, p3⟩ l1 l2 l3 fun x1 x2 x3 h' tk e1 e2 e3 z' TO' st1 st2 st3 hT hsz hk => ?_
    have ev1 : x1 = v1 := by
      have h1 : its.toArray[i]? = some v1 := by simpa using hv1
      rw [h1] at e1; exact (Option.some.inj e1).symm
    have ev2 : x2 = v2 := by
      have h1 : its2.toArray[i]? = some v2 := by simpa using hv2
      rw [h1] at e2; exact (Option.some.inj e2).symm
    have ev3 : x3 = v3 := by
      have h1 : its3.toArray[i]? = some v3 := by simpa using hv3
      rw [h1] at e3; exact (Option.some.inj e3).symm
    subst ev1 ev2 ev3
    refine ⟨_, rfl, wpAny_letOwnedTupleGo_zip (s := { s with heap := h', toks := tk }) z' fun h'' z'' sb => ?_⟩
    have hT2 : h''.get? s.heap.objs.size = some { cls := .type "tuple", data := .seq #[x1, x2, x3] } := (sb.2 _ (Nat.ne_of_gt hzl)).trans hT
    have new : ObjOk X.prog X.w (upd H s.heap.objs.size (.tup [x, y, u])) h'' s.heap.objs.size (.tup [x, y, u]) :=
      ⟨by show 3 ≤ sizeLine; decide, [x1, x2, x3], .cons ru1 (.cons ru2 (.cons ru3 .nil)), ⟨_, hT2, rfl, _, rfl⟩⟩
    have I1 : L2.Inv X pins σ (upd H s.heap.objs.size (.tup [x, y, u])) { s with heap := h'', toks := tk } :=
      I.turnedNew (t' := tk) (ch := [z, TI, TO, i1, i2, i3]) (fun d o hb q => (sb.2 d (fun q' => hb (by simp [q']))).trans (hk d o (fun q' => hb (by simp [q'])) (fun q' => hb (by simp [q'])) (fun q' => hb (by simp [q'])) (fun q' => hb (by simp [q'])) (fun q' => hb (by simp [q'])) q)) hf (Nat.le_refl _) new
    refine ⟨.ref s.heap.objs.size, _, I1, rfl, ⟨_, x, y, u, rfl, I.hok.fresh (Nat.le_refl _), rfl, fun l hl => by rw [seq_inj I hl hqx]; exact hx, fun l hl => by rw [seq_inj I hl hqy]; exact hy, fun l hl => by rw [seq_inj I hl hqz]; exact hu⟩, ⟨z'', ?_, ⟨x1, x2, x3, ?_⟩, ?_, ?_, ?_⟩, fun d hdm => ?_⟩
    · exact (sb.2 _ S.TIz).trans (hk _ _ S.TIz S.TITO S.TIi1 S.TIi2 S.TIi3 hTI)
    · exact (sb.2 _ S.TOz).trans TO'
    · exact st1.1.at_ fun o q => (sb.2 _ n1.symm).trans q
    · exact st2.1.at_ fun o q => (sb.2 _ n2.symm).trans q
    · exact st3.1.at_ fun o q => (sb.2 _ n3.symm).trans q
    · have hlt : d < s.heap.objs.size := by
        have e' : d = z ∨ d = TI ∨ d = TO ∨ d = i1 ∨ d = i2 ∨ d = i3 := by simpa using hdm
        rcases e' with q | q | q | q | q | q
        · rw [q]; exact hzl
        · rw [q]; exact Heap.lt_size hTI
        · rw [q]; exact Heap.lt_size hTO
        · rw [q]; obtain ⟨_, e1, _⟩ := h1.ob; exact Heap.lt_size e1
        · rw [q]; obtain ⟨_, e2, _⟩ := h2.ob; exact Heap.lt_size e2
        · rw [q]; obtain ⟨_, e2, _⟩ := h3.ob; exact Heap.lt_size e2
      rw [upd_ne (Nat.ne_of_lt hlt)]
      exact (hf d hdm).1
  done := by
    intro X hP hw hK hc i pins s σ H E I hf st hg
    subst hP hw hK
    obtain ⟨hz, hTI, ⟨x0, y0, u0, hTO⟩, h1, h2, h3⟩ := st
    obtain ⟨xs, ys, zs, hqx, hqy, hqz, q1, q2, q3, hend⟩ := hg
    obtain ⟨its, rv, p1, la⟩ := seqOf I hqx
    obtain ⟨its2, rv2, p2, lb⟩ := seqOf I hqy
    obtain ⟨its3, rv3, p3, lc⟩ := seqOf I hqz
    have l1 := rv.length
    have l2 := rv2.length
    have l3 := rv3.length
    have D1 := draws_ (prog := X.prog) (w := X.w) (A := X.A.in1) k1 (I.ok.hd hc) i1 a na its.toArray
    have D2 := draws_ (prog := X.prog) (w := X.w) (A := X.A.in1) k2 (I.ok.hd hc) i2 b nb its2.toArray
    have D3 := draws_ (prog := X.prog) (w := X.w) (A := X.A.in1) k3 (I.ok.hd hc) i3 c nc its3.toArray
    refine wpAny_pyNext_zipD3_end S D1 D2 D3 hz hTI hTO ⟨h1, p1⟩ ⟨h2, p2⟩ ⟨h3, p3⟩ (by simp; omega) (by simp; omega) (by simp; omega) (by simp; omega) fun h' tk hk => ⟨rfl, I.turnedL (t' := tk) (ch := [z, TI, TO, i1, i2, i3]) (fun d o hb q =>
      hk d o (fun q' => hb (by simp [q'])) (fun q' => hb (by simp [q'])) (fun q' => hb (by simp [q'])) (fun q' => hb (by simp [q'])) (fun q' => hb (by simp [q'])) q) hf⟩
  self := fun A i s Q E st h => wpAny_pyIter_zip st.1 h
def iZip3 (K : PySem.W.Frag) (ta : TA) : TI := fun σ H R => ta σ H fun vs H1 => ∃ a b c k1 k2 k3 xs ys zs, vs = [.ref a, .ref b, .ref c] ∧ SqK k1 K H1 a xs ∧ SqK k2 K H1 b ys ∧ SqK k3 K H1 c zs ∧ R (It3 K k1 k2 k3 a b c) H1
theorem pi_zip3 {X : Cx} {e e2 e3 : Expr} {ta : TA} {p pos tpos : Pos} {elts : List Expr} {kk : Nat} (hg : Gl X "zip") (hm : X.mg "zip" = none) (ha : PA X [e, e2, e3] ta)
    (hs : starEach [e, e2, e3] X.env = (false, eval e X.env) :: starEach [e2, e3] X.env := by rfl) (hpl : (backTo pos (starEach [e2, e3] X.env)).any (·.1) = false := by rfl) :
    PI X (.Tuple elts kk tpos) (.Call (.Name "zip" p) [e, e2, e3] [] pos) (iZip3 X.K ta) := by
  refine ⟨fun pins s σ H R I h => ?_⟩
  refine Call_ (ld_blt I hg hm PyProof.Rows.boot_zip (PyProof.Rows.callWith_type1 (thn (ha.run pos pins s σ H _ I h) fun us s1 ⟨vs, H1, I1, r1, q1⟩ => ?_) hs hpl))
  obtain ⟨a, b, c, k1, k2, k3, xs, ys, zs, ex, hqx, hqy, hqz, q⟩ := q1
  subst ex
  cases r1 with
  | cons r rr =>
    cases rr with
    | cons r' rr =>
      cases rr with
      | cons r'' rr =>
        cases rr
        cases r
        cases r'
        cases r''
        obtain ⟨its, rv, p1, la⟩ := seqOf I1 hqx
        obtain ⟨its2, rv2, p2, lb⟩ := seqOf I1 hqy
        obtain ⟨its3, rv3, p3, lc⟩ := seqOf I1 hqz
        refine zip_begins3 (begins_ k1 a its.toArray) (begins_ k2 b its2.toArray) (begins_ k3 c its3.toArray) p1 p2 p3 fun h' hz hTI hTO h1 h2 h3 hsz hk => wpAny_pyIter_zip hz ?_
        have I2 : L2.Inv X pins σ H1 { s1 with heap := h' } := I1.kept (t' := s1.toks) hk
        generalize hN : s1.heap.objs.size = N at *
        refine ⟨(N + 5 : Nat), [(N + 5 : Nat), (N + 3 : Nat), (N + 4 : Nat), (N : Nat), (N + 1 : Nat), (N + 2 : Nat)], _, _, H1, rfl, I2, turn3 (zip_sep3 (N := N) (fp1 := [a]) (fp2 := [b]) (fp3 := [c]) (fun d hd => by rw [List.mem_singleton.mp hd]; exact la) (fun d hd => by rw [List.mem_singleton.mp hd]; exact lb) (fun d hd => by rw [List.mem_singleton.mp hd]; exact lc))
          ⟨show (N + 5 : Nat) ≠ N by omega, show (N + 5 : Nat) ≠ N + 1 by omega, show (N + 5 : Nat) ≠ N + 2 by omega⟩ (Nat.ne_of_lt la) (Nat.ne_of_lt (Nat.lt_succ_of_lt lb)) (Nat.ne_of_lt (Nat.lt_succ_of_lt (Nat.lt_succ_of_lt lc))), ⟨hz, hTI, ⟨_, _, _, hTO⟩, iter0 h1, iter0 h2, iter0 h3⟩, fun d hd => ?_, q⟩
        have e' : d = N + 5 ∨ d = N + 3 ∨ d = N + 4 ∨ d = N ∨ d = N + 1 ∨ d = N + 2 := by simpa using hd
        have hle : s1.heap.objs.size ≤ d := by
          rw [hN]
          rcases e' with z | z | z | z | z | z <;> rw [z]
          · exact Nat.le_add_right _ _
          · exact Nat.le_add_right _ _
          · exact Nat.le_add_right _ _
          · exact Nat.le_refl _
          · exact Nat.le_add_right _ _
          · exact Nat.le_add_right _ _
        exact I1.fpOk hle (I1.hok.fresh hle)

/-! ### walks over them -/
section
variable {K : PySem.W.Frag} {k1 k2 k3 : SK} {a b c : Addr} {xs ys zs : List V} {g : TG} {tb : TS} {D : Ends} {σ : L2.St} {H : Hp}
theorem for2 (hl : xs.length = ys.length) (Pv : Nat → L2.St → Hp → Prop) (h0 : Pv 0 σ H) (hq : ∀ i σ H, Pv i σ H → SqK k1 K H a xs ∧ SqK k2 K H b ys)
    (hs : ∀ (i : Nat) (x y : V) (T : Addr) (σ : L2.St) (H : Hp), xs[i]? = some x → ys[i]? = some y → Pv i σ H → H T = none → g (.ref T) σ (upd H T (.tup [x, y])) fun σ2 H2 => tb { D with nx := Pv (i + 1), ct := Pv (i + 1), bk := D.nx } σ2 H2) (hd : ∀ σ H, Pv xs.length σ H → D.nx σ H) :
    ∃ W : Nat → Nat → L2.St → Hp → Prop, (∃ m, W 0 m σ H) ∧ ∀ i m σ H, W i m σ H →
      ((It2 K k1 k2 a b).stop i H ∧ D.nx σ H) ∨ ((It2 K k1 k2 a b).go i H ∧ ∃ N : L2.St → Hp → Prop, (∀ σ' H', N σ' H' → ∃ m', m' < m ∧ W (i + 1) m' σ' H') ∧ ∀ v H', (It2 K k1 k2 a b).yld i H v H' → g v σ H' fun σ2 H2 => tb { D with nx := N, ct := N, bk := D.nx } σ2 H2) := by
  refine ⟨fun i m σ H => m = xs.length - i ∧ i ≤ xs.length ∧ Pv i σ H, ⟨xs.length, rfl, Nat.zero_le _, h0⟩, ?_⟩
  rintro i m σ H ⟨rfl, hi, p⟩
  obtain ⟨qx, qy⟩ := hq i σ H p
  by_cases hlt : i < xs.length
  · have hx : xs[i]? = some xs[i] := List.getElem?_eq_getElem hlt
    have hlt2 : i < ys.length := by omega
    have hy : ys[i]? = some ys[i] := List.getElem?_eq_getElem hlt2
    refine .inr ⟨⟨xs, ys, _, _, qx, qy, hx, hy⟩, Pv (i + 1), fun σ' H' p' => ⟨xs.length - (i + 1), by omega, rfl, hlt, p'⟩, fun v H' y => ?_⟩
    obtain ⟨T, x', y', rfl, hT, rfl, f1, f2⟩ := y
    exact hs i x' y' T σ H (f1 xs qx) (f2 ys qy) p hT
  · have e : i = xs.length := by omega
    subst e
    exact .inl ⟨⟨xs, ys, qx, qy, Nat.le_refl _, by omega, .inl rfl⟩, hd σ H p⟩
end
section
variable {J : It} {n : Nat} {g : TG} {te : TE} {vs : List Nat} {σ : L2.St} {H : Hp} {Qd : Addr → Hp → Prop}
/-- a comprehension without a test over anything whose turns may make objects: element i is f i -/
theorem lcMapG (f : Nat → V) (go : ∀ (H1 : Hp) (i : Nat), Same H H1 → i < n → J.go i H1) (stop : ∀ (H1 : Hp), Same H H1 → J.stop n H1) (hz : n ≤ 100000)
    (hs : ∀ (i : Nat) (v : V) (H1 H2 : Hp) (Q1 : VK), i < n → Same H H1 → J.yld i H1 v H2 → (∀ H3, Same H1 H3 → Q1 (f i) H3) → g v (wipe σ vs) H2 fun σ2 H3 => wipe σ2 vs = wipe σ vs ∧ te σ2 H3 Q1)
    (hq : ∀ (p : Addr) (H1 : Hp), H p = none → Same H H1 → H1 p = some (.lst ((List.range n).map f)) → Qd p H1)
    (gm : ∀ (v : V) (σ : L2.St) (H : Hp) (P P' : L2.St → Hp → Prop), (∀ σ H, P σ H → P' σ H) → g v σ H P → g v σ H P')
    (D : Addr) (hD : H D = none) :
    ∃ W : Nat → Nat → Hp → Prop, (∃ m, W 0 m (upd H D (.lst []))) ∧ ∀ i m H, W i m H →
      (J.stop i H ∧ Qd D H) ∨ (J.go i H ∧ ∃ Nx : Hp → Prop, (∀ H', Nx H' → ∃ m', m' < m ∧ W (i + 1) m' H') ∧ ∀ x H', J.yld i H x H' → g x (wipe σ vs) H' fun σ2 H2 => wipe σ2 vs = wipe σ vs ∧ tYes σ2 H2 fun b H3 =>
        if b = true then te σ2 H3 fun y H4 => ∃ acc, H4 D = some (.lst
              acc) ∧ acc.length < sizeLine ∧ Nx (upd H4 D (.lst (acc ++ [y]))) else Nx H3) := by
  refine ⟨fun i m H1 => m = n - i ∧ i ≤ n ∧ Same H H1 ∧ H1 D = some (.lst ((List.range i).map f)), ⟨n, rfl, Nat.zero_le _, Rd.same_mk hD, upd_same⟩, ?_⟩
  rintro i m H1 ⟨rfl, hi, e, hacc⟩
  by_cases c : i < n
  · refine .inr ⟨go H1 _ e c, fun H' => Same H H' ∧ H' D = some (.lst ((List.range (i + 1)).map f)), fun H' z => ⟨n - (i + 1), by omega, rfl, c, z⟩, fun x H' y => ?_⟩
    refine gm _ _ _ _ _ (fun σ2 H2 z => ⟨z.1, Rd.tyes (iteT z.2)⟩) (hs i x H1 H' _ c e y fun H3 s3 => ?_)
    refine ⟨_, s3 _ _ hacc, ?_, Rd.same_mut (Same.trans e s3) hD, ?_⟩
    · rw [List.length_map, List.length_range]
      exact Nat.lt_of_lt_of_le (by omega : i < 100000) (by decide)
    · rw [upd_same, List.range_succ, List.map_append]; rfl
  · have e1 : i = n := by omega
    subst e1
    exact .inl ⟨stop H1 e, hq D H1 hD e hacc⟩
end
section
variable {K : PySem.W.Frag} {k1 k2 k3 : SK} {a b c : Addr} {xs ys zs : List V} {H : Hp}
theorem go2 (h1 : SqK k1 K H a xs) (h2 : SqK k2 K H b ys) (l2 : ys.length = xs.length) (H1 : Hp) (i : Nat) (e : Same H H1) (hi : i < xs.length) : (It2 K k1 k2 a b).go i H1 :=
  ⟨xs, ys, _, _, h1.same e, h2.same e, List.getElem?_eq_getElem hi, List.getElem?_eq_getElem (by omega)⟩
theorem stop2 (h1 : SqK k1 K H a xs) (h2 : SqK k2 K H b ys) (l2 : ys.length = xs.length) (H1 : Hp) (e : Same H H1) : (It2 K k1 k2 a b).stop xs.length H1 :=
  ⟨xs, ys, h1.same e, h2.same e, Nat.le_refl _, by omega, .inl rfl⟩
theorem yld2 (h1 : SqK k1 K H a xs) (h2 : SqK k2 K H b ys) {i : Nat} {v : V} {H1 H2 : Hp} (e : Same H H1) (y : (It2 K k1 k2 a b).yld i H1 v H2) : ∃ T x y, v = .ref T ∧ xs[i]? = some x ∧ ys[i]? = some y ∧ H2 T = some (.tup [x, y]) ∧ Same H1 H2 := by
  obtain ⟨T, x', y', rfl, hT, rfl, f1, f2⟩ := y
  exact ⟨T, x', y', rfl, f1 xs (h1.same e), f2 ys (h2.same e), upd_same, Rd.same_mk hT⟩
theorem go3 (h1 : SqK k1 K H a xs) (h2 : SqK k2 K H b ys) (h3 : SqK k3 K H c zs) (l2 : ys.length = xs.length) (l3 : zs.length = xs.length) (H1 : Hp) (i : Nat) (e : Same H H1) (hi : i < xs.length) : (It3 K k1 k2 k3 a b c).go i H1 :=
  ⟨xs, ys, zs, _, _, _, h1.same e, h2.same e, h3.same e, List.getElem?_eq_getElem hi, List.getElem?_eq_getElem (by omega), List.getElem?_eq_getElem (by omega)⟩
theorem stop3 (h1 : SqK k1 K H a xs) (h2 : SqK k2 K H b ys) (h3 : SqK k3 K H c zs) (l2 : ys.length = xs.length) (l3 : zs.length = xs.length) (H1 : Hp) (e : Same H H1) : (It3 K k1 k2 k3 a b c).stop xs.length H1 :=
  ⟨xs, ys, zs, h1.same e, h2.same e, h3.same e, Nat.le_refl _, by omega, by omega, .inl rfl⟩
theorem yld3 (h1 : SqK k1 K H a xs) (h2 : SqK k2 K H b ys) (h3 : SqK k3 K H c zs) {i : Nat} {v : V} {H1 H2 : Hp} (e : Same H H1) (y : (It3 K k1 k2 k3 a b c).yld i H1 v H2) : ∃ T x y z, v = .ref T ∧ xs[i]? = some x ∧ ys[i]? = some y ∧ zs[i]? = some z ∧ H2 T = some (.tup [x, y, z]) ∧ Same H1 H2 := by
  obtain ⟨T, x', y', z', rfl, hT, rfl, f1, f2, f3⟩ := y
  exact ⟨T, x', y', z', rfl, f1 xs (h1.same e), f2 ys (h2.same e), f3 zs (h3.same e), upd_same, Rd.same_mk hT⟩
theorem gm2 {i j : Nat} (v : V) (σ : L2.St) (H : Hp) (P P' : L2.St → Hp → Prop) (h : ∀ σ H, P σ H → P' σ H) (q : gTup K 2 (gCons (gName i) (gCons (gName j) gNil)) v σ H P) : gTup K 2 (gCons (gName i) (gCons (gName j) gNil)) v σ H P' := by
  obtain ⟨a, xs, r1, r2, r3, x, ys, r4, y, zs, r5, r6, r7⟩ := q
  exact ⟨a, xs, r1, r2, r3, x, ys, r4, y, zs, r5, r6, h _ _ r7⟩
theorem gm3 {i j k : Nat} (v : V) (σ : L2.St) (H : Hp) (P P' : L2.St → Hp → Prop) (h : ∀ σ H, P σ H → P' σ H) (q : gTup K 3 (gCons (gName i) (gCons (gName j) (gCons (gName k) gNil))) v σ H P) : gTup K 3 (gCons (gName i) (gCons (gName j) (gCons (gName k) gNil))) v σ H P' := by
  obtain ⟨a, xs, r1, r2, r3, x, ys, r4, y, zs, r5, z, us, r6, r7, r8⟩ := q
  exact ⟨a, xs, r1, r2, r3, x, ys, r4, y, zs, r5, z, us, r6, r7, h _ _ r8⟩
theorem gtup3 {i j k : Nat} {a : Addr} {x y z : V} {σ : L2.St} {P : L2.St → Hp → Prop} (h : SqT K H a [x, y, z]) (hq : P (((σ.set i (some x)).set j (some y)).set k (some z)) H) : gTup K 3 (gCons (gName i) (gCons (gName j) (gCons (gName k) gNil))) (.ref a) σ H P :=
  ⟨a, [x, y, z], rfl, h, rfl, x, [y, z], rfl, y, [z], rfl, z, [], rfl, rfl, hq⟩
end
/-! ### lcm; small powers of tuples; == of two classes -/
section
variable {X : Cx}
def rLcm : List V → Hp → VK → Prop := fun vs H Q => ∃ a b : Int, vs = [.int a, .int b] ∧ 0 ≤ a ∧ 0 ≤ b ∧ a < 2 ^ 9000 ∧ b < 2 ^ 200 ∧ Q (.int ((Nat.lcm a.toNat b.toNat : Nat) : Int)) H
theorem cr_lcm : CallR X (.builtin "math.lcm") rLcm := by
  intro pins s σ H vs us Q I r h
  obtain ⟨a, b, rfl, a0, b0, a1, b1, q⟩ := h
  obtain ⟨t, u, rfl⟩ := Vals.int2 r
  have pw : (2 : Int) ^ 200 ≤ 2 ^ 9000 := by decide +kernel
  obtain ⟨m, rfl⟩ : ∃ m : Nat, a = (m : Int) := ⟨a.toNat, by omega⟩
  obtain ⟨n, rfl⟩ : ∃ n : Nat, b = (n : Int) := ⟨b.toNat, by omega⟩
  have m1 : m < 2 ^ 9000 := by exact_mod_cast a1
  have n1 : n < 2 ^ 200 := by exact_mod_cast b1
  have pwn : (2 : Nat) ^ 200 ≤ 2 ^ 9000 := by decide +kernel
  have lg : ∀ k : Nat, k < 2 ^ 9000 → k.log2 ≤ 8999 := fun k hk => PySem.W.mg_log hk
  have one : (1 : Nat) < 2 ^ 9000 := by decide +kernel
  have h1 : (max 1 (m : Int).natAbs).log2 ≤ 8999 := lg _ (by rw [Int.natAbs_natCast]; omega)
  have h2 : (max (m : Int).natAbs (n : Int).natAbs).log2 ≤ 8999 := lg _ (by rw [Int.natAbs_natCast, Int.natAbs_natCast]; omega)
  have hl : Nat.lcm m n ≤ m * n := by
    by_cases z : m * n = 0
    · rcases Nat.mul_eq_zero.mp z with z | z
      · rw [z, Nat.lcm_zero_left]; exact Nat.zero_le _
      · rw [z, Nat.lcm_zero_right]; exact Nat.zero_le _
    · exact Nat.le_of_dvd (Nat.pos_of_ne_zero z) (Nat.lcm_dvd (Nat.dvd_mul_right _ _) (Nat.dvd_mul_left _ _))
  have hp : m * n < 2 ^ (9999 + 1) := by
    have e : (2 : Nat) ^ (9999 + 1) = 2 ^ 9000 * 2 ^ 1000 := by rw [← Nat.pow_add]
    have p2 : (2 : Nat) ^ 200 ≤ 2 ^ 1000 := Nat.pow_le_pow_right (by decide) (by decide)
    rw [e]
    exact Nat.lt_of_le_of_lt (Nat.mul_le_mul_left _ (Nat.le_of_lt (Nat.lt_of_lt_of_le n1 p2))) (Nat.mul_lt_mul_of_pos_right m1 (Nat.pow_pos (by decide)))
  have eq : (Nat.lcm 1 (m : Int).natAbs).lcm (n : Int).natAbs = Nat.lcm m n := by rw [Int.natAbs_natCast, Int.natAbs_natCast, Nat.lcm_one_left]
  have hs : ((((Nat.lcm 1 (m : Int).natAbs).lcm (n : Int).natAbs : Nat) : Int)).natAbs.log2 < bitsLine := by
    rw [eq, Int.natAbs_natCast]
    exact Nat.lt_of_le_of_lt (PySem.W.mg_log (Nat.lt_of_le_of_lt hl hp)) (by decide)
  refine call_function_meets PySem.W.MGF.kind_lcm PySem.W.MGF.plain_lcm PySem.W.MGF.entry_lcm (PySem.W.MGF.args_lcm _ _) (PySem.W.mg_run_lcm _ t _ u (by omega) (by omega) hs).meets ?_
  rw [eq]
  exact ⟨.int _, H, I.tok _, ⟨_, rfl⟩, q⟩
def rInsEqX (C D : Addr) (sp : Sp) (E : XK) : R2 := fun x y H Q => ∃ a dx fs b dy gs, x = .ref a ∧ y = .ref b ∧ H a = some (.ins C dx fs) ∧ H b = some (.ins D dy gs) ∧ sp [x, y] H Q E
theorem op_insEqX {CX : CXT} {C D : Addr} {k : Nat} {ps : List Str} {sp : Sp} {E : XK} (M : Rd.EqOk X.prog X.w X.K X.mg X.base CX C k ps sp) (hr : Room k X.A) (hx : Passes CX X E) (nf : PySem.W.notFirst X.K C (.ref D) = true) : OpR X (compareOp .Eq) (rInsEqX C D sp E) := by
  intro pins s σ H x y v u Q I rx ry ⟨a, dx, fs, b, dy, gs, ex, ey, ha, hb, q⟩
  obtain ⟨f, fd, find, fn, F, bi⟩ := M.ok
  subst ex ey
  obtain rfl : v = Value.ref a := rx
  obtain rfl : u = Value.ref b := ry
  obtain ⟨_, ja, _⟩ := ins_get I.hok ha
  obtain ⟨_, jb, _⟩ := ins_get I.hok hb
  obtain ⟨_, la, _⟩ := ja.look
  obtain ⟨_, lb, _⟩ := jb.look
  obtain ⟨_, fr⟩ := I.fr
  show wpAny _ X.A (richCompare .Eq (.ref a) (.ref b)) _ _ _
  refine PySem.W.cmp_K (op := .Eq) (tb := .ref D) hr.units0 fr I.ok.mod.kin la lb.type nf find fn ?_
  refine wpAny_mono (run_fn (us := [.ref a, .ref b]) (vs := [.ref a, .ref b]) F hr bi .nil hx I (.cons rfl (.cons rfl .nil)) q) ?_ (fun _ _ z => z)
  rintro w2 s2 ⟨z, H2, I2, rz, qz⟩
  exact SlX.cmpback rz ⟨z, H2, I2, rz, qz⟩
end
end Rz

set_option Elab.async false
set_option linter.all false
set_option maxRecDepth 100000
set_option maxHeartbeats 4000000
namespace Rz
open PySem PySem.Spec PyProof.Rows L2
open AutoSeq1 (wpAny_loadPart')
theorem tuple_mul0 (l : Addr) (v : Value) (n : Nat) (dd : Option Addr) (sl : Array (Option Value)) (u : Tok) :
    Meets (Builtin.«tuple.__mul__» ⟨[.ref l, .int 0 u], []⟩) (fun _ R s => s.heap.get? l = some { cls := .type "tuple", dict := dd, data := .seq #[v] n, slots := sl } ∧
      R (.ok (.ret (Value.ref s.heap.objs.size))) { s with heap := s.heap.push { cls := Value.type "tuple", data := Data.seq #[] }, toks := s.toks }) :=
  .of_wp fun prog w A R s h => by
    obtain ⟨hp, g, d, tk, os⟩ := s
    obtain ⟨hl, h⟩ := h
    have f1 := AutoSeq1.idx_int
    wp_walk using wpAny_loadPart' hl
    exact ⟨_, rfl, h⟩
theorem tuple_mul1 (l : Addr) (v : Value) (n : Nat) (dd : Option Addr) (sl : Array (Option Value)) (u : Tok) :
    Meets (Builtin.«tuple.__mul__» ⟨[.ref l, .int 1 u], []⟩) (fun _ R s => s.heap.get? l = some { cls := .type "tuple", dict := dd, data := .seq #[v] n, slots := sl } ∧
      R (.ok (.ret (Value.ref l))) s) :=
  .of_wp fun prog w A R s h => by
    obtain ⟨hp, g, d, tk, os⟩ := s
    obtain ⟨hl, h⟩ := h
    have f1 := AutoSeq1.idx_int
    wp_walk using wpAny_loadPart' hl
    exact ⟨_, rfl, h⟩
def rRepS (K : PySem.W.Frag) : R2 := fun x y H Q => ∃ l k z, x = .ref l ∧ y = .int k ∧ SqT K H l [z] ∧ 0 ≤ k ∧ k ≤ 1000 ∧ (k = 1 → Q (.ref l) H) ∧ (k ≠ 1 → ∀ p, H p = none → Q (.ref p) (upd H p (.tup (List.replicate k.toNat z))))
theorem flat1 {α : Type} (z : α) : ∀ n : Nat, (List.replicate n [z]).flatten = List.replicate n z
  | 0 => rfl
  | n + 1 => by rw [List.replicate_succ, List.replicate_succ, List.flatten_cons, flat1 z n]; rfl
section
variable {X : Cx}
theorem op_repS : OpR X (binaryOp .Mult) (rRepS X.K) := by
  intro pins s σ H x y v u Q I rx ry h
  obtain ⟨l, k, z, rfl, rfl, hT, h0, h1, q1, q2⟩ := h
  by_cases c : 2 ≤ k
  · refine op_repT pins s σ H _ _ v u Q I rx ry ⟨l, k, [z], rfl, rfl, hT, by simp, c, h1, by simp, fun p hp => ?_⟩
    rw [flat1]
    exact q2 (by omega) p hp
  cases rx
  obtain ⟨t, rfl⟩ := ry
  obtain ⟨its, r, ⟨⟨cls, dd, data, sl⟩, ho, hc, n, hd⟩, hs⟩ := I.tuple hT
  simp only at hc hd
  subst hc hd
  obtain ⟨v, rfl⟩ : ∃ v, its = [v] := by
    match its, r with
    | [v], _ => exact ⟨v, rfl⟩
  by_cases c1 : k = 1
  · subst c1
    refine wpAny_binaryOp_repeat_ref (T := "tuple") (U := "int") (by decide) ⟨_, ho, rfl⟩ (fun s' => typeIs_int s' 1 t) noFill_tuple_mul F.fills_int_mul F.slot_int_rmul repeat_tuple F.slot_int_index.lookup
      (call_meets F.slot_int_rmul (typeIs_int s 1 t) F.entry_int_rmul (F.args_int_rmul_2 _ _) (int_rmul_tuple 1 t l [v].toArray n dd sl)
        ⟨ho, rfl, ⟨_, ho, rfl⟩, call_meets F.slot_tuple_mul ⟨_, ho, rfl⟩ F.entry_tuple_mul (F.args_tuple_mul_2 _ _) (tuple_mul1 l v n dd sl t) ⟨ho, ?_⟩⟩)
    exact ⟨.ref l, H, I, rfl, q1 rfl⟩
  · have e0 : k = 0 := by omega
    subst e0
    refine wpAny_binaryOp_repeat_ref (T := "tuple") (U := "int") (by decide) ⟨_, ho, rfl⟩ (fun s' => typeIs_int s' 0 t) noFill_tuple_mul F.fills_int_mul F.slot_int_rmul repeat_tuple F.slot_int_index.lookup
      (call_meets F.slot_int_rmul (typeIs_int s 0 t) F.entry_int_rmul (F.args_int_rmul_2 _ _) (int_rmul_tuple 0 t l [v].toArray n dd sl)
        ⟨ho, rfl, ⟨_, ho, rfl⟩, call_meets F.slot_tuple_mul ⟨_, ho, rfl⟩ F.entry_tuple_mul (F.args_tuple_mul_2 _ _) (tuple_mul0 l v n dd sl t) ⟨ho, ?_⟩⟩)
    refine ⟨.ref s.heap.objs.size, _, I.laid (t' := s.toks) (o := .tup []) (fun b ob q => Heap.get?_push_of_some _ q) (Nat.le_refl _) ?_, rfl, q2 c1 _ (I.hok.fresh (Nat.le_refl _))⟩
    exact ⟨Nat.zero_le _, [], .nil, IsTup.new _ _⟩
end
end Rz

set_option Elab.async false
set_option linter.all false
set_option maxRecDepth 100000
set_option maxHeartbeats 4000000
/-! the rules with the written part named; comprehensions with two clauses -/
namespace Rd
open PySem PySem.Spec PyProof.Rows L2
/-- the address of a class -/
def rA : Value → Addr
  | .ref a => a
  | _ => 0
theorem rA_ref {a : Addr} : rA (.ref a) = a := rfl
end Rd
namespace Rk
open PySem PySem.Spec PyProof.Rows L2 Rd Rz
section
variable {X : Cx} (K : PySem.W.Frag) (h : X.K = K := by rfl)
include h
theorem zip2 {e e2 : Expr} {ta : TA} {p pos tpos : Pos} {elts : List Expr} {kk : Nat} (hg : Gl X "zip") (hm : X.mg "zip" = none) (ha : PA X [e, e2] ta)
    (hs : starEach [e, e2] X.env = (false, eval e X.env) :: starEach [e2] X.env := by rfl) (hpl : (backTo pos (starEach [e2] X.env)).any (·.1) = false := by rfl) :
    PI X (.Tuple elts kk tpos) (.Call (.Name "zip" p) [e, e2] [] pos) (iZip2 K ta) := h ▸ pi_zip2 hg hm ha hs hpl
theorem zip3 {e e2 e3 : Expr} {ta : TA} {p pos tpos : Pos} {elts : List Expr} {kk : Nat} (hg : Gl X "zip") (hm : X.mg "zip" = none) (ha : PA X [e, e2, e3] ta)
    (hs : starEach [e, e2, e3] X.env = (false, eval e X.env) :: starEach [e2, e3] X.env := by rfl) (hpl : (backTo pos (starEach [e2, e3] X.env)).any (·.1) = false := by rfl) :
    PI X (.Tuple elts kk tpos) (.Call (.Name "zip" p) [e, e2, e3] [] pos) (iZip3 K ta) := h ▸ pi_zip3 hg hm ha hs hpl
theorem repS : OpR X (binaryOp .Mult) (rRepS K) := h ▸ op_repS
theorem catA : OpR X (binaryOp .Add) (rCatA K) := h ▸ op_catA
theorem slA : SlR X (rSlA K) := h ▸ sl_tupA
theorem revA {tg e : Expr} {te : TE} {p pos : Pos} (hg : Gl X "reversed") (hm : X.mg "reversed" = none) (he : PE X e te) (hs : starEach [e] X.env = (false, eval e X.env) :: starEach [] X.env := by rfl) : PI X tg (.Call (.Name "reversed" p) [e] [] pos) (RT.iRevA K te) := h ▸ RT.pi_revA hg hm he hs
theorem star {e : Expr} {es : List Expr} {te : TE} {t : TA} {p : Pos} (he : PE X e te) (hr : PA X es t) (hs : starEach (.Starred e p :: es) X.env = (true, eval e X.env) :: starEach es X.env := by rfl) : PA X (.Starred e p :: es) (StX.tStar K te t) := h ▸ StX.pa_star he hr hs
theorem revL {e : Expr} {te : TE} {k : Nat} {p1 p2 p3 pos : Pos} (he : PE X e te) : PE X (.Subscript e (.Slice none none (some (.UnaryOp .USub (.Constant (.int 1) k p1) p2)) p3) pos) (tRevL K te) := h ▸ pe_revL he
end
end Rk
namespace Rd
open PySem PySem.Spec PyProof.Rows L2 Rz
section
variable {K : PySem.W.Frag} {σ : L2.St} {H : Hp} {R : It → Hp → Prop} {ta : TA} {te : TE} {Q : VK}
theorem z2 (h : ta σ H fun vs H1 => ∃ a b k1 k2 xs ys, vs = [.ref a, .ref b] ∧ SqK k1 K H1 a xs ∧ SqK k2 K H1 b ys ∧ R (It2 K k1 k2 a b) H1) : iZip2 K ta σ H R := h
theorem z3 (h : ta σ H fun vs H1 => ∃ a b c k1 k2 k3 xs ys zs, vs = [.ref a, .ref b, .ref c] ∧ SqK k1 K H1 a xs ∧ SqK k2 K H1 b ys ∧ SqK k3 K H1 c zs ∧ R (It3 K k1 k2 k3 a b c) H1) : iZip3 K ta σ H R := h
theorem revA (h : te σ H fun v H1 => ∃ (a : Addr) (xs : List V), v = .ref a ∧ ((SqL K H1 a xs ∧ R (Itv K a xs.length) H1) ∨ (SqT K H1 a xs ∧ R (RT.ItvT K a xs.length) H1))) : RT.iRevA K te σ H R := h
theorem revL (h : te σ H fun x H1 => ∃ a xs, x = .ref a ∧ SqL K H1 a xs ∧ ∀ p, H1 p = none → Q (.ref p) (upd H1 p (.lst xs.reverse))) : tRevL K te σ H Q := h
theorem star {t : TA} {P : List V → Hp → Prop} (h : te σ H fun x H1 => ∃ p xs, x = V.ref p ∧ (SqT K H1 p xs ∨ SqL K H1 p xs) ∧ t σ H1 fun ys H2 => P (xs ++ ys) H2) : StX.tStar K te t σ H P := h
theorem lc2 {wi wi1 : TI} {g g1 : TG} {tt tt1 : TT} {vs vs1 : List Nat} (h : wi σ H fun J H1 => ∀ D, H1 D = none → ∃ W : Nat → Nat → Hp → Prop, (∃ m, W 0 m (upd H1 D (.lst []))) ∧ ∀ i m H, W i m H →
  (J.stop i H ∧ Q (.ref D) H) ∨ (J.go i H ∧ ∃ Nx : Hp → Prop, (∀ H', Nx H' → ∃ m', m' < m ∧ W (i + 1) m' H') ∧ ∀ x H', J.yld i H x H' → g x (wipe σ vs) H' fun σ2 H2 => wipe σ2 vs = wipe σ vs ∧ tt σ2 H2 fun b H3 =>
    if b = true then wi1 σ2 H3 fun J1 H4 => ∃ W1 : Nat → Nat → Hp → Prop, (∃ m, W1 0 m H4) ∧ ∀ j k H, W1 j k H →
      (J1.stop j H ∧ Nx H) ∨ (J1.go j H ∧ ∃ Nx1 : Hp → Prop, (∀ H', Nx1 H' → ∃ k', k' < k ∧ W1 (j + 1) k' H') ∧ ∀ x H', J1.yld j H x H' → g1 x (wipe σ2 vs1) H' fun σ3 H5 => wipe σ3 vs1 = wipe σ2 vs1 ∧ tt1 σ3 H5 fun b H6 =>
        if b = true then te σ3 H6 fun y H7 => ∃ acc, H7 D = some (.lst acc) ∧ acc.length < sizeLine ∧ Nx1 (upd H7 D (.lst (acc ++ [y]))) else Nx1 H6)
    else Nx H3)) : tLc2 wi g tt wi1 g1 tt1 te vs vs1 σ H Q := h
/-- for x in xs for k in range(m): a new object each -/
theorem lc2New {J : It} {xs : List V} {j j1 : Nat} {wi1 : TI} {vs vs1 : List Nat} {Qd : Addr → Hp → Prop} (obj : Nat → Nat → HO → Prop) (m : Nat) (S : Src J xs H) (hz : xs.length * m ≤ 100000) (hw : ∀ x : V, wipe ((wipe σ vs).set j (some x)) vs = wipe σ vs)
    (hw1 : ∀ x y : V, wipe ((wipe ((wipe σ vs).set j (some x)) vs1).set j1 (some y)) vs1 = wipe ((wipe σ vs).set j (some x)) vs1)
    (h1 : ∀ (x : V) (H1 : Hp) (R : It → Hp → Prop), Same H H1 → R (Itr 0 m) H1 → wi1 ((wipe σ vs).set j (some x)) H1 R)
    (hs : ∀ (i k : Nat) (x : V) (H1 : Hp) (Q1 : VK), xs[i]? = some x → k < m → Same H H1 → (∀ (p : Addr) (H2 : Hp) (o : HO), H1 p = none → Same H1 H2 → H2 p = some o → obj i k o → Q1 (.ref p) H2) → te ((wipe ((wipe σ vs).set j (some x)) vs1).set j1 (some (.int (k : Nat)))) H1 Q1)
    (hq : ∀ (p : Addr) (as : List Addr) (H1 : Hp), H p = none → Same H H1 → H1 p = some (.lst (as.map V.ref)) → as.length = xs.length * m → (∀ (n : Nat) (a : Addr), as[n]? = some a → (∃ o, H1 a = some o ∧ obj (n / m) (n % m) o) ∧ H a = none ∧ a ≠ p) → Qd p H1)
    (D : Addr) (hD : H D = none) :
    ∃ W : Nat → Nat → Hp → Prop, (∃ m, W 0 m (upd H D (.lst []))) ∧ ∀ i m H, W i m H →
      (J.stop i H ∧ Qd D H) ∨ (J.go i H ∧ ∃ Nx : Hp → Prop, (∀ H', Nx H' → ∃ m', m' < m ∧ W (i + 1) m' H') ∧ ∀ x H', J.yld i H x H' → gName j x (wipe σ vs) H' fun σ2 H2 => wipe σ2 vs = wipe σ vs ∧ tYes σ2 H2 fun b H3 =>
    if b = true then wi1 σ2 H3 fun J1 H4 => ∃ W1 : Nat → Nat → Hp → Prop, (∃ m, W1 0 m H4) ∧ ∀ j k H, W1 j k H →
      (J1.stop j H ∧ Nx H) ∨ (J1.go j H ∧ ∃ Nx1 : Hp → Prop, (∀ H', Nx1 H' → ∃ k', k' < k ∧ W1 (j + 1) k' H') ∧ ∀ x H', J1.yld j H x H' → gName j1 x (wipe σ2 vs1) H' fun σ3 H5 => wipe σ3 vs1 = wipe σ2 vs1 ∧ tYes σ3 H5 fun b H6 =>
        if b = true then te σ3 H6 fun y H7 => ∃ acc, H7 D = some (.lst acc) ∧ acc.length < sizeLine ∧ Nx1 (upd H7 D (.lst (acc ++ [y]))) else Nx1 H6)
    else Nx H3) := by
  have OK : ∀ (as : List Addr) (H1 : Hp), Prop := fun as H1 => ∀ (n : Nat) (a : Addr), as[n]? = some a → (∃ o, H1 a = some o ∧ obj (n / m) (n % m) o) ∧ H a = none ∧ a ≠ D
  refine ⟨fun i q H1 => q = xs.length - i ∧ i ≤ xs.length ∧ ∃ as : List Addr, as.length = i * m ∧ Same H H1 ∧ H1 D = some (.lst (as.map V.ref)) ∧ (∀ (n : Nat) (a : Addr), as[n]? = some a → (∃ o, H1 a = some o ∧ obj (n / m) (n % m) o) ∧ H a = none ∧ a ≠ D),
    ⟨xs.length, rfl, Nat.zero_le _, [], by simp, same_mk hD, upd_same, fun n a h => by simp at h⟩, ?_⟩
  rintro i q H1 ⟨rfl, hi, as, la, e, hacc, ho⟩
  by_cases c : i < xs.length
  · refine .inr ⟨S.go H1 _ e c, fun H' => ∃ as' : List Addr, as'.length = (i + 1) * m ∧ Same H H' ∧ H' D = some (.lst (as'.map V.ref)) ∧ (∀ (n : Nat) (a : Addr), as'[n]? = some a → (∃ o, H' a = some o ∧ obj (n / m) (n % m) o) ∧ H a = none ∧ a ≠ D),
      fun H' z => ⟨xs.length - (i + 1), by omega, rfl, c, z⟩, fun x H' y => ?_⟩
    obtain ⟨rfl, hx⟩ := S.yld H1 _ x H' e y
    refine ⟨hw x, ?_⟩
    refine tyes (iteT ?_)
    refine h1 x H' _ e ?_
    refine ⟨fun k q H2 => q = m - k ∧ k ≤ m ∧ ∃ as : List Addr, as.length = i * m + k ∧ Same H H2 ∧ H2 D = some (.lst (as.map V.ref)) ∧ (∀ (n : Nat) (a : Addr), as[n]? = some a → (∃ o, H2 a = some o ∧ obj (n / m) (n % m) o) ∧ H a = none ∧ a ≠ D),
      ⟨m, rfl, Nat.zero_le _, as, la, e, hacc, ho⟩, ?_⟩
    rintro k q H2 ⟨rfl, hk, as, la, e, hacc, ho⟩
    by_cases ck : k < m
    · refine .inr ⟨ck, fun H' => ∃ as' : List Addr, as'.length = i * m + (k + 1) ∧ Same H H' ∧ H' D = some (.lst (as'.map V.ref)) ∧ (∀ (n : Nat) (a : Addr), as'[n]? = some a → (∃ o, H' a = some o ∧ obj (n / m) (n % m) o) ∧ H a = none ∧ a ≠ D),
        fun H' z => ⟨m - (k + 1), by omega, rfl, ck, z⟩, fun y H' yy => ?_⟩
      obtain ⟨rfl, hy⟩ := yy
      rw [Int.zero_add] at hy
      subst hy
      refine ⟨hw1 x _, ?_⟩
      refine tyes (iteT ?_)
      refine hs i k x H' _ (hx c) ck e fun p H3 ob hp s3 h3 hob => ?_
      have npD : p ≠ D := fun z => by rw [z, hacc] at hp; cases hp
      have lm : i * m + m ≤ xs.length * m := by
        have := Nat.mul_le_mul_right m (show i + 1 ≤ xs.length from c)
        rw [Nat.add_mul, Nat.one_mul] at this
        exact this
      refine ⟨_, s3 _ _ hacc, ?_, as ++ [p], by rw [List.length_append, la]; rfl, same_mut (Same.trans e s3) hD, by rw [upd_same, List.map_append]; rfl, fun n a hn => ?_⟩
      · rw [List.length_map]
        exact Nat.lt_of_lt_of_le (by omega : as.length < 100000) (by decide)
      · by_cases q : n < as.length
        · rw [List.getElem?_append_left q] at hn
          obtain ⟨⟨o1, a1, b1⟩, a2, a3⟩ := ho n a hn
          exact ⟨⟨o1, by rw [upd_ne a3]; exact s3 _ _ a1, b1⟩, a2, a3⟩
        · have lu := (List.getElem?_eq_some_iff.mp hn).1
          rw [List.length_append, List.length_singleton] at lu
          have q1 : n = as.length := by omega
          subst q1
          rw [List.getElem?_append_right (Nat.le_refl _), Nat.sub_self] at hn
          cases hn
          have d1 : as.length / m = i := by
            rw [la, Nat.add_comm, Nat.add_mul_div_right _ _ (by omega), Nat.div_eq_of_lt ck, Nat.zero_add]
          have d2 : as.length % m = k := by
            rw [la, Nat.add_comm, Nat.add_mul_mod_self_right, Nat.mod_eq_of_lt ck]
          rw [d1, d2]
          exact ⟨⟨ob, by rw [upd_ne npD]; exact h3, hob⟩, Same.free e hp, npD⟩
    · have ek : k = m := by omega
      subst ek
      refine .inl ⟨Nat.le_refl _, as, ?_, e, hacc, ho⟩
      rw [la, Nat.add_mul, Nat.one_mul]
  · have e1 : i = xs.length := by omega
    subst e1
    exact .inl ⟨S.stop H1 e, hq D as H1 hD e hacc la ho⟩
end
end Rd

set_option linter.all false
set_option maxRecDepth 100000
/-! values of targets: mixed digits -/
namespace GT
def pr : List Int → Nat
  | [] => 1
  | m :: r => m.toNat * pr r
def dg : List Int → Nat → List Int
  | [], _ => []
  | m :: r, p => ((p / pr r % m.toNat : Nat) : Int) :: dg r p
def psn : List Int → List Int → Nat
  | m :: r, x :: v => x.toNat * pr r + psn r v
  | _, _ => 0
def Val : List Int → List Int → Prop
  | [], [] => True
  | m :: r, x :: v => (0 ≤ x ∧ x < m) ∧ Val r v
  | _, _ => False
def OkM (ms : List Int) : Prop := ∀ m ∈ ms, 2 ≤ m
theorem OkM.hd {m : Int} {r : List Int} (h : OkM (m :: r)) : 2 ≤ m := h m List.mem_cons_self
theorem OkM.tl {m : Int} {r : List Int} (h : OkM (m :: r)) : OkM r := fun x hx => h x (List.mem_cons_of_mem _ hx)
theorem pr_pos : ∀ {ms : List Int}, OkM ms → 0 < pr ms
  | [], _ => Nat.one_pos
  | m :: r, h => Nat.mul_pos (by have := h.hd; omega) (pr_pos h.tl)
theorem pr_append : ∀ (a b : List Int), pr (a ++ b) = pr a * pr b
  | [], b => (Nat.one_mul _).symm
  | m :: a, b => by show m.toNat * pr (a ++ b) = m.toNat * pr a * pr b; rw [pr_append a b, Nat.mul_assoc]
theorem pr_one (m : Int) : pr [m] = m.toNat := Nat.mul_one _
theorem pr_take {ms : List Int} {i : Nat} {m : Int} (h : ms[i]? = some m) : pr (ms.take (i + 1)) = pr (ms.take i) * m.toNat := by
  rw [List.take_add_one, h, pr_append]
  show _ * pr [m] = _
  rw [pr_one]
theorem dg_len : ∀ (ms : List Int) (p : Nat), (dg ms p).length = ms.length
  | [], _ => rfl
  | m :: r, p => congrArg Nat.succ (dg_len r p)
theorem dg_snoc : ∀ (l : List Int) (m : Int) (p e : Nat), e < m.toNat → dg (l ++ [m]) (p * m.toNat + e) = dg l p ++ [(e : Int)]
  | [], m, p, e, h => by
    show [(((p * m.toNat + e) / pr [] % m.toNat : Nat) : Int)] = [(e : Int)]
    rw [show pr [] = 1 from rfl, Nat.div_one, Nat.add_comm, Nat.add_mul_mod_self_right, Nat.mod_eq_of_lt h]
  | k :: l, m, p, e, h => by
    show (((p * m.toNat + e) / pr (l ++ [m]) % k.toNat : Nat) : Int) :: dg (l ++ [m]) (p * m.toNat + e) = ((p / pr l % k.toNat : Nat) : Int) :: (dg l p ++ [(e : Int)])
    have d : (p * m.toNat + e) / pr (l ++ [m]) = p / pr l := by
      rw [pr_append, pr_one, Nat.mul_comm (pr l), ← Nat.div_div_eq_div_mul, Nat.add_comm, Nat.add_mul_div_right _ _ (by omega), Nat.div_eq_of_lt h, Nat.zero_add]
    rw [d, dg_snoc l m p e h]
theorem dg_mod : ∀ {ms : List Int}, OkM ms → ∀ (p k : Nat), dg ms (p + k * pr ms) = dg ms p
  | [], _, _, _ => rfl
  | m :: r, h, p, k => by
    have hr := pr_pos h.tl
    show (((p + k * (m.toNat * pr r)) / pr r % m.toNat : Nat) : Int) :: dg r (p + k * (m.toNat * pr r)) = _
    have e : k * (m.toNat * pr r) = (k * m.toNat) * pr r := by rw [Nat.mul_assoc]
    rw [e, Nat.add_mul_div_right _ _ hr, Nat.add_mul_mod_self_right, dg_mod h.tl]; rfl
theorem Val.len : ∀ {ms v : List Int}, Val ms v → v.length = ms.length
  | [], [], _ => rfl
  | [], _ :: _, h => h.elim
  | _ :: _, [], h => h.elim
  | _ :: _, _ :: _, h => congrArg Nat.succ (Val.len h.2)
theorem val_iff : ∀ {ms v : List Int}, Val ms v ↔ v.length = ms.length ∧ ∀ (j : Nat) (x m : Int), v[j]? = some x → ms[j]? = some m → 0 ≤ x ∧ x < m
  | [], [] => ⟨fun _ => ⟨rfl, fun j x m h => by simp at h⟩, fun _ => trivial⟩
  | [], _ :: _ => ⟨fun h => h.elim, fun h => by simp at h⟩
  | _ :: _, [] => ⟨fun h => h.elim, fun h => by simp at h⟩
  | m :: r, x :: v => by
    constructor
    · rintro ⟨h1, h2⟩
      obtain ⟨l, q⟩ := val_iff.mp h2
      refine ⟨congrArg Nat.succ l, fun j y n e1 e2 => ?_⟩
      cases j with
      | zero => cases e1; cases e2; exact h1
      | succ j => exact q j y n e1 e2
    · rintro ⟨l, q⟩
      exact ⟨q 0 x m rfl rfl, val_iff.mpr ⟨by simpa using l, fun j y n e1 e2 => q (j + 1) y n e1 e2⟩⟩
theorem dg_val : ∀ {ms : List Int}, OkM ms → ∀ p, Val ms (dg ms p)
  | [], _, _ => trivial
  | m :: r, h, p => ⟨⟨by omega, by have := h.hd; have := Nat.mod_lt (p / pr r) (show 0 < m.toNat by omega); omega⟩, dg_val h.tl p⟩
theorem psn_lt : ∀ {ms v : List Int}, Val ms v → psn ms v < pr ms
  | [], [], _ => Nat.one_pos
  | [], _ :: _, h => h.elim
  | _ :: _, [], h => h.elim
  | m :: r, x :: v, h => by
    have := psn_lt h.2
    show x.toNat * pr r + psn r v < m.toNat * pr r
    have h2 : (x.toNat + 1) * pr r ≤ m.toNat * pr r := Nat.mul_le_mul_right _ (by have := h.1; omega)
    rw [Nat.add_mul, Nat.one_mul] at h2
    omega
theorem dg_psn : ∀ {ms v : List Int}, OkM ms → Val ms v → dg ms (psn ms v) = v
  | [], [], _, _ => rfl
  | [], _ :: _, _, h => h.elim
  | _ :: _, [], _, h => h.elim
  | m :: r, x :: v, o, h => by
    have hr := pr_pos o.tl
    have lt := psn_lt h.2
    show (((x.toNat * pr r + psn r v) / pr r % m.toNat : Nat) : Int) :: dg r (x.toNat * pr r + psn r v) = x :: v
    rw [Nat.add_comm, Nat.add_mul_div_right _ _ hr, Nat.div_eq_of_lt lt, Nat.zero_add, Nat.mod_eq_of_lt (by have := h.1; omega), dg_mod o.tl, dg_psn o.tl h.2, Int.toNat_of_nonneg h.1.1]
theorem psn_dg : ∀ {ms : List Int}, OkM ms → ∀ {p : Nat}, p < pr ms → psn ms (dg ms p) = p
  | [], _, p, h => by have : p < 1 := h; show 0 = p; omega
  | m :: r, o, p, h => by
    have hr := pr_pos o.tl
    have h' : p < m.toNat * pr r := h
    show ((p / pr r % m.toNat : Nat) : Int).toNat * pr r + psn r (dg r p) = p
    have lt : p / pr r < m.toNat := (Nat.div_lt_iff_lt_mul hr).mpr h'
    have e : dg r p = dg r (p % pr r) := by
      have := dg_mod o.tl (p % pr r) (p / pr r)
      rw [Nat.mul_comm, Nat.mod_add_div] at this
      exact this
    rw [Int.toNat_natCast, Nat.mod_eq_of_lt lt, e, psn_dg o.tl (Nat.mod_lt _ hr), Nat.mul_comm]
    exact Nat.div_add_mod p (pr r)
/-- the values in ascending order -/
def VL (ms : List Int) : List (List Int) := (List.range (pr ms)).map (dg ms)
theorem VL_len (ms : List Int) : (VL ms).length = pr ms := by unfold VL; rw [List.length_map, List.length_range]
theorem VL_get {ms : List Int} {p : Nat} (h : p < pr ms) : (VL ms)[p]? = some (dg ms p) := by unfold VL; rw [List.getElem?_map, List.getElem?_range h]; rfl
theorem VL_mem {ms v : List Int} (o : OkM ms) : v ∈ VL ms ↔ Val ms v := by
  unfold VL
  constructor
  · intro h
    obtain ⟨p, _, rfl⟩ := List.mem_map.mp h
    exact dg_val o p
  · intro h
    exact List.mem_map.mpr ⟨psn ms v, List.mem_range.mpr (psn_lt h), dg_psn o h⟩
theorem VL_nd {ms : List Int} (o : OkM ms) : (VL ms).Nodup := by
  unfold VL
  rw [List.Nodup, List.pairwise_map]
  refine List.nodup_range.imp_of_mem fun {a b} ha hb n e => n ?_
  rw [← psn_dg o (List.mem_range.mp ha), ← psn_dg o (List.mem_range.mp hb), e]
theorem VL_idx {ms v : List Int} (o : OkM ms) (h : Val ms v) : (VL ms).idxOf v = psn ms v := by
  have lt := psn_lt h
  have l : psn ms v < (VL ms).length := by rw [VL_len]; exact lt
  have e : (VL ms)[psn ms v] = v := by
    have := VL_get lt
    rw [List.getElem?_eq_getElem l, dg_psn o h] at this
    exact Option.some.inj this
  have := (VL_nd o).idxOf_getElem (psn ms v) l
  rw [e] at this
  exact this
/-- part by part -/
def opV (f : Int → Int → Int) : List Int → List Int → List Int → List Int
  | m :: r, x :: a, y :: b => f x y % m :: opV f r a b
  | _, _, _ => []
theorem opV_val (f : Int → Int → Int) : ∀ {ms a b : List Int}, OkM ms → a.length = ms.length → b.length = ms.length → Val ms (opV f ms a b)
  | [], [], [], _, _, _ => trivial
  | m :: r, x :: a, y :: b, o, la, lb => ⟨⟨Int.emod_nonneg _ (by have := o.hd; omega), Int.emod_lt_of_pos _ (by have := o.hd; omega)⟩, opV_val f o.tl (by simpa using la) (by simpa using lb)⟩
  | [], _ :: _, _, _, h, _ => by simp at h
  | [], [], _ :: _, _, _, h => by simp at h
  | _ :: _, [], _, _, h, _ => by simp at h
  | _ :: _, _ :: _, [], _, _, h => by simp at h
theorem opV_get (f : Int → Int → Int) : ∀ {ms a b : List Int} {i : Nat} {m x y : Int}, ms[i]? = some m → a[i]? = some x → b[i]? = some y → (opV f ms a b)[i]? = some (f x y % m)
  | m :: r, x :: a, y :: b, 0, _, _, _, h1, h2, h3 => by cases h1; cases h2; cases h3; rfl
  | m :: r, x :: a, y :: b, i + 1, _, _, _, h1, h2, h3 => opV_get f (ms := r) (a := a) (b := b) (i := i) h1 h2 h3
  | [], _, _, _, _, _, _, h1, _, _ => by simp at h1
  | _ :: _, [], _, _, _, _, _, _, h2, _ => by simp at h2
  | _ :: _, _ :: _, [], _, _, _, _, _, _, h3 => by simp at h3
theorem opV_len (f : Int → Int → Int) : ∀ {ms a b : List Int}, a.length = ms.length → b.length = ms.length → (opV f ms a b).length = ms.length
  | [], [], [], _, _ => rfl
  | m :: r, x :: a, y :: b, la, lb => congrArg Nat.succ (opV_len f (by simpa using la) (by simpa using lb))
  | [], _ :: _, _, h, _ => by simp at h
  | [], [], _ :: _, _, h => by simp at h
  | _ :: _, [], _, h, _ => by simp at h
  | _ :: _, _ :: _, [], _, h => by simp at h
theorem opV_row {f : Int → Int → Int} {ms a b : List Int} (la : a.length = ms.length) (lb : b.length = ms.length) : (List.range ms.length).map (fun i => f (a.getD i 0) (b.getD i 0) % ms.getD i 0) = opV f ms a b := by
  refine List.ext_getElem? fun i => ?_
  rw [List.getElem?_map]
  by_cases c : i < ms.length
  · have h1 : ms[i]? = some ms[i] := List.getElem?_eq_getElem c
    have h2 : a[i]? = some (a[i]'(by omega)) := List.getElem?_eq_getElem (by omega)
    have h3 : b[i]? = some (b[i]'(by omega)) := List.getElem?_eq_getElem (by omega)
    rw [List.getElem?_range c, opV_get f h1 h2 h3]
    show some (f (a.getD i 0) (b.getD i 0) % ms.getD i 0) = _
    rw [getD_of h1, getD_of h2, getD_of h3]
  · rw [List.getElem?_eq_none (by simp; omega), List.getElem?_eq_none (by rw [opV_len f la lb]; omega)]; rfl
abbrev addV (ms a b : List Int) : List Int := opV (fun x y => x + y) ms a b
theorem addV_zero : ∀ {ms v : List Int}, OkM ms → Val ms v → addV ms (dg ms 0) v = v ∧ addV ms v (dg ms 0) = v
  | [], [], _, _ => ⟨rfl, rfl⟩
  | [], _ :: _, _, h => h.elim
  | _ :: _, [], _, h => h.elim
  | m :: r, x :: v, o, h => by
    obtain ⟨h1, h2⟩ := addV_zero o.tl h.2
    have z : ((0 / pr r % m.toNat : Nat) : Int) = 0 := by rw [Nat.zero_div, Nat.zero_mod]; rfl
    constructor
    · show (((0 / pr r % m.toNat : Nat) : Int) + x) % m :: addV r (dg r 0) v = x :: v
      rw [z, Int.zero_add, Int.emod_eq_of_lt h.1.1 h.1.2, h1]
    · show (x + ((0 / pr r % m.toNat : Nat) : Int)) % m :: addV r v (dg r 0) = x :: v
      rw [z, Int.add_zero, Int.emod_eq_of_lt h.1.1 h.1.2, h2]
theorem addV_assoc : ∀ {ms a b c : List Int}, Val ms a → Val ms b → Val ms c → addV ms (addV ms a b) c = addV ms a (addV ms b c)
  | [], [], [], [], _, _, _ => rfl
  | m :: r, x :: a, y :: b, z :: c, h1, h2, h3 => by
    show ((x + y) % m + z) % m :: addV r (addV r a b) c = (x + (y + z) % m) % m :: addV r a (addV r b c)
    rw [addV_assoc h1.2 h2.2 h3.2, Int.emod_add_emod, Int.add_emod_emod, Int.add_assoc]
  | [], _ :: _, _, _, h, _, _ => h.elim
  | [], [], _ :: _, _, _, h, _ => h.elim
  | [], [], [], _ :: _, _, _, h => h.elim
  | _ :: _, [], _, _, h, _, _ => h.elim
  | _ :: _, _ :: _, [], _, _, h, _ => h.elim
  | _ :: _, _ :: _, _ :: _, [], _, _, h => h.elim
theorem addV_can : ∀ {ms a b c : List Int}, OkM ms → Val ms a → Val ms b → Val ms c → addV ms a b = addV ms a c → b = c
  | [], [], [], [], _, _, _, _, _ => rfl
  | m :: r, x :: a, y :: b, z :: c, o, h1, h2, h3, e => by
    have e' : (x + y) % m :: addV r a b = (x + z) % m :: addV r a c := e
    obtain ⟨e1, e2⟩ := List.cons.inj e'
    have := addV_can o.tl h1.2 h2.2 h3.2 e2
    have yz : y = z := by
      have h := Int.emod_emod_of_dvd (x + y) (Int.dvd_refl m)
      have hy := h2.1
      have hz := h3.1
      have c1 : Cg m (x + y) (x + z) := Cg.of e1
      have c2 : Cg m y z := by
        have := c1.add (Cg.refl m (-x))
        rw [show x + y + -x = y by omega, show x + z + -x = z by omega] at this
        exact this
      have := c2.small hz.1 hz.2
      rw [Int.emod_eq_of_lt hy.1 hy.2] at this
      exact this
    rw [yz, this]
  | [], _ :: _, _, _, _, h, _, _, _ => h.elim
  | [], [], _ :: _, _, _, _, h, _, _ => h.elim
  | [], [], [], _ :: _, _, _, _, h, _ => h.elim
  | _ :: _, [], _, _, _, h, _, _, _ => h.elim
  | _ :: _, _ :: _, [], _, _, _, h, _, _ => h.elim
  | _ :: _, _ :: _, _ :: _, [], _, _, _, h, _ => h.elim
theorem tgtGrp {ms : List Int} (o : OkM ms) : Grp (tabOf (addV ms) (VL ms)) := by
  refine tabOf_grp (VL_nd o) (fun x hx y hy => ?_) (VL_get (pr_pos o)) (fun x hx => (addV_zero o ((VL_mem o).mp hx)).1) (fun x hx => (addV_zero o ((VL_mem o).mp hx)).2)
    (fun x hx y hy z hz => addV_assoc ((VL_mem o).mp hx) ((VL_mem o).mp hy) ((VL_mem o).mp hz)) (fun x hx y hy z hz => addV_can o ((VL_mem o).mp hx) ((VL_mem o).mp hy) ((VL_mem o).mp hz))
  exact (VL_mem o).mpr (opV_val _ o ((VL_mem o).mp hx).len ((VL_mem o).mp hy).len)
/-! ### the least common multiple -/
def lcF (ms : List Int) : Nat := ms.foldl (fun a m => Nat.lcm a m.toNat) 1
theorem lcF_take {ms : List Int} {i : Nat} {m : Int} (h : ms[i]? = some m) : lcF (ms.take (i + 1)) = Nat.lcm (lcF (ms.take i)) m.toNat := by
  unfold lcF
  rw [List.take_add_one, h, List.foldl_append]; rfl
theorem lcF_snoc (l : List Int) (m : Int) : lcF (l ++ [m]) = Nat.lcm (lcF l) m.toNat := by unfold lcF; rw [List.foldl_append]; rfl
theorem lcm_le (a b : Nat) : Nat.lcm a b ≤ a * b := by
  by_cases z : a * b = 0
  · rcases Nat.mul_eq_zero.mp z with z | z
    · rw [z, Nat.lcm_zero_left]; exact Nat.zero_le _
    · rw [z, Nat.lcm_zero_right]; exact Nat.zero_le _
  · exact Nat.le_of_dvd (Nat.pos_of_ne_zero z) (Nat.lcm_dvd (Nat.dvd_mul_right _ _) (Nat.dvd_mul_left _ _))
theorem lcF_pr {ms : List Int} : ∀ i, i ≤ ms.length → lcF (ms.take i) ≤ pr (ms.take i)
  | 0, _ => by rw [List.take_zero]; exact Nat.le_refl 1
  | i + 1, h => by
    have hm : ms[i]? = some ms[i] := List.getElem?_eq_getElem (by omega)
    rw [lcF_take hm, pr_take hm]
    exact Nat.le_trans (lcm_le _ _) (Nat.mul_le_mul_right _ (lcF_pr i (by omega)))
theorem lcF_pos {ms : List Int} (o : OkM ms) : ∀ i, i ≤ ms.length → 0 < lcF (ms.take i)
  | 0, _ => by rw [List.take_zero]; exact Nat.one_pos
  | i + 1, h => by
    have hm : ms[i]? = some ms[i] := List.getElem?_eq_getElem (by omega)
    rw [lcF_take hm]
    exact Nat.lcm_pos (lcF_pos o i (by omega)) (by have := o _ (List.getElem_mem (by omega : i < ms.length)); omega)
theorem pr_bound {ms : List Int} {B : Nat} (h : ∀ m ∈ ms, m.toNat ≤ 2 ^ B) : ∀ i, i ≤ ms.length → pr (ms.take i) ≤ 2 ^ (B * i)
  | 0, _ => by rw [List.take_zero]; exact Nat.le_refl 1
  | i + 1, hi => by
    have hm : ms[i]? = some ms[i] := List.getElem?_eq_getElem (by omega)
    rw [pr_take hm, Nat.mul_succ, Nat.pow_add]
    exact Nat.mul_le_mul (pr_bound h i (by omega)) (h _ (List.getElem_mem (by omega)))
theorem pr_take_le {ms : List Int} (o : OkM ms) (i : Nat) : pr (ms.take i) ≤ pr ms := by
  have h := pr_append (ms.take i) (ms.drop i)
  rw [List.take_append_drop] at h
  rw [h]
  exact Nat.le_mul_of_pos_right _ (pr_pos fun m hm => o m (List.mem_of_mem_drop hm))
/-- a prefix is worth the value's quotient -/
theorem psn_take {ms : List Int} (o : OkM ms) : ∀ {v : List Int}, Val ms v → ∀ {i : Nat} {m x : Int}, ms[i]? = some m → v[i]? = some x → psn (ms.take (i + 1)) (v.take (i + 1)) = psn (ms.take i) (v.take i) * m.toNat + x.toNat := by
  intro v hv
  induction ms generalizing v with
  | nil => intro i m x h; simp at h
  | cons k r ih =>
    match v, hv with
    | y :: v, hv =>
      intro i m x h1 h2
      cases i with
      | zero =>
        cases h1
        cases h2
        show y.toNat * pr ([] : List Int) + psn [] [] = 0 * _ + y.toNat
        show y.toNat * 1 + 0 = _
        omega
      | succ i =>
        have q := ih o.tl hv.2 (i := i) h1 h2
        show y.toNat * pr (r.take (i + 1)) + psn (r.take (i + 1)) (v.take (i + 1)) = (y.toNat * pr (r.take i) + psn (r.take i) (v.take i)) * m.toNat + x.toNat
        rw [q, pr_take (show r[i]? = some m from h1), Nat.add_mul, Nat.mul_assoc, Nat.add_assoc]
/-- the digits from the end -/
theorem dg_drop {ms : List Int} {i p : Nat} {m : Int} (h : ms[i]? = some m) : dg (ms.drop i) p = ((p / pr (ms.drop (i + 1)) % m.toNat : Nat) : Int) :: dg (ms.drop (i + 1)) p ∧ pr (ms.drop i) = m.toNat * pr (ms.drop (i + 1)) := by
  obtain ⟨hi, e⟩ := List.getElem?_eq_some_iff.mp h
  rw [List.drop_eq_getElem_cons hi, e]
  exact ⟨rfl, rfl⟩
end GT

set_option Elab.async false
set_option linter.all false
set_option maxRecDepth 100000
set_option maxHeartbeats 2000000
/-! comprehensions of tables; indices in lists of tuples -/
namespace GT
open PySem L2 Rd
theorem dpRowsP {K : PySem.W.Frag} {H : Hp} : ∀ {rs : List PySem.Addr} {t : List (List Int)}, Rows (fun H a xs => H a = some (.tup xs)) H rs t → DpAll K H (rs.map V.ref) (t.map iT)
  | [], [], _ => .nil
  | [], _ :: _, R => absurd R.len (by simp)
  | _ :: _, [], R => absurd R.len (by simp)
  | a :: rs, r :: t, R => .cons (dpT (SqT.of (R.row 0 a r rfl rfl))) (dpRowsP ⟨by have := R.len; simpa using this, fun i b q h1 h2 => R.row (i + 1) b q h1 h2⟩)
theorem lT_shaped (t : List (List Int)) : SeqAt.shaped (.list (t.map iT)) = true := by
  have h := depTT t
  show (PyData.canLay0 (.list (t.map iT)) && decide (PyData.depth (.list (t.map iT)) ≤ 64)) = true
  rw [Bool.and_eq_true]
  refine ⟨by simp only [PyData.canLay0]; exact layTT t, decide_eq_true ?_⟩
  simp only [PyData.depth]; omega
theorem indexLT {K : PySem.W.Frag} {H : Hp} {Q : VK} {a p : PySem.Addr} {rs : List PySem.Addr} {t : List (List Int)} {d : List Int} (hd : SqT K H a (d.map V.int)) (hp : H p = some (.lst (rs.map V.ref))) (R : Rows (fun H a xs => H a = some (.tup xs)) H rs t) (m : d ∈ t) (h : Q (.int (t.idxOf d : Nat)) H) : rIndexD K (.ref p) [.ref a] H Q := by
  have h1 : t.idxOf d < t.length := List.idxOf_lt_length_of_mem m
  refine ⟨p, .ref a, iT d, t.map iT, t.idxOf d, iT d, rfl, rfl, .lst (SqL.of hp) (dpRowsP R), dpT hd, lT_shaped t, iT_shaped d, ?_, by rw [iT_eqv]; exact decide_eq_true rfl, fun n z' hn hz => ?_, h⟩
  · rw [List.getElem?_map, List.getElem?_eq_getElem h1, List.getElem_idxOf h1]; rfl
  · have hn2 : n < t.length := by omega
    rw [List.getElem?_map, List.getElem?_eq_getElem hn2] at hz
    cases hz
    rw [iT_eqv]
    refine decide_eq_false fun e => ?_
    have := List.not_of_lt_findIdx (p := fun x => x == d) (xs := t) (i := n) hn
    rw [e] at this
    simp at this
section
variable {J : It} {xs : List V} {j : Nat} {te : TE} {vs : List Nat} {σ : L2.St} {H : Hp} {Qd : Addr → Hp → Prop}
/-- each element is a new list of new lists of ints -/
theorem lcTab (t : Nat → List (List Int)) (S : Src J xs H) (hz : xs.length ≤ 100000) (hw : ∀ x : V, wipe ((wipe σ vs).set j (some x)) vs = wipe σ vs)
    (hs : ∀ (n : Nat) (x : V) (H1 : Hp) (Q1 : VK), xs[n]? = some x → Same H H1 → (∀ (p : Addr) (as : List Addr) (H2 : Hp), H1 p = none → Same H1 H2 → H2 p = some (.lst (as.map V.ref)) → Rows LstN H2 as (t n) → (∀ a ∈ as, H1 a = none) → Q1 (.ref p) H2) → te ((wipe σ vs).set j (some x)) H1 Q1)
    (hq : ∀ (p : Addr) (as : List Addr) (H1 : Hp), H p = none → Same H H1 → H1 p = some (.lst (as.map V.ref)) → as.length = xs.length → (∀ (n : Nat) (a : Addr), as[n]? = some a → ∃ rs : List Addr, H1 a = some (.lst (rs.map V.ref)) ∧ Rows LstN H1 rs (t n)) → Qd p H1)
    (D : Addr) (hD : H D = none) :
    ∃ W : Nat → Nat → Hp → Prop, (∃ m, W 0 m (upd H D (.lst []))) ∧ ∀ i m H, W i m H →
      (J.stop i H ∧ Qd D H) ∨ (J.go i H ∧ ∃ Nx : Hp → Prop, (∀ H', Nx H' → ∃ m', m' < m ∧ W (i + 1) m' H') ∧ ∀ x H', J.yld i H x H' → gName j x (wipe σ vs) H' fun σ2 H2 => wipe σ2 vs = wipe σ vs ∧ tYes σ2 H2 fun b H3 =>
        if b = true then te σ2 H3 fun y H4 => ∃ acc, H4 D = some (.lst
              acc) ∧ acc.length < sizeLine ∧ Nx (upd H4 D (.lst (acc ++ [y]))) else Nx H3) := by
  refine ⟨fun i m H1 => m = xs.length - i ∧ i ≤ xs.length ∧ ∃ as : List Addr, as.length = i ∧ Same H H1 ∧ H1 D = some (.lst (as.map V.ref)) ∧ (∀ (n : Nat) (a : Addr), as[n]? = some a → a ≠ D ∧ ∃ rs : List Addr, H1 a = some (.lst (rs.map V.ref)) ∧ Rows LstN H1 rs (t n) ∧ ∀ r ∈ rs, r ≠ D),
    ⟨xs.length, rfl, Nat.zero_le _, [], rfl, same_mk hD, upd_same, fun n a h => by simp at h⟩, ?_⟩
  rintro i m H1 ⟨rfl, hi, as, rfl, e, hacc, ho⟩
  by_cases c : as.length < xs.length
  · refine .inr ⟨S.go H1 _ e c, fun H' => ∃ as' : List Addr, as'.length = as.length + 1 ∧ Same H H' ∧ H' D = some (.lst (as'.map V.ref)) ∧ (∀ (n : Nat) (a : Addr), as'[n]? = some a → a ≠ D ∧ ∃ rs : List Addr, H' a = some (.lst (rs.map V.ref)) ∧ Rows LstN H' rs (t n) ∧ ∀ r ∈ rs, r ≠ D),
      fun H' z => ⟨xs.length - (as.length + 1), by omega, rfl, c, z⟩, fun x H' y => ?_⟩
    obtain ⟨rfl, hx⟩ := S.yld H1 _ x H' e y
    refine ⟨hw x, ?_⟩
    refine tyes (iteT ?_)
    refine hs as.length x H' _ (hx c) e fun p rs H2 hp s2 h2 R hf => ?_
    have npD : p ≠ D := fun z => by rw [z, hacc] at hp; cases hp
    have nrD : ∀ r ∈ rs, r ≠ D := fun r hr z => by have := hf r hr; rw [z, hacc] at this; cases this
    have keep : ∀ {qs : List Addr} {u : List (List Int)} {o : HO}, Rows LstN H2 qs u → (∀ r ∈ qs, r ≠ D) → Rows LstN (upd H2 D o) qs u := fun {qs u o} R h => ⟨R.len, fun i a r h1 h2 => by
      have := R.row i a r h1 h2
      unfold LstN at this ⊢
      rw [upd_ne (h a (List.mem_of_getElem? h1))]
      exact this⟩
    refine ⟨_, s2 _ _ hacc, ?_, as ++ [p], by simp, same_mut (Same.trans e s2) hD, by rw [upd_same, List.map_append]; rfl, fun n a hn => ?_⟩
    · rw [List.length_map]
      exact Nat.lt_of_lt_of_le (by omega : as.length < 100000) (by decide)
    · by_cases q : n < as.length
      · rw [List.getElem?_append_left q] at hn
        obtain ⟨a3, rs', a1, R', nr⟩ := ho n a hn
        exact ⟨a3, rs', by rw [upd_ne a3]; exact s2 _ _ a1, keep (R'.sameL s2) nr, nr⟩
      · rw [List.getElem?_append_right (by omega)] at hn
        have q0 : n - as.length = 0 := by
          apply Classical.byContradiction
          intro z
          rw [List.getElem?_eq_none (by simp; omega)] at hn
          cases hn
        rw [q0] at hn
        cases hn
        have q1 : n = as.length := by omega
        rw [q1]
        exact ⟨npD, rs, by rw [upd_ne npD]; exact h2, keep R nrD, nrD⟩
  · have e1 : as.length = xs.length := by omega
    refine .inl ⟨?_, hq D as H1 hD e hacc e1 fun n a h => ?_⟩
    · rw [e1]; exact S.stop H1 e
    · obtain ⟨_, rs, h1, h2, _⟩ := ho n a h
      exact ⟨rs, h1, h2⟩
end
end GT

set_option Elab.async false
set_option linter.all false
set_option maxRecDepth 100000
set_option maxHeartbeats 2000000
/-! a method called where an except clause reads the slots -/
namespace Rd
open PySem PySem.Spec PyProof.Rows L2
section
variable {X : Cx} {x m : Str} {p pos apos : Pos} {e o : Expr} {es : List Expr} {ts : TA} {ta : TE} {k : Nat} {ps : List Str} {sp : Sp} {C f : Addr} {fd : FuncData}
/-- what a callee lets out, at these slots -/
def PassesAt (X : Cx) (E : L2.St → XK) : Prop := ∀ (pins : List (Addr × Obj)) (σ : L2.St) (H : Hp) (s : Shared) (e : Value) (s' : Shared), Inv X pins σ H s → L2.CX X.prog X.w X.stack H s (E σ) e s' → X.xe e s'
theorem passS {W : WX} (tk : Takes X W) : PassesAt X (fun σ cls d H' => W cls d σ H') := fun _ σ _ _ e s' I c => tk e s' (XE.of_call I (fun _ _ _ h => h) c)
theorem run_fnS {E : L2.St → XK} {pins : List (Addr × Obj)} {σ : L2.St} {H : Hp} {s : Shared} {Q : VK} {us : List Value} {vs : List V} (F : FnOk X.prog X.w X.K X.mg X.base (L2.CX X.prog X.w) k f fd ps sp) (hr : Room k X.A) (hb : Binds X.K fd ps []) (hx : PassesAt X E)
    (I : Inv X pins σ H s) (r : Vals vs us) (h : sp vs H Q (E σ)) : wpAny (model X.prog X.w) X.A (PySem.call (.ref f) us) (EP X pins σ Q) X.xe s := by
  have hl : us.length = ps.length := by rw [← r.length]; exact F.len _ _ _ _ h
  have b := hb s us I.kIn (by rw [List.append_nil]; exact hl)
  rw [List.append_nil] at b
  refine wpAny_call (codeAny_mono (F.run X.A X.stack s H ⟨us, []⟩ us vs Q (E σ) hr I.env0 b r h) fun r s' hq => ?_)
  cases r with
  | error e => exact hx pins σ H s e s' I hq
  | ok fl =>
    cases fl with
    | ret u => exact I.after hq
    | next => exact False.elim hq
    | brk => exact False.elim hq
    | cont => exact False.elim hq
theorem methS {E : L2.St → XK} {pl : Sem Bool} (M : MOk X.prog X.w X.K X.mg X.base (L2.CX X.prog X.w) C m k ps sp) (hr : Room k X.A) (hx : PassesAt X E) (he : PE X o ta) (ha : PA X (e :: es) ts)
    (hst : starEach (e :: es) X.env = (false, eval e X.env) :: starEach es X.env := by rfl) (hpl : (backTo pos (starEach es X.env)).any (·.1) = false := by rfl)
    (ht : eval (.Call (.Attribute o m apos) (e :: es) [] pos) X.env = (do
      let ov ← eval o X.env
      standAt apos.atName
      let (f, first) ← holding [ov] (getMethod ov m pl)
      callWith pos f first (backTo pos (starEach (e :: es) X.env)) (backToKw pos (keywordEach [] X.env))) := by rfl) :
    PE X (.Call (.Attribute o m apos) (e :: es) [] pos) (fun σ H Q => tMeth C m sp [] (E σ) ta ts σ H Q) := by
  obtain ⟨f, fd, hm, F, hb⟩ := M.ok
  refine ⟨fun pins s σ H Q I h => ?_⟩
  refine PySem.W.methodCall_KW (pl := pl) (thn (he.run pins s σ H _ I h) fun u s1 ⟨x, H1, I1, rx, a, dx, fs, ex, ea, l, q⟩ => ?_) ht
  subst ex
  obtain rfl : u = Value.ref a := rx
  refine getmeth_ok I1 ea M.cl hm l ?_
  refine PySem.W.callWith_K (first := [.ref a]) (h₀ := X.base) I.ok.mod.kin hm.kp (thn (ha.run pos pins s1 σ H1 _ I1 q) fun us s2 ⟨vs, H2, I2, r, q2⟩ => ⟨I2.kIn, ?_⟩) hst hpl
  have q2 : sp (V.ref a :: (vs ++ [])) H2 Q (E σ) := q2
  rw [List.append_nil] at q2
  exact run_fnS (us := .ref a :: us) (vs := .ref a :: vs) F hr hb hx I2 (.cons rfl r) q2
end
end Rd

set_option Elab.async false
set_option linter.all false
/-! enumerate of a list, by an invariant -/
namespace Rd
open PySem PySem.Spec PyProof.Rows L2
theorem for_enumL {K : PySem.W.Frag} {a : Addr} {xs : List V} {g : TG} {tb : TS} {D : Ends} {σ : L2.St} {H : Hp} (Pv : Nat → L2.St → Hp → Prop) (h0 : Pv 0 σ H) (hl : ∀ i σ H, Pv i σ H → SqL K H a xs)
    (hs : ∀ (i : Nat) (x : V) (T : Addr) (σ : L2.St) (H : Hp), xs[i]? = some x → Pv i σ H → H T = none → g (.ref T) σ (upd H T (.tup [.int (i : Nat), x])) fun σ2 H2 => tb { D with nx := Pv (i + 1), ct := Pv (i + 1), bk := D.nx } σ2 H2) (hd : ∀ σ H, Pv xs.length σ H → D.nx σ H) :
    ∃ W : Nat → Nat → L2.St → Hp → Prop, (∃ m, W 0 m σ H) ∧ ∀ i m σ H, W i m σ H →
      ((Ite K a).stop i H ∧ D.nx σ H) ∨ ((Ite K a).go i H ∧ ∃ N : L2.St → Hp → Prop, (∀ σ' H', N σ' H' → ∃ m', m' < m ∧ W (i + 1) m' σ' H') ∧ ∀ x H', (Ite K a).yld i H x H' → g x σ H' fun σ2 H2 => tb { D with nx := N, ct := N, bk := D.nx } σ2 H2) := by
  refine ⟨fun i m σ H => m = xs.length - i ∧ i ≤ xs.length ∧ Pv i σ H, ⟨xs.length, by simp, Nat.zero_le _, h0⟩, ?_⟩
  rintro i m σ H ⟨rfl, hi, p⟩
  have q := hl i σ H p
  by_cases hlt : i < xs.length
  · refine .inr ⟨⟨xs, xs[i], q, by simp [hlt]⟩, Pv (i + 1), fun σ' H' p' => ⟨xs.length - (i + 1), by omega, rfl, hlt, p'⟩, fun x H' y => ?_⟩
    obtain ⟨T, x', rfl, hT, rfl, y⟩ := y
    exact hs i x' T σ H (y xs q) p hT
  · have e : i = xs.length := by omega
    subst e
    exact .inl ⟨⟨xs, q, Nat.le_refl _⟩, hd σ H p⟩
end Rd
namespace Rk
open PySem PySem.Spec PyProof.Rows L2
theorem minL {X : Cx} (K : PySem.W.Frag) (h : X.K = K := by rfl) (hc : X.calm = true) : CallR X (.builtin "min") (rMin K) := h ▸ cr_min hc
theorem maxL {X : Cx} (K : PySem.W.Frag) (h : X.K = K := by rfl) (hc : X.calm = true) : CallR X (.builtin "max") (rMax K) := h ▸ cr_max hc
end Rk

set_option Elab.async false
set_option linter.all false
set_option maxRecDepth 100000
set_option maxHeartbeats 2000000
/-! defs with a star, called by positions -/
namespace Rd
open PySem PySem.Spec PyProof.Rows L2
/-- the slots with one set, as a plain list -/
inductive SetR : L2.St → Nat → Option V → L2.St → Prop
  | zero {a x : Option V} {l : L2.St} : SetR (a :: l) 0 x (x :: l)
  | succ {a x : Option V} {l l' : L2.St} {n : Nat} : SetR l n x l' → SetR (a :: l) (n + 1) x (a :: l')
theorem SetR.eq {σ σ' : L2.St} {n : Nat} {x : Option V} (h : SetR σ n x σ') : σ' = σ.set n x := by
  induction h with
  | zero => rfl
  | succ _ ih => rw [ih]; rfl
theorem nmR {n : Nat} {v : V} {σ σ' : L2.St} {H : Hp} {P : L2.St → Hp → Prop} (r : SetR σ n (some v) σ') (h : P σ' H) : gName n v σ H P := by
  rw [r.eq] at h
  exact h
structure DOkR (P : Program) (w : World) (K : PySem.W.Frag) (mg : Str → Option Value) (base : Heap) (CX : CXT) (x : Str) (k : Nat) (sp : Sp) : Prop where
  ok : ∃ f, FnR P w K mg base CX k f sp ∧ mg x = some (.ref f) ∧ PySem.W.keepIn K (.ref f) = true
section
variable {X : Cx} {x : Str} {p pos : Pos} {e : Expr} {es : List Expr} {ts : TA} {k : Nat} {sp : Sp} {CX : CXT} {E : XK}
theorem callXR (D : DOkR X.prog X.w X.K X.mg X.base CX x k sp) (hr : Room k X.A) (hx : Passes CX X E) (ha : PA X (e :: es) ts) (hg : Gl X x := by rfl) (hdb : (x == ("__debug__" : Str)) = false := by decide)
    (he : starEach (e :: es) X.env = (false, eval e X.env) :: starEach es X.env := by rfl) (hpl : (backTo pos (starEach es X.env)).any (·.1) = false := by rfl) :
    PE X (.Call (.Name x p) (e :: es) [] pos) (tCall sp [] E ts) := by
  obtain ⟨f, F, hm, hk⟩ := D.ok
  refine ⟨fun pins s σ H Q I h => ?_⟩
  refine wpAny_Call_Name_kw (ld_glob I hg hm ?_ hdb)
  refine PySem.W.callWith_K (h₀ := X.base) I.ok.mod.kin hk (thn (ha.run pos pins s σ H _ I h) fun us s1 ⟨vs, H1, I1, r, q⟩ => ⟨I1.kIn, ?_⟩) he hpl
  have q2 : sp (vs ++ []) H1 Q E := q
  rw [List.append_nil] at q2
  exact wpAny_call (run_fnR F hr hx I1 r q2)
theorem callXR0 (D : DOkR X.prog X.w X.K X.mg X.base CX x k sp) (hr : Room k X.A) (hx : Passes CX X E) (hg : Gl X x := by rfl) (hdb : (x == ("__debug__" : Str)) = false := by decide) :
    PE X (.Call (.Name x p) [] [] pos) (tCall sp [] E tNil) := by
  obtain ⟨f, F, hm, hk⟩ := D.ok
  refine ⟨fun pins s σ H Q I h => ?_⟩
  refine wpAny_Call_Name_kw (ld_glob I hg hm ?_ hdb)
  exact PySem.W.callWith_K0 I.kIn hk (wpAny_call (run_fnR (us := []) F hr hx I .nil h))
end
/-- THE RULE for def f(a, .., *v) -/
theorem _root_.L2.FunD.okStar {P : Program} {w : World} {K : PySem.W.Frag} {mg : Str → Option Value} {base : Heap} {x qual : Str} {params : Arguments} {body : List Stmt} {scope : Scope} {f : Addr} {fd : FuncData} {CX : CXT} {N ps : List Str} {pv : Str} {k : Nat} {sp : Sp}
    (F : FunD K x qual params body scope [] [] f fd) (S : FnScope N (ps ++ [pv]) scope) (hCX : StX.CXUp CX)
    (hb : ∀ (kV doc pm : Value) (an : Option Addr) (cdv ct : Value) (us rest : List Value), us.length = ps.length → bindArgs (PySem.W.fnOf x qual params body scope .none kV doc pm an cdv ct) ⟨us ++ rest, []⟩ = (newTuple rest >>= fun t => pure (ps.zip us ++ [(pv, t)])))
    (hbody : ∀ (cdv : Value) (A : Around) (outer : List Env) (s : Shared) (H : Hp) (vs : List V) (Q : VK) (E : XK), Room k (A.deeper (envOfC qual scope s.heap.objs.size f cdv)) → sp vs H Q E →
      ∃ t, PSs (cxOf CX P w K mg base N qual scope f cdv A outer s H E) body t ∧ t { nx := fun _ H' => Q .non H', rt := Q } (start N vs) H) :
    FnR P w K mg base CX (k + 1) f (fun vs H Q E => ∃ ws rest, vs = ws ++ rest ∧ ws.length = ps.length ∧ rest.length ≤ sizeLine ∧ ∀ p, H p = Option.none → sp (ws ++ [V.ref p]) (upd H p (.tup rest)) Q E) := by
  obtain ⟨oc, od, dV, kV, doc, pm, an, cdv, ct, osl, rfl, lk, hcd, hD, hK⟩ := F.ex
  rcases hD with ⟨_, rfl⟩ | ⟨e, _⟩
  · exact StX.fn_star lk hcd S hCX (fun us rest hl => hb kV doc pm an cdv ct us rest hl) fun A outer s H vs Q E hr hsp => hbody cdv A outer s H vs Q E hr hsp
  · exact absurd rfl e
section
variable {te : TE} {σ : L2.St} {H : Hp}
/-- [f for x in xs for y in ys], the second list the same at each turn -/
theorem lc2Map {J J1 : It} {xs ys : List V} {j j1 : Nat} {wi1 : TI} {vs vs1 : List Nat} {Qd : Addr → Hp → Prop} (f : Nat → Nat → V) (S : Src J xs H) (S1 : Src J1 ys H) (hz : xs.length * ys.length ≤ 100000) (hw : ∀ x : V, wipe ((wipe σ vs).set j (some x)) vs = wipe σ vs)
    (hw1 : ∀ x y : V, wipe ((wipe ((wipe σ vs).set j (some x)) vs1).set j1 (some y)) vs1 = wipe ((wipe σ vs).set j (some x)) vs1)
    (h1 : ∀ (x : V) (H1 : Hp) (R : It → Hp → Prop), Same H H1 → R J1 H1 → wi1 ((wipe σ vs).set j (some x)) H1 R)
    (hs : ∀ (i k : Nat) (x y : V) (H1 : Hp) (Q1 : VK), xs[i]? = some x → ys[k]? = some y → Same H H1 → (∀ H2, Same H1 H2 → Q1 (f i k) H2) → te ((wipe ((wipe σ vs).set j (some x)) vs1).set j1 (some y)) H1 Q1)
    (hq : ∀ (p : Addr) (H1 : Hp), H p = none → Same H H1 → H1 p = some (.lst ((List.range (xs.length * ys.length)).map fun n => f (n / ys.length) (n % ys.length))) → Qd p H1)
    (D : Addr) (hD : H D = none) :
    ∃ W : Nat → Nat → Hp → Prop, (∃ m, W 0 m (upd H D (.lst []))) ∧ ∀ i m H, W i m H →
      (J.stop i H ∧ Qd D H) ∨ (J.go i H ∧ ∃ Nx : Hp → Prop, (∀ H', Nx H' → ∃ m', m' < m ∧ W (i + 1) m' H') ∧ ∀ x H', J.yld i H x H' → gName j x (wipe σ vs) H' fun σ2 H2 => wipe σ2 vs = wipe σ vs ∧ tYes σ2 H2 fun b H3 =>
    if b = true then wi1 σ2 H3 fun J1 H4 => ∃ W1 : Nat → Nat → Hp → Prop, (∃ m, W1 0 m H4) ∧ ∀ j k H, W1 j k H →
      (J1.stop j H ∧ Nx H) ∨ (J1.go j H ∧ ∃ Nx1 : Hp → Prop, (∀ H', Nx1 H' → ∃ k', k' < k ∧ W1 (j + 1) k' H') ∧ ∀ x H', J1.yld j H x H' → gName j1 x (wipe σ2 vs1) H' fun σ3 H5 => wipe σ3 vs1 = wipe σ2 vs1 ∧ tYes σ3 H5 fun b H6 =>
        if b = true then te σ3 H6 fun y H7 => ∃ acc, H7 D = some (.lst acc) ∧ acc.length < sizeLine ∧ Nx1 (upd H7 D (.lst (acc ++ [y]))) else Nx1 H6)
    else Nx H3) := by
  have g : ∀ n, Nat → V := fun n i => f (i / n) (i % n)
  refine ⟨fun i q H1 => q = xs.length - i ∧ i ≤ xs.length ∧ Same H H1 ∧ H1 D = some (.lst ((List.range (i * ys.length)).map fun n => f (n / ys.length) (n % ys.length))),
    ⟨xs.length, rfl, Nat.zero_le _, same_mk hD, by rw [Nat.zero_mul]; exact upd_same⟩, ?_⟩
  rintro i q H1 ⟨rfl, hi, e, hacc⟩
  by_cases c : i < xs.length
  · refine .inr ⟨S.go H1 _ e c, fun H' => Same H H' ∧ H' D = some (.lst ((List.range ((i + 1) * ys.length)).map fun n => f (n / ys.length) (n % ys.length))),
      fun H' z => ⟨xs.length - (i + 1), by omega, rfl, c, z⟩, fun x H' y => ?_⟩
    obtain ⟨rfl, hx⟩ := S.yld H1 _ x H' e y
    refine ⟨hw x, ?_⟩
    refine tyes (iteT ?_)
    refine h1 x H' _ e ?_
    refine ⟨fun k q H2 => q = ys.length - k ∧ k ≤ ys.length ∧ Same H H2 ∧ H2 D = some (.lst ((List.range (i * ys.length + k)).map fun n => f (n / ys.length) (n % ys.length))),
      ⟨ys.length, rfl, Nat.zero_le _, e, hacc⟩, ?_⟩
    rintro k q H2 ⟨rfl, hk, e, hacc⟩
    by_cases ck : k < ys.length
    · refine .inr ⟨S1.go H2 _ e ck, fun H' => Same H H' ∧ H' D = some (.lst ((List.range (i * ys.length + (k + 1))).map fun n => f (n / ys.length) (n % ys.length))),
        fun H' z => ⟨ys.length - (k + 1), by omega, rfl, ck, z⟩, fun y H' yy => ?_⟩
      obtain ⟨rfl, hy⟩ := S1.yld H2 _ y H' e yy
      refine ⟨hw1 x y, ?_⟩
      refine tyes (iteT ?_)
      refine hs i k x y H' _ (hx c) (hy ck) e fun H3 s3 => ?_
      have lm : i * ys.length + ys.length ≤ xs.length * ys.length := by
        have := Nat.mul_le_mul_right ys.length (show i + 1 ≤ xs.length from c)
        rw [Nat.add_mul, Nat.one_mul] at this
        exact this
      have d1 : (i * ys.length + k) / ys.length = i := by
        rw [Nat.add_comm, Nat.add_mul_div_right _ _ (by omega), Nat.div_eq_of_lt ck, Nat.zero_add]
      have d2 : (i * ys.length + k) % ys.length = k := by
        rw [Nat.add_comm, Nat.add_mul_mod_self_right, Nat.mod_eq_of_lt ck]
      refine ⟨_, s3 _ _ hacc, ?_, same_mut (Same.trans e s3) hD, ?_⟩
      · rw [List.length_map, List.length_range]
        exact Nat.lt_of_lt_of_le (by omega : i * ys.length + k < 100000) (by decide)
      · rw [upd_same, ← Nat.add_assoc, List.range_succ, List.map_append, List.map_singleton, d1, d2]
    · have ek : k = ys.length := by omega
      subst ek
      refine .inl ⟨S1.stop H2 e, e, ?_⟩
      rw [hacc, Nat.add_mul, Nat.one_mul]
  · have e1 : i = xs.length := by omega
    subst e1
    exact .inl ⟨S.stop H1 e, hq D H1 hD e hacc⟩
end
end Rd

set_option Elab.async false
set_option linter.all false
set_option maxRecDepth 100000
set_option maxHeartbeats 2000000
/-! own +, -, *, unary -, static methods -/
namespace Rd
open PySem PySem.Spec PyProof.Rows L2
/-- an own operator's method of the class at C -/
structure BinOk (P : Program) (w : World) (K : PySem.W.Frag) (mg : Str → Option Value) (base : Heap) (CX : CXT) (C : Addr) (dn : Str) (k : Nat) (ps : List Str) (sp : Sp) : Prop where
  ok : ∃ f fd, PySem.W.findIn K (.ref C) dn = some (some (.ref f)) ∧ PySem.W.isFn K (.ref f) = true ∧ FnOk P w K mg base CX k f fd ps sp ∧ Binds K fd ps []
  first : PySem.W.selfFirst K C = true
section
variable {X : Cx} {CX : CXT} {C : Addr} {k : Nat} {ps : List Str} {sp : Sp} {E : XK} {op : Operator}
theorem op_insBin (M : BinOk X.prog X.w X.K X.mg X.base CX C (PySem.dunder op.info.2) k ps sp) (hr : Room k X.A) (hx : Passes CX X E) : OpR X (binaryOp op) (rInsEq C sp E) := by
  intro pins s σ H x y v u Q I rx ry ⟨a, dx, fs, b, dy, gs, ex, ey, ha, hb, q⟩
  obtain ⟨f, fd, find, fn, F, bi⟩ := M.ok
  subst ex ey
  obtain rfl : v = Value.ref a := rx
  obtain rfl : u = Value.ref b := ry
  obtain ⟨_, ja, _⟩ := ins_get I.hok ha
  obtain ⟨_, jb, _⟩ := ins_get I.hok hb
  obtain ⟨_, la, _⟩ := ja.look
  obtain ⟨_, lb, _⟩ := jb.look
  obtain ⟨_, fr⟩ := I.fr
  refine PySem.W.binop_K fr I.ok.mod.kin la lb.type M.first find fn ?_
  refine wpAny_mono (run_fn (us := [.ref a, .ref b]) (vs := [.ref a, .ref b]) F hr bi .nil hx I (.cons rfl (.cons rfl .nil)) q) ?_ (fun _ _ z => z)
  rintro w2 s2 ⟨z, H2, I2, rz, qz⟩
  exact SlX.cmpback rz ⟨z, H2, I2, rz, qz⟩
/-- o * n -/
def rInsInt (C : Addr) (sp : Sp) (E : XK) : R2 := fun x y H Q => ∃ a dx fs i, x = .ref a ∧ y = .int i ∧ H a = some (.ins C dx fs) ∧ sp [x, y] H Q E
theorem op_insInt {fo ro rc : Option Value} (M : BinOk X.prog X.w X.K X.mg X.base CX C (PySem.dunder op.info.2) k ps sp) (hr : Room k X.A) (hx : Passes CX X E)
    (hrc : PySem.W.findIn X.K (.ref C) (dunderR op.info.2) = some rc) (hp : rc = none ∨ ∃ g : Addr, rc = some (.ref g))
    (h1 : PySem.W.findIn X.K (.type "int") (PySem.dunder op.info.2) = some fo) (h2 : PySem.W.findIn X.K (.type "int") (dunderR op.info.2) = some ro) (hsub : PySem.W.subIn X.K (.type "int") (.ref C) = some false) : OpR X (binaryOp op) (rInsInt C sp E) := by
  intro pins s σ H x y v u Q I rx ry ⟨a, dx, fs, i, ex, ey, ha, q⟩
  obtain ⟨f, fd, find, fn, F, bi⟩ := M.ok
  subst ex ey
  obtain rfl : v = Value.ref a := rx
  obtain ⟨t, rfl⟩ := ry
  obtain ⟨_, ja, _⟩ := ins_get I.hok ha
  obtain ⟨_, la, _⟩ := ja.look
  obtain ⟨_, fr⟩ := I.fr
  refine PySem.W.ksp_binT fr I.ok.mod.kin la rfl M.first find fn hrc hp h1 h2 hsub ?_
  refine wpAny_mono (run_fn (us := [.ref a, .int i t]) (vs := [.ref a, .int i]) F hr bi .nil hx I (.cons rfl (.cons ⟨t, rfl⟩ .nil)) q) ?_ (fun _ _ z => z)
  rintro w2 s2 ⟨z, H2, I2, rz, qz⟩
  exact SlX.cmpback rz ⟨z, H2, I2, rz, qz⟩
/-- -o -/
def rInsNeg (C : Addr) (sp : Sp) (E : XK) : V → Hp → VK → Prop := fun x H Q => ∃ a dx fs, x = .ref a ∧ H a = some (.ins C dx fs) ∧ sp [x] H Q E
theorem un_insNeg (M : BinOk X.prog X.w X.K X.mg X.base CX C "__neg__" k ps sp) (hr : Room k X.A) (hx : Passes CX X E) : UnR X (unaryOp .USub) (rInsNeg C sp E) := by
  intro pins s σ H x v Q I rx ⟨a, dx, fs, ex, ha, q⟩
  obtain ⟨f, fd, find, fn, F, bi⟩ := M.ok
  subst ex
  obtain rfl : v = Value.ref a := rx
  obtain ⟨_, ja, _⟩ := ins_get I.hok ha
  obtain ⟨_, la, _⟩ := ja.look
  obtain ⟨_, fr⟩ := I.fr
  refine PySem.W.ksp_neg fr I.ok.mod.kin la find fn ?_
  exact run_fn (us := [.ref a]) (vs := [.ref a]) F hr bi .nil hx I (.cons rfl .nil) q
end
/-- a static method of the class at C -/
structure StatOk (P : Program) (w : World) (K : PySem.W.Frag) (mg : Str → Option Value) (base : Heap) (CX : CXT) (C : Addr) (m : Str) (k : Nat) (ps : List Str) (sp : Sp) : Prop where
  rd : PySem.W.readsIn K C (.type "type") = true
  ga : PySem.W.specialIn K (.ref C) "__getattribute__" = some (some (.builtin "type.__getattribute__"))
  ok : ∃ f fd p rest, PySem.W.findCls K (.ref C) (.type "type") m = some (.get (.builtin "staticmethod.__get__") (.ref p) .none (.ref C)) ∧ PySem.W.recIn K p "staticmethod" = some (.ref f :: rest) ∧
    FnOk P w K mg base CX k f fd ps sp ∧ PySem.W.keepIn K (.ref f) = true ∧ Binds K fd ps []
def tStat (C : Addr) (sp : Sp) (E : XK) (ta : TE) (t : TA) : TE := fun σ H Q => ta σ H fun x H1 => x = .ref C ∧ t σ H1 fun vs H2 => sp vs H2 Q E
theorem statX {X : Cx} {CX : CXT} {C : Addr} {m : Str} {k : Nat} {ps : List Str} {sp : Sp} {E : XK} {o e : Expr} {es : List Expr} {pos apos : Pos} {ta : TE} {t : TA} {pl : Sem Bool}
    (S : StatOk X.prog X.w X.K X.mg X.base CX C m k ps sp) (hr : Room k X.A) (hx : Passes CX X E) (he : PE X o ta) (ha : PA X (e :: es) t)
    (hst : starEach (e :: es) X.env = (false, eval e X.env) :: starEach es X.env := by rfl) (hpl : (backTo pos (starEach es X.env)).any (·.1) = false := by rfl)
    (ht : eval (.Call (.Attribute o m apos) (e :: es) [] pos) X.env = (do
      let ov ← eval o X.env
      standAt apos.atName
      let (f, first) ← holding [ov] (getMethod ov m pl)
      callWith pos f first (backTo pos (starEach (e :: es) X.env)) (backToKw pos (keywordEach [] X.env))) := by rfl) :
    PE X (.Call (.Attribute o m apos) (e :: es) [] pos) (tStat C sp E ta t) := by
  obtain ⟨f, fd, p, rest, hc, hp, F, hk, hb⟩ := S.ok
  refine ⟨fun pins s σ H Q I h => ?_⟩
  refine PySem.W.methodCall_KW (pl := pl) (thn (he.run pins s σ H _ I h) fun u s1 ⟨x, H1, I1, rx, ex, q⟩ => ?_) ht
  subst ex
  obtain rfl : u = Value.ref C := rx
  refine PySem.W.method_cls I1.kIn S.ga ?_
  refine PySem.W.cls_bind I1.kIn S.rd hc (wpAny_call (PySem.W.sm_get (s := { s1 with toks := s1.toks + 1 }) I1.kIn hp (PySem.W.handed_on rfl ?_)))
  have I2 : Inv X pins σ H1 { s1 with toks := s1.toks + 1 } := I1.tok _
  refine PySem.W.callWith_K (h₀ := X.base) I2.ok.mod.kin hk (thn (ha.run pos pins _ σ H1 _ I2 q) fun us s3 ⟨vs, H2, I3, r, q2⟩ => ⟨I3.kIn, ?_⟩) hst hpl
  exact run_fn F hr hb .nil hx I3 r (by rw [List.append_nil]; exact q2)
theorem stat {C : Addr} {sp : Sp} {E : XK} {ta : TE} {t : TA} {σ : L2.St} {H : Hp} {Q : VK} (h : ta σ H fun x H1 => x = .ref C ∧ t σ H1 fun vs H2 => sp vs H2 Q E) : tStat C sp E ta t σ H Q := h
end Rd

namespace Rd
open PySem PySem.Spec PyProof.Rows L2 Rz
/-- sum of a tuple of ints -/
def rSumT (K : PySem.W.Frag) : List V → Hp → VK → Prop := fun vs H Q => ∃ (a : Addr) (ns : List Int), vs = [V.ref a] ∧ SqT K H a (ns.map V.int) ∧ Q (.int ns.sum) H
theorem cr_sumT {X : Cx} (hc : X.calm = true) : CallR X (.builtin "sum") (rSumT X.K) := by
  intro pins s σ H vs us Q I r h
  obtain ⟨a, ns, rfl, hs, q⟩ := h
  obtain ⟨its, rv, hl, _⟩ := seqOf (k := .T) I hs
  rw [Vals.ref1 r]
  have hi := rv.ints
  have hl : s.heap.IsTuple a its.toArray := hl
  obtain ⟨xs, e⟩ := hi.allInts.items
  have hn : numsOf (intItems xs).toList = ns := by rw [← e]; exact hi.numsOf
  rw [nums_intItems] at hn
  rw [e] at hl
  refine PySem.W.ktm_sumG (I.ok.hd hc) hl fun h' tk t' hk => ?_
  have q' : EP X pins σ Q (.int ns.sum t') { s with heap := h', toks := tk } := ⟨.int _, H, I.kept hk, ⟨_, rfl⟩, q⟩
  rw [preSum_eq, List.take_of_length_le (by simp), hn]; exact q'
theorem sumT {X : Cx} (K : PySem.W.Frag) (h : X.K = K := by rfl) (hc : X.calm = true) : CallR X (.builtin "sum") (rSumT K) := h ▸ cr_sumT hc
end Rd
namespace Rk
theorem sumT {X : L2.Cx} (K : PySem.W.Frag) (h : X.K = K := by rfl) (hc : X.calm = true) : L2.CallR X (.builtin "sum") (Rd.rSumT K) := Rd.sumT K h hc
end Rk

set_option Elab.async false
set_option linter.all false
set_option maxRecDepth 100000
set_option maxHeartbeats 2000000
/-! != by an own == -/
namespace Rd
open PySem PySem.Spec PyProof.Rows L2 PySem.W
section
variable {prog : Program} {w : World} {A : Around} {E : Value → Shared → Prop} {s : Shared} {K : Frag} {x C L f : Addr} {h₀ : Heap} {m : Str → Option Value} {ox : Obj} {od : Option Obj} {b : Value}
theorem objNe (hu : A.units < cLine) (X : K.In s.heap) (I : InstAt s.heap x ox C od) (hs : findIn K (.ref C) "__eq__" = some (some (.ref f))) (hf : isFn K (.ref f) = true) {Q : Fin → Shared → Prop}
    (h : wpAny (model prog w) A (PySem.call (.ref f) [.ref x, b]) (fun v s' => ∃ r, v = .bool r ∧ Q (.done (.ret (.bool (!r)))) s') E s) :
    wpAny (model prog w) A (Builtin.«object.__ne__» ⟨[.ref x, b], []⟩) Q E s := by
  unfold Builtin.«object.__ne__»
  repeat (first
    | with_reducible refine wpAny_cRoomFor hu ?_
    | (refine wpAny_bind (m := callSpecialIfBound? (.ref x) (Str.ofString "__eq__") [b]) (ifBound_K X I hs hf (wpAny_mono h (fun r s' hr => ?_) fun _ _ e => e)))
    | wp_step)
  obtain ⟨b, rfl, hq⟩ := hr
  repeat (first | exact hq | exact wpAny_pure hq | exact wpAny_truthy_bool hq | (refine wpAny_bind (m := truthy (.bool _)) (wpAny_truthy_bool ?_)) | wp_step)
theorem ne_K (hu : A.units + 1 < cLine) (F : Fr h₀ L s.heap m) (X₀ : K.In h₀) (I : InstAt s.heap x ox C od) (hb : Looks (model prog w) s.heap (typeOf b) (.ref C))
    (hs : findIn K (.ref C) "__eq__" = some (some (.ref f))) (hf : isFn K (.ref f) = true) (hn : findIn K (.ref C) "__ne__" = some (some (.builtin "object.__ne__"))) (hm : mroIn K C (.type "object") = some true) {Q : Value → Shared → Prop}
    (h : wpAny (model prog w) A.in1 (PySem.call (.ref f) [.ref x, b]) (fun v s' => ∃ r, v = .bool r ∧ Q (.bool (!r)) s') E s) : wpAny (model prog w) A (richCompare .NotEq (.ref x) b) Q E s := by
  have X := X₀.keeps F.keep
  have inst : Looks (model prog w) s.heap (isInstance (.ref x) (.type "object")) true := I.type.andThen (looks_mroIn X hm)
  have one : wpAny (model prog w) A (tryCompare (.ref x) "__ne__" b) (fun r s' => ∃ v, r = some v ∧ Q v s') E s := by
    unfold tryCompare
    refine wpAny_bind ?_
    simp only [callSpecialIfBound?, bindSpecialIfBound?]
    refine wpAny_holding (wpAny_bind (wpAny_bind (wpAny_bind (I.type.here ((looks_findIn X hn).here ?_)))))
    simp only [PySem.F.cmp_object.ne.bind]
    refine wpAny_bind (wpAny_askSetting (wpAny_ite ?_))
    have fin : wpAny (model prog w) A (PySem.call (.builtin "object.__ne__") ([.ref x] ++ [b]) >>= fun v => pure (some v)) (fun a s' => wpAny (model prog w) A (match a with | some .notImplemented | none => pure none | some v => pure (some v)) (fun r s' => ∃ v, r = some v ∧ Q v s') E s') E s := by
      refine wpAny_bind (wpAny_call (codeAny_call_builtin PySem.F.cmp_object.ne.plain PySem.F.cmpEntry_ne (check_slot PySem.F.cmpKind_ne PySem.F.cmpSplit_ne inst (PySem.F.cmpArgs_ne _ _) ?_)))
      refine objNe (A := A.in1) hu X I hs hf (wpAny_mono h (fun v s' hv => ?_) fun _ _ e => e)
      obtain ⟨r, rfl, hq⟩ := hv
      exact ⟨r, rfl, wpAny_pure (wpAny_pure ⟨_, rfl, hq⟩)⟩
    split
    · exact wpAny_bind (wpAny_pure (wpAny_pure fin))
    · exact wpAny_tryCatch (wpAny_bind (wpAny_pure (wpAny_pure fin)))
  unfold richCompare
  simp only [oneThing_ref]
  refine wpAny_holding (wpAny_bind (wpAny_cRoomFor (Nat.lt_of_succ_lt hu) ?_))
  rw [cmpInfo_NotEq]
  dsimp only
  refine wpAny_bind (I.type.here (wpAny_bind (hb.here ?_)))
  rw [show (Value.ref C != Value.ref C) = false from by simp]
  simp only [Bool.false_eq_true, if_false]
  refine wpAny_bind (wpAny_pure ?_)
  simp only [Bool.false_eq_true, if_false]
  refine wpAny_bind (wpAny_mono one (fun r s' z => ?_) fun _ _ e => e)
  obtain ⟨v, rfl, hq⟩ := z
  exact wpAny_pure hq
end
/-- != of two instances of C, which has an own ==; sp: what == gives, turned round -/
def rInsNe (C : Addr) (sp : Sp) (E : XK) : R2 := fun x y H Q => ∃ a dx fs b dy gs, x = .ref a ∧ y = .ref b ∧ H a = some (.ins C dx fs) ∧ H b = some (.ins C dy gs) ∧ sp [x, y] H (fun v H2 => ∃ c, v = .bl c ∧ Q (.bl (!c)) H2) E
theorem op_insNe {X : Cx} {CX : CXT} {C : Addr} {k : Nat} {ps : List Str} {sp : Sp} {E : XK} (M : EqOk X.prog X.w X.K X.mg X.base CX C k ps sp) (hn : findIn X.K (.ref C) "__ne__" = some (some (.builtin "object.__ne__"))) (hm : mroIn X.K C (.type "object") = some true) (hr : Room (k + 1) X.A) (hx : Passes CX X E) : OpR X (compareOp .NotEq) (rInsNe C sp E) := by
  intro pins s σ H x y v u Q I rx ry ⟨a, dx, fs, b, dy, gs, ex, ey, ha, hb, q⟩
  obtain ⟨f, fd, find, fn, F, bi⟩ := M.ok
  subst ex ey
  obtain rfl : v = Value.ref a := rx
  obtain rfl : u = Value.ref b := ry
  obtain ⟨_, ja, _⟩ := ins_get I.hok ha
  obtain ⟨_, jb, _⟩ := ins_get I.hok hb
  obtain ⟨_, la, _⟩ := ja.look
  obtain ⟨_, lb, _⟩ := jb.look
  obtain ⟨_, fr⟩ := I.fr
  show wpAny _ X.A (richCompare .NotEq (.ref a) (.ref b)) _ _ _
  refine ne_K (by have := hr.un; omega) fr I.ok.mod.kin la lb.type find fn hn hm ?_
  have hl : ([Value.ref a, Value.ref b] : List Value).length = ps.length := F.len _ _ _ _ q
  refine wpAny_call (codeAny_mono (F.run X.A.in1 X.stack s H ⟨[.ref a, .ref b], []⟩ [.ref a, .ref b] [.ref a, .ref b] _ E hr.in1 I.env0.in1 (by have := bi s [.ref a, .ref b] I.kIn hl; simpa using this) (.cons rfl (.cons rfl .nil)) q) fun r s' hq => ?_)
  cases r with
  | error e => exact hx pins σ H s e s' I hq
  | ok fl =>
    cases fl with
    | ret u =>
      obtain ⟨z, H2, I2, rz, c, rfl, qz⟩ := I.after hq
      obtain rfl : u = .bool c := rz
      exact ⟨c, rfl, .bl (!c), H2, I2, rfl, qz⟩
    | next => exact False.elim hq
    | brk => exact False.elim hq
    | cont => exact False.elim hq
end Rd

set_option linter.all false
set_option maxRecDepth 100000
/-! finite sums; formal sums of the elements of a group, as lists -/
namespace GT
def sm : Nat → (Nat → Int) → Int
  | 0, _ => 0
  | n + 1, f => sm n f + f n
theorem sm_congr {f g : Nat → Int} : ∀ {n : Nat}, (∀ i, i < n → f i = g i) → sm n f = sm n g
  | 0, _ => rfl
  | n + 1, h => by rw [sm, sm, sm_congr fun i hi => h i (by omega), h n (by omega)]
theorem sm_zero : ∀ n : Nat, sm n (fun _ => 0) = 0
  | 0 => rfl
  | n + 1 => by rw [sm, sm_zero n]; rfl
theorem sm_z {n : Nat} {f : Nat → Int} (h : ∀ i, i < n → f i = 0) : sm n f = 0 := by rw [sm_congr h, sm_zero]
theorem sm_add (f g : Nat → Int) : ∀ n : Nat, sm n (fun i => f i + g i) = sm n f + sm n g
  | 0 => rfl
  | n + 1 => by rw [sm, sm, sm, sm_add f g n]; omega
theorem sm_sub (f g : Nat → Int) : ∀ n : Nat, sm n (fun i => f i - g i) = sm n f - sm n g
  | 0 => rfl
  | n + 1 => by rw [sm, sm, sm, sm_sub f g n]; omega
theorem sm_mul (c : Int) (f : Nat → Int) : ∀ n : Nat, sm n (fun i => c * f i) = c * sm n f
  | 0 => by rw [sm, sm, Int.mul_zero]
  | n + 1 => by rw [sm, sm, sm_mul c f n, Int.mul_add]
theorem sm_mulr (c : Int) (f : Nat → Int) (n : Nat) : sm n (fun i => f i * c) = sm n f * c := by
  rw [Int.mul_comm (sm n f) c, ← sm_mul]
  exact sm_congr fun i _ => Int.mul_comm _ _
theorem sm_swap (f : Nat → Nat → Int) (m : Nat) : ∀ n : Nat, sm n (fun i => sm m fun j => f i j) = sm m fun j => sm n fun i => f i j
  | 0 => by rw [sm]; exact (sm_zero m).symm
  | n + 1 => by
    rw [sm, sm_swap f m n, ← sm_add]
    rfl
theorem sm_one {k : Nat} {f : Nat → Int} : ∀ {n : Nat}, k < n → sm n (fun i => if i = k then f i else 0) = f k
  | 0, h => absurd h (Nat.not_lt_zero _)
  | n + 1, h => by
    rw [sm]
    by_cases c : n = k
    · subst c
      rw [if_pos rfl, sm_z fun i hi => if_neg (by omega), Int.zero_add]
    · rw [if_neg c, sm_one (by omega), Int.add_zero]
theorem sm_one' {k : Nat} {f : Nat → Int} {n : Nat} (h : k < n) : sm n (fun i => if k = i then f i else 0) = f k := by
  rw [← sm_one (f := f) h]
  exact sm_congr fun i _ => by
    by_cases c : i = k
    · rw [if_pos c, if_pos c.symm]
    · rw [if_neg c, if_neg fun z => c z.symm]
theorem sm_list (f : Nat → Int) : ∀ n : Nat, sm n f = ((List.range n).map f).sum
  | 0 => rfl
  | n + 1 => by rw [sm, sm_list f n, List.range_succ, List.map_append, List.sum_append]; simp
theorem sum_perm {a b : List Int} (p : a.Perm b) : a.sum = b.sum := by
  induction p with
  | nil => rfl
  | cons x _ ih => rw [List.sum_cons, List.sum_cons, ih]
  | swap x y l => rw [List.sum_cons, List.sum_cons, List.sum_cons, List.sum_cons]; omega
  | trans _ _ h1 h2 => rw [h1, h2]
/-- the same with other numbers -/
theorem sm_ren {n : Nat} {s : Nat → Nat} (h1 : ∀ i, i < n → s i < n) (h2 : ∀ i j, i < n → j < n → s i = s j → i = j) (f : Nat → Int) : sm n (fun i => f (s i)) = sm n f := by
  rw [sm_list, sm_list]
  have p : ((List.range n).map s).Perm (List.range n) := by
    have nd : ((List.range n).map s).Nodup := by
      rw [List.Nodup, List.pairwise_map]
      exact (List.pairwise_lt_range (n := n)).imp_of_mem fun {a b} ha hb hab e => by
        have := h2 a b (List.mem_range.mp ha) (List.mem_range.mp hb) e
        omega
    refine (List.perm_ext_iff_of_nodup nd List.nodup_range).mpr fun x => ⟨fun h => ?_, fun h => ?_⟩
    · obtain ⟨i, hi, rfl⟩ := List.mem_map.mp h
      exact List.mem_range.mpr (h1 i (List.mem_range.mp hi))
    · apply Classical.byContradiction
      intro no
      have := (List.nodup_cons.mpr ⟨no, nd⟩).length_le_of_subset (l₂ := List.range n) (fun z hz => by
        rcases List.mem_cons.mp hz with e | e
        · rw [e]; exact h
        · obtain ⟨i, hi, rfl⟩ := List.mem_map.mp e
          exact List.mem_range.mpr (h1 i (List.mem_range.mp hi)))
      simp at this
      omega
  have := sum_perm (p.map f)
  rw [List.map_map] at this
  exact this
theorem sm_ite (P : Prop) [Decidable P] (f : Nat → Int) (n : Nat) : sm n (fun i => if P then f i else 0) = if P then sm n f else 0 := by
  by_cases c : P
  · rw [if_pos c]; exact sm_congr fun i _ => if_pos c
  · rw [if_neg c]; exact sm_z fun i _ => if_neg c
/-! ### lists as functions -/
def cf (xs : List Int) (i : Nat) : Int := xs.getD i 0
/-- the list of n values -/
def fl (n : Nat) (f : Nat → Int) : List Int := (List.range n).map f
theorem fl_len (n : Nat) (f : Nat → Int) : (fl n f).length = n := by unfold fl; rw [List.length_map, List.length_range]
theorem fl_get {n i : Nat} {f : Nat → Int} (h : i < n) : (fl n f)[i]? = some (f i) := by unfold fl; rw [List.getElem?_map, List.getElem?_range h]; rfl
theorem cf_fl {n i : Nat} {f : Nat → Int} (h : i < n) : cf (fl n f) i = f i := getD_of (fl_get h)
theorem fl_congr {n : Nat} {f g : Nat → Int} (h : ∀ i, i < n → f i = g i) : fl n f = fl n g := List.map_congr_left fun i hi => h i (List.mem_range.mp hi)
theorem fl_cf {xs : List Int} {n : Nat} (h : xs.length = n) : fl n (cf xs) = xs := by
  subst h
  refine List.ext_getElem? fun i => ?_
  by_cases c : i < xs.length
  · rw [fl_get c, List.getElem?_eq_getElem c]
    exact congrArg some (getD_of (List.getElem?_eq_getElem c))
  · rw [List.getElem?_eq_none (by rw [fl_len]; omega), List.getElem?_eq_none (by omega)]
theorem fl_eq {xs : List Int} {n : Nat} {f : Nat → Int} (h : xs.length = n) (e : ∀ i, i < n → cf xs i = f i) : xs = fl n f := by rw [← fl_cf h]; exact fl_congr e
theorem cf_get {xs : List Int} {i : Nat} (h : i < xs.length) : xs[i]? = some (cf xs i) := by
  unfold cf; rw [getD_of (List.getElem?_eq_getElem h), List.getElem?_eq_getElem h]
theorem cf_of {xs : List Int} {i : Nat} {z : Int} (h : xs[i]? = some z) : cf xs i = z := getD_of h
theorem fl_set {n k : Nat} {f : Nat → Int} {v : Int} (h : k < n) : (fl n f).set k v = fl n fun i => if i = k then v else f i := by
  refine List.ext_getElem? fun i => ?_
  rw [List.getElem?_set, fl_len]
  by_cases c : k = i
  · subst c
    rw [if_pos rfl, if_pos h, fl_get h, if_pos rfl]
  · rw [if_neg c]
    by_cases d : i < n
    · rw [fl_get d, fl_get d, if_neg (fun z => c z.symm)]
    · rw [List.getElem?_eq_none (by rw [fl_len]; omega), List.getElem?_eq_none (by rw [fl_len]; omega)]
theorem fl_sum (n : Nat) (f : Nat → Int) : (fl n f).sum = sm n f := (sm_list f n).symm
theorem sum_cf {xs : List Int} {n : Nat} (h : xs.length = n) : xs.sum = sm n (cf xs) := by rw [← fl_sum, fl_cf h]
theorem fl_map {n : Nat} {f : Nat → Int} (g : Int → Int) : (fl n f).map g = fl n fun i => g (f i) := by unfold fl; rw [List.map_map]; rfl
/-! ### the product -/
def pc (t : List (List Int)) (a b : Nat → Int) (p : Nat) : Int := sm t.length fun x => sm t.length fun y => if mul t x y = p then a x * b y else 0
def prd (t : List (List Int)) (a b : List Int) : List Int := fl t.length (pc t (cf a) (cf b))
theorem prd_len (t : List (List Int)) (a b : List Int) : (prd t a b).length = t.length := fl_len _ _
theorem cf_prd {t : List (List Int)} {a b : List Int} {p : Nat} (h : p < t.length) : cf (prd t a b) p = pc t (cf a) (cf b) p := cf_fl h
theorem pc_congr {t : List (List Int)} {a b a' b' : Nat → Int} {p : Nat} (ha : ∀ i, i < t.length → a i = a' i) (hb : ∀ i, i < t.length → b i = b' i) : pc t a b p = pc t a' b' p :=
  sm_congr fun x hx => sm_congr fun y hy => by rw [ha x hx, hb y hy]
theorem pc_addl {t : List (List Int)} {a a' b : Nat → Int} {p : Nat} : pc t (fun i => a i + a' i) b p = pc t a b p + pc t a' b p := by
  unfold pc
  rw [← sm_add]
  refine sm_congr fun x _ => ?_
  rw [← sm_add]
  refine sm_congr fun y _ => ?_
  by_cases c : mul t x y = p
  · rw [if_pos c, if_pos c, if_pos c, Int.add_mul]
  · rw [if_neg c, if_neg c, if_neg c]; rfl
theorem pc_addr {t : List (List Int)} {a b b' : Nat → Int} {p : Nat} : pc t a (fun i => b i + b' i) p = pc t a b p + pc t a b' p := by
  unfold pc
  rw [← sm_add]
  refine sm_congr fun x _ => ?_
  rw [← sm_add]
  refine sm_congr fun y _ => ?_
  by_cases c : mul t x y = p
  · rw [if_pos c, if_pos c, if_pos c, Int.mul_add]
  · rw [if_neg c, if_neg c, if_neg c]; rfl
theorem pc_scl {t : List (List Int)} {a b : Nat → Int} {p : Nat} (k : Int) : pc t (fun i => k * a i) b p = k * pc t a b p := by
  unfold pc
  rw [← sm_mul]
  refine sm_congr fun x _ => ?_
  rw [← sm_mul]
  refine sm_congr fun y _ => ?_
  by_cases c : mul t x y = p
  · rw [if_pos c, if_pos c, Int.mul_assoc]
  · rw [if_neg c, if_neg c, Int.mul_zero]
section
variable {t : List (List Int)} (G : Grp t)
/-- the part of one right element: what is moved -/
theorem Grp.mul_iff (G : Grp t) {x y p : Nat} (hx : x < t.length) (hy : y < t.length) (hp : p < t.length) : mul t x y = p ↔ x = mul t p (ivn t y) := by
  constructor
  · rintro rfl
    rw [G.assoc hx hy (G.inv_lt hy), G.mul_inv hy, G.mul_one hx]
  · rintro rfl
    rw [G.assoc hp (G.inv_lt hy) hy, G.inv_mul hy, G.mul_one hp]
theorem Grp.move (G : Grp t) {f : Nat → Int} {y p : Nat} (hy : y < t.length) (hp : p < t.length) : sm t.length (fun x => if mul t x y = p then f x else 0) = f (mul t p (ivn t y)) := by
  rw [← sm_one (f := f) (G.lt hp (G.inv_lt hy))]
  refine sm_congr fun x hx => ?_
  by_cases c : mul t x y = p
  · rw [if_pos c, if_pos ((G.mul_iff hx hy hp).mp c)]
  · rw [if_neg c, if_neg fun z => c ((G.mul_iff hx hy hp).mpr z)]
theorem Grp.pc_assoc (G : Grp t) {a b c : Nat → Int} {p : Nat} : pc t (pc t a b) c p = pc t a (pc t b c) p := by
  have L : pc t (pc t a b) c p = sm t.length fun x => sm t.length fun y => sm t.length fun w => if mul t (mul t x y) w = p then a x * b y * c w else 0 := by
    have e1 : ∀ z, z < t.length → (sm t.length fun w => if mul t z w = p then pc t a b z * c w else 0) = sm t.length fun x => sm t.length fun y => if mul t x y = z then (sm t.length fun w => if mul t (mul t x y) w = p then a x * b y * c w else 0) else 0 := by
      intro z hz
      have : ∀ w, w < t.length → (if mul t z w = p then pc t a b z * c w else 0) = sm t.length fun x => sm t.length fun y => if mul t x y = z then (if mul t z w = p then a x * b y * c w else 0) else 0 := by
        intro w _
        by_cases d : mul t z w = p
        · rw [if_pos d]
          unfold pc
          rw [← sm_mulr]
          refine sm_congr fun x _ => ?_
          rw [← sm_mulr]
          refine sm_congr fun y _ => ?_
          by_cases e : mul t x y = z
          · rw [if_pos e, if_pos e, if_pos d]
          · rw [if_neg e, if_neg e, Int.zero_mul]
        · rw [if_neg d]
          refine (sm_z fun x _ => sm_z fun y _ => ?_).symm
          rw [if_neg d, ite_self]
      rw [sm_congr this, sm_swap]
      refine sm_congr fun x _ => ?_
      rw [sm_swap]
      refine sm_congr fun y _ => ?_
      rw [sm_ite]
      by_cases e : mul t x y = z
      · rw [if_pos e, if_pos e, e]
      · rw [if_neg e, if_neg e]
    have e0 : pc t (pc t a b) c p = sm t.length fun z => sm t.length fun w => if mul t z w = p then pc t a b z * c w else 0 := rfl
    rw [e0, sm_congr e1, sm_swap]
    refine sm_congr fun x hx => ?_
    rw [sm_swap]
    refine sm_congr fun y hy => ?_
    exact sm_one' (f := fun z => sm t.length fun w => if mul t (mul t x y) w = p then a x * b y * c w else 0) (G.lt hx hy)
  have R : pc t a (pc t b c) p = sm t.length fun x => sm t.length fun y => sm t.length fun w => if mul t x (mul t y w) = p then a x * b y * c w else 0 := by
    refine sm_congr fun x hx => ?_
    have e1 : ∀ z, z < t.length → (if mul t x z = p then a x * pc t b c z else 0) = sm t.length fun y => sm t.length fun w => if mul t y w = z then (if mul t x (mul t y w) = p then a x * b y * c w else 0) else 0 := by
      intro z _
      by_cases d : mul t x z = p
      · rw [if_pos d]
        unfold pc
        rw [← sm_mul]
        refine sm_congr fun y _ => ?_
        rw [← sm_mul]
        refine sm_congr fun w _ => ?_
        by_cases e : mul t y w = z
        · rw [if_pos e, if_pos e, e, if_pos d, Int.mul_assoc]
        · rw [if_neg e, if_neg e, Int.mul_zero]
      · rw [if_neg d]
        refine (sm_z fun y _ => sm_z fun w _ => ?_).symm
        by_cases e : mul t y w = z
        · rw [if_pos e, e, if_neg d]
        · rw [if_neg e]
    rw [sm_congr e1, sm_swap]
    refine sm_congr fun y hy => ?_
    rw [sm_swap]
    refine sm_congr fun w hw => ?_
    exact sm_one' (f := fun z => if mul t x (mul t y w) = p then a x * b y * c w else 0) (G.lt hy hw)
  rw [L, R]
  refine sm_congr fun x hx => sm_congr fun y hy => sm_congr fun w hw => ?_
  rw [G.assoc hx hy hw]
theorem Grp.prd_assoc (G : Grp t) (a b c : List Int) : prd t (prd t a b) c = prd t a (prd t b c) := by
  refine fl_congr fun p hp => ?_
  rw [pc_congr (fun i hi => cf_prd hi) (fun i _ => rfl), G.pc_assoc, ← pc_congr (fun i _ => rfl) (fun i hi => cf_prd hi)]
/-- the element x -/
def dl (n x : Nat) : List Int := fl n fun i => if i = x then 1 else 0
theorem dl_len (n x : Nat) : (dl n x).length = n := fl_len _ _
theorem cf_dl {n x i : Nat} (h : i < n) : cf (dl n x) i = if i = x then 1 else 0 := cf_fl h
theorem Grp.prd_dl (G : Grp t) {a : List Int} {y : Nat} (hy : y < t.length) : prd t a (dl t.length y) = fl t.length fun p => cf a (mul t p (ivn t y)) := by
  refine fl_congr fun p hp => ?_
  rw [pc_congr (fun i _ => rfl) (fun i hi => cf_dl hi)]
  rw [← G.move (f := cf a) hy hp]
  refine sm_congr fun x _ => ?_
  rw [← sm_one' (f := fun z => if mul t x z = p then cf a x else 0) hy]
  refine sm_congr fun z _ => ?_
  dsimp only
  by_cases c : z = y
  · subst c; rw [if_pos rfl, if_pos rfl, Int.mul_one]
  · rw [if_neg c, Int.mul_zero, ite_self, if_neg fun e => c e.symm]
theorem Grp.inv_zero (G : Grp t) : ivn t 0 = 0 := by
  have h := G.mul_inv G.pos
  rw [G.one_mul (G.inv_lt G.pos)] at h
  exact h
theorem Grp.prd_one (G : Grp t) {a : List Int} (h : a.length = t.length) : prd t a (dl t.length 0) = a := by
  rw [G.prd_dl G.pos]
  refine (fl_eq h fun i hi => ?_).symm
  rw [G.inv_zero, G.mul_one hi]
theorem Grp.one_prd (G : Grp t) {a : List Int} (h : a.length = t.length) : prd t (dl t.length 0) a = a := by
  refine (fl_eq h fun p hp => ?_).symm
  rw [pc_congr (fun i hi => cf_dl hi) (fun i _ => rfl)]
  unfold pc
  rw [← sm_one (f := cf a) hp, ← sm_one (f := fun x => sm t.length fun i => if i = p then cf a i else 0) G.pos]
  refine sm_congr fun x _ => ?_
  by_cases c : x = 0
  · subst c
    rw [if_pos rfl]
    refine sm_congr fun y hy => ?_
    dsimp only
    rw [G.one_mul hy, if_pos rfl, Int.one_mul]
  · rw [if_neg c]
    refine (sm_z fun y _ => ?_).symm
    dsimp only
    rw [if_neg c, Int.zero_mul, ite_self]
theorem Grp.dl_dl (G : Grp t) {x y : Nat} (hx : x < t.length) (hy : y < t.length) : prd t (dl t.length x) (dl t.length y) = dl t.length (mul t x y) := by
  rw [G.prd_dl hy]
  refine fl_congr fun p hp => ?_
  rw [cf_dl (G.lt hp (G.inv_lt hy))]
  by_cases c : mul t x y = p
  · rw [if_pos ((G.mul_iff hx hy hp).mp c).symm, if_pos c.symm]
  · rw [if_neg fun z => c ((G.mul_iff hx hy hp).mpr z.symm), if_neg fun z => c z.symm]
theorem Grp.prd_sum (G : Grp t) (a b : List Int) (ha : a.length = t.length) (hb : b.length = t.length) : (prd t a b).sum = a.sum * b.sum := by
  rw [sum_cf ha, sum_cf hb]
  unfold prd
  rw [fl_sum]
  unfold pc
  rw [sm_swap, ← sm_mulr]
  refine sm_congr fun x hx => ?_
  rw [sm_swap, ← sm_mul]
  refine sm_congr fun y hy => ?_
  exact sm_one' (f := fun _ => cf a x * cf b y) (G.lt hx hy)
/-! ### differences -/
def shf (t : List (List Int)) (c : List Int) (m : Nat) : List Int := fl t.length fun x => cf c (mul t x (ivn t m)) - cf c x
def dif (t : List (List Int)) (c : List Int) (ms : List Int) : List Int := ms.foldl (fun r m => shf t r m.toNat) c
theorem shf_len (t : List (List Int)) (c : List Int) (m : Nat) : (shf t c m).length = t.length := fl_len _ _
theorem dif_len (t : List (List Int)) : ∀ (ms : List Int) (c : List Int), c.length = t.length → (dif t c ms).length = t.length
  | [], _, h => h
  | m :: ms, c, _ => dif_len t ms _ (shf_len t c m.toNat)
theorem Grp.shf_prd (G : Grp t) {c d : List Int} {m : Nat} (hm : m < t.length) : shf t (prd t c d) m = prd t c (shf t d m) := by
  have e : ∀ c : List Int, shf t c m = fl t.length fun x => cf (prd t c (dl t.length m)) x - cf c x := fun c => by
    refine fl_congr fun x hx => ?_
    rw [G.prd_dl hm, cf_fl hx]
  rw [e, G.prd_assoc]
  refine fl_congr fun p hp => ?_
  rw [cf_prd hp, cf_prd hp]
  rw [show pc t (cf c) (cf (shf t d m)) p = pc t (cf c) (fun i => cf (prd t d (dl t.length m)) i + (-1) * cf d i) p from pc_congr (fun _ _ => rfl) fun i hi => by
    rw [e, cf_fl hi]; omega]
  rw [pc_addr]
  have n : pc t (cf c) (fun i => (-1) * cf d i) p = - pc t (cf c) (cf d) p := by
    have h := pc_addr (t := t) (a := cf c) (b := fun i => (-1) * cf d i) (b' := cf d) (p := p)
    have z : pc t (cf c) (fun i => (-1) * cf d i + cf d i) p = 0 := sm_z fun x _ => sm_z fun y _ => by
      dsimp only
      rw [show (-1) * cf d y + cf d y = 0 by omega, Int.mul_zero, ite_self]
    rw [z] at h
    omega
  rw [n]
  omega
theorem Grp.dif_prd (G : Grp t) (c : List Int) : ∀ (ms : List Int) (d : List Int), (∀ m ∈ ms, InT t m) → dif t (prd t c d) ms = prd t c (dif t d ms)
  | [], _, _ => rfl
  | m :: ms, d, h => by
    have hm := h m List.mem_cons_self
    show dif t (shf t (prd t c d) m.toNat) ms = prd t c (dif t (shf t d m.toNat) ms)
    rw [G.shf_prd (by have := hm.1; have := hm.2; omega)]
    exact G.dif_prd c ms _ fun x hx => h x (List.mem_cons_of_mem _ hx)
theorem Grp.dif_app (G : Grp t) (as bs : List Int) (hb : ∀ m ∈ bs, InT t m) : dif t (dl t.length 0) (as ++ bs) = prd t (dif t (dl t.length 0) as) (dif t (dl t.length 0) bs) := by
  have e : dif t (dl t.length 0) (as ++ bs) = dif t (dif t (dl t.length 0) as) bs := List.foldl_append ..
  have l := dif_len t as (dl t.length 0) (dl_len _ _)
  rw [e, ← G.dif_prd _ bs _ hb, G.prd_one l]
end
/-! ### other numbers -/
/-- the coefficients under the new names -/
def mv (n : Nat) (ns a : List Int) : List Int := fl n fun p => sm n fun x => if nm ns x = p then cf a x else 0
theorem mv_len (n : Nat) (ns a : List Int) : (mv n ns a).length = n := fl_len _ _
theorem NmOk.mv_at {n : Nat} {ns a : List Int} (N : NmOk n ns) {x : Nat} (hx : x < n) : cf (mv n ns a) (nm ns x) = cf a x := by
  unfold mv
  rw [cf_fl (N.at_ hx).2, ← sm_one (f := cf a) hx]
  refine sm_congr fun y hy => ?_
  by_cases c : y = x
  · rw [if_pos c, c, if_pos rfl]
  · rw [if_neg c, if_neg fun z => c (N.inj hy hx z)]
theorem Ren.prd {t u : List (List Int)} {ns : List Int} (R : Ren t ns u) (S : Sq t) (a b : List Int) : prd u (mv t.length ns a) (mv t.length ns b) = mv t.length ns (prd t a b) := by
  have N := R.nms
  unfold GT.prd
  rw [R.len]
  have L : (mv t.length ns (fl t.length (pc t (cf a) (cf b)))).length = t.length := mv_len _ _ _
  refine (fl_eq L fun p hp => ?_).symm
  obtain ⟨q, hq, eq⟩ := N.onto hp
  have e : nm ns q = p := by unfold nm; rw [getD_of eq]; omega
  subst e
  rw [N.mv_at hq, cf_fl hq]
  unfold pc
  rw [R.len]
  refine Eq.trans ?_ (sm_ren (s := nm ns) (fun i hi => (N.at_ hi).2) (fun i j hi hj h => N.inj hi hj h) _)
  refine sm_congr fun x hx => ?_
  refine Eq.trans ?_ (sm_ren (s := nm ns) (fun i hi => (N.at_ hi).2) (fun i j hi hj h => N.inj hi hj h) _)
  refine sm_congr fun y hy => ?_
  rw [N.mv_at hx, N.mv_at hy]
  have m : mul u (nm ns x) (nm ns y) = nm ns (mul t x y) := by unfold mul; rw [R.at_ x y hx hy]; rfl
  rw [m]
  by_cases c : mul t x y = q
  · rw [if_pos c, if_pos (by rw [c])]
  · rw [if_neg c, if_neg fun z => c (N.inj (S.mul_lt hx hy) hq z)]
end GT
namespace GT
/-! ### sizes -/
def Bd (k : Nat) (xs : List Int) : Prop := ∀ x ∈ xs, x.natAbs < 2 ^ k
theorem Bd.mono {j k : Nat} {xs : List Int} (h : Bd j xs) (l : j ≤ k) : Bd k xs := fun x hx => Nat.lt_of_lt_of_le (h x hx) (Nat.pow_le_pow_right (by decide) l)
theorem Bd.cf {k : Nat} {xs : List Int} (h : Bd k xs) (i : Nat) : (cf xs i).natAbs < 2 ^ k := by
  by_cases c : i < xs.length
  · exact h _ (List.mem_of_getElem? (cf_get c))
  · have : GT.cf xs i = 0 := by unfold GT.cf; rw [List.getD_eq_getElem?_getD, List.getElem?_eq_none (by omega)]; rfl
    rw [this]; exact Nat.two_pow_pos k
theorem Bd.fl {k n : Nat} {f : Nat → Int} (h : ∀ i, i < n → (f i).natAbs < 2 ^ k) : Bd k (fl n f) := fun x hx => by
  obtain ⟨i, hi, rfl⟩ := List.mem_map.mp hx
  exact h i (List.mem_range.mp hi)
theorem sm_abs {f : Nat → Int} {B : Nat} : ∀ {n : Nat}, (∀ i, i < n → (f i).natAbs ≤ B) → (sm n f).natAbs ≤ n * B
  | 0, _ => by rw [sm]; simp
  | n + 1, h => by
    have h1 := sm_abs (n := n) fun i hi => h i (by omega)
    have h2 := h n (by omega)
    rw [sm, Nat.add_mul, Nat.one_mul]
    exact Nat.le_trans (Int.natAbs_add_le _ _) (Nat.add_le_add h1 h2)
theorem Bd.add {k n : Nat} {a b : List Int} (ha : Bd k a) (hb : Bd k b) : Bd (k + 1) (GT.fl n fun i => GT.cf a i + GT.cf b i) := .fl fun i _ => by
  have h1 := ha.cf i
  have h2 := hb.cf i
  have h3 := Int.natAbs_add_le (GT.cf a i) (GT.cf b i)
  rw [Nat.pow_succ]
  omega
theorem Bd.sub {k n : Nat} {a b : List Int} (ha : Bd k a) (hb : Bd k b) : Bd (k + 1) (GT.fl n fun i => GT.cf a i - GT.cf b i) := .fl fun i _ => by
  have h1 := ha.cf i
  have h2 := hb.cf i
  have h3 := Int.natAbs_sub_le (GT.cf a i) (GT.cf b i)
  rw [Nat.pow_succ]
  omega
theorem Bd.neg {k n : Nat} {a : List Int} (ha : Bd k a) : Bd k (GT.fl n fun i => - GT.cf a i) := .fl fun i _ => by
  rw [Int.natAbs_neg]; exact ha.cf i
theorem mul_lt2 {i j : Int} {k l : Nat} (h1 : i.natAbs < 2 ^ k) (h2 : j.natAbs < 2 ^ l) : (i * j).natAbs < 2 ^ (k + l) := by
  rw [Int.natAbs_mul, Nat.pow_add]
  exact Nat.lt_of_le_of_lt (Nat.mul_le_mul_left _ (Nat.le_of_lt h2)) (Nat.mul_lt_mul_of_pos_right h1 (Nat.two_pow_pos l))
theorem Bd.prd {k l : Nat} {t : List (List Int)} {a b : List Int} (t32 : t.length ≤ 32) (ha : Bd k a) (hb : Bd l b) : Bd (k + l + 11) (prd t a b) := .fl fun p _ => by
  have h : (pc t (GT.cf a) (GT.cf b) p).natAbs ≤ t.length * (t.length * 2 ^ (k + l)) := sm_abs fun x _ => sm_abs fun y _ => by
    by_cases c : mul t x y = p
    · rw [if_pos c]; exact Nat.le_of_lt (mul_lt2 (ha.cf x) (hb.cf y))
    · rw [if_neg c]; exact Nat.zero_le _
  have h2 : t.length * (t.length * 2 ^ (k + l)) ≤ 32 * (32 * 2 ^ (k + l)) := Nat.mul_le_mul t32 (Nat.mul_le_mul_right _ t32)
  have h3 : 2 ^ (k + l + 11) = 2048 * 2 ^ (k + l) := by rw [Nat.pow_add, Nat.mul_comm]
  have := Nat.two_pow_pos (k + l)
  omega
theorem Bd.dl (n x : Nat) : Bd 1 (dl n x) := .fl fun i _ => by
  by_cases c : i = x
  · rw [if_pos c]; decide
  · rw [if_neg c]; decide
theorem Bd.shf {k : Nat} {t : List (List Int)} {c : List Int} (m : Nat) (h : Bd k c) : Bd (k + 1) (shf t c m) := .fl fun i _ => by
  have h1 := h.cf (mul t i (ivn t m))
  have h2 := h.cf i
  have h3 := Int.natAbs_sub_le (GT.cf c (mul t i (ivn t m))) (GT.cf c i)
  rw [Nat.pow_succ]
  omega
theorem Bd.dif {t : List (List Int)} : ∀ (ms : List Int) {k : Nat} {c : List Int}, Bd k c → Bd (k + ms.length) (dif t c ms)
  | [], _, _, h => h
  | m :: ms, k, c, h => by
    have := Bd.dif (t := t) ms (h.shf (t := t) m.toNat)
    rw [List.length_cons, show k + (ms.length + 1) = k + 1 + ms.length by omega]
    exact this
theorem Bd.scl {k n : Nat} {j : Nat} {f : Int} {a : List Int} (hf : f.natAbs < 2 ^ j) (ha : Bd k a) : Bd (j + k) (GT.fl n fun i => f * GT.cf a i) := .fl fun i _ => mul_lt2 hf (ha.cf i)
end GT

set_option Elab.async false
set_option linter.all false
set_option maxRecDepth 100000
set_option maxHeartbeats 2000000
/-! what may raise in a try whose except clause reads the slots -/
namespace Rd
open PySem PySem.Spec PyProof.Rows L2
section
variable {X : Cx} {x m : Str} {p pos apos : Pos} {e o : Expr} {es : List Expr} {ts : TA} {ta tb : TE} {k : Nat} {ps : List Str} {sp : Sp} {C f : Addr} {fd : FuncData} {E : L2.St → XK}
theorem callS (D : DOk X.prog X.w X.K X.mg X.base (L2.CX X.prog X.w) x k ps sp) (hr : Room k X.A) (hx : PassesAt X E) (ha : PA X (e :: es) ts) (hg : Gl X x := by rfl) (hdb : (x == ("__debug__" : Str)) = false := by decide)
    (he : starEach (e :: es) X.env = (false, eval e X.env) :: starEach es X.env := by rfl) (hpl : (backTo pos (starEach es X.env)).any (·.1) = false := by rfl) :
    PE X (.Call (.Name x p) (e :: es) [] pos) (fun σ H Q => tCall sp [] (E σ) ts σ H Q) := by
  obtain ⟨f, fd, F, hm, hk, hb⟩ := D.ok
  refine ⟨fun pins s σ H Q I h => ?_⟩
  refine wpAny_Call_Name_kw (ld_glob I hg hm ?_ hdb)
  refine PySem.W.callWith_K (h₀ := X.base) I.ok.mod.kin hk (thn (ha.run pos pins s σ H _ I h) fun us s1 ⟨vs, H1, I1, r, q⟩ => ⟨I1.kIn, ?_⟩) he hpl
  have q2 : sp (vs ++ []) H1 Q (E σ) := q
  rw [List.append_nil] at q2
  exact run_fnS F hr hb hx I1 r q2
theorem run_makeS {pins : List (Addr × Obj)} {σ : L2.St} {H : Hp} {s : Shared} {Q : VK} {us : List Value} {vs : List V} (M : Mk X.K C f) (F : FnOk X.prog X.w X.K X.mg X.base (L2.CX X.prog X.w) k f fd ps sp) (hr : Room (k + 1) X.A) (hb : Binds X.K fd ps [])
    (hx : PassesAt X E) (I : Inv X pins σ H s) (r : Vals vs us)
    (h : ∀ x dx, H x = none → H dx = none → dx ≠ x → sp (.ref x :: (vs ++ [])) (upd (upd H dx (.own x)) x (.ins C dx [])) (fun v H2 => v = .non ∧ Q (.ref x) H2) (E σ)) :
    wpAny (model X.prog X.w) X.A (PySem.call (.ref C) us) (EP X pins σ Q) X.xe s := by
  have hq := h (s.heap.objs.size + 1) s.heap.objs.size (I.hok.fresh (Nat.le_succ _)) (I.hok.fresh (Nat.le_refl _)) (Nat.ne_of_lt (Nat.lt_succ_self _))
  have I2 := Inv.made (C := C) I
  have r2 : Vals (V.ref (s.heap.objs.size + 1) :: (vs ++ [])) (Value.ref (s.heap.objs.size + 1) :: (us ++ [])) := .cons rfl (r.append .nil)
  have hl : (Value.ref (s.heap.objs.size + 1) :: us ++ []).length = ps.length := by
    have e := r2.length
    rw [F.len _ _ _ _ hq] at e
    exact e.symm
  refine wpAny_call (make_map (f := f) I.kIn M.makes M.init (beq_iff_eq.mp M.fn) (codeAny_mono (F.run _ X.stack _ _ ⟨Value.ref (s.heap.objs.size + 1) :: us, []⟩ (Value.ref (s.heap.objs.size + 1) :: (us ++ [])) _ _ (E σ) (hr.make C us [])
    (I2.env0.make C us []) (by have b := hb _ (Value.ref (s.heap.objs.size + 1) :: us) I2.kIn hl; rw [List.cons_append] at b; exact b) r2 hq) fun r s' hq' => ?_))
  cases r with
  | error e => exact hx pins σ _ _ e s' I2 hq'
  | ok fl =>
    cases fl with
    | ret u =>
      obtain ⟨v, H', I3, rv, ev, q3⟩ := I2.after hq'
      subst ev
      exact ⟨rv, ⟨V.ref (s.heap.objs.size + 1), H', I3, rfl, q3⟩⟩
    | next => exact False.elim hq'
    | brk => exact False.elim hq'
    | cont => exact False.elim hq'
theorem makeS (D : KOk X.prog X.w X.K X.mg X.base (L2.CX X.prog X.w) x C k ps sp) (hr : Room (k + 1) X.A) (hx : PassesAt X E) (ha : PA X (e :: es) ts) (hg : Gl X x := by rfl) (hdb : (x == ("__debug__" : Str)) = false := by decide)
    (he : starEach (e :: es) X.env = (false, eval e X.env) :: starEach es X.env := by rfl) (hpl : (backTo pos (starEach es X.env)).any (·.1) = false := by rfl) :
    PE X (.Call (.Name x p) (e :: es) [] pos) (fun σ H Q => tMake C sp [] (E σ) ts σ H Q) := by
  obtain ⟨f, fd, M, F, hm, hb⟩ := D.ok
  refine ⟨fun pins s σ H Q I h => ?_⟩
  refine wpAny_Call_Name_kw (ld_glob I hg hm ?_ hdb)
  refine PySem.W.callWith_K (h₀ := X.base) I.ok.mod.kin M.kp (thn (ha.run pos pins s σ H _ I h) fun us s1 ⟨vs, H1, I1, r, q⟩ => ⟨I1.kIn, ?_⟩) he hpl
  exact run_makeS M F hr hb hx I1 r q
theorem statS {pl : Sem Bool} (S : StatOk X.prog X.w X.K X.mg X.base (L2.CX X.prog X.w) C m k ps sp) (hr : Room k X.A) (hx : PassesAt X E) (he : PE X o ta) (ha : PA X (e :: es) ts)
    (hst : starEach (e :: es) X.env = (false, eval e X.env) :: starEach es X.env := by rfl) (hpl : (backTo pos (starEach es X.env)).any (·.1) = false := by rfl)
    (ht : eval (.Call (.Attribute o m apos) (e :: es) [] pos) X.env = (do
      let ov ← eval o X.env
      standAt apos.atName
      let (f, first) ← holding [ov] (getMethod ov m pl)
      callWith pos f first (backTo pos (starEach (e :: es) X.env)) (backToKw pos (keywordEach [] X.env))) := by rfl) :
    PE X (.Call (.Attribute o m apos) (e :: es) [] pos) (fun σ H Q => tStat C sp (E σ) ta ts σ H Q) := by
  obtain ⟨f, fd, p, rest, hc, hp, F, hk, hb⟩ := S.ok
  refine ⟨fun pins s σ H Q I h => ?_⟩
  refine PySem.W.methodCall_KW (pl := pl) (thn (he.run pins s σ H _ I h) fun u s1 ⟨x, H1, I1, rx, ex, q⟩ => ?_) ht
  subst ex
  obtain rfl : u = Value.ref C := rx
  refine PySem.W.method_cls I1.kIn S.ga ?_
  refine PySem.W.cls_bind I1.kIn S.rd hc (wpAny_call (PySem.W.sm_get (s := { s1 with toks := s1.toks + 1 }) I1.kIn hp (PySem.W.handed_on rfl ?_)))
  have I2 : Inv X pins σ H1 { s1 with toks := s1.toks + 1 } := I1.tok _
  refine PySem.W.callWith_K (h₀ := X.base) I2.ok.mod.kin hk (thn (ha.run pos pins _ σ H1 _ I2 q) fun us s3 ⟨vs, H2, I3, r, q2⟩ => ⟨I3.kIn, ?_⟩) hst hpl
  exact run_fnS F hr hb hx I3 r q2
/-- o + o, at these slots -/
theorem pe_binS {op : Operator} {a b : Expr} (M : BinOk X.prog X.w X.K X.mg X.base (L2.CX X.prog X.w) C (PySem.dunder op.info.2) k ps sp) (hr : Room k X.A) (hx : PassesAt X E) (ha : PE X a ta) (hb : PE X b tb) : PE X (.BinOp a op b pos) (fun σ H Q => tOp (rInsEq C sp (E σ)) ta tb σ H Q) := by
  refine ⟨fun pins s σ H Q I h => ?_⟩
  refine wpAny_BinOp (binT (R := fun x y H2 => rInsEq C sp (E σ) x y H2 Q) ha hb I h fun v u s2 x y H2 I2 r1 r2 q2 => ?_)
  obtain ⟨a, dx, fs, b, dy, gs, ex, ey, ha, hb, q⟩ := q2
  obtain ⟨f, fd, find, fn, F, bi⟩ := M.ok
  subst ex ey
  obtain rfl : v = Value.ref a := r1
  obtain rfl : u = Value.ref b := r2
  obtain ⟨_, ja, _⟩ := ins_get I2.hok ha
  obtain ⟨_, jb, _⟩ := ins_get I2.hok hb
  obtain ⟨_, la, _⟩ := ja.look
  obtain ⟨_, lb, _⟩ := jb.look
  obtain ⟨_, fr⟩ := I2.fr
  refine PySem.W.binop_K fr I2.ok.mod.kin la lb.type M.first find fn ?_
  refine wpAny_mono (run_fnS (us := [.ref a, .ref b]) (vs := [.ref a, .ref b]) F hr bi hx I2 (.cons rfl (.cons rfl .nil)) q) ?_ (fun _ _ z => z)
  rintro w2 s2 ⟨z, H2, I2, rz, qz⟩
  exact SlX.cmpback rz ⟨z, H2, I2, rz, qz⟩
end
end Rd
namespace Rd
open PySem PySem.Spec PyProof.Rows L2
theorem wideB {i j : Int} {a b : Nat} (h1 : i.natAbs < 2 ^ a) (h2 : j.natAbs < 2 ^ b) (h : a + b ≤ 900000) : CMulW i j :=
  wide_mul (a := a + 1) (b := b + 1) (Nat.lt_of_lt_of_le h1 (Nat.pow_le_pow_right (by decide) (by omega))) (Nat.lt_of_lt_of_le h2 (Nat.pow_le_pow_right (by decide) (by omega))) (by omega) (by omega) (by omega)
theorem sm_tr {H H' H'' : Hp} (e : Same H' H'') (h : Same H H') : Same H H'' := h.trans e
theorem fr_some {H H' : Hp} {a : Addr} {o : HO} (e : Same H H') (h : H a = some o) : H' a = some o := e _ _ h
theorem fr_rows {H H' : Hp} {rs : List Addr} {t : List (List Int)} (e : Same H H') (h : GT.Rows TupN H rs t) : GT.Rows TupN H' rs t := h.same e
theorem fr_rowL {H H' : Hp} {rs : List Addr} {t : List (List Int)} (e : Same H H') (h : GT.Rows GT.LstN H rs t) : GT.Rows GT.LstN H' rs t := h.sameL e
theorem fr_grp {C : Addr} {H H' : Hp} {g : Addr} {t : List (List Int)} (e : Same H H') (h : GT.GrpAt C H g t) : GT.GrpAt C H' g t := h.same e
theorem fr_tupN {H H' : Hp} {a : Addr} {xs : List V} (e : Same H H') (h : TupN H a xs) : TupN H' a xs := h.same e
theorem fr_tupX {H H' : Hp} {a : Addr} {xs : List V} (e : Same H H') (h : TupX H a xs) : TupX H' a xs := h.same e
theorem fr_DD {H H' : Hp} {n : Nat} {x y : V} (e : Same H H') (h : DD H n x y) : DD H' n x y := h.same e
theorem fr_sqL {K : PySem.W.Frag} {H : Hp} {a : Addr} {xs : List V} (h : H a = some (.lst xs)) : SqL K H a xs := SqL.of h
theorem fr_free {H H' : Hp} {a : Addr} (e : Same H H') (h : H' a = none) : H a = none := Same.free e h
theorem putF_new {k : Str} {v : V} : ∀ {l : List (Str × V)}, (∀ q ∈ l, ¬ (q.1 = k)) → putF k v l = l ++ [(k, v)]
  | [], _ => rfl
  | q :: l, h => by
    show (if q.1 = k then _ else q :: putF k v l) = _
    rw [if_neg (h q List.mem_cons_self), putF_new fun x hx => h x (List.mem_cons_of_mem _ hx)]; rfl
/-- two lists or tuples of ints walked together, an int each time -/
theorem lcZ {k1 k2 : Rz.SK} {K : PySem.W.Frag} {a b : Addr} {xs ys : List Int} {i j : Nat} {te : TE} {vs : List Nat} {σ : L2.St} {H : Hp} {Qd : Addr → Hp → Prop} (f : Nat → Int) (h1 : Rz.SqK k1 K H a (xs.map V.int)) (h2 : Rz.SqK k2 K H b (ys.map V.int)) (l : ys.length = xs.length) (z : xs.length ≤ 1000)
    (hw : ∀ x y : V, wipe (((wipe σ vs).set i (some x)).set j (some y)) vs = wipe σ vs)
    (hs : ∀ (n : Nat) (x y : Int) (H1 : Hp) (Q1 : VK), xs[n]? = some x → ys[n]? = some y → Same H H1 → (∀ H2, Same H1 H2 → Q1 (.int (f n)) H2) → te (((wipe σ vs).set i (some (.int x))).set j (some (.int y))) H1 Q1)
    (hq : ∀ (p : Addr) (H1 : Hp), H p = none → Same H H1 → H1 p = some (.lst ((GT.fl xs.length f).map V.int)) → Qd p H1)
    (D : Addr) (hD : H D = none) :
    ∃ W : Nat → Nat → Hp → Prop, (∃ m, W 0 m (upd H D (.lst []))) ∧ ∀ n m H, W n m H →
      ((Rz.It2 K k1 k2 a b).stop n H ∧ Qd D H) ∨ ((Rz.It2 K k1 k2 a b).go n H ∧ ∃ Nx : Hp → Prop, (∀ H', Nx H' → ∃ m', m' < m ∧ W (n + 1) m' H') ∧ ∀ x H', (Rz.It2 K k1 k2 a b).yld n H x H' → (gTup K 2 (gCons (gName i) (gCons (gName j) gNil))) x (wipe σ vs) H' fun σ2 H2 => wipe σ2 vs = wipe σ vs ∧ tYes σ2 H2 fun b H3 =>
        if b = true then te σ2 H3 fun y H4 => ∃ acc, H4 D = some (.lst acc) ∧ acc.length < sizeLine ∧ Nx (upd H4 D (.lst (acc ++ [y]))) else Nx H3) := by
  have l2 : (ys.map V.int).length = (xs.map V.int).length := by rw [List.length_map, List.length_map]; exact l
  refine Rz.lcMapG (n := (xs.map V.int).length) (fun n => .int (f n)) (Rz.go2 h1 h2 l2) (Rz.stop2 h1 h2 l2) (by rw [List.length_map]; omega) (fun n v' H1 H2 Q1 hi e yy q1 => ?_) (fun p H1 hp e h5 => ?_) (fun v σ H P P' h q => Rz.gm2 v σ H P P' h q) D hD
  · obtain ⟨TT, x', y', rfl, hx, hy, hT, s2⟩ := Rz.yld2 h1 h2 e yy
    obtain ⟨x', hx2, rfl⟩ := GT.intAt hx
    obtain ⟨y', hy2, rfl⟩ := GT.intAt hy
    refine Rd.gtup2 (SqT.of hT) ⟨hw _ _, ?_⟩
    exact hs n x' y' H2 Q1 hx2 hy2 (e.trans s2) fun H3 e3 => q1 H3 (s2.trans e3)
  · refine hq p H1 hp e ?_
    rw [h5, List.length_map]
    unfold GT.fl
    rw [List.map_map]; rfl
end Rd

set_option Elab.async false
set_option linter.all false
set_option maxRecDepth 100000
set_option maxHeartbeats 2000000
namespace Rd
open PySem PySem.Spec PyProof.Rows L2
/-- a comprehension over ints that gives ints -/
theorem lcE {J : It} {xs : List Int} {j : Nat} {te : TE} {vs : List Nat} {σ : L2.St} {H : Hp} {Qd : Addr → Hp → Prop} (f : Nat → Int) (S : Src J (xs.map V.int) H) (hz : xs.length ≤ 1000) (hw : ∀ x : V, wipe ((wipe σ vs).set j (some x)) vs = wipe σ vs)
    (hs : ∀ (i : Nat) (z : Int) (H1 : Hp) (Q1 : VK), xs[i]? = some z → Same H H1 → (∀ H2, Same H1 H2 → Q1 (.int (f i)) H2) → te ((wipe σ vs).set j (some (.int z))) H1 Q1)
    (hq : ∀ (p : Addr) (H1 : Hp), H p = none → Same H H1 → H1 p = some (.lst ((GT.fl xs.length f).map V.int)) → Qd p H1)
    (D : Addr) (hD : H D = none) :
    ∃ W : Nat → Nat → Hp → Prop, (∃ m, W 0 m (upd H D (.lst []))) ∧ ∀ i m H, W i m H →
      (J.stop i H ∧ Qd D H) ∨ (J.go i H ∧ ∃ Nx : Hp → Prop, (∀ H', Nx H' → ∃ m', m' < m ∧ W (i + 1) m' H') ∧ ∀ x H', J.yld i H x H' → gName j x (wipe σ vs) H' fun σ2 H2 => wipe σ2 vs = wipe σ vs ∧ tYes σ2 H2 fun b H3 =>
        if b = true then te σ2 H3 fun y H4 => ∃ acc, H4 D = some (.lst acc) ∧ acc.length < sizeLine ∧ Nx (upd H4 D (.lst (acc ++ [y]))) else Nx H3) := by
  refine Rd.lcMap (fun i => .int (f i)) S (by rw [List.length_map]; omega) hw (fun n y H1 Q1 hy e1 q1 => ?_) (fun p H1 hp e1 h1 => ?_) D hD
  · obtain ⟨z, hz, rfl⟩ := GT.intAt hy
    exact hs n z H1 Q1 hz e1 q1
  · refine hq p H1 hp e1 ?_
    rw [h1, List.length_map]
    unfold GT.fl
    rw [List.map_map]; rfl
theorem src_rngI (n : Nat) (H : Hp) : Src (Itr 0 n) ((GT.rngI n).map V.int) H := by
  have e : rgL 0 n = (GT.rngI n).map V.int := by
    unfold rgL GT.rngI
    rw [List.map_map]
    exact List.map_congr_left fun i _ => congrArg V.int (Int.zero_add _)
  rw [← e]
  exact src_rng 0 n H
theorem rgV_I (n : Nat) : rgV 0 (n : Int) = (GT.rngI n).map V.int := GT.rgV_eq n
theorem rngI_at {n i : Nat} {z : Int} (h : (GT.rngI n)[i]? = some z) : z = (i : Int) ∧ i < n := by
  have l := (List.getElem?_eq_some_iff.mp h).1
  rw [GT.rngI_len] at l
  rw [GT.rngI_get l] at h
  cases h
  exact ⟨rfl, l⟩
/-! ### new objects: the heap behind has its own name -/
section
variable {K : PySem.W.Frag} {H : Hp} {Q : VK} {a b l : Addr} {xs ys : List V}
theorem newL (z : xs.length ≤ sizeLine) (k : ∀ p H', H p = none → Same H H' → H' p = some (.lst xs) → Q (.ref p) H') : xs.length ≤ sizeLine ∧ ∀ p, H p = none → Q (.ref p) (upd H p (.lst xs)) := ⟨z, fun p hp => k p _ hp (same_mk hp) upd_same⟩
theorem newP (z : xs.length ≤ sizeLine) (k : ∀ p H', H p = none → Same H H' → H' p = some (.tup xs) → Q (.ref p) H') : xs.length ≤ sizeLine ∧ ∀ p, H p = none → Q (.ref p) (upd H p (.tup xs)) := ⟨z, fun p hp => k p _ hp (same_mk hp) upd_same⟩
theorem newRg {n : Nat} (z : n ≤ 1000) (k : ∀ p H', H p = none → Same H H' → H' p = some (.lst ((GT.rngI n).map V.int)) → Q (.ref p) H') : RgOk 0 (n : Int) ∧ ∀ q, H q = none → Q (.ref q) (upd H q (.lst (rgV 0 (n : Int)))) := by
  refine ⟨⟨by decide, by decide, by omega, by omega, by omega⟩, fun p hp => ?_⟩
  rw [rgV_I]
  exact k p _ hp (same_mk hp) upd_same
theorem newRep {c : Int} {n : Nat} (h : H l = some (.lst [.int c])) (z : n ≤ 1000) (k : ∀ p H', H p = none → Same H H' → H' p = some (.lst ((GT.fl n fun _ => c).map V.int)) → Q (.ref p) H') : rRep (.ref l) (.int (n : Nat)) H Q := by
  refine ⟨l, (n : Int), _, rfl, rfl, h, by omega, by omega, by show 1 * (n : Int).toNat ≤ sizeLine; exact Nat.le_of_lt (Nat.lt_of_le_of_lt (by omega : 1 * (n : Int).toNat ≤ 1000) (by decide)), fun p hp => k p _ hp (same_mk hp) ?_⟩
  rw [upd_same, Int.toNat_natCast]
  refine congrArg (fun l => some (HO.lst l)) ?_
  unfold GT.fl
  rw [List.map_const', List.length_range]
  clear z k
  induction n with
  | zero => rfl
  | succ n ih => rw [List.replicate_succ, List.replicate_succ, List.flatten_cons, ih]; rfl
theorem newCat (h1 : H a = some (.lst xs)) (h2 : H b = some (.lst ys)) (z : xs.length + ys.length ≤ 1000) (k : ∀ p H', H p = none → Same H H' → H' p = some (.lst (xs ++ ys)) → Q (.ref p) H') : rCat (.ref a) (.ref b) H Q :=
  ⟨a, b, xs, ys, rfl, rfl, h1, h2, Nat.le_of_lt (Nat.lt_of_le_of_lt z (by decide)), fun p hp => k p _ hp (same_mk hp) upd_same⟩
theorem newLis (h : SqL K H a xs ∨ SqT K H a xs) (k : ∀ p H', H p = none → Same H H' → H' p = some (.lst xs) → Q (.ref p) H') : ∃ p ys, [V.ref a] = [.ref p] ∧ (SqL K H p ys ∨ SqT K H p ys) ∧ ∀ l, H l = none → Q (.ref l) (upd H l (.lst ys)) := ⟨a, xs, rfl, h, fun p hp => k p _ hp (same_mk hp) upd_same⟩
theorem newTup (h : SqL K H a xs) (k : ∀ p H', H p = none → Same H H' → TupN H' p xs → Q (.ref p) H') : rTup K [.ref a] H Q := ⟨a, xs, rfl, .inl ⟨h, fun p ob hp hob => k p _ hp (same_mk hp) (TupN.mk hob)⟩⟩
end
theorem line4 {a b c d : V} : [a, b, c, d].length ≤ sizeLine := by show 4 ≤ sizeLine; decide
theorem line3 {a b c : V} : [a, b, c].length ≤ sizeLine := by show 3 ≤ sizeLine; decide
theorem line1 {a : V} : [a].length ≤ sizeLine := by show 1 ≤ sizeLine; decide
/-- two written lists of two ints -/
theorem dd2 {H : Hp} {a b : Addr} {x y : Int} (h1 : H a = some (.lst [.int x, .int y])) (h2 : H b = some (.lst [.int x, .int y])) : DD H 1 (.ref a) (.ref b) := DD.ints (ns := [x, y]) h1 h2 (by show 2 ≤ 1000; decide)
end Rd

set_option Elab.async false
set_option linter.all false
set_option maxRecDepth 100000
set_option maxHeartbeats 2000000
namespace Rd
open PySem PySem.Spec PyProof.Rows L2
section
variable {J : It} {n : Nat} {g : TG} {te : TE} {vs : List Nat} {σ : L2.St} {H : Hp} {Qd : Addr → Hp → Prop}
/-- a comprehension over anything: element i is a tuple of the ints us i, new or old -/
theorem lcTups (us : Nat → List Int) (go : ∀ (H1 : Hp) (i : Nat), Same H H1 → i < n → J.go i H1) (stop : ∀ (H1 : Hp), Same H H1 → J.stop n H1) (hz : n ≤ 1000)
    (hs : ∀ (i : Nat) (v : V) (H1 H2 : Hp) (Q1 : VK), i < n → Same H H1 → J.yld i H1 v H2 → (∀ a H3, Same H1 H3 → TupX H3 a ((us i).map V.int) → Q1 (.ref a) H3) → g v (wipe σ vs) H2 fun σ2 H3 => wipe σ2 vs = wipe σ vs ∧ te σ2 H3 Q1)
    (hq : ∀ (p : Addr) (ra : List Addr) (H1 : Hp), H p = none → Same H H1 → H1 p = some (.lst (ra.map V.ref)) → GT.Rows TupX H1 ra ((List.range n).map us) → Qd p H1)
    (gm : ∀ (v : V) (σ : L2.St) (H : Hp) (P P' : L2.St → Hp → Prop), (∀ σ H, P σ H → P' σ H) → g v σ H P → g v σ H P')
    (D : Addr) (hD : H D = none) :
    ∃ W : Nat → Nat → Hp → Prop, (∃ m, W 0 m (upd H D (.lst []))) ∧ ∀ i m H, W i m H →
      (J.stop i H ∧ Qd D H) ∨ (J.go i H ∧ ∃ Nx : Hp → Prop, (∀ H', Nx H' → ∃ m', m' < m ∧ W (i + 1) m' H') ∧ ∀ x H', J.yld i H x H' → g x (wipe σ vs) H' fun σ2 H2 => wipe σ2 vs = wipe σ vs ∧ tYes σ2 H2 fun b H3 =>
        if b = true then te σ2 H3 fun y H4 => ∃ acc, H4 D = some (.lst acc) ∧ acc.length < sizeLine ∧ Nx (upd H4 D (.lst (acc ++ [y]))) else Nx H3) := by
  refine ⟨fun i m H1 => m = n - i ∧ i ≤ n ∧ Same H H1 ∧ ∃ ra : List Addr, H1 D = some (.lst (ra.map V.ref)) ∧ GT.Rows TupX H1 ra ((List.range i).map us), ⟨n, rfl, Nat.zero_le _, Rd.same_mk hD, [], upd_same, rfl, fun i a r h _ => by simp at h⟩, ?_⟩
  rintro i m H1 ⟨rfl, hi, e, ra, hacc, R⟩
  have rl : ra.length = i := by rw [R.len, List.length_map, List.length_range]
  by_cases c : i < n
  · refine .inr ⟨go H1 _ e c, fun H' => Same H H' ∧ ∃ ra : List Addr, H' D = some (.lst (ra.map V.ref)) ∧ GT.Rows TupX H' ra ((List.range (i + 1)).map us), fun H' z => ⟨n - (i + 1), by omega, rfl, c, z⟩, fun x H' y => ?_⟩
    refine gm _ _ _ _ _ (fun σ2 H2 z => ⟨z.1, Rd.tyes (iteT z.2)⟩) (hs i x H1 H' _ c e y fun a H3 s3 ta => ?_)
    have d3 := s3 _ _ hacc
    have away : ∀ {b : Addr} {ys : List V}, TupX H3 b ys → TupX (upd H3 D (.lst (ra.map V.ref ++ [V.ref a]))) b ys := fun {b ys} h => by
      rcases h with h | ⟨ob, h⟩
      · exact .inl (by rw [upd_ne (fun z => by rw [z, d3] at h; cases h)]; exact h)
      · exact .inr ⟨ob, by rw [upd_ne (fun z => by rw [z, d3] at h; cases h)]; exact h⟩
    refine ⟨_, d3, ?_, Rd.same_mut (Same.trans e s3) hD, ra ++ [a], ?_, ?_⟩
    · rw [List.length_map, rl]
      exact Nat.lt_of_lt_of_le (by omega : i < 100000) (by decide)
    · rw [upd_same, List.map_append]; rfl
    · refine ⟨by rw [List.length_append, rl, List.length_map, List.length_range]; rfl, fun j b r h1 h2 => ?_⟩
      rw [List.range_succ, List.map_append] at h2
      by_cases cj : j < i
      · rw [List.getElem?_append_left (by omega)] at h1
        rw [List.getElem?_append_left (by rw [List.length_map, List.length_range]; exact cj)] at h2
        exact away ((R.row j b r h1 h2).same s3)
      · rw [List.getElem?_append_right (by omega), rl] at h1
        rw [List.getElem?_append_right (by rw [List.length_map, List.length_range]; omega), List.length_map, List.length_range] at h2
        have z : j - i = 0 := by
          have := (List.getElem?_eq_some_iff.mp h1).1
          simp at this
          omega
        rw [z] at h1 h2
        cases h1
        cases h2
        exact away ta
  · have e1 : i = n := by omega
    subst e1
    exact .inl ⟨stop H1 e, hq D ra H1 hD e hacc R⟩
theorem gmN {i : Nat} (v : V) (σ : L2.St) (H : Hp) (P P' : L2.St → Hp → Prop) (h : ∀ σ H, P σ H → P' σ H) (q : gName i v σ H P) : gName i v σ H P' := h _ _ q
end
end Rd

set_option Elab.async false
set_option linter.all false
set_option maxRecDepth 100000
set_option maxHeartbeats 2000000
namespace Rd
open PySem PySem.Spec PyProof.Rows L2
/-- a list or a tuple, walked -/
def iSeq (K : PySem.W.Frag) (tl : TE) : TI := fun σ H R => tl σ H fun x H1 => (∃ a, x = .ref a ∧ (∃ xs, SqL K H1 a xs) ∧ R (Itl K a) H1) ∨ (∃ a, x = .ref a ∧ (∃ xs, SqT K H1 a xs) ∧ R (Itt K a) H1)
theorem pi_seq {X : Cx} {tg l : Expr} {tl : TE} (hl : PE X l tl) : PI X tg l (iSeq X.K tl) := by
  refine ⟨fun pins s σ H R I h => ?_⟩
  refine thn (hl.run pins s σ H _ I h) fun v s1 ⟨x, H1, I1, r1, q1⟩ => ?_
  rcases q1 with ⟨a, e, ⟨xs, hq⟩, q⟩ | ⟨a, e, ⟨xs, hq⟩, q⟩
  · subst e
    cases r1
    obtain ⟨its, rv, p, hz⟩ := I1.list hq
    refine wpAny_pyIter_list p.isList ?_
    refine ⟨s1.heap.objs.size, [s1.heap.objs.size], _, _, H1, rfl, I1.kept (t' := s1.toks) fun b o e => Heap.get?_push_of_some _ e, turn_list a _, ⟨_, Heap.get?_push_size _ rfl, rfl, rfl⟩, fun b hb => ?_, q⟩
    rw [show b = s1.heap.objs.size by simpa using hb]
    exact I1.fpOk (Nat.le_refl _) (I1.hok.fresh (Nat.le_refl _))
  · subst e
    cases r1
    obtain ⟨its, rv, p, hz⟩ := I1.tuple hq
    refine wpAny_pyIter_tuple (show s1.heap.IsTuple a its.toArray from p) ?_
    refine ⟨s1.heap.objs.size, [s1.heap.objs.size], _, _, H1, rfl, I1.kept (t' := s1.toks) fun b o e => Heap.get?_push_of_some _ e, turn_tuple a _, ⟨_, Heap.get?_push_size _ rfl, rfl, rfl⟩, fun b hb => ?_, q⟩
    rw [show b = s1.heap.objs.size by simpa using hb]
    exact I1.fpOk (Nat.le_refl _) (I1.hok.fresh (Nat.le_refl _))
theorem isq {K : PySem.W.Frag} {tl : TE} {σ : L2.St} {H : Hp} {R : It → Hp → Prop} (h : tl σ H fun x H1 => (∃ a, x = .ref a ∧ (∃ xs, SqL K H1 a xs) ∧ R (Itl K a) H1) ∨ (∃ a, x = .ref a ∧ (∃ xs, SqT K H1 a xs) ∧ R (Itt K a) H1)) : iSeq K tl σ H R := h
end Rd
namespace Rk
open PySem PySem.Spec PyProof.Rows L2 Rd
theorem psq {X : Cx} (K : PySem.W.Frag) (h : X.K = K) {tg l : Expr} {tl : TE} (hl : PE X l tl) : PI X tg l (iSeq K tl) := h ▸ pi_seq hl
end Rk

set_option Elab.async false
set_option linter.all false
set_option maxRecDepth 100000
set_option maxHeartbeats 2000000
/-! a < b < c < d -/
namespace Rd
open PySem PySem.Spec PyProof.Rows L2
def tChain3 (r r' r'' : R2) (ta tb tc td : TE) : TE := fun σ H Q => ta σ H fun x H1 => tb σ H1 fun y H2 => r x y H2 fun z H3 => ∃ k, z = .bl k ∧
  (if k = true then tc σ H3 fun w' H4 => r' y w' H4 fun z H5 => ∃ k, z = .bl k ∧ (if k = true then td σ H5 fun w2 H6 => r'' w' w2 H6 Q else Q (.bl false) H5) else Q (.bl false) H3)
theorem chain3 {r r' r'' : R2} {ta tb tc td : TE} {σ : L2.St} {H : Hp} {Q : VK} (h : ta σ H fun x H1 => tb σ H1 fun y H2 => r x y H2 fun z H3 => ∃ k, z = .bl k ∧
  (if k = true then tc σ H3 fun w' H4 => r' y w' H4 fun z H5 => ∃ k, z = .bl k ∧ (if k = true then td σ H5 fun w2 H6 => r'' w' w2 H6 Q else Q (.bl false) H5) else Q (.bl false) H3)) : tChain3 r r' r'' ta tb tc td σ H Q := h
section
variable {X : Cx} {a b c d : Expr} {ta tb tc td : TE} {pos : Pos}
theorem pt_chain3 {op op' op2 : CmpOp} {r r' r2 : R2} (ho : OpR X (compareOp op) r) (ho' : OpR X (compareOp op') r') (ho2 : OpR X (compareOp op2) r2) (ha : PE X a ta) (hb : PE X b tb) (hc : PE X c tc) (hd : PE X d td)
    (hm : lastMarks [op, op', op2] [b, c, d] = false := by with_unfolding_all rfl) : PT X (.Compare a [op, op', op2] [b, c, d] pos) (tTest (tChain3 r r' r2 ta tb tc td)) := by
  refine ⟨fun pins s σ H Q I h => ?_⟩
  refine isTrue_chain (thn (ha.run pins s σ H _ I h) fun v s1 ⟨x, H1, I1, r1, q1⟩ => test_link (thn (hb.run pins s1 σ H1 _ I1 q1) fun u s2 ⟨y, H2, I2, r2, q2⟩ =>
    thn (ho pins s2 σ H2 x y v u _ I2 r1 r2 q2) fun d s3 ⟨z, H3, I3, r3, k, e, q3⟩ => ?_)) hm
  subst e
  cases r3
  refine wpAny_truthy_bool ?_
  cases k with
  | false =>
    obtain ⟨k', e', q'⟩ := q3
    cases e'
    exact ite_ff ⟨H3, I3, q'⟩
  | true =>
    refine ite_tt (test_link (thn (hc.run pins s3 σ H3 _ I3 q3) fun w' s4 ⟨z', H4, I4, r4, q4⟩ => thn (ho' pins s4 σ H4 y z' u w' _ I4 r2 r4 q4) fun d' s5 ⟨z2, H5, I5, r5, k2, e2, q5⟩ => ?_))
    subst e2
    cases r5
    refine wpAny_truthy_bool ?_
    cases k2 with
    | false =>
      obtain ⟨k', e', q'⟩ := q5
      cases e'
      exact ite_ff ⟨H5, I5, q'⟩
    | true =>
      refine ite_tt (test_last (thn (hd.run pins s5 σ H5 _ I5 q5) fun w2 s6 ⟨z3, H6, I6, r6, q6⟩ => thn (ho2 pins s6 σ H6 z' z3 w' w2 _ I6 r4 r6 q6) fun d' s7 ⟨z4, H7, I7, r7, k3, e3, q7⟩ => ?_))
      subst e3
      cases r7
      exact wpAny_truthy_bool ⟨H7, I7, q7⟩
end
end Rd

set_option Elab.async false
set_option linter.all false
namespace Rd
open PySem PySem.Spec PyProof.Rows L2 Rz Rx
theorem par {i j : Nat} {ta : TA} {D : Ends} {σ : L2.St} {H : Hp} (h : ta σ H fun vs H1 => ∃ v w, vs = [v, w] ∧ D.nx ((List.set σ i (some v)).set j (some w)) H1) : tPar i j ta D σ H := h
/-- one step of a reading, found by the goal's head -/
class Stp (A : Prop) (B : outParam Prop) : Prop where
  go : B → A
class Nth (σ : L2.St) (n : Nat) (v : outParam V) : Prop where
  eq : σ[n]? = some (some v)
instance Nth.zero {σ : L2.St} {v : V} : Nth (some v :: σ) 0 v := ⟨rfl⟩
instance Nth.succ {σ : L2.St} {x : Option V} {n : Nat} {v : V} [h : Nth σ n v] : Nth (x :: σ) (n + 1) v := ⟨by rw [List.getElem?_cons_succ]; exact h.eq⟩
class SetK (σ : L2.St) (n : Nat) (x : Option V) (σ' : outParam L2.St) : Prop where
  eq : SetR σ n x σ'
instance SetK.zero {a x : Option V} {l : L2.St} : SetK (a :: l) 0 x (x :: l) := ⟨.zero⟩
instance SetK.succ {a x : Option V} {l l' : L2.St} {n : Nat} [h : SetK l n x l'] : SetK (a :: l) (n + 1) x (a :: l') := ⟨.succ h.eq⟩
instance st_var {σ : L2.St} {n : Nat} {v : V} {H : Hp} {Q : VK} [e : Nth σ n v] : Stp (tVar n σ H Q) (Q v H) := ⟨fun h => var e.eq h⟩
instance st_nmR {n : Nat} {v : V} {σ σ' : L2.St} {H : Hp} {P : L2.St → Hp → Prop} [r : SetK σ n (some v) σ'] : Stp (gName n v σ H P) (P σ' H) := ⟨fun h => nmR r.eq h⟩
section
variable {D : Ends} {σ : L2.St} {H : Hp} {t u : TS} {te ta tb tc : TE} {g : TG} {Q : VK} {v x y z : V} {c c1 c2 : TT} {i j : Int} {n : Nat} {K : PySem.W.Frag} {r r' : R2}
instance st_nxt  : Stp (tNext D σ H)
  (D.nx σ H) := ⟨fun h => nxt h⟩
end
section
variable {D : Ends} {σ : L2.St} {H : Hp} {t u : TS} {te ta tb tc : TE} {g : TG} {Q : VK} {v x y z : V} {c c1 c2 : TT} {i j : Int} {n : Nat} {K : PySem.W.Frag} {r r' : R2}
instance st_asg  : Stp (tAsg te g D σ H)
  (te σ H fun x H1 => g x σ H1 D.nx) := ⟨fun h => asg h⟩
end
section
variable {D : Ends} {σ : L2.St} {H : Hp} {t u : TS} {te ta tb tc : TE} {g : TG} {Q : VK} {v x y z : V} {c c1 c2 : TT} {i j : Int} {n : Nat} {K : PySem.W.Frag} {r r' : R2}
instance st_sub {to ti : TE} {t : TSet} {P : L2.St → Hp → Prop} : Stp (gSub to ti t v σ H P)
  (to σ H fun o H1 => ti σ H1 fun i H2 => t o i v H2 fun H3 => P σ H3) := ⟨fun h => sub h⟩
end
section
variable {D : Ends} {σ : L2.St} {H : Hp} {t u : TS} {te ta tb tc : TE} {g : TG} {Q : VK} {v x y z : V} {c c1 c2 : TT} {i j : Int} {n : Nat} {K : PySem.W.Frag} {r r' : R2}
instance st_con  : Stp (tC v σ H Q)
  (Q v H) := ⟨fun h => con h⟩
end
section
variable {D : Ends} {σ : L2.St} {H : Hp} {t u : TS} {te ta tb tc : TE} {g : TG} {Q : VK} {v x y z : V} {c c1 c2 : TT} {i j : Int} {n : Nat} {K : PySem.W.Frag} {r r' : R2}
instance st_op  : Stp (tOp r ta tb σ H Q)
  (ta σ H fun x H1 => tb σ H1 fun y H2 => r x y H2 Q) := ⟨fun h => op h⟩
end
section
variable {D : Ends} {σ : L2.St} {H : Hp} {t u : TS} {te ta tb tc : TE} {g : TG} {Q : VK} {v x y z : V} {c c1 c2 : TT} {i j : Int} {n : Nat} {K : PySem.W.Frag} {r r' : R2}
instance st_i0 {f : Int → Int → V} : Stp (rI0 f (.int i) (.int j) H Q)
  (Q (f i j) H) := ⟨fun h => i0 h⟩
end
section
variable {D : Ends} {σ : L2.St} {H : Hp} {t u : TS} {te ta tb tc : TE} {g : TG} {Q : VK} {v x y z : V} {c c1 c2 : TT} {i j : Int} {n : Nat} {K : PySem.W.Frag} {r r' : R2}
instance st_un {r : V → Hp → VK → Prop} : Stp (tUn r ta σ H Q)
  (ta σ H fun x H1 => r x H1 Q) := ⟨fun h => un h⟩
end
section
variable {D : Ends} {σ : L2.St} {H : Hp} {t u : TS} {te ta tb tc : TE} {g : TG} {Q : VK} {v x y z : V} {c c1 c2 : TT} {i j : Int} {n : Nat} {K : PySem.W.Frag} {r r' : R2}
instance st_u0 {f : Int → V} : Stp (rU f (.int i) H Q)
  (Q (f i) H) := ⟨fun h => u0 h⟩
end
section
variable {D : Ends} {σ : L2.St} {H : Hp} {t u : TS} {te ta tb tc : TE} {g : TG} {Q : VK} {v x y z : V} {c c1 c2 : TT} {i j : Int} {n : Nat} {K : PySem.W.Frag} {r r' : R2}
instance st_eqI  : Stp (rEq (.int i) (.int j) H Q)
  (Q (.bl (decide (i = j))) H) := ⟨fun h => eqI h⟩
end
section
variable {D : Ends} {σ : L2.St} {H : Hp} {t u : TS} {te ta tb tc : TE} {g : TG} {Q : VK} {v x y z : V} {c c1 c2 : TT} {i j : Int} {n : Nat} {K : PySem.W.Frag} {r r' : R2}
instance st_neI  : Stp (rNe (.int i) (.int j) H Q)
  (Q (.bl (!decide (i = j))) H) := ⟨fun h => neI h⟩
end
section
variable {D : Ends} {σ : L2.St} {H : Hp} {t u : TS} {te ta tb tc : TE} {g : TG} {Q : VK} {v x y z : V} {c c1 c2 : TT} {i j : Int} {n : Nat} {K : PySem.W.Frag} {r r' : R2}
instance st_eqB {a b : Bool} : Stp (rEq (.bl a) (.bl b) H Q)
  (Q (.bl (a == b)) H) := ⟨fun h => eqB h⟩
end
section
variable {D : Ends} {σ : L2.St} {H : Hp} {t u : TS} {te ta tb tc : TE} {g : TG} {Q : VK} {v x y z : V} {c c1 c2 : TT} {i j : Int} {n : Nat} {K : PySem.W.Frag} {r r' : R2}
instance st_tst {P : Bool → Hp → Prop} : Stp (tTest te σ H P)
  (te σ H fun x H' => ∃ k, x = .bl k ∧ P k H') := ⟨fun h => tst h⟩
end
section
variable {D : Ends} {σ : L2.St} {H : Hp} {t u : TS} {te ta tb tc : TE} {g : TG} {Q : VK} {v x y z : V} {c c1 c2 : TT} {i j : Int} {n : Nat} {K : PySem.W.Frag} {r r' : R2}
instance st_tB_ {P : Bool → Hp → Prop} : Stp (tB te σ H P)
  (te σ H fun x H' => ∃ k, x = .bl k ∧ P k H') := ⟨fun h => tB_ h⟩
end
section
variable {D : Ends} {σ : L2.St} {H : Hp} {t u : TS} {te ta tb tc : TE} {g : TG} {Q : VK} {v x y z : V} {c c1 c2 : TT} {i j : Int} {n : Nat} {K : PySem.W.Frag} {r r' : R2}
instance st_exb {P : Bool → Prop} {b : Bool} : Stp (∃ k, V.bl b = .bl k ∧ P k)
  (P b) := ⟨fun h => exb h⟩
end
section
variable {D : Ends} {σ : L2.St} {H : Hp} {t u : TS} {te ta tb tc : TE} {g : TG} {Q : VK} {v x y z : V} {c c1 c2 : TT} {i j : Int} {n : Nat} {K : PySem.W.Frag} {r r' : R2}
instance st_ifS  : Stp (tIfS c t u D σ H)
  (c σ H fun b H1 => if b = true then t D σ H1 else u D σ H1) := ⟨fun h => ifS h⟩
end
section
variable {D : Ends} {σ : L2.St} {H : Hp} {t u : TS} {te ta tb tc : TE} {g : TG} {Q : VK} {v x y z : V} {c c1 c2 : TT} {i j : Int} {n : Nat} {K : PySem.W.Frag} {r r' : R2}
instance st_ret  : Stp (tRet te D σ H)
  (te σ H D.rt) := ⟨fun h => ret h⟩
end
section
variable {D : Ends} {σ : L2.St} {H : Hp} {t u : TS} {te ta tb tc : TE} {g : TG} {Q : VK} {v x y z : V} {c c1 c2 : TT} {i j : Int} {n : Nat} {K : PySem.W.Frag} {r r' : R2}
instance st_retN  : Stp (tRetN D σ H)
  (D.rt .non H) := ⟨fun h => retN h⟩
end
section
variable {D : Ends} {σ : L2.St} {H : Hp} {t u : TS} {te ta tb tc : TE} {g : TG} {Q : VK} {v x y z : V} {c c1 c2 : TT} {i j : Int} {n : Nat} {K : PySem.W.Frag} {r r' : R2}
instance st_drop  : Stp (tDrop te D σ H)
  (te σ H fun _ H1 => D.nx σ H1) := ⟨fun h => drop h⟩
end
section
variable {D : Ends} {σ : L2.St} {H : Hp} {t u : TS} {te ta tb tc : TE} {g : TG} {Q : VK} {v x y z : V} {c c1 c2 : TT} {i j : Int} {n : Nat} {K : PySem.W.Frag} {r r' : R2}
instance st_nil {P : List V → Hp → Prop} : Stp (tNil σ H P)
  (P [] H) := ⟨fun h => nil h⟩
end
section
variable {D : Ends} {σ : L2.St} {H : Hp} {t u : TS} {te ta tb tc : TE} {g : TG} {Q : VK} {v x y z : V} {c c1 c2 : TT} {i j : Int} {n : Nat} {K : PySem.W.Frag} {r r' : R2}
instance st_cons {ts : TA} {P : List V → Hp → Prop} : Stp (tCons ta ts σ H P)
  (ta σ H fun x H1 => ts σ H1 fun xs H2 => P (x :: xs) H2) := ⟨fun h => cons h⟩
end
section
variable {D : Ends} {σ : L2.St} {H : Hp} {t u : TS} {te ta tb tc : TE} {g : TG} {Q : VK} {v x y z : V} {c c1 c2 : TT} {i j : Int} {n : Nat} {K : PySem.W.Frag} {r r' : R2}
instance st_cb {r : List V → Hp → VK → Prop} {ts : TA} : Stp (tCB r ts σ H Q)
  (ts σ H fun vs H1 => r vs H1 Q) := ⟨fun h => cb h⟩
end
section
variable {D : Ends} {σ : L2.St} {H : Hp} {t u : TS} {te ta tb tc : TE} {g : TG} {Q : VK} {v x y z : V} {c c1 c2 : TT} {i j : Int} {n : Nat} {K : PySem.W.Frag} {r r' : R2}
instance st_call {sp : Sp} {E : XK} {ts : TA} : Stp (tCall sp [] E ts σ H Q)
  (ts σ H fun vs H1 => sp (vs ++ []) H1 Q E) := ⟨fun h => call h⟩
end
section
variable {D : Ends} {σ : L2.St} {H : Hp} {t u : TS} {te ta tb tc : TE} {g : TG} {Q : VK} {v x y z : V} {c c1 c2 : TT} {i j : Int} {n : Nat} {K : PySem.W.Frag} {r r' : R2}
instance st_andT {P : Bool → Hp → Prop} : Stp (tAnd c1 c2 σ H P)
  (c1 σ H fun b H1 => if b = true then c2 σ H1 P else P false H1) := ⟨fun h => andT h⟩
end
section
variable {D : Ends} {σ : L2.St} {H : Hp} {t u : TS} {te ta tb tc : TE} {g : TG} {Q : VK} {v x y z : V} {c c1 c2 : TT} {i j : Int} {n : Nat} {K : PySem.W.Frag} {r r' : R2}
instance st_orT {P : Bool → Hp → Prop} : Stp (tOr c1 c2 σ H P)
  (c1 σ H fun b H1 => if b = true then P true H1 else c2 σ H1 P) := ⟨fun h => orT h⟩
end
section
variable {D : Ends} {σ : L2.St} {H : Hp} {t u : TS} {te ta tb tc : TE} {g : TG} {Q : VK} {v x y z : V} {c c1 c2 : TT} {i j : Int} {n : Nat} {K : PySem.W.Frag} {r r' : R2}
instance st_notT {P : Bool → Hp → Prop} : Stp (tNot c σ H P)
  (c σ H fun b H1 => P (!b) H1) := ⟨fun h => notT h⟩
end
section
variable {D : Ends} {σ : L2.St} {H : Hp} {t u : TS} {te ta tb tc : TE} {g : TG} {Q : VK} {v x y z : V} {c c1 c2 : TT} {i j : Int} {n : Nat} {K : PySem.W.Frag} {r r' : R2}
instance st_andV  : Stp (tAndV ta tb σ H Q)
  (ta σ H fun x H1 => ∃ c, x = .bl c ∧ if c = true then tb σ H1 Q else Q (.bl false) H1) := ⟨fun h => andV h⟩
end
section
variable {D : Ends} {σ : L2.St} {H : Hp} {t u : TS} {te ta tb tc : TE} {g : TG} {Q : VK} {v x y z : V} {c c1 c2 : TT} {i j : Int} {n : Nat} {K : PySem.W.Frag} {r r' : R2}
instance st_orV  : Stp (tOrV ta tb σ H Q)
  (ta σ H fun x H1 => ∃ c, x = .bl c ∧ if c = true then Q (.bl true) H1 else tb σ H1 Q) := ⟨fun h => orV h⟩
end
section
variable {D : Ends} {σ : L2.St} {H : Hp} {t u : TS} {te ta tb tc : TE} {g : TG} {Q : VK} {v x y z : V} {c c1 c2 : TT} {i j : Int} {n : Nat} {K : PySem.W.Frag} {r r' : R2}
instance st_notV  : Stp (tNotV ta σ H Q)
  (ta σ H fun x H1 => ∃ c, x = .bl c ∧ Q (.bl (!c)) H1) := ⟨fun h => notV h⟩
end
section
variable {D : Ends} {σ : L2.St} {H : Hp} {t u : TS} {te ta tb tc : TE} {g : TG} {Q : VK} {v x y z : V} {c c1 c2 : TT} {i j : Int} {n : Nat} {K : PySem.W.Frag} {r r' : R2}
instance st_chain  : Stp (tChain r r' ta tb tc σ H Q)
  (ta σ H fun x H1 => tb σ H1 fun y H2 => r x y H2 fun z H3 => ∃ k, z = .bl k ∧ (if k = true then tc σ H3 fun w' H4 => r' y w' H4 Q else Q (.bl false) H3)) := ⟨fun h => chain h⟩
end
section
variable {D : Ends} {σ : L2.St} {H : Hp} {t u : TS} {te ta tb tc : TE} {g : TG} {Q : VK} {v x y z : V} {c c1 c2 : TT} {i j : Int} {n : Nat} {K : PySem.W.Frag} {r r' : R2}
instance st_lst {ts : TA} : Stp (tLst ts σ H Q)
  (ts σ H fun xs H1 => xs.length ≤ sizeLine ∧ ∀ p, H1 p = none → Q (.ref p) (upd H1 p (.lst xs))) := ⟨fun h => lst h⟩
end
section
variable {D : Ends} {σ : L2.St} {H : Hp} {t u : TS} {te ta tb tc : TE} {g : TG} {Q : VK} {v x y z : V} {c c1 c2 : TT} {i j : Int} {n : Nat} {K : PySem.W.Frag} {r r' : R2}
instance st_tup {ts : TA} : Stp (tTup ts σ H Q)
  (ts σ H fun xs H1 => xs.length ≤ sizeLine ∧ ∀ p, H1 p = none → Q (.ref p) (upd H1 p (.tup xs))) := ⟨fun h => tup h⟩
end
section
variable {D : Ends} {σ : L2.St} {H : Hp} {t u : TS} {te ta tb tc : TE} {g : TG} {Q : VK} {v x y z : V} {c c1 c2 : TT} {i j : Int} {n : Nat} {K : PySem.W.Frag} {r r' : R2}
instance st_for_ {wi : TI} {tb : TS} : Stp (tFor wi g tb D σ H)
  (wi σ H fun J H1 => ∃ W : Nat → Nat → L2.St → Hp → Prop, (∃ m, W 0 m σ H1) ∧ ∀ i m σ H, W i m σ H →
  (J.stop i H ∧ D.nx σ H) ∨ (J.go i H ∧ ∃ N : L2.St → Hp → Prop, (∀ σ' H', N σ' H' → ∃ m', m' < m ∧ W (i + 1) m' σ' H') ∧ ∀ x H', J.yld i H x H' → g x σ H' fun σ2 H2 => tb { D with nx := N, ct := N, bk := D.nx } σ2 H2)) := ⟨fun h => for_ h⟩
end
section
variable {D : Ends} {σ : L2.St} {H : Hp} {t u : TS} {te ta tb tc : TE} {g : TG} {Q : VK} {v x y z : V} {c c1 c2 : TT} {i j : Int} {n : Nat} {K : PySem.W.Frag} {r r' : R2}
instance st_rng1 {ts : TA} {R : It → Hp → Prop} : Stp (iRng1 ts σ H R)
  (ts σ H fun vs H1 => ∃ j : Int, vs = [.int j] ∧ -(2 ^ 62) ≤ j ∧ j < 2 ^ 62 ∧ R (Itr 0 j.toNat) H1) := ⟨fun h => rng1 h⟩
end
section
variable {D : Ends} {σ : L2.St} {H : Hp} {t u : TS} {te ta tb tc : TE} {g : TG} {Q : VK} {v x y z : V} {c c1 c2 : TT} {i j : Int} {n : Nat} {K : PySem.W.Frag} {r r' : R2}
instance st_lrg {te : L2.St → Hp → (Int → Int → Hp → Prop) → Prop} : Stp (tLstRg te σ H Q)
  (te σ H fun a b H1 => RgOk a b ∧ ∀ q, H1 q = none → Q (.ref q) (upd H1 q (.lst (rgV a b)))) := ⟨fun h => lrg h⟩
end
section
variable {D : Ends} {σ : L2.St} {H : Hp} {t u : TS} {te ta tb tc : TE} {g : TG} {Q : VK} {v x y z : V} {c c1 c2 : TT} {i j : Int} {n : Nat} {K : PySem.W.Frag} {r r' : R2}
instance st_rg1 {P : Int → Int → Hp → Prop} : Stp (tRg1 ta σ H P)
  (ta σ H fun x H1 => ∃ n, x = .int n ∧ P 0 n H1) := ⟨fun h => rg1 h⟩
end
section
variable {D : Ends} {σ : L2.St} {H : Hp} {t u : TS} {te ta tb tc : TE} {g : TG} {Q : VK} {v x y z : V} {c c1 c2 : TT} {i j : Int} {n : Nat} {K : PySem.W.Frag} {r r' : R2}
instance st_rg2 {P : Int → Int → Hp → Prop} : Stp (tRg2 ta tb σ H P)
  (ta σ H fun x H1 => tb σ H1 fun y H2 => ∃ i j, x = .int i ∧ y = .int j ∧ P i j H2) := ⟨fun h => rg2 h⟩
end
section
variable {D : Ends} {σ : L2.St} {H : Hp} {t u : TS} {te ta tb tc : TE} {g : TG} {Q : VK} {v x y z : V} {c c1 c2 : TT} {i j : Int} {n : Nat} {K : PySem.W.Frag} {r r' : R2}
instance st_exi {P : Int → Prop} : Stp (∃ n, V.int i = .int n ∧ P n)
  (P i) := ⟨fun h => exi h⟩
end
section
variable {D : Ends} {σ : L2.St} {H : Hp} {t u : TS} {te ta tb tc : TE} {g : TG} {Q : VK} {v x y z : V} {c c1 c2 : TT} {i j : Int} {n : Nat} {K : PySem.W.Frag} {r r' : R2}
instance st_exi2 {P : Int → Int → Prop} : Stp (∃ a b, V.int i = .int a ∧ V.int j = .int b ∧ P a b)
  (P i j) := ⟨fun h => exi2 h⟩
end
section
variable {D : Ends} {σ : L2.St} {H : Hp} {t u : TS} {te ta tb tc : TE} {g : TG} {Q : VK} {v x y z : V} {c c1 c2 : TT} {i j : Int} {n : Nat} {K : PySem.W.Frag} {r r' : R2}
instance st_rng2 {ts : TA} {R : It → Hp → Prop} : Stp (iRng2 ts σ H R)
  (ts σ H fun vs H1 => ∃ i j : Int, vs = [.int i, .int j] ∧ (-(2 ^ 62) ≤ i ∧ i < 2 ^ 62 ∧ -(2 ^ 62) ≤ j ∧ j < 2 ^ 62) ∧ R (Itr i (j - i).toNat) H1) := ⟨fun h => rng2 h⟩
end
section
variable {D : Ends} {σ : L2.St} {H : Hp} {t u : TS} {te ta tb tc : TE} {g : TG} {Q : VK} {v x y z : V} {c c1 c2 : TT} {i j : Int} {n : Nat} {K : PySem.W.Frag} {r r' : R2}
instance st_itl {tl : TE} {R : It → Hp → Prop} : Stp (iList K tl σ H R)
  (tl σ H fun x H1 => ∃ a, x = .ref a ∧ (∃ xs, SqL K H1 a xs) ∧ R (Itl K a) H1) := ⟨fun h => itl h⟩
end
section
variable {D : Ends} {σ : L2.St} {H : Hp} {t u : TS} {te ta tb tc : TE} {g : TG} {Q : VK} {v x y z : V} {c c1 c2 : TT} {i j : Int} {n : Nat} {K : PySem.W.Frag} {r r' : R2}
instance st_itt {tl : TE} {R : It → Hp → Prop} : Stp (iTup K tl σ H R)
  (tl σ H fun x H1 => ∃ a, x = .ref a ∧ (∃ xs, SqT K H1 a xs) ∧ R (Itt K a) H1) := ⟨fun h => itt h⟩
end
section
variable {D : Ends} {σ : L2.St} {H : Hp} {t u : TS} {te ta tb tc : TE} {g : TG} {Q : VK} {v x y z : V} {c c1 c2 : TT} {i j : Int} {n : Nat} {K : PySem.W.Frag} {r r' : R2}
instance st_int1 {P : Int → Prop} {B : Prop} : Stp ((∃ j, [V.int i] = [.int j] ∧ P j) ∨ B)
  (P i) := ⟨fun h => int1 h⟩
end
section
variable {D : Ends} {σ : L2.St} {H : Hp} {t u : TS} {te ta tb tc : TE} {g : TG} {Q : VK} {v x y z : V} {c c1 c2 : TT} {i j : Int} {n : Nat} {K : PySem.W.Frag} {r r' : R2}
instance st_ex1 {P : Int → Prop} : Stp (∃ j, [V.int i] = [.int j] ∧ P j)
  (P i) := ⟨fun h => ex1 h⟩
end
section
variable {D : Ends} {σ : L2.St} {H : Hp} {t u : TS} {te ta tb tc : TE} {g : TG} {Q : VK} {v x y z : V} {c c1 c2 : TT} {i j : Int} {n : Nat} {K : PySem.W.Frag} {r r' : R2}
instance st_ex2 {P : Int → Int → Prop} : Stp (∃ a b, [V.int i, V.int j] = [.int a, .int b] ∧ P a b)
  (P i j) := ⟨fun h => ex2 h⟩
end
section
variable {D : Ends} {σ : L2.St} {H : Hp} {ta tv : TE} {Q : VK} {K : PySem.W.Frag} {f : Str} {a C dx : Addr} {fs : List (Str × V)} {v : V}
instance st_fld  : Stp (tFld K ta f σ H Q)
  (ta σ H fun x H1 => ∃ a C dx fs v, x = .ref a ∧ H1 a = some (.ins C dx fs) ∧ Cls K C ∧ NoAttr K C f ∧ fs.lookup f = some v ∧ Q v H1) := ⟨fun h => fld h⟩
end
section
variable {D : Ends} {σ : L2.St} {H : Hp} {ta tv : TE} {Q : VK} {K : PySem.W.Frag} {f : Str} {a C dx : Addr} {fs : List (Str × V)} {v : V}
instance st_sfld  : Stp (sFld K ta tv f D σ H)
  (tv σ H fun y H1 => ta σ H1 fun x H2 => ∃ a C dx fs, x = .ref a ∧ H2 a = some (.ins C dx fs) ∧ Cls K C ∧ NoAttr K C f ∧ fs.length < 1000 ∧ D.nx σ (upd H2 a (.ins C dx (putF f y fs)))) := ⟨fun h => sfld h⟩
end
section
variable {D : Ends} {σ : L2.St} {H : Hp} {ta tv : TE} {Q : VK} {K : PySem.W.Frag} {f : Str} {a C dx : Addr} {fs : List (Str × V)} {v : V}
instance st_meth {m : Str} {sp : Sp} {E : XK} {ts : TA} : Stp (tMeth C m sp [] E ta ts σ H Q)
  (ta σ H fun x H1 => ∃ a dx fs, x = .ref a ∧ H1 a = some (.ins C dx fs) ∧ fs.lookup m = none ∧ ts σ H1 fun vs H2 => sp (x :: (vs ++ [])) H2 Q E) := ⟨fun h => meth h⟩
end
section
variable {D : Ends} {σ : L2.St} {H : Hp} {ta tv : TE} {Q : VK} {K : PySem.W.Frag} {f : Str} {a C dx : Addr} {fs : List (Str × V)} {v : V}
instance st_make {sp : Sp} {E : XK} {ts : TA} : Stp (tMake C sp [] E ts σ H Q)
  (ts σ H fun vs H1 => ∀ x dx, H1 x = none → H1 dx = none → dx ≠ x → sp (.ref x :: (vs ++ [])) (upd (upd H1 dx (.own x)) x (.ins C dx [])) (fun v H2 => v = .non ∧ Q (.ref x) H2) E) := ⟨fun h => make h⟩
end
section
variable {X : Cx}
instance st_bm {K : PySem.W.Frag} {T : String} {σ : L2.St} {H : Hp} {to : TE} {t : TA} {r : V → List V → Hp → VK → Prop} {Q : VK} : Stp (tBM K T r to t σ H Q)
  (to σ H fun x H1 => tyV K T x H1 ∧ t σ H1 fun xs H2 => r x xs H2 Q) := ⟨fun h => bm h⟩
end
section
variable {X : Cx}
instance st_bm0 {K : PySem.W.Frag} {T : String} {σ : L2.St} {H : Hp} {to : TE} {r : V → List V → Hp → VK → Prop} {Q : VK} : Stp (tBM0 K T r to σ H Q)
  (to σ H fun x H1 => tyV K T x H1 ∧ r x [] H1 Q) := ⟨fun h => bm0 h⟩
end
section
variable {X : Cx}
instance st_bt {σ : L2.St} {H : Hp} {to : TE} {t : TA} {r : V → List V → Hp → VK → Prop} {Q : VK} : Stp (tBT r to t σ H Q)
  (to σ H fun x H1 => (∃ p xs, x = .ref p ∧ TupN H1 p xs) ∧ t σ H1 fun xs H2 => r x xs H2 Q) := ⟨fun h => bt h⟩
end
section
variable {J : It} {xs : List V} {j : Nat} {te : TE} {vs : List Nat} {σ : L2.St} {H : Hp} {Q : VK} {D : Addr} {Qd : Addr → Hp → Prop}
instance st_lc {wi : TI} {g : TG} {tt : TT} : Stp (tLc wi g tt te vs σ H Q)
  (wi σ H fun J H1 => ∀ D, H1 D = none → ∃ W : Nat → Nat → Hp → Prop, (∃ m, W 0 m (upd H1 D (.lst []))) ∧ ∀ i m H, W i m H →
  (J.stop i H ∧ Q (.ref D) H) ∨ (J.go i H ∧ ∃ Nx : Hp → Prop, (∀ H', Nx H' → ∃ m', m' < m ∧ W (i + 1) m' H')
        ∧ ∀ x H', J.yld i H x H' → g x (wipe σ vs) H' fun σ2 H2 => wipe σ2 vs = wipe σ vs ∧ tt σ2 H2 fun b H3 =>
    if b = true then te σ2 H3 fun y H4 => ∃ acc, H4 D = some (.lst acc) ∧ acc.length < sizeLine ∧ Nx (upd H4 D (.lst (acc ++ [y]))) else Nx H3)) := ⟨fun h => lc h⟩
end
section

instance st_enT {K : PySem.W.Frag} {ta : TA} {σ : L2.St} {H : Hp} {R : It → Hp → Prop} : Stp (Rx.iEnumT K ta σ H R)
  (ta σ H fun vs H1 => ∃ a xs, vs = [.ref a] ∧ SqT K H1 a xs ∧ R (Rx.IteT K a) H1) := ⟨fun h => enT h⟩
end
section

instance st_enL {K : PySem.W.Frag} {ta : TA} {σ : L2.St} {H : Hp} {R : It → Hp → Prop} : Stp (iEnum K ta σ H R)
  (ta σ H fun vs H1 => ∃ a xs, vs = [.ref a] ∧ SqL K H1 a xs ∧ R (Ite K a) H1) := ⟨fun h => enL h⟩
end
section
variable {K : PySem.W.Frag} {σ : L2.St} {H : Hp} {R : It → Hp → Prop} {ta : TA} {te : TE} {Q : VK}
instance st_z2  : Stp (iZip2 K ta σ H R)
  (ta σ H fun vs H1 => ∃ a b k1 k2 xs ys, vs = [.ref a, .ref b] ∧ SqK k1 K H1 a xs ∧ SqK k2 K H1 b ys ∧ R (It2 K k1 k2 a b) H1) := ⟨fun h => z2 h⟩
end
section
variable {K : PySem.W.Frag} {σ : L2.St} {H : Hp} {R : It → Hp → Prop} {ta : TA} {te : TE} {Q : VK}
instance st_z3  : Stp (iZip3 K ta σ H R)
  (ta σ H fun vs H1 => ∃ a b c k1 k2 k3 xs ys zs, vs = [.ref a, .ref b, .ref c] ∧ SqK k1 K H1 a xs ∧ SqK k2 K H1 b ys ∧ SqK k3 K H1 c zs ∧ R (It3 K k1 k2 k3 a b c) H1) := ⟨fun h => z3 h⟩
end
section
variable {K : PySem.W.Frag} {σ : L2.St} {H : Hp} {R : It → Hp → Prop} {ta : TA} {te : TE} {Q : VK}
instance st_revA  : Stp (RT.iRevA K te σ H R)
  (te σ H fun v H1 => ∃ (a : Addr) (xs : List V), v = .ref a ∧ ((SqL K H1 a xs ∧ R (Itv K a xs.length) H1) ∨ (SqT K H1 a xs ∧ R (RT.ItvT K a xs.length) H1))) := ⟨fun h => revA h⟩
end
section
variable {K : PySem.W.Frag} {σ : L2.St} {H : Hp} {R : It → Hp → Prop} {ta : TA} {te : TE} {Q : VK}
instance st_revL  : Stp (tRevL K te σ H Q)
  (te σ H fun x H1 => ∃ a xs, x = .ref a ∧ SqL K H1 a xs ∧ ∀ p, H1 p = none → Q (.ref p) (upd H1 p (.lst xs.reverse))) := ⟨fun h => revL h⟩
end
section
variable {K : PySem.W.Frag} {σ : L2.St} {H : Hp} {R : It → Hp → Prop} {ta : TA} {te : TE} {Q : VK}
instance st_star {t : TA} {P : List V → Hp → Prop} : Stp (StX.tStar K te t σ H P)
  (te σ H fun x H1 => ∃ p xs, x = V.ref p ∧ (SqT K H1 p xs ∨ SqL K H1 p xs) ∧ t σ H1 fun ys H2 => P (xs ++ ys) H2) := ⟨fun h => star h⟩
end
section
variable {K : PySem.W.Frag} {σ : L2.St} {H : Hp} {R : It → Hp → Prop} {ta : TA} {te : TE} {Q : VK}
instance st_lc2 {wi wi1 : TI} {g g1 : TG} {tt tt1 : TT} {vs vs1 : List Nat} : Stp (tLc2 wi g tt wi1 g1 tt1 te vs vs1 σ H Q)
  (wi σ H fun J H1 => ∀ D, H1 D = none → ∃ W : Nat → Nat → Hp → Prop, (∃ m, W 0 m (upd H1 D (.lst []))) ∧ ∀ i m H, W i m H →
  (J.stop i H ∧ Q (.ref D) H) ∨ (J.go i H ∧ ∃ Nx : Hp → Prop, (∀ H', Nx H' → ∃ m', m' < m ∧ W (i + 1) m' H') ∧ ∀ x H', J.yld i H x H' → g x (wipe σ vs) H' fun σ2 H2 => wipe σ2 vs = wipe σ vs ∧ tt σ2 H2 fun b H3 =>
    if b = true then wi1 σ2 H3 fun J1 H4 => ∃ W1 : Nat → Nat → Hp → Prop, (∃ m, W1 0 m H4) ∧ ∀ j k H, W1 j k H →
      (J1.stop j H ∧ Nx H) ∨ (J1.go j H ∧ ∃ Nx1 : Hp → Prop, (∀ H', Nx1 H' → ∃ k', k' < k ∧ W1 (j + 1) k' H') ∧ ∀ x H', J1.yld j H x H' → g1 x (wipe σ2 vs1) H' fun σ3 H5 => wipe σ3 vs1 = wipe σ2 vs1 ∧ tt1 σ3 H5 fun b H6 =>
        if b = true then te σ3 H6 fun y H7 => ∃ acc, H7 D = some (.lst acc) ∧ acc.length < sizeLine ∧ Nx1 (upd H7 D (.lst (acc ++ [y]))) else Nx1 H6)
    else Nx H3)) := ⟨fun h => lc2 h⟩
end
section
variable {X : Cx} {x : Str} {p pos : Pos} {e : Expr} {es : List Expr} {kws : List Keyword} {ts tk : TA} {k n : Nat} {ps ks : List Str} {sp : Sp} {CX : CXT} {E : XK}
instance st_callN {m : Nat} {gV : List V → List V → List V} {σ : L2.St} {H : Hp} {Q : VK} : Stp (tCallN n m sp gV E ts tk σ H Q)
  (ts σ H fun vs H1 => tk σ H1 fun zs H2 => vs.length = n ∧ zs.length = m ∧ sp (gV vs zs) H2 Q E) := ⟨fun h => callN h⟩
end
section

instance st_chain3 {r r' r'' : R2} {ta tb tc td : TE} {σ : L2.St} {H : Hp} {Q : VK} : Stp (tChain3 r r' r'' ta tb tc td σ H Q)
  (ta σ H fun x H1 => tb σ H1 fun y H2 => r x y H2 fun z H3 => ∃ k, z = .bl k ∧
  (if k = true then tc σ H3 fun w' H4 => r' y w' H4 fun z H5 => ∃ k, z = .bl k ∧ (if k = true then td σ H5 fun w2 H6 => r'' w' w2 H6 Q else Q (.bl false) H5) else Q (.bl false) H3)) := ⟨fun h => chain3 h⟩
end
section

instance st_stat {C : Addr} {sp : Sp} {E : XK} {ta : TE} {t : TA} {σ : L2.St} {H : Hp} {Q : VK} : Stp (tStat C sp E ta t σ H Q)
  (ta σ H fun x H1 => x = .ref C ∧ t σ H1 fun vs H2 => sp vs H2 Q E) := ⟨fun h => stat h⟩
end
end Rd


set_option Elab.async false
set_option linter.all false
set_option maxRecDepth 100000
set_option maxHeartbeats 4000000
namespace K08
open PySem L2 Rd GT
local macro_rules | `(tactic| walk_at "st1") => `(tactic| first | with_reducible refine' Rd.Stp.go ?_ | with_reducible refine' Rd.seq ?_)
local macro_rules | `(tactic| walk_at "st") => `(tactic| repeat (first | with_reducible refine' Rd.Stp.go ?_ | with_reducible refine' Rd.seq ?_ | ((with_reducible refine' Rd.nmR ?hr ?_); (case hr => repeat (first | exact Rd.SetR.zero | apply Rd.SetR.succ))) | ((with_reducible refine' Rd.var ?hv ?_); (case hv => rfl))))
local macro_rules | `(tactic| walk_at "sj") => `(tactic| repeat (first | with_reducible refine' Rd.Stp.go ?_ | with_reducible refine' Rd.seqA ?_ | with_reducible refine' Rd.seqD ?_ | with_reducible refine' Rd.seqF ?_ | with_reducible refine' Rd.seqW ?_ | ((with_reducible refine' Rd.nmR ?hr ?_); (case hr => repeat (first | exact Rd.SetR.zero | apply Rd.SetR.succ))) | ((with_reducible refine' Rd.var ?hv ?_); (case hv => rfl))))
local macro_rules | `(tactic| walk_at "sm") => `(tactic| first | exact Same.refl _ | assumption | (apply Rd.sm_tr; assumption; walk_at "sm") | fail)
local macro_rules | `(tactic| walk_at "fr") => `(tactic| with_reducible first
  | assumption
  | (apply Rd.fr_some; assumption; walk_at "fr") | (apply Rd.fr_tupN; assumption; walk_at "fr") | (apply Rd.fr_tupX; assumption; walk_at "fr")
  | (apply Rd.fr_grp; assumption; walk_at "fr") | (apply Rd.fr_rows; assumption; walk_at "fr") | (apply Rd.fr_rowL; assumption; walk_at "fr") | (apply Rd.fr_DD; assumption; walk_at "fr")
  | (apply Rd.fr_sqL; walk_at "fr") | fail)
structure Txt (K : PySem.W.Frag) (mg : Str → Option Value) : Prop where
  len : mg "len" = none
  tuple : mg "tuple" = none
  list : mg "list" = none
  range : mg "range" = none
  all : mg "all" = none
  enumerate : mg "enumerate" = none
  sorted : mg "sorted" = none
  int : mg "int" = none
  bool : mg "bool" = none
  abs : mg "abs" = none
  isinstance : mg "isinstance" = none
  str : mg "str" = none
  dict : mg "dict" = none
  zip : mg "zip" = none
  sum : mg "sum" = none
  reversed : mg "reversed" = none
  ValueError : mg "ValueError" = none
  LIMIT : ∃ t, mg "LIMIT" = some (.int 32 t)
  ex_LimitExceeded : ExF K mg "LimitExceeded" (He.ga K "LimitExceeded")
  ex_InvalidGroup : ExF K mg "InvalidGroup" (He.ga K "InvalidGroup")
  ex_InvalidElement : ExF K mg "InvalidElement" (He.ga K "InvalidElement")
  ex_InvalidTarget : ExF K mg "InvalidTarget" (He.ga K "InvalidTarget")
  ex_InvalidValue : ExF K mg "InvalidValue" (He.ga K "InvalidValue")
  ex_InvalidVector : ExF K mg "InvalidVector" (He.ga K "InvalidVector")
  ex_Mismatch : ExF K mg "Mismatch" (He.ga K "Mismatch")
  ex_StepError : ExF K mg "StepError" (He.ga K "StepError")
  cl : Cls K (He.ga K "Group")
  nO : NoAttr K (He.ga K "Group") "order"
  nR : NoAttr K (He.ga K "Group") "rows"
  nI : NoAttr K (He.ga K "Group") "inverses"
  lcm : mg "lcm" = some (.builtin "math.lcm")
  tcl : Cls K (He.ga K "Target")
  tM : NoAttr K (He.ga K "Target") "moduli"
  tO : NoAttr K (He.ga K "Target") "order"
  tE : NoAttr K (He.ga K "Target") "exponent"
  tZ : NoAttr K (He.ga K "Target") "zero"
  mcl : Cls K (He.ga K "GroupMap")
  mG : NoAttr K (He.ga K "GroupMap") "group"
  mT : NoAttr K (He.ga K "GroupMap") "target"
  mI : NoAttr K (He.ga K "GroupMap") "images"
  ne_Group : PySem.W.findIn K (.ref (He.ga K "Group")) "__ne__" = some (some (.builtin "object.__ne__"))
  mo_Group : PySem.W.mroIn K (He.ga K "Group") (.type "object") = some true
  ne_Target : PySem.W.findIn K (.ref (He.ga K "Target")) "__ne__" = some (some (.builtin "object.__ne__"))
  mo_Target : PySem.W.mroIn K (He.ga K "Target") (.type "object") = some true
  g_GM : mg "GroupMap" = some (.ref (He.ga K "GroupMap"))
/-! ### the checks of Group.__init__ -/
def sp_shape : Sp := fun vs H Q _ => ∃ (R : Addr) (rs : List Addr) (t : List (List Int)), vs = [.ref R] ∧ TupN H R (rs.map V.ref) ∧ Rows TupN H rs t ∧ t.length ≤ 32 ∧ ∀ (b : Bool) (H' : Hp), (b = true ↔ Sq t) → Same H H' → Q (.bl b) H'
def sp_idn : Sp := fun vs H Q _ => ∃ (R : Addr) (rs : List Addr) (t : List (List Int)), vs = [.ref R] ∧ TupN H R (rs.map V.ref) ∧ Rows TupN H rs t ∧ t.length ≤ 32 ∧ Sq t ∧ ∀ (b : Bool) (H' : Hp), (b = true ↔ Idn t) → Same H H' → Q (.bl b) H'
def sp_invs : Sp := fun vs H Q _ => ∃ (R : Addr) (rs : List Addr) (t : List (List Int)), vs = [.ref R] ∧ TupN H R (rs.map V.ref) ∧ Rows TupN H rs t ∧ t.length ≤ 32 ∧ ∀ (b : Bool) (H' : Hp), (b = true ↔ GT.Inv t) → Same H H' → Q (.bl b) H'
def sp_asc : Sp := fun vs H Q _ => ∃ (R : Addr) (rs : List Addr) (t : List (List Int)), vs = [.ref R] ∧ TupN H R (rs.map V.ref) ∧ Rows TupN H rs t ∧ t.length ≤ 32 ∧ Sq t ∧ ∀ (b : Bool) (H' : Hp), (b = true ↔ Asc t) → Same H H' → Q (.bl b) H'
section
variable {P : Program} {w : World} {K : PySem.W.Frag} {mg : Str → Option Value} {base : Heap} {f : Addr} {fd : FuncData}
theorem sc__has_shape : FnScope ["rows", "order", "row", "entry"] ["rows"] (defScope s__has_shape) := ⟨rfl, rfl, rfl, by decide +kernel, rfl, by decide +kernel, by decide +kernel⟩
theorem ok_shape (F : FnP K "_has_shape" "_has_shape" s__has_shape f fd) (T : Txt K mg) : FnOk P w K mg base CX0 1 f fd ["rows"] sp_shape := by
  refine F.ok sc__has_shape (fun vs H Q E h => ?_) (fun cdv A outer s H vs Q E hr h => ?_)
  · obtain ⟨_, _, _, rfl, _⟩ := h; rfl
  obtain ⟨R, rs, t, rfl, hR, rw_, h32, k⟩ := h
  refine ⟨_, PSs.nox (pss_cons (ps_set (i := 1) sc__has_shape.nd rfl (Or.inr rfl) (pe_callB (Rk.len K) rfl T.len PySem.boot_len (pa_cons (pv 0) pa_nil)))
  (pss_cons (ps_if (pt_cmpR op_eq (pv 1) pe_int (nomark _))
  (pss_one (ps_ret pe_bl))
  pss_nil)
  (pss_cons (ps_for PassesOwn.never rfl (Rk.pt K rfl (pv 0)) (pg_name (i := 2) sc__has_shape.nd rfl (Or.inl rfl))
  (pss_one (ps_if (PW.pt (pw_or (pt_cmpR op_ne (pe_callB (Rk.len K) rfl T.len PySem.boot_len (pa_cons (pv 2) pa_nil)) (pv 1) (nomark _)) (pw_or1 (pt_not (pt_val (pe_callB (Rk.all K rfl rfl) rfl T.all (by decide +kernel) (pa_cons (pe_lc (own := [("entry", 3)]) rfl sc__has_shape.nd (Rk.pt K rfl (pv 2)) (blkOk_by (own := [("entry", 3)]) (N := ["rows", "order", "row", "entry"]) (sc := defScope s__has_shape) (by decide +kernel)) (fun _ _ _ _ _ => (pg_name (i := 3) sc__has_shape.nd rfl (Or.inl rfl))) (fun _ _ _ _ _ => pts_nil) (fun _ _ _ _ _ => (pe_chain op_le op_lt pe_int (pv 3) (pv 1)))) pa_nil)))))))
  (pss_one (ps_ret pe_bl))
  pss_nil)))
  (pss_one (ps_ret pe_bl))))), ?_⟩
  have hl : (rs.map V.ref).length = t.length := by rw [List.length_map, rw_.len]
  walk_at "st"
  refine Rd.len1 (.inr (hR.sq)) ?_
  walk_at "st"
  refine Rd.ite_d (fun c => ?_) (fun c => ?_)
  · walk_at "st"
    exact k false H (by simp; intro S; have := S.pos; omega) (Same.refl _)
  walk_at "st"
  refine Rd.itt' (hR.sq) ?_
  refine for_tup (K := K) (a := R) (xs := rs.map V.ref) (fun i σ H' => ∃ (v : Option V), σ = [some (.ref R), some (.int (t.length : Int)), v, none] ∧ Same H H' ∧ ∀ j r, j < i → t[j]? = some r → r.length = t.length ∧ ∀ e ∈ r, 0 ≤ e ∧ e < (t.length : Int))
    ⟨none, by rw [← hl]; rfl, Same.refl _, fun j r h => by omega⟩ (fun i σ H' _ ⟨_, _, e, _⟩ => Rd.same_t e (hR.sq)) ?_ ?_
  · rintro i x σ H' hx ⟨v, rfl, e, sf⟩
    obtain ⟨a, r, rfl, h1, h2, h3⟩ := rw_.at hx
    have h4 := h3.same e
    walk_at "st"
    refine Rd.len1 (.inr (h4.sq)) ?_
    walk_at "st"
    rw [List.length_map]
    refine Rd.ite_n (fun c => ?_) (fun c => ?_)
    · refine iteT ?_
      walk_at "st"
      refine k false H' ?_ e
      simp
      intro S
      have := (S.row r (List.mem_of_getElem? h2)).1
      omega
    walk_at "st"
    refine Rd.itt' (h4.sq) ?_
    refine Rd.lcMap (fun n => .bl (decide (0 ≤ r.getD n 0) && decide (r.getD n 0 < (t.length : Int)))) (Rd.src_tup (h4.sq)) (by rw [List.length_map]; omega) (by intro _; rfl) (fun n y H1 Q1 hy e1 q1 => ?_) (fun p H1 hp e1 h5 => ?_)
    · obtain ⟨z, hz, rfl⟩ := intAt hy
      rw [getD_of hz] at q1
      walk_at "st"
      refine Rd.ite_d (fun c1 => ?_) (fun c1 => ?_)
      · walk_at "st"
        rw [decide_eq_true c1, Bool.true_and] at q1
        exact q1 _ (Same.refl _)
      · rw [decide_eq_false c1, Bool.false_and] at q1
        exact q1 _ (Same.refl _)
    · walk_at "st"
      refine ⟨p, _, rfl, SqL.of (by rw [h5, map_bl]), ?_⟩
      walk_at "st"
      refine Rd.ite_nb (fun c2 => ?_) (fun c2 => ?_)
      · walk_at "st"
        refine k false H1 ?_ (Same.trans e e1)
        simp
        intro S
        have hS := S.row r (List.mem_of_getElem? h2)
        have : ((List.range (r.map V.int).length).map fun n => (decide (0 ≤ r.getD n 0) && decide (r.getD n 0 < (t.length : Int)))).all id = true := by
          rw [all_id]
          intro n hn
          rw [List.length_map] at hn
          have hm : r.getD n 0 = r[n] := getD_of (List.getElem?_eq_getElem hn)
          obtain ⟨q1, q2⟩ := hS.2 r[n] (List.getElem_mem hn)
          rw [hm, decide_eq_true q1, decide_eq_true q2]; rfl
        rw [this] at c2; cases c2
      · walk_at "st"
        refine ⟨_, rfl, Same.trans e e1, fun j r' hj hr' => ?_⟩
        by_cases q : j < i
        · exact sf j r' q hr'
        · have ej : j = i := by omega
          rw [ej, h2] at hr'
          cases hr'
          refine ⟨by omega, fun z hz => ?_⟩
          obtain ⟨n, hn, rfl⟩ := List.getElem_of_mem hz
          rw [all_id] at c2
          have := c2 n (by rw [List.length_map]; exact hn)
          rw [getD_of (List.getElem?_eq_getElem hn), Bool.and_eq_true] at this
          exact ⟨of_decide_eq_true this.1, of_decide_eq_true this.2⟩
  · rintro σ H' ⟨v, rfl, e, sf⟩
    walk_at "st"
    refine k true H' ?_ e
    simp
    refine ⟨by omega, fun r hr => ?_⟩
    obtain ⟨j, hj, rfl⟩ := List.getElem_of_mem hr
    exact sf j _ (by omega) (List.getElem?_eq_getElem hj)
end
section
variable {P : Program} {w : World} {K : PySem.W.Frag} {mg : Str → Option Value} {base : Heap} {f : Addr} {fd : FuncData}
theorem sc__has_identity : FnScope ["rows", "order", "plain", "row"] ["rows"] (defScope s__has_identity) := ⟨rfl, rfl, rfl, by decide +kernel, rfl, by decide +kernel, by decide +kernel⟩
theorem ok_idn (F : FnP K "_has_identity" "_has_identity" s__has_identity f fd) (T : Txt K mg) : FnOk P w K mg base CX0 1 f fd ["rows"] sp_idn := by
  refine F.ok sc__has_identity (fun vs H Q E h => ?_) (fun cdv A outer s H vs Q E hr h => ?_)
  · obtain ⟨_, _, _, rfl, _⟩ := h; rfl
  obtain ⟨R, rs, t, rfl, hR, rw_, h32, S, k⟩ := h
  refine ⟨_, PSs.nox (pss_cons (ps_set (i := 1) sc__has_identity.nd rfl (Or.inl rfl) (pe_callB (Rk.len K) rfl T.len PySem.boot_len (pa_cons (pv 0) pa_nil)))
  (pss_cons (ps_set (i := 2) sc__has_identity.nd rfl (Or.inl rfl) (pe_listRg rfl rfl T.list (prg_1 rfl T.range (pv 1))))
  (pss_one (ps_ret (pe_and (pe_cmpR (Rk.eqD K rfl (un64 hr)) (pe_callTy (Rk.lis K) rfl T.list (by decide +kernel) (pa_cons (pe_ix (Rk.ixT K) (pv 0) pe_int (fun _ _ => rfl)) pa_nil)) (pv 2) (nomark _)) (pe_one (pe_cmpR (Rk.eqD K rfl (un64 hr)) (pe_lc (own := [("row", 3)]) rfl sc__has_identity.nd (Rk.pt K rfl (pv 0)) (blkOk_by (own := [("row", 3)]) (N := ["rows", "order", "plain", "row"]) (sc := defScope s__has_identity) (by decide +kernel)) (fun _ _ _ _ _ => (pg_name (i := 3) sc__has_identity.nd rfl (Or.inl rfl))) (fun _ _ _ _ _ => pts_nil) (fun _ _ _ _ _ => (pe_ix (Rk.ixT K) (pv 3) pe_int (fun _ _ => rfl)))) (pv 2) (nomark _)))))))), ?_⟩
  have hl : (rs.map V.ref).length = t.length := by rw [List.length_map, rw_.len]
  have tp := S.pos
  obtain ⟨a0, r0, g1, g2, g3⟩ := rw_.get S.pos
  have l0 := (S.row r0 (List.mem_of_getElem? g2)).1
  walk_at "st"
  refine Rd.len1 (.inr (hR.sq)) ?_
  walk_at "st"
  rw [hl]
  refine ⟨⟨by decide, by decide, by omega, by omega, by omega⟩, fun pl hpl => ?_⟩
  have plain : (upd H pl (.lst (rgV 0 (t.length : Int)))) pl = some (.lst (((List.range t.length).map fun i => ((i : Nat) : Int)).map V.int)) := by rw [upd_same, rgV_eq]
  have e1 : Same H (upd H pl (.lst (rgV 0 (t.length : Int)))) := Rd.same_mk hpl
  generalize upd H pl (.lst (rgV 0 (t.length : Int))) = H1 at plain e1
  walk_at "st"
  refine Rd.ixT ((hR.same e1).sq) (at_of (j := 0) rfl (by rw [List.getElem?_map, g1]; rfl)) ?_
  walk_at "st"
  refine ⟨a0, r0.map V.int, rfl, .inr ((g3.same e1).sq), fun l hl2 => ?_⟩
  have e2 := Rd.same_mk (o := .lst (r0.map V.int)) hl2
  have hL : (upd H1 l (.lst (r0.map V.int))) l = some (.lst (r0.map V.int)) := upd_same
  generalize upd H1 l (.lst (r0.map V.int)) = H2 at e2 hL
  walk_at "st"
  refine Rd.eqLL (SqL.of hL) (SqL.of (e2 _ _ plain)) ?_
  walk_at "st"
  have q0 : r0 = ((List.range t.length).map fun i => ((i : Nat) : Int)) ↔ ∀ x, x < t.length → at2 t 0 x = (x : Int) := by
    rw [eq_range]
    constructor
    · rintro ⟨_, h⟩ x hx
      exact at2_of g2 (h x hx)
    · intro h
      refine ⟨l0, fun x hx => ?_⟩
      have h5 : r0[x]? = some r0[x] := List.getElem?_eq_getElem (by omega)
      have h6 := h x hx
      rw [at2_of g2 h5] at h6
      rw [h5, h6]
  refine Rd.ite_d (fun c => ?_) (fun c => ?_)
  · walk_at "st"
    refine Rd.itt' (((hR.same e1).same e2).sq) ?_
    refine Rd.lcMap (fun n => .int (at2 t n 0)) (Rd.src_tup (((hR.same e1).same e2).sq)) (by omega) (by intro _; rfl) (fun n y H3 Q1 hy e3 q1 => ?_) (fun p H3 hp e3 h5 => ?_)
    · obtain ⟨a, r, rfl, h1, h2, h3⟩ := rw_.at hy
      have hn : n < t.length := by rw [← hl]; exact (List.getElem?_eq_some_iff.mp hy).1
      obtain ⟨_, _, r', h6, h7⟩ := S.at hn S.pos
      rw [h2] at h6
      cases h6
      walk_at "st"
      refine Rd.ixT ((((h3.same e1).same e2).same e3).sq) (at_of (j := 0) (v := .int (at2 t n 0)) rfl (by rw [List.getElem?_map, h7]; rfl)) ?_
      exact q1 _ (Same.refl _)
    · walk_at "st"
      refine Rd.eqLL (ns := (List.range t.length).map fun n => at2 t n 0) (SqL.of (by rw [h5, hl, map_in])) (SqL.of (e3 _ _ (e2 _ _ plain))) ?_
      refine k _ _ ?_ (Same.trans e1 (Same.trans e2 e3))
      rw [decide_eq_true_eq]
      constructor
      · intro h x hx
        refine ⟨q0.mp c x hx, ?_⟩
        have := (eq_range.mp h).2 x hx
        rw [List.getElem?_map, List.getElem?_range hx] at this
        exact Option.some.inj this
      · intro h
        refine eq_range.mpr ⟨by simp, fun x hx => ?_⟩
        rw [List.getElem?_map, List.getElem?_range hx]
        exact congrArg some (h x hx).2
  · refine k false _ ?_ (Same.trans e1 e2)
    simp
    intro h
    exact c (q0.mpr fun x hx => (h x hx).1)
theorem sc__has_inverses : FnScope ["rows", "row"] ["rows"] (defScope s__has_inverses) := ⟨rfl, rfl, rfl, by decide +kernel, rfl, by decide +kernel, by decide +kernel⟩
theorem ok_invs (F : FnP K "_has_inverses" "_has_inverses" s__has_inverses f fd) (T : Txt K mg) : FnOk P w K mg base CX0 1 f fd ["rows"] sp_invs := by
  refine F.ok sc__has_inverses (fun vs H Q E h => ?_) (fun cdv A outer s H vs Q E hr h => ?_)
  · obtain ⟨_, _, _, rfl, _⟩ := h; rfl
  obtain ⟨R, rs, t, rfl, hR, rw_, h32, k⟩ := h
  refine ⟨_, PSs.nox (pss_one (ps_ret (pe_callB (Rk.all K rfl rfl) rfl T.all (by decide +kernel) (pa_cons (pe_lc (own := [("row", 1)]) rfl sc__has_inverses.nd (Rk.pt K rfl (pv 0)) (blkOk_by (own := [("row", 1)]) (N := ["rows", "row"]) (sc := defScope s__has_inverses) (by decide +kernel)) (fun _ _ _ _ _ => (pg_name (i := 1) sc__has_inverses.nd rfl (Or.inl rfl))) (fun _ _ _ _ _ => pts_nil) (fun _ _ _ _ _ => (pe_cmpR (Rk.inS K) pe_int (pv 1) (by with_unfolding_all rfl)))) pa_nil)))), ?_⟩
  have hl : (rs.map V.ref).length = t.length := by rw [List.length_map, rw_.len]
  walk_at "st"
  refine Rd.itt' (hR.sq) ?_
  refine Rd.lcMap (fun n => .bl (decide ((0 : Int) ∈ t.getD n []))) (Rd.src_tup (hR.sq)) (by omega) (by intro _; rfl) (fun n y H3 Q1 hy e3 q1 => ?_) (fun p H3 hp e3 h5 => ?_)
  · obtain ⟨a, r, rfl, h1, h2, h3⟩ := rw_.at hy
    rw [getD_of h2] at q1
    walk_at "st"
    exact Rd.inI (.inr ((h3.same e3).sq)) (q1 _ (Same.refl _))
  · walk_at "st"
    refine ⟨p, _, rfl, SqL.of (by rw [h5, map_bl]), ?_⟩
    refine k _ _ ?_ e3
    rw [all_id, hl]
    constructor
    · intro h r hr
      obtain ⟨n, hn, rfl⟩ := List.getElem_of_mem hr
      have := h n hn
      rw [getD_of (List.getElem?_eq_getElem hn)] at this
      exact of_decide_eq_true this
    · intro h n hn
      rw [getD_of (List.getElem?_eq_getElem hn)]
      exact decide_eq_true (h _ (List.getElem_mem hn))
theorem sc__is_associative : FnScope ["rows", "row", "y", "product", "yz"] ["rows"] (defScope s__is_associative) := ⟨rfl, rfl, rfl, by decide +kernel, rfl, by decide +kernel, by decide +kernel⟩
theorem ok_asc (F : FnP K "_is_associative" "_is_associative" s__is_associative f fd) (T : Txt K mg) : FnOk P w K mg base CX0 1 f fd ["rows"] sp_asc := by
  refine F.ok sc__is_associative (fun vs H Q E h => ?_) (fun cdv A outer s H vs Q E hr h => ?_)
  · obtain ⟨_, _, _, rfl, _⟩ := h; rfl
  obtain ⟨R, rs, t, rfl, hR, rw_, h32, S, k⟩ := h
  refine ⟨_, PSs.nox (pss_cons (ps_for PassesOwn.never rfl (Rk.pt K rfl (pv 0)) (pg_name (i := 1) sc__is_associative.nd rfl (Or.inr rfl))
  (pss_one (ps_for PassesOwn.never rfl (Rx.pi_enumT rfl T.enumerate (pa_cons (pv 1) pa_nil)) (Rk.gtup K rfl rfl (pgs_cons (pg_name (i := 2) sc__is_associative.nd rfl (Or.inl rfl)) (pgs_cons (pg_name (i := 3) sc__is_associative.nd rfl (Or.inl rfl)) pgs_nil)) (n := 2))
  (pss_one (ps_if (pt_cmpR (Rk.neD K rfl (un64 hr)) (pe_ix (Rk.ixT K) (pv 0) (pv 3) (fun _ _ => rfl)) (pe_callTy (Rk.tup K) rfl T.tuple (by decide +kernel) (pa_cons (pe_lc (own := [("yz", 4)]) rfl sc__is_associative.nd (Rk.pt K rfl (pe_ix (Rk.ixT K) (pv 0) (pv 2) (fun _ _ => rfl))) (blkOk_by (own := [("yz", 4)]) (N := ["rows", "row", "y", "product", "yz"]) (sc := defScope s__is_associative) (by decide +kernel)) (fun _ _ _ _ _ => (pg_name (i := 4) sc__is_associative.nd rfl (Or.inl rfl))) (fun _ _ _ _ _ => pts_nil) (fun _ _ _ _ _ => (pe_ix (Rk.ixT K) (pv 1) (pv 4) (fun _ _ => rfl)))) pa_nil)) (nomark _))
  (pss_one (ps_ret pe_bl))
  pss_nil)))))
  (pss_one (ps_ret pe_bl))), ?_⟩
  have hl : (rs.map V.ref).length = t.length := by rw [List.length_map, rw_.len]
  have tp := S.pos
  walk_at "st"
  refine Rd.itt' (hR.sq) ?_
  refine for_tup (K := K) (a := R) (xs := rs.map V.ref) (fun i σ H' => ∃ (v1 v2 v3 : Option V), σ = [some (.ref R), v1, v2, v3, none] ∧ Same H H' ∧ ∀ x y z, x < i → y < t.length → z < t.length → at2 t (at2 t x y).toNat z = at2 t x (at2 t y z).toNat)
    ⟨none, none, none, rfl, Same.refl _, fun x y z h => by omega⟩ (fun i σ H' _ ⟨_, _, _, _, e, _⟩ => Rd.same_t e (hR.sq)) ?_ ?_
  · rintro i x σ H' hx ⟨v1, v2, v3, rfl, e, sf⟩
    obtain ⟨a, r, rfl, h1, h2, h3⟩ := rw_.at hx
    have hi : i < t.length := by rw [← hl]; exact (List.getElem?_eq_some_iff.mp hx).1
    have lr := (S.row r (List.mem_of_getElem? h2)).1
    walk_at "st"
    refine ⟨a, r.map V.int, rfl, (h3.same e).sq, ?_⟩
    refine Rx.for_enumT (K := K) (a := a) (xs := r.map V.int) (fun y σ H' => ∃ (v2 v3 : Option V), σ = [some (.ref R), some (.ref a), v2, v3, none] ∧ Same H H' ∧ ∀ y' z, y' < y → z < t.length → at2 t (at2 t i y').toNat z = at2 t i (at2 t y' z).toNat)
      ⟨v2, v3, rfl, e, fun y z h => by omega⟩ (fun y σ H' ⟨_, _, _, e, _⟩ => (h3.same e).sq) ?_ ?_
    · rintro y q TT σ H2 hy ⟨v2, v3, rfl, e2, sf2⟩ hT
      obtain ⟨p, hp, rfl⟩ := intAt hy
      have hyn : y < t.length := by
        have := (List.getElem?_eq_some_iff.mp hp).1
        omega
      have e3 : Same H (upd H2 TT (.tup [.int (y : Nat), .int p])) := Rd.same_add e2 hT
      refine Rd.gtup2 (SqT.of upd_same) ?_
      generalize upd H2 TT (.tup [.int (y : Nat), .int p]) = H3 at e3
      have ep : at2 t i y = p := at2_of h2 hp
      obtain ⟨p0, p1, _⟩ := S.at hi hyn
      rw [ep] at p0 p1
      obtain ⟨ap, rp, k1, k2, k3⟩ := rw_.get (i := p.toNat) (by omega)
      obtain ⟨ay, ry, m1, m2, m3⟩ := rw_.get hyn
      have lrp := (S.row rp (List.mem_of_getElem? k2)).1
      have lry := (S.row ry (List.mem_of_getElem? m2)).1
      walk_at "st"
      refine Rd.ixT ((hR.same e3).sq) (at_of (j := p.toNat) (v := .ref ap) (by omega) (by rw [List.getElem?_map, k1]; rfl)) ?_
      walk_at "st"
      refine Rd.ixT ((hR.same e3).sq) (at_of (j := y) (v := .ref ay) rfl (by rw [List.getElem?_map, m1]; rfl)) ?_
      refine Rd.itt' ((m3.same e3).sq) ?_
      refine Rd.lcMap (fun z => .int (at2 t i (at2 t y z).toNat)) (Rd.src_tup ((m3.same e3).sq)) (by rw [List.length_map]; omega) (by intro _; rfl) (fun z q H4 Q1 hq e4 q1 => ?_) (fun p5 H4 hp5 e4 h5 => ?_)
      · obtain ⟨u, hu, rfl⟩ := intAt hq
        have hz : z < t.length := by
          have := (List.getElem?_eq_some_iff.mp hu).1
          omega
        have eu : at2 t y z = u := at2_of m2 hu
        rw [eu] at q1
        obtain ⟨u0, u1, _⟩ := S.at hyn hz
        rw [eu] at u0 u1
        obtain ⟨_, _, r', w1, w2⟩ := S.at hi (y := u.toNat) (by omega)
        rw [h2] at w1
        cases w1
        walk_at "st"
        refine Rd.ixT (((h3.same e3).same e4).sq) (at_of (j := u.toNat) (v := .int (at2 t i u.toNat)) (by omega) (by rw [List.getElem?_map, w2]; rfl)) ?_
        exact q1 _ (Same.refl _)
      · walk_at "st"
        refine ⟨p5, _, rfl, .inl ⟨SqL.of h5, fun l ob hl3 hob => ?_⟩⟩
        have e5 := Rd.same_mk (o := .frz ob (.tup ((List.range (ry.map V.int).length).map fun z => V.int (at2 t i (at2 t y z).toNat)))) hl3
        have hL : TupN (upd H4 l (.frz ob (.tup ((List.range (ry.map V.int).length).map fun z => V.int (at2 t i (at2 t y z).toNat))))) l (((List.range t.length).map fun z => at2 t i (at2 t y z).toNat).map V.int) := by
          have q := TupN.mk (H := H4) (a := l) (xs := (List.range (ry.map V.int).length).map fun z => V.int (at2 t i (at2 t y z).toNat)) hob
          rw [← map_in]
          rw [List.length_map, lry] at q ⊢
          exact q
        generalize upd H4 l (.frz ob (.tup ((List.range (ry.map V.int).length).map fun z => V.int (at2 t i (at2 t y z).toNat)))) = H5 at e5 hL
        walk_at "st"
        refine Rd.neTT ((((k3.same e3).same e4).same e5).sq) hL.sq ?_
        walk_at "st"
        have row : rp = ((List.range t.length).map fun z => at2 t i (at2 t y z).toNat) ↔ ∀ z, z < t.length → at2 t p.toNat z = at2 t i (at2 t y z).toNat := by
          constructor
          · intro h z hz
            refine at2_of k2 ?_
            rw [h, List.getElem?_map, List.getElem?_range hz]; rfl
          · intro h
            refine List.ext_getElem? fun z => ?_
            by_cases c : z < t.length
            · have h5 : rp[z]? = some rp[z] := List.getElem?_eq_getElem (by omega)
              have h6 := h z c
              rw [at2_of k2 h5] at h6
              rw [h5, h6, List.getElem?_map, List.getElem?_range c]; rfl
            · rw [List.getElem?_eq_none (by omega), List.getElem?_eq_none (by simp; omega)]
        have e6 := Same.trans e3 (Same.trans e4 e5)
        refine Rd.ite_n (fun c => ?_) (fun c => ?_)
        · walk_at "st"
          refine k false _ ?_ e6
          simp
          intro h
          refine c (row.mpr fun z hz => ?_)
          have := h i y z hi hyn hz
          rw [ep] at this
          exact this
        · walk_at "st"
          refine ⟨_, _, rfl, e6, fun y' z h h' => ?_⟩
          by_cases q : y' < y
          · exact sf2 y' z q h'
          · have : y' = y := by omega
            rw [this, ep]
            exact row.mp c z h'
    · rintro σ H2 ⟨v2, v3, rfl, e2, sf2⟩
      refine ⟨_, _, _, rfl, e2, fun x y z hx hy hz => ?_⟩
      by_cases q : x < i
      · exact sf x y z q hy hz
      · have : x = i := by omega
        rw [this]
        exact sf2 y z (by rw [List.length_map, lr]; exact hy) hz
  · rintro σ H' ⟨v1, v2, v3, rfl, e, sf⟩
    walk_at "st"
    refine k true H' ?_ e
    simp
    intro x y z hx hy hz
    exact sf x y z (by rw [hl]; exact hx) hy hz
end
/-! ### Group.__init__ -/
abbrev gC (K : PySem.W.Frag) : Addr := He.ga K "Group"
abbrev eL (K : PySem.W.Frag) : Addr := He.ga K "LimitExceeded"
abbrev eG (K : PySem.W.Frag) : Addr := He.ga K "InvalidGroup"
abbrev eE (K : PySem.W.Frag) : Addr := He.ga K "InvalidElement"
def sp_init (K : PySem.W.Frag) : Sp := fun vs H Q E => ∃ (g dx a : Addr) (as : List Addr) (t : List (List Int)), vs = [.ref g, .ref a] ∧ H g = some (.ins (gC K) dx []) ∧ H a = some (.lst (as.map V.ref)) ∧ Rows LstN H as t ∧ t.length ≤ 1000 ∧
  (32 < t.length → E (.ref (eL K)) none H) ∧ (t.length ≤ 32 → ¬ Grp t → ∀ H', Same H H' → E (.ref (eG K)) none H') ∧
  (t.length ≤ 32 → Grp t → ∀ H', (∀ b o, b ≠ g → H b = some o → H' b = some o) → GrpAt (gC K) H' g t → Q .non H')
section
variable {P : Program} {w : World} {K : PySem.W.Frag} {mg : Str → Option Value} {base : Heap} {f : Addr} {fd : FuncData}
theorem idx_of {r : List Int} (h : (0 : Int) ∈ r) : r[r.idxOf 0]? = some 0 ∧ ∀ m, m < r.idxOf 0 → r[m]? ≠ some 0 := by
  have h1 : r.idxOf 0 < r.length := List.idxOf_lt_length_of_mem h
  refine ⟨by rw [List.getElem?_eq_getElem h1]; exact congrArg some (List.getElem_idxOf h1), fun m hm e => ?_⟩
  obtain ⟨h2, h3⟩ := List.getElem?_eq_some_iff.mp e
  have := List.not_of_lt_findIdx (p := fun x => x == (0 : Int)) (xs := r) (i := m) hm
  rw [h3] at this
  simp at this
theorem sc_Group___init__ : FnScope ["self", "table", "rows", "row"] ["self", "table"] (defScope s_Group___init__) := ⟨rfl, rfl, rfl, by decide +kernel, rfl, by decide +kernel, by decide +kernel⟩
theorem ok_init (F : FnP K "__init__" "Group.__init__" s_Group___init__ f fd) (T : Txt K mg) (D__has_shape : DOk P w K mg base CX0 "_has_shape" 1 ["rows"] sp_shape) (D__has_identity : DOk P w K mg base CX0 "_has_identity" 1 ["rows"] sp_idn)
    (D__has_inverses : DOk P w K mg base CX0 "_has_inverses" 1 ["rows"] sp_invs) (D__is_associative : DOk P w K mg base CX0 "_is_associative" 1 ["rows"] sp_asc) : FnOk P w K mg base (L2.CX P w) 2 f fd ["self", "table"] (sp_init K) := by
  refine F.ok sc_Group___init__ (fun vs H Q E h => ?_) (fun cdv A outer s H vs Q E hr h => ?_)
  · obtain ⟨_, _, _, _, _, rfl, _⟩ := h; rfl
  obtain ⟨g, dx, a, as, t, rfl, hg, ha, rw_, hz, kL, kG, k⟩ := h
  obtain ⟨tL, g_LIMIT⟩ := T.LIMIT
  refine ⟨_, (pss_cons (ps_if (pt_cmpR op_gt (pe_callB (Rk.len K) rfl T.len PySem.boot_len (pa_cons (pv 1) pa_nil)) (pe_glob (v := .int 32) rfl g_LIMIT ⟨_, rfl⟩) (nomark _))
  (pss_one (ps_raise rfl (takes_of rfl rfl rfl rfl) (pmk_own PySem.F.excBase_ValueError T.ex_LimitExceeded.xP T.ex_LimitExceeded.gP T.ex_LimitExceeded.kP (raises_own T.ex_LimitExceeded.bP T.ex_LimitExceeded.tP) rfl)))
  pss_nil)
  (pss_cons (ps_set (i := 2) sc_Group___init__.nd rfl (Or.inl rfl) (pe_callTy (Rk.tup K) rfl T.tuple (by decide +kernel) (pa_cons (pe_lc (own := [("row", 3)]) rfl sc_Group___init__.nd (Rk.pl K rfl (pv 1)) (blkOk_by (own := [("row", 3)]) (N := ["self", "table", "rows", "row"]) (sc := defScope s_Group___init__) (by decide +kernel)) (fun _ _ _ _ _ => (pg_name (i := 3) sc_Group___init__.nd rfl (Or.inl rfl))) (fun _ _ _ _ _ => pts_nil) (fun _ _ _ _ _ => (pe_callTy (Rk.tup K) rfl T.tuple (by decide +kernel) (pa_cons (pv 3) pa_nil)))) pa_nil)))
  (pss_cons (ps_if (pt_not (pt_val (callX D__has_shape (hr.mono (by decide)) (passN) (pa_cons (pv 2) pa_nil))))
  (pss_one (ps_raise rfl (takes_of rfl rfl rfl rfl) (pmk_own PySem.F.excBase_ValueError T.ex_InvalidGroup.xP T.ex_InvalidGroup.gP T.ex_InvalidGroup.kP (raises_own T.ex_InvalidGroup.bP T.ex_InvalidGroup.tP) rfl)))
  pss_nil)
  (pss_cons (ps_if (pt_not (pt_val (callX D__has_identity (hr.mono (by decide)) (passN) (pa_cons (pv 2) pa_nil))))
  (pss_one (ps_raise rfl (takes_of rfl rfl rfl rfl) (pmk_own PySem.F.excBase_ValueError T.ex_InvalidGroup.xP T.ex_InvalidGroup.gP T.ex_InvalidGroup.kP (raises_own T.ex_InvalidGroup.bP T.ex_InvalidGroup.tP) rfl)))
  pss_nil)
  (pss_cons (ps_if (pt_not (pt_val (callX D__has_inverses (hr.mono (by decide)) (passN) (pa_cons (pv 2) pa_nil))))
  (pss_one (ps_raise rfl (takes_of rfl rfl rfl rfl) (pmk_own PySem.F.excBase_ValueError T.ex_InvalidGroup.xP T.ex_InvalidGroup.gP T.ex_InvalidGroup.kP (raises_own T.ex_InvalidGroup.bP T.ex_InvalidGroup.tP) rfl)))
  pss_nil)
  (pss_cons (ps_if (pt_not (pt_val (callX D__is_associative (hr.mono (by decide)) (passN) (pa_cons (pv 2) pa_nil))))
  (pss_one (ps_raise rfl (takes_of rfl rfl rfl rfl) (pmk_own PySem.F.excBase_ValueError T.ex_InvalidGroup.xP T.ex_InvalidGroup.gP T.ex_InvalidGroup.kP (raises_own T.ex_InvalidGroup.bP T.ex_InvalidGroup.tP) rfl)))
  pss_nil)
  (pss_cons (ps_fld (pv 0) (pe_callB (Rk.len K) rfl T.len PySem.boot_len (pa_cons (pv 2) pa_nil)) rfl)
  (pss_cons (ps_fld (pv 0) (pv 2) rfl)
  (pss_one (ps_fld (pv 0) (pe_callTy (Rk.tup K) rfl T.tuple (by decide +kernel) (pa_cons (pe_lc (own := [("row", 3)]) rfl sc_Group___init__.nd (Rk.pt K rfl (pv 2)) (blkOk_by (own := [("row", 3)]) (N := ["self", "table", "rows", "row"]) (sc := defScope s_Group___init__) (by decide +kernel)) (fun _ _ _ _ _ => (pg_name (i := 3) sc_Group___init__.nd rfl (Or.inl rfl))) (fun _ _ _ _ _ => pts_nil) (fun _ _ _ _ _ => (Rk.bt K rfl PySem.F.plainAttrs_tuple PySem.F.slot_tuple_index PySem.F.type_tuple_index (Rk.tindex K) (pv 3) (pa_cons pe_int pa_nil)))) pa_nil)) rfl)))))))))), ?_⟩
  have hl : (as.map V.ref).length = t.length := by rw [List.length_map, rw_.len]
  walk_at "st"
  refine Rd.len1 (.inl (SqL.of ha)) ?_
  walk_at "st"
  rw [hl]
  refine Rd.ite_d (fun c => kL (by omega)) (fun c => ?_)
  have h32 : t.length ≤ 32 := by omega
  walk_at "st"
  refine Rd.itl' (SqL.of ha) ?_
  refine Rd.lcNew (fun n o => ∃ ob : Obj, ob.dict = none ∧ o = .frz ob (.tup ((t.getD n []).map V.int))) (Rd.src_list (SqL.of ha)) (by omega) (by intro _; rfl) (fun n y H3 Q1 hy e3 q1 => ?_) (fun p rs H3 hp e3 h5 lrs hrs nd => ?_)
  · obtain ⟨b, r, rfl, h1, h2, h3⟩ := rw_.at hy
    walk_at "st"
    refine ⟨b, _, rfl, .inl ⟨SqL.of (e3 _ _ h3), fun l ob hl3 hob => ?_⟩⟩
    exact q1 l _ _ hl3 (Rd.same_mk hl3) (by rw [upd_same]) ⟨ob, hob, by rw [getD_of h2]⟩
  walk_at "st"
  refine ⟨p, _, rfl, .inl ⟨SqL.of h5, fun R oR hR3 hoR => ?_⟩⟩
  have e4 : Same H (upd H3 R (.frz oR (.tup (rs.map V.ref)))) := Rd.same_add e3 hR3
  have hR : TupN (upd H3 R (.frz oR (.tup (rs.map V.ref)))) R (rs.map V.ref) := TupN.mk hoR
  have rt : Rows TupN (upd H3 R (.frz oR (.tup (rs.map V.ref)))) rs t := ⟨by rw [lrs, hl], fun i b r h1 h2 => by
    obtain ⟨_, h6, ob, hob, rfl⟩ := (hrs i b h1).1
    rw [getD_of h2] at h6
    exact ⟨ob, hob, by rw [upd_ne (ne_of_none h6 hR3)]; exact h6⟩⟩
  have nRg : R ≠ g := fun z => by rw [z, e3 _ _ hg] at hR3; cases hR3
  have nrg : ∀ i b, rs[i]? = some b → b ≠ g := fun i b h1 z => by have := (hrs i b h1).2.1; rw [z, hg] at this; cases this
  generalize upd H3 R (.frz oR (.tup (rs.map V.ref))) = H4 at e4 hR rt
  walk_at "st"
  refine ⟨R, rs, t, rfl, hR, rt, h32, fun b H5 hb e5 => ?_⟩
  walk_at "st"
  refine Rd.ite_nb (fun c1 => kG h32 (fun G => ?_) _ (e4.trans e5)) (fun c1 => ?_)
  · rw [hb.mpr G.sq] at c1; cases c1
  have S := hb.mp c1
  walk_at "st"
  refine ⟨R, rs, t, rfl, hR.same e5, rt.same e5, h32, S, fun b H6 hb e6 => ?_⟩
  walk_at "st"
  refine Rd.ite_nb (fun c2 => kG h32 (fun G => ?_) _ (e4.trans (e5.trans e6))) (fun c2 => ?_)
  · rw [hb.mpr G.idn] at c2; cases c2
  have S2 := hb.mp c2
  walk_at "st"
  refine ⟨R, rs, t, rfl, (hR.same e5).same e6, (rt.same e5).same e6, h32, fun b H7 hb e7 => ?_⟩
  walk_at "st"
  refine Rd.ite_nb (fun c3 => kG h32 (fun G => ?_) _ (e4.trans (e5.trans (e6.trans e7)))) (fun c3 => ?_)
  · rw [hb.mpr G.inv] at c3; cases c3
  have S3 := hb.mp c3
  walk_at "st"
  refine ⟨R, rs, t, rfl, ((hR.same e5).same e6).same e7, ((rt.same e5).same e6).same e7, h32, S, fun b H8 hb e8 => ?_⟩
  walk_at "st"
  refine Rd.ite_nb (fun c4 => kG h32 (fun G => ?_) _ (e4.trans (e5.trans (e6.trans (e7.trans e8))))) (fun c4 => ?_)
  · rw [hb.mpr G.asc] at c4; cases c4
  have S4 := hb.mp c4
  have e9 : Same H4 H8 := e5.trans (e6.trans (e7.trans e8))
  have hR8 := hR.same e9
  have rt8 := rt.same e9
  have hg8 := e9 _ _ (e4 _ _ hg)
  have e10 := e4.trans e9
  walk_at "st"
  refine Rd.len1 (.inr (hR8.sq)) ?_
  walk_at "st"
  rw [List.length_map, lrs, hl]
  refine ⟨g, gC K, dx, [], rfl, hg8, T.cl, T.nO, by decide, ?_⟩
  walk_at "st"
  refine ⟨g, gC K, dx, _, rfl, upd_same, T.cl, T.nR, by show 1 < 1000; decide, ?_⟩
  walk_at "st"
  have hR10 : ∀ o1 o2, TupN (upd (upd H8 g o1) g o2) R (rs.map V.ref) := fun o1 o2 => (hR8.put nRg).put nRg
  have hr10 : ∀ o1 o2, Rows TupN (upd (upd H8 g o1) g o2) rs t := fun o1 o2 => ⟨rt8.len, fun i b r h1 h2 => ((rt8.row i b r h1 h2).put (nrg i b h1)).put (nrg i b h1)⟩
  have e12 : ∀ o1 o2, ∀ b o, b ≠ g → H b = some o → (upd (upd H8 g o1) g o2) b = some o := fun o1 o2 b o n h => by rw [upd_ne n, upd_ne n]; exact e10 _ _ h
  refine Rd.itt' (hR10 _ _).sq ?_
  refine Rd.lcMap (fun n => .int (((t.getD n []).idxOf 0 : Nat) : Int)) (Rd.src_tup (hR10 _ _).sq) (by rw [List.length_map, lrs]; omega) (by intro _; rfl) (fun n y H9 Q1 hy e11 q1 => ?_) (fun p2 H9 hp2 e11 h12 => ?_)
  · obtain ⟨b, r, rfl, h1, h2, h3⟩ := (hr10 _ _).at hy
    rw [getD_of h2] at q1
    obtain ⟨w1, w2⟩ := idx_of (S3 r (List.mem_of_getElem? h2))
    have h4 := h3.same e11
    walk_at "st"
    refine ⟨⟨_, _, rfl, h4⟩, ?_⟩
    walk_at "st"
    exact ⟨b, r, 0, _, rfl, rfl, h4.sq, w1, w2, q1 _ (Same.refl _)⟩
  walk_at "st"
  refine ⟨p2, _, rfl, .inl ⟨SqL.of h12, fun I oI hI9 hoI => ?_⟩⟩
  have e13 := Rd.same_mk (o := .frz oI (.tup ((List.range (rs.map V.ref).length).map fun n => V.int (((t.getD n []).idxOf 0 : Nat) : Int)))) hI9
  have hI : TupN (upd H9 I (.frz oI (.tup ((List.range (rs.map V.ref).length).map fun n => V.int (((t.getD n []).idxOf 0 : Nat) : Int))))) I ((invs t).map V.int) := by
    have q := TupN.mk (H := H9) (a := I) (xs := (List.range (rs.map V.ref).length).map fun n => V.int (((t.getD n []).idxOf 0 : Nat) : Int)) hoI
    have z : (List.range (rs.map V.ref).length).map (fun n => V.int (((t.getD n []).idxOf 0 : Nat) : Int)) = (invs t).map V.int := by
      rw [List.length_map, lrs, hl]
      refine List.ext_getElem? fun i => ?_
      unfold invs
      rw [List.map_map, List.getElem?_map, List.getElem?_map]
      by_cases c : i < t.length
      · rw [List.getElem?_range c, List.getElem?_eq_getElem c]
        simp only [Option.map_some, Function.comp_apply]
        rw [getD_of (List.getElem?_eq_getElem c)]
      · rw [List.getElem?_eq_none (by simp; omega), List.getElem?_eq_none (by omega)]; rfl
    rw [z] at q ⊢
    exact q
  generalize upd H9 I (.frz oI (.tup ((List.range (rs.map V.ref).length).map fun n => V.int (((t.getD n []).idxOf 0 : Nat) : Int)))) = H10 at e13 hI
  have e14 := e11.trans e13
  walk_at "st"
  have nIg : I ≠ g := fun z => by
    rw [z, e11 _ _ upd_same] at hI9
    cases hI9
  refine ⟨g, gC K, dx, _, rfl, e14 _ _ upd_same, T.cl, T.nI, put2_len _ _, ?_⟩
  rw [put3]
  refine k h32 ⟨S, S2, S3, S4⟩ _ (fun b o n h => by rw [upd_ne n]; exact e14 _ _ (e12 _ _ b o n h)) ⟨⟨S, S2, S3, S4⟩, h32, dx, R, I, rs, upd_same, ((hR10 _ _).same e14).put nRg, ?_, hI.put nIg⟩
  exact ⟨rt8.len, fun i b r h1 h2 => (((hr10 _ _).row i b r h1 h2).same e14).put (nrg i b h1)⟩
end
end K08

set_option Elab.async false
set_option linter.all false
set_option maxRecDepth 100000
set_option maxHeartbeats 4000000
namespace K08
open PySem L2 Rd GT
local macro_rules | `(tactic| walk_at "st1") => `(tactic| first | with_reducible refine' Rd.Stp.go ?_ | with_reducible refine' Rd.seq ?_)
local macro_rules | `(tactic| walk_at "st") => `(tactic| repeat (first | with_reducible refine' Rd.Stp.go ?_ | with_reducible refine' Rd.seq ?_ | ((with_reducible refine' Rd.nmR ?hr ?_); (case hr => repeat (first | exact Rd.SetR.zero | apply Rd.SetR.succ))) | ((with_reducible refine' Rd.var ?hv ?_); (case hv => rfl))))
local macro_rules | `(tactic| walk_at "sj") => `(tactic| repeat (first | with_reducible refine' Rd.Stp.go ?_ | with_reducible refine' Rd.seqA ?_ | with_reducible refine' Rd.seqD ?_ | with_reducible refine' Rd.seqF ?_ | with_reducible refine' Rd.seqW ?_ | ((with_reducible refine' Rd.nmR ?hr ?_); (case hr => repeat (first | exact Rd.SetR.zero | apply Rd.SetR.succ))) | ((with_reducible refine' Rd.var ?hv ?_); (case hv => rfl))))
local macro_rules | `(tactic| walk_at "sm") => `(tactic| first | exact Same.refl _ | assumption | (apply Rd.sm_tr; assumption; walk_at "sm") | fail)
local macro_rules | `(tactic| walk_at "fr") => `(tactic| with_reducible first
  | assumption
  | (apply Rd.fr_some; assumption; walk_at "fr") | (apply Rd.fr_tupN; assumption; walk_at "fr") | (apply Rd.fr_tupX; assumption; walk_at "fr")
  | (apply Rd.fr_grp; assumption; walk_at "fr") | (apply Rd.fr_rows; assumption; walk_at "fr") | (apply Rd.fr_rowL; assumption; walk_at "fr") | (apply Rd.fr_DD; assumption; walk_at "fr")
  | (apply Rd.fr_sqL; walk_at "fr") | fail)
/-! ### the methods -/
def InG (t : List (List Int)) (ns : List Int) : Prop := ∀ x ∈ ns, 0 ≤ x ∧ x < (t.length : Int)
def sp_req (K : PySem.W.Frag) : Sp := fun vs H Q E => ∃ (g a : Addr) (t : List (List Int)) (ns : List Int), vs = [.ref g, .ref a] ∧ GrpAt (gC K) H g t ∧ H a = some (.lst (ns.map V.int)) ∧ (InG t ns → ∀ H', Same H H' → Q .non H') ∧ (¬ InG t ns → ∀ H', Same H H' → E (.ref (eE K)) none H')
section
variable {P : Program} {w : World} {K : PySem.W.Frag} {mg : Str → Option Value} {base : Heap} {f : Addr} {fd : FuncData}
theorem sc_Group_require : FnScope ["self", "members", "member"] ["self", "members"] (defScope s_Group_require) := ⟨rfl, rfl, rfl, by decide +kernel, rfl, by decide +kernel, by decide +kernel⟩
theorem ok_req (F : FnP K "require" "Group.require" s_Group_require f fd) (T : Txt K mg) : FnOk P w K mg base (L2.CX P w) 1 f fd ["self", "members"] (sp_req K) := by
  refine F.ok sc_Group_require (fun vs H Q E h => ?_) (fun cdv A outer s H vs Q E hr h => ?_)
  · obtain ⟨_, _, _, _, rfl, _⟩ := h; rfl
  obtain ⟨g, a, t, ns, rfl, G, ha, k, kE⟩ := h
  obtain ⟨dx, R, I, rs, hg, hR, hr, hI⟩ := G.ob
  refine ⟨_, (pss_one (ps_for (passes_of rfl) rfl (Rk.pl K rfl (pv 1)) (pg_name (i := 2) sc_Group_require.nd rfl (Or.inl rfl))
  (pss_one (ps_if (pt_not (pt_chain op_le op_lt pe_int (pv 2) (Rk.fld K rfl (pv 0) rfl)))
  (pss_one (ps_raise rfl (takes_of rfl rfl rfl rfl) (pmk_own PySem.F.excBase_ValueError T.ex_InvalidElement.xP T.ex_InvalidElement.gP T.ex_InvalidElement.kP (raises_own T.ex_InvalidElement.bP T.ex_InvalidElement.tP) rfl)))
  pss_nil)))), ?_⟩
  walk_at "st"
  refine Rd.itl' (SqL.of ha) ?_
  refine for_list (K := K) (a := a) (xs := ns.map V.int) (fun i σ H' => ∃ (v : Option V), σ = [some (.ref g), some (.ref a), v] ∧ Same H H' ∧ ∀ j x, j < i → ns[j]? = some x → 0 ≤ x ∧ x < (t.length : Int))
    ⟨none, rfl, Same.refl _, fun j x h => by omega⟩ (fun i σ H' _ ⟨_, _, e, _⟩ => SqL.of (e _ _ ha)) ?_ ?_
  · rintro i x σ H' hx ⟨v, rfl, e, sf⟩
    obtain ⟨z, hz, rfl⟩ := intAt hx
    walk_at "st"
    refine Rd.ite_d (fun c1 => ?_) (fun c1 => ?_)
    · walk_at "st"
      refine Rd.fld' (e _ _ hg) T.cl T.nO (lk_order _ _ _) ?_
      walk_at "st"
      refine Rd.ite_n (fun c2 => ?_) (fun c2 => ?_)
      · exact kE (fun h => c2 (h z (List.mem_of_getElem? hz)).2) H' e
      · walk_at "st"
        refine ⟨_, rfl, e, fun j x hj hx => ?_⟩
        by_cases q : j < i
        · exact sf j x q hx
        · rw [show j = i by omega, hz] at hx
          cases hx
          exact ⟨c1, c2⟩
    · walk_at "st"
      exact kE (fun h => c1 (h z (List.mem_of_getElem? hz)).1) H' e
  · rintro σ H' ⟨v, rfl, e, sf⟩
    walk_at "st"
    refine k (fun x hx => ?_) H' e
    obtain ⟨j, hj, rfl⟩ := List.getElem_of_mem hx
    exact sf j _ (by rw [List.length_map]; exact hj) (List.getElem?_eq_getElem hj)
end
end K08

set_option Elab.async false
set_option linter.all false
set_option maxRecDepth 100000
set_option maxHeartbeats 4000000
namespace K08
open PySem L2 Rd GT
local macro_rules | `(tactic| walk_at "st1") => `(tactic| first | with_reducible refine' Rd.Stp.go ?_ | with_reducible refine' Rd.seq ?_)
local macro_rules | `(tactic| walk_at "st") => `(tactic| repeat (first | with_reducible refine' Rd.Stp.go ?_ | with_reducible refine' Rd.seq ?_ | ((with_reducible refine' Rd.nmR ?hr ?_); (case hr => repeat (first | exact Rd.SetR.zero | apply Rd.SetR.succ))) | ((with_reducible refine' Rd.var ?hv ?_); (case hv => rfl))))
local macro_rules | `(tactic| walk_at "sj") => `(tactic| repeat (first | with_reducible refine' Rd.Stp.go ?_ | with_reducible refine' Rd.seqA ?_ | with_reducible refine' Rd.seqD ?_ | with_reducible refine' Rd.seqF ?_ | with_reducible refine' Rd.seqW ?_ | ((with_reducible refine' Rd.nmR ?hr ?_); (case hr => repeat (first | exact Rd.SetR.zero | apply Rd.SetR.succ))) | ((with_reducible refine' Rd.var ?hv ?_); (case hv => rfl))))
local macro_rules | `(tactic| walk_at "sm") => `(tactic| first | exact Same.refl _ | assumption | (apply Rd.sm_tr; assumption; walk_at "sm") | fail)
local macro_rules | `(tactic| walk_at "fr") => `(tactic| with_reducible first
  | assumption
  | (apply Rd.fr_some; assumption; walk_at "fr") | (apply Rd.fr_tupN; assumption; walk_at "fr") | (apply Rd.fr_tupX; assumption; walk_at "fr")
  | (apply Rd.fr_grp; assumption; walk_at "fr") | (apply Rd.fr_rows; assumption; walk_at "fr") | (apply Rd.fr_rowL; assumption; walk_at "fr") | (apply Rd.fr_DD; assumption; walk_at "fr")
  | (apply Rd.fr_sqL; walk_at "fr") | fail)
/-! ### the law: what is drawn -/
def Bag (H : Hp) (a : Addr) : Prop := ∃ x y : Int, H a = some (.lst [.int x, .int y]) ∧ 0 ≤ x ∧ 0 ≤ y ∧ y < 2147483648
def sp_take : Sp := fun vs H Q _ => ∃ (a : Addr) (n : Int), vs = [.ref a, .int n] ∧ 1 ≤ n ∧ n ≤ 4294967296 ∧ Bag H a ∧ ∀ (v : Int) (H' : Hp), 0 ≤ v → v < n → Bag H' a → But a H H' → Q (.int v) H'
def sp_bag (K : PySem.W.Frag) : Sp := fun vs H Q _ => ∃ (a : Addr) (ns : List Int) (k : Int), vs = [.ref a, .int k] ∧ SqL K H a (ns.map V.int) ∧ 0 ≤ k ∧ k ≤ 63 ∧ ∀ (p : Addr) (H' : Hp), H p = none → Same H H' → Bag H' p → Q (.ref p) H'
def sp_isint : Sp := fun vs H Q _ => ∃ n : Int, vs = [.int n] ∧ Q (.bl true) H
theorem at0 {x : V} {xs : List V} : atI (x :: xs) 0 = some x := atI_nat (j := 0) rfl
theorem at1 {x y : V} {xs : List V} : atI (x :: y :: xs) 1 = some y := atI_nat (j := 1) rfl
theorem line2 {a b : V} : [a, b].length ≤ sizeLine := by show 2 ≤ sizeLine; decide
def sp_power : Sp := fun vs H Q _ => ∃ (b n : Int) (k : Nat), vs = [.int b, .int (k : Nat), .int n] ∧ 1 ≤ n ∧ n ≤ 64 ∧ 0 ≤ b ∧ b ≤ 64 ∧ k ≤ 64 ∧ Q (.int (pwm b n k)) H
section
variable {P : Program} {w : World} {K : PySem.W.Frag} {mg : Str → Option Value} {base : Heap} {f : Addr} {fd : FuncData}
theorem sc__law_bag : FnScope ["script", "k", "cell"] ["script", "k"] (defScope s__law_bag) := ⟨rfl, rfl, rfl, by decide +kernel, rfl, by decide +kernel, by decide +kernel⟩
theorem ok_bag (F : FnP K "_law_bag" "_law_bag" s__law_bag f fd) (T : Txt K mg) : FnOk P w K mg base CX0 1 f fd ["script", "k"] (sp_bag K) := by
  refine F.ok sc__law_bag (fun vs H Q E h => ?_) (fun cdv A outer s H vs Q E hr h => ?_)
  · obtain ⟨_, _, _, rfl, _⟩ := h; rfl
  obtain ⟨a, ns, i, rfl, hS, i0, i1, k⟩ := h
  refine ⟨_, PSs.nox (pss_cons (ps_set (i := 2) sc__law_bag.nd rfl (Or.inl rfl) pe_int)
  (pss_cons (ps_if (pt_cmpR op_lt (pv 1) (pe_callB (Rk.len K) rfl T.len PySem.boot_len (pa_cons (pv 0) pa_nil)) (nomark _))
  (pss_one (ps_set (i := 2) sc__law_bag.nd rfl (Or.inl rfl) (pe_ix (Rk.ixL K) (pv 0) (pv 1) (fun _ _ => rfl))))
  pss_nil)
  (pss_cons (ps_if (pt_cmpR op_ge (pe_callB call_abs rfl T.abs (by decide +kernel) (pa_cons (pv 2) pa_nil)) (pe_op op_pow pe_int pe_int) (nomark _))
  (pss_one (ps_ret (pe_lst (pa_cons (pe_callB call_abs rfl T.abs (by decide +kernel) (pa_cons (pv 2) pa_nil)) (pa_cons (pe_op op_mod (pe_callTy call_int1 rfl T.int (by decide +kernel) (pa_cons (pe_callB call_abs rfl T.abs (by decide +kernel) (pa_cons (pv 2) pa_nil)) pa_nil)) pe_int) pa_nil)))))
  pss_nil)
  (pss_one (ps_ret (pe_lst (pa_cons pe_int (pa_cons (pe_op op_mod (pe_callTy call_int1 rfl T.int (by decide +kernel) (pa_cons (pe_op op_add (pe_op op_mul (pv 2) pe_int) (pe_op op_mul pe_int (pe_op op_add (pv 1) pe_int))) pa_nil)) pe_int) pa_nil)))))))), ?_⟩
  walk_at "sj"
  with_reducible refine Rd.seqJ (fun σ' H' => ∃ c : Int, σ' = [some (.ref a), some (.int i), some (.int c)] ∧ H' = H) ?_ fun N hN => ?_
  · rintro σ' H' ⟨c, rfl, rfl⟩
    walk_at "st"
    refine Rd.iC ⟨by decide, by decide, by decide⟩ ?_
    walk_at "st"
    refine Rd.ite_d (fun h1 => ?_) (fun h1 => ?_)
    · walk_at "st"
      refine Rd.iC (by show (0 : Int) < 2147483629; decide) ?_
      walk_at "st"
      refine ⟨line2, fun p hp => k p _ hp (Rd.same_mk hp) ⟨_, _, upd_same, ?_, ?_, ?_⟩⟩
      · split <;> omega
      · exact Int.emod_nonneg _ (by decide)
      · exact Int.lt_trans (Int.emod_lt_of_pos _ (by decide)) (by decide)
    · walk_at "st"
      refine Rd.iC (.inr ⟨by decide, by decide⟩) ?_
      walk_at "st"
      refine Rd.iC (.inl ⟨by decide, by decide⟩) ?_
      walk_at "st"
      refine Rd.iC (by show (0 : Int) < 2147483647; decide) ?_
      walk_at "st"
      refine ⟨line2, fun p hp => k p _ hp (Rd.same_mk hp) ⟨_, _, upd_same, by decide, ?_, ?_⟩⟩
      · exact Int.emod_nonneg _ (by decide)
      · exact Int.lt_trans (Int.emod_lt_of_pos _ (by decide)) (by decide)
  walk_at "sj"
  refine Rd.len1 (.inl hS) ?_
  walk_at "sj"
  refine Rd.ite_d (fun h1 => ?_) (fun h1 => ?_)
  · rw [List.length_map] at h1
    obtain ⟨c, hc⟩ : ∃ c, ns[i.toNat]? = some c := ⟨ns[i.toNat]'(by omega), List.getElem?_eq_getElem (by omega)⟩
    walk_at "st"
    refine Rd.ixL hS (at_of (j := i.toNat) (v := .int c) (by omega) (by rw [List.getElem?_map, hc]; rfl)) ?_
    walk_at "st"
    exact hN _ _ ⟨c, rfl, rfl⟩
  · walk_at "st"
    exact hN _ _ ⟨0, rfl, rfl⟩
theorem sc__law_take : FnScope ["bag", "size", "digit"] ["bag", "size"] (defScope s__law_take) := ⟨rfl, rfl, rfl, by decide +kernel, rfl, by decide +kernel, by decide +kernel⟩
theorem ok_take (F : FnP K "_law_take" "_law_take" s__law_take f fd) (T : Txt K mg) : FnOk P w K mg base CX0 1 f fd ["bag", "size"] sp_take := by
  refine F.ok sc__law_take (fun vs H Q E h => ?_) (fun cdv A outer s H vs Q E hr h => ?_)
  · obtain ⟨_, _, rfl, _⟩ := h; rfl
  obtain ⟨a, n, rfl, n1, n2, ⟨x, y, hL, x0, y0, y1⟩, k⟩ := h
  refine ⟨_, PSs.nox (pss_cons (ps_if (pt_cmpR op_ge (pe_ix (Rk.ixL K) (pv 0) pe_int (fun _ _ => rfl)) (pv 1) (nomark _))
  (pss_cons (ps_set (i := 2) sc__law_take.nd rfl (Or.inl rfl) (pe_op op_mod (pe_callTy call_int1 rfl T.int (by decide +kernel) (pa_cons (pe_ix (Rk.ixL K) (pv 0) pe_int (fun _ _ => rfl)) pa_nil)) (pv 1)))
  (pss_cons (ps_asg (pe_op op_fdivW (pe_ix (Rk.ixL K) (pv 0) pe_int (fun _ _ => rfl)) (pv 1)) (pg_sub (pv 0) pe_int set_list))
  (pss_one (ps_ret (pv 2)))))
  pss_nil)
  (pss_cons (ps_asg (pe_op op_mod (pe_callTy call_int1 rfl T.int (by decide +kernel) (pa_cons (pe_op op_add (pe_op op_mul (pe_ix (Rk.ixL K) (pv 0) pe_int (fun _ _ => rfl)) pe_int) pe_int) pa_nil)) pe_int) (pg_sub (pv 0) pe_int set_list))
  (pss_cons (ps_asg (pe_op op_mod (pe_callTy call_int1 rfl T.int (by decide +kernel) (pa_cons (pe_op op_add (pe_op op_mul (pe_ix (Rk.ixL K) (pv 0) pe_int (fun _ _ => rfl)) pe_int) pe_int) pa_nil)) pe_int) (pg_sub (pv 0) pe_int set_list))
  (pss_one (ps_ret (pe_op op_mod (pe_callTy call_int1 rfl T.int (by decide +kernel) (pa_cons (pe_op op_fdivW (pe_ix (Rk.ixL K) (pv 0) pe_int (fun _ _ => rfl)) pe_int) pa_nil)) (pv 1))))))), ?_⟩
  walk_at "st"
  refine Rd.ixL (SqL.of hL) at0 ?_
  walk_at "st"
  refine Rd.ite_d (fun h1 => ?_) (fun h1 => ?_)
  · walk_at "st"
    refine Rd.ixL (SqL.of hL) at0 ?_
    walk_at "st"
    refine Rd.iC (by show 0 < n; omega) ?_
    walk_at "st"
    refine Rd.ixL (SqL.of hL) at0 ?_
    walk_at "st"
    refine Rd.iC (wide_div (b := 64) (by omega) (by omega) (by decide) (by decide)) ?_
    walk_at "st"
    refine Rd.setL hL (j := 0) rfl ?_
    walk_at "st"
    refine k _ _ (Int.emod_nonneg _ (by omega)) (Int.emod_lt_of_pos _ (by omega)) ⟨_, _, upd_same, ?_, y0, y1⟩ Rd.But.put
    exact Int.ediv_nonneg x0 (by omega)
  · walk_at "st"
    refine Rd.ixL (SqL.of hL) at1 ?_
    walk_at "st"
    refine Rd.iC (.inr ⟨by decide, by decide⟩) ?_
    walk_at "st"
    refine Rd.iC (by show (0 : Int) < 2147483647; decide) ?_
    walk_at "st"
    refine Rd.setL hL (j := 1) rfl ?_
    walk_at "st"
    have z0 := Int.emod_nonneg (y * 48271 + 11) (b := 2147483647) (by decide)
    have z1 := Int.emod_lt_of_pos (y * 48271 + 11) (b := 2147483647) (by decide)
    generalize (y * 48271 + 11) % 2147483647 = y2 at z0 z1
    refine Rd.ixL (xs := [.int x, .int y2]) (SqL.of upd_same) at1 ?_
    walk_at "st"
    refine Rd.iC (.inr ⟨by decide, by decide⟩) ?_
    walk_at "st"
    refine Rd.iC (by show (0 : Int) < 2147483629; decide) ?_
    walk_at "st"
    refine Rd.setL (xs := [.int x, .int y2]) upd_same (j := 1) rfl ?_
    walk_at "st"
    have w0 := Int.emod_nonneg (y2 * 69621 + 1013) (b := 2147483629) (by decide)
    have w1 := Int.emod_lt_of_pos (y2 * 69621 + 1013) (b := 2147483629) (by decide)
    generalize (y2 * 69621 + 1013) % 2147483629 = y3 at w0 w1
    refine Rd.ixL (xs := [.int x, .int y3]) (SqL.of upd_same) at1 ?_
    walk_at "st"
    refine Rd.iC (wide_div (b := 64) (by decide) (by decide) (by decide) (by decide)) ?_
    walk_at "st"
    refine Rd.iC (by show 0 < n; omega) ?_
    exact k _ _ (Int.emod_nonneg _ (by omega)) (Int.emod_lt_of_pos _ (by omega)) ⟨x, y3, upd_same, x0, w0, by omega⟩ (Rd.But.put.trans Rd.But.put)
theorem sc__law_is_integer : FnScope ["told"] ["told"] (defScope s__law_is_integer) := ⟨rfl, rfl, rfl, by decide +kernel, rfl, by decide +kernel, by decide +kernel⟩
theorem ok_isint (F : FnP K "_law_is_integer" "_law_is_integer" s__law_is_integer f fd) (T : Txt K mg) : FnOk P w K mg base CX0 1 f fd ["told"] sp_isint := by
  refine F.ok sc__law_is_integer (fun vs H Q E h => ?_) (fun cdv A outer s H vs Q E hr h => ?_)
  · obtain ⟨_, rfl, _⟩ := h; rfl
  obtain ⟨n, rfl, k⟩ := h
  refine ⟨_, PSs.nox (pss_one (ps_ret (pe_and (pe_callB (Rk.isi K) rfl T.isinstance (by decide +kernel) (pa_cons (pv 0) (pa_cons (pe_bltn rfl T.int (by decide +kernel) (RelV_ty "int")) pa_nil))) (pe_one (pe_not (pe_callB (Rk.isi K) rfl T.isinstance (by decide +kernel) (pa_cons (pv 0) (pa_cons (pe_bltn rfl T.bool (by decide +kernel) (RelV_ty "bool")) pa_nil)))))))), ?_⟩
  walk_at "st"
  refine Rd.isi (.base (.int n)) (Rd.kit_ty (v := true) (by decide +kernel)) ?_
  walk_at "st"
  refine (if_pos rfl).mpr ?_
  walk_at "st"
  refine Rd.isi (.base (.int n)) (Rd.kit_ty (b := "bool") (v := false) (by decide +kernel)) ?_
  walk_at "st"
  exact k
theorem sc__law_power : FnScope ["base", "times", "modulus", "result", "step"] ["base", "times", "modulus"] (defScope s__law_power) := ⟨rfl, rfl, rfl, by decide +kernel, rfl, by decide +kernel, by decide +kernel⟩
theorem ok_power (F : FnP K "_law_power" "_law_power" s__law_power f fd) (T : Txt K mg) : FnOk P w K mg base CX0 1 f fd ["base", "times", "modulus"] sp_power := by
  refine F.ok sc__law_power (fun vs H Q E h => ?_) (fun cdv A outer s H vs Q E hr h => ?_)
  · obtain ⟨_, _, _, rfl, _⟩ := h; rfl
  obtain ⟨b, n, k, rfl, n1, n2, b0, b1, k1, q⟩ := h
  refine ⟨_, PSs.nox (pss_cons (ps_set (i := 3) sc__law_power.nd rfl (Or.inl rfl) (pe_op op_mod (pe_callTy call_int1 rfl T.int (by decide +kernel) (pa_cons pe_int pa_nil)) (pv 2)))
  (pss_cons (ps_for PassesOwn.never rfl (pi_range1 rfl T.range (pa_cons (pv 1) pa_nil)) (pg_name (i := 4) sc__law_power.nd rfl (Or.inl rfl))
  (pss_one (ps_set (i := 3) sc__law_power.nd rfl (Or.inl rfl) (pe_op op_mod (pe_callTy call_int1 rfl T.int (by decide +kernel) (pa_cons (pe_op op_mul (pv 3) (pv 0)) pa_nil)) (pv 2)))))
  (pss_one (ps_ret (pv 3))))), ?_⟩
  walk_at "st"
  refine Rd.iC (by show 0 < n; omega) ?_
  walk_at "st"
  refine ⟨by omega, by omega, ?_⟩
  refine for_range (fun i σ H' => ∃ v : Option V, σ = [some (.int b), some (.int (k : Nat)), some (.int n), some (.int (pwm b n i)), v] ∧ H' = H) ⟨none, rfl, rfl⟩ ?_ ?_
  · rintro i σ H' hi ⟨v, rfl, rfl⟩
    obtain ⟨p0, p1⟩ := pwm_range (b := b) n1 i
    have p2 : pwm b n i * b ≤ 64 * 64 := Int.mul_le_mul (by omega) b1 b0 (by decide)
    have p3 : 0 ≤ pwm b n i * b := Int.mul_nonneg p0 b0
    walk_at "st"
    refine Rd.iC (.inr ⟨by omega, by omega⟩) ?_
    walk_at "st"
    refine Rd.iC (by show 0 < n; omega) ?_
    walk_at "st"
    exact ⟨_, rfl, rfl⟩
  · rintro σ H' ⟨v, rfl, rfl⟩
    walk_at "st"
    exact q
end
end K08

set_option Elab.async false
set_option linter.all false
set_option maxRecDepth 100000
set_option maxHeartbeats 4000000
namespace K08
open PySem L2 Rd GT
local macro_rules | `(tactic| walk_at "st1") => `(tactic| first | with_reducible refine' Rd.Stp.go ?_ | with_reducible refine' Rd.seq ?_)
local macro_rules | `(tactic| walk_at "st") => `(tactic| repeat (first | with_reducible refine' Rd.Stp.go ?_ | with_reducible refine' Rd.seq ?_ | ((with_reducible refine' Rd.nmR ?hr ?_); (case hr => repeat (first | exact Rd.SetR.zero | apply Rd.SetR.succ))) | ((with_reducible refine' Rd.var ?hv ?_); (case hv => rfl))))
local macro_rules | `(tactic| walk_at "sj") => `(tactic| repeat (first | with_reducible refine' Rd.Stp.go ?_ | with_reducible refine' Rd.seqA ?_ | with_reducible refine' Rd.seqD ?_ | with_reducible refine' Rd.seqF ?_ | with_reducible refine' Rd.seqW ?_ | ((with_reducible refine' Rd.nmR ?hr ?_); (case hr => repeat (first | exact Rd.SetR.zero | apply Rd.SetR.succ))) | ((with_reducible refine' Rd.var ?hv ?_); (case hv => rfl))))
local macro_rules | `(tactic| walk_at "sm") => `(tactic| first | exact Same.refl _ | assumption | (apply Rd.sm_tr; assumption; walk_at "sm") | fail)
local macro_rules | `(tactic| walk_at "fr") => `(tactic| with_reducible first
  | assumption
  | (apply Rd.fr_some; assumption; walk_at "fr") | (apply Rd.fr_tupN; assumption; walk_at "fr") | (apply Rd.fr_tupX; assumption; walk_at "fr")
  | (apply Rd.fr_grp; assumption; walk_at "fr") | (apply Rd.fr_rows; assumption; walk_at "fr") | (apply Rd.fr_rowL; assumption; walk_at "fr") | (apply Rd.fr_DD; assumption; walk_at "fr")
  | (apply Rd.fr_sqL; walk_at "fr") | fail)
/-! ### the law: the tables that it draws -/
theorem Bag.same {H H' : Hp} {b : Addr} (h : Bag H b) (e : Same H H') : Bag H' b := by
  obtain ⟨x, y, h1, h2⟩ := h
  exact ⟨x, y, e _ _ h1, h2⟩
theorem Bag.some {H : Hp} {b : Addr} (h : Bag H b) : H b ≠ none := by
  obtain ⟨x, y, h1, h2⟩ := h
  rw [h1]
  intro z
  cases z
theorem Bag.put {H : Hp} {b p : Addr} {o : HO} (h : Bag H b) (n : b ≠ p) : Bag (upd H p o) b := by
  obtain ⟨x, y, h1, h2⟩ := h
  exact ⟨x, y, by rw [upd_ne n]; exact h1, h2⟩
theorem Bag.ne {H : Hp} {b p : Addr} (h : Bag H b) (n : H p = none) : b ≠ p := fun z => h.some (z ▸ n)
theorem butFree {H H1 : Hp} {b p : Addr} (e : But b H H1) (n : p ≠ b) (h : H1 p = none) : H p = none := by
  cases q : H p with
  | none => rfl
  | some o => rw [e p o n q] at h; cases h
theorem butAdd {H H1 : Hp} {b p : Addr} {o : HO} (e : But b H H1) (h : H1 p = none) : But b H (upd H1 p o) := fun c u n q => by
  have z := e c u n q
  rw [upd_ne (ne_of_none z h)]
  exact z
theorem butMut {H H1 : Hp} {b p : Addr} {o : HO} (e : But b H H1) (h : H p = none) : But b H (upd H1 p o) := fun c u n q => by
  rw [upd_ne (ne_of_none q h)]
  exact e c u n q
theorem butSame {H H1 H2 : Hp} {b : Addr} (e : But b H H1) (s : Same H1 H2) : But b H H2 := fun c u n q => s _ _ (e c u n q)
/-- a new list of new lists of ints -/
structure TabN (H H' : Hp) (p : Addr) (t : List (List Int)) : Prop where
  fresh : H p = none
  ob : ∃ as, H' p = some (.lst (as.map V.ref)) ∧ Rows LstN H' as t ∧ (∀ a ∈ as, H a = none ∧ a ≠ p) ∧ as.Nodup
structure PairOk (n m : Int) (q : Int × Int) : Prop where
  r1 : 1 ≤ q.1
  rn : q.1 ≤ n
  s0 : 0 ≤ q.2
  sn : q.2 < n
  one : pwm q.1 n m.toNat = 1 % n
  fix : (q.1 - 1) * q.2 % n = 0
def sp_meta : Sp := fun vs H Q _ => ∃ (b : Addr) (lim : Int), vs = [.ref b, .int lim] ∧ 1 ≤ lim ∧ lim ≤ 33 ∧ Bag H b ∧ ∀ (n m k r s : Int) (p : Addr) (H' : Hp), MetaOk n m k r s → n * m * k ≤ lim → Bag H' b → But b H H' → TabN H H' p (metaT n m k r s) → Q (.ref p) H'
theorem div_fit {a b l : Int} (ha : 1 ≤ a) (h : b ≤ l / a) : a * b ≤ l := by
  have h1 : b * a ≤ l / a * a := Int.mul_le_mul_of_nonneg_right h (by omega)
  have h2 := Int.ediv_mul_le l (by omega : a ≠ 0)
  rw [Int.mul_comm] at h1
  omega
theorem div_one {a l : Int} (ha : 1 ≤ a) (h : a ≤ l) : 1 ≤ l / a := (Int.le_ediv_iff_mul_le (by omega)).mpr (by omega)
theorem le_mul1 {a b : Int} (ha : 1 ≤ a) (hb : 1 ≤ b) : a ≤ a * b ∧ b ≤ a * b := by
  have h1 := Int.mul_le_mul_of_nonneg_left hb (by omega : 0 ≤ a)
  have h2 := Int.mul_le_mul_of_nonneg_right ha (by omega : 0 ≤ b)
  rw [Int.mul_one] at h1
  rw [Int.one_mul] at h2
  exact ⟨h1, h2⟩
section
variable {P : Program} {w : World} {K : PySem.W.Frag} {mg : Str → Option Value} {base : Heap} {f : Addr} {fd : FuncData}
theorem sc__law_metacyclic : FnScope ["bag", "limit", "n", "m", "k", "pairs", "r", "s", "twisted", "pair", "table", "x", "turn", "row", "y", "a", "b"] ["bag", "limit"] (defScope s__law_metacyclic) := ⟨rfl, rfl, rfl, by decide +kernel, rfl, by decide +kernel, by decide +kernel⟩
theorem ok_meta (F : FnP K "_law_metacyclic" "_law_metacyclic" s__law_metacyclic f fd) (T : Txt K mg) (D__law_take : DOk P w K mg base CX0 "_law_take" 1 ["bag", "size"] sp_take) (D__law_power : DOk P w K mg base CX0 "_law_power" 1 ["base", "times", "modulus"] sp_power) : FnOk P w K mg base CX0 2 f fd ["bag", "limit"] sp_meta := by
  refine F.ok sc__law_metacyclic (fun vs H Q E h => ?_) (fun cdv A outer s H vs Q E hr h => ?_)
  · obtain ⟨_, _, rfl, _⟩ := h; rfl
  obtain ⟨b, lim, rfl, l1, l2, hb, kQ⟩ := h
  refine ⟨_, PSs.nox (pss_cons (ps_set (i := 2) sc__law_metacyclic.nd rfl (Or.inl rfl) (pe_op op_add pe_int (callX D__law_take (hr.mono (by decide)) (passN) (pa_cons (pv 0) (pa_cons (pv 1) pa_nil)))))
  (pss_cons (ps_set (i := 3) sc__law_metacyclic.nd rfl (Or.inl rfl) (pe_op op_add pe_int (callX D__law_take (hr.mono (by decide)) (passN) (pa_cons (pv 0) (pa_cons (pe_op op_fdivW (pv 1) (pv 2)) pa_nil)))))
  (pss_cons (ps_if (PW.pt (pw_and (pt_cmpR op_gt (pv 1) pe_int (nomark _)) (pw_and1 (pt_cmpR op_eq (callX D__law_take (hr.mono (by decide)) (passN) (pa_cons (pv 0) (pa_cons pe_int pa_nil))) pe_int (nomark _)))))
  (pss_cons (ps_set (i := 2) sc__law_metacyclic.nd rfl (Or.inl rfl) (pe_op op_add pe_int (callX D__law_take (hr.mono (by decide)) (passN) (pa_cons (pv 0) (pa_cons (pe_op op_sub (pe_op op_fdivW (pv 1) pe_int) pe_int) pa_nil)))))
  (pss_one (ps_set (i := 3) sc__law_metacyclic.nd rfl (Or.inl rfl) pe_int)))
  pss_nil)
  (pss_cons (ps_set (i := 4) sc__law_metacyclic.nd rfl (Or.inl rfl) (pe_op op_add pe_int (callX D__law_take (hr.mono (by decide)) (passN) (pa_cons (pv 0) (pa_cons (pe_op op_fdivW (pv 1) (pe_op op_mul (pv 2) (pv 3))) pa_nil)))))
  (pss_cons (ps_set (i := 5) sc__law_metacyclic.nd rfl (Or.inl rfl) (pe_lst pa_nil))
  (pss_cons (ps_for PassesOwn.never rfl (pi_range2 rfl T.range (pa_cons pe_int (pa_cons (pe_op op_add (pv 2) pe_int) pa_nil))) (pg_name (i := 6) sc__law_metacyclic.nd rfl (Or.inl rfl))
  (pss_one (ps_for PassesOwn.never rfl (pi_range1 rfl T.range (pa_cons (pv 2) pa_nil)) (pg_name (i := 7) sc__law_metacyclic.nd rfl (Or.inl rfl))
  (pss_one (ps_if (PW.pt (pw_and (pt_cmpR op_eq (callX D__law_power (hr.mono (by decide)) (passN) (pa_cons (pv 6) (pa_cons (pv 3) (pa_cons (pv 2) pa_nil)))) (pe_op op_mod (pe_callTy call_int1 rfl T.int (by decide +kernel) (pa_cons pe_int pa_nil)) (pv 2)) (nomark _)) (pw_and1 (pt_cmpR op_eq (pe_op op_mod (pe_callTy call_int1 rfl T.int (by decide +kernel) (pa_cons (pe_op op_mul (pe_op op_sub (pv 6) pe_int) (pv 7)) pa_nil)) (pv 2)) pe_int (nomark _)))))
  (pss_one (ps_expr (Rk.bm K rfl PySem.F.plainAttrs_list PySem.F.slot_list_append PySem.F.type_list_append mt_append (pv 5) (pa_cons (pe_tup (pa_cons (pv 6) (pa_cons (pv 7) pa_nil))) pa_nil))))
  pss_nil)))))
  (pss_cons (ps_setLc (i := 8) (own := [("pair", 9)]) rfl sc__law_metacyclic.nd rfl rfl (sw_true rfl rfl rfl (by decide +kernel)) (Rk.pl K rfl (pv 5)) (blkOk_by (own := [("pair", 9)]) (N := ["bag", "limit", "n", "m", "k", "pairs", "r", "s", "twisted", "pair", "table", "x", "turn", "row", "y", "a", "b"]) (sc := defScope s__law_metacyclic) (by decide +kernel)) (fun _ _ _ _ _ => (pg_name (i := 9) sc__law_metacyclic.nd rfl (Or.inl rfl))) (fun _ _ _ _ _ => (pts_one (pt_cmpR op_gt (pe_ix (Rk.ixT K) (pv 9) pe_int (fun _ _ => rfl)) pe_int (nomark _)))) (fun _ _ _ _ _ => (pv 9)))
  (pss_cons (ps_if (PW.pt (pw_and (pt_cmpR op_gt (pe_callB (Rk.len K) rfl T.len PySem.boot_len (pa_cons (pv 8) pa_nil)) pe_int (nomark _)) (pw_and1 (pt_cmpR op_gt (callX D__law_take (hr.mono (by decide)) (passN) (pa_cons (pv 0) (pa_cons pe_int pa_nil))) pe_int (nomark _)))))
  (pss_one (ps_set (i := 5) sc__law_metacyclic.nd rfl (Or.inl rfl) (pv 8)))
  pss_nil)
  (pss_cons (ps_set (i := 9) sc__law_metacyclic.nd rfl (Or.inl rfl) (pe_ix (Rk.ixL K) (pv 5) (callX D__law_take (hr.mono (by decide)) (passN) (pa_cons (pv 0) (pa_cons (pe_callB (Rk.len K) rfl T.len PySem.boot_len (pa_cons (pv 5) pa_nil)) pa_nil))) (fun _ _ => rfl)))
  (pss_cons (ps_set (i := 10) sc__law_metacyclic.nd rfl (Or.inl rfl) (pe_lst pa_nil))
  (pss_cons (ps_for PassesOwn.never rfl (pi_range1 rfl T.range (pa_cons (pe_op op_mul (pe_op op_mul (pv 2) (pv 3)) (pv 4)) pa_nil)) (pg_name (i := 11) sc__law_metacyclic.nd rfl (Or.inl rfl))
  (pss_cons (ps_set (i := 12) sc__law_metacyclic.nd rfl (Or.inl rfl) (callX D__law_power (hr.mono (by decide)) (passN) (pa_cons (pe_ix (Rk.ixT K) (pv 9) pe_int (fun _ _ => rfl)) (pa_cons (pe_op op_mod (pe_callTy call_int1 rfl T.int (by decide +kernel) (pa_cons (pe_op op_fdivW (pv 11) (pv 4)) pa_nil)) (pv 3)) (pa_cons (pv 2) pa_nil)))))
  (pss_cons (ps_set (i := 13) sc__law_metacyclic.nd rfl (Or.inl rfl) (pe_lst pa_nil))
  (pss_cons (ps_for PassesOwn.never rfl (pi_range1 rfl T.range (pa_cons (pe_op op_mul (pe_op op_mul (pv 2) (pv 3)) (pv 4)) pa_nil)) (pg_name (i := 14) sc__law_metacyclic.nd rfl (Or.inl rfl))
  (pss_cons (ps_set (i := 15) sc__law_metacyclic.nd rfl (Or.inl rfl) (pe_op op_add (pe_op op_fdivW (pv 11) (pe_op op_mul (pv 3) (pv 4))) (pe_op op_mul (pv 12) (pe_op op_fdivW (pv 14) (pe_op op_mul (pv 3) (pv 4))))))
  (pss_cons (ps_set (i := 16) sc__law_metacyclic.nd rfl (Or.inl rfl) (pe_op op_add (pe_op op_mod (pe_callTy call_int1 rfl T.int (by decide +kernel) (pa_cons (pe_op op_fdivW (pv 11) (pv 4)) pa_nil)) (pv 3)) (pe_op op_mod (pe_callTy call_int1 rfl T.int (by decide +kernel) (pa_cons (pe_op op_fdivW (pv 14) (pv 4)) pa_nil)) (pv 3))))
  (pss_cons (ps_if (pt_cmpR op_ge (pv 16) (pv 3) (nomark _))
  (pss_one (ps_set (i := 15) sc__law_metacyclic.nd rfl (Or.inl rfl) (pe_op op_add (pv 15) (pe_ix (Rk.ixT K) (pv 9) pe_int (fun _ _ => rfl)))))
  pss_nil)
  (pss_one (ps_expr (Rk.bm K rfl PySem.F.plainAttrs_list PySem.F.slot_list_append PySem.F.type_list_append mt_append (pv 13) (pa_cons (pe_op op_add (pe_op op_mul (pe_op op_add (pe_op op_mul (pe_op op_mod (pe_callTy call_int1 rfl T.int (by decide +kernel) (pa_cons (pv 15) pa_nil)) (pv 2)) (pv 3)) (pe_op op_mod (pe_callTy call_int1 rfl T.int (by decide +kernel) (pa_cons (pv 16) pa_nil)) (pv 3))) (pv 4)) (pe_op op_mod (pe_callTy call_int1 rfl T.int (by decide +kernel) (pa_cons (pe_op op_add (pv 11) (pv 14)) pa_nil)) (pv 4))) pa_nil))))))))
  (pss_one (ps_expr (Rk.bm K rfl PySem.F.plainAttrs_list PySem.F.slot_list_append PySem.F.type_list_append mt_append (pv 10) (pa_cons (pv 13) pa_nil))))))))
  (pss_one (ps_ret (pv 10)))))))))))))), ?_⟩
  walk_at "sj"
  refine ⟨b, lim, rfl, l1, by omega, hb, fun n0 H1 n1 n2 hb1 e1 => ?_⟩
  walk_at "sj"
  refine Rd.iC (wide_div (b := 64) (by omega) (by omega) (by decide) (by decide)) ?_
  walk_at "sj"
  have d1 := div_one (a := 1 + n0) (l := lim) (by omega) (by omega)
  have d2 : lim / (1 + n0) ≤ lim := Int.ediv_le_self _ (by omega)
  refine ⟨b, _, rfl, d1, by omega, hb1, fun m0 H2 m1 m2 hb2 e2 => ?_⟩
  have fit1 := div_fit (a := 1 + n0) (b := 1 + m0) (l := lim) (by omega) (by omega)
  walk_at "sj"
  with_reducible refine Rd.seqJ (fun σ' H' => ∃ n m : Int, σ' = [some (.ref b), some (.int lim), some (.int n), some (.int m), none, none, none, none, none, none, none, none, none, none, none, none, none] ∧ 1 ≤ n ∧ 1 ≤ m ∧ n * m ≤ lim ∧ Bag H' b ∧ But b H H') ?_ fun N hN => ?_
  · rintro σ H3 ⟨n, m, rfl, n1, m1, nm, hb3, e3⟩
    obtain ⟨nn, mm⟩ := le_mul1 n1 m1
    walk_at "sj"
    refine Rd.iC (.inl ⟨by omega, by omega⟩) ?_
    walk_at "sj"
    refine Rd.iC (wide_div (b := 64) (by omega) (by omega) (by decide) (by decide)) ?_
    walk_at "sj"
    have d3 := div_one (a := n * m) (l := lim) (by omega) nm
    have d4 : lim / (n * m) ≤ lim := Int.ediv_le_self _ (by omega)
    refine ⟨b, _, rfl, d3, by omega, hb3, fun k0 H4 k1 k2 hb4 e4 => ?_⟩
    have fit2 := div_fit (a := n * m) (b := 1 + k0) (l := lim) (by omega) (by omega)
    generalize hk : 1 + k0 = k at fit2
    have k1 : 1 ≤ k := by omega
    have e5 := e3.trans e4
    walk_at "sj"
    rw [hk]
    refine ⟨Nat.zero_le _, fun p hp => ?_⟩
    have p0 := butFree e5 (hb4.ne hp).symm hp
    obtain ⟨mn, rfl⟩ : ∃ mn : Nat, m = (mn : Int) := ⟨m.toNat, by omega⟩
    have big : ∀ x : Nat, x ≤ 33 * 33 → x < sizeLine := fun x h => Nat.lt_of_le_of_lt h (by decide)
    have nb : n.toNat ≤ 33 := by omega
    walk_at "sj"
    refine ⟨by omega, ?_⟩
    refine for_range (lo := 1) (fun i σ H' => ∃ (v6 v7 : Option V) (ts : List Addr) (l : List (Int × Int)), σ = [some (.ref b), some (.int lim), some (.int n), some (.int (mn : Nat)), some (.int k), some (.ref p), v6, v7, none, none, none, none, none, none, none, none, none] ∧ Same H4 H' ∧ H' p = some (.lst (ts.map V.ref)) ∧ Prs H' ts l ∧ (∀ q ∈ l, PairOk n mn q) ∧ (0 < i → l ≠ []) ∧ l.length ≤ i * n.toNat)
      ⟨none, none, [], [], rfl, Rd.same_mk hp, upd_same, Prs.nil, (fun q h => by cases h), (fun h => by omega), Nat.zero_le _⟩ ?_ ?_
    · rintro i σ H' hi ⟨v6, v7, ts, l, rfl, e6, hL, pr, ok, ne, len⟩
      have hi2 : i + 1 ≤ n.toNat := by omega
      walk_at "st"
      refine ⟨by omega, by omega, ?_⟩
      refine for_range (fun j σ H' => ∃ (v7 : Option V) (ts : List Addr) (l : List (Int × Int)), σ = [some (.ref b), some (.int lim), some (.int n), some (.int (mn : Nat)), some (.int k), some (.ref p), some (.int (1 + (i : Nat))), v7, none, none, none, none, none, none, none, none, none] ∧ Same H4 H' ∧ H' p = some (.lst (ts.map V.ref)) ∧ Prs H' ts l ∧ (∀ q ∈ l, PairOk n mn q) ∧ (0 < i ∨ 0 < j → l ≠ []) ∧ l.length ≤ i * n.toNat + j)
        ⟨v7, ts, l, rfl, e6, hL, pr, ok, fun h => ne (by omega), len⟩ ?_ ?_
      · rintro j σ H' hj ⟨v7, ts, l, rfl, e6, hL, pr, ok, ne, len⟩
        have lb : l.length < 33 * 33 := by
          have := Nat.mul_le_mul hi2 nb
          have q2 : i * n.toNat + n.toNat = (i + 1) * n.toNat := by rw [Nat.add_mul, Nat.one_mul]
          have q3 : (i + 1) * n.toNat ≤ 33 * 33 := Nat.mul_le_mul (by omega) nb
          omega
        walk_at "st"
        refine ⟨1 + (i : Nat), n, mn, rfl, by omega, by omega, by omega, by omega, by omega, ?_⟩
        walk_at "st"
        refine Rd.iC (by show 0 < n; omega) ?_
        walk_at "st"
        refine Rd.ite_d (fun c1 => ?_) (fun c1 => ?_)
        · walk_at "st"
          refine Rd.iC (.inl ⟨by omega, by omega⟩) ?_
          walk_at "st"
          refine Rd.iC (by show 0 < n; omega) ?_
          walk_at "st"
          refine Rd.ite_d (fun c2 => ?_) (fun c2 => ?_)
          · walk_at "st"
            refine Rd.tyL hL ?_
            walk_at "st"
            refine ⟨line2, fun t ht => ?_⟩
            have ntp : p ≠ t := ne_of_none hL ht
            walk_at "st"
            refine Rd.app (by rw [upd_ne ntp]; exact hL) (by rw [List.length_map, pr.len]; exact big _ (by omega)) ?_
            walk_at "st"
            refine ⟨_, ts ++ [t], l ++ [((1 + (i : Int), 0 + (j : Int)) : Int × Int)], rfl, Rd.same_mut (Rd.same_add e6 ht) hp, by rw [upd_same, List.map_append]; rfl, ?_, ?_, fun _ z => by simp at z, by rw [List.length_append, List.length_singleton]; omega⟩
            · refine Prs.snoc ((pr.same (Rd.same_mk ht)).but (p := p) (xs := ts.map V.ref) (by rw [upd_ne ntp]; exact hL) Rd.But.put) ?_
              rw [upd_ne ntp.symm]; exact upd_same
            · intro q hq
              rcases List.mem_append.mp hq with h | h
              · exact ok q h
              · rw [List.mem_singleton.mp h]
                exact ⟨by show 1 ≤ 1 + (i : Int); omega, by show 1 + (i : Int) ≤ n; omega, by show 0 ≤ 0 + (j : Int); omega, by show 0 + (j : Int) < n; omega, by rw [Int.toNat_natCast]; exact c1, c2⟩
          · walk_at "st"
            refine ⟨_, ts, l, rfl, e6, hL, pr, ok, fun h => ne ?_, by omega⟩
            apply Classical.byContradiction
            intro z
            refine c2 ?_
            have i0 : i = 0 := by omega
            subst i0
            show (1 + ((0 : Nat) : Int) - 1) * (0 + (j : Int)) % n = 0
            rw [show 1 + ((0 : Nat) : Int) - 1 = 0 by rfl, Int.zero_mul, Int.zero_emod]
        · walk_at "st"
          refine ⟨_, ts, l, rfl, e6, hL, pr, ok, fun h => ne ?_, by omega⟩
          apply Classical.byContradiction
          intro z
          refine c1 ?_
          have i0 : i = 0 := by omega
          subst i0
          exact pwm_one mn
      · rintro σ H' ⟨v7, ts, l, rfl, e6, hL, pr, ok, ne, len⟩
        walk_at "st"
        refine ⟨_, _, ts, l, rfl, e6, hL, pr, ok, fun _ => ne (.inr (by omega)), ?_⟩
        have q2 : i * n.toNat + n.toNat = (i + 1) * n.toNat := by rw [Nat.add_mul, Nat.one_mul]
        omega
    · rintro σ H' ⟨v6, v7, ts, l, rfl, e6, hL, pr, ok, ne, len⟩
      have ne2 := ne (by omega)
      have lb : l.length ≤ 33 * 33 := by
        have := Nat.mul_le_mul (by omega : (n + 1 - 1).toNat ≤ 33) nb
        omega
      walk_at "sj"
      refine Rd.itl' (SqL.of hL) ?_
      refine Rd.lcIf (fun i => .ref (ts.getD i 0)) (fun i => decide (1 < (l.getD i (0, 0)).1)) (Rd.src_list (SqL.of hL)) (by rw [List.length_map, pr.len]; omega) (by intro _; rfl) (fun i x H8 Q1 hx e8 q1 => ?_) (fun i x H8 Q1 hx _ e8 q1 => ?_) (fun p8 H8 hp8 e8 h8 => ?_)
      · obtain ⟨t, q, rfl, t1, t2, t3⟩ := pr.get hx
        rw [getD_of t2] at q1
        walk_at "st"
        refine Rd.ixT (SqT.of (e8 _ _ t3)) at0 ?_
        walk_at "st"
        exact q1
      · obtain ⟨t, q, rfl, t1, t2, t3⟩ := pr.get hx
        rw [getD_of t1] at q1
        walk_at "st"
        exact q1 _ (Same.refl _)
      have hidx : ∀ j ∈ (List.range (ts.map V.ref).length).filter (fun i => decide (1 < (l.getD i (0, 0)).1)), j < l.length := fun j hj => by
        have := List.mem_range.mp (List.mem_filter.mp hj).1
        rw [List.length_map, pr.len] at this
        exact this
      have pr8 := (pr.same e8).pick _ hidx
      have ok8 := Rd.pick_mem (l := l) _ hidx
      have len8 : ((List.range (ts.map V.ref).length).filter (fun i => decide (1 < (l.getD i (0, 0)).1))).length ≤ 33 * 33 := by
        refine Nat.le_trans (m := (ts.map V.ref).length) ?_ (by rw [List.length_map, pr.len]; omega)
        have := List.length_filter_le (fun i => decide (1 < (l.getD i (0, 0)).1)) (List.range (ts.map V.ref).length)
        rw [List.length_range] at this
        exact this
      generalize (List.range (ts.map V.ref).length).filter (fun i => decide (1 < (l.getD i (0, 0)).1)) = idx at h8 pr8 ok8 len8
      have e9 := e6.trans e8
      have hb8 := hb4.same e9
      have hL8 := e8 _ _ hL
      have pr0 := pr.same e8
      walk_at "sj"
      with_reducible refine Rd.seqJ (fun σ' H' => ∃ (pp : Addr) (ts : List Addr) (l : List (Int × Int)), σ' = [some (.ref b), some (.int lim), some (.int n), some (.int (mn : Nat)), some (.int k), some (.ref pp), v6, v7, some (.ref p8), none, none, none, none, none, none, none, none] ∧ Bag H' b ∧ But b H H' ∧ H' pp = some (.lst (ts.map V.ref)) ∧ Prs H' ts l ∧ (∀ q ∈ l, PairOk n mn q) ∧ l ≠ [] ∧ l.length ≤ 33 * 33) ?_ fun N2 hN2 => ?_
      · rintro σ H5 ⟨pp, ts5, l5, rfl, hb5, e10, hL5, pr5, ok5, ne5, len5⟩
        obtain ⟨l5p, hl5⟩ : ∃ z, z = l5.length := ⟨_, rfl⟩
        have l5pos : 0 < l5.length := List.length_pos_iff.mpr ne5
        walk_at "sj"
        refine Rd.len1 (.inl (SqL.of hL5)) ?_
        walk_at "sj"
        rw [List.length_map, pr5.len]
        refine ⟨b, _, rfl, by omega, by omega, hb5, fun v H6 v0 v1 hb6 e11 => ?_⟩
        have hL6 : H6 pp = some (.lst (ts5.map V.ref)) := e11 pp _ (fun z => by
          obtain ⟨x, y, w1, _⟩ := hb5
          rw [z, w1] at hL5
          cases ts5 with
          | nil => cases hL5
          | cons a as => cases hL5) hL5
        have pr6 : Prs H6 ts5 l5 := by
          obtain ⟨x, y, w1, _⟩ := hb5
          exact pr5.but w1 e11
        have e12 := e10.trans e11
        have hv : v.toNat < l5.length := by omega
        have hq : l5[v.toNat]? = some l5[v.toNat] := List.getElem?_eq_getElem hv
        have hv2 : v.toNat < ts5.length := by rw [pr6.len]; exact hv
        have ht : ts5[v.toNat]? = some ts5[v.toNat] := List.getElem?_eq_getElem hv2
        generalize l5[v.toNat] = q at hq
        generalize ts5[v.toNat] = t at ht
        have hT := pr6.at_ _ _ _ ht hq
        obtain ⟨q1, q2, q3, q4, q5, q6⟩ := ok5 q (List.mem_of_getElem? hq)
        refine Rd.ixL (SqL.of hL6) (at_of (j := v.toNat) (v := .ref t) (by omega) (by rw [List.getElem?_map, ht]; rfl)) ?_
        walk_at "sj"
        refine ⟨Nat.zero_le _, fun tb htb => ?_⟩
        have tb0 := butFree e12 (hb6.ne htb).symm htb
        walk_at "sj"
        refine Rd.iC (.inl ⟨by omega, by omega⟩) ?_
        walk_at "sj"
        obtain ⟨kk1, kk2⟩ := le_mul1 (a := n * (mn : Int)) (b := k) (by omega) k1
        refine Rd.iC (.inl ⟨by omega, by omega⟩) ?_
        walk_at "sj"
        refine ⟨by omega, by omega, ?_⟩
        have rr : ∀ x y : Int, 0 ≤ metaE n mn k q.1 q.2 x y ∧ metaE n mn k q.1 q.2 x y < n * mn * k := fun x y => metaE_range n1 m1 k1
        have N33 : (n * (mn : Int) * k).toNat ≤ 33 := by omega
        have kd : ∀ x : Int, CDivW x k := fun x => wide_div (b := 64) (by omega) (by omega) (by decide) (by decide)
        obtain ⟨mk1, mk2⟩ := le_mul1 (a := (mn : Int)) (b := k) m1 k1
        have mk3 : (mn : Int) * k ≤ n * mn * k := by
          rw [Int.mul_assoc]
          exact (le_mul1 n1 (by omega)).2
        have mkd : ∀ x : Int, CDivW x ((mn : Int) * k) := fun x => wide_div (b := 64) (by omega) (by omega) (by decide) (by decide)
        have md : ∀ x : Int, 0 ≤ x % (mn : Int) ∧ x % (mn : Int) < mn := fun x => ⟨Int.emod_nonneg _ (by omega), Int.emod_lt_of_pos _ (by omega)⟩
        have nd_ : ∀ x : Int, 0 ≤ x % n ∧ x % n < n := fun x => ⟨Int.emod_nonneg _ (by omega), Int.emod_lt_of_pos _ (by omega)⟩
        generalize hN : (n * (mn : Int) * k).toNat = Nn at N33
        refine for_range (fun i σ H' => ∃ (v11 v12 v13 v14 v15 v16 : Option V) (as : List Addr), σ = [some (.ref b), some (.int lim), some (.int n), some (.int (mn : Nat)), some (.int k), some (.ref pp), v6, v7, some (.ref p8), some (.ref t), some (.ref tb), v11, v12, v13, v14, v15, v16] ∧ Same H6 H' ∧ H' tb = some (.lst (as.map V.ref)) ∧ as.length = i ∧
            (∀ (j : Nat) (a : Addr), as[j]? = some a → H' a = some (.lst (((List.range Nn).map fun y => metaE n mn k q.1 q.2 (j : Nat) (y : Nat)).map V.int)) ∧ H6 a = none ∧ a ≠ tb) ∧ as.Nodup)
          ⟨none, none, none, none, none, none, [], rfl, Rd.same_mk htb, upd_same, rfl, fun j a h => by simp at h, List.nodup_nil⟩ ?_ ?_
        · rintro i σ H7 hi ⟨v11, v12, v13, v14, v15, v16, as, rfl, e13, hTb, la, hrow, nd⟩
          rw [Int.zero_add]
          walk_at "st"
          refine Rd.ixT (SqT.of (e13 _ _ hT)) at0 ?_
          walk_at "st"
          refine Rd.iC (kd _) ?_
          walk_at "st"
          refine Rd.iC (by show 0 < (mn : Int); omega) ?_
          walk_at "st"
          obtain ⟨u0, u1⟩ := md ((i : Int) / k)
          refine ⟨q.1, n, ((i : Int) / k % mn).toNat, by rw [Int.toNat_of_nonneg u0]; rfl, n1, by omega, by omega, by omega, by omega, ?_⟩
          obtain ⟨w0, w1⟩ := pwm_range (b := q.1) n1 ((i : Int) / k % mn).toNat
          walk_at "st"
          refine ⟨Nat.zero_le _, fun rw_ hrw => ?_⟩
          have rtb : rw_ ≠ tb := fun z => by rw [z, hTb] at hrw; cases hrw
          walk_at "st"
          refine Rd.iC (.inl ⟨by omega, by omega⟩) ?_
          walk_at "st"
          refine Rd.iC (.inl ⟨by omega, by omega⟩) ?_
          walk_at "st"
          refine ⟨by omega, by omega, ?_⟩
          rw [hN]
          generalize hturn : pwm q.1 n ((i : Int) / k % mn).toNat = turn at w0 w1
          refine for_range (fun j σ H' => ∃ (v14 v15 v16 : Option V), σ = [some (.ref b), some (.int lim), some (.int n), some (.int (mn : Nat)), some (.int k), some (.ref pp), v6, v7, some (.ref p8), some (.ref t), some (.ref tb), some (.int (i : Nat)), some (.int turn), some (.ref rw_), v14, v15, v16] ∧ Same H7 H' ∧ H' rw_ = some (.lst (((List.range j).map fun y => metaE n mn k q.1 q.2 (i : Nat) (y : Nat)).map V.int)))
            ⟨v14, v15, v16, rfl, Rd.same_mk hrw, upd_same⟩ ?_ ?_
          · rintro j σ H8 hj ⟨v14, v15, v16, rfl, e14, hRw⟩
            rw [Int.zero_add]
            walk_at "sj"
            refine Rd.iC (.inl ⟨by omega, by omega⟩) ?_
            walk_at "sj"
            refine Rd.iC (mkd _) ?_
            walk_at "sj"
            refine Rd.iC (.inl ⟨by omega, by omega⟩) ?_
            walk_at "sj"
            refine Rd.iC (mkd _) ?_
            walk_at "sj"
            refine Rd.iC (.inl ⟨by omega, by omega⟩) ?_
            walk_at "sj"
            refine Rd.iC (kd _) ?_
            walk_at "sj"
            refine Rd.iC (by show 0 < (mn : Int); omega) ?_
            walk_at "sj"
            refine Rd.iC (kd _) ?_
            walk_at "sj"
            refine Rd.iC (by show 0 < (mn : Int); omega) ?_
            walk_at "sj"
            generalize ha0 : (i : Int) / ((mn : Int) * k) + turn * ((j : Int) / ((mn : Int) * k)) = a0
            generalize hb0 : (i : Int) / k % (mn : Int) + (j : Int) / k % (mn : Int) = b0
            with_reducible refine Rd.seqJ (fun σ' H' => σ' = [some (.ref b), some (.int lim), some (.int n), some (.int (mn : Nat)), some (.int k), some (.ref pp), v6, v7, some (.ref p8), some (.ref t), some (.ref tb), some (.int (i : Nat)), some (.int turn), some (.ref rw_), some (.int (j : Nat)), some (.int (if (mn : Int) ≤ b0 then a0 + q.2 else a0)), some (.int b0)] ∧ H' = H8) ?_ fun N3 hN3 => ?_
            · rintro σ' H' ⟨rfl, rfl⟩
              walk_at "st"
              refine Rd.tyL hRw ?_
              walk_at "st"
              refine Rd.iC (by show 0 < n; omega) ?_
              walk_at "st"
              generalize hX : (if (mn : Int) ≤ b0 then a0 + q.2 else a0) = X
              obtain ⟨x0, x1⟩ := nd_ X
              obtain ⟨y0, y1⟩ := md b0
              refine Rd.iC (.inl ⟨by omega, by omega⟩) ?_
              walk_at "st"
              refine Rd.iC (by show 0 < (mn : Int); omega) ?_
              walk_at "st"
              refine Rd.iC (.inr ⟨by omega, by omega⟩) ?_
              walk_at "st"
              refine Rd.iC (by show 0 < k; omega) ?_
              walk_at "st"
              have val : (X % n * (mn : Int) + b0 % (mn : Int)) * k + ((i : Int) + (j : Int)) % k = metaE n mn k q.1 q.2 (i : Nat) (j : Nat) := by
                unfold metaE
                simp only []
                rw [hturn, ha0, hb0, hX]
              refine Rd.app hRw (by rw [List.length_map, List.length_map, List.length_range]; exact big _ (by omega)) ?_
              walk_at "st"
              refine ⟨_, _, _, rfl, Rd.same_mut e14 hrw, ?_⟩
              rw [upd_same, List.range_succ, List.map_append, List.map_append]
              show some (HO.lst (_ ++ [V.int ((X % n * (mn : Int) + b0 % (mn : Int)) * k + ((i : Int) + (j : Int)) % k)])) = _
              rw [val]; rfl
            · walk_at "st"
              refine Rd.ite_d (fun c => ?_) (fun c => ?_)
              · walk_at "st"
                refine Rd.ixT (SqT.of (e14 _ _ (e13 _ _ hT))) at1 ?_
                walk_at "st"
                exact hN3 _ _ ⟨by rw [if_pos c] <;> rfl, rfl⟩
              · walk_at "st"
                exact hN3 _ _ ⟨by rw [if_neg c] <;> rfl, rfl⟩
          · rintro σ H8 ⟨v14, v15, v16, rfl, e14, hRw⟩
            walk_at "st"
            have hTb8 := e14 _ _ hTb
            refine Rd.tyL hTb8 ?_
            walk_at "st"
            refine Rd.app hTb8 (by rw [List.length_map]; exact big _ (by omega)) ?_
            walk_at "st"
            have rn : rw_ ∉ as := fun hm => by
              obtain ⟨j, hj⟩ := List.getElem?_of_mem hm
              rw [(hrow j rw_ hj).1] at hrw
              cases hrw
            refine ⟨_, _, _, _, _, _, as ++ [rw_], rfl, Rd.same_mut (e13.trans e14) htb, by rw [upd_same, List.map_append]; rfl, by rw [List.length_append, la]; rfl, fun j a ha => ?_, List.nodup_append.mpr ⟨nd, by simp, fun x hx y hy => by rw [List.mem_singleton.mp hy]; intro z; exact rn (z ▸ hx)⟩⟩
            by_cases c : j < as.length
            · rw [List.getElem?_append_left c] at ha
              obtain ⟨h1, h2, h3⟩ := hrow j a ha
              exact ⟨by rw [upd_ne h3]; exact e14 _ _ h1, h2, h3⟩
            · have lu := (List.getElem?_eq_some_iff.mp ha).1
              rw [List.length_append, List.length_singleton] at lu
              have ej : j = as.length := by omega
              subst ej
              rw [List.getElem?_append_right (Nat.le_refl _), Nat.sub_self] at ha
              cases ha
              rw [la]
              exact ⟨by rw [upd_ne rtb]; exact hRw, Same.free e13 hrw, rtb⟩
        · rintro σ H7 ⟨v11, v12, v13, v14, v15, v16, as, rfl, e13, hTb, la, hrow, nd⟩
          walk_at "st"
          have tl : (metaT n mn k q.1 q.2).length = Nn := by unfold metaT; rw [List.length_map, List.length_range, hN]
          refine kQ n mn k q.1 q.2 tb H7 ⟨n1, m1, k1, q1, q2, q3, q4, q5, q6⟩ (by omega) (hb6.same e13) (butSame e12 e13) ⟨tb0, as, hTb, ⟨by rw [la, tl], fun j a r h1 h2 => ?_⟩, fun a ha => ?_, nd⟩
          · obtain ⟨h3, _, _⟩ := hrow j a h1
            unfold metaT at h2
            rw [hN] at h2
            have hj : j < Nn := by rw [← la]; exact (List.getElem?_eq_some_iff.mp h1).1
            rw [List.getElem?_map, List.getElem?_range hj] at h2
            cases h2
            exact h3
          · obtain ⟨j, hj⟩ := List.getElem?_of_mem ha
            obtain ⟨h3, h4, h5⟩ := hrow j a hj
            exact ⟨butFree e12 (hb6.ne h4).symm h4, h5⟩
      · walk_at "st"
        refine Rd.len1 (.inl (SqL.of h8)) ?_
        walk_at "st"
        refine Rd.ite_d (fun c => ?_) (fun c => ?_)
        · walk_at "st"
          refine ⟨b, 4, rfl, by decide, by decide, hb8, fun v H9 v0 v1 hb9 e10 => ?_⟩
          have k9 : ∀ (q : Addr) (xs : List Addr), H8 q = some (.lst (xs.map V.ref)) → H9 q = some (.lst (xs.map V.ref)) := fun q xs hq => e10 q _ (fun z => by
            obtain ⟨x, y, w1, _⟩ := hb8
            rw [z, w1] at hq
            cases xs with
            | nil => cases hq
            | cons a as => cases hq) hq
          have prb : ∀ {us : List Addr} {ls : List (Int × Int)}, Prs H8 us ls → Prs H9 us ls := fun pr => by
            obtain ⟨x, y, w1, _⟩ := hb8
            exact pr.but w1 e10
          walk_at "st"
          refine Rd.ite_d (fun c2 => ?_) (fun c2 => ?_)
          · walk_at "st"
            refine hN2 _ _ ⟨p8, _, _, rfl, hb9, (butSame e5 e9).trans e10, k9 _ _ (by rw [h8, List.map_map]; rfl), prb pr8, fun q hq => ok q (ok8 q hq), ?_, by rw [List.length_map]; exact len8⟩
            rw [List.length_map] at c
            intro z
            have := congrArg List.length z
            rw [List.length_map, List.length_nil] at this
            omega
          · walk_at "st"
            exact hN2 _ _ ⟨p, ts, l, rfl, hb9, (butSame e5 e9).trans e10, k9 _ _ hL8, prb pr0, ok, ne2, lb⟩
        · walk_at "st"
          exact hN2 _ _ ⟨p, ts, l, rfl, hb8, butSame e5 e9, hL8, pr0, ok, ne2, lb⟩
  · walk_at "st"
    refine Rd.ite_d (fun c => ?_) (fun c => ?_)
    · walk_at "st"
      refine ⟨b, 2, rfl, by decide, by decide, hb2, fun v H3 v0 v1 hb3 e3 => ?_⟩
      walk_at "st"
      refine Rd.ite_d (fun c2 => ?_) (fun c2 => ?_)
      · walk_at "st"
        refine Rd.iC (wide_div (b := 64) (by omega) (by omega) (by decide) (by decide)) ?_
        walk_at "st"
        have h2 := Int.mul_ediv_add_emod lim 2
        have h3 := Int.emod_nonneg lim (by decide : (2 : Int) ≠ 0)
        have h4 := Int.emod_lt_of_pos lim (by decide : (0 : Int) < 2)
        refine ⟨b, _, rfl, by omega, by omega, hb3, fun v2 H4 w0 w1 hb4 e4 => ?_⟩
        walk_at "st"
        exact hN _ _ ⟨3 + v2, 2, rfl, by omega, by decide, by omega, hb4, ((e1.trans e2).trans e3).trans e4⟩
      · walk_at "st"
        exact hN _ _ ⟨1 + n0, 1 + m0, rfl, by omega, by omega, fit1, hb3, (e1.trans e2).trans e3⟩
    · walk_at "st"
      exact hN _ _ ⟨1 + n0, 1 + m0, rfl, by omega, by omega, fit1, hb2, e1.trans e2⟩
end
end K08

set_option Elab.async false
set_option linter.all false
set_option maxRecDepth 100000
set_option maxHeartbeats 4000000
namespace K08
open PySem L2 Rd GT
local macro_rules | `(tactic| walk_at "st1") => `(tactic| first | with_reducible refine' Rd.Stp.go ?_ | with_reducible refine' Rd.seq ?_)
local macro_rules | `(tactic| walk_at "st") => `(tactic| repeat (first | with_reducible refine' Rd.Stp.go ?_ | with_reducible refine' Rd.seq ?_ | ((with_reducible refine' Rd.nmR ?hr ?_); (case hr => repeat (first | exact Rd.SetR.zero | apply Rd.SetR.succ))) | ((with_reducible refine' Rd.var ?hv ?_); (case hv => rfl))))
local macro_rules | `(tactic| walk_at "sj") => `(tactic| repeat (first | with_reducible refine' Rd.Stp.go ?_ | with_reducible refine' Rd.seqA ?_ | with_reducible refine' Rd.seqD ?_ | with_reducible refine' Rd.seqF ?_ | with_reducible refine' Rd.seqW ?_ | ((with_reducible refine' Rd.nmR ?hr ?_); (case hr => repeat (first | exact Rd.SetR.zero | apply Rd.SetR.succ))) | ((with_reducible refine' Rd.var ?hv ?_); (case hv => rfl))))
local macro_rules | `(tactic| walk_at "sm") => `(tactic| first | exact Same.refl _ | assumption | (apply Rd.sm_tr; assumption; walk_at "sm") | fail)
local macro_rules | `(tactic| walk_at "fr") => `(tactic| with_reducible first
  | assumption
  | (apply Rd.fr_some; assumption; walk_at "fr") | (apply Rd.fr_tupN; assumption; walk_at "fr") | (apply Rd.fr_tupX; assumption; walk_at "fr")
  | (apply Rd.fr_grp; assumption; walk_at "fr") | (apply Rd.fr_rows; assumption; walk_at "fr") | (apply Rd.fr_rowL; assumption; walk_at "fr") | (apply Rd.fr_DD; assumption; walk_at "fr")
  | (apply Rd.fr_sqL; walk_at "fr") | fail)
theorem line_of {n : Nat} (h : n ≤ 1000) : n < sizeLine := Nat.lt_of_le_of_lt h (by decide)
def sp_perm : Sp := fun vs H Q _ => ∃ (b : Addr), vs = [.ref b] ∧ Bag H b ∧ ∀ (fs : List (List Int)) (p : Addr) (H' : Hp), PermOk fs → Bag H' b → But b H H' → TabN H H' p (permT fs) → Q (.ref p) H'
section
variable {P : Program} {w : World} {K : PySem.W.Frag} {mg : Str → Option Value} {base : Heap} {f : Addr} {fd : FuncData}
theorem sc__law_permutations : FnScope ["bag", "makers", "k", "left", "row", "j", "found", "at", "maker", "point", "table", "p", "q"] ["bag"] (defScope s__law_permutations) := ⟨rfl, rfl, rfl, by decide +kernel, rfl, by decide +kernel, by decide +kernel⟩
theorem ok_perm (F : FnP K "_law_permutations" "_law_permutations" s__law_permutations f fd) (T : Txt K mg) (D__law_take : DOk P w K mg base CX0 "_law_take" 1 ["bag", "size"] sp_take) : FnOk P w K mg base CX0 2 f fd ["bag"] sp_perm := by
  refine F.ok sc__law_permutations (fun vs H Q E h => ?_) (fun cdv A outer s H vs Q E hr h => ?_)
  · obtain ⟨_, rfl, _⟩ := h; rfl
  obtain ⟨b, rfl, hb, kQ⟩ := h
  refine ⟨_, PSs.nox (pss_cons (ps_set (i := 1) sc__law_permutations.nd rfl (Or.inl rfl) (pe_lst pa_nil))
  (pss_cons (ps_for PassesOwn.never rfl (pi_range1 rfl T.range (pa_cons pe_int pa_nil)) (pg_name (i := 2) sc__law_permutations.nd rfl (Or.inl rfl))
  (pss_cons (ps_set (i := 3) sc__law_permutations.nd rfl (Or.inl rfl) (pe_lst (pa_cons pe_int (pa_cons pe_int (pa_cons pe_int (pa_cons pe_int pa_nil))))))
  (pss_cons (ps_set (i := 4) sc__law_permutations.nd rfl (Or.inl rfl) (pe_lst pa_nil))
  (pss_cons (ps_for PassesOwn.never rfl (pi_range1 rfl T.range (pa_cons pe_int pa_nil)) (pg_name (i := 5) sc__law_permutations.nd rfl (Or.inl rfl))
  (pss_one (ps_expr (Rk.bm K rfl PySem.F.plainAttrs_list PySem.F.slot_list_append PySem.F.type_list_append mt_append (pv 4) (pa_cons (Rk.bm K rfl PySem.F.plainAttrs_list PySem.F.slot_list_pop PySem.F.type_list_pop mt_popAt (pv 3) (pa_cons (callX D__law_take (hr.mono (by decide)) (passN) (pa_cons (pv 0) (pa_cons (pe_callB (Rk.len K) rfl T.len PySem.boot_len (pa_cons (pv 3) pa_nil)) pa_nil))) pa_nil)) pa_nil)))))
  (pss_one (ps_expr (Rk.bm K rfl PySem.F.plainAttrs_list PySem.F.slot_list_append PySem.F.type_list_append mt_append (pv 1) (pa_cons (pv 4) pa_nil))))))))
  (pss_cons (ps_set (i := 6) sc__law_permutations.nd rfl (Or.inr rfl) (pe_lst (pa_cons (pe_lst (pa_cons pe_int (pa_cons pe_int (pa_cons pe_int (pa_cons pe_int pa_nil))))) pa_nil)))
  (pss_cons (ps_for PassesOwn.never rfl (pi_range1 rfl T.range (pa_cons pe_int pa_nil)) (pg_name (i := 7) sc__law_permutations.nd rfl (Or.inl rfl))
  (pss_one (ps_if (pt_cmpR op_lt (pv 7) (pe_callB (Rk.len K) rfl T.len PySem.boot_len (pa_cons (pv 6) pa_nil)) (nomark _))
  (pss_one (ps_for PassesOwn.never rfl (Rk.pl K rfl (pv 1)) (pg_name (i := 8) sc__law_permutations.nd rfl (Or.inr rfl))
  (pss_cons (ps_setLc (i := 4) (own := [("point", 9)]) rfl sc__law_permutations.nd rfl rfl (sw_true rfl rfl rfl (by decide +kernel)) (Rk.pl K rfl (pe_ix (Rk.ixL K) (pv 6) (pv 7) (fun _ _ => rfl))) (blkOk_by (own := [("point", 9)]) (N := ["bag", "makers", "k", "left", "row", "j", "found", "at", "maker", "point", "table", "p", "q"]) (sc := defScope s__law_permutations) (by decide +kernel)) (fun _ _ _ _ _ => (pg_name (i := 9) sc__law_permutations.nd rfl (Or.inl rfl))) (fun _ _ _ _ _ => pts_nil) (fun _ _ _ _ _ => (pe_ix (Rk.ixL K) (pv 8) (pv 9) (fun _ _ => rfl))))
  (pss_one (ps_if (pt_cmpR (Rk.ninD K rfl (un65 hr)) (pv 4) (pv 6) (by with_unfolding_all rfl))
  (pss_one (ps_expr (Rk.bm K rfl PySem.F.plainAttrs_list PySem.F.slot_list_append PySem.F.type_list_append mt_append (pv 6) (pa_cons (pv 4) pa_nil))))
  pss_nil)))))
  pss_nil)))
  (pss_cons (ps_set (i := 6) sc__law_permutations.nd rfl (Or.inr rfl) (pe_callB (Rk.sortLL K rfl (un8 hr)) rfl T.sorted (by decide +kernel) (pa_cons (pv 6) pa_nil)))
  (pss_cons (ps_set (i := 10) sc__law_permutations.nd rfl (Or.inl rfl) (pe_lst pa_nil))
  (pss_cons (ps_for PassesOwn.never rfl (Rk.pl K rfl (pv 6)) (pg_name (i := 11) sc__law_permutations.nd rfl (Or.inr rfl))
  (pss_one (ps_expr (Rk.bm K rfl PySem.F.plainAttrs_list PySem.F.slot_list_append PySem.F.type_list_append mt_append (pv 10) (pa_cons (pe_lc (own := [("q", 12)]) rfl sc__law_permutations.nd (Rk.pl K rfl (pv 6)) (blkOk_by (own := [("q", 12)]) (N := ["bag", "makers", "k", "left", "row", "j", "found", "at", "maker", "point", "table", "p", "q"]) (sc := defScope s__law_permutations) (by decide +kernel)) (fun _ _ _ _ _ => (pg_name (i := 12) sc__law_permutations.nd rfl (Or.inr rfl))) (fun _ _ _ _ _ => pts_nil) (fun _ _ _ _ _ => (Rk.bm K rfl PySem.F.plainAttrs_list PySem.F.slot_list_index PySem.F.type_list_index (Rk.indexD K rfl (un65 hr)) (pv 6) (pa_cons (pe_lc (own := [("point", 9)]) rfl sc__law_permutations.nd (Rk.pl K rfl (pv 11)) (blkOk_by (own := [("point", 9)]) (N := ["bag", "makers", "k", "left", "row", "j", "found", "at", "maker", "point", "table", "p", "q"]) (sc := (relS { kind := .function, names := [(".0", .local), ("q", .cell), ("found", .free), ("p", .free)], isGenerator := false, isCoroutine := false } (defScope s__law_permutations))) (by decide +kernel)) (fun _ _ _ _ _ => (pg_name (i := 9) sc__law_permutations.nd rfl (Or.inl rfl))) (fun _ _ _ _ _ => pts_nil) (fun _ _ _ _ _ => (pe_ix (Rk.ixL K) (pv 12) (pv 9) (fun _ _ => rfl)))) pa_nil)))) pa_nil)))))
  (pss_one (ps_ret (pv 10)))))))))), ?_⟩
  walk_at "st"
  refine ⟨Nat.zero_le _, fun mk hmk => ?_⟩
  have nbm := hb.ne hmk
  walk_at "st"
  refine ⟨by decide, by decide, ?_⟩
  refine for_range (fun i σ H' => ∃ (v2 v3 v4 v5 : Option V) (as : List Addr) (ms : List (List Int)), σ = [some (.ref b), some (.ref mk), v2, v3, v4, v5, none, none, none, none, none, none, none] ∧ Bag H' b ∧ But b H H' ∧ H' mk = some (.lst (as.map V.ref)) ∧ Rows LstN H' as ms ∧ (∀ m ∈ ms, m ∈ perms4) ∧ as.length ≤ i)
    ⟨none, none, none, none, [], [], rfl, hb.put nbm, butAdd (Rd.But.refl _ _) hmk, upd_same, ⟨rfl, fun i a r h => by simp at h⟩, (fun m h => by cases h), Nat.le_refl 0⟩ ?_ ?_
  · rintro i σ H5 hi ⟨v2, v3, v4, v5, as, ms, rfl, hb5, e5, hM5, rows5, p4s, la⟩
    walk_at "st"
    refine ⟨(by decide : 4 ≤ sizeLine), fun lf hlf => ?_⟩
    walk_at "st"
    refine ⟨Nat.zero_le _, fun rw_ hrw => ?_⟩
    have nlr : lf ≠ rw_ := fun z => by rw [← z, upd_same] at hrw; cases hrw
    have hrw5 : H5 rw_ = none := Same.free (Rd.same_mk hlf) hrw
    have nbl := hb5.ne hlf
    have nbr := hb5.ne hrw5
    walk_at "st"
    refine ⟨by decide, by decide, ?_⟩
    refine for_range (fun j σ H' => ∃ (v5 : Option V) (L R : List Int), σ = [some (.ref b), some (.ref mk), some (.int (0 + (i : Nat))), some (.ref lf), some (.ref rw_), v5, none, none, none, none, none, none, none] ∧ Bag H' b ∧ But b H5 H' ∧ H' lf = some (.lst (L.map V.int)) ∧ H' rw_ = some (.lst (R.map V.int)) ∧ (R ++ L).Perm [0, 1, 2, 3] ∧ R.length = j)
      ⟨v5, [0, 1, 2, 3], [], rfl, (hb5.put nbl).put nbr, butAdd (butAdd (Rd.But.refl _ _) hlf) hrw, by rw [upd_ne nlr, upd_same]; rfl, upd_same, List.Perm.refl _, rfl⟩ ?_ ?_
    · rintro j σ H6 hj ⟨v5, L, R, rfl, hb6, e6, hL, hR, pm, lR⟩
      have ll := pm.length_eq
      rw [List.length_append] at ll
      have ll2 : R.length + L.length = 4 := ll
      walk_at "st"
      refine Rd.tyL hR ?_
      walk_at "st"
      refine Rd.tyL hL ?_
      walk_at "st"
      refine Rd.len1 (.inl (SqL.of hL)) ?_
      walk_at "st"
      rw [List.length_map]
      refine ⟨b, _, rfl, by omega, by omega, hb6, fun v H7 v0 v1 hb7 e7 => ?_⟩
      have hL7 := e7 lf _ nbl.symm hL
      have hR7 := e7 rw_ _ nbr.symm hR
      have hv : v.toNat < L.length := by omega
      have hy : L[v.toNat]? = some L[v.toNat] := List.getElem?_eq_getElem hv
      generalize L[v.toNat] = y at hy
      walk_at "st"
      refine ⟨lf, L.map V.int, v, v.toNat, .int y, rfl, rfl, hL7, by omega, by omega, (ixN_seq (ixN_of (by omega) (by rw [List.length_map]; exact hv))).1, map_get_int hy, ?_⟩
      walk_at "st"
      refine Rd.app (xs := R.map V.int) (by rw [upd_ne nlr.symm]; exact hR7) (by rw [List.length_map]; exact line_of (by omega)) ?_
      walk_at "st"
      refine ⟨_, L.eraseIdx v.toNat, R ++ [y], rfl, (hb7.put nbl).put nbr, butMut (butMut (e6.trans e7) hlf) hrw5, ?_, ?_, ?_, by rw [List.length_append, lR]; rfl⟩
      · rw [upd_ne nlr, upd_same, List.eraseIdx_eq_take_drop_succ, List.eraseIdx_eq_take_drop_succ, List.map_append, List.map_take, List.map_drop]
      · rw [upd_same, List.map_append]; rfl
      · rw [List.append_assoc]
        exact ((erase_perm hy).append_left R).trans pm
    · rintro σ H6 ⟨v5, L, R, rfl, hb6, e6, hL, hR, pm, lR⟩
      have ll := pm.length_eq
      rw [List.length_append] at ll
      have l0 : L = [] := List.eq_nil_of_length_eq_zero (by have : R.length + L.length = 4 := ll; have : R.length = 4 := lR; omega)
      rw [l0, List.append_nil] at pm
      have rp := p4_of pm
      have hM6 := e6 mk _ nbm.symm hM5
      have rows6 : Rows LstN H6 as ms := ⟨rows5.len, fun i a m h1 h2 => e6 a _ (fun z => by
        obtain ⟨x, y, w1, _⟩ := hb5
        have h3 := rows5.row i a m h1 h2
        unfold LstN at h3
        rw [z, w1] at h3
        have h4 := congrArg List.length (HO.lst.inj (Option.some.inj h3))
        rw [List.length_map, (p4_rng m (p4s m (List.mem_of_getElem? h2))).1] at h4
        cases h4) (rows5.row i a m h1 h2)⟩
      have nmr : mk ≠ rw_ := fun z => by rw [← z, hM5] at hrw5; cases hrw5
      walk_at "st"
      refine Rd.tyL hM6 ?_
      walk_at "st"
      refine Rd.app hM6 (by rw [List.length_map]; exact line_of (by omega)) ?_
      walk_at "st"
      have mk0 : H mk = none := hmk
      refine ⟨_, _, _, _, as ++ [rw_], ms ++ [R], rfl, hb6.put nbm, butMut (e5.trans e6) mk0, by rw [upd_same, List.map_append]; rfl, ⟨by rw [List.length_append, List.length_append, rows6.len]; rfl, fun j a m h1 h2 => ?_⟩, fun m hm => ?_, by rw [List.length_append, List.length_singleton]; omega⟩
      · by_cases c : j < as.length
        · rw [List.getElem?_append_left c] at h1
          rw [List.getElem?_append_left (by rw [← rows6.len]; exact c)] at h2
          have h3 := rows6.row j a m h1 h2
          unfold LstN at h3 ⊢
          rw [upd_ne (fun z => by
            rw [z, hM6] at h3
            have h4 := ref_int (HO.lst.inj (Option.some.inj h3))
            have h5 := (p4_rng m (p4s m (List.mem_of_getElem? h2))).1
            rw [h4] at h5
            cases h5)]
          exact h3
        · have lu := (List.getElem?_eq_some_iff.mp h1).1
          rw [List.length_append, List.length_singleton] at lu
          have ej : j = as.length := by omega
          subst ej
          rw [List.getElem?_append_right (Nat.le_refl _), Nat.sub_self] at h1
          rw [rows6.len, List.getElem?_append_right (Nat.le_refl _), Nat.sub_self] at h2
          cases h1
          cases h2
          unfold LstN
          rw [upd_ne nmr.symm]
          exact hR
      · rcases List.mem_append.mp hm with h | h
        · exact p4s m h
        · rw [List.mem_singleton.mp h]
          exact rp
  · rintro σ H5 ⟨v2, v3, v4, v5, as, ms, rfl, hb5, e5, hM5, rows5, p4s, la⟩
    have nMf : ∀ (as' : List Addr) (H' : Hp), Same H5 H' → Rows LstN H' as ms := fun _ H' e => rows5.sameL e
    walk_at "st"
    refine ⟨(by decide : 4 ≤ sizeLine), fun i0 hi0 => ?_⟩
    walk_at "st"
    refine ⟨(by decide : 1 ≤ sizeLine), fun fo hfo => ?_⟩
    have nif : i0 ≠ fo := fun z => by rw [← z, upd_same] at hfo; cases hfo
    have hfo5 : H5 fo = none := Same.free (Rd.same_mk hi0) hfo
    walk_at "st"
    refine ⟨by decide, by decide, ?_⟩
    refine for_range (fun i σ H' => ∃ (v4 v7 v8 : Option V) (fa : List Addr) (fs : List (List Int)), σ = [some (.ref b), some (.ref mk), v2, v3, v4, v5, some (.ref fo), v7, v8, none, none, none, none] ∧ Same H5 H' ∧ H' fo = some (.lst (fa.map V.ref)) ∧ Rows LstN H' fa fs ∧ (∀ a ∈ fa, H5 a = none ∧ a ≠ fo) ∧ fa.Nodup ∧ GenP ms fs ∧ (∀ j z, j < i → fs[j]? = some z → ∀ m ∈ ms, comp m z ∈ fs))
      ⟨v4, none, none, [i0], [id4], rfl, (Rd.same_mk hi0).trans (Rd.same_mk hfo), upd_same, ⟨rfl, fun j a r h1 h2 => ?_⟩, fun a ha => ?_, by simp, GenP.start ms, fun j z h => by omega⟩ ?_ ?_
    · cases j with
      | zero =>
        cases h1
        cases h2
        unfold LstN
        rw [upd_ne nif, upd_same]; rfl
      | succ j => simp at h1
    · rw [List.mem_singleton.mp ha]
      exact ⟨hi0, nif⟩
    · rintro i σ H6 hi ⟨v4, v7, v8, fa, fs, rfl, e6, hF, rows, new, nd, G, cl⟩
      rw [Int.zero_add]
      walk_at "st"
      refine Rd.len1 (.inl (SqL.of hF)) ?_
      walk_at "st"
      rw [List.length_map, rows.len]
      refine Rd.ite_d (fun c => ?_) (fun c => ?_)
      · have hif : i < fs.length := by omega
        have hz : fs[i]? = some fs[i] := List.getElem?_eq_getElem hif
        generalize fs[i] = z at hz
        have zm := List.mem_of_getElem? hz
        walk_at "st"
        refine Rd.itl' (SqL.of (e6 _ _ hM5)) ?_
        refine for_list (K := K) (a := mk) (xs := as.map V.ref) (fun x σ H' => ∃ (v4 v8 : Option V) (fa : List Addr) (fs2 : List (List Int)), σ = [some (.ref b), some (.ref mk), v2, v3, v4, v5, some (.ref fo), some (.int (i : Nat)), v8, none, none, none, none] ∧ Same H5 H' ∧ H' fo = some (.lst (fa.map V.ref)) ∧ Rows LstN H' fa fs2 ∧ (∀ a ∈ fa, H5 a = none ∧ a ≠ fo) ∧ fa.Nodup ∧ GenP ms fs2 ∧ (∃ more, fs2 = fs ++ more) ∧ (∀ j m, j < x → ms[j]? = some m → comp m z ∈ fs2))
          ⟨v4, v8, fa, fs, rfl, e6, hF, rows, new, nd, G, ⟨[], (List.append_nil _).symm⟩, fun j m h => by omega⟩ (fun x σ H' _ ⟨_, _, _, _, _, e, _⟩ => SqL.of (e _ _ hM5)) ?_ ?_
        · rintro x y σ H7 hy ⟨v4, v8, fa, fs2, rfl, e7, hF, rows, new, nd, G, ⟨more, rfl⟩, cl2⟩
          obtain ⟨am, m, rfl, h1, h2, h3⟩ := rows5.at hy
          have mm := List.mem_of_getElem? h2
          have m4 := (p4_rng m (p4s m mm)).1
          have hz2 : (fs ++ more)[i]? = some z := by rw [List.getElem?_append_left hif]; exact hz
          have zm2 := List.mem_of_getElem? hz2
          obtain ⟨z4, zr⟩ := p4_rng z (G.p4 z zm2)
          obtain ⟨az, z', g1, g2, g3⟩ := rows.get (i := i) (by rw [List.length_append]; omega)
          rw [hz2] at g2
          cases g2
          have few := G.few
          walk_at "st"
          refine Rd.ixL (SqL.of hF) (at_of (j := i) rfl (by rw [List.getElem?_map, g1]; rfl)) ?_
          refine Rd.itl' (SqL.of g3) ?_
          refine Rd.lcMap (fun n => .int (m.getD (z.getD n 0).toNat 0)) (Rd.src_list (SqL.of g3)) (by rw [List.length_map]; omega) (by intro _; rfl) (fun n y H8 Q1 hy e8 q1 => ?_) (fun rp H8 hrp e8 h8 => ?_)
          · obtain ⟨u, hu, rfl⟩ := intAt hy
            obtain ⟨u0, u1⟩ := zr u (List.mem_of_getElem? hu)
            rw [getD_of hu] at q1
            have hm2 : m[u.toNat]? = some m[u.toNat] := List.getElem?_eq_getElem (by omega)
            rw [getD_of hm2] at q1
            walk_at "st"
            refine Rd.ixL (SqL.of (e8 _ _ (e7 _ _ h3))) (at_of (j := u.toNat) (by omega) (map_get_int hm2)) ?_
            exact q1 _ (Same.refl _)
          · have hc : H8 rp = some (.lst ((comp m z).map V.int)) := by
              rw [h8, List.length_map, map_in]
              congr 3
              refine List.ext_getElem? fun n => ?_
              unfold comp
              rw [List.getElem?_map, List.getElem?_map]
              by_cases q : n < z.length
              · rw [List.getElem?_range q, List.getElem?_eq_getElem q]
                simp only [Option.map_some]
                rw [getD_of (List.getElem?_eq_getElem q)]
              · rw [List.getElem?_eq_none (by simp; omega), List.getElem?_eq_none (by omega)]; rfl
            have hF8 := e8 _ _ hF
            have rows8 := rows.sameL e8
            walk_at "st"
            refine notInLL hc hF8 rows8 ?_
            walk_at "st"
            have rpn5 := Same.free e7 hrp
            have stay : ∀ (fs3 : List (List Int)), (∀ j m, j < x → ms[j]? = some m → comp m z ∈ fs3) → comp m z ∈ fs3 → ∀ j m', j < x + 1 → ms[j]? = some m' → comp m' z ∈ fs3 := by
              intro fs3 k1 k2 j m' hj hm'
              by_cases q : j < x
              · exact k1 j m' q hm'
              · rw [show j = x by omega, h2] at hm'
                cases hm'
                exact k2
            refine Rd.ite_n (fun no => ?_) (fun yes => ?_)
            · walk_at "st"
              refine Rd.tyL hF8 ?_
              walk_at "st"
              refine Rd.app hF8 (by rw [List.length_map, rows.len]; exact line_of (by omega)) ?_
              walk_at "st"
              have nrf : rp ≠ fo := fun q => by rw [q, hF] at hrp; cases hrp
              have rnf : rp ∉ fa := fun hm => by
                obtain ⟨j, hj⟩ := List.getElem?_of_mem hm
                obtain ⟨aj, rj, j1, j2, j3⟩ := rows.get (i := j) (by rw [← rows.len]; exact (List.getElem?_eq_some_iff.mp hj).1)
                rw [hj] at j1
                cases j1
                unfold LstN at j3
                rw [hrp] at j3
                cases j3
              refine ⟨_, _, fa ++ [rp], fs ++ more ++ [comp m z], rfl, Rd.same_mut (e7.trans e8) hfo5, by rw [upd_same, List.map_append]; rfl, ⟨by rw [List.length_append, List.length_append (as := fs ++ more), rows.len]; rfl, fun j a r j1 j2 => ?_⟩, fun a ha => ?_,
                List.nodup_append.mpr ⟨nd, by simp, fun u hu y hy => by rw [List.mem_singleton.mp hy]; intro q; exact rnf (q ▸ hu)⟩, G.add p4s mm zm2 no, ⟨more ++ [comp m z], by rw [List.append_assoc]⟩, stay _ (fun j m' hj hm' => List.mem_append_left _ (cl2 j m' hj hm')) (List.mem_append_right _ (List.mem_singleton.mpr rfl))⟩
              · by_cases q : j < fa.length
                · rw [List.getElem?_append_left q] at j1
                  rw [List.getElem?_append_left (by rw [← rows.len]; exact q)] at j2
                  have j3 := rows8.row j a r j1 j2
                  unfold LstN at j3 ⊢
                  rw [upd_ne (new a (List.mem_of_getElem? j1)).2]
                  exact j3
                · have lu := (List.getElem?_eq_some_iff.mp j1).1
                  rw [List.length_append, List.length_singleton] at lu
                  have ej : j = fa.length := by omega
                  subst ej
                  rw [List.getElem?_append_right (Nat.le_refl _), Nat.sub_self] at j1
                  rw [rows.len, List.getElem?_append_right (Nat.le_refl _), Nat.sub_self] at j2
                  cases j1
                  cases j2
                  unfold LstN
                  rw [upd_ne nrf]
                  exact hc
              · rcases List.mem_append.mp ha with q | q
                · exact new a q
                · rw [List.mem_singleton.mp q]
                  exact ⟨rpn5, nrf⟩
            · walk_at "st"
              exact ⟨_, _, fa, fs ++ more, rfl, e7.trans e8, hF8, rows8, new, nd, G, ⟨more, rfl⟩, stay _ cl2 yes⟩
        · rintro σ H7 ⟨v4, v8, fa, fs2, rfl, e7, hF, rows, new, nd, G, ⟨more, rfl⟩, cl2⟩
          walk_at "st"
          refine ⟨_, _, _, fa, fs ++ more, rfl, e7, hF, rows, new, nd, G, fun j y hj hy m hm => ?_⟩
          by_cases q : j < i
          · rw [List.getElem?_append_left (by omega)] at hy
            exact List.mem_append_left _ (cl j y q hy m hm)
          · rw [show j = i by omega, List.getElem?_append_left hif, hz] at hy
            cases hy
            obtain ⟨x, hx, rfl⟩ := List.getElem_of_mem hm
            exact cl2 x _ (by rw [List.length_map, rows5.len]; exact hx) (List.getElem?_eq_getElem hx)
      · walk_at "st"
        refine ⟨_, _, _, fa, fs, rfl, e6, hF, rows, new, nd, G, fun j y hj hy m hm => ?_⟩
        by_cases q : j < i
        · exact cl j y q hy m hm
        · have := (List.getElem?_eq_some_iff.mp hy).1
          omega
    · rintro σ H6 ⟨v4, v7, v8, fa, fs, rfl, e6, hF, rows, new, nd, G, cl⟩
      have few := G.few
      have closed := G.closed p4s fun z hz m hm => by
        obtain ⟨j, hj, rfl⟩ := List.getElem_of_mem hz
        exact cl j _ (by show j < (24 : Int).toNat; have : (24 : Int).toNat = 24 := rfl; omega) (List.getElem?_eq_getElem hj) m hm
      have kp : ∀ i a, fa[i]? = some a → fs.getD (fa.idxOf a) [] = fs.getD i [] := fun i a hi => by
        obtain ⟨h1, h2⟩ := List.getElem?_eq_some_iff.mp hi
        rw [← h2, nd.idxOf_getElem i h1]
      have kat : ∀ a ∈ fa, H6 a = some (.lst ((fs.getD (fa.idxOf a) []).map V.int)) := fun a ha => by
        obtain ⟨i, hi⟩ := List.getElem?_of_mem ha
        obtain ⟨a', r, h1, h2, h3⟩ := rows.get (i := i) (by rw [← rows.len]; exact (List.getElem?_eq_some_iff.mp hi).1)
        rw [hi] at h1
        cases h1
        rw [kp i a hi, getD_of h2]
        exact h3
      have kall : fa.map (fun a => fs.getD (fa.idxOf a) []) = fs := by
        refine List.ext_getElem? fun i => ?_
        rw [List.getElem?_map]
        by_cases q : i < fa.length
        · have h1 : fa[i]? = some fa[i] := List.getElem?_eq_getElem q
          have h2 : fs[i]? = some (fs[i]'(by rw [← rows.len]; exact q)) := List.getElem?_eq_getElem _
          rw [h1, Option.map_some, kp i _ h1, getD_of h2, h2]
        · rw [List.getElem?_eq_none (by omega), List.getElem?_eq_none (by rw [← rows.len]; omega)]; rfl
      walk_at "st"
      refine ⟨fo, fa, fun a => fs.getD (fa.idxOf a) [], rfl, SqL.of hF, kat, fun bs fo2 hperm hsort hfo2 => ?_⟩
      have gp : (bs.map fun a => fs.getD (fa.idxOf a) []).Perm fs := by
        have := hperm.map fun a => fs.getD (fa.idxOf a) []
        rw [kall] at this
        exact this
      have hasc : (bs.map fun a => fs.getD (fa.idxOf a) []).Pairwise (fun x y => Rs.ltL y x = false) := List.pairwise_map.mpr hsort
      have rows7 : Rows LstN (upd H6 fo2 (.lst (bs.map V.ref))) bs (bs.map fun a => fs.getD (fa.idxOf a) []) := ⟨by rw [List.length_map], fun i a r h1 h2 => by
        rw [List.getElem?_map, h1] at h2
        cases h2
        have h3 := kat a (hperm.mem_iff.mp (List.mem_of_getElem? h1))
        unfold LstN
        rw [upd_ne (ne_of_none h3 hfo2)]
        exact h3⟩
      generalize bs.map (fun a => fs.getD (fa.idxOf a) []) = gs at gp hasc rows7
      have O : PermOk gs := ⟨gp.nodup_iff.mpr G.nd, fun z h => G.p4 z (gp.mem_iff.mp h), gp.mem_iff.mpr G.one, fun q hq p hp => gp.mem_iff.mpr (closed q (gp.mem_iff.mp hq) p (gp.mem_iff.mp hp)), by rw [gp.length_eq]; exact few, hasc⟩
      have e7 : Same H5 (upd H6 fo2 (.lst (bs.map V.ref))) := Rd.same_add e6 hfo2
      have hF7 : (upd H6 fo2 (.lst (bs.map V.ref))) fo2 = some (.lst (bs.map V.ref)) := upd_same
      generalize upd H6 fo2 (.lst (bs.map V.ref)) = H7 at e7 hF7 rows7
      have hb7 := hb5.same e7
      have eb7 := butSame e5 e7
      have few2 := O.le
      walk_at "st"
      refine ⟨Nat.zero_le _, fun tb htb => ?_⟩
      have tb0 := butFree eb7 (hb7.ne htb).symm htb
      walk_at "st"
      refine Rd.itl' (SqL.of ((Rd.same_mk htb) _ _ hF7)) ?_
      obtain ⟨psq, pl⟩ := O.sq
      refine for_list (K := K) (a := fo2) (xs := bs.map V.ref) (fun i σ H' => ∃ (v11 : Option V) (ts : List Addr), σ = [some (.ref b), some (.ref mk), v2, v3, v4, v5, some (.ref fo2), v7, v8, none, some (.ref tb), v11, none] ∧ Same H7 H' ∧ H' tb = some (.lst (ts.map V.ref)) ∧ ts.length = i ∧
          (∀ (j : Nat) (a : Addr), ts[j]? = some a → H' a = some (.lst (((permT gs).getD j []).map V.int)) ∧ H7 a = none ∧ a ≠ tb) ∧ ts.Nodup)
        ⟨none, [], rfl, Rd.same_mk htb, upd_same, rfl, fun j a h => by simp at h, List.nodup_nil⟩ (fun i σ H' _ ⟨_, _, _, e, _⟩ => SqL.of (e _ _ hF7)) ?_ ?_
      · rintro i y σ H8 hy ⟨v11, ts, rfl, e8, hTb, lt, hts, ndt⟩
        obtain ⟨ap, p, rfl, h1, h2, h3⟩ := rows7.at hy
        have pm := List.mem_of_getElem? h2
        obtain ⟨p4, pr⟩ := p4_rng p (O.p4 p pm)
        have hi : i < gs.length := (List.getElem?_eq_some_iff.mp h2).1
        walk_at "st"
        refine Rd.tyL hTb ?_
        walk_at "st"
        refine Rd.itl' (SqL.of (e8 _ _ hF7)) ?_
        refine Rd.lcMap (fun n => .int ((gs.idxOf (comp (gs.getD n []) p) : Nat) : Int)) (Rd.src_list (SqL.of (e8 _ _ hF7))) (by rw [List.length_map, rows7.len]; omega) (by intro _; rfl) (fun n y H9 Q1 hy2 e9 q1 => ?_) (fun rp H9 hrp e9 h9 => ?_)
        · obtain ⟨aq, q, rfl, g1, g2, g3⟩ := rows7.at hy2
          have qm := List.mem_of_getElem? g2
          obtain ⟨q4, qr⟩ := p4_rng q (O.p4 q qm)
          rw [getD_of g2] at q1
          have e10 := e8.trans e9
          walk_at "st"
          refine Rd.tyL (e10 _ _ hF7) ?_
          walk_at "st"
          refine Rd.itl' (SqL.of (e10 _ _ h3)) ?_
          refine Rd.lcMap (fun n => .int (q.getD (p.getD n 0).toNat 0)) (Rd.src_list (SqL.of (e10 _ _ h3))) (by rw [List.length_map]; omega) (by intro _; rfl) (fun n y H10 Q2 hy3 e11 q2 => ?_) (fun cp H10 hcp e11 h10 => ?_)
          · obtain ⟨u, hu, rfl⟩ := intAt hy3
            obtain ⟨u0, u1⟩ := pr u (List.mem_of_getElem? hu)
            rw [getD_of hu] at q2
            have hm2 : q[u.toNat]? = some q[u.toNat] := List.getElem?_eq_getElem (by omega)
            rw [getD_of hm2] at q2
            walk_at "st"
            refine Rd.ixL (SqL.of (e11 _ _ (e10 _ _ g3))) (at_of (j := u.toNat) (by omega) (map_get_int hm2)) ?_
            exact q2 _ (Same.refl _)
          · have hc : H10 cp = some (.lst ((comp q p).map V.int)) := by
              rw [h10, List.length_map, map_in]
              congr 3
              refine List.ext_getElem? fun n => ?_
              unfold comp
              rw [List.getElem?_map, List.getElem?_map]
              by_cases z : n < p.length
              · rw [List.getElem?_range z, List.getElem?_eq_getElem z]
                simp only [Option.map_some]
                rw [getD_of (List.getElem?_eq_getElem z)]
              · rw [List.getElem?_eq_none (by simp; omega), List.getElem?_eq_none (by omega)]; rfl
            walk_at "st"
            refine indexLL hc (e11 _ _ (e10 _ _ hF7)) (rows7.sameL (e10.trans e11)) (O.cl q qm p pm) ?_
            exact q1 _ e11
        · have hTb9 := e9 _ _ hTb
          walk_at "st"
          refine Rd.app hTb9 (by rw [List.length_map]; exact line_of (by omega)) ?_
          walk_at "st"
          have rn : rp ∉ ts := fun hm => by
            obtain ⟨j, hj⟩ := List.getElem?_of_mem hm
            rw [(hts j rp hj).1] at hrp
            cases hrp
          have rtb : rp ≠ tb := fun z => by rw [z, hTb] at hrp; cases hrp
          have row9 : H9 rp = some (.lst (((permT gs).getD i []).map V.int)) := by
            have h5 : (permT gs).getD i [] = gs.map fun q => ((gs.idxOf (comp q p) : Nat) : Int) := getD_of (by unfold permT; rw [List.getElem?_map, h2]; rfl)
            rw [h9, h5, List.length_map, rows7.len, map_in]
            congr 3
            refine List.ext_getElem? fun n => ?_
            rw [List.getElem?_map, List.getElem?_map]
            by_cases z : n < gs.length
            · rw [List.getElem?_range z, List.getElem?_eq_getElem z]
              simp only [Option.map_some]
              rw [getD_of (List.getElem?_eq_getElem z)]
            · rw [List.getElem?_eq_none (by simp; omega), List.getElem?_eq_none (by omega)]; rfl
          refine ⟨_, ts ++ [rp], rfl, Rd.same_mut (e8.trans e9) htb, by rw [upd_same, List.map_append]; rfl, by rw [List.length_append, lt]; rfl, fun j a ha => ?_, List.nodup_append.mpr ⟨ndt, by simp, fun x hx y hy => by rw [List.mem_singleton.mp hy]; intro z; exact rn (z ▸ hx)⟩⟩
          by_cases c : j < ts.length
          · rw [List.getElem?_append_left c] at ha
            obtain ⟨k1, k2, k3⟩ := hts j a ha
            exact ⟨by rw [upd_ne k3]; exact e9 _ _ k1, k2, k3⟩
          · have lu := (List.getElem?_eq_some_iff.mp ha).1
            rw [List.length_append, List.length_singleton] at lu
            have ej : j = ts.length := by omega
            subst ej
            rw [List.getElem?_append_right (Nat.le_refl _), Nat.sub_self] at ha
            cases ha
            rw [lt]
            exact ⟨by rw [upd_ne rtb]; exact row9, Same.free e8 hrp, rtb⟩
      · rintro σ H8 ⟨v11, ts, rfl, e8, hTb, lt, hts, ndt⟩
        walk_at "st"
        refine kQ gs tb H8 O (hb7.same e8) (butSame eb7 e8) ⟨tb0, ts, hTb, ⟨by rw [lt, List.length_map, rows7.len, pl], fun j a r h1 h2 => ?_⟩, fun a ha => ?_, ndt⟩
        · obtain ⟨h3, _, _⟩ := hts j a h1
          rw [getD_of h2] at h3
          exact h3
        · obtain ⟨j, hj⟩ := List.getElem?_of_mem ha
          obtain ⟨h3, h4, h5⟩ := hts j a hj
          exact ⟨butFree eb7 (hb7.ne h4).symm h4, h5⟩
end
end K08

set_option Elab.async false
set_option linter.all false
set_option maxRecDepth 100000
set_option maxHeartbeats 4000000
namespace K08
open PySem L2 Rd GT
local macro_rules | `(tactic| walk_at "st1") => `(tactic| first | with_reducible refine' Rd.Stp.go ?_ | with_reducible refine' Rd.seq ?_)
local macro_rules | `(tactic| walk_at "st") => `(tactic| repeat (first | with_reducible refine' Rd.Stp.go ?_ | with_reducible refine' Rd.seq ?_ | ((with_reducible refine' Rd.nmR ?hr ?_); (case hr => repeat (first | exact Rd.SetR.zero | apply Rd.SetR.succ))) | ((with_reducible refine' Rd.var ?hv ?_); (case hv => rfl))))
local macro_rules | `(tactic| walk_at "sj") => `(tactic| repeat (first | with_reducible refine' Rd.Stp.go ?_ | with_reducible refine' Rd.seqA ?_ | with_reducible refine' Rd.seqD ?_ | with_reducible refine' Rd.seqF ?_ | with_reducible refine' Rd.seqW ?_ | ((with_reducible refine' Rd.nmR ?hr ?_); (case hr => repeat (first | exact Rd.SetR.zero | apply Rd.SetR.succ))) | ((with_reducible refine' Rd.var ?hv ?_); (case hv => rfl))))
local macro_rules | `(tactic| walk_at "sm") => `(tactic| first | exact Same.refl _ | assumption | (apply Rd.sm_tr; assumption; walk_at "sm") | fail)
local macro_rules | `(tactic| walk_at "fr") => `(tactic| with_reducible first
  | assumption
  | (apply Rd.fr_some; assumption; walk_at "fr") | (apply Rd.fr_tupN; assumption; walk_at "fr") | (apply Rd.fr_tupX; assumption; walk_at "fr")
  | (apply Rd.fr_grp; assumption; walk_at "fr") | (apply Rd.fr_rows; assumption; walk_at "fr") | (apply Rd.fr_rowL; assumption; walk_at "fr") | (apply Rd.fr_DD; assumption; walk_at "fr")
  | (apply Rd.fr_sqL; walk_at "fr") | fail)
def sp_ren : Sp := fun vs H Q _ => ∃ (b p : Addr) (as : List Addr) (t : List (List Int)), vs = [.ref b, .ref p] ∧ Bag H b ∧ H p = some (.lst (as.map V.ref)) ∧ p ≠ b ∧ Rows LstN H as t ∧ (∀ a ∈ as, a ≠ b) ∧ Sq t ∧ t.length ≤ 33 ∧
  ∀ (ns : List Int) (u : List (List Int)) (q : Addr) (H' : Hp), Ren t ns u → Bag H' b → But b H H' → TabN H H' q u → Q (.ref q) H'
theorem flat_rep (k : Int) : ∀ n : Nat, (List.replicate n [V.int k]).flatten = (List.replicate n k).map V.int
  | 0 => rfl
  | m + 1 => by rw [List.replicate_succ, List.replicate_succ, List.flatten_cons, flat_rep k m]; rfl
section
variable {P : Program} {w : World} {K : PySem.W.Frag} {mg : Str → Option Value} {base : Heap} {f : Addr} {fd : FuncData}
theorem sc__law_renamed : FnScope ["bag", "table", "size", "names", "x", "y", "kept", "result"] ["bag", "table"] (defScope s__law_renamed) := ⟨rfl, rfl, rfl, by decide +kernel, rfl, by decide +kernel, by decide +kernel⟩
theorem ok_ren (F : FnP K "_law_renamed" "_law_renamed" s__law_renamed f fd) (T : Txt K mg) (D__law_take : DOk P w K mg base CX0 "_law_take" 1 ["bag", "size"] sp_take) : FnOk P w K mg base CX0 2 f fd ["bag", "table"] sp_ren := by
  refine F.ok sc__law_renamed (fun vs H Q E h => ?_) (fun cdv A outer s H vs Q E hr h => ?_)
  · obtain ⟨_, _, _, _, rfl, _⟩ := h; rfl
  obtain ⟨b, p, as, t, rfl, hb, hp, npb, R, nab, S, t33, kQ⟩ := h
  refine ⟨_, PSs.nox (pss_cons (ps_set (i := 2) sc__law_renamed.nd rfl (Or.inr rfl) (pe_callB (Rk.len K) rfl T.len PySem.boot_len (pa_cons (pv 1) pa_nil)))
  (pss_cons (ps_set (i := 3) sc__law_renamed.nd rfl (Or.inl rfl) (pe_listRg rfl rfl T.list (prg_1 rfl T.range (pv 2))))
  (pss_cons (ps_for PassesOwn.never rfl (pi_range3 rfl T.range (pa_cons (pe_op op_sub (pv 2) pe_int) (pa_cons pe_int (pa_cons (pe_un un_neg pe_int) pa_nil)))) (pg_name (i := 4) sc__law_renamed.nd rfl (Or.inl rfl))
  (pss_cons (ps_set (i := 5) sc__law_renamed.nd rfl (Or.inl rfl) (pe_op op_add pe_int (callX D__law_take (hr.mono (by decide)) (passN) (pa_cons (pv 0) (pa_cons (pv 4) pa_nil)))))
  (pss_cons (ps_set (i := 6) sc__law_renamed.nd rfl (Or.inl rfl) (pe_ix (Rk.ixL K) (pv 3) (pv 4) (fun _ _ => rfl)))
  (pss_cons (ps_asg (pe_ix (Rk.ixL K) (pv 3) (pv 5) (fun _ _ => rfl)) (pg_sub (pv 3) (pv 4) set_list))
  (pss_one (ps_asg (pv 6) (pg_sub (pv 3) (pv 5) set_list)))))))
  (pss_cons (ps_setLc (i := 7) (own := [("x", 4)]) rfl sc__law_renamed.nd rfl rfl (sw_true rfl rfl rfl (by decide +kernel)) (pi_range1 rfl T.range (pa_cons (pv 2) pa_nil)) (blkOk_by (own := [("x", 4)]) (N := ["bag", "table", "size", "names", "x", "y", "kept", "result"]) (sc := defScope s__law_renamed) (by decide +kernel)) (fun _ _ _ _ _ => (pg_name (i := 4) sc__law_renamed.nd rfl (Or.inl rfl))) (fun _ _ _ _ _ => pts_nil) (fun _ _ _ _ _ => (pe_op op_rep (pe_lst (pa_cons pe_int pa_nil)) (pv 2))))
  (pss_cons (ps_for PassesOwn.never rfl (pi_range1 rfl T.range (pa_cons (pv 2) pa_nil)) (pg_name (i := 4) sc__law_renamed.nd rfl (Or.inl rfl))
  (pss_one (ps_for PassesOwn.never rfl (pi_range1 rfl T.range (pa_cons (pv 2) pa_nil)) (pg_name (i := 5) sc__law_renamed.nd rfl (Or.inl rfl))
  (pss_one (ps_asg (pe_ix (Rk.ixL K) (pv 3) (pe_ix (Rk.ixL K) (pe_ix (Rk.ixL K) (pv 1) (pv 4) (fun _ _ => rfl)) (pv 5) (fun _ _ => rfl)) (fun _ _ => rfl)) (pg_sub (pe_ix (Rk.ixL K) (pv 7) (pe_ix (Rk.ixL K) (pv 3) (pv 4) (fun _ _ => rfl)) (fun _ _ => rfl)) (pe_ix (Rk.ixL K) (pv 3) (pv 5) (fun _ _ => rfl)) set_list))))))
  (pss_one (ps_ret (pv 7)))))))), ?_⟩
  have tp := S.pos
  have keepR : ∀ {H'}, But b H H' → Rows LstN H' as t := fun e => R.map fun a xs ha h => e a _ (nab a ha) h
  walk_at "st"
  refine Rd.len1 (.inl (SqL.of hp)) ?_
  walk_at "st"
  rw [List.length_map, R.len]
  generalize hn : t.length = n at t33 tp
  refine ⟨⟨by decide, by decide, by omega, by omega, by omega⟩, fun nl hnl => ?_⟩
  rw [rgV_eq]
  walk_at "st"
  refine Rd.rng3 ?_
  walk_at "st"
  refine ⟨(n : Int) - 1, 1, -1, ((n : Int) - 1 - 1).toNat, rfl, RgC.neg (by omega) (by omega) (by decide) (by decide), ?_⟩
  have nbn := hb.ne hnl
  refine for_rangeC (fun i σ H' => ∃ (v4 v5 v6 : Option V) (ns : List Int), σ = [some (.ref b), some (.ref p), some (.int (n : Nat)), some (.ref nl), v4, v5, v6, none] ∧ Bag H' b ∧ But b H H' ∧ H' nl = some (.lst (ns.map V.int)) ∧ NmOk n ns)
    ⟨none, none, none, _, rfl, hb.put nbn, butAdd (Rd.But.refl _ _) hnl, upd_same, NmOk.start n⟩ ?_ ?_
  · rintro i σ H5 hi ⟨v4, v5, v6, ns, rfl, hb5, e5, hN, N⟩
    obtain ⟨x, hx⟩ : ∃ x : Nat, (n : Int) - 1 + (i : Nat) * (-1) = (x : Int) := ⟨n - 1 - i, by omega⟩
    rw [hx]
    have x1 : 2 ≤ x := by omega
    have x2 : x < n := by omega
    walk_at "st"
    refine ⟨b, x, rfl, by omega, by omega, hb5, fun v H6 v0 v1 hb6 e6 => ?_⟩
    obtain ⟨y, hy⟩ : ∃ y : Nat, 1 + v = (y : Int) := ⟨(1 + v).toNat, by omega⟩
    have y1 : 1 ≤ y := by omega
    have y2 : y < n := by omega
    have hN6 := e6 nl _ nbn.symm hN
    obtain ⟨ax, _⟩ := N.at_ x2
    obtain ⟨ay, _⟩ := N.at_ y2
    walk_at "st"
    rw [hy]
    refine Rd.ixL (SqL.of hN6) (at_of (j := x) rfl (map_get_int ax)) ?_
    walk_at "st"
    refine Rd.ixL (SqL.of hN6) (at_of (j := y) rfl (map_get_int ay)) ?_
    walk_at "st"
    refine Rd.setL (j := x) hN6 (ixN_of rfl (by rw [List.length_map, N.len]; exact x2)) ?_
    walk_at "st"
    refine Rd.setL (j := y) upd_same (ixN_of rfl (by rw [List.length_set, List.length_map, N.len]; exact y2)) ?_
    walk_at "st"
    refine ⟨_, _, _, (ns.set x (nm ns y : Int)).set y (nm ns x : Int), rfl, (hb6.put nbn).put nbn, butMut (butMut (e5.trans e6) hnl) hnl, by rw [upd_same, List.map_set, List.map_set], N.swap ax ay (by omega) y1⟩
  · rintro σ H5 ⟨v4, v5, v6, ns, rfl, hb5, e5, hN, N⟩
    walk_at "st"
    refine ⟨by omega, by omega, ?_⟩
    refine Rd.lcNew (fun _ o => o = .lst ((List.replicate n (0 : Int)).map V.int)) (Rd.src_rng _ _ _) (by rw [Rd.rgL_len]; omega) (by intro _; rfl) (fun i y H6 Q1 hy e6 q1 => ?_) (fun rl ra H6 hrl e6 h6 lra hra nd => ?_)
    · walk_at "st"
      refine ⟨(by decide : 1 ≤ sizeLine), fun l0 hl0 => ?_⟩
      walk_at "st"
      refine ⟨l0, (n : Int), _, rfl, rfl, upd_same, by omega, by omega, by show 1 * (n : Int).toNat ≤ sizeLine; exact Nat.le_of_lt (line_of (by omega)), fun kn hkn => ?_⟩
      refine q1 kn _ _ (Same.free (Rd.same_mk hl0) hkn) ((Rd.same_mk hl0).trans (Rd.same_mk hkn)) upd_same ?_
      rw [Int.toNat_natCast, flat_rep]
    · rw [Rd.rgL_len] at lra
      have lra2 : ra.length = n := by omega
      have hra5 : ∀ a ∈ ra, H5 a = none ∧ a ≠ rl := fun a ha => by
        obtain ⟨i, hi⟩ := List.getElem?_of_mem ha
        exact (hra i a hi).2
      have rows0 : Rows LstN H6 ra (List.replicate n (List.replicate n (0 : Int))) := ⟨by rw [lra2, List.length_replicate], fun i a r h1 h2 => by
        obtain ⟨_, h3, rfl⟩ := (hra i a h1).1
        rw [List.getElem?_replicate] at h2
        split at h2
        · cases h2
          exact h3
        · cases h2⟩
      have hb6 := hb5.same e6
      walk_at "st"
      refine ⟨by omega, by omega, ?_⟩
      refine for_range (fun i σ H' => ∃ (v4 v5 : Option V) (u : List (List Int)), σ = [some (.ref b), some (.ref p), some (.int (n : Nat)), some (.ref nl), v4, v5, v6, some (.ref rl)] ∧ Same H5 H' ∧ H' rl = some (.lst (ra.map V.ref)) ∧ Rows LstN H' ra u ∧ (∀ r ∈ u, r.length = n) ∧ ∀ x y, x < i → y < n → at2 u (nm ns x) (nm ns y) = (nm ns (mul t x y) : Int))
        ⟨v4, v5, _, rfl, e6, h6, rows0, fun r hr => by rw [List.eq_of_mem_replicate hr, List.length_replicate], fun x y h => by omega⟩ ?_ ?_
      · rintro i σ H7 hi ⟨v4, v5, u, rfl, e7, hL, rows, shp, done⟩
        rw [Int.zero_add]
        walk_at "st"
        refine ⟨by omega, by omega, ?_⟩
        refine for_range (fun j σ H' => ∃ (v5 : Option V) (u : List (List Int)), σ = [some (.ref b), some (.ref p), some (.int (n : Nat)), some (.ref nl), some (.int (i : Nat)), v5, v6, some (.ref rl)] ∧ Same H5 H' ∧ H' rl = some (.lst (ra.map V.ref)) ∧ Rows LstN H' ra u ∧ (∀ r ∈ u, r.length = n) ∧ ∀ x y, (x < i ∧ y < n) ∨ (x = i ∧ y < j) → at2 u (nm ns x) (nm ns y) = (nm ns (mul t x y) : Int))
          ⟨v5, u, rfl, e7, hL, rows, shp, fun x y h => by rcases h with h | h; exact done x y h.1 h.2; omega⟩ ?_ ?_
        · rintro j σ H8 hj ⟨v5, u, rfl, e8, hL, rows, shp, done⟩
          rw [Int.zero_add]
          have hi2 : i < n := by omega
          have hj2 : j < n := by omega
          obtain ⟨at_i, X2⟩ := N.at_ hi2
          obtain ⟨at_j, Y2⟩ := N.at_ hj2
          have ml : mul t i j < n := by rw [← hn]; exact S.mul_lt (by omega) (by omega)
          obtain ⟨at_m, _⟩ := N.at_ ml
          have e9 := butSame e5 e8
          have hN8 := e8 _ _ hN
          obtain ⟨ai, ri, g1, g2, g3⟩ := (keepR e9).get (i := i) (by omega)
          obtain ⟨_, _, r', w1, w2⟩ := S.at (x := i) (y := j) (by omega) (by omega)
          rw [g2] at w1
          cases w1
          rw [S.mul_eq (by omega) (by omega)] at w2
          have lu : u.length = n := by rw [← rows.len, lra2]
          obtain ⟨aX, rX, k1, k2, k3⟩ := rows.get (i := nm ns i) (by rw [lu]; exact X2)
          have lX := shp rX (List.mem_of_getElem? k2)
          walk_at "st"
          refine Rd.ixL (SqL.of (e9 p _ npb hp)) (at_of (j := i) (v := .ref ai) rfl (by rw [List.getElem?_map, g1]; rfl)) ?_
          walk_at "st"
          refine Rd.ixL (SqL.of g3) (at_of (j := j) rfl (map_get_int w2)) ?_
          refine Rd.ixL (SqL.of hN8) (at_of (j := mul t i j) rfl (map_get_int at_m)) ?_
          walk_at "st"
          refine Rd.ixL (SqL.of hN8) (at_of (j := i) rfl (map_get_int at_i)) ?_
          refine Rd.ixL (SqL.of hL) (at_of (j := nm ns i) (v := .ref aX) rfl (by rw [List.getElem?_map, k1]; rfl)) ?_
          walk_at "st"
          refine Rd.ixL (SqL.of hN8) (at_of (j := j) rfl (map_get_int at_j)) ?_
          refine Rd.setL (j := nm ns j) k3 (ixN_of rfl (by rw [List.length_map, lX]; exact Y2)) ?_
          obtain ⟨f1, f2⟩ := hra5 aX (List.mem_of_getElem? k1)
          rw [← List.map_set]
          walk_at "st"
          refine ⟨_, u.set (nm ns i) (rX.set (nm ns j) (nm ns (mul t i j) : Int)), rfl, Rd.same_mut e8 f1, by rw [upd_ne f2.symm]; exact hL, rows.put nd k1, fun r hr => ?_, fun x y hxy => ?_⟩
          · rcases List.mem_or_eq_of_mem_set hr with h | h
            · exact shp r h
            · rw [h, List.length_set]; exact lX
          · rw [at2_set k2 (by rw [lX]; exact Y2)]
            by_cases c : x = i ∧ y = j
            · rw [if_pos ⟨by rw [c.1], by rw [c.2]⟩, c.1, c.2]
            · rw [if_neg (fun z => c ⟨N.inj (by omega) (by omega) z.1, N.inj (by omega) (by omega) z.2⟩)]
              exact done x y (by omega)
        · rintro σ H8 ⟨v5, u, rfl, e8, hL, rows, shp, done⟩
          walk_at "st"
          exact ⟨_, _, u, rfl, e8, hL, rows, shp, fun x y hx hy => done x y (by omega)⟩
      · rintro σ H7 ⟨v4, v5, u, rfl, e7, hL, rows, shp, done⟩
        walk_at "st"
        have lu : u.length = n := by rw [← rows.len, lra2]
        refine kQ ns u rl H7 ⟨by rw [hn]; exact N, by rw [lu, hn], fun r hr => by rw [hn]; exact shp r hr, fun x y hx hy => done x y (by omega) (by omega)⟩ (hb5.same e7) (butSame e5 e7) ⟨butFree e5 (hb5.ne hrl).symm hrl, ra, hL, rows, fun a ha => ⟨butFree e5 (hb5.ne (hra5 a ha).1).symm (hra5 a ha).1, (hra5 a ha).2⟩, nd⟩
end
end K08

set_option Elab.async false
set_option linter.all false
set_option maxRecDepth 100000
set_option maxHeartbeats 4000000
namespace K08
open PySem L2 Rd GT
local macro_rules | `(tactic| walk_at "st1") => `(tactic| first | with_reducible refine' Rd.Stp.go ?_ | with_reducible refine' Rd.seq ?_)
local macro_rules | `(tactic| walk_at "st") => `(tactic| repeat (first | with_reducible refine' Rd.Stp.go ?_ | with_reducible refine' Rd.seq ?_ | ((with_reducible refine' Rd.nmR ?hr ?_); (case hr => repeat (first | exact Rd.SetR.zero | apply Rd.SetR.succ))) | ((with_reducible refine' Rd.var ?hv ?_); (case hv => rfl))))
local macro_rules | `(tactic| walk_at "sj") => `(tactic| repeat (first | with_reducible refine' Rd.Stp.go ?_ | with_reducible refine' Rd.seqA ?_ | with_reducible refine' Rd.seqD ?_ | with_reducible refine' Rd.seqF ?_ | with_reducible refine' Rd.seqW ?_ | ((with_reducible refine' Rd.nmR ?hr ?_); (case hr => repeat (first | exact Rd.SetR.zero | apply Rd.SetR.succ))) | ((with_reducible refine' Rd.var ?hv ?_); (case hv => rfl))))
local macro_rules | `(tactic| walk_at "sm") => `(tactic| first | exact Same.refl _ | assumption | (apply Rd.sm_tr; assumption; walk_at "sm") | fail)
local macro_rules | `(tactic| walk_at "fr") => `(tactic| with_reducible first
  | assumption
  | (apply Rd.fr_some; assumption; walk_at "fr") | (apply Rd.fr_tupN; assumption; walk_at "fr") | (apply Rd.fr_tupX; assumption; walk_at "fr")
  | (apply Rd.fr_grp; assumption; walk_at "fr") | (apply Rd.fr_rows; assumption; walk_at "fr") | (apply Rd.fr_rowL; assumption; walk_at "fr") | (apply Rd.fr_DD; assumption; walk_at "fr")
  | (apply Rd.fr_sqL; walk_at "fr") | fail)
/-- what is drawn -/
inductive Drawn : List (List Int) → Prop
  | cyc {n m k r s : Int} : MetaOk n m k r s → Drawn (metaT n m k r s)
  | prm {fs : List (List Int)} : PermOk fs → Drawn (permT fs)
  | ren {t u : List (List Int)} {ns : List Int} : Drawn t → Ren t ns u → Drawn u
theorem Drawn.sq {t : List (List Int)} (D : Drawn t) : Sq t := by
  induction D with
  | cyc M => exact M.sq.1
  | prm O => exact O.sq.1
  | ren _ R ih => exact R.sq ih
theorem TabN.but {H H1 H2 : Hp} {p b : Addr} {t : List (List Int)} (X : TabN H H1 p t) (hb : Bag H b) (e : But b H1 H2) : TabN H H2 p t := by
  obtain ⟨as, h1, h2, h3, h4⟩ := X.ob
  exact ⟨X.fresh, as, e p _ (hb.ne X.fresh).symm h1, h2.map fun a xs ha h => e a _ (hb.ne (h3 a ha).1).symm h, h3, h4⟩
theorem TabN.up {H H0 H1 : Hp} {p b : Addr} {t : List (List Int)} (X : TabN H H1 p t) (hb : Bag H b) (e : But b H0 H) : TabN H0 H1 p t := by
  obtain ⟨as, h1, h2, h3, h4⟩ := X.ob
  exact ⟨butFree e (hb.ne X.fresh).symm X.fresh, as, h1, h2, fun a ha => ⟨butFree e (hb.ne (h3 a ha).1).symm (h3 a ha).1, (h3 a ha).2⟩, h4⟩
def sp_table : Sp := fun vs H Q _ => ∃ (b : Addr) (lim : Int), vs = [.ref b, .int lim] ∧ 1 ≤ lim ∧ lim ≤ 33 ∧ Bag H b ∧ ∀ (t : List (List Int)) (p : Addr) (H' : Hp), Drawn t → (t.length : Int) ≤ lim → Bag H' b → But b H H' → TabN H H' p t → Q (.ref p) H'
section
variable {P : Program} {w : World} {K : PySem.W.Frag} {mg : Str → Option Value} {base : Heap} {f : Addr} {fd : FuncData}
theorem sc__law_table : FnScope ["bag", "limit", "table", "other"] ["bag", "limit"] (defScope s__law_table) := ⟨rfl, rfl, rfl, by decide +kernel, rfl, by decide +kernel, by decide +kernel⟩
theorem ok_table (F : FnP K "_law_table" "_law_table" s__law_table f fd) (T : Txt K mg) (D__law_take : DOk P w K mg base CX0 "_law_take" 1 ["bag", "size"] sp_take) (D__law_metacyclic : DOk P w K mg base CX0 "_law_metacyclic" 2 ["bag", "limit"] sp_meta)
    (D__law_permutations : DOk P w K mg base CX0 "_law_permutations" 2 ["bag"] sp_perm) (D__law_renamed : DOk P w K mg base CX0 "_law_renamed" 2 ["bag", "table"] sp_ren) : FnOk P w K mg base CX0 3 f fd ["bag", "limit"] sp_table := by
  refine F.ok sc__law_table (fun vs H Q E h => ?_) (fun cdv A outer s H vs Q E hr h => ?_)
  · obtain ⟨_, _, rfl, _⟩ := h; rfl
  obtain ⟨b, lim, rfl, l1, l2, hb, kQ⟩ := h
  refine ⟨_, PSs.nox (pss_cons (ps_set (i := 2) sc__law_table.nd rfl (Or.inl rfl) (callX D__law_metacyclic (hr.mono (by decide)) (passN) (pa_cons (pv 0) (pa_cons (pv 1) pa_nil))))
  (pss_cons (ps_if (pt_cmpR op_eq (callX D__law_take (hr.mono (by decide)) (passN) (pa_cons (pv 0) (pa_cons pe_int pa_nil))) pe_int (nomark _))
  (pss_cons (ps_set (i := 3) sc__law_table.nd rfl (Or.inl rfl) (callX D__law_permutations (hr.mono (by decide)) (passN) (pa_cons (pv 0) pa_nil)))
  (pss_one (ps_if (pt_cmpR op_le (pe_callB (Rk.len K) rfl T.len PySem.boot_len (pa_cons (pv 3) pa_nil)) (pv 1) (nomark _))
  (pss_one (ps_set (i := 2) sc__law_table.nd rfl (Or.inl rfl) (pv 3)))
  pss_nil)))
  pss_nil)
  (pss_cons (ps_if (pt_cmpR op_eq (callX D__law_take (hr.mono (by decide)) (passN) (pa_cons (pv 0) (pa_cons pe_int pa_nil))) pe_int (nomark _))
  (pss_one (ps_set (i := 2) sc__law_table.nd rfl (Or.inl rfl) (callX D__law_renamed (hr.mono (by decide)) (passN) (pa_cons (pv 0) (pa_cons (pv 2) pa_nil)))))
  pss_nil)
  (pss_one (ps_ret (pv 2)))))), ?_⟩
  walk_at "sj"
  refine ⟨b, lim, rfl, l1, l2, hb, fun n m k r s p1 H1 M nmk hb1 e1 X1 => ?_⟩
  walk_at "sj"
  with_reducible refine Rd.seqJ (fun σ' H' => ∃ (v3 : Option V) (p : Addr) (t : List (List Int)), σ' = [some (.ref b), some (.int lim), some (.ref p), v3] ∧ Drawn t ∧ (t.length : Int) ≤ lim ∧ Bag H' b ∧ But b H H' ∧ TabN H H' p t) ?_ fun N hN => ?_
  · rintro σ H2 ⟨v3, p, t, rfl, D, tl, hb2, e2, X⟩
    walk_at "sj"
    with_reducible refine Rd.seqJ (fun σ' H' => ∃ (v3 : Option V) (p : Addr) (t : List (List Int)), σ' = [some (.ref b), some (.int lim), some (.ref p), v3] ∧ Drawn t ∧ (t.length : Int) ≤ lim ∧ Bag H' b ∧ But b H H' ∧ TabN H H' p t) ?_ fun N hN => ?_
    · rintro σ H2 ⟨v3, p, t, rfl, D, tl, hb2, e2, X⟩
      walk_at "st"
      exact kQ t p H2 D tl hb2 e2 X
    · walk_at "st"
      refine ⟨b, 2, rfl, by decide, by decide, hb2, fun v H3 v0 v1 hb3 e3 => ?_⟩
      have X3 := X.but hb e3
      obtain ⟨as, a1, a2, a3, a4⟩ := X3.ob
      walk_at "st"
      refine Rd.ite_d (fun c => ?_) (fun c => ?_)
      · walk_at "st"
        refine ⟨b, p, as, t, rfl, hb3, a1, (hb.ne X3.fresh).symm, a2, fun a ha => (hb.ne (a3 a ha).1).symm, D.sq, by omega, fun ns u q H4 R hb4 e4 X4 => ?_⟩
        walk_at "st"
        exact hN _ _ ⟨_, q, u, rfl, .ren D R, by rw [R.len]; exact tl, hb4, (e2.trans e3).trans e4, X4.up hb3 (e2.trans e3)⟩
      · walk_at "st"
        exact hN _ _ ⟨_, p, t, rfl, D, tl, hb3, e2.trans e3, X3⟩
  · walk_at "st"
    refine ⟨b, 4, rfl, by decide, by decide, hb1, fun v H3 v0 v1 hb3 e3 => ?_⟩
    have X3 := X1.but hb e3
    have D1 := Drawn.cyc M
    have tl := M.sq.2
    walk_at "st"
    refine Rd.ite_d (fun c => ?_) (fun c => ?_)
    · walk_at "st"
      refine ⟨b, rfl, hb3, fun fs q H4 O hb4 e4 X4 => ?_⟩
      have X5 := X3.but hb e4
      obtain ⟨as, a1, a2, a3, a4⟩ := X4.ob
      walk_at "st"
      refine Rd.len1 (.inl (SqL.of a1)) ?_
      walk_at "st"
      rw [List.length_map, a2.len]
      refine Rd.ite_d (fun c2 => ?_) (fun c2 => ?_)
      · walk_at "st"
        exact hN _ _ ⟨_, q, _, rfl, .prm O, c2, hb4, (e1.trans e3).trans e4, X4.up hb3 (e1.trans e3)⟩
      · walk_at "st"
        exact hN _ _ ⟨_, p1, _, rfl, D1, by omega, hb4, (e1.trans e3).trans e4, X5⟩
    · walk_at "st"
      exact hN _ _ ⟨_, p1, _, rfl, D1, by omega, hb3, e1.trans e3, X3⟩
end
end K08

set_option Elab.async false
set_option linter.all false
set_option maxRecDepth 100000
set_option maxHeartbeats 4000000
namespace K08
open PySem L2 Rd GT
local macro_rules | `(tactic| walk_at "st1") => `(tactic| first | with_reducible refine' Rd.Stp.go ?_ | with_reducible refine' Rd.seq ?_)
local macro_rules | `(tactic| walk_at "st") => `(tactic| repeat (first | with_reducible refine' Rd.Stp.go ?_ | with_reducible refine' Rd.seq ?_ | ((with_reducible refine' Rd.nmR ?hr ?_); (case hr => repeat (first | exact Rd.SetR.zero | apply Rd.SetR.succ))) | ((with_reducible refine' Rd.var ?hv ?_); (case hv => rfl))))
local macro_rules | `(tactic| walk_at "sj") => `(tactic| repeat (first | with_reducible refine' Rd.Stp.go ?_ | with_reducible refine' Rd.seqA ?_ | with_reducible refine' Rd.seqD ?_ | with_reducible refine' Rd.seqF ?_ | with_reducible refine' Rd.seqW ?_ | ((with_reducible refine' Rd.nmR ?hr ?_); (case hr => repeat (first | exact Rd.SetR.zero | apply Rd.SetR.succ))) | ((with_reducible refine' Rd.var ?hv ?_); (case hv => rfl))))
local macro_rules | `(tactic| walk_at "sm") => `(tactic| first | exact Same.refl _ | assumption | (apply Rd.sm_tr; assumption; walk_at "sm") | fail)
local macro_rules | `(tactic| walk_at "fr") => `(tactic| with_reducible first
  | assumption
  | (apply Rd.fr_some; assumption; walk_at "fr") | (apply Rd.fr_tupN; assumption; walk_at "fr") | (apply Rd.fr_tupX; assumption; walk_at "fr")
  | (apply Rd.fr_grp; assumption; walk_at "fr") | (apply Rd.fr_rows; assumption; walk_at "fr") | (apply Rd.fr_rowL; assumption; walk_at "fr") | (apply Rd.fr_DD; assumption; walk_at "fr")
  | (apply Rd.fr_sqL; walk_at "fr") | fail)
/-! ### what the law calls the same -/
def sp_same : Nat → Sp
  | 0 => fun _ _ _ _ => False
  | n + 1 => fun vs H Q _ => ∃ x y : V, vs = [x, y] ∧ DD H n x y ∧ ∀ H', Same H H' → Q (.bl true) H'
section
variable {P : Program} {w : World} {K : PySem.W.Frag} {mg : Str → Option Value} {base : Heap} {f : Addr} {fd : FuncData}
theorem isTupX {H : Hp} {Q : VK} {a : Addr} {xs : List V} (T : String) (b : Bool) (h : TupX H a xs) (k : PySem.W.kitOne [] (.type "tuple") (.type T) = some b) (k2 : ∀ K : PySem.W.Frag, PySem.W.kitOne K (.type "tuple") (.type T) = PySem.W.kitOne [] (.type "tuple") (.type T)) (q : Q (.bl b) H) : rIsi K [.ref a, .ty T] H Q := by
  rcases h with h | ⟨o, h⟩
  · exact Rd.isi (.base (.tup h)) (Rd.kit_ty (v := b) k k2) q
  · exact Rd.isi (.fTuple h) (Rd.kit_ty (v := b) k k2) q
theorem isLst {H : Hp} {Q : VK} {a : Addr} {xs : List V} (T : String) (b : Bool) (h : H a = some (.lst xs)) (k : PySem.W.kitOne [] (.type "list") (.type T) = some b) (k2 : ∀ K : PySem.W.Frag, PySem.W.kitOne K (.type "list") (.type T) = PySem.W.kitOne [] (.type "list") (.type T)) (q : Q (.bl b) H) : rIsi K [.ref a, .ty T] H Q :=
  Rd.isi (.base (.lst h)) (Rd.kit_ty (v := b) k k2) q
theorem neBB {H : Hp} {Q : VK} {a b : Bool} (h : Q (.bl (!(a == b))) H) : rNe (.bl a) (.bl b) H Q := ⟨rfl, (show Q (.bl (!decide (V.bl a = V.bl b))) H from by rw [dec_bl]; exact h)⟩
theorem sc__law_same : FnScope ["told", "due", "key", "k"] ["told", "due"] (defScope s__law_same) := ⟨rfl, rfl, rfl, by decide +kernel, rfl, by decide +kernel, by decide +kernel⟩
theorem ok_same (n : Nat) (F : FnP K "_law_same" "_law_same" s__law_same f fd) (T : Txt K mg) (D__law_is_integer : DOk P w K mg base CX0 "_law_is_integer" 1 ["told"] sp_isint)
    (D__law_same : DOk P w K mg base CX0 "_law_same" (n + 1) ["told", "due"] (sp_same n)) : FnOk P w K mg base CX0 (n + 2) f fd ["told", "due"] (sp_same (n + 1)) := by
  refine F.ok sc__law_same (fun vs H Q E h => ?_) (fun cdv A outer s H vs Q E hr h => ?_)
  · obtain ⟨_, _, rfl, _⟩ := h; rfl
  obtain ⟨x, y, rfl, dd, k⟩ := h
  refine ⟨_, PSs.nox (pss_cons (ps_if (PW.pt (pw_or (pt_cmpR op_isN (pv 1) pe_non (nomark _)) (pw_or1 (pt_val (pe_callB (Rk.isi K) rfl T.isinstance (by decide +kernel) (pa_cons (pv 1) (pa_cons (pe_bltn rfl T.bool (by decide +kernel) (RelV_ty "bool")) pa_nil)))))))
  (pss_one (ps_ret (pe_or (pe_and (pe_cmpR op_isN (pv 0) pe_non (nomark _)) (pe_one (pe_cmpR op_isN (pv 1) pe_non (nomark _)))) (pe_one (pe_and (pe_callB (Rk.isi K) rfl T.isinstance (by decide +kernel) (pa_cons (pv 0) (pa_cons (pe_bltn rfl T.bool (by decide +kernel) (RelV_ty "bool")) pa_nil))) (pe_and (pe_callB (Rk.isi K) rfl T.isinstance (by decide +kernel) (pa_cons (pv 1) (pa_cons (pe_bltn rfl T.bool (by decide +kernel) (RelV_ty "bool")) pa_nil))) (pe_one (pe_cmpR op_eq (pv 0) (pv 1) (nomark _)))))))))
  pss_nil)
  (pss_cons (ps_if (pt_val (pe_callB (Rk.isi K) rfl T.isinstance (by decide +kernel) (pa_cons (pv 1) (pa_cons (pe_bltn rfl T.int (by decide +kernel) (RelV_ty "int")) pa_nil))))
  (pss_one (ps_ret (pe_and (callX D__law_is_integer (hr.mono (by omega)) (passN) (pa_cons (pv 0) pa_nil)) (pe_one (pe_cmpR op_eq (pv 0) (pv 1) (nomark _))))))
  pss_nil)
  (pss_cons (ps_if (pt_val (pe_callB (Rk.isi K) rfl T.isinstance (by decide +kernel) (pa_cons (pv 1) (pa_cons (pe_bltn rfl T.str (by decide +kernel) (RelV_ty "str")) pa_nil))))
  (pss_one (ps_ret (pe_and (pe_callB (Rk.isi K) rfl T.isinstance (by decide +kernel) (pa_cons (pv 0) (pa_cons (pe_bltn rfl T.str (by decide +kernel) (RelV_ty "str")) pa_nil))) (pe_one (pe_cmpR op_eq (pv 0) (pv 1) (nomark _))))))
  pss_nil)
  (pss_cons (ps_if (pt_val (pe_callB (Rk.isi K) rfl T.isinstance (by decide +kernel) (pa_cons (pv 1) (pa_cons (pe_bltn rfl T.dict (by decide +kernel) (RelV_ty "dict")) pa_nil))))
  (pss_cons (ps_if (PW.pt (pw_or (pt_not (pt_val (pe_callB (Rk.isi K) rfl T.isinstance (by decide +kernel) (pa_cons (pv 0) (pa_cons (pe_bltn rfl T.dict (by decide +kernel) (RelV_ty "dict")) pa_nil))))) (pw_or1 (pt_not (pt_val (callX D__law_same (hr.mono (by omega)) (passN) (pa_cons (pe_callTy (Rk.lis K) rfl T.list (by decide +kernel) (pa_cons (pv 0) pa_nil)) (pa_cons (pe_callTy (Rk.lis K) rfl T.list (by decide +kernel) (pa_cons (pv 1) pa_nil)) pa_nil))))))))
  (pss_one (ps_ret pe_bl))
  pss_nil)
  (pss_one (ps_ret (pe_callB (Rk.all K rfl rfl) rfl T.all (by decide +kernel) (pa_cons (pe_lc (own := [("key", 2)]) rfl sc__law_same.nd (Rk.pl K rfl (pv 1)) (blkOk_by (own := [("key", 2)]) (N := ["told", "due", "key", "k"]) (sc := defScope s__law_same) (by decide +kernel)) (fun _ _ _ _ _ => (pg_name (i := 2) sc__law_same.nd rfl (Or.inl rfl))) (fun _ _ _ _ _ => pts_nil) (fun _ _ _ _ _ => (callX D__law_same (hr.mono (by omega)) (passN) (pa_cons (pe_ix (Rk.ixA K) (pv 0) (pv 2) (fun _ _ => rfl)) (pa_cons (pe_ix (Rk.ixA K) (pv 1) (pv 2) (fun _ _ => rfl)) pa_nil))))) pa_nil)))))
  pss_nil)
  (pss_cons (ps_if (PW.pt (pw_or (pt_cmpR op_ne (pe_callB (Rk.isi K) rfl T.isinstance (by decide +kernel) (pa_cons (pv 1) (pa_cons (pe_bltn rfl T.list (by decide +kernel) (RelV_ty "list")) pa_nil))) (pe_callB (Rk.isi K) rfl T.isinstance (by decide +kernel) (pa_cons (pv 0) (pa_cons (pe_bltn rfl T.list (by decide +kernel) (RelV_ty "list")) pa_nil))) (nomark _)) (pw_or1 (pt_cmpR op_ne (pe_callB (Rk.isi K) rfl T.isinstance (by decide +kernel) (pa_cons (pv 1) (pa_cons (pe_bltn rfl T.tuple (by decide +kernel) (RelV_ty "tuple")) pa_nil))) (pe_callB (Rk.isi K) rfl T.isinstance (by decide +kernel) (pa_cons (pv 0) (pa_cons (pe_bltn rfl T.tuple (by decide +kernel) (RelV_ty "tuple")) pa_nil))) (nomark _)))))
  (pss_one (ps_ret pe_bl))
  pss_nil)
  (pss_cons (ps_if (pt_cmpR op_ne (pe_callB (Rk.len K) rfl T.len PySem.boot_len (pa_cons (pv 0) pa_nil)) (pe_callB (Rk.len K) rfl T.len PySem.boot_len (pa_cons (pv 1) pa_nil)) (nomark _))
  (pss_one (ps_ret pe_bl))
  pss_nil)
  (pss_one (ps_ret (pe_callB (Rk.all K rfl rfl) rfl T.all (by decide +kernel) (pa_cons (pe_lc (own := [("k", 3)]) rfl sc__law_same.nd (pi_range1 rfl T.range (pa_cons (pe_callB (Rk.len K) rfl T.len PySem.boot_len (pa_cons (pv 1) pa_nil)) pa_nil)) (blkOk_by (own := [("k", 3)]) (N := ["told", "due", "key", "k"]) (sc := defScope s__law_same) (by decide +kernel)) (fun _ _ _ _ _ => (pg_name (i := 3) sc__law_same.nd rfl (Or.inl rfl))) (fun _ _ _ _ _ => pts_nil) (fun _ _ _ _ _ => (callX D__law_same (hr.mono (by omega)) (passN) (pa_cons (pe_ix (Rk.ixA K) (pv 0) (pv 3) (fun _ _ => rfl)) (pa_cons (pe_ix (Rk.ixA K) (pv 1) (pv 3) (fun _ _ => rfl)) pa_nil))))) pa_nil)))))))))), ?_⟩
  cases dd with
  | bl _ b =>
    walk_at "st"
    refine ⟨rfl, ?_⟩
    walk_at "st"
    refine (if_neg (by simp)).mpr ?_
    walk_at "st"
    refine Rd.isi (.base (.bl b)) (Rd.kit_ty (v := true) (by decide +kernel)) ?_
    walk_at "st"
    refine (if_pos rfl).mpr ?_
    walk_at "st"
    refine ⟨rfl, ?_⟩
    walk_at "st"
    refine (if_neg (by simp)).mpr ?_
    walk_at "st"
    refine (if_neg (by simp)).mpr ?_
    walk_at "st"
    refine Rd.isi (.base (.bl b)) (Rd.kit_ty (v := true) (by decide +kernel)) ?_
    walk_at "st"
    refine (if_pos rfl).mpr ?_
    walk_at "st"
    refine Rd.isi (.base (.bl b)) (Rd.kit_ty (v := true) (by decide +kernel)) ?_
    walk_at "st"
    refine (if_pos rfl).mpr ?_
    walk_at "st"
    rw [beq_self_eq_true]
    exact k _ (Same.refl _)
  | int _ i =>
    walk_at "st"
    refine ⟨rfl, ?_⟩
    walk_at "st"
    refine (if_neg (by simp)).mpr ?_
    walk_at "st"
    refine Rd.isi (.base (.int i)) (Rd.kit_ty (b := "bool") (v := false) (by decide +kernel)) ?_
    walk_at "st"
    refine (if_neg (by simp)).mpr ?_
    walk_at "st"
    refine Rd.isi (.base (.int i)) (Rd.kit_ty (v := true) (by decide +kernel)) ?_
    walk_at "st"
    refine (if_pos rfl).mpr ?_
    walk_at "st"
    refine ⟨i, rfl, ?_⟩
    walk_at "st"
    refine (if_pos rfl).mpr ?_
    walk_at "st"
    rw [decide_eq_true rfl]
    exact k _ (Same.refl _)
  | @lst m a b xs ys h1 h2 h3 h4 h5 =>
    walk_at "st"
    refine ⟨rfl, ?_⟩
    walk_at "st"
    refine (if_neg (by simp)).mpr ?_
    walk_at "st"
    refine isLst "bool" false h2 (by decide +kernel) (by intro K; rfl) ?_
    walk_at "st"
    refine (if_neg (by simp)).mpr ?_
    walk_at "st"
    refine isLst "int" false h2 (by decide +kernel) (by intro K; rfl) ?_
    walk_at "st"
    refine (if_neg (by simp)).mpr ?_
    walk_at "st"
    refine isLst "str" false h2 (by decide +kernel) (by intro K; rfl) ?_
    walk_at "st"
    refine (if_neg (by simp)).mpr ?_
    walk_at "st"
    refine isLst "dict" false h2 (by decide +kernel) (by intro K; rfl) ?_
    walk_at "st"
    refine (if_neg (by simp)).mpr ?_
    walk_at "st"
    refine isLst "list" true h2 (by decide +kernel) (by intro K; rfl) ?_
    walk_at "st"
    refine isLst "list" true h1 (by decide +kernel) (by intro K; rfl) ?_
    refine neBB ?_
    walk_at "st"
    refine (if_neg (by simp)).mpr ?_
    walk_at "st"
    refine isLst "tuple" false h2 (by decide +kernel) (by intro K; rfl) ?_
    walk_at "st"
    refine isLst "tuple" false h1 (by decide +kernel) (by intro K; rfl) ?_
    refine neBB ?_
    walk_at "st"
    refine (if_neg (by simp)).mpr ?_
    walk_at "st"
    refine Rd.len1 (.inl (SqL.of h1)) ?_
    walk_at "st"
    refine Rd.len1 (.inl (SqL.of h2)) ?_
    walk_at "st"
    refine Rd.ite_n (fun c => absurd (by omega) c) (fun _ => ?_)
    walk_at "st"
    refine Rd.len1 (.inl (SqL.of h2)) ?_
    refine ⟨_, rfl, by omega, by omega, ?_⟩
    refine Rd.lcMap (fun _ => .bl true) (Rd.src_rng 0 _ H) (by rw [Rd.rgL_len]; omega) (by intro _; rfl) (fun j z H1 Q1 hz e1 q1 => ?_) (fun p H1 hp e1 h6 => ?_)
    · have hj : j < ys.length := by
        have := (List.getElem?_eq_some_iff.mp hz).1
        rw [Rd.rgL_len] at this
        omega
      rw [Rd.rgL_get (by omega)] at hz
      cases hz
      walk_at "st"
      refine .inl (Rd.ixL (SqL.of (e1 _ _ h1)) (at_of (j := j) (v := xs[j]'(by omega)) (by omega) (List.getElem?_eq_getElem (by omega))) ?_)
      walk_at "st"
      refine .inl (Rd.ixL (SqL.of (e1 _ _ h2)) (at_of (j := j) (v := ys[j]) (by omega) (List.getElem?_eq_getElem hj)) ?_)
      exact ⟨_, _, rfl, (h5 j _ _ (List.getElem?_eq_getElem (by omega)) (List.getElem?_eq_getElem hj)).same e1, fun H2 e2 => q1 _ e2⟩
    · walk_at "st"
      refine ⟨p, _, rfl, SqL.of (by rw [h6, map_bl _ (fun _ => true)]), ?_⟩
      rw [all_id.mpr fun _ _ => rfl]
      exact k _ e1
  | @tup m a b xs ys h1 h2 h3 h4 h5 =>
    walk_at "st"
    refine ⟨rfl, ?_⟩
    walk_at "st"
    refine (if_neg (by simp)).mpr ?_
    walk_at "st"
    refine isTupX "bool" false h2 (by decide +kernel) (by intro K; rfl) ?_
    walk_at "st"
    refine (if_neg (by simp)).mpr ?_
    walk_at "st"
    refine isTupX "int" false h2 (by decide +kernel) (by intro K; rfl) ?_
    walk_at "st"
    refine (if_neg (by simp)).mpr ?_
    walk_at "st"
    refine isTupX "str" false h2 (by decide +kernel) (by intro K; rfl) ?_
    walk_at "st"
    refine (if_neg (by simp)).mpr ?_
    walk_at "st"
    refine isTupX "dict" false h2 (by decide +kernel) (by intro K; rfl) ?_
    walk_at "st"
    refine (if_neg (by simp)).mpr ?_
    walk_at "st"
    refine isTupX "list" false h2 (by decide +kernel) (by intro K; rfl) ?_
    walk_at "st"
    refine isTupX "list" false h1 (by decide +kernel) (by intro K; rfl) ?_
    refine neBB ?_
    walk_at "st"
    refine (if_neg (by simp)).mpr ?_
    walk_at "st"
    refine isTupX "tuple" true h2 (by decide +kernel) (by intro K; rfl) ?_
    walk_at "st"
    refine isTupX "tuple" true h1 (by decide +kernel) (by intro K; rfl) ?_
    refine neBB ?_
    walk_at "st"
    refine (if_neg (by simp)).mpr ?_
    walk_at "st"
    refine Rd.len1 (.inr h1.sq) ?_
    walk_at "st"
    refine Rd.len1 (.inr h2.sq) ?_
    walk_at "st"
    refine Rd.ite_n (fun c => absurd (by omega) c) (fun _ => ?_)
    walk_at "st"
    refine Rd.len1 (.inr h2.sq) ?_
    refine ⟨_, rfl, by omega, by omega, ?_⟩
    refine Rd.lcMap (fun _ => .bl true) (Rd.src_rng 0 _ H) (by rw [Rd.rgL_len]; omega) (by intro _; rfl) (fun j z H1 Q1 hz e1 q1 => ?_) (fun p H1 hp e1 h6 => ?_)
    · have hj : j < ys.length := by
        have := (List.getElem?_eq_some_iff.mp hz).1
        rw [Rd.rgL_len] at this
        omega
      rw [Rd.rgL_get (by omega)] at hz
      cases hz
      walk_at "st"
      refine .inr (Rd.ixT (h1.same e1).sq (at_of (j := j) (v := xs[j]'(by omega)) (by omega) (List.getElem?_eq_getElem (by omega))) ?_)
      walk_at "st"
      refine .inr (Rd.ixT (h2.same e1).sq (at_of (j := j) (v := ys[j]) (by omega) (List.getElem?_eq_getElem hj)) ?_)
      exact ⟨_, _, rfl, (h5 j _ _ (List.getElem?_eq_getElem (by omega)) (List.getElem?_eq_getElem hj)).same e1, fun H2 e2 => q1 _ e2⟩
    · walk_at "st"
      refine ⟨p, _, rfl, SqL.of (by rw [h6, map_bl _ (fun _ => true)]), ?_⟩
      rw [all_id.mpr fun _ _ => rfl]
      exact k _ e1
end
end K08

set_option Elab.async false
set_option linter.all false
set_option maxRecDepth 100000
set_option maxHeartbeats 4000000
namespace K08
open PySem L2 Rd GT
local macro_rules | `(tactic| walk_at "st1") => `(tactic| first | with_reducible refine' Rd.Stp.go ?_ | with_reducible refine' Rd.seq ?_)
local macro_rules | `(tactic| walk_at "st") => `(tactic| repeat (first | with_reducible refine' Rd.Stp.go ?_ | with_reducible refine' Rd.seq ?_ | ((with_reducible refine' Rd.nmR ?hr ?_); (case hr => repeat (first | exact Rd.SetR.zero | apply Rd.SetR.succ))) | ((with_reducible refine' Rd.var ?hv ?_); (case hv => rfl))))
local macro_rules | `(tactic| walk_at "sj") => `(tactic| repeat (first | with_reducible refine' Rd.Stp.go ?_ | with_reducible refine' Rd.seqA ?_ | with_reducible refine' Rd.seqD ?_ | with_reducible refine' Rd.seqF ?_ | with_reducible refine' Rd.seqW ?_ | ((with_reducible refine' Rd.nmR ?hr ?_); (case hr => repeat (first | exact Rd.SetR.zero | apply Rd.SetR.succ))) | ((with_reducible refine' Rd.var ?hv ?_); (case hv => rfl))))
local macro_rules | `(tactic| walk_at "sm") => `(tactic| first | exact Same.refl _ | assumption | (apply Rd.sm_tr; assumption; walk_at "sm") | fail)
local macro_rules | `(tactic| walk_at "fr") => `(tactic| with_reducible first
  | assumption
  | (apply Rd.fr_some; assumption; walk_at "fr") | (apply Rd.fr_tupN; assumption; walk_at "fr") | (apply Rd.fr_tupX; assumption; walk_at "fr")
  | (apply Rd.fr_grp; assumption; walk_at "fr") | (apply Rd.fr_rows; assumption; walk_at "fr") | (apply Rd.fr_rowL; assumption; walk_at "fr") | (apply Rd.fr_DD; assumption; walk_at "fr")
  | (apply Rd.fr_sqL; walk_at "fr") | fail)
theorem TabN.at {H H' : Hp} {p : Addr} {u : List (List Int)} (X : TabN H H' p u) {i : Nat} (hi : i < u.length) : ∃ (as : List Addr) (a : Addr) (r : List Int), H' p = some (.lst (as.map V.ref)) ∧ as[i]? = some a ∧ u[i]? = some r ∧ H' a = some (.lst (r.map V.int)) ∧ H a = none ∧ as.length = u.length ∧
    ∀ r' : List Int, TabN H (upd H' a (.lst (r'.map V.int))) p (u.set i r') := by
  obtain ⟨as, h1, h2, h3, h4⟩ := X.ob
  obtain ⟨a, r, g1, g2, g3⟩ := h2.get hi
  obtain ⟨f1, f2⟩ := h3 a (List.mem_of_getElem? g1)
  exact ⟨as, a, r, h1, g1, g2, g3, f1, h2.len, fun r' => ⟨X.fresh, as, by rw [upd_ne f2.symm]; exact h1, h2.put h4 g1, h3, h4⟩⟩
theorem TabN.drop {H H' : Hp} {p : Addr} {u : List (List Int)} (X : TabN H H' p u) : ∃ as : List Addr, H' p = some (.lst (as.map V.ref)) ∧ as.length = u.length ∧ TabN H (upd H' p (.lst (as.dropLast.map V.ref))) p u.dropLast := by
  obtain ⟨as, h1, h2, h3, h4⟩ := X.ob
  refine ⟨as, h1, h2.len, X.fresh, as.dropLast, upd_same, ⟨by rw [List.length_dropLast, List.length_dropLast, h2.len], fun i a r g1 g2 => ?_⟩, fun a ha => h3 a ((List.dropLast_subset _) ha), (List.dropLast_sublist as).nodup h4⟩
  rw [List.getElem?_dropLast] at g1 g2
  split at g1
  · split at g2
    · unfold LstN
      rw [upd_ne (h3 a (List.mem_of_getElem? g1)).2]
      exact h2.row i a r g1 g2
    · cases g2
  · cases g1
/-- a table in the heap -/
structure TabAt (H : Hp) (p : Addr) (t : List (List Int)) : Prop where
  ob : ∃ as : List Addr, H p = some (.lst (as.map V.ref)) ∧ Rows LstN H as t
theorem TabAt.same {H H' : Hp} {p : Addr} {t : List (List Int)} (X : TabAt H p t) (e : Same H H') : TabAt H' p t := by
  obtain ⟨as, h1, h2⟩ := X.ob
  exact ⟨as, e _ _ h1, h2.sameL e⟩
theorem TabAt.row {K : PySem.W.Frag} {H : Hp} {p : Addr} {t : List (List Int)} (X : TabAt H p t) {x : Nat} (hx : x < t.length) : ∃ (xs : List V) (a : Addr) (r : List Int), SqL K H p xs ∧ atI xs (x : Int) = some (.ref a) ∧ SqL K H a (r.map V.int) ∧ t[x]? = some r := by
  obtain ⟨as, h1, h2⟩ := X.ob
  obtain ⟨a, r, g1, g2, g3⟩ := h2.get hx
  exact ⟨_, a, r, SqL.of h1, at_of (j := x) rfl (by rw [List.getElem?_map, g1]; rfl), SqL.of g3, g2⟩
theorem TabAt.cell {K : PySem.W.Frag} {H : Hp} {p : Addr} {t : List (List Int)} (X : TabAt H p t) (S : Sq t) {x y : Nat} (hx : x < t.length) (hy : y < t.length) : ∃ (xs : List V) (a : Addr) (rs : List V), SqL K H p xs ∧ atI xs (x : Int) = some (.ref a) ∧ SqL K H a rs ∧ atI rs (y : Int) = some (.int (mul t x y : Nat)) := by
  obtain ⟨xs, a, r, h1, h2, h3, h4⟩ := X.row (K := K) hx
  obtain ⟨_, _, r', w1, w2⟩ := S.at hx hy
  rw [h4] at w1
  cases w1
  rw [S.mul_eq hx hy] at w2
  exact ⟨xs, a, _, h1, h2, h3, at_of (j := y) rfl (map_get_int w2)⟩
theorem TabAt.len {H : Hp} {p : Addr} {t : List (List Int)} (X : TabAt H p t) : ∃ as : List Addr, H p = some (.lst (as.map V.ref)) ∧ (as.map V.ref).length = t.length := by
  obtain ⟨as, h1, h2⟩ := X.ob
  exact ⟨as, h1, by rw [List.length_map, h2.len]⟩
def sp_closed : Sp := fun vs H Q _ => ∃ (p a : Addr) (t : List (List Int)) (ns : List Int), vs = [.ref p, .ref a] ∧ TabAt H p t ∧ Sq t ∧ t.length ≤ 33 ∧ H a = some (.lst (ns.map V.int)) ∧ InG t ns ∧
  ∀ l out H', Closed t ns out → H l = none → Same H H' → H' l = some (.lst (out.map V.int)) → Q (.ref l) H'
def sp_lord : Sp := fun vs H Q _ => ∃ (p : Addr) (t : List (List Int)) (x : Nat), vs = [.ref p, .int (x : Nat)] ∧ TabAt H p t ∧ Grp t ∧ t.length ≤ 33 ∧ x < t.length ∧ ∀ k, IsOrd t x k → Q (.int (k : Nat)) H
def sp_many : Sp := fun vs H Q _ => ∃ (p : Addr) (t : List (List Int)) (x k : Nat), vs = [.ref p, .int (x : Nat), .int (k : Nat)] ∧ TabAt H p t ∧ Grp t ∧ t.length ≤ 33 ∧ x < t.length ∧ k ≤ 1000 ∧ Q (.int (pw t x k : Nat)) H
def sp_lgens : Sp := fun vs H Q _ => ∃ (p : Addr) (t : List (List Int)), vs = [.ref p] ∧ TabAt H p t ∧ Grp t ∧ t.length ≤ 33 ∧ ∀ l H', H l = none → Same H H' → H' l = some (.lst ((gensTo t t.length).map V.int)) → Q (.ref l) H'
section
variable {P : Program} {w : World} {K : PySem.W.Frag} {mg : Str → Option Value} {base : Heap} {f : Addr} {fd : FuncData}
end
theorem isTup {K : PySem.W.Frag} {H : Hp} {Q : VK} {a : Addr} {xs : List V} (h : TupN H a xs) (q : Q (.bl true) H) : rIsi K [.ref a, .ty "tuple"] H Q := by
  obtain ⟨ob, _, e⟩ := h
  exact Rd.isi (.fTuple e) (Rd.kit_ty (v := true) (by decide +kernel)) q
theorem TabAt.dp {K : PySem.W.Frag} {H : Hp} {p : Addr} {t : List (List Int)} (X : TabAt H p t) : Dp K H (.ref p) (lL t) := by
  obtain ⟨as, h1, h2⟩ := X.ob
  exact .lst (SqL.of h1) (dpRowsL h2)
theorem neTab {K : PySem.W.Frag} {H : Hp} {Q : VK} {p q : Addr} {t u : List (List Int)} (X : TabAt H p t) (Y : TabAt H q u) (h : Q (.bl (!decide (t = u))) H) : rNeD K (.ref p) (.ref q) H Q :=
  ⟨_, _, X.dp, Y.dp, lL_shaped _, lL_shaped _, by rw [lL_eqv]; exact h⟩
theorem idx0 {K : PySem.W.Frag} {H : Hp} {Q : VK} {a : Addr} {r : List Int} (h : SqL K H a (r.map V.int)) (m : (0 : Int) ∈ r) (q : Q (.int (r.idxOf 0 : Nat)) H) : rIndex K (.ref a) [.int 0] H Q := by
  obtain ⟨w1, w2⟩ := idx_of m
  refine ⟨a, r.map V.int, .int 0, r.idxOf 0, .int 0, rfl, rfl, h, rfl, flat_ints r, map_get_int w1, by simp [eqV], fun k z hk hz => ?_, q⟩
  obtain ⟨u, hu, rfl⟩ := intAt hz
  have : u ≠ 0 := fun e => w2 k hk (e ▸ hu)
  simp [eqV, this]
/-! ### growing lists of lists -/
def without (e : Addr) (H : Hp) : Hp := fun b => if b = e then none else H b
theorem without_same {e : Addr} {H : Hp} : Same (without e H) H := fun b o h => by
  unfold without at h
  split at h
  · cases h
  · exact h
theorem without_at {e : Addr} {H : Hp} : without e H e = none := if_pos rfl
theorem without_free {e b : Addr} {H : Hp} (h : H b = none) : without e H b = none := by
  unfold without
  split
  · rfl
  · exact h
theorem TabN.sub {H0 H1 H : Hp} {p : Addr} {t : List (List Int)} (X : TabN H1 H p t) (e : Same H0 H1) : TabN H0 H p t := by
  obtain ⟨as, h1, h2, h3, h4⟩ := X.ob
  exact ⟨Same.free e X.fresh, as, h1, h2, fun a ha => ⟨Same.free e (h3 a ha).1, (h3 a ha).2⟩, h4⟩
theorem TabN.on {H0 H1 H2 : Hp} {p : Addr} {t : List (List Int)} (X : TabN H0 H1 p t) (e : Same H1 H2) : TabN H0 H2 p t := by
  obtain ⟨as, h1, h2, h3, h4⟩ := X.ob
  exact ⟨X.fresh, as, e _ _ h1, h2.sameL e, h3, h4⟩
theorem TabN.nil {H0 H1 : Hp} {p : Addr} (h0 : H0 p = none) : TabN H0 (upd H1 p (.lst [])) p [] :=
  ⟨h0, [], upd_same, ⟨rfl, fun i a r h1 h2 => by simp at h1⟩, fun a ha => (by cases ha), List.nodup_nil⟩
theorem TabN.add {H0 H1 H2 : Hp} {p rp : Addr} {as : List Addr} {t : List (List Int)} {r : List Int} (X : TabN H0 H1 p t) (ha : H1 p = some (.lst (as.map V.ref))) (hr : H1 rp = none) (h0 : H0 rp = none) (e : Same H1 H2) (h2 : H2 rp = some (.lst (r.map V.int))) :
    TabN H0 (upd H2 p (.lst ((as ++ [rp]).map V.ref))) p (t ++ [r]) := by
  obtain ⟨as', a1, a2, a3, a4⟩ := X.ob
  rw [ha] at a1
  have ea : as = as' := by
    have := HO.lst.inj (Option.some.inj a1)
    exact (List.map_inj_right fun x y h => V.ref.inj h).mp this
  subst ea
  have nrp : rp ≠ p := fun z => by rw [z, ha] at hr; cases hr
  have rna : rp ∉ as := fun hm => by
    obtain ⟨j, hj⟩ := List.getElem?_of_mem hm
    obtain ⟨aj, rj, j1, j2, j3⟩ := a2.get (i := j) (by rw [← a2.len]; exact (List.getElem?_eq_some_iff.mp hj).1)
    rw [hj] at j1
    cases j1
    unfold LstN at j3
    rw [hr] at j3
    cases j3
  refine ⟨X.fresh, as ++ [rp], upd_same, ⟨by rw [List.length_append, List.length_append, a2.len]; rfl, fun j a r' j1 j2 => ?_⟩, fun a ha => ?_, List.nodup_append.mpr ⟨a4, by simp, fun u hu y hy => by rw [List.mem_singleton.mp hy]; intro q; exact rna (q ▸ hu)⟩⟩
  · by_cases q : j < as.length
    · rw [List.getElem?_append_left q] at j1
      rw [List.getElem?_append_left (by rw [← a2.len]; exact q)] at j2
      have j3 := a2.row j a r' j1 j2
      unfold LstN at j3 ⊢
      rw [upd_ne (a3 a (List.mem_of_getElem? j1)).2]
      exact e _ _ j3
    · have lu := (List.getElem?_eq_some_iff.mp j1).1
      rw [List.length_append, List.length_singleton] at lu
      have ej : j = as.length := by omega
      subst ej
      rw [List.getElem?_append_right (Nat.le_refl _), Nat.sub_self] at j1
      rw [a2.len, List.getElem?_append_right (Nat.le_refl _), Nat.sub_self] at j2
      cases j1
      cases j2
      unfold LstN
      rw [upd_ne nrp]
      exact h2
  · rcases List.mem_append.mp ha with q | q
    · exact a3 a q
    · rw [List.mem_singleton.mp q]
      exact ⟨h0, nrp⟩
theorem TabN.keys {H0 H : Hp} {p : Addr} {t : List (List Int)} (X : TabN H0 H p t) : ∃ (as : List Addr) (k : Addr → List Int), H p = some (.lst (as.map V.ref)) ∧ as.length = t.length ∧ (∀ a ∈ as, H a = some (.lst ((k a).map V.int))) ∧ as.map k = t ∧ as.Nodup ∧ ∀ a ∈ as, H0 a = none := by
  obtain ⟨fa, a1, rows, a3, nd⟩ := X.ob
  have kp : ∀ i a, fa[i]? = some a → t.getD (fa.idxOf a) [] = t.getD i [] := fun i a hi => by
    obtain ⟨h1, h2⟩ := List.getElem?_eq_some_iff.mp hi
    rw [← h2, nd.idxOf_getElem i h1]
  refine ⟨fa, fun a => t.getD (fa.idxOf a) [], a1, rows.len, fun a ha => ?_, ?_, nd, fun a ha => (a3 a ha).1⟩
  · obtain ⟨i, hi⟩ := List.getElem?_of_mem ha
    obtain ⟨a', r, h1, h2, h3⟩ := rows.get (i := i) (by rw [← rows.len]; exact (List.getElem?_eq_some_iff.mp hi).1)
    rw [hi] at h1
    cases h1
    show H a = some (.lst ((t.getD (fa.idxOf a) []).map V.int))
    rw [kp i a hi, getD_of h2]
    exact h3
  · refine List.ext_getElem? fun i => ?_
    rw [List.getElem?_map]
    by_cases q : i < fa.length
    · have h1 : fa[i]? = some fa[i] := List.getElem?_eq_getElem q
      have h2 : t[i]? = some (t[i]'(by rw [← rows.len]; exact q)) := List.getElem?_eq_getElem _
      rw [h1, Option.map_some, h2]
      show some (t.getD (fa.idxOf fa[i]) []) = _
      rw [kp i _ h1, getD_of h2]
    · rw [List.getElem?_eq_none (by omega), List.getElem?_eq_none (by rw [← rows.len]; omega)]; rfl
/-- a new list of new lists, as a comprehension makes it -/
theorem TabN.made {H H' : Hp} {p : Addr} {as : List Addr} {t : List (List Int)} (hp : H p = none) (h : H' p = some (.lst (as.map V.ref))) (l : as.length = t.length)
    (o : ∀ (n : Nat) (a : Addr), as[n]? = some a → (∃ o, H' a = some o ∧ o = .lst ((t.getD n []).map V.int)) ∧ H a = none ∧ a ≠ p) (nd : as.Nodup) : TabN H H' p t :=
  ⟨hp, as, h, ⟨l, fun i z r h1 h2 => by
    obtain ⟨_, h3, rfl⟩ := (o i z h1).1
    rw [getD_of h2] at h3
    exact h3⟩, fun z hz => by
    obtain ⟨i, hi⟩ := List.getElem?_of_mem hz
    exact (o i z hi).2, nd⟩
theorem TabN.tab {H H' : Hp} {p : Addr} {t : List (List Int)} (X : TabN H H' p t) : TabAt H' p t := by
  obtain ⟨as, h1, h2, _, _⟩ := X.ob
  exact ⟨as, h1, h2⟩
/-- the table that a comprehension in a comprehension makes -/
theorem tab_row {n : Nat} {f : Nat → Int} {r : List Int} (l : r.length = n) (h : ∀ i, i < n → r[i]? = some (f i)) : (List.range n).map (fun i => V.int (f i)) = r.map V.int := by
  rw [map_in]
  congr 1
  refine List.ext_getElem? fun i => ?_
  rw [List.getElem?_map]
  by_cases c : i < n
  · rw [List.getElem?_range c, h i c]; rfl
  · rw [List.getElem?_eq_none (by simp; omega), List.getElem?_eq_none (by omega)]; rfl
theorem comp_row {m z : List Int} : (List.range z.length).map (fun n => V.int (m.getD (z.getD n 0).toNat 0)) = (comp m z).map V.int := by
  refine tab_row (by unfold comp; rw [List.length_map]) fun i hi => ?_
  unfold comp
  rw [List.getElem?_map, List.getElem?_eq_getElem hi, getD_of (List.getElem?_eq_getElem hi)]; rfl
theorem tabOf_row {α : Type} [BEq α] {f : α → α → α} {l : List α} {p : α} {n : Nat} (h : l[n]? = some p) : (tabOf f l).getD n [] = l.map fun q => ((l.idxOf (f p q) : Nat) : Int) := getD_of (by unfold tabOf; rw [List.getElem?_map, h]; rfl)
end K08

set_option Elab.async false
set_option linter.all false
set_option maxRecDepth 100000
set_option maxHeartbeats 4000000
namespace K08
open PySem L2 Rd GT
local macro_rules | `(tactic| walk_at "st1") => `(tactic| first | with_reducible refine' Rd.Stp.go ?_ | with_reducible refine' Rd.seq ?_)
local macro_rules | `(tactic| walk_at "st") => `(tactic| repeat (first | with_reducible refine' Rd.Stp.go ?_ | with_reducible refine' Rd.seq ?_ | ((with_reducible refine' Rd.nmR ?hr ?_); (case hr => repeat (first | exact Rd.SetR.zero | apply Rd.SetR.succ))) | ((with_reducible refine' Rd.var ?hv ?_); (case hv => rfl))))
local macro_rules | `(tactic| walk_at "sj") => `(tactic| repeat (first | with_reducible refine' Rd.Stp.go ?_ | with_reducible refine' Rd.seqA ?_ | with_reducible refine' Rd.seqD ?_ | with_reducible refine' Rd.seqF ?_ | with_reducible refine' Rd.seqW ?_ | ((with_reducible refine' Rd.nmR ?hr ?_); (case hr => repeat (first | exact Rd.SetR.zero | apply Rd.SetR.succ))) | ((with_reducible refine' Rd.var ?hv ?_); (case hv => rfl))))
local macro_rules | `(tactic| walk_at "sm") => `(tactic| first | exact Same.refl _ | assumption | (apply Rd.sm_tr; assumption; walk_at "sm") | fail)
local macro_rules | `(tactic| walk_at "fr") => `(tactic| with_reducible first
  | assumption
  | (apply Rd.fr_some; assumption; walk_at "fr") | (apply Rd.fr_tupN; assumption; walk_at "fr") | (apply Rd.fr_tupX; assumption; walk_at "fr")
  | (apply Rd.fr_grp; assumption; walk_at "fr") | (apply Rd.fr_rows; assumption; walk_at "fr") | (apply Rd.fr_rowL; assumption; walk_at "fr") | (apply Rd.fr_DD; assumption; walk_at "fr")
  | (apply Rd.fr_sqL; walk_at "fr") | fail)
/-! ### targets -/
abbrev tC (K : PySem.W.Frag) : Addr := He.ga K "Target"
abbrev eT (K : PySem.W.Frag) : Addr := He.ga K "InvalidTarget"
abbrev eV (K : PySem.W.Frag) : Addr := He.ga K "InvalidValue"
abbrev eI (K : PySem.W.Frag) : Addr := He.ga K "InvalidIndex"
def tfs (M Z : Addr) (n e : Int) : List (Str × V) := [("moduli", .ref M), ("order", .int n), ("exponent", .int e), ("zero", .ref Z)]
structure TgtAt (C : Addr) (H : Hp) (g : Addr) (ms : List Int) : Prop where
  ok : OkM ms
  le : pr ms ≤ 32
  ob : ∃ dx M Z, H g = some (.ins C dx (tfs M Z (pr ms : Nat) (lcF ms : Nat))) ∧ TupN H M (ms.map V.int) ∧ H Z = some (.tup (List.replicate ms.length (.int 0)))
section
variable {C : Addr} {H H' : Hp} {g b : Addr} {ms : List Int} {xs : List V}
theorem TgtAt.same (G : TgtAt C H g ms) (e : Same H H') : TgtAt C H' g ms := by
  obtain ⟨dx, M, Z, h1, h2, h3⟩ := G.ob
  exact ⟨G.ok, G.le, dx, M, Z, e _ _ h1, h2.same e, e _ _ h3⟩
theorem TgtAt.but (G : TgtAt C H g ms) (hb : H b = some (.lst xs)) (e : But b H H') : TgtAt C H' g ms := by
  obtain ⟨dx, M, Z, h1, h2, h3⟩ := G.ob
  exact ⟨G.ok, G.le, dx, M, Z, e _ _ (fun z => by rw [z, hb] at h1; cases h1) h1, h2.butL hb e, e _ _ (fun z => by rw [z, hb] at h3; cases h3) h3⟩
theorem TgtAt.few (G : TgtAt C H g ms) : ms.length ≤ 5 := by
  have o := G.ok
  have h := G.le
  clear G
  match ms, o, h with
  | [], _, _ => exact Nat.zero_le _
  | [_], _, _ => exact (by decide : 1 ≤ 5)
  | [_, _], _, _ => exact (by decide : 2 ≤ 5)
  | [_, _, _], _, _ => exact (by decide : 3 ≤ 5)
  | [_, _, _, _], _, _ => exact (by decide : 4 ≤ 5)
  | [_, _, _, _, _], _, _ => exact Nat.le_refl 5
  | a :: b :: c :: d :: e :: f :: r, o, h =>
    exfalso
    have two : ∀ x ∈ a :: b :: c :: d :: e :: f :: r, 2 ≤ x.toNat := fun x hx => by have := o x hx; omega
    have p := pr_pos (ms := r) fun x hx => o x (by simp [hx])
    have h' : a.toNat * (b.toNat * (c.toNat * (d.toNat * (e.toNat * (f.toNat * pr r))))) ≤ 32 := h
    have q1 : 2 * 1 ≤ f.toNat * pr r := Nat.mul_le_mul (two f (by simp)) p
    have q2 : 2 * 2 ≤ e.toNat * (f.toNat * pr r) := Nat.mul_le_mul (two e (by simp)) q1
    have q3 : 2 * 4 ≤ d.toNat * (e.toNat * (f.toNat * pr r)) := Nat.mul_le_mul (two d (by simp)) q2
    have q4 : 2 * 8 ≤ c.toNat * (d.toNat * (e.toNat * (f.toNat * pr r))) := Nat.mul_le_mul (two c (by simp)) q3
    have q5 : 2 * 16 ≤ b.toNat * (c.toNat * (d.toNat * (e.toNat * (f.toNat * pr r)))) := Nat.mul_le_mul (two b (by simp)) q4
    have q6 : 2 * 32 ≤ a.toNat * (b.toNat * (c.toNat * (d.toNat * (e.toNat * (f.toNat * pr r))))) := Nat.mul_le_mul (two a (by simp)) q5
    omega
end
theorem few_of {ms : List Int} (o : OkM ms) (h : pr ms ≤ 32) : ms.length ≤ 5 := by
  match ms, o, h with
  | [], _, _ => exact Nat.zero_le _
  | [_], _, _ => exact (by decide : 1 ≤ 5)
  | [_, _], _, _ => exact (by decide : 2 ≤ 5)
  | [_, _, _], _, _ => exact (by decide : 3 ≤ 5)
  | [_, _, _, _], _, _ => exact (by decide : 4 ≤ 5)
  | [_, _, _, _, _], _, _ => exact Nat.le_refl 5
  | a :: b :: c :: d :: e :: f :: r, o, h =>
    exfalso
    have two : ∀ x ∈ a :: b :: c :: d :: e :: f :: r, 2 ≤ x.toNat := fun x hx => by have := o x hx; omega
    have p := pr_pos (ms := r) fun x hx => o x (by simp [hx])
    have h' : a.toNat * (b.toNat * (c.toNat * (d.toNat * (e.toNat * (f.toNat * pr r))))) ≤ 32 := h
    have q1 : 2 * 1 ≤ f.toNat * pr r := Nat.mul_le_mul (two f (by simp)) p
    have q2 : 2 * 2 ≤ e.toNat * (f.toNat * pr r) := Nat.mul_le_mul (two e (by simp)) q1
    have q3 : 2 * 4 ≤ d.toNat * (e.toNat * (f.toNat * pr r)) := Nat.mul_le_mul (two d (by simp)) q2
    have q4 : 2 * 8 ≤ c.toNat * (d.toNat * (e.toNat * (f.toNat * pr r))) := Nat.mul_le_mul (two c (by simp)) q3
    have q5 : 2 * 16 ≤ b.toNat * (c.toNat * (d.toNat * (e.toNat * (f.toNat * pr r)))) := Nat.mul_le_mul (two b (by simp)) q4
    have q6 : 2 * 32 ≤ a.toNat * (b.toNat * (c.toNat * (d.toNat * (e.toNat * (f.toNat * pr r))))) := Nat.mul_le_mul (two a (by simp)) q5
    omega
theorem tk_moduli (M Z : Addr) (n e : Int) : (tfs M Z n e).lookup ("moduli" : Str) = some (.ref M) := lkHere
theorem tk_order (M Z : Addr) (n e : Int) : (tfs M Z n e).lookup ("order" : Str) = some (.int n) := (lkPast (by decide +kernel)).trans lkHere
theorem tk_exponent (M Z : Addr) (n e : Int) : (tfs M Z n e).lookup ("exponent" : Str) = some (.int e) := (lkPast (by decide +kernel)).trans ((lkPast (by decide +kernel)).trans lkHere)
theorem tk_zero (M Z : Addr) (n e : Int) : (tfs M Z n e).lookup ("zero" : Str) = some (.ref Z) := (lkPast (by decide +kernel)).trans ((lkPast (by decide +kernel)).trans ((lkPast (by decide +kernel)).trans lkHere))
theorem tk_no {m : Str} (h1 : (m == ("moduli" : Str)) = false) (h2 : (m == ("order" : Str)) = false) (h3 : (m == ("exponent" : Str)) = false) (h4 : (m == ("zero" : Str)) = false) (M Z : Addr) (n e : Int) : (tfs M Z n e).lookup m = none :=
  (lkPast h1).trans ((lkPast h2).trans ((lkPast h3).trans ((lkPast h4).trans rfl)))
theorem putF_new {k : Str} {v : V} : ∀ {l : List (Str × V)}, (∀ q ∈ l, ¬ (q.1 = k)) → putF k v l = l ++ [(k, v)]
  | [], _ => rfl
  | q :: l, h => by
    show (if q.1 = k then _ else q :: putF k v l) = _
    rw [if_neg (h q List.mem_cons_self), putF_new fun x hx => h x (List.mem_cons_of_mem _ hx)]; rfl
theorem tput1 (M : Addr) : putF "moduli" (.ref M) [] = ([("moduli", .ref M)] : List (Str × V)) := rfl
theorem tput2 (M : Addr) (n : Int) : putF "order" (.int n) [(("moduli" : Str), V.ref M)] = ([("moduli", .ref M), ("order", .int n)] : List (Str × V)) := putF_new fun q hq => by
  rw [List.mem_singleton.mp hq]; exact (by decide +kernel : ¬ (("moduli" : Str) = "order"))
theorem tput3 (M : Addr) (n e : Int) : putF "exponent" (.int e) [(("moduli" : Str), V.ref M), ("order", .int n)] = ([("moduli", .ref M), ("order", .int n), ("exponent", .int e)] : List (Str × V)) := putF_new fun q hq => by
  rcases List.mem_cons.mp hq with h | h
  · rw [h]; exact (by decide +kernel : ¬ (("moduli" : Str) = "exponent"))
  · rw [List.mem_singleton.mp h]; exact (by decide +kernel : ¬ (("order" : Str) = "exponent"))
theorem tput4 (M Z : Addr) (n e : Int) : putF "zero" (.ref Z) [(("moduli" : Str), V.ref M), ("order", .int n), ("exponent", .int e)] = tfs M Z n e := putF_new fun q hq => by
  rcases List.mem_cons.mp hq with h | h
  · rw [h]; exact (by decide +kernel : ¬ (("moduli" : Str) = "zero"))
  rcases List.mem_cons.mp h with h | h
  · rw [h]; exact (by decide +kernel : ¬ (("order" : Str) = "zero"))
  · rw [List.mem_singleton.mp h]; exact (by decide +kernel : ¬ (("exponent" : Str) = "zero"))
def BigOk (ms : List Int) : Prop := ∀ m ∈ ms, m.natAbs ≤ 2 ^ 140
def sp_tinit (K : PySem.W.Frag) : Sp := fun vs H Q E => ∃ (g dx a : Addr) (ms : List Int), vs = [.ref g, .ref a] ∧ H g = some (.ins (tC K) dx []) ∧ H a = some (.lst (ms.map V.int)) ∧ ms.length ≤ 64 ∧ BigOk ms ∧
  (¬ OkM ms → ∀ H', Same H H' → E (.ref (eT K)) none H') ∧ (OkM ms → 32 < pr ms → ∀ H', Same H H' → E (.ref (eL K)) none H') ∧
  (OkM ms → pr ms ≤ 32 → ∀ H', (∀ b o, b ≠ g → H b = some o → H' b = some o) → TgtAt (tC K) H' g ms → Q .non H')
theorem natLt {n : Nat} {k : Nat} (h : n ≤ 2 ^ k) (k2 : k < 9000) : (n : Int) < 2 ^ 9000 := by
  have : n < 2 ^ 9000 := Nat.lt_of_le_of_lt h (Nat.pow_lt_pow_right (by decide) k2)
  exact_mod_cast this
section
variable {P : Program} {w : World} {K : PySem.W.Frag} {mg : Str → Option Value} {base : Heap} {f : Addr} {fd : FuncData}
theorem sc_Target___init__ : FnScope ["self", "moduli", "order", "exponent", "modulus"] ["self", "moduli"] (defScope s_Target___init__) := ⟨rfl, rfl, rfl, by decide +kernel, rfl, by decide +kernel, by decide +kernel⟩
theorem ok_tinit (F : FnP K "__init__" "Target.__init__" s_Target___init__ f fd) (T : Txt K mg) : FnOk P w K mg base (L2.CX P w) 1 f fd ["self", "moduli"] (sp_tinit K) := by
  refine F.ok sc_Target___init__ (fun vs H Q E h => ?_) (fun cdv A outer s H vs Q E hr h => ?_)
  · obtain ⟨_, _, _, _, rfl, _⟩ := h; rfl
  obtain ⟨g, dx, a, ms, rfl, hg, ha, z64, big, kT, kL, k⟩ := h
  obtain ⟨tL, g_LIMIT⟩ := T.LIMIT
  refine ⟨_, (pss_cons (ps_set (i := 2) sc_Target___init__.nd rfl (Or.inl rfl) pe_int)
  (pss_cons (ps_set (i := 3) sc_Target___init__.nd rfl (Or.inl rfl) pe_int)
  (pss_cons (ps_for (passes_of rfl) rfl (Rk.pl K rfl (pv 1)) (pg_name (i := 4) sc_Target___init__.nd rfl (Or.inl rfl))
  (pss_cons (ps_if (pt_cmpR op_lt (pv 4) pe_int (nomark _))
  (pss_one (ps_raise rfl (takes_of rfl rfl rfl rfl) (pmk_own PySem.F.excBase_ValueError T.ex_InvalidTarget.xP T.ex_InvalidTarget.gP T.ex_InvalidTarget.kP (raises_own T.ex_InvalidTarget.bP T.ex_InvalidTarget.tP) rfl)))
  pss_nil)
  (pss_cons (ps_set (i := 2) sc_Target___init__.nd rfl (Or.inl rfl) (pe_op op_mulW (pv 2) (pv 4)))
  (pss_one (ps_set (i := 3) sc_Target___init__.nd rfl (Or.inl rfl) (pe_callBfun Rz.cr_lcm rfl T.lcm (pa_cons (pv 3) (pa_cons (pv 4) pa_nil))))))))
  (pss_cons (ps_if (pt_cmpR op_gt (pv 2) (pe_glob (v := .int 32) rfl g_LIMIT ⟨_, rfl⟩) (nomark _))
  (pss_one (ps_raise rfl (takes_of rfl rfl rfl rfl) (pmk_own PySem.F.excBase_ValueError T.ex_LimitExceeded.xP T.ex_LimitExceeded.gP T.ex_LimitExceeded.kP (raises_own T.ex_LimitExceeded.bP T.ex_LimitExceeded.tP) rfl)))
  pss_nil)
  (pss_cons (ps_fld (pv 0) (pe_callTy (Rk.tup K) rfl T.tuple (by decide +kernel) (pa_cons (pv 1) pa_nil)) rfl)
  (pss_cons (ps_fld (pv 0) (pv 2) rfl)
  (pss_cons (ps_fld (pv 0) (pv 3) rfl)
  (pss_one (ps_fld (pv 0) (pe_op (Rk.repS K) (pe_tup (pa_cons pe_int pa_nil)) (pe_callB (Rk.len K) rfl T.len PySem.boot_len (pa_cons (pv 1) pa_nil))) rfl))))))))), ?_⟩
  have bigN : ∀ m ∈ ms, m.toNat ≤ 2 ^ 140 := fun m hm => Nat.le_trans (by omega) (big m hm)
  walk_at "st"
  refine Rd.itl' (SqL.of ha) ?_
  refine for_list (K := K) (a := a) (xs := ms.map V.int) (fun i σ H' => ∃ (v : Option V), σ = [some (.ref g), some (.ref a), some (.int (pr (ms.take i) : Nat)), some (.int (lcF (ms.take i) : Nat)), v] ∧ H' = H ∧ ∀ m ∈ ms.take i, 2 ≤ m)
    ⟨none, rfl, rfl, fun m hm => by rw [List.take_zero] at hm; cases hm⟩ (fun i σ H' _ ⟨_, _, e, _⟩ => e ▸ SqL.of ha) ?_ ?_
  · rintro i x σ H' hx ⟨v, rfl, rfl, ok⟩
    obtain ⟨m, hm, rfl⟩ := intAt hx
    have hi := (List.getElem?_eq_some_iff.mp hm).1
    have mm := List.mem_of_getElem? hm
    walk_at "st"
    refine Rd.ite_d (fun c => ?_) (fun c => ?_)
    · exact kT (fun o => by have := o m mm; omega) _ (Same.refl _)
    have pb := pr_bound bigN i (by omega)
    have lb := lcF_pr (ms := ms) i (by omega)
    have m0 : 0 ≤ m := by omega
    have mb : m < 2 ^ 200 := by
      have h1 := bigN m mm
      have h2 : (m.toNat : Int) < 2 ^ 200 := by
        have : m.toNat < 2 ^ 200 := Nat.lt_of_le_of_lt h1 (Nat.pow_lt_pow_right (by decide) (by decide))
        exact_mod_cast this
      omega
    have p9 : pr (ms.take i) < 2 ^ 9000 := Nat.lt_of_le_of_lt pb (Nat.pow_lt_pow_right (by decide) (by omega))
    have l9 : ((lcF (ms.take i) : Nat) : Int) < 2 ^ 9000 := natLt (Nat.le_trans lb pb) (by omega)
    walk_at "st"
    refine Rd.iC (wide_mul (a := 9000) (b := 200) (by rw [Int.natAbs_natCast]; exact p9) (Nat.lt_of_le_of_lt (big m mm) (Nat.pow_lt_pow_right (by decide) (by decide))) (by decide) (by decide) (by decide)) ?_
    walk_at "st"
    refine ⟨_, _, rfl, by omega, m0, l9, mb, ?_⟩
    walk_at "st"
    refine ⟨some (.int m), ?_, rfl, fun y hy => ?_⟩
    · rw [pr_take hm, lcF_take hm, Int.natCast_mul, Int.toNat_of_nonneg m0]; rfl
    · rw [List.take_add_one, hm] at hy
      rcases List.mem_append.mp hy with h | h
      · exact ok y h
      · rw [List.mem_singleton.mp h]; omega
  · rintro σ H' ⟨v, rfl, rfl, ok⟩
    rw [List.length_map, List.take_length] at ok
    rw [List.length_map, List.take_length]
    have okm : OkM ms := ok
    walk_at "st"
    refine Rd.ite_d (fun c => kL okm (by omega) _ (Same.refl _)) (fun c => ?_)
    have le : pr ms ≤ 32 := by omega
    have few := few_of okm le
    walk_at "st"
    refine ⟨a, _, rfl, .inl ⟨SqL.of ha, fun M oM hM hoM => ?_⟩⟩
    have e1 : Same H' (upd H' M (.frz oM (.tup (ms.map V.int)))) := Rd.same_mk hM
    have hT : TupN (upd H' M (.frz oM (.tup (ms.map V.int)))) M (ms.map V.int) := TupN.mk hoM
    have nMg : M ≠ g := fun z => by rw [z, hg] at hM; cases hM
    generalize upd H' M (.frz oM (.tup (ms.map V.int))) = H1 at e1 hT
    walk_at "st"
    refine ⟨g, tC K, dx, [], rfl, e1 _ _ hg, T.tcl, T.tM, by decide, ?_⟩
    rw [tput1]
    walk_at "st"
    refine ⟨g, tC K, dx, _, rfl, upd_same, T.tcl, T.tO, by show 1 < 1000; decide, ?_⟩
    rw [tput2]
    walk_at "st"
    refine ⟨g, tC K, dx, _, rfl, upd_same, T.tcl, T.tE, by show 2 < 1000; decide, ?_⟩
    rw [tput3]
    have hag : a ≠ g := fun z => by rw [z, hg] at ha; cases ha
    have ha2 : ∀ o1 o2 o3, (upd (upd (upd H1 g o1) g o2) g o3) a = some (.lst (ms.map V.int)) := fun o1 o2 o3 => by rw [upd_ne hag, upd_ne hag, upd_ne hag]; exact e1 _ _ ha
    have keep : ∀ o1 o2 o3 b o, b ≠ g → H' b = some o → (upd (upd (upd H1 g o1) g o2) g o3) b = some o := fun o1 o2 o3 b o n h => by rw [upd_ne n, upd_ne n, upd_ne n]; exact e1 _ _ h
    have hT2 : ∀ o1 o2 o3, TupN (upd (upd (upd H1 g o1) g o2) g o3) M (ms.map V.int) := fun o1 o2 o3 => ((hT.put nMg).put nMg).put nMg
    have hg2 : ∀ o1 o2 o3, (upd (upd (upd H1 g o1) g o2) g o3) g = some o3 := fun _ _ _ => upd_same
    generalize hH2 : upd (upd (upd H1 g _) g _) g _ = H2
    have ha2 := hH2 ▸ ha2 _ _ _
    have keep := fun b o => hH2 ▸ keep _ _ _ b o
    have hT2 := hH2 ▸ hT2 _ _ _
    have hg2 := hH2 ▸ hg2 _ _ _
    walk_at "st"
    refine ⟨(by decide : 1 ≤ sizeLine), fun l hl => ?_⟩
    have e3 : Same H2 (upd H2 l (.tup [.int 0])) := Rd.same_mk hl
    have hL : (upd H2 l (.tup [.int 0])) l = some (.tup [.int 0]) := upd_same
    generalize upd H2 l (.tup [.int 0]) = H3 at e3 hL
    walk_at "st"
    refine Rd.len1 (.inl (SqL.of (e3 _ _ ha2))) ?_
    rw [List.length_map]
    refine ⟨l, _, .int 0, rfl, rfl, SqT.of hL, by omega, by omega, fun h1 => ?_, fun h1 p hp => ?_⟩
    · have nlg : l ≠ g := fun z => by rw [z, hg2] at hl; cases hl
      walk_at "st"
      refine ⟨g, tC K, dx, _, rfl, e3 _ _ hg2, T.tcl, T.tZ, by show 3 < 1000; decide, ?_⟩
      rw [tput4]
      refine k okm le _ (fun b o n h => by rw [upd_ne n]; exact e3 _ _ (keep b o n h)) ⟨okm, le, dx, M, l, upd_same, (hT2.same e3).put nMg, ?_⟩
      rw [upd_ne nlg, hL, show ms.length = 1 by omega]; rfl
    · have e4 : Same H2 (upd H3 p (.tup (List.replicate (ms.length : Int).toNat (.int 0)))) := Rd.same_add e3 hp
      have hp2 : (upd H3 p (.tup (List.replicate (ms.length : Int).toNat (.int 0)))) p = some (.tup (List.replicate ms.length (.int 0))) := upd_same
      have npg : p ≠ g := fun z => by rw [z, e3 _ _ hg2] at hp; cases hp
      generalize upd H3 p (.tup (List.replicate (ms.length : Int).toNat (.int 0))) = H4 at e4 hp2
      walk_at "st"
      refine ⟨g, tC K, dx, _, rfl, e4 _ _ hg2, T.tcl, T.tZ, by show 3 < 1000; decide, ?_⟩
      rw [tput4]
      exact k okm le _ (fun b o n h => by rw [upd_ne n]; exact e4 _ _ (keep b o n h)) ⟨okm, le, dx, M, p, upd_same, (hT2.same e4).put nMg, by rw [upd_ne npg]; exact hp2⟩
end
end K08

set_option Elab.async false
set_option linter.all false
set_option maxRecDepth 100000
set_option maxHeartbeats 4000000
namespace K08
open PySem L2 Rd GT
local macro_rules | `(tactic| walk_at "st1") => `(tactic| first | with_reducible refine' Rd.Stp.go ?_ | with_reducible refine' Rd.seq ?_)
local macro_rules | `(tactic| walk_at "st") => `(tactic| repeat (first | with_reducible refine' Rd.Stp.go ?_ | with_reducible refine' Rd.seq ?_ | ((with_reducible refine' Rd.nmR ?hr ?_); (case hr => repeat (first | exact Rd.SetR.zero | apply Rd.SetR.succ))) | ((with_reducible refine' Rd.var ?hv ?_); (case hv => rfl))))
local macro_rules | `(tactic| walk_at "sj") => `(tactic| repeat (first | with_reducible refine' Rd.Stp.go ?_ | with_reducible refine' Rd.seqA ?_ | with_reducible refine' Rd.seqD ?_ | with_reducible refine' Rd.seqF ?_ | with_reducible refine' Rd.seqW ?_ | ((with_reducible refine' Rd.nmR ?hr ?_); (case hr => repeat (first | exact Rd.SetR.zero | apply Rd.SetR.succ))) | ((with_reducible refine' Rd.var ?hv ?_); (case hv => rfl))))
local macro_rules | `(tactic| walk_at "sm") => `(tactic| first | exact Same.refl _ | assumption | (apply Rd.sm_tr; assumption; walk_at "sm") | fail)
local macro_rules | `(tactic| walk_at "fr") => `(tactic| with_reducible first
  | assumption
  | (apply Rd.fr_some; assumption; walk_at "fr") | (apply Rd.fr_tupN; assumption; walk_at "fr") | (apply Rd.fr_tupX; assumption; walk_at "fr")
  | (apply Rd.fr_grp; assumption; walk_at "fr") | (apply Rd.fr_rows; assumption; walk_at "fr") | (apply Rd.fr_rowL; assumption; walk_at "fr") | (apply Rd.fr_DD; assumption; walk_at "fr")
  | (apply Rd.fr_sqL; walk_at "fr") | fail)
/-- what the law asks of the classes -/
structure Txt4 (K : PySem.W.Frag) (mg : Str → Option Value) : Prop where
  g_Group : mg "Group" = some (.ref (He.ga K "Group"))
  g_Target : mg "Target" = some (.ref (He.ga K "Target"))
  ha : PySem.W.findIn K (.ref (He.ga K "Group")) "__class__" = some (some (.builtin "object.__class__"))
  ta : PySem.W.findIn K (.ref (He.ga K "Target")) "__class__" = some (some (.builtin "object.__class__"))
  hn : PySem.W.specialIn K (.builtin "object.__class__") "__get__" = some (some (.builtin "getset_descriptor.__get__"))
  htk : PySem.W.takesIn K (.builtin "object.__class__") = some true
  hm : PySem.W.mroIn K (He.ga K "Group") (.type "object") = some true
  tm : PySem.W.mroIn K (He.ga K "Target") (.type "object") = some true
  kgg : PySem.W.kitOne K (.ref (He.ga K "Group")) (.ref (He.ga K "Group")) = some true
  ktt : PySem.W.kitOne K (.ref (He.ga K "Target")) (.ref (He.ga K "Target")) = some true
  kgt : PySem.W.kitOne K (.ref (He.ga K "Group")) (.ref (He.ga K "Target")) = some false
  ktg : PySem.W.kitOne K (.ref (He.ga K "Target")) (.ref (He.ga K "Group")) = some false
  tg : PySem.W.notFirst K (He.ga K "Target") (.ref (He.ga K "Group")) = true
  gt : PySem.W.notFirst K (He.ga K "Group") (.ref (He.ga K "Target")) = true
def TupP (H : Hp) (a : Addr) (xs : List V) : Prop := H a = some (.tup xs)
def sp_teq (K : PySem.W.Frag) : Sp := fun vs H Q _ => ∃ (a b : Addr) (ms : List Int), vs = [.ref a, .ref b] ∧ TgtAt (tC K) H a ms ∧ ((∃ ns, TgtAt (tC K) H b ns ∧ Q (.bl (decide (ms = ns))) H) ∨ (∃ t, GrpAt (gC K) H b t ∧ Q (.bl false) H))
def sp_geq (K : PySem.W.Frag) : Sp := fun vs H Q _ => ∃ (a b : Addr) (t : List (List Int)) (ms : List Int), vs = [.ref a, .ref b] ∧ GrpAt (gC K) H a t ∧ TgtAt (tC K) H b ms ∧ Q (.bl false) H
def sp_isv (K : PySem.W.Frag) : Sp := fun vs H Q _ => ∃ (g v : Addr) (ms w : List Int), vs = [.ref g, .ref v] ∧ TgtAt (tC K) H g ms ∧ TupX H v (w.map V.int) ∧ w.length ≤ 1000 ∧ ∀ (b : Bool) (H' : Hp), (b = true ↔ Val ms w) → Same H H' → Q (.bl b) H'
def sp_bin (K : PySem.W.Frag) (o : Int → Int → Int) : Sp := fun vs H Q _ => ∃ (g a b : Addr) (ms x y : List Int), vs = [.ref g, .ref a, .ref b] ∧ TgtAt (tC K) H g ms ∧ TupX H a (x.map V.int) ∧ TupX H b (y.map V.int) ∧ x.length = ms.length ∧ y.length = ms.length ∧ ∀ l H', H l = none → Same H H' → TupN H' l ((opV o ms x y).map V.int) → Q (.ref l) H'
def sp_times (K : PySem.W.Frag) : Sp := fun vs H Q _ => ∃ (g a : Addr) (c : Int) (ms x : List Int), vs = [.ref g, .int c, .ref a] ∧ TgtAt (tC K) H g ms ∧ TupX H a (x.map V.int) ∧ Val ms x ∧ ∀ l H', H l = none → Same H H' → TupN H' l ((opV (fun x _ => c * x) ms x x).map V.int) → Q (.ref l) H'
def sp_eq (K : PySem.W.Frag) : Sp := fun vs H Q _ => ∃ (a b : Addr) (t u : List (List Int)), vs = [.ref a, .ref b] ∧ GrpAt (gC K) H a t ∧ GrpAt (gC K) H b u ∧ Q (.bl (decide (t = u))) H
section
variable {P : Program} {w : World} {K : PySem.W.Frag} {mg : Str → Option Value} {base : Heap} {f : Addr} {fd : FuncData}
theorem sc_Target___eq__ : FnScope ["self", "other"] ["self", "other"] (defScope s_Target___eq__) := ⟨rfl, rfl, rfl, by decide +kernel, rfl, by decide +kernel, by decide +kernel⟩
theorem ok_teq (F : FnP K "__eq__" "Target.__eq__" s_Target___eq__ f fd) (T : Txt K mg) (T4 : Txt4 K mg) : FnOk P w K mg base CX0 1 f fd ["self", "other"] (sp_teq K) := by
  refine F.ok sc_Target___eq__ (fun vs H Q E h => ?_) (fun cdv A outer s H vs Q E hr h => ?_)
  · obtain ⟨_, _, _, rfl, _⟩ := h; rfl
  obtain ⟨a, b, ms, rfl, G, k⟩ := h
  obtain ⟨dx, M, Z, hg, hM, hZ⟩ := G.ob
  refine ⟨_, PSs.nox (pss_one (ps_ret (pe_and (pe_callB (Rk.isi K) rfl T.isinstance (by decide +kernel) (pa_cons (pv 1) (pa_cons (pe_glob (v := .ref (He.ga K "Target")) rfl T4.g_Target rfl) pa_nil))) (pe_one (pe_cmpR (Rk.eqD K rfl (un64 hr)) (Rk.fld K rfl (pv 0) rfl) (Rk.fld K rfl (pv 1) rfl) (nomark _)))))), ?_⟩
  rcases k with ⟨ns, G2, k⟩ | ⟨t, G2, k⟩
  · obtain ⟨dx2, M2, Z2, hg2, hM2, hZ2⟩ := G2.ob
    walk_at "st"
    refine ⟨.ref b, .ref (tC K), .ref (tC K), .ref (tC K), true, rfl, .own _, .base (.ins hg2 T.tcl T4.ta T4.hn T4.htk T4.tm), T4.ktt, ?_⟩
    walk_at "st"
    refine (if_pos rfl).mpr ?_
    walk_at "st"
    refine Rd.fld' hg T.tcl T.tM (tk_moduli _ _ _ _) ?_
    walk_at "st"
    refine Rd.fld' hg2 T.tcl T.tM (tk_moduli _ _ _ _) ?_
    exact Rd.eqTT hM.sq hM2.sq k
  · obtain ⟨dx2, R2, I2, rs2, hg2, _, _, _⟩ := G2.ob
    walk_at "st"
    refine ⟨.ref b, .ref (tC K), .ref (gC K), .ref (tC K), false, rfl, .own _, .base (.ins hg2 T.cl T4.ha T4.hn T4.htk T4.hm), T4.kgt, ?_⟩
    walk_at "st"
    refine (if_neg Bool.false_ne_true).mpr ?_
    exact k
theorem sc_Group___eq__ : FnScope ["self", "other"] ["self", "other"] (defScope s_Group___eq__) := ⟨rfl, rfl, rfl, by decide +kernel, rfl, by decide +kernel, by decide +kernel⟩
theorem ok_eq (F : FnP K "__eq__" "Group.__eq__" s_Group___eq__ f fd) (T : Txt K mg) (T4 : Txt4 K mg) : FnOk P w K mg base CX0 1 f fd ["self", "other"] (sp_eq K) := by
  refine F.ok sc_Group___eq__ (fun vs H Q E h => ?_) (fun cdv A outer s H vs Q E hr h => ?_)
  · obtain ⟨_, _, _, _, rfl, _⟩ := h; rfl
  obtain ⟨a, b, t, u, rfl, G, G2, k⟩ := h
  obtain ⟨dx, R, I, rs, hg, hR, hr_, hI⟩ := G.ob
  obtain ⟨dx2, R2, I2, rs2, hg2, hR2, hr2, hI2⟩ := G2.ob
  refine ⟨_, PSs.nox (pss_one (ps_ret (pe_and (pe_callB (Rk.isi K) rfl T.isinstance (by decide +kernel) (pa_cons (pv 1) (pa_cons (pe_glob (v := .ref (He.ga K "Group")) rfl T4.g_Group rfl) pa_nil))) (pe_one (pe_cmpR (Rk.eqD K rfl (un64 hr)) (Rk.fld K rfl (pv 0) rfl) (Rk.fld K rfl (pv 1) rfl) (nomark _)))))), ?_⟩
  walk_at "st"
  refine ⟨.ref b, .ref (gC K), .ref (gC K), .ref (gC K), true, rfl, ?_, .base (.ins hg2 T.cl T4.ha T4.hn T4.htk T4.hm), T4.kgg, ?_⟩
  · exact .own _
  walk_at "st"
  refine (if_pos rfl).mpr ?_
  walk_at "st"
  refine Rd.fld' hg T.cl T.nR (lk_rows _ _ _) ?_
  walk_at "st"
  refine Rd.fld' hg2 T.cl T.nR (lk_rows _ _ _) ?_
  exact eqTab hR hr_ hR2 hr2 k
theorem sc_Target_is_value : FnScope ["self", "value", "entry", "modulus"] ["self", "value"] (defScope s_Target_is_value) := ⟨rfl, rfl, rfl, by decide +kernel, rfl, by decide +kernel, by decide +kernel⟩
theorem ok_isv (F : FnP K "is_value" "Target.is_value" s_Target_is_value f fd) (T : Txt K mg) : FnOk P w K mg base CX0 1 f fd ["self", "value"] (sp_isv K) := by
  refine F.ok sc_Target_is_value (fun vs H Q E h => ?_) (fun cdv A outer s H vs Q E hr h => ?_)
  · obtain ⟨_, _, _, _, rfl, _⟩ := h; rfl
  obtain ⟨g, v, ms, w, rfl, G, hv, z, k⟩ := h
  obtain ⟨dx, M, Z, hg, hM, hZ⟩ := G.ob
  have few := G.few
  refine ⟨_, PSs.nox (pss_cons (ps_if (pt_cmpR op_ne (pe_callB (Rk.len K) rfl T.len PySem.boot_len (pa_cons (pv 1) pa_nil)) (pe_callB (Rk.len K) rfl T.len PySem.boot_len (pa_cons (Rk.fld K rfl (pv 0) rfl) pa_nil)) (nomark _))
  (pss_one (ps_ret pe_bl))
  pss_nil)
  (pss_one (ps_ret (pe_callB (Rk.all K rfl rfl) rfl T.all (by decide +kernel) (pa_cons (pe_lc (own := [("entry", 2), ("modulus", 3)]) rfl sc_Target_is_value.nd (Rk.zip2 K rfl rfl T.zip (pa_cons (pv 1) (pa_cons (Rk.fld K rfl (pv 0) rfl) pa_nil))) (blkOk_by (own := [("entry", 2), ("modulus", 3)]) (N := ["self", "value", "entry", "modulus"]) (sc := defScope s_Target_is_value) (by decide +kernel)) (fun _ _ _ _ _ => (Rk.gtup K rfl rfl (pgs_cons (pg_name (i := 2) sc_Target_is_value.nd rfl (Or.inl rfl)) (pgs_cons (pg_name (i := 3) sc_Target_is_value.nd rfl (Or.inl rfl)) pgs_nil)) (n := 2))) (fun _ _ _ _ _ => pts_nil) (fun _ _ _ _ _ => (pe_chain op_le op_lt pe_int (pv 2) (pv 3)))) pa_nil))))), ?_⟩
  walk_at "st"
  refine Rd.len1 (.inr hv.sq) ?_
  walk_at "st"
  refine Rd.fld' hg T.tcl T.tM (tk_moduli _ _ _ _) ?_
  refine Rd.len1 (.inr hM.sq) ?_
  rw [List.length_map, List.length_map]
  walk_at "st"
  refine Rd.ite_n (fun c => ?_) (fun c => ?_)
  · walk_at "st"
    refine k false H ?_ (Same.refl _)
    simp
    intro h
    have := h.len
    omega
  have l : w.length = ms.length := by omega
  walk_at "st"
  refine Rd.fld' hg T.tcl T.tM (tk_moduli _ _ _ _) ?_
  refine ⟨v, M, .T, .T, w.map V.int, ms.map V.int, rfl, hv.sq, hM.sq, ?_⟩
  have ll : (ms.map V.int).length = (w.map V.int).length := by rw [List.length_map, List.length_map]; omega
  refine Rz.lcMapG (n := (w.map V.int).length) (fun i => .bl (decide (0 ≤ w.getD i 0) && decide (w.getD i 0 < ms.getD i 0))) (Rz.go2 (k1 := .T) (k2 := .T) hv.sq hM.sq ll) (Rz.stop2 (k1 := .T) (k2 := .T) hv.sq hM.sq ll) (by rw [List.length_map]; omega) (fun i v' H1 H2 Q1 hi e y q1 => ?_) (fun p H1 hp e h5 => ?_) (fun v σ H P P' h q => Rz.gm2 v σ H P P' h q)
  · obtain ⟨TT, x, y', rfl, hx, hy, hT, s2⟩ := Rz.yld2 (k1 := .T) (k2 := .T) hv.sq hM.sq e y
    obtain ⟨x, hx2, rfl⟩ := intAt hx
    obtain ⟨m, hm, rfl⟩ := intAt hy
    replace hx := hx2
    rw [getD_of hx, getD_of hm] at q1
    refine Rd.gtup2 (SqT.of hT) ⟨by rfl, ?_⟩
    walk_at "st"
    refine Rd.ite_d (fun c1 => ?_) (fun c1 => ?_)
    · walk_at "st"
      rw [decide_eq_true c1, Bool.true_and] at q1
      exact q1 _ s2
    · rw [decide_eq_false c1, Bool.false_and] at q1
      exact q1 _ s2
  · walk_at "st"
    refine ⟨p, _, rfl, SqL.of (by rw [h5, map_bl]), ?_⟩
    refine k _ _ ?_ e
    rw [all_id, List.length_map, val_iff]
    constructor
    · intro h
      refine ⟨l, fun j x m hx hm => ?_⟩
      have := h j (List.getElem?_eq_some_iff.mp hx).1
      rw [getD_of hx, getD_of hm, Bool.and_eq_true] at this
      exact ⟨of_decide_eq_true this.1, of_decide_eq_true this.2⟩
    · rintro ⟨_, h⟩ j hj
      have hx : w[j]? = some w[j] := List.getElem?_eq_getElem hj
      have hm : ms[j]? = some (ms[j]'(by omega)) := List.getElem?_eq_getElem (by omega)
      obtain ⟨q1, q2⟩ := h j _ _ hx hm
      rw [getD_of hx, getD_of hm, decide_eq_true q1, decide_eq_true q2]; rfl
theorem sc_Target_plus : FnScope ["self", "left", "right", "a", "b", "modulus"] ["self", "left", "right"] (defScope s_Target_plus) := ⟨rfl, rfl, rfl, by decide +kernel, rfl, by decide +kernel, by decide +kernel⟩
theorem ok_plus (F : FnP K "plus" "Target.plus" s_Target_plus f fd) (T : Txt K mg) : FnOk P w K mg base CX0 1 f fd ["self", "left", "right"] (sp_bin K (fun x y => x + y)) := by
  refine F.ok sc_Target_plus (fun vs H Q E h => ?_) (fun cdv A outer s H vs Q E hr h => ?_)
  · obtain ⟨_, _, _, _, _, _, rfl, _⟩ := h; rfl
  obtain ⟨g, a, b, ms, x, y, rfl, G, ha, hb, la, lb, k⟩ := h
  obtain ⟨dx, M, Z, hg, hM, hZ⟩ := G.ob
  have few := G.few
  refine ⟨_, PSs.nox (pss_one (ps_ret (pe_callTy (Rk.tup K) rfl T.tuple (by decide +kernel) (pa_cons (pe_lc (own := [("a", 3), ("b", 4), ("modulus", 5)]) rfl sc_Target_plus.nd (Rk.zip3 K rfl rfl T.zip (pa_cons (pv 1) (pa_cons (pv 2) (pa_cons (Rk.fld K rfl (pv 0) rfl) pa_nil)))) (blkOk_by (own := [("a", 3), ("b", 4), ("modulus", 5)]) (N := ["self", "left", "right", "a", "b", "modulus"]) (sc := defScope s_Target_plus) (by decide +kernel)) (fun _ _ _ _ _ => (Rk.gtup K rfl rfl (pgs_cons (pg_name (i := 3) sc_Target_plus.nd rfl (Or.inl rfl)) (pgs_cons (pg_name (i := 4) sc_Target_plus.nd rfl (Or.inl rfl)) (pgs_cons (pg_name (i := 5) sc_Target_plus.nd rfl (Or.inl rfl)) pgs_nil))) (n := 3))) (fun _ _ _ _ _ => pts_nil) (fun _ _ _ _ _ => (pe_op op_mod (pe_op op_add (pv 3) (pv 4)) (pv 5)))) pa_nil)))), ?_⟩
  walk_at "st"
  refine Rd.fld' hg T.tcl T.tM (tk_moduli _ _ _ _) ?_
  refine ⟨a, b, M, .T, .T, .T, x.map V.int, y.map V.int, ms.map V.int, rfl, ha.sq, hb.sq, hM.sq, ?_⟩
  have l2 : (y.map V.int).length = (x.map V.int).length := by rw [List.length_map, List.length_map]; omega
  have l3 : (ms.map V.int).length = (x.map V.int).length := by rw [List.length_map, List.length_map]; omega
  refine Rz.lcMapG (n := (x.map V.int).length) (fun i => .int ((x.getD i 0 + y.getD i 0) % ms.getD i 0)) (Rz.go3 (k1 := .T) (k2 := .T) (k3 := .T) ha.sq hb.sq hM.sq l2 l3) (Rz.stop3 (k1 := .T) (k2 := .T) (k3 := .T) ha.sq hb.sq hM.sq l2 l3) (by rw [List.length_map]; omega) (fun i v' H1 H2 Q1 hi e yy q1 => ?_) (fun p H1 hp e h5 => ?_) (fun v σ H P P' h q => Rz.gm3 v σ H P P' h q)
  · obtain ⟨TT, x', y', z', rfl, hx, hy, hz, hT, s2⟩ := Rz.yld3 (k1 := .T) (k2 := .T) (k3 := .T) ha.sq hb.sq hM.sq e yy
    obtain ⟨x', hx2, rfl⟩ := intAt hx
    obtain ⟨y', hy2, rfl⟩ := intAt hy
    obtain ⟨m, hm, rfl⟩ := intAt hz
    replace hx := hx2
    replace hy := hy2
    rw [getD_of hx, getD_of hy, getD_of hm] at q1
    have m2 := G.ok m (List.mem_of_getElem? hm)
    refine Rz.gtup3 (SqT.of hT) ⟨by rfl, ?_⟩
    walk_at "st"
    refine Rd.iC (by show 0 < m; omega) ?_
    exact q1 _ s2
  · walk_at "st"
    refine ⟨p, _, rfl, .inl ⟨SqL.of h5, fun l ob hl hob => ?_⟩⟩
    have q := TupN.mk (H := H1) (a := l) (xs := (List.range (x.map V.int).length).map fun i => V.int ((x.getD i 0 + y.getD i 0) % ms.getD i 0)) hob
    refine k l _ (Same.free e hl) (e.trans (Rd.same_mk hl)) ?_
    rw [List.length_map, la, map_in, opV_row (f := fun x y => x + y) la lb] at q ⊢
    exact q
theorem sc_Target_minus : FnScope ["self", "left", "right", "a", "b", "modulus"] ["self", "left", "right"] (defScope s_Target_minus) := ⟨rfl, rfl, rfl, by decide +kernel, rfl, by decide +kernel, by decide +kernel⟩
theorem ok_minus (F : FnP K "minus" "Target.minus" s_Target_minus f fd) (T : Txt K mg) : FnOk P w K mg base CX0 1 f fd ["self", "left", "right"] (sp_bin K (fun x y => x - y)) := by
  refine F.ok sc_Target_minus (fun vs H Q E h => ?_) (fun cdv A outer s H vs Q E hr h => ?_)
  · obtain ⟨_, _, _, _, _, _, rfl, _⟩ := h; rfl
  obtain ⟨g, a, b, ms, x, y, rfl, G, ha, hb, la, lb, k⟩ := h
  obtain ⟨dx, M, Z, hg, hM, hZ⟩ := G.ob
  have few := G.few
  refine ⟨_, PSs.nox (pss_one (ps_ret (pe_callTy (Rk.tup K) rfl T.tuple (by decide +kernel) (pa_cons (pe_lc (own := [("a", 3), ("b", 4), ("modulus", 5)]) rfl sc_Target_minus.nd (Rk.zip3 K rfl rfl T.zip (pa_cons (pv 1) (pa_cons (pv 2) (pa_cons (Rk.fld K rfl (pv 0) rfl) pa_nil)))) (blkOk_by (own := [("a", 3), ("b", 4), ("modulus", 5)]) (N := ["self", "left", "right", "a", "b", "modulus"]) (sc := defScope s_Target_minus) (by decide +kernel)) (fun _ _ _ _ _ => (Rk.gtup K rfl rfl (pgs_cons (pg_name (i := 3) sc_Target_minus.nd rfl (Or.inl rfl)) (pgs_cons (pg_name (i := 4) sc_Target_minus.nd rfl (Or.inl rfl)) (pgs_cons (pg_name (i := 5) sc_Target_minus.nd rfl (Or.inl rfl)) pgs_nil))) (n := 3))) (fun _ _ _ _ _ => pts_nil) (fun _ _ _ _ _ => (pe_op op_mod (pe_op op_sub (pv 3) (pv 4)) (pv 5)))) pa_nil)))), ?_⟩
  walk_at "st"
  refine Rd.fld' hg T.tcl T.tM (tk_moduli _ _ _ _) ?_
  refine ⟨a, b, M, .T, .T, .T, x.map V.int, y.map V.int, ms.map V.int, rfl, ha.sq, hb.sq, hM.sq, ?_⟩
  have l2 : (y.map V.int).length = (x.map V.int).length := by rw [List.length_map, List.length_map]; omega
  have l3 : (ms.map V.int).length = (x.map V.int).length := by rw [List.length_map, List.length_map]; omega
  refine Rz.lcMapG (n := (x.map V.int).length) (fun i => .int ((x.getD i 0 - y.getD i 0) % ms.getD i 0)) (Rz.go3 (k1 := .T) (k2 := .T) (k3 := .T) ha.sq hb.sq hM.sq l2 l3) (Rz.stop3 (k1 := .T) (k2 := .T) (k3 := .T) ha.sq hb.sq hM.sq l2 l3) (by rw [List.length_map]; omega) (fun i v' H1 H2 Q1 hi e yy q1 => ?_) (fun p H1 hp e h5 => ?_) (fun v σ H P P' h q => Rz.gm3 v σ H P P' h q)
  · obtain ⟨TT, x', y', z', rfl, hx, hy, hz, hT, s2⟩ := Rz.yld3 (k1 := .T) (k2 := .T) (k3 := .T) ha.sq hb.sq hM.sq e yy
    obtain ⟨x', hx2, rfl⟩ := intAt hx
    obtain ⟨y', hy2, rfl⟩ := intAt hy
    obtain ⟨m, hm, rfl⟩ := intAt hz
    replace hx := hx2
    replace hy := hy2
    rw [getD_of hx, getD_of hy, getD_of hm] at q1
    have m2 := G.ok m (List.mem_of_getElem? hm)
    refine Rz.gtup3 (SqT.of hT) ⟨by rfl, ?_⟩
    walk_at "st"
    refine Rd.iC (by show 0 < m; omega) ?_
    exact q1 _ s2
  · walk_at "st"
    refine ⟨p, _, rfl, .inl ⟨SqL.of h5, fun l ob hl hob => ?_⟩⟩
    have q := TupN.mk (H := H1) (a := l) (xs := (List.range (x.map V.int).length).map fun i => V.int ((x.getD i 0 - y.getD i 0) % ms.getD i 0)) hob
    refine k l _ (Same.free e hl) (e.trans (Rd.same_mk hl)) ?_
    rw [List.length_map, la, map_in, opV_row (f := fun x y => x - y) la lb] at q ⊢
    exact q
theorem sc_Target_times : FnScope ["self", "factor", "value", "entry", "modulus"] ["self", "factor", "value"] (defScope s_Target_times) := ⟨rfl, rfl, rfl, by decide +kernel, rfl, by decide +kernel, by decide +kernel⟩
theorem ok_times (F : FnP K "times" "Target.times" s_Target_times f fd) (T : Txt K mg) : FnOk P w K mg base CX0 1 f fd ["self", "factor", "value"] (sp_times K) := by
  refine F.ok sc_Target_times (fun vs H Q E h => ?_) (fun cdv A outer s H vs Q E hr h => ?_)
  · obtain ⟨_, _, _, _, _, rfl, _⟩ := h; rfl
  obtain ⟨g, a, c, ms, x, rfl, G, ha, hv, k⟩ := h
  obtain ⟨dx, M, Z, hg, hM, hZ⟩ := G.ob
  have few := G.few
  have la := hv.len
  have bnd := (val_iff.mp hv).2
  have m32 : ∀ m ∈ ms, m ≤ 32 := fun m hm => by
    obtain ⟨i, hi⟩ := List.getElem?_of_mem hm
    have h1 := pr_take hi
    have h2 := pr_take_le G.ok (i + 1)
    have h3 := pr_pos (ms := ms.take i) fun y hy => G.ok y (List.mem_of_mem_take hy)
    have h4 := G.le
    have h5 : 1 * m.toNat ≤ pr (ms.take i) * m.toNat := Nat.mul_le_mul_right _ h3
    omega
  refine ⟨_, PSs.nox (pss_one (ps_ret (pe_callTy (Rk.tup K) rfl T.tuple (by decide +kernel) (pa_cons (pe_lc (own := [("entry", 3), ("modulus", 4)]) rfl sc_Target_times.nd (Rk.zip2 K rfl rfl T.zip (pa_cons (pv 2) (pa_cons (Rk.fld K rfl (pv 0) rfl) pa_nil))) (blkOk_by (own := [("entry", 3), ("modulus", 4)]) (N := ["self", "factor", "value", "entry", "modulus"]) (sc := defScope s_Target_times) (by decide +kernel)) (fun _ _ _ _ _ => (Rk.gtup K rfl rfl (pgs_cons (pg_name (i := 3) sc_Target_times.nd rfl (Or.inl rfl)) (pgs_cons (pg_name (i := 4) sc_Target_times.nd rfl (Or.inl rfl)) pgs_nil)) (n := 2))) (fun _ _ _ _ _ => pts_nil) (fun _ _ _ _ _ => (pe_op op_mod (pe_op op_mul (pv 1) (pv 3)) (pv 4)))) pa_nil)))), ?_⟩
  walk_at "st"
  refine Rd.fld' hg T.tcl T.tM (tk_moduli _ _ _ _) ?_
  refine ⟨a, M, .T, .T, x.map V.int, ms.map V.int, rfl, ha.sq, hM.sq, ?_⟩
  have l2 : (ms.map V.int).length = (x.map V.int).length := by rw [List.length_map, List.length_map]; omega
  refine Rz.lcMapG (n := (x.map V.int).length) (fun i => .int (c * x.getD i 0 % ms.getD i 0)) (Rz.go2 (k1 := .T) (k2 := .T) ha.sq hM.sq l2) (Rz.stop2 (k1 := .T) (k2 := .T) ha.sq hM.sq l2) (by rw [List.length_map]; omega) (fun i v' H1 H2 Q1 hi e yy q1 => ?_) (fun p H1 hp e h5 => ?_) (fun v σ H P P' h q => Rz.gm2 v σ H P P' h q)
  · obtain ⟨TT, x', y', rfl, hx, hy, hT, s2⟩ := Rz.yld2 (k1 := .T) (k2 := .T) ha.sq hM.sq e yy
    obtain ⟨x', hx2, rfl⟩ := intAt hx
    obtain ⟨m, hm, rfl⟩ := intAt hy
    replace hx := hx2
    rw [getD_of hx, getD_of hm] at q1
    have m2 := G.ok m (List.mem_of_getElem? hm)
    have m3 := m32 m (List.mem_of_getElem? hm)
    obtain ⟨x0, x1⟩ := bnd i x' m hx hm
    refine Rd.gtup2 (SqT.of hT) ⟨by rfl, ?_⟩
    walk_at "st"
    refine Rd.iC (.inr ⟨by omega, by omega⟩) ?_
    walk_at "st"
    refine Rd.iC (by show 0 < m; omega) ?_
    exact q1 _ s2
  · walk_at "st"
    refine ⟨p, _, rfl, .inl ⟨SqL.of h5, fun l ob hl hob => ?_⟩⟩
    have q := TupN.mk (H := H1) (a := l) (xs := (List.range (x.map V.int).length).map fun i => V.int (c * x.getD i 0 % ms.getD i 0)) hob
    refine k l _ (Same.free e hl) (e.trans (Rd.same_mk hl)) ?_
    have z := opV_row (f := fun x _ => c * x) la la
    rw [List.length_map, la, map_in, z] at q ⊢
    exact q
end
end K08

set_option Elab.async false
set_option linter.all false
set_option maxRecDepth 100000
set_option maxHeartbeats 4000000
namespace K08
open PySem L2 Rd GT
local macro_rules | `(tactic| walk_at "st1") => `(tactic| first | with_reducible refine' Rd.Stp.go ?_ | with_reducible refine' Rd.seq ?_)
local macro_rules | `(tactic| walk_at "st") => `(tactic| repeat (first | with_reducible refine' Rd.Stp.go ?_ | with_reducible refine' Rd.seq ?_ | ((with_reducible refine' Rd.nmR ?hr ?_); (case hr => repeat (first | exact Rd.SetR.zero | apply Rd.SetR.succ))) | ((with_reducible refine' Rd.var ?hv ?_); (case hv => rfl))))
local macro_rules | `(tactic| walk_at "sj") => `(tactic| repeat (first | with_reducible refine' Rd.Stp.go ?_ | with_reducible refine' Rd.seqA ?_ | with_reducible refine' Rd.seqD ?_ | with_reducible refine' Rd.seqF ?_ | with_reducible refine' Rd.seqW ?_ | ((with_reducible refine' Rd.nmR ?hr ?_); (case hr => repeat (first | exact Rd.SetR.zero | apply Rd.SetR.succ))) | ((with_reducible refine' Rd.var ?hv ?_); (case hv => rfl))))
local macro_rules | `(tactic| walk_at "sm") => `(tactic| first | exact Same.refl _ | assumption | (apply Rd.sm_tr; assumption; walk_at "sm") | fail)
local macro_rules | `(tactic| walk_at "fr") => `(tactic| with_reducible first
  | assumption
  | (apply Rd.fr_some; assumption; walk_at "fr") | (apply Rd.fr_tupN; assumption; walk_at "fr") | (apply Rd.fr_tupX; assumption; walk_at "fr")
  | (apply Rd.fr_grp; assumption; walk_at "fr") | (apply Rd.fr_rows; assumption; walk_at "fr") | (apply Rd.fr_rowL; assumption; walk_at "fr") | (apply Rd.fr_DD; assumption; walk_at "fr")
  | (apply Rd.fr_sqL; walk_at "fr") | fail)
/-! ### maps of groups -/
abbrev mC (K : PySem.W.Frag) : Addr := He.ga K "GroupMap"
abbrev eVc (K : PySem.W.Frag) : Addr := He.ga K "InvalidVector"
abbrev eMm (K : PySem.W.Frag) : Addr := He.ga K "Mismatch"
def mfs (g y c : Addr) : List (Str × V) := [("group", .ref g), ("target", .ref y), ("images", .ref c)]
theorem Rows.sameX {H H' : Hp} {rs : List Addr} {vs : List (List Int)} (R : Rows TupX H rs vs) (e : Same H H') : Rows TupX H' rs vs := R.map fun _ _ _ h => h.same e
/-- values: the list of their tuples -/
structure ValsAt (H : Hp) (ms : List Int) (n : Nat) (rs : List Addr) (vs : List (List Int)) : Prop where
  len : vs.length = n
  rows : Rows TupX H rs vs
  ok : ∀ v ∈ vs, Val ms v
theorem ValsAt.same {H H' : Hp} {ms : List Int} {n : Nat} {rs : List Addr} {vs : List (List Int)} (X : ValsAt H ms n rs vs) (e : Same H H') : ValsAt H' ms n rs vs := ⟨X.len, Rows.sameX X.rows e, X.ok⟩
structure MapAt (K : PySem.W.Frag) (H : Hp) (f : Addr) (t : List (List Int)) (ms : List Int) (vs : List (List Int)) : Prop where
  ob : ∃ dx g y c rs, H f = some (.ins (mC K) dx (mfs g y c)) ∧ GrpAt (gC K) H g t ∧ TgtAt (tC K) H y ms ∧ TupN H c (rs.map V.ref) ∧ ValsAt H ms t.length rs vs
theorem fr_map {K : PySem.W.Frag} {H H' : Hp} {f : Addr} {t : List (List Int)} {ms : List Int} {vs : List (List Int)} (e : Same H H') (X : MapAt K H f t ms vs) : MapAt K H' f t ms vs := by
  obtain ⟨dx, g, y, c, rs, h1, h2, h3, h4, h5⟩ := X.ob
  exact ⟨dx, g, y, c, rs, e _ _ h1, h2.same e, h3.same e, h4.same e, h5.same e⟩
theorem fr_tgt {C : Addr} {H H' : Hp} {g : Addr} {ms : List Int} (e : Same H H') (X : TgtAt C H g ms) : TgtAt C H' g ms := X.same e
theorem fr_vals {H H' : Hp} {ms : List Int} {n : Nat} {rs : List Addr} {vs : List (List Int)} (e : Same H H') (X : ValsAt H ms n rs vs) : ValsAt H' ms n rs vs := X.same e
theorem mk_group (g y c : Addr) : (mfs g y c).lookup ("group" : Str) = some (.ref g) := lkHere
theorem mk_target (g y c : Addr) : (mfs g y c).lookup ("target" : Str) = some (.ref y) := (lkPast (by decide +kernel)).trans lkHere
theorem mk_images (g y c : Addr) : (mfs g y c).lookup ("images" : Str) = some (.ref c) := (lkPast (by decide +kernel)).trans ((lkPast (by decide +kernel)).trans lkHere)
theorem mk_no {m : Str} (h1 : (m == ("group" : Str)) = false) (h2 : (m == ("target" : Str)) = false) (h3 : (m == ("images" : Str)) = false) (g y c : Addr) : (mfs g y c).lookup m = none := (lkPast h1).trans ((lkPast h2).trans ((lkPast h3).trans rfl))
theorem mput1 (g : Addr) : putF "group" (.ref g) [] = ([("group", .ref g)] : List (Str × V)) := rfl
theorem mput2 (g y : Addr) : putF "target" (.ref y) [(("group" : Str), V.ref g)] = ([("group", .ref g), ("target", .ref y)] : List (Str × V)) := Rd.putF_new fun q hq => by
  rw [List.mem_singleton.mp hq]; exact (by decide +kernel : ¬ (("group" : Str) = "target"))
theorem mput3 (g y c : Addr) : putF "images" (.ref c) [(("group" : Str), V.ref g), ("target", .ref y)] = mfs g y c := Rd.putF_new fun q hq => by
  rcases List.mem_cons.mp hq with h | h
  · rw [h]; exact (by decide +kernel : ¬ (("group" : Str) = "images"))
  · rw [List.mem_singleton.mp h]; exact (by decide +kernel : ¬ (("target" : Str) = "images"))
/-- all but a new instance -/
theorem Keep.grp {C D : Addr} {H H' : Hp} {g s dx : Addr} {t : List (List Int)} (e : ∀ b o, b ≠ s → H b = some o → H' b = some o) (hs : H s = some (.ins D dx [])) (G : GrpAt C H g t) : GrpAt C H' g t := by
  obtain ⟨dg, R, I, rs, hg, hR, hrs, hI⟩ := G.ob
  have n0 : ∀ {a : Addr} {xs : List V}, TupN H a xs → a ≠ s := fun x z => x.fn (z ▸ hs)
  refine ⟨G.grp, G.le, dg, R, I, rs, e _ _ (fun z => by rw [z, hs] at hg; injection hg with hg; injection hg with _ _ hg; cases hg) hg, ?_, hrs.map fun a xs _ x => ?_, ?_⟩
  · obtain ⟨ob, h1, h2⟩ := id hR; exact ⟨ob, h1, e _ _ (n0 hR) h2⟩
  · obtain ⟨ob, h1, h2⟩ := id x; exact ⟨ob, h1, e _ _ (n0 x) h2⟩
  · obtain ⟨ob, h1, h2⟩ := id hI; exact ⟨ob, h1, e _ _ (n0 hI) h2⟩
theorem Keep.tgt {C D : Addr} {H H' : Hp} {g s dx : Addr} {ms : List Int} (e : ∀ b o, b ≠ s → H b = some o → H' b = some o) (hs : H s = some (.ins D dx [])) (G : TgtAt C H g ms) : TgtAt C H' g ms := by
  obtain ⟨dg, M, Z, hg, hM, hZ⟩ := G.ob
  refine ⟨G.ok, G.le, dg, M, Z, e _ _ (fun z => by rw [z, hs] at hg; injection hg with hg; injection hg with _ _ hg; cases hg) hg, ?_, e _ _ (fun z => by rw [z, hs] at hZ; cases hZ) hZ⟩
  obtain ⟨ob, h1, h2⟩ := id hM; exact ⟨ob, h1, e _ _ (fun z => hM.fn (z ▸ hs)) h2⟩
theorem Keep.tupX {D : Addr} {H H' : Hp} {a s dx : Addr} {xs : List V} (e : ∀ b o, b ≠ s → H b = some o → H' b = some o) (hs : H s = some (.ins D dx [])) (h : TupX H a xs) : TupX H' a xs := by
  rcases h with h | ⟨ob, h⟩
  · exact .inl (e _ _ (fun z => by rw [z, hs] at h; cases h) h)
  · exact .inr ⟨ob, e _ _ (fun z => by rw [z, hs] at h; cases h) h⟩
def sp_minit (K : PySem.W.Frag) : Sp := fun vs H Q E => ∃ (s dx g y a : Addr) (t : List (List Int)) (ms : List Int) (rs : List Addr) (us : List (List Int)), vs = [.ref s, .ref g, .ref y, .ref a] ∧ H s = some (.ins (mC K) dx []) ∧ GrpAt (gC K) H g t ∧ TgtAt (tC K) H y ms ∧ H a = some (.lst (rs.map V.ref)) ∧ Rows TupX H rs us ∧ (∀ v ∈ us, v.length ≤ 1000) ∧
  (¬ (us.length = t.length ∧ ∀ v ∈ us, Val ms v) → ∀ H', Same H H' → E (.ref (eV K)) none H') ∧ ((us.length = t.length ∧ ∀ v ∈ us, Val ms v) → ∀ H', (∀ b o, b ≠ s → H b = some o → H' b = some o) → MapAt K H' s t ms us → Q .non H')
section
variable {P : Program} {w : World} {K : PySem.W.Frag} {mg : Str → Option Value} {base : Heap} {f : Addr} {fd : FuncData}
theorem sc_GroupMap___init__ : FnScope ["self", "group", "target", "images", "image"] ["self", "group", "target", "images"] (defScope s_GroupMap___init__) := ⟨rfl, rfl, rfl, by decide +kernel, rfl, by decide +kernel, by decide +kernel⟩
theorem ok_minit (F : FnP K "__init__" "GroupMap.__init__" s_GroupMap___init__ f fd) (T : Txt K mg) (M_is_value : MOk P w K mg base CX0 (tC K) "is_value" 1 ["self", "value"] (sp_isv K)) : FnOk P w K mg base (L2.CX P w) 2 f fd ["self", "group", "target", "images"] (sp_minit K) := by
  refine F.ok sc_GroupMap___init__ (fun vs H Q E h => ?_) (fun cdv A outer s H vs Q E hr h => ?_)
  · obtain ⟨_, _, _, _, _, _, _, _, _, rfl, _⟩ := h; rfl
  obtain ⟨s', dx, g, y, a, t, ms, rs, us, rfl, hs, G, Y, ha, V0, V1, kE, k⟩ := h
  obtain ⟨dg, R, I, rg, hg, hR, hrs, hI⟩ := G.ob
  obtain ⟨dy, M, Z, hy, hM, hZ⟩ := Y.ob
  refine ⟨_, (pss_cons (ps_if (pt_cmpR op_ne (pe_callB (Rk.len K) rfl T.len PySem.boot_len (pa_cons (pv 3) pa_nil)) (Rk.fld K rfl (pv 1) rfl) (nomark _))
  (pss_one (ps_raise rfl (takes_of rfl rfl rfl rfl) (pmk_own PySem.F.excBase_ValueError T.ex_InvalidValue.xP T.ex_InvalidValue.gP T.ex_InvalidValue.kP (raises_own T.ex_InvalidValue.bP T.ex_InvalidValue.tP) rfl)))
  pss_nil)
  (pss_cons (ps_for (passes_of rfl) rfl (Rk.pl K rfl (pv 3)) (pg_name (i := 4) sc_GroupMap___init__.nd rfl (Or.inl rfl))
  (pss_one (ps_if (pt_not (pt_val (methX M_is_value (hr.mono (by decide)) (passN) (pv 2) (pa_cons (pv 4) pa_nil))))
  (pss_one (ps_raise rfl (takes_of rfl rfl rfl rfl) (pmk_own PySem.F.excBase_ValueError T.ex_InvalidValue.xP T.ex_InvalidValue.gP T.ex_InvalidValue.kP (raises_own T.ex_InvalidValue.bP T.ex_InvalidValue.tP) rfl)))
  pss_nil)))
  (pss_cons (ps_fld (pv 0) (pv 1) rfl)
  (pss_cons (ps_fld (pv 0) (pv 2) rfl)
  (pss_one (ps_fld (pv 0) (pe_callTy (Rk.tup K) rfl T.tuple (by decide +kernel) (pa_cons (pv 3) pa_nil)) rfl)))))), ?_⟩
  walk_at "st"
  refine Rd.len1 (.inl (SqL.of ha)) ?_
  walk_at "st"
  refine Rd.fld' hg T.cl T.nO (lk_order _ _ _) ?_
  walk_at "st"
  rw [List.length_map, V0.len]
  refine Rd.ite_n (fun c => kE (fun z => c (by rw [z.1])) _ (Same.refl _)) (fun c => ?_)
  have ul : us.length = t.length := by omega
  walk_at "st"
  refine Rd.itl' (SqL.of ha) ?_
  refine for_list (K := K) (a := a) (xs := rs.map V.ref) (fun i σ H' => ∃ (v : Option V), σ = [some (.ref s'), some (.ref g), some (.ref y), some (.ref a), v] ∧ Same H H' ∧ ∀ v ∈ us.take i, Val ms v)
    ⟨none, rfl, Same.refl _, fun v h => by rw [List.take_zero] at h; cases h⟩ (fun i σ H' _ ⟨_, _, e, _⟩ => SqL.of (e _ _ ha)) ?_ ?_
  · rintro i x σ H1 hx ⟨v, rfl, e1, i1⟩
    obtain ⟨ra, r, rfl, g1, g2, g3⟩ := V0.at hx
    have mr := List.mem_of_getElem? g2
    walk_at "st"
    refine ⟨y, dy, _, rfl, e1 _ _ hy, tk_no (by decide +kernel) (by decide +kernel) (by decide +kernel) (by decide +kernel) _ _ _ _, ?_⟩
    walk_at "st"
    refine ⟨y, ra, ms, r, rfl, Y.same e1, TupX.same g3 e1, V1 r mr, fun b H2 hb e2 => ?_⟩
    walk_at "st"
    refine Rd.ite_nb (fun c2 => kE (fun z => ?_) _ (e1.trans e2)) (fun c2 => ?_)
    · rw [hb.mpr (z.2 r mr)] at c2; cases c2
    have vr := hb.mp c2
    walk_at "st"
    refine ⟨_, rfl, e1.trans e2, fun z hz => ?_⟩
    rw [List.take_succ, g2] at hz
    rcases List.mem_append.mp hz with h | h
    · exact i1 z h
    · rw [List.mem_singleton.mp h]; exact vr
  rintro σ H1 ⟨v, rfl, e1, i1⟩
  rw [List.length_map, V0.len, List.take_length] at i1
  walk_at "st"
  refine ⟨s', mC K, dx, [], rfl, e1 _ _ hs, T.mcl, T.mG, by decide, ?_⟩
  rw [mput1]
  walk_at "st"
  refine ⟨s', mC K, dx, _, rfl, upd_same, T.mcl, T.mT, by show 1 < 1000; decide, ?_⟩
  rw [mput2]
  walk_at "st"
  have nas : a ≠ s' := fun z => by rw [z, hs] at ha; cases ha
  refine ⟨a, _, rfl, .inl ⟨SqL.of (by rw [upd_ne nas, upd_ne nas]; exact e1 _ _ ha), fun c oC hC hoC => ?_⟩⟩
  have ncs : c ≠ s' := fun z => by rw [z, upd_same] at hC; cases hC
  rw [upd_ne ncs, upd_ne ncs] at hC
  walk_at "st"
  refine ⟨s', mC K, dx, _, rfl, by rw [upd_ne ncs.symm]; exact upd_same, T.mcl, T.mI, by show 2 < 1000; decide, ?_⟩
  rw [mput3]
  have e2 : ∀ b o, b ≠ s' → H b = some o → (upd (upd (upd (upd H1 s' (.ins (mC K) dx [("group", .ref g)])) s' (.ins (mC K) dx [("group", .ref g), ("target", .ref y)])) c (.frz oC (.tup (rs.map V.ref)))) s' (.ins (mC K) dx (mfs g y c))) b = some o := fun b o n h => by
    rw [upd_ne n, upd_ne (fun z => by rw [z, Same.free e1 hC] at h; cases h), upd_ne n, upd_ne n]; exact e1 _ _ h
  exact k ⟨ul, i1⟩ _ e2 ⟨dx, g, y, c, rs, upd_same, Keep.grp e2 hs G, Keep.tgt e2 hs Y, (TupN.mk hoC).put ncs, ul, V0.map fun _ _ _ h => Keep.tupX e2 hs h, i1⟩
end
/-- a new map -/
theorem mkMap {K : PySem.W.Frag} {H : Hp} {E : XK} {Q : Addr → Hp → Prop} {g y p : Addr} {t : List (List Int)} {ms : List Int} {rs : List Addr} {us : List (List Int)} (G : GrpAt (gC K) H g t) (Y : TgtAt (tC K) H y ms) (h1 : H p = some (.lst (rs.map V.ref))) (V0 : ValsAt H ms t.length rs us) (k : ∀ s H', Same H H' → H s = none → MapAt K H' s t ms us → Q s H') :
    ∀ x dx, H x = none → H dx = none → dx ≠ x → sp_minit K (V.ref x :: ([V.ref g, V.ref y, V.ref p] ++ [])) (upd (upd H dx (.own x)) x (.ins (mC K) dx [])) (fun v H2 => v = .non ∧ Q x H2) E := by
  intro s dx hs hdx ndx
  have e2 : Same H (upd (upd H dx (.own s)) s (.ins (mC K) dx [])) := (Rd.same_mk hdx).trans (Rd.same_mk (by rw [upd_ne ndx.symm]; exact hs))
  have hgi : (upd (upd H dx (.own s)) s (.ins (mC K) dx [])) s = some (.ins (mC K) dx []) := upd_same
  generalize upd (upd H dx (.own s)) s (.ins (mC K) dx []) = H2 at e2 hgi
  exact ⟨s, dx, g, y, p, t, ms, rs, us, rfl, hgi, G.same e2, Y.same e2, e2 _ _ h1, (V0.same e2).rows, fun v hv => by have := (V0.ok v hv).len; have := Y.few; omega, fun no => absurd ⟨V0.len, V0.ok⟩ no, fun _ H3 e3 F => ⟨rfl, k s H3 (fun c u h => e3 c u (fun z => by rw [z, hs] at h; cases h) (e2 _ _ h)) hs F⟩⟩
end K08

set_option Elab.async false
set_option linter.all false
set_option maxRecDepth 100000
set_option maxHeartbeats 4000000
namespace K08
open PySem L2 Rd GT
local macro_rules | `(tactic| walk_at "st1") => `(tactic| first | with_reducible refine' Rd.Stp.go ?_ | with_reducible refine' Rd.seq ?_)
local macro_rules | `(tactic| walk_at "st") => `(tactic| repeat (first | with_reducible refine' Rd.Stp.go ?_ | with_reducible refine' Rd.seq ?_ | ((with_reducible refine' Rd.nmR ?hr ?_); (case hr => repeat (first | exact Rd.SetR.zero | apply Rd.SetR.succ))) | ((with_reducible refine' Rd.var ?hv ?_); (case hv => rfl))))
local macro_rules | `(tactic| walk_at "sj") => `(tactic| repeat (first | with_reducible refine' Rd.Stp.go ?_ | with_reducible refine' Rd.seqA ?_ | with_reducible refine' Rd.seqD ?_ | with_reducible refine' Rd.seqF ?_ | with_reducible refine' Rd.seqW ?_ | ((with_reducible refine' Rd.nmR ?hr ?_); (case hr => repeat (first | exact Rd.SetR.zero | apply Rd.SetR.succ))) | ((with_reducible refine' Rd.var ?hv ?_); (case hv => rfl))))
local macro_rules | `(tactic| walk_at "sm") => `(tactic| first | exact Same.refl _ | assumption | (apply Rd.sm_tr; assumption; walk_at "sm") | fail)
local macro_rules | `(tactic| walk_at "fr") => `(tactic| with_reducible first
  | assumption
  | (apply Rd.fr_some; assumption; walk_at "fr") | (apply Rd.fr_tupN; assumption; walk_at "fr") | (apply Rd.fr_tupX; assumption; walk_at "fr")
  | (apply Rd.fr_grp; assumption; walk_at "fr") | (apply Rd.fr_rows; assumption; walk_at "fr") | (apply Rd.fr_rowL; assumption; walk_at "fr") | (apply Rd.fr_DD; assumption; walk_at "fr")
  | (apply Rd.fr_sqL; walk_at "fr") | fail)
/-! ### differences, left differences, translates, values -/
def vv (vs : List (List Int)) (i : Nat) : List Int := vs.getD i []
def opM (o : Int → Int → Int) (ms : List Int) (us vs : List (List Int)) : List (List Int) := (List.range us.length).map fun i => opV o ms (vv us i) (vv vs i)
def arM (us : List (List Int)) (ps : List Int) : List (List Int) := (List.range ps.length).map fun i => vv us (ps.getD i 0).toNat
theorem vv_of {vs : List (List Int)} {i : Nat} {r : List Int} (h : vs[i]? = some r) : vv vs i = r := getD_of h
theorem tX {H : Hp} {a : Addr} {xs : List V} (h : TupN H a xs) : TupX H a xs := by
  obtain ⟨ob, _, h⟩ := h; exact .inr ⟨ob, h⟩
theorem vv_mem {vs : List (List Int)} {i : Nat} (h : i < vs.length) : vv vs i ∈ vs := by
  rw [vv_of (List.getElem?_eq_getElem h)]; exact List.getElem_mem h
theorem opM_ok {o : Int → Int → Int} {ms : List Int} {us vs : List (List Int)} (om : OkM ms) (l : vs.length = us.length) (hu : ∀ v ∈ us, Val ms v) (hv : ∀ v ∈ vs, Val ms v) : ∀ v ∈ opM o ms us vs, Val ms v := by
  intro v h
  obtain ⟨i, hi, rfl⟩ := List.mem_map.mp h
  rw [List.mem_range] at hi
  exact opV_val o om (hu _ (vv_mem hi)).len (hv _ (vv_mem (by omega))).len
theorem opM_len (o : Int → Int → Int) (ms : List Int) (us vs : List (List Int)) : (opM o ms us vs).length = us.length := by
  unfold opM; rw [List.length_map, List.length_range]
theorem arM_len (us : List (List Int)) (ps : List Int) : (arM us ps).length = ps.length := by
  unfold arM; rw [List.length_map, List.length_range]
theorem arM_ok {ms : List Int} {us : List (List Int)} {ps : List Int} (hu : ∀ v ∈ us, Val ms v) (hp : ∀ p ∈ ps, 0 ≤ p ∧ p < (us.length : Int)) : ∀ v ∈ arM us ps, Val ms v := by
  intro v h
  obtain ⟨i, hi, rfl⟩ := List.mem_map.mp h
  rw [List.mem_range] at hi
  have m := hp _ (List.getElem_mem hi)
  rw [getD_of (List.getElem?_eq_getElem hi)]
  exact hu _ (vv_mem (by omega))
def sp_msame (K : PySem.W.Frag) : Sp := fun xs H Q _ => ∃ (f g : Addr) (t : List (List Int)) (ms : List Int) (us vs : List (List Int)), xs = [.ref f, .ref g] ∧ MapAt K H f t ms us ∧ MapAt K H g t ms vs ∧ Q .non H
def sp_mbin (K : PySem.W.Frag) (o : Int → Int → Int) : Sp := fun xs H Q _ => ∃ (f g : Addr) (t : List (List Int)) (ms : List Int) (us vs : List (List Int)), xs = [.ref f, .ref g] ∧ MapAt K H f t ms us ∧ MapAt K H g t ms vs ∧ ∀ s H', Same H H' → MapAt K H' s t ms (opM o ms us vs) → Q (.ref s) H'
/-- places: a list or a tuple -/
def sp_arr (K : PySem.W.Frag) : Sp := fun xs H Q _ => ∃ (f p : Addr) (t : List (List Int)) (ms ps : List Int) (us : List (List Int)), xs = [.ref f, .ref p] ∧ MapAt K H f t ms us ∧ (SqL K H p (ps.map V.int) ∨ SqT K H p (ps.map V.int)) ∧ ps.length = t.length ∧ (∀ x ∈ ps, 0 ≤ x ∧ x < (t.length : Int)) ∧ ∀ s H', Same H H' → MapAt K H' s t ms (arM us ps) → Q (.ref s) H'
section
variable {P : Program} {w : World} {K : PySem.W.Frag} {mg : Str → Option Value} {base : Heap} {f : Addr} {fd : FuncData}
theorem sc_GroupMap__require_same : FnScope ["self", "other"] ["self", "other"] (defScope s_GroupMap__require_same) := ⟨rfl, rfl, rfl, by decide +kernel, rfl, by decide +kernel, by decide +kernel⟩
theorem ok_msame (F : FnP K "_require_same" "GroupMap._require_same" s_GroupMap__require_same f fd) (T : Txt K mg) (M_Group_eq : EqOk P w K mg base CX0 (gC K) 1 ["self", "other"] (sp_eq K)) (M_Target_eq : EqOk P w K mg base CX0 (tC K) 1 ["self", "other"] (sp_teq K)) : FnOk P w K mg base (L2.CX P w) 3 f fd ["self", "other"] (sp_msame K) := by
  refine F.ok sc_GroupMap__require_same (fun vs H Q E h => ?_) (fun cdv A outer s H vs Q E hr h => ?_)
  · obtain ⟨_, _, _, _, _, _, rfl, _⟩ := h; rfl
  obtain ⟨a, b, t, ms, us, vs, rfl, X, Y, k⟩ := h
  obtain ⟨dx, g, y, c, rs, h1, G, U, _, _⟩ := X.ob
  obtain ⟨dx2, g2, y2, c2, rs2, h2, G2, U2, _, _⟩ := Y.ob
  obtain ⟨dg, _, _, _, hg, _⟩ := G.ob
  obtain ⟨dg2, _, _, _, hg2, _⟩ := G2.ob
  obtain ⟨dy, _, _, hy, _⟩ := U.ob
  obtain ⟨dy2, _, _, hy2, _⟩ := U2.ob
  refine ⟨_, (pss_cons (ps_if (pt_cmpR (op_insNe M_Group_eq T.ne_Group T.mo_Group (hr.mono (by decide)) passN) (Rk.fld K rfl (pv 0) rfl) (Rk.fld K rfl (pv 1) rfl) (nomark _))
  (pss_one (ps_raise rfl (takes_of rfl rfl rfl rfl) (pmk_own PySem.F.excBase_ValueError T.ex_Mismatch.xP T.ex_Mismatch.gP T.ex_Mismatch.kP (raises_own T.ex_Mismatch.bP T.ex_Mismatch.tP) rfl)))
  pss_nil)
  (pss_one (ps_if (pt_cmpR (op_insNe M_Target_eq T.ne_Target T.mo_Target (hr.mono (by decide)) passN) (Rk.fld K rfl (pv 0) rfl) (Rk.fld K rfl (pv 1) rfl) (nomark _))
  (pss_one (ps_raise rfl (takes_of rfl rfl rfl rfl) (pmk_own PySem.F.excBase_ValueError T.ex_Mismatch.xP T.ex_Mismatch.gP T.ex_Mismatch.kP (raises_own T.ex_Mismatch.bP T.ex_Mismatch.tP) rfl)))
  pss_nil))), ?_⟩
  walk_at "st"
  refine Rd.fld' h1 T.mcl T.mG (mk_group _ _ _) ?_
  walk_at "st"
  refine Rd.fld' h2 T.mcl T.mG (mk_group _ _ _) ?_
  refine ⟨g, dg, _, g2, dg2, _, rfl, rfl, hg, hg2, g, g2, t, t, rfl, G, G2, _, rfl, ?_⟩
  walk_at "st"
  refine Rd.ite_n (fun c => absurd rfl c) (fun c => ?_)
  walk_at "st"
  refine Rd.fld' h1 T.mcl T.mT (mk_target _ _ _) ?_
  walk_at "st"
  refine Rd.fld' h2 T.mcl T.mT (mk_target _ _ _) ?_
  refine ⟨y, dy, _, y2, dy2, _, rfl, rfl, hy, hy2, y, y2, ms, rfl, U, .inl ⟨ms, U2, _, rfl, ?_⟩⟩
  walk_at "st"
  refine Rd.ite_n (fun c => absurd rfl c) (fun c => ?_)
  walk_at "st"
  exact k
theorem sc_GroupMap___add__ : FnScope ["self", "other", "images", "v", "w"] ["self", "other"] (defScope s_GroupMap___add__) := ⟨rfl, rfl, rfl, by decide +kernel, rfl, by decide +kernel, by decide +kernel⟩
theorem ok_madd (F : FnP K "__add__" "GroupMap.__add__" s_GroupMap___add__ f fd) (T : Txt K mg) (M__require_same : MOk P w K mg base (L2.CX P w) (mC K) "_require_same" 3 ["self", "other"] (sp_msame K)) (M_plus : MOk P w K mg base CX0 (tC K) "plus" 1 ["self", "left", "right"] (sp_bin K (fun x y => x + y))) (D_GroupMap : KOk P w K mg base (L2.CX P w) "GroupMap" (mC K) 2 ["self", "group", "target", "images"] (sp_minit K)) : FnOk P w K mg base (L2.CX P w) 4 f fd ["self", "other"] (sp_mbin K (fun x y => x + y)) := by
  refine F.ok sc_GroupMap___add__ (fun vs H Q E h => ?_) (fun cdv A outer s H vs Q E hr h => ?_)
  · obtain ⟨_, _, _, _, _, _, rfl, _⟩ := h; rfl
  obtain ⟨a, b, t, ms, us, vs, rfl, X, Y, k⟩ := h
  obtain ⟨dx, g, y, c, rs, h1, G, U, C, V1⟩ := X.ob
  obtain ⟨dx2, g2, y2, c2, rs2, h2, G2, U2, C2, V2⟩ := Y.ob
  obtain ⟨dy, _, _, hy, _⟩ := U.ob
  have le := G.le
  have lu := V1.len
  have lv := V2.len
  refine ⟨_, (pss_cons (ps_expr (methX M__require_same (hr.mono (by decide)) (passX rfl rfl rfl rfl) (pv 0) (pa_cons (pv 1) pa_nil)))
  (pss_cons (ps_setLc (i := 2) (own := [("v", 3), ("w", 4)]) rfl sc_GroupMap___add__.nd rfl rfl (sw_true rfl rfl rfl (by decide +kernel)) (Rk.zip2 K rfl rfl T.zip (pa_cons (Rk.fld K rfl (pv 0) rfl) (pa_cons (Rk.fld K rfl (pv 1) rfl) pa_nil))) (blkOk_by (own := [("v", 3), ("w", 4)]) (N := ["self", "other", "images", "v", "w"]) (sc := defScope s_GroupMap___add__) (by decide +kernel)) (fun _ _ _ _ _ => (Rk.gtup K rfl rfl (pgs_cons (pg_name (i := 3) sc_GroupMap___add__.nd rfl (Or.inl rfl)) (pgs_cons (pg_name (i := 4) sc_GroupMap___add__.nd rfl (Or.inl rfl)) pgs_nil)) (n := 2))) (fun _ _ _ _ _ => pts_nil) (fun _ _ _ _ _ => (methX M_plus (hr.mono (by decide)) (passN) (Rk.fld K rfl (pv 0) rfl) (pa_cons (pv 3) (pa_cons (pv 4) pa_nil)))))
  (pss_one (ps_ret (makeX D_GroupMap (hr.mono (by decide)) (passX rfl rfl rfl rfl) (pa_cons (Rk.fld K rfl (pv 0) rfl) (pa_cons (Rk.fld K rfl (pv 0) rfl) (pa_cons (pv 2) pa_nil)))))))), ?_⟩
  walk_at "st"
  refine ⟨a, dx, _, rfl, h1, mk_no (by decide +kernel) (by decide +kernel) (by decide +kernel) _ _ _, ?_⟩
  walk_at "st"
  refine ⟨a, b, t, ms, us, vs, rfl, X, Y, ?_⟩
  walk_at "st"
  refine Rd.fld' h1 T.mcl T.mI (mk_images _ _ _) ?_
  walk_at "st"
  refine Rd.fld' h2 T.mcl T.mI (mk_images _ _ _) ?_
  walk_at "st"
  have q1 := C.sq (K := K)
  have q2 := C2.sq (K := K)
  have l1 : (rs.map V.ref).length = us.length := by rw [List.length_map, V1.rows.len]
  have l2 : (rs2.map V.ref).length = (rs.map V.ref).length := by rw [List.length_map, List.length_map, V1.rows.len, V2.rows.len, lu, lv]
  refine ⟨c, c2, .T, .T, _, _, rfl, q1, q2, ?_⟩
  refine Rd.lcTups (n := (rs.map V.ref).length) (fun i => opV (fun x y => x + y) ms (vv us i) (vv vs i)) (Rz.go2 (k1 := .T) (k2 := .T) q1 q2 l2) (Rz.stop2 (k1 := .T) (k2 := .T) q1 q2 l2) (by omega) (fun i v' H1 H2 Q1 hi e yy q => ?_) (fun p ra H1 hp e h5 R => ?_) (fun v σ H P P' h q => Rz.gm2 v σ H P P' h q)
  · obtain ⟨TT, x', y', rfl, hx, hy', hT, s2⟩ := Rz.yld2 (k1 := .T) (k2 := .T) q1 q2 e yy
    obtain ⟨ra, r, rfl, _, g2, g3⟩ := V1.rows.at hx
    obtain ⟨rb, r', rfl, _, g5, g6⟩ := V2.rows.at hy'
    rw [vv_of g2, vv_of g5] at q
    refine Rd.gtup2 (SqT.of hT) ⟨by rfl, ?_⟩
    have s4 := e.trans s2
    walk_at "st"
    refine Rd.fld' (s4 _ _ h1) T.mcl T.mT (mk_target _ _ _) ?_
    refine ⟨y, dy, _, rfl, s4 _ _ hy, tk_no (by decide +kernel) (by decide +kernel) (by decide +kernel) (by decide +kernel) _ _ _ _, ?_⟩
    walk_at "st"
    refine ⟨y, ra, rb, ms, r, r', rfl, U.same s4, TupX.same g3 s4, TupX.same g6 s4, (V1.ok r (List.mem_of_getElem? g2)).len, (V2.ok r' (List.mem_of_getElem? g5)).len, fun l H3 _ e3 ht => ?_⟩
    exact q l H3 (s2.trans e3) (tX ht)
  walk_at "st"
  refine Rd.fld' (e _ _ h1) T.mcl T.mG (mk_group _ _ _) ?_
  walk_at "st"
  refine Rd.fld' (e _ _ h1) T.mcl T.mT (mk_target _ _ _) ?_
  walk_at "st"
  rw [l1] at R
  refine mkMap (G.same e) (U.same e) h5 (us := opM (fun x y => x + y) ms us vs) ⟨by rw [opM_len, lu], R, opM_ok U.ok (by omega) V1.ok V2.ok⟩ fun s H3 e3 _ S => ?_
  exact k s _ (e.trans e3) S
end
end K08

set_option Elab.async false
set_option linter.all false
set_option maxRecDepth 100000
set_option maxHeartbeats 4000000
namespace K08
open PySem L2 Rd GT
local macro_rules | `(tactic| walk_at "st1") => `(tactic| first | with_reducible refine' Rd.Stp.go ?_ | with_reducible refine' Rd.seq ?_)
local macro_rules | `(tactic| walk_at "st") => `(tactic| repeat (first | with_reducible refine' Rd.Stp.go ?_ | with_reducible refine' Rd.seq ?_ | ((with_reducible refine' Rd.nmR ?hr ?_); (case hr => repeat (first | exact Rd.SetR.zero | apply Rd.SetR.succ))) | ((with_reducible refine' Rd.var ?hv ?_); (case hv => rfl))))
local macro_rules | `(tactic| walk_at "sj") => `(tactic| repeat (first | with_reducible refine' Rd.Stp.go ?_ | with_reducible refine' Rd.seqA ?_ | with_reducible refine' Rd.seqD ?_ | with_reducible refine' Rd.seqF ?_ | with_reducible refine' Rd.seqW ?_ | ((with_reducible refine' Rd.nmR ?hr ?_); (case hr => repeat (first | exact Rd.SetR.zero | apply Rd.SetR.succ))) | ((with_reducible refine' Rd.var ?hv ?_); (case hv => rfl))))
local macro_rules | `(tactic| walk_at "sm") => `(tactic| first | exact Same.refl _ | assumption | (apply Rd.sm_tr; assumption; walk_at "sm") | fail)
local macro_rules | `(tactic| walk_at "fr") => `(tactic| with_reducible first
  | assumption
  | (apply Rd.fr_some; assumption; walk_at "fr") | (apply Rd.fr_tupN; assumption; walk_at "fr") | (apply Rd.fr_tupX; assumption; walk_at "fr")
  | (apply Rd.fr_grp; assumption; walk_at "fr") | (apply Rd.fr_rows; assumption; walk_at "fr") | (apply Rd.fr_rowL; assumption; walk_at "fr") | (apply Rd.fr_DD; assumption; walk_at "fr")
  | (apply Rd.fr_sqL; walk_at "fr") | fail)
/-- times an integer -/
def tmM (ms : List Int) (c : Int) (us : List (List Int)) : List (List Int) := (List.range us.length).map fun i => opV (fun x _ => c * x) ms (vv us i) (vv us i)
theorem tmM_len (ms : List Int) (c : Int) (us : List (List Int)) : (tmM ms c us).length = us.length := by
  unfold tmM; rw [List.length_map, List.length_range]
theorem tmM_ok {ms : List Int} {c : Int} {us : List (List Int)} (om : OkM ms) (hu : ∀ v ∈ us, Val ms v) : ∀ v ∈ tmM ms c us, Val ms v := by
  intro v h
  obtain ⟨i, hi, rfl⟩ := List.mem_map.mp h
  rw [List.mem_range] at hi
  exact opV_val _ om (hu _ (vv_mem hi)).len (hu _ (vv_mem hi)).len
def sp_mmul (K : PySem.W.Frag) : Sp := fun xs H Q _ => ∃ (f : Addr) (c : Int) (t : List (List Int)) (ms : List Int) (us : List (List Int)), xs = [.ref f, .int c] ∧ MapAt K H f t ms us ∧ ∀ s H', Same H H' → MapAt K H' s t ms (tmM ms c us) → Q (.ref s) H'
/-- the value at a formal sum, step by step -/
def evN (ms : List Int) (cs : List Int) (us : List (List Int)) : Nat → List Int
  | 0 => List.replicate ms.length 0
  | i + 1 => opV (fun x y => x + y) ms (evN ms cs us i) (opV (fun x _ => cs.getD i 0 * x) ms (vv us i) (vv us i))
def evF (ms cs : List Int) (us : List (List Int)) : List Int := evN ms cs us us.length
def sp_meval (K : PySem.W.Frag) : Sp := fun xs H Q _ => ∃ (f p : Addr) (t : List (List Int)) (ms cs : List Int) (us : List (List Int)), xs = [.ref f, .ref p] ∧ MapAt K H f t ms us ∧ H p = some (.lst (cs.map V.int)) ∧ cs.length = t.length ∧ ∀ r H', Same H H' → TupX H' r ((evF ms cs us).map V.int) → Q (.ref r) H'
/-- column a, row a -/
def colL (t : List (List Int)) (a : Nat) : List Int := (List.range t.length).map fun x => at2 t x a
def rowL (t : List (List Int)) (a : Nat) : List Int := (List.range t.length).map fun x => at2 t a x
def sp_mmv (K : PySem.W.Frag) (F : List (List Int) → List Int → List (List Int) → Nat → List (List Int)) : Sp := fun xs H Q _ => ∃ (f : Addr) (t : List (List Int)) (ms : List Int) (us : List (List Int)) (a : Nat), xs = [.ref f, .int (a : Nat)] ∧ MapAt K H f t ms us ∧ a < t.length ∧ ∀ s H', Same H H' → MapAt K H' s t ms (F t ms us a) → Q (.ref s) H'
def trF (t : List (List Int)) (_ : List Int) (us : List (List Int)) (a : Nat) : List (List Int) := arM us (rowL t a)
def stF (t : List (List Int)) (ms : List Int) (us : List (List Int)) (a : Nat) : List (List Int) := opM (fun x y => x - y) ms (arM us (colL t a)) us
def lsF (t : List (List Int)) (ms : List Int) (us : List (List Int)) (a : Nat) : List (List Int) := opM (fun x y => x - y) ms (arM us (rowL t a)) us
theorem row_of {t : List (List Int)} (S : Sq t) {a : Nat} {r : List Int} (h : t[a]? = some r) : r = rowL t a := by
  have ha : a < t.length := (List.getElem?_eq_some_iff.mp h).1
  have rl := (S.row r (List.mem_of_getElem? h)).1
  refine List.ext_getElem? fun i => ?_
  by_cases hi : i < t.length
  · obtain ⟨_, _, r', w1, w2⟩ := S.at ha hi
    rw [h] at w1
    cases w1
    rw [w2]
    unfold rowL
    rw [List.getElem?_map, List.getElem?_range hi]; rfl
  · rw [List.getElem?_eq_none (by omega), List.getElem?_eq_none (by unfold rowL; rw [List.length_map, List.length_range]; omega)]
theorem rowL_len (t : List (List Int)) (a : Nat) : (rowL t a).length = t.length := by unfold rowL; rw [List.length_map, List.length_range]
theorem colL_len (t : List (List Int)) (a : Nat) : (colL t a).length = t.length := by unfold colL; rw [List.length_map, List.length_range]
theorem rowL_ok {t : List (List Int)} (S : Sq t) {a : Nat} (ha : a < t.length) : ∀ x ∈ rowL t a, 0 ≤ x ∧ x < (t.length : Int) := by
  intro x h
  obtain ⟨i, hi, rfl⟩ := List.mem_map.mp h
  rw [List.mem_range] at hi
  obtain ⟨h1, h2, _⟩ := S.at ha hi
  exact ⟨h1, h2⟩
theorem colL_ok {t : List (List Int)} (S : Sq t) {a : Nat} (ha : a < t.length) : ∀ x ∈ colL t a, 0 ≤ x ∧ x < (t.length : Int) := by
  intro x h
  obtain ⟨i, hi, rfl⟩ := List.mem_map.mp h
  rw [List.mem_range] at hi
  obtain ⟨h1, h2, _⟩ := S.at hi ha
  exact ⟨h1, h2⟩
section
variable {P : Program} {w : World} {K : PySem.W.Frag} {mg : Str → Option Value} {base : Heap} {f : Addr} {fd : FuncData}
theorem sc_GroupMap___sub__ : FnScope ["self", "other", "images", "v", "w"] ["self", "other"] (defScope s_GroupMap___sub__) := ⟨rfl, rfl, rfl, by decide +kernel, rfl, by decide +kernel, by decide +kernel⟩
theorem ok_msub (F : FnP K "__sub__" "GroupMap.__sub__" s_GroupMap___sub__ f fd) (T : Txt K mg) (M__require_same : MOk P w K mg base (L2.CX P w) (mC K) "_require_same" 3 ["self", "other"] (sp_msame K)) (M_minus : MOk P w K mg base CX0 (tC K) "minus" 1 ["self", "left", "right"] (sp_bin K (fun x y => x - y))) (D_GroupMap : KOk P w K mg base (L2.CX P w) "GroupMap" (mC K) 2 ["self", "group", "target", "images"] (sp_minit K)) : FnOk P w K mg base (L2.CX P w) 4 f fd ["self", "other"] (sp_mbin K (fun x y => x - y)) := by
  refine F.ok sc_GroupMap___sub__ (fun vs H Q E h => ?_) (fun cdv A outer s H vs Q E hr h => ?_)
  · obtain ⟨_, _, _, _, _, _, rfl, _⟩ := h; rfl
  obtain ⟨a, b, t, ms, us, vs, rfl, X, Y, k⟩ := h
  obtain ⟨dx, g, y, c, rs, h1, G, U, C, V1⟩ := X.ob
  obtain ⟨dx2, g2, y2, c2, rs2, h2, G2, U2, C2, V2⟩ := Y.ob
  obtain ⟨dy, _, _, hy, _⟩ := U.ob
  have le := G.le
  have lu := V1.len
  have lv := V2.len
  refine ⟨_, (pss_cons (ps_expr (methX M__require_same (hr.mono (by decide)) (passX rfl rfl rfl rfl) (pv 0) (pa_cons (pv 1) pa_nil)))
  (pss_cons (ps_setLc (i := 2) (own := [("v", 3), ("w", 4)]) rfl sc_GroupMap___sub__.nd rfl rfl (sw_true rfl rfl rfl (by decide +kernel)) (Rk.zip2 K rfl rfl T.zip (pa_cons (Rk.fld K rfl (pv 0) rfl) (pa_cons (Rk.fld K rfl (pv 1) rfl) pa_nil))) (blkOk_by (own := [("v", 3), ("w", 4)]) (N := ["self", "other", "images", "v", "w"]) (sc := defScope s_GroupMap___sub__) (by decide +kernel)) (fun _ _ _ _ _ => (Rk.gtup K rfl rfl (pgs_cons (pg_name (i := 3) sc_GroupMap___sub__.nd rfl (Or.inl rfl)) (pgs_cons (pg_name (i := 4) sc_GroupMap___sub__.nd rfl (Or.inl rfl)) pgs_nil)) (n := 2))) (fun _ _ _ _ _ => pts_nil) (fun _ _ _ _ _ => (methX M_minus (hr.mono (by decide)) (passN) (Rk.fld K rfl (pv 0) rfl) (pa_cons (pv 3) (pa_cons (pv 4) pa_nil)))))
  (pss_one (ps_ret (makeX D_GroupMap (hr.mono (by decide)) (passX rfl rfl rfl rfl) (pa_cons (Rk.fld K rfl (pv 0) rfl) (pa_cons (Rk.fld K rfl (pv 0) rfl) (pa_cons (pv 2) pa_nil)))))))), ?_⟩
  walk_at "st"
  refine ⟨a, dx, _, rfl, h1, mk_no (by decide +kernel) (by decide +kernel) (by decide +kernel) _ _ _, ?_⟩
  walk_at "st"
  refine ⟨a, b, t, ms, us, vs, rfl, X, Y, ?_⟩
  walk_at "st"
  refine Rd.fld' h1 T.mcl T.mI (mk_images _ _ _) ?_
  walk_at "st"
  refine Rd.fld' h2 T.mcl T.mI (mk_images _ _ _) ?_
  walk_at "st"
  have q1 := C.sq (K := K)
  have q2 := C2.sq (K := K)
  have l1 : (rs.map V.ref).length = us.length := by rw [List.length_map, V1.rows.len]
  have l2 : (rs2.map V.ref).length = (rs.map V.ref).length := by rw [List.length_map, List.length_map, V1.rows.len, V2.rows.len, lu, lv]
  refine ⟨c, c2, .T, .T, _, _, rfl, q1, q2, ?_⟩
  refine Rd.lcTups (n := (rs.map V.ref).length) (fun i => opV (fun x y => x - y) ms (vv us i) (vv vs i)) (Rz.go2 (k1 := .T) (k2 := .T) q1 q2 l2) (Rz.stop2 (k1 := .T) (k2 := .T) q1 q2 l2) (by omega) (fun i v' H1 H2 Q1 hi e yy q => ?_) (fun p ra H1 hp e h5 R => ?_) (fun v σ H P P' h q => Rz.gm2 v σ H P P' h q)
  · obtain ⟨TT, x', y', rfl, hx, hy', hT, s2⟩ := Rz.yld2 (k1 := .T) (k2 := .T) q1 q2 e yy
    obtain ⟨ra, r, rfl, _, g2, g3⟩ := V1.rows.at hx
    obtain ⟨rb, r', rfl, _, g5, g6⟩ := V2.rows.at hy'
    rw [vv_of g2, vv_of g5] at q
    refine Rd.gtup2 (SqT.of hT) ⟨by rfl, ?_⟩
    have s4 := e.trans s2
    walk_at "st"
    refine Rd.fld' (s4 _ _ h1) T.mcl T.mT (mk_target _ _ _) ?_
    refine ⟨y, dy, _, rfl, s4 _ _ hy, tk_no (by decide +kernel) (by decide +kernel) (by decide +kernel) (by decide +kernel) _ _ _ _, ?_⟩
    walk_at "st"
    refine ⟨y, ra, rb, ms, r, r', rfl, U.same s4, TupX.same g3 s4, TupX.same g6 s4, (V1.ok r (List.mem_of_getElem? g2)).len, (V2.ok r' (List.mem_of_getElem? g5)).len, fun l H3 _ e3 ht => ?_⟩
    exact q l H3 (s2.trans e3) (tX ht)
  walk_at "st"
  refine Rd.fld' (e _ _ h1) T.mcl T.mG (mk_group _ _ _) ?_
  walk_at "st"
  refine Rd.fld' (e _ _ h1) T.mcl T.mT (mk_target _ _ _) ?_
  walk_at "st"
  rw [l1] at R
  refine mkMap (G.same e) (U.same e) h5 (us := opM (fun x y => x - y) ms us vs) ⟨by rw [opM_len, lu], R, opM_ok U.ok (by omega) V1.ok V2.ok⟩ fun s H3 e3 _ S => ?_
  exact k s _ (e.trans e3) S
theorem sc_GroupMap___mul__ : FnScope ["self", "factor", "images", "value"] ["self", "factor"] (defScope s_GroupMap___mul__) := ⟨rfl, rfl, rfl, by decide +kernel, rfl, by decide +kernel, by decide +kernel⟩
theorem ok_mmul (F : FnP K "__mul__" "GroupMap.__mul__" s_GroupMap___mul__ f fd) (T : Txt K mg) (M_times : MOk P w K mg base CX0 (tC K) "times" 1 ["self", "factor", "value"] (sp_times K)) (D_GroupMap : KOk P w K mg base (L2.CX P w) "GroupMap" (mC K) 2 ["self", "group", "target", "images"] (sp_minit K)) : FnOk P w K mg base (L2.CX P w) 4 f fd ["self", "factor"] (sp_mmul K) := by
  refine F.ok sc_GroupMap___mul__ (fun vs H Q E h => ?_) (fun cdv A outer s H vs Q E hr h => ?_)
  · obtain ⟨_, _, _, _, _, rfl, _⟩ := h; rfl
  obtain ⟨a, m, t, ms, us, rfl, X, k⟩ := h
  obtain ⟨dx, g, y, c, rs, h1, G, U, C, V1⟩ := X.ob
  obtain ⟨dy, _, _, hy, _⟩ := U.ob
  have le := G.le
  have lu := V1.len
  refine ⟨_, (pss_cons (ps_setLc (i := 2) (own := [("value", 3)]) rfl sc_GroupMap___mul__.nd rfl rfl (sw_true rfl rfl rfl (by decide +kernel)) (Rk.pt K rfl (Rk.fld K rfl (pv 0) rfl)) (blkOk_by (own := [("value", 3)]) (N := ["self", "factor", "images", "value"]) (sc := defScope s_GroupMap___mul__) (by decide +kernel)) (fun _ _ _ _ _ => (pg_name (i := 3) sc_GroupMap___mul__.nd rfl (Or.inl rfl))) (fun _ _ _ _ _ => pts_nil) (fun _ _ _ _ _ => (methX M_times (hr.mono (by decide)) (passN) (Rk.fld K rfl (pv 0) rfl) (pa_cons (pv 1) (pa_cons (pv 3) pa_nil)))))
  (pss_one (ps_ret (makeX D_GroupMap (hr.mono (by decide)) (passN) (pa_cons (Rk.fld K rfl (pv 0) rfl) (pa_cons (Rk.fld K rfl (pv 0) rfl) (pa_cons (pv 2) pa_nil))))))), ?_⟩
  walk_at "st"
  refine Rd.fld' h1 T.mcl T.mI (mk_images _ _ _) ?_
  refine Rd.itt' C.sq ?_
  have l1 : (rs.map V.ref).length = us.length := by rw [List.length_map, V1.rows.len]
  have S1 := Rd.src_tup (K := K) C.sq
  refine Rd.lcTups (n := (rs.map V.ref).length) (fun i => opV (fun x _ => m * x) ms (vv us i) (vv us i)) S1.go S1.stop (by omega) (fun i v' H1 H2 Q1 hi e yy q => ?_) (fun p ra H1 hp e h5 R => ?_) (fun v σ H P P' h q => Rd.gmN v σ H P P' h q)
  · obtain ⟨rfl, hx⟩ := S1.yld H1 _ _ _ e yy
    obtain ⟨ra, r, rfl, _, g2, g3⟩ := V1.rows.at (hx hi)
    rw [vv_of g2] at q
    refine ⟨by rfl, ?_⟩
    walk_at "st"
    refine Rd.fld' (e _ _ h1) T.mcl T.mT (mk_target _ _ _) ?_
    refine ⟨y, dy, _, rfl, e _ _ hy, tk_no (by decide +kernel) (by decide +kernel) (by decide +kernel) (by decide +kernel) _ _ _ _, ?_⟩
    walk_at "st"
    refine ⟨y, ra, m, ms, r, rfl, U.same e, TupX.same g3 e, V1.ok r (List.mem_of_getElem? g2), fun l H3 _ e3 ht => ?_⟩
    exact q l H3 e3 (tX ht)
  walk_at "st"
  refine Rd.fld' (e _ _ h1) T.mcl T.mG (mk_group _ _ _) ?_
  walk_at "st"
  refine Rd.fld' (e _ _ h1) T.mcl T.mT (mk_target _ _ _) ?_
  walk_at "st"
  rw [l1] at R
  refine mkMap (G.same e) (U.same e) h5 (us := tmM ms m us) ⟨by rw [tmM_len, lu], R, tmM_ok U.ok V1.ok⟩ fun s H3 e3 _ S => ?_
  exact k s _ (e.trans e3) S
theorem sc_GroupMap__arranged : FnScope ["self", "places", "images", "place"] ["self", "places"] (defScope s_GroupMap__arranged) := ⟨rfl, rfl, rfl, by decide +kernel, rfl, by decide +kernel, by decide +kernel⟩
theorem ok_arr (F : FnP K "_arranged" "GroupMap._arranged" s_GroupMap__arranged f fd) (T : Txt K mg) (D_GroupMap : KOk P w K mg base (L2.CX P w) "GroupMap" (mC K) 2 ["self", "group", "target", "images"] (sp_minit K)) : FnOk P w K mg base (L2.CX P w) 4 f fd ["self", "places"] (sp_arr K) := by
  refine F.ok sc_GroupMap__arranged (fun vs H Q E h => ?_) (fun cdv A outer s H vs Q E hr h => ?_)
  · obtain ⟨_, _, _, _, _, _, rfl, _⟩ := h; rfl
  obtain ⟨a, p, t, ms, ps, us, rfl, X, hp, lp, okp, k⟩ := h
  obtain ⟨dx, g, y, c, rs, h1, G, U, C, V1⟩ := X.ob
  have le := G.le
  have lu := V1.len
  refine ⟨_, (pss_cons (ps_setLc (i := 2) (own := [("place", 3)]) rfl sc_GroupMap__arranged.nd rfl rfl (sw_true rfl rfl rfl (by decide +kernel)) (Rk.psq K rfl (pv 1)) (blkOk_by (own := [("place", 3)]) (N := ["self", "places", "images", "place"]) (sc := defScope s_GroupMap__arranged) (by decide +kernel)) (fun _ _ _ _ _ => (pg_name (i := 3) sc_GroupMap__arranged.nd rfl (Or.inl rfl))) (fun _ _ _ _ _ => pts_nil) (fun _ _ _ _ _ => (pe_ix (Rk.ixT K) (Rk.fld K rfl (pv 0) rfl) (pv 3) (fun _ _ => rfl))))
  (pss_one (ps_ret (makeX D_GroupMap (hr.mono (by decide)) (passN) (pa_cons (Rk.fld K rfl (pv 0) rfl) (pa_cons (Rk.fld K rfl (pv 0) rfl) (pa_cons (pv 2) pa_nil))))))), ?_⟩
  walk_at "st"
  refine Rd.isq ?_
  walk_at "st"
  rcases hp with hp | hp
  · refine .inl ⟨p, rfl, ⟨_, hp⟩, ?_⟩
    have S1 := Rd.src_list (K := K) hp
    refine Rd.lcTups (n := (ps.map V.int).length) (fun i => vv us (ps.getD i 0).toNat) S1.go S1.stop (by rw [List.length_map]; omega) (fun i v' H1 H2 Q1 hi e yy q => ?_) (fun pp ra H1 hpp e h5 R => ?_) (fun v σ H P P' h q => Rd.gmN v σ H P P' h q)
    · obtain ⟨rfl, hx⟩ := S1.yld H1 _ _ _ e yy
      obtain ⟨z, hz, rfl⟩ := intAt (hx hi)
      obtain ⟨z0, z1⟩ := okp z (List.mem_of_getElem? hz)
      rw [getD_of hz] at q
      refine ⟨by rfl, ?_⟩
      walk_at "st"
      refine Rd.fld' (e _ _ h1) T.mcl T.mI (mk_images _ _ _) ?_
      have hi2 : z.toNat < us.length := by omega
      obtain ⟨rb, r, g1, g2, g3⟩ := V1.rows.get hi2
      rw [vv_of g2] at q
      walk_at "st"
      refine Rd.ixT ((C.same e).sq) (at_of (j := z.toNat) (by omega) (by rw [List.getElem?_map, g1]; rfl)) ?_
      exact q rb _ (Same.refl _) (TupX.same g3 e)
    walk_at "st"
    refine Rd.fld' (e _ _ h1) T.mcl T.mG (mk_group _ _ _) ?_
    walk_at "st"
    refine Rd.fld' (e _ _ h1) T.mcl T.mT (mk_target _ _ _) ?_
    walk_at "st"
    rw [List.length_map] at R
    refine mkMap (G.same e) (U.same e) h5 (us := arM us ps) ⟨by rw [arM_len, lp], R, arM_ok V1.ok (by rw [lu]; exact okp)⟩ fun s H3 e3 _ S => ?_
    exact k s _ (e.trans e3) S
  · refine .inr ⟨p, rfl, ⟨_, hp⟩, ?_⟩
    have S1 := Rd.src_tup (K := K) hp
    refine Rd.lcTups (n := (ps.map V.int).length) (fun i => vv us (ps.getD i 0).toNat) S1.go S1.stop (by rw [List.length_map]; omega) (fun i v' H1 H2 Q1 hi e yy q => ?_) (fun pp ra H1 hpp e h5 R => ?_) (fun v σ H P P' h q => Rd.gmN v σ H P P' h q)
    · obtain ⟨rfl, hx⟩ := S1.yld H1 _ _ _ e yy
      obtain ⟨z, hz, rfl⟩ := intAt (hx hi)
      obtain ⟨z0, z1⟩ := okp z (List.mem_of_getElem? hz)
      rw [getD_of hz] at q
      refine ⟨by rfl, ?_⟩
      walk_at "st"
      refine Rd.fld' (e _ _ h1) T.mcl T.mI (mk_images _ _ _) ?_
      have hi2 : z.toNat < us.length := by omega
      obtain ⟨rb, r, g1, g2, g3⟩ := V1.rows.get hi2
      rw [vv_of g2] at q
      walk_at "st"
      refine Rd.ixT ((C.same e).sq) (at_of (j := z.toNat) (by omega) (by rw [List.getElem?_map, g1]; rfl)) ?_
      exact q rb _ (Same.refl _) (TupX.same g3 e)
    walk_at "st"
    refine Rd.fld' (e _ _ h1) T.mcl T.mG (mk_group _ _ _) ?_
    walk_at "st"
    refine Rd.fld' (e _ _ h1) T.mcl T.mT (mk_target _ _ _) ?_
    walk_at "st"
    rw [List.length_map] at R
    refine mkMap (G.same e) (U.same e) h5 (us := arM us ps) ⟨by rw [arM_len, lp], R, arM_ok V1.ok (by rw [lu]; exact okp)⟩ fun s H3 e3 _ S => ?_
    exact k s _ (e.trans e3) S
end
end K08

set_option Elab.async false
set_option linter.all false
set_option maxRecDepth 100000
set_option maxHeartbeats 4000000
namespace K08
open PySem L2 Rd GT
local macro_rules | `(tactic| walk_at "st1") => `(tactic| first | with_reducible refine' Rd.Stp.go ?_ | with_reducible refine' Rd.seq ?_)
local macro_rules | `(tactic| walk_at "st") => `(tactic| repeat (first | with_reducible refine' Rd.Stp.go ?_ | with_reducible refine' Rd.seq ?_ | ((with_reducible refine' Rd.nmR ?hr ?_); (case hr => repeat (first | exact Rd.SetR.zero | apply Rd.SetR.succ))) | ((with_reducible refine' Rd.var ?hv ?_); (case hv => rfl))))
local macro_rules | `(tactic| walk_at "sj") => `(tactic| repeat (first | with_reducible refine' Rd.Stp.go ?_ | with_reducible refine' Rd.seqA ?_ | with_reducible refine' Rd.seqD ?_ | with_reducible refine' Rd.seqF ?_ | with_reducible refine' Rd.seqW ?_ | ((with_reducible refine' Rd.nmR ?hr ?_); (case hr => repeat (first | exact Rd.SetR.zero | apply Rd.SetR.succ))) | ((with_reducible refine' Rd.var ?hv ?_); (case hv => rfl))))
local macro_rules | `(tactic| walk_at "sm") => `(tactic| first | exact Same.refl _ | assumption | (apply Rd.sm_tr; assumption; walk_at "sm") | fail)
local macro_rules | `(tactic| walk_at "fr") => `(tactic| with_reducible first
  | assumption
  | (apply Rd.fr_some; assumption; walk_at "fr") | (apply Rd.fr_tupN; assumption; walk_at "fr") | (apply Rd.fr_tupX; assumption; walk_at "fr")
  | (apply Rd.fr_grp; assumption; walk_at "fr") | (apply Rd.fr_rows; assumption; walk_at "fr") | (apply Rd.fr_rowL; assumption; walk_at "fr") | (apply Rd.fr_DD; assumption; walk_at "fr")
  | (apply Rd.fr_sqL; walk_at "fr") | fail)
/-- a method of a map -/
theorem mmI {K : PySem.W.Frag} {H : Hp} {f : Addr} {t : List (List Int)} {ms : List Int} {us : List (List Int)} (X : MapAt K H f t ms us) : ∃ dx fs, H f = some (.ins (mC K) dx fs) := by
  obtain ⟨dx, g, y, c, rs, h1, _⟩ := X.ob; exact ⟨_, _, h1⟩
/-- f o g -/
theorem mbinI {K : PySem.W.Frag} {o : Int → Int → Int} {H : Hp} {f g : Addr} {t : List (List Int)} {ms : List Int} {us vs : List (List Int)} {Q : VK} {E : XK} (X : MapAt K H f t ms us) (Y : MapAt K H g t ms vs) (k : ∀ s H', Same H H' → MapAt K H' s t ms (opM o ms us vs) → Q (.ref s) H') : Rd.rInsEq (mC K) (sp_mbin K o) E (.ref f) (.ref g) H Q := by
  obtain ⟨dx, fs, h1⟩ := mmI X
  obtain ⟨dy, gs, h2⟩ := mmI Y
  exact ⟨f, dx, fs, g, dy, gs, rfl, rfl, h1, h2, f, g, t, ms, us, vs, rfl, X, Y, k⟩
section
variable {P : Program} {w : World} {K : PySem.W.Frag} {mg : Str → Option Value} {base : Heap} {f : Addr} {fd : FuncData}
theorem sc_GroupMap_translated : FnScope ["self", "element"] ["self", "element"] (defScope s_GroupMap_translated) := ⟨rfl, rfl, rfl, by decide +kernel, rfl, by decide +kernel, by decide +kernel⟩
theorem ok_mtr (F : FnP K "translated" "GroupMap.translated" s_GroupMap_translated f fd) (T : Txt K mg) (M_require : MOk P w K mg base (L2.CX P w) (gC K) "require" 1 ["self", "members"] (sp_req K)) (M__arranged : MOk P w K mg base (L2.CX P w) (mC K) "_arranged" 4 ["self", "places"] (sp_arr K)) : FnOk P w K mg base (L2.CX P w) 5 f fd ["self", "element"] (sp_mmv K trF) := by
  refine F.ok sc_GroupMap_translated (fun vs H Q E h => ?_) (fun cdv A outer s H vs Q E hr h => ?_)
  · obtain ⟨_, _, _, _, _, rfl, _⟩ := h; rfl
  obtain ⟨f, t, ms, us, a, rfl, X, ha, k⟩ := h
  obtain ⟨dx, g, y, c, rs, h1, G, U, C, V1⟩ := X.ob
  obtain ⟨dg, R, I, rr, hg, hR, hrs, hI⟩ := G.ob
  have S := G.grp.sq
  have le := G.le
  refine ⟨_, (pss_cons (ps_expr (methX M_require (hr.mono (by decide)) (passX rfl rfl rfl rfl) (Rk.fld K rfl (pv 0) rfl) (pa_cons (pe_lst (pa_cons (pv 1) pa_nil)) pa_nil)))
  (pss_one (ps_ret (methX M__arranged (hr.mono (by decide)) (passN) (pv 0) (pa_cons (pe_ix (Rk.ixT K) (Rk.fld K rfl (Rk.fld K rfl (pv 0) rfl) rfl) (pv 1) (fun _ _ => rfl)) pa_nil))))), ?_⟩
  walk_at "st"
  refine Rd.fld' h1 T.mcl T.mG (mk_group _ _ _) ?_
  refine ⟨g, dg, _, rfl, hg, lk_no (by decide +kernel) (by decide +kernel) (by decide +kernel) _ _ _, ?_⟩
  walk_at "st"
  refine ⟨(by decide : 1 ≤ sizeLine), fun l hl => ?_⟩
  have e1 : Same H (upd H l (.lst [.int (a : Nat)])) := Rd.same_mk hl
  have hl1 : (upd H l (.lst [.int (a : Nat)])) l = some (.lst (([((a : Nat) : Int)] : List Int).map V.int)) := upd_same
  generalize upd H l (.lst [.int (a : Nat)]) = H1 at e1 hl1
  have inn : InG t [((a : Nat) : Int)] := fun x hx => by rw [List.mem_singleton.mp hx]; omega
  refine ⟨g, l, t, [((a : Nat) : Int)], rfl, G.same e1, hl1, fun ok H2 e2 => ?_, fun no H2 e2 => absurd inn no⟩
  have s2 := e1.trans e2
  walk_at "st"
  refine ⟨f, dx, _, rfl, s2 _ _ h1, mk_no (by decide +kernel) (by decide +kernel) (by decide +kernel) _ _ _, ?_⟩
  walk_at "st"
  refine Rd.fld' (s2 _ _ h1) T.mcl T.mG (mk_group _ _ _) ?_
  refine Rd.fld' (s2 _ _ hg) T.cl T.nR (lk_rows _ _ _) ?_
  walk_at "st"
  obtain ⟨ra, r, g1, g2, g3⟩ := hrs.get ha
  refine Rd.ixT ((hR.same s2).sq) (at_of (j := a) rfl (by rw [List.getElem?_map, g1]; rfl)) ?_
  have rr_ := row_of S g2
  rw [rr_] at g3
  refine ⟨f, ra, t, ms, rowL t a, us, rfl, fr_map s2 X, .inr ((g3.same s2).sq), rowL_len t a, rowL_ok S ha, fun s H3 e3 Y => ?_⟩
  exact k s _ (s2.trans e3) Y
theorem sc_GroupMap_left_step : FnScope ["self", "element"] ["self", "element"] (defScope s_GroupMap_left_step) := ⟨rfl, rfl, rfl, by decide +kernel, rfl, by decide +kernel, by decide +kernel⟩
theorem ok_mls (F : FnP K "left_step" "GroupMap.left_step" s_GroupMap_left_step f fd) (T : Txt K mg) (M_translated : MOk P w K mg base (L2.CX P w) (mC K) "translated" 5 ["self", "element"] (sp_mmv K trF)) (M_GroupMap_sub : BinOk P w K mg base (L2.CX P w) (mC K) "__sub__" 4 ["self", "other"] (sp_mbin K (fun x y => x - y))) : FnOk P w K mg base (L2.CX P w) 6 f fd ["self", "element"] (sp_mmv K lsF) := by
  refine F.ok sc_GroupMap_left_step (fun vs H Q E h => ?_) (fun cdv A outer s H vs Q E hr h => ?_)
  · obtain ⟨_, _, _, _, _, rfl, _⟩ := h; rfl
  obtain ⟨f, t, ms, us, a, rfl, X, ha, k⟩ := h
  obtain ⟨dx, g, y, c, rs, h1, G, U, C, V1⟩ := X.ob
  refine ⟨_, (pss_one (ps_ret (pe_op (op_insBin M_GroupMap_sub (hr.mono (by decide)) (passX rfl rfl rfl rfl)) (methX M_translated (hr.mono (by decide)) (passX rfl rfl rfl rfl) (pv 0) (pa_cons (pv 1) pa_nil)) (pv 0)))), ?_⟩
  walk_at "st"
  refine ⟨f, dx, _, rfl, h1, mk_no (by decide +kernel) (by decide +kernel) (by decide +kernel) _ _ _, ?_⟩
  walk_at "st"
  refine ⟨f, t, ms, us, a, rfl, X, ha, fun s H1 e1 Y => ?_⟩
  walk_at "st"
  refine mbinI Y (fr_map e1 X) fun s2 H2 e2 Z => ?_
  exact k s2 _ (e1.trans e2) Z
theorem sc_GroupMap_step : FnScope ["self", "element", "row"] ["self", "element"] (defScope s_GroupMap_step) := ⟨rfl, rfl, rfl, by decide +kernel, rfl, by decide +kernel, by decide +kernel⟩
theorem ok_mst (F : FnP K "step" "GroupMap.step" s_GroupMap_step f fd) (T : Txt K mg) (M_require : MOk P w K mg base (L2.CX P w) (gC K) "require" 1 ["self", "members"] (sp_req K)) (M__arranged : MOk P w K mg base (L2.CX P w) (mC K) "_arranged" 4 ["self", "places"] (sp_arr K)) (M_GroupMap_sub : BinOk P w K mg base (L2.CX P w) (mC K) "__sub__" 4 ["self", "other"] (sp_mbin K (fun x y => x - y))) : FnOk P w K mg base (L2.CX P w) 5 f fd ["self", "element"] (sp_mmv K stF) := by
  refine F.ok sc_GroupMap_step (fun vs H Q E h => ?_) (fun cdv A outer s H vs Q E hr h => ?_)
  · obtain ⟨_, _, _, _, _, rfl, _⟩ := h; rfl
  obtain ⟨f, t, ms, us, a, rfl, X, ha, k⟩ := h
  obtain ⟨dx, g, y, c, rs, h1, G, U, C, V1⟩ := X.ob
  obtain ⟨dg, R, I, rr, hg, hR, hrs, hI⟩ := G.ob
  have S := G.grp.sq
  have le := G.le
  refine ⟨_, (pss_cons (ps_expr (methX M_require (hr.mono (by decide)) (passX rfl rfl rfl rfl) (Rk.fld K rfl (pv 0) rfl) (pa_cons (pe_lst (pa_cons (pv 1) pa_nil)) pa_nil)))
  (pss_one (ps_ret (pe_op (op_insBin M_GroupMap_sub (hr.mono (by decide)) (passX rfl rfl rfl rfl)) (methX M__arranged (hr.mono (by decide)) (passN) (pv 0) (pa_cons (pe_lc (own := [("row", 2)]) rfl sc_GroupMap_step.nd (Rk.pt K rfl (Rk.fld K rfl (Rk.fld K rfl (pv 0) rfl) rfl)) (blkOk_by (own := [("row", 2)]) (N := ["self", "element", "row"]) (sc := defScope s_GroupMap_step) (by decide +kernel)) (fun _ _ _ _ _ => (pg_name (i := 2) sc_GroupMap_step.nd rfl (Or.inl rfl))) (fun _ _ _ _ _ => pts_nil) (fun _ _ _ _ _ => (pe_ix (Rk.ixT K) (pv 2) (pv 1) (fun _ _ => rfl)))) pa_nil)) (pv 0))))), ?_⟩
  walk_at "st"
  refine Rd.fld' h1 T.mcl T.mG (mk_group _ _ _) ?_
  refine ⟨g, dg, _, rfl, hg, lk_no (by decide +kernel) (by decide +kernel) (by decide +kernel) _ _ _, ?_⟩
  walk_at "st"
  refine ⟨(by decide : 1 ≤ sizeLine), fun l hl => ?_⟩
  have e1 : Same H (upd H l (.lst [.int (a : Nat)])) := Rd.same_mk hl
  have hl1 : (upd H l (.lst [.int (a : Nat)])) l = some (.lst (([((a : Nat) : Int)] : List Int).map V.int)) := upd_same
  generalize upd H l (.lst [.int (a : Nat)]) = H1 at e1 hl1
  have inn : InG t [((a : Nat) : Int)] := fun x hx => by rw [List.mem_singleton.mp hx]; omega
  refine ⟨g, l, t, [((a : Nat) : Int)], rfl, G.same e1, hl1, fun ok H2 e2 => ?_, fun no H2 e2 => absurd inn no⟩
  have s2 := e1.trans e2
  walk_at "st"
  refine ⟨f, dx, _, rfl, s2 _ _ h1, mk_no (by decide +kernel) (by decide +kernel) (by decide +kernel) _ _ _, ?_⟩
  walk_at "st"
  refine Rd.fld' (s2 _ _ h1) T.mcl T.mG (mk_group _ _ _) ?_
  refine Rd.fld' (s2 _ _ hg) T.cl T.nR (lk_rows _ _ _) ?_
  have q1 := (hR.same s2).sq (K := K)
  refine Rd.itt' q1 ?_
  have l1 : (rr.map V.ref).length = t.length := by rw [List.length_map, hrs.len]
  refine Rd.lcMap (fun i => .int (at2 t i a)) (Rd.src_tup q1) (by omega) (by intro _; rfl) (fun n v H3 Q1 hx e q => ?_) (fun p H3 hp e h3 => ?_)
  · obtain ⟨ra, r, rfl, g1, g2, g3⟩ := hrs.at hx
    have hn : n < t.length := (List.getElem?_eq_some_iff.mp g2).1
    obtain ⟨_, _, r', w1, w2⟩ := S.at hn ha
    rw [g2] at w1
    cases w1
    walk_at "st"
    refine Rd.ixT ((g3.same (s2.trans e)).sq) (at_of (j := a) rfl (map_get_int w2)) ?_
    exact q _ (Same.refl _)
  rw [l1, map_in] at h3
  have s3 := s2.trans e
  refine ⟨f, p, t, ms, colL t a, us, rfl, fr_map s3 X, .inl (SqL.of h3), colL_len t a, colL_ok S ha, fun s H4 e4 Y => ?_⟩
  walk_at "st"
  refine mbinI Y (fr_map (s3.trans e4) X) fun s2 H5 e5 Z => ?_
  exact k s2 _ ((s3.trans e4).trans e5) Z
end
end K08

set_option Elab.async false
set_option linter.all false
set_option maxRecDepth 100000
set_option maxHeartbeats 4000000
namespace K08
open PySem L2 Rd GT
local macro_rules | `(tactic| walk_at "st1") => `(tactic| first | with_reducible refine' Rd.Stp.go ?_ | with_reducible refine' Rd.seq ?_)
local macro_rules | `(tactic| walk_at "st") => `(tactic| repeat (first | with_reducible refine' Rd.Stp.go ?_ | with_reducible refine' Rd.seq ?_ | ((with_reducible refine' Rd.nmR ?hr ?_); (case hr => repeat (first | exact Rd.SetR.zero | apply Rd.SetR.succ))) | ((with_reducible refine' Rd.var ?hv ?_); (case hv => rfl))))
local macro_rules | `(tactic| walk_at "sj") => `(tactic| repeat (first | with_reducible refine' Rd.Stp.go ?_ | with_reducible refine' Rd.seqA ?_ | with_reducible refine' Rd.seqD ?_ | with_reducible refine' Rd.seqF ?_ | with_reducible refine' Rd.seqW ?_ | ((with_reducible refine' Rd.nmR ?hr ?_); (case hr => repeat (first | exact Rd.SetR.zero | apply Rd.SetR.succ))) | ((with_reducible refine' Rd.var ?hv ?_); (case hv => rfl))))
local macro_rules | `(tactic| walk_at "sm") => `(tactic| first | exact Same.refl _ | assumption | (apply Rd.sm_tr; assumption; walk_at "sm") | fail)
local macro_rules | `(tactic| walk_at "fr") => `(tactic| with_reducible first
  | assumption
  | (apply Rd.fr_some; assumption; walk_at "fr") | (apply Rd.fr_tupN; assumption; walk_at "fr") | (apply Rd.fr_tupX; assumption; walk_at "fr")
  | (apply Rd.fr_grp; assumption; walk_at "fr") | (apply Rd.fr_rows; assumption; walk_at "fr") | (apply Rd.fr_rowL; assumption; walk_at "fr") | (apply Rd.fr_DD; assumption; walk_at "fr")
  | (apply Rd.fr_sqL; walk_at "fr") | fail)
theorem in1 {t : List (List Int)} {x : Int} (h : InG t [x]) : 0 ≤ x ∧ x < (t.length : Int) := h x (List.mem_singleton.mpr rfl)
theorem in2 {t : List (List Int)} {x y : Int} (h : InG t [x, y]) : (0 ≤ x ∧ x < (t.length : Int)) ∧ 0 ≤ y ∧ y < (t.length : Int) := ⟨h x (by simp), h y (by simp)⟩
theorem invs_at {t : List (List Int)} {x : Nat} (h : x < t.length) : ((invs t).map V.int)[x]? = some (.int (ivn t x : Nat)) := by
  unfold invs
  rw [List.map_map, List.getElem?_map, List.getElem?_eq_getElem h]
  unfold ivn
  rw [getD_of (List.getElem?_eq_getElem h)]; rfl
theorem len_ev {ms cs : List Int} {us : List (List Int)} (hu : ∀ v ∈ us, Val ms v) : ∀ {i : Nat}, i ≤ us.length → (evN ms cs us i).length = ms.length
  | 0, _ => by show (List.replicate ms.length (0 : Int)).length = _; rw [List.length_replicate]
  | i + 1, h => opV_len _ (len_ev hu (by omega)) (opV_len _ (hu _ (vv_mem (by omega))).len (hu _ (vv_mem (by omega))).len)
def sp_shf (K : PySem.W.Frag) : Sp := fun vs H Q E => ∃ (g a : Addr) (t : List (List Int)) (xs : List Int) (m : Int), vs = [.ref g, .ref a, .int m] ∧ GrpAt (gC K) H g t ∧ H a = some (.lst (xs.map V.int)) ∧ (xs.length ≠ t.length → ∀ H', Same H H' → E (.ref (eVc K)) none H') ∧
  (xs.length = t.length → ¬ InT t m → ∀ H', Same H H' → E (.ref (eE K)) none H') ∧ (xs.length = t.length → InT t m → ∀ p H', H p = none → Same H H' → H' p = some (.lst ((shf t xs m.toNat).map V.int)) → Q (.ref p) H')
theorem inG1 {t : List (List Int)} {m : Int} : InG t [m] ↔ InT t m := ⟨fun h => h m (List.mem_singleton.mpr rfl), fun h x hx => by rw [List.mem_singleton.mp hx]; exact h⟩
section
variable {P : Program} {w : World} {K : PySem.W.Frag} {mg : Str → Option Value} {base : Heap} {f : Addr} {fd : FuncData}
theorem sc_GroupMap_evaluate : FnScope ["self", "coefficients", "total", "coefficient", "value"] ["self", "coefficients"] (defScope s_GroupMap_evaluate) := ⟨rfl, rfl, rfl, by decide +kernel, rfl, by decide +kernel, by decide +kernel⟩
theorem ok_mev (F : FnP K "evaluate" "GroupMap.evaluate" s_GroupMap_evaluate f fd) (T : Txt K mg) (M_plus : MOk P w K mg base CX0 (tC K) "plus" 1 ["self", "left", "right"] (sp_bin K (fun x y => x + y))) (M_times : MOk P w K mg base CX0 (tC K) "times" 1 ["self", "factor", "value"] (sp_times K)) : FnOk P w K mg base (L2.CX P w) 2 f fd ["self", "coefficients"] (sp_meval K) := by
  refine F.ok sc_GroupMap_evaluate (fun vs H Q E h => ?_) (fun cdv A outer s H vs Q E hr h => ?_)
  · obtain ⟨_, _, _, _, _, _, rfl, _⟩ := h; rfl
  obtain ⟨f, p, t, ms, cs, us, rfl, X, hp, lc, k⟩ := h
  obtain ⟨dx, g, y, c, rs, h1, G, U, C, V1⟩ := X.ob
  obtain ⟨dg, R, I, rr, hg, _⟩ := G.ob
  obtain ⟨dy, M, Z, hy, _, hZ⟩ := U.ob
  have le := G.le
  have lu := V1.len
  refine ⟨_, (pss_cons (ps_if (pt_cmpR op_ne (pe_callB (Rk.len K) rfl T.len PySem.boot_len (pa_cons (pv 1) pa_nil)) (Rk.fld K rfl (Rk.fld K rfl (pv 0) rfl) rfl) (nomark _))
  (pss_one (ps_raise rfl (takes_of rfl rfl rfl rfl) (pmk_own PySem.F.excBase_ValueError T.ex_InvalidVector.xP T.ex_InvalidVector.gP T.ex_InvalidVector.kP (raises_own T.ex_InvalidVector.bP T.ex_InvalidVector.tP) rfl)))
  pss_nil)
  (pss_cons (ps_set (i := 2) sc_GroupMap_evaluate.nd rfl (Or.inl rfl) (Rk.fld K rfl (Rk.fld K rfl (pv 0) rfl) rfl))
  (pss_cons (ps_for (passes_of rfl) rfl (Rk.zip2 K rfl rfl T.zip (pa_cons (pv 1) (pa_cons (Rk.fld K rfl (pv 0) rfl) pa_nil))) (Rk.gtup K rfl rfl (pgs_cons (pg_name (i := 3) sc_GroupMap_evaluate.nd rfl (Or.inl rfl)) (pgs_cons (pg_name (i := 4) sc_GroupMap_evaluate.nd rfl (Or.inl rfl)) pgs_nil)) (n := 2))
  (pss_one (ps_set (i := 2) sc_GroupMap_evaluate.nd rfl (Or.inl rfl) (methX M_plus (hr.mono (by decide)) (passN) (Rk.fld K rfl (pv 0) rfl) (pa_cons (pv 2) (pa_cons (methX M_times (hr.mono (by decide)) (passN) (Rk.fld K rfl (pv 0) rfl) (pa_cons (pv 3) (pa_cons (pv 4) pa_nil))) pa_nil))))))
  (pss_one (ps_ret (pv 2)))))), ?_⟩
  walk_at "st"
  refine Rd.len1 (.inl (SqL.of hp)) ?_
  walk_at "st"
  refine Rd.fld' h1 T.mcl T.mG (mk_group _ _ _) ?_
  refine Rd.fld' hg T.cl T.nO (lk_order _ _ _) ?_
  walk_at "st"
  rw [List.length_map]
  refine Rd.ite_n (fun c => absurd (by rw [lc]) c) (fun _ => ?_)
  walk_at "st"
  refine Rd.fld' h1 T.mcl T.mT (mk_target _ _ _) ?_
  refine Rd.fld' hy T.tcl T.tZ (tk_zero _ _ _ _) ?_
  walk_at "st"
  refine Rd.fld' h1 T.mcl T.mI (mk_images _ _ _) ?_
  walk_at "st"
  have q1 := SqL.of (K := K) hp
  have q2 := C.sq (K := K)
  refine ⟨p, c, .L, .T, _, _, rfl, q1, q2, ?_⟩
  refine Rz.for2 (K := K) (k1 := .L) (k2 := .T) (xs := cs.map V.int) (ys := rs.map V.ref) (by rw [List.length_map, List.length_map, V1.rows.len]; omega)
    (fun i σ H' => ∃ (v5 v6 : Option V) (r : Addr), σ = [some (.ref f), some (.ref p), some (.ref r), v5, v6] ∧ Same H H' ∧ TupX H' r ((evN ms cs us i).map V.int))
    ⟨none, none, Z, rfl, Same.refl _, .inl (by rw [hZ]; show _ = some (HO.tup ((List.replicate ms.length (0 : Int)).map V.int)); rw [List.map_replicate])⟩ (fun i σ H' h => by obtain ⟨_, _, _, _, e, _⟩ := h; exact ⟨Rz.SqK.same (k := .L) q1 e, Rz.SqK.same (k := .T) q2 e⟩) ?_ ?_
  · rintro i x y' TT σ H1 hx hy' ⟨v5, v6, r, rfl, e1, hr1⟩ hTT
    obtain ⟨z, hz, rfl⟩ := intAt hx
    obtain ⟨ra, r', rfl, _, g2, g3⟩ := V1.rows.at hy'
    have hi : i < us.length := (List.getElem?_eq_some_iff.mp g2).1
    have e2 := e1.trans (Rd.same_mk (o := .tup [.int z, .ref ra]) hTT)
    have vr := V1.ok r' (List.mem_of_getElem? g2)
    refine Rd.gtup2 (SqT.of upd_same) ?_
    have hr2 := TupX.same hr1 (Rd.same_mk (o := .tup [.int z, .ref ra]) hTT)
    generalize upd H1 TT (.tup [.int z, .ref ra]) = H2 at e2 hr2
    walk_at "st"
    refine Rd.fld' (e2 _ _ h1) T.mcl T.mT (mk_target _ _ _) ?_
    refine ⟨y, dy, _, rfl, e2 _ _ hy, tk_no (by decide +kernel) (by decide +kernel) (by decide +kernel) (by decide +kernel) _ _ _ _, ?_⟩
    walk_at "st"
    refine Rd.fld' (e2 _ _ h1) T.mcl T.mT (mk_target _ _ _) ?_
    refine ⟨y, dy, _, rfl, e2 _ _ hy, tk_no (by decide +kernel) (by decide +kernel) (by decide +kernel) (by decide +kernel) _ _ _ _, ?_⟩
    walk_at "st"
    refine ⟨y, ra, z, ms, r', rfl, U.same e2, TupX.same g3 e2, vr, fun l H3 _ e3 ht => ?_⟩
    walk_at "st"
    refine ⟨y, r, l, ms, evN ms cs us i, _, rfl, U.same (e2.trans e3), TupX.same hr2 e3, tX ht, len_ev V1.ok (by omega), opV_len _ vr.len vr.len, fun l2 H4 _ e4 ht2 => ?_⟩
    walk_at "st"
    refine ⟨_, _, l2, rfl, (e2.trans e3).trans e4, ?_⟩
    show TupX H4 l2 ((opV (fun x y => x + y) ms (evN ms cs us i) (opV (fun x _ => cs.getD i 0 * x) ms (vv us i) (vv us i))).map V.int)
    rw [getD_of hz, vv_of g2]
    exact tX ht2
  rintro σ H1 ⟨v5, v6, r, rfl, e1, hr1⟩
  rw [List.length_map, lc, ← lu] at hr1
  walk_at "st"
  exact k r _ e1 hr1
theorem sc_shifted : FnScope ["group", "coefficients", "element", "inverse", "row", "old"] ["group", "coefficients", "element"] (defScope s_shifted) := ⟨rfl, rfl, rfl, by decide +kernel, rfl, by decide +kernel, by decide +kernel⟩
theorem ok_shf (F : FnP K "shifted" "shifted" s_shifted f fd) (T : Txt K mg) (M_require : MOk P w K mg base (L2.CX P w) (gC K) "require" 1 ["self", "members"] (sp_req K)) : FnOk P w K mg base (L2.CX P w) 2 f fd ["group", "coefficients", "element"] (sp_shf K) := by
  refine F.ok sc_shifted (fun vs H Q E h => ?_) (fun cdv A outer s H vs Q E hr h => ?_)
  · obtain ⟨_, _, _, _, _, rfl, _⟩ := h; rfl
  obtain ⟨g, a, t, xs, m, rfl, G, ha, kV, kE, k⟩ := h
  obtain ⟨dx, R, I, rs, hg, hR, hrs, hI⟩ := G.ob
  have S := G.grp.sq
  have le := G.le
  refine ⟨_, (pss_cons (ps_if (pt_cmpR op_ne (pe_callB (Rk.len K) rfl T.len PySem.boot_len (pa_cons (pv 1) pa_nil)) (Rk.fld K rfl (pv 0) rfl) (nomark _))
  (pss_one (ps_raise rfl (takes_of rfl rfl rfl rfl) (pmk_own PySem.F.excBase_ValueError T.ex_InvalidVector.xP T.ex_InvalidVector.gP T.ex_InvalidVector.kP (raises_own T.ex_InvalidVector.bP T.ex_InvalidVector.tP) rfl)))
  pss_nil)
  (pss_cons (ps_expr (methX M_require (hr.mono (by decide)) (passX rfl rfl rfl rfl) (pv 0) (pa_cons (pe_lst (pa_cons (pv 2) pa_nil)) pa_nil)))
  (pss_cons (ps_set (i := 3) sc_shifted.nd rfl (Or.inr rfl) (pe_ix (Rk.ixT K) (Rk.fld K rfl (pv 0) rfl) (pv 2) (fun _ _ => rfl)))
  (pss_one (ps_ret (pe_lc (own := [("row", 4), ("old", 5)]) rfl sc_shifted.nd (Rk.zip2 K rfl rfl T.zip (pa_cons (Rk.fld K rfl (pv 0) rfl) (pa_cons (pv 1) pa_nil))) (blkOk_by (own := [("row", 4), ("old", 5)]) (N := ["group", "coefficients", "element", "inverse", "row", "old"]) (sc := defScope s_shifted) (by decide +kernel)) (fun _ _ _ _ _ => (Rk.gtup K rfl rfl (pgs_cons (pg_name (i := 4) sc_shifted.nd rfl (Or.inl rfl)) (pgs_cons (pg_name (i := 5) sc_shifted.nd rfl (Or.inl rfl)) pgs_nil)) (n := 2))) (fun _ _ _ _ _ => pts_nil) (fun _ _ _ _ _ => (pe_op op_sub (pe_ix (Rk.ixL K) (pv 1) (pe_ix (Rk.ixT K) (pv 4) (pv 3) (fun _ _ => rfl)) (fun _ _ => rfl)) (pv 5))))))))), ?_⟩
  walk_at "st"
  refine Rd.len1 (.inl (SqL.of ha)) ?_
  walk_at "st"
  refine Rd.fld' hg T.cl T.nO (lk_order _ _ _) ?_
  walk_at "st"
  rw [List.length_map]
  refine Rd.ite_n (fun c => kV (fun z => c (by rw [z])) _ (Same.refl _)) (fun c => ?_)
  have lx : xs.length = t.length := by omega
  walk_at "st"
  refine ⟨g, dx, _, rfl, hg, lk_no (by decide +kernel) (by decide +kernel) (by decide +kernel) _ _ _, ?_⟩
  walk_at "st"
  refine ⟨(by decide : 1 ≤ sizeLine), fun l hl => ?_⟩
  have e1 : Same H (upd H l (.lst [.int m])) := Rd.same_mk hl
  have h1 : (upd H l (.lst [.int m])) l = some (.lst (([m] : List Int).map V.int)) := upd_same
  generalize upd H l (.lst [.int m]) = H1 at e1 h1
  refine ⟨g, l, t, [m], rfl, G.same e1, h1, fun ok H2 e2 => ?_, fun no H2 e2 => kE lx (fun z => no (inG1.mpr z)) _ (e1.trans e2)⟩
  have im := inG1.mp ok
  obtain ⟨m0, m1⟩ := id im
  walk_at "st"
  refine Rd.fld' (by walk_at "fr") T.cl T.nI (lk_inv _ _ _) ?_
  have lm : m.toNat < t.length := by omega
  walk_at "st"
  refine Rd.ixT ((hI.same (e1.trans e2)).sq) (at_of (j := m.toNat) (show m = (m.toNat : Int) by omega) (invs_at lm)) ?_
  walk_at "st"
  refine Rd.fld' (by walk_at "fr") T.cl T.nR (lk_rows _ _ _) ?_
  walk_at "st"
  have s2 := e1.trans e2
  clear e1 e2
  have q1 := (hR.same s2).sq (K := K)
  have q2 := SqL.of (K := K) (s2 _ _ ha)
  have l2 : (xs.map V.int).length = (rs.map V.ref).length := by rw [List.length_map, List.length_map, lx, hrs.len]
  refine ⟨R, a, .T, .L, _, _, rfl, q1, q2, ?_⟩
  have iv := G.grp.inv_lt lm
  refine Rz.lcMapG (n := (rs.map V.ref).length) (fun i => .int (cf xs (mul t i (ivn t m.toNat)) - cf xs i)) (Rz.go2 (k1 := .T) (k2 := .L) q1 q2 l2) (Rz.stop2 (k1 := .T) (k2 := .L) q1 q2 l2) (by rw [List.length_map, hrs.len]; omega) (fun i v' H1 H3 Q1 hi e yy q1' => ?_) (fun p H3 hp e h5 => ?_) (fun v σ H P P' h q => Rz.gm2 v σ H P P' h q)
  · obtain ⟨TT, x', y', rfl, hx, hy, hT, s3⟩ := Rz.yld2 (k1 := .T) (k2 := .L) q1 q2 e yy
    obtain ⟨ra, r, rfl, g1, g2, g3⟩ := hrs.at hx
    obtain ⟨z, hz, rfl⟩ := intAt hy
    have hi : i < t.length := (List.getElem?_eq_some_iff.mp g2).1
    have rl := (S.row r (List.mem_of_getElem? g2)).1
    refine Rd.gtup2 (SqT.of hT) ⟨by rfl, ?_⟩
    have s4 := (s2.trans e).trans s3
    obtain ⟨_, _, r', w1, w2⟩ := S.at hi iv
    rw [g2] at w1
    cases w1
    rw [S.mul_eq hi iv] at w2
    have mlt := S.mul_lt hi iv
    walk_at "st"
    refine Rd.ixT ((g3.same s4).sq) (at_of (j := ivn t m.toNat) rfl (map_get_int w2)) ?_
    refine Rd.ixL (SqL.of (s4 _ _ ha)) (at_of (j := mul t i (ivn t m.toNat)) rfl (map_get_int (cf_get (by omega)))) ?_
    walk_at "st"
    rw [cf_of hz] at q1'
    exact q1' _ s3
  · rw [List.length_map, hrs.len, map_in] at h5
    exact k lx im p _ (Same.free s2 hp) (s2.trans e) h5
end
end K08

set_option Elab.async false
set_option linter.all false
set_option maxRecDepth 100000
set_option maxHeartbeats 4000000
namespace K08
open PySem L2 Rd GT
local macro_rules | `(tactic| walk_at "st1") => `(tactic| first | with_reducible refine' Rd.Stp.go ?_ | with_reducible refine' Rd.seq ?_)
local macro_rules | `(tactic| walk_at "st") => `(tactic| repeat (first | with_reducible refine' Rd.Stp.go ?_ | with_reducible refine' Rd.seq ?_ | ((with_reducible refine' Rd.nmR ?hr ?_); (case hr => repeat (first | exact Rd.SetR.zero | apply Rd.SetR.succ))) | ((with_reducible refine' Rd.var ?hv ?_); (case hv => rfl))))
local macro_rules | `(tactic| walk_at "sj") => `(tactic| repeat (first | with_reducible refine' Rd.Stp.go ?_ | with_reducible refine' Rd.seqA ?_ | with_reducible refine' Rd.seqD ?_ | with_reducible refine' Rd.seqF ?_ | with_reducible refine' Rd.seqW ?_ | ((with_reducible refine' Rd.nmR ?hr ?_); (case hr => repeat (first | exact Rd.SetR.zero | apply Rd.SetR.succ))) | ((with_reducible refine' Rd.var ?hv ?_); (case hv => rfl))))
local macro_rules | `(tactic| walk_at "sm") => `(tactic| first | exact Same.refl _ | assumption | (apply Rd.sm_tr; assumption; walk_at "sm") | fail)
local macro_rules | `(tactic| walk_at "fr") => `(tactic| with_reducible first
  | assumption
  | (apply Rd.fr_some; assumption; walk_at "fr") | (apply Rd.fr_tupN; assumption; walk_at "fr") | (apply Rd.fr_tupX; assumption; walk_at "fr")
  | (apply Rd.fr_grp; assumption; walk_at "fr") | (apply Rd.fr_rows; assumption; walk_at "fr") | (apply Rd.fr_rowL; assumption; walk_at "fr") | (apply Rd.fr_DD; assumption; walk_at "fr")
  | (apply Rd.fr_sqL; walk_at "fr") | fail)
/-! ### what the law draws -/
theorem m_le {ms : List Int} (o : OkM ms) (h : pr ms ≤ 32) : ∀ m ∈ ms, m ≤ 32 := fun m hm => by
  obtain ⟨i, hi⟩ := List.getElem?_of_mem hm
  have h1 := pr_take hi
  have h2 := pr_take_le o (i + 1)
  have h3 := pr_pos (ms := ms.take i) fun y hy => o y (List.mem_of_mem_take hy)
  have h5 : 1 * m.toNat ≤ pr (ms.take i) * m.toNat := Nat.mul_le_mul_right _ h3
  omega
theorem TupX.bg {H H' : Hp} {b a : Addr} {xs : List V} (h : TupX H a xs) (hb : Bag H b) (e : But b H H') : TupX H' a xs := by
  obtain ⟨u, v, h0, _⟩ := hb
  rcases h with h | ⟨ob, h⟩
  · exact .inl (e _ _ (fun z => by rw [z, h0] at h; cases h) h)
  · exact .inr ⟨ob, e _ _ (fun z => by rw [z, h0] at h; cases h) h⟩
theorem TupX.away {H : Hp} {D a : Addr} {xs ys : List V} {o : HO} (h : TupX H a xs) (d : H D = some (.lst ys)) : TupX (upd H D o) a xs := by
  rcases h with h | ⟨ob, h⟩
  · exact .inl (by rw [upd_ne (fun z => by rw [z, d] at h; cases h)]; exact h)
  · exact .inr ⟨ob, by rw [upd_ne (fun z => by rw [z, d] at h; cases h)]; exact h⟩
section
variable {K : PySem.W.Frag} {b a : Addr} {j : Nat} {te : TE} {vs : List Nat} {σ : L2.St} {H : Hp} {Qd : Addr → Hp → Prop}
/-- a comprehension over a list of bounds that draws from the bag -/
theorem lcBagM {ms : List Int} (hb : Bag H b) (ha : H a = some (.lst (ms.map V.int))) (na : a ≠ b) (hz : ms.length ≤ 1000) (hw : ∀ x : V, wipe ((wipe σ vs).set j (some x)) vs = wipe σ vs)
    (hs : ∀ (m : Int) (H1 : Hp) (Q1 : VK), m ∈ ms → Bag H1 b → (∀ (v : Int) (H2 : Hp), 0 ≤ v → v < m → Bag H2 b → But b H1 H2 → Q1 (.int v) H2) → te ((wipe σ vs).set j (some (.int m))) H1 Q1)
    (hq : ∀ (q : Addr) (ns : List Int) (H1 : Hp), H q = none → Val ms ns → Bag H1 b → But b H H1 → H1 q = some (.lst (ns.map V.int)) → Qd q H1)
    (D : Addr) (hD : H D = none) :
    ∃ W : Nat → Nat → Hp → Prop, (∃ m, W 0 m (upd H D (.lst []))) ∧ ∀ i m H, W i m H →
      ((Itl K a).stop i H ∧ Qd D H) ∨ ((Itl K a).go i H ∧ ∃ Nx : Hp → Prop, (∀ H', Nx H' → ∃ m', m' < m ∧ W (i + 1) m' H') ∧ ∀ x H', (Itl K a).yld i H x H' → gName j x (wipe σ vs) H' fun σ2 H2 => wipe σ2 vs = wipe σ vs ∧ tYes σ2 H2 fun b H3 =>
        if b = true then te σ2 H3 fun y H4 => ∃ acc, H4 D = some (.lst acc) ∧ acc.length < sizeLine ∧ Nx (upd H4 D (.lst (acc ++ [y]))) else Nx H3) := by
  have nb := hb.ne hD
  refine ⟨fun i m H1 => m = ms.length - i ∧ i ≤ ms.length ∧ ∃ ns : List Int, ns.length = i ∧ (∀ (k : Nat) (x m : Int), ns[k]? = some x → ms[k]? = some m → 0 ≤ x ∧ x < m) ∧ Bag H1 b ∧ But b H H1 ∧ H1 D = some (.lst (ns.map V.int)),
    ⟨ms.length, rfl, Nat.zero_le _, [], rfl, (fun k x m h => by simp at h), hb.put nb, butAdd (Rd.But.refl _ _) hD, upd_same⟩, ?_⟩
  rintro i m H1 ⟨rfl, hi, ns, rfl, rg, hb1, e1, hL⟩
  have S := Rd.src_list (K := K) (SqL.of (e1 a _ na ha))
  by_cases c : ns.length < ms.length
  · refine .inr ⟨S.go H1 _ (Same.refl _) (by rw [List.length_map]; exact c), fun H' => ∃ ns' : List Int, ns'.length = ns.length + 1 ∧ (∀ (k : Nat) (x m : Int), ns'[k]? = some x → ms[k]? = some m → 0 ≤ x ∧ x < m) ∧ Bag H' b ∧ But b H H' ∧ H' D = some (.lst (ns'.map V.int)), fun H' z => ⟨ms.length - (ns.length + 1), by omega, rfl, c, z⟩, fun x H' y => ?_⟩
    obtain ⟨rfl, hx⟩ := S.yld H1 _ _ _ (Same.refl _) y
    obtain ⟨m, hm, rfl⟩ := intAt (hx (by rw [List.length_map]; exact c))
    refine ⟨hw _, Rd.tyes (iteT (hs m _ _ (List.mem_of_getElem? hm) hb1 fun v H2 v0 v1 hb2 e2 => ?_))⟩
    refine ⟨ns.map V.int, e2 _ _ nb.symm hL, by rw [List.length_map]; exact line_of (by omega), ns ++ [v], by simp, fun k x m' hk hk2 => ?_, hb2.put nb, butMut (e1.trans e2) hD, by rw [upd_same, map_add_int]⟩
    by_cases ck : k < ns.length
    · rw [List.getElem?_append_left ck] at hk
      exact rg k x m' hk hk2
    · rw [List.getElem?_append_right (by omega)] at hk
      have z : k - ns.length = 0 := by
        have := (List.getElem?_eq_some_iff.mp hk).1
        simp at this
        omega
      rw [z] at hk
      cases hk
      rw [show k = ns.length by omega, hm] at hk2
      cases hk2
      exact ⟨v0, v1⟩
  · have e : ns.length = ms.length := by omega
    refine .inl ⟨?_, hq D ns H1 hD (val_iff.mpr ⟨e, rg⟩) hb1 e1 hL⟩
    have := S.stop H1 (Same.refl _)
    rw [List.length_map] at this
    rw [e]; exact this
/-- a comprehension over a range that draws tuples from the bag -/
theorem lcBagT (R : List Int → Prop) {n : Nat} (hb : Bag H b) (hz : n ≤ 1000) (hw : ∀ x : V, wipe ((wipe σ vs).set j (some x)) vs = wipe σ vs)
    (hs : ∀ (x : V) (H1 : Hp) (Q1 : VK), Bag H1 b → But b H H1 → (∀ (v : List Int) (a : Addr) (H2 : Hp), R v → Bag H2 b → But b H1 H2 → TupX H2 a (v.map V.int) → Q1 (.ref a) H2) → te ((wipe σ vs).set j (some x)) H1 Q1)
    (hq : ∀ (q : Addr) (rs : List Addr) (us : List (List Int)) (H1 : Hp), H q = none → us.length = n → (∀ v ∈ us, R v) → Bag H1 b → But b H H1 → H1 q = some (.lst (rs.map V.ref)) → Rows TupX H1 rs us → Qd q H1)
    (D : Addr) (hD : H D = none) :
    ∃ W : Nat → Nat → Hp → Prop, (∃ m, W 0 m (upd H D (.lst []))) ∧ ∀ i m H, W i m H →
      ((Itr 0 n).stop i H ∧ Qd D H) ∨ ((Itr 0 n).go i H ∧ ∃ Nx : Hp → Prop, (∀ H', Nx H' → ∃ m', m' < m ∧ W (i + 1) m' H') ∧ ∀ x H', (Itr 0 n).yld i H x H' → gName j x (wipe σ vs) H' fun σ2 H2 => wipe σ2 vs = wipe σ vs ∧ tYes σ2 H2 fun b H3 =>
        if b = true then te σ2 H3 fun y H4 => ∃ acc, H4 D = some (.lst acc) ∧ acc.length < sizeLine ∧ Nx (upd H4 D (.lst (acc ++ [y]))) else Nx H3) := by
  have nb := hb.ne hD
  refine ⟨fun i m H1 => m = n - i ∧ i ≤ n ∧ ∃ (rs : List Addr) (us : List (List Int)), us.length = i ∧ (∀ v ∈ us, R v) ∧ Bag H1 b ∧ But b H H1 ∧ H1 D = some (.lst (rs.map V.ref)) ∧ Rows TupX H1 rs us,
    ⟨n, rfl, Nat.zero_le _, [], [], rfl, (fun x h => by cases h), hb.put nb, butAdd (Rd.But.refl _ _) hD, upd_same, rfl, fun i a r h => by simp at h⟩, ?_⟩
  rintro i m H1 ⟨rfl, hi, rs, us, rfl, rg, hb1, e1, hL, RR⟩
  by_cases c : us.length < n
  · refine .inr ⟨c, fun H' => ∃ (rs' : List Addr) (us' : List (List Int)), us'.length = us.length + 1 ∧ (∀ v ∈ us', R v) ∧ Bag H' b ∧ But b H H' ∧ H' D = some (.lst (rs'.map V.ref)) ∧ Rows TupX H' rs' us', fun H' z => ⟨n - (us.length + 1), by omega, rfl, c, z⟩, fun x H' y => ?_⟩
    obtain ⟨rfl, _⟩ := y
    refine ⟨hw x, Rd.tyes (iteT (hs x _ _ hb1 e1 fun v a H2 v0 hb2 e2 ta => ?_))⟩
    have d2 := e2 _ _ nb.symm hL
    refine ⟨rs.map V.ref, d2, by rw [List.length_map, RR.len]; exact line_of (by omega), rs ++ [a], us ++ [v], by simp, fun x hx => ?_, hb2.put nb, butMut (e1.trans e2) hD, by rw [upd_same, List.map_append]; rfl, by rw [List.length_append, List.length_append, RR.len]; rfl, fun k a' r h1 h2 => ?_⟩
    · rcases List.mem_append.mp hx with h | h
      · exact rg x h
      · rw [List.mem_singleton.mp h]
        exact v0
    · by_cases cj : k < us.length
      · rw [List.getElem?_append_left (by rw [RR.len]; exact cj)] at h1
        rw [List.getElem?_append_left cj] at h2
        exact TupX.away (TupX.bg (RR.row k a' r h1 h2) hb1 e2) d2
      · rw [List.getElem?_append_right (by rw [RR.len]; omega), RR.len] at h1
        rw [List.getElem?_append_right (by omega)] at h2
        have z : k - us.length = 0 := by
          have := (List.getElem?_eq_some_iff.mp h1).1
          simp at this
          omega
        rw [z] at h1 h2
        cases h1
        cases h2
        exact TupX.away ta d2
  · have e : us.length = n := by omega
    exact .inl ⟨by show n ≤ us.length; omega, hq D rs us H1 hD e rg hb1 e1 hL RR⟩
end
def sp_integer : Sp := fun vs H Q _ => ∃ b : Addr, vs = [.ref b] ∧ Bag H b ∧ ∀ (v : Int) H', v.natAbs < 2 ^ 97 → Bag H' b → But b H H' → Q (.int v) H'
def sp_moduli : Sp := fun vs H Q _ => ∃ b : Addr, vs = [.ref b, .int 16] ∧ Bag H b ∧ ∀ (ms : List Int) (q : Addr) H', OkM ms → pr ms ≤ 16 → H q = none → Bag H' b → But b H H' → H' q = some (.lst (ms.map V.int)) → Q (.ref q) H'
def sp_images : Sp := fun vs H Q _ => ∃ (b a : Addr) (n : Nat) (ms : List Int), vs = [.ref b, .int (n : Nat), .ref a] ∧ Bag H b ∧ a ≠ b ∧ H a = some (.lst (ms.map V.int)) ∧ OkM ms ∧ pr ms ≤ 32 ∧ n ≤ 32 ∧ ∀ (us : List (List Int)) (rs : List Addr) (q : Addr) H', H q = none → Bag H' b → But b H H' → H' q = some (.lst (rs.map V.ref)) → ValsAt H' ms n rs us → Q (.ref q) H'
section
variable {P : Program} {w : World} {K : PySem.W.Frag} {mg : Str → Option Value} {base : Heap} {f : Addr} {fd : FuncData}
theorem sc__law_integer : FnScope ["bag"] ["bag"] (defScope s__law_integer) := ⟨rfl, rfl, rfl, by decide +kernel, rfl, by decide +kernel, by decide +kernel⟩
theorem ok_integer (F : FnP K "_law_integer" "_law_integer" s__law_integer f fd) (T : Txt K mg) (D__law_take : DOk P w K mg base CX0 "_law_take" 1 ["bag", "size"] sp_take) : FnOk P w K mg base CX0 2 f fd ["bag"] sp_integer := by
  refine F.ok sc__law_integer (fun vs H Q E h => ?_) (fun cdv A outer s H vs Q E hr h => ?_)
  · obtain ⟨_, rfl, _⟩ := h; rfl
  obtain ⟨b, rfl, hb, k⟩ := h
  refine ⟨_, PSs.nox (pss_cons (ps_if (pt_cmpR op_eq (callX D__law_take (hr.mono (by decide)) (passN) (pa_cons (pv 0) (pa_cons pe_int pa_nil))) pe_int (nomark _))
  (pss_one (ps_ret (pe_op op_mul (pe_op op_sub pe_int (pe_op op_mul pe_int (callX D__law_take (hr.mono (by decide)) (passN) (pa_cons (pv 0) (pa_cons pe_int pa_nil))))) (pe_op op_add (pe_op op_pow pe_int pe_int) (callX D__law_take (hr.mono (by decide)) (passN) (pa_cons (pv 0) (pa_cons pe_int pa_nil)))))))
  pss_nil)
  (pss_one (ps_ret (pe_op op_sub (callX D__law_take (hr.mono (by decide)) (passN) (pa_cons (pv 0) (pa_cons pe_int pa_nil))) pe_int)))), ?_⟩
  walk_at "st"
  refine ⟨b, 4, rfl, by decide, by decide, hb, fun v H1 v0 v1 hb1 e1 => ?_⟩
  walk_at "st"
  refine Rd.ite_d (fun c => ?_) (fun c => ?_)
  · walk_at "st"
    refine ⟨b, 2, rfl, by decide, by decide, hb1, fun u H2 u0 u1 hb2 e2 => ?_⟩
    walk_at "st"
    refine Rd.iC (.inl ⟨by decide, by decide⟩) ?_
    walk_at "st"
    refine Rd.iC ⟨by decide, by decide, by decide⟩ ?_
    walk_at "st"
    refine ⟨b, 1000000, rfl, by decide, by decide, hb2, fun z H3 z0 z1 hb3 e3 => ?_⟩
    walk_at "st"
    refine Rd.iC (.inl ⟨by omega, by omega⟩) ?_
    refine k _ _ ?_ hb3 (e1.trans (e2.trans e3))
    have h19 : (10 : Int) ^ (29 : Int).toNat = 100000000000000000000000000000 := by decide
    have h64 : (2 : Nat) ^ 97 = 158456325028528675187087900672 := by decide
    rw [h19, h64]
    obtain rfl | rfl : u = 0 ∨ u = 1 := by omega
    · rw [show (1 : Int) - 2 * 0 = 1 by decide, Int.one_mul]; omega
    · rw [show (1 : Int) - 2 * 1 = -1 by decide, Int.neg_mul, Int.one_mul]; omega
  · walk_at "st"
    refine ⟨b, 21, rfl, by decide, by decide, hb1, fun u H2 u0 u1 hb2 e2 => ?_⟩
    walk_at "st"
    refine k _ _ ?_ hb2 (e1.trans e2)
    have h64 : (2 : Nat) ^ 97 = 158456325028528675187087900672 := by decide
    rw [h64]
    omega
theorem sc__law_images : FnScope ["bag", "size", "moduli", "modulus", "x"] ["bag", "size", "moduli"] (defScope s__law_images) := ⟨rfl, rfl, rfl, by decide +kernel, rfl, by decide +kernel, by decide +kernel⟩
theorem ok_images (F : FnP K "_law_images" "_law_images" s__law_images f fd) (T : Txt K mg) (D__law_take : DOk P w K mg base CX0 "_law_take" 1 ["bag", "size"] sp_take) : FnOk P w K mg base CX0 2 f fd ["bag", "size", "moduli"] sp_images := by
  refine F.ok sc__law_images (fun vs H Q E h => ?_) (fun cdv A outer s H vs Q E hr h => ?_)
  · obtain ⟨_, _, _, _, rfl, _⟩ := h; rfl
  obtain ⟨b, a, n, ms, rfl, hb, na, ha, om, pm, n32, k⟩ := h
  have few := few_of om pm
  have m32 := m_le om pm
  refine ⟨_, PSs.nox (pss_one (ps_ret (pe_lc (own := [("x", 4)]) rfl sc__law_images.nd (pi_range1 rfl T.range (pa_cons (pv 1) pa_nil)) (blkOk_by (own := [("x", 4)]) (N := ["bag", "size", "moduli", "modulus", "x"]) (sc := defScope s__law_images) (by decide +kernel)) (fun _ _ _ _ _ => (pg_name (i := 4) sc__law_images.nd rfl (Or.inl rfl))) (fun _ _ _ _ _ => pts_nil) (fun _ _ _ _ _ => (pe_callTy (Rk.tup K) rfl T.tuple (by decide +kernel) (pa_cons (pe_lc (own := [("modulus", 3)]) rfl sc__law_images.nd (Rk.pl K rfl (pv 2)) (blkOk_by (own := [("modulus", 3)]) (N := ["bag", "size", "moduli", "modulus", "x"]) (sc := (relS { kind := .function, names := [(".0", .local), ("x", .local), ("tuple", .globalImplicit), ("bag", .free), ("moduli", .free)], isGenerator := false, isCoroutine := false } (defScope s__law_images))) (by decide +kernel)) (fun _ _ _ _ _ => (pg_name (i := 3) sc__law_images.nd rfl (Or.inl rfl))) (fun _ _ _ _ _ => pts_nil) (fun _ _ _ _ _ => (callX D__law_take (hr.mono (by decide)) (passN) (pa_cons (pv 0) (pa_cons (pv 3) pa_nil))))) pa_nil)))))), ?_⟩
  walk_at "st"
  refine ⟨by omega, by omega, ?_⟩
  rw [Int.toNat_natCast]
  refine lcBagT (Val ms) (b := b) (n := n) hb (by omega) (by intro _; rfl) (fun x H1 Q1 hb1 e1 q => ?_) (fun q rs us H1 hq lu ru hb1 e1 hL RR => ?_)
  · walk_at "st"
    have ha1 := e1 a _ na ha
    refine Rd.itl' (SqL.of ha1) ?_
    refine lcBagM (b := b) hb1 ha1 na (by omega) (by intro _; rfl) (fun m H2 Q2 hm hb2 q2 => ?_) (fun p ns H2 hp vn hb2 e2 h2 => ?_)
    · walk_at "st"
      have := om m hm
      have := m32 m hm
      exact ⟨b, m, rfl, by omega, by omega, hb2, fun v H3 v0 v1 hb3 e3 => q2 v H3 v0 v1 hb3 e3⟩
    · walk_at "st"
      refine ⟨p, _, rfl, .inl ⟨SqL.of h2, fun l ob hl hob => ?_⟩⟩
      have nl := hb2.ne hl
      exact q ns l _ vn (hb2.put nl) (butAdd e2 hl) (tX (TupN.mk hob))
  · exact k us rs q H1 hq hb1 e1 hL ⟨lu, RR, ru⟩
end
end K08

set_option Elab.async false
set_option linter.all false
set_option maxRecDepth 100000
set_option maxHeartbeats 4000000
namespace K08
open PySem L2 Rd GT
local macro_rules | `(tactic| walk_at "st1") => `(tactic| first | with_reducible refine' Rd.Stp.go ?_ | with_reducible refine' Rd.seq ?_)
local macro_rules | `(tactic| walk_at "st") => `(tactic| repeat (first | with_reducible refine' Rd.Stp.go ?_ | with_reducible refine' Rd.seq ?_ | ((with_reducible refine' Rd.nmR ?hr ?_); (case hr => repeat (first | exact Rd.SetR.zero | apply Rd.SetR.succ))) | ((with_reducible refine' Rd.var ?hv ?_); (case hv => rfl))))
local macro_rules | `(tactic| walk_at "sj") => `(tactic| repeat (first | with_reducible refine' Rd.Stp.go ?_ | with_reducible refine' Rd.seqA ?_ | with_reducible refine' Rd.seqD ?_ | with_reducible refine' Rd.seqF ?_ | with_reducible refine' Rd.seqW ?_ | ((with_reducible refine' Rd.nmR ?hr ?_); (case hr => repeat (first | exact Rd.SetR.zero | apply Rd.SetR.succ))) | ((with_reducible refine' Rd.var ?hv ?_); (case hv => rfl))))
local macro_rules | `(tactic| walk_at "sm") => `(tactic| first | exact Same.refl _ | assumption | (apply Rd.sm_tr; assumption; walk_at "sm") | fail)
local macro_rules | `(tactic| walk_at "fr") => `(tactic| with_reducible first
  | assumption
  | (apply Rd.fr_some; assumption; walk_at "fr") | (apply Rd.fr_tupN; assumption; walk_at "fr") | (apply Rd.fr_tupX; assumption; walk_at "fr")
  | (apply Rd.fr_grp; assumption; walk_at "fr") | (apply Rd.fr_rows; assumption; walk_at "fr") | (apply Rd.fr_rowL; assumption; walk_at "fr") | (apply Rd.fr_DD; assumption; walk_at "fr")
  | (apply Rd.fr_sqL; walk_at "fr") | fail)
theorem rep0 (n : Nat) : (List.replicate n [V.int 0]).flatten = (fl n fun _ => 0).map V.int := by
  rw [flat_rep]
  refine congrArg (List.map V.int) ?_
  unfold fl
  rw [List.map_const', List.length_range]
/-- the place that an element goes to -/
def pl (t : List (List Int)) (kind a x : Nat) : Nat := if kind = 0 then mul t x a else mul t a x
theorem pl_lt {t : List (List Int)} (S : Sq t) {a x : Nat} (ha : a < t.length) (hx : x < t.length) (kind : Nat) : pl t kind a x < t.length := by
  unfold pl
  by_cases c : kind = 0
  · rw [if_pos c]; exact S.mul_lt hx ha
  · rw [if_neg c]; exact S.mul_lt ha hx
def msG (t : List (List Int)) (cs : List Int) (kind a : Nat) (x y : Nat) : Int := (if y = pl t kind a x then cf cs x else 0) - (if kind < 2 then (if y = x then cf cs x else 0) else 0)
def msF (t : List (List Int)) (cs : List Int) (kind a : Nat) : List Int := fl t.length fun y => sm t.length fun x => msG t cs kind a x y
def mvF (t : List (List Int)) (ms : List Int) (us : List (List Int)) (kind a : Nat) : List (List Int) := (List.range t.length).map fun x => if kind < 2 then opV (fun x y => x - y) ms (vv us (pl t kind a x)) (vv us x) else vv us (pl t kind a x)
def atF (us : List (List Int)) (cs ms : List Int) : List Int := fl ms.length fun j => (sm us.length fun x => cf cs x * (vv us x).getD j 0) % ms.getD j 0
theorem ms_step (F : Nat → Int) (p i y : Nat) (c : Int) : (if y = i then (if i = p then F p + c else F i) - c else (if y = p then F p + c else F y)) = F y + ((if y = p then c else 0) - (if y = i then c else 0)) := by
  by_cases h1 : y = i
  · subst h1
    by_cases h2 : y = p
    · subst h2
      rw [if_pos rfl, if_pos rfl, if_pos rfl]; omega
    · rw [if_pos rfl, if_neg h2, if_neg h2, if_pos rfl]; omega
  · by_cases h2 : y = p
    · subst h2
      rw [if_neg h1, if_pos rfl, if_pos rfl, if_neg h1]; omega
    · rw [if_neg h1, if_neg h2, if_neg h2, if_neg h1]; omega
theorem ms_step2 (F : Nat → Int) (p y : Nat) (c : Int) : (if y = p then F p + c else F y) = F y + ((if y = p then c else 0) - 0) := by
  by_cases h2 : y = p
  · subst h2
    rw [if_pos rfl, if_pos rfl]; omega
  · rw [if_neg h2, if_neg h2]; omega
def sp_msum : Sp := fun vs H Q _ => ∃ (p c : Addr) (t : List (List Int)) (cs : List Int) (kind a : Nat), vs = [.ref p, .ref c, .int (kind : Nat), .int (a : Nat)] ∧ TabAt H p t ∧ Sq t ∧ t.length ≤ 33 ∧ H c = some (.lst (cs.map V.int)) ∧ cs.length = t.length ∧ a < t.length ∧
  ∀ (q : Addr) H', H q = none → Same H H' → H' q = some (.lst ((msF t cs kind a).map V.int)) → Q (.ref q) H'
def sp_lmoved : Sp := fun vs H Q _ => ∃ (p m c : Addr) (t : List (List Int)) (ms : List Int) (rs : List Addr) (us : List (List Int)) (kind a : Nat), vs = [.ref p, .ref m, .ref c, .int (kind : Nat), .int (a : Nat)] ∧ TabAt H p t ∧ Sq t ∧ t.length ≤ 33 ∧ H m = some (.lst (ms.map V.int)) ∧ OkM ms ∧ pr ms ≤ 32 ∧ H c = some (.lst (rs.map V.ref)) ∧ ValsAt H ms t.length rs us ∧ a < t.length ∧
  ∀ (q : Addr) (rs' : List Addr) H', H q = none → Same H H' → H' q = some (.lst (rs'.map V.ref)) → ValsAt H' ms t.length rs' (mvF t ms us kind a) → Q (.ref q) H'
def sp_at : Sp := fun vs H Q _ => ∃ (p c m : Addr) (n : Nat) (ms cs : List Int) (rs : List Addr) (us : List (List Int)), vs = [.ref p, .ref c, .ref m] ∧ H p = some (.lst (rs.map V.ref)) ∧ ValsAt H ms n rs us ∧ n ≤ 33 ∧ H c = some (.lst (cs.map V.int)) ∧ cs.length = n ∧ H m = some (.lst (ms.map V.int)) ∧ OkM ms ∧ pr ms ≤ 32 ∧
  ∀ r H', Same H H' → TupX H' r ((atF us cs ms).map V.int) → Q (.ref r) H'
section
variable {P : Program} {w : World} {K : PySem.W.Frag} {mg : Str → Option Value} {base : Heap} {f : Addr} {fd : FuncData}
theorem sc__law_moved_sum : FnScope ["table", "coefficients", "kind", "a", "result", "x", "place"] ["table", "coefficients", "kind", "a"] (defScope s__law_moved_sum) := ⟨rfl, rfl, rfl, by decide +kernel, rfl, by decide +kernel, by decide +kernel⟩
theorem ok_msum (F : FnP K "_law_moved_sum" "_law_moved_sum" s__law_moved_sum f fd) (T : Txt K mg) : FnOk P w K mg base CX0 1 f fd ["table", "coefficients", "kind", "a"] sp_msum := by
  refine F.ok sc__law_moved_sum (fun vs H Q E h => ?_) (fun cdv A outer s H vs Q E hr h => ?_)
  · obtain ⟨_, _, _, _, _, _, rfl, _⟩ := h; rfl
  obtain ⟨p, c, t, cs, kind, a, rfl, X, S, t33, hc, lc, ha, k⟩ := h
  obtain ⟨as, hp, R⟩ := X.ob
  refine ⟨_, PSs.nox (pss_cons (ps_set (i := 4) sc__law_moved_sum.nd rfl (Or.inl rfl) (pe_op op_rep (pe_lst (pa_cons pe_int pa_nil)) (pe_callB (Rk.len K) rfl T.len PySem.boot_len (pa_cons (pv 0) pa_nil))))
  (pss_cons (ps_for PassesOwn.never rfl (pi_range1 rfl T.range (pa_cons (pe_callB (Rk.len K) rfl T.len PySem.boot_len (pa_cons (pv 0) pa_nil)) pa_nil)) (pg_name (i := 5) sc__law_moved_sum.nd rfl (Or.inl rfl))
  (pss_cons (ps_set (i := 6) sc__law_moved_sum.nd rfl (Or.inl rfl) (pe_ix (Rk.ixL K) (pe_ix (Rk.ixL K) (pv 0) (pv 3) (fun _ _ => rfl)) (pv 5) (fun _ _ => rfl)))
  (pss_cons (ps_if (pt_cmpR op_eq (pv 2) pe_int (nomark _))
  (pss_one (ps_set (i := 6) sc__law_moved_sum.nd rfl (Or.inl rfl) (pe_ix (Rk.ixL K) (pe_ix (Rk.ixL K) (pv 0) (pv 5) (fun _ _ => rfl)) (pv 3) (fun _ _ => rfl))))
  pss_nil)
  (pss_cons (ps_asg (pe_op op_add (pe_ix (Rk.ixL K) (pv 4) (pv 6) (fun _ _ => rfl)) (pe_ix (Rk.ixL K) (pv 1) (pv 5) (fun _ _ => rfl))) (pg_sub (pv 4) (pv 6) set_list))
  (pss_one (ps_if (pt_cmpR op_lt (pv 2) pe_int (nomark _))
  (pss_one (ps_asg (pe_op op_sub (pe_ix (Rk.ixL K) (pv 4) (pv 5) (fun _ _ => rfl)) (pe_ix (Rk.ixL K) (pv 1) (pv 5) (fun _ _ => rfl))) (pg_sub (pv 4) (pv 5) set_list)))
  pss_nil))))))
  (pss_one (ps_ret (pv 4))))), ?_⟩
  walk_at "st"
  refine ⟨(by decide : 1 ≤ sizeLine), fun l0 hl0 => ?_⟩
  have e1 : Same H (upd H l0 (.lst [.int 0])) := Rd.same_mk hl0
  have h1 : (upd H l0 (.lst [.int 0])) l0 = some (.lst [.int 0]) := upd_same
  generalize upd H l0 (.lst [.int 0]) = H1 at e1 h1
  walk_at "st"
  refine Rd.len1 (.inl (SqL.of (e1 _ _ hp))) ?_
  walk_at "st"
  rw [List.length_map, R.len]
  refine ⟨l0, (t.length : Int), _, rfl, rfl, h1, by omega, by omega, by show 1 * (t.length : Int).toNat ≤ sizeLine; exact Nat.le_of_lt (line_of (by omega)), fun q hq => ?_⟩
  rw [rep0, Int.toNat_natCast]
  have hq0 := Same.free e1 hq
  have e2 : Same H (upd H1 q (.lst ((fl t.length fun _ => 0).map V.int))) := e1.trans (Rd.same_mk hq)
  have h2 : (upd H1 q (.lst ((fl t.length fun _ => 0).map V.int))) q = some (.lst ((fl t.length fun _ => 0).map V.int)) := upd_same
  generalize upd H1 q (.lst ((fl t.length fun _ => 0).map V.int)) = H2 at e2 h2
  walk_at "st"
  refine Rd.len1 (.inl (SqL.of (e2 _ _ hp))) ?_
  walk_at "st"
  rw [List.length_map, R.len]
  refine ⟨by omega, by omega, ?_⟩
  refine for_range (fun i σ H' => ∃ (v5 v6 : Option V), σ = [some (.ref p), some (.ref c), some (.int (kind : Nat)), some (.int (a : Nat)), some (.ref q), v5, v6] ∧ Same H H' ∧ H' q = some (.lst ((fl t.length fun y => sm i fun x => msG t cs kind a x y).map V.int)))
    ⟨none, none, rfl, e2, h2⟩ ?_ ?_
  · rintro i σ H3 hi ⟨v5, v6, rfl, e3, h3⟩
    have hi : i < t.length := by omega
    rw [Int.zero_add]
    have X3 := X.same e3
    have pk := pl_lt S ha hi kind
    walk_at "st"
    obtain ⟨cx, ca, cr, c1, c2, c3, c4⟩ := X3.cell (K := K) S ha hi
    refine Rd.ixL c1 c2 ?_
    walk_at "st"
    refine Rd.ixL c3 c4 ?_
    walk_at "st"
    refine Rd.ite_d (fun z0 => ?_) (fun z0 => ?_)
    · have z0 : kind = 0 := by omega
      walk_at "st"
      obtain ⟨cx, ca, cr, c1, c2, c3, c4⟩ := X3.cell (K := K) S hi ha
      refine Rd.ixL c1 c2 ?_
      walk_at "st"
      refine Rd.ixL c3 c4 ?_
      walk_at "st"
      have pk : mul t i a < t.length := S.mul_lt hi ha
      have hpl : mul t i a = pl t kind a i := by unfold pl; rw [if_pos z0]
      refine Rd.ixL (SqL.of h3) (at_of (j := mul t i a) rfl (map_get_int (fl_get pk))) ?_
      walk_at "st"
      refine Rd.ixL (SqL.of (e3 _ _ hc)) (at_of (j := i) rfl (map_get_int (cf_get (by omega)))) ?_
      walk_at "st"
      refine Rd.setL (j := mul t i a) h3 (ixN_of rfl (by rw [List.length_map, fl_len]; exact pk)) ?_
      rw [← List.map_set, fl_set pk]
      have e4 := Rd.same_mut (o := .lst ((fl t.length fun z => if z = mul t i a then (sm i fun x => msG t cs kind a x (mul t i a)) + cf cs i else sm i fun x => msG t cs kind a x z).map V.int)) e3 hq0
      have h4 : (upd H3 q (.lst ((fl t.length fun z => if z = mul t i a then (sm i fun x => msG t cs kind a x (mul t i a)) + cf cs i else sm i fun x => msG t cs kind a x z).map V.int))) q = _ := upd_same
      generalize upd H3 q (.lst ((fl t.length fun z => if z = mul t i a then (sm i fun x => msG t cs kind a x (mul t i a)) + cf cs i else sm i fun x => msG t cs kind a x z).map V.int)) = H4 at e4 h4
      walk_at "st"
      refine Rd.ite_d (fun c2 => ?_) (fun c2 => ?_)
      · have c2 : kind < 2 := by omega
        walk_at "st"
        refine Rd.ixL (SqL.of h4) (at_of (j := i) rfl (map_get_int (fl_get hi))) ?_
        walk_at "st"
        refine Rd.ixL (SqL.of (e4 _ _ hc)) (at_of (j := i) rfl (map_get_int (cf_get (by omega)))) ?_
        walk_at "st"
        refine Rd.setL (j := i) h4 (ixN_of rfl (by rw [List.length_map, fl_len]; exact hi)) ?_
        rw [← List.map_set, fl_set hi]
        walk_at "st"
        refine ⟨_, _, rfl, Rd.same_mut e4 hq0, ?_⟩
        rw [upd_same]
        refine congrArg (fun l => some (HO.lst (l.map V.int))) (fl_congr fun y _ => ?_)
        refine (ms_step (fun y => sm i fun x => msG t cs kind a x y) (mul t i a) i y (cf cs i)).trans ?_
        show _ = (sm i fun x => msG t cs kind a x y) + msG t cs kind a i y
        unfold msG
        rw [if_pos c2, ← hpl]
      · have c2 : ¬ kind < 2 := by omega
        walk_at "st"
        refine ⟨_, _, rfl, e4, ?_⟩
        rw [h4]
        refine congrArg (fun l => some (HO.lst (l.map V.int))) (fl_congr fun y _ => ?_)
        refine (ms_step2 (fun y => sm i fun x => msG t cs kind a x y) (mul t i a) y (cf cs i)).trans ?_
        show _ = (sm i fun x => msG t cs kind a x y) + msG t cs kind a i y
        unfold msG
        rw [if_neg c2, ← hpl]
    · have z0 : ¬ kind = 0 := by omega
      walk_at "st"
      have pk : mul t a i < t.length := S.mul_lt ha hi
      have hpl : mul t a i = pl t kind a i := by unfold pl; rw [if_neg z0]
      refine Rd.ixL (SqL.of h3) (at_of (j := mul t a i) rfl (map_get_int (fl_get pk))) ?_
      walk_at "st"
      refine Rd.ixL (SqL.of (e3 _ _ hc)) (at_of (j := i) rfl (map_get_int (cf_get (by omega)))) ?_
      walk_at "st"
      refine Rd.setL (j := mul t a i) h3 (ixN_of rfl (by rw [List.length_map, fl_len]; exact pk)) ?_
      rw [← List.map_set, fl_set pk]
      have e4 := Rd.same_mut (o := .lst ((fl t.length fun z => if z = mul t a i then (sm i fun x => msG t cs kind a x (mul t a i)) + cf cs i else sm i fun x => msG t cs kind a x z).map V.int)) e3 hq0
      have h4 : (upd H3 q (.lst ((fl t.length fun z => if z = mul t a i then (sm i fun x => msG t cs kind a x (mul t a i)) + cf cs i else sm i fun x => msG t cs kind a x z).map V.int))) q = _ := upd_same
      generalize upd H3 q (.lst ((fl t.length fun z => if z = mul t a i then (sm i fun x => msG t cs kind a x (mul t a i)) + cf cs i else sm i fun x => msG t cs kind a x z).map V.int)) = H4 at e4 h4
      walk_at "st"
      refine Rd.ite_d (fun c2 => ?_) (fun c2 => ?_)
      · have c2 : kind < 2 := by omega
        walk_at "st"
        refine Rd.ixL (SqL.of h4) (at_of (j := i) rfl (map_get_int (fl_get hi))) ?_
        walk_at "st"
        refine Rd.ixL (SqL.of (e4 _ _ hc)) (at_of (j := i) rfl (map_get_int (cf_get (by omega)))) ?_
        walk_at "st"
        refine Rd.setL (j := i) h4 (ixN_of rfl (by rw [List.length_map, fl_len]; exact hi)) ?_
        rw [← List.map_set, fl_set hi]
        walk_at "st"
        refine ⟨_, _, rfl, Rd.same_mut e4 hq0, ?_⟩
        rw [upd_same]
        refine congrArg (fun l => some (HO.lst (l.map V.int))) (fl_congr fun y _ => ?_)
        refine (ms_step (fun y => sm i fun x => msG t cs kind a x y) (mul t a i) i y (cf cs i)).trans ?_
        show _ = (sm i fun x => msG t cs kind a x y) + msG t cs kind a i y
        unfold msG
        rw [if_pos c2, ← hpl]
      · have c2 : ¬ kind < 2 := by omega
        walk_at "st"
        refine ⟨_, _, rfl, e4, ?_⟩
        rw [h4]
        refine congrArg (fun l => some (HO.lst (l.map V.int))) (fl_congr fun y _ => ?_)
        refine (ms_step2 (fun y => sm i fun x => msG t cs kind a x y) (mul t a i) y (cf cs i)).trans ?_
        show _ = (sm i fun x => msG t cs kind a x y) + msG t cs kind a i y
        unfold msG
        rw [if_neg c2, ← hpl]
  · rintro σ H3 ⟨v5, v6, rfl, e3, h3⟩
    walk_at "st"
    refine k q _ hq0 e3 ?_
    rw [h3, Int.toNat_natCast]; rfl
end
end K08

set_option Elab.async false
set_option linter.all false
set_option maxRecDepth 100000
set_option maxHeartbeats 4000000
namespace K08
open PySem L2 Rd GT
local macro_rules | `(tactic| walk_at "st1") => `(tactic| first | with_reducible refine' Rd.Stp.go ?_ | with_reducible refine' Rd.seq ?_)
local macro_rules | `(tactic| walk_at "st") => `(tactic| repeat (first | with_reducible refine' Rd.Stp.go ?_ | with_reducible refine' Rd.seq ?_ | ((with_reducible refine' Rd.nmR ?hr ?_); (case hr => repeat (first | exact Rd.SetR.zero | apply Rd.SetR.succ))) | ((with_reducible refine' Rd.var ?hv ?_); (case hv => rfl))))
local macro_rules | `(tactic| walk_at "sj") => `(tactic| repeat (first | with_reducible refine' Rd.Stp.go ?_ | with_reducible refine' Rd.seqA ?_ | with_reducible refine' Rd.seqD ?_ | with_reducible refine' Rd.seqF ?_ | with_reducible refine' Rd.seqW ?_ | ((with_reducible refine' Rd.nmR ?hr ?_); (case hr => repeat (first | exact Rd.SetR.zero | apply Rd.SetR.succ))) | ((with_reducible refine' Rd.var ?hv ?_); (case hv => rfl))))
local macro_rules | `(tactic| walk_at "sm") => `(tactic| first | exact Same.refl _ | assumption | (apply Rd.sm_tr; assumption; walk_at "sm") | fail)
local macro_rules | `(tactic| walk_at "fr") => `(tactic| with_reducible first
  | assumption
  | (apply Rd.fr_some; assumption; walk_at "fr") | (apply Rd.fr_tupN; assumption; walk_at "fr") | (apply Rd.fr_tupX; assumption; walk_at "fr")
  | (apply Rd.fr_grp; assumption; walk_at "fr") | (apply Rd.fr_rows; assumption; walk_at "fr") | (apply Rd.fr_rowL; assumption; walk_at "fr") | (apply Rd.fr_DD; assumption; walk_at "fr")
  | (apply Rd.fr_sqL; walk_at "fr") | fail)
theorem rg_at {n j : Nat} {y : V} (h : (rgL 0 n)[j]? = some y) : y = .int (j : Nat) ∧ j < n := by
  have hj : j < n := by
    have := (List.getElem?_eq_some_iff.mp h).1
    rw [Rd.rgL_len] at this
    exact this
  refine ⟨?_, hj⟩
  unfold rgL at h
  rw [List.getElem?_map, List.getElem?_range hj] at h
  cases h
  simp
/-- a row more -/
theorem addRow {H H' : Hp} {q : Addr} {xs : List V} {ra : List Addr} {f : Nat → List Int} {i : Nat} {l : Addr} {r : List Int} {o : HO} (e : Same H H') (h : H q = some (.lst xs)) (R : Rows TupX H ra ((List.range i).map f)) (lr : ra.length = i) (t : TupX H' l (r.map V.int)) (fr : f i = r) : Rows TupX (upd H' q o) (ra ++ [l]) ((List.range (i + 1)).map f) := by
  have d := e _ _ h
  refine ⟨by rw [List.length_append, lr, List.length_map, List.length_range]; rfl, fun j b r' h1 h2 => ?_⟩
  rw [List.range_succ, List.map_append] at h2
  by_cases cj : j < i
  · rw [List.getElem?_append_left (by omega)] at h1
    rw [List.getElem?_append_left (by rw [List.length_map, List.length_range]; exact cj)] at h2
    exact TupX.away (TupX.same (R.row j b r' h1 h2) e) d
  · rw [List.getElem?_append_right (by omega), lr] at h1
    rw [List.getElem?_append_right (by rw [List.length_map, List.length_range]; omega), List.length_map, List.length_range] at h2
    have z : j - i = 0 := by
      have := (List.getElem?_eq_some_iff.mp h1).1
      simp at this
      omega
    rw [z] at h1 h2
    cases h1
    cases h2
    rw [fr]
    exact TupX.away t d
theorem mvF_ok {t : List (List Int)} {ms : List Int} {us : List (List Int)} {kind a : Nat} (S : Sq t) (ha : a < t.length) (om : OkM ms) (lu : us.length = t.length) (hu : ∀ v ∈ us, Val ms v) : ∀ v ∈ mvF t ms us kind a, Val ms v := by
  intro v h
  obtain ⟨i, hi, rfl⟩ := List.mem_map.mp h
  rw [List.mem_range] at hi
  have h1 := hu _ (vv_mem (vs := us) (i := pl t kind a i) (by rw [lu]; exact pl_lt S ha hi kind))
  have h2 := hu _ (vv_mem (vs := us) (i := i) (by omega))
  by_cases c : kind < 2
  · rw [if_pos c]; exact opV_val _ om h1.len h2.len
  · rw [if_neg c]; exact h1
theorem mvF_len (t : List (List Int)) (ms : List Int) (us : List (List Int)) (kind a : Nat) : (mvF t ms us kind a).length = t.length := by unfold mvF; rw [List.length_map, List.length_range]
section
variable {P : Program} {w : World} {K : PySem.W.Frag} {mg : Str → Option Value} {base : Heap} {f : Addr} {fd : FuncData}
theorem sc__law_moved : FnScope ["table", "moduli", "images", "kind", "a", "result", "x", "moved", "j"] ["table", "moduli", "images", "kind", "a"] (defScope s__law_moved) := ⟨rfl, rfl, rfl, by decide +kernel, rfl, by decide +kernel, by decide +kernel⟩
theorem ok_lmoved (F : FnP K "_law_moved" "_law_moved" s__law_moved f fd) (T : Txt K mg) : FnOk P w K mg base CX0 1 f fd ["table", "moduli", "images", "kind", "a"] sp_lmoved := by
  refine F.ok sc__law_moved (fun vs H Q E h => ?_) (fun cdv A outer s H vs Q E hr h => ?_)
  · obtain ⟨_, _, _, _, _, _, _, _, _, rfl, _⟩ := h; rfl
  obtain ⟨p, m, c, t, ms, rs, us, kind, a, rfl, X, S, t33, hm, om, pm, hc, V0, ha, k⟩ := h
  obtain ⟨as, hp, R⟩ := X.ob
  have few := few_of om pm
  have lu := V0.len
  refine ⟨_, PSs.nox (pss_cons (ps_set (i := 5) sc__law_moved.nd rfl (Or.inl rfl) (pe_lst pa_nil))
  (pss_cons (ps_for PassesOwn.never rfl (pi_range1 rfl T.range (pa_cons (pe_callB (Rk.len K) rfl T.len PySem.boot_len (pa_cons (pv 0) pa_nil)) pa_nil)) (pg_name (i := 6) sc__law_moved.nd rfl (Or.inr rfl))
  (pss_cons (ps_set (i := 7) sc__law_moved.nd rfl (Or.inr rfl) (pe_ix (Rk.ixL K) (pv 2) (pe_ix (Rk.ixL K) (pe_ix (Rk.ixL K) (pv 0) (pv 4) (fun _ _ => rfl)) (pv 6) (fun _ _ => rfl)) (fun _ _ => rfl)))
  (pss_cons (ps_if (pt_cmpR op_eq (pv 3) pe_int (nomark _))
  (pss_one (ps_set (i := 7) sc__law_moved.nd rfl (Or.inr rfl) (pe_ix (Rk.ixL K) (pv 2) (pe_ix (Rk.ixL K) (pe_ix (Rk.ixL K) (pv 0) (pv 6) (fun _ _ => rfl)) (pv 4) (fun _ _ => rfl)) (fun _ _ => rfl))))
  pss_nil)
  (pss_cons (ps_if (pt_cmpR op_lt (pv 3) pe_int (nomark _))
  (pss_one (ps_set (i := 7) sc__law_moved.nd rfl (Or.inr rfl) (pe_callTy (Rk.tup K) rfl T.tuple (by decide +kernel) (pa_cons (pe_lc (own := [("j", 8)]) rfl sc__law_moved.nd (pi_range1 rfl T.range (pa_cons (pe_callB (Rk.len K) rfl T.len PySem.boot_len (pa_cons (pv 1) pa_nil)) pa_nil)) (blkOk_by (own := [("j", 8)]) (N := ["table", "moduli", "images", "kind", "a", "result", "x", "moved", "j"]) (sc := defScope s__law_moved) (by decide +kernel)) (fun _ _ _ _ _ => (pg_name (i := 8) sc__law_moved.nd rfl (Or.inl rfl))) (fun _ _ _ _ _ => pts_nil) (fun _ _ _ _ _ => (pe_op op_mod (pe_callTy call_int1 rfl T.int (by decide +kernel) (pa_cons (pe_op op_sub (pe_ix (Rk.ixT K) (pv 7) (pv 8) (fun _ _ => rfl)) (pe_ix (Rk.ixT K) (pe_ix (Rk.ixL K) (pv 2) (pv 6) (fun _ _ => rfl)) (pv 8) (fun _ _ => rfl))) pa_nil)) (pe_ix (Rk.ixL K) (pv 1) (pv 8) (fun _ _ => rfl))))) pa_nil))))
  pss_nil)
  (pss_one (ps_expr (Rk.bm K rfl PySem.F.plainAttrs_list PySem.F.slot_list_append PySem.F.type_list_append mt_append (pv 5) (pa_cons (pv 7) pa_nil))))))))
  (pss_one (ps_ret (pv 5))))), ?_⟩
  walk_at "st"
  refine ⟨(by decide : 0 ≤ sizeLine), fun q hq => ?_⟩
  walk_at "st"
  have e1 : Same H (upd H q (.lst [])) := Rd.same_mk hq
  refine Rd.len1 (.inl (SqL.of (e1 _ _ hp))) ?_
  walk_at "st"
  rw [List.length_map, R.len]
  refine ⟨by omega, by omega, ?_⟩
  have hq0 := hq
  refine for_range (fun i σ H' => ∃ (v6 v7 v8 : Option V) (rs2 : List Addr), σ = [some (.ref p), some (.ref m), some (.ref c), some (.int (kind : Nat)), some (.int (a : Nat)), some (.ref q), v6, v7, v8] ∧ Same H H' ∧ H' q = some (.lst (rs2.map V.ref)) ∧ Rows TupX H' rs2 ((List.range i).map fun x => if kind < 2 then opV (fun x y => x - y) ms (vv us (pl t kind a x)) (vv us x) else vv us (pl t kind a x)) ∧ rs2.length = i)
    ⟨none, none, none, [], rfl, e1, upd_same, ⟨rfl, fun i a r h => by simp at h⟩, rfl⟩ ?_ ?_
  · rintro i σ H3 hi ⟨v6, v7, v8, rs2, rfl, e3, h3, RR, lrs⟩
    have hi : i < t.length := by omega
    have hiu : i < us.length := by omega
    rw [Int.zero_add]
    have X3 := X.same e3
    have V3 := V0.same e3
    walk_at "st"
    obtain ⟨cx, ca, cr, c1, c2, c3, c4⟩ := X3.cell (K := K) S ha hi
    refine Rd.ixL c1 c2 ?_
    walk_at "st"
    refine Rd.ixL c3 c4 ?_
    have pk0 : mul t a i < us.length := by have := S.mul_lt ha hi; omega
    obtain ⟨rb0, r0, g10, g20, g30⟩ := V3.rows.get pk0
    refine Rd.ixL (SqL.of (e3 _ _ hc)) (at_of (j := mul t a i) rfl (by rw [List.getElem?_map, g10]; rfl)) ?_
    walk_at "st"
    refine Rd.ite_d (fun z0 => ?_) (fun z0 => ?_)
    · have z0 : kind = 0 := by omega
      walk_at "st"
      obtain ⟨cx, ca, cr, c1, c2, c3, c4⟩ := X3.cell (K := K) S hi ha
      refine Rd.ixL c1 c2 ?_
      walk_at "st"
      refine Rd.ixL c3 c4 ?_
      have pk : mul t i a < us.length := by have := S.mul_lt hi ha; omega
      have hpl : mul t i a = pl t kind a i := by unfold pl; rw [if_pos z0]
      obtain ⟨rb, r, g1, g2, g3⟩ := V3.rows.get pk
      refine Rd.ixL (SqL.of (e3 _ _ hc)) (at_of (j := mul t i a) rfl (by rw [List.getElem?_map, g1]; rfl)) ?_
      walk_at "st"
      refine Rd.ite_d (fun c2 => ?_) (fun c2 => ?_)
      · have c2 : kind < 2 := by omega
        walk_at "st"
        refine Rd.len1 (.inl (SqL.of (e3 _ _ hm))) ?_
        walk_at "st"
        rw [List.length_map]
        refine ⟨by omega, by omega, ?_⟩
        rw [Int.toNat_natCast]
        obtain ⟨rc, r2, g4, g5, g6⟩ := V3.rows.get hiu
        have lr := (V3.ok r (List.mem_of_getElem? g2)).len
        have lr2 := (V3.ok r2 (List.mem_of_getElem? g5)).len
        refine Rd.lcMap (fun j => .int ((r.getD j 0 - r2.getD j 0) % ms.getD j 0)) (Rd.src_rng _ _ _) (by rw [Rd.rgL_len]; omega) (by intro _; rfl) (fun j y H6 Q1 hy e6 q1 => ?_) (fun p6 H6 hp6 e6 h6 => ?_)
        · obtain ⟨rfl, hj⟩ := rg_at hy
          have hm1 : ms[j]? = some (ms[j]'hj) := List.getElem?_eq_getElem hj
          have hr1 : r[j]? = some (r[j]'(by omega)) := List.getElem?_eq_getElem (by omega)
          have hr2 : r2[j]? = some (r2[j]'(by omega)) := List.getElem?_eq_getElem (by omega)
          rw [getD_of hm1, getD_of hr1, getD_of hr2] at q1
          have m2 := om _ (List.mem_of_getElem? hm1)
          have e7 := e3.trans e6
          walk_at "st"
          refine Rd.ixT (TupX.sq (TupX.same g3 e6)) (at_of (j := j) rfl (map_get_int hr1)) ?_
          walk_at "st"
          refine Rd.ixL (SqL.of (e7 _ _ hc)) (at_of (j := i) rfl (by rw [List.getElem?_map, g4]; rfl)) ?_
          walk_at "st"
          refine Rd.ixT (TupX.sq (TupX.same g6 e6)) (at_of (j := j) rfl (map_get_int hr2)) ?_
          walk_at "st"
          refine Rd.ixL (SqL.of (e7 _ _ hm)) (at_of (j := j) rfl (map_get_int hm1)) ?_
          refine Rd.iC (by omega) ?_
          exact q1 _ (Same.refl _)
        · walk_at "st"
          rw [Rd.rgL_len, map_in, opV_row (f := fun x y => x - y) lr lr2] at h6
          refine ⟨p6, _, rfl, .inl ⟨SqL.of h6, fun l ob hl hob => ?_⟩⟩
          have e7 := (e3.trans e6).trans (Rd.same_mk (o := .frz ob (.tup ((opV (fun x y => x - y) ms r r2).map V.int))) hl)
          have s7 := e6.trans (Rd.same_mk (o := .frz ob (.tup ((opV (fun x y => x - y) ms r r2).map V.int))) hl)
          have tl := tX (TupN.mk (H := H6) (a := l) (xs := (opV (fun x y => x - y) ms r r2).map V.int) hob)
          generalize upd H6 l (.frz ob (.tup ((opV (fun x y => x - y) ms r r2).map V.int))) = H7 at e7 s7 tl
          walk_at "st"
          refine Rd.tyL (s7 _ _ h3) ?_
          walk_at "st"
          refine Rd.app (s7 _ _ h3) (by rw [List.length_map, lrs]; exact line_of (by omega)) ?_
          walk_at "st"
          refine ⟨_, _, _, rs2 ++ [l], rfl, Rd.same_mut e7 hq0, ?_, addRow s7 h3 RR lrs tl ?_, by rw [List.length_append, lrs]; rfl⟩
          · rw [upd_same, List.map_append]; rfl
          · rw [if_pos c2, ← hpl, vv_of g2, vv_of g5]
      · have c2 : ¬ kind < 2 := by omega
        walk_at "st"
        refine Rd.tyL h3 ?_
        walk_at "st"
        refine Rd.app h3 (by rw [List.length_map, lrs]; exact line_of (by omega)) ?_
        walk_at "st"
        refine ⟨_, _, _, rs2 ++ [rb], rfl, Rd.same_mut e3 hq0, ?_, addRow (Same.refl _) h3 RR lrs g3 ?_, by rw [List.length_append, lrs]; rfl⟩
        · rw [upd_same, List.map_append]; rfl
        · rw [if_neg c2, ← hpl, vv_of g2]
    · have z0 : ¬ kind = 0 := by omega
      have hpl : mul t a i = pl t kind a i := by unfold pl; rw [if_neg z0]
      have g1 := g10
      have g2 := g20
      have g3 := g30
      walk_at "st"
      refine Rd.ite_d (fun c2 => ?_) (fun c2 => ?_)
      · have c2 : kind < 2 := by omega
        walk_at "st"
        refine Rd.len1 (.inl (SqL.of (e3 _ _ hm))) ?_
        walk_at "st"
        rw [List.length_map]
        refine ⟨by omega, by omega, ?_⟩
        rw [Int.toNat_natCast]
        obtain ⟨rc, r2, g4, g5, g6⟩ := V3.rows.get hiu
        have lr := (V3.ok r0 (List.mem_of_getElem? g2)).len
        have lr2 := (V3.ok r2 (List.mem_of_getElem? g5)).len
        refine Rd.lcMap (fun j => .int ((r0.getD j 0 - r2.getD j 0) % ms.getD j 0)) (Rd.src_rng _ _ _) (by rw [Rd.rgL_len]; omega) (by intro _; rfl) (fun j y H6 Q1 hy e6 q1 => ?_) (fun p6 H6 hp6 e6 h6 => ?_)
        · obtain ⟨rfl, hj⟩ := rg_at hy
          have hm1 : ms[j]? = some (ms[j]'hj) := List.getElem?_eq_getElem hj
          have hr1 : r0[j]? = some (r0[j]'(by omega)) := List.getElem?_eq_getElem (by omega)
          have hr2 : r2[j]? = some (r2[j]'(by omega)) := List.getElem?_eq_getElem (by omega)
          rw [getD_of hm1, getD_of hr1, getD_of hr2] at q1
          have m2 := om _ (List.mem_of_getElem? hm1)
          have e7 := e3.trans e6
          walk_at "st"
          refine Rd.ixT (TupX.sq (TupX.same g3 e6)) (at_of (j := j) rfl (map_get_int hr1)) ?_
          walk_at "st"
          refine Rd.ixL (SqL.of (e7 _ _ hc)) (at_of (j := i) rfl (by rw [List.getElem?_map, g4]; rfl)) ?_
          walk_at "st"
          refine Rd.ixT (TupX.sq (TupX.same g6 e6)) (at_of (j := j) rfl (map_get_int hr2)) ?_
          walk_at "st"
          refine Rd.ixL (SqL.of (e7 _ _ hm)) (at_of (j := j) rfl (map_get_int hm1)) ?_
          refine Rd.iC (by omega) ?_
          exact q1 _ (Same.refl _)
        · walk_at "st"
          rw [Rd.rgL_len, map_in, opV_row (f := fun x y => x - y) lr lr2] at h6
          refine ⟨p6, _, rfl, .inl ⟨SqL.of h6, fun l ob hl hob => ?_⟩⟩
          have e7 := (e3.trans e6).trans (Rd.same_mk (o := .frz ob (.tup ((opV (fun x y => x - y) ms r0 r2).map V.int))) hl)
          have s7 := e6.trans (Rd.same_mk (o := .frz ob (.tup ((opV (fun x y => x - y) ms r0 r2).map V.int))) hl)
          have tl := tX (TupN.mk (H := H6) (a := l) (xs := (opV (fun x y => x - y) ms r0 r2).map V.int) hob)
          generalize upd H6 l (.frz ob (.tup ((opV (fun x y => x - y) ms r0 r2).map V.int))) = H7 at e7 s7 tl
          walk_at "st"
          refine Rd.tyL (s7 _ _ h3) ?_
          walk_at "st"
          refine Rd.app (s7 _ _ h3) (by rw [List.length_map, lrs]; exact line_of (by omega)) ?_
          walk_at "st"
          refine ⟨_, _, _, rs2 ++ [l], rfl, Rd.same_mut e7 hq0, ?_, addRow s7 h3 RR lrs tl ?_, by rw [List.length_append, lrs]; rfl⟩
          · rw [upd_same, List.map_append]; rfl
          · rw [if_pos c2, ← hpl, vv_of g2, vv_of g5]
      · have c2 : ¬ kind < 2 := by omega
        walk_at "st"
        refine Rd.tyL h3 ?_
        walk_at "st"
        refine Rd.app h3 (by rw [List.length_map, lrs]; exact line_of (by omega)) ?_
        walk_at "st"
        refine ⟨_, _, _, rs2 ++ [rb0], rfl, Rd.same_mut e3 hq0, ?_, addRow (Same.refl _) h3 RR lrs g3 ?_, by rw [List.length_append, lrs]; rfl⟩
        · rw [upd_same, List.map_append]; rfl
        · rw [if_neg c2, ← hpl, vv_of g2]
  · rintro σ H3 ⟨v6, v7, v8, rs2, rfl, e3, h3, RR, lrs⟩
    walk_at "st"
    rw [Int.toNat_natCast] at RR
    exact k q rs2 _ hq0 e3 h3 ⟨mvF_len t ms us kind a, RR, mvF_ok S ha om lu V0.ok⟩
end
end K08

set_option Elab.async false
set_option linter.all false
set_option maxRecDepth 100000
set_option maxHeartbeats 4000000
namespace K08
open PySem L2 Rd GT
local macro_rules | `(tactic| walk_at "st1") => `(tactic| first | with_reducible refine' Rd.Stp.go ?_ | with_reducible refine' Rd.seq ?_)
local macro_rules | `(tactic| walk_at "st") => `(tactic| repeat (first | with_reducible refine' Rd.Stp.go ?_ | with_reducible refine' Rd.seq ?_ | ((with_reducible refine' Rd.nmR ?hr ?_); (case hr => repeat (first | exact Rd.SetR.zero | apply Rd.SetR.succ))) | ((with_reducible refine' Rd.var ?hv ?_); (case hv => rfl))))
local macro_rules | `(tactic| walk_at "sj") => `(tactic| repeat (first | with_reducible refine' Rd.Stp.go ?_ | with_reducible refine' Rd.seqA ?_ | with_reducible refine' Rd.seqD ?_ | with_reducible refine' Rd.seqF ?_ | with_reducible refine' Rd.seqW ?_ | ((with_reducible refine' Rd.nmR ?hr ?_); (case hr => repeat (first | exact Rd.SetR.zero | apply Rd.SetR.succ))) | ((with_reducible refine' Rd.var ?hv ?_); (case hv => rfl))))
local macro_rules | `(tactic| walk_at "sm") => `(tactic| first | exact Same.refl _ | assumption | (apply Rd.sm_tr; assumption; walk_at "sm") | fail)
local macro_rules | `(tactic| walk_at "fr") => `(tactic| with_reducible first
  | assumption
  | (apply Rd.fr_some; assumption; walk_at "fr") | (apply Rd.fr_tupN; assumption; walk_at "fr") | (apply Rd.fr_tupX; assumption; walk_at "fr")
  | (apply Rd.fr_grp; assumption; walk_at "fr") | (apply Rd.fr_rows; assumption; walk_at "fr") | (apply Rd.fr_rowL; assumption; walk_at "fr") | (apply Rd.fr_DD; assumption; walk_at "fr")
  | (apply Rd.fr_sqL; walk_at "fr") | fail)
theorem sum_map (n : Nat) (f : Nat → Int) : ((List.range n).map f).sum = sm n f := (sm_list f n).symm
section
variable {P : Program} {w : World} {K : PySem.W.Frag} {mg : Str → Option Value} {base : Heap} {f : Addr} {fd : FuncData}
theorem sc__law_at : FnScope ["images", "coefficients", "moduli", "value", "j", "x"] ["images", "coefficients", "moduli"] (defScope s__law_at) := ⟨rfl, rfl, rfl, by decide +kernel, rfl, by decide +kernel, by decide +kernel⟩
theorem ok_at (F : FnP K "_law_at" "_law_at" s__law_at f fd) (T : Txt K mg) : FnOk P w K mg base CX0 1 f fd ["images", "coefficients", "moduli"] sp_at := by
  refine F.ok sc__law_at (fun vs H Q E h => ?_) (fun cdv A outer s H vs Q E hr h => ?_)
  · obtain ⟨_, _, _, _, _, _, _, _, rfl, _⟩ := h; rfl
  obtain ⟨p, c, m, n, ms, cs, rs, us, rfl, hp, V0, n33, hc, lc, hm, om, pm, k⟩ := h
  have few := few_of om pm
  have m32 := m_le om pm
  have lu := V0.len
  have lr := V0.rows.len
  refine ⟨_, PSs.nox (pss_cons (ps_set (i := 3) sc__law_at.nd rfl (Or.inl rfl) (pe_lst pa_nil))
  (pss_cons (ps_for PassesOwn.never rfl (pi_range1 rfl T.range (pa_cons (pe_callB (Rk.len K) rfl T.len PySem.boot_len (pa_cons (pv 2) pa_nil)) pa_nil)) (pg_name (i := 4) sc__law_at.nd rfl (Or.inr rfl))
  (pss_one (ps_expr (Rk.bm K rfl PySem.F.plainAttrs_list PySem.F.slot_list_append PySem.F.type_list_append mt_append (pv 3) (pa_cons (pe_op op_mod (pe_callTy call_int1 rfl T.int (by decide +kernel) (pa_cons (pe_callB (Rk.sum K rfl rfl) rfl T.sum (by decide +kernel) (pa_cons (pe_lc (own := [("x", 5)]) rfl sc__law_at.nd (pi_range1 rfl T.range (pa_cons (pe_callB (Rk.len K) rfl T.len PySem.boot_len (pa_cons (pv 0) pa_nil)) pa_nil)) (blkOk_by (own := [("x", 5)]) (N := ["images", "coefficients", "moduli", "value", "j", "x"]) (sc := defScope s__law_at) (by decide +kernel)) (fun _ _ _ _ _ => (pg_name (i := 5) sc__law_at.nd rfl (Or.inl rfl))) (fun _ _ _ _ _ => pts_nil) (fun _ _ _ _ _ => (pe_op op_mul (pe_ix (Rk.ixL K) (pv 1) (pv 5) (fun _ _ => rfl)) (pe_ix (Rk.ixT K) (pe_ix (Rk.ixL K) (pv 0) (pv 5) (fun _ _ => rfl)) (pv 4) (fun _ _ => rfl))))) pa_nil)) pa_nil)) (pe_ix (Rk.ixL K) (pv 2) (pv 4) (fun _ _ => rfl))) pa_nil)))))
  (pss_one (ps_ret (pe_callTy (Rk.tup K) rfl T.tuple (by decide +kernel) (pa_cons (pv 3) pa_nil)))))), ?_⟩
  walk_at "st"
  refine ⟨(by decide : 0 ≤ sizeLine), fun q hq => ?_⟩
  walk_at "st"
  have e1 : Same H (upd H q (.lst [])) := Rd.same_mk hq
  refine Rd.len1 (.inl (SqL.of (e1 _ _ hm))) ?_
  walk_at "st"
  rw [List.length_map]
  refine ⟨by omega, by omega, ?_⟩
  refine for_range (fun j σ H' => ∃ (v4 v5 : Option V), σ = [some (.ref p), some (.ref c), some (.ref m), some (.ref q), v4, v5] ∧ Same H H' ∧ H' q = some (.lst ((fl j fun j => (sm us.length fun x => cf cs x * (vv us x).getD j 0) % ms.getD j 0).map V.int)))
    ⟨none, none, rfl, e1, upd_same⟩ ?_ ?_
  · rintro j σ H3 hj ⟨v4, v5, rfl, e3, h3⟩
    have hj : j < ms.length := by omega
    rw [Int.zero_add]
    walk_at "st"
    refine Rd.tyL h3 ?_
    walk_at "st"
    refine Rd.len1 (.inl (SqL.of (e3 _ _ hp))) ?_
    walk_at "st"
    rw [List.length_map, lr]
    refine ⟨by omega, by omega, ?_⟩
    rw [Int.toNat_natCast]
    have hm1 : ms[j]? = some (ms[j]'hj) := List.getElem?_eq_getElem hj
    have m2 := om _ (List.mem_of_getElem? hm1)
    refine Rd.lcMap (fun x => .int (cf cs x * (vv us x).getD j 0)) (Rd.src_rng _ _ _) (by rw [Rd.rgL_len]; omega) (by intro _; rfl) (fun x y H6 Q1 hy e6 q1 => ?_) (fun p6 H6 hp6 e6 h6 => ?_)
    · obtain ⟨rfl, hx⟩ := rg_at hy
      obtain ⟨ra, r, g1, g2, g3⟩ := V0.rows.get hx
      have vr := V0.ok r (List.mem_of_getElem? g2)
      have rl := vr.len
      have hr1 : r[j]? = some (r[j]'(by omega)) := List.getElem?_eq_getElem (by omega)
      obtain ⟨b0, b1⟩ := (val_iff.mp vr).2 j _ _ hr1 hm1
      have b32 := m32 _ (List.mem_of_getElem? hm1)
      rw [vv_of g2, getD_of hr1] at q1
      have e7 := e3.trans e6
      walk_at "st"
      refine Rd.ixL (SqL.of (e7 _ _ hc)) (at_of (j := x) rfl (map_get_int (cf_get (by omega)))) ?_
      walk_at "st"
      refine Rd.ixL (SqL.of (e7 _ _ hp)) (at_of (j := x) rfl (by rw [List.getElem?_map, g1]; rfl)) ?_
      walk_at "st"
      refine Rd.ixT (TupX.sq (TupX.same g3 e7)) (at_of (j := j) rfl (map_get_int hr1)) ?_
      refine Rd.iC (.inr ⟨by omega, by omega⟩) ?_
      exact q1 _ (Same.refl _)
    · rw [Rd.rgL_len, map_in] at h6
      walk_at "st"
      refine ⟨p6, _, rfl, SqL.of h6, ?_⟩
      rw [sum_map]
      walk_at "st"
      refine Rd.ixL (SqL.of ((e3.trans e6) _ _ hm)) (at_of (j := j) rfl (map_get_int hm1)) ?_
      refine Rd.iC (by omega) ?_
      walk_at "st"
      refine Rd.app (e6 _ _ h3) (by rw [List.length_map, fl_len]; exact line_of (by omega)) ?_
      walk_at "st"
      refine ⟨_, _, rfl, Rd.same_mut (e3.trans e6) hq, ?_⟩
      rw [upd_same]
      unfold fl
      rw [List.range_succ, List.map_append, List.map_append, List.map_singleton, List.map_singleton, getD_of hm1]
  · rintro σ H3 ⟨v4, v5, rfl, e3, h3⟩
    rw [Int.toNat_natCast] at h3
    walk_at "st"
    refine ⟨q, _, rfl, .inl ⟨SqL.of h3, fun l ob hl hob => ?_⟩⟩
    exact k l _ (e3.trans (Rd.same_mk hl)) (tX (TupN.mk hob))
end
end K08

set_option Elab.async false
set_option linter.all false
set_option maxRecDepth 100000
set_option maxHeartbeats 4000000
namespace K08
open PySem L2 Rd GT
local macro_rules | `(tactic| walk_at "st1") => `(tactic| first | with_reducible refine' Rd.Stp.go ?_ | with_reducible refine' Rd.seq ?_)
local macro_rules | `(tactic| walk_at "st") => `(tactic| repeat (first | with_reducible refine' Rd.Stp.go ?_ | with_reducible refine' Rd.seq ?_ | ((with_reducible refine' Rd.nmR ?hr ?_); (case hr => repeat (first | exact Rd.SetR.zero | apply Rd.SetR.succ))) | ((with_reducible refine' Rd.var ?hv ?_); (case hv => rfl))))
local macro_rules | `(tactic| walk_at "sj") => `(tactic| repeat (first | with_reducible refine' Rd.Stp.go ?_ | with_reducible refine' Rd.seqA ?_ | with_reducible refine' Rd.seqD ?_ | with_reducible refine' Rd.seqF ?_ | with_reducible refine' Rd.seqW ?_ | ((with_reducible refine' Rd.nmR ?hr ?_); (case hr => repeat (first | exact Rd.SetR.zero | apply Rd.SetR.succ))) | ((with_reducible refine' Rd.var ?hv ?_); (case hv => rfl))))
local macro_rules | `(tactic| walk_at "sm") => `(tactic| first | exact Same.refl _ | assumption | (apply Rd.sm_tr; assumption; walk_at "sm") | fail)
local macro_rules | `(tactic| walk_at "fr") => `(tactic| with_reducible first
  | assumption
  | (apply Rd.fr_some; assumption; walk_at "fr") | (apply Rd.fr_tupN; assumption; walk_at "fr") | (apply Rd.fr_tupX; assumption; walk_at "fr")
  | (apply Rd.fr_grp; assumption; walk_at "fr") | (apply Rd.fr_rows; assumption; walk_at "fr") | (apply Rd.fr_rowL; assumption; walk_at "fr") | (apply Rd.fr_DD; assumption; walk_at "fr")
  | (apply Rd.fr_sqL; walk_at "fr") | fail)
theorem room_step {p : Nat} {r v : Int} (r1 : 1 ≤ r) (r16 : r ≤ 16) (v0 : 0 ≤ v) (v1 : v < r - 1) (h : (p : Int) * r ≤ 16) : 1 ≤ r / (2 + v) ∧ r / (2 + v) ≤ 16 ∧ ((p * (2 + v).toNat : Nat) : Int) * (r / (2 + v)) ≤ 16 := by
  have d := Int.mul_ediv_add_emod r (2 + v)
  have m0 := Int.emod_nonneg r (show (2 + v) ≠ 0 by omega)
  have q1 : 1 ≤ r / (2 + v) := by rw [Int.le_ediv_iff_mul_le (by omega)]; omega
  have q2 : r / (2 + v) ≤ r := Int.ediv_le_self _ (by omega)
  refine ⟨q1, by omega, ?_⟩
  rw [Int.natCast_mul, Int.toNat_of_nonneg (by omega), Int.mul_assoc]
  have : (p : Int) * ((2 + v) * (r / (2 + v))) ≤ (p : Int) * r := Int.mul_le_mul_of_nonneg_left (by omega) (Int.natCast_nonneg _)
  omega
section
variable {P : Program} {w : World} {K : PySem.W.Frag} {mg : Str → Option Value} {base : Heap} {f : Addr} {fd : FuncData}
theorem sc__law_moduli : FnScope ["bag", "limit", "moduli", "room", "k", "modulus"] ["bag", "limit"] (defScope s__law_moduli) := ⟨rfl, rfl, rfl, by decide +kernel, rfl, by decide +kernel, by decide +kernel⟩
theorem ok_moduli (F : FnP K "_law_moduli" "_law_moduli" s__law_moduli f fd) (T : Txt K mg) (D__law_take : DOk P w K mg base CX0 "_law_take" 1 ["bag", "size"] sp_take) : FnOk P w K mg base CX0 2 f fd ["bag", "limit"] sp_moduli := by
  refine F.ok sc__law_moduli (fun vs H Q E h => ?_) (fun cdv A outer s H vs Q E hr h => ?_)
  · obtain ⟨_, rfl, _⟩ := h; rfl
  obtain ⟨b, rfl, hb, k⟩ := h
  refine ⟨_, PSs.nox (pss_cons (ps_set (i := 2) sc__law_moduli.nd rfl (Or.inl rfl) (pe_lst pa_nil))
  (pss_cons (ps_set (i := 3) sc__law_moduli.nd rfl (Or.inl rfl) (pv 1))
  (pss_cons (ps_for PassesOwn.never rfl (pi_range1 rfl T.range (pa_cons pe_int pa_nil)) (pg_name (i := 4) sc__law_moduli.nd rfl (Or.inl rfl))
  (pss_one (ps_if (PW.pt (pw_and (pt_cmpR op_ge (pv 3) pe_int (nomark _)) (pw_and1 (PW.pt (pw_or (pt_cmpR op_eq (pv 4) pe_int (nomark _)) (pw_or1 (pt_cmpR op_eq (callX D__law_take (hr.mono (by decide)) (passN) (pa_cons (pv 0) (pa_cons pe_int pa_nil))) pe_int (nomark _))))))))
  (pss_cons (ps_set (i := 5) sc__law_moduli.nd rfl (Or.inl rfl) (pe_op op_add pe_int (callX D__law_take (hr.mono (by decide)) (passN) (pa_cons (pv 0) (pa_cons (pe_op op_sub (pv 3) pe_int) pa_nil)))))
  (pss_cons (ps_expr (Rk.bm K rfl PySem.F.plainAttrs_list PySem.F.slot_list_append PySem.F.type_list_append mt_append (pv 2) (pa_cons (pv 5) pa_nil)))
  (pss_one (ps_set (i := 3) sc__law_moduli.nd rfl (Or.inl rfl) (pe_op op_fdivW (pv 3) (pv 5))))))
  pss_nil)))
  (pss_cons (ps_if (pt_cmpR op_eq (callX D__law_take (hr.mono (by decide)) (passN) (pa_cons (pv 0) (pa_cons pe_int pa_nil))) pe_int (nomark _))
  (pss_one (ps_set (i := 2) sc__law_moduli.nd rfl (Or.inl rfl) (pe_lst pa_nil)))
  pss_nil)
  (pss_one (ps_ret (pv 2))))))), ?_⟩
  walk_at "st"
  refine ⟨(by decide : 0 ≤ sizeLine), fun q hq => ?_⟩
  have nq := hb.ne hq
  walk_at "st"
  refine ⟨by decide, by decide, ?_⟩
  refine for_range (fun j σ H' => ∃ (v4 v5 : Option V) (ms : List Int) (r : Int), σ = [some (.ref b), some (.int 16), some (.ref q), some (.int r), v4, v5] ∧ Bag H' b ∧ But b H H' ∧ H' q = some (.lst (ms.map V.int)) ∧ OkM ms ∧ 1 ≤ r ∧ r ≤ 16 ∧ (pr ms : Int) * r ≤ 16 ∧ ms.length ≤ j)
    ⟨none, none, [], 16, rfl, hb.put nq, butAdd (Rd.But.refl _ _) hq, upd_same, (fun x h => by cases h), by decide, by decide, by decide, Nat.le_refl _⟩ ?_ ?_
  · rintro j σ H3 hj ⟨v4, v5, ms, r, rfl, hb3, e3, h3, om, r1, r16, pm, lm⟩
    have hj : j < 3 := by simpa using hj
    rw [Int.zero_add]
    walk_at "st"
    refine Rd.ite_d (fun c1 => ?_) (fun c1 => ?_)
    · walk_at "st"
      refine Rd.ite_d (fun c2 => ?_) (fun c2 => ?_)
      · walk_at "st"
        try refine (if_pos rfl).mpr ?_
        walk_at "st"
        refine ⟨b, r - 1, rfl, by omega, by omega, hb3, fun v H5 v0 v1 hb5 e5 => ?_⟩
        have h5 := e5 _ _ nq.symm h3
        have e6 := (e3).trans e5
        walk_at "st"
        refine Rd.tyL h5 ?_
        walk_at "st"
        refine Rd.app h5 (by rw [List.length_map]; exact line_of (by omega)) ?_
        walk_at "st"
        refine Rd.iC (wide_div (b := 64) (by omega) (by omega) (by decide) (by decide)) ?_
        walk_at "st"
        obtain ⟨y1, y2, y3⟩ := room_step (p := pr ms) r1 r16 v0 v1 pm
        refine ⟨_, _, ms ++ [2 + v], _, rfl, hb5.put nq, butMut e6 hq, ?_, ?_, y1, y2, ?_, by rw [List.length_append]; show ms.length + 1 ≤ j + 1; omega⟩
        · rw [upd_same, List.map_append]; rfl
        · intro x hx
          rcases List.mem_append.mp hx with h | h
          · exact om x h
          · rw [List.mem_singleton.mp h]; omega
        · rw [pr_append, pr_one]
          exact y3
      · walk_at "st"
        refine ⟨b, 3, rfl, by decide, by decide, hb3, fun u H4 u0 u1 hb4 e4 => ?_⟩
        have h4 := e4 _ _ nq.symm h3
        walk_at "st"
        refine Rd.ite_d (fun c3 => ?_) (fun c3 => ?_)
        · walk_at "st"
          try refine (if_pos rfl).mpr ?_
          walk_at "st"
          refine ⟨b, r - 1, rfl, by omega, by omega, hb4, fun v H5 v0 v1 hb5 e5 => ?_⟩
          have h5 := e5 _ _ nq.symm h4
          have e6 := (e3.trans e4).trans e5
          walk_at "st"
          refine Rd.tyL h5 ?_
          walk_at "st"
          refine Rd.app h5 (by rw [List.length_map]; exact line_of (by omega)) ?_
          walk_at "st"
          refine Rd.iC (wide_div (b := 64) (by omega) (by omega) (by decide) (by decide)) ?_
          walk_at "st"
          obtain ⟨y1, y2, y3⟩ := room_step (p := pr ms) r1 r16 v0 v1 pm
          refine ⟨_, _, ms ++ [2 + v], _, rfl, hb5.put nq, butMut e6 hq, ?_, ?_, y1, y2, ?_, by rw [List.length_append]; show ms.length + 1 ≤ j + 1; omega⟩
          · rw [upd_same, List.map_append]; rfl
          · intro x hx
            rcases List.mem_append.mp hx with h | h
            · exact om x h
            · rw [List.mem_singleton.mp h]; omega
          · rw [pr_append, pr_one]
            exact y3
        · walk_at "st"
          try refine (if_neg Bool.false_ne_true).mpr ?_
          walk_at "st"
          exact ⟨_, _, ms, r, rfl, hb4, e3.trans e4, h4, om, r1, r16, pm, by omega⟩
    · walk_at "st"
      try refine (if_neg Bool.false_ne_true).mpr ?_
      walk_at "st"
      exact ⟨_, _, ms, r, rfl, hb3, e3, h3, om, r1, r16, pm, by omega⟩
  · rintro σ H3 ⟨v4, v5, ms, r, rfl, hb3, e3, h3, om, r1, r16, pm, lm⟩
    have p16 : pr ms ≤ 16 := by
      have h : (pr ms : Int) * 1 ≤ (pr ms : Int) * r := Int.mul_le_mul_of_nonneg_left r1 (Int.natCast_nonneg _)
      omega
    walk_at "st"
    refine ⟨b, 12, rfl, by decide, by decide, hb3, fun v H4 v0 v1 hb4 e4 => ?_⟩
    walk_at "st"
    refine Rd.ite_d (fun c => ?_) (fun c => ?_)
    · walk_at "st"
      refine ⟨(by decide : 0 ≤ sizeLine), fun q2 hq2 => ?_⟩
      have nq2 := hb4.ne hq2
      walk_at "st"
      refine k [] q2 _ (fun x h => by cases h) (by decide) ?_ (hb4.put nq2) (butAdd (e3.trans e4) hq2) upd_same
      cases z : H q2 with
      | none => rfl
      | some o => rw [(e3.trans e4) _ _ nq2.symm z] at hq2; cases hq2
    · walk_at "st"
      exact k ms q _ om p16 hq hb4 (e3.trans e4) (e4 _ _ nq.symm h3)
end
end K08

set_option Elab.async false
set_option linter.all false
set_option maxRecDepth 100000
set_option maxHeartbeats 4000000
namespace K08
open PySem L2 Rd GT
local macro_rules | `(tactic| walk_at "st1") => `(tactic| first | with_reducible refine' Rd.Stp.go ?_ | with_reducible refine' Rd.seq ?_)
local macro_rules | `(tactic| walk_at "st") => `(tactic| repeat (first | with_reducible refine' Rd.Stp.go ?_ | with_reducible refine' Rd.seq ?_ | ((with_reducible refine' Rd.nmR ?hr ?_); (case hr => repeat (first | exact Rd.SetR.zero | apply Rd.SetR.succ))) | ((with_reducible refine' Rd.var ?hv ?_); (case hv => rfl))))
local macro_rules | `(tactic| walk_at "sj") => `(tactic| repeat (first | with_reducible refine' Rd.Stp.go ?_ | with_reducible refine' Rd.seqA ?_ | with_reducible refine' Rd.seqD ?_ | with_reducible refine' Rd.seqF ?_ | with_reducible refine' Rd.seqW ?_ | ((with_reducible refine' Rd.nmR ?hr ?_); (case hr => repeat (first | exact Rd.SetR.zero | apply Rd.SetR.succ))) | ((with_reducible refine' Rd.var ?hv ?_); (case hv => rfl))))
local macro_rules | `(tactic| walk_at "sm") => `(tactic| first | exact Same.refl _ | assumption | (apply Rd.sm_tr; assumption; walk_at "sm") | fail)
local macro_rules | `(tactic| walk_at "fr") => `(tactic| with_reducible first
  | assumption
  | (apply Rd.fr_some; assumption; walk_at "fr") | (apply Rd.fr_tupN; assumption; walk_at "fr") | (apply Rd.fr_tupX; assumption; walk_at "fr")
  | (apply Rd.fr_grp; assumption; walk_at "fr") | (apply Rd.fr_rows; assumption; walk_at "fr") | (apply Rd.fr_rowL; assumption; walk_at "fr") | (apply Rd.fr_DD; assumption; walk_at "fr")
  | (apply Rd.fr_sqL; walk_at "fr") | fail)
open PySem in
def lT (t : List (List Int)) : PyData := .list (t.map iT)
theorem lT_eqv (t u : List (List Int)) : PyData.eqv (lT t) (lT u) = decide (t = u) := by simp only [lT, PyData.eqv]; exact eqvTT t u
theorem lT_shaped (t : List (List Int)) : SeqAt.shaped (lT t) = true := by
  have h := depTT t
  show (PyData.canLay0 (lT t) && decide (PyData.depth (lT t) ≤ 64)) = true
  rw [Bool.and_eq_true]
  refine ⟨by simp only [lT, PyData.canLay0]; exact layTT t, decide_eq_true ?_⟩
  simp only [lT, PyData.depth]; omega
theorem dpRowsX {K : PySem.W.Frag} {H : Hp} : ∀ {rs : List PySem.Addr} {t : List (List Int)}, Rows TupX H rs t → DpAll K H (rs.map V.ref) (t.map iT)
  | [], [], _ => .nil
  | [], _ :: _, R => absurd R.len (by simp)
  | _ :: _, [], R => absurd R.len (by simp)
  | a :: rs, r :: t, R => .cons (dpT (TupX.sq (R.row 0 a r rfl rfl))) (dpRowsX ⟨by have := R.len; simpa using this, fun i b q h1 h2 => R.row (i + 1) b q h1 h2⟩)
theorem eqLT {K : PySem.W.Frag} {H : Hp} {Q : VK} {R R' : PySem.Addr} {rs rs' : List PySem.Addr} {t u : List (List Int)} (h1 : H R = some (.lst (rs.map V.ref))) (r1 : Rows TupX H rs t) (h2 : H R' = some (.lst (rs'.map V.ref))) (r2 : Rows TupX H rs' u) (h : Q (.bl (decide (t = u))) H) : rEqD K (.ref R) (.ref R') H Q :=
  ⟨lT t, lT u, .lst (SqL.of h1) (dpRowsX r1), .lst (SqL.of h2) (dpRowsX r2), lT_shaped _, lT_shaped _, by rw [lT_eqv]; exact h⟩
structure Txt6 (K : PySem.W.Frag) : Prop where
  hf : PySem.W.findIn K (.ref (mC K)) "__class__" = some (some (.builtin "object.__class__"))
  hfm : PySem.W.mroIn K (mC K) (.type "object") = some true
  ff : PySem.W.kitOne K (.ref (mC K)) (.ref (mC K)) = some true
def kindF (t : List (List Int)) (ms : List Int) (us : List (List Int)) (kind a : Nat) : List (List Int) := if kind = 0 then stF t ms us a else if kind = 1 then lsF t ms us a else trF t ms us a
def sp_ask (K : PySem.W.Frag) : Sp := fun xs H Q _ => ∃ (f : Addr) (t : List (List Int)) (ms : List Int) (us : List (List Int)) (kind a : Nat), xs = [.ref f, .int (kind : Nat), .int (a : Nat)] ∧ MapAt K H f t ms us ∧ kind ≤ 2 ∧ a < t.length ∧ ∀ s H', Same H H' → MapAt K H' s t ms (kindF t ms us kind a) → Q (.ref s) H'
def sp_ismap (K : PySem.W.Frag) : Sp := fun vs H Q _ => ∃ (s g y m : Addr) (t : List (List Int)) (ms : List Int) (us : List (List Int)), vs = [.ref s, .ref g, .ref y, .int (t.length : Nat), .ref m] ∧ MapAt K H s t ms us ∧ GrpAt (gC K) H g t ∧ TgtAt (tC K) H y ms ∧ H m = some (.lst (ms.map V.int)) ∧ Q (.bl true) H
def sp_has (K : PySem.W.Frag) : Sp := fun vs H Q _ => ∃ (s g y m d : Addr) (t : List (List Int)) (ms : List Int) (us : List (List Int)) (rs : List Addr), vs = [.ref s, .ref g, .ref y, .ref m, .ref d] ∧ MapAt K H s t ms us ∧ GrpAt (gC K) H g t ∧ TgtAt (tC K) H y ms ∧ H m = some (.lst (ms.map V.int)) ∧ H d = some (.lst (rs.map V.ref)) ∧ Rows TupX H rs us ∧ ∀ H', Same H H' → Q (.bl true) H'
def sp_valued (K : PySem.W.Frag) : Sp := fun vs H Q _ => ∃ (s c d : Addr) (t : List (List Int)) (ms cs : List Int) (us : List (List Int)), vs = [.ref s, .ref c, .ref d] ∧ MapAt K H s t ms us ∧ H c = some (.lst (cs.map V.int)) ∧ cs.length = t.length ∧ TupX H d ((evF ms cs us).map V.int) ∧ ∀ H', Same H H' → Q (.bl true) H'
section
variable {P : Program} {w : World} {K : PySem.W.Frag} {mg : Str → Option Value} {base : Heap} {f : Addr} {fd : FuncData}
theorem sc__law_ask : FnScope ["f", "kind", "a"] ["f", "kind", "a"] (defScope s__law_ask) := ⟨rfl, rfl, rfl, by decide +kernel, rfl, by decide +kernel, by decide +kernel⟩
theorem ok_ask (F : FnP K "_law_ask" "_law_ask" s__law_ask f fd) (T : Txt K mg) (M_step : MOk P w K mg base (L2.CX P w) (mC K) "step" 5 ["self", "element"] (sp_mmv K stF)) (M_left_step : MOk P w K mg base (L2.CX P w) (mC K) "left_step" 6 ["self", "element"] (sp_mmv K lsF)) (M_translated : MOk P w K mg base (L2.CX P w) (mC K) "translated" 5 ["self", "element"] (sp_mmv K trF)) : FnOk P w K mg base CX0 7 f fd ["f", "kind", "a"] (sp_ask K) := by
  refine F.ok sc__law_ask (fun vs H Q E h => ?_) (fun cdv A outer s H vs Q E hr h => ?_)
  · obtain ⟨_, _, _, _, _, _, rfl, _⟩ := h; rfl
  obtain ⟨f, t, ms, us, kind, a, rfl, X, k2, ha, k⟩ := h
  obtain ⟨dx, g, y, c, rs, h1, G, U, C, V1⟩ := X.ob
  refine ⟨_, PSs.nox (pss_cons (ps_if (pt_cmpR op_eq (pv 1) pe_int (nomark _))
  (pss_one (ps_ret (methX M_step (hr.mono (by decide)) (passN) (pv 0) (pa_cons (pv 2) pa_nil))))
  pss_nil)
  (pss_cons (ps_if (pt_cmpR op_eq (pv 1) pe_int (nomark _))
  (pss_one (ps_ret (methX M_left_step (hr.mono (by decide)) (passN) (pv 0) (pa_cons (pv 2) pa_nil))))
  pss_nil)
  (pss_one (ps_ret (methX M_translated (hr.mono (by decide)) (passN) (pv 0) (pa_cons (pv 2) pa_nil)))))), ?_⟩
  walk_at "st"
  refine Rd.ite_d (fun z => ?_) (fun z => ?_)
  · have z : kind = 0 := by omega
    walk_at "st"
    refine ⟨f, dx, _, rfl, h1, mk_no (by decide +kernel) (by decide +kernel) (by decide +kernel) _ _ _, ?_⟩
    walk_at "st"
    refine ⟨f, t, ms, us, a, rfl, X, ha, fun s H1 e1 Y => ?_⟩
    refine k s H1 e1 ?_
    unfold kindF; rw [if_pos z]; exact Y
  have z : ¬ kind = 0 := by omega
  walk_at "st"
  refine Rd.ite_d (fun z1 => ?_) (fun z1 => ?_)
  · have z1 : kind = 1 := by omega
    walk_at "st"
    refine ⟨f, dx, _, rfl, h1, mk_no (by decide +kernel) (by decide +kernel) (by decide +kernel) _ _ _, ?_⟩
    walk_at "st"
    refine ⟨f, t, ms, us, a, rfl, X, ha, fun s H1 e1 Y => ?_⟩
    refine k s H1 e1 ?_
    unfold kindF; rw [if_neg z, if_pos z1]; exact Y
  · have z1 : ¬ kind = 1 := by omega
    walk_at "st"
    refine ⟨f, dx, _, rfl, h1, mk_no (by decide +kernel) (by decide +kernel) (by decide +kernel) _ _ _, ?_⟩
    walk_at "st"
    refine ⟨f, t, ms, us, a, rfl, X, ha, fun s H1 e1 Y => ?_⟩
    refine k s H1 e1 ?_
    unfold kindF; rw [if_neg z, if_neg z1]; exact Y
theorem sc__law_has : FnScope ["told", "group", "target", "moduli", "due"] ["told", "group", "target", "moduli", "due"] (defScope s__law_has) := ⟨rfl, rfl, rfl, by decide +kernel, rfl, by decide +kernel, by decide +kernel⟩
theorem ok_has (F : FnP K "_law_has" "_law_has" s__law_has f fd) (T : Txt K mg) (D__law_is_map : DOk P w K mg base CX0 "_law_is_map" 3 ["told", "group", "target", "size", "moduli"] (sp_ismap K)) : FnOk P w K mg base CX0 4 f fd ["told", "group", "target", "moduli", "due"] (sp_has K) := by
  refine F.ok sc__law_has (fun vs H Q E h => ?_) (fun cdv A outer s H vs Q E hr h => ?_)
  · obtain ⟨_, _, _, _, _, _, _, _, _, rfl, _⟩ := h; rfl
  obtain ⟨s', g, y, m, d, t, ms, us, rs, rfl, X, G, U, hm, hd, RR, k⟩ := h
  obtain ⟨dx, g2, y2, c, rs2, h1, G2, U2, C, V1⟩ := X.ob
  refine ⟨_, PSs.nox (pss_one (ps_ret (pe_and (callX D__law_is_map (hr.mono (by decide)) (passN) (pa_cons (pv 0) (pa_cons (pv 1) (pa_cons (pv 2) (pa_cons (pe_callB (Rk.len K) rfl T.len PySem.boot_len (pa_cons (pv 4) pa_nil)) (pa_cons (pv 3) pa_nil)))))) (pe_one (pe_cmpR (Rk.eqD K rfl (un64 hr)) (pe_callTy (Rk.lis K) rfl T.list (by decide +kernel) (pa_cons (Rk.fld K rfl (pv 0) rfl) pa_nil)) (pv 4) (nomark _)))))), ?_⟩
  walk_at "st"
  refine Rd.len1 (.inl (SqL.of hd)) ?_
  walk_at "st"
  rw [List.length_map, RR.len, V1.len]
  refine ⟨s', g, y, m, t, ms, us, rfl, X, G, U, hm, ?_⟩
  walk_at "st"
  refine (if_pos rfl).mpr ?_
  walk_at "st"
  refine Rd.fld' h1 T.mcl T.mI (mk_images _ _ _) ?_
  refine ⟨c, _, rfl, .inr C.sq, fun l hl => ?_⟩
  have e1 : Same H (upd H l (.lst (rs2.map V.ref))) := Rd.same_mk hl
  walk_at "st"
  refine eqLT upd_same (Rows.sameX V1.rows e1) (e1 _ _ hd) (Rows.sameX RR e1) ?_
  rw [decide_eq_true (rfl : us = us)]
  exact k _ e1
theorem sc__law_valued : FnScope ["f", "coefficients", "due", "passed"] ["f", "coefficients", "due"] (defScope s__law_valued) := ⟨rfl, rfl, rfl, by decide +kernel, rfl, by decide +kernel, by decide +kernel⟩
theorem ok_valued (F : FnP K "_law_valued" "_law_valued" s__law_valued f fd) (T : Txt K mg) (M_evaluate : MOk P w K mg base (L2.CX P w) (mC K) "evaluate" 2 ["self", "coefficients"] (sp_meval K)) (D__law_same : DOk P w K mg base CX0 "_law_same" 4 ["told", "due"] (sp_same 3)) : FnOk P w K mg base CX0 5 f fd ["f", "coefficients", "due"] (sp_valued K) := by
  refine F.ok sc__law_valued (fun vs H Q E h => ?_) (fun cdv A outer s H vs Q E hr h => ?_)
  · obtain ⟨_, _, _, _, _, _, _, rfl, _⟩ := h; rfl
  obtain ⟨s', c, d, t, ms, cs, us, rfl, X, hc, lc, hd, k⟩ := h
  obtain ⟨dx, g2, y2, c2, rs2, h1, G2, U2, C, V1⟩ := X.ob
  have few := U2.few
  have le := G2.le
  have lev := len_ev (cs := cs) V1.ok (Nat.le_refl us.length)
  refine ⟨_, PSs.nox (pss_cons (ps_set (i := 3) sc__law_valued.nd rfl (Or.inl rfl) (pe_callTy (Rk.lis K) rfl T.list (by decide +kernel) (pa_cons (pv 1) pa_nil)))
  (pss_one (ps_ret (pe_and (callX D__law_same (hr.mono (by decide)) (passN) (pa_cons (methX M_evaluate (hr.mono (by decide)) (passN) (pv 0) (pa_cons (pv 3) pa_nil)) (pa_cons (pv 2) pa_nil))) (pe_one (callX D__law_same (hr.mono (by decide)) (passN) (pa_cons (pv 3) (pa_cons (pv 1) pa_nil)))))))), ?_⟩
  walk_at "st"
  refine ⟨c, _, rfl, .inl (SqL.of hc), fun l hl => ?_⟩
  have e1 : Same H (upd H l (.lst (cs.map V.int))) := Rd.same_mk hl
  have hl1 : (upd H l (.lst (cs.map V.int))) l = some (.lst (cs.map V.int)) := upd_same
  generalize upd H l (.lst (cs.map V.int)) = H1 at e1 hl1
  walk_at "st"
  refine ⟨s', dx, _, rfl, e1 _ _ h1, mk_no (by decide +kernel) (by decide +kernel) (by decide +kernel) _ _ _, ?_⟩
  walk_at "st"
  refine ⟨s', l, t, ms, cs, us, rfl, fr_map e1 X, hl1, lc, fun r H2 e2 hr2 => ?_⟩
  walk_at "st"
  refine ⟨_, _, rfl, (DD.tints hr2 (TupX.same hd (e1.trans e2)) (by show (evN ms cs us us.length).length ≤ 1000; omega)).up, fun H3 e3 => ?_⟩
  walk_at "st"
  refine (if_pos rfl).mpr ?_
  walk_at "st"
  have s3 := (e1.trans e2).trans e3
  refine ⟨_, _, rfl, (DD.ints ((e2.trans e3) _ _ hl1) (s3 _ _ hc) (by omega)).up, fun H4 e4 => ?_⟩
  exact k _ (s3.trans e4)
end
end K08

set_option Elab.async false
set_option linter.all false
set_option maxRecDepth 100000
set_option maxHeartbeats 4000000
namespace K08
open PySem L2 Rd GT
local macro_rules | `(tactic| walk_at "st1") => `(tactic| first | with_reducible refine' Rd.Stp.go ?_ | with_reducible refine' Rd.seq ?_)
local macro_rules | `(tactic| walk_at "st") => `(tactic| repeat (first | with_reducible refine' Rd.Stp.go ?_ | with_reducible refine' Rd.seq ?_ | ((with_reducible refine' Rd.nmR ?hr ?_); (case hr => repeat (first | exact Rd.SetR.zero | apply Rd.SetR.succ))) | ((with_reducible refine' Rd.var ?hv ?_); (case hv => rfl))))
local macro_rules | `(tactic| walk_at "sj") => `(tactic| repeat (first | with_reducible refine' Rd.Stp.go ?_ | with_reducible refine' Rd.seqA ?_ | with_reducible refine' Rd.seqD ?_ | with_reducible refine' Rd.seqF ?_ | with_reducible refine' Rd.seqW ?_ | ((with_reducible refine' Rd.nmR ?hr ?_); (case hr => repeat (first | exact Rd.SetR.zero | apply Rd.SetR.succ))) | ((with_reducible refine' Rd.var ?hv ?_); (case hv => rfl))))
local macro_rules | `(tactic| walk_at "sm") => `(tactic| first | exact Same.refl _ | assumption | (apply Rd.sm_tr; assumption; walk_at "sm") | fail)
local macro_rules | `(tactic| walk_at "fr") => `(tactic| with_reducible first
  | assumption
  | (apply Rd.fr_some; assumption; walk_at "fr") | (apply Rd.fr_tupN; assumption; walk_at "fr") | (apply Rd.fr_tupX; assumption; walk_at "fr")
  | (apply Rd.fr_grp; assumption; walk_at "fr") | (apply Rd.fr_rows; assumption; walk_at "fr") | (apply Rd.fr_rowL; assumption; walk_at "fr") | (apply Rd.fr_DD; assumption; walk_at "fr")
  | (apply Rd.fr_sqL; walk_at "fr") | fail)
section
variable {P : Program} {w : World} {K : PySem.W.Frag} {mg : Str → Option Value} {base : Heap} {f : Addr} {fd : FuncData}
theorem sc__law_is_map : FnScope ["told", "group", "target", "size", "moduli", "image", "j"] ["told", "group", "target", "size", "moduli"] (defScope s__law_is_map) := ⟨rfl, rfl, rfl, by decide +kernel, rfl, by decide +kernel, by decide +kernel⟩
theorem ok_ismap (F : FnP K "_law_is_map" "_law_is_map" s__law_is_map f fd) (T : Txt K mg) (T4 : Txt4 K mg) (T6 : Txt6 K) (M_Group_eq : EqOk P w K mg base CX0 (gC K) 1 ["self", "other"] (sp_eq K)) (M_Target_eq : EqOk P w K mg base CX0 (tC K) 1 ["self", "other"] (sp_teq K)) (D__law_is_integer : DOk P w K mg base CX0 "_law_is_integer" 1 ["told"] sp_isint) : FnOk P w K mg base CX0 3 f fd ["told", "group", "target", "size", "moduli"] (sp_ismap K) := by
  refine F.ok sc__law_is_map (fun vs H Q E h => ?_) (fun cdv A outer s H vs Q E hr h => ?_)
  · obtain ⟨_, _, _, _, _, _, _, rfl, _⟩ := h; rfl
  obtain ⟨s', g, y, m, t, ms, us, rfl, X, G, U, hm, k⟩ := h
  obtain ⟨dx, g2, y2, c, rs, h1, G2, U2, C, V1⟩ := X.ob
  obtain ⟨dg, _, _, _, hg, _⟩ := G.ob
  obtain ⟨dg2, _, _, _, hg2, _⟩ := G2.ob
  obtain ⟨dy, _, _, hy, _⟩ := U.ob
  obtain ⟨dy2, _, _, hy2, _⟩ := U2.ob
  have few := U.few
  have le := G.le
  refine ⟨_, PSs.nox (pss_cons (ps_if (PW.pt (pw_or (pt_not (pt_val (pe_callB (Rk.isi K) rfl T.isinstance (by decide +kernel) (pa_cons (pv 0) (pa_cons (pe_glob (v := .ref (He.ga K "GroupMap")) rfl T.g_GM rfl) pa_nil))))) (pw_or (pt_not (pt_cmpR (op_insEq M_Group_eq (hr.mono (by decide)) passN) (Rk.fld K rfl (pv 0) rfl) (pv 1) (nomark _))) (pw_or1 (pt_not (pt_cmpR (op_insEq M_Target_eq (hr.mono (by decide)) passN) (Rk.fld K rfl (pv 0) rfl) (pv 2) (nomark _)))))))
  (pss_one (ps_ret pe_bl))
  pss_nil)
  (pss_cons (ps_if (PW.pt (pw_or (pt_not (pt_val (pe_callB (Rk.isi K) rfl T.isinstance (by decide +kernel) (pa_cons (Rk.fld K rfl (pv 0) rfl) (pa_cons (pe_bltn rfl T.tuple (by decide +kernel) (RelV_ty "tuple")) pa_nil))))) (pw_or1 (pt_cmpR op_ne (pe_callB (Rk.len K) rfl T.len PySem.boot_len (pa_cons (Rk.fld K rfl (pv 0) rfl) pa_nil)) (pv 3) (nomark _)))))
  (pss_one (ps_ret pe_bl))
  pss_nil)
  (pss_cons (ps_for PassesOwn.never rfl (Rk.pt K rfl (Rk.fld K rfl (pv 0) rfl)) (pg_name (i := 5) sc__law_is_map.nd rfl (Or.inl rfl))
  (pss_cons (ps_if (PW.pt (pw_or (pt_not (pt_val (pe_callB (Rk.isi K) rfl T.isinstance (by decide +kernel) (pa_cons (pv 5) (pa_cons (pe_bltn rfl T.tuple (by decide +kernel) (RelV_ty "tuple")) pa_nil))))) (pw_or1 (pt_cmpR op_ne (pe_callB (Rk.len K) rfl T.len PySem.boot_len (pa_cons (pv 5) pa_nil)) (pe_callB (Rk.len K) rfl T.len PySem.boot_len (pa_cons (pv 4) pa_nil)) (nomark _)))))
  (pss_one (ps_ret pe_bl))
  pss_nil)
  (pss_one (ps_for PassesOwn.never rfl (pi_range1 rfl T.range (pa_cons (pe_callB (Rk.len K) rfl T.len PySem.boot_len (pa_cons (pv 4) pa_nil)) pa_nil)) (pg_name (i := 6) sc__law_is_map.nd rfl (Or.inl rfl))
  (pss_one (ps_if (PW.pt (pw_or (pt_not (pt_val (callX D__law_is_integer (hr.mono (by decide)) (passN) (pa_cons (pe_ix (Rk.ixT K) (pv 5) (pv 6) (fun _ _ => rfl)) pa_nil)))) (pw_or (pt_cmpR op_lt (pe_ix (Rk.ixT K) (pv 5) (pv 6) (fun _ _ => rfl)) pe_int (nomark _)) (pw_or1 (pt_cmpR op_ge (pe_ix (Rk.ixT K) (pv 5) (pv 6) (fun _ _ => rfl)) (pe_ix (Rk.ixL K) (pv 4) (pv 6) (fun _ _ => rfl)) (nomark _))))))
  (pss_one (ps_ret pe_bl))
  pss_nil))))))
  (pss_one (ps_ret pe_bl))))), ?_⟩
  walk_at "st"
  refine ⟨.ref s', .ref (mC K), .ref (mC K), .ref (mC K), true, rfl, ?_, .base (.ins h1 T.mcl T6.hf T4.hn T4.htk T6.hfm), T6.ff, ?_⟩
  · exact .own _
  walk_at "st"
  refine (if_neg Bool.false_ne_true).mpr ?_
  walk_at "st"
  refine Rd.fld' h1 T.mcl T.mG (mk_group _ _ _) ?_
  walk_at "st"
  refine ⟨g2, dg2, _, g, dg, _, rfl, rfl, hg2, hg, g2, g, t, t, rfl, G2, G, ?_⟩
  walk_at "st"
  rw [decide_eq_true (rfl : t = t)]
  refine (if_neg Bool.false_ne_true).mpr ?_
  walk_at "st"
  refine Rd.fld' h1 T.mcl T.mT (mk_target _ _ _) ?_
  walk_at "st"
  refine ⟨y2, dy2, _, y, dy, _, rfl, rfl, hy2, hy, y2, y, ms, rfl, U2, .inl ⟨ms, U, ?_⟩⟩
  walk_at "st"
  rw [decide_eq_true (rfl : ms = ms)]
  refine (if_neg Bool.false_ne_true).mpr ?_
  walk_at "st"
  refine Rd.fld' h1 T.mcl T.mI (mk_images _ _ _) ?_
  walk_at "st"
  refine isTupX "tuple" true (tX C) (by decide +kernel) (fun _ => rfl) ?_
  walk_at "st"
  refine (if_neg Bool.false_ne_true).mpr ?_
  walk_at "st"
  refine Rd.fld' h1 T.mcl T.mI (mk_images _ _ _) ?_
  refine Rd.len1 (.inr C.sq) ?_
  walk_at "st"
  rw [List.length_map, V1.rows.len, V1.len]
  refine Rd.ite_n (fun c => absurd rfl c) (fun _ => ?_)
  walk_at "st"
  refine Rd.fld' h1 T.mcl T.mI (mk_images _ _ _) ?_
  refine Rd.itt' C.sq ?_
  refine for_tup (K := K) (a := c) (xs := rs.map V.ref) (fun i σ H' => ∃ (v5 v6 : Option V), σ = [some (.ref s'), some (.ref g), some (.ref y), some (.int (t.length : Nat)), some (.ref m), v5, v6] ∧ H' = H)
    ⟨none, none, rfl, rfl⟩ (fun i σ H' _ ⟨_, _, _, e⟩ => by rw [e]; exact C.sq) ?_ ?_
  · rintro i x σ H' hx ⟨v5, v6, rfl, rfl⟩
    obtain ⟨ra, r, rfl, g1, g2', g3⟩ := V1.rows.at hx
    have vr := V1.ok r (List.mem_of_getElem? g2')
    have rl := vr.len
    walk_at "st"
    refine isTupX "tuple" true g3 (by decide +kernel) (fun _ => rfl) ?_
    walk_at "st"
    refine (if_neg Bool.false_ne_true).mpr ?_
    walk_at "st"
    refine Rd.len1 (.inr (TupX.sq g3)) ?_
    walk_at "st"
    refine Rd.len1 (.inl (SqL.of hm)) ?_
    walk_at "st"
    rw [List.length_map, List.length_map]
    refine Rd.ite_n (fun c => absurd (by rw [rl]) c) (fun _ => ?_)
    walk_at "st"
    refine Rd.len1 (.inl (SqL.of hm)) ?_
    walk_at "st"
    rw [List.length_map]
    refine ⟨by omega, by omega, ?_⟩
    refine for_range (fun j σ H2 => ∃ (v6 : Option V), σ = [some (.ref s'), some (.ref g), some (.ref y), some (.int (t.length : Nat)), some (.ref m), some (.ref ra), v6] ∧ H2 = H')
      ⟨v6, rfl, rfl⟩ ?_ ?_
    · rintro j σ H2 hj ⟨v6, rfl, rfl⟩
      have hj : j < ms.length := by omega
      rw [Int.zero_add]
      have hm1 : ms[j]? = some (ms[j]'hj) := List.getElem?_eq_getElem hj
      have hr1 : r[j]? = some (r[j]'(by omega)) := List.getElem?_eq_getElem (by omega)
      obtain ⟨b0, b1⟩ := (val_iff.mp vr).2 j _ _ hr1 hm1
      have qi : atI (r.map V.int) (j : Int) = some (.int (r[j]'(by omega))) := at_of (j := j) rfl (map_get_int hr1)
      walk_at "st"
      refine Rd.ixT (TupX.sq g3) qi ?_
      refine ⟨_, rfl, ?_⟩
      walk_at "st"
      refine (if_neg Bool.false_ne_true).mpr ?_
      walk_at "st"
      refine Rd.ixT (TupX.sq g3) qi ?_
      walk_at "st"
      refine Rd.ite_d (fun c => absurd c (by omega)) (fun _ => ?_)
      walk_at "st"
      refine Rd.ixT (TupX.sq g3) qi ?_
      walk_at "st"
      refine Rd.ixL (SqL.of hm) (at_of (j := j) rfl (map_get_int hm1)) ?_
      walk_at "st"
      refine Rd.ite_d (fun c => absurd c (by omega)) (fun _ => ?_)
      walk_at "st"
      exact ⟨_, rfl, rfl⟩
    · rintro σ H2 ⟨v6, rfl, rfl⟩
      walk_at "st"
      exact ⟨_, _, rfl, rfl⟩
  · rintro σ H' ⟨v5, v6, rfl, rfl⟩
    walk_at "st"
    exact k
end
end K08

set_option Elab.async false
set_option linter.all false
set_option maxRecDepth 100000
set_option maxHeartbeats 4000000
namespace K08
open PySem L2 Rd GT
local macro_rules | `(tactic| walk_at "st1") => `(tactic| first | with_reducible refine' Rd.Stp.go ?_ | with_reducible refine' Rd.seq ?_)
local macro_rules | `(tactic| walk_at "st") => `(tactic| repeat (first | with_reducible refine' Rd.Stp.go ?_ | with_reducible refine' Rd.seq ?_ | ((with_reducible refine' Rd.nmR ?hr ?_); (case hr => repeat (first | exact Rd.SetR.zero | apply Rd.SetR.succ))) | ((with_reducible refine' Rd.var ?hv ?_); (case hv => rfl))))
local macro_rules | `(tactic| walk_at "sj") => `(tactic| repeat (first | with_reducible refine' Rd.Stp.go ?_ | with_reducible refine' Rd.seqA ?_ | with_reducible refine' Rd.seqD ?_ | with_reducible refine' Rd.seqF ?_ | with_reducible refine' Rd.seqW ?_ | ((with_reducible refine' Rd.nmR ?hr ?_); (case hr => repeat (first | exact Rd.SetR.zero | apply Rd.SetR.succ))) | ((with_reducible refine' Rd.var ?hv ?_); (case hv => rfl))))
local macro_rules | `(tactic| walk_at "sm") => `(tactic| first | exact Same.refl _ | assumption | (apply Rd.sm_tr; assumption; walk_at "sm") | fail)
local macro_rules | `(tactic| walk_at "fr") => `(tactic| with_reducible first
  | assumption
  | (apply Rd.fr_some; assumption; walk_at "fr") | (apply Rd.fr_tupN; assumption; walk_at "fr") | (apply Rd.fr_tupX; assumption; walk_at "fr")
  | (apply Rd.fr_grp; assumption; walk_at "fr") | (apply Rd.fr_rows; assumption; walk_at "fr") | (apply Rd.fr_rowL; assumption; walk_at "fr") | (apply Rd.fr_DD; assumption; walk_at "fr")
  | (apply Rd.fr_sqL; walk_at "fr") | fail)
/-! ### what moves -/
def iv (us : List (List Int)) (x j : Nat) : Int := (vv us x).getD j 0
theorem opV_at {f : Int → Int → Int} {ms a b : List Int} {j : Nat} (la : a.length = ms.length) (lb : b.length = ms.length) (hj : j < ms.length) : (opV f ms a b).getD j 0 = f (a.getD j 0) (b.getD j 0) % ms.getD j 0 := by
  rw [← opV_row la lb]
  exact getD_of (by rw [List.getElem?_map, List.getElem?_range hj]; rfl)
theorem ev_at {ms cs : List Int} {us : List (List Int)} (hu : ∀ v ∈ us, Val ms v) {j : Nat} (hj : j < ms.length) : ∀ {i : Nat}, i ≤ us.length → (evN ms cs us i).getD j 0 = (sm i fun x => cf cs x * iv us x j) % ms.getD j 0
  | 0, _ => by
    show (List.replicate ms.length (0 : Int)).getD j 0 = 0 % _
    rw [Int.zero_emod]
    exact getD_of (by rw [List.getElem?_replicate, if_pos hj])
  | i + 1, h => by
    have li := (hu _ (vv_mem (vs := us) (i := i) (by omega))).len
    show (opV (fun x y => x + y) ms (evN ms cs us i) (opV (fun x _ => cs.getD i 0 * x) ms (vv us i) (vv us i))).getD j 0 = _
    rw [opV_at (len_ev hu (by omega)) (opV_len _ li li) hj, opV_at li li hj, ev_at hu hj (by omega)]
    show _ = ((sm i fun x => cf cs x * iv us x j) + cf cs i * iv us i j) % _
    rw [Int.add_emod (sm i fun x => cf cs x * iv us x j) (cf cs i * iv us i j)]; rfl
theorem evF_eq {ms cs : List Int} {us : List (List Int)} (hu : ∀ v ∈ us, Val ms v) : evF ms cs us = atF us cs ms :=
  fl_eq (len_ev hu (Nat.le_refl _)) fun j hj => ev_at hu hj (Nat.le_refl _)
theorem sm_mod {m : Int} {f g : Nat → Int} : ∀ {n : Nat}, (∀ x, x < n → f x % m = g x % m) → (sm n f) % m = (sm n g) % m
  | 0, _ => rfl
  | n + 1, h => by
    show (sm n f + f n) % m = (sm n g + g n) % m
    rw [Int.add_emod, sm_mod (fun x hx => h x (by omega)), h n (by omega), ← Int.add_emod]
theorem im_ext {n L : Nat} {us vs : List (List Int)} (lu : us.length = n) (lv : vs.length = n) (hu : ∀ v ∈ us, v.length = L) (hv : ∀ v ∈ vs, v.length = L) (h : ∀ x, x < n → ∀ j, j < L → iv us x j = iv vs x j) : us = vs := by
  refine List.ext_getElem (by omega) fun x h1 h2 => ?_
  have l1 := hu _ (List.getElem_mem h1)
  have l2 := hv _ (List.getElem_mem h2)
  refine List.ext_getElem (by omega) fun j h3 h4 => ?_
  have := h x (by omega) j (by omega)
  unfold iv at this
  rw [vv_of (List.getElem?_eq_getElem h1), vv_of (List.getElem?_eq_getElem h2), getD_of (List.getElem?_eq_getElem h3), getD_of (List.getElem?_eq_getElem h4)] at this
  exact this
theorem mv_at {t : List (List Int)} {ms : List Int} {us : List (List Int)} {kind a x j : Nat} (S : Sq t) (ha : a < t.length) (lu : us.length = t.length) (hu : ∀ v ∈ us, Val ms v) (hx : x < t.length) (hj : j < ms.length) :
    iv (mvF t ms us kind a) x j = if kind < 2 then (iv us (pl t kind a x) j - iv us x j) % ms.getD j 0 else iv us (pl t kind a x) j := by
  have h1 := (hu _ (vv_mem (vs := us) (i := pl t kind a x) (by rw [lu]; exact pl_lt S ha hx kind))).len
  have h2 := (hu _ (vv_mem (vs := us) (i := x) (by omega))).len
  have e : vv (mvF t ms us kind a) x = if kind < 2 then opV (fun x y => x - y) ms (vv us (pl t kind a x)) (vv us x) else vv us (pl t kind a x) := vv_of (by unfold mvF; rw [List.getElem?_map, List.getElem?_range hx]; rfl)
  unfold iv
  rw [e]
  by_cases c : kind < 2
  · rw [if_pos c, if_pos c, opV_at h1 h2 hj]
  · rw [if_neg c, if_neg c]
theorem sm_pick {n p : Nat} (hp : p < n) (c : Int) (u : Nat → Int) : (sm n fun y => (if y = p then c else 0) * u y) = c * u p := by
  rw [← sm_one (f := fun y => c * u y) hp]
  refine sm_congr fun y _ => ?_
  by_cases h : y = p
  · rw [if_pos h, if_pos h]
  · rw [if_neg h, if_neg h, Int.zero_mul]
/-- the value of what is moved, and the value at what is moved -/
theorem at_moved {t : List (List Int)} {ms cs : List Int} {us : List (List Int)} {kind a : Nat} (S : Sq t) (ha : a < t.length) (lu : us.length = t.length) (hu : ∀ v ∈ us, Val ms v) : atF (mvF t ms us kind a) cs ms = atF us (msF t cs kind a) ms := by
  refine fl_congr fun j hj => ?_
  rw [mvF_len, lu]
  have r1 : (sm t.length fun x => cf (msF t cs kind a) x * iv us x j) = sm t.length fun x => cf cs x * iv us (pl t kind a x) j - (if kind < 2 then cf cs x * iv us x j else 0) := by
    have q1 : (sm t.length fun x => cf (msF t cs kind a) x * iv us x j) = sm t.length fun y => sm t.length fun x => msG t cs kind a x y * iv us y j := sm_congr fun y hy => by
      rw [show cf (msF t cs kind a) y = sm t.length fun x => msG t cs kind a x y from cf_fl hy, ← sm_mulr]
    rw [q1, sm_swap]
    refine sm_congr fun x hx => ?_
    have q2 : (sm t.length fun y => msG t cs kind a x y * iv us y j) = sm t.length fun y => (if y = pl t kind a x then cf cs x else 0) * iv us y j - (if kind < 2 then (if y = x then cf cs x else 0) else 0) * iv us y j := sm_congr fun y _ => Int.sub_mul _ _ _
    rw [q2, sm_sub, sm_pick (pl_lt S ha hx kind)]
    by_cases c : kind < 2
    · rw [if_pos c]
      have q3 : (sm t.length fun y => (if kind < 2 then (if y = x then cf cs x else 0) else 0) * iv us y j) = sm t.length fun y => (if y = x then cf cs x else 0) * iv us y j := sm_congr fun y _ => by rw [if_pos c]
      rw [q3, sm_pick hx]
    · rw [if_neg c]
      have q3 : (sm t.length fun y => (if kind < 2 then (if y = x then cf cs x else 0) else 0) * iv us y j) = 0 := sm_z fun y _ => by rw [if_neg c, Int.zero_mul]
      rw [q3]
  show (sm t.length fun x => cf cs x * iv (mvF t ms us kind a) x j) % ms.getD j 0 = (sm t.length fun x => cf (msF t cs kind a) x * iv us x j) % ms.getD j 0
  rw [r1]
  refine sm_mod fun x hx => ?_
  rw [mv_at S ha lu hu hx hj]
  by_cases c : kind < 2
  · rw [if_pos c, if_pos c, Int.mul_emod, Int.emod_emod, ← Int.mul_emod, Int.mul_sub]
  · rw [if_neg c, if_neg c, Int.sub_zero]
theorem kind_eq {t : List (List Int)} {ms : List Int} {us : List (List Int)} {kind a : Nat} (S : Sq t) (ha : a < t.length) (lu : us.length = t.length) (k2 : kind ≤ 2) : kindF t ms us kind a = mvF t ms us kind a := by
  have row : ∀ x, x < t.length → vv (arM us (rowL t a)) x = vv us (mul t a x) := fun x hx => vv_of (by
    unfold arM
    rw [rowL_len, List.getElem?_map, List.getElem?_range hx]
    show some (vv us ((rowL t a).getD x 0).toNat) = _
    rw [getD_of (show (rowL t a)[x]? = some (at2 t a x) by unfold rowL; rw [List.getElem?_map, List.getElem?_range hx]; rfl)]; rfl)
  have col : ∀ x, x < t.length → vv (arM us (colL t a)) x = vv us (mul t x a) := fun x hx => vv_of (by
    unfold arM
    rw [colL_len, List.getElem?_map, List.getElem?_range hx]
    show some (vv us ((colL t a).getD x 0).toNat) = _
    rw [getD_of (show (colL t a)[x]? = some (at2 t x a) by unfold colL; rw [List.getElem?_map, List.getElem?_range hx]; rfl)]; rfl)
  unfold kindF mvF
  by_cases c0 : kind = 0
  · subst c0
    rw [if_pos rfl]
    unfold stF opM
    rw [arM_len, colL_len]
    refine List.map_congr_left fun x hx => ?_
    rw [List.mem_range] at hx
    rw [col x hx]; rfl
  · rw [if_neg c0]
    by_cases c1 : kind = 1
    · subst c1
      rw [if_pos rfl]
      unfold lsF opM
      rw [arM_len, rowL_len]
      refine List.map_congr_left fun x hx => ?_
      rw [List.mem_range] at hx
      rw [row x hx]; rfl
    · rw [if_neg c1]
      obtain rfl : kind = 2 := by omega
      unfold trF
      refine List.ext_getElem? fun x => ?_
      by_cases hx : x < t.length
      · have h := row x hx
        have l : x < (arM us (rowL t a)).length := by rw [arM_len, rowL_len]; exact hx
        rw [List.getElem?_eq_getElem l, ← vv_of (List.getElem?_eq_getElem l), h, List.getElem?_map, List.getElem?_range hx]; rfl
      · rw [List.getElem?_eq_none (by rw [arM_len, rowL_len]; omega), List.getElem?_eq_none (by rw [List.length_map, List.length_range]; omega)]
end K08

set_option Elab.async false
set_option linter.all false
set_option maxRecDepth 100000
set_option maxHeartbeats 4000000
namespace K08
open PySem L2 Rd GT
local macro_rules | `(tactic| walk_at "st1") => `(tactic| first | with_reducible refine' Rd.Stp.go ?_ | with_reducible refine' Rd.seq ?_)
local macro_rules | `(tactic| walk_at "st") => `(tactic| repeat (first | with_reducible refine' Rd.Stp.go ?_ | with_reducible refine' Rd.seq ?_ | ((with_reducible refine' Rd.nmR ?hr ?_); (case hr => repeat (first | exact Rd.SetR.zero | apply Rd.SetR.succ))) | ((with_reducible refine' Rd.var ?hv ?_); (case hv => rfl))))
local macro_rules | `(tactic| walk_at "sj") => `(tactic| repeat (first | with_reducible refine' Rd.Stp.go ?_ | with_reducible refine' Rd.seqA ?_ | with_reducible refine' Rd.seqD ?_ | with_reducible refine' Rd.seqF ?_ | with_reducible refine' Rd.seqW ?_ | ((with_reducible refine' Rd.nmR ?hr ?_); (case hr => repeat (first | exact Rd.SetR.zero | apply Rd.SetR.succ))) | ((with_reducible refine' Rd.var ?hv ?_); (case hv => rfl))))
local macro_rules | `(tactic| walk_at "sm") => `(tactic| first | exact Same.refl _ | assumption | (apply Rd.sm_tr; assumption; walk_at "sm") | fail)
local macro_rules | `(tactic| walk_at "fr") => `(tactic| with_reducible first
  | assumption
  | (apply Rd.fr_some; assumption; walk_at "fr") | (apply Rd.fr_tupN; assumption; walk_at "fr") | (apply Rd.fr_tupX; assumption; walk_at "fr")
  | (apply Rd.fr_grp; assumption; walk_at "fr") | (apply Rd.fr_rows; assumption; walk_at "fr") | (apply Rd.fr_rowL; assumption; walk_at "fr") | (apply Rd.fr_DD; assumption; walk_at "fr")
  | (apply Rd.fr_sqL; walk_at "fr") | fail)
theorem shf_ms {t : List (List Int)} (G : Grp t) {cs : List Int} {a : Nat} (ha : a < t.length) : shf t cs a = msF t cs 0 a := fl_congr fun y hy => by
  have q : (sm t.length fun x => msG t cs 0 a x y) = sm t.length fun x => (if mul t x a = y then cf cs x else 0) - (if y = x then cf cs x else 0) := sm_congr fun x _ => by
    unfold msG pl
    rw [if_pos rfl, if_pos (by decide : 0 < 2)]
    by_cases h : y = mul t x a
    · rw [if_pos h, if_pos h.symm]
    · rw [if_neg h, if_neg (fun z : mul t x a = y => h z.symm)]
  rw [q, sm_sub, G.move ha hy, sm_one' hy]
theorem op_at {o : Int → Int → Int} {ms : List Int} {us vs : List (List Int)} {x j : Nat} (hu : ∀ v ∈ us, Val ms v) (hv : ∀ v ∈ vs, Val ms v) (l : vs.length = us.length) (hx : x < us.length) (hj : j < ms.length) : iv (opM o ms us vs) x j = o (iv us x j) (iv vs x j) % ms.getD j 0 := by
  have h1 := (hu _ (vv_mem hx)).len
  have h2 := (hv _ (vv_mem (vs := vs) (i := x) (by omega))).len
  have e : vv (opM o ms us vs) x = opV o ms (vv us x) (vv vs x) := vv_of (by unfold opM; rw [List.getElem?_map, List.getElem?_range hx]; rfl)
  unfold iv
  rw [e, opV_at h1 h2 hj]
section
variable {t : List (List Int)} {ms : List Int} {us : List (List Int)} {a b : Nat}
theorem pl0 (t : List (List Int)) (a x : Nat) : pl t 0 a x = mul t x a := if_pos rfl
theorem pl1 (t : List (List Int)) (a x : Nat) : pl t 1 a x = mul t a x := if_neg (by decide)
theorem pl2 (t : List (List Int)) (a x : Nat) : pl t 2 a x = mul t a x := if_neg (by decide)
theorem mod_one (A B C D E m : Int) (h : A + B + (C - D) = E) : ((A % m + B % m) % m + (C % m - D % m) % m) % m = E % m := by
  simp only [Int.add_emod_emod, Int.emod_add_emod, Int.sub_emod_emod, Int.emod_sub_emod, h]
theorem mod_two (A B C D m : Int) (h : A - B = C - D) : (A % m - B % m) % m = (C % m - D % m) % m := by
  simp only [Int.sub_emod_emod, Int.emod_sub_emod, h]
theorem step_mul (G : Grp t) (ha : a < t.length) (hb : b < t.length) (om : OkM ms) (lu : us.length = t.length) (hu : ∀ v ∈ us, Val ms v) :
    opM (fun x y => x + y) ms (opM (fun x y => x + y) ms (mvF t ms us 0 a) (mvF t ms us 0 b)) (mvF t ms (mvF t ms us 0 b) 0 a) = mvF t ms us 0 (mul t a b) := by
  have S := G.sq
  have hab := G.lt ha hb
  have oa := mvF_ok (kind := 0) S ha om lu hu
  have ob := mvF_ok (kind := 0) S hb om lu hu
  have oba := mvF_ok (kind := 0) S ha om (mvF_len t ms us 0 b) ob
  have oab := mvF_ok (kind := 0) S hab om lu hu
  have l1 : (mvF t ms us 0 b).length = (mvF t ms us 0 a).length := by rw [mvF_len, mvF_len]
  have o1 := opM_ok (o := fun x y => x + y) om l1 oa ob
  have l2 : (mvF t ms (mvF t ms us 0 b) 0 a).length = (opM (fun x y => x + y) ms (mvF t ms us 0 a) (mvF t ms us 0 b)).length := by rw [mvF_len, opM_len, mvF_len]
  have o2 := opM_ok (o := fun x y => x + y) om l2 o1 oba
  refine im_ext (n := t.length) (L := ms.length) (by rw [opM_len, opM_len, mvF_len]) (mvF_len _ _ _ _ _) (fun v h => (o2 v h).len) (fun v h => (oab v h).len) fun x hx j hj => ?_
  have xa := G.lt hx ha
  rw [op_at o1 oba l2 (by rw [opM_len, mvF_len]; exact hx) hj, op_at oa ob l1 (by rw [mvF_len]; exact hx) hj, mv_at S ha (mvF_len t ms us 0 b) ob hx hj, mv_at S ha lu hu hx hj, mv_at S hb lu hu hx hj, mv_at S hab lu hu hx hj, if_pos (by decide), if_pos (by decide), if_pos (by decide), if_pos (by decide), pl0, pl0, pl0, mv_at S hb lu hu xa hj, if_pos (by decide), pl0, G.assoc hx ha hb]
  exact mod_one _ _ _ _ _ _ (by omega)
theorem lstep_mul (G : Grp t) (ha : a < t.length) (hb : b < t.length) (om : OkM ms) (lu : us.length = t.length) (hu : ∀ v ∈ us, Val ms v) :
    opM (fun x y => x + y) ms (opM (fun x y => x + y) ms (mvF t ms us 1 a) (mvF t ms us 1 b)) (mvF t ms (mvF t ms us 1 a) 1 b) = mvF t ms us 1 (mul t a b) := by
  have S := G.sq
  have hab := G.lt ha hb
  have oa := mvF_ok (kind := 1) S ha om lu hu
  have ob := mvF_ok (kind := 1) S hb om lu hu
  have oba := mvF_ok (kind := 1) S hb om (mvF_len t ms us 1 a) oa
  have oab := mvF_ok (kind := 1) S hab om lu hu
  have l1 : (mvF t ms us 1 b).length = (mvF t ms us 1 a).length := by rw [mvF_len, mvF_len]
  have o1 := opM_ok (o := fun x y => x + y) om l1 oa ob
  have l2 : (mvF t ms (mvF t ms us 1 a) 1 b).length = (opM (fun x y => x + y) ms (mvF t ms us 1 a) (mvF t ms us 1 b)).length := by rw [mvF_len, opM_len, mvF_len]
  have o2 := opM_ok (o := fun x y => x + y) om l2 o1 oba
  refine im_ext (n := t.length) (L := ms.length) (by rw [opM_len, opM_len, mvF_len]) (mvF_len _ _ _ _ _) (fun v h => (o2 v h).len) (fun v h => (oab v h).len) fun x hx j hj => ?_
  have bx := G.lt hb hx
  rw [op_at o1 oba l2 (by rw [opM_len, mvF_len]; exact hx) hj, op_at oa ob l1 (by rw [mvF_len]; exact hx) hj, mv_at S hb (mvF_len t ms us 1 a) oa hx hj, mv_at S ha lu hu hx hj, mv_at S hb lu hu hx hj, mv_at S hab lu hu hx hj, if_pos (by decide), if_pos (by decide), if_pos (by decide), if_pos (by decide), pl1, pl1, pl1, mv_at S ha lu hu bx hj, if_pos (by decide), pl1, G.assoc ha hb hx]
  exact mod_one _ _ _ _ _ _ (by omega)
theorem tr_mul (G : Grp t) (ha : a < t.length) (hb : b < t.length) (om : OkM ms) (lu : us.length = t.length) (hu : ∀ v ∈ us, Val ms v) : mvF t ms (mvF t ms us 2 a) 2 b = mvF t ms us 2 (mul t a b) := by
  have S := G.sq
  have hab := G.lt ha hb
  have oa := mvF_ok (kind := 2) S ha om lu hu
  have oba := mvF_ok (kind := 2) S hb om (mvF_len t ms us 2 a) oa
  have oab := mvF_ok (kind := 2) S hab om lu hu
  refine im_ext (n := t.length) (L := ms.length) (mvF_len _ _ _ _ _) (mvF_len _ _ _ _ _) (fun v h => (oba v h).len) (fun v h => (oab v h).len) fun x hx j hj => ?_
  have bx := G.lt hb hx
  rw [mv_at S hb (mvF_len t ms us 2 a) oa hx hj, mv_at S hab lu hu hx hj, if_neg (by decide), if_neg (by decide), pl2, pl2, mv_at S ha lu hu bx hj, if_neg (by decide), pl2, G.assoc ha hb hx]
theorem steps_swap (G : Grp t) (ha : a < t.length) (hb : b < t.length) (om : OkM ms) (lu : us.length = t.length) (hu : ∀ v ∈ us, Val ms v) : mvF t ms (mvF t ms us 1 b) 0 a = mvF t ms (mvF t ms us 0 a) 1 b := by
  have S := G.sq
  have oa := mvF_ok (kind := 0) S ha om lu hu
  have ob := mvF_ok (kind := 1) S hb om lu hu
  have o1 := mvF_ok (kind := 0) S ha om (mvF_len t ms us 1 b) ob
  have o2 := mvF_ok (kind := 1) S hb om (mvF_len t ms us 0 a) oa
  refine im_ext (n := t.length) (L := ms.length) (mvF_len _ _ _ _ _) (mvF_len _ _ _ _ _) (fun v h => (o1 v h).len) (fun v h => (o2 v h).len) fun x hx j hj => ?_
  have bx := G.lt hb hx
  have xa := G.lt hx ha
  rw [mv_at S ha (mvF_len t ms us 1 b) ob hx hj, mv_at S hb (mvF_len t ms us 0 a) oa hx hj, if_pos (by decide), if_pos (by decide), pl0, pl1, mv_at S hb lu hu xa hj, mv_at S hb lu hu hx hj, mv_at S ha lu hu bx hj, mv_at S ha lu hu hx hj, if_pos (by decide), if_pos (by decide), if_pos (by decide), if_pos (by decide), pl0, pl1, pl0, pl1, ← G.assoc hb hx ha]
  exact mod_two _ _ _ _ _ (by omega)
end
/-! ### values add -/
section
variable {ms cs ds : List Int} {us vs : List (List Int)}
theorem at_add (om : OkM ms) (hu : ∀ v ∈ us, Val ms v) (hv : ∀ v ∈ vs, Val ms v) (l : vs.length = us.length) : atF (opM (fun x y => x + y) ms us vs) cs ms = fl ms.length fun j => (cf (atF us cs ms) j + cf (atF vs cs ms) j) % ms.getD j 0 := fl_congr fun j hj => by
  show (sm (opM (fun x y => x + y) ms us vs).length fun x => cf cs x * iv (opM (fun x y => x + y) ms us vs) x j) % ms.getD j 0 = _
  rw [show cf (atF us cs ms) j = (sm us.length fun x => cf cs x * iv us x j) % ms.getD j 0 from cf_fl hj, show cf (atF vs cs ms) j = (sm vs.length fun x => cf cs x * iv vs x j) % ms.getD j 0 from cf_fl hj, ← Int.add_emod, l, ← sm_add, opM_len]
  refine sm_mod fun x hx => ?_
  rw [op_at hu hv l hx hj, Int.mul_emod, Int.emod_emod, ← Int.mul_emod, Int.mul_add]
theorem at_sub (om : OkM ms) (hu : ∀ v ∈ us, Val ms v) (hv : ∀ v ∈ vs, Val ms v) (l : vs.length = us.length) : atF (opM (fun x y => x - y) ms us vs) cs ms = fl ms.length fun j => (cf (atF us cs ms) j - cf (atF vs cs ms) j) % ms.getD j 0 := fl_congr fun j hj => by
  show (sm (opM (fun x y => x - y) ms us vs).length fun x => cf cs x * iv (opM (fun x y => x - y) ms us vs) x j) % ms.getD j 0 = _
  rw [show cf (atF us cs ms) j = (sm us.length fun x => cf cs x * iv us x j) % ms.getD j 0 from cf_fl hj, show cf (atF vs cs ms) j = (sm vs.length fun x => cf cs x * iv vs x j) % ms.getD j 0 from cf_fl hj, ← Int.sub_emod, l, ← sm_sub, opM_len]
  refine sm_mod fun x hx => ?_
  rw [op_at hu hv l hx hj, Int.mul_emod, Int.emod_emod, ← Int.mul_emod, Int.mul_sub]
theorem at_many (m : Int) (om : OkM ms) (hu : ∀ v ∈ us, Val ms v) : atF (tmM ms m us) cs ms = fl ms.length fun j => (m * cf (atF us cs ms) j) % ms.getD j 0 := fl_congr fun j hj => by
  show (sm (tmM ms m us).length fun x => cf cs x * iv (tmM ms m us) x j) % ms.getD j 0 = _
  rw [show cf (atF us cs ms) j = (sm us.length fun x => cf cs x * iv us x j) % ms.getD j 0 from cf_fl hj, Int.mul_emod m, Int.emod_emod, ← Int.mul_emod, ← sm_mul, tmM_len]
  refine sm_mod fun x hx => ?_
  have h1 := (hu _ (vv_mem hx)).len
  have e : vv (tmM ms m us) x = opV (fun x _ => m * x) ms (vv us x) (vv us x) := vv_of (by unfold tmM; rw [List.getElem?_map, List.getElem?_range hx]; rfl)
  have e2 : iv (tmM ms m us) x j = (m * iv us x j) % ms.getD j 0 := by
    unfold iv
    rw [e, opV_at h1 h1 hj]
  rw [e2, Int.mul_emod, Int.emod_emod, ← Int.mul_emod, Int.mul_left_comm]
theorem at_scaled (m : Int) (lc : cs.length = us.length) : atF us (cs.map fun e => m * e) ms = fl ms.length fun j => (m * cf (atF us cs ms) j) % ms.getD j 0 := fl_congr fun j hj => by
  rw [show cf (atF us cs ms) j = (sm us.length fun x => cf cs x * iv us x j) % ms.getD j 0 from cf_fl hj, Int.mul_emod m, Int.emod_emod, ← Int.mul_emod, ← sm_mul]
  refine congrArg (· % ms.getD j 0) (sm_congr fun x hx => ?_)
  rw [show cf (cs.map fun e => m * e) x = m * cf cs x by
    unfold cf
    rw [getD_of (show (cs.map fun e => m * e)[x]? = some (m * cs[x]'(by omega)) by rw [List.getElem?_map, List.getElem?_eq_getElem]; rfl), getD_of (List.getElem?_eq_getElem (by omega))], Int.mul_assoc]; rfl
theorem at_sums : atF us (fl us.length fun x => cf cs x + cf ds x) ms = fl ms.length fun j => (cf (atF us cs ms) j + cf (atF us ds ms) j) % ms.getD j 0 := fl_congr fun j hj => by
  rw [show cf (atF us cs ms) j = (sm us.length fun x => cf cs x * iv us x j) % ms.getD j 0 from cf_fl hj, show cf (atF us ds ms) j = (sm us.length fun x => cf ds x * iv us x j) % ms.getD j 0 from cf_fl hj, ← Int.add_emod, ← sm_add]
  refine congrArg (· % ms.getD j 0) (sm_congr fun x hx => ?_)
  rw [cf_fl hx, Int.add_mul]; rfl
end
end K08

set_option Elab.async false
set_option linter.all false
set_option maxRecDepth 100000
set_option maxHeartbeats 4000000
namespace K08
open PySem L2 Rd GT
local macro_rules | `(tactic| walk_at "st1") => `(tactic| first | with_reducible refine' Rd.Stp.go ?_ | with_reducible refine' Rd.seq ?_)
local macro_rules | `(tactic| walk_at "st") => `(tactic| repeat (first | with_reducible refine' Rd.Stp.go ?_ | with_reducible refine' Rd.seq ?_ | ((with_reducible refine' Rd.nmR ?hr ?_); (case hr => repeat (first | exact Rd.SetR.zero | apply Rd.SetR.succ))) | ((with_reducible refine' Rd.var ?hv ?_); (case hv => rfl))))
local macro_rules | `(tactic| walk_at "sj") => `(tactic| repeat (first | with_reducible refine' Rd.Stp.go ?_ | with_reducible refine' Rd.seqA ?_ | with_reducible refine' Rd.seqD ?_ | with_reducible refine' Rd.seqF ?_ | with_reducible refine' Rd.seqW ?_ | ((with_reducible refine' Rd.nmR ?hr ?_); (case hr => repeat (first | exact Rd.SetR.zero | apply Rd.SetR.succ))) | ((with_reducible refine' Rd.var ?hv ?_); (case hv => rfl))))
local macro_rules | `(tactic| walk_at "sm") => `(tactic| first | exact Same.refl _ | assumption | (apply Rd.sm_tr; assumption; walk_at "sm") | fail)
local macro_rules | `(tactic| walk_at "fr") => `(tactic| with_reducible first
  | assumption
  | (apply Rd.fr_some; assumption; walk_at "fr") | (apply Rd.fr_tupN; assumption; walk_at "fr") | (apply Rd.fr_tupX; assumption; walk_at "fr")
  | (apply Rd.fr_grp; assumption; walk_at "fr") | (apply Rd.fr_rows; assumption; walk_at "fr") | (apply Rd.fr_rowL; assumption; walk_at "fr") | (apply Rd.fr_DD; assumption; walk_at "fr")
  | (apply Rd.fr_sqL; walk_at "fr") | fail)
theorem st_eq {t : List (List Int)} {ms : List Int} {us : List (List Int)} {a : Nat} (S : Sq t) (ha : a < t.length) (lu : us.length = t.length) : stF t ms us a = mvF t ms us 0 a := (if_pos rfl).symm.trans (kind_eq (kind := 0) S ha lu (by decide))
theorem ls_eq {t : List (List Int)} {ms : List Int} {us : List (List Int)} {a : Nat} (S : Sq t) (ha : a < t.length) (lu : us.length = t.length) : lsF t ms us a = mvF t ms us 1 a := (((if_neg (by decide)).trans (if_pos rfl)).symm).trans (kind_eq (kind := 1) S ha lu (by decide))
theorem tr_eq {t : List (List Int)} {ms : List Int} {us : List (List Int)} {a : Nat} (S : Sq t) (ha : a < t.length) (lu : us.length = t.length) : trF t ms us a = mvF t ms us 2 a := (((if_neg (by decide)).trans (if_neg (by decide))).symm).trans (kind_eq (kind := 2) S ha lu (by decide))
def sp_once (K : PySem.W.Frag) : Sp := fun vs H Q _ => ∃ (g p y m f im co : Addr) (t : List (List Int)) (ms : List Int) (us : List (List Int)) (rs : List Addr) (cs : List Int) (a : Nat), vs = [.ref g, .ref p, .ref y, .ref m, .ref f, .ref im, .ref co, .int (a : Nat)] ∧ GrpAt (gC K) H g t ∧ TabAt H p t ∧ TgtAt (tC K) H y ms ∧ H m = some (.lst (ms.map V.int)) ∧ MapAt K H f t ms us ∧ H im = some (.lst (rs.map V.ref)) ∧ ValsAt H ms t.length rs us ∧ H co = some (.lst (cs.map V.int)) ∧ cs.length = t.length ∧ a < t.length ∧ ∀ H', Same H H' → Q (.bl true) H'
def sp_twice (K : PySem.W.Frag) : Sp := fun vs H Q _ => ∃ (g p y m f im : Addr) (t : List (List Int)) (ms : List Int) (us : List (List Int)) (rs : List Addr) (a b : Nat), vs = [.ref g, .ref p, .ref y, .ref m, .ref f, .ref im, .int (a : Nat), .int (b : Nat)] ∧ GrpAt (gC K) H g t ∧ TabAt H p t ∧ TgtAt (tC K) H y ms ∧ H m = some (.lst (ms.map V.int)) ∧ MapAt K H f t ms us ∧ H im = some (.lst (rs.map V.ref)) ∧ ValsAt H ms t.length rs us ∧ a < t.length ∧ b < t.length ∧ ∀ H', Same H H' → Q (.bl true) H'
section
variable {P : Program} {w : World} {K : PySem.W.Frag} {mg : Str → Option Value} {base : Heap} {f : Addr} {fd : FuncData}
theorem sc__law_once : FnScope ["group", "table", "target", "moduli", "f", "images", "coefficients", "a", "passed", "sums", "due", "kind", "moved"] ["group", "table", "target", "moduli", "f", "images", "coefficients", "a"] (defScope s__law_once) := ⟨rfl, rfl, rfl, by decide +kernel, rfl, by decide +kernel, by decide +kernel⟩
theorem ok_once (F : FnP K "_law_once" "_law_once" s__law_once f fd) (T : Txt K mg) (D_shifted : DOk P w K mg base (L2.CX P w) "shifted" 2 ["group", "coefficients", "element"] (sp_shf K)) (D__law_same : DOk P w K mg base CX0 "_law_same" 4 ["told", "due"] (sp_same 3)) (D__law_moved_sum : DOk P w K mg base CX0 "_law_moved_sum" 1 ["table", "coefficients", "kind", "a"] sp_msum) (D__law_at : DOk P w K mg base CX0 "_law_at" 1 ["images", "coefficients", "moduli"] sp_at) (D__law_valued : DOk P w K mg base CX0 "_law_valued" 5 ["f", "coefficients", "due"] (sp_valued K)) (M_step : MOk P w K mg base (L2.CX P w) (mC K) "step" 5 ["self", "element"] (sp_mmv K stF)) (D__law_ask : DOk P w K mg base CX0 "_law_ask" 7 ["f", "kind", "a"] (sp_ask K)) (D__law_has : DOk P w K mg base CX0 "_law_has" 4 ["told", "group", "target", "moduli", "due"] (sp_has K)) (D__law_moved : DOk P w K mg base CX0 "_law_moved" 1 ["table", "moduli", "images", "kind", "a"] sp_lmoved) : FnOk P w K mg base CX0 8 f fd ["group", "table", "target", "moduli", "f", "images", "coefficients", "a"] (sp_once K) := by
  refine F.ok sc__law_once (fun vs H Q E h => ?_) (fun cdv A outer s H vs Q E hr h => ?_)
  · obtain ⟨_, _, _, _, _, _, _, _, _, _, _, _, _, rfl, _⟩ := h; rfl
  obtain ⟨g, p, y, m, f, im, co, t, ms, us, rs, cs, a, rfl, G, Tb, U, hm, X, him, V0, hco, lc, ha, k⟩ := h
  have GG := G.grp
  have S := GG.sq
  have le := G.le
  have om := U.ok
  have pm := U.le
  have lu := V0.len
  have hu := V0.ok
  have s : Same H H := Same.refl _
  refine ⟨_, PSs.nox (pss_cons (ps_set (i := 8) sc__law_once.nd rfl (Or.inl rfl) (pe_callTy (Rk.lis K) rfl T.list (by decide +kernel) (pa_cons (pv 6) pa_nil)))
  (pss_cons (ps_set (i := 9) sc__law_once.nd rfl (Or.inl rfl) (callX D_shifted (hr.mono (by decide)) (passN) (pa_cons (pv 0) (pa_cons (pv 8) (pa_cons (pv 7) pa_nil)))))
  (pss_cons (ps_if (PW.pt (pw_or (pt_not (pt_val (callX D__law_same (hr.mono (by decide)) (passN) (pa_cons (pv 9) (pa_cons (callX D__law_moved_sum (hr.mono (by decide)) (passN) (pa_cons (pv 1) (pa_cons (pv 6) (pa_cons pe_int (pa_cons (pv 7) pa_nil))))) pa_nil))))) (pw_or1 (pt_not (pt_val (callX D__law_same (hr.mono (by decide)) (passN) (pa_cons (pv 8) (pa_cons (pv 6) pa_nil))))))))
  (pss_one (ps_ret pe_bl))
  pss_nil)
  (pss_cons (ps_set (i := 10) sc__law_once.nd rfl (Or.inl rfl) (callX D__law_at (hr.mono (by decide)) (passN) (pa_cons (pv 5) (pa_cons (callX D__law_moved_sum (hr.mono (by decide)) (passN) (pa_cons (pv 1) (pa_cons (pv 6) (pa_cons pe_int (pa_cons (pv 7) pa_nil))))) (pa_cons (pv 3) pa_nil)))))
  (pss_cons (ps_if (PW.pt (pw_or (pt_not (pt_val (callX D__law_valued (hr.mono (by decide)) (passN) (pa_cons (pv 4) (pa_cons (pv 9) (pa_cons (pv 10) pa_nil)))))) (pw_or1 (pt_not (pt_val (callX D__law_valued (hr.mono (by decide)) (passN) (pa_cons (methX M_step (hr.mono (by decide)) (passN) (pv 4) (pa_cons (pv 7) pa_nil)) (pa_cons (pv 6) (pa_cons (pv 10) pa_nil)))))))))
  (pss_one (ps_ret pe_bl))
  pss_nil)
  (pss_cons (ps_for PassesOwn.never rfl (pi_range1 rfl T.range (pa_cons pe_int pa_nil)) (pg_name (i := 11) sc__law_once.nd rfl (Or.inl rfl))
  (pss_cons (ps_set (i := 12) sc__law_once.nd rfl (Or.inl rfl) (callX D__law_ask (hr.mono (by decide)) (passN) (pa_cons (pv 4) (pa_cons (pv 11) (pa_cons (pv 7) pa_nil)))))
  (pss_cons (ps_if (pt_not (pt_val (callX D__law_has (hr.mono (by decide)) (passN) (pa_cons (pv 12) (pa_cons (pv 0) (pa_cons (pv 2) (pa_cons (pv 3) (pa_cons (callX D__law_moved (hr.mono (by decide)) (passN) (pa_cons (pv 1) (pa_cons (pv 3) (pa_cons (pv 5) (pa_cons (pv 11) (pa_cons (pv 7) pa_nil)))))) pa_nil))))))))
  (pss_one (ps_ret pe_bl))
  pss_nil)
  (pss_cons (ps_set (i := 10) sc__law_once.nd rfl (Or.inl rfl) (callX D__law_at (hr.mono (by decide)) (passN) (pa_cons (pv 5) (pa_cons (callX D__law_moved_sum (hr.mono (by decide)) (passN) (pa_cons (pv 1) (pa_cons (pv 6) (pa_cons (pv 11) (pa_cons (pv 7) pa_nil))))) (pa_cons (pv 3) pa_nil)))))
  (pss_cons (ps_if (pt_not (pt_val (callX D__law_valued (hr.mono (by decide)) (passN) (pa_cons (pv 12) (pa_cons (pv 6) (pa_cons (pv 10) pa_nil))))))
  (pss_one (ps_ret pe_bl))
  pss_nil)
  (pss_one (ps_if (pt_not (pt_val (callX D__law_valued (hr.mono (by decide)) (passN) (pa_cons (pv 4) (pa_cons (callX D__law_moved_sum (hr.mono (by decide)) (passN) (pa_cons (pv 1) (pa_cons (pv 6) (pa_cons (pv 11) (pa_cons (pv 7) pa_nil))))) (pa_cons (pv 10) pa_nil))))))
  (pss_one (ps_ret pe_bl))
  pss_nil)))))))
  (pss_one (ps_ret pe_bl)))))))), ?_⟩
  walk_at "st"
  refine ⟨co, _, rfl, .inl (SqL.of hco), fun l hl => ?_⟩
  have e0 : Same H (upd H l (.lst (cs.map V.int))) := Rd.same_mk hl
  have hl1 : (upd H l (.lst (cs.map V.int))) l = some (.lst (cs.map V.int)) := upd_same
  generalize upd H l (.lst (cs.map V.int)) = H0 at e0 hl1
  replace G := G.same e0
  replace Tb := Tb.same e0
  replace U := U.same e0
  replace hm := e0 _ _ hm
  replace X := fr_map e0 X
  replace him := e0 _ _ him
  replace V0 := V0.same e0
  replace hco := e0 _ _ hco
  replace s := s.trans e0
  clear e0
  walk_at "st"
  refine ⟨g, l, t, cs, ((a : Nat) : Int), rfl, G, hl1, (fun no => absurd lc no), (fun _ no => absurd (⟨by omega, by omega⟩ : InT t ((a : Nat) : Int)) no), fun _ _ q1 H1 _ e1 hq1 => ?_⟩
  rw [Int.toNat_natCast, shf_ms GG ha] at hq1
  replace G := G.same e1
  replace Tb := Tb.same e1
  replace U := U.same e1
  replace hm := e1 _ _ hm
  replace X := fr_map e1 X
  replace him := e1 _ _ him
  replace V0 := V0.same e1
  replace hco := e1 _ _ hco
  replace hl1 := e1 _ _ hl1
  replace s := s.trans e1
  clear e1
  walk_at "st"
  refine ⟨p, co, t, cs, 0, a, rfl, Tb, S, by omega, hco, lc, ha, fun q11 H11 _ e11 hq11 => ?_⟩
  replace G := G.same e11
  replace Tb := Tb.same e11
  replace U := U.same e11
  replace hm := e11 _ _ hm
  replace X := fr_map e11 X
  replace him := e11 _ _ him
  replace V0 := V0.same e11
  replace hco := e11 _ _ hco
  replace hl1 := e11 _ _ hl1
  replace hq1 := e11 _ _ hq1
  replace s := s.trans e11
  clear e11
  walk_at "st"
  refine ⟨_, _, rfl, (DD.ints hq1 hq11 (by rw [show (msF t cs 0 a).length = t.length from fl_len _ _]; omega)).up, fun H12 e12 => ?_⟩
  replace G := G.same e12
  replace Tb := Tb.same e12
  replace U := U.same e12
  replace hm := e12 _ _ hm
  replace X := fr_map e12 X
  replace him := e12 _ _ him
  replace V0 := V0.same e12
  replace hco := e12 _ _ hco
  replace hl1 := e12 _ _ hl1
  replace hq1 := e12 _ _ hq1
  replace hq11 := e12 _ _ hq11
  replace s := s.trans e12
  clear e12
  walk_at "st"
  try refine (if_neg Bool.false_ne_true).mpr ?_
  walk_at "st"
  walk_at "st"
  refine ⟨_, _, rfl, (DD.ints hl1 hco (by omega)).up, fun H13 e13 => ?_⟩
  replace G := G.same e13
  replace Tb := Tb.same e13
  replace U := U.same e13
  replace hm := e13 _ _ hm
  replace X := fr_map e13 X
  replace him := e13 _ _ him
  replace V0 := V0.same e13
  replace hco := e13 _ _ hco
  replace hl1 := e13 _ _ hl1
  replace hq1 := e13 _ _ hq1
  replace hq11 := e13 _ _ hq11
  replace s := s.trans e13
  clear e13
  walk_at "st"
  try refine (if_neg Bool.false_ne_true).mpr ?_
  walk_at "st"
  walk_at "st"
  refine ⟨p, co, t, cs, 0, a, rfl, Tb, S, by omega, hco, lc, ha, fun q14 H14 _ e14 hq14 => ?_⟩
  replace G := G.same e14
  replace Tb := Tb.same e14
  replace U := U.same e14
  replace hm := e14 _ _ hm
  replace X := fr_map e14 X
  replace him := e14 _ _ him
  replace V0 := V0.same e14
  replace hco := e14 _ _ hco
  replace hl1 := e14 _ _ hl1
  replace hq1 := e14 _ _ hq1
  replace hq11 := e14 _ _ hq11
  replace s := s.trans e14
  clear e14
  walk_at "st"
  refine ⟨im, q14, m, t.length, ms, msF t cs 0 a, rs, us, rfl, him, V0, by omega, hq14, fl_len _ _, hm, om, pm, fun r15 H15 e15 hr15 => ?_⟩
  replace G := G.same e15
  replace Tb := Tb.same e15
  replace U := U.same e15
  replace hm := e15 _ _ hm
  replace X := fr_map e15 X
  replace him := e15 _ _ him
  replace V0 := V0.same e15
  replace hco := e15 _ _ hco
  replace hl1 := e15 _ _ hl1
  replace hq1 := e15 _ _ hq1
  replace hq11 := e15 _ _ hq11
  replace hq14 := e15 _ _ hq14
  replace s := s.trans e15
  clear e15
  walk_at "st"
  refine ⟨f, q1, r15, t, ms, msF t cs 0 a, us, rfl, X, hq1, fl_len _ _, by rw [evF_eq hu]; exact hr15, fun H16 e16 => ?_⟩
  replace G := G.same e16
  replace Tb := Tb.same e16
  replace U := U.same e16
  replace hm := e16 _ _ hm
  replace X := fr_map e16 X
  replace him := e16 _ _ him
  replace V0 := V0.same e16
  replace hco := e16 _ _ hco
  replace hl1 := e16 _ _ hl1
  replace hq1 := e16 _ _ hq1
  replace hq11 := e16 _ _ hq11
  replace hq14 := e16 _ _ hq14
  replace hr15 := TupX.same hr15 e16
  replace s := s.trans e16
  clear e16
  walk_at "st"
  try refine (if_neg Bool.false_ne_true).mpr ?_
  walk_at "st"
  walk_at "st"
  obtain ⟨dx17, ga17, ya17, ca17, ra17, h117, _⟩ := id X
  refine ⟨f, dx17, _, rfl, h117, mk_no (by decide +kernel) (by decide +kernel) (by decide +kernel) _ _ _, ?_⟩
  walk_at "st"
  refine ⟨f, t, ms, us, a, rfl, X, ha, fun s17 H17 e17 Y17 => ?_⟩
  clear h117
  rw [st_eq S ha lu] at Y17
  replace G := G.same e17
  replace Tb := Tb.same e17
  replace U := U.same e17
  replace hm := e17 _ _ hm
  replace X := fr_map e17 X
  replace him := e17 _ _ him
  replace V0 := V0.same e17
  replace hco := e17 _ _ hco
  replace hl1 := e17 _ _ hl1
  replace hq1 := e17 _ _ hq1
  replace hq11 := e17 _ _ hq11
  replace hq14 := e17 _ _ hq14
  replace hr15 := TupX.same hr15 e17
  replace s := s.trans e17
  clear e17
  walk_at "st"
  refine ⟨s17, co, r15, t, ms, cs, mvF t ms us 0 a, rfl, Y17, hco, lc, by rw [evF_eq (mvF_ok S ha om lu hu), at_moved S ha lu hu]; exact hr15, fun H18 e18 => ?_⟩
  replace G := G.same e18
  replace Tb := Tb.same e18
  replace U := U.same e18
  replace hm := e18 _ _ hm
  replace X := fr_map e18 X
  replace him := e18 _ _ him
  replace V0 := V0.same e18
  replace hco := e18 _ _ hco
  replace hl1 := e18 _ _ hl1
  replace hq1 := e18 _ _ hq1
  replace hq11 := e18 _ _ hq11
  replace hq14 := e18 _ _ hq14
  replace hr15 := TupX.same hr15 e18
  replace Y17 := fr_map e18 Y17
  replace s := s.trans e18
  clear e18
  walk_at "st"
  try refine (if_neg Bool.false_ne_true).mpr ?_
  walk_at "st"
  refine ⟨by decide, by decide, ?_⟩
  rename_i Hs
  refine for_range (fun i σ H' => ∃ (v10 v11 v12 : Option V), σ = [some (.ref g), some (.ref p), some (.ref y), some (.ref m), some (.ref f), some (.ref im), some (.ref co), some (.int (a : Nat)), some (.ref l), some (.ref q1), v10, v11, v12] ∧ GrpAt (gC K) H' g t ∧ TabAt H' p t ∧ TgtAt (tC K) H' y ms ∧ H' m = some (.lst (ms.map V.int)) ∧ MapAt K H' f t ms us ∧ H' im = some (.lst (rs.map V.ref)) ∧ ValsAt H' ms t.length rs us ∧ H' co = some (.lst (cs.map V.int)) ∧ Same H H')
    ⟨_, none, none, rfl, G, Tb, U, hm, X, him, V0, hco, s⟩ ?_ ?_
  · rintro kind σ HL hk ⟨v10, v11, v12, rfl, G, Tb, U, hm, X, him, V0, hco, s⟩
    have hk : kind < 3 := by simpa using hk
    rw [Int.zero_add]
    walk_at "st"
    refine ⟨f, t, ms, us, kind, a, rfl, X, by omega, ha, fun s1 H40 e40 Y => ?_⟩
    rw [kind_eq S ha lu (by omega)] at Y
    replace G := G.same e40
    replace Tb := Tb.same e40
    replace U := U.same e40
    replace hm := e40 _ _ hm
    replace X := fr_map e40 X
    replace him := e40 _ _ him
    replace V0 := V0.same e40
    replace hco := e40 _ _ hco
    replace s := s.trans e40
    clear e40
    walk_at "st"
    refine ⟨p, m, im, t, ms, rs, us, kind, a, rfl, Tb, S, by omega, hm, om, pm, him, V0, ha, fun q41 rs41 H41 _ e41 hq41 VV41 => ?_⟩
    replace G := G.same e41
    replace Tb := Tb.same e41
    replace U := U.same e41
    replace hm := e41 _ _ hm
    replace X := fr_map e41 X
    replace him := e41 _ _ him
    replace V0 := V0.same e41
    replace hco := e41 _ _ hco
    replace Y := fr_map e41 Y
    replace s := s.trans e41
    clear e41
    walk_at "st"
    refine ⟨s1, g, y, m, q41, t, ms, mvF t ms us kind a, rs41, rfl, Y, G, U, hm, hq41, VV41.rows, fun H42 e42 => ?_⟩
    replace G := G.same e42
    replace Tb := Tb.same e42
    replace U := U.same e42
    replace hm := e42 _ _ hm
    replace X := fr_map e42 X
    replace him := e42 _ _ him
    replace V0 := V0.same e42
    replace hco := e42 _ _ hco
    replace Y := fr_map e42 Y
    replace hq41 := e42 _ _ hq41
    replace VV41 := VV41.same e42
    replace s := s.trans e42
    clear e42
    walk_at "st"
    try refine (if_neg Bool.false_ne_true).mpr ?_
    walk_at "st"
    walk_at "st"
    refine ⟨p, co, t, cs, kind, a, rfl, Tb, S, by omega, hco, lc, ha, fun q43 H43 _ e43 hq43 => ?_⟩
    replace G := G.same e43
    replace Tb := Tb.same e43
    replace U := U.same e43
    replace hm := e43 _ _ hm
    replace X := fr_map e43 X
    replace him := e43 _ _ him
    replace V0 := V0.same e43
    replace hco := e43 _ _ hco
    replace Y := fr_map e43 Y
    replace hq41 := e43 _ _ hq41
    replace VV41 := VV41.same e43
    replace s := s.trans e43
    clear e43
    walk_at "st"
    refine ⟨im, q43, m, t.length, ms, msF t cs kind a, rs, us, rfl, him, V0, by omega, hq43, fl_len _ _, hm, om, pm, fun r44 H44 e44 hr44 => ?_⟩
    replace G := G.same e44
    replace Tb := Tb.same e44
    replace U := U.same e44
    replace hm := e44 _ _ hm
    replace X := fr_map e44 X
    replace him := e44 _ _ him
    replace V0 := V0.same e44
    replace hco := e44 _ _ hco
    replace Y := fr_map e44 Y
    replace hq41 := e44 _ _ hq41
    replace VV41 := VV41.same e44
    replace hq43 := e44 _ _ hq43
    replace s := s.trans e44
    clear e44
    walk_at "st"
    refine ⟨s1, co, r44, t, ms, cs, mvF t ms us kind a, rfl, Y, hco, lc, by rw [evF_eq (mvF_ok S ha om lu hu), at_moved S ha lu hu]; exact hr44, fun H45 e45 => ?_⟩
    replace G := G.same e45
    replace Tb := Tb.same e45
    replace U := U.same e45
    replace hm := e45 _ _ hm
    replace X := fr_map e45 X
    replace him := e45 _ _ him
    replace V0 := V0.same e45
    replace hco := e45 _ _ hco
    replace Y := fr_map e45 Y
    replace hq41 := e45 _ _ hq41
    replace VV41 := VV41.same e45
    replace hq43 := e45 _ _ hq43
    replace hr44 := TupX.same hr44 e45
    replace s := s.trans e45
    clear e45
    walk_at "st"
    try refine (if_neg Bool.false_ne_true).mpr ?_
    walk_at "st"
    walk_at "st"
    refine ⟨p, co, t, cs, kind, a, rfl, Tb, S, by omega, hco, lc, ha, fun q46 H46 _ e46 hq46 => ?_⟩
    replace G := G.same e46
    replace Tb := Tb.same e46
    replace U := U.same e46
    replace hm := e46 _ _ hm
    replace X := fr_map e46 X
    replace him := e46 _ _ him
    replace V0 := V0.same e46
    replace hco := e46 _ _ hco
    replace Y := fr_map e46 Y
    replace hq41 := e46 _ _ hq41
    replace VV41 := VV41.same e46
    replace hq43 := e46 _ _ hq43
    replace hr44 := TupX.same hr44 e46
    replace s := s.trans e46
    clear e46
    walk_at "st"
    refine ⟨f, q46, r44, t, ms, msF t cs kind a, us, rfl, X, hq46, fl_len _ _, by rw [evF_eq hu]; exact hr44, fun H47 e47 => ?_⟩
    replace G := G.same e47
    replace Tb := Tb.same e47
    replace U := U.same e47
    replace hm := e47 _ _ hm
    replace X := fr_map e47 X
    replace him := e47 _ _ him
    replace V0 := V0.same e47
    replace hco := e47 _ _ hco
    replace Y := fr_map e47 Y
    replace hq41 := e47 _ _ hq41
    replace VV41 := VV41.same e47
    replace hq43 := e47 _ _ hq43
    replace hr44 := TupX.same hr44 e47
    replace hq46 := e47 _ _ hq46
    replace s := s.trans e47
    clear e47
    walk_at "st"
    try refine (if_neg Bool.false_ne_true).mpr ?_
    walk_at "st"
    exact ⟨_, _, _, rfl, G, Tb, U, hm, X, him, V0, hco, s⟩
  · rintro σ HL ⟨v10, v11, v12, rfl, G, Tb, U, hm, X, him, V0, hco, s⟩
    walk_at "st"
    exact k _ s
end
end K08

set_option Elab.async false
set_option linter.all false
set_option maxRecDepth 100000
set_option maxHeartbeats 4000000
namespace K08
open PySem L2 Rd GT
local macro_rules | `(tactic| walk_at "st1") => `(tactic| first | with_reducible refine' Rd.Stp.go ?_ | with_reducible refine' Rd.seq ?_)
local macro_rules | `(tactic| walk_at "st") => `(tactic| repeat (first | with_reducible refine' Rd.Stp.go ?_ | with_reducible refine' Rd.seq ?_ | ((with_reducible refine' Rd.nmR ?hr ?_); (case hr => repeat (first | exact Rd.SetR.zero | apply Rd.SetR.succ))) | ((with_reducible refine' Rd.var ?hv ?_); (case hv => rfl))))
local macro_rules | `(tactic| walk_at "sj") => `(tactic| repeat (first | with_reducible refine' Rd.Stp.go ?_ | with_reducible refine' Rd.seqA ?_ | with_reducible refine' Rd.seqD ?_ | with_reducible refine' Rd.seqF ?_ | with_reducible refine' Rd.seqW ?_ | ((with_reducible refine' Rd.nmR ?hr ?_); (case hr => repeat (first | exact Rd.SetR.zero | apply Rd.SetR.succ))) | ((with_reducible refine' Rd.var ?hv ?_); (case hv => rfl))))
local macro_rules | `(tactic| walk_at "sm") => `(tactic| first | exact Same.refl _ | assumption | (apply Rd.sm_tr; assumption; walk_at "sm") | fail)
local macro_rules | `(tactic| walk_at "fr") => `(tactic| with_reducible first
  | assumption
  | (apply Rd.fr_some; assumption; walk_at "fr") | (apply Rd.fr_tupN; assumption; walk_at "fr") | (apply Rd.fr_tupX; assumption; walk_at "fr")
  | (apply Rd.fr_grp; assumption; walk_at "fr") | (apply Rd.fr_rows; assumption; walk_at "fr") | (apply Rd.fr_rowL; assumption; walk_at "fr") | (apply Rd.fr_DD; assumption; walk_at "fr")
  | (apply Rd.fr_sqL; walk_at "fr") | fail)
section
variable {P : Program} {w : World} {K : PySem.W.Frag} {mg : Str → Option Value} {base : Heap} {f : Addr} {fd : FuncData}
theorem sc__law_twice : FnScope ["group", "table", "target", "moduli", "f", "images", "a", "b", "product", "due"] ["group", "table", "target", "moduli", "f", "images", "a", "b"] (defScope s__law_twice) := ⟨rfl, rfl, rfl, by decide +kernel, rfl, by decide +kernel, by decide +kernel⟩
theorem ok_twice (F : FnP K "_law_twice" "_law_twice" s__law_twice f fd) (T : Txt K mg) (D__law_moved : DOk P w K mg base CX0 "_law_moved" 1 ["table", "moduli", "images", "kind", "a"] sp_lmoved) (D__law_has : DOk P w K mg base CX0 "_law_has" 4 ["told", "group", "target", "moduli", "due"] (sp_has K)) (M_step : MOk P w K mg base (L2.CX P w) (mC K) "step" 5 ["self", "element"] (sp_mmv K stF)) (M_left_step : MOk P w K mg base (L2.CX P w) (mC K) "left_step" 6 ["self", "element"] (sp_mmv K lsF)) (M_translated : MOk P w K mg base (L2.CX P w) (mC K) "translated" 5 ["self", "element"] (sp_mmv K trF)) (M_GroupMap_add : BinOk P w K mg base (L2.CX P w) (mC K) "__add__" 4 ["self", "other"] (sp_mbin K (fun x y => x + y))) : FnOk P w K mg base CX0 8 f fd ["group", "table", "target", "moduli", "f", "images", "a", "b"] (sp_twice K) := by
  refine F.ok sc__law_twice (fun vs H Q E h => ?_) (fun cdv A outer s H vs Q E hr h => ?_)
  · obtain ⟨_, _, _, _, _, _, _, _, _, _, _, _, rfl, _⟩ := h; rfl
  obtain ⟨g, p, y, m, f, im, t, ms, us, rs, a, b, rfl, G, Tb, U, hm, X, him, V0, ha, hb, k⟩ := h
  have GG := G.grp
  have S := GG.sq
  have le := G.le
  have om := U.ok
  have pm := U.le
  have lu := V0.len
  have hu := V0.ok
  have hab := GG.lt ha hb
  have s : Same H H := Same.refl _
  refine ⟨_, PSs.nox (pss_cons (ps_set (i := 8) sc__law_twice.nd rfl (Or.inl rfl) (pe_ix (Rk.ixL K) (pe_ix (Rk.ixL K) (pv 1) (pv 6) (fun _ _ => rfl)) (pv 7) (fun _ _ => rfl)))
  (pss_cons (ps_set (i := 9) sc__law_twice.nd rfl (Or.inl rfl) (callX D__law_moved (hr.mono (by decide)) (passN) (pa_cons (pv 1) (pa_cons (pv 3) (pa_cons (pv 5) (pa_cons pe_int (pa_cons (pv 8) pa_nil)))))))
  (pss_cons (ps_if (pt_not (pt_val (callX D__law_has (hr.mono (by decide)) (passN) (pa_cons (methX M_step (hr.mono (by decide)) (passN) (pv 4) (pa_cons (pv 8) pa_nil)) (pa_cons (pv 0) (pa_cons (pv 2) (pa_cons (pv 3) (pa_cons (pv 9) pa_nil))))))))
  (pss_one (ps_ret pe_bl))
  pss_nil)
  (pss_cons (ps_if (pt_not (pt_val (callX D__law_has (hr.mono (by decide)) (passN) (pa_cons (pe_op (op_insBin M_GroupMap_add (hr.mono (by decide)) (passN)) (pe_op (op_insBin M_GroupMap_add (hr.mono (by decide)) (passN)) (methX M_step (hr.mono (by decide)) (passN) (pv 4) (pa_cons (pv 6) pa_nil)) (methX M_step (hr.mono (by decide)) (passN) (pv 4) (pa_cons (pv 7) pa_nil))) (methX M_step (hr.mono (by decide)) (passN) (methX M_step (hr.mono (by decide)) (passN) (pv 4) (pa_cons (pv 7) pa_nil)) (pa_cons (pv 6) pa_nil))) (pa_cons (pv 0) (pa_cons (pv 2) (pa_cons (pv 3) (pa_cons (pv 9) pa_nil))))))))
  (pss_one (ps_ret pe_bl))
  pss_nil)
  (pss_cons (ps_set (i := 9) sc__law_twice.nd rfl (Or.inl rfl) (callX D__law_moved (hr.mono (by decide)) (passN) (pa_cons (pv 1) (pa_cons (pv 3) (pa_cons (pv 5) (pa_cons pe_int (pa_cons (pv 8) pa_nil)))))))
  (pss_cons (ps_if (pt_not (pt_val (callX D__law_has (hr.mono (by decide)) (passN) (pa_cons (methX M_left_step (hr.mono (by decide)) (passN) (pv 4) (pa_cons (pv 8) pa_nil)) (pa_cons (pv 0) (pa_cons (pv 2) (pa_cons (pv 3) (pa_cons (pv 9) pa_nil))))))))
  (pss_one (ps_ret pe_bl))
  pss_nil)
  (pss_cons (ps_if (pt_not (pt_val (callX D__law_has (hr.mono (by decide)) (passN) (pa_cons (pe_op (op_insBin M_GroupMap_add (hr.mono (by decide)) (passN)) (pe_op (op_insBin M_GroupMap_add (hr.mono (by decide)) (passN)) (methX M_left_step (hr.mono (by decide)) (passN) (pv 4) (pa_cons (pv 6) pa_nil)) (methX M_left_step (hr.mono (by decide)) (passN) (pv 4) (pa_cons (pv 7) pa_nil))) (methX M_left_step (hr.mono (by decide)) (passN) (methX M_left_step (hr.mono (by decide)) (passN) (pv 4) (pa_cons (pv 6) pa_nil)) (pa_cons (pv 7) pa_nil))) (pa_cons (pv 0) (pa_cons (pv 2) (pa_cons (pv 3) (pa_cons (pv 9) pa_nil))))))))
  (pss_one (ps_ret pe_bl))
  pss_nil)
  (pss_cons (ps_set (i := 9) sc__law_twice.nd rfl (Or.inl rfl) (callX D__law_moved (hr.mono (by decide)) (passN) (pa_cons (pv 1) (pa_cons (pv 3) (pa_cons (pv 5) (pa_cons pe_int (pa_cons (pv 8) pa_nil)))))))
  (pss_cons (ps_if (pt_not (pt_val (callX D__law_has (hr.mono (by decide)) (passN) (pa_cons (methX M_translated (hr.mono (by decide)) (passN) (pv 4) (pa_cons (pv 8) pa_nil)) (pa_cons (pv 0) (pa_cons (pv 2) (pa_cons (pv 3) (pa_cons (pv 9) pa_nil))))))))
  (pss_one (ps_ret pe_bl))
  pss_nil)
  (pss_cons (ps_if (pt_not (pt_val (callX D__law_has (hr.mono (by decide)) (passN) (pa_cons (methX M_translated (hr.mono (by decide)) (passN) (methX M_translated (hr.mono (by decide)) (passN) (pv 4) (pa_cons (pv 6) pa_nil)) (pa_cons (pv 7) pa_nil)) (pa_cons (pv 0) (pa_cons (pv 2) (pa_cons (pv 3) (pa_cons (pv 9) pa_nil))))))))
  (pss_one (ps_ret pe_bl))
  pss_nil)
  (pss_cons (ps_set (i := 9) sc__law_twice.nd rfl (Or.inl rfl) (callX D__law_moved (hr.mono (by decide)) (passN) (pa_cons (pv 1) (pa_cons (pv 3) (pa_cons (callX D__law_moved (hr.mono (by decide)) (passN) (pa_cons (pv 1) (pa_cons (pv 3) (pa_cons (pv 5) (pa_cons pe_int (pa_cons (pv 6) pa_nil)))))) (pa_cons pe_int (pa_cons (pv 7) pa_nil)))))))
  (pss_cons (ps_if (pt_not (pt_val (callX D__law_has (hr.mono (by decide)) (passN) (pa_cons (methX M_left_step (hr.mono (by decide)) (passN) (methX M_step (hr.mono (by decide)) (passN) (pv 4) (pa_cons (pv 6) pa_nil)) (pa_cons (pv 7) pa_nil)) (pa_cons (pv 0) (pa_cons (pv 2) (pa_cons (pv 3) (pa_cons (pv 9) pa_nil))))))))
  (pss_one (ps_ret pe_bl))
  pss_nil)
  (pss_one (ps_ret (callX D__law_has (hr.mono (by decide)) (passN) (pa_cons (methX M_step (hr.mono (by decide)) (passN) (methX M_left_step (hr.mono (by decide)) (passN) (pv 4) (pa_cons (pv 7) pa_nil)) (pa_cons (pv 6) pa_nil)) (pa_cons (pv 0) (pa_cons (pv 2) (pa_cons (pv 3) (pa_cons (pv 9) pa_nil)))))))))))))))))))), ?_⟩
  walk_at "st"
  obtain ⟨cx, ca, cr, c1, c2, c3, c4⟩ := Tb.cell (K := K) S ha hb
  refine Rd.ixL c1 c2 ?_
  walk_at "st"
  refine Rd.ixL c3 c4 ?_
  clear c1 c2 c3 c4
  walk_at "st"
  refine ⟨p, m, im, t, ms, rs, us, 0, (mul t a b), rfl, Tb, S, by omega, hm, om, pm, him, V0, hab, fun q1 rs1 H1 _ e1 hq1 VV1 => ?_⟩
  replace G := G.same e1
  replace Tb := Tb.same e1
  replace U := U.same e1
  replace hm := e1 _ _ hm
  replace X := fr_map e1 X
  replace him := e1 _ _ him
  replace V0 := V0.same e1
  replace s := s.trans e1
  clear e1
  walk_at "st"
  obtain ⟨dx2, ga2, ya2, ca2, ra2, h12, _⟩ := id X
  refine ⟨f, dx2, _, rfl, h12, mk_no (by decide +kernel) (by decide +kernel) (by decide +kernel) _ _ _, ?_⟩
  walk_at "st"
  refine ⟨f, t, ms, us, (mul t a b), rfl, X, hab, fun s2 H2 e2 Y2 => ?_⟩
  clear h12
  rw [st_eq S hab lu] at Y2
  replace G := G.same e2
  replace Tb := Tb.same e2
  replace U := U.same e2
  replace hm := e2 _ _ hm
  replace X := fr_map e2 X
  replace him := e2 _ _ him
  replace V0 := V0.same e2
  replace hq1 := e2 _ _ hq1
  replace VV1 := VV1.same e2
  replace s := s.trans e2
  clear e2
  walk_at "st"
  refine ⟨s2, g, y, m, q1, t, ms, (mvF t ms us 0 (mul t a b)), rs1, rfl, Y2, G, U, hm, hq1, VV1.rows, fun H3 e3 => ?_⟩
  replace G := G.same e3
  replace Tb := Tb.same e3
  replace U := U.same e3
  replace hm := e3 _ _ hm
  replace X := fr_map e3 X
  replace him := e3 _ _ him
  replace V0 := V0.same e3
  replace hq1 := e3 _ _ hq1
  replace VV1 := VV1.same e3
  replace Y2 := fr_map e3 Y2
  replace s := s.trans e3
  clear e3
  walk_at "st"
  try refine (if_neg Bool.false_ne_true).mpr ?_
  walk_at "st"
  walk_at "st"
  obtain ⟨dx4, ga4, ya4, ca4, ra4, h14, _⟩ := id X
  refine ⟨f, dx4, _, rfl, h14, mk_no (by decide +kernel) (by decide +kernel) (by decide +kernel) _ _ _, ?_⟩
  walk_at "st"
  refine ⟨f, t, ms, us, a, rfl, X, ha, fun s4 H4 e4 Y4 => ?_⟩
  clear h14
  rw [st_eq S ha lu] at Y4
  replace G := G.same e4
  replace Tb := Tb.same e4
  replace U := U.same e4
  replace hm := e4 _ _ hm
  replace X := fr_map e4 X
  replace him := e4 _ _ him
  replace V0 := V0.same e4
  replace hq1 := e4 _ _ hq1
  replace VV1 := VV1.same e4
  replace s := s.trans e4
  clear e4
  walk_at "st"
  obtain ⟨dx5, ga5, ya5, ca5, ra5, h15, _⟩ := id X
  refine ⟨f, dx5, _, rfl, h15, mk_no (by decide +kernel) (by decide +kernel) (by decide +kernel) _ _ _, ?_⟩
  walk_at "st"
  refine ⟨f, t, ms, us, b, rfl, X, hb, fun s5 H5 e5 Y5 => ?_⟩
  clear h15
  rw [st_eq S hb lu] at Y5
  replace G := G.same e5
  replace Tb := Tb.same e5
  replace U := U.same e5
  replace hm := e5 _ _ hm
  replace X := fr_map e5 X
  replace him := e5 _ _ him
  replace V0 := V0.same e5
  replace hq1 := e5 _ _ hq1
  replace VV1 := VV1.same e5
  replace Y4 := fr_map e5 Y4
  replace s := s.trans e5
  clear e5
  walk_at "st"
  refine mbinI Y4 Y5 fun s6 H6 e6 Y6 => ?_
  replace G := G.same e6
  replace Tb := Tb.same e6
  replace U := U.same e6
  replace hm := e6 _ _ hm
  replace X := fr_map e6 X
  replace him := e6 _ _ him
  replace V0 := V0.same e6
  replace hq1 := e6 _ _ hq1
  replace VV1 := VV1.same e6
  replace Y4 := fr_map e6 Y4
  replace Y5 := fr_map e6 Y5
  replace s := s.trans e6
  clear e6
  walk_at "st"
  obtain ⟨dx7, ga7, ya7, ca7, ra7, h17, _⟩ := id X
  refine ⟨f, dx7, _, rfl, h17, mk_no (by decide +kernel) (by decide +kernel) (by decide +kernel) _ _ _, ?_⟩
  walk_at "st"
  refine ⟨f, t, ms, us, b, rfl, X, hb, fun s7 H7 e7 Y7 => ?_⟩
  clear h17
  rw [st_eq S hb lu] at Y7
  replace G := G.same e7
  replace Tb := Tb.same e7
  replace U := U.same e7
  replace hm := e7 _ _ hm
  replace X := fr_map e7 X
  replace him := e7 _ _ him
  replace V0 := V0.same e7
  replace hq1 := e7 _ _ hq1
  replace VV1 := VV1.same e7
  replace Y4 := fr_map e7 Y4
  replace Y5 := fr_map e7 Y5
  replace Y6 := fr_map e7 Y6
  replace s := s.trans e7
  clear e7
  walk_at "st"
  obtain ⟨dx8, ga8, ya8, ca8, ra8, h18, _⟩ := id Y7
  refine ⟨s7, dx8, _, rfl, h18, mk_no (by decide +kernel) (by decide +kernel) (by decide +kernel) _ _ _, ?_⟩
  walk_at "st"
  refine ⟨s7, t, ms, (mvF t ms us 0 b), a, rfl, Y7, ha, fun s8 H8 e8 Y8 => ?_⟩
  clear h18
  rw [st_eq S ha (mvF_len _ _ _ _ _)] at Y8
  replace G := G.same e8
  replace Tb := Tb.same e8
  replace U := U.same e8
  replace hm := e8 _ _ hm
  replace X := fr_map e8 X
  replace him := e8 _ _ him
  replace V0 := V0.same e8
  replace hq1 := e8 _ _ hq1
  replace VV1 := VV1.same e8
  replace Y4 := fr_map e8 Y4
  replace Y5 := fr_map e8 Y5
  replace Y6 := fr_map e8 Y6
  replace Y7 := fr_map e8 Y7
  replace s := s.trans e8
  clear e8
  walk_at "st"
  refine mbinI Y6 Y8 fun s9 H9 e9 Y9 => ?_
  replace G := G.same e9
  replace Tb := Tb.same e9
  replace U := U.same e9
  replace hm := e9 _ _ hm
  replace X := fr_map e9 X
  replace him := e9 _ _ him
  replace V0 := V0.same e9
  replace hq1 := e9 _ _ hq1
  replace VV1 := VV1.same e9
  replace Y4 := fr_map e9 Y4
  replace Y5 := fr_map e9 Y5
  replace Y6 := fr_map e9 Y6
  replace Y7 := fr_map e9 Y7
  replace Y8 := fr_map e9 Y8
  replace s := s.trans e9
  clear e9
  rw [step_mul GG ha hb om lu hu] at Y9
  walk_at "st"
  refine ⟨s9, g, y, m, q1, t, ms, (mvF t ms us 0 (mul t a b)), rs1, rfl, Y9, G, U, hm, hq1, VV1.rows, fun H10 e10 => ?_⟩
  replace G := G.same e10
  replace Tb := Tb.same e10
  replace U := U.same e10
  replace hm := e10 _ _ hm
  replace X := fr_map e10 X
  replace him := e10 _ _ him
  replace V0 := V0.same e10
  replace hq1 := e10 _ _ hq1
  replace VV1 := VV1.same e10
  replace Y4 := fr_map e10 Y4
  replace Y5 := fr_map e10 Y5
  replace Y6 := fr_map e10 Y6
  replace Y7 := fr_map e10 Y7
  replace Y8 := fr_map e10 Y8
  replace Y9 := fr_map e10 Y9
  replace s := s.trans e10
  clear e10
  walk_at "st"
  try refine (if_neg Bool.false_ne_true).mpr ?_
  walk_at "st"
  walk_at "st"
  refine ⟨p, m, im, t, ms, rs, us, 1, (mul t a b), rfl, Tb, S, by omega, hm, om, pm, him, V0, hab, fun q11 rs11 H11 _ e11 hq11 VV11 => ?_⟩
  replace G := G.same e11
  replace Tb := Tb.same e11
  replace U := U.same e11
  replace hm := e11 _ _ hm
  replace X := fr_map e11 X
  replace him := e11 _ _ him
  replace V0 := V0.same e11
  replace s := s.trans e11
  clear e11
  walk_at "st"
  obtain ⟨dx12, ga12, ya12, ca12, ra12, h112, _⟩ := id X
  refine ⟨f, dx12, _, rfl, h112, mk_no (by decide +kernel) (by decide +kernel) (by decide +kernel) _ _ _, ?_⟩
  walk_at "st"
  refine ⟨f, t, ms, us, (mul t a b), rfl, X, hab, fun s12 H12 e12 Y12 => ?_⟩
  clear h112
  rw [ls_eq S hab lu] at Y12
  replace G := G.same e12
  replace Tb := Tb.same e12
  replace U := U.same e12
  replace hm := e12 _ _ hm
  replace X := fr_map e12 X
  replace him := e12 _ _ him
  replace V0 := V0.same e12
  replace hq11 := e12 _ _ hq11
  replace VV11 := VV11.same e12
  replace s := s.trans e12
  clear e12
  walk_at "st"
  refine ⟨s12, g, y, m, q11, t, ms, (mvF t ms us 1 (mul t a b)), rs11, rfl, Y12, G, U, hm, hq11, VV11.rows, fun H13 e13 => ?_⟩
  replace G := G.same e13
  replace Tb := Tb.same e13
  replace U := U.same e13
  replace hm := e13 _ _ hm
  replace X := fr_map e13 X
  replace him := e13 _ _ him
  replace V0 := V0.same e13
  replace hq11 := e13 _ _ hq11
  replace VV11 := VV11.same e13
  replace Y12 := fr_map e13 Y12
  replace s := s.trans e13
  clear e13
  walk_at "st"
  try refine (if_neg Bool.false_ne_true).mpr ?_
  walk_at "st"
  walk_at "st"
  obtain ⟨dx14, ga14, ya14, ca14, ra14, h114, _⟩ := id X
  refine ⟨f, dx14, _, rfl, h114, mk_no (by decide +kernel) (by decide +kernel) (by decide +kernel) _ _ _, ?_⟩
  walk_at "st"
  refine ⟨f, t, ms, us, a, rfl, X, ha, fun s14 H14 e14 Y14 => ?_⟩
  clear h114
  rw [ls_eq S ha lu] at Y14
  replace G := G.same e14
  replace Tb := Tb.same e14
  replace U := U.same e14
  replace hm := e14 _ _ hm
  replace X := fr_map e14 X
  replace him := e14 _ _ him
  replace V0 := V0.same e14
  replace hq11 := e14 _ _ hq11
  replace VV11 := VV11.same e14
  replace s := s.trans e14
  clear e14
  walk_at "st"
  obtain ⟨dx15, ga15, ya15, ca15, ra15, h115, _⟩ := id X
  refine ⟨f, dx15, _, rfl, h115, mk_no (by decide +kernel) (by decide +kernel) (by decide +kernel) _ _ _, ?_⟩
  walk_at "st"
  refine ⟨f, t, ms, us, b, rfl, X, hb, fun s15 H15 e15 Y15 => ?_⟩
  clear h115
  rw [ls_eq S hb lu] at Y15
  replace G := G.same e15
  replace Tb := Tb.same e15
  replace U := U.same e15
  replace hm := e15 _ _ hm
  replace X := fr_map e15 X
  replace him := e15 _ _ him
  replace V0 := V0.same e15
  replace hq11 := e15 _ _ hq11
  replace VV11 := VV11.same e15
  replace Y14 := fr_map e15 Y14
  replace s := s.trans e15
  clear e15
  walk_at "st"
  refine mbinI Y14 Y15 fun s16 H16 e16 Y16 => ?_
  replace G := G.same e16
  replace Tb := Tb.same e16
  replace U := U.same e16
  replace hm := e16 _ _ hm
  replace X := fr_map e16 X
  replace him := e16 _ _ him
  replace V0 := V0.same e16
  replace hq11 := e16 _ _ hq11
  replace VV11 := VV11.same e16
  replace Y14 := fr_map e16 Y14
  replace Y15 := fr_map e16 Y15
  replace s := s.trans e16
  clear e16
  walk_at "st"
  obtain ⟨dx17, ga17, ya17, ca17, ra17, h117, _⟩ := id X
  refine ⟨f, dx17, _, rfl, h117, mk_no (by decide +kernel) (by decide +kernel) (by decide +kernel) _ _ _, ?_⟩
  walk_at "st"
  refine ⟨f, t, ms, us, a, rfl, X, ha, fun s17 H17 e17 Y17 => ?_⟩
  clear h117
  rw [ls_eq S ha lu] at Y17
  replace G := G.same e17
  replace Tb := Tb.same e17
  replace U := U.same e17
  replace hm := e17 _ _ hm
  replace X := fr_map e17 X
  replace him := e17 _ _ him
  replace V0 := V0.same e17
  replace hq11 := e17 _ _ hq11
  replace VV11 := VV11.same e17
  replace Y14 := fr_map e17 Y14
  replace Y15 := fr_map e17 Y15
  replace Y16 := fr_map e17 Y16
  replace s := s.trans e17
  clear e17
  walk_at "st"
  obtain ⟨dx18, ga18, ya18, ca18, ra18, h118, _⟩ := id Y17
  refine ⟨s17, dx18, _, rfl, h118, mk_no (by decide +kernel) (by decide +kernel) (by decide +kernel) _ _ _, ?_⟩
  walk_at "st"
  refine ⟨s17, t, ms, (mvF t ms us 1 a), b, rfl, Y17, hb, fun s18 H18 e18 Y18 => ?_⟩
  clear h118
  rw [ls_eq S hb (mvF_len _ _ _ _ _)] at Y18
  replace G := G.same e18
  replace Tb := Tb.same e18
  replace U := U.same e18
  replace hm := e18 _ _ hm
  replace X := fr_map e18 X
  replace him := e18 _ _ him
  replace V0 := V0.same e18
  replace hq11 := e18 _ _ hq11
  replace VV11 := VV11.same e18
  replace Y14 := fr_map e18 Y14
  replace Y15 := fr_map e18 Y15
  replace Y16 := fr_map e18 Y16
  replace Y17 := fr_map e18 Y17
  replace s := s.trans e18
  clear e18
  walk_at "st"
  refine mbinI Y16 Y18 fun s19 H19 e19 Y19 => ?_
  replace G := G.same e19
  replace Tb := Tb.same e19
  replace U := U.same e19
  replace hm := e19 _ _ hm
  replace X := fr_map e19 X
  replace him := e19 _ _ him
  replace V0 := V0.same e19
  replace hq11 := e19 _ _ hq11
  replace VV11 := VV11.same e19
  replace Y14 := fr_map e19 Y14
  replace Y15 := fr_map e19 Y15
  replace Y16 := fr_map e19 Y16
  replace Y17 := fr_map e19 Y17
  replace Y18 := fr_map e19 Y18
  replace s := s.trans e19
  clear e19
  rw [lstep_mul GG ha hb om lu hu] at Y19
  walk_at "st"
  refine ⟨s19, g, y, m, q11, t, ms, (mvF t ms us 1 (mul t a b)), rs11, rfl, Y19, G, U, hm, hq11, VV11.rows, fun H20 e20 => ?_⟩
  replace G := G.same e20
  replace Tb := Tb.same e20
  replace U := U.same e20
  replace hm := e20 _ _ hm
  replace X := fr_map e20 X
  replace him := e20 _ _ him
  replace V0 := V0.same e20
  replace hq11 := e20 _ _ hq11
  replace VV11 := VV11.same e20
  replace Y14 := fr_map e20 Y14
  replace Y15 := fr_map e20 Y15
  replace Y16 := fr_map e20 Y16
  replace Y17 := fr_map e20 Y17
  replace Y18 := fr_map e20 Y18
  replace Y19 := fr_map e20 Y19
  replace s := s.trans e20
  clear e20
  walk_at "st"
  try refine (if_neg Bool.false_ne_true).mpr ?_
  walk_at "st"
  walk_at "st"
  refine ⟨p, m, im, t, ms, rs, us, 2, (mul t a b), rfl, Tb, S, by omega, hm, om, pm, him, V0, hab, fun q21 rs21 H21 _ e21 hq21 VV21 => ?_⟩
  replace G := G.same e21
  replace Tb := Tb.same e21
  replace U := U.same e21
  replace hm := e21 _ _ hm
  replace X := fr_map e21 X
  replace him := e21 _ _ him
  replace V0 := V0.same e21
  replace s := s.trans e21
  clear e21
  walk_at "st"
  obtain ⟨dx22, ga22, ya22, ca22, ra22, h122, _⟩ := id X
  refine ⟨f, dx22, _, rfl, h122, mk_no (by decide +kernel) (by decide +kernel) (by decide +kernel) _ _ _, ?_⟩
  walk_at "st"
  refine ⟨f, t, ms, us, (mul t a b), rfl, X, hab, fun s22 H22 e22 Y22 => ?_⟩
  clear h122
  rw [tr_eq S hab lu] at Y22
  replace G := G.same e22
  replace Tb := Tb.same e22
  replace U := U.same e22
  replace hm := e22 _ _ hm
  replace X := fr_map e22 X
  replace him := e22 _ _ him
  replace V0 := V0.same e22
  replace hq21 := e22 _ _ hq21
  replace VV21 := VV21.same e22
  replace s := s.trans e22
  clear e22
  walk_at "st"
  refine ⟨s22, g, y, m, q21, t, ms, (mvF t ms us 2 (mul t a b)), rs21, rfl, Y22, G, U, hm, hq21, VV21.rows, fun H23 e23 => ?_⟩
  replace G := G.same e23
  replace Tb := Tb.same e23
  replace U := U.same e23
  replace hm := e23 _ _ hm
  replace X := fr_map e23 X
  replace him := e23 _ _ him
  replace V0 := V0.same e23
  replace hq21 := e23 _ _ hq21
  replace VV21 := VV21.same e23
  replace Y22 := fr_map e23 Y22
  replace s := s.trans e23
  clear e23
  walk_at "st"
  try refine (if_neg Bool.false_ne_true).mpr ?_
  walk_at "st"
  walk_at "st"
  obtain ⟨dx24, ga24, ya24, ca24, ra24, h124, _⟩ := id X
  refine ⟨f, dx24, _, rfl, h124, mk_no (by decide +kernel) (by decide +kernel) (by decide +kernel) _ _ _, ?_⟩
  walk_at "st"
  refine ⟨f, t, ms, us, a, rfl, X, ha, fun s24 H24 e24 Y24 => ?_⟩
  clear h124
  rw [tr_eq S ha lu] at Y24
  replace G := G.same e24
  replace Tb := Tb.same e24
  replace U := U.same e24
  replace hm := e24 _ _ hm
  replace X := fr_map e24 X
  replace him := e24 _ _ him
  replace V0 := V0.same e24
  replace hq21 := e24 _ _ hq21
  replace VV21 := VV21.same e24
  replace s := s.trans e24
  clear e24
  walk_at "st"
  obtain ⟨dx25, ga25, ya25, ca25, ra25, h125, _⟩ := id Y24
  refine ⟨s24, dx25, _, rfl, h125, mk_no (by decide +kernel) (by decide +kernel) (by decide +kernel) _ _ _, ?_⟩
  walk_at "st"
  refine ⟨s24, t, ms, (mvF t ms us 2 a), b, rfl, Y24, hb, fun s25 H25 e25 Y25 => ?_⟩
  clear h125
  rw [tr_eq S hb (mvF_len _ _ _ _ _)] at Y25
  replace G := G.same e25
  replace Tb := Tb.same e25
  replace U := U.same e25
  replace hm := e25 _ _ hm
  replace X := fr_map e25 X
  replace him := e25 _ _ him
  replace V0 := V0.same e25
  replace hq21 := e25 _ _ hq21
  replace VV21 := VV21.same e25
  replace Y24 := fr_map e25 Y24
  replace s := s.trans e25
  clear e25
  rw [tr_mul GG ha hb om lu hu] at Y25
  walk_at "st"
  refine ⟨s25, g, y, m, q21, t, ms, (mvF t ms us 2 (mul t a b)), rs21, rfl, Y25, G, U, hm, hq21, VV21.rows, fun H26 e26 => ?_⟩
  replace G := G.same e26
  replace Tb := Tb.same e26
  replace U := U.same e26
  replace hm := e26 _ _ hm
  replace X := fr_map e26 X
  replace him := e26 _ _ him
  replace V0 := V0.same e26
  replace hq21 := e26 _ _ hq21
  replace VV21 := VV21.same e26
  replace Y24 := fr_map e26 Y24
  replace Y25 := fr_map e26 Y25
  replace s := s.trans e26
  clear e26
  walk_at "st"
  try refine (if_neg Bool.false_ne_true).mpr ?_
  walk_at "st"
  walk_at "st"
  refine ⟨p, m, im, t, ms, rs, us, 0, a, rfl, Tb, S, by omega, hm, om, pm, him, V0, ha, fun q27 rs27 H27 _ e27 hq27 VV27 => ?_⟩
  replace G := G.same e27
  replace Tb := Tb.same e27
  replace U := U.same e27
  replace hm := e27 _ _ hm
  replace X := fr_map e27 X
  replace him := e27 _ _ him
  replace V0 := V0.same e27
  replace s := s.trans e27
  clear e27
  walk_at "st"
  refine ⟨p, m, q27, t, ms, rs27, (mvF t ms us 0 a), 1, b, rfl, Tb, S, by omega, hm, om, pm, hq27, VV27, hb, fun q28 rs28 H28 _ e28 hq28 VV28 => ?_⟩
  replace G := G.same e28
  replace Tb := Tb.same e28
  replace U := U.same e28
  replace hm := e28 _ _ hm
  replace X := fr_map e28 X
  replace him := e28 _ _ him
  replace V0 := V0.same e28
  replace hq27 := e28 _ _ hq27
  replace VV27 := VV27.same e28
  replace s := s.trans e28
  clear e28
  walk_at "st"
  obtain ⟨dx29, ga29, ya29, ca29, ra29, h129, _⟩ := id X
  refine ⟨f, dx29, _, rfl, h129, mk_no (by decide +kernel) (by decide +kernel) (by decide +kernel) _ _ _, ?_⟩
  walk_at "st"
  refine ⟨f, t, ms, us, a, rfl, X, ha, fun s29 H29 e29 Y29 => ?_⟩
  clear h129
  rw [st_eq S ha lu] at Y29
  replace G := G.same e29
  replace Tb := Tb.same e29
  replace U := U.same e29
  replace hm := e29 _ _ hm
  replace X := fr_map e29 X
  replace him := e29 _ _ him
  replace V0 := V0.same e29
  replace hq27 := e29 _ _ hq27
  replace VV27 := VV27.same e29
  replace hq28 := e29 _ _ hq28
  replace VV28 := VV28.same e29
  replace s := s.trans e29
  clear e29
  walk_at "st"
  obtain ⟨dx30, ga30, ya30, ca30, ra30, h130, _⟩ := id Y29
  refine ⟨s29, dx30, _, rfl, h130, mk_no (by decide +kernel) (by decide +kernel) (by decide +kernel) _ _ _, ?_⟩
  walk_at "st"
  refine ⟨s29, t, ms, (mvF t ms us 0 a), b, rfl, Y29, hb, fun s30 H30 e30 Y30 => ?_⟩
  clear h130
  rw [ls_eq S hb (mvF_len _ _ _ _ _)] at Y30
  replace G := G.same e30
  replace Tb := Tb.same e30
  replace U := U.same e30
  replace hm := e30 _ _ hm
  replace X := fr_map e30 X
  replace him := e30 _ _ him
  replace V0 := V0.same e30
  replace hq27 := e30 _ _ hq27
  replace VV27 := VV27.same e30
  replace hq28 := e30 _ _ hq28
  replace VV28 := VV28.same e30
  replace Y29 := fr_map e30 Y29
  replace s := s.trans e30
  clear e30
  walk_at "st"
  refine ⟨s30, g, y, m, q28, t, ms, (mvF t ms (mvF t ms us 0 a) 1 b), rs28, rfl, Y30, G, U, hm, hq28, VV28.rows, fun H31 e31 => ?_⟩
  replace G := G.same e31
  replace Tb := Tb.same e31
  replace U := U.same e31
  replace hm := e31 _ _ hm
  replace X := fr_map e31 X
  replace him := e31 _ _ him
  replace V0 := V0.same e31
  replace hq27 := e31 _ _ hq27
  replace VV27 := VV27.same e31
  replace hq28 := e31 _ _ hq28
  replace VV28 := VV28.same e31
  replace Y29 := fr_map e31 Y29
  replace Y30 := fr_map e31 Y30
  replace s := s.trans e31
  clear e31
  walk_at "st"
  try refine (if_neg Bool.false_ne_true).mpr ?_
  walk_at "st"
  walk_at "st"
  obtain ⟨dx32, ga32, ya32, ca32, ra32, h132, _⟩ := id X
  refine ⟨f, dx32, _, rfl, h132, mk_no (by decide +kernel) (by decide +kernel) (by decide +kernel) _ _ _, ?_⟩
  walk_at "st"
  refine ⟨f, t, ms, us, b, rfl, X, hb, fun s32 H32 e32 Y32 => ?_⟩
  clear h132
  rw [ls_eq S hb lu] at Y32
  replace G := G.same e32
  replace Tb := Tb.same e32
  replace U := U.same e32
  replace hm := e32 _ _ hm
  replace X := fr_map e32 X
  replace him := e32 _ _ him
  replace V0 := V0.same e32
  replace hq27 := e32 _ _ hq27
  replace VV27 := VV27.same e32
  replace hq28 := e32 _ _ hq28
  replace VV28 := VV28.same e32
  replace s := s.trans e32
  clear e32
  walk_at "st"
  obtain ⟨dx33, ga33, ya33, ca33, ra33, h133, _⟩ := id Y32
  refine ⟨s32, dx33, _, rfl, h133, mk_no (by decide +kernel) (by decide +kernel) (by decide +kernel) _ _ _, ?_⟩
  walk_at "st"
  refine ⟨s32, t, ms, (mvF t ms us 1 b), a, rfl, Y32, ha, fun s33 H33 e33 Y33 => ?_⟩
  clear h133
  rw [st_eq S ha (mvF_len _ _ _ _ _)] at Y33
  replace G := G.same e33
  replace Tb := Tb.same e33
  replace U := U.same e33
  replace hm := e33 _ _ hm
  replace X := fr_map e33 X
  replace him := e33 _ _ him
  replace V0 := V0.same e33
  replace hq27 := e33 _ _ hq27
  replace VV27 := VV27.same e33
  replace hq28 := e33 _ _ hq28
  replace VV28 := VV28.same e33
  replace Y32 := fr_map e33 Y32
  replace s := s.trans e33
  clear e33
  rw [steps_swap GG ha hb om lu hu] at Y33
  walk_at "st"
  refine ⟨s33, g, y, m, q28, t, ms, (mvF t ms (mvF t ms us 0 a) 1 b), rs28, rfl, Y33, G, U, hm, hq28, VV28.rows, fun H34 e34 => ?_⟩
  replace G := G.same e34
  replace Tb := Tb.same e34
  replace U := U.same e34
  replace hm := e34 _ _ hm
  replace X := fr_map e34 X
  replace him := e34 _ _ him
  replace V0 := V0.same e34
  replace hq27 := e34 _ _ hq27
  replace VV27 := VV27.same e34
  replace hq28 := e34 _ _ hq28
  replace VV28 := VV28.same e34
  replace Y32 := fr_map e34 Y32
  replace Y33 := fr_map e34 Y33
  replace s := s.trans e34
  clear e34
  exact k _ s
end
end K08

set_option Elab.async false
set_option linter.all false
set_option maxRecDepth 100000
set_option maxHeartbeats 4000000
namespace K08
open PySem L2 Rd GT
local macro_rules | `(tactic| walk_at "st1") => `(tactic| first | with_reducible refine' Rd.Stp.go ?_ | with_reducible refine' Rd.seq ?_)
local macro_rules | `(tactic| walk_at "st") => `(tactic| repeat (first | with_reducible refine' Rd.Stp.go ?_ | with_reducible refine' Rd.seq ?_ | ((with_reducible refine' Rd.nmR ?hr ?_); (case hr => repeat (first | exact Rd.SetR.zero | apply Rd.SetR.succ))) | ((with_reducible refine' Rd.var ?hv ?_); (case hv => rfl))))
local macro_rules | `(tactic| walk_at "sj") => `(tactic| repeat (first | with_reducible refine' Rd.Stp.go ?_ | with_reducible refine' Rd.seqA ?_ | with_reducible refine' Rd.seqD ?_ | with_reducible refine' Rd.seqF ?_ | with_reducible refine' Rd.seqW ?_ | ((with_reducible refine' Rd.nmR ?hr ?_); (case hr => repeat (first | exact Rd.SetR.zero | apply Rd.SetR.succ))) | ((with_reducible refine' Rd.var ?hv ?_); (case hv => rfl))))
local macro_rules | `(tactic| walk_at "sm") => `(tactic| first | exact Same.refl _ | assumption | (apply Rd.sm_tr; assumption; walk_at "sm") | fail)
local macro_rules | `(tactic| walk_at "fr") => `(tactic| with_reducible first
  | assumption
  | (apply Rd.fr_some; assumption; walk_at "fr") | (apply Rd.fr_tupN; assumption; walk_at "fr") | (apply Rd.fr_tupX; assumption; walk_at "fr")
  | (apply Rd.fr_grp; assumption; walk_at "fr") | (apply Rd.fr_rows; assumption; walk_at "fr") | (apply Rd.fr_rowL; assumption; walk_at "fr") | (apply Rd.fr_DD; assumption; walk_at "fr")
  | (apply Rd.fr_sqL; walk_at "fr") | fail)
/-! ### the law: homomorphisms that are drawn -/
/-- a table that is not the bag -/
structure TB (H : Hp) (b p : Addr) (t : List (List Int)) : Prop where
  ob : ∃ as : List Addr, H p = some (.lst (as.map V.ref)) ∧ Rows LstN H as t ∧ p ≠ b ∧ ∀ a ∈ as, a ≠ b
theorem TB.tab {H : Hp} {b p : Addr} {t : List (List Int)} (X : TB H b p t) : TabAt H p t := by
  obtain ⟨as, h1, h2, _, _⟩ := X.ob
  exact ⟨as, h1, h2⟩
theorem TB.same {H H' : Hp} {b p : Addr} {t : List (List Int)} (X : TB H b p t) (e : Same H H') : TB H' b p t := by
  obtain ⟨as, h1, h2, h3, h4⟩ := X.ob
  exact ⟨as, e _ _ h1, h2.sameL e, h3, h4⟩
theorem TB.but {H H' : Hp} {b p : Addr} {t : List (List Int)} (X : TB H b p t) (e : But b H H') : TB H' b p t := by
  obtain ⟨as, h1, h2, h3, h4⟩ := X.ob
  exact ⟨as, e _ _ h3 h1, ⟨h2.len, fun i a r i1 i2 => e _ _ (h4 a (List.mem_of_getElem? i1)) (h2.row i a r i1 i2)⟩, h3, h4⟩
theorem TB.made {H H' : Hp} {b p : Addr} {t : List (List Int)} (X : TabN H H' p t) (hb : Bag H b) : TB H' b p t := by
  obtain ⟨as, h1, h2, h3, _⟩ := X.ob
  exact ⟨as, h1, h2, fun z => hb.ne X.fresh z.symm, fun a ha z => hb.ne (h3 a ha).1 z.symm⟩
theorem GrpAt.bg {C : Addr} {H H' : Hp} {b g : Addr} {t : List (List Int)} (G : GrpAt C H g t) (hb : Bag H b) (e : But b H H') : GrpAt C H' g t := by
  obtain ⟨x, y, h, _⟩ := hb
  exact GT.GrpAt.but (xs := [.int x, .int y]) G h e
theorem TgtAt.bg {C : Addr} {H H' : Hp} {b g : Addr} {ms : List Int} (G : TgtAt C H g ms) (hb : Bag H b) (e : But b H H') : TgtAt C H' g ms := by
  obtain ⟨x, y, h, _⟩ := hb
  exact TgtAt.but G h e
theorem ValsAt.bg {H H' : Hp} {b : Addr} {ms : List Int} {n : Nat} {rs : List Addr} {vs : List (List Int)} (X : ValsAt H ms n rs vs) (hb : Bag H b) (e : But b H H') : ValsAt H' ms n rs vs := ⟨X.len, X.rows.map fun _ _ _ h => TupX.bg h hb e, X.ok⟩
theorem MapAt.bg {K : PySem.W.Frag} {H H' : Hp} {b f : Addr} {t : List (List Int)} {ms : List Int} {vs : List (List Int)} (X : MapAt K H f t ms vs) (hb : Bag H b) (e : But b H H') : MapAt K H' f t ms vs := by
  obtain ⟨dx, g, y, c, rs, h1, h2, h3, h4, h5⟩ := X.ob
  obtain ⟨u, v, h, _⟩ := id hb
  exact ⟨dx, g, y, c, rs, e _ _ (fun z => by rw [z, h] at h1; cases h1) h1, GrpAt.bg h2 hb e, TgtAt.bg h3 hb e, h4.butL h e, ValsAt.bg h5 hb e⟩
def mk (v : List Int) : Nat := (v.getD 0 0).toNat
def ma (v : List Int) : Nat := (v.getD 1 0).toNat
def MvOk (n : Nat) (v : List Int) : Prop := ∃ k a : Nat, v = [(k : Int), (a : Int)] ∧ k ≤ 2 ∧ a < n
/-- moved along a list, and the formal sum along the list from its end -/
def chM (t : List (List Int)) (ms : List Int) (vs : List (List Int)) (us : List (List Int)) : List (List Int) := vs.foldl (fun u v => mvF t ms u (mk v) (ma v)) us
def chS (t : List (List Int)) (vs : List (List Int)) (cs : List Int) : List Int := vs.foldr (fun v c => msF t c (mk v) (ma v)) cs
theorem chM_ok {t : List (List Int)} {ms : List Int} (S : Sq t) (om : OkM ms) : ∀ {vs us : List (List Int)}, (∀ v ∈ vs, MvOk t.length v) → us.length = t.length → (∀ v ∈ us, Val ms v) → (chM t ms vs us).length = t.length ∧ ∀ v ∈ chM t ms vs us, Val ms v
  | [], _, _, lu, hu => ⟨lu, hu⟩
  | v :: vs, us, h, lu, hu => by
    obtain ⟨k, a, rfl, k2, ha⟩ := h v List.mem_cons_self
    exact chM_ok (vs := vs) (us := mvF t ms us (mk [(k : Int), (a : Int)]) (ma [(k : Int), (a : Int)])) S om (fun x hx => h x (List.mem_cons_of_mem _ hx)) (mvF_len _ _ _ _ _) (mvF_ok S (a := ma [(k : Int), (a : Int)]) ha om lu hu)
theorem at_chain {t : List (List Int)} {ms : List Int} (S : Sq t) (om : OkM ms) {cs : List Int} : ∀ {vs us : List (List Int)}, (∀ v ∈ vs, MvOk t.length v) → us.length = t.length → (∀ v ∈ us, Val ms v) → atF (chM t ms vs us) cs ms = atF us (chS t vs cs) ms
  | [], _, _, _, _ => rfl
  | v :: vs, us, h, lu, hu => by
    obtain ⟨k, a, rfl, k2, ha⟩ := h v List.mem_cons_self
    show atF (chM t ms vs (mvF t ms us (mk [(k : Int), (a : Int)]) (ma [(k : Int), (a : Int)]))) cs ms = atF us (msF t (chS t vs cs) (mk [(k : Int), (a : Int)]) (ma [(k : Int), (a : Int)])) ms
    rw [at_chain S om (fun x hx => h x (List.mem_cons_of_mem _ hx)) (mvF_len _ _ _ _ _) (mvF_ok S (a := ma [(k : Int), (a : Int)]) ha om lu hu)]
    exact at_moved S (a := ma [(k : Int), (a : Int)]) ha lu hu
theorem chM_succ {t : List (List Int)} {ms : List Int} {vs us : List (List Int)} {i : Nat} {v : List Int} (h : vs[i]? = some v) : chM t ms (vs.take (i + 1)) us = mvF t ms (chM t ms (vs.take i) us) (mk v) (ma v) := by
  unfold chM
  rw [List.take_succ, h, List.foldl_append]; rfl
theorem chS_succ {t : List (List Int)} {vs : List (List Int)} {cs : List Int} {i : Nat} {v : List Int} (h : vs[i]? = some v) : chS t (vs.drop i) cs = msF t (chS t (vs.drop (i + 1)) cs) (mk v) (ma v) := by
  have hi := (List.getElem?_eq_some_iff.mp h)
  rw [List.drop_eq_getElem_cons hi.1, hi.2]; rfl
theorem chS_len {t : List (List Int)} {cs : List Int} (lc : cs.length = t.length) : ∀ vs : List (List Int), (chS t vs cs).length = t.length
  | [] => lc
  | v :: vs => fl_len _ _
def sp_along (K : PySem.W.Frag) : Sp := fun vs H Q _ => ∃ (b g p y m f im co : Addr) (t : List (List Int)) (ms : List Int) (us : List (List Int)) (rs : List Addr) (cs : List Int), vs = [.ref b, .ref g, .ref p, .ref y, .ref m, .ref f, .ref im, .ref co] ∧ Bag H b ∧ GrpAt (gC K) H g t ∧ TB H b p t ∧ TgtAt (tC K) H y ms ∧ m ≠ b ∧ H m = some (.lst (ms.map V.int)) ∧ MapAt K H f t ms us ∧ im ≠ b ∧ H im = some (.lst (rs.map V.ref)) ∧ ValsAt H ms t.length rs us ∧ co ≠ b ∧ H co = some (.lst (cs.map V.int)) ∧ cs.length = t.length ∧ ∀ H', Bag H' b → But b H H' → Q (.bl true) H'
section
variable {P : Program} {w : World} {K : PySem.W.Frag} {mg : Str → Option Value} {base : Heap} {f : Addr} {fd : FuncData}
theorem sc__law_along : FnScope ["bag", "group", "table", "target", "moduli", "f", "images", "coefficients", "moves", "k", "told", "current", "move", "sums", "due"] ["bag", "group", "table", "target", "moduli", "f", "images", "coefficients"] (defScope s__law_along) := ⟨rfl, rfl, rfl, by decide +kernel, rfl, by decide +kernel, by decide +kernel⟩
theorem ok_along (F : FnP K "_law_along" "_law_along" s__law_along f fd) (T : Txt K mg) (D__law_take : DOk P w K mg base CX0 "_law_take" 1 ["bag", "size"] sp_take) (D__law_ask : DOk P w K mg base CX0 "_law_ask" 7 ["f", "kind", "a"] (sp_ask K)) (D__law_moved : DOk P w K mg base CX0 "_law_moved" 1 ["table", "moduli", "images", "kind", "a"] sp_lmoved) (D__law_moved_sum : DOk P w K mg base CX0 "_law_moved_sum" 1 ["table", "coefficients", "kind", "a"] sp_msum) (D__law_at : DOk P w K mg base CX0 "_law_at" 1 ["images", "coefficients", "moduli"] sp_at) (D__law_has : DOk P w K mg base CX0 "_law_has" 4 ["told", "group", "target", "moduli", "due"] (sp_has K)) (D__law_valued : DOk P w K mg base CX0 "_law_valued" 5 ["f", "coefficients", "due"] (sp_valued K)) : FnOk P w K mg base CX0 8 f fd ["bag", "group", "table", "target", "moduli", "f", "images", "coefficients"] (sp_along K) := by
  refine F.ok sc__law_along (fun vs H Q E h => ?_) (fun cdv A outer s H vs Q E hr h => ?_)
  · obtain ⟨_, _, _, _, _, _, _, _, _, _, _, _, _, rfl, _⟩ := h; rfl
  obtain ⟨b, g, p, y, m, f, im, co, t, ms, us, rs, cs, rfl, hb, G, TB0, U, nm, hm, X, nim, him, V0, nco, hco, lc, k⟩ := h
  have GG := G.grp
  have S := GG.sq
  have tpos := S.pos
  have le := G.le
  have om := U.ok
  have pm := U.le
  have lu := V0.len
  have hu := V0.ok
  refine ⟨_, PSs.nox (pss_cons (ps_setLc (i := 8) (own := [("k", 9)]) rfl sc__law_along.nd rfl rfl (sw_true rfl rfl rfl (by decide +kernel)) (pi_range1 rfl T.range (pa_cons (callX D__law_take (hr.mono (by decide)) (passN) (pa_cons (pv 0) (pa_cons pe_int pa_nil))) pa_nil)) (blkOk_by (own := [("k", 9)]) (N := ["bag", "group", "table", "target", "moduli", "f", "images", "coefficients", "moves", "k", "told", "current", "move", "sums", "due"]) (sc := defScope s__law_along) (by decide +kernel)) (fun _ _ _ _ _ => (pg_name (i := 9) sc__law_along.nd rfl (Or.inl rfl))) (fun _ _ _ _ _ => pts_nil) (fun _ _ _ _ _ => (pe_tup (pa_cons (callX D__law_take (hr.mono (by decide)) (passN) (pa_cons (pv 0) (pa_cons pe_int pa_nil))) (pa_cons (callX D__law_take (hr.mono (by decide)) (passN) (pa_cons (pv 0) (pa_cons (pe_callB (Rk.len K) rfl T.len PySem.boot_len (pa_cons (pv 2) pa_nil)) pa_nil))) pa_nil)))))
  (pss_cons (ps_set (i := 10) sc__law_along.nd rfl (Or.inl rfl) (pv 5))
  (pss_cons (ps_set (i := 11) sc__law_along.nd rfl (Or.inl rfl) (pe_callTy (Rk.lis K) rfl T.list (by decide +kernel) (pa_cons (pv 6) pa_nil)))
  (pss_cons (ps_for PassesOwn.never rfl (Rk.pl K rfl (pv 8)) (pg_name (i := 12) sc__law_along.nd rfl (Or.inl rfl))
  (pss_cons (ps_set (i := 10) sc__law_along.nd rfl (Or.inl rfl) (callX D__law_ask (hr.mono (by decide)) (passN) (pa_cons (pv 10) (pa_cons (pe_ix (Rk.ixT K) (pv 12) pe_int (fun _ _ => rfl)) (pa_cons (pe_ix (Rk.ixT K) (pv 12) pe_int (fun _ _ => rfl)) pa_nil)))))
  (pss_one (ps_set (i := 11) sc__law_along.nd rfl (Or.inl rfl) (callX D__law_moved (hr.mono (by decide)) (passN) (pa_cons (pv 2) (pa_cons (pv 4) (pa_cons (pv 11) (pa_cons (pe_ix (Rk.ixT K) (pv 12) pe_int (fun _ _ => rfl)) (pa_cons (pe_ix (Rk.ixT K) (pv 12) pe_int (fun _ _ => rfl)) pa_nil))))))))))
  (pss_cons (ps_set (i := 13) sc__law_along.nd rfl (Or.inl rfl) (pe_callTy (Rk.lis K) rfl T.list (by decide +kernel) (pa_cons (pv 7) pa_nil)))
  (pss_cons (ps_for PassesOwn.never rfl (pi_range1 rfl T.range (pa_cons (pe_callB (Rk.len K) rfl T.len PySem.boot_len (pa_cons (pv 8) pa_nil)) pa_nil)) (pg_name (i := 9) sc__law_along.nd rfl (Or.inl rfl))
  (pss_cons (ps_set (i := 12) sc__law_along.nd rfl (Or.inl rfl) (pe_ix (Rk.ixL K) (pv 8) (pe_op op_sub (pe_op op_sub (pe_callB (Rk.len K) rfl T.len PySem.boot_len (pa_cons (pv 8) pa_nil)) pe_int) (pv 9)) (fun _ _ => rfl)))
  (pss_one (ps_set (i := 13) sc__law_along.nd rfl (Or.inl rfl) (callX D__law_moved_sum (hr.mono (by decide)) (passN) (pa_cons (pv 2) (pa_cons (pv 13) (pa_cons (pe_ix (Rk.ixT K) (pv 12) pe_int (fun _ _ => rfl)) (pa_cons (pe_ix (Rk.ixT K) (pv 12) pe_int (fun _ _ => rfl)) pa_nil)))))))))
  (pss_cons (ps_if (pt_not (pt_val (callX D__law_has (hr.mono (by decide)) (passN) (pa_cons (pv 10) (pa_cons (pv 1) (pa_cons (pv 3) (pa_cons (pv 4) (pa_cons (pv 11) pa_nil))))))))
  (pss_one (ps_ret pe_bl))
  pss_nil)
  (pss_cons (ps_set (i := 14) sc__law_along.nd rfl (Or.inl rfl) (callX D__law_at (hr.mono (by decide)) (passN) (pa_cons (pv 6) (pa_cons (pv 13) (pa_cons (pv 4) pa_nil)))))
  (pss_one (ps_ret (pe_and (callX D__law_valued (hr.mono (by decide)) (passN) (pa_cons (pv 10) (pa_cons (pv 7) (pa_cons (pv 14) pa_nil)))) (pe_one (callX D__law_valued (hr.mono (by decide)) (passN) (pa_cons (pv 5) (pa_cons (pv 13) (pa_cons (pv 14) pa_nil)))))))))))))))), ?_⟩
  walk_at "st"
  refine ⟨b, 7, rfl, by decide, by decide, hb, fun v H1 v0 v1 hb1 e1 => ?_⟩
  walk_at "st"
  refine ⟨by omega, by omega, ?_⟩
  refine lcBagT (MvOk t.length) (b := b) (n := v.toNat) hb1 (by omega) (by intro _; rfl) (fun x H2 Q1 hb2 e2 q => ?_) (fun q mr mv H2 hq lmv okm hb2 e2 hL RR => ?_)
  · walk_at "st"
    refine ⟨b, 3, rfl, by decide, by decide, hb2, fun kk H3 k0 k1 hb3 e3 => ?_⟩
    walk_at "st"
    obtain ⟨as, hp, Rt⟩ := (TB0.but (((e1.trans e2).trans e3))).tab.ob
    refine Rd.len1 (.inl (SqL.of hp)) ?_
    walk_at "st"
    rw [List.length_map, Rt.len]
    refine ⟨b, _, rfl, by omega, by omega, hb3, fun aa H4 a0 a1 hb4 e4 => ?_⟩
    walk_at "st"
    refine ⟨(by decide : 2 ≤ sizeLine), fun pp hpp => ?_⟩
    refine q [kk, aa] pp _ ⟨kk.toNat, aa.toNat, by rw [Int.toNat_of_nonneg k0, Int.toNat_of_nonneg a0], by omega, by omega⟩ (hb4.put (hb4.ne hpp)) (butAdd (e3.trans e4) hpp) (.inl upd_same)
  have sB := e1.trans e2
  have hb0 := hb
  replace G := GrpAt.bg G hb sB
  replace U := TgtAt.bg U hb sB
  replace X := MapAt.bg X hb sB
  replace V0 := ValsAt.bg V0 hb sB
  replace hm := sB _ _ nm hm
  replace him := sB _ _ nim him
  replace hco := sB _ _ nco hco
  have Tb := (TB0.but sB).tab
  clear e1 e2 TB0
  have s : Same H2 H2 := Same.refl _
  walk_at "st"
  refine ⟨im, _, rfl, .inl (SqL.of him), fun l hl => ?_⟩
  have e0 : Same H2 (upd H2 l (.lst (rs.map V.ref))) := Rd.same_mk hl
  have hl1 : (upd H2 l (.lst (rs.map V.ref))) l = some (.lst (rs.map V.ref)) := upd_same
  generalize upd H2 l (.lst (rs.map V.ref)) = H0 at e0 hl1
  replace G := G.same e0
  replace Tb := Tb.same e0
  replace U := U.same e0
  replace hm := e0 _ _ hm
  replace X := fr_map e0 X
  replace him := e0 _ _ him
  replace V0 := V0.same e0
  replace hco := e0 _ _ hco
  replace hL := e0 _ _ hL
  replace RR := Rows.sameX RR e0
  replace s := s.trans e0
  clear e0
  walk_at "st"
  refine Rd.itl' (SqL.of hL) ?_
  have lmr : mr.length = mv.length := RR.len
  refine for_list (K := K) (a := q) (xs := mr.map V.ref) (fun i σ H' => ∃ (v9 v12 : Option V) (s1 c1 : Addr) (rc : List Addr), σ = [some (.ref b), some (.ref g), some (.ref p), some (.ref y), some (.ref m), some (.ref f), some (.ref im), some (.ref co), some (.ref q), v9, some (.ref s1), some (.ref c1), v12, none, none] ∧ GrpAt (gC K) H' g t ∧ TabAt H' p t ∧ TgtAt (tC K) H' y ms ∧ H' m = some (.lst (ms.map V.int)) ∧ MapAt K H' f t ms us ∧ H' im = some (.lst (rs.map V.ref)) ∧ ValsAt H' ms t.length rs us ∧ H' co = some (.lst (cs.map V.int)) ∧ H' q = some (.lst (mr.map V.ref)) ∧ Rows TupX H' mr mv ∧ MapAt K H' s1 t ms (chM t ms (mv.take i) us) ∧ H' c1 = some (.lst (rc.map V.ref)) ∧ ValsAt H' ms t.length rc (chM t ms (mv.take i) us) ∧ Same H2 H')
    ⟨_, none, f, l, rs, rfl, G, Tb, U, hm, X, him, V0, hco, hL, RR, X, hl1, V0, s⟩ (fun i σ H' _ ⟨_, _, _, _, _, _, _, _, _, _, _, _, _, _, hL, _⟩ => SqL.of hL) ?_ ?_
  · rintro i x σ HL hx ⟨v9, v12, s1, c1, rc, rfl, G, Tb, U, hm, X, him, V0, hco, hL, RR, Y, hc1, VC, s⟩
    obtain ⟨ra, r, rfl, g1, g2, g3⟩ := RR.at hx
    have rok := okm r (List.mem_of_getElem? g2)
    obtain ⟨kk, aa, rfl, k2, ha⟩ := rok
    obtain ⟨lch, och⟩ := chM_ok (vs := mv.take i) S om (fun v h => okm v (List.mem_of_mem_take h)) lu hu
    have sc := chM_succ (t := t) (ms := ms) (us := us) g2
    have sc : chM t ms (mv.take (i + 1)) us = mvF t ms (chM t ms (mv.take i) us) kk aa := sc
    walk_at "st"
    refine Rd.ixT (TupX.sq g3) (at_of (j := 0) rfl rfl) ?_
    walk_at "st"
    refine Rd.ixT (TupX.sq g3) (at_of (j := 1) rfl rfl) ?_
    refine ⟨s1, t, ms, _, kk, aa, rfl, Y, k2, ha, fun s2 H3 e3 Z => ?_⟩
    rw [kind_eq S ha lch k2, ← sc] at Z
    replace G := G.same e3
    replace Tb := Tb.same e3
    replace U := U.same e3
    replace hm := e3 _ _ hm
    replace X := fr_map e3 X
    replace him := e3 _ _ him
    replace V0 := V0.same e3
    replace hco := e3 _ _ hco
    replace hL := e3 _ _ hL
    replace RR := Rows.sameX RR e3
    replace hc1 := e3 _ _ hc1
    replace VC := VC.same e3
    replace g3 := TupX.same g3 e3
    replace s := s.trans e3
    clear e3
    walk_at "st"
    refine Rd.ixT (TupX.sq g3) (at_of (j := 0) rfl rfl) ?_
    walk_at "st"
    refine Rd.ixT (TupX.sq g3) (at_of (j := 1) rfl rfl) ?_
    refine ⟨p, m, c1, t, ms, rc, _, kk, aa, rfl, Tb, S, by omega, hm, om, pm, hc1, VC, ha, fun q5 rs5 H5 _ e5 hq5 VV5 => ?_⟩
    rw [← sc] at VV5
    replace G := G.same e5
    replace Tb := Tb.same e5
    replace U := U.same e5
    replace hm := e5 _ _ hm
    replace X := fr_map e5 X
    replace him := e5 _ _ him
    replace V0 := V0.same e5
    replace hco := e5 _ _ hco
    replace hL := e5 _ _ hL
    replace RR := Rows.sameX RR e5
    replace Z := fr_map e5 Z
    replace s := s.trans e5
    clear e5
    walk_at "st"
    exact ⟨_, _, s2, q5, rs5, rfl, G, Tb, U, hm, X, him, V0, hco, hL, RR, Z, hq5, VV5, s⟩
  rintro σ HL ⟨v9, v12, s1, c1, rc, rfl, G, Tb, U, hm, X, him, V0, hco, hL, RR, Y, hc1, VC, s⟩
  rw [List.length_map, lmr, List.take_length] at Y VC
  obtain ⟨lch, och⟩ := chM_ok (vs := mv) S om okm lu hu
  walk_at "st"
  refine ⟨co, _, rfl, .inl (SqL.of hco), fun l2 hl2 => ?_⟩
  have e6 : Same HL (upd HL l2 (.lst (cs.map V.int))) := Rd.same_mk hl2
  have hs2 : (upd HL l2 (.lst (cs.map V.int))) l2 = some (.lst (cs.map V.int)) := upd_same
  generalize upd HL l2 (.lst (cs.map V.int)) = H6 at e6 hs2
  replace G := G.same e6
  replace Tb := Tb.same e6
  replace U := U.same e6
  replace hm := e6 _ _ hm
  replace X := fr_map e6 X
  replace him := e6 _ _ him
  replace V0 := V0.same e6
  replace hco := e6 _ _ hco
  replace hL := e6 _ _ hL
  replace RR := Rows.sameX RR e6
  replace Y := fr_map e6 Y
  replace hc1 := e6 _ _ hc1
  replace VC := VC.same e6
  replace s := s.trans e6
  clear e6
  walk_at "st"
  refine Rd.len1 (.inl (SqL.of hL)) ?_
  walk_at "st"
  rw [List.length_map, lmr]
  refine ⟨by omega, by omega, ?_⟩
  refine for_range (fun i σ H' => ∃ (v9 v12 : Option V) (c2 : Addr), σ = [some (.ref b), some (.ref g), some (.ref p), some (.ref y), some (.ref m), some (.ref f), some (.ref im), some (.ref co), some (.ref q), v9, some (.ref s1), some (.ref c1), v12, some (.ref c2), none] ∧ GrpAt (gC K) H' g t ∧ TabAt H' p t ∧ TgtAt (tC K) H' y ms ∧ H' m = some (.lst (ms.map V.int)) ∧ MapAt K H' f t ms us ∧ H' im = some (.lst (rs.map V.ref)) ∧ ValsAt H' ms t.length rs us ∧ H' co = some (.lst (cs.map V.int)) ∧ H' q = some (.lst (mr.map V.ref)) ∧ Rows TupX H' mr mv ∧ MapAt K H' s1 t ms (chM t ms mv us) ∧ H' c1 = some (.lst (rc.map V.ref)) ∧ ValsAt H' ms t.length rc (chM t ms mv us) ∧ H' c2 = some (.lst ((chS t (mv.drop (mv.length - i)) cs).map V.int)) ∧ Same H2 H')
    ⟨_, _, l2, rfl, G, Tb, U, hm, X, him, V0, hco, hL, RR, Y, hc1, VC, by rw [Nat.sub_zero, List.drop_length]; exact hs2, s⟩ ?_ ?_
  · rintro i σ H7 hi ⟨v9, v12, c2, rfl, G, Tb, U, hm, X, him, V0, hco, hL, RR, Y, hc1, VC, hc2, s⟩
    have hi : i < mv.length := by omega
    rw [Int.zero_add]
    have hj : mv.length - (i + 1) < mv.length := by omega
    obtain ⟨ra, r, g1, g2, g3⟩ := RR.get hj
    obtain ⟨kk, aa, rfl, k2, ha⟩ := okm r (List.mem_of_getElem? g2)
    have sc := chS_succ (t := t) (cs := cs) g2
    rw [show mv.length - (i + 1) + 1 = mv.length - i by omega] at sc
    have sc : chS t (mv.drop (mv.length - (i + 1))) cs = msF t (chS t (mv.drop (mv.length - i)) cs) kk aa := sc
    walk_at "st"
    refine Rd.len1 (.inl (SqL.of hL)) ?_
    walk_at "st"
    rw [List.length_map, lmr]
    refine Rd.ixL (SqL.of hL) (at_of (j := mv.length - (i + 1)) (by omega) (by rw [List.getElem?_map, g1]; rfl)) ?_
    walk_at "st"
    refine Rd.ixT (TupX.sq g3) (at_of (j := 0) rfl rfl) ?_
    walk_at "st"
    refine Rd.ixT (TupX.sq g3) (at_of (j := 1) rfl rfl) ?_
    refine ⟨p, c2, t, _, kk, aa, rfl, Tb, S, by omega, hc2, chS_len lc _, ha, fun q8 H8 _ e8 hq8 => ?_⟩
    rw [← sc] at hq8
    replace G := G.same e8
    replace Tb := Tb.same e8
    replace U := U.same e8
    replace hm := e8 _ _ hm
    replace X := fr_map e8 X
    replace him := e8 _ _ him
    replace V0 := V0.same e8
    replace hco := e8 _ _ hco
    replace hL := e8 _ _ hL
    replace RR := Rows.sameX RR e8
    replace Y := fr_map e8 Y
    replace hc1 := e8 _ _ hc1
    replace VC := VC.same e8
    replace s := s.trans e8
    clear e8
    walk_at "st"
    exact ⟨_, _, q8, rfl, G, Tb, U, hm, X, him, V0, hco, hL, RR, Y, hc1, VC, hq8, s⟩
  rintro σ H7 ⟨v9, v12, c2, rfl, G, Tb, U, hm, X, him, V0, hco, hL, RR, Y, hc1, VC, hc2, s⟩
  rw [Int.toNat_natCast, Nat.sub_self, List.drop_zero] at hc2
  walk_at "st"
  refine ⟨s1, g, y, m, c1, t, ms, _, rc, rfl, Y, G, U, hm, hc1, VC.rows, fun H9 e9 => ?_⟩
  replace G := G.same e9
  replace Tb := Tb.same e9
  replace U := U.same e9
  replace hm := e9 _ _ hm
  replace X := fr_map e9 X
  replace him := e9 _ _ him
  replace V0 := V0.same e9
  replace hco := e9 _ _ hco
  replace hL := e9 _ _ hL
  replace RR := Rows.sameX RR e9
  replace Y := fr_map e9 Y
  replace hc1 := e9 _ _ hc1
  replace VC := VC.same e9
  replace hc2 := e9 _ _ hc2
  replace s := s.trans e9
  clear e9
  walk_at "st"
  try refine (if_neg Bool.false_ne_true).mpr ?_
  walk_at "st"
  refine ⟨im, c2, m, t.length, ms, chS t mv cs, rs, us, rfl, him, V0, by omega, hc2, chS_len lc _, hm, om, pm, fun r H10 e10 hr => ?_⟩
  replace G := G.same e10
  replace Tb := Tb.same e10
  replace U := U.same e10
  replace hm := e10 _ _ hm
  replace X := fr_map e10 X
  replace him := e10 _ _ him
  replace V0 := V0.same e10
  replace hco := e10 _ _ hco
  replace hL := e10 _ _ hL
  replace RR := Rows.sameX RR e10
  replace Y := fr_map e10 Y
  replace hc1 := e10 _ _ hc1
  replace VC := VC.same e10
  replace hc2 := e10 _ _ hc2
  replace s := s.trans e10
  clear e10
  walk_at "st"
  refine ⟨s1, co, r, t, ms, cs, _, rfl, Y, hco, lc, by rw [evF_eq och, at_chain S om okm lu hu]; exact hr, fun H11 e11 => ?_⟩
  replace G := G.same e11
  replace Tb := Tb.same e11
  replace U := U.same e11
  replace hm := e11 _ _ hm
  replace X := fr_map e11 X
  replace him := e11 _ _ him
  replace V0 := V0.same e11
  replace hco := e11 _ _ hco
  replace hL := e11 _ _ hL
  replace RR := Rows.sameX RR e11
  replace Y := fr_map e11 Y
  replace hc1 := e11 _ _ hc1
  replace VC := VC.same e11
  replace hc2 := e11 _ _ hc2
  replace hr := TupX.same hr e11
  replace s := s.trans e11
  clear e11
  walk_at "st"
  try refine (if_pos rfl).mpr ?_
  walk_at "st"
  refine ⟨f, c2, r, t, ms, chS t mv cs, us, rfl, X, hc2, chS_len lc _, by rw [evF_eq hu]; exact hr, fun H12 e12 => ?_⟩
  exact k _ (hb2.same (s.trans e12)) (sB.trans (Rd.But.of (s.trans e12)))
end
end K08

set_option Elab.async false
set_option linter.all false
set_option maxRecDepth 100000
set_option maxHeartbeats 4000000
namespace K08
open PySem L2 Rd GT
local macro_rules | `(tactic| walk_at "st1") => `(tactic| first | with_reducible refine' Rd.Stp.go ?_ | with_reducible refine' Rd.seq ?_)
local macro_rules | `(tactic| walk_at "st") => `(tactic| repeat (first | with_reducible refine' Rd.Stp.go ?_ | with_reducible refine' Rd.seq ?_ | ((with_reducible refine' Rd.nmR ?hr ?_); (case hr => repeat (first | exact Rd.SetR.zero | apply Rd.SetR.succ))) | ((with_reducible refine' Rd.var ?hv ?_); (case hv => rfl))))
local macro_rules | `(tactic| walk_at "sj") => `(tactic| repeat (first | with_reducible refine' Rd.Stp.go ?_ | with_reducible refine' Rd.seqA ?_ | with_reducible refine' Rd.seqD ?_ | with_reducible refine' Rd.seqF ?_ | with_reducible refine' Rd.seqW ?_ | ((with_reducible refine' Rd.nmR ?hr ?_); (case hr => repeat (first | exact Rd.SetR.zero | apply Rd.SetR.succ))) | ((with_reducible refine' Rd.var ?hv ?_); (case hv => rfl))))
local macro_rules | `(tactic| walk_at "sm") => `(tactic| first | exact Same.refl _ | assumption | (apply Rd.sm_tr; assumption; walk_at "sm") | fail)
local macro_rules | `(tactic| walk_at "fr") => `(tactic| with_reducible first
  | assumption
  | (apply Rd.fr_some; assumption; walk_at "fr") | (apply Rd.fr_tupN; assumption; walk_at "fr") | (apply Rd.fr_tupX; assumption; walk_at "fr")
  | (apply Rd.fr_grp; assumption; walk_at "fr") | (apply Rd.fr_rows; assumption; walk_at "fr") | (apply Rd.fr_rowL; assumption; walk_at "fr") | (apply Rd.fr_DD; assumption; walk_at "fr")
  | (apply Rd.fr_sqL; walk_at "fr") | fail)
theorem atF_val {us : List (List Int)} {cs ms : List Int} (om : OkM ms) : Val ms (atF us cs ms) := val_iff.mpr ⟨fl_len _ _, fun j x m hx hm => by
  have hj := (List.getElem?_eq_some_iff.mp hm).1
  rw [show (atF us cs ms)[j]? = _ from fl_get hj] at hx
  cases hx
  have := om m (List.mem_of_getElem? hm)
  rw [getD_of hm]
  exact ⟨Int.emod_nonneg _ (by omega), Int.emod_lt_of_pos _ (by omega)⟩⟩
structure Txt7 (K : PySem.W.Frag) : Prop where
  rm : PySem.W.findIn K (.ref (mC K)) "__rmul__" = some none
  im : ∃ fo, PySem.W.findIn K (.type "int") "__mul__" = some fo
  ir : ∃ ro, PySem.W.findIn K (.type "int") "__rmul__" = some ro
  sb : PySem.W.subIn K (.type "int") (.ref (mC K)) = some false
theorem rngI_at {n j : Nat} {z : Int} (h : (rngI n)[j]? = some z) : z = (j : Int) ∧ j < n := by
  have hj : j < n := by
    have := (List.getElem?_eq_some_iff.mp h).1
    rw [rngI_len] at this
    exact this
  refine ⟨?_, hj⟩
  unfold rngI at h
  rw [List.getElem?_map, List.getElem?_range hj] at h
  cases h; rfl
theorem at_scaled2 {ms cs : List Int} {us : List (List Int)} (m : Int) : atF us (fl us.length fun x => m * cf cs x) ms = fl ms.length fun j => (m * cf (atF us cs ms) j) % ms.getD j 0 := fl_congr fun j hj => by
  rw [show cf (atF us cs ms) j = (sm us.length fun x => cf cs x * iv us x j) % ms.getD j 0 from cf_fl hj, Int.mul_emod m, Int.emod_emod, ← Int.mul_emod, ← sm_mul]
  refine congrArg (· % ms.getD j 0) (sm_congr fun x hx => ?_)
  rw [cf_fl hx, Int.mul_assoc]; rfl
theorem newLst {H : Hp} {p : Addr} {o : HO} {G : Hp → Prop} (h : H p = none) (k : ∀ H', Same H H' → H' p = some o → G H') : G (upd H p o) := k _ (Rd.same_mk h) upd_same
theorem opV_add {ms x y : List Int} (lx : x.length = ms.length) (ly : y.length = ms.length) : opV (fun x y => x + y) ms x y = fl ms.length fun j => (cf x j + cf y j) % ms.getD j 0 := (opV_row lx ly).symm
def sp_added (K : PySem.W.Frag) : Sp := fun vs H Q _ => ∃ (b y m f g i1 i2 c1 c2 : Addr) (t : List (List Int)) (ms : List Int) (us ws : List (List Int)) (rs rw : List Addr) (cs ds : List Int), vs = [.ref b, .ref y, .ref m, .ref f, .ref g, .ref i1, .ref i2, .ref c1, .ref c2] ∧ Bag H b ∧ TgtAt (tC K) H y ms ∧ m ≠ b ∧ H m = some (.lst (ms.map V.int)) ∧ MapAt K H f t ms us ∧ MapAt K H g t ms ws ∧ i1 ≠ b ∧ H i1 = some (.lst (rs.map V.ref)) ∧ ValsAt H ms t.length rs us ∧ i2 ≠ b ∧ H i2 = some (.lst (rw.map V.ref)) ∧ ValsAt H ms t.length rw ws ∧ c1 ≠ b ∧ H c1 = some (.lst (cs.map V.int)) ∧ cs.length = t.length ∧ c2 ≠ b ∧ H c2 = some (.lst (ds.map V.int)) ∧ ds.length = t.length ∧ Bd 97 cs ∧ ∀ H', Bag H' b → But b H H' → Q (.bl true) H'
section
variable {P : Program} {w : World} {K : PySem.W.Frag} {mg : Str → Option Value} {base : Heap} {f : Addr} {fd : FuncData}
theorem sc__law_added : FnScope ["bag", "target", "moduli", "f", "g", "first", "second", "one", "two", "factor", "width", "at", "also", "next_at", "both", "j", "apart", "summed", "many", "entry", "x"] ["bag", "target", "moduli", "f", "g", "first", "second", "one", "two"] (defScope s__law_added) := ⟨rfl, rfl, rfl, by decide +kernel, rfl, by decide +kernel, by decide +kernel⟩
theorem ok_added (F : FnP K "_law_added" "_law_added" s__law_added f fd) (T : Txt K mg) (T7 : Txt7 K) (D__law_integer : DOk P w K mg base CX0 "_law_integer" 2 ["bag"] sp_integer) (D__law_at : DOk P w K mg base CX0 "_law_at" 1 ["images", "coefficients", "moduli"] sp_at) (D__law_valued : DOk P w K mg base CX0 "_law_valued" 5 ["f", "coefficients", "due"] (sp_valued K)) (D__law_same : DOk P w K mg base CX0 "_law_same" 4 ["told", "due"] (sp_same 3)) (M_GroupMap_add : BinOk P w K mg base (L2.CX P w) (mC K) "__add__" 4 ["self", "other"] (sp_mbin K (fun x y => x + y))) (M_GroupMap_sub : BinOk P w K mg base (L2.CX P w) (mC K) "__sub__" 4 ["self", "other"] (sp_mbin K (fun x y => x - y))) (M_GroupMap_mul : BinOk P w K mg base (L2.CX P w) (mC K) "__mul__" 4 ["self", "factor"] (sp_mmul K)) (M_plus : MOk P w K mg base CX0 (tC K) "plus" 1 ["self", "left", "right"] (sp_bin K (fun x y => x + y))) (M_evaluate : MOk P w K mg base (L2.CX P w) (mC K) "evaluate" 2 ["self", "coefficients"] (sp_meval K)) : FnOk P w K mg base CX0 8 f fd ["bag", "target", "moduli", "f", "g", "first", "second", "one", "two"] (sp_added K) := by
  refine F.ok sc__law_added (fun vs H Q E h => ?_) (fun cdv A outer s H vs Q E hr h => ?_)
  · obtain ⟨_, _, _, _, _, _, _, _, _, _, _, _, _, _, _, _, _, rfl, _⟩ := h; rfl
  obtain ⟨b, y, m, f, g, i1, i2, c1, c2, t, ms, us, ws, rs, rw, cs, ds, rfl, hb, U, nm, hm, X, Y, n1, h1, V0, n2, h2, V1, n3, hc, lc, n4, hd, ld, B1, k⟩ := h
  obtain ⟨fo, hfo⟩ := T7.im
  obtain ⟨ro, hro⟩ := T7.ir
  have om := U.ok
  have pm := U.le
  have few := U.few
  have lu := V0.len
  have lw := V1.len
  have hu := V0.ok
  have hw := V1.ok
  have le : t.length ≤ 32 := by obtain ⟨_, _, _, _, _, _, G, _⟩ := X.ob; exact G.le
  refine ⟨_, PSs.nox (pss_cons (ps_set (i := 9) sc__law_added.nd rfl (Or.inr rfl) (callX D__law_integer (hr.mono (by decide)) (passN) (pa_cons (pv 0) pa_nil)))
  (pss_cons (ps_set (i := 10) sc__law_added.nd rfl (Or.inl rfl) (pe_listRg rfl rfl T.list (prg_1 rfl T.range (pe_callB (Rk.len K) rfl T.len PySem.boot_len (pa_cons (pv 2) pa_nil)))))
  (pss_cons (ps_set (i := 11) sc__law_added.nd rfl (Or.inr rfl) (callX D__law_at (hr.mono (by decide)) (passN) (pa_cons (pv 5) (pa_cons (pv 7) (pa_cons (pv 2) pa_nil)))))
  (pss_cons (ps_set (i := 12) sc__law_added.nd rfl (Or.inr rfl) (callX D__law_at (hr.mono (by decide)) (passN) (pa_cons (pv 6) (pa_cons (pv 7) (pa_cons (pv 2) pa_nil)))))
  (pss_cons (ps_set (i := 13) sc__law_added.nd rfl (Or.inr rfl) (callX D__law_at (hr.mono (by decide)) (passN) (pa_cons (pv 5) (pa_cons (pv 8) (pa_cons (pv 2) pa_nil)))))
  (pss_cons (ps_set (i := 14) sc__law_added.nd rfl (Or.inl rfl) (pe_callTy (Rk.tup K) rfl T.tuple (by decide +kernel) (pa_cons (pe_lc (own := [("j", 15)]) rfl sc__law_added.nd (Rk.pl K rfl (pv 10)) (blkOk_by (own := [("j", 15)]) (N := ["bag", "target", "moduli", "f", "g", "first", "second", "one", "two", "factor", "width", "at", "also", "next_at", "both", "j", "apart", "summed", "many", "entry", "x"]) (sc := defScope s__law_added) (by decide +kernel)) (fun _ _ _ _ _ => (pg_name (i := 15) sc__law_added.nd rfl (Or.inl rfl))) (fun _ _ _ _ _ => pts_nil) (fun _ _ _ _ _ => (pe_op op_mod (pe_callTy call_int1 rfl T.int (by decide +kernel) (pa_cons (pe_op op_add (pe_ix (Rk.ixT K) (pv 11) (pv 15) (fun _ _ => rfl)) (pe_ix (Rk.ixT K) (pv 12) (pv 15) (fun _ _ => rfl))) pa_nil)) (pe_ix (Rk.ixL K) (pv 2) (pv 15) (fun _ _ => rfl))))) pa_nil)))
  (pss_cons (ps_set (i := 16) sc__law_added.nd rfl (Or.inl rfl) (pe_callTy (Rk.tup K) rfl T.tuple (by decide +kernel) (pa_cons (pe_lc (own := [("j", 15)]) rfl sc__law_added.nd (Rk.pl K rfl (pv 10)) (blkOk_by (own := [("j", 15)]) (N := ["bag", "target", "moduli", "f", "g", "first", "second", "one", "two", "factor", "width", "at", "also", "next_at", "both", "j", "apart", "summed", "many", "entry", "x"]) (sc := defScope s__law_added) (by decide +kernel)) (fun _ _ _ _ _ => (pg_name (i := 15) sc__law_added.nd rfl (Or.inl rfl))) (fun _ _ _ _ _ => pts_nil) (fun _ _ _ _ _ => (pe_op op_mod (pe_callTy call_int1 rfl T.int (by decide +kernel) (pa_cons (pe_op op_sub (pe_ix (Rk.ixT K) (pv 11) (pv 15) (fun _ _ => rfl)) (pe_ix (Rk.ixT K) (pv 12) (pv 15) (fun _ _ => rfl))) pa_nil)) (pe_ix (Rk.ixL K) (pv 2) (pv 15) (fun _ _ => rfl))))) pa_nil)))
  (pss_cons (ps_set (i := 17) sc__law_added.nd rfl (Or.inl rfl) (pe_callTy (Rk.tup K) rfl T.tuple (by decide +kernel) (pa_cons (pe_lc (own := [("j", 15)]) rfl sc__law_added.nd (Rk.pl K rfl (pv 10)) (blkOk_by (own := [("j", 15)]) (N := ["bag", "target", "moduli", "f", "g", "first", "second", "one", "two", "factor", "width", "at", "also", "next_at", "both", "j", "apart", "summed", "many", "entry", "x"]) (sc := defScope s__law_added) (by decide +kernel)) (fun _ _ _ _ _ => (pg_name (i := 15) sc__law_added.nd rfl (Or.inl rfl))) (fun _ _ _ _ _ => pts_nil) (fun _ _ _ _ _ => (pe_op op_mod (pe_callTy call_int1 rfl T.int (by decide +kernel) (pa_cons (pe_op op_add (pe_ix (Rk.ixT K) (pv 11) (pv 15) (fun _ _ => rfl)) (pe_ix (Rk.ixT K) (pv 13) (pv 15) (fun _ _ => rfl))) pa_nil)) (pe_ix (Rk.ixL K) (pv 2) (pv 15) (fun _ _ => rfl))))) pa_nil)))
  (pss_cons (ps_set (i := 18) sc__law_added.nd rfl (Or.inl rfl) (pe_callTy (Rk.tup K) rfl T.tuple (by decide +kernel) (pa_cons (pe_lc (own := [("j", 15)]) rfl sc__law_added.nd (Rk.pl K rfl (pv 10)) (blkOk_by (own := [("j", 15)]) (N := ["bag", "target", "moduli", "f", "g", "first", "second", "one", "two", "factor", "width", "at", "also", "next_at", "both", "j", "apart", "summed", "many", "entry", "x"]) (sc := defScope s__law_added) (by decide +kernel)) (fun _ _ _ _ _ => (pg_name (i := 15) sc__law_added.nd rfl (Or.inl rfl))) (fun _ _ _ _ _ => pts_nil) (fun _ _ _ _ _ => (pe_op op_mod (pe_callTy call_int1 rfl T.int (by decide +kernel) (pa_cons (pe_op op_mul (pv 9) (pe_ix (Rk.ixT K) (pv 11) (pv 15) (fun _ _ => rfl))) pa_nil)) (pe_ix (Rk.ixL K) (pv 2) (pv 15) (fun _ _ => rfl))))) pa_nil)))
  (pss_cons (ps_if (PW.pt (pw_or (pt_not (pt_val (callX D__law_valued (hr.mono (by decide)) (passN) (pa_cons (pe_op (op_insBin M_GroupMap_add (hr.mono (by decide)) (passN)) (pv 3) (pv 4)) (pa_cons (pv 7) (pa_cons (pv 14) pa_nil)))))) (pw_or1 (pt_not (pt_val (callX D__law_valued (hr.mono (by decide)) (passN) (pa_cons (pe_op (op_insBin M_GroupMap_sub (hr.mono (by decide)) (passN)) (pv 3) (pv 4)) (pa_cons (pv 7) (pa_cons (pv 16) pa_nil)))))))))
  (pss_one (ps_ret pe_bl))
  pss_nil)
  (pss_cons (ps_if (PW.pt (pw_or (pt_not (pt_val (callX D__law_valued (hr.mono (by decide)) (passN) (pa_cons (pe_op (op_insInt M_GroupMap_mul (hr.mono (by decide)) (passN) T7.rm (.inl rfl) hfo hro T7.sb) (pv 3) (pv 9)) (pa_cons (pv 7) (pa_cons (pv 18) pa_nil)))))) (pw_or1 (pt_not (pt_val (callX D__law_valued (hr.mono (by decide)) (passN) (pa_cons (pv 3) (pa_cons (pe_lc (own := [("entry", 19)]) rfl sc__law_added.nd (Rk.pl K rfl (pv 7)) (blkOk_by (own := [("entry", 19)]) (N := ["bag", "target", "moduli", "f", "g", "first", "second", "one", "two", "factor", "width", "at", "also", "next_at", "both", "j", "apart", "summed", "many", "entry", "x"]) (sc := defScope s__law_added) (by decide +kernel)) (fun _ _ _ _ _ => (pg_name (i := 19) sc__law_added.nd rfl (Or.inl rfl))) (fun _ _ _ _ _ => pts_nil) (fun _ _ _ _ _ => (pe_op op_mulW (pv 9) (pv 19)))) (pa_cons (pv 18) pa_nil)))))))))
  (pss_one (ps_ret pe_bl))
  pss_nil)
  (pss_cons (ps_if (pt_not (pt_val (callX D__law_valued (hr.mono (by decide)) (passN) (pa_cons (pv 3) (pa_cons (pe_lc (own := [("x", 20)]) rfl sc__law_added.nd (pi_range1 rfl T.range (pa_cons (pe_callB (Rk.len K) rfl T.len PySem.boot_len (pa_cons (pv 7) pa_nil)) pa_nil)) (blkOk_by (own := [("x", 20)]) (N := ["bag", "target", "moduli", "f", "g", "first", "second", "one", "two", "factor", "width", "at", "also", "next_at", "both", "j", "apart", "summed", "many", "entry", "x"]) (sc := defScope s__law_added) (by decide +kernel)) (fun _ _ _ _ _ => (pg_name (i := 20) sc__law_added.nd rfl (Or.inl rfl))) (fun _ _ _ _ _ => pts_nil) (fun _ _ _ _ _ => (pe_op op_add (pe_ix (Rk.ixL K) (pv 7) (pv 20) (fun _ _ => rfl)) (pe_ix (Rk.ixL K) (pv 8) (pv 20) (fun _ _ => rfl))))) (pa_cons (pv 17) pa_nil))))))
  (pss_one (ps_ret pe_bl))
  pss_nil)
  (pss_one (ps_ret (callX D__law_same (hr.mono (by decide)) (passN) (pa_cons (methX M_plus (hr.mono (by decide)) (passN) (pv 1) (pa_cons (methX M_evaluate (hr.mono (by decide)) (passN) (pv 3) (pa_cons (pe_callTy (Rk.lis K) rfl T.list (by decide +kernel) (pa_cons (pv 7) pa_nil)) pa_nil)) (pa_cons (methX M_evaluate (hr.mono (by decide)) (passN) (pv 3) (pa_cons (pe_callTy (Rk.lis K) rfl T.list (by decide +kernel) (pa_cons (pv 8) pa_nil)) pa_nil)) pa_nil))) (pa_cons (pv 17) pa_nil))))))))))))))))), ?_⟩
  walk_at "st"
  refine ⟨b, rfl, hb, fun v H1 hv hb1 sB => ?_⟩
  replace U := TgtAt.bg U hb sB
  replace X := MapAt.bg X hb sB
  replace Y := MapAt.bg Y hb sB
  replace V0 := ValsAt.bg V0 hb sB
  replace V1 := ValsAt.bg V1 hb sB
  replace hm := sB _ _ nm hm
  replace h1 := sB _ _ n1 h1
  replace h2 := sB _ _ n2 h2
  replace hc := sB _ _ n3 hc
  replace hd := sB _ _ n4 hd
  have s : Same H1 H1 := Same.refl _
  walk_at "st"
  refine Rd.len1 (.inl (SqL.of hm)) ?_
  walk_at "st"
  rw [List.length_map]
  refine ⟨⟨by decide, by decide, by omega, by omega, by omega⟩, fun wi hwi => ?_⟩
  rw [Rd.rgV_I]
  have e0 : Same H1 (upd H1 wi (.lst ((rngI ms.length).map V.int))) := Rd.same_mk hwi
  have hwd : (upd H1 wi (.lst ((rngI ms.length).map V.int))) wi = some (.lst ((rngI ms.length).map V.int)) := upd_same
  generalize upd H1 wi (.lst ((rngI ms.length).map V.int)) = H2 at e0 hwd
  replace U := U.same e0
  replace X := fr_map e0 X
  replace Y := fr_map e0 Y
  replace V0 := V0.same e0
  replace V1 := V1.same e0
  replace hm := e0 _ _ hm
  replace h1 := e0 _ _ h1
  replace h2 := e0 _ _ h2
  replace hc := e0 _ _ hc
  replace hd := e0 _ _ hd
  replace s := s.trans e0
  clear e0
  walk_at "st"
  refine ⟨i1, c1, m, t.length, ms, cs, rs, us, rfl, h1, V0, by omega, hc, lc, hm, om, pm, fun r11 H11 e11 hr11 => ?_⟩
  replace U := U.same e11
  replace X := fr_map e11 X
  replace Y := fr_map e11 Y
  replace V0 := V0.same e11
  replace V1 := V1.same e11
  replace hm := e11 _ _ hm
  replace h1 := e11 _ _ h1
  replace h2 := e11 _ _ h2
  replace hc := e11 _ _ hc
  replace hd := e11 _ _ hd
  replace hwd := e11 _ _ hwd
  replace s := s.trans e11
  clear e11
  walk_at "st"
  refine ⟨i2, c1, m, t.length, ms, cs, rw, ws, rfl, h2, V1, by omega, hc, lc, hm, om, pm, fun r12 H12 e12 hr12 => ?_⟩
  replace U := U.same e12
  replace X := fr_map e12 X
  replace Y := fr_map e12 Y
  replace V0 := V0.same e12
  replace V1 := V1.same e12
  replace hm := e12 _ _ hm
  replace h1 := e12 _ _ h1
  replace h2 := e12 _ _ h2
  replace hc := e12 _ _ hc
  replace hd := e12 _ _ hd
  replace hwd := e12 _ _ hwd
  replace hr11 := TupX.same hr11 e12
  replace s := s.trans e12
  clear e12
  walk_at "st"
  refine ⟨i1, c2, m, t.length, ms, ds, rs, us, rfl, h1, V0, by omega, hd, ld, hm, om, pm, fun r13 H13 e13 hr13 => ?_⟩
  replace U := U.same e13
  replace X := fr_map e13 X
  replace Y := fr_map e13 Y
  replace V0 := V0.same e13
  replace V1 := V1.same e13
  replace hm := e13 _ _ hm
  replace h1 := e13 _ _ h1
  replace h2 := e13 _ _ h2
  replace hc := e13 _ _ hc
  replace hd := e13 _ _ hd
  replace hwd := e13 _ _ hwd
  replace hr11 := TupX.same hr11 e13
  replace hr12 := TupX.same hr12 e13
  replace s := s.trans e13
  clear e13
  walk_at "st"
  refine Rd.itl' (SqL.of hwd) ?_
  refine Rd.lcMap (fun j => .int ((cf (atF us cs ms) j + cf (atF ws cs ms) j) % ms.getD j 0)) (Rd.src_list (SqL.of hwd)) (by rw [List.length_map, rngI_len]; omega) (by intro _; rfl) (fun j x H6 Q1 hx e6 q1 => ?_) (fun p6 H6 hp6 e6 h6 => ?_)
  · obtain ⟨z, hz, rfl⟩ := intAt hx
    obtain ⟨rfl, hj⟩ := rngI_at hz
    have hm1 : ms[j]? = some (ms[j]'hj) := List.getElem?_eq_getElem hj
    have m2 := om _ (List.mem_of_getElem? hm1)
    rw [getD_of hm1] at q1
    skip
    walk_at "st"
    refine Rd.ixT (TupX.sq (TupX.same hr11 e6)) (at_of (j := j) rfl (map_get_int (cf_get (show j < (atF us cs ms).length by rw [show (atF us cs ms).length = ms.length from fl_len _ _]; exact hj)))) ?_
    walk_at "st"
    refine Rd.ixT (TupX.sq (TupX.same hr12 e6)) (at_of (j := j) rfl (map_get_int (cf_get (show j < (atF ws cs ms).length by rw [show (atF ws cs ms).length = ms.length from fl_len _ _]; exact hj)))) ?_
    walk_at "st"
    refine Rd.ixL (SqL.of (e6 _ _ hm)) (at_of (j := j) rfl (map_get_int hm1)) ?_
    refine Rd.iC (by omega) ?_
    exact q1 _ (Same.refl _)
  rw [List.length_map, rngI_len, map_in] at h6
  have h6 : H6 p6 = some (.lst ((fl ms.length fun j => (cf (atF us cs ms) j + cf (atF ws cs ms) j) % ms.getD j 0).map V.int)) := h6
  walk_at "st"
  refine ⟨p6, _, rfl, .inl ⟨SqL.of h6, fun l14 ob hl hob => ?_⟩⟩
  have hr14 := tX (TupN.mk (H := H6) (a := l14) (xs := (fl ms.length fun j => (cf (atF us cs ms) j + cf (atF ws cs ms) j) % ms.getD j 0).map V.int) hob)
  have e14 := e6.trans (Rd.same_mk (o := .frz ob (.tup ((fl ms.length fun j => (cf (atF us cs ms) j + cf (atF ws cs ms) j) % ms.getD j 0).map V.int))) hl)
  generalize hH14 : upd H6 l14 _ = H14 at hr14 e14
  clear e6 h6 hl hob hp6
  replace U := U.same e14
  replace X := fr_map e14 X
  replace Y := fr_map e14 Y
  replace V0 := V0.same e14
  replace V1 := V1.same e14
  replace hm := e14 _ _ hm
  replace h1 := e14 _ _ h1
  replace h2 := e14 _ _ h2
  replace hc := e14 _ _ hc
  replace hd := e14 _ _ hd
  replace hwd := e14 _ _ hwd
  replace hr11 := TupX.same hr11 e14
  replace hr12 := TupX.same hr12 e14
  replace hr13 := TupX.same hr13 e14
  replace s := s.trans e14
  clear e14
  walk_at "st"
  refine Rd.itl' (SqL.of hwd) ?_
  refine Rd.lcMap (fun j => .int ((cf (atF us cs ms) j - cf (atF ws cs ms) j) % ms.getD j 0)) (Rd.src_list (SqL.of hwd)) (by rw [List.length_map, rngI_len]; omega) (by intro _; rfl) (fun j x H6 Q1 hx e6 q1 => ?_) (fun p6 H6 hp6 e6 h6 => ?_)
  · obtain ⟨z, hz, rfl⟩ := intAt hx
    obtain ⟨rfl, hj⟩ := rngI_at hz
    have hm1 : ms[j]? = some (ms[j]'hj) := List.getElem?_eq_getElem hj
    have m2 := om _ (List.mem_of_getElem? hm1)
    rw [getD_of hm1] at q1
    skip
    walk_at "st"
    refine Rd.ixT (TupX.sq (TupX.same hr11 e6)) (at_of (j := j) rfl (map_get_int (cf_get (show j < (atF us cs ms).length by rw [show (atF us cs ms).length = ms.length from fl_len _ _]; exact hj)))) ?_
    walk_at "st"
    refine Rd.ixT (TupX.sq (TupX.same hr12 e6)) (at_of (j := j) rfl (map_get_int (cf_get (show j < (atF ws cs ms).length by rw [show (atF ws cs ms).length = ms.length from fl_len _ _]; exact hj)))) ?_
    walk_at "st"
    refine Rd.ixL (SqL.of (e6 _ _ hm)) (at_of (j := j) rfl (map_get_int hm1)) ?_
    refine Rd.iC (by omega) ?_
    exact q1 _ (Same.refl _)
  rw [List.length_map, rngI_len, map_in] at h6
  have h6 : H6 p6 = some (.lst ((fl ms.length fun j => (cf (atF us cs ms) j - cf (atF ws cs ms) j) % ms.getD j 0).map V.int)) := h6
  walk_at "st"
  refine ⟨p6, _, rfl, .inl ⟨SqL.of h6, fun l15 ob hl hob => ?_⟩⟩
  have hr15 := tX (TupN.mk (H := H6) (a := l15) (xs := (fl ms.length fun j => (cf (atF us cs ms) j - cf (atF ws cs ms) j) % ms.getD j 0).map V.int) hob)
  have e15 := e6.trans (Rd.same_mk (o := .frz ob (.tup ((fl ms.length fun j => (cf (atF us cs ms) j - cf (atF ws cs ms) j) % ms.getD j 0).map V.int))) hl)
  generalize hH15 : upd H6 l15 _ = H15 at hr15 e15
  clear e6 h6 hl hob hp6
  replace U := U.same e15
  replace X := fr_map e15 X
  replace Y := fr_map e15 Y
  replace V0 := V0.same e15
  replace V1 := V1.same e15
  replace hm := e15 _ _ hm
  replace h1 := e15 _ _ h1
  replace h2 := e15 _ _ h2
  replace hc := e15 _ _ hc
  replace hd := e15 _ _ hd
  replace hwd := e15 _ _ hwd
  replace hr11 := TupX.same hr11 e15
  replace hr12 := TupX.same hr12 e15
  replace hr13 := TupX.same hr13 e15
  replace hr14 := TupX.same hr14 e15
  replace s := s.trans e15
  clear e15
  walk_at "st"
  refine Rd.itl' (SqL.of hwd) ?_
  refine Rd.lcMap (fun j => .int ((cf (atF us cs ms) j + cf (atF us ds ms) j) % ms.getD j 0)) (Rd.src_list (SqL.of hwd)) (by rw [List.length_map, rngI_len]; omega) (by intro _; rfl) (fun j x H6 Q1 hx e6 q1 => ?_) (fun p6 H6 hp6 e6 h6 => ?_)
  · obtain ⟨z, hz, rfl⟩ := intAt hx
    obtain ⟨rfl, hj⟩ := rngI_at hz
    have hm1 : ms[j]? = some (ms[j]'hj) := List.getElem?_eq_getElem hj
    have m2 := om _ (List.mem_of_getElem? hm1)
    rw [getD_of hm1] at q1
    skip
    walk_at "st"
    refine Rd.ixT (TupX.sq (TupX.same hr11 e6)) (at_of (j := j) rfl (map_get_int (cf_get (show j < (atF us cs ms).length by rw [show (atF us cs ms).length = ms.length from fl_len _ _]; exact hj)))) ?_
    walk_at "st"
    refine Rd.ixT (TupX.sq (TupX.same hr13 e6)) (at_of (j := j) rfl (map_get_int (cf_get (show j < (atF us ds ms).length by rw [show (atF us ds ms).length = ms.length from fl_len _ _]; exact hj)))) ?_
    walk_at "st"
    refine Rd.ixL (SqL.of (e6 _ _ hm)) (at_of (j := j) rfl (map_get_int hm1)) ?_
    refine Rd.iC (by omega) ?_
    exact q1 _ (Same.refl _)
  rw [List.length_map, rngI_len, map_in] at h6
  have h6 : H6 p6 = some (.lst ((fl ms.length fun j => (cf (atF us cs ms) j + cf (atF us ds ms) j) % ms.getD j 0).map V.int)) := h6
  walk_at "st"
  refine ⟨p6, _, rfl, .inl ⟨SqL.of h6, fun l16 ob hl hob => ?_⟩⟩
  have hr16 := tX (TupN.mk (H := H6) (a := l16) (xs := (fl ms.length fun j => (cf (atF us cs ms) j + cf (atF us ds ms) j) % ms.getD j 0).map V.int) hob)
  have e16 := e6.trans (Rd.same_mk (o := .frz ob (.tup ((fl ms.length fun j => (cf (atF us cs ms) j + cf (atF us ds ms) j) % ms.getD j 0).map V.int))) hl)
  generalize hH16 : upd H6 l16 _ = H16 at hr16 e16
  clear e6 h6 hl hob hp6
  replace U := U.same e16
  replace X := fr_map e16 X
  replace Y := fr_map e16 Y
  replace V0 := V0.same e16
  replace V1 := V1.same e16
  replace hm := e16 _ _ hm
  replace h1 := e16 _ _ h1
  replace h2 := e16 _ _ h2
  replace hc := e16 _ _ hc
  replace hd := e16 _ _ hd
  replace hwd := e16 _ _ hwd
  replace hr11 := TupX.same hr11 e16
  replace hr12 := TupX.same hr12 e16
  replace hr13 := TupX.same hr13 e16
  replace hr14 := TupX.same hr14 e16
  replace hr15 := TupX.same hr15 e16
  replace s := s.trans e16
  clear e16
  walk_at "st"
  refine Rd.itl' (SqL.of hwd) ?_
  refine Rd.lcMap (fun j => .int ((v * cf (atF us cs ms) j) % ms.getD j 0)) (Rd.src_list (SqL.of hwd)) (by rw [List.length_map, rngI_len]; omega) (by intro _; rfl) (fun j x H6 Q1 hx e6 q1 => ?_) (fun p6 H6 hp6 e6 h6 => ?_)
  · obtain ⟨z, hz, rfl⟩ := intAt hx
    obtain ⟨rfl, hj⟩ := rngI_at hz
    have hm1 : ms[j]? = some (ms[j]'hj) := List.getElem?_eq_getElem hj
    have m2 := om _ (List.mem_of_getElem? hm1)
    rw [getD_of hm1] at q1
    obtain ⟨hv0, hv1⟩ := (val_iff.mp (atF_val (us := us) (cs := cs) om)).2 j _ _ (cf_get (by rw [show (atF us cs ms).length = ms.length from fl_len _ _]; exact hj)) hm1
    have b32 := m_le om pm _ (List.mem_of_getElem? hm1)
    walk_at "st"
    refine Rd.ixT (TupX.sq (TupX.same hr11 e6)) (at_of (j := j) rfl (map_get_int (cf_get (show j < (atF us cs ms).length by rw [show (atF us cs ms).length = ms.length from fl_len _ _]; exact hj)))) ?_
    refine Rd.iC (.inr ⟨by omega, by omega⟩) ?_
    walk_at "st"
    refine Rd.ixL (SqL.of (e6 _ _ hm)) (at_of (j := j) rfl (map_get_int hm1)) ?_
    refine Rd.iC (by omega) ?_
    exact q1 _ (Same.refl _)
  rw [List.length_map, rngI_len, map_in] at h6
  have h6 : H6 p6 = some (.lst ((fl ms.length fun j => (v * cf (atF us cs ms) j) % ms.getD j 0).map V.int)) := h6
  walk_at "st"
  refine ⟨p6, _, rfl, .inl ⟨SqL.of h6, fun l17 ob hl hob => ?_⟩⟩
  have hr17 := tX (TupN.mk (H := H6) (a := l17) (xs := (fl ms.length fun j => (v * cf (atF us cs ms) j) % ms.getD j 0).map V.int) hob)
  have e17 := e6.trans (Rd.same_mk (o := .frz ob (.tup ((fl ms.length fun j => (v * cf (atF us cs ms) j) % ms.getD j 0).map V.int))) hl)
  generalize hH17 : upd H6 l17 _ = H17 at hr17 e17
  clear e6 h6 hl hob hp6
  replace U := U.same e17
  replace X := fr_map e17 X
  replace Y := fr_map e17 Y
  replace V0 := V0.same e17
  replace V1 := V1.same e17
  replace hm := e17 _ _ hm
  replace h1 := e17 _ _ h1
  replace h2 := e17 _ _ h2
  replace hc := e17 _ _ hc
  replace hd := e17 _ _ hd
  replace hwd := e17 _ _ hwd
  replace hr11 := TupX.same hr11 e17
  replace hr12 := TupX.same hr12 e17
  replace hr13 := TupX.same hr13 e17
  replace hr14 := TupX.same hr14 e17
  replace hr15 := TupX.same hr15 e17
  replace hr16 := TupX.same hr16 e17
  replace s := s.trans e17
  clear e17
  walk_at "st"
  refine mbinI X Y fun s18 H18 e18 Z18 => ?_
  replace U := U.same e18
  replace X := fr_map e18 X
  replace Y := fr_map e18 Y
  replace V0 := V0.same e18
  replace V1 := V1.same e18
  replace hm := e18 _ _ hm
  replace h1 := e18 _ _ h1
  replace h2 := e18 _ _ h2
  replace hc := e18 _ _ hc
  replace hd := e18 _ _ hd
  replace hwd := e18 _ _ hwd
  replace hr11 := TupX.same hr11 e18
  replace hr12 := TupX.same hr12 e18
  replace hr13 := TupX.same hr13 e18
  replace hr14 := TupX.same hr14 e18
  replace hr15 := TupX.same hr15 e18
  replace hr16 := TupX.same hr16 e18
  replace hr17 := TupX.same hr17 e18
  replace s := s.trans e18
  clear e18
  walk_at "st"
  refine ⟨s18, c1, l14, t, ms, cs, _, rfl, Z18, hc, lc, by rw [evF_eq (opM_ok om (by omega) hu hw), at_add om hu hw (by omega)]; exact hr14, fun H19 e19 => ?_⟩
  replace U := U.same e19
  replace X := fr_map e19 X
  replace Y := fr_map e19 Y
  replace V0 := V0.same e19
  replace V1 := V1.same e19
  replace hm := e19 _ _ hm
  replace h1 := e19 _ _ h1
  replace h2 := e19 _ _ h2
  replace hc := e19 _ _ hc
  replace hd := e19 _ _ hd
  replace hwd := e19 _ _ hwd
  replace hr11 := TupX.same hr11 e19
  replace hr12 := TupX.same hr12 e19
  replace hr13 := TupX.same hr13 e19
  replace hr14 := TupX.same hr14 e19
  replace hr15 := TupX.same hr15 e19
  replace hr16 := TupX.same hr16 e19
  replace hr17 := TupX.same hr17 e19
  replace Z18 := fr_map e19 Z18
  replace s := s.trans e19
  clear e19
  walk_at "st"
  try refine (if_neg Bool.false_ne_true).mpr ?_
  walk_at "st"
  walk_at "st"
  refine mbinI X Y fun s20 H20 e20 Z20 => ?_
  replace U := U.same e20
  replace X := fr_map e20 X
  replace Y := fr_map e20 Y
  replace V0 := V0.same e20
  replace V1 := V1.same e20
  replace hm := e20 _ _ hm
  replace h1 := e20 _ _ h1
  replace h2 := e20 _ _ h2
  replace hc := e20 _ _ hc
  replace hd := e20 _ _ hd
  replace hwd := e20 _ _ hwd
  replace hr11 := TupX.same hr11 e20
  replace hr12 := TupX.same hr12 e20
  replace hr13 := TupX.same hr13 e20
  replace hr14 := TupX.same hr14 e20
  replace hr15 := TupX.same hr15 e20
  replace hr16 := TupX.same hr16 e20
  replace hr17 := TupX.same hr17 e20
  replace Z18 := fr_map e20 Z18
  replace s := s.trans e20
  clear e20
  walk_at "st"
  refine ⟨s20, c1, l15, t, ms, cs, _, rfl, Z20, hc, lc, by rw [evF_eq (opM_ok om (by omega) hu hw), at_sub om hu hw (by omega)]; exact hr15, fun H21 e21 => ?_⟩
  replace U := U.same e21
  replace X := fr_map e21 X
  replace Y := fr_map e21 Y
  replace V0 := V0.same e21
  replace V1 := V1.same e21
  replace hm := e21 _ _ hm
  replace h1 := e21 _ _ h1
  replace h2 := e21 _ _ h2
  replace hc := e21 _ _ hc
  replace hd := e21 _ _ hd
  replace hwd := e21 _ _ hwd
  replace hr11 := TupX.same hr11 e21
  replace hr12 := TupX.same hr12 e21
  replace hr13 := TupX.same hr13 e21
  replace hr14 := TupX.same hr14 e21
  replace hr15 := TupX.same hr15 e21
  replace hr16 := TupX.same hr16 e21
  replace hr17 := TupX.same hr17 e21
  replace Z18 := fr_map e21 Z18
  replace Z20 := fr_map e21 Z20
  replace s := s.trans e21
  clear e21
  walk_at "st"
  try refine (if_neg Bool.false_ne_true).mpr ?_
  walk_at "st"
  walk_at "st"
  obtain ⟨dx, fs, hX⟩ := mmI X
  refine ⟨f, dx, fs, v, rfl, rfl, hX, f, v, t, ms, us, rfl, X, fun s22 H22 e22 Z22 => ?_⟩
  clear hX
  replace U := U.same e22
  replace X := fr_map e22 X
  replace Y := fr_map e22 Y
  replace V0 := V0.same e22
  replace V1 := V1.same e22
  replace hm := e22 _ _ hm
  replace h1 := e22 _ _ h1
  replace h2 := e22 _ _ h2
  replace hc := e22 _ _ hc
  replace hd := e22 _ _ hd
  replace hwd := e22 _ _ hwd
  replace hr11 := TupX.same hr11 e22
  replace hr12 := TupX.same hr12 e22
  replace hr13 := TupX.same hr13 e22
  replace hr14 := TupX.same hr14 e22
  replace hr15 := TupX.same hr15 e22
  replace hr16 := TupX.same hr16 e22
  replace hr17 := TupX.same hr17 e22
  replace Z18 := fr_map e22 Z18
  replace Z20 := fr_map e22 Z20
  replace s := s.trans e22
  clear e22
  walk_at "st"
  refine ⟨s22, c1, l17, t, ms, cs, _, rfl, Z22, hc, lc, by rw [evF_eq (tmM_ok om hu), at_many v om hu]; exact hr17, fun H23 e23 => ?_⟩
  replace U := U.same e23
  replace X := fr_map e23 X
  replace Y := fr_map e23 Y
  replace V0 := V0.same e23
  replace V1 := V1.same e23
  replace hm := e23 _ _ hm
  replace h1 := e23 _ _ h1
  replace h2 := e23 _ _ h2
  replace hc := e23 _ _ hc
  replace hd := e23 _ _ hd
  replace hwd := e23 _ _ hwd
  replace hr11 := TupX.same hr11 e23
  replace hr12 := TupX.same hr12 e23
  replace hr13 := TupX.same hr13 e23
  replace hr14 := TupX.same hr14 e23
  replace hr15 := TupX.same hr15 e23
  replace hr16 := TupX.same hr16 e23
  replace hr17 := TupX.same hr17 e23
  replace Z18 := fr_map e23 Z18
  replace Z20 := fr_map e23 Z20
  replace Z22 := fr_map e23 Z22
  replace s := s.trans e23
  clear e23
  walk_at "st"
  try refine (if_neg Bool.false_ne_true).mpr ?_
  walk_at "st"
  walk_at "st"
  refine Rd.itl' (SqL.of hc) ?_
  refine Rd.lcMap (fun i => .int (v * cf cs i)) (Rd.src_list (SqL.of hc)) (by rw [List.length_map]; omega) (by intro _; rfl) (fun i x H6 Q1 hx e6 q1 => ?_) (fun p24 H24 hp24 e24 hq24 => ?_)
  · obtain ⟨z, hz, rfl⟩ := intAt hx
    rw [cf_of hz] at q1
    walk_at "st"
    refine Rd.iC (wideB hv (B1 z (List.mem_of_getElem? hz)) (by decide)) ?_
    exact q1 _ (Same.refl _)
  rw [List.length_map, lc, ← lu, map_in] at hq24
  replace U := U.same e24
  replace X := fr_map e24 X
  replace Y := fr_map e24 Y
  replace V0 := V0.same e24
  replace V1 := V1.same e24
  replace hm := e24 _ _ hm
  replace h1 := e24 _ _ h1
  replace h2 := e24 _ _ h2
  replace hc := e24 _ _ hc
  replace hd := e24 _ _ hd
  replace hwd := e24 _ _ hwd
  replace hr11 := TupX.same hr11 e24
  replace hr12 := TupX.same hr12 e24
  replace hr13 := TupX.same hr13 e24
  replace hr14 := TupX.same hr14 e24
  replace hr15 := TupX.same hr15 e24
  replace hr16 := TupX.same hr16 e24
  replace hr17 := TupX.same hr17 e24
  replace Z18 := fr_map e24 Z18
  replace Z20 := fr_map e24 Z20
  replace Z22 := fr_map e24 Z22
  replace s := s.trans e24
  clear e24
  walk_at "st"
  refine ⟨f, p24, l17, t, ms, _, us, rfl, X, hq24, ((fl_len _ _).trans lu), by rw [evF_eq hu]; exact (at_scaled2 (ms := ms) (cs := cs) (us := us) v) ▸ hr17, fun H25 e25 => ?_⟩
  replace U := U.same e25
  replace X := fr_map e25 X
  replace Y := fr_map e25 Y
  replace V0 := V0.same e25
  replace V1 := V1.same e25
  replace hm := e25 _ _ hm
  replace h1 := e25 _ _ h1
  replace h2 := e25 _ _ h2
  replace hc := e25 _ _ hc
  replace hd := e25 _ _ hd
  replace hwd := e25 _ _ hwd
  replace hr11 := TupX.same hr11 e25
  replace hr12 := TupX.same hr12 e25
  replace hr13 := TupX.same hr13 e25
  replace hr14 := TupX.same hr14 e25
  replace hr15 := TupX.same hr15 e25
  replace hr16 := TupX.same hr16 e25
  replace hr17 := TupX.same hr17 e25
  replace Z18 := fr_map e25 Z18
  replace Z20 := fr_map e25 Z20
  replace Z22 := fr_map e25 Z22
  replace hq24 := e25 _ _ hq24
  replace s := s.trans e25
  clear e25
  walk_at "st"
  try refine (if_neg Bool.false_ne_true).mpr ?_
  walk_at "st"
  walk_at "st"
  refine Rd.len1 (.inl (SqL.of hc)) ?_
  walk_at "st"
  rw [List.length_map]
  refine ⟨by omega, by omega, ?_⟩
  rw [Int.toNat_natCast]
  refine Rd.lcMap (fun i => .int (cf cs i + cf ds i)) (Rd.src_rng _ _ _) (by rw [Rd.rgL_len]; omega) (by intro _; rfl) (fun i x H6 Q1 hx e6 q1 => ?_) (fun p26 H26 hp26 e26 hq26 => ?_)
  · obtain ⟨rfl, hi⟩ := rg_at hx
    walk_at "st"
    refine Rd.ixL (SqL.of (e6 _ _ hc)) (at_of (j := i) rfl (map_get_int (cf_get (by omega)))) ?_
    walk_at "st"
    refine Rd.ixL (SqL.of (e6 _ _ hd)) (at_of (j := i) rfl (map_get_int (cf_get (by omega)))) ?_
    walk_at "st"
    exact q1 _ (Same.refl _)
  rw [Rd.rgL_len, lc, ← lu, map_in] at hq26
  replace U := U.same e26
  replace X := fr_map e26 X
  replace Y := fr_map e26 Y
  replace V0 := V0.same e26
  replace V1 := V1.same e26
  replace hm := e26 _ _ hm
  replace h1 := e26 _ _ h1
  replace h2 := e26 _ _ h2
  replace hc := e26 _ _ hc
  replace hd := e26 _ _ hd
  replace hwd := e26 _ _ hwd
  replace hr11 := TupX.same hr11 e26
  replace hr12 := TupX.same hr12 e26
  replace hr13 := TupX.same hr13 e26
  replace hr14 := TupX.same hr14 e26
  replace hr15 := TupX.same hr15 e26
  replace hr16 := TupX.same hr16 e26
  replace hr17 := TupX.same hr17 e26
  replace Z18 := fr_map e26 Z18
  replace Z20 := fr_map e26 Z20
  replace Z22 := fr_map e26 Z22
  replace hq24 := e26 _ _ hq24
  replace s := s.trans e26
  clear e26
  walk_at "st"
  refine ⟨f, p26, l16, t, ms, _, us, rfl, X, hq26, ((fl_len _ _).trans lu), by rw [evF_eq hu]; exact (at_sums (ms := ms) (cs := cs) (ds := ds) (us := us)) ▸ hr16, fun H27 e27 => ?_⟩
  replace U := U.same e27
  replace X := fr_map e27 X
  replace Y := fr_map e27 Y
  replace V0 := V0.same e27
  replace V1 := V1.same e27
  replace hm := e27 _ _ hm
  replace h1 := e27 _ _ h1
  replace h2 := e27 _ _ h2
  replace hc := e27 _ _ hc
  replace hd := e27 _ _ hd
  replace hwd := e27 _ _ hwd
  replace hr11 := TupX.same hr11 e27
  replace hr12 := TupX.same hr12 e27
  replace hr13 := TupX.same hr13 e27
  replace hr14 := TupX.same hr14 e27
  replace hr15 := TupX.same hr15 e27
  replace hr16 := TupX.same hr16 e27
  replace hr17 := TupX.same hr17 e27
  replace Z18 := fr_map e27 Z18
  replace Z20 := fr_map e27 Z20
  replace Z22 := fr_map e27 Z22
  replace hq24 := e27 _ _ hq24
  replace hq26 := e27 _ _ hq26
  replace s := s.trans e27
  clear e27
  walk_at "st"
  try refine (if_neg Bool.false_ne_true).mpr ?_
  walk_at "st"
  walk_at "st"
  obtain ⟨dy, M0, Z0, hy, _⟩ := id U.ob
  refine ⟨y, dy, _, rfl, hy, tk_no (by decide +kernel) (by decide +kernel) (by decide +kernel) (by decide +kernel) _ _ _ _, ?_⟩
  clear hy
  walk_at "st"
  obtain ⟨dx28, fs28, hX28⟩ := mmI X
  have hX28 := X.ob
  obtain ⟨dz28, ga28, ya28, ca28, ra28, hx28, _⟩ := id hX28
  refine ⟨f, dz28, _, rfl, hx28, mk_no (by decide +kernel) (by decide +kernel) (by decide +kernel) _ _ _, ?_⟩
  clear hx28
  walk_at "st"
  refine ⟨c1, _, rfl, .inl (SqL.of hc), fun k28 hk28 => ?_⟩
  have e28 : Same H27 (upd H27 k28 (.lst (cs.map V.int))) := Rd.same_mk hk28
  have hl28 : (upd H27 k28 (.lst (cs.map V.int))) k28 = some (.lst (cs.map V.int)) := upd_same
  generalize upd H27 k28 (.lst (cs.map V.int)) = H28 at e28 hl28
  replace U := U.same e28
  replace X := fr_map e28 X
  replace Y := fr_map e28 Y
  replace V0 := V0.same e28
  replace V1 := V1.same e28
  replace hm := e28 _ _ hm
  replace h1 := e28 _ _ h1
  replace h2 := e28 _ _ h2
  replace hc := e28 _ _ hc
  replace hd := e28 _ _ hd
  replace hwd := e28 _ _ hwd
  replace hr11 := TupX.same hr11 e28
  replace hr12 := TupX.same hr12 e28
  replace hr13 := TupX.same hr13 e28
  replace hr14 := TupX.same hr14 e28
  replace hr15 := TupX.same hr15 e28
  replace hr16 := TupX.same hr16 e28
  replace hr17 := TupX.same hr17 e28
  replace Z18 := fr_map e28 Z18
  replace Z20 := fr_map e28 Z20
  replace Z22 := fr_map e28 Z22
  replace hq24 := e28 _ _ hq24
  replace hq26 := e28 _ _ hq26
  replace s := s.trans e28
  clear e28
  refine ⟨f, k28, t, ms, cs, us, rfl, X, hl28, lc, fun r29 H29 e29 hr29 => ?_⟩
  replace U := U.same e29
  replace X := fr_map e29 X
  replace Y := fr_map e29 Y
  replace V0 := V0.same e29
  replace V1 := V1.same e29
  replace hm := e29 _ _ hm
  replace h1 := e29 _ _ h1
  replace h2 := e29 _ _ h2
  replace hc := e29 _ _ hc
  replace hd := e29 _ _ hd
  replace hwd := e29 _ _ hwd
  replace hr11 := TupX.same hr11 e29
  replace hr12 := TupX.same hr12 e29
  replace hr13 := TupX.same hr13 e29
  replace hr14 := TupX.same hr14 e29
  replace hr15 := TupX.same hr15 e29
  replace hr16 := TupX.same hr16 e29
  replace hr17 := TupX.same hr17 e29
  replace Z18 := fr_map e29 Z18
  replace Z20 := fr_map e29 Z20
  replace Z22 := fr_map e29 Z22
  replace hq24 := e29 _ _ hq24
  replace hq26 := e29 _ _ hq26
  replace hl28 := e29 _ _ hl28
  replace s := s.trans e29
  clear e29
  walk_at "st"
  obtain ⟨dx30, fs30, hX30⟩ := mmI X
  have hX30 := X.ob
  obtain ⟨dz30, ga30, ya30, ca30, ra30, hx30, _⟩ := id hX30
  refine ⟨f, dz30, _, rfl, hx30, mk_no (by decide +kernel) (by decide +kernel) (by decide +kernel) _ _ _, ?_⟩
  clear hx30
  walk_at "st"
  refine ⟨c2, _, rfl, .inl (SqL.of hd), fun k30 hk30 => ?_⟩
  have e30 : Same H29 (upd H29 k30 (.lst (ds.map V.int))) := Rd.same_mk hk30
  have hl30 : (upd H29 k30 (.lst (ds.map V.int))) k30 = some (.lst (ds.map V.int)) := upd_same
  generalize upd H29 k30 (.lst (ds.map V.int)) = H30 at e30 hl30
  replace U := U.same e30
  replace X := fr_map e30 X
  replace Y := fr_map e30 Y
  replace V0 := V0.same e30
  replace V1 := V1.same e30
  replace hm := e30 _ _ hm
  replace h1 := e30 _ _ h1
  replace h2 := e30 _ _ h2
  replace hc := e30 _ _ hc
  replace hd := e30 _ _ hd
  replace hwd := e30 _ _ hwd
  replace hr11 := TupX.same hr11 e30
  replace hr12 := TupX.same hr12 e30
  replace hr13 := TupX.same hr13 e30
  replace hr14 := TupX.same hr14 e30
  replace hr15 := TupX.same hr15 e30
  replace hr16 := TupX.same hr16 e30
  replace hr17 := TupX.same hr17 e30
  replace Z18 := fr_map e30 Z18
  replace Z20 := fr_map e30 Z20
  replace Z22 := fr_map e30 Z22
  replace hq24 := e30 _ _ hq24
  replace hq26 := e30 _ _ hq26
  replace hl28 := e30 _ _ hl28
  replace hr29 := TupX.same hr29 e30
  replace s := s.trans e30
  clear e30
  refine ⟨f, k30, t, ms, ds, us, rfl, X, hl30, ld, fun r31 H31 e31 hr31 => ?_⟩
  replace U := U.same e31
  replace X := fr_map e31 X
  replace Y := fr_map e31 Y
  replace V0 := V0.same e31
  replace V1 := V1.same e31
  replace hm := e31 _ _ hm
  replace h1 := e31 _ _ h1
  replace h2 := e31 _ _ h2
  replace hc := e31 _ _ hc
  replace hd := e31 _ _ hd
  replace hwd := e31 _ _ hwd
  replace hr11 := TupX.same hr11 e31
  replace hr12 := TupX.same hr12 e31
  replace hr13 := TupX.same hr13 e31
  replace hr14 := TupX.same hr14 e31
  replace hr15 := TupX.same hr15 e31
  replace hr16 := TupX.same hr16 e31
  replace hr17 := TupX.same hr17 e31
  replace Z18 := fr_map e31 Z18
  replace Z20 := fr_map e31 Z20
  replace Z22 := fr_map e31 Z22
  replace hq24 := e31 _ _ hq24
  replace hq26 := e31 _ _ hq26
  replace hl28 := e31 _ _ hl28
  replace hr29 := TupX.same hr29 e31
  replace hl30 := e31 _ _ hl30
  replace s := s.trans e31
  clear e31
  walk_at "st"
  refine ⟨y, r29, r31, ms, _, _, rfl, U, hr29, hr31, len_ev hu (Nat.le_refl _), len_ev hu (Nat.le_refl _), fun q32 H32 _ e32 hq32 => ?_⟩
  rw [evF_eq hu, evF_eq hu, opV_add (x := atF us cs ms) (y := atF us ds ms) (fl_len _ _) (fl_len _ _)] at hq32
  replace U := U.same e32
  replace X := fr_map e32 X
  replace Y := fr_map e32 Y
  replace V0 := V0.same e32
  replace V1 := V1.same e32
  replace hm := e32 _ _ hm
  replace h1 := e32 _ _ h1
  replace h2 := e32 _ _ h2
  replace hc := e32 _ _ hc
  replace hd := e32 _ _ hd
  replace hwd := e32 _ _ hwd
  replace hr11 := TupX.same hr11 e32
  replace hr12 := TupX.same hr12 e32
  replace hr13 := TupX.same hr13 e32
  replace hr14 := TupX.same hr14 e32
  replace hr15 := TupX.same hr15 e32
  replace hr16 := TupX.same hr16 e32
  replace hr17 := TupX.same hr17 e32
  replace Z18 := fr_map e32 Z18
  replace Z20 := fr_map e32 Z20
  replace Z22 := fr_map e32 Z22
  replace hq24 := e32 _ _ hq24
  replace hq26 := e32 _ _ hq26
  replace hl28 := e32 _ _ hl28
  replace hr29 := TupX.same hr29 e32
  replace hl30 := e32 _ _ hl30
  replace hr31 := TupX.same hr31 e32
  replace s := s.trans e32
  clear e32
  walk_at "st"
  refine ⟨_, _, rfl, (DD.tints (tX hq32) hr16 (by rw [fl_len]; omega)).up, fun H33 e33 => ?_⟩
  exact k _ (hb1.same (s.trans e33)) (sB.trans (Rd.But.of (s.trans e33)))
end
end K08

set_option Elab.async false
set_option linter.all false
set_option maxRecDepth 100000
set_option maxHeartbeats 4000000
namespace K08
open PySem L2 Rd GT
local macro_rules | `(tactic| walk_at "st1") => `(tactic| first | with_reducible refine' Rd.Stp.go ?_ | with_reducible refine' Rd.seq ?_)
local macro_rules | `(tactic| walk_at "st") => `(tactic| repeat (first | with_reducible refine' Rd.Stp.go ?_ | with_reducible refine' Rd.seq ?_ | ((with_reducible refine' Rd.nmR ?hr ?_); (case hr => repeat (first | exact Rd.SetR.zero | apply Rd.SetR.succ))) | ((with_reducible refine' Rd.var ?hv ?_); (case hv => rfl))))
local macro_rules | `(tactic| walk_at "sj") => `(tactic| repeat (first | with_reducible refine' Rd.Stp.go ?_ | with_reducible refine' Rd.seqA ?_ | with_reducible refine' Rd.seqD ?_ | with_reducible refine' Rd.seqF ?_ | with_reducible refine' Rd.seqW ?_ | ((with_reducible refine' Rd.nmR ?hr ?_); (case hr => repeat (first | exact Rd.SetR.zero | apply Rd.SetR.succ))) | ((with_reducible refine' Rd.var ?hv ?_); (case hv => rfl))))
local macro_rules | `(tactic| walk_at "sm") => `(tactic| first | exact Same.refl _ | assumption | (apply Rd.sm_tr; assumption; walk_at "sm") | fail)
local macro_rules | `(tactic| walk_at "fr") => `(tactic| with_reducible first
  | assumption
  | (apply Rd.fr_some; assumption; walk_at "fr") | (apply Rd.fr_tupN; assumption; walk_at "fr") | (apply Rd.fr_tupX; assumption; walk_at "fr")
  | (apply Rd.fr_grp; assumption; walk_at "fr") | (apply Rd.fr_rows; assumption; walk_at "fr") | (apply Rd.fr_rowL; assumption; walk_at "fr") | (apply Rd.fr_DD; assumption; walk_at "fr")
  | (apply Rd.fr_sqL; walk_at "fr") | fail)
theorem lcBagR (R : Int → Prop) {b : Addr} {n j : Nat} {te : TE} {vs : List Nat} {σ : L2.St} {H : Hp} {Qd : Addr → Hp → Prop} (hb : Bag H b) (hz : n ≤ 1000) (hw : ∀ x : V, wipe ((wipe σ vs).set j (some x)) vs = wipe σ vs)
    (hs : ∀ (x : V) (H1 : Hp) (Q1 : VK), Bag H1 b → (∀ (v : Int) (H2 : Hp), R v → Bag H2 b → But b H1 H2 → Q1 (.int v) H2) → te ((wipe σ vs).set j (some x)) H1 Q1)
    (hq : ∀ (q : Addr) (ns : List Int) (H1 : Hp), H q = none → ns.length = n → (∀ x ∈ ns, R x) → Bag H1 b → But b H H1 → H1 q = some (.lst (ns.map V.int)) → Qd q H1)
    (D : Addr) (hD : H D = none) :
    ∃ W : Nat → Nat → Hp → Prop, (∃ m, W 0 m (upd H D (.lst []))) ∧ ∀ i m H, W i m H →
      ((Itr 0 n).stop i H ∧ Qd D H) ∨ ((Itr 0 n).go i H ∧ ∃ Nx : Hp → Prop, (∀ H', Nx H' → ∃ m', m' < m ∧ W (i + 1) m' H') ∧ ∀ x H', (Itr 0 n).yld i H x H' → gName j x (wipe σ vs) H' fun σ2 H2 => wipe σ2 vs = wipe σ vs ∧ tYes σ2 H2 fun b H3 =>
        if b = true then te σ2 H3 fun y H4 => ∃ acc, H4 D = some (.lst acc) ∧ acc.length < sizeLine ∧ Nx (upd H4 D (.lst (acc ++ [y]))) else Nx H3) := by
  have nb := hb.ne hD
  refine ⟨fun i m H1 => m = n - i ∧ i ≤ n ∧ ∃ ns : List Int, ns.length = i ∧ (∀ x ∈ ns, R x) ∧ Bag H1 b ∧ But b H H1 ∧ H1 D = some (.lst (ns.map V.int)),
    ⟨n, rfl, Nat.zero_le _, [], rfl, (fun x h => by cases h), hb.put nb, butAdd (Rd.But.refl _ _) hD, upd_same⟩, ?_⟩
  rintro i m H1 ⟨rfl, hi, ns, rfl, rg, hb1, e1, hL⟩
  by_cases c : ns.length < n
  · refine .inr ⟨c, fun H' => ∃ ms : List Int, ms.length = ns.length + 1 ∧ (∀ x ∈ ms, R x) ∧ Bag H' b ∧ But b H H' ∧ H' D = some (.lst (ms.map V.int)), fun H' z => ⟨n - (ns.length + 1), by omega, rfl, c, z⟩, fun x H' y => ?_⟩
    obtain ⟨rfl, _⟩ := y
    refine ⟨hw x, Rd.tyes (iteT (hs x _ _ hb1 fun v H2 v0 hb2 e2 => ?_))⟩
    refine ⟨ns.map V.int, e2 _ _ nb.symm hL, by rw [List.length_map]; exact line_of (by omega), ns ++ [v], by simp, fun x hx => ?_, hb2.put nb, butMut (e1.trans e2) hD, by rw [upd_same, map_add_int]⟩
    rcases List.mem_append.mp hx with h | h
    · exact rg x h
    · rw [List.mem_singleton.mp h]
      exact v0
  · have e : ns.length = n := by omega
    exact .inl ⟨by show n ≤ ns.length; omega, hq D ns H1 hD e rg hb1 e1 hL⟩
def sp_law (K : PySem.W.Frag) : Sp := fun vs H Q _ => ∃ (a : Addr) (ns : List Int), vs = [.ref a] ∧ SqL K H a (ns.map V.int) ∧ ns.length ≤ 63 ∧ ∀ H', Q (.bl true) H'
theorem Drawn.grp {t : List (List Int)} (D : Drawn t) : Grp t := by
  induction D with
  | cyc M => exact M.grp
  | prm O => exact O.grp
  | ren _ R ih => exact R.grp ih
theorem TB.nw {H H' : Hp} {b p : Addr} {t : List (List Int)} (X : TabAt H p t) (h : H b = none) (e : Same H H') : TB H' b p t := by
  obtain ⟨as, h1, h2⟩ := X.ob
  refine ⟨as, e _ _ h1, h2.sameL e, (fun z => by rw [z, h] at h1; cases h1), fun a ha z => ?_⟩
  obtain ⟨i, hi⟩ := List.getElem?_of_mem ha
  obtain ⟨a', r, k1, k2, k3⟩ := h2.get (i := i) (by rw [← h2.len]; exact (List.getElem?_eq_some_iff.mp hi).1)
  rw [hi] at k1
  cases k1
  unfold LstN at k3
  rw [z, h] at k3
  cases k3
theorem But.fr {H H1 H2 : Hp} {b : Addr} (h : H b = none) (e1 : Same H H1) (e2 : But b H1 H2) : Same H H2 := fun c o k => e2 c o (fun z => by rw [z, h] at k; cases k) (e1 c o k)
/-- one of a written list of numbers -/
theorem pick {H : Hp} {K : PySem.W.Frag} {l : Addr} {xs : List Int} {v : Int} {lo hi : Int} (h : H l = some (.lst (xs.map V.int))) (v0 : 0 ≤ v) (v1 : v < (xs.length : Int)) (hx : ∀ x ∈ xs, lo ≤ x ∧ x ≤ hi) {Q : VK} (k : ∀ m, lo ≤ m → m ≤ hi → Q (.int m) H) : rIxL K (.ref l) (.int v) H Q := by
  have hm : xs[v.toNat]? = some (xs[v.toNat]'(by omega)) := List.getElem?_eq_getElem (by omega)
  have b := hx _ (List.mem_of_getElem? hm)
  exact Rd.ixL (SqL.of h) (at_of (j := v.toNat) (by omega) (map_get_int hm)) (k _ b.1 b.2)
/-- a limit that keeps a product small -/
theorem limit {room : Int} {n : Nat} (k : Int) (k1 : 1 ≤ k) (hn : 0 < n) (hr : (n : Int) ≤ room) : (1 ≤ if room / (n : Int) < k then room / (n : Int) else k) ∧ ∀ m : Nat, ((m : Int) ≤ if room / (n : Int) < k then room / (n : Int) else k) → (((n * m : Nat)) : Int) ≤ room := by
  have q1 : 1 ≤ room / (n : Int) := Int.le_ediv_of_mul_le (by omega) (by omega)
  have q2 := Int.ediv_mul_le room (show (n : Int) ≠ 0 by omega)
  have go : ∀ m : Nat, (m : Int) ≤ room / (n : Int) → (((n * m : Nat)) : Int) ≤ room := fun m hm => by
    have := Int.mul_le_mul_of_nonneg_right hm (show (0 : Int) ≤ (n : Int) by omega)
    rw [Int.natCast_mul, Int.mul_comm]
    omega
  by_cases c : room / (n : Int) < k
  · rw [if_pos c]; exact ⟨q1, go⟩
  · rw [if_neg c]; exact ⟨k1, fun m hm => go m (by omega)⟩
theorem natv {v : Int} {n : Nat} (h0 : 0 ≤ v) (h1 : v < (n : Int)) : ∃ x : Nat, v = (x : Int) ∧ x < n := ⟨v.toNat, by omega, by omega⟩
/-- a new group -/
theorem mkGrp {K : PySem.W.Frag} {H : Hp} {E : XK} {Q : Addr → Hp → Prop} {p : Addr} {t : List (List Int)} (X : TabAt H p t) (G : Grp t) (le : t.length ≤ 32) (k : ∀ g H', Same H H' → H g = none → GrpAt (gC K) H' g t → Q g H') :
    ∀ x dx, H x = none → H dx = none → dx ≠ x → sp_init K (V.ref x :: ([V.ref p] ++ [])) (upd (upd H dx (.own x)) x (.ins (gC K) dx [])) (fun v H2 => v = .non ∧ Q x H2) E := by
  intro g dx hg hdx ndx
  obtain ⟨as, x1, x2⟩ := X.ob
  have e2 : Same H (upd (upd H dx (.own g)) g (.ins (gC K) dx [])) := (Rd.same_mk hdx).trans (Rd.same_mk (by rw [upd_ne ndx.symm]; exact hg))
  have hgi : (upd (upd H dx (.own g)) g (.ins (gC K) dx [])) g = some (.ins (gC K) dx []) := upd_same
  generalize upd (upd H dx (.own g)) g (.ins (gC K) dx []) = H2 at e2 hgi
  exact ⟨g, dx, p, as, t, rfl, hgi, e2 _ _ x1, x2.sameL e2, by omega, fun h => absurd h (by omega), fun _ nG => absurd G nG, fun _ _ H3 e3 GA => ⟨rfl, k g H3 (fun c u h => e3 c u (fun z => by rw [z, hg] at h; cases h) (e2 _ _ h)) hg GA⟩⟩
/-- [list(row) for row in table] -/
theorem lcRows {K : PySem.W.Frag} {p : Addr} {as : List Addr} {t : List (List Int)} {j : Nat} {te : TE} {vs : List Nat} {σ : L2.St} {H : Hp} {Qd : Addr → Hp → Prop} (x1 : H p = some (.lst (as.map V.ref))) (x2 : Rows LstN H as t) (z : t.length ≤ 1000) (hw : ∀ x : V, wipe ((wipe σ vs).set j (some x)) vs = wipe σ vs)
    (hs : ∀ (a : Addr) (r : List Int) (H1 : Hp) (Q1 : VK), H1 a = some (.lst (r.map V.int)) → (∀ l H2, H1 l = none → Same H1 H2 → H2 l = some (.lst (r.map V.int)) → Q1 (.ref l) H2) → te ((wipe σ vs).set j (some (.ref a))) H1 Q1)
    (hq : ∀ (q : Addr) (H1 : Hp), Same H H1 → TabN H H1 q t → Qd q H1) (D : Addr) (hD : H D = none) :
    ∃ W : Nat → Nat → Hp → Prop, (∃ m, W 0 m (upd H D (.lst []))) ∧ ∀ i m H, W i m H →
      ((Itl K p).stop i H ∧ Qd D H) ∨ ((Itl K p).go i H ∧ ∃ Nx : Hp → Prop, (∀ H', Nx H' → ∃ m', m' < m ∧ W (i + 1) m' H') ∧ ∀ x H', (Itl K p).yld i H x H' → gName j x (wipe σ vs) H' fun σ2 H2 => wipe σ2 vs = wipe σ vs ∧ tYes σ2 H2 fun b H3 =>
        if b = true then te σ2 H3 fun y H4 => ∃ acc, H4 D = some (.lst acc) ∧ acc.length < sizeLine ∧ Nx (upd H4 D (.lst (acc ++ [y]))) else Nx H3) := by
  refine Rd.lcNew (fun i o => o = .lst ((t.getD i []).map V.int)) (Rd.src_list (SqL.of x1)) (by rw [List.length_map, x2.len]; omega) hw (fun i y H7 Q1 hy e7 q1 => ?_) (fun go ra H7 hgo e7 h6 lra hra nd => ?_) D hD
  · obtain ⟨z, r, rfl, g1, g2, g3⟩ := x2.at hy
    rw [getD_of g2] at q1
    exact hs z r H7 Q1 (e7 _ _ g3) fun l H2 hl e2 h2 => q1 l _ _ hl e2 h2 rfl
  · exact hq go H7 e7 (TabN.made hgo h6 (by rw [lra, List.length_map, x2.len]) hra nd)
theorem okBig {ms : List Int} (o : OkM ms) (h : pr ms ≤ 32) : BigOk ms := fun m hm => by
  have h1 := o m hm
  have h2 := m_le o h m hm
  have : (32 : Nat) ≤ 2 ^ 140 := by decide
  omega
theorem mkT {K : PySem.W.Frag} {H : Hp} {Q : Addr → Hp → Prop} {p : Addr} {ms : List Int} (h1 : H p = some (.lst (ms.map V.int))) (o : OkM ms) (ple : pr ms ≤ 32) (k : ∀ g H', Same H H' → TgtAt (tC K) H' g ms → Q g H') :
    ∀ x dx, H x = none → H dx = none → dx ≠ x → sp_tinit K (V.ref x :: ([V.ref p] ++ [])) (upd (upd H dx (.own x)) x (.ins (tC K) dx [])) (fun v H2 => v = .non ∧ Q x H2) E0 := by
  intro g dx hg hdx ndx
  have few := few_of o ple
  have e2 : Same H (upd (upd H dx (.own g)) g (.ins (tC K) dx [])) := (Rd.same_mk hdx).trans (Rd.same_mk (by rw [upd_ne ndx.symm]; exact hg))
  have hgi : (upd (upd H dx (.own g)) g (.ins (tC K) dx [])) g = some (.ins (tC K) dx []) := upd_same
  generalize upd (upd H dx (.own g)) g (.ins (tC K) dx []) = H2 at e2 hgi
  exact ⟨g, dx, p, ms, rfl, hgi, e2 _ _ h1, by omega, okBig o ple, fun no => absurd o no, fun _ q => by omega, fun _ _ H3 e3 GA => ⟨rfl, k g H3 (fun c u h => e3 c u (fun z => by rw [z, hg] at h; cases h) (e2 _ _ h)) GA⟩⟩
theorem ifn {i x : Nat} : (if decide (((i : Nat) : Int) = (x : Int)) = true then (1 : Int) else 0) = if i = x then 1 else 0 := by
  by_cases c : i = x
  · subst c; rw [if_pos rfl, if_pos (decide_eq_true rfl)]
  · rw [if_neg c, if_neg (by rw [decide_eq_true_eq]; omega)]
theorem neFree {H : Hp} {a b : Addr} {o : HO} (h : H a = some o) (n : H b = none) : a ≠ b := fun z => by rw [z, n] at h; cases h
theorem at_unit {ms : List Int} {us : List (List Int)} {i : Nat} (hi : i < us.length) (hu : ∀ v ∈ us, Val ms v) : atF us (fl us.length fun y => if i = y then 1 else 0) ms = vv us i := by
  have vi := hu _ (vv_mem hi)
  refine (fl_eq vi.len fun j hj => ?_).symm
  have hm : ms[j]? = some (ms[j]'hj) := List.getElem?_eq_getElem hj
  have b := (val_iff.mp vi).2 j _ _ (cf_get (by rw [vi.len]; exact hj)) hm
  rw [getD_of hm]
  have e : (sm us.length fun x => cf (fl us.length fun y => if i = y then 1 else 0) x * (vv us x).getD j 0) = cf (vv us i) j := by
    rw [← sm_one' (f := fun x => cf (vv us x) j) hi]
    refine sm_congr fun x hx => ?_
    rw [cf_fl hx]
    by_cases c : i = x
    · rw [if_pos c, if_pos c, Int.one_mul]; rfl
    · rw [if_neg c, if_neg c, Int.zero_mul]
  rw [e]
  exact (Int.emod_eq_of_lt b.1 b.2).symm
section
variable {P : Program} {w : World} {K : PySem.W.Frag} {mg : Str → Option Value} {base : Heap} {f : Addr} {fd : FuncData}
theorem sc_law : FnScope ["script", "bag", "table", "moduli", "first", "second", "one", "x", "two", "group", "row", "target", "f", "g", "a", "b", "y"] ["script"] (defScope s_law) := ⟨rfl, rfl, rfl, by decide +kernel, rfl, by decide +kernel, by decide +kernel⟩
theorem ok_law (F : FnP K "law" "law" s_law f fd) (T : Txt K mg) (T4 : Txt4 K mg) (D__law_bag : DOk P w K mg base CX0 "_law_bag" 1 ["script", "k"] (sp_bag K)) (D__law_take : DOk P w K mg base CX0 "_law_take" 1 ["bag", "size"] sp_take) (D__law_table : DOk P w K mg base CX0 "_law_table" 3 ["bag", "limit"] sp_table) (D__law_moduli : DOk P w K mg base CX0 "_law_moduli" 2 ["bag", "limit"] sp_moduli) (D__law_images : DOk P w K mg base CX0 "_law_images" 2 ["bag", "size", "moduli"] sp_images) (D__law_integer : DOk P w K mg base CX0 "_law_integer" 2 ["bag"] sp_integer) (D_Group : KOk P w K mg base (L2.CX P w) "Group" (gC K) 2 ["self", "table"] (sp_init K)) (D_Target : KOk P w K mg base (L2.CX P w) "Target" (tC K) 1 ["self", "moduli"] (sp_tinit K)) (D_GroupMap : KOk P w K mg base (L2.CX P w) "GroupMap" (mC K) 2 ["self", "group", "target", "images"] (sp_minit K))
    (D__law_once : DOk P w K mg base CX0 "_law_once" 8 ["group", "table", "target", "moduli", "f", "images", "coefficients", "a"] (sp_once K)) (D__law_twice : DOk P w K mg base CX0 "_law_twice" 8 ["group", "table", "target", "moduli", "f", "images", "a", "b"] (sp_twice K)) (D__law_along : DOk P w K mg base CX0 "_law_along" 8 ["bag", "group", "table", "target", "moduli", "f", "images", "coefficients"] (sp_along K)) (D__law_added : DOk P w K mg base CX0 "_law_added" 8 ["bag", "target", "moduli", "f", "g", "first", "second", "one", "two"] (sp_added K)) (D__law_valued : DOk P w K mg base CX0 "_law_valued" 5 ["f", "coefficients", "due"] (sp_valued K)) (D__law_has : DOk P w K mg base CX0 "_law_has" 4 ["told", "group", "target", "moduli", "due"] (sp_has K)) : FnOk P w K mg base CX0 9 f fd ["script"] (sp_law K) := by
  refine F.ok sc_law (fun vs H Q E h => ?_) (fun cdv A outer s H vs Q E hr h => ?_)
  · obtain ⟨_, _, rfl, _⟩ := h; rfl
  obtain ⟨a, ns, rfl, hS, n63, kQ⟩ := h
  refine ⟨_, PSs.nox (pss_cons (ps_set (i := 1) sc_law.nd rfl (Or.inr rfl) (callX D__law_bag (hr.mono (by decide)) (passN) (pa_cons (pv 0) (pa_cons pe_int pa_nil))))
  (pss_cons (ps_set (i := 2) sc_law.nd rfl (Or.inl rfl) (callX D__law_table (hr.mono (by decide)) (passN) (pa_cons (pv 1) (pa_cons (pe_ix (Rk.ixL K) (pe_lst (pa_cons pe_int (pa_cons pe_int (pa_cons pe_int (pa_cons pe_int (pa_cons pe_int (pa_cons pe_int (pa_cons pe_int (pa_cons pe_int pa_nil))))))))) (callX D__law_take (hr.mono (by decide)) (passN) (pa_cons (pv 1) (pa_cons pe_int pa_nil))) (fun _ _ => rfl)) pa_nil))))
  (pss_cons (ps_set (i := 3) sc_law.nd rfl (Or.inl rfl) (callX D__law_moduli (hr.mono (by decide)) (passN) (pa_cons (callX D__law_bag (hr.mono (by decide)) (passN) (pa_cons (pv 0) (pa_cons pe_int pa_nil))) (pa_cons pe_int pa_nil))))
  (pss_cons (ps_set (i := 4) sc_law.nd rfl (Or.inl rfl) (callX D__law_images (hr.mono (by decide)) (passN) (pa_cons (callX D__law_bag (hr.mono (by decide)) (passN) (pa_cons (pv 0) (pa_cons pe_int pa_nil))) (pa_cons (pe_callB (Rk.len K) rfl T.len PySem.boot_len (pa_cons (pv 2) pa_nil)) (pa_cons (pv 3) pa_nil)))))
  (pss_cons (ps_set (i := 5) sc_law.nd rfl (Or.inl rfl) (callX D__law_images (hr.mono (by decide)) (passN) (pa_cons (callX D__law_bag (hr.mono (by decide)) (passN) (pa_cons (pv 0) (pa_cons pe_int pa_nil))) (pa_cons (pe_callB (Rk.len K) rfl T.len PySem.boot_len (pa_cons (pv 2) pa_nil)) (pa_cons (pv 3) pa_nil)))))
  (pss_cons (ps_set (i := 1) sc_law.nd rfl (Or.inr rfl) (callX D__law_bag (hr.mono (by decide)) (passN) (pa_cons (pv 0) (pa_cons pe_int pa_nil))))
  (pss_cons (ps_setLc (i := 6) (own := [("x", 7)]) rfl sc_law.nd rfl rfl (sw_true rfl rfl rfl (by decide +kernel)) (pi_range1 rfl T.range (pa_cons (pe_callB (Rk.len K) rfl T.len PySem.boot_len (pa_cons (pv 2) pa_nil)) pa_nil)) (blkOk_by (own := [("x", 7)]) (N := ["script", "bag", "table", "moduli", "first", "second", "one", "x", "two", "group", "row", "target", "f", "g", "a", "b", "y"]) (sc := defScope s_law) (by decide +kernel)) (fun _ _ _ _ _ => (pg_name (i := 7) sc_law.nd rfl (Or.inl rfl))) (fun _ _ _ _ _ => pts_nil) (fun _ _ _ _ _ => (callX D__law_integer (hr.mono (by decide)) (passN) (pa_cons (pv 1) pa_nil))))
  (pss_cons (ps_setLc (i := 8) (own := [("x", 7)]) rfl sc_law.nd rfl rfl (sw_true rfl rfl rfl (by decide +kernel)) (pi_range1 rfl T.range (pa_cons (pe_callB (Rk.len K) rfl T.len PySem.boot_len (pa_cons (pv 2) pa_nil)) pa_nil)) (blkOk_by (own := [("x", 7)]) (N := ["script", "bag", "table", "moduli", "first", "second", "one", "x", "two", "group", "row", "target", "f", "g", "a", "b", "y"]) (sc := defScope s_law) (by decide +kernel)) (fun _ _ _ _ _ => (pg_name (i := 7) sc_law.nd rfl (Or.inl rfl))) (fun _ _ _ _ _ => pts_nil) (fun _ _ _ _ _ => (callX D__law_integer (hr.mono (by decide)) (passN) (pa_cons (pv 1) pa_nil))))
  (pss_cons (ps_set (i := 1) sc_law.nd rfl (Or.inr rfl) (callX D__law_bag (hr.mono (by decide)) (passN) (pa_cons (pv 0) (pa_cons pe_int pa_nil))))
  (pss_cons (ps_set (i := 9) sc_law.nd rfl (Or.inl rfl) (makeX D_Group (hr.mono (by decide)) (passN) (pa_cons (pe_lc (own := [("row", 10)]) rfl sc_law.nd (Rk.pl K rfl (pv 2)) (blkOk_by (own := [("row", 10)]) (N := ["script", "bag", "table", "moduli", "first", "second", "one", "x", "two", "group", "row", "target", "f", "g", "a", "b", "y"]) (sc := defScope s_law) (by decide +kernel)) (fun _ _ _ _ _ => (pg_name (i := 10) sc_law.nd rfl (Or.inl rfl))) (fun _ _ _ _ _ => pts_nil) (fun _ _ _ _ _ => (pe_callTy (Rk.lis K) rfl T.list (by decide +kernel) (pa_cons (pv 10) pa_nil)))) pa_nil)))
  (pss_cons (ps_set (i := 11) sc_law.nd rfl (Or.inl rfl) (makeX D_Target (hr.mono (by decide)) (passN) (pa_cons (pe_callTy (Rk.lis K) rfl T.list (by decide +kernel) (pa_cons (pv 3) pa_nil)) pa_nil)))
  (pss_cons (ps_set (i := 12) sc_law.nd rfl (Or.inl rfl) (makeX D_GroupMap (hr.mono (by decide)) (passN) (pa_cons (pv 9) (pa_cons (pv 11) (pa_cons (pe_callTy (Rk.lis K) rfl T.list (by decide +kernel) (pa_cons (pv 4) pa_nil)) pa_nil)))))
  (pss_cons (ps_set (i := 13) sc_law.nd rfl (Or.inl rfl) (makeX D_GroupMap (hr.mono (by decide)) (passN) (pa_cons (pv 9) (pa_cons (pv 11) (pa_cons (pe_callTy (Rk.lis K) rfl T.list (by decide +kernel) (pa_cons (pv 5) pa_nil)) pa_nil)))))
  (pss_cons (ps_set (i := 14) sc_law.nd rfl (Or.inl rfl) (callX D__law_take (hr.mono (by decide)) (passN) (pa_cons (pv 1) (pa_cons (pe_callB (Rk.len K) rfl T.len PySem.boot_len (pa_cons (pv 2) pa_nil)) pa_nil))))
  (pss_cons (ps_set (i := 15) sc_law.nd rfl (Or.inl rfl) (callX D__law_take (hr.mono (by decide)) (passN) (pa_cons (pv 1) (pa_cons (pe_callB (Rk.len K) rfl T.len PySem.boot_len (pa_cons (pv 2) pa_nil)) pa_nil))))
  (pss_cons (ps_if (pt_not (pt_val (callX D__law_once (hr.mono (by decide)) (passN) (pa_cons (pv 9) (pa_cons (pv 2) (pa_cons (pv 11) (pa_cons (pv 3) (pa_cons (pv 12) (pa_cons (pv 4) (pa_cons (pv 6) (pa_cons (pv 14) pa_nil)))))))))))
  (pss_one (ps_ret pe_bl))
  pss_nil)
  (pss_cons (ps_if (pt_not (pt_val (callX D__law_once (hr.mono (by decide)) (passN) (pa_cons (pv 9) (pa_cons (pv 2) (pa_cons (pv 11) (pa_cons (pv 3) (pa_cons (pv 13) (pa_cons (pv 5) (pa_cons (pv 8) (pa_cons (pv 15) pa_nil)))))))))))
  (pss_one (ps_ret pe_bl))
  pss_nil)
  (pss_cons (ps_if (pt_not (pt_val (callX D__law_twice (hr.mono (by decide)) (passN) (pa_cons (pv 9) (pa_cons (pv 2) (pa_cons (pv 11) (pa_cons (pv 3) (pa_cons (pv 12) (pa_cons (pv 4) (pa_cons (pv 14) (pa_cons (pv 15) pa_nil)))))))))))
  (pss_one (ps_ret pe_bl))
  pss_nil)
  (pss_cons (ps_if (pt_not (pt_val (callX D__law_along (hr.mono (by decide)) (passN) (pa_cons (pv 1) (pa_cons (pv 9) (pa_cons (pv 2) (pa_cons (pv 11) (pa_cons (pv 3) (pa_cons (pv 13) (pa_cons (pv 5) (pa_cons (pv 6) pa_nil)))))))))))
  (pss_one (ps_ret pe_bl))
  pss_nil)
  (pss_cons (ps_if (pt_not (pt_val (callX D__law_added (hr.mono (by decide)) (passN) (pa_cons (pv 1) (pa_cons (pv 11) (pa_cons (pv 3) (pa_cons (pv 12) (pa_cons (pv 13) (pa_cons (pv 4) (pa_cons (pv 5) (pa_cons (pv 6) (pa_cons (pv 8) pa_nil))))))))))))
  (pss_one (ps_ret pe_bl))
  pss_nil)
  (pss_cons (ps_for PassesOwn.never rfl (pi_range1 rfl T.range (pa_cons (pe_callB (Rk.len K) rfl T.len PySem.boot_len (pa_cons (pv 2) pa_nil)) pa_nil)) (pg_name (i := 7) sc_law.nd rfl (Or.inr rfl))
  (pss_one (ps_if (pt_not (pt_val (callX D__law_valued (hr.mono (by decide)) (passN) (pa_cons (pv 12) (pa_cons (pe_lc (own := [("y", 16)]) rfl sc_law.nd (pi_range1 rfl T.range (pa_cons (pe_callB (Rk.len K) rfl T.len PySem.boot_len (pa_cons (pv 2) pa_nil)) pa_nil)) (blkOk_by (own := [("y", 16)]) (N := ["script", "bag", "table", "moduli", "first", "second", "one", "x", "two", "group", "row", "target", "f", "g", "a", "b", "y"]) (sc := defScope s_law) (by decide +kernel)) (fun _ _ _ _ _ => (pg_name (i := 16) sc_law.nd rfl (Or.inl rfl))) (fun _ _ _ _ _ => pts_nil) (fun _ _ _ _ _ => (pe_callTy call_int1 rfl T.int (by decide +kernel) (pa_cons (pe_cmpR op_eq (pv 7) (pv 16) (nomark _)) pa_nil)))) (pa_cons (pe_ix (Rk.ixL K) (pv 4) (pv 7) (fun _ _ => rfl)) pa_nil))))))
  (pss_one (ps_ret pe_bl))
  pss_nil)))
  (pss_one (ps_ret (pe_and (callX D__law_has (hr.mono (by decide)) (passN) (pa_cons (pv 12) (pa_cons (pv 9) (pa_cons (pv 11) (pa_cons (pv 3) (pa_cons (pv 4) pa_nil)))))) (pe_one (callX D__law_has (hr.mono (by decide)) (passN) (pa_cons (pv 13) (pa_cons (pv 9) (pa_cons (pv 11) (pa_cons (pv 3) (pa_cons (pv 5) pa_nil))))))))))))))))))))))))))))))), ?_⟩
  walk_at "st"
  refine ⟨a, ns, 0, rfl, hS, by decide, by decide, fun b0 H1 hb00 e1 hb0 => ?_⟩
  walk_at "st"
  refine ⟨(by decide : 8 ≤ sizeLine), fun lp hlp => ?_⟩
  have e2 : Same H1 (upd H1 lp (.lst [.int 1, .int 2, .int 6, .int 12, .int 8, .int 8, .int 8, .int 8])) := Rd.same_mk hlp
  have hL2 : (upd H1 lp (.lst [.int 1, .int 2, .int 6, .int 12, .int 8, .int 8, .int 8, .int 8])) lp = some (.lst (([1, 2, 6, 12, 8, 8, 8, 8] : List Int).map V.int)) := upd_same
  generalize upd H1 lp (.lst [.int 1, .int 2, .int 6, .int 12, .int 8, .int 8, .int 8, .int 8]) = H2 at e2 hL2
  have nb0 := hb0.ne hlp
  walk_at "st"
  refine ⟨b0, 8, rfl, by decide, by decide, hb0.same e2, fun v H3 v0 v1 hb3 e3 => ?_⟩
  refine pick (lo := 1) (hi := 12) (e3 lp _ nb0.symm hL2) v0 v1 (by decide) fun m m1 m12 => ?_
  refine ⟨b0, m, rfl, m1, by omega, hb3, fun t tp H4 D tl hb4 e4 X4 => ?_⟩
  have GG := D.grp
  have S := GG.sq
  have tpos := S.pos
  have hs : Same H H4 := But.fr hb00 (e1.trans e2) (e3.trans e4)
  have X := X4.tab
  have t12 : t.length ≤ 12 := by omega
  clear e1 e2 e3 e4 hL2 X4 hb4 hb3 hb0 nb0 hlp hb00 v0 v1 D tl
  walk_at "st"
  refine ⟨a, ns, 1, rfl, Same.seq hs hS, by decide, by decide, fun b1 H5 hb10 e5 hb5 => ?_⟩
  walk_at "st"
  refine ⟨b1, rfl, hb5, fun ms mp H6 om pm16 hmp hb6 e6 hm => ?_⟩
  have pm : pr ms ≤ 32 := by omega
  have few := few_of om pm
  have s46 : Same H4 H6 := But.fr hb10 e5 e6
  replace X := X.same s46
  replace hs := hs.trans s46
  clear e5 e6 hb5 hb6 s46 hb10
  walk_at "st"
  refine ⟨a, ns, 2, rfl, Same.seq hs hS, by decide, by decide, fun b2 H7 hbn e7 hb7 => ?_⟩
  have nm := neFree hm hbn
  walk_at "st"
  obtain ⟨as, x1, x2⟩ := (X.same e7).ob
  refine Rd.len1 (.inl (SqL.of x1)) ?_
  walk_at "st"
  rw [List.length_map, x2.len]
  refine ⟨b2, mp, t.length, ms, rfl, hb7, nm, e7 _ _ hm, om, pm, by omega, fun us rs i1 H8 _ hb8 e8 h1 V0 => ?_⟩
  have s8 : Same H6 H8 := But.fr hbn e7 e8
  replace X := X.same s8
  replace hm := s8 _ _ hm
  replace hs := hs.trans s8
  clear e7 e8 hb7 hb8 hbn s8 x1 x2 nm as
  have lus := V0.len
  have ous := V0.ok
  walk_at "st"
  refine ⟨a, ns, 3, rfl, Same.seq hs hS, by decide, by decide, fun b3 H9 hbn e7 hb7 => ?_⟩
  have nm := neFree hm hbn
  walk_at "st"
  obtain ⟨as, x1, x2⟩ := (X.same e7).ob
  refine Rd.len1 (.inl (SqL.of x1)) ?_
  walk_at "st"
  rw [List.length_map, x2.len]
  refine ⟨b3, mp, t.length, ms, rfl, hb7, nm, e7 _ _ hm, om, pm, by omega, fun ws rw i2 H10 _ hb8 e8 h2 V1 => ?_⟩
  have s8 : Same H8 H10 := But.fr hbn e7 e8
  replace X := X.same s8
  replace hm := s8 _ _ hm
  replace h1 := s8 _ _ h1
  replace V0 := V0.same s8
  replace hs := hs.trans s8
  clear e7 e8 hb7 hb8 hbn s8 x1 x2 nm as
  have lws := V1.len
  have ows := V1.ok
  walk_at "st"
  refine ⟨a, ns, 4, rfl, Same.seq hs hS, by decide, by decide, fun b4 H11 hb40 e11 hb11 => ?_⟩
  walk_at "st"
  obtain ⟨as, x1, x2⟩ := (X.same e11).ob
  refine Rd.len1 (.inl (SqL.of x1)) ?_
  walk_at "st"
  rw [List.length_map, x2.len]
  refine ⟨by omega, by omega, ?_⟩
  rw [Int.toNat_natCast]
  refine lcBagR (fun v => v.natAbs < 2 ^ 97) (b := b4) (n := t.length) hb11 (by omega) (by intro _; rfl) (fun x H6 Q1 hb6 q1 => ?_) (fun c1 cs H12 hq0 lc rc hb12 e12 hc => ?_)
  · walk_at "st"
    exact ⟨b4, rfl, hb6, q1⟩
  clear x1 x2 as
  have s12 : Same H10 H12 := But.fr hb40 e11 e12
  have nc : c1 ≠ b4 := fun z => hb11.some (z ▸ hq0)
  walk_at "st"
  obtain ⟨as, x1, x2⟩ := (X.same s12).ob
  refine Rd.len1 (.inl (SqL.of x1)) ?_
  walk_at "st"
  rw [List.length_map, x2.len]
  refine ⟨by omega, by omega, ?_⟩
  rw [Int.toNat_natCast]
  refine lcBagR (fun v => v.natAbs < 2 ^ 97) (b := b4) (n := t.length) hb12 (by omega) (by intro _; rfl) (fun x H6 Q1 hb6 q1 => ?_) (fun c2 ds H13 hq1 ld rd hb13 e13 hd => ?_)
  · walk_at "st"
    exact ⟨b4, rfl, hb6, q1⟩
  clear x1 x2 as
  replace hc := e13 _ _ nc hc
  have s13 : Same H10 H13 := But.fr hb40 e11 (e12.trans e13)
  replace X := X.same s13
  replace hm := s13 _ _ hm
  replace h1 := s13 _ _ h1
  replace V0 := V0.same s13
  replace h2 := s13 _ _ h2
  replace V1 := V1.same s13
  replace hs := hs.trans s13
  clear e11 e12 e13 s12 s13 hb11 hb12 hb13 hb40 hq0 hq1 nc
  have B1 : Bd 97 cs := fun x h => rc x h
  walk_at "st"
  refine ⟨a, ns, 5, rfl, Same.seq hs hS, by decide, by decide, fun b5 H14 hb50 e14 hb14 => ?_⟩
  have nm := neFree hm hb50
  have nh1 := neFree h1 hb50
  have nh2 := neFree h2 hb50
  have nc := neFree hc hb50
  have nd := neFree hd hb50
  have TB0 := TB.nw X hb50 e14
  replace X := X.same e14
  replace hm := e14 _ _ hm
  replace h1 := e14 _ _ h1
  replace V0 := V0.same e14
  replace h2 := e14 _ _ h2
  replace V1 := V1.same e14
  replace hc := e14 _ _ hc
  replace hd := e14 _ _ hd
  clear e14 hb50
  have hb := hb14
  clear hb14
  walk_at "st"
  obtain ⟨as, x1, x2⟩ := X.ob
  refine Rd.itl' (SqL.of x1) ?_
  refine lcRows x1 x2 (by omega) (by intro _; rfl) (fun a r H1 Q1 h1 q1 => ?_) (fun go H15 e15 XG => ?_)
  · walk_at "st"
    exact ⟨a, _, rfl, .inl (SqL.of h1), fun l hl => q1 l _ hl (Rd.same_mk hl) upd_same⟩
  clear x1 x2 as
  walk_at "st"
  refine mkGrp XG.tab GG (by omega) fun g H16 e16 _ G => ?_
  have s16 := e15.trans e16
  replace X := X.same s16
  replace hm := s16 _ _ hm
  replace h1 := s16 _ _ h1
  replace V0 := V0.same s16
  replace h2 := s16 _ _ h2
  replace V1 := V1.same s16
  replace hc := s16 _ _ hc
  replace hd := s16 _ _ hd
  replace TB0 := TB0.same s16
  replace hb := hb.same s16
  clear e15 e16 s16 XG
  walk_at "st"
  refine ⟨mp, _, rfl, .inl (SqL.of hm), fun l hl => ?_⟩
  have e17 : Same H16 (upd H16 l (.lst (ms.map V.int))) := Rd.same_mk hl
  have hl1 : (upd H16 l (.lst (ms.map V.int))) l = some (.lst (ms.map V.int)) := upd_same
  generalize upd H16 l (.lst (ms.map V.int)) = H17 at e17 hl1
  walk_at "st"
  refine mkT hl1 om pm fun y H18 e18 U => ?_
  have s18 := e17.trans e18
  replace X := X.same s18
  replace hm := s18 _ _ hm
  replace h1 := s18 _ _ h1
  replace V0 := V0.same s18
  replace h2 := s18 _ _ h2
  replace V1 := V1.same s18
  replace hc := s18 _ _ hc
  replace hd := s18 _ _ hd
  replace TB0 := TB0.same s18
  replace hb := hb.same s18
  replace G := G.same s18
  clear e17 e18 s18 hl hl1
  walk_at "st"
  refine ⟨i1, _, rfl, .inl (SqL.of h1), fun l hl => ?_⟩
  have e19 : Same H18 (upd H18 l (.lst (rs.map V.ref))) := Rd.same_mk hl
  have hl1 : (upd H18 l (.lst (rs.map V.ref))) l = some (.lst (rs.map V.ref)) := upd_same
  generalize upd H18 l (.lst (rs.map V.ref)) = H19 at e19 hl1
  walk_at "st"
  refine mkMap (G.same e19) (U.same e19) hl1 (V0.same e19) fun f H20 e20 _ M1 => ?_
  have s20 := e19.trans e20
  replace X := X.same s20
  replace hm := s20 _ _ hm
  replace h1 := s20 _ _ h1
  replace V0 := V0.same s20
  replace h2 := s20 _ _ h2
  replace V1 := V1.same s20
  replace hc := s20 _ _ hc
  replace hd := s20 _ _ hd
  replace TB0 := TB0.same s20
  replace hb := hb.same s20
  replace G := G.same s20
  replace U := U.same s20
  clear e19 e20 s20 hl hl1
  walk_at "st"
  refine ⟨i2, _, rfl, .inl (SqL.of h2), fun l hl => ?_⟩
  have e19 : Same H20 (upd H20 l (.lst (rw.map V.ref))) := Rd.same_mk hl
  have hl1 : (upd H20 l (.lst (rw.map V.ref))) l = some (.lst (rw.map V.ref)) := upd_same
  generalize upd H20 l (.lst (rw.map V.ref)) = H21 at e19 hl1
  walk_at "st"
  refine mkMap (G.same e19) (U.same e19) hl1 (V1.same e19) fun f2 H22 e20 _ M2 => ?_
  have s20 := e19.trans e20
  replace X := X.same s20
  replace hm := s20 _ _ hm
  replace h1 := s20 _ _ h1
  replace V0 := V0.same s20
  replace h2 := s20 _ _ h2
  replace V1 := V1.same s20
  replace hc := s20 _ _ hc
  replace hd := s20 _ _ hd
  replace TB0 := TB0.same s20
  replace hb := hb.same s20
  replace G := G.same s20
  replace U := U.same s20
  replace M1 := fr_map s20 M1
  clear e19 e20 s20 hl hl1
  walk_at "st"
  obtain ⟨as, x1, x2⟩ := TB0.tab.ob
  refine Rd.len1 (.inl (SqL.of x1)) ?_
  walk_at "st"
  rw [List.length_map, x2.len]
  clear x1 x2 as
  refine ⟨b5, t.length, rfl, by omega, by omega, hb, fun av H23 v0 v1 hb1 e1 => ?_⟩
  obtain ⟨an, rfl, han⟩ := natv v0 v1
  clear X
  replace hm := e1 _ _ nm hm
  replace h1 := e1 _ _ nh1 h1
  replace V0 := ValsAt.bg V0 hb e1
  replace h2 := e1 _ _ nh2 h2
  replace V1 := ValsAt.bg V1 hb e1
  replace hc := e1 _ _ nc hc
  replace hd := e1 _ _ nd hd
  replace TB0 := TB0.but e1
  replace G := GrpAt.bg G hb e1
  replace U := TgtAt.bg U hb e1
  replace M1 := MapAt.bg M1 hb e1
  replace M2 := MapAt.bg M2 hb e1
  replace hb := hb1
  clear e1 hb1 v0 v1
  walk_at "st"
  obtain ⟨as, x1, x2⟩ := TB0.tab.ob
  refine Rd.len1 (.inl (SqL.of x1)) ?_
  walk_at "st"
  rw [List.length_map, x2.len]
  clear x1 x2 as
  refine ⟨b5, t.length, rfl, by omega, by omega, hb, fun bv H24 v0 v1 hb1 e1 => ?_⟩
  obtain ⟨bn, rfl, hbn⟩ := natv v0 v1
  replace hm := e1 _ _ nm hm
  replace h1 := e1 _ _ nh1 h1
  replace V0 := ValsAt.bg V0 hb e1
  replace h2 := e1 _ _ nh2 h2
  replace V1 := ValsAt.bg V1 hb e1
  replace hc := e1 _ _ nc hc
  replace hd := e1 _ _ nd hd
  replace TB0 := TB0.but e1
  replace G := GrpAt.bg G hb e1
  replace U := TgtAt.bg U hb e1
  replace M1 := MapAt.bg M1 hb e1
  replace M2 := MapAt.bg M2 hb e1
  replace hb := hb1
  clear e1 hb1 v0 v1
  walk_at "st"
  refine ⟨g, tp, y, mp, f, i1, c1, t, ms, us, rs, cs, an, rfl, G, TB0.tab, U, hm, M1, h1, V0, hc, lc, han, fun H25 e1 => ?_⟩
  replace hm := e1 _ _ hm
  replace h1 := e1 _ _ h1
  replace V0 := V0.same e1
  replace h2 := e1 _ _ h2
  replace V1 := V1.same e1
  replace hc := e1 _ _ hc
  replace hd := e1 _ _ hd
  replace TB0 := TB0.same e1
  replace G := G.same e1
  replace U := U.same e1
  replace M1 := fr_map e1 M1
  replace M2 := fr_map e1 M2
  replace hb := hb.same e1
  clear e1
  walk_at "st"
  try refine (if_neg Bool.false_ne_true).mpr ?_
  walk_at "st"
  walk_at "st"
  refine ⟨g, tp, y, mp, f2, i2, c2, t, ms, ws, rw, ds, bn, rfl, G, TB0.tab, U, hm, M2, h2, V1, hd, ld, hbn, fun H26 e1 => ?_⟩
  replace hm := e1 _ _ hm
  replace h1 := e1 _ _ h1
  replace V0 := V0.same e1
  replace h2 := e1 _ _ h2
  replace V1 := V1.same e1
  replace hc := e1 _ _ hc
  replace hd := e1 _ _ hd
  replace TB0 := TB0.same e1
  replace G := G.same e1
  replace U := U.same e1
  replace M1 := fr_map e1 M1
  replace M2 := fr_map e1 M2
  replace hb := hb.same e1
  clear e1
  walk_at "st"
  try refine (if_neg Bool.false_ne_true).mpr ?_
  walk_at "st"
  walk_at "st"
  refine ⟨g, tp, y, mp, f, i1, t, ms, us, rs, an, bn, rfl, G, TB0.tab, U, hm, M1, h1, V0, han, hbn, fun H27 e1 => ?_⟩
  replace hm := e1 _ _ hm
  replace h1 := e1 _ _ h1
  replace V0 := V0.same e1
  replace h2 := e1 _ _ h2
  replace V1 := V1.same e1
  replace hc := e1 _ _ hc
  replace hd := e1 _ _ hd
  replace TB0 := TB0.same e1
  replace G := G.same e1
  replace U := U.same e1
  replace M1 := fr_map e1 M1
  replace M2 := fr_map e1 M2
  replace hb := hb.same e1
  clear e1
  walk_at "st"
  try refine (if_neg Bool.false_ne_true).mpr ?_
  walk_at "st"
  walk_at "st"
  refine ⟨b5, g, tp, y, mp, f2, i2, c1, t, ms, ws, rw, cs, rfl, hb, G, TB0, U, nm, hm, M2, nh2, h2, V1, nc, hc, lc, fun H28 hb1 e1 => ?_⟩
  replace hm := e1 _ _ nm hm
  replace h1 := e1 _ _ nh1 h1
  replace V0 := ValsAt.bg V0 hb e1
  replace h2 := e1 _ _ nh2 h2
  replace V1 := ValsAt.bg V1 hb e1
  replace hc := e1 _ _ nc hc
  replace hd := e1 _ _ nd hd
  replace TB0 := TB0.but e1
  replace G := GrpAt.bg G hb e1
  replace U := TgtAt.bg U hb e1
  replace M1 := MapAt.bg M1 hb e1
  replace M2 := MapAt.bg M2 hb e1
  replace hb := hb1
  clear e1 hb1
  walk_at "st"
  try refine (if_neg Bool.false_ne_true).mpr ?_
  walk_at "st"
  walk_at "st"
  refine ⟨b5, y, mp, f, f2, i1, i2, c1, c2, t, ms, us, ws, rs, rw, cs, ds, rfl, hb, U, nm, hm, M1, M2, nh1, h1, V0, nh2, h2, V1, nc, hc, lc, nd, hd, ld, B1, fun H29 hb1 e1 => ?_⟩
  replace hm := e1 _ _ nm hm
  replace h1 := e1 _ _ nh1 h1
  replace V0 := ValsAt.bg V0 hb e1
  replace h2 := e1 _ _ nh2 h2
  replace V1 := ValsAt.bg V1 hb e1
  replace hc := e1 _ _ nc hc
  replace hd := e1 _ _ nd hd
  replace TB0 := TB0.but e1
  replace G := GrpAt.bg G hb e1
  replace U := TgtAt.bg U hb e1
  replace M1 := MapAt.bg M1 hb e1
  replace M2 := MapAt.bg M2 hb e1
  replace hb := hb1
  clear e1 hb1
  walk_at "st"
  try refine (if_neg Bool.false_ne_true).mpr ?_
  walk_at "st"
  obtain ⟨as, x1, x2⟩ := TB0.tab.ob
  refine Rd.len1 (.inl (SqL.of x1)) ?_
  walk_at "st"
  rw [List.length_map, x2.len]
  clear x1 x2 as
  refine ⟨by omega, by omega, ?_⟩
  refine for_range (fun i σ H' => ∃ (v14 : Option V), σ = [some (.ref a), some (.ref b5), some (.ref tp), some (.ref mp), some (.ref i1), some (.ref i2), some (.ref c1), v14, some (.ref c2), some (.ref g), none, some (.ref y), some (.ref f), some (.ref f2), some (.int (an : Nat)), some (.int (bn : Nat)), none] ∧ Same H29 H')
    ⟨none, rfl, Same.refl _⟩ ?_ ?_
  · rintro i σ HL hi ⟨v14, rfl, e1⟩
    have hi : i < t.length := by simpa using hi
    rw [Int.zero_add]
    walk_at "st"
    obtain ⟨as, x1, x2⟩ := (TB0.tab.same e1).ob
    refine Rd.len1 (.inl (SqL.of x1)) ?_
    walk_at "st"
    rw [List.length_map, x2.len]
    refine ⟨by omega, by omega, ?_⟩
    rw [Int.toNat_natCast]
    refine Rd.lcMap (fun y => .int (if i = y then 1 else 0)) (Rd.src_rng _ _ _) (by rw [Rd.rgL_len]; omega) (by intro _; rfl) (fun yy z H6 Q1 hz e6 q1 => ?_) (fun p6 H6 hp6 e6 h6 => ?_)
    · obtain ⟨rfl, hy⟩ := rg_at hz
      walk_at "st"
      refine .inr ⟨_, rfl, ?_⟩
      rw [ifn]
      exact q1 _ (Same.refl _)
    rw [Rd.rgL_len, map_in] at h6
    have h6 : H6 p6 = some (.lst ((fl t.length fun y => if i = y then 1 else 0).map V.int)) := h6
    have e16 := e1.trans e6
    walk_at "st"
    obtain ⟨ra, r, g1, g2, g3⟩ := (V0.same e16).rows.get (i := i) (by omega)
    refine Rd.ixL (SqL.of (e16 _ _ h1)) (at_of (j := i) rfl (by rw [List.getElem?_map, g1]; rfl)) ?_
    refine ⟨f, p6, ra, t, ms, _, us, rfl, fr_map e16 M1, h6, fl_len _ _, ?_, fun H7 e7 => ?_⟩
    · rw [evF_eq ous, ← lus, at_unit (by omega) ous, vv_of g2]; exact g3
    walk_at "st"
    refine (if_neg Bool.false_ne_true).mpr ?_
    walk_at "st"
    exact ⟨_, rfl, e16.trans e7⟩
  rintro σ HL ⟨v14, rfl, e1⟩
  replace hm := e1 _ _ hm
  replace h1 := e1 _ _ h1
  replace V0 := V0.same e1
  replace h2 := e1 _ _ h2
  replace V1 := V1.same e1
  replace hc := e1 _ _ hc
  replace hd := e1 _ _ hd
  replace TB0 := TB0.same e1
  replace G := G.same e1
  replace U := U.same e1
  replace M1 := fr_map e1 M1
  replace M2 := fr_map e1 M2
  replace hb := hb.same e1
  walk_at "st"
  refine ⟨f, g, y, mp, i1, t, ms, us, rs, rfl, M1, G, U, hm, h1, V0.rows, fun H1 e1 => ?_⟩
  replace hm := e1 _ _ hm
  replace h1 := e1 _ _ h1
  replace V0 := V0.same e1
  replace h2 := e1 _ _ h2
  replace V1 := V1.same e1
  replace hc := e1 _ _ hc
  replace hd := e1 _ _ hd
  replace TB0 := TB0.same e1
  replace G := G.same e1
  replace U := U.same e1
  replace M1 := fr_map e1 M1
  replace M2 := fr_map e1 M2
  replace hb := hb.same e1
  walk_at "st"
  try refine (if_pos rfl).mpr ?_
  walk_at "st"
  refine ⟨f2, g, y, mp, i2, t, ms, ws, rw, rfl, M2, G, U, hm, h2, V1.rows, fun H1 e1 => ?_⟩
  walk_at "st"
  exact kQ _
end
end K08

set_option Elab.async false
set_option linter.all false
set_option maxRecDepth 100000
set_option maxHeartbeats 0
namespace K08
open PySem PySem.Spec PyProof.Rows L2 Rd
theorem fnDown {P : Program} {w : World} {K : PySem.W.Frag} {mg : Str → Option Value} {base : Heap} {k : Nat} {f : Addr} {fd : FuncData} {ps : List Str} {sp : Sp} (F : FnOk P w K mg base (L2.CX P w) k f fd ps sp) (h : ∀ vs H Q E, sp vs H Q E → sp vs H Q E0) : FnOk P w K mg base CX0 k f fd ps sp :=
  ⟨F.len, fun A outer s H args us vs Q E hr he hb hv hs => codeAny_mono (F.run A outer s H args us vs Q E0 hr he hb hv (h _ _ _ _ hs)) fun r s' q => by
    cases r with
    | ok fl => cases fl <;> exact q
    | error e =>
      obtain ⟨_, _, _, _, _, _, _, _, _, _, _, _, z⟩ := q
      exact z.elim⟩
theorem exSome {α : Type _} {o : Option α} (h : (match o with | some _ => true | none => false) = true) : ∃ x, o = some x := by
  cases o with
  | none => cases h
  | some x => exact ⟨x, rfl⟩
theorem factsL {P : Program} {w : World} {K : PySem.W.Frag} {h : Heap} {mg : Str → Option Value} {f : Addr} (X : K.In h) (G : h.Ns mainGlobals mg) (hfa : mg ("law" : Str) = some (.ref f)) (c : He.SaysD faL fnL K) (x : (exL K).all id = true) :
    ∃ fd : FuncData, (∀ (s : Shared) (v : Value), BindsTo s fd ⟨[v], []⟩ [("script", v)]) ∧ ∀ base : Heap, K.In base → base.Ns mainGlobals mg → FnOk P w K mg base CX0 9 f fd ["script"] (sp_law K) := by
  obtain ⟨fd_Group___eq__, F_Group___eq__⟩ := c.def_ 0 (d := d_Group___eq__) rfl
  have b_Group___eq__ : Binds K fd_Group___eq__ ["self", "other"] [] := F_Group___eq__.bindsN fun _ _ _ _ _ _ us hl => match us, hl with | [_, _], _ => rfl
  obtain ⟨fd_Group_require, F_Group_require⟩ := c.def_ 1 (d := d_Group_require) rfl
  have b_Group_require : Binds K fd_Group_require ["self", "members"] [] := F_Group_require.bindsN fun _ _ _ _ _ _ us hl => match us, hl with | [_, _], _ => rfl
  obtain ⟨fd__has_shape, F__has_shape⟩ := c.def_ 2 (d := d__has_shape) rfl
  have g__has_shape := He.glo_ok X G (c.fact 2 (f := .glo "_has_shape") rfl)
  have b__has_shape : Binds K fd__has_shape ["rows"] [] := F__has_shape.bindsN fun _ _ _ _ _ _ us hl => match us, hl with | [_], _ => rfl
  obtain ⟨fd__has_identity, F__has_identity⟩ := c.def_ 3 (d := d__has_identity) rfl
  have g__has_identity := He.glo_ok X G (c.fact 3 (f := .glo "_has_identity") rfl)
  have b__has_identity : Binds K fd__has_identity ["rows"] [] := F__has_identity.bindsN fun _ _ _ _ _ _ us hl => match us, hl with | [_], _ => rfl
  obtain ⟨fd__has_inverses, F__has_inverses⟩ := c.def_ 4 (d := d__has_inverses) rfl
  have g__has_inverses := He.glo_ok X G (c.fact 4 (f := .glo "_has_inverses") rfl)
  have b__has_inverses : Binds K fd__has_inverses ["rows"] [] := F__has_inverses.bindsN fun _ _ _ _ _ _ us hl => match us, hl with | [_], _ => rfl
  obtain ⟨fd__is_associative, F__is_associative⟩ := c.def_ 5 (d := d__is_associative) rfl
  have g__is_associative := He.glo_ok X G (c.fact 5 (f := .glo "_is_associative") rfl)
  have b__is_associative : Binds K fd__is_associative ["rows"] [] := F__is_associative.bindsN fun _ _ _ _ _ _ us hl => match us, hl with | [_], _ => rfl
  obtain ⟨fd_Group___init__, F_Group___init__⟩ := c.def_ 6 (d := d_Group___init__) rfl
  have b_Group___init__ : Binds K fd_Group___init__ ["self", "table"] [] := F_Group___init__.bindsN fun _ _ _ _ _ _ us hl => match us, hl with | [_, _], _ => rfl
  obtain ⟨fd_shifted, F_shifted⟩ := c.def_ 7 (d := d_shifted) rfl
  have g_shifted := He.glo_ok X G (c.fact 6 (f := .glo "shifted") rfl)
  have b_shifted : Binds K fd_shifted ["group", "coefficients", "element"] [] := F_shifted.bindsN fun _ _ _ _ _ _ us hl => match us, hl with | [_, _, _], _ => rfl
  obtain ⟨fd_Target___init__, F_Target___init__⟩ := c.def_ 8 (d := d_Target___init__) rfl
  have b_Target___init__ : Binds K fd_Target___init__ ["self", "moduli"] [] := F_Target___init__.bindsN fun _ _ _ _ _ _ us hl => match us, hl with | [_, _], _ => rfl
  obtain ⟨fd_Target___eq__, F_Target___eq__⟩ := c.def_ 9 (d := d_Target___eq__) rfl
  have b_Target___eq__ : Binds K fd_Target___eq__ ["self", "other"] [] := F_Target___eq__.bindsN fun _ _ _ _ _ _ us hl => match us, hl with | [_, _], _ => rfl
  obtain ⟨fd_GroupMap__require_same, F_GroupMap__require_same⟩ := c.def_ 10 (d := d_GroupMap__require_same) rfl
  have b_GroupMap__require_same : Binds K fd_GroupMap__require_same ["self", "other"] [] := F_GroupMap__require_same.bindsN fun _ _ _ _ _ _ us hl => match us, hl with | [_, _], _ => rfl
  obtain ⟨fd_Target_is_value, F_Target_is_value⟩ := c.def_ 11 (d := d_Target_is_value) rfl
  have b_Target_is_value : Binds K fd_Target_is_value ["self", "value"] [] := F_Target_is_value.bindsN fun _ _ _ _ _ _ us hl => match us, hl with | [_, _], _ => rfl
  obtain ⟨fd_GroupMap___init__, F_GroupMap___init__⟩ := c.def_ 12 (d := d_GroupMap___init__) rfl
  have b_GroupMap___init__ : Binds K fd_GroupMap___init__ ["self", "group", "target", "images"] [] := F_GroupMap___init__.bindsN fun _ _ _ _ _ _ us hl => match us, hl with | [_, _, _, _], _ => rfl
  obtain ⟨fd_GroupMap__arranged, F_GroupMap__arranged⟩ := c.def_ 13 (d := d_GroupMap__arranged) rfl
  have b_GroupMap__arranged : Binds K fd_GroupMap__arranged ["self", "places"] [] := F_GroupMap__arranged.bindsN fun _ _ _ _ _ _ us hl => match us, hl with | [_, _], _ => rfl
  obtain ⟨fd_GroupMap_translated, F_GroupMap_translated⟩ := c.def_ 14 (d := d_GroupMap_translated) rfl
  have b_GroupMap_translated : Binds K fd_GroupMap_translated ["self", "element"] [] := F_GroupMap_translated.bindsN fun _ _ _ _ _ _ us hl => match us, hl with | [_, _], _ => rfl
  obtain ⟨fd_Target_plus, F_Target_plus⟩ := c.def_ 15 (d := d_Target_plus) rfl
  have b_Target_plus : Binds K fd_Target_plus ["self", "left", "right"] [] := F_Target_plus.bindsN fun _ _ _ _ _ _ us hl => match us, hl with | [_, _, _], _ => rfl
  obtain ⟨fd_GroupMap___add__, F_GroupMap___add__⟩ := c.def_ 16 (d := d_GroupMap___add__) rfl
  have b_GroupMap___add__ : Binds K fd_GroupMap___add__ ["self", "other"] [] := F_GroupMap___add__.bindsN fun _ _ _ _ _ _ us hl => match us, hl with | [_, _], _ => rfl
  obtain ⟨fd_Target_minus, F_Target_minus⟩ := c.def_ 17 (d := d_Target_minus) rfl
  have b_Target_minus : Binds K fd_Target_minus ["self", "left", "right"] [] := F_Target_minus.bindsN fun _ _ _ _ _ _ us hl => match us, hl with | [_, _, _], _ => rfl
  obtain ⟨fd_GroupMap___sub__, F_GroupMap___sub__⟩ := c.def_ 18 (d := d_GroupMap___sub__) rfl
  have b_GroupMap___sub__ : Binds K fd_GroupMap___sub__ ["self", "other"] [] := F_GroupMap___sub__.bindsN fun _ _ _ _ _ _ us hl => match us, hl with | [_, _], _ => rfl
  obtain ⟨fd_GroupMap_step, F_GroupMap_step⟩ := c.def_ 19 (d := d_GroupMap_step) rfl
  have b_GroupMap_step : Binds K fd_GroupMap_step ["self", "element"] [] := F_GroupMap_step.bindsN fun _ _ _ _ _ _ us hl => match us, hl with | [_, _], _ => rfl
  obtain ⟨fd_GroupMap_left_step, F_GroupMap_left_step⟩ := c.def_ 20 (d := d_GroupMap_left_step) rfl
  have b_GroupMap_left_step : Binds K fd_GroupMap_left_step ["self", "element"] [] := F_GroupMap_left_step.bindsN fun _ _ _ _ _ _ us hl => match us, hl with | [_, _], _ => rfl
  obtain ⟨fd_Target_times, F_Target_times⟩ := c.def_ 21 (d := d_Target_times) rfl
  have b_Target_times : Binds K fd_Target_times ["self", "factor", "value"] [] := F_Target_times.bindsN fun _ _ _ _ _ _ us hl => match us, hl with | [_, _, _], _ => rfl
  obtain ⟨fd_GroupMap___mul__, F_GroupMap___mul__⟩ := c.def_ 22 (d := d_GroupMap___mul__) rfl
  have b_GroupMap___mul__ : Binds K fd_GroupMap___mul__ ["self", "factor"] [] := F_GroupMap___mul__.bindsN fun _ _ _ _ _ _ us hl => match us, hl with | [_, _], _ => rfl
  obtain ⟨fd_GroupMap_evaluate, F_GroupMap_evaluate⟩ := c.def_ 23 (d := d_GroupMap_evaluate) rfl
  have b_GroupMap_evaluate : Binds K fd_GroupMap_evaluate ["self", "coefficients"] [] := F_GroupMap_evaluate.bindsN fun _ _ _ _ _ _ us hl => match us, hl with | [_, _], _ => rfl
  obtain ⟨fd__law_bag, F__law_bag⟩ := c.def_ 24 (d := d__law_bag) rfl
  have g__law_bag := He.glo_ok X G (c.fact 21 (f := .glo "_law_bag") rfl)
  have b__law_bag : Binds K fd__law_bag ["script", "k"] [] := F__law_bag.bindsN fun _ _ _ _ _ _ us hl => match us, hl with | [_, _], _ => rfl
  obtain ⟨fd__law_take, F__law_take⟩ := c.def_ 25 (d := d__law_take) rfl
  have g__law_take := He.glo_ok X G (c.fact 22 (f := .glo "_law_take") rfl)
  have b__law_take : Binds K fd__law_take ["bag", "size"] [] := F__law_take.bindsN fun _ _ _ _ _ _ us hl => match us, hl with | [_, _], _ => rfl
  obtain ⟨fd__law_power, F__law_power⟩ := c.def_ 26 (d := d__law_power) rfl
  have g__law_power := He.glo_ok X G (c.fact 23 (f := .glo "_law_power") rfl)
  have b__law_power : Binds K fd__law_power ["base", "times", "modulus"] [] := F__law_power.bindsN fun _ _ _ _ _ _ us hl => match us, hl with | [_, _, _], _ => rfl
  obtain ⟨fd__law_metacyclic, F__law_metacyclic⟩ := c.def_ 27 (d := d__law_metacyclic) rfl
  have g__law_metacyclic := He.glo_ok X G (c.fact 24 (f := .glo "_law_metacyclic") rfl)
  have b__law_metacyclic : Binds K fd__law_metacyclic ["bag", "limit"] [] := F__law_metacyclic.bindsN fun _ _ _ _ _ _ us hl => match us, hl with | [_, _], _ => rfl
  obtain ⟨fd__law_permutations, F__law_permutations⟩ := c.def_ 28 (d := d__law_permutations) rfl
  have g__law_permutations := He.glo_ok X G (c.fact 25 (f := .glo "_law_permutations") rfl)
  have b__law_permutations : Binds K fd__law_permutations ["bag"] [] := F__law_permutations.bindsN fun _ _ _ _ _ _ us hl => match us, hl with | [_], _ => rfl
  obtain ⟨fd__law_renamed, F__law_renamed⟩ := c.def_ 29 (d := d__law_renamed) rfl
  have g__law_renamed := He.glo_ok X G (c.fact 26 (f := .glo "_law_renamed") rfl)
  have b__law_renamed : Binds K fd__law_renamed ["bag", "table"] [] := F__law_renamed.bindsN fun _ _ _ _ _ _ us hl => match us, hl with | [_, _], _ => rfl
  obtain ⟨fd__law_table, F__law_table⟩ := c.def_ 30 (d := d__law_table) rfl
  have g__law_table := He.glo_ok X G (c.fact 27 (f := .glo "_law_table") rfl)
  have b__law_table : Binds K fd__law_table ["bag", "limit"] [] := F__law_table.bindsN fun _ _ _ _ _ _ us hl => match us, hl with | [_, _], _ => rfl
  obtain ⟨fd__law_moduli, F__law_moduli⟩ := c.def_ 31 (d := d__law_moduli) rfl
  have g__law_moduli := He.glo_ok X G (c.fact 28 (f := .glo "_law_moduli") rfl)
  have b__law_moduli : Binds K fd__law_moduli ["bag", "limit"] [] := F__law_moduli.bindsN fun _ _ _ _ _ _ us hl => match us, hl with | [_, _], _ => rfl
  obtain ⟨fd__law_images, F__law_images⟩ := c.def_ 32 (d := d__law_images) rfl
  have g__law_images := He.glo_ok X G (c.fact 29 (f := .glo "_law_images") rfl)
  have b__law_images : Binds K fd__law_images ["bag", "size", "moduli"] [] := F__law_images.bindsN fun _ _ _ _ _ _ us hl => match us, hl with | [_, _, _], _ => rfl
  obtain ⟨fd__law_at, F__law_at⟩ := c.def_ 33 (d := d__law_at) rfl
  have g__law_at := He.glo_ok X G (c.fact 30 (f := .glo "_law_at") rfl)
  have b__law_at : Binds K fd__law_at ["images", "coefficients", "moduli"] [] := F__law_at.bindsN fun _ _ _ _ _ _ us hl => match us, hl with | [_, _, _], _ => rfl
  obtain ⟨fd__law_is_integer, F__law_is_integer⟩ := c.def_ 34 (d := d__law_is_integer) rfl
  have g__law_is_integer := He.glo_ok X G (c.fact 31 (f := .glo "_law_is_integer") rfl)
  have b__law_is_integer : Binds K fd__law_is_integer ["told"] [] := F__law_is_integer.bindsN fun _ _ _ _ _ _ us hl => match us, hl with | [_], _ => rfl
  obtain ⟨fd__law_same, F__law_same⟩ := c.def_ 35 (d := d__law_same) rfl
  have g__law_same := He.glo_ok X G (c.fact 32 (f := .glo "_law_same") rfl)
  have b__law_same : Binds K fd__law_same ["told", "due"] [] := F__law_same.bindsN fun _ _ _ _ _ _ us hl => match us, hl with | [_, _], _ => rfl
  obtain ⟨fd__law_is_map, F__law_is_map⟩ := c.def_ 36 (d := d__law_is_map) rfl
  have g__law_is_map := He.glo_ok X G (c.fact 33 (f := .glo "_law_is_map") rfl)
  have b__law_is_map : Binds K fd__law_is_map ["told", "group", "target", "size", "moduli"] [] := F__law_is_map.bindsN fun _ _ _ _ _ _ us hl => match us, hl with | [_, _, _, _, _], _ => rfl
  obtain ⟨fd__law_integer, F__law_integer⟩ := c.def_ 37 (d := d__law_integer) rfl
  have g__law_integer := He.glo_ok X G (c.fact 34 (f := .glo "_law_integer") rfl)
  have b__law_integer : Binds K fd__law_integer ["bag"] [] := F__law_integer.bindsN fun _ _ _ _ _ _ us hl => match us, hl with | [_], _ => rfl
  obtain ⟨fd__law_moved_sum, F__law_moved_sum⟩ := c.def_ 38 (d := d__law_moved_sum) rfl
  have g__law_moved_sum := He.glo_ok X G (c.fact 35 (f := .glo "_law_moved_sum") rfl)
  have b__law_moved_sum : Binds K fd__law_moved_sum ["table", "coefficients", "kind", "a"] [] := F__law_moved_sum.bindsN fun _ _ _ _ _ _ us hl => match us, hl with | [_, _, _, _], _ => rfl
  obtain ⟨fd__law_moved, F__law_moved⟩ := c.def_ 39 (d := d__law_moved) rfl
  have g__law_moved := He.glo_ok X G (c.fact 36 (f := .glo "_law_moved") rfl)
  have b__law_moved : Binds K fd__law_moved ["table", "moduli", "images", "kind", "a"] [] := F__law_moved.bindsN fun _ _ _ _ _ _ us hl => match us, hl with | [_, _, _, _, _], _ => rfl
  obtain ⟨fd__law_ask, F__law_ask⟩ := c.def_ 40 (d := d__law_ask) rfl
  have g__law_ask := He.glo_ok X G (c.fact 37 (f := .glo "_law_ask") rfl)
  have b__law_ask : Binds K fd__law_ask ["f", "kind", "a"] [] := F__law_ask.bindsN fun _ _ _ _ _ _ us hl => match us, hl with | [_, _, _], _ => rfl
  obtain ⟨fd__law_has, F__law_has⟩ := c.def_ 41 (d := d__law_has) rfl
  have g__law_has := He.glo_ok X G (c.fact 38 (f := .glo "_law_has") rfl)
  have b__law_has : Binds K fd__law_has ["told", "group", "target", "moduli", "due"] [] := F__law_has.bindsN fun _ _ _ _ _ _ us hl => match us, hl with | [_, _, _, _, _], _ => rfl
  obtain ⟨fd__law_valued, F__law_valued⟩ := c.def_ 42 (d := d__law_valued) rfl
  have g__law_valued := He.glo_ok X G (c.fact 39 (f := .glo "_law_valued") rfl)
  have b__law_valued : Binds K fd__law_valued ["f", "coefficients", "due"] [] := F__law_valued.bindsN fun _ _ _ _ _ _ us hl => match us, hl with | [_, _, _], _ => rfl
  obtain ⟨fd__law_once, F__law_once⟩ := c.def_ 43 (d := d__law_once) rfl
  have g__law_once := He.glo_ok X G (c.fact 40 (f := .glo "_law_once") rfl)
  have b__law_once : Binds K fd__law_once ["group", "table", "target", "moduli", "f", "images", "coefficients", "a"] [] := F__law_once.bindsN fun _ _ _ _ _ _ us hl => match us, hl with | [_, _, _, _, _, _, _, _], _ => rfl
  obtain ⟨fd__law_twice, F__law_twice⟩ := c.def_ 44 (d := d__law_twice) rfl
  have g__law_twice := He.glo_ok X G (c.fact 41 (f := .glo "_law_twice") rfl)
  have b__law_twice : Binds K fd__law_twice ["group", "table", "target", "moduli", "f", "images", "a", "b"] [] := F__law_twice.bindsN fun _ _ _ _ _ _ us hl => match us, hl with | [_, _, _, _, _, _, _, _], _ => rfl
  obtain ⟨fd__law_along, F__law_along⟩ := c.def_ 45 (d := d__law_along) rfl
  have g__law_along := He.glo_ok X G (c.fact 42 (f := .glo "_law_along") rfl)
  have b__law_along : Binds K fd__law_along ["bag", "group", "table", "target", "moduli", "f", "images", "coefficients"] [] := F__law_along.bindsN fun _ _ _ _ _ _ us hl => match us, hl with | [_, _, _, _, _, _, _, _], _ => rfl
  obtain ⟨fd__law_added, F__law_added⟩ := c.def_ 46 (d := d__law_added) rfl
  have g__law_added := He.glo_ok X G (c.fact 43 (f := .glo "_law_added") rfl)
  have b__law_added : Binds K fd__law_added ["bag", "target", "moduli", "f", "g", "first", "second", "one", "two"] [] := F__law_added.bindsN fun _ _ _ _ _ _ us hl => match us, hl with | [_, _, _, _, _, _, _, _, _], _ => rfl
  obtain ⟨fd_law, F_law⟩ := c.def_ 47 (d := d_law) rfl
  have g_law := He.glo_ok X G (c.fact 44 (f := .glo "law") rfl)
  have g_LimitExceeded := He.glo_ok X G (c.fact 45 (f := .glo "LimitExceeded") rfl)
  have g_InvalidGroup := He.glo_ok X G (c.fact 46 (f := .glo "InvalidGroup") rfl)
  have g_InvalidElement := He.glo_ok X G (c.fact 47 (f := .glo "InvalidElement") rfl)
  have g_InvalidTarget := He.glo_ok X G (c.fact 48 (f := .glo "InvalidTarget") rfl)
  have g_InvalidValue := He.glo_ok X G (c.fact 49 (f := .glo "InvalidValue") rfl)
  have g_InvalidVector := He.glo_ok X G (c.fact 50 (f := .glo "InvalidVector") rfl)
  have g_Mismatch := He.glo_ok X G (c.fact 51 (f := .glo "Mismatch") rfl)
  have g_StepError := He.glo_ok X G (c.fact 52 (f := .glo "StepError") rfl)
  have g_Group := He.glo_ok X G (c.fact 53 (f := .glo "Group") rfl)
  have g_Target := He.glo_ok X G (c.fact 54 (f := .glo "Target") rfl)
  have g_GroupMap := He.glo_ok X G (c.fact 55 (f := .glo "GroupMap") rfl)
  have x_LimitExceeded : ExF K mg "LimitExceeded" (He.ga K "LimitExceeded") := by
    obtain ⟨h1, h2, h3, h4⟩ := He.exc_ok (c.fact 56 (f := .exc "LimitExceeded") rfl)
    exact ⟨g_LimitExceeded, h1, h2, h3, h4⟩
  have x_InvalidGroup : ExF K mg "InvalidGroup" (He.ga K "InvalidGroup") := by
    obtain ⟨h1, h2, h3, h4⟩ := He.exc_ok (c.fact 57 (f := .exc "InvalidGroup") rfl)
    exact ⟨g_InvalidGroup, h1, h2, h3, h4⟩
  have x_InvalidElement : ExF K mg "InvalidElement" (He.ga K "InvalidElement") := by
    obtain ⟨h1, h2, h3, h4⟩ := He.exc_ok (c.fact 58 (f := .exc "InvalidElement") rfl)
    exact ⟨g_InvalidElement, h1, h2, h3, h4⟩
  have x_InvalidTarget : ExF K mg "InvalidTarget" (He.ga K "InvalidTarget") := by
    obtain ⟨h1, h2, h3, h4⟩ := He.exc_ok (c.fact 59 (f := .exc "InvalidTarget") rfl)
    exact ⟨g_InvalidTarget, h1, h2, h3, h4⟩
  have x_InvalidValue : ExF K mg "InvalidValue" (He.ga K "InvalidValue") := by
    obtain ⟨h1, h2, h3, h4⟩ := He.exc_ok (c.fact 60 (f := .exc "InvalidValue") rfl)
    exact ⟨g_InvalidValue, h1, h2, h3, h4⟩
  have x_InvalidVector : ExF K mg "InvalidVector" (He.ga K "InvalidVector") := by
    obtain ⟨h1, h2, h3, h4⟩ := He.exc_ok (c.fact 61 (f := .exc "InvalidVector") rfl)
    exact ⟨g_InvalidVector, h1, h2, h3, h4⟩
  have x_Mismatch : ExF K mg "Mismatch" (He.ga K "Mismatch") := by
    obtain ⟨h1, h2, h3, h4⟩ := He.exc_ok (c.fact 62 (f := .exc "Mismatch") rfl)
    exact ⟨g_Mismatch, h1, h2, h3, h4⟩
  have x_StepError : ExF K mg "StepError" (He.ga K "StepError") := by
    obtain ⟨h1, h2, h3, h4⟩ := He.exc_ok (c.fact 63 (f := .exc "StepError") rfl)
    exact ⟨g_StepError, h1, h2, h3, h4⟩
  have T : Txt K mg := ⟨He.free_ok X G (c.fact 73 (f := .free "len") rfl), He.free_ok X G (c.fact 74 (f := .free "tuple") rfl), He.free_ok X G (c.fact 75 (f := .free "list") rfl), He.free_ok X G (c.fact 76 (f := .free "range") rfl), He.free_ok X G (c.fact 77 (f := .free "all") rfl), He.free_ok X G (c.fact 78 (f := .free "enumerate") rfl), He.free_ok X G (c.fact 79 (f := .free "sorted") rfl), He.free_ok X G (c.fact 80 (f := .free "int") rfl), He.free_ok X G (c.fact 81 (f := .free "bool") rfl), He.free_ok X G (c.fact 82 (f := .free "abs") rfl), He.free_ok X G (c.fact 83 (f := .free "isinstance") rfl), He.free_ok X G (c.fact 84 (f := .free "str") rfl), He.free_ok X G (c.fact 85 (f := .free "dict") rfl), He.free_ok X G (c.fact 86 (f := .free "zip") rfl), He.free_ok X G (c.fact 87 (f := .free "sum") rfl), He.free_ok X G (c.fact 88 (f := .free "reversed") rfl), He.free_ok X G (c.fact 89 (f := .free "ValueError") rfl), He.int_ok X G (c.fact 97 (f := .int "LIMIT" 32) rfl), x_LimitExceeded, x_InvalidGroup, x_InvalidElement, x_InvalidTarget, x_InvalidValue, x_InvalidVector, x_Mismatch, x_StepError, He.cls_ok (c.fact 64 (f := .cls "Group") rfl), He.noat_ok (c.fact 70 (f := .noat "Group" "order") rfl), He.noat_ok (c.fact 71 (f := .noat "Group" "rows") rfl), He.noat_ok (c.fact 72 (f := .noat "Group" "inverses") rfl), PySem.W.mg_of X G (He.eqO_ok (exAt x 2 rfl)), He.cls_ok (c.fact 66 (f := .cls "Target") rfl), He.noat_ok (c.fact 90 (f := .noat "Target" "moduli") rfl), He.noat_ok (c.fact 91 (f := .noat "Target" "order") rfl), He.noat_ok (c.fact 92 (f := .noat "Target" "exponent") rfl), He.noat_ok (c.fact 93 (f := .noat "Target" "zero") rfl), He.cls_ok (c.fact 68 (f := .cls "GroupMap") rfl), He.noat_ok (c.fact 94 (f := .noat "GroupMap" "group") rfl), He.noat_ok (c.fact 95 (f := .noat "GroupMap" "target") rfl), He.noat_ok (c.fact 96 (f := .noat "GroupMap" "images") rfl), He.eqO_ok (exAt x 3 rfl), of_decide_eq_true (exAt x 4 rfl), He.eqO_ok (exAt x 5 rfl), of_decide_eq_true (exAt x 6 rfl), g_GroupMap⟩
  have T4 : Txt4 K mg := ⟨g_Group, g_Target, He.eqO_ok (exAt x 7 rfl), He.eqO_ok (exAt x 8 rfl), He.eqO_ok (exAt x 0 rfl), of_decide_eq_true (exAt x 1 rfl), of_decide_eq_true (exAt x 4 rfl), of_decide_eq_true (exAt x 6 rfl), of_decide_eq_true (exAt x 9 rfl), of_decide_eq_true (exAt x 10 rfl), of_decide_eq_true (exAt x 11 rfl), of_decide_eq_true (exAt x 12 rfl), exAt x 13 rfl, exAt x 14 rfl⟩
  have T6 : Txt6 K := ⟨He.eqO_ok (exAt x 15 rfl), of_decide_eq_true (exAt x 16 rfl), of_decide_eq_true (exAt x 17 rfl)⟩
  have T7 : Txt7 K := ⟨He.eqO_ok (exAt x 18 rfl), exSome (exAt x 19 rfl), exSome (exAt x 20 rfl), of_decide_eq_true (exAt x 21 rfl)⟩
  have e := hfa.symm.trans g_law
  cases e
  have b := FunD.bindsA (ps := ["script"]) F_law fun _ _ _ _ _ _ us hl => match us, hl with | [_], _ => rfl
  refine ⟨fd_law, fun s v => b s [v] rfl, fun base _ _ => ?_⟩
  have m_Group___eq__ := He.meth_ok (c.fact 0 (f := .meth "Group" "__eq__") rfl)
  have M_Group_eq : EqOk P w K mg base CX0 (gC K) _ ["self", "other"] (sp_eq K) := ⟨⟨_, _, m_Group___eq__.at_, m_Group___eq__.fn, ok_eq F_Group___eq__ T T4, b_Group___eq__⟩⟩
  have M_require : MOk P w K mg base (L2.CX P w) (He.ga K "Group") "require" _ _ _ := ⟨He.cls_ok (c.fact 64 (f := .cls "Group") rfl), ⟨_, _, He.meth_ok (c.fact 1 (f := .meth "Group" "require") rfl), ok_req F_Group_require T, b_Group_require⟩⟩
  have D__has_shape : DOk P w K mg base CX0 "_has_shape" _ _ _ := ⟨⟨_, _, ok_shape F__has_shape T, g__has_shape, F__has_shape.kp, b__has_shape⟩⟩
  have D__has_identity : DOk P w K mg base CX0 "_has_identity" _ _ _ := ⟨⟨_, _, ok_idn F__has_identity T, g__has_identity, F__has_identity.kp, b__has_identity⟩⟩
  have D__has_inverses : DOk P w K mg base CX0 "_has_inverses" _ _ _ := ⟨⟨_, _, ok_invs F__has_inverses T, g__has_inverses, F__has_inverses.kp, b__has_inverses⟩⟩
  have D__is_associative : DOk P w K mg base CX0 "_is_associative" _ _ _ := ⟨⟨_, _, ok_asc F__is_associative T, g__is_associative, F__is_associative.kp, b__is_associative⟩⟩
  have D_Group : KOk P w K mg base (L2.CX P w) "Group" (He.ga K "Group") _ _ _ := ⟨⟨_, _, He.mkr_ok (c.fact 65 (f := .mkr "Group") rfl), ok_init F_Group___init__ T D__has_shape D__has_identity D__has_inverses D__is_associative, g_Group, b_Group___init__⟩⟩
  have D_shifted : DOk P w K mg base (L2.CX P w) "shifted" _ _ _ := ⟨⟨_, _, ok_shf F_shifted T M_require, g_shifted, F_shifted.kp, b_shifted⟩⟩
  have D_Target : KOk P w K mg base (L2.CX P w) "Target" (He.ga K "Target") _ _ _ := ⟨⟨_, _, He.mkr_ok (c.fact 67 (f := .mkr "Target") rfl), ok_tinit F_Target___init__ T, g_Target, b_Target___init__⟩⟩
  have m_Target___eq__ := He.meth_ok (c.fact 7 (f := .meth "Target" "__eq__") rfl)
  have M_Target_eq : EqOk P w K mg base CX0 (tC K) _ ["self", "other"] (sp_teq K) := ⟨⟨_, _, m_Target___eq__.at_, m_Target___eq__.fn, ok_teq F_Target___eq__ T T4, b_Target___eq__⟩⟩
  have M__require_same : MOk P w K mg base (L2.CX P w) (He.ga K "GroupMap") "_require_same" _ _ _ := ⟨He.cls_ok (c.fact 68 (f := .cls "GroupMap") rfl), ⟨_, _, He.meth_ok (c.fact 8 (f := .meth "GroupMap" "_require_same") rfl), ok_msame F_GroupMap__require_same T M_Group_eq M_Target_eq, b_GroupMap__require_same⟩⟩
  have M_is_value : MOk P w K mg base CX0 (He.ga K "Target") "is_value" _ _ _ := ⟨He.cls_ok (c.fact 66 (f := .cls "Target") rfl), ⟨_, _, He.meth_ok (c.fact 9 (f := .meth "Target" "is_value") rfl), ok_isv F_Target_is_value T, b_Target_is_value⟩⟩
  have D_GroupMap : KOk P w K mg base (L2.CX P w) "GroupMap" (He.ga K "GroupMap") _ _ _ := ⟨⟨_, _, He.mkr_ok (c.fact 69 (f := .mkr "GroupMap") rfl), ok_minit F_GroupMap___init__ T M_is_value, g_GroupMap, b_GroupMap___init__⟩⟩
  have M__arranged : MOk P w K mg base (L2.CX P w) (He.ga K "GroupMap") "_arranged" _ _ _ := ⟨He.cls_ok (c.fact 68 (f := .cls "GroupMap") rfl), ⟨_, _, He.meth_ok (c.fact 10 (f := .meth "GroupMap" "_arranged") rfl), ok_arr F_GroupMap__arranged T D_GroupMap, b_GroupMap__arranged⟩⟩
  have M_translated : MOk P w K mg base (L2.CX P w) (He.ga K "GroupMap") "translated" _ _ _ := ⟨He.cls_ok (c.fact 68 (f := .cls "GroupMap") rfl), ⟨_, _, He.meth_ok (c.fact 11 (f := .meth "GroupMap" "translated") rfl), ok_mtr F_GroupMap_translated T M_require M__arranged, b_GroupMap_translated⟩⟩
  have M_plus : MOk P w K mg base CX0 (He.ga K "Target") "plus" _ _ _ := ⟨He.cls_ok (c.fact 66 (f := .cls "Target") rfl), ⟨_, _, He.meth_ok (c.fact 12 (f := .meth "Target" "plus") rfl), ok_plus F_Target_plus T, b_Target_plus⟩⟩
  have m_GroupMap___add__ := He.meth_ok (c.fact 13 (f := .meth "GroupMap" "__add__") rfl)
  have M_GroupMap_add : BinOk P w K mg base (L2.CX P w) (He.ga K "GroupMap") "__add__" _ _ _ := ⟨⟨_, _, m_GroupMap___add__.at_, m_GroupMap___add__.fn, ok_madd F_GroupMap___add__ T M__require_same M_plus D_GroupMap, b_GroupMap___add__⟩, exAt x 22 rfl⟩
  have M_minus : MOk P w K mg base CX0 (He.ga K "Target") "minus" _ _ _ := ⟨He.cls_ok (c.fact 66 (f := .cls "Target") rfl), ⟨_, _, He.meth_ok (c.fact 14 (f := .meth "Target" "minus") rfl), ok_minus F_Target_minus T, b_Target_minus⟩⟩
  have m_GroupMap___sub__ := He.meth_ok (c.fact 15 (f := .meth "GroupMap" "__sub__") rfl)
  have M_GroupMap_sub : BinOk P w K mg base (L2.CX P w) (He.ga K "GroupMap") "__sub__" _ _ _ := ⟨⟨_, _, m_GroupMap___sub__.at_, m_GroupMap___sub__.fn, ok_msub F_GroupMap___sub__ T M__require_same M_minus D_GroupMap, b_GroupMap___sub__⟩, exAt x 22 rfl⟩
  have M_step : MOk P w K mg base (L2.CX P w) (He.ga K "GroupMap") "step" _ _ _ := ⟨He.cls_ok (c.fact 68 (f := .cls "GroupMap") rfl), ⟨_, _, He.meth_ok (c.fact 16 (f := .meth "GroupMap" "step") rfl), ok_mst F_GroupMap_step T M_require M__arranged M_GroupMap_sub, b_GroupMap_step⟩⟩
  have M_left_step : MOk P w K mg base (L2.CX P w) (He.ga K "GroupMap") "left_step" _ _ _ := ⟨He.cls_ok (c.fact 68 (f := .cls "GroupMap") rfl), ⟨_, _, He.meth_ok (c.fact 17 (f := .meth "GroupMap" "left_step") rfl), ok_mls F_GroupMap_left_step T M_translated M_GroupMap_sub, b_GroupMap_left_step⟩⟩
  have M_times : MOk P w K mg base CX0 (He.ga K "Target") "times" _ _ _ := ⟨He.cls_ok (c.fact 66 (f := .cls "Target") rfl), ⟨_, _, He.meth_ok (c.fact 18 (f := .meth "Target" "times") rfl), ok_times F_Target_times T, b_Target_times⟩⟩
  have m_GroupMap___mul__ := He.meth_ok (c.fact 19 (f := .meth "GroupMap" "__mul__") rfl)
  have M_GroupMap_mul : BinOk P w K mg base (L2.CX P w) (He.ga K "GroupMap") "__mul__" _ _ _ := ⟨⟨_, _, m_GroupMap___mul__.at_, m_GroupMap___mul__.fn, ok_mmul F_GroupMap___mul__ T M_times D_GroupMap, b_GroupMap___mul__⟩, exAt x 22 rfl⟩
  have M_evaluate : MOk P w K mg base (L2.CX P w) (He.ga K "GroupMap") "evaluate" _ _ _ := ⟨He.cls_ok (c.fact 68 (f := .cls "GroupMap") rfl), ⟨_, _, He.meth_ok (c.fact 20 (f := .meth "GroupMap" "evaluate") rfl), ok_mev F_GroupMap_evaluate T M_plus M_times, b_GroupMap_evaluate⟩⟩
  have D__law_bag : DOk P w K mg base CX0 "_law_bag" _ _ _ := ⟨⟨_, _, ok_bag F__law_bag T, g__law_bag, F__law_bag.kp, b__law_bag⟩⟩
  have D__law_take : DOk P w K mg base CX0 "_law_take" _ _ _ := ⟨⟨_, _, ok_take F__law_take T, g__law_take, F__law_take.kp, b__law_take⟩⟩
  have D__law_power : DOk P w K mg base CX0 "_law_power" _ _ _ := ⟨⟨_, _, ok_power F__law_power T, g__law_power, F__law_power.kp, b__law_power⟩⟩
  have D__law_metacyclic : DOk P w K mg base CX0 "_law_metacyclic" _ _ _ := ⟨⟨_, _, ok_meta F__law_metacyclic T D__law_take D__law_power, g__law_metacyclic, F__law_metacyclic.kp, b__law_metacyclic⟩⟩
  have D__law_permutations : DOk P w K mg base CX0 "_law_permutations" _ _ _ := ⟨⟨_, _, ok_perm F__law_permutations T D__law_take, g__law_permutations, F__law_permutations.kp, b__law_permutations⟩⟩
  have D__law_renamed : DOk P w K mg base CX0 "_law_renamed" _ _ _ := ⟨⟨_, _, ok_ren F__law_renamed T D__law_take, g__law_renamed, F__law_renamed.kp, b__law_renamed⟩⟩
  have D__law_table : DOk P w K mg base CX0 "_law_table" _ _ _ := ⟨⟨_, _, ok_table F__law_table T D__law_take D__law_metacyclic D__law_permutations D__law_renamed, g__law_table, F__law_table.kp, b__law_table⟩⟩
  have D__law_moduli : DOk P w K mg base CX0 "_law_moduli" _ _ _ := ⟨⟨_, _, ok_moduli F__law_moduli T D__law_take, g__law_moduli, F__law_moduli.kp, b__law_moduli⟩⟩
  have D__law_images : DOk P w K mg base CX0 "_law_images" _ _ _ := ⟨⟨_, _, ok_images F__law_images T D__law_take, g__law_images, F__law_images.kp, b__law_images⟩⟩
  have D__law_at : DOk P w K mg base CX0 "_law_at" _ _ _ := ⟨⟨_, _, ok_at F__law_at T, g__law_at, F__law_at.kp, b__law_at⟩⟩
  have D__law_is_integer : DOk P w K mg base CX0 "_law_is_integer" _ _ _ := ⟨⟨_, _, ok_isint F__law_is_integer T, g__law_is_integer, F__law_is_integer.kp, b__law_is_integer⟩⟩
  have S0 : DOk P w K mg base CX0 "_law_same" 1 ["told", "due"] (sp_same 0) := ⟨⟨_, _, Rd.fnFalse, g__law_same, F__law_same.kp, b__law_same⟩⟩
  have S1 : DOk P w K mg base CX0 "_law_same" 2 ["told", "due"] (sp_same 1) := ⟨⟨_, _, ok_same 0 F__law_same T D__law_is_integer S0, g__law_same, F__law_same.kp, b__law_same⟩⟩
  have S2 : DOk P w K mg base CX0 "_law_same" 3 ["told", "due"] (sp_same 2) := ⟨⟨_, _, ok_same 1 F__law_same T D__law_is_integer S1, g__law_same, F__law_same.kp, b__law_same⟩⟩
  have D__law_same : DOk P w K mg base CX0 "_law_same" 4 ["told", "due"] (sp_same 3) := ⟨⟨_, _, ok_same 2 F__law_same T D__law_is_integer S2, g__law_same, F__law_same.kp, b__law_same⟩⟩
  have D__law_is_map : DOk P w K mg base CX0 "_law_is_map" _ _ _ := ⟨⟨_, _, ok_ismap F__law_is_map T T4 T6 M_Group_eq M_Target_eq D__law_is_integer, g__law_is_map, F__law_is_map.kp, b__law_is_map⟩⟩
  have D__law_integer : DOk P w K mg base CX0 "_law_integer" _ _ _ := ⟨⟨_, _, ok_integer F__law_integer T D__law_take, g__law_integer, F__law_integer.kp, b__law_integer⟩⟩
  have D__law_moved_sum : DOk P w K mg base CX0 "_law_moved_sum" _ _ _ := ⟨⟨_, _, ok_msum F__law_moved_sum T, g__law_moved_sum, F__law_moved_sum.kp, b__law_moved_sum⟩⟩
  have D__law_moved : DOk P w K mg base CX0 "_law_moved" _ _ _ := ⟨⟨_, _, ok_lmoved F__law_moved T, g__law_moved, F__law_moved.kp, b__law_moved⟩⟩
  have D__law_ask : DOk P w K mg base CX0 "_law_ask" _ _ _ := ⟨⟨_, _, ok_ask F__law_ask T M_step M_left_step M_translated, g__law_ask, F__law_ask.kp, b__law_ask⟩⟩
  have D__law_has : DOk P w K mg base CX0 "_law_has" _ _ _ := ⟨⟨_, _, ok_has F__law_has T D__law_is_map, g__law_has, F__law_has.kp, b__law_has⟩⟩
  have D__law_valued : DOk P w K mg base CX0 "_law_valued" _ _ _ := ⟨⟨_, _, ok_valued F__law_valued T M_evaluate D__law_same, g__law_valued, F__law_valued.kp, b__law_valued⟩⟩
  have D__law_once : DOk P w K mg base CX0 "_law_once" _ _ _ := ⟨⟨_, _, ok_once F__law_once T D_shifted D__law_same D__law_moved_sum D__law_at D__law_valued M_step D__law_ask D__law_has D__law_moved, g__law_once, F__law_once.kp, b__law_once⟩⟩
  have D__law_twice : DOk P w K mg base CX0 "_law_twice" _ _ _ := ⟨⟨_, _, ok_twice F__law_twice T D__law_moved D__law_has M_step M_left_step M_translated M_GroupMap_add, g__law_twice, F__law_twice.kp, b__law_twice⟩⟩
  have D__law_along : DOk P w K mg base CX0 "_law_along" _ _ _ := ⟨⟨_, _, ok_along F__law_along T D__law_take D__law_ask D__law_moved D__law_moved_sum D__law_at D__law_has D__law_valued, g__law_along, F__law_along.kp, b__law_along⟩⟩
  have D__law_added : DOk P w K mg base CX0 "_law_added" _ _ _ := ⟨⟨_, _, ok_added F__law_added T T7 D__law_integer D__law_at D__law_valued D__law_same M_GroupMap_add M_GroupMap_sub M_GroupMap_mul M_plus M_evaluate, g__law_added, F__law_added.kp, b__law_added⟩⟩
  exact ok_law F_law T T4 D__law_bag D__law_take D__law_table D__law_moduli D__law_images D__law_integer D_Group D_Target D_GroupMap D__law_once D__law_twice D__law_along D__law_added D__law_valued D__law_has
end K08

set_option Elab.async false
set_option linter.all false
namespace K08
open PySem PySem.Spec PyProof.Rows L2 Rd
set_option maxRecDepth 100000
set_option maxHeartbeats 0
end K08
open PySem PySem.W PySem.Calls PyProof.Rows
set_option maxRecDepth 100000 in
set_option maxHeartbeats 0 in
theorem PySem.Challenge.cw_stepsvanish_k08_values_move_with_differe_holds : PySem.Challenge.rw_stepsvanish_k08_values_move_with_differe.Holds := by
  w_on; o_law
  refine HandSHeadRun.head_imp (r := OpenLaw.row PySem.Challenge.rw_stepsvanish_k08_values_move_with_differe) (q := view (OpenLaw.row PySem.Challenge.rw_stepsvanish_k08_values_move_with_differe).prog [0, 48]) (H := K08.hkL) (ob := K08.obL) (M := 20000) (loose := K08.looseL) (d := HandSHeadRun.topDef (OpenLaw.row PySem.Challenge.rw_stepsvanish_k08_values_move_with_differe).prog 48) (kwd := []) K08.obL_eq
    K08.runL (by kernel_rfl) (by kernel_rfl) (by kernel_rfl) (by rfl) (by first | assumption | decide +kernel) (by decide +kernel) ⟨rfl, rfl, rfl, rfl, rfl, by decide +kernel⟩ ?hw ?hc
  case hw => w_witness2
  case hc =>
    refine L2.walk_ofE (l := PySem.Challenge.rw_stepsvanish_k08_values_move_with_differe) (n := 63) (k := 9) (x := "script") (CX := L2.CX0) rfl (by decide) (by kernel_rfl) ⟨rfl, by decide, by decide⟩ ?F (fun _ _ _ _ z => z)
    intro w mg fa h Y G hmg0
    obtain ⟨K, KX, c, x⟩ := Y
    have hmg : mg ("law" : PySem.Str) = some (.ref fa) := by
      have e : (HandSHeadRun.topDef (OpenLaw.row PySem.Challenge.rw_stepsvanish_k08_values_move_with_differe).prog 48).name = ("law" : PySem.Str) := by kernel_rfl
      rw [← e]
      exact hmg0
    obtain ⟨fd, hb, hF⟩ := K08.factsL (P := (PySem.Challenge.rw_stepsvanish_k08_values_move_with_differe).prog) (w := w) KX G hmg c x
    exact ⟨K, fd, K08.sp_law K, KX, hb, fun H a ns hl _ hS => ⟨a, ns, rfl, hS, hl, fun _ => rfl⟩, hF⟩
