import PyProof.Rows.All
import Wide.All
import OpenK.AllK
import Wide.FinOn
import HandS.Nested
import HandS.HeadWalk
import HandS.Head0
import HandS.Head1
import HandS.Head2
import HandS.HeadHook4
import HandS.ForMost
import HandS.HeadHook1
import HandS.ExcInit
import HandS.ExcValue
import HandS.TupAny
import HandS.TupMul
import HandS.Wide
import HandS.WideBits
import HandS.IsInst
import HandS.Conv
import HandS.Style
import HandS.Defaults
import HandS.Zip
import KE.GoesMore
import KE.GoesEnum
import HandS.SortInts
import HandS.Star
import HandS.Flow
import HandS.SetFor
import HandS.More
import HandS.RevTup
import PyProof.AutoSeq1
import HandS.List
import HandS.Call
import PyProof.EqAt
import PyProof.EqKinds
import PyProof.NeKinds
import KE.KUnpackStar
import KE.GoesZip
import KE.KStateDown
import HandS.HeadEnd
import HandS.HeadHook2
import HandS.HeadHook3
import HandS.DictComp
import HandS.Exc
import HandS.ExcOwn
import HandS.WordsExc
import HandS.TryOnly
import HandS.Lambda
import HandS.ExcField
import HandS.TryMany
import HandS.EndTab
import PyProof.ReprRoads
import HandS.ExcIs
import KE.KExcIs
import HandS.Strs
import HandS.Rev
import HandS.TupSets
import PySem.Challenge.RW_formstead_k01_errors_each_of_its_own
set_option Elab.async false
set_option maxRecDepth 100000
set_option maxHeartbeats 4000000
set_option linter.all false
namespace Py
open PySem PySem.Spec PyProof.Rows L2
inductive PV where
  | non | bl (b : Bool) | int (i : Int) | str (x : Str)
  | tup (xs : List PV) | lst (xs : List PV) | frl (xs : List PV) | dic (ks : List Key) (vs : List PV) | ref (n : Nat)
  | adr (a : Nat) | clo (i : Nat) (ps : List PV)
  /-- an error of a class of the program's own: its class's name; its one field and what stands in it, where it bears one -/
  | err (c : Str) (ps : List PV)
  deriving Inhabited
def ueM : List Value := [.type "ValueError", .type "Exception", .type "BaseException", .type "object"]
def boolB (o : Option Bool) : Bool := match o with
  | some b => b
  | none => false
def typB (o : Option Value) : Bool := match o with
  | some (.type t) => decide (t = "type")
  | _ => false
def errB (K : PySem.W.Frag) (c : Str) : Bool := PySem.W.keepIn K (.ref (He.ga K c)) && (PySem.W.excIn K (He.ga K c) ueM "ValueError.__new__" && (boolB (PySem.W.subIn K (.ref (He.ga K c)) (.type "BaseException")) && (typB (PySem.W.typeIn K (.ref (He.ga K c))) && boolB (PySem.W.exmOne K (.ref (He.ga K c)) (.ref (He.ga K c))))))
def oexB (K : PySem.W.Frag) (C : Addr) : Bool := match K.lookup C with
  | some ⟨.type t, _, .cls cd, sl⟩ => (match cd.mro, sl.toList with
    | .ref D :: bm, [_, _, _, _, some (.builtin n), _] => decide (t = "type") && (decide (D = C) && (decide (n = "ValueError.__new__") && (cd.hasDict && (!cd.hasDel && PySem.HandSPX.refsVE bm))))
    | _, _ => false)
  | _ => false
def fnB (o : Option Value) : Bool := match o with
  | some (.type t) => decide (t = "function")
  | _ => false
def errFB (K : PySem.W.Frag) (c f : Str) : Bool := oexB K (He.ga K c) && (He.eqO (PySem.W.findIn K (.ref (He.ga K c)) "__setattr__") (some (some (.builtin "object.__setattr__"))) && (boolB (PySem.W.subIn K (.ref (He.ga K c)) (.type "BaseException")) && (typB (PySem.W.typeIn K (.ref (He.ga K c))) && (PySem.W.keepIn K (.ref (He.ga K c)) &&
  (He.eqO (PySem.W.findIn K (.ref (He.ga K c)) f) (some none) && (xfB K (He.ga K c) && (boolB (PySem.W.exmOne K (.ref (He.ga K c)) (.ref (He.ga K c))) && (He.eqO (PySem.W.findIn K (.ref (He.ga K c)) "__init__") (some (some (.ref (He.ma K (He.ga K c) "__init__")))) && fnB (PySem.W.typeIn K (.ref (He.ma K (He.ga K c) "__init__")))))))))))
def excCB (K : PySem.W.Frag) (D : Addr) : Bool := He.eqO (PySem.W.findIn K (.ref D) "__getattribute__") (some (some (.builtin "BaseException.__getattribute__"))) && (He.eqO (PySem.W.findIn K (.ref D) "__getattr__") (some none) && (boolB (PySem.W.subIn K (.ref D) (.type "BaseException")) && (PySem.W.hasDictIn K D &&
  (He.eqO (PySem.W.findIn K (.ref D) "__class__") (some (some (.builtin "object.__class__"))) && (He.eqO (PySem.W.specialIn K (.builtin "object.__class__") "__get__") (some (some (.builtin "getset_descriptor.__get__"))) && (boolB (PySem.W.takesIn K (.builtin "object.__class__")) && boolB (PySem.W.mroIn K D (.type "object"))))))))
def sysB (K : PySem.W.Frag) : Bool := (K.lookup sysModules).isSome
def excsB (K : PySem.W.Frag) (cs : List Str) : Bool := cs.all fun c => excCB K (He.ga K c)
def fldsB (K : PySem.W.Frag) (cs : List Str) (f : Str) : Bool := cs.all fun c => xfB K (He.ga K c) && He.eqO (PySem.W.findIn K (.ref (He.ga K c)) f) (some none)
def kitsB (K : PySem.W.Frag) (cs : List Str) (cv : Value) (sup : Str → Bool) : Bool := cs.all fun c => decide (PySem.W.kitOne K (.ref (He.ga K c)) cv = some (sup c))
abbrev OwnL := List (He.Defn × (Nat → Nat → Str))
def tabsOf (K : PySem.W.Frag) (own : OwnL) : List NdefX.NTab := own.map fun z => ((He.cT K z.1).2, z.2)
def ndOwn (K : PySem.W.Frag) (own : OwnL) : Bool := decide ((own.map fun z => (He.cT K z.1).2).Nodup)
end Py
set_option Elab.async false
set_option maxRecDepth 100000
set_option maxHeartbeats 4000000
set_option linter.all false
set_option Elab.async false
set_option maxRecDepth 100000
set_option maxHeartbeats 4000000
set_option linter.all false
namespace HeL
open PySem PySem.Spec PyProof.Rows L2 He
def obsL (as : List Addr) (fa : List Fa) (fn : List DefD) (ts : List Tab) (tf : List Defn) (ex : PySem.W.Frag → Bool) (g : Addr → Option Obj) : AlX := (obsT fa fn ts (frT g as), ex (frT g as) && tabsB g tf (frT g as))
theorem saysL_of {as : List Addr} {fa : List Fa} {fn : List DefD} {ts : List Tab} {tf : List Defn} {ex : PySem.W.Frag → Bool} {w : World} {h : Heap} (e : obsL as fa fn ts tf ex h.get? = valX fn ts w) : SaysX fa fn ts tf ex w h (frT h.get? as) := by
  have e1 : obsT fa fn ts (frT h.get? as) = valT fn ts w := congrArg (fun z : AlX => z.1) e
  obtain ⟨h1, h2⟩ := ba (congrArg (fun z : AlX => z.2) e : (ex (frT h.get? as) && tabsB h.get? tf (frT h.get? as)) = true)
  have key : ∀ p ∈ tf, PySem.W.codeHdIn (frT h.get? as) (cT (frT h.get? as) p).1 (cT (frT h.get? as) p).2 = true ∧ ∃ o, h.get? (cT (frT h.get? as) p).2 = some o ∧ emptyTab o = true := fun p hp => by
    have h34 : (PySem.W.codeHdIn (frT h.get? as) (cT (frT h.get? as) p).1 (cT (frT h.get? as) p).2 && (match h.get? (cT (frT h.get? as) p).2 with
      | some o => emptyTab o
      | none => false)) = true := List.all_eq_true.mp h2 p hp
    obtain ⟨h3, h4⟩ := ba h34
    cases q : h.get? (cT (frT h.get? as) p).2 with
    | none => rw [q] at h4; cases h4
    | some o => rw [q] at h4; exact ⟨h3, o, rfl, h4⟩
  exact ⟨e1, h1, fun p hp => (key p hp).1, fun p hp => by
    obtain ⟨_, o, q, z⟩ := key p hp
    exact frT_none q z, fun p hp => by
    obtain ⟨_, o, q, z⟩ := key p hp
    rw [q, emptyTab_eq z]⟩
def hookL (as : List Addr) (fa : List Fa) (fn : List DefD) (ts : List Tab) (tf : List Defn) (ex : PySem.W.Frag → Bool) : PySem.W.Hook where
  α := AlX
  obs := fun s => obsL as fa fn ts tf ex s.heap.get?
  val := fun w => valX fn ts w
  says := fun w h => ∃ K : PySem.W.Frag, K.In h ∧ SaysX fa fn ts tf ex w h K
  of := fun _ _ e => ⟨_, frT_in, saysL_of e⟩
  keeps := fun _ _ _ ⟨K, hK, c⟩ k => ⟨K, PySem.W.Frag.In.keeps hK k, ⟨c.t, c.more, c.hd, c.out, fun p hp => k _ _ (c.empty p hp)⟩⟩
theorem obsL_eq {as : List Addr} {fa : List Fa} {fn : List DefD} {ts : List Tab} {tf : List Defn} {ex : PySem.W.Frag → Bool} {g : Addr → Option Obj} {s : Shared} (h : ∀ a, g a = s.heap.get? a) : obsL as fa fn ts tf ex g = (hookL as fa fn ts tf ex).obs s := by
  have e : g = s.heap.get? := funext h
  subst e
  rfl
end HeL
set_option Elab.async false
set_option maxRecDepth 100000
set_option maxHeartbeats 4000000
set_option linter.all false
namespace G01
open PySem PySem.Spec PyProof.Rows L2 Py
def top (i : Nat) : Stmt := PySem.Challenge.pw_formstead_k01_errors_each_of_its_own.main.body.getD i (.Pass ⟨0, 0, 0, 0⟩)
abbrev s_init_InvalidText : Stmt := (C8.clsBody (top 2)).getD 0 (.Pass ⟨0, 0, 0, 0⟩)
abbrev s_init_InvalidTerm : Stmt := (C8.clsBody (top 3)).getD 0 (.Pass ⟨0, 0, 0, 0⟩)
abbrev s_init_InvalidSource : Stmt := (C8.clsBody (top 4)).getD 0 (.Pass ⟨0, 0, 0, 0⟩)
abbrev s_init_InvalidProgram : Stmt := (C8.clsBody (top 5)).getD 0 (.Pass ⟨0, 0, 0, 0⟩)
abbrev s_init_InvalidNumber : Stmt := (C8.clsBody (top 6)).getD 0 (.Pass ⟨0, 0, 0, 0⟩)
abbrev s_init_InvalidName : Stmt := (C8.clsBody (top 7)).getD 0 (.Pass ⟨0, 0, 0, 0⟩)
abbrev s_init_InvalidPlace : Stmt := (C8.clsBody (top 8)).getD 0 (.Pass ⟨0, 0, 0, 0⟩)
abbrev s_init_InvalidRows : Stmt := (C8.clsBody (top 9)).getD 0 (.Pass ⟨0, 0, 0, 0⟩)
abbrev s_init_InvalidSizes : Stmt := (C8.clsBody (top 10)).getD 0 (.Pass ⟨0, 0, 0, 0⟩)
abbrev s_init_InvalidBook : Stmt := (C8.clsBody (top 11)).getD 0 (.Pass ⟨0, 0, 0, 0⟩)
abbrev s_init_InvalidParts : Stmt := (C8.clsBody (top 12)).getD 0 (.Pass ⟨0, 0, 0, 0⟩)
abbrev s_init_InvalidWays : Stmt := (C8.clsBody (top 13)).getD 0 (.Pass ⟨0, 0, 0, 0⟩)
abbrev s_init_InvalidNames : Stmt := (C8.clsBody (top 14)).getD 0 (.Pass ⟨0, 0, 0, 0⟩)
abbrev s_init_InvalidMemory : Stmt := (C8.clsBody (top 15)).getD 0 (.Pass ⟨0, 0, 0, 0⟩)
abbrev s_init_InvalidDevice : Stmt := (C8.clsBody (top 16)).getD 0 (.Pass ⟨0, 0, 0, 0⟩)
abbrev s_init_InvalidWrites : Stmt := (C8.clsBody (top 17)).getD 0 (.Pass ⟨0, 0, 0, 0⟩)
abbrev s_init_NoValue : Stmt := (C8.clsBody (top 18)).getD 0 (.Pass ⟨0, 0, 0, 0⟩)
abbrev s_init_BadRows : Stmt := (C8.clsBody (top 19)).getD 0 (.Pass ⟨0, 0, 0, 0⟩)
def csE : List Str := ["FormError", "InvalidText", "InvalidTerm", "InvalidSource", "InvalidProgram", "InvalidNumber", "InvalidName", "InvalidPlace", "InvalidRows", "InvalidSizes", "InvalidBook", "InvalidParts", "InvalidWays", "InvalidNames", "InvalidMemory", "InvalidDevice", "InvalidWrites", "NoValue", "BadRows", "Captured", "TooGreat", "NoRoom", "DoesNotStand", "NotNow", "NotMended", "NotThere"]
def cs_given : List Str := ["InvalidTerm", "InvalidSource", "InvalidProgram", "InvalidNumber", "InvalidName", "InvalidPlace", "InvalidRows", "InvalidSizes"]
def cs_index : List Str := ["InvalidBook", "InvalidParts", "InvalidWays", "InvalidNames", "InvalidMemory", "InvalidDevice", "InvalidWrites", "NoValue", "BadRows"]
def cs_place : List Str := ["InvalidText"]
abbrev s__law_draw : Stmt := top 29
abbrev s__law_pick : Stmt := top 30
abbrev s__law_odd : Stmt := top 35
abbrev s__law_is_whole : Stmt := top 34
abbrev s__law_bent : Stmt := top 36
abbrev s__law_names : Stmt := top 31
abbrev s__law_number : Stmt := top 32
abbrev s__law_tree : Stmt := top 33
abbrev s__law_by_place : Stmt := top 37
abbrev s__law_further : Stmt := top 38
abbrev s__law_truths : Stmt := top 40
abbrev s__law_is_made : Stmt := top 41
abbrev s__law_by_name : Stmt := top 39
abbrev s__law_right : Stmt := top 42
abbrev s__law_well : Stmt := top 28
abbrev s_law : Stmt := top 43
namespace Head
def fn : List He.DefD := [⟨("_law_draw", none), "_law_draw", "_law_draw", defArgs s__law_draw, defBody s__law_draw, defScope s__law_draw, [], []⟩, ⟨("_law_pick", none), "_law_pick", "_law_pick", defArgs s__law_pick, defBody s__law_pick, defScope s__law_pick, [], []⟩, ⟨("_law_odd", none), "_law_odd", "_law_odd", defArgs s__law_odd, defBody s__law_odd, defScope s__law_odd, [], []⟩, ⟨("_law_is_whole", none), "_law_is_whole", "_law_is_whole", defArgs s__law_is_whole, defBody s__law_is_whole, defScope s__law_is_whole, [], []⟩, ⟨("_law_bent", none), "_law_bent", "_law_bent", defArgs s__law_bent, defBody s__law_bent, defScope s__law_bent, [], []⟩, ⟨("_law_names", none), "_law_names", "_law_names", defArgs s__law_names, defBody s__law_names, defScope s__law_names, [], []⟩, ⟨("_law_number", none), "_law_number", "_law_number", defArgs s__law_number, defBody s__law_number, defScope s__law_number, [], []⟩, ⟨("_law_tree", none), "_law_tree", "_law_tree", defArgs s__law_tree, defBody s__law_tree, defScope s__law_tree, [], []⟩, ⟨("_law_by_place", none), "_law_by_place", "_law_by_place", defArgs s__law_by_place, defBody s__law_by_place, defScope s__law_by_place, [], []⟩, ⟨("_law_further", none), "_law_further", "_law_further", defArgs s__law_further, defBody s__law_further, defScope s__law_further, [], []⟩, ⟨("_law_truths", none), "_law_truths", "_law_truths", defArgs s__law_truths, defBody s__law_truths, defScope s__law_truths, [], []⟩, ⟨("_law_is_made", none), "_law_is_made", "_law_is_made", defArgs s__law_is_made, defBody s__law_is_made, defScope s__law_is_made, [], []⟩, ⟨("_law_by_name", none), "_law_by_name", "_law_by_name", defArgs s__law_by_name, defBody s__law_by_name, defScope s__law_by_name, [], []⟩, ⟨("_law_right", none), "_law_right", "_law_right", defArgs s__law_right, defBody s__law_right, defScope s__law_right, [], []⟩, ⟨("_law_well", none), "_law_well", "_law_well", defArgs s__law_well, defBody s__law_well, defScope s__law_well, [], []⟩, ⟨("law", none), "law", "law", defArgs s_law, defBody s_law, defScope s_law, [], []⟩, ⟨("InvalidText", some "__init__"), "__init__", "InvalidText.__init__", defArgs s_init_InvalidText, defBody s_init_InvalidText, defScope s_init_InvalidText, [], []⟩, ⟨("InvalidTerm", some "__init__"), "__init__", "InvalidTerm.__init__", defArgs s_init_InvalidTerm, defBody s_init_InvalidTerm, defScope s_init_InvalidTerm, [], []⟩, ⟨("InvalidSource", some "__init__"), "__init__", "InvalidSource.__init__", defArgs s_init_InvalidSource, defBody s_init_InvalidSource, defScope s_init_InvalidSource, [], []⟩, ⟨("InvalidProgram", some "__init__"), "__init__", "InvalidProgram.__init__", defArgs s_init_InvalidProgram, defBody s_init_InvalidProgram, defScope s_init_InvalidProgram, [], []⟩, ⟨("InvalidNumber", some "__init__"), "__init__", "InvalidNumber.__init__", defArgs s_init_InvalidNumber, defBody s_init_InvalidNumber, defScope s_init_InvalidNumber, [], []⟩, ⟨("InvalidName", some "__init__"), "__init__", "InvalidName.__init__", defArgs s_init_InvalidName, defBody s_init_InvalidName, defScope s_init_InvalidName, [], []⟩, ⟨("InvalidPlace", some "__init__"), "__init__", "InvalidPlace.__init__", defArgs s_init_InvalidPlace, defBody s_init_InvalidPlace, defScope s_init_InvalidPlace, [], []⟩, ⟨("InvalidRows", some "__init__"), "__init__", "InvalidRows.__init__", defArgs s_init_InvalidRows, defBody s_init_InvalidRows, defScope s_init_InvalidRows, [], []⟩, ⟨("InvalidSizes", some "__init__"), "__init__", "InvalidSizes.__init__", defArgs s_init_InvalidSizes, defBody s_init_InvalidSizes, defScope s_init_InvalidSizes, [], []⟩, ⟨("InvalidBook", some "__init__"), "__init__", "InvalidBook.__init__", defArgs s_init_InvalidBook, defBody s_init_InvalidBook, defScope s_init_InvalidBook, [], []⟩, ⟨("InvalidParts", some "__init__"), "__init__", "InvalidParts.__init__", defArgs s_init_InvalidParts, defBody s_init_InvalidParts, defScope s_init_InvalidParts, [], []⟩, ⟨("InvalidWays", some "__init__"), "__init__", "InvalidWays.__init__", defArgs s_init_InvalidWays, defBody s_init_InvalidWays, defScope s_init_InvalidWays, [], []⟩, ⟨("InvalidNames", some "__init__"), "__init__", "InvalidNames.__init__", defArgs s_init_InvalidNames, defBody s_init_InvalidNames, defScope s_init_InvalidNames, [], []⟩, ⟨("InvalidMemory", some "__init__"), "__init__", "InvalidMemory.__init__", defArgs s_init_InvalidMemory, defBody s_init_InvalidMemory, defScope s_init_InvalidMemory, [], []⟩, ⟨("InvalidDevice", some "__init__"), "__init__", "InvalidDevice.__init__", defArgs s_init_InvalidDevice, defBody s_init_InvalidDevice, defScope s_init_InvalidDevice, [], []⟩, ⟨("InvalidWrites", some "__init__"), "__init__", "InvalidWrites.__init__", defArgs s_init_InvalidWrites, defBody s_init_InvalidWrites, defScope s_init_InvalidWrites, [], []⟩, ⟨("NoValue", some "__init__"), "__init__", "NoValue.__init__", defArgs s_init_NoValue, defBody s_init_NoValue, defScope s_init_NoValue, [], []⟩, ⟨("BadRows", some "__init__"), "__init__", "BadRows.__init__", defArgs s_init_BadRows, defBody s_init_BadRows, defScope s_init_BadRows, [], []⟩]
def fa : List He.Fa := [.glo "_law_draw", .glo "_law_pick", .glo "_law_odd", .glo "_law_is_whole", .glo "_law_bent", .glo "_law_names", .glo "_law_number", .glo "_law_tree", .glo "_law_by_place", .glo "_law_further", .glo "_law_truths", .glo "_law_is_made", .glo "_law_by_name", .glo "_law_right", .glo "_law_well", .glo "law", .free "ArithmeticError", .free "AttributeError", .free "Exception", .free "LookupError", .free "RuntimeError", .free "TypeError", .free "ValueError", .free "abs", .free "all", .free "bool", .free "divmod", .free "int", .free "isinstance", .free "len", .free "list", .free "max", .free "min", .free "range", .free "repr", .free "str", .free "sum", .free "tuple", .glo "FormError", .glo "InvalidText", .glo "InvalidTerm", .glo "InvalidSource", .glo "InvalidProgram", .glo "InvalidNumber", .glo "InvalidName", .glo "InvalidPlace", .glo "InvalidRows", .glo "InvalidSizes", .glo "InvalidBook", .glo "InvalidParts", .glo "InvalidWays", .glo "InvalidNames", .glo "InvalidMemory", .glo "InvalidDevice", .glo "InvalidWrites", .glo "NoValue", .glo "BadRows", .glo "Captured", .glo "TooGreat", .glo "NoRoom", .glo "DoesNotStand", .glo "NotNow", .glo "NotMended", .glo "NotThere"]
def ts : List He.Tab := []
def own : OwnL := []
def tf : List He.Defn := own.map (·.1)
def ex (K : PySem.W.Frag) : Bool := ndOwn K own && errB K "FormError" && errFB K "InvalidText" "place" && errFB K "InvalidTerm" "given" && errFB K "InvalidSource" "given" && errFB K "InvalidProgram" "given" && errFB K "InvalidNumber" "given" && errFB K "InvalidName" "given" && errFB K "InvalidPlace" "given" && errFB K "InvalidRows" "given" && errFB K "InvalidSizes" "given" && errFB K "InvalidBook" "index" && errFB K "InvalidParts" "index" && errFB K "InvalidWays" "index" && errFB K "InvalidNames" "index" && errFB K "InvalidMemory" "index" && errFB K "InvalidDevice" "index" && errFB K "InvalidWrites" "index" && errFB K "NoValue" "index" && errFB K "BadRows" "index" && errB K "Captured" && errB K "TooGreat" && errB K "NoRoom" && errB K "DoesNotStand" && errB K "NotNow" && errB K "NotMended" && errB K "NotThere" && excsB K csE && fldsB K cs_given "given" && fldsB K cs_index "index" && fldsB K cs_place "place" && kitsB K csE (.ref (He.ga K "InvalidText")) (fun c : Str => decide (c = ("InvalidText" : Str))) && kitsB K csE (.ref (He.ga K "InvalidTerm")) (fun c : Str => decide (c = ("InvalidTerm" : Str))) && kitsB K csE (.ref (He.ga K "InvalidSource")) (fun c : Str => decide (c = ("InvalidSource" : Str))) && kitsB K csE (.ref (He.ga K "InvalidProgram")) (fun c : Str => decide (c = ("InvalidProgram" : Str))) && kitsB K csE (.ref (He.ga K "InvalidNumber")) (fun c : Str => decide (c = ("InvalidNumber" : Str))) && kitsB K csE (.ref (He.ga K "InvalidName")) (fun c : Str => decide (c = ("InvalidName" : Str))) && kitsB K csE (.ref (He.ga K "InvalidPlace")) (fun c : Str => decide (c = ("InvalidPlace" : Str))) && kitsB K csE (.ref (He.ga K "InvalidRows")) (fun c : Str => decide (c = ("InvalidRows" : Str))) && kitsB K csE (.ref (He.ga K "InvalidSizes")) (fun c : Str => decide (c = ("InvalidSizes" : Str))) && kitsB K csE (.ref (He.ga K "InvalidBook")) (fun c : Str => decide (c = ("InvalidBook" : Str))) && kitsB K csE (.ref (He.ga K "InvalidParts")) (fun c : Str => decide (c = ("InvalidParts" : Str))) && kitsB K csE (.ref (He.ga K "InvalidWays")) (fun c : Str => decide (c = ("InvalidWays" : Str))) && kitsB K csE (.ref (He.ga K "InvalidNames")) (fun c : Str => decide (c = ("InvalidNames" : Str))) && kitsB K csE (.ref (He.ga K "InvalidMemory")) (fun c : Str => decide (c = ("InvalidMemory" : Str))) && kitsB K csE (.ref (He.ga K "InvalidDevice")) (fun c : Str => decide (c = ("InvalidDevice" : Str))) && kitsB K csE (.ref (He.ga K "InvalidWrites")) (fun c : Str => decide (c = ("InvalidWrites" : Str))) && kitsB K csE (.ref (He.ga K "NoValue")) (fun c : Str => decide (c = ("NoValue" : Str))) && kitsB K csE (.ref (He.ga K "BadRows")) (fun c : Str => decide (c = ("BadRows" : Str))) && kitsB K csE (.ref (He.ga K "Captured")) (fun c : Str => decide (c = ("Captured" : Str))) && kitsB K csE (.ref (He.ga K "TooGreat")) (fun c : Str => decide (c = ("TooGreat" : Str))) && kitsB K csE (.ref (He.ga K "NoRoom")) (fun c : Str => decide (c = ("NoRoom" : Str))) && kitsB K csE (.ref (He.ga K "DoesNotStand")) (fun c : Str => decide (c = ("DoesNotStand" : Str))) && kitsB K csE (.ref (He.ga K "NotNow")) (fun c : Str => decide (c = ("NotNow" : Str))) && kitsB K csE (.ref (He.ga K "NotMended")) (fun c : Str => decide (c = ("NotMended" : Str))) && kitsB K csE (.ref (He.ga K "NotThere")) (fun c : Str => decide (c = ("NotThere" : Str))) && kitsB K csE (.ref (He.ga K "FormError")) (fun _ : Str => true) && kitsB K csE (.type "ValueError") (fun _ : Str => true) && kitsB K csE (.type "Exception") (fun _ : Str => true) && kitsB K csE (.type "LookupError") (fun _ : Str => false) && kitsB K csE (.type "TypeError") (fun _ : Str => false) && kitsB K csE (.type "ArithmeticError") (fun _ : Str => false) && kitsB K csE (.type "RuntimeError") (fun _ : Str => false) && kitsB K csE (.type "AttributeError") (fun _ : Str => false) && sysB K
def as : List PySem.Addr := [1, 3, 6, 4, 24, 44, 63, 82, 101, 120, 139, 158, 177, 196, 215, 234, 253, 272, 291, 310, 329, 348, 367, 379, 391, 403, 415, 427, 439, 451, 460, 467, 474, 481, 488, 493, 500, 507, 514, 521, 528, 535, 542, 547, 552, 557, 0, 23, 43, 62, 81, 100, 119, 138, 157, 176, 195, 214, 233, 252, 271, 290, 309, 328, 347, 366, 378, 390, 402, 414, 426, 438, 450, 459, 466, 473, 480, 487, 492, 499, 506, 513, 520, 527, 534, 541, 546, 551, 556, 22, 25, 41, 42, 60, 61, 79, 80, 98, 99, 117, 118, 136, 137, 155, 156, 174, 175, 193, 194, 212, 213, 231, 232, 250, 251, 269, 270, 288, 289, 307, 308, 326, 327, 345, 346, 364, 365, 377, 389, 401, 413, 425, 437, 449, 454, 455, 456, 457, 458, 461, 462, 463, 464, 465, 468, 469, 470, 471, 472, 475, 476, 477, 478, 479, 482, 483, 484, 485, 486, 489, 490, 491, 494, 495, 496, 497, 498, 501, 502, 503, 504, 505, 508, 509, 510, 511, 512, 515, 516, 517, 518, 519, 522, 523, 524, 525, 526, 529, 530, 531, 532, 533, 536, 537, 538, 539, 540, 543, 544, 545, 548, 549, 550, 553, 554, 555, 40, 59, 78, 97, 116, 135, 154, 173, 192, 211, 230, 249, 268, 287, 306, 325, 344, 363, 35, 36, 37, 38, 39, 54, 55, 56, 57, 58, 73, 74, 75, 76, 77, 92, 93, 94, 95, 96, 111, 112, 113, 114, 115, 130, 131, 132, 133, 134, 149, 150, 151, 152, 153, 168, 169, 170, 171, 172, 187, 188, 189, 190, 191, 206, 207, 208, 209, 210, 225, 226, 227, 228, 229, 244, 245, 246, 247, 248, 263, 264, 265, 266, 267, 282, 283, 284, 285, 286, 301, 302, 303, 304, 305, 320, 321, 322, 323, 324, 339, 340, 341, 342, 343, 358, 359, 360, 361, 362]
abbrev hk : PySem.W.Hook := HeL.hookL as fa fn ts tf ex
def ob (s : PySem.W.SharedT) : He.AlX := HeL.obsL as fa fn ts tf ex (HandSHeadRun.getT s)
theorem ob_eq (s : PySem.W.SharedT) : ob s = hk.obs s.abs := HeL.obsL_eq (HandSHeadRun.getT_eq s)
end Head
abbrev R0 : PySem.W.OpenRow := PySem.W.OpenLaw.row PySem.Challenge.rw_formstead_k01_errors_each_of_its_own
def lse : List Str := (["__name__", "FormError", "InvalidText", "InvalidTerm", "InvalidSource", "InvalidProgram", "InvalidNumber", "InvalidName", "InvalidPlace", "InvalidRows", "InvalidSizes", "InvalidBook", "InvalidParts", "InvalidWays", "InvalidNames", "InvalidMemory", "InvalidDevice", "InvalidWrites", "NoValue", "BadRows", "Captured", "TooGreat", "NoRoom", "DoesNotStand", "NotNow", "NotMended", "NotThere", "_law_well", "_law_draw", "_law_pick"] : List Str) ++ (["_law_names", "_law_number", "_law_tree", "_law_is_whole", "_law_odd", "_law_bent", "_law_by_place", "_law_further", "_law_by_name", "_law_truths", "_law_is_made", "_law_right"] : List Str)
theorem run_f (w : World) : HandSHeadRun.RunEq R0 (PySem.W.view R0.prog [43]) Head.hk Head.ob 8000 lse (w.withFollow "special-get-raises" false) := by
  intro os
  kernel_rfl
theorem run_t (w : World) : HandSHeadRun.RunEq R0 (PySem.W.view R0.prog [43]) Head.hk Head.ob 8000 lse (w.withFollow "special-get-raises" true) := by
  intro os
  kernel_rfl
theorem run (w : World) : HandSHeadRun.RunEq R0 (PySem.W.view R0.prog [43]) Head.hk Head.ob 8000 lse w :=
  PySem.W.byRow2 "special-get-raises" (P := fun w => HandSHeadRun.RunEq R0 (PySem.W.view R0.prog [43]) Head.hk Head.ob 8000 lse w) run_f run_t w
end G01
set_option Elab.async false
set_option maxRecDepth 100000
set_option maxHeartbeats 4000000
set_option linter.all false
namespace Py
open PySem PySem.Spec PyProof.Rows L2
inductive R (α : Type) where
  | ok (a : α) (S : List PV)
  | er (c : Str) (x : PV) (S : List PV)
  | no
def R.bind {α β : Type} (r : R α) (f : α → List PV → R β) : R β := match r with
  | .ok a S => f a S
  | .er c x S => .er c x S
  | .no => .no
@[simp] theorem R.bind_ok {α β : Type} (a : α) (S : List PV) (f : α → List PV → R β) : (R.ok a S).bind f = f a S := rfl
@[simp] theorem R.bind_no {α β : Type} (f : α → List PV → R β) : (R.no : R α).bind f = .no := rfl
@[simp] theorem R.bind_er {α β : Type} (c : Str) (x : PV) (S : List PV) (f : α → List PV → R β) : (R.er c x S : R α).bind f = .er c x S := rfl
abbrev Env := List (Option PV)
abbrev Sto := List PV
abbrev Ev := Env → Sto → R PV
abbrev Et := Env → Sto → R Bool
abbrev Ea := Env → Sto → R (List PV)
/-- an object that is no table of code objects -/
class NTb (o : HO) : Prop where
  nt : ∀ ps, o ≠ .tbl ps
instance {xs} : NTb (.lst xs) := ⟨fun _ h => by cases h⟩
instance {xs} : NTb (.tup xs) := ⟨fun _ h => by cases h⟩
instance {xs} : NTb (.dK xs) := ⟨fun _ h => by cases h⟩
instance {xs} : NTb (.dT xs) := ⟨fun _ h => by cases h⟩
instance {o u} : NTb (.frz o u) := ⟨fun _ h => by cases h⟩
instance {φ} : NTb (.ext φ) := ⟨fun _ h => by cases h⟩
/-- the addresses of the store's objects; further ones that no value may name -/
structure Mem where
  st : List Addr
  rs : List Addr
instance : Membership Addr Mem := ⟨fun m a => a ∈ m.st ∨ a ∈ m.rs⟩
def Mem.grow (m : Mem) (ν : List Addr) : Mem := ⟨m.st ++ ν, m.rs⟩
theorem Mem.nst {m : Mem} {a : Addr} (h : a ∉ m) : a ∉ m.st := fun q => h (.inl q)
section
variable (K : PySem.W.Frag)
def KT (a : Addr) (xs : List V) : Prop := ∃ (o : Obj) (its : Array Value) (n : Nat), K.lookup a = some o ∧ o.cls = .type "tuple" ∧ o.data = .seq its n ∧ its.size ≤ sizeLine ∧ Vals xs its.toList
def KL (a : Addr) (xs : List V) : Prop := ∃ (o : Obj) (its : Array Value) (n : Nat), K.lookup a = some o ∧ o.cls = .type "list" ∧ o.dict = none ∧ o.data = .seq its n ∧ its.size ≤ sizeLine ∧ Vals xs its.toList
def TupAt (H : Hp) (μ : Mem) (a : Addr) (xs : List V) : Prop := (Rd H a (.tup xs) ∧ a ∉ μ) ∨ KT K a xs
def FrlAt (H : Hp) (μ : Mem) (a : Addr) (xs : List V) : Prop := ((∃ o, H a = some (.frz o (.lst xs))) ∧ a ∉ μ) ∨ KL K a xs
end
theorem TupAt.sq {K H μ a xs} (h : TupAt K H μ a xs) : SqT K H a xs := h.elim (fun z => .inl z.1) .inr
theorem FrlAt.sq {K H μ a xs} (h : FrlAt K H μ a xs) : SqL K H a xs := h.elim (fun z => .inl (.inr z.1)) .inr
mutual
inductive RepP (K : PySem.W.Frag) (H : Hp) (μ : Mem) : V → PV → Prop
  | non : RepP K H μ .non .non
  | bl (b : Bool) : RepP K H μ (.bl b) (.bl b)
  | int (i : Int) : RepP K H μ (.int i) (.int i)
  | str (x : Str) : RepP K H μ (.str x) (.str x)
  | tup {a : Addr} {vs : List V} {ps : List PV} : TupAt K H μ a vs → RepPs K H μ vs ps → RepP K H μ (.ref a) (.tup ps)
  | lst {a : Addr} {vs : List V} {ps : List PV} : H a = some (.lst vs) → a ∉ μ → RepPs K H μ vs ps → RepP K H μ (.ref a) (.lst ps)
  | frl {a : Addr} {vs : List V} {ps : List PV} : FrlAt K H μ a vs → RepPs K H μ vs ps → RepP K H μ (.ref a) (.frl ps)
  | dic {a : Addr} {kvs : List (Key × V)} {ps : List PV} : H a = some (.dK kvs) → a ∉ μ → RepPs K H μ (kvs.map (·.2)) ps → RepP K H μ (.ref a) (.dic (kvs.map (·.1)) ps)
  | adr (a : Addr) : RepP K H μ (.ref a) (.adr a)
inductive RepPs (K : PySem.W.Frag) (H : Hp) (μ : Mem) : List V → List PV → Prop
  | nil : RepPs K H μ [] []
  | cons {v : V} {vs : List V} {p : PV} {ps : List PV} : RepP K H μ v p → RepPs K H μ vs ps → RepPs K H μ (v :: vs) (p :: ps)
end
/-- a value: pure, or an object of the store -/
def Rep0 (K : PySem.W.Frag) (H : Hp) (μ : Mem) (v : V) (p : PV) : Prop := RepP K H μ v p ∨ ∃ n a, p = .ref n ∧ μ.st[n]? = some a ∧ v = .ref a
/-- the texts of the program's inner defs, by number: the statement, its name, what it captures -/
structure CloC where
  st : Stmt
  name : Str
  fr : List Str
class CT where
  code : Nat → CloC
  tb : List NdefX.NTab
  /-- the field that an error of the program's own bears, where it bears one -/
  fld : Str → Option Str := fun _ => none
/-- a captured cell that is watched -/
def CellO (c : Addr) (o : Obj) : HO := .ext fun h => h.get? c = some o
instance {c o} : NTb (CellO c o) := ⟨fun _ h => by unfold CellO at h; cases h⟩
instance {f F} : NTb (NdefX.FnO f F) := ⟨fun _ h => by unfold NdefX.FnO at h; cases h⟩
instance {c q} : NTb (LamX.CodeO c q) := ⟨fun _ h => by unfold LamX.CodeO at h; cases h⟩
/-- the watched cells of a closure: what each name's cell holds -/
structure Cells (H : Hp) (μ : Mem) (cl : List (Str × Addr)) (fr : List Str) (vs : List V) : Prop where
  len : vs.length = fr.length
  all : ∀ y c, cl.lookup y = some c → ∃ o v, H c = some (CellO c o) ∧ c ∉ μ ∧ o.data = .cell v
  inj : ∀ x y c, cl.lookup x = some c → cl.lookup y = some c → x = y
  has : ∀ (j : Nat) (y : Str), fr[j]? = some y → ∃ c o u, cl.lookup y = some c ∧ H c = some (CellO c o) ∧ o.data = .cell (some u) ∧ ∀ v, vs[j]? = some v → L2.RelV v u
/-- a closure of another frame's making: its code by number, what it captured -/
def CloR [CT] (K : PySem.W.Frag) (H : Hp) (μ : Mem) (v : V) (p : PV) : Prop := ∃ (i : Nat) (ps : List PV) (f : Addr) (F : NdefX.NF) (vs : List V), p = .clo i ps ∧ v = .ref f ∧ H f = some (NdefX.FnO f F) ∧ f ∉ μ ∧ H F.c = some (LamX.CodeO F.c F.qual) ∧ F.c ∉ μ ∧ F = NdefX.NF.of (CT.code i).st (CT.code i).name F.qual F.cl F.c ∧ Cells H μ F.cl (CT.code i).fr vs ∧ Paired (Rep0 K H μ) vs ps
instance {e C d} : NTb (exo e C d) := ⟨fun _ h => by unfold exo at h; cases h⟩
instance {e fs} : NTb (exd e fs) := ⟨fun _ h => by unfold exd at h; cases h⟩
instance {c a} : NTb (ExO c a) := ⟨fun _ h => by unfold ExO at h; cases h⟩
/-- an error as a value -/
def ErrV (K : PySem.W.Frag) (H : Hp) (μ : Mem) (v : V) (p : PV) : Prop := ∃ (c : Str) (a : Addr), v = .ref a ∧ a ∉ μ ∧
  ((p = .err c [] ∧ H a = some (ExO (.ref (He.ga K c)) a)) ∨ ∃ (d : Addr) (f : Str) (y : V) (q : PV), p = .err c [.str f, q] ∧ H a = some (exo a (He.ga K c) (some d)) ∧ d ∉ μ ∧ H d = some (exd d [(f, y)]) ∧ RepP K H μ y q)
variable [CT]
def Rep (K : PySem.W.Frag) (H : Hp) (μ : Mem) (v : V) (p : PV) : Prop := RepP K H μ v p ∨ (∃ n a, p = .ref n ∧ μ.st[n]? = some a ∧ v = .ref a) ∨ CloR K H μ v p ∨ ErrV K H μ v p
def PV.isClo : PV → Bool
  | .clo _ _ => true
  | .err _ _ => true
  | _ => false
theorem ErrV.is {K : PySem.W.Frag} {H : Hp} {μ : Mem} {v : V} {p : PV} (h : ErrV K H μ v p) : ∃ c ps, p = .err c ps := by
  obtain ⟨c, a, _, _, ⟨e, _⟩ | ⟨_, _, _, _, e, _⟩⟩ := h
  · exact ⟨_, _, e⟩
  · exact ⟨_, _, e⟩
theorem Rep.two {K : PySem.W.Frag} {H : Hp} {μ : Mem} {v : V} {p : PV} (h : Rep K H μ v p) (n : p.isClo = false := by rfl) : RepP K H μ v p ∨ ∃ n a, p = .ref n ∧ μ.st[n]? = some a ∧ v = .ref a := by
  rcases h with h | h | ⟨i, ps, _, _, _, e, _⟩ | h
  · exact .inl h
  · exact .inr h
  · rw [e] at n; cases n
  · obtain ⟨c, ps, e⟩ := h.is
    rw [e] at n; cases n
def ObjR (K : PySem.W.Frag) (H : Hp) (μ : Mem) (a : Addr) : PV → Prop
  | .lst ps => ∃ vs, H a = some (.lst vs) ∧ RepPs K H μ vs ps
  | .dic ks ps => ∃ kvs, H a = some (.dK kvs) ∧ kvs.map (·.1) = ks ∧ RepPs K H μ (kvs.map (·.2)) ps
  | _ => False
/-- a list or a dict -/
inductive LD where
  | l (xs : List L2.V) | d (kvs : List (Key × L2.V))
def LD.ho : LD → HO
  | .l xs => .lst xs
  | .d kvs => .dK kvs
instance {l : LD} : NTb l.ho := ⟨fun ps h => by cases l <;> cases h⟩
theorem LD.ne {l : LD} {φ : Heap → Prop} : l.ho ≠ .ext φ := fun h => by cases l <;> cases h
structure Rel (K : PySem.W.Frag) (H : Hp) (μ : Mem) (S : List PV) : Prop where
  len : μ.st.length = S.length
  nd : μ.st.Nodup
  obj : ∀ (n : Nat) (a : Addr) (o : PV), μ.st[n]? = some a → S[n]? = some o → ObjR K H μ a o
  res : ∀ a, a ∈ μ.rs → a ∉ μ.st ∧ ∃ l : LD, H a = some l.ho
  tab : NdefX.TabsN CT.tb H
def ORep (K : PySem.W.Frag) (H : Hp) (μ : Mem) : Option V → Option PV → Prop
  | none, none => True
  | some v, some p => Rep K H μ v p
  | _, _ => False
abbrev ERel (K : PySem.W.Frag) (H : Hp) (μ : Mem) : List (Option V) → Env → Prop := Paired (ORep K H μ)
abbrev Reps (K : PySem.W.Frag) (H : Hp) (μ : Mem) : List V → List PV → Prop := Paired (Rep K H μ)
structure Step (H : Hp) (μ : Mem) (H' : Hp) (μ' : Mem) : Prop where
  ext : ∀ a o, H a = some o → a ∉ μ.st → NTb o → H' a = some o
  dom : ∀ a, H' a = none → H a = none
  gro : ∃ ν, μ' = μ.grow ν ∧ ∀ a ∈ ν, H a = none
theorem Step.refl (H : Hp) (μ : Mem) : Step H μ H μ := ⟨fun _ _ h _ _ => h, fun _ h => h, [], by simp [Mem.grow], by simp⟩
theorem Step.out {H μ H' μ'} (s : Step H μ H' μ') {a : Addr} {o : HO} (h : H a = some o) (n : a ∉ μ) : a ∉ μ' := by
  obtain ⟨ν, e, f⟩ := s.gro
  subst e
  intro q
  rcases q with q | q
  · rcases List.mem_append.mp q with q | q
    · exact n (.inl q)
    · rw [f a q] at h; cases h
  · exact n (.inr q)
theorem Step.outS {H μ H' μ'} (s : Step H μ H' μ') {a : Addr} {o : HO} (h : H a = some o) (n : a ∉ μ.st) : a ∉ μ'.st := by
  obtain ⟨ν, e, f⟩ := s.gro
  subst e
  intro q
  rcases List.mem_append.mp q with q | q
  · exact n q
  · rw [f a q] at h; cases h
theorem Step.trans {H μ H1 μ1 H2 μ2} (s : Step H μ H1 μ1) (t : Step H1 μ1 H2 μ2) : Step H μ H2 μ2 := by
  refine ⟨fun a o h n z => t.ext a o (s.ext a o h n z) (s.outS h n) z, fun a h => s.dom a (t.dom a h), ?_⟩
  obtain ⟨ν, e, f⟩ := s.gro
  obtain ⟨ν2, e2, f2⟩ := t.gro
  refine ⟨ν ++ ν2, by rw [e2, e, Mem.grow, Mem.grow, Mem.grow, List.append_assoc], fun a q => ?_⟩
  rcases List.mem_append.mp q with q | q
  · exact f a q
  · exact s.dom a (f2 a q)
theorem Step.get {H μ H' μ'} (s : Step H μ H' μ') {n : Nat} {a : Addr} (h : μ.st[n]? = some a) : μ'.st[n]? = some a := by
  obtain ⟨ν, e, _⟩ := s.gro
  subst e
  show (μ.st ++ ν)[n]? = some a
  rw [List.getElem?_append_left (List.getElem?_eq_some_iff.mp h).1]; exact h
theorem Step.tupAt {K H μ H' μ' a xs} (s : Step H μ H' μ') (h : TupAt K H μ a xs) : TupAt K H' μ' a xs := by
  rcases h with ⟨r, n⟩ | h
  · rcases r with r | ⟨o, r⟩
    · exact .inl ⟨.inl (s.ext _ _ r (Mem.nst n) inferInstance), s.out r n⟩
    · exact .inl ⟨.inr ⟨o, s.ext _ _ r (Mem.nst n) inferInstance⟩, s.out r n⟩
  · exact .inr h
theorem Step.frlAt {K H μ H' μ' a xs} (s : Step H μ H' μ') (h : FrlAt K H μ a xs) : FrlAt K H' μ' a xs := by
  rcases h with ⟨⟨o, r⟩, n⟩ | h
  · exact .inl ⟨⟨o, s.ext _ _ r (Mem.nst n) inferInstance⟩, s.out r n⟩
  · exact .inr h
section
variable {K : PySem.W.Frag} {H H' : Hp} {μ μ' : Mem}
mutual
theorem RepP.step (s : Step H μ H' μ') : ∀ {p : PV} {v : V}, RepP K H μ v p → RepP K H' μ' v p
  | .non, _, h => by cases h; exact .non
  | .bl b, _, h => by cases h; exact .bl b
  | .int b, _, h => by cases h; exact .int b
  | .str b, _, h => by cases h; exact .str b
  | .tup ps, _, h => by
    cases h with
    | tup h1 h2 => exact .tup (s.tupAt h1) (RepPs.step s h2)
  | .lst ps, _, h => by
    cases h with
    | lst h1 n h2 => exact .lst (s.ext _ _ h1 (Mem.nst n) inferInstance) (s.out h1 n) (RepPs.step s h2)
  | .frl ps, _, h => by
    cases h with
    | frl h1 h2 => exact .frl (s.frlAt h1) (RepPs.step s h2)
  | .dic ks ps, _, h => by
    cases h with
    | dic h1 n h2 => exact .dic (s.ext _ _ h1 (Mem.nst n) inferInstance) (s.out h1 n) (RepPs.step s h2)
  | .ref n, _, h => by cases h
  | .adr a, _, h => by cases h; exact .adr a
  | .clo i ps, _, h => by cases h
  | .err i ps, _, h => by cases h
theorem RepPs.step (s : Step H μ H' μ') : ∀ {ps : List PV} {vs : List V}, RepPs K H μ vs ps → RepPs K H' μ' vs ps
  | [], _, h => by cases h; exact .nil
  | p :: ps, _, h => by
    cases h with
    | cons h1 h2 => exact .cons (RepP.step s h1) (RepPs.step s h2)
end
theorem Rep0.step (s : Step H μ H' μ') {v p} (h : Rep0 K H μ v p) : Rep0 K H' μ' v p := by
  rcases h with h | ⟨n, a, e, g, e2⟩
  · exact .inl (h.step s)
  · exact .inr ⟨n, a, e, s.get g, e2⟩
theorem Cells.to {cl : List (Str × Addr)} {fr : List Str} {vs : List V} (s : ∀ a o, H a = some o → a ∉ μ → NTb o → H' a = some o ∧ a ∉ μ') (h : Cells H μ cl fr vs) : Cells H' μ' cl fr vs := by
  refine ⟨h.len, fun y c e => ?_, h.inj, fun j y e => ?_⟩
  · obtain ⟨o, v, g1, g2, g3⟩ := h.all y c e
    exact ⟨o, v, (s _ _ g1 g2 inferInstance).1, (s _ _ g1 g2 inferInstance).2, g3⟩
  · obtain ⟨c, o, u, g1, g2, g3, g4⟩ := h.has j y e
    obtain ⟨_, _, _, n, _⟩ := h.all y c g1
    exact ⟨c, o, u, g1, (s _ _ g2 n inferInstance).1, g3, g4⟩
theorem CloR.to {v p} (s : ∀ a o, H a = some o → a ∉ μ → NTb o → H' a = some o ∧ a ∉ μ') (r : ∀ w q, Rep0 K H μ w q → Rep0 K H' μ' w q) (h : CloR K H μ v p) : CloR K H' μ' v p := by
  obtain ⟨i, ps, f, F, vs, e1, e2, g1, n1, g2, n2, g3, g4, g5⟩ := h
  exact ⟨i, ps, f, F, vs, e1, e2, (s _ _ g1 n1 inferInstance).1, (s _ _ g1 n1 inferInstance).2, (s _ _ g2 n2 inferInstance).1, (s _ _ g2 n2 inferInstance).2, g3, g4.to s, Paired.mono (fun w q z => r w q z) g5⟩
theorem Step.far (s : Step H μ H' μ') : ∀ a o, H a = some o → a ∉ μ → NTb o → H' a = some o ∧ a ∉ μ' := fun a o h n z => ⟨s.ext a o h (Mem.nst n) z, s.out h n⟩
theorem ErrV.to {v p} (s : ∀ a o, H a = some o → a ∉ μ → NTb o → H' a = some o ∧ a ∉ μ') (r : ∀ w q, RepP K H μ w q → RepP K H' μ' w q) (h : ErrV K H μ v p) : ErrV K H' μ' v p := by
  obtain ⟨c, a, e, n, ⟨e1, g⟩ | ⟨d, f, y, q, e1, g1, nd, g2, ry⟩⟩ := h
  · exact ⟨c, a, e, (s _ _ g n inferInstance).2, .inl ⟨e1, (s _ _ g n inferInstance).1⟩⟩
  · exact ⟨c, a, e, (s _ _ g1 n inferInstance).2, .inr ⟨d, f, y, q, e1, (s _ _ g1 n inferInstance).1, (s _ _ g2 nd inferInstance).2, (s _ _ g2 nd inferInstance).1, r _ _ ry⟩⟩
theorem Rep.step (s : Step H μ H' μ') {v p} (h : Rep K H μ v p) : Rep K H' μ' v p := by
  rcases h with h | ⟨n, a, e, g, e2⟩ | h | h
  · exact .inl (h.step s)
  · exact .inr (.inl ⟨n, a, e, s.get g, e2⟩)
  · exact .inr (.inr (.inl (h.to s.far fun _ _ z => z.step s)))
  · exact .inr (.inr (.inr (h.to s.far fun _ _ z => z.step s)))
theorem ORep.step (s : Step H μ H' μ') {v p} (h : ORep K H μ v p) : ORep K H' μ' v p := by
  cases v <;> cases p <;> first | trivial | exact h.elim | exact Rep.step s h
theorem ERel.step (s : Step H μ H' μ') {σ ρ} (h : ERel K H μ σ ρ) : ERel K H' μ' σ ρ := Paired.mono (fun _ _ q => ORep.step s q) h
theorem Reps.step (s : Step H μ H' μ') {vs ps} (h : Reps K H μ vs ps) : Reps K H' μ' vs ps := Paired.mono (fun _ _ q => Rep.step s q) h
theorem RepPs.length : ∀ {ps : List PV} {vs : List V}, RepPs K H μ vs ps → vs.length = ps.length
  | [], _, h => by cases h; rfl
  | p :: ps, _, h => by
    cases h with
    | cons h1 h2 => simp [RepPs.length h2]
theorem RepPs.get : ∀ {ps : List PV} {vs : List V} {i : Nat} {p : PV}, RepPs K H μ vs ps → ps[i]? = some p → ∃ v, vs[i]? = some v ∧ RepP K H μ v p
  | [], _, _, _, _, e => by simp at e
  | q :: ps, _, 0, p, h, e => by
    cases h with
    | cons h1 h2 => simp at e; subst e; exact ⟨_, rfl, h1⟩
  | q :: ps, _, i + 1, p, h, e => by
    cases h with
    | cons h1 h2 =>
      obtain ⟨v, g, r⟩ := RepPs.get (i := i) h2 (by simpa using e)
      exact ⟨v, by simpa using g, r⟩
theorem RepPs.append : ∀ {ps qs : List PV} {vs ws : List V}, RepPs K H μ vs ps → RepPs K H μ ws qs → RepPs K H μ (vs ++ ws) (ps ++ qs)
  | [], _, _, _, h, h' => by cases h; exact h'
  | p :: ps, _, _, _, h, h' => by
    cases h with
    | cons h1 h2 => exact .cons h1 (RepPs.append h2 h')
theorem RepPs.take : ∀ {ps : List PV} {vs : List V} (n : Nat), RepPs K H μ vs ps → RepPs K H μ (vs.take n) (ps.take n)
  | [], _, n, h => by cases h; simp; exact .nil
  | p :: ps, _, 0, h => by simp; exact .nil
  | p :: ps, _, n + 1, h => by
    cases h with
    | cons h1 h2 => exact .cons h1 (RepPs.take n h2)
theorem RepPs.drop : ∀ {ps : List PV} {vs : List V} (n : Nat), RepPs K H μ vs ps → RepPs K H μ (vs.drop n) (ps.drop n)
  | [], _, n, h => by cases h; simp; exact .nil
  | p :: ps, _, 0, h => h
  | p :: ps, _, n + 1, h => by
    cases h with
    | cons h1 h2 => exact RepPs.drop n h2
theorem RepPs.set : ∀ {ps : List PV} {vs : List V} (i : Nat) {v p}, RepPs K H μ vs ps → RepP K H μ v p → RepPs K H μ (vs.set i v) (ps.set i p)
  | [], _, i, _, _, h, _ => by cases h; exact .nil
  | q :: ps, _, 0, _, _, h, r => by
    cases h with
    | cons h1 h2 => exact .cons r h2
  | q :: ps, _, i + 1, _, _, h, r => by
    cases h with
    | cons h1 h2 => exact .cons h1 (RepPs.set i h2 r)
theorem RepPs.reverse : ∀ {ps : List PV} {vs : List V}, RepPs K H μ vs ps → RepPs K H μ vs.reverse ps.reverse
  | [], _, h => by cases h; exact .nil
  | p :: ps, _, h => by
    cases h with
    | cons h1 h2 =>
      rw [List.reverse_cons, List.reverse_cons]
      exact (RepPs.reverse h2).append (.cons h1 .nil)
theorem RepPs.ints : ∀ {ns : List Int} {vs : List V}, RepPs K H μ vs (ns.map PV.int) → vs = ns.map V.int
  | [], _, h => by cases h; rfl
  | n :: ns, _, h => by
    cases h with
    | cons h1 h2 => cases h1; rw [RepPs.ints h2]; rfl
theorem RepPs.bls : ∀ {ns : List Bool} {vs : List V}, RepPs K H μ vs (ns.map PV.bl) → vs = ns.map V.bl
  | [], _, h => by cases h; rfl
  | n :: ns, _, h => by
    cases h with
    | cons h1 h2 => cases h1; rw [RepPs.bls h2]; rfl
theorem RepPs.strs : ∀ {ns : List Str} {vs : List V}, RepPs K H μ vs (ns.map PV.str) → vs = ns.map V.str
  | [], _, h => by cases h; rfl
  | n :: ns, _, h => by
    cases h with
    | cons h1 h2 => cases h1; rw [RepPs.strs h2]; rfl
end
/-- a value that is no object of the store -/
def PV.isRef : PV → Bool
  | .ref _ => true
  | .clo _ _ => true
  | .err _ _ => true
  | _ => false
theorem Rep.pure {K H μ v p} (h : Rep K H μ v p) (n : p.isRef = false) : RepP K H μ v p := by
  rcases h with h | ⟨n', a, e, _⟩ | ⟨i, ps, _, _, _, e, _⟩ | h
  · exact h
  · subst e; cases n
  · subst e; cases n
  · obtain ⟨c, ps, e⟩ := h.is
    subst e; cases n
theorem Reps.pure {K H μ} : ∀ {ps : List PV} {vs : List V}, Reps K H μ vs ps → ps.all (fun p => !p.isRef) = true → RepPs K H μ vs ps
  | [], _, h, _ => by cases h; exact .nil
  | p :: ps, _, h, n => by
    cases h with
    | cons h1 h2 =>
      simp only [List.all_cons, Bool.and_eq_true, Bool.not_eq_true'] at n
      exact .cons (h1.pure n.1) (Reps.pure h2 n.2)
def FitsG {α : Type} (K : PySem.W.Frag) (H : Hp) (μ : Mem) (r : R α) (k : α → List PV → Hp → Mem → Prop) : Prop := match r with
  | .ok a S' => ∀ H' μ', Step H μ H' μ' → Rel K H' μ' S' → k a S' H' μ'
  | _ => False
section
variable {α β : Type} {K : PySem.W.Frag} {H : Hp} {μ : Mem}
theorem FitsG.imp {r : R α} {k k' : α → List PV → Hp → Mem → Prop} (h : FitsG K H μ r k) (f : ∀ a S' H' μ', Step H μ H' μ' → Rel K H' μ' S' → k a S' H' μ' → k' a S' H' μ') : FitsG K H μ r k' := by
  cases r with
  | ok a S => exact fun H' μ' s t => f a S H' μ' s t (h H' μ' s t)
  | er => exact h
  | no => exact h
theorem FitsG.bind {r : R α} {f : α → List PV → R β} {k : β → List PV → Hp → Mem → Prop} (h : FitsG K H μ (r.bind f) k) : FitsG K H μ r (fun a S' H' μ' => FitsG K H' μ' (f a S') k) := by
  cases r with
  | ok a S =>
    intro H' μ' s t
    have h : FitsG K H μ (f a S) k := h
    revert h
    generalize f a S = r2
    intro h
    cases r2 with
    | ok b S2 => exact fun H2 μ2 s2 t2 => h H2 μ2 (s.trans s2) t2
    | er => exact h
    | no => exact h
  | er => exact h
  | no => exact h
theorem FitsG.here {a : α} {S : List PV} {k : α → List PV → Hp → Mem → Prop} (h : FitsG K H μ (.ok a S) k) (t : Rel K H μ S) : k a S H μ := h H μ (Step.refl _ _) t
end
abbrev VKont (K : PySem.W.Frag) (Q : VK) : PV → List PV → Hp → Mem → Prop := fun p _ H' μ' => ∀ v, Rep K H' μ' v p → Q v H'
abbrev AKont (K : PySem.W.Frag) (Q : List V → Hp → Prop) : List PV → List PV → Hp → Mem → Prop := fun ps _ H' μ' => ∀ vs, Reps K H' μ' vs ps → Q vs H'
abbrev BKont (Q : Bool → Hp → Prop) : Bool → List PV → Hp → Mem → Prop := fun b _ H' _ => Q b H'
def tEv (K : PySem.W.Frag) (f : Ev) : TE := fun σ H Q => ∃ μ ρ S, ERel K H μ σ ρ ∧ Rel K H μ S ∧ FitsG K H μ (f ρ S) (VKont K Q)
def tEt (K : PySem.W.Frag) (f : Et) : TT := fun σ H Q => ∃ μ ρ S, ERel K H μ σ ρ ∧ Rel K H μ S ∧ FitsG K H μ (f ρ S) (BKont Q)
def tEa (K : PySem.W.Frag) (f : Ea) : TA := fun σ H Q => ∃ μ ρ S, ERel K H μ σ ρ ∧ Rel K H μ S ∧ FitsG K H μ (f ρ S) (AKont K Q)
def EE (X : Cx) (e : Expr) (f : Ev) : Prop := PE X e (tEv X.K f)
def ET (X : Cx) (e : Expr) (f : Et) : Prop := PT X e (tEt X.K f)
def EW (X : Cx) (e : Expr) (f : Et) : Prop := PW X e (tEt X.K f)
def EA (X : Cx) (es : List Expr) (f : Ea) : Prop := PA X es (tEa X.K f)
theorem pe_mono {X : Cx} {e : Expr} {t t' : TE} (h : PE X e t) (f : ∀ σ H Q, t' σ H Q → t σ H Q) : PE X e t' := ⟨fun pins s σ H Q I q => h.run pins s σ H Q I (f σ H Q q)⟩
theorem pt_mono {X : Cx} {e : Expr} {t t' : TT} (h : PT X e t) (f : ∀ σ H Q, t' σ H Q → t σ H Q) : PT X e t' := ⟨fun pins s σ H Q I q => h.run pins s σ H Q I (f σ H Q q)⟩
theorem pw_mono {X : Cx} {e : Expr} {t t' : TT} (h : PW X e t) (f : ∀ σ H Q, t' σ H Q → t σ H Q) : PW X e t' := ⟨fun whole pins s σ H Q I q => h.run whole pins s σ H Q I (f σ H Q q)⟩
theorem pa_mono {X : Cx} {es : List Expr} {t t' : TA} (h : PA X es t) (f : ∀ σ H Q, t' σ H Q → t σ H Q) : PA X es t' := ⟨fun pos pins s σ H Q I q => h.run pos pins s σ H Q I (f σ H Q q)⟩
theorem ps_mono {X : Cx} {e : Stmt} {t t' : TS} (h : PS X e t) (f : ∀ D σ H, t' D σ H → t D σ H) : PS X e t' := ⟨fun pins s σ H D I q => h.run pins s σ H D I (f D σ H q)⟩
theorem pss_mono {X : Cx} {e : List Stmt} {t t' : TS} (h : PSs X e t) (f : ∀ D σ H, t' D σ H → t D σ H) : PSs X e t' := ⟨fun pins s σ H D I q => h.run pins s σ H D I (f D σ H q)⟩
/-- two expressions in a row, then what is asked of their values -/
theorem two {K : PySem.W.Frag} {fa fb : Ev} {g : PV → PV → Sto → R PV} {σ : L2.St} {H : Hp} {Q : VK} {r : V → V → Hp → VK → Prop}
    (h : tEv K (fun ρ S => (fa ρ S).bind fun x S1 => (fb ρ S1).bind fun y S2 => g x y S2) σ H Q)
    (hr : ∀ H2 μ2 S2 v w p q, Rep K H2 μ2 v p → Rep K H2 μ2 w q → Rel K H2 μ2 S2 → FitsG K H2 μ2 (g p q S2) (VKont K Q) → r v w H2 Q) :
    tEv K fa σ H fun x H1 => tEv K fb σ H1 fun y H2 => r x y H2 Q := by
  obtain ⟨μ, ρ, S, hE, hR, hF⟩ := h
  refine ⟨μ, ρ, S, hE, hR, hF.bind.imp fun p S1 H1 μ1 s1 t1 h1 v rv => ?_⟩
  refine ⟨μ1, ρ, S1, hE.step s1, t1, (FitsG.bind h1).imp fun q S2 H2 μ2 s2 t2 h2 w rw' => ?_⟩
  exact hr H2 μ2 S2 v w p q (rv.step s2) rw' t2 h2
theorem one {K : PySem.W.Frag} {fa : Ev} {g : PV → Sto → R PV} {σ : L2.St} {H : Hp} {Q : VK} {r : V → Hp → VK → Prop}
    (h : tEv K (fun ρ S => (fa ρ S).bind fun x S1 => g x S1) σ H Q)
    (hr : ∀ H2 μ2 S2 v p, Rep K H2 μ2 v p → Rel K H2 μ2 S2 → FitsG K H2 μ2 (g p S2) (VKont K Q) → r v H2 Q) :
    tEv K fa σ H fun x H1 => r x H1 Q := by
  obtain ⟨μ, ρ, S, hE, hR, hF⟩ := h
  exact ⟨μ, ρ, S, hE, hR, hF.bind.imp fun p S1 H1 μ1 s1 t1 h1 v rv => hr H1 μ1 S1 v p rv t1 h1⟩
def eVar (i : Nat) : Ev := fun ρ S => match ρ[i]? with
  | some (some p) => .ok p S
  | _ => .no
def eC (p : PV) : Ev := fun _ S => .ok p S
theorem ERel.get {K H μ} : ∀ {ρ : Env} {σ : List (Option V)} {i : Nat} {p : PV}, ERel K H μ σ ρ → ρ[i]? = some (some p) → ∃ v, σ[i]? = some (some v) ∧ Rep K H μ v p
  | [], _, _, _, _, e => by simp at e
  | q :: ρ, _, 0, p, h, e => by
    cases h with
    | cons h1 h2 =>
      simp at e; subst e
      rename_i x _
      cases x with
      | none => exact h1.elim
      | some v => exact ⟨v, rfl, h1⟩
  | q :: ρ, _, i + 1, p, h, e => by
    cases h with
    | cons h1 h2 =>
      obtain ⟨v, g, r⟩ := ERel.get (i := i) h2 (by simpa using e)
      exact ⟨v, by simpa using g, r⟩
theorem ERel.set {K H μ} {v : Option V} {p : Option PV} : ∀ {ρ : Env} {σ : List (Option V)} (i : Nat), ERel K H μ σ ρ → ORep K H μ v p → ERel K H μ (σ.set i v) (ρ.set i p)
  | [], _, _, h, _ => by cases h; exact .nil
  | q :: ρ, _, 0, h, r => by
    cases h with
    | cons h1 h2 => exact .cons r h2
  | q :: ρ, _, i + 1, h, r => by
    cases h with
    | cons h1 h2 => exact .cons h1 (ERel.set i h2 r)
section
variable {X : Cx} {pos : Pos}
theorem ee_var (i : Nat) {x : Str} (h : PE X (.Name x pos) (tVar i)) : EE X (.Name x pos) (eVar i) := pe_mono h fun σ H Q ⟨μ, ρ, S, hE, hR, hF⟩ => by
  unfold eVar at hF
  split at hF
  · rename_i p e
    obtain ⟨v, g, r⟩ := hE.get e
    exact ⟨v, g, FitsG.here hF hR v r⟩
  · exact hF.elim
theorem ee_c {e : Expr} {v : V} {p : PV} (h : PE X e (tC v)) (r : ∀ H, RepP X.K H ⟨[], []⟩ v p) (r2 : ∀ H μ, RepP X.K H μ v p) : EE X e (eC p) := pe_mono h fun σ H Q ⟨μ, ρ, S, hE, hR, hF⟩ => FitsG.here hF hR v (.inl (r2 H μ))
theorem ee_int {i j} : EE X (.Constant (.int i) j pos) (eC (.int i)) := ee_c pe_int (fun _ => .int i) fun _ _ => .int i
theorem ee_bl {i j} : EE X (.Constant (.bool i) j pos) (eC (.bl i)) := ee_c pe_bl (fun _ => .bl i) fun _ _ => .bl i
theorem ee_str {i j} : EE X (.Constant (.str i) j pos) (eC (.str i)) := ee_c pe_str (fun _ => .str i) fun _ _ => .str i
theorem ee_non {j} : EE X (.Constant .none j pos) (eC .non) := ee_c pe_non (fun _ => .non) fun _ _ => .non
def eOp (g : PV → PV → Sto → R PV) (a b : Ev) : Ev := fun ρ S => (a ρ S).bind fun x S1 => (b ρ S1).bind fun y S2 => g x y S2
def eUn (g : PV → Sto → R PV) (a : Ev) : Ev := fun ρ S => (a ρ S).bind fun x S1 => g x S1
def L2R (K : PySem.W.Frag) (r : R2) (g : PV → PV → Sto → R PV) : Prop := ∀ Q H μ S v w p q, Rep K H μ v p → Rep K H μ w q → Rel K H μ S → FitsG K H μ (g p q S) (VKont K Q) → r v w H Q
def L1R (K : PySem.W.Frag) (r : V → Hp → VK → Prop) (g : PV → Sto → R PV) : Prop := ∀ Q H μ S v p, Rep K H μ v p → Rel K H μ S → FitsG K H μ (g p S) (VKont K Q) → r v H Q
variable {a b : Expr} {fa fb : Ev} {g : PV → PV → Sto → R PV} {r : R2}
theorem ee_op {op : Operator} (ho : OpR X (binaryOp op) r) (hr : L2R X.K r g) (ha : EE X a fa) (hb : EE X b fb) : EE X (.BinOp a op b pos) (eOp g fa fb) :=
  pe_mono (pe_op ho ha hb) fun σ H Q h => two h fun H2 μ2 S2 v w p q rv rw' t h2 => hr Q H2 μ2 S2 v w p q rv rw' t h2
theorem ee_un {op : UnaryOp} {r : V → Hp → VK → Prop} {g : PV → Sto → R PV} (ho : UnR X (unaryOp op) r) (hr : L1R X.K r g) (ha : EE X a fa) : EE X (.UnaryOp op a pos) (eUn g fa) :=
  pe_mono (pe_un ho ha) fun σ H Q h => one h fun H2 μ2 S2 v p rv t h2 => hr Q H2 μ2 S2 v p rv t h2
theorem ee_cmp {op : CmpOp} (ho : OpR X (compareOp op) r) (hr : L2R X.K r g) (ha : EE X a fa) (hb : EE X b fb) (hm : behindInMarks op b = false) : EE X (.Compare a [op] [b] pos) (eOp g fa fb) :=
  pe_mono (pe_cmpR ho ha hb hm) fun σ H Q h => two h fun H2 μ2 S2 v w p q rv rw' t h2 => hr Q H2 μ2 S2 v w p q rv rw' t h2
def toB (p : PV) (S : Sto) : R Bool := match p with
  | .bl b => .ok b S
  | _ => .no
def tV (a : Ev) : Et := fun ρ S => (a ρ S).bind toB
def tNotE (a : Et) : Et := fun ρ S => (a ρ S).bind fun b S1 => .ok (!b) S1
def tAndE (a b : Et) : Et := fun ρ S => (a ρ S).bind fun c S1 => if c = true then b ρ S1 else .ok false S1
def tOrE (a b : Et) : Et := fun ρ S => (a ρ S).bind fun c S1 => if c = true then .ok true S1 else b ρ S1
theorem toB_of {K H μ} {p : PV} {S : Sto} {k : Bool → List PV → Hp → Mem → Prop} (h : FitsG K H μ (toB p S) k) : ∃ b, p = .bl b ∧ FitsG K H μ (.ok b S) k := by
  unfold toB at h
  split at h
  · exact ⟨_, rfl, h⟩
  · exact h.elim
theorem rep_bl {K H μ v b} (h : Rep K H μ v (.bl b)) : v = .bl b := by
  rcases h.two with h | ⟨_, _, e, _⟩
  · cases h; rfl
  · cases e
theorem rep_int {K H μ v b} (h : Rep K H μ v (.int b)) : v = .int b := by
  rcases h.two with h | ⟨_, _, e, _⟩
  · cases h; rfl
  · cases e
theorem rep_str {K H μ v b} (h : Rep K H μ v (.str b)) : v = .str b := by
  rcases h.two with h | ⟨_, _, e, _⟩
  · cases h; rfl
  · cases e
theorem rep_non {K H μ v} (h : Rep K H μ v .non) : v = .non := by
  rcases h.two with h | ⟨_, _, e, _⟩
  · cases h; rfl
  · cases e
theorem tv_tB {K fa σ H Q} (h : tEt K (tV fa) σ H Q) : tB (tEv K fa) σ H Q := by
  obtain ⟨μ, ρ, S, hE, hR, hF⟩ := h
  refine ⟨μ, ρ, S, hE, hR, (FitsG.bind hF).imp fun p S1 H1 μ1 s1 t1 h1 v rv => ?_⟩
  obtain ⟨b, rfl, h2⟩ := toB_of h1
  exact ⟨b, rep_bl rv, FitsG.here h2 t1⟩
theorem et_cmp {op : CmpOp} (ho : OpR X (compareOp op) r) (hr : L2R X.K r g) (ha : EE X a fa) (hb : EE X b fb) (hm : behindInMarks op b = false) : ET X (.Compare a [op] [b] pos) (tV (eOp g fa fb)) :=
  pt_mono (pt_cmpR ho ha hb hm) fun σ H Q h => by
    have h' := tv_tB h
    have h2 : tEv X.K (eOp g fa fb) σ H (fun x H' => ∃ k, x = .bl k ∧ Q k H') := h'
    exact two h2 fun H2 μ2 S2 v w p q rv rw' t h2 => hr _ H2 μ2 S2 v w p q rv rw' t h2
variable {ta tb : Et}
theorem et_not (h : ET X a ta) : ET X (.UnaryOp .Not a pos) (tNotE ta) := pt_mono (pt_not h) fun σ H Q ⟨μ, ρ, S, hE, hR, hF⟩ =>
  ⟨μ, ρ, S, hE, hR, (FitsG.bind hF).imp fun b S1 H1 μ1 s1 t1 h1 => FitsG.here h1 t1⟩
theorem ew_and1 (h : ET X a ta) : EW X (.BoolOp .And [a] pos) ta := pw_mono (pw_and1 h) fun _ _ _ h => h
theorem ew_or1 (h : ET X a ta) : EW X (.BoolOp .Or [a] pos) ta := pw_mono (pw_or1 h) fun _ _ _ h => h
theorem ew_and {rest : List Expr} (h : ET X a ta) (h2 : EW X (.BoolOp .And (b :: rest) pos) tb) : EW X (.BoolOp .And (a :: b :: rest) pos) (tAndE ta tb) := pw_mono (pw_and h h2) fun σ H Q ⟨μ, ρ, S, hE, hR, hF⟩ =>
  ⟨μ, ρ, S, hE, hR, (FitsG.bind hF).imp fun c S1 H1 μ1 s1 t1 h1 => by
    show if c = true then _ else _
    split
    · rename_i hc
      subst hc
      exact ⟨μ1, ρ, S1, hE.step s1, t1, h1⟩
    · rename_i hc
      have : c = false := by cases c <;> simp_all
      subst this
      exact FitsG.here h1 t1⟩
theorem ew_or {rest : List Expr} (h : ET X a ta) (h2 : EW X (.BoolOp .Or (b :: rest) pos) tb) : EW X (.BoolOp .Or (a :: b :: rest) pos) (tOrE ta tb) := pw_mono (pw_or h h2) fun σ H Q ⟨μ, ρ, S, hE, hR, hF⟩ =>
  ⟨μ, ρ, S, hE, hR, (FitsG.bind hF).imp fun c S1 H1 μ1 s1 t1 h1 => by
    show if c = true then _ else _
    split
    · rename_i hc
      subst hc
      exact FitsG.here h1 t1
    · rename_i hc
      have : c = false := by cases c <;> simp_all
      subst this
      exact ⟨μ1, ρ, S1, hE.step s1, t1, h1⟩⟩
theorem et_w {e : Expr} (h : EW X e ta) : ET X e ta := PW.pt h
end
end Py
set_option Elab.async false
set_option maxRecDepth 100000
set_option maxHeartbeats 4000000
set_option linter.all false
namespace Py
open PySem PySem.Spec PyProof.Rows L2
variable [CT]
section
variable {K : PySem.W.Frag} {H H' : Hp} {μ μ' : Mem}
/-- what is needed of a change, for values to stay -/
def Keep (H : Hp) (μ : Mem) (H' : Hp) (μ' : Mem) : Prop := ∀ a o, H a = some o → a ∉ μ → NTb o → H' a = some o ∧ a ∉ μ'
theorem Keep.tupAt {a xs} (s : Keep H μ H' μ') (h : TupAt K H μ a xs) : TupAt K H' μ' a xs := by
  rcases h with ⟨r, n⟩ | h
  · rcases r with r | ⟨o, r⟩
    · exact .inl ⟨.inl (s _ _ r n inferInstance).1, (s _ _ r n inferInstance).2⟩
    · exact .inl ⟨.inr ⟨o, (s _ _ r n inferInstance).1⟩, (s _ _ r n inferInstance).2⟩
  · exact .inr h
theorem Keep.frlAt {a xs} (s : Keep H μ H' μ') (h : FrlAt K H μ a xs) : FrlAt K H' μ' a xs := by
  rcases h with ⟨⟨o, r⟩, n⟩ | h
  · exact .inl ⟨⟨o, (s _ _ r n inferInstance).1⟩, (s _ _ r n inferInstance).2⟩
  · exact .inr h
mutual
theorem RepP.keep (s : Keep H μ H' μ') : ∀ {p : PV} {v : V}, RepP K H μ v p → RepP K H' μ' v p
  | .non, _, h => by cases h; exact .non
  | .bl b, _, h => by cases h; exact .bl b
  | .int b, _, h => by cases h; exact .int b
  | .str b, _, h => by cases h; exact .str b
  | .tup ps, _, h => by
    cases h with
    | tup h1 h2 => exact .tup (s.tupAt h1) (RepPs.keep s h2)
  | .lst ps, _, h => by
    cases h with
    | lst h1 n h2 => exact .lst (s _ _ h1 n inferInstance).1 (s _ _ h1 n inferInstance).2 (RepPs.keep s h2)
  | .frl ps, _, h => by
    cases h with
    | frl h1 h2 => exact .frl (s.frlAt h1) (RepPs.keep s h2)
  | .dic ks ps, _, h => by
    cases h with
    | dic h1 n h2 => exact .dic (s _ _ h1 n inferInstance).1 (s _ _ h1 n inferInstance).2 (RepPs.keep s h2)
  | .ref n, _, h => by cases h
  | .adr a, _, h => by cases h; exact .adr a
theorem RepPs.keep (s : Keep H μ H' μ') : ∀ {ps : List PV} {vs : List V}, RepPs K H μ vs ps → RepPs K H' μ' vs ps
  | [], _, h => by cases h; exact .nil
  | p :: ps, _, h => by
    cases h with
    | cons h1 h2 => exact .cons (RepP.keep s h1) (RepPs.keep s h2)
end
theorem Rep0.keep {v p} (s : Keep H μ H' μ') (e : μ'.st = μ.st) (h : Rep0 K H μ v p) : Rep0 K H' μ' v p := by
  rcases h with h | ⟨n, a, h1, h2, h3⟩
  · exact .inl (h.keep s)
  · exact .inr ⟨n, a, h1, by rw [e]; exact h2, h3⟩
theorem Rep.keep {v p} (s : Keep H μ H' μ') (e : μ'.st = μ.st) (h : Rep K H μ v p) : Rep K H' μ' v p := by
  rcases h with h | ⟨n, a, h1, h2, h3⟩ | h | h
  · exact .inl (h.keep s)
  · exact .inr (.inl ⟨n, a, h1, by rw [e]; exact h2, h3⟩)
  · exact .inr (.inr (.inl (h.to s fun _ _ z => z.keep s e)))
  · exact .inr (.inr (.inr (h.to s fun _ _ z => z.keep s)))
theorem ORep.keep {v p} (s : Keep H μ H' μ') (e : μ'.st = μ.st) (h : ORep K H μ v p) : ORep K H' μ' v p := by
  cases v <;> cases p <;> first | trivial | exact h.elim | exact Rep.keep s e h
theorem ERel.keep {σ : List (Option V)} {ρ : Env} (s : Keep H μ H' μ') (e : μ'.st = μ.st) (h : ERel K H μ σ ρ) : ERel K H' μ' σ ρ := Paired.mono (fun _ _ q => ORep.keep s e q) h
theorem Rel.keep {S : List PV} (s : Keep H μ H' μ') (e : μ'.st = μ.st) (t : Rel K H μ S) (h : ∀ a ∈ μ.st, H' a = H a) (hr : ∀ a ∈ μ'.rs, a ∉ μ'.st ∧ ∃ l : LD, H' a = some l.ho) (ht : NdefX.TabsN CT.tb H') : Rel K H' μ' S := by
  refine ⟨by rw [e]; exact t.len, by rw [e]; exact t.nd, fun n a o e1 e2 => ?_, hr, ht⟩
  rw [e] at e1
  have ob := t.obj n a o e1 e2
  have ha := h a (List.mem_of_getElem? e1)
  revert ob
  cases o <;> intro ob <;> first | exact ob.elim | skip
  · obtain ⟨vs, g, r⟩ := ob; exact ⟨vs, ha.trans g, r.keep s⟩
  · obtain ⟨kvs, g, g2, r⟩ := ob; exact ⟨kvs, ha.trans g, g2, r.keep s⟩
end
/-- tables stay where none of theirs is changed -/
theorem tabs_upd {T : List NdefX.NTab} {H : Hp} {p : Addr} {o : HO} (t : NdefX.TabsN T H) (h : ∀ u, H p = some u → (∀ ps, u ≠ .tbl ps) ∧ ∀ φ, u ≠ .ext φ) : NdefX.TabsN T (upd H p o) := fun q hq => by
  obtain ⟨ps, h1, h2, h3⟩ := t q hq
  have n1 : q.1 ≠ p := fun z => by rw [z] at h1; exact (h _ h1).1 ps rfl
  refine ⟨ps, by rw [upd_ne n1]; exact h1, h2, fun pos cv hc => ?_⟩
  obtain ⟨c, e1, e2⟩ := h3 pos cv hc
  have n2 : c ≠ p := fun z => by rw [z] at e2; exact (h _ e2).2 _ rfl
  exact ⟨c, e1, by rw [upd_ne n2]; exact e2⟩
theorem Step.keep {H μ H' μ'} (s : Step H μ H' μ') : Keep H μ H' μ' := fun a o h n z => ⟨s.ext a o h (Mem.nst n) z, s.out h n⟩
section
variable {K : PySem.W.Frag} {H : Hp} {μ μ' : Mem}
mutual
theorem RepP.sub (s : ∀ a, a ∈ μ' → a ∈ μ) : ∀ {p : PV} {v : V}, RepP K H μ v p → RepP K H μ' v p
  | .non, _, h => by cases h; exact .non
  | .bl b, _, h => by cases h; exact .bl b
  | .int b, _, h => by cases h; exact .int b
  | .str b, _, h => by cases h; exact .str b
  | .tup ps, _, h => by
    cases h with
    | tup h1 h2 => exact .tup (h1.elim (fun z => .inl ⟨z.1, fun q => z.2 (s _ q)⟩) .inr) (RepPs.sub s h2)
  | .lst ps, _, h => by
    cases h with
    | lst h1 n h2 => exact .lst h1 (fun q => n (s _ q)) (RepPs.sub s h2)
  | .frl ps, _, h => by
    cases h with
    | frl h1 h2 => exact .frl (h1.elim (fun z => .inl ⟨z.1, fun q => z.2 (s _ q)⟩) .inr) (RepPs.sub s h2)
  | .dic ks ps, _, h => by
    cases h with
    | dic h1 n h2 => exact .dic h1 (fun q => n (s _ q)) (RepPs.sub s h2)
  | .ref n, _, h => by cases h
  | .adr a, _, h => by cases h; exact .adr a
theorem RepPs.sub (s : ∀ a, a ∈ μ' → a ∈ μ) : ∀ {ps : List PV} {vs : List V}, RepPs K H μ vs ps → RepPs K H μ' vs ps
  | [], _, h => by cases h; exact .nil
  | p :: ps, _, h => by
    cases h with
    | cons h1 h2 => exact .cons (RepP.sub s h1) (RepPs.sub s h2)
end
theorem ObjR.sub (s : ∀ a, a ∈ μ' → a ∈ μ) {a : Addr} {o : PV} (h : ObjR K H μ a o) : ObjR K H μ' a o := by
  cases o <;> first | exact h.elim | skip
  · obtain ⟨vs, e, r⟩ := h; exact ⟨vs, e, r.sub s⟩
  · obtain ⟨kvs, e, e2, r⟩ := h; exact ⟨kvs, e, e2, r.sub s⟩
theorem ObjR.step {H' : Hp} {μ2 : Mem} (s : Step H μ H' μ2) {a : Addr} {o : PV} (h : ObjR K H μ a o) (e : H' a = H a) : ObjR K H' μ2 a o := by
  cases o <;> first | exact h.elim | skip
  · obtain ⟨vs, e1, r⟩ := h; exact ⟨vs, e.trans e1, r.step s⟩
  · obtain ⟨kvs, e1, e2, r⟩ := h; exact ⟨kvs, e.trans e1, e2, r.step s⟩
theorem Rel.tracked {S : List PV} (t : Rel K H μ S) {p : Addr} (q : p ∈ μ.st) : H p ≠ none := fun h => by
  obtain ⟨n, hn, e⟩ := List.mem_iff_getElem.mp q
  have hS : n < S.length := by rw [← t.len]; exact hn
  have o := t.obj n p S[n] (by rw [List.getElem?_eq_getElem hn, e]) (List.getElem?_eq_getElem hS)
  revert o
  cases S[n] <;> intro o <;> first | exact o.elim | skip
  · obtain ⟨vs, e1, _⟩ := o; rw [h] at e1; cases e1
  · obtain ⟨kvs, e1, _⟩ := o; rw [h] at e1; cases e1
theorem Rel.resn {S : List PV} (t : Rel K H μ S) {p : Addr} (q : p ∈ μ.rs) : H p ≠ none := fun h => by
  obtain ⟨l, e⟩ := (t.res p q).2
  rw [h] at e; cases e
theorem Rel.out {S : List PV} (t : Rel K H μ S) {p : Addr} (h : H p = none) : p ∉ μ := fun q => q.elim (fun q => t.tracked q h) fun q => t.resn q h
theorem Rel.resU {S : List PV} (t : Rel K H μ S) {p : Addr} (h : H p = none) (o : HO) : ∀ a, a ∈ μ.rs → a ∉ μ.st ∧ ∃ l : LD, upd H p o a = some l.ho := fun a q =>
  ⟨(t.res a q).1, (t.res a q).2.imp fun l e => (upd_ne (ne_of_none e h)).trans e⟩
theorem Rel.resG {S : List PV} (t : Rel K H μ S) {p : Addr} (h : H p = none) (o : HO) : ∀ a, a ∈ (μ.grow [p]).rs → a ∉ (μ.grow [p]).st ∧ ∃ l : LD, upd H p o a = some l.ho := fun a q =>
  ⟨fun z => (List.mem_append.mp z).elim (t.res a q).1 fun z => t.resn q (by rw [List.mem_singleton.mp z]; exact h), (t.resU h o a q).2⟩
/-- a new object is laid -/
theorem Step.laid (H : Hp) (μ : Mem) {p : Addr} (h : H p = none) (o : HO) : Step H μ (upd H p o) μ :=
  ⟨fun a u e _ _ => by rw [upd_ne (ne_of_none e h)]; exact e, fun a e => by
    by_cases q : a = p
    · subst q; exact h
    · rw [upd_ne q] at e; exact e, [], by simp [Mem.grow], by simp⟩
theorem Rel.laid {S : List PV} (t : Rel K H μ S) {p : Addr} (h : H p = none) (o : HO) : Rel K (upd H p o) μ S :=
  ⟨t.len, t.nd, fun n a ob e1 e2 => (t.obj n a ob e1 e2).step (Step.laid H μ h o) (upd_ne fun z => (Mem.nst (t.out h)) (by rw [← z]; exact List.mem_of_getElem? e1)), t.resU h o, tabs_upd t.tab fun u e => by rw [h] at e; cases e⟩
/-- .. and becomes an object of the store -/
theorem Rel.alloc {S : List PV} (t : Rel K H μ S) {p : Addr} (h : H p = none) {vs : List V} {ps : List PV} (r : RepPs K H μ vs ps) : Rel K (upd H p (.lst vs)) (μ.grow [p]) (S ++ [.lst ps]) := by
  have l := Step.laid H μ h (.lst vs)
  have s : Step H μ (upd H p (.lst vs)) (μ.grow [p]) := ⟨l.ext, l.dom, [p], rfl, fun a q => by rw [List.mem_singleton.mp q]; exact h⟩
  refine ⟨by simp [Mem.grow, t.len], ?_, fun n a ob e1 e2 => ?_, t.resG h _, tabs_upd t.tab fun u e => by rw [h] at e; cases e⟩
  · exact List.nodup_append.mpr ⟨t.nd, by simp, fun a ha b hb => by
      rw [List.mem_singleton.mp hb]; intro z; rw [z] at ha; exact Mem.nst (t.out h) ha⟩
  · have e1 : (μ.st ++ [p])[n]? = some a := e1
    by_cases hn : n < μ.st.length
    · rw [List.getElem?_append_left hn] at e1
      rw [List.getElem?_append_left (by rw [← t.len]; exact hn)] at e2
      exact (t.obj n a ob e1 e2).step s (upd_ne fun z => Mem.nst (t.out h) (by rw [← z]; exact List.mem_of_getElem? e1))
    · have e : n = μ.st.length := by
        have := (List.getElem?_eq_some_iff.mp e1).1
        simp at this; omega
      subst e
      rw [List.getElem?_append_right (Nat.le_refl _)] at e1
      rw [List.getElem?_append_right (by rw [t.len]; exact Nat.le_refl _)] at e2
      simp [t.len] at e1 e2
      subst e1 e2
      exact ⟨vs, upd_same, r.step s⟩
theorem ObjR.repP {a : Addr} {o : PV} (h : ObjR K H μ a o) (n : a ∉ μ) : RepP K H μ (.ref a) o := by
  cases o <;> first | exact h.elim | skip
  · obtain ⟨vs, e, r⟩ := h; exact .lst e n r
  · obtain ⟨kvs, e, e2, r⟩ := h; subst e2; exact .dic e n r
theorem Rel.last {S : List PV} {p : Addr} {o : PV} (t : Rel K H (μ.grow [p]) (S ++ [o])) : Rel K H μ S ∧ p ∉ μ.st ∧ ObjR K H μ p o := by
  have sub : ∀ a, a ∈ μ → a ∈ μ.grow [p] := fun a h => h.elim (fun h => .inl (List.mem_append_left _ h)) .inr
  have len : μ.st.length = S.length := by have := t.len; simpa [Mem.grow] using this
  have nd := List.nodup_append.mp t.nd
  refine ⟨⟨len, nd.1, fun n a ob e1 e2 => ?_, fun a q => ⟨fun z => (t.res a q).1 (List.mem_append_left _ z), (t.res a q).2⟩, t.tab⟩, fun q => nd.2.2 p q p (List.mem_singleton.mpr rfl) rfl, ?_⟩
  · refine (t.obj n a ob ?_ ?_).sub sub
    · show (μ.st ++ [p])[n]? = some a
      rw [List.getElem?_append_left (List.getElem?_eq_some_iff.mp e1).1]; exact e1
    · rw [List.getElem?_append_left (List.getElem?_eq_some_iff.mp e2).1]; exact e2
  · exact (t.obj μ.st.length p o (by simp [Mem.grow]) (by simp [len])).sub sub
/-- an object of the store is changed -/
theorem Step.write (H : Hp) (μ : Mem) {p : Addr} (m : p ∈ μ.st) (o : HO) : Step H μ (upd H p o) μ :=
  ⟨fun a u e n _ => by rw [upd_ne fun z => n (by rw [z]; exact m)]; exact e, fun a e => by
    by_cases q : a = p
    · subst q; rw [upd_same] at e; cases e
    · rw [upd_ne q] at e; exact e, [], by simp [Mem.grow], by simp⟩
theorem Rel.write {S : List PV} (t : Rel K H μ S) {n : Nat} {p : Addr} (m : μ.st[n]? = some p) {o : HO} {ob : PV} (r : ObjR K (upd H p o) μ p ob) : Rel K (upd H p o) μ (S.set n ob) := by
  have hn := (List.getElem?_eq_some_iff.mp m).1
  have hS : n < S.length := by rw [← t.len]; exact hn
  refine ⟨by simp [t.len], t.nd, fun k a u e1 e2 => ?_, fun a q => ⟨(t.res a q).1, (t.res a q).2.imp fun l e => (upd_ne fun z => (t.res a q).1 (by rw [z]; exact List.mem_of_getElem? m)).trans e⟩, tabs_upd t.tab fun u e => ?_⟩
  rotate_left
  · have ob := t.obj n p S[n] m (List.getElem?_eq_getElem hS)
    revert ob
    cases S[n] <;> intro ob <;> first | exact ob.elim | skip
    · obtain ⟨vs, h1, _⟩ := ob
      rw [e] at h1; cases h1
      exact ⟨fun ps z => (by cases z), fun φ z => (by cases z)⟩
    · obtain ⟨kvs, h1, _⟩ := ob
      rw [e] at h1; cases h1
      exact ⟨fun ps z => (by cases z), fun φ z => (by cases z)⟩
  by_cases hk : k = n
  · subst hk
    rw [m] at e1; cases e1
    have hlt : k < S.length := by rw [← t.len]; exact (List.getElem?_eq_some_iff.mp m).1
    rw [List.getElem?_set_self hlt] at e2
    cases e2
    exact r
  · rw [List.getElem?_set_ne (Ne.symm hk)] at e2
    refine (t.obj k a u e1 e2).step (Step.write H μ (List.mem_of_getElem? m) o) (upd_ne fun z => hk ?_)
    have h1 := List.getElem?_eq_some_iff.mp e1
    have h2 := List.getElem?_eq_some_iff.mp m
    exact (List.getElem_inj t.nd).mp (by rw [h1.2, h2.2, z])
end
def FitsF (K : PySem.W.Frag) (H : Hp) (μ : Mem) (r : R PV) (Q : VK) : Prop := match r with
  | .ok o S' => ∀ H' μ' a, H a = none → a ∉ μ.rs → Step H μ H' μ' → Rel K H' (μ'.grow [a]) (S' ++ [o]) → Q (.ref a) H'
  | _ => False
def tEf (K : PySem.W.Frag) (f : Ev) : TE := fun σ H Q => ∃ μ ρ S, ERel K H μ σ ρ ∧ Rel K H μ S ∧ FitsF K H μ (f ρ S) Q
/-- an expression that makes a new list or dict -/
def EF (X : Cx) (e : Expr) (f : Ev) : Prop := PE X e (tEf X.K f)
/-- .. which is put into the store -/
def eNew (f : Ev) : Ev := fun ρ S => (f ρ S).bind fun o S1 => .ok (.ref S1.length) (S1 ++ [o])
theorem tEf_pure {K : PySem.W.Frag} {f : Ev} {σ : List (Option V)} {H : Hp} {Q : VK} (h : tEv K f σ H Q) : tEf K f σ H Q := by
  obtain ⟨μ, ρ, S, hE, hR, hF⟩ := h
  refine ⟨μ, ρ, S, hE, hR, ?_⟩
  revert hF
  cases f ρ S with
  | ok o S1 =>
    intro hF H' μ' a ha hrs st t
    obtain ⟨t1, n1, r1⟩ := t.last
    have n2 : a ∉ μ' := fun q => q.elim n1 fun q => by
      obtain ⟨ν, e, _⟩ := st.gro
      subst e
      exact hrs q
    exact (show FitsG K H μ (.ok o S1) (VKont K Q) from hF) H' μ' st t1 _ (.inl (r1.repP n2))
  | er => exact fun z => z
  | no => exact fun z => z
theorem tEf_new {K : PySem.W.Frag} {f : Ev} {σ : List (Option V)} {H : Hp} {Q : VK} (h : tEv K (eNew f) σ H Q) : tEf K f σ H Q := by
  obtain ⟨μ, ρ, S, hE, hR, hF⟩ := h
  refine ⟨μ, ρ, S, hE, hR, ?_⟩
  unfold eNew at hF
  revert hF
  cases f ρ S with
  | ok o S1 =>
    intro hF H' μ' a ha hrs st t
    have len : μ'.st.length = S1.length := by have := t.len; simpa [Mem.grow] using this
    have st2 : Step H μ H' (μ'.grow [a]) := by
      obtain ⟨ν, e, f⟩ := st.gro
      refine ⟨st.ext, st.dom, ν ++ [a], by rw [e, Mem.grow, Mem.grow, Mem.grow, List.append_assoc], fun b q => ?_⟩
      rcases List.mem_append.mp q with q | q
      · exact f b q
      · rw [List.mem_singleton.mp q]; exact ha
    exact (show FitsG K H μ (.ok (.ref S1.length) (S1 ++ [o])) (VKont K Q) from hF) H' (μ'.grow [a]) st2 t _ (.inr (.inl ⟨_, a, rfl, by rw [← len]; simp [Mem.grow], rfl⟩))
  | er => exact fun z => z
  | no => exact fun z => z
theorem ee_pure {X : Cx} {e : Expr} {f : Ev} (h : EF X e f) : EE X e f := pe_mono h fun σ H Q h => tEf_pure h
theorem ee_new {X : Cx} {e : Expr} {f : Ev} (h : EF X e f) : EE X e (eNew f) := pe_mono h fun σ H Q h => tEf_new h
theorem Step.rse {H0 H : Hp} {μ0 μ : Mem} (st : Step H0 μ0 H μ) : μ.rs = μ0.rs := by
  obtain ⟨ν, e, _⟩ := st.gro
  subst e
  rfl
theorem Step.nrs {H0 H : Hp} {μ0 μ : Mem} (st : Step H0 μ0 H μ) {p : Addr} (h : p ∉ μ.rs) : p ∉ μ0.rs := by
  obtain ⟨ν, e, _⟩ := st.gro
  subst e
  exact h
/-- a rule that lays a new list -/
theorem FitsF.lay {K : PySem.W.Frag} {H0 H : Hp} {μ0 μ : Mem} {ps : List PV} {S : List PV} {Q : VK} (h : FitsF K H0 μ0 (.ok (.lst ps) S) Q) (st : Step H0 μ0 H μ) (t : Rel K H μ S) {vs : List V} (r : RepPs K H μ vs ps) : ∀ p, H p = none → Q (.ref p) (upd H p (.lst vs)) := fun p hp =>
  h (upd H p (.lst vs)) μ p (st.dom p hp) (st.nrs fun q => t.resn q hp) (st.trans (Step.laid H μ hp _)) (t.alloc hp r)
theorem FitsF.bind {α : Type} {K : PySem.W.Frag} {H : Hp} {μ : Mem} {r : R α} {f : α → List PV → R PV} {Q : VK} (h : FitsF K H μ (r.bind f) Q) : FitsG K H μ r (fun a S' H' μ' => FitsF K H' μ' (f a S') Q) := by
  cases r with
  | ok a S =>
    intro H' μ' s t
    have h : FitsF K H μ (f a S) Q := h
    revert h
    generalize f a S = r2
    intro h
    cases r2 with
    | ok b S2 => exact fun H2 μ2 p hp hrs s2 t2 => h H2 μ2 p (s.dom p hp) (s.nrs hrs) (s.trans s2) t2
    | er => exact h
    | no => exact h
  | er => exact h
  | no => exact h
def aNil : Ea := fun _ S => .ok [] S
def aCons (a : Ev) (r : Ea) : Ea := fun ρ S => (a ρ S).bind fun x S1 => (r ρ S1).bind fun xs S2 => .ok (x :: xs) S2
theorem ea_nil {X : Cx} : EA X [] aNil := pa_mono pa_nil fun σ H Q ⟨μ, ρ, S, hE, hR, hF⟩ => FitsG.here hF hR [] .nil
theorem ea_cons {X : Cx} {e : Expr} {es : List Expr} {fa : Ev} {fr : Ea} (ha : EE X e fa) (hr : EA X es fr) (hs : starEach (e :: es) X.env = (false, eval e X.env) :: starEach es X.env := by rfl) : EA X (e :: es) (aCons fa fr) :=
  pa_mono (pa_cons ha hr hs) fun σ H Q ⟨μ, ρ, S, hE, hR, hF⟩ => ⟨μ, ρ, S, hE, hR, (FitsG.bind hF).imp fun p S1 H1 μ1 s1 t1 h1 v rv =>
    ⟨μ1, ρ, S1, hE.step s1, t1, (FitsG.bind h1).imp fun qs S2 H2 μ2 s2 t2 h2 ws rw' => FitsG.here h2 t2 (v :: ws) (.cons (rv.step s2) rw')⟩⟩
def allPure (ps : List PV) : Bool := ps.all fun p => !p.isRef
/-- what a list of values is put to -/
def eArgs (g : List PV → Sto → R PV) (a : Ea) : Ev := fun ρ S => (a ρ S).bind fun xs S1 => g xs S1
theorem args {K : PySem.W.Frag} {fa : Ea} {g : List PV → Sto → R PV} {σ : List (Option V)} {H : Hp} {Q : VK} {r : List V → Hp → VK → Prop}
    (h : tEv K (eArgs g fa) σ H Q) (hr : ∀ H2 μ2 S2 vs ps, Reps K H2 μ2 vs ps → Rel K H2 μ2 S2 → FitsG K H2 μ2 (g ps S2) (VKont K Q) → r vs H2 Q) :
    tEa K fa σ H fun xs H1 => r xs H1 Q := by
  obtain ⟨μ, ρ, S, hE, hR, hF⟩ := h
  exact ⟨μ, ρ, S, hE, hR, (FitsG.bind hF).imp fun ps S1 H1 μ1 s1 t1 h1 vs rv => hr H1 μ1 S1 vs ps rv t1 h1⟩
theorem argsF {K : PySem.W.Frag} {fa : Ea} {g : List PV → Sto → R PV} {σ : List (Option V)} {H : Hp} {Q : VK} {r : List V → Hp → VK → Prop}
    (h : tEf K (eArgs g fa) σ H Q) (hr : ∀ H2 μ2 S2 vs ps, Reps K H2 μ2 vs ps → Rel K H2 μ2 S2 → FitsF K H2 μ2 (g ps S2) Q → r vs H2 Q) :
    tEa K fa σ H fun xs H1 => r xs H1 Q := by
  obtain ⟨μ, ρ, S, hE, hR, hF⟩ := h
  exact ⟨μ, ρ, S, hE, hR, (FitsF.bind hF).imp fun ps S1 H1 μ1 s1 t1 h1 vs rv => hr H1 μ1 S1 vs ps rv t1 h1⟩
def gTupP (ps : List PV) (S : Sto) : R PV := if allPure ps ∧ ps.length ≤ sizeLine then .ok (.tup ps) S else .no
def gLstP (ps : List PV) (S : Sto) : R PV := if allPure ps ∧ ps.length ≤ sizeLine then .ok (.lst ps) S else .no
section
variable {X : Cx} {pos : Pos} {es : List Expr} {fa : Ea}
theorem ee_tup {x1} (h : EA X es fa) : EE X (.Tuple es x1 pos) (eArgs gTupP fa) := pe_mono (pe_tup h) fun σ H Q hw => by
  refine args (r := fun xs H1 Q => xs.length ≤ sizeLine ∧ ∀ p, H1 p = none → Q (.ref p) (upd H1 p (.tup xs))) hw fun H2 μ2 S2 vs ps rv t hF => ?_
  unfold gTupP at hF
  split at hF
  · rename_i hc
    have rp := rv.pure hc.1
    refine ⟨by rw [rp.length]; exact hc.2, fun p hp => ?_⟩
    have s := Step.laid H2 μ2 hp (.tup vs)
    exact hF _ μ2 s (t.laid hp _) _ (.inl (.tup (.inl ⟨.inl upd_same, t.out hp⟩) (rp.step s)))
  · exact hF.elim
theorem ef_lst (h : EA X es fa) : EF X (.List es pos) (eArgs gLstP fa) := pe_mono (pe_lst h) fun σ H Q hw => by
  refine argsF (r := fun xs H1 Q => xs.length ≤ sizeLine ∧ ∀ p, H1 p = none → Q (.ref p) (upd H1 p (.lst xs))) hw fun H2 μ2 S2 vs ps rv t hF => ?_
  unfold gLstP at hF
  split at hF
  · rename_i hc
    have rp := rv.pure hc.1
    exact ⟨by rw [rp.length]; exact hc.2, FitsF.lay hF (Step.refl _ _) t rp⟩
  · exact hF.elim
end
def getL (p : PV) (S : Sto) : Option (List PV) := match p with
  | .lst xs => some xs
  | .frl xs => some xs
  | .ref n => match S[n]? with
    | some (.lst xs) => some xs
    | _ => none
  | _ => none
theorem getL_of {K H μ S v p xs} (t : Rel K H μ S) (r : Rep K H μ v p) (e : getL p S = some xs) : ∃ a vs, v = .ref a ∧ SqL K H a vs ∧ RepPs K H μ vs xs := by
  unfold getL at e
  split at e
  · cases e
    replace r := r.two
    rcases r with r | ⟨_, _, e, _⟩
    · cases r with
      | lst h1 n h2 => exact ⟨_, _, rfl, .inl (.inl h1), h2⟩
    · cases e
  · cases e
    replace r := r.two
    rcases r with r | ⟨_, _, e, _⟩
    · cases r with
      | frl h1 h2 => exact ⟨_, _, rfl, h1.sq, h2⟩
    · cases e
  · rename_i n
    split at e
    · rename_i ys e2
      cases e
      replace r := r.two
      rcases r with r | ⟨_, a, e3, e4, e5⟩
      · cases r
      · cases e3
        subst e5
        obtain ⟨vs, e6, r6⟩ := t.obj _ _ _ e4 e2
        exact ⟨a, vs, rfl, .inl (.inl e6), r6⟩
    · cases e
  · cases e
theorem Rep.tup_inv {K H μ v ps} (r : Rep K H μ v (.tup ps)) : ∃ a vs, v = .ref a ∧ TupAt K H μ a vs ∧ RepPs K H μ vs ps := by
  replace r := r.two
  rcases r with r | ⟨_, _, e, _⟩
  · cases r with
    | tup h1 h2 => exact ⟨_, _, rfl, h1, h2⟩
  · cases e
theorem Rep.lst_inv {K H μ v ps} (r : Rep K H μ v (.lst ps)) : ∃ a vs, v = .ref a ∧ H a = some (.lst vs) ∧ RepPs K H μ vs ps := by
  replace r := r.two
  rcases r with r | ⟨_, _, e, _⟩
  · cases r with
    | lst h1 n h2 => exact ⟨_, _, rfl, h1, h2⟩
  · cases e
/-- a tuple that is laid -/
theorem lay_tup {K H μ S ps vs} {k : PV → List PV → Hp → Mem → Prop} {Q : VK} (hk : ∀ p S H' μ', k p S H' μ' → ∀ v, Rep K H' μ' v p → Q v H') (hF : FitsG K H μ (.ok (.tup ps) S) k) (t : Rel K H μ S) (r : RepPs K H μ vs ps) : ∀ p, H p = none → Q (.ref p) (upd H p (.tup vs)) := fun p hp => by
  have s := Step.laid H μ hp (.tup vs)
  exact hk _ _ _ _ (hF _ μ s (t.laid hp _)) _ (.inl (.tup (.inl ⟨.inl upd_same, t.out hp⟩) (r.step s)))
/-- the answer is there already -/
theorem FitsG.val {K H μ S p v} {Q : VK} (hF : FitsG K H μ (.ok p S) (VKont K Q)) (t : Rel K H μ S) (r : Rep K H μ v p) : Q v H := FitsG.here hF t v r
def gAdd (p q : PV) (S : Sto) : R PV := match p, q with
  | .int i, .int j => .ok (.int (i + j)) S
  | .str a, .str b => if a.length + b.length ≤ sizeLine then .ok (.str (a ++ b)) S else .no
  | .tup xs, .tup ys => if xs.length + ys.length ≤ sizeLine then .ok (.tup (xs ++ ys)) S else .no
  | _, _ => .no
def gCat (p q : PV) (S : Sto) : R PV := match p, q with
  | .frl _, _ => .no
  | _, .frl _ => .no
  | p, q => match getL p S, getL q S with
    | some xs, some ys => if xs.length + ys.length ≤ sizeLine then .ok (.lst (xs ++ ys)) S else .no
    | _, _ => .no
def gSub (p q : PV) (S : Sto) : R PV := match p, q with
  | .int i, .int j => .ok (.int (i - j)) S
  | _, _ => .no
def gMul (p q : PV) (S : Sto) : R PV := match p, q with
  | .int i, .int j => if (-(2 ^ 64) < i ∧ i < 2 ^ 64) ∨ (-(2 ^ 64) < j ∧ j < 2 ^ 64) then .ok (.int (i * j)) S else .no
  | _, _ => .no
def gFdiv (p q : PV) (S : Sto) : R PV := match p, q with
  | .int i, .int j => if 0 < j ∧ j < 1073741824 then .ok (.int (i / j)) S else .no
  | _, _ => .no
def gMod (p q : PV) (S : Sto) : R PV := match p, q with
  | .int i, .int j => if 0 < j then .ok (.int (i % j)) S else .no
  | _, _ => .no
def gPow (p q : PV) (S : Sto) : R PV := match p, q with
  | .int i, .int j => if 0 ≤ j ∧ j ≤ 1000000 ∧ i.natAbs < 2 ^ 64 then .ok (.int (i ^ j.toNat)) S else .no
  | _, _ => .no
def gNeg (p : PV) (S : Sto) : R PV := match p with
  | .int i => .ok (.int (-i)) S
  | _ => .no
section
variable {X : Cx}
theorem op_addA : OpR X (binaryOp .Add) (fun x y H Q => (rI0 (fun i j => V.int (i + j)) x y H Q ∨ (∃ i j, x = .str i ∧ y = .str j ∧ i.length + j.length ≤ sizeLine ∧ Q (.str (i ++ j)) H)) ∨ rCatA X.K x y H Q) :=
  OpR.or (OpR.or op_add op_add_str) op_catA
theorem l_add {K : PySem.W.Frag} : L2R K (fun x y H Q => (rI0 (fun i j => V.int (i + j)) x y H Q ∨ (∃ i j, x = .str i ∧ y = .str j ∧ i.length + j.length ≤ sizeLine ∧ Q (.str (i ++ j)) H)) ∨ rCatA K x y H Q) gAdd := by
  intro Q H μ S v w p q rv rw' t hF
  unfold gAdd at hF
  split at hF
  · cases rep_int rv
    cases rep_int rw'
    exact .inl (.inl ⟨_, _, rfl, rfl, hF.val t (.inl (.int _))⟩)
  · split at hF
    · rename_i hc
      cases rep_str rv
      cases rep_str rw'
      exact .inl (.inr ⟨_, _, rfl, rfl, hc, hF.val t (.inl (.str _))⟩)
    · exact hF.elim
  · split at hF
    · rename_i xs ys hc
      obtain ⟨a, vs, rfl, h1, h2⟩ := rv.tup_inv
      obtain ⟨b, ws, rfl, g1, g2⟩ := rw'.tup_inv
      refine .inr ⟨a, b, vs, ws, rfl, rfl, h1.sq, g1.sq, by rw [h2.length, g2.length]; exact hc, fun e => ?_, fun e e2 => ?_, fun e e2 => ?_⟩
      · subst e
        have : xs = [] := List.eq_nil_of_length_eq_zero h2.length.symm
        subst this
        exact hF.val t rw'
      · subst e2
        have : ys = [] := List.eq_nil_of_length_eq_zero g2.length.symm
        subst this
        rw [List.append_nil] at hF
        exact hF.val t rv
      · exact lay_tup (fun p S H' μ' h => h) hF t (h2.append g2)
    · exact hF.elim
  · exact hF.elim
theorem l_sub {K : PySem.W.Frag} : L2R K (rI0 fun i j => .int (i - j)) gSub := by
  intro Q H μ S v w p q rv rw' t hF
  unfold gSub at hF
  split at hF
  · cases rep_int rv
    cases rep_int rw'
    exact ⟨_, _, rfl, rfl, hF.val t (.inl (.int _))⟩
  · exact hF.elim
theorem l_mul {K : PySem.W.Frag} : L2R K (rI CMul fun i j => .int (i * j)) gMul := by
  intro Q H μ S v w p q rv rw' t hF
  unfold gMul at hF
  split at hF
  · split at hF
    · rename_i hc
      cases rep_int rv
      cases rep_int rw'
      exact ⟨_, _, rfl, rfl, hc, hF.val t (.inl (.int _))⟩
    · exact hF.elim
  · exact hF.elim
theorem l_fdiv {K : PySem.W.Frag} : L2R K (rI CDivW fun i j => .int (i / j)) gFdiv := by
  intro Q H μ S v w p q rv rw' t hF
  unfold gFdiv at hF
  split at hF
  · split at hF
    · rename_i hc
      cases rep_int rv
      cases rep_int rw'
      exact ⟨_, _, rfl, rfl, wide_div (b := 30) hc.1 (by have := hc.2; omega) (by decide) (by decide), hF.val t (.inl (.int _))⟩
    · exact hF.elim
  · exact hF.elim
theorem l_mod {K : PySem.W.Frag} : L2R K (rI (fun _ j => 0 < j) fun i j => .int (i % j)) gMod := by
  intro Q H μ S v w p q rv rw' t hF
  unfold gMod at hF
  split at hF
  · split at hF
    · rename_i hc
      cases rep_int rv
      cases rep_int rw'
      exact ⟨_, _, rfl, rfl, hc, hF.val t (.inl (.int _))⟩
    · exact hF.elim
  · exact hF.elim
theorem l_pow {K : PySem.W.Frag} : L2R K (rI CPow fun i j => .int (i ^ j.toNat)) gPow := by
  intro Q H μ S v w p q rv rw' t hF
  unfold gPow at hF
  split at hF
  · split at hF
    · rename_i hc
      cases rep_int rv
      cases rep_int rw'
      exact ⟨_, _, rfl, rfl, hc, hF.val t (.inl (.int _))⟩
    · exact hF.elim
  · exact hF.elim
theorem l_neg {K : PySem.W.Frag} : L1R K (rU fun i => .int (-i)) gNeg := by
  intro Q H μ S v p rv t hF
  unfold gNeg at hF
  split at hF
  · cases rep_int rv
    exact ⟨_, rfl, hF.val t (.inl (.int _))⟩
  · exact hF.elim
theorem getL_trk {K H μ S v p xs} (t : Rel K H μ S) (r : Rep K H μ v p) (e : getL p S = some xs) (hn : ∀ ys, p ≠ .frl ys) : ∃ a vs, v = .ref a ∧ H a = some (.lst vs) ∧ RepPs K H μ vs xs := by
  unfold getL at e
  split at e
  · cases e
    exact r.lst_inv
  · exact absurd rfl (hn _)
  · split at e
    · rename_i ys e2
      cases e
      replace r := r.two
      rcases r with r | ⟨_, a, e3, e4, e5⟩
      · cases r
      · cases e3
        subst e5
        obtain ⟨vs, e6, r6⟩ := t.obj _ _ _ e4 e2
        exact ⟨a, vs, rfl, e6, r6⟩
    · cases e
  · cases e
/-- xs + ys of lists: a new one -/
theorem ef_cat {a b : Expr} {fa fb : Ev} {pos : Pos} (ha : EE X a fa) (hb : EE X b fb) : EF X (.BinOp a .Add b pos) (eOp gCat fa fb) :=
  pe_mono (pe_op op_cat ha hb) fun σ H Q ⟨μ, ρ, S, hE, hR, hF⟩ => ⟨μ, ρ, S, hE, hR, (FitsF.bind hF).imp fun p S1 H1 μ1 s1 t1 h1 v rv =>
    ⟨μ1, ρ, S1, hE.step s1, t1, (FitsF.bind h1).imp fun q S2 H2 μ2 s2 t2 h2 w rw' => by
      unfold gCat at h2
      split at h2
      · exact h2.elim
      · exact h2.elim
      · rename_i n1 n2
        split at h2
        · rename_i xs ys e1 e2
          split at h2
          · rename_i hc
            obtain ⟨x, vs, rfl, g1, g2⟩ := getL_trk t2 (rv.step s2) e1 n1
            obtain ⟨y, ws, rfl, k1, k2⟩ := getL_trk t2 rw' e2 n2
            exact ⟨x, y, vs, ws, rfl, rfl, g1, k1, by rw [g2.length, k2.length]; exact hc, FitsF.lay h2 (Step.refl _ _) t2 (g2.append k2)⟩
          · exact h2.elim
        · exact h2.elim⟩⟩
def gLt (p q : PV) (S : Sto) : R PV := match p, q with
  | .int i, .int j => .ok (.bl (decide (i < j))) S
  | _, _ => .no
def gLe (p q : PV) (S : Sto) : R PV := match p, q with
  | .int i, .int j => .ok (.bl (decide (i ≤ j))) S
  | _, _ => .no
def gGt (p q : PV) (S : Sto) : R PV := match p, q with
  | .int i, .int j => .ok (.bl (decide (j < i))) S
  | _, _ => .no
def gGe (p q : PV) (S : Sto) : R PV := match p, q with
  | .int i, .int j => .ok (.bl (decide (j ≤ i))) S
  | _, _ => .no
def gIsN (p q : PV) (S : Sto) : R PV := match q, p with
  | .non, .non => .ok (.bl true) S
  | .non, _ => .ok (.bl false) S
  | _, _ => .no
def gNotN (p q : PV) (S : Sto) : R PV := match q, p with
  | .non, .non => .ok (.bl false) S
  | .non, _ => .ok (.bl true) S
  | _, _ => .no
end
end Py
set_option Elab.async false
set_option maxRecDepth 100000
set_option maxHeartbeats 4000000
set_option linter.all false
namespace Py
open PySem PySem.Spec PyProof.Rows L2
variable [CT]
mutual
def toD : PV → PyData
  | .non => .none
  | .bl b => .bool b
  | .int i => .int i
  | .str x => .str x
  | .tup xs => .tuple (toDs xs)
  | .lst xs => .list (toDs xs)
  | .frl xs => .list (toDs xs)
  | .dic _ _ => .dict []
  | .ref _ => .dict []
  | .adr _ => .dict []
  | .clo _ _ => .dict []
  | .err _ _ => .dict []
def toDs : List PV → List PyData
  | [] => []
  | x :: xs => toD x :: toDs xs
end
section
variable {K : PySem.W.Frag} {H : Hp} {μ : Mem}
mutual
theorem RepP.dp : ∀ {p : PV} {v : V}, RepP K H μ v p → (toD p).canLay0 = true → Dp K H v (toD p)
  | .non, _, h, _ => by cases h; exact .non
  | .bl b, _, h, _ => by cases h; exact .bl b
  | .int b, _, h, _ => by cases h; exact .int b
  | .str b, _, h, _ => by cases h; exact .str b
  | .tup ps, _, h, c => by
    cases h with
    | tup h1 h2 =>
      rw [toD] at c ⊢
      simp only [PyData.canLay0] at c
      exact .tup h1.sq (RepPs.dps h2 c)
  | .lst ps, _, h, c => by
    cases h with
    | lst h1 n h2 =>
      rw [toD] at c ⊢
      simp only [PyData.canLay0] at c
      exact .lst (.inl (.inl h1)) (RepPs.dps h2 c)
  | .frl ps, _, h, c => by
    cases h with
    | frl h1 h2 =>
      rw [toD] at c ⊢
      simp only [PyData.canLay0] at c
      exact .lst h1.sq (RepPs.dps h2 c)
  | .dic ks ps, _, h, c => by
    rw [toD] at c
    simp [PyData.canLay0] at c
  | .ref n, _, h, c => by cases h
theorem RepPs.dps : ∀ {ps : List PV} {vs : List V}, RepPs K H μ vs ps → PyData.canLayAll0 (toDs ps) = true → DpAll K H vs (toDs ps)
  | [], _, h, _ => by cases h; rw [toDs]; exact .nil
  | p :: ps, _, h, c => by
    cases h with
    | cons h1 h2 =>
      rw [toDs] at c ⊢
      simp only [PyData.canLayAll0, Bool.and_eq_true] at c
      exact .cons (RepP.dp h1 c.1) (RepPs.dps h2 c.2)
end
end
/-- == of two values -/
def gEq (p q : PV) (S : Sto) : R PV := match p, q with
  | .int i, .int j => .ok (.bl (decide (i = j))) S
  | .str i, .str j => .ok (.bl (decide (i = j))) S
  | .bl i, .bl j => .ok (.bl (decide (i = j))) S
  | .ref _, _ => .no
  | _, .ref _ => .no
  | p, q => if SeqAt.shaped (toD p) = true ∧ SeqAt.shaped (toD q) = true then .ok (.bl (PyData.eqv (toD p) (toD q))) S else .no
def gNe (p q : PV) (S : Sto) : R PV := match p, q with
  | .int i, .int j => .ok (.bl (!decide (i = j))) S
  | .str i, .str j => .ok (.bl (!decide (i = j))) S
  | .bl i, .bl j => .ok (.bl (!decide (i = j))) S
  | .ref _, _ => .no
  | _, .ref _ => .no
  | p, q => if SeqAt.shaped (toD p) = true ∧ SeqAt.shaped (toD q) = true then .ok (.bl (!PyData.eqv (toD p) (toD q))) S else .no
theorem noref {p : PV} (h : ∀ n, p = .ref n → False) (h2 : p.isClo = false) : p.isRef = false := by
  cases p <;> first | rfl | exact (h _ rfl).elim | cases h2
theorem nclo_of {p : PV} (c : SeqAt.shaped (toD p) = true) : p.isClo = false := by
  cases p <;> first | rfl | (have c := SeqAt.canLay_of_shaped c; simp [toD, PyData.canLay0] at c)
theorem Rep.dp {K H μ v p} (r : Rep K H μ v p) (n : ∀ n, p = .ref n → False) (c : SeqAt.shaped (toD p) = true) : Dp K H v (toD p) :=
  (r.pure (noref n (nclo_of c))).dp (SeqAt.canLay_of_shaped c)
theorem l_eq {K : PySem.W.Frag} : L2R K (fun x y H Q => rEq x y H Q ∨ rEqD K x y H Q) gEq := by
  intro Q H μ S v w p q rv rw' t hF
  unfold gEq at hF
  split at hF
  · cases rep_int rv; cases rep_int rw'
    refine .inl ⟨rfl, ?_⟩
    have := hF.val t (.inl (.bl _))
    rw [show decide (V.int _ = V.int _) = _ from by rw [dec_int, Bool.beq_eq_decide_eq]]
    exact this
  · cases rep_str rv; cases rep_str rw'
    refine .inl ⟨rfl, ?_⟩
    have := hF.val t (.inl (.bl _))
    rw [show decide (V.str _ = V.str _) = _ from by rw [dec_str, Bool.beq_eq_decide_eq]]
    exact this
  · cases rep_bl rv; cases rep_bl rw'
    refine .inl ⟨rfl, ?_⟩
    have := hF.val t (.inl (.bl _))
    rw [show decide (V.bl _ = V.bl _) = _ from by rw [dec_bl, Bool.beq_eq_decide_eq]]
    exact this
  · exact hF.elim
  · exact hF.elim
  · rename_i n1 n2
    split at hF
    · rename_i hc
      exact .inr ⟨_, _, rv.dp (by assumption) hc.1, rw'.dp (by assumption) hc.2, hc.1, hc.2, hF.val t (.inl (.bl _))⟩
    · exact hF.elim
theorem l_ne {K : PySem.W.Frag} : L2R K (fun x y H Q => rNe x y H Q ∨ rNeD K x y H Q) gNe := by
  intro Q H μ S v w p q rv rw' t hF
  unfold gNe at hF
  split at hF
  · cases rep_int rv; cases rep_int rw'
    refine .inl ⟨rfl, ?_⟩
    have := hF.val t (.inl (.bl _))
    rw [show decide (V.int _ = V.int _) = _ from by rw [dec_int, Bool.beq_eq_decide_eq]]
    exact this
  · cases rep_str rv; cases rep_str rw'
    refine .inl ⟨rfl, ?_⟩
    have := hF.val t (.inl (.bl _))
    rw [show decide (V.str _ = V.str _) = _ from by rw [dec_str, Bool.beq_eq_decide_eq]]
    exact this
  · cases rep_bl rv; cases rep_bl rw'
    refine .inl ⟨rfl, ?_⟩
    have := hF.val t (.inl (.bl _))
    rw [show decide (V.bl _ = V.bl _) = _ from by rw [dec_bl, Bool.beq_eq_decide_eq]]
    exact this
  · exact hF.elim
  · exact hF.elim
  · rename_i n1 n2
    split at hF
    · rename_i hc
      exact .inr ⟨_, _, rv.dp (by assumption) hc.1, rw'.dp (by assumption) hc.2, hc.1, hc.2, hF.val t (.inl (.bl _))⟩
    · exact hF.elim
theorem op_eqA {X : Cx} (hu : X.A.units + 64 < cLine) : OpR X (compareOp .Eq) (fun x y H Q => rEq x y H Q ∨ rEqD X.K x y H Q) := OpR.or op_eq (op_eqD hu)
theorem op_neA {X : Cx} (hu : X.A.units + 64 < cLine) : OpR X (compareOp .NotEq) (fun x y H Q => rNe x y H Q ∨ rNeD X.K x y H Q) := OpR.or op_ne (op_neD hu)
section
variable {K : PySem.W.Frag}
theorem l_lt : L2R K (rI0 fun i j => .bl (decide (i < j))) gLt := by
  intro Q H μ S v w p q rv rw' t hF
  unfold gLt at hF
  split at hF
  · cases rep_int rv; cases rep_int rw'
    exact ⟨_, _, rfl, rfl, hF.val t (.inl (.bl _))⟩
  · exact hF.elim
theorem l_le : L2R K (rI0 fun i j => .bl (decide (i ≤ j))) gLe := by
  intro Q H μ S v w p q rv rw' t hF
  unfold gLe at hF
  split at hF
  · cases rep_int rv; cases rep_int rw'
    exact ⟨_, _, rfl, rfl, hF.val t (.inl (.bl _))⟩
  · exact hF.elim
theorem l_gt : L2R K (rI0 fun i j => .bl (decide (j < i))) gGt := by
  intro Q H μ S v w p q rv rw' t hF
  unfold gGt at hF
  split at hF
  · cases rep_int rv; cases rep_int rw'
    exact ⟨_, _, rfl, rfl, hF.val t (.inl (.bl _))⟩
  · exact hF.elim
theorem l_ge : L2R K (rI0 fun i j => .bl (decide (j ≤ i))) gGe := by
  intro Q H μ S v w p q rv rw' t hF
  unfold gGe at hF
  split at hF
  · cases rep_int rv; cases rep_int rw'
    exact ⟨_, _, rfl, rfl, hF.val t (.inl (.bl _))⟩
  · exact hF.elim
end
def flatP : PV → Bool
  | .non => true
  | .bl _ => true
  | .int _ => true
  | .str _ => true
  | _ => false
def eqF : PV → PV → Bool
  | .non, .non => true
  | .bl a, .bl b => a == b
  | .bl a, .int b => (if a then 1 else 0) == b
  | .int a, .bl b => a == (if b then 1 else 0)
  | .int a, .int b => a == b
  | .str a, .str b => a == b
  | _, _ => false
def getQ (p : PV) (S : Sto) : Option (List PV) := match p with
  | .tup xs => some xs
  | p => getL p S
def gIn (neg : Bool) (p q : PV) (S : Sto) : R PV := match p, q with
  | .str a, .str b => if a.cps.size = 1 then .ok (.bl (if neg then !decide (a.cps.getD 0 0 ∈ b.cps.toList) else decide (a.cps.getD 0 0 ∈ b.cps.toList))) S else .no
  | p, q => match getQ q S with
    | some xs => if flatP p = true ∧ xs.all flatP = true then .ok (.bl (if neg then !xs.any (fun y => eqF y p) else xs.any (fun y => eqF y p))) S else .no
    | none => .no
section
variable {K : PySem.W.Frag} {H : Hp} {μ : Mem}
theorem Rep.flat {v p} (r : Rep K H μ v p) (f : flatP p = true) : flatV v = true ∧ (∀ w q, Rep K H μ w q → flatP q = true → eqV w v = eqF q p) := by
  cases p <;> first | (cases f; done) | skip
  · cases rep_non r
    refine ⟨rfl, fun w q rq fq => ?_⟩
    cases q <;> first | (cases fq; done) | (cases rep_non rq; rfl) | (cases rep_bl rq; rfl) | (cases rep_int rq; rfl) | (cases rep_str rq; rfl)
  · cases rep_bl r
    refine ⟨rfl, fun w q rq fq => ?_⟩
    cases q <;> first | (cases fq; done) | (cases rep_non rq; rfl) | (cases rep_bl rq; rfl) | (cases rep_int rq; rfl) | (cases rep_str rq; rfl)
  · cases rep_int r
    refine ⟨rfl, fun w q rq fq => ?_⟩
    cases q <;> first | (cases fq; done) | (cases rep_non rq; rfl) | (cases rep_bl rq; rfl) | (cases rep_int rq; rfl) | (cases rep_str rq; rfl)
  · cases rep_str r
    refine ⟨rfl, fun w q rq fq => ?_⟩
    cases q <;> first | (cases fq; done) | (cases rep_non rq; rfl) | (cases rep_bl rq; rfl) | (cases rep_int rq; rfl) | (cases rep_str rq; rfl)
theorem RepPs.flat {v p} (r : Rep K H μ v p) (f : flatP p = true) : ∀ {ps : List PV} {vs : List V}, RepPs K H μ vs ps → ps.all flatP = true → vs.all flatV = true ∧ inV v vs = ps.any (fun y => eqF y p)
  | [], _, h, _ => by cases h; exact ⟨rfl, rfl⟩
  | q :: ps, _, h, c => by
    cases h with
    | cons h1 h2 =>
      simp only [List.all_cons, Bool.and_eq_true] at c
      obtain ⟨a, b⟩ := RepPs.flat r f h2 c.2
      refine ⟨by simp only [List.all_cons, (Rep.flat (.inl h1) c.1).1, a, Bool.and_self], ?_⟩
      unfold inV at b ⊢
      rw [List.any_cons, List.any_cons, b, (r.flat f).2 _ _ (.inl h1) c.1]
end
theorem getQ_of {K H μ S v p xs} (t : Rel K H μ S) (r : Rep K H μ v p) (e : getQ p S = some xs) : ∃ a vs, v = .ref a ∧ (SqL K H a vs ∨ SqT K H a vs) ∧ RepPs K H μ vs xs := by
  unfold getQ at e
  split at e
  · cases e
    obtain ⟨a, vs, e, h1, h2⟩ := r.tup_inv
    exact ⟨a, vs, e, .inr h1.sq, h2⟩
  · obtain ⟨a, vs, e, h1, h2⟩ := getL_of t r e
    exact ⟨a, vs, e, .inl h1, h2⟩
theorem single {a : Str} (h : a.cps.size = 1) : a = ⟨#[a.cps.getD 0 0]⟩ := by
  cases a with
  | mk c =>
    congr 1
    apply Array.ext
    · simpa using h
    · intro i h1 h2
      have : i = 0 := by simp at h2; omega
      subst this
      simp [Array.getD, h1]
theorem op_inA {X : Cx} : OpR X (compareOp .In) (fun x y H Q => (∃ (c : Nat) (z : Str), x = .str ⟨#[c]⟩ ∧ y = .str z ∧ Q (.bl (decide (c ∈ z.cps.toList))) H) ∨ rIn X.K false x y H Q) := OpR.or op_in_sign op_in_seq
theorem l_in {K : PySem.W.Frag} : L2R K (fun x y H Q => (∃ (c : Nat) (z : Str), x = .str ⟨#[c]⟩ ∧ y = .str z ∧ Q (.bl (decide (c ∈ z.cps.toList))) H) ∨ rIn K false x y H Q) (gIn false) := by
  intro Q H μ S v w p q rv rw' t hF
  unfold gIn at hF
  split at hF
  · split at hF
    · rename_i a b hc
      cases rep_str rv; cases rep_str rw'
      exact .inl ⟨a.cps.getD 0 0, b, by rw [← single hc], rfl, hF.val t (.inl (.bl _))⟩
    · exact hF.elim
  · split at hF
    · rename_i xs e
      split at hF
      · rename_i hc
        obtain ⟨a, vs, rfl, h1, h2⟩ := getQ_of t rw' e
        obtain ⟨f1, f2⟩ := RepPs.flat rv hc.1 h2 hc.2
        refine .inr ⟨a, vs, rfl, h1, (rv.flat hc.1).1, f1, ?_⟩
        rw [f2]
        exact hF.val t (.inl (.bl _))
      · exact hF.elim
    · exact hF.elim
def gIx (p q : PV) (S : Sto) : R PV := match p, q with
  | .str z, .int i => if z.length ≤ sizeLine then match atI z.cps.toList i with
    | some c => .ok (.str ⟨#[c]⟩) S
    | none => .no
    else .no
  | p, .int i => match getQ p S with
    | some xs => match atI xs i with
      | some x => .ok x S
      | none => .no
    | none => .no
  | _, _ => .no
theorem atI_rep {K H μ} {ps : List PV} {vs : List V} {i : Int} {p : PV} (r : RepPs K H μ vs ps) (e : atI ps i = some p) : ∃ v, atI vs i = some v ∧ RepP K H μ v p := by
  unfold atI at e ⊢
  rw [r.length]
  cases h : ixN ps.length i with
  | none => rw [h] at e; cases e
  | some j =>
    rw [h] at e
    exact r.get (i := j) e
theorem l_ix {K : PySem.W.Frag} : L2R K (rIx K) gIx := by
  intro Q H μ S v w p q rv rw' t hF
  unfold gIx at hF
  split at hF
  · split at hF
    · rename_i hc
      split at hF
      · rename_i c e
        cases rep_str rv; cases rep_int rw'
        exact .inr (.inr ⟨_, _, c, rfl, rfl, hc, e, hF.val t (.inl (.str _))⟩)
      · exact hF.elim
    · exact hF.elim
  · split at hF
    · rename_i xs e
      split at hF
      · rename_i x e2
        cases rep_int rw'
        obtain ⟨a, vs, rfl, h1, h2⟩ := getQ_of t rv e
        obtain ⟨u, e3, r3⟩ := atI_rep h2 e2
        have q := hF.val t (.inl r3)
        rcases h1 with h1 | h1
        · exact .inl ⟨a, vs, _, u, rfl, rfl, h1, e3, q⟩
        · exact .inr (.inl ⟨a, vs, _, u, rfl, rfl, h1, e3, q⟩)
      · exact hF.elim
    · exact hF.elim
  · exact hF.elim
theorem ee_ix {X : Cx} {a b : Expr} {fa fb : Ev} {pos : Pos} (ha : EE X a fa) (hb : EE X b fb) (hs : PlainIx b) : EE X (.Subscript a b pos) (eOp gIx fa fb) :=
  pe_mono (pe_ix ix_seq ha hb hs) fun σ H Q h => two h fun H2 μ2 S2 v w p q rv rw' t h2 => l_ix Q H2 μ2 S2 v w p q rv rw' t h2
abbrev Eo := Env → Sto → R (Option Int)
def oNone : Eo := fun _ S => .ok none S
def oSome (a : Ev) : Eo := fun ρ S => (a ρ S).bind fun p S1 => match p with
  | .int i => .ok (some i) S1
  | _ => .no
def tEo (K : PySem.W.Frag) (f : Eo) : L2.St → Hp → (Option Int → Hp → Prop) → Prop := fun σ H Q => ∃ μ ρ S, ERel K H μ σ ρ ∧ Rel K H μ S ∧ FitsG K H μ (f ρ S) (fun o _ H' _ => Q o H')
def EO (X : Cx) (e : Option Expr) (f : Eo) : Prop := PO X e (tEo X.K f)
end Py
set_option Elab.async false
set_option maxRecDepth 100000
set_option maxHeartbeats 4000000
set_option linter.all false
namespace Py
open PySem PySem.Spec PyProof.Rows L2
variable [CT]
theorem po_mono {X : Cx} {e : Option Expr} {t t' : TO} (h : PO X e t) (f : ∀ σ H Q, t' σ H Q → t σ H Q) : PO X e t' := ⟨fun pins s σ H Q I q => h.run pins s σ H Q I (f σ H Q q)⟩
theorem eo_none {X : Cx} : EO X none oNone := po_mono po_none fun σ H Q ⟨μ, ρ, S, hE, hR, hF⟩ => FitsG.here hF hR
theorem eo_some {X : Cx} {e : Expr} {fa : Ev} (h : EE X e fa) : EO X (some e) (oSome fa) := po_mono (po_some h) fun σ H Q ⟨μ, ρ, S, hE, hR, hF⟩ =>
  ⟨μ, ρ, S, hE, hR, (FitsG.bind hF).imp fun p S1 H1 μ1 s1 t1 h1 v rv => by
    split at h1
    · rename_i i
      cases rep_int rv
      exact ⟨i, rfl, FitsG.here h1 t1⟩
    · exact h1.elim⟩
/-- the items of xs[lo:hi] -/
def cutP (xs : List PV) (lo hi : Option Int) : List PV := (xs.drop (HT.sIx xs.length 0 lo)).take (HT.sIx xs.length xs.length hi - HT.sIx xs.length 0 lo)
def gSl (p : PV) (lo hi : Option Int) (S : Sto) : R PV := match p with
  | .tup xs => .ok (.tup (cutP xs lo hi)) S
  | .str z => if z.length ≤ sizeLine then .ok (.str (cutS z lo hi)) S else .no
  | _ => .no
def gSlF (p : PV) (lo hi : Option Int) (S : Sto) : R PV := match getL p S with
  | some xs => .ok (.lst (cutP xs lo hi)) S
  | none => .no
def eSl (a : Ev) (l u : Eo) : Ev := fun ρ S => (a ρ S).bind fun p S1 => (l ρ S1).bind fun lo S2 => (u ρ S2).bind fun hi S3 => gSl p lo hi S3
def fSl (a : Ev) (l u : Eo) : Ev := fun ρ S => (a ρ S).bind fun p S1 => (l ρ S1).bind fun lo S2 => (u ρ S2).bind fun hi S3 => gSlF p lo hi S3
theorem RepPs.cut {K H μ ps vs} (r : RepPs K H μ vs ps) (lo hi : Option Int) : RepPs K H μ (cutV vs lo hi) (cutP ps lo hi) := by
  unfold cutV cutP
  rw [r.length]
  exact (r.drop _).take _
theorem cutP_all {xs : List PV} {lo hi : Option Int} (h : HT.sIx xs.length 0 lo = 0 ∧ HT.sIx xs.length xs.length hi = xs.length) : cutP xs lo hi = xs := by
  unfold cutP
  rw [h.1, h.2]
  simp
section
variable {X : Cx} {e : Expr} {lo hi : Option Expr} {fa : Ev} {fl fu : Eo} {pos p2 : Pos}
theorem ee_sl (ha : EE X e fa) (hl : EO X lo fl) (hu : EO X hi fu) : EE X (.Subscript e (.Slice lo hi none p2) pos) (eSl fa fl fu) :=
  pe_mono (pe_slice (SlR.or sl_tupA sl_str) ha hl hu) fun σ H Q ⟨μ, ρ, S, hE, hR, hF⟩ => ⟨μ, ρ, S, hE, hR, (FitsG.bind hF).imp fun p S1 H1 μ1 s1 t1 h1 v rv =>
    ⟨μ1, ρ, S1, hE.step s1, t1, (FitsG.bind h1).imp fun l S2 H2 μ2 s2 t2 h2 =>
      ⟨μ2, ρ, S2, (hE.step s1).step s2, t2, (FitsG.bind h2).imp fun u S3 H3 μ3 s3 t3 h3 => by
        have rv := (rv.step s2).step s3
        unfold gSl at h3
        split at h3
        · rename_i xs
          obtain ⟨a, vs, rfl, g1, g2⟩ := rv.tup_inv
          refine .inl ⟨a, vs, rfl, g1.sq, fun hw => ?_, fun hw => ?_⟩
          · rw [g2.length] at hw
            rw [cutP_all hw] at h3
            exact h3.val t3 rv
          · exact lay_tup (fun p S H' μ' h => h) h3 t3 (g2.cut l u)
        · split at h3
          · rename_i hc
            cases rep_str rv
            exact .inr ⟨_, rfl, hc, h3.val t3 (.inl (.str _))⟩
          · exact h3.elim
        · exact h3.elim⟩⟩⟩
theorem ef_sl (ha : EE X e fa) (hl : EO X lo fl) (hu : EO X hi fu) : EF X (.Subscript e (.Slice lo hi none p2) pos) (fSl fa fl fu) :=
  pe_mono (pe_slice sl_list ha hl hu) fun σ H Q ⟨μ, ρ, S, hE, hR, hF⟩ => ⟨μ, ρ, S, hE, hR, (FitsF.bind hF).imp fun p S1 H1 μ1 s1 t1 h1 v rv =>
    ⟨μ1, ρ, S1, hE.step s1, t1, (FitsF.bind h1).imp fun l S2 H2 μ2 s2 t2 h2 =>
      ⟨μ2, ρ, S2, (hE.step s1).step s2, t2, (FitsF.bind h2).imp fun u S3 H3 μ3 s3 t3 h3 => by
        have rv := (rv.step s2).step s3
        unfold gSlF at h3
        split at h3
        · rename_i xs e
          obtain ⟨a, vs, rfl, g1, g2⟩ := getL_of t3 rv e
          exact ⟨a, vs, rfl, g1, FitsF.lay h3 (Step.refl _ _) t3 (g2.cut l u)⟩
        · exact h3.elim⟩⟩⟩
end
def truP (p : PV) (S : Sto) : R Bool := match p with
  | .bl b => .ok b S
  | .non => .ok false S
  | .int i => .ok (i != 0) S
  | .str y => if y.length ≤ sizeLine then .ok ((y.length : Int) != 0) S else .no
  | p => match getQ p S with
    | some xs => .ok (!xs.isEmpty) S
    | none => .no
theorem RepPs.emp {K H μ vs ps} (r : RepPs K H μ vs ps) : vs.isEmpty = ps.isEmpty := by
  cases r <;> rfl
def tT (a : Ev) : Et := fun ρ S => (a ρ S).bind truP
def eAndV (a b : Ev) : Ev := fun ρ S => (a ρ S).bind fun p S1 => (toB p S1).bind fun c S2 => if c = true then b ρ S2 else .ok (.bl false) S2
def eOrV (a b : Ev) : Ev := fun ρ S => (a ρ S).bind fun p S1 => (toB p S1).bind fun c S2 => if c = true then .ok (.bl true) S2 else b ρ S2
def eNotV (a : Ev) : Ev := fun ρ S => (a ρ S).bind fun p S1 => (toB p S1).bind fun c S2 => .ok (.bl (!c)) S2
def eNotT (a : Ev) : Ev := fun ρ S => (a ρ S).bind fun p S1 => (truP p S1).bind fun c S2 => .ok (.bl (!c)) S2
def eIf (t : Et) (a b : Ev) : Ev := fun ρ S => (t ρ S).bind fun c S1 => if c = true then a ρ S1 else b ρ S1
theorem truP_of {K H μ S p v} {k : Bool → List PV → Hp → Mem → Prop} (t : Rel K H μ S) (r : Rep K H μ v p) (h : FitsG K H μ (truP p S) k) : ∃ b, TruV K v H b ∧ k b S H μ ∧ truP p S = .ok b S := by
  unfold truP at h ⊢
  split at h
  · cases rep_bl r; exact ⟨_, rfl, FitsG.here h t, rfl⟩
  · cases rep_non r; exact ⟨_, rfl, FitsG.here h t, rfl⟩
  · cases rep_int r; exact ⟨_, rfl, FitsG.here h t, rfl⟩
  · split at h
    · rename_i hc
      cases rep_str r; exact ⟨_, ⟨hc, rfl⟩, FitsG.here h t, by simp only [hc, if_true]⟩
    · exact h.elim
  · split at h
    · rename_i xs e
      obtain ⟨a, vs, rfl, g1, g2⟩ := getQ_of t r e
      refine ⟨!xs.isEmpty, ?_, FitsG.here h t, by simp only [e]⟩
      rw [← g2.emp]
      rcases g1 with g1 | g1
      · exact .inl ⟨vs, g1, rfl⟩
      · exact .inr (.inl ⟨vs, g1, rfl⟩)
    · exact h.elim
section
variable {X : Cx} {a b c : Expr} {fa fb : Ev} {ft : Et} {pos : Pos}
theorem et_truth (ha : EE X a fa) (he : ∀ whole, isTrue a X.env whole = (do let v ← whole; standAt a.pos; holding [v] (truthy v)) := by intro _; rfl) : ET X a (tT fa) :=
  pt_mono (pt_truth ha he) fun σ H Q ⟨μ, ρ, S, hE, hR, hF⟩ => ⟨μ, ρ, S, hE, hR, (FitsG.bind hF).imp fun p S1 H1 μ1 s1 t1 h1 v rv => by
    obtain ⟨b, h2, h3, _⟩ := truP_of t1 rv h1
    exact ⟨b, h2, h3⟩⟩
theorem ee_one {op} (h : EE X a fa) : EE X (.BoolOp op [a] pos) fa := pe_mono (pe_one h) fun _ _ _ h => h
theorem ee_and {rest : List Expr} (ha : EE X a fa) (hb : EE X (.BoolOp .And (b :: rest) pos) fb) : EE X (.BoolOp .And (a :: b :: rest) pos) (eAndV fa fb) :=
  pe_mono (pe_and ha hb) fun σ H Q ⟨μ, ρ, S, hE, hR, hF⟩ => ⟨μ, ρ, S, hE, hR, (FitsG.bind hF).imp fun p S1 H1 μ1 s1 t1 h1 v rv => by
    obtain ⟨d, rfl, h2⟩ := toB_of (FitsG.bind h1)
    have h3 := FitsG.here h2 t1
    refine ⟨d, rep_bl rv, ?_⟩
    cases d with
    | true => exact iteT ⟨μ1, ρ, S1, hE.step s1, t1, h3⟩
    | false => exact iteF (FitsG.val h3 t1 (.inl (.bl _)))⟩
theorem ee_or {rest : List Expr} (ha : EE X a fa) (hb : EE X (.BoolOp .Or (b :: rest) pos) fb) : EE X (.BoolOp .Or (a :: b :: rest) pos) (eOrV fa fb) :=
  pe_mono (pe_or ha hb) fun σ H Q ⟨μ, ρ, S, hE, hR, hF⟩ => ⟨μ, ρ, S, hE, hR, (FitsG.bind hF).imp fun p S1 H1 μ1 s1 t1 h1 v rv => by
    obtain ⟨d, rfl, h2⟩ := toB_of (FitsG.bind h1)
    have h3 := FitsG.here h2 t1
    refine ⟨d, rep_bl rv, ?_⟩
    cases d with
    | true => exact iteT (FitsG.val h3 t1 (.inl (.bl _)))
    | false => exact iteF ⟨μ1, ρ, S1, hE.step s1, t1, h3⟩⟩
theorem ee_if (hc : ET X c ft) (ha : EE X a fa) (hb : EE X b fb) : EE X (.IfExp c a b pos) (eIf ft fa fb) :=
  pe_mono (pe_ifExp hc ha hb) fun σ H Q ⟨μ, ρ, S, hE, hR, hF⟩ => ⟨μ, ρ, S, hE, hR, (FitsG.bind hF).imp fun d S1 H1 μ1 s1 t1 h1 => by
    show if d = true then _ else _
    cases d with
    | true => exact iteT ⟨μ1, ρ, S1, hE.step s1, t1, h1⟩
    | false => exact iteF ⟨μ1, ρ, S1, hE.step s1, t1, h1⟩⟩
/-- a op b op c -/
def eChain (g g' : PV → PV → Sto → R PV) (a b c : Ev) : Ev := fun ρ S => (a ρ S).bind fun x S1 => (b ρ S1).bind fun y S2 => (g x y S2).bind fun z S3 => (toB z S3).bind fun k S4 => if k = true then (c ρ S4).bind fun u S5 => g' y u S5 else .ok (.bl false) S4
variable {fc : Ev} {op op' : CmpOp} {r r' : R2} {g g' : PV → PV → Sto → R PV}
theorem ee_chain (ho : OpR X (compareOp op) r) (hr : L2R X.K r g) (ho' : OpR X (compareOp op') r') (hr' : L2R X.K r' g') (ha : EE X a fa) (hb : EE X b fb) (hc : EE X c fc)
    (hm : lastMarks [op, op'] [b, c] = false := by with_unfolding_all rfl)
    (hg : ∀ p q S z S', g p q S = .ok z S' → S' = S) : EE X (.Compare a [op, op'] [b, c] pos) (eChain g g' fa fb fc) :=
  pe_mono (pe_chain ho ho' ha hb hc hm) fun σ H Q ⟨μ, ρ, S, hE, hR, hF⟩ => ⟨μ, ρ, S, hE, hR, (FitsG.bind hF).imp fun p S1 H1 μ1 s1 t1 h1 v rv =>
    ⟨μ1, ρ, S1, hE.step s1, t1, (FitsG.bind h1).imp fun q S2 H2 μ2 s2 t2 h2 w rw' => by
      refine hr _ H2 μ2 S2 v w p q (rv.step s2) rw' t2 ((FitsG.bind h2).imp fun z S3 H3 μ3 s3 t3 h3 u ru => ?_)
      obtain ⟨k, rfl, h4⟩ := toB_of (FitsG.bind h3)
      have h5 := FitsG.here h4 t3
      refine ⟨k, rep_bl ru, ?_⟩
      cases k with
      | true => exact iteT ⟨μ3, ρ, S3, ((hE.step s1).step s2).step s3, t3, (FitsG.bind h5).imp fun y S4 H4 μ4 s4 t4 h6 w' rw2 => hr' _ H4 μ4 S4 w w' q y ((rw'.step s3).step s4) rw2 t4 h6⟩
      | false => exact iteF (FitsG.val h5 t3 (.inl (.bl _)))⟩⟩
end
def LAR (K : PySem.W.Frag) (r : List V → Hp → VK → Prop) (g : List PV → Sto → R PV) : Prop := ∀ Q H μ S vs ps, Reps K H μ vs ps → Rel K H μ S → FitsG K H μ (g ps S) (VKont K Q) → r vs H Q
def LAF (K : PySem.W.Frag) (r : List V → Hp → VK → Prop) (g : List PV → Sto → R PV) : Prop := ∀ Q H μ S vs ps, Reps K H μ vs ps → Rel K H μ S → FitsF K H μ (g ps S) Q → r vs H Q
section
variable {X : Cx} {x : Str} {p pos : Pos} {e : Expr} {es : List Expr} {fa : Ea} {id T : String} {r : List V → Hp → VK → Prop} {g : List PV → Sto → R PV} {gf : List PV → Sto → R PV}
theorem ee_callB (hc : CallR X (.builtin id) r) (hr : LAR X.K r g) (hg : Gl X x) (hm : X.mg x = none) (hv : bootBuiltins x = some (.builtin id)) (ha : EA X (e :: es) fa) (hn : x ≠ "__name__" := by decide) (hdb : (x == ("__debug__" : Str)) = false := by decide)
    (he : starEach (e :: es) X.env = (false, eval e X.env) :: starEach es X.env := by rfl) (hpl : (backTo pos (starEach es X.env)).any (·.1) = false := by rfl) : EE X (.Call (.Name x p) (e :: es) [] pos) (eArgs g fa) :=
  pe_mono (pe_callB hc hg hm hv ha hn hdb he hpl) fun σ H Q h => args h fun H2 μ2 S2 vs ps rv t h2 => hr Q H2 μ2 S2 vs ps rv t h2
theorem ee_callTy (hc : CallR X (.type T) r) (hr : LAR X.K r g) (hg : Gl X x) (hm : X.mg x = none) (hv : bootBuiltins x = some (.type T)) (ha : EA X (e :: es) fa) (hn : x ≠ "__name__" := by decide) (hdb : (x == ("__debug__" : Str)) = false := by decide)
    (he : starEach (e :: es) X.env = (false, eval e X.env) :: starEach es X.env := by rfl) (hpl : (backTo pos (starEach es X.env)).any (·.1) = false := by rfl) : EE X (.Call (.Name x p) (e :: es) [] pos) (eArgs g fa) :=
  pe_mono (pe_callTy hc hg hm hv ha hn hdb he hpl) fun σ H Q h => args h fun H2 μ2 S2 vs ps rv t h2 => hr Q H2 μ2 S2 vs ps rv t h2
theorem ef_callTy (hc : CallR X (.type T) r) (hr : LAF X.K r gf) (hg : Gl X x) (hm : X.mg x = none) (hv : bootBuiltins x = some (.type T)) (ha : EA X (e :: es) fa) (hn : x ≠ "__name__" := by decide) (hdb : (x == ("__debug__" : Str)) = false := by decide)
    (he : starEach (e :: es) X.env = (false, eval e X.env) :: starEach es X.env := by rfl) (hpl : (backTo pos (starEach es X.env)).any (·.1) = false := by rfl) : EF X (.Call (.Name x p) (e :: es) [] pos) (eArgs gf fa) :=
  pe_mono (pe_callTy hc hg hm hv ha hn hdb he hpl) fun σ H Q h => argsF h fun H2 μ2 S2 vs ps rv t h2 => hr Q H2 μ2 S2 vs ps rv t h2
end
theorem Reps.one {K H μ vs p} (h : Reps K H μ vs [p]) : ∃ v, vs = [v] ∧ Rep K H μ v p := by
  cases h with
  | cons h1 h2 => cases h2; exact ⟨_, rfl, h1⟩
theorem Reps.two {K H μ vs p q} (h : Reps K H μ vs [p, q]) : ∃ v w, vs = [v, w] ∧ Rep K H μ v p ∧ Rep K H μ w q := by
  cases h with
  | cons h1 h2 =>
    obtain ⟨w, rfl, h3⟩ := Reps.one h2
    exact ⟨_, w, rfl, h1, h3⟩
def gLen (ps : List PV) (S : Sto) : R PV := match ps with
  | [.str z] => if z.length ≤ sizeLine then .ok (.int z.length) S else .no
  | [.dic ks _] => .ok (.int ks.length) S
  | [p] => match getQ p S with
    | some xs => .ok (.int xs.length) S
    | none => .no
  | _ => .no
theorem call_lenA {X : Cx} : CallR X (.builtin "len") (fun xs H Q => (∃ x n, xs = [x] ∧ LenV X.K x H n ∧ Q (.int n) H) ∨ (∃ a kvs, xs = [V.ref a] ∧ H a = some (.dK kvs) ∧ Q (.int kvs.length) H)) := CallR.or call_len call_lenD
theorem l_len {K : PySem.W.Frag} : LAR K (fun xs H Q => (∃ x n, xs = [x] ∧ LenV K x H n ∧ Q (.int n) H) ∨ (∃ a kvs, xs = [V.ref a] ∧ H a = some (.dK kvs) ∧ Q (.int kvs.length) H)) gLen := by
  intro Q H μ S vs ps rv t hF
  unfold gLen at hF
  split at hF
  · split at hF
    · rename_i hc
      obtain ⟨v, rfl, h1⟩ := rv.one
      cases rep_str h1
      exact .inl ⟨_, _, rfl, ⟨hc, rfl⟩, hF.val t (.inl (.int _))⟩
    · exact hF.elim
  · obtain ⟨v, rfl, h1⟩ := rv.one
    replace h1 := h1.two
    rcases h1 with h1 | ⟨_, _, e, _⟩
    · cases h1 with
      | dic h1 n h2 =>
        refine .inr ⟨_, _, rfl, h1, ?_⟩
        have := hF.val t (.inl (.int _))
        simpa using this
    · cases e
  · split at hF
    · rename_i xs e
      obtain ⟨v, rfl, h1⟩ := rv.one
      obtain ⟨a, vs, rfl, g1, g2⟩ := getQ_of t h1 e
      refine .inl ⟨_, vs.length, rfl, ?_, by rw [g2.length]; exact hF.val t (.inl (.int _))⟩
      rcases g1 with g1 | g1
      · exact .inl ⟨vs, g1, rfl⟩
      · exact .inr ⟨vs, g1, rfl⟩
    · exact hF.elim
  · exact hF.elim
def gInt (ps : List PV) (S : Sto) : R PV := match ps with
  | [.int i] => .ok (.int i) S
  | _ => .no
theorem l_int {K : PySem.W.Frag} : LAR K (fun xs H Q => (∃ i, xs = [.int i] ∧ Q (.int i) H) ∨ ∃ k, xs = [.bl k] ∧ Q (.int (if k then 1 else 0)) H) gInt := by
  intro Q H μ S vs ps rv t hF
  unfold gInt at hF
  split at hF
  · obtain ⟨v, rfl, h1⟩ := rv.one
    cases rep_int h1
    exact .inl ⟨_, rfl, hF.val t (.inl (.int _))⟩
  · exact hF.elim
def gAbs (ps : List PV) (S : Sto) : R PV := match ps with
  | [.int i] => .ok (.int (if i < 0 then -i else i)) S
  | _ => .no
theorem l_abs {K : PySem.W.Frag} : LAR K (fun xs H Q => ∃ i, xs = [.int i] ∧ Q (.int (if i < 0 then -i else i)) H) gAbs := by
  intro Q H μ S vs ps rv t hF
  unfold gAbs at hF
  split at hF
  · obtain ⟨v, rfl, h1⟩ := rv.one
    cases rep_int h1
    exact ⟨_, rfl, hF.val t (.inl (.int _))⟩
  · exact hF.elim
def gMax2 (ps : List PV) (S : Sto) : R PV := match ps with
  | [.int i, .int j] => .ok (.int (if j > i then j else i)) S
  | _ => .no
theorem l_max2 {K : PySem.W.Frag} : LAR K (fun xs H Q => ∃ i j, xs = [.int i, .int j] ∧ Q (.int (if j > i then j else i)) H) gMax2 := by
  intro Q H μ S vs ps rv t hF
  unfold gMax2 at hF
  split at hF
  · obtain ⟨v, w, rfl, h1, h2⟩ := rv.two
    cases rep_int h1; cases rep_int h2
    exact ⟨_, _, rfl, hF.val t (.inl (.int _))⟩
  · exact hF.elim
def gMin2 (ps : List PV) (S : Sto) : R PV := match ps with
  | [.int i, .int j] => .ok (.int (if j < i then j else i)) S
  | _ => .no
theorem l_min2 {K : PySem.W.Frag} : LAR K (fun xs H Q => ∃ i j, xs = [.int i, .int j] ∧ Q (.int (if j < i then j else i)) H) gMin2 := by
  intro Q H μ S vs ps rv t hF
  unfold gMin2 at hF
  split at hF
  · obtain ⟨v, w, rfl, h1, h2⟩ := rv.two
    cases rep_int h1; cases rep_int h2
    exact ⟨_, _, rfl, hF.val t (.inl (.int _))⟩
  · exact hF.elim
def gDivmod (ps : List PV) (S : Sto) : R PV := match ps with
  | [.int i, .int j] => if 0 < j ∧ j < 2 ^ 60 then .ok (.tup [.int (i / j), .int (i % j)]) S else .no
  | _ => .no
theorem divp_small {i j : Int} (h0 : 0 < j) (h1 : j < 2 ^ 60) : CDivP i j := by
  refine ⟨h0, ?_⟩
  have hn : j.natAbs < 2 ^ 60 := by omega
  have hl : j.natAbs.log2 < 60 := PySem.Flt.log2_lt_of (by decide) hn
  show (decide ((if j == 0 then 0 else j.natAbs.log2 / 30 + 1) > 300) && _) = false
  rw [decide_eq_false (by split <;> omega), Bool.false_and]
theorem l_divmod {K : PySem.W.Frag} : LAR K (fun xs H Q => ∃ i j, xs = [.int i, .int j] ∧ CDivP i j ∧ ∀ p, H p = none → Q (.ref p) (upd H p (.tup [.int (i / j), .int (i % j)]))) gDivmod := by
  intro Q H μ S vs ps rv t hF
  unfold gDivmod at hF
  split at hF
  · split at hF
    · rename_i hc
      obtain ⟨v, w, rfl, h1, h2⟩ := rv.two
      cases rep_int h1; cases rep_int h2
      exact ⟨_, _, rfl, divp_small hc.1 hc.2, lay_tup (fun p S H' μ' h => h) hF t (.cons (.int _) (.cons (.int _) .nil))⟩
    · exact hF.elim
  · exact hF.elim
/-- whole numbers of a list -/
def intsOf : List PV → Option (List Int)
  | [] => some []
  | .int i :: r => (intsOf r).map (i :: ·)
  | _ => none
def blsOf : List PV → Option (List Bool)
  | [] => some []
  | .bl i :: r => (blsOf r).map (i :: ·)
  | _ => none
theorem intsOf_eq : ∀ {ps : List PV} {ns : List Int}, intsOf ps = some ns → ps = ns.map PV.int
  | [], _, h => by cases h; rfl
  | .int i :: r, _, h => by
    rw [intsOf] at h
    cases e : intsOf r with
    | none => rw [e] at h; cases h
    | some ns => rw [e] at h; cases h; rw [intsOf_eq e]; rfl
  | .non :: r, _, h => by cases h
  | .bl _ :: r, _, h => by cases h
  | .str _ :: r, _, h => by cases h
  | .tup _ :: r, _, h => by cases h
  | .lst _ :: r, _, h => by cases h
  | .frl _ :: r, _, h => by cases h
  | .dic _ _ :: r, _, h => by cases h
  | .ref _ :: r, _, h => by cases h
theorem blsOf_eq : ∀ {ps : List PV} {ns : List Bool}, blsOf ps = some ns → ps = ns.map PV.bl
  | [], _, h => by cases h; rfl
  | .bl i :: r, _, h => by
    rw [blsOf] at h
    cases e : blsOf r with
    | none => rw [e] at h; cases h
    | some ns => rw [e] at h; cases h; rw [blsOf_eq e]; rfl
  | .non :: r, _, h => by cases h
  | .int _ :: r, _, h => by cases h
  | .str _ :: r, _, h => by cases h
  | .tup _ :: r, _, h => by cases h
  | .lst _ :: r, _, h => by cases h
  | .frl _ :: r, _, h => by cases h
  | .dic _ _ :: r, _, h => by cases h
  | .ref _ :: r, _, h => by cases h
@[simp] theorem intsOf_map (ns : List Int) : intsOf (ns.map PV.int) = some ns := by
  induction ns with
  | nil => rfl
  | cons n ns ih => simp [intsOf, ih]
@[simp] theorem blsOf_map (ns : List Bool) : blsOf (ns.map PV.bl) = some ns := by
  induction ns with
  | nil => rfl
  | cons n ns ih => simp [blsOf, ih]
theorem getBls {K H μ S v p ns} (t : Rel K H μ S) (r : Rep K H μ v p) (e : (getL p S).bind blsOf = some ns) : ∃ a, v = .ref a ∧ SqL K H a (ns.map V.bl) := by
  cases e1 : getL p S with
  | none => rw [e1] at e; cases e
  | some xs =>
    rw [e1] at e
    obtain ⟨a, vs, rfl, g1, g2⟩ := getL_of t r e1
    rw [blsOf_eq e] at g2
    rw [g2.bls] at g1
    exact ⟨a, rfl, g1⟩
def gAll (ps : List PV) (S : Sto) : R PV := match ps with
  | [p] => match (getL p S).bind blsOf with
    | some ns => .ok (.bl (ns.all id)) S
    | none => .no
  | _ => .no
theorem l_all {K : PySem.W.Frag} : LAR K (rAll K) gAll := by
  intro Q H μ S vs ps rv t hF
  unfold gAll at hF
  split at hF
  · split at hF
    · rename_i ns e
      obtain ⟨v, rfl, h1⟩ := rv.one
      obtain ⟨a, rfl, g⟩ := getBls t h1 e
      exact ⟨a, ns, rfl, g, hF.val t (.inl (.bl _))⟩
    · exact hF.elim
  · exact hF.elim
end Py
set_option Elab.async false
set_option maxRecDepth 100000
set_option maxHeartbeats 4000000
set_option linter.all false
namespace Py
open PySem PySem.Spec PyProof.Rows L2
variable [CT]
inductive Fl where
  | nx (ρ : Env) | rt (p : PV) | bk (ρ : Env) | ct (ρ : Env)
abbrev Es := Env → Sto → R Fl
def FinD (K : PySem.W.Frag) (D : Ends) : Fl → List PV → Hp → Mem → Prop := fun fl _ H' μ' => match fl with
  | .nx ρ => ∀ σ, ERel K H' μ' σ ρ → D.nx σ H'
  | .bk ρ => ∀ σ, ERel K H' μ' σ ρ → D.bk σ H'
  | .ct ρ => ∀ σ, ERel K H' μ' σ ρ → D.ct σ H'
  | .rt p => ∀ v, Rep K H' μ' v p → D.rt v H'
def tEs (K : PySem.W.Frag) (g : Es) : TS := fun D σ H => ∃ μ ρ S, ERel K H μ σ ρ ∧ Rel K H μ S ∧ FitsG K H μ (g ρ S) (FinD K D)
def ES (X : Cx) (st : Stmt) (g : Es) : Prop := PS X st (tEs X.K g)
def ESs (X : Cx) (st : List Stmt) (g : Es) : Prop := PSs X st (tEs X.K g)
def sNil : Es := fun ρ S => .ok (.nx ρ) S
def sSeq (a b : Es) : Es := fun ρ S => (a ρ S).bind fun fl S1 => match fl with
  | .nx ρ1 => b ρ1 S1
  | fl => .ok fl S1
section
variable {X : Cx} {st : Stmt} {rest : List Stmt} {ga gb : Es} {pos : Pos}
theorem es_nil : ESs X [] sNil := pss_mono pss_nil fun D σ H ⟨μ, ρ, S, hE, hR, hF⟩ => FitsG.here hF hR σ hE
theorem es_cons (ha : ES X st ga) (hb : ESs X rest gb) : ESs X (st :: rest) (sSeq ga gb) :=
  pss_mono (pss_cons ha hb) fun D σ H ⟨μ, ρ, S, hE, hR, hF⟩ => ⟨μ, ρ, S, hE, hR, (FitsG.bind hF).imp fun fl S1 H1 μ1 s1 t1 h1 => by
    cases fl with
    | nx ρ1 => exact fun σ1 e1 => ⟨μ1, ρ1, S1, e1, t1, h1⟩
    | rt p => exact FitsG.here h1 t1
    | bk ρ1 => exact FitsG.here h1 t1
    | ct ρ1 => exact FitsG.here h1 t1⟩
theorem es_one (ha : ES X st ga) : ESs X [st] ga := pss_mono (pss_one ha) fun _ _ _ h => h
def sExpr (a : Ev) : Es := fun ρ S => (a ρ S).bind fun _ S1 => .ok (.nx ρ) S1
def sRet (a : Ev) : Es := fun ρ S => (a ρ S).bind fun p S1 => .ok (.rt p) S1
def sIf (t : Et) (a b : Es) : Es := fun ρ S => (t ρ S).bind fun c S1 => if c = true then a ρ S1 else b ρ S1
variable {e : Expr} {fa : Ev} {ft : Et}
theorem es_ret (he : EE X e fa) : ES X (.Return (some e) pos) (sRet fa) :=
  ps_mono (ps_ret he) fun D σ H ⟨μ, ρ, S, hE, hR, hF⟩ => ⟨μ, ρ, S, hE, hR, (FitsG.bind hF).imp fun p S1 H1 μ1 s1 t1 h1 v rv => FitsG.here h1 t1 v rv⟩
theorem es_if {c : Expr} {a b : List Stmt} (hc : ET X c ft) (ha : ESs X a ga) (hb : ESs X b gb) : ES X (.If c a b pos) (sIf ft ga gb) :=
  ps_mono (ps_if hc ha hb) fun D σ H ⟨μ, ρ, S, hE, hR, hF⟩ => ⟨μ, ρ, S, hE, hR, (FitsG.bind hF).imp fun d S1 H1 μ1 s1 t1 h1 => by
    show if d = true then _ else _
    cases d with
    | true => exact iteT ⟨μ1, ρ, S1, hE.step s1, t1, h1⟩
    | false => exact iteF ⟨μ1, ρ, S1, hE.step s1, t1, h1⟩⟩
abbrev Eg := PV → Env → Sto → R Env
def tEg (K : PySem.W.Frag) (g : Eg) : TG := fun v σ H Q => ∃ p μ ρ S, Rep K H μ v p ∧ ERel K H μ σ ρ ∧ Rel K H μ S ∧ FitsG K H μ (g p ρ S) (fun ρ' _ H' μ' => ∀ σ', ERel K H' μ' σ' ρ' → Q σ' H')
def EG (X : Cx) (tg : Expr) (g : Eg) : Prop := PG X tg (tEg X.K g)
abbrev Egs := List PV → Env → Sto → R Env
def tEgs (K : PySem.W.Frag) (g : Egs) : TGs := fun vs σ H Q => ∃ ps μ ρ S, Reps K H μ vs ps ∧ ERel K H μ σ ρ ∧ Rel K H μ S ∧ FitsG K H μ (g ps ρ S) (fun ρ' _ H' μ' => ∀ σ', ERel K H' μ' σ' ρ' → Q σ' H')
def EGs (X : Cx) (tgs : List Expr) (g : Egs) : Prop := PGs X tgs (tEgs X.K g)
theorem pg_mono {e : Expr} {t t' : TG} (h : PG X e t) (f : ∀ v σ H Q, t' v σ H Q → t v σ H Q) : PG X e t' := ⟨fun pins s σ H v u Q I r q => h.run pins s σ H v u Q I r (f v σ H Q q)⟩
theorem pgs_mono {e : List Expr} {t t' : TGs} (h : PGs X e t) (f : ∀ v σ H Q, t' v σ H Q → t v σ H Q) : PGs X e t' := ⟨fun pins s σ H v u Q I r q => h.run pins s σ H v u Q I r (f v σ H Q q)⟩
def nName (i : Nat) : Eg := fun p ρ S => .ok (ρ.set i (some p)) S
theorem eg_name {i : Nat} {x : Str} (h : PG X (.Name x pos) (gName i)) : EG X (.Name x pos) (nName i) :=
  pg_mono h fun v σ H Q ⟨p, μ, ρ, S, rv, hE, hR, hF⟩ => FitsG.here hF hR _ (hE.set i (show ORep X.K H μ (some v) (some p) from rv))
def nNil : Egs := fun ps ρ S => match ps with
  | [] => .ok ρ S
  | _ => .no
def nCons (a : Eg) (r : Egs) : Egs := fun ps ρ S => match ps with
  | p :: ps => (a p ρ S).bind fun ρ1 S1 => r ps ρ1 S1
  | [] => .no
theorem egs_nil : EGs X [] nNil := pgs_mono pgs_nil fun vs σ H Q ⟨ps, μ, ρ, S, rv, hE, hR, hF⟩ => by
  unfold nNil at hF
  split at hF
  · cases rv
    exact ⟨rfl, FitsG.here hF hR σ hE⟩
  · exact hF.elim
theorem egs_cons {es : List Expr} {g1 : Eg} {g2 : Egs} (h1 : EG X e g1) (h2 : EGs X es g2) (hs : (assignEach (e :: es) X.env).map (·.2) = assign e X.env :: (assignEach es X.env).map (·.2) := by rfl) : EGs X (e :: es) (nCons g1 g2) :=
  pgs_mono (pgs_cons h1 h2 hs) fun vs σ H Q ⟨ps, μ, ρ, S, rv, hE, hR, hF⟩ => by
    unfold nCons at hF
    split at hF
    · rename_i p ps
      cases rv with
      | cons r1 r2 =>
        exact ⟨_, _, rfl, p, μ, ρ, S, r1, hE, hR, (FitsG.bind hF).imp fun ρ1 S1 H1 μ1 s1 t1 h1 σ1 e1 => ⟨ps, μ1, ρ1, S1, Reps.step s1 r2, e1, t1, h1⟩⟩
    · exact hF.elim
def nTup (n : Nat) (g : Egs) : Eg := fun p ρ S => match p with
  | .tup ps => if ps.length = n then g ps ρ S else .no
  | _ => .no
theorem RepPs.reps {K H μ} : ∀ {ps : List PV} {vs : List V}, RepPs K H μ vs ps → Reps K H μ vs ps
  | [], _, h => by cases h; exact .nil
  | p :: ps, _, h => by
    cases h with
    | cons h1 h2 => exact .cons (.inl h1) (RepPs.reps h2)
theorem eg_tup {es : List Expr} {k n : Nat} {g : Egs} (hc : X.calm = true) (h : EGs X es g) (hn : (assignEach es X.env).length = n := by rfl) (hst : (assignEach es X.env).findIdx? (·.1) = none := by rfl) : EG X (.Tuple es k pos) (nTup n g) :=
  pg_mono (pg_tup hc h hn hst) fun v σ H Q ⟨p, μ, ρ, S, rv, hE, hR, hF⟩ => by
    unfold nTup at hF
    split at hF
    · split at hF
      · rename_i ps hn
        obtain ⟨a, vs, rfl, g1, g2⟩ := rv.tup_inv
        exact ⟨a, vs, rfl, g1.sq, by rw [g2.length]; exact hn, ps, μ, ρ, S, g2.reps, hE, hR, hF⟩
      · exact hF.elim
    · exact hF.elim
/-- o[i] = v, a list of the store -/
def gSetL (o i v : PV) (S : Sto) : R PV := match o, i with
  | .ref n, .int k => match S[n]? with
    | some (.lst xs) => match ixN xs.length k with
      | some j => if v.isRef = false then .ok .non (S.set n (.lst (xs.set j v))) else .no
      | none => .no
    | _ => .no
  | _, _ => .no
def nSubL (o i : Ev) : Eg := fun p ρ S => (o ρ S).bind fun x S1 => (i ρ S1).bind fun y S2 => (gSetL x y p S2).bind fun _ S3 => .ok ρ S3
theorem write_lst {K H μ S n xs ys a} (t : Rel K H μ S) (m : μ.st[n]? = some a) (e : S[n]? = some (.lst xs)) : ∃ vs, H a = some (.lst vs) ∧ RepPs K H μ vs xs ∧ ∀ ws, (∀ H' μ', Step H μ H' μ' → RepPs K H' μ' ws ys) → Step H μ (upd H a (.lst ws)) μ ∧ Rel K (upd H a (.lst ws)) μ (S.set n (.lst ys)) := by
  obtain ⟨vs, e1, r1⟩ := t.obj _ _ _ m e
  refine ⟨vs, e1, r1, fun ws hw => ?_⟩
  have s := Step.write H μ (List.mem_of_getElem? m) (.lst ws)
  exact ⟨s, t.write m ⟨ws, upd_same, hw _ _ s⟩⟩
theorem eg_subL {o i : Expr} {fo fi : Ev} (ho : EE X o fo) (hi : EE X i fi) (h : PG X (.Subscript o i pos) (L2.gSub (tEv X.K fo) (tEv X.K fi) rSetL)) : EG X (.Subscript o i pos) (nSubL fo fi) :=
  pg_mono h fun v σ H Q ⟨p, μ, ρ, S, rv, hE, hR, hF⟩ => ⟨μ, ρ, S, hE, hR, (FitsG.bind hF).imp fun x S1 H1 μ1 s1 t1 h1 vo ro =>
    ⟨μ1, ρ, S1, hE.step s1, t1, (FitsG.bind h1).imp fun y S2 H2 μ2 s2 t2 h2 vi ri => by
      have h2 := FitsG.bind h2
      unfold gSetL at h2
      split at h2
      · rename_i n k
        split at h2
        · rename_i xs e
          split at h2
          · rename_i j ej
            split at h2
            · rename_i hp
              cases rep_int ri
              have ro := ro.step s2
              replace ro := ro.two
              rcases ro with ro | ⟨n', a, e1, e2, e3⟩
              · cases ro
              cases e1
              subst e3
              obtain ⟨vs, g1, g2, g3⟩ := write_lst (ys := xs.set j p) t2 e2 e
              have rp := ((rv.step s1).step s2).pure hp
              obtain ⟨s3, t3⟩ := g3 (vs.set j v) fun H' μ' s => (g2.set j rp).step s
              refine ⟨a, vs, _, j, rfl, rfl, g1, by rw [g2.length]; exact ej, ?_⟩
              have h4 := h2 _ _ s3 t3
              exact FitsG.here h4 t3 σ (((hE.step s1).step s2).step s3)
            · exact h2.elim
          · exact h2.elim
        · exact h2.elim
      · exact h2.elim⟩⟩
/-- target = value -/
def sAsg (a : Ev) (g : Eg) : Es := fun ρ S => (a ρ S).bind fun p S1 => (g p ρ S1).bind fun ρ1 S2 => .ok (.nx ρ1) S2
theorem tEs_asg {K fa g D σ H} (h : tEs K (sAsg fa g) D σ H) : tAsg (tEv K fa) (tEg K g) D σ H := by
  obtain ⟨μ, ρ, S, hE, hR, hF⟩ := h
  exact ⟨μ, ρ, S, hE, hR, (FitsG.bind hF).imp fun p S1 H1 μ1 s1 t1 h1 v rv => ⟨p, μ1, ρ, S1, rv, hE.step s1, t1, (FitsG.bind h1).imp fun ρ1 S2 H2 μ2 s2 t2 h2 => FitsG.here h2 t2⟩⟩
theorem es_asg {tg : Expr} {g : Eg} (he : EE X e fa) (hg : EG X tg g) (hs : swapsWithSole [tg] e pos.line X.env = pure false := by rfl) (hw : swappedStores [tg] e X.env = pure none := by rfl)
    (h1 : (assignEach [tg] X.env).map (·.2) = [assign tg X.env] := by rfl) : ES X (.Assign [tg] e pos) (sAsg fa g) :=
  ps_mono (ps_asg he hg hs hw h1) fun D σ H h => tEs_asg h
def sSet (i : Nat) (a : Ev) : Es := sAsg a (nName i)
theorem tEs_set {K fa D σ H} {i : Nat} (h : tEs K (sSet i fa) D σ H) : tAsg (tEv K fa) (gName i) D σ H := by
  obtain ⟨μ, ρ, S, hE, hR, hF⟩ := h
  exact ⟨μ, ρ, S, hE, hR, (FitsG.bind hF).imp fun p S1 H1 μ1 s1 t1 h1 v rv => by
    have z : FitsG K H1 μ1 (.ok (.nx (ρ.set i (some p))) S1) (FinD K D) := h1
    exact FitsG.here z t1 _ ((hE.step s1).set i (show ORep K H1 μ1 (some v) (some p) from rv))⟩
theorem es_set {i : Nat} {x : Str} {pos' : Pos} (h : PS X (.Assign [.Name x pos'] e pos) (tAsg (tEv X.K fa) (gName i))) : ES X (.Assign [.Name x pos'] e pos) (sSet i fa) :=
  ps_mono h fun D σ H h => tEs_set h
/-- a, b = x, y -/
def sPar (i j : Nat) (a b : Ev) : Es := fun ρ S => (a ρ S).bind fun p S1 => (b ρ S1).bind fun q S2 => .ok (.nx ((ρ.set i (some p)).set j (some q))) S2
/-- how many turns, and the item of each (a new tuple, or one that stands) -/
abbrev Ei := Env → Sto → R (List PV)
structure Walk (K : PySem.W.Frag) (J : It) (H : Hp) (μ : Mem) (ps : List PV) : Prop where
  go : ∀ (i : Nat) (H' : Hp) (μ' : Mem), Keep H μ H' μ' → i < ps.length → J.go i H'
  yld : ∀ (i : Nat) (H' : Hp) (μ' : Mem) (S : List PV) (x : V) (H2 : Hp), Keep H μ H' μ' → Rel K H' μ' S → i < ps.length → J.yld i H' x H2 → ∃ p, ps[i]? = some p ∧ Step H' μ' H2 μ' ∧ Rel K H2 μ' S ∧ Rep K H2 μ' x p
  stop : ∀ (H' : Hp) (μ' : Mem), Keep H μ H' μ' → J.stop ps.length H'
def tEi (K : PySem.W.Frag) (f : Ei) : TI := fun σ H R => ∃ μ ρ S, ERel K H μ σ ρ ∧ Rel K H μ S ∧ FitsG K H μ (f ρ S) (fun ps _ H' μ' => ∀ J, Walk K J H' μ' ps → R J H')
def EI (X : Cx) (tg iter : Expr) (f : Ei) : Prop := PI X tg iter (tEi X.K f)
theorem pi_mono {tg iter : Expr} {t t' : TI} (h : PI X tg iter t) (f : ∀ σ H R, t' σ H R → t σ H R) : PI X tg iter t' := ⟨fun pins s σ H R I q => h.run pins s σ H R I (f σ H R q)⟩
def forF (g : Eg) (b : Es) : List PV → Es
  | [] => fun ρ S => .ok (.nx ρ) S
  | p :: ps => fun ρ S => (g p ρ S).bind fun ρ1 S1 => (b ρ1 S1).bind fun fl S2 => match fl with
      | .nx ρ2 => forF g b ps ρ2 S2
      | .ct ρ2 => forF g b ps ρ2 S2
      | .bk ρ2 => .ok (.nx ρ2) S2
      | .rt p => .ok (.rt p) S2
def sFor (it : Ei) (g : Eg) (b : Es) : Es := fun ρ S => (it ρ S).bind fun ps S1 => forF g b ps ρ S1
theorem es_for {tg iter : Expr} {body : List Stmt} {it : Ei} {g : Eg} (hp : PassesOwn (model X.prog X.w) X.A X.env X.xe) (hc : X.calm = true) (hi : EI X tg iter it) (hg : EG X tg g) (hb : ESs X body gb)
    (hs : ∀ x, foldedSetIterable iter X.env x = pure x := by intro _; rfl) : ES X (.For tg iter body [] pos) (sFor it g gb) :=
  ps_mono (ps_for hp hc hi hg hb hs) fun D σ H ⟨μ, ρ, S, hE, hR, hF⟩ => ⟨μ, ρ, S, hE, hR, (FitsG.bind hF).imp fun ps S1 H1 μ1 s1 t1 h1 J hJ => by
    refine ⟨fun i m σ' H' => m = ps.length - i ∧ i ≤ ps.length ∧ ∃ μ' ρ' S', Step H1 μ1 H' μ' ∧ ERel X.K H' μ' σ' ρ' ∧ Rel X.K H' μ' S' ∧ FitsG X.K H' μ' (forF g gb (ps.drop i) ρ' S') (FinD X.K D),
      ⟨ps.length, by simp, Nat.zero_le _, μ1, ρ, S1, Step.refl _ _, hE.step s1, t1, by simpa using h1⟩, ?_⟩
    rintro i m σ' H' ⟨rfl, hi, μ', ρ', S', st, e', t', h'⟩
    by_cases hlt : i < ps.length
    · refine .inr ⟨hJ.go i H' μ' st.keep hlt, fun σ2 H2 => i + 1 ≤ ps.length ∧ ∃ μ' ρ' S', Step H1 μ1 H2 μ' ∧ ERel X.K H2 μ' σ2 ρ' ∧ Rel X.K H2 μ' S' ∧ FitsG X.K H2 μ' (forF g gb (ps.drop (i + 1)) ρ' S') (FinD X.K D), fun σ2 H2 z => ⟨ps.length - (i + 1), by omega, rfl, z.1, z.2⟩, fun x H2 hy => ?_⟩
      obtain ⟨p, ep, s2, t2, rx⟩ := hJ.yld i H' μ' S' x H2 st.keep t' hlt hy
      have ed : ps.drop i = p :: ps.drop (i + 1) := by
        rw [List.drop_eq_getElem_cons hlt]
        rw [List.getElem?_eq_getElem hlt] at ep
        rw [Option.some.inj ep]
      rw [ed] at h'
      have h' : FitsG X.K H' μ' ((g p ρ' S').bind fun ρ1 S1 => (gb ρ1 S1).bind fun fl S2 => match fl with
        | .nx ρ2 => forF g gb (ps.drop (i + 1)) ρ2 S2
        | .ct ρ2 => forF g gb (ps.drop (i + 1)) ρ2 S2
        | .bk ρ2 => .ok (.nx ρ2) S2
        | .rt p => .ok (.rt p) S2) (FinD X.K D) := h'
      -- the target, then the body
      have h2 : FitsG X.K H2 μ' ((g p ρ' S').bind fun ρ1 S1 => (gb ρ1 S1).bind fun fl S2 => match fl with
        | .nx ρ2 => forF g gb (ps.drop (i + 1)) ρ2 S2
        | .ct ρ2 => forF g gb (ps.drop (i + 1)) ρ2 S2
        | .bk ρ2 => .ok (.nx ρ2) S2
        | .rt p => .ok (.rt p) S2) (FinD X.K D) := by
        revert h'
        generalize ((g p ρ' S').bind fun ρ1 S1 => (gb ρ1 S1).bind fun fl S2 => match fl with
          | .nx ρ2 => forF g gb (ps.drop (i + 1)) ρ2 S2
          | .ct ρ2 => forF g gb (ps.drop (i + 1)) ρ2 S2
          | .bk ρ2 => .ok (.nx ρ2) S2
          | .rt p => .ok (.rt p) S2) = r
        intro h'
        cases r with
        | ok a S => exact fun H3 μ3 s3 t3 => h' H3 μ3 (s2.trans s3) t3
        | er => exact h'
        | no => exact h'
      refine ⟨p, μ', ρ', S', rx, e'.step s2, t2, (FitsG.bind h2).imp fun ρ3 S3 H3 μ3 s3 t3 h3 σ3 e3 => ⟨μ3, ρ3, S3, e3, t3, (FitsG.bind h3).imp fun fl S4 H4 μ4 s4 t4 h4 => ?_⟩⟩
      cases fl with
      | nx ρ4 => exact fun σ4 e4 => ⟨hlt, μ4, ρ4, S4, ((st.trans s2).trans s3).trans s4, e4, t4, h4⟩
      | ct ρ4 => exact fun σ4 e4 => ⟨hlt, μ4, ρ4, S4, ((st.trans s2).trans s3).trans s4, e4, t4, h4⟩
      | bk ρ4 => exact FitsG.here h4 t4
      | rt p => exact FitsG.here h4 t4
    · have e : i = ps.length := by omega
      subst e
      refine .inl ⟨hJ.stop H' μ' st.keep, ?_⟩
      rw [List.drop_length] at h'
      exact FitsG.here (show FitsG X.K H' μ' (.ok (.nx ρ') S') (FinD X.K D) from h') t' σ' e'⟩
end
end Py
set_option Elab.async false
set_option maxRecDepth 100000
set_option maxHeartbeats 4000000
set_option linter.all false
namespace Py
open PySem PySem.Spec PyProof.Rows L2
variable [CT]
section
variable {K : PySem.W.Frag} {H : Hp} {μ : Mem} {a : Addr} {vs : List V} {ps : List PV}
theorem walk_list (hs : ∀ H' μ', Keep H μ H' μ' → SqL K H' a vs) (r : RepPs K H μ vs ps) : Walk K (Itl K a) H μ ps where
  go := fun i H' μ' st hi => by
    have hv : i < vs.length := by rw [r.length]; exact hi
    exact ⟨vs, vs[i], hs H' μ' st, List.getElem?_eq_getElem hv⟩
  yld := fun i H' μ' S x H2 st t hi hy => by
    obtain ⟨e, hx⟩ := hy
    subst e
    have hx := hx vs (hs _ μ' st)
    obtain ⟨v, g, rv⟩ := (r.keep st).get (List.getElem?_eq_getElem hi)
    rw [hx] at g
    cases g
    exact ⟨ps[i], List.getElem?_eq_getElem hi, Step.refl _ _, t, .inl rv⟩
  stop := fun H' μ' st => ⟨vs, hs H' μ' st, by rw [r.length]; exact Nat.le_refl _⟩
theorem walk_tup (hs : ∀ H' μ', Keep H μ H' μ' → SqT K H' a vs) (r : RepPs K H μ vs ps) : Walk K (Itt K a) H μ ps where
  go := fun i H' μ' st hi => by
    have hv : i < vs.length := by rw [r.length]; exact hi
    exact ⟨vs, vs[i], hs H' μ' st, List.getElem?_eq_getElem hv⟩
  yld := fun i H' μ' S x H2 st t hi hy => by
    obtain ⟨e, hx⟩ := hy
    subst e
    have hx := hx vs (hs _ μ' st)
    obtain ⟨v, g, rv⟩ := (r.keep st).get (List.getElem?_eq_getElem hi)
    rw [hx] at g
    cases g
    exact ⟨ps[i], List.getElem?_eq_getElem hi, Step.refl _ _, t, .inl rv⟩
  stop := fun H' μ' st => ⟨vs, hs H' μ' st, by rw [r.length]; exact Nat.le_refl _⟩
def signs (z : Str) : List PV := z.cps.toList.map fun c => .str ⟨#[c]⟩
theorem walk_str (z : Str) : Walk K (Its z) H μ (signs z) where
  go := fun i H' μ' st hi => by
    show i < z.cps.size
    simpa [signs] using hi
  yld := fun i H' μ' S x H2 st t hi hy => by
    obtain ⟨e, c, hc, hx⟩ := hy
    subst e hx
    refine ⟨.str ⟨#[c]⟩, ?_, Step.refl _ _, t, .inl (.str _)⟩
    unfold signs
    rw [List.getElem?_map]
    rw [show z.cps.toList[i]? = some c by simpa using hc]
    rfl
  stop := fun H' μ' st => by
    show z.cps.size ≤ (signs z).length
    simp [signs]
def intsFrom (lo : Int) (n : Nat) : List PV := (List.range n).map fun i => .int (lo + (i : Nat))
theorem walk_range (lo : Int) (n : Nat) : Walk K (Itr lo n) H μ (intsFrom lo n) where
  go := fun i H' μ' st hi => by
    show i < n
    simpa [intsFrom] using hi
  yld := fun i H' μ' S x H2 st t hi hy => by
    obtain ⟨e, hx⟩ := hy
    subst e hx
    have hi' : i < n := by simpa [intsFrom] using hi
    refine ⟨.int (lo + (i : Nat)), ?_, Step.refl _ _, t, .inl (.int _)⟩
    unfold intsFrom
    rw [List.getElem?_map, List.getElem?_range hi']
    rfl
  stop := fun H' μ' st => by
    show n ≤ (intsFrom lo n).length
    simp [intsFrom]
theorem Rel.fresh {S : List PV} (t : Rel K H μ S) {p : Addr} (hp : H p = none) {xs : List V} {qs : List PV} (r : RepPs K H μ xs qs) : Step H μ (upd H p (.tup xs)) μ ∧ Rel K (upd H p (.tup xs)) μ S ∧ Rep K (upd H p (.tup xs)) μ (.ref p) (.tup qs) := by
  have s := Step.laid H μ hp (.tup xs)
  exact ⟨s, t.laid hp _, .inl (.tup (.inl ⟨.inl upd_same, t.out hp⟩) (r.step s))⟩
end
end Py
set_option Elab.async false
set_option maxRecDepth 100000
set_option maxHeartbeats 4000000
set_option linter.all false
namespace Py
open PySem PySem.Spec PyProof.Rows L2
variable [CT]
section
variable {X : Cx} {tg e e2 : Expr} {fa fb : Ev} {p pos tpos : Pos}
theorem pi_or {iter : Expr} {t1 t2 : TI} (h1 : PI X tg iter t1) (h2 : PI X tg iter t2) : PI X tg iter (fun σ H R => t1 σ H R ∨ t2 σ H R) := ⟨fun pins s σ H R I q => q.elim (h1.run pins s σ H R I) (h2.run pins s σ H R I)⟩
/-- what a for walks of a value -/
def iterP (p : PV) (S : Sto) : R (List PV) := match p with
  | .tup xs => .ok xs S
  | .lst xs => .ok xs S
  | .frl xs => .ok xs S
  | .str z => .ok (signs z) S
  | _ => .no
def iSeq (a : Ev) : Ei := fun ρ S => (a ρ S).bind iterP
theorem ei_seq (ha : EE X e fa) : EI X tg e (iSeq fa) :=
  pi_mono (pi_or (pi_or (pi_list ha) (pi_tup ha)) (pi_str ha)) fun σ H R ⟨μ, ρ, S, hE, hR, hF⟩ => by
    have hF := FitsG.bind hF
    revert hF
    cases hr : fa ρ S with
    | er => exact fun z => z.elim
    | no => exact fun z => z.elim
    | ok q S1 =>
      intro hF
      have mk : ∀ {kk : VK}, (∀ H1 μ1, Step H μ H1 μ1 → Rel X.K H1 μ1 S1 → FitsG X.K H1 μ1 (iterP q S1) (fun ps _ H' μ' => ∀ J, Walk X.K J H' μ' ps → R J H') → ∀ v, Rep X.K H1 μ1 v q → kk v H1) → tEv X.K fa σ H kk :=
        fun {kk} hk => ⟨μ, ρ, S, hE, hR, by rw [hr]; exact fun H1 μ1 s1 t1 v rv => hk H1 μ1 s1 t1 (hF H1 μ1 s1 t1) v rv⟩
      cases q with
      | tup xs =>
        refine .inl (.inr (mk fun H1 μ1 s1 t1 h1 v rv => ?_))
        obtain ⟨a, vs, rfl, g1, g2⟩ := rv.tup_inv
        exact ⟨a, rfl, ⟨vs, g1.sq⟩, FitsG.here h1 t1 _ (walk_tup (fun H' μ' st => (Keep.tupAt st g1).sq) g2)⟩
      | lst xs =>
        refine .inl (.inl (mk fun H1 μ1 s1 t1 h1 v rv => ?_))
        replace rv := rv.two
        rcases rv with rv | ⟨_, _, e, _⟩
        · cases rv with
          | lst h2 n h3 => exact ⟨_, rfl, ⟨_, .inl (.inl h2)⟩, FitsG.here h1 t1 _ (walk_list (fun H' μ' st => .inl (.inl (st _ _ h2 n inferInstance).1)) h3)⟩
        · cases e
      | frl xs =>
        refine .inl (.inl (mk fun H1 μ1 s1 t1 h1 v rv => ?_))
        replace rv := rv.two
        rcases rv with rv | ⟨_, _, e, _⟩
        · cases rv with
          | frl h2 h3 => exact ⟨_, rfl, ⟨_, h2.sq⟩, FitsG.here h1 t1 _ (walk_list (fun H' μ' st => (Keep.frlAt st h2).sq) h3)⟩
        · cases e
      | str z =>
        refine .inr (mk fun H1 μ1 s1 t1 h1 v rv => ?_)
        cases rep_str rv
        exact ⟨z, rfl, FitsG.here h1 t1 _ (walk_str z)⟩
      | non => exact .inl (.inl (mk fun H1 μ1 s1 t1 h1 v rv => h1.elim))
      | bl => exact .inl (.inl (mk fun H1 μ1 s1 t1 h1 v rv => h1.elim))
      | adr => exact .inl (.inl (mk fun H1 μ1 s1 t1 h1 v rv => h1.elim))
      | clo => exact .inl (.inl (mk fun H1 μ1 s1 t1 h1 v rv => h1.elim))
      | err => exact .inl (.inl (mk fun H1 μ1 s1 t1 h1 v rv => h1.elim))
      | int => exact .inl (.inl (mk fun H1 μ1 s1 t1 h1 v rv => h1.elim))
      | dic => exact .inl (.inl (mk fun H1 μ1 s1 t1 h1 v rv => h1.elim))
      | ref => exact .inl (.inl (mk fun H1 μ1 s1 t1 h1 v rv => h1.elim))
/-- range(b), range(a, b) -/
def gRange (ps : List PV) (S : Sto) : R (List PV) := match ps with
  | [.int j] => if -(2 ^ 62) ≤ j ∧ j < 2 ^ 62 then .ok (intsFrom 0 j.toNat) S else .no
  | [.int i, .int j] => if -(2 ^ 62) ≤ i ∧ i < 2 ^ 62 ∧ -(2 ^ 62) ≤ j ∧ j < 2 ^ 62 then .ok (intsFrom i (j - i).toNat) S else .no
  | _ => .no
def iArgs (g : List PV → Sto → R (List PV)) (a : Ea) : Ei := fun ρ S => (a ρ S).bind g
variable {a b : Expr} {ea : Ea}
theorem ei_range1 (hg : Gl X "range") (hm : X.mg "range" = none) (ha : EA X [a] ea) (hn : ∀ ρ S ps S', ea ρ S = .ok ps S' → ps.length = 1) (hs : starEach [a] X.env = [(false, eval a X.env)] := by rfl) : EI X tg (.Call (.Name "range" p) [a] [] pos) (iArgs gRange ea) :=
  pi_mono (pi_range1 hg hm ha hs) fun σ H R ⟨μ, ρ, S, hE, hR, hF⟩ => by
    refine ⟨μ, ρ, S, hE, hR, ?_⟩
    have hl := hn ρ S
    revert hF hl
    unfold iArgs
    cases ea ρ S with
    | er => exact fun z _ => z.elim
    | no => exact fun z _ => z.elim
    | ok ps S1 =>
      intro hF hl H1 μ1 s1 t1 vs rv
      have h1 : FitsG X.K H1 μ1 (gRange ps S1) (fun ps _ H' μ' => ∀ J, Walk X.K J H' μ' ps → R J H') := hF.bind H1 μ1 s1 t1
      have hl := hl ps S1 rfl
      unfold gRange at h1
      split at h1
      · split at h1
        · rename_i hc
          obtain ⟨v, rfl, r1⟩ := rv.one
          cases rep_int r1
          exact ⟨_, rfl, hc.1, hc.2, FitsG.here h1 t1 _ (walk_range 0 _)⟩
        · exact h1.elim
      · simp at hl
      · exact h1.elim
end
def wipeP (ρ : Env) : List Nat → Env
  | [] => ρ
  | v :: vs => (wipeP ρ vs).set v none
theorem ERel.wipe {K H μ} {σ : List (Option V)} {ρ : Env} (h : ERel K H μ σ ρ) : ∀ vs : List Nat, ERel K H μ (L2.wipe σ vs) (wipeP ρ vs)
  | [] => h
  | v :: vs => by
    show ERel K H μ ((L2.wipe σ vs).set v none) ((wipeP ρ vs).set v none)
    exact (ERel.wipe h vs).set v (show ORep K H μ none none from trivial)
def compF (g : Eg) (t : Et) (f : Ev) (ρ : Env) : List PV → List PV → Sto → R PV
  | [], acc, S => .ok (.lst acc) S
  | p :: ps, acc, S => (g p ρ S).bind fun ρ1 S1 => (t ρ1 S1).bind fun c S2 => if c = true then (f ρ1 S2).bind fun y S3 => if y.isRef = false ∧ acc.length < sizeLine then compF g t f ρ ps (acc ++ [y]) S3 else .no
    else compF g t f ρ ps acc S2
def fComp (it : Ei) (g : Eg) (t : Et) (f : Ev) (vs : List Nat) : Ev := fun ρ S => (it ρ S).bind fun ps S1 => compF g t f (wipeP ρ vs) ps [] S1
def tYesE : Et := fun _ S => .ok true S
theorem wipe_comm {σ : L2.St} {i : Nat} {x : Option V} : ∀ {vs : List Nat}, i ∉ vs → wipe (σ.set i x) vs = (wipe σ vs).set i x
  | [], _ => rfl
  | v :: vs, h => by
    have h1 : i ≠ v := fun e => h (by simp [e])
    show (wipe (σ.set i x) vs).set v none = ((wipe σ vs).set v none).set i x
    rw [wipe_comm fun q => h (List.mem_cons_of_mem _ q), List.set_comm _ _ h1]
theorem wipe_set {σ : L2.St} {i : Nat} {x : Option V} : ∀ {vs : List Nat}, i ∈ vs → wipe (σ.set i x) vs = wipe σ vs
  | [], h => by cases h
  | v :: vs, h => by
    show (wipe (σ.set i x) vs).set v none = (wipe σ vs).set v none
    by_cases hv : i ∈ vs
    · rw [wipe_set hv]
    · have : i = v := by
        rcases List.mem_cons.mp h with h | h
        · exact h
        · exact absurd h hv
      subst this
      rw [wipe_comm hv, List.set_set]
theorem wipe_wipe {σ : L2.St} : ∀ {us vs : List Nat}, (∀ i ∈ us, i ∈ vs) → wipe (wipe σ us) vs = wipe σ vs
  | [], _, _ => rfl
  | u :: us, vs, h => by
    show wipe ((wipe σ us).set u none) vs = wipe σ vs
    rw [wipe_set (h u (by simp)), wipe_wipe fun i q => h i (List.mem_cons_of_mem _ q)]
def Mem.resv (m : Mem) (D : Addr) : Mem := ⟨m.st, D :: m.rs⟩
end Py
set_option Elab.async false
set_option maxRecDepth 100000
set_option maxHeartbeats 4000000
set_option linter.all false
namespace Py
open PySem PySem.Spec PyProof.Rows L2
variable [CT]
section
variable {X : Cx}
/-- a target of a comprehension: it stores the item's parts into own slots -/
structure Tgt (K : PySem.W.Frag) (g : TG) (gP : Eg) (vs : List Nat) : Prop where
  ok : ∀ (v : V) (p : PV) (σ : L2.St) (ρ ρ' : Env) (S S' : Sto) (H : Hp) (μ : Mem) (Q : L2.St → Hp → Prop), Rep K H μ v p → ERel K H μ σ ρ → gP p ρ S = .ok ρ' S' → (∀ σ', ERel K H μ σ' ρ' → wipe σ' vs = wipe σ vs → S' = S → Q σ' H) → g v σ H Q
theorem tgt_name {K : PySem.W.Frag} {i : Nat} {vs : List Nat} (h : i ∈ vs) : Tgt K (gName i) (nName i) vs := ⟨fun v p σ ρ ρ' S S' H μ Q rv hE hg q => by
  unfold nName at hg
  cases hg
  exact q _ (hE.set i (show ORep K H μ (some v) (some p) from rv)) (wipe_set h) rfl⟩
def nNs : List Nat → Egs
  | [] => nNil
  | i :: is => nCons (nName i) (nNs is)
theorem reserve {K : PySem.W.Frag} {H : Hp} {μ : Mem} {S : Sto} (t : Rel K H μ S) {D : Addr} (hD : H D = none) (o : List V) : Keep H μ (upd H D (.lst o)) (μ.resv D) ∧ Rel K (upd H D (.lst o)) (μ.resv D) S := by
  have k : Keep H μ (upd H D (.lst o)) (μ.resv D) := fun a u e n _ => by
    have ne : a ≠ D := ne_of_none e hD
    refine ⟨by rw [upd_ne ne]; exact e, fun q => ?_⟩
    rcases q with q | q
    · exact n (.inl q)
    · rcases List.mem_cons.mp q with q | q
      · exact ne q
      · exact n (.inr q)
  refine ⟨k, t.keep k rfl (fun a ha => upd_ne fun z => t.tracked ha (by rw [z]; exact hD)) (fun a ha => ?_) ?_⟩
  rotate_left
  · exact tabs_upd t.tab fun u e => by rw [hD] at e; cases e
  rcases List.mem_cons.mp ha with q | q
  · subst q; exact ⟨fun z => t.tracked z hD, .l o, upd_same⟩
  · exact t.resU hD _ a q
/-- at a turn: the new list holds what is made so far -/
structure CompAt (K : PySem.W.Frag) (H1 : Hp) (μ1 : Mem) (σ : L2.St) (ρ : Env) (D : Addr) (H' : Hp) (S' : Sto) (qs : List PV) (μ' : Mem) (acc : List V) : Prop where
  at_ : H' D = some (.lst acc)
  reps : RepPs K H' (μ'.resv D) acc qs
  rel : Rel K H' (μ'.resv D) S'
  stp : Step H1 μ1 H' μ'
  env : ERel K H' (μ'.resv D) σ ρ
  out : D ∉ μ'.st
section
variable {K : PySem.W.Frag} {H1 : Hp} {μ1 : Mem} {σ : L2.St} {ρ : Env} {D : Addr} {H' : Hp} {S' : Sto} {qs : List PV} {μ' : Mem} {acc : List V}
theorem CompAt.more (c : CompAt K H1 μ1 σ ρ D H' S' qs μ' acc) {H4 : Hp} {μ4 : Mem} (s : Step H' (μ'.resv D) H4 μ4) {S4 : Sto} (t : Rel K H4 μ4 S4) : ∃ μ5 : Mem, μ4 = μ5.resv D ∧ CompAt K H1 μ1 σ ρ D H4 S4 qs μ5 acc := by
  obtain ⟨ν, e, f⟩ := s.gro
  have e2 : μ4 = (μ'.grow ν).resv D := e
  refine ⟨μ'.grow ν, e2, s.ext _ _ c.at_ c.out inferInstance, by rw [← e2]; exact c.reps.step s, by rw [← e2]; exact t, ⟨fun a o h n z => ?_, fun a h => c.stp.dom a (s.dom a h), ?_⟩, by rw [← e2]; exact c.env.step s, ?_⟩
  · exact s.ext a o (c.stp.ext a o h n z) (c.stp.outS h n) z
  · obtain ⟨ν1, e1, f1⟩ := c.stp.gro
    refine ⟨ν1 ++ ν, by rw [e1, Mem.grow, Mem.grow, Mem.grow, List.append_assoc], fun a q => ?_⟩
    rcases List.mem_append.mp q with q | q
    · exact f1 a q
    · exact c.stp.dom a (f a q)
  · intro q
    rcases List.mem_append.mp q with q | q
    · exact c.out q
    · have := f D q
      rw [c.at_] at this
      cases this
theorem CompAt.push (c : CompAt K H1 μ1 σ ρ D H' S' qs μ' acc) (hD : H1 D = none) {y : V} {p : PV} (r : RepP K H' (μ'.resv D) y p) : CompAt K H1 μ1 σ ρ D (upd H' D (.lst (acc ++ [y]))) S' (qs ++ [p]) μ' (acc ++ [y]) := by
  have ne : ∀ a, a ∉ μ'.resv D → a ≠ D := fun a n z => n (by subst z; exact .inr (List.mem_cons_self ..))
  have k : Keep H' (μ'.resv D) (upd H' D (.lst (acc ++ [y]))) (μ'.resv D) := fun a o h n _ => ⟨by rw [upd_ne (ne a n)]; exact h, n⟩
  refine ⟨upd_same, (c.reps.keep k).append (.cons (r.keep k) .nil), c.rel.keep k rfl (fun a ha => upd_ne fun z => c.out (by rw [← z]; exact ha)) (fun a ha => ?_) (tabs_upd c.rel.tab fun u e => by rw [c.at_] at e; cases e; exact ⟨fun ps z => (by cases z), fun φ z => (by cases z)⟩), ⟨fun a o h n z => ?_, fun a h => ?_, c.stp.gro⟩, c.env.keep k rfl, c.out⟩
  · by_cases e : a = D
    · subst e; exact ⟨(c.rel.res a ha).1, .l _, upd_same⟩
    · exact ⟨(c.rel.res a ha).1, (c.rel.res a ha).2.imp fun l z => (upd_ne e).trans z⟩
  · rw [upd_ne (ne_of_none h hD)]
    exact c.stp.ext a o h n z
  · by_cases e : a = D
    · subst e; exact hD
    · rw [upd_ne e] at h; exact c.stp.dom a h
end
theorem FitsF.gone {K : PySem.W.Frag} {H : Hp} {μ : Mem} {α : Type} {r : R α} {f : α → List PV → R PV} {Q : VK} (h : FitsF K H μ (r.bind f) Q) : ∃ a S, r = .ok a S ∧ FitsF K H μ (f a S) Q := by
  cases r with
  | ok a S => exact ⟨a, S, rfl, h⟩
  | er => exact h.elim
  | no => exact h.elim
theorem FitsG.of_ok {K : PySem.W.Frag} {H : Hp} {μ : Mem} {α : Type} {r : R α} {a : α} {S : List PV} (e : r = .ok a S) {k : α → List PV → Hp → Mem → Prop} (h : ∀ H' μ', Step H μ H' μ' → Rel K H' μ' S → k a S H' μ') : FitsG K H μ r k := by
  subst e
  exact h
variable {elt tg iter : Expr} {ifs : List Expr} {scope : Scope} {own : List (Str × Nat)} {pos : Pos} {g : TG} {gP : Eg} {it : Ei} {ft : Et} {fe : Ev}
def EIfs (X : Cx) (ifs : List Expr) (f : Et) : Prop := PTs X ifs (tEt X.K f)
theorem ei_none {X : Cx} : EIfs X [] tYesE := ⟨fun pins s σ H Q I ⟨μ, ρ, S, hE, hR, hF⟩ => pts_nil.run pins s σ H Q I (FitsG.here hF hR)⟩
theorem tLc_of (T : Tgt X.K g gP (own.map (·.2))) {σ : L2.St} {H : Hp} {Q : VK} (h : tEf X.K (fComp it gP ft fe (own.map (·.2))) σ H Q) : tLc (tEi X.K it) g (tEt X.K ft) (tEv X.K fe) (own.map (·.2)) σ H Q := by
  obtain ⟨μ, ρ, S, hE, hR, hF⟩ := h
  obtain ⟨ps, S1, eit, hF⟩ := FitsF.gone hF
  refine ⟨μ, ρ, S, hE, hR, FitsG.of_ok eit fun H1 μ1 s1 t1 J hJ D hD => ?_⟩
  have hF : FitsF X.K H1 μ1 (compF gP ft fe (wipeP ρ (own.map (·.2))) ps [] S1) Q := by
    have : FitsF X.K H μ (compF gP ft fe (wipeP ρ (own.map (·.2))) ps [] S1) Q := hF
    revert this
    generalize compF gP ft fe (wipeP ρ (own.map (·.2))) ps [] S1 = r
    intro h
    cases r with
    | ok b S2 =>
      intro H2 μ2 p hp hrs s2 t2
      refine h H2 μ2 p (s1.dom p hp) ?_ (s1.trans s2) t2
      obtain ⟨ν, e, _⟩ := s1.gro
      subst e
      exact hrs
    | er => exact h
    | no => exact h
  obtain ⟨k0, r0⟩ := reserve t1 hD []
  have e0 : ERel X.K (upd H1 D (.lst [])) (μ1.resv D) (wipe σ (own.map (·.2))) (wipeP ρ (own.map (·.2))) := ((hE.step s1).wipe _).keep k0 rfl
  refine ⟨fun i m H' => m = ps.length - i ∧ i ≤ ps.length ∧ ∃ S' qs μ' acc, CompAt X.K H1 μ1 (wipe σ (own.map (·.2))) (wipeP ρ (own.map (·.2))) D H' S' qs μ' acc ∧ FitsF X.K H1 μ1 (compF gP ft fe (wipeP ρ (own.map (·.2))) (ps.drop i) qs S') Q,
    ⟨ps.length, by simp, Nat.zero_le _, S1, [], μ1, [], ⟨upd_same, .nil, r0, ⟨(Step.laid H1 μ1 hD _).ext, (Step.laid H1 μ1 hD _).dom, [], by simp [Mem.grow], by simp⟩, e0, Mem.nst (t1.out hD)⟩, by simpa using hF⟩, ?_⟩
  rintro i m H' ⟨rfl, hi, S', qs, μ', acc, c, h'⟩
  by_cases hlt : i < ps.length
  · refine .inr ⟨hJ.go i H' μ' c.stp.keep hlt, fun H2 => i + 1 ≤ ps.length ∧ ∃ S' qs μ' acc, CompAt X.K H1 μ1 (wipe σ (own.map (·.2))) (wipeP ρ (own.map (·.2))) D H2 S' qs μ' acc ∧ FitsF X.K H1 μ1 (compF gP ft fe (wipeP ρ (own.map (·.2))) (ps.drop (i + 1)) qs S') Q, fun H2 z => ⟨ps.length - (i + 1), by omega, rfl, z.1, z.2⟩, fun x H2 hy => ?_⟩
    have kp : Keep H1 μ1 H' (μ'.resv D) := fun a o h n nt => by
      obtain ⟨h1, h2⟩ := c.stp.keep a o h n nt
      refine ⟨h1, fun q => ?_⟩
      rcases q with q | q
      · exact h2 (.inl q)
      · rcases List.mem_cons.mp q with q | q
        · rw [q, hD] at h; cases h
        · exact h2 (.inr q)
    obtain ⟨p, ep, s2, t2, rx⟩ := hJ.yld i H' (μ'.resv D) S' x H2 kp c.rel hlt hy
    have ed : ps.drop i = p :: ps.drop (i + 1) := by
      rw [List.drop_eq_getElem_cons hlt]
      rw [List.getElem?_eq_getElem hlt] at ep
      rw [Option.some.inj ep]
    rw [ed] at h'
    obtain ⟨μ2, em, c2⟩ := c.more s2 t2
    have em2 : μ2.resv D = μ'.resv D := em.symm
    rw [compF] at h'
    obtain ⟨ρ1, Sa, eg, h'⟩ := FitsF.gone h'
    obtain ⟨b, Sb, et, h'⟩ := FitsF.gone h'
    refine T.ok x p _ _ ρ1 S' Sa H2 (μ2.resv D) _ (by rw [em2]; exact rx) c2.env eg fun σ1 e1 w1 eS => ?_
    subst eS
    refine ⟨w1.trans (wipe_wipe fun i q => q), μ2.resv D, ρ1, Sa, e1, c2.rel, FitsG.of_ok et fun H3 μ3 s3 t3 => ?_⟩
    obtain ⟨μ4, rfl, c3⟩ := c2.more s3 t3
    show if b = true then _ else _
    cases b with
    | false =>
      exact iteF ⟨hlt, Sb, qs, μ4, acc, c3, by simpa using h'⟩
    | true =>
      rw [if_pos rfl] at h'
      obtain ⟨y, Sc, ey, h'⟩ := FitsF.gone h'
      split at h'
      · rename_i hc
        refine iteT ⟨μ4.resv D, ρ1, Sb, e1.step s3, c3.rel, FitsG.of_ok ey fun H5 μ5 s5 t5 v rv => ?_⟩
        obtain ⟨μ6, rfl, c5⟩ := c3.more s5 t5
        exact ⟨acc, c5.at_, by rw [c5.reps.length]; exact hc.2, hlt, Sc, qs ++ [y], μ6, acc ++ [v], c5.push hD (rv.pure hc.1), h'⟩
      · exact h'.elim
  · have e : i = ps.length := by omega
    subst e
    rw [List.drop_length] at h'
    refine .inl ⟨hJ.stop H' μ' c.stp.keep, ?_⟩
    have h2 : FitsF X.K H1 μ1 (.ok (.lst qs) S') Q := h'
    refine h2 H' μ' D hD (fun q => t1.resn q hD) c.stp ?_
    have sub : ∀ a, a ∈ μ'.grow [D] → a ∈ μ'.resv D := fun a q => by
      rcases q with q | q
      · rcases List.mem_append.mp q with q | q
        · exact .inl q
        · rw [List.mem_singleton.mp q]; exact .inr (List.mem_cons_self ..)
      · exact .inr (List.mem_cons_of_mem _ q)
    refine ⟨by have := c.rel.len; simpa [Mem.grow, Mem.resv] using this, List.nodup_append.mpr ⟨c.rel.nd, by simp, fun a ha b hb => ?_⟩, fun n a ob e1 e2 => ?_, fun a q => ⟨fun z => (List.mem_append.mp z).elim (c.rel.res a (List.mem_cons_of_mem _ q)).1 fun z => t1.resn (by rw [← c.stp.rse, ← List.mem_singleton.mp z]; exact q) hD, (c.rel.res a (List.mem_cons_of_mem _ q)).2⟩, c.rel.tab⟩
    · rw [List.mem_singleton.mp hb]
      intro z
      exact c.out (by rw [← z]; exact ha)
    · have e1 : (μ'.st ++ [D])[n]? = some a := e1
      have len : μ'.st.length = S'.length := c.rel.len
      by_cases hn : n < μ'.st.length
      · rw [List.getElem?_append_left hn] at e1
        rw [List.getElem?_append_left (by rw [← len]; exact hn)] at e2
        exact (c.rel.obj n a ob e1 e2).sub sub
      · have e : n = μ'.st.length := by
          have := (List.getElem?_eq_some_iff.mp e1).1
          simp at this; omega
        subst e
        rw [List.getElem?_append_right (Nat.le_refl _)] at e1
        rw [List.getElem?_append_right (by rw [len]; exact Nat.le_refl _)] at e2
        simp [len] at e1 e2
        subst e1 e2
        exact ⟨acc, c.at_, c.reps.sub sub⟩
end
end Py
set_option Elab.async false
set_option maxRecDepth 100000
set_option maxHeartbeats 4000000
set_option linter.all false
namespace Py
open PySem PySem.Spec PyProof.Rows L2
variable [CT]
section
variable {X : Cx} {elt tg iter : Expr} {ifs : List Expr} {scope : Scope} {own : List (Str × Nat)} {pos : Pos} {g : TG} {gP : Eg} {it : Ei} {ft : Et} {fe : Ev}
theorem ef_comp (hc : X.calm = true) (hN : X.N.Nodup) (ok : BlkOk X.N X.env.scope scope own) (T : Tgt X.K g gP (own.map (·.2))) (hi : EI X tg iter it)
    (hg : ∀ (s : Shared) (H : Hp) (C : Addr) (cl : List (Str × Addr)) (fp : List Addr), PG (X.blk s H scope (compEnvC scope cl C X.env) fp) tg g)
    (ht : ∀ (s : Shared) (H : Hp) (C : Addr) (cl : List (Str × Addr)) (fp : List Addr), EIfs (X.blk s H scope (compEnvC scope cl C X.env) fp) ifs ft)
    (he : ∀ (s : Shared) (H : Hp) (C : Addr) (cl : List (Str × Addr)) (fp : List Addr), EE (X.blk s H scope (compEnvC scope cl C X.env) fp) elt fe)
    (hs : ∀ x, foldedSetIterable iter X.env x = pure x := by intro _; rfl) : EF X (.ListComp elt [⟨tg, iter, ifs, 0⟩] scope pos) (fComp it gP ft fe (own.map (·.2))) :=
  pe_mono (pe_lc (tt := tEt X.K ft) (te := tEv X.K fe) hc hN hi ok hg ht he hs) fun σ H Q h => tLc_of T h
end
abbrev Fn := List PV → Sto → R PV
def FitsC (K : PySem.W.Frag) (H : Hp) (μ : Mem) (r : R PV) (Q : VK) : Prop := match r with
  | .ok p S' => ∀ H', Step H μ H' μ → Rel K H' μ S' → ∀ v, Rep K H' μ v p → Q v H'
  | _ => False
def FitsN (K : PySem.W.Frag) (H : Hp) (μ : Mem) (r : R PV) (Q : VK) : Prop := match r with
  | .ok o S' => ∀ H' a, H a = none → a ∉ μ.rs → Step H μ H' μ → Rel K H' (μ.grow [a]) (S' ++ [o]) → Q (.ref a) H'
  | _ => False
/-- what a def promises: its value; a new list or dict -/
def spM (K : PySem.W.Frag) (m : Fn) : Sp := fun vs H Q _ => ∃ μ ps S, Reps K H μ vs ps ∧ Rel K H μ S ∧ FitsC K H μ (m ps S) Q
def spN (K : PySem.W.Frag) (m : Fn) : Sp := fun vs H Q _ => ∃ μ ps S, Reps K H μ vs ps ∧ Rel K H μ S ∧ FitsN K H μ (m ps S) Q
section
variable {X : Cx} {k : Nat} {f : Addr} {fd : FuncData} {ps : List Str} {m : Fn} {x : Str} {p pos : Pos} {e : Expr} {es : List Expr} {fa : Ea}
theorem ee_call (F : FnOk X.prog X.w X.K X.mg X.base CX0 k f fd ps (spM X.K m)) (hr : Room k X.A) (hg : Gl X x) (hm : X.mg x = some (.ref f)) (hk : PySem.W.keepIn X.K (.ref f) = true) (hb : Binds X.K fd ps [])
    (ha : EA X (e :: es) fa) (hdb : (x == ("__debug__" : Str)) = false := by decide) (he : starEach (e :: es) X.env = (false, eval e X.env) :: starEach es X.env := by rfl) (hpl : (backTo pos (starEach es X.env)).any (·.1) = false := by rfl) : EE X (.Call (.Name x p) (e :: es) [] pos) (eArgs m fa) :=
  pe_mono (pe_call F hr hg hm hk hb .nil pass0 ha hdb he hpl) fun σ H Q h => args (r := fun vs H1 Q => spM X.K m (vs ++ []) H1 Q E0) h fun H2 μ2 S2 vs ps rv t hF => by
    refine ⟨μ2, ps, S2, by rw [List.append_nil]; exact rv, t, ?_⟩
    revert hF
    cases m ps S2 with
    | ok q S3 => exact fun hF H' st t' v r => hF H' μ2 st t' v r
    | er => exact fun z => z
    | no => exact fun z => z
theorem ef_call (F : FnOk X.prog X.w X.K X.mg X.base CX0 k f fd ps (spN X.K m)) (hr : Room k X.A) (hg : Gl X x) (hm : X.mg x = some (.ref f)) (hk : PySem.W.keepIn X.K (.ref f) = true) (hb : Binds X.K fd ps [])
    (ha : EA X (e :: es) fa) (hdb : (x == ("__debug__" : Str)) = false := by decide) (he : starEach (e :: es) X.env = (false, eval e X.env) :: starEach es X.env := by rfl) (hpl : (backTo pos (starEach es X.env)).any (·.1) = false := by rfl) : EF X (.Call (.Name x p) (e :: es) [] pos) (eArgs m fa) :=
  pe_mono (pe_call F hr hg hm hk hb .nil pass0 ha hdb he hpl) fun σ H Q h => argsF (r := fun vs H1 Q => spN X.K m (vs ++ []) H1 Q E0) h fun H2 μ2 S2 vs ps rv t hF => by
    refine ⟨μ2, ps, S2, by rw [List.append_nil]; exact rv, t, ?_⟩
    revert hF
    cases m ps S2 with
    | ok q S3 => exact fun hF H' a h1 h2 st t' => hF H' μ2 a h1 h2 st t'
    | er => exact fun z => z
    | no => exact fun z => z
end
def finV (n : Nat) (p : PV) (S : Sto) : R PV := match p with
  | .ref m => if m < n then .ok (.ref m) (S.take n) else match S[m]? with
    | some o => .ok o (S.take n)
    | none => .no
  | .clo _ _ => .no
  | p => .ok p (S.take n)
def finF (n : Nat) (fl : Fl) (S : Sto) : R PV := match fl with
  | .rt p => finV n p S
  | .nx _ => finV n .non S
  | _ => .no
/-- its end where a new object is promised -/
def finO (n : Nat) (fl : Fl) (S : Sto) : R PV := match fl with
  | .rt (.ref m) => if m < n then .no else match S[m]? with
    | some o => .ok o (S.take n)
    | none => .no
  | _ => .no
def startP (N : Nat) (ps : List PV) : Env := ps.map some ++ List.replicate (N - ps.length) none
def mkDef (n N : Nat) (g : Es) : Fn := fun ps S => if ps.length = n then (g (startP N ps) S).bind (finF S.length) else .no
def mkNew (n N : Nat) (g : Es) : Fn := fun ps S => if ps.length = n then (g (startP N ps) S).bind (finO S.length) else .no
theorem ERel.append {K : PySem.W.Frag} {H : Hp} {μ : Mem} {σ τ : List (Option V)} {ρ π : Env} (h : ERel K H μ σ ρ) (g : ERel K H μ τ π) : ERel K H μ (σ ++ τ) (ρ ++ π) := by
  induction h with
  | nil => exact g
  | cons h _ ih => exact .cons h ih
theorem Reps.somes {K : PySem.W.Frag} {H : Hp} {μ : Mem} {vs : List V} {ps : List PV} (r : Reps K H μ vs ps) : ERel K H μ (vs.map some) (ps.map some) := by
  induction r with
  | nil => exact .nil
  | cons h _ ih => exact .cons h ih
theorem ERel.nones {K : PySem.W.Frag} {H : Hp} {μ : Mem} : ∀ n : Nat, ERel K H μ (List.replicate n none) (List.replicate n none)
  | 0 => .nil
  | n + 1 => .cons (show ORep K H μ none none from trivial) (ERel.nones n)
theorem ERel.start {K : PySem.W.Frag} {H : Hp} {μ : Mem} {vs : List V} {ps : List PV} (r : Reps K H μ vs ps) (N : List Str) : ERel K H μ (L2.start N vs) (startP N.length ps) := by
  unfold L2.start startP
  rw [Paired.length r]
  exact r.somes.append (ERel.nones _)
section
variable {K : PySem.W.Frag} {H H' : Hp} {μ μ' : Mem} {S S1 : Sto}
theorem Mem.sub_grow (μ : Mem) (ν : List Addr) : ∀ a, a ∈ μ → a ∈ μ.grow ν := fun a q => q.elim (fun q => .inl (List.mem_append_left _ q)) .inr
theorem trunc (t : Rel K H μ S) (s : Step H μ H' μ') (t1 : Rel K H' μ' S1) : Step H μ H' μ ∧ Rel K H' μ (S1.take S.length) := by
  obtain ⟨ν, e, f⟩ := s.gro
  subst e
  have le : μ.st.length ≤ S1.length := by have := t1.len; simp [Mem.grow] at this; omega
  refine ⟨⟨s.ext, s.dom, [], by simp [Mem.grow], by simp⟩, ⟨by simp [← t.len]; omega, t.nd, fun n a o e1 e2 => ?_, fun a q => ⟨fun z => (t1.res a q).1 (List.mem_append_left _ z), (t1.res a q).2⟩, t1.tab⟩⟩
  have hn := (List.getElem?_eq_some_iff.mp e1).1
  refine (t1.obj n a o ?_ ?_).sub (μ.sub_grow ν)
  · show (μ.st ++ ν)[n]? = some a
    rw [List.getElem?_append_left hn]; exact e1
  · rw [← t.len, List.getElem?_take_of_lt hn] at e2; exact e2
theorem late (t : Rel K H μ S) (s : Step H μ H' μ') (t1 : Rel K H' μ' S1) {m : Nat} {o : PV} (hm : ¬ m < S.length) (e : S1[m]? = some o) {a : Addr} (ea : μ'.st[m]? = some a) : H a = none ∧ a ∉ μ ∧ ObjR K H' μ a o := by
  obtain ⟨ν, e0, f⟩ := s.gro
  subst e0
  have ea : (μ.st ++ ν)[m]? = some a := ea
  rw [List.getElem?_append_right (by rw [t.len]; omega)] at ea
  have hν := List.mem_of_getElem? ea
  have ha := f a hν
  refine ⟨ha, t.out ha, (t1.obj m a o ?_ e).sub (μ.sub_grow ν)⟩
  show (μ.st ++ ν)[m]? = some a
  rw [List.getElem?_append_right (by rw [t.len]; omega)]
  exact ea
theorem finV_ok {Q : VK} {p : PV} {v : V} (t : Rel K H μ S) (s : Step H μ H' μ') (t1 : Rel K H' μ' S1) (r : Rep K H' μ' v p) (h : FitsC K H μ (finV S.length p S1) Q) : Q v H' := by
  obtain ⟨s2, t2⟩ := trunc t s t1
  have sub : ∀ b, b ∈ μ → b ∈ μ' := fun b q => by
    obtain ⟨ν, e, f⟩ := s.gro
    subst e
    exact q.elim (fun q => .inl (List.mem_append_left _ q)) .inr
  rcases r with r | ⟨m, a, e1, e2, e3⟩ | ⟨_, _, _, _, _, e1, _⟩ | r
  · unfold finV at h
    split at h
    · cases r
    · exact h.elim
    · exact (show FitsC K H μ (.ok _ _) Q from h) H' s2 t2 v (.inl (r.sub sub))
  · subst e1 e3
    unfold finV at h
    simp only at h
    split at h
    · rename_i hm
      refine (show FitsC K H μ (.ok _ _) Q from h) H' s2 t2 _ (.inr (.inl ⟨m, a, rfl, ?_, rfl⟩))
      obtain ⟨ν, e0, f⟩ := s.gro
      subst e0
      have e2 : (μ.st ++ ν)[m]? = some a := e2
      rw [List.getElem?_append_left (by rw [t.len]; exact hm)] at e2
      exact e2
    · rename_i hm
      split at h
      · rename_i o eo
        obtain ⟨_, n1, o1⟩ := late t s t1 hm eo e2
        exact (show FitsC K H μ (.ok _ _) Q from h) H' s2 t2 _ (.inl (o1.repP n1))
      · exact h.elim
  · subst e1
    exact h.elim
  · obtain ⟨c, ps, e⟩ := r.is
    subst e
    refine (show FitsC K H μ (.ok _ _) Q from h) H' s2 t2 v (.inr (.inr (.inr ?_)))
    obtain ⟨c, a, e, n, ⟨e1, g⟩ | ⟨d, f, y, q, e1, g1, nd, g2, ry⟩⟩ := r
    · exact ⟨c, a, e, fun z => n (sub _ z), .inl ⟨e1, g⟩⟩
    · exact ⟨c, a, e, fun z => n (sub _ z), .inr ⟨d, f, y, q, e1, g1, fun z => nd (sub _ z), g2, ry.sub sub⟩⟩
theorem finO_ok {Q : VK} {fl : Fl} {v : V} {m : Nat} (t : Rel K H μ S) (s : Step H μ H' μ') (t1 : Rel K H' μ' S1) (r : Rep K H' μ' v (.ref m)) (h : FitsN K H μ (finO S.length (.rt (.ref m)) S1) Q) : Q v H' := by
  obtain ⟨s2, t2⟩ := trunc t s t1
  replace r := r.two
  rcases r with r | ⟨m', a, e1, e2, e3⟩
  · cases r
  · cases e1
    subst e3
    unfold finO at h
    simp only at h
    split at h
    · exact h.elim
    · rename_i hm
      split at h
      · rename_i o eo
        obtain ⟨h0, n1, o1⟩ := late t s t1 hm eo e2
        have sub : ∀ b, b ∈ μ.grow [a] → b ∈ μ' := fun b q => by
          rcases q with q | q
          · rcases List.mem_append.mp q with q | q
            · obtain ⟨ν, e, f⟩ := s.gro
              subst e
              exact .inl (List.mem_append_left _ q)
            · rw [List.mem_singleton.mp q]
              exact .inl (List.mem_of_getElem? e2)
          · obtain ⟨ν, e, f⟩ := s.gro
            subst e
            exact .inr q
        refine (show FitsN K H μ (.ok o (S1.take S.length)) Q from h) H' a h0 (fun q => n1 (.inr q)) s2 ⟨?_, ?_, fun n b ob e1 e4 => ?_, fun b q => ?_, t1.tab⟩
        · simp [Mem.grow, t2.len]
        · exact List.nodup_append.mpr ⟨t.nd, by simp, fun b hb c hc => by
            rw [List.mem_singleton.mp hc]; intro z; rw [z] at hb; exact n1 (.inl hb)⟩
        · have e1 : (μ.st ++ [a])[n]? = some b := e1
          have l2 := t2.len
          obtain ⟨ν, e5, f⟩ := s.gro
          subst e5
          by_cases hn : n < μ.st.length
          · rw [List.getElem?_append_left hn] at e1
            rw [List.getElem?_append_left (by rw [← l2]; exact hn), ← t.len, List.getElem?_take_of_lt hn] at e4
            refine (t1.obj n b ob ?_ e4).sub sub
            show (μ.st ++ ν)[n]? = some b
            rw [List.getElem?_append_left hn]; exact e1
          · have en : n = μ.st.length := by
              have := (List.getElem?_eq_some_iff.mp e1).1
              simp at this; omega
            subst en
            rw [List.getElem?_append_right (Nat.le_refl _)] at e1
            rw [List.getElem?_append_right (by rw [← l2]; exact Nat.le_refl _)] at e4
            simp [← l2] at e1 e4
            subst e1 e4
            exact (t1.obj m a o e2 eo).sub sub
        · obtain ⟨ν, e5, f⟩ := s.gro
          subst e5
          refine ⟨fun z => (t1.res b q).1 ?_, (t1.res b q).2⟩
          rcases List.mem_append.mp z with z | z
          · exact List.mem_append_left _ z
          · rw [List.mem_singleton.mp z]; exact List.mem_of_getElem? e2
      · exact h.elim
end
section
variable {P : Program} {w : World} {K : PySem.W.Frag} {mg : Str → Option Value} {base : Heap} {x qual : Str} {params : Arguments} {body : List Stmt} {scope : Scope} {f : Addr} {fd : FuncData} {N pn : List Str} {k : Nat} {g : Es}
theorem fn_def (F : FunD K x qual params body scope [] [] f fd) (S : FnScope N pn scope)
    (hbody : ∀ (cdv : Value) (A : Around) (outer : List PySem.Env) (s : Shared) (H : Hp) (E : XK), Room k (A.deeper (envOfC qual scope s.heap.objs.size f cdv)) → ESs (cxOf CX0 P w K mg base N qual scope f cdv A outer s H E).nox body g) :
    FnOk P w K mg base CX0 (k + 1) f fd pn (spM K (mkDef pn.length N.length g)) := by
  refine F.ok S (fun vs H Q E ⟨μ, ps, S, rv, t, hF⟩ => ?_) (fun cdv A outer s H vs Q E hr ⟨μ, ps, S, rv, t, hF⟩ => ⟨_, (hbody cdv A outer s H E hr).nox, ?_⟩)
  · unfold mkDef at hF
    split at hF
    · rename_i h
      rw [Paired.length rv]; exact h
    · exact hF.elim
  · unfold mkDef at hF
    split at hF
    · refine ⟨μ, startP N.length ps, S, ERel.start rv N, t, ?_⟩
      revert hF
      cases g (startP N.length ps) S with
      | er => exact fun z => z
      | no => exact fun z => z
      | ok fl S1 =>
        intro hF H' μ' s1 t1
        have hF : FitsC K H μ (finF S.length fl S1) Q := hF
        cases fl with
        | rt p => exact fun v r => finV_ok t s1 t1 r hF
        | nx ρ => exact fun σ _ => finV_ok t s1 t1 (.inl .non) hF
        | bk ρ => exact hF.elim
        | ct ρ => exact hF.elim
    · exact hF.elim
theorem fn_new (F : FunD K x qual params body scope [] [] f fd) (S : FnScope N pn scope)
    (hbody : ∀ (cdv : Value) (A : Around) (outer : List PySem.Env) (s : Shared) (H : Hp) (E : XK), Room k (A.deeper (envOfC qual scope s.heap.objs.size f cdv)) → ESs (cxOf CX0 P w K mg base N qual scope f cdv A outer s H E).nox body g) :
    FnOk P w K mg base CX0 (k + 1) f fd pn (spN K (mkNew pn.length N.length g)) := by
  refine F.ok S (fun vs H Q E ⟨μ, ps, S, rv, t, hF⟩ => ?_) (fun cdv A outer s H vs Q E hr ⟨μ, ps, S, rv, t, hF⟩ => ⟨_, (hbody cdv A outer s H E hr).nox, ?_⟩)
  · unfold mkNew at hF
    split at hF
    · rename_i h
      rw [Paired.length rv]; exact h
    · exact hF.elim
  · unfold mkNew at hF
    split at hF
    · refine ⟨μ, startP N.length ps, S, ERel.start rv N, t, ?_⟩
      revert hF
      cases g (startP N.length ps) S with
      | er => exact fun z => z
      | no => exact fun z => z
      | ok fl S1 =>
        intro hF H' μ' s1 t1
        have hF : FitsN K H μ (finO S.length fl S1) Q := hF
        cases fl with
        | rt p =>
          cases p with
          | ref m => exact fun v r => finO_ok (fl := .nx []) t s1 t1 r hF
          | _ => exact hF.elim
        | nx ρ => exact hF.elim
        | bk ρ => exact hF.elim
        | ct ρ => exact hF.elim
    · exact hF.elim
end
end Py
set_option Elab.async false
set_option maxRecDepth 100000
set_option maxHeartbeats 4000000
set_option linter.all false
namespace Py
open PySem PySem.Spec PyProof.Rows L2
variable [CT]
def isLst (p : PV) (S : Sto) : Bool := (getL p S).isSome
def eMeth0 (g : PV → Sto → R PV) (a : Ev) : Ev := fun ρ S => (a ρ S).bind fun x S1 => if isLst x S1 = true then g x S1 else .no
def eMeth1 (g : PV → PV → Sto → R PV) (a b : Ev) : Ev := fun ρ S => (a ρ S).bind fun x S1 => if isLst x S1 = true then (b ρ S1).bind fun y S2 => g x y S2 else .no
section
variable {K : PySem.W.Frag}
def gTupOf (ps : List PV) (S : Sto) : R PV := match ps with
  | [.tup xs] => .ok (.tup xs) S
  | [p] => match getL p S with
    | some xs => .ok (.tup xs) S
    | none => .no
  | _ => .no
theorem l_tupOf : LAR K (fun xs H Q => ∃ p ys, xs = [V.ref p] ∧ ((SqL K H p ys ∧ ∀ l, H l = none → Q (.ref l) (upd H l (.tup ys))) ∨ (SqT K H p ys ∧ Q (.ref p) H))) gTupOf := by
  intro Q H μ S vs ps rv t hF
  unfold gTupOf at hF
  split at hF
  · obtain ⟨v, rfl, r1⟩ := rv.one
    obtain ⟨a, ws, rfl, g1, g2⟩ := r1.tup_inv
    exact ⟨a, ws, rfl, .inr ⟨g1.sq, hF.val t r1⟩⟩
  · split at hF
    · rename_i xs e
      obtain ⟨v, rfl, r1⟩ := rv.one
      obtain ⟨a, ws, rfl, g1, g2⟩ := getL_of t r1 e
      exact ⟨a, ws, rfl, .inl ⟨g1, lay_tup (fun p S H' μ' h => h) hF t g2⟩⟩
    · exact hF.elim
  · exact hF.elim
def gLstOf (ps : List PV) (S : Sto) : R PV := match ps with
  | [p] => match getQ p S with
    | some xs => .ok (.lst xs) S
    | none => .no
  | _ => .no
theorem l_lstOf : LAF K (fun xs H Q => ∃ p ys, xs = [V.ref p] ∧ (SqL K H p ys ∨ SqT K H p ys) ∧ ∀ l, H l = none → Q (.ref l) (upd H l (.lst ys))) gLstOf := by
  intro Q H μ S vs ps rv t hF
  unfold gLstOf at hF
  split at hF
  · split at hF
    · rename_i xs e
      obtain ⟨v, rfl, r1⟩ := rv.one
      obtain ⟨a, ws, rfl, g1, g2⟩ := getQ_of t r1 e
      exact ⟨a, ws, rfl, g1, FitsF.lay hF (Step.refl _ _) t g2⟩
    · exact hF.elim
  · exact hF.elim
inductive Ty where
  | non | bool | int | str | tuple | list | dict
  deriving DecidableEq
def Ty.name : Ty → String
  | .non => "NoneType"
  | .bool => "bool"
  | .int => "int"
  | .str => "str"
  | .tuple => "tuple"
  | .list => "list"
  | .dict => "dict"
def tyP (p : PV) (S : Sto) : Option Ty := match p with
  | .non => some .non
  | .bl _ => some .bool
  | .int _ => some .int
  | .str _ => some .str
  | .tup _ => some .tuple
  | .lst _ => some .list
  | .frl _ => some .list
  | .dic _ _ => some .dict
  | .ref n => match S[n]? with
    | some (.lst _) => some .list
    | some (.dic _ _) => some .dict
    | _ => none
  | .adr _ => none
  | .clo _ _ => none
  | .err _ _ => none
def isiB (a T : Ty) : Bool := match a, T with
  | .bool, .int => true
  | a, T => decide (a = T)
theorem kit_isi (a T : Ty) : PySem.W.kitOne K (.type a.name) (.type T.name) = some (isiB a T) := by
  cases a <;> cases T <;> exact kit_ty (by decide +kernel)
theorem TupAt.ty {H μ a xs} (h : TupAt K H μ a xs) : TyX K H (.ref a) (.type "tuple") := by
  rcases h with ⟨r, _⟩ | ⟨o, its, n, e, c, _⟩
  · rcases r with r | ⟨o, r⟩
    · exact .base (.tup r)
    · exact .fTuple r
  · exact .kTuple e c
theorem tyP_of {H μ S v p a} (t : Rel K H μ S) (r : Rep K H μ v p) (e : tyP p S = some a) : TyX K H v (.type a.name) := by
  unfold tyP at e
  split at e
  · cases e; cases rep_non r; exact .base .non
  · cases e; cases rep_bl r; exact .base (.bl _)
  · cases e; cases rep_int r; exact .base (.int _)
  · cases e; cases rep_str r; exact .base (.str _)
  · cases e
    obtain ⟨a, vs, rfl, g, _⟩ := r.tup_inv
    exact g.ty
  · cases e
    obtain ⟨a, vs, rfl, g, _⟩ := r.lst_inv
    exact .base (.lst g)
  · cases e
    replace r := r.two
    rcases r with r | ⟨_, _, e, _⟩
    · cases r with
      | frl h1 h2 =>
        rcases h1 with ⟨⟨o, h1⟩, _⟩ | ⟨o, its, n, e, c, _⟩
        · exact .base (.frz h1)
        · exact .kList e c
    · cases e
  · cases e
    replace r := r.two
    rcases r with r | ⟨_, _, e, _⟩
    · cases r with
      | dic h1 n h2 => exact .base (.dK h1)
    · cases e
  · replace r := r.two
    rcases r with r | ⟨m, a, e1, e2, e3⟩
    · cases r
    cases e1
    subst e3
    split at e
    · rename_i xs eo
      cases e
      obtain ⟨vs, g, _⟩ := t.obj _ _ _ e2 eo
      exact .base (.lst g)
    · rename_i ks xs eo
      cases e
      obtain ⟨vs, g, _⟩ := t.obj _ _ _ e2 eo
      exact .base (.dK g)
    · cases e
  · cases e
  · cases e
  · cases e
def gIsi (T : Ty) (p : PV) (S : Sto) : R PV := match tyP p S with
  | some a => .ok (.bl (isiB a T)) S
  | none => .no
end
theorem ee_isi {X : Cx} {e : Expr} {fe : Ev} {x : Str} (T : Ty) {p p2 pos : Pos} (hg : Gl X "isinstance") (hm : X.mg "isinstance" = none) (he : EE X e fe) (hT : PE X (.Name x p2) (tC (.ty T.name)))
    (hv : bootBuiltins "isinstance" = some (.builtin "isinstance") := by decide +kernel) (h1 : starEach (e :: [.Name x p2]) X.env = (false, eval e X.env) :: starEach [.Name x p2] X.env := by rfl) (h2 : starEach [.Name x p2] X.env = (false, eval (.Name x p2) X.env) :: starEach [] X.env := by rfl) (hpl : (backTo pos (starEach [.Name x p2] X.env)).any (·.1) = false := by rfl) :
    EE X (.Call (.Name "isinstance" p) [e, .Name x p2] [] pos) (eUn (gIsi T) fe) :=
  pe_mono (pe_callB call_isi hg hm hv (pa_cons he (pa_cons hT pa_nil h2) h1) (by decide) (by decide) h1 hpl) fun σ H Q ⟨μ, ρ, S, hE, hR, hF⟩ => ⟨μ, ρ, S, hE, hR, (FitsG.bind hF).imp fun q S1 H1 μ1 s1 t1 h1 v rv => by
    unfold gIsi at h1
    split at h1
    · rename_i a ea
      exact ⟨v, .ty T.name, _, _, _, rfl, .ty _, tyP_of t1 rv ea, kit_isi a T, h1.val t1 (.inl (.bl _))⟩
    · exact h1.elim⟩
theorem Paired.append {α β : Type} {F : α → β → Prop} : ∀ {a b : List α} {c d : List β}, Paired F a c → Paired F b d → Paired F (a ++ b) (c ++ d)
  | _, _, _, _, .nil, h => h
  | _, _, _, _, .cons r t, h => .cons r (Paired.append t h)
end Py
set_option Elab.async false
set_option maxRecDepth 100000
set_option maxHeartbeats 4000000
set_option linter.all false
namespace Py
open PySem PySem.Spec PyProof.Rows L2
variable [CT]
def keyP : PV → Option Key
  | .int i => some (.inl i)
  | .str z => some (.inr z)
  | _ => none
def dgetP : List Key → List PV → Key → Option PV
  | k :: ks, v :: vs, j => if k = j then some v else dgetP ks vs j
  | _, _, _ => none
def dsetP : List Key → List PV → Key → PV → List PV
  | k :: ks, v :: vs, j, p => (if k = j then p else v) :: dsetP ks vs j p
  | _, vs, _, _ => vs
def getD (p : PV) (S : Sto) : Option (List Key × List PV) := match p with
  | .dic ks vs => some (ks, vs)
  | .ref n => match S[n]? with
    | some (.dic ks vs) => some (ks, vs)
    | _ => none
  | _ => none
section
variable {K : PySem.W.Frag} {H : Hp} {μ : Mem}
theorem dset_of {v : V} {p : PV} (k : Key) (r : RepP K H μ v p) : ∀ {kvs : List (Key × V)} {ps : List PV}, RepPs K H μ (kvs.map (·.2)) ps → RepPs K H μ ((kvs.map fun kv => if kv.1 = k then (kv.1, v) else kv).map (·.2)) (dsetP (kvs.map (·.1)) ps k p)
  | [], _, h => by cases h; exact .nil
  | q :: kvs, ps, h => by
    cases h with
    | cons h1 h2 =>
      rw [List.map_cons, List.map_cons, List.map_cons, dsetP]
      refine .cons ?_ (dset_of k r h2)
      by_cases e : q.1 = k
      · rw [if_pos e, if_pos e]; exact r
      · rw [if_neg e, if_neg e]; exact h1
end
def gDGet1 (x y : PV) (S : Sto) : R PV := match getD x S, keyP y with
  | some (ks, vs), some k => .ok ((dgetP ks vs k).getD .non) S
  | _, _ => .no
def isDic (p : PV) (S : Sto) : Bool := (getD p S).isSome
def eDGet1 (a b : Ev) : Ev := fun ρ S => (a ρ S).bind fun x S1 => if isDic x S1 = true then (b ρ S1).bind fun y S2 => gDGet1 x y S2 else .no
section
variable {X : Cx} {o i e value : Expr} {fo fi fv : Ev} {pos pos' apos cpos : Pos}
theorem ef_dnew : EF X (.Dict [] [] pos) (fun _ S => .ok (.dic [] []) S) := pe_mono pe_dnewK fun σ H Q ⟨μ, ρ, S, hE, hR, hF⟩ p hp => by
  have l := Step.laid H μ hp (.dK [])
  refine hF (upd H p (.dK [])) μ p hp (fun q => hR.resn q hp) l ⟨by simp [Mem.grow, hR.len], ?_, fun n a ob e1 e2 => ?_, hR.resG hp _, tabs_upd hR.tab fun u e => by rw [hp] at e; cases e⟩
  · exact List.nodup_append.mpr ⟨hR.nd, by simp, fun a ha b hb => by
      rw [List.mem_singleton.mp hb]; intro z; rw [z] at ha; exact Mem.nst (hR.out hp) ha⟩
  · have s : Step H μ (upd H p (.dK [])) (μ.grow [p]) := ⟨l.ext, l.dom, [p], rfl, fun a q => by rw [List.mem_singleton.mp q]; exact hp⟩
    have e1 : (μ.st ++ [p])[n]? = some a := e1
    by_cases hn : n < μ.st.length
    · rw [List.getElem?_append_left hn] at e1
      rw [List.getElem?_append_left (by rw [← hR.len]; exact hn)] at e2
      exact (hR.obj n a ob e1 e2).step s (upd_ne fun z => Mem.nst (hR.out hp) (by rw [← z]; exact List.mem_of_getElem? e1))
    · have e : n = μ.st.length := by
        have := (List.getElem?_eq_some_iff.mp e1).1
        simp at this; omega
      subst e
      rw [List.getElem?_append_right (Nat.le_refl _)] at e1
      rw [List.getElem?_append_right (by rw [hR.len]; exact Nat.le_refl _)] at e2
      simp [hR.len] at e1 e2
      subst e1 e2
      exact ⟨[], upd_same, rfl, .nil⟩
end
end Py
set_option Elab.async false
set_option maxRecDepth 100000
set_option maxHeartbeats 4000000
set_option linter.all false
namespace Py
open PySem PySem.Spec PyProof.Rows L2
variable [CT]
section
variable {X : Cx} {a b c : Expr} {fa fb fc : Ev} {pos : Pos}
theorem ee_notT (ha : EE X a fa) : EE X (.UnaryOp .Not a pos) (eNotT fa) :=
  pe_mono (pe_notT ha) fun σ H Q ⟨μ, ρ, S, hE, hR, hF⟩ => ⟨μ, ρ, S, hE, hR, (FitsG.bind hF).imp fun p S1 H1 μ1 s1 t1 h1 v rv => by
    obtain ⟨k, h2, h3, h4⟩ := truP_of t1 rv (FitsG.bind h1)
    exact ⟨k, h2, FitsG.val h3 t1 (.inl (.bl _))⟩⟩
end
inductive KRep (K : PySem.W.Frag) : V → PV → Prop
  | int (i : Int) : KRep K (.int i) (.int i)
  | str (x : Str) : KRep K (.str x) (.str x)
inductive KReps (K : PySem.W.Frag) : List V → List PV → Prop
  | nil : KReps K [] []
  | cons {v p vs ps} : KRep K v p → KReps K vs ps → KReps K (v :: vs) (p :: ps)
theorem KReps.reps {K : PySem.W.Frag} {vs : List V} {ps : List PV} (h : KReps K vs ps) (H : Hp) (μ : Mem) : RepPs K H μ vs ps := by
  induction h with
  | nil => exact .nil
  | cons h _ ih =>
    refine .cons ?_ ih
    cases h with
    | int i => exact .int i
    | str x => exact .str x
/-- all parameters by their names, in order -/
def KB0 (K : PySem.W.Frag) (fd : FuncData) (pn : List Str) : Prop := ∀ (s : Shared) (ws : List Value), K.In s.heap → ws.length = pn.length → BindsTo s fd ⟨[], pn.zip ws⟩ (pn.zip ws)
structure Cal (P : Program) (w : World) (K : PySem.W.Frag) (mg : Str → Option Value) (base : Heap) (k : Nat) (x : Str) (pn : List Str) (sp : Sp) : Prop where
  ex : ∃ f fd, mg x = some (.ref f) ∧ PySem.W.keepIn K (.ref f) = true ∧ Binds K fd pn [] ∧ KB0 K fd pn ∧ FnOk P w K mg base CX0 k f fd pn sp
section
variable {X : Cx} {k j : Nat} {pn : List Str} {m : Fn} {x : Str} {p pos : Pos} {e : Expr} {es : List Expr} {fa : Ea}
theorem ee_callC (C : Cal X.prog X.w X.K X.mg X.base k x pn (spM X.K m)) (hr : Room j X.A) (hk : k ≤ j) (hg : Gl X x) (ha : EA X (e :: es) fa) (hdb : (x == ("__debug__" : Str)) = false := by decide)
    (he : starEach (e :: es) X.env = (false, eval e X.env) :: starEach es X.env := by rfl) (hpl : (backTo pos (starEach es X.env)).any (·.1) = false := by rfl) : EE X (.Call (.Name x p) (e :: es) [] pos) (eArgs m fa) := by
  obtain ⟨f, fd, h1, h2, h3, _, F⟩ := C.ex
  exact ee_call F (hr.mono hk) hg h1 h2 h3 ha hdb he hpl
theorem ef_callC (C : Cal X.prog X.w X.K X.mg X.base k x pn (spN X.K m)) (hr : Room j X.A) (hk : k ≤ j) (hg : Gl X x) (ha : EA X (e :: es) fa) (hdb : (x == ("__debug__" : Str)) = false := by decide)
    (he : starEach (e :: es) X.env = (false, eval e X.env) :: starEach es X.env := by rfl) (hpl : (backTo pos (starEach es X.env)).any (·.1) = false := by rfl) : EF X (.Call (.Name x p) (e :: es) [] pos) (eArgs m fa) := by
  obtain ⟨f, fd, h1, h2, h3, _, F⟩ := C.ex
  exact ef_call F (hr.mono hk) hg h1 h2 h3 ha hdb he hpl
end
section
variable {P : Program} {w : World} {K : PySem.W.Frag} {mg : Str → Option Value} {base : Heap} {x qual : Str} {params : Arguments} {body : List Stmt} {scope : Scope} {f : Addr} {fd : FuncData} {N pn : List Str} {k : Nat} {g : Es} {sp : Sp}
theorem cal_of (hm : mg x = some (.ref f)) (F : FunD K x qual params body scope [] [] f fd)
    (h : ∀ (kV doc pm : Value) (an : Option Addr) (cdv ct : Value) (us : List Value), us.length = pn.length → bindArgs (PySem.W.fnOf x qual params body scope .none kV doc pm an cdv ct) ⟨us, []⟩ = pure (pn.zip us))
    (hk : ∀ (kV doc pm : Value) (an : Option Addr) (cdv ct : Value) (us : List Value), us.length = pn.length → bindArgs (PySem.W.fnOf x qual params body scope .none kV doc pm an cdv ct) ⟨[], pn.zip us⟩ = pure (pn.zip us))
    (G : FnOk P w K mg base CX0 k f fd pn sp) : Cal P w K mg base k x pn sp := by
  refine ⟨f, fd, hm, F.kp, F.bindsN h, fun s ws hK hl => ?_, G⟩
  obtain ⟨oc, od, dV, kV, doc, pm, an, cdv, ct, osl, rfl, lk, hcd, hD, hK⟩ := F.ex
  rcases hD with ⟨_, rfl⟩ | ⟨e, _⟩
  · exact .of_eq (hk kV doc pm an cdv ct ws hl)
  · exact absurd rfl e
theorem fn_zero (hpn : True) : FnOk P w K mg base CX0 k f fd pn (spM K (fun _ _ => .no)) := ⟨fun vs H Q E ⟨μ, ps, S, rv, t, hF⟩ => hF.elim, fun A outer s H args us vs Q E _ _ _ _ ⟨μ, ps, S, rv, t, hF⟩ => hF.elim⟩
end
end Py
set_option Elab.async false
set_option maxRecDepth 100000
set_option maxHeartbeats 4000000
set_option linter.all false
namespace Py
open PySem PySem.Spec PyProof.Rows L2
variable [CT]
theorem hu64 {A : Around} {k : Nat} (hr : Room k A) : A.units + 64 < cLine := hr.units
theorem aLen1 {a : Ev} {ρ : Env} {S : Sto} {ps S' : List PV} (h : aCons a aNil ρ S = .ok ps S') : ps.length = 1 := by
  unfold aCons at h
  cases e : a ρ S with
  | ok x S1 => rw [e] at h; cases h; rfl
  | er => rw [e] at h; cases h
  | no => rw [e] at h; cases h
section
variable {prog : Program} {w : World} {A : Around} {E : Value → Shared → Prop} {s : Shared}
theorem sum_tupG {t : Addr} {xs : Array (Int × Tok)} {Q : Value → Shared → Prop} (hh : A.handled = none) (ht : s.heap.IsTuple t (intItems xs))
    (h : ∀ h' tk t', (∀ b o, s.heap.get? b = some o → h'.get? b = some o) → Q (.int (preSum (numAt xs) xs.size) t') { s with heap := h', toks := tk }) :
    wpAny (model prog w) A (call (.builtin "sum") [.ref t]) Q E s := by
  have lt : t < s.heap.objs.size := by
    obtain ⟨_, e, _⟩ := ht
    exact Heap.lt_size e
  refine call_sum_walkG (wpAny_pyIter_tuple ht ?_)
  have st : (s.heap.push { cls := .type "tuple_iterator", data := .fields #[.ref t, .int 0 0] }).IsTupleIter s.heap.objs.size t 0 := ⟨_, Heap.get?_push_size _ rfl, rfl, rfl⟩
  have tp : (s.heap.push { cls := .type "tuple_iterator", data := .fields #[.ref t, .int 0 0] }).IsTuple t (intItems xs) := ht.push _
  refine ⟨_, _, _, _, _, _, numAt xs, rfl, Walks.tuple (A := A.in1) hh _ t (Nat.ne_of_lt lt) (intItems xs), ⟨st, tp⟩, fun b hb => ?_, fun _ _ => intItems_at, fun h' tk t' hk => ?_⟩
  · show b < (s.heap.push _).objs.size
    rw [Heap.size_push]
    rcases (show b = s.heap.objs.size ∨ b = t by simpa using hb) with z | z
    · rw [z]; exact Nat.lt_succ_self _
    · rw [z]; exact Nat.lt_succ_of_lt lt
  · have := h h' tk t' fun b o e => hk b o (fun hm => absurd (by rw [List.mem_singleton.mp hm] at e; exact Heap.lt_size e) (Nat.lt_irrefl _)) (Heap.get?_push_of_some _ e)
    simpa [intItems] using this
end
def rSumT (K : PySem.W.Frag) : List V → Hp → VK → Prop := fun vs H Q => ∃ (a : Addr) (ns : List Int), vs = [V.ref a] ∧ SqT K H a (ns.map V.int) ∧ Q (.int ns.sum) H
theorem call_sumT {X : Cx} (hc : X.calm = true) : CallR X (.builtin "sum") (rSumT X.K) := by
  intro pins s σ H xs us Q I r q
  obtain ⟨a, ns, ex, hq, q⟩ := q
  subst ex
  cases r with
  | cons r rr =>
    cases rr
    cases r
    obtain ⟨its, rv, pt, _⟩ := I.tuple hq
    have hi : IntsAre its ns := RZ.intsAre_vals rv
    obtain ⟨ys, ey⟩ := hi.allInts.items
    have hn : numsOf (intItems ys).toList = ns := by rw [← ey]; exact hi.numsOf
    rw [nums_intItems] at hn
    have hT : s.heap.IsTuple a (intItems ys) := by rw [← ey]; exact pt
    refine sum_tupG (I.ok.hd hc) hT fun h' tk t' hk => ?_
    rw [preSum_eq, List.take_of_length_le (by simp), hn]
    exact ⟨.int ns.sum, H, I.kept hk, ⟨_, rfl⟩, q⟩
theorem call_sumA {X : Cx} (hc : X.calm = true) : CallR X (.builtin "sum") (fun vs H Q => rSum X.K vs H Q ∨ rSumT X.K vs H Q) := CallR.or (cr_sum hc) (call_sumT hc)
def gSumA (ps : List PV) (S : Sto) : R PV := match ps with
  | [p] => match (getQ p S).bind intsOf with
    | some ns => .ok (.int ns.sum) S
    | none => .no
  | _ => .no
theorem l_sumA {K : PySem.W.Frag} : LAR K (fun vs H Q => rSum K vs H Q ∨ rSumT K vs H Q) gSumA := by
  intro Q H μ S vs ps rv t hF
  unfold gSumA at hF
  split at hF
  · split at hF
    · rename_i ns e
      obtain ⟨v, rfl, h1⟩ := rv.one
      cases e1 : getQ _ S with
      | none => rw [e1] at e; cases e
      | some xs =>
        rw [e1] at e
        obtain ⟨a, vs, rfl, g1, g2⟩ := getQ_of t h1 e1
        rw [intsOf_eq e] at g2
        rw [g2.ints] at g1
        rcases g1 with g1 | g1
        · exact .inl ⟨a, ns, rfl, g1, hF.val t (.inl (.int _))⟩
        · exact .inr ⟨a, ns, rfl, g1, hF.val t (.inl (.int _))⟩
    · exact hF.elim
  · exact hF.elim
theorem tuple_mul0 (l : Addr) (n : Nat) (dd : Option Addr) (sl : Array (Option Value)) (x : Int) (u : Tok) (c0 : (decide (x < -(2 ^ 63)) || decide (x ≥ 2 ^ 63)) = false) :
    Meets (Builtin.«tuple.__mul__» ⟨[.ref l, .int x u], []⟩) (fun _ R s => s.heap.get? l = some { cls := .type "tuple", dict := dd, data := .seq #[] n, slots := sl } ∧ R (.ok (.ret (Value.ref l))) s) :=
  .of_wp fun prog w A R s h => by
    obtain ⟨hp, g, d, tk, os⟩ := s
    obtain ⟨hl, h⟩ := h
    have f1 := AutoSeq1.idx_int
    wp_walk using wpAny_loadPart' hl
    repeat (first
      | (refine wpAny_ite_false (decide_eq_false (by rw [c0]; exact Bool.false_ne_true)) ?_; wp_walk using wpAny_loadPart' hl)
      | (refine wpAny_ite_true (decide_eq_true (by rfl)) ?_; wp_walk using wpAny_loadPart' hl))
    exact ⟨_, rfl, h⟩
def rRep0 (K : PySem.W.Frag) : R2 := fun x y H Q => ∃ l k, x = .ref l ∧ y = .int k ∧ SqT K H l [] ∧ 0 ≤ k ∧ k ≤ 1000 ∧ Q (.ref l) H
theorem op_rep0 {X : Cx} : OpR X (binaryOp .Mult) (rRep0 X.K) := by
  intro pins s σ H x y v u Q I rx ry h
  obtain ⟨l, k, ex, ey, hT, h1, h2, q⟩ := h
  subst ex ey
  cases rx
  obtain ⟨t, et⟩ := ry
  subst et
  obtain ⟨its, r, ⟨⟨cls, dd, data, sl⟩, ho, hc, n, hd⟩, hs⟩ := I.tuple hT
  simp only at hc hd
  subst hc hd
  cases r
  have c0 : (decide (k < -(2 ^ 63)) || decide (k ≥ 2 ^ 63)) = false := by
    rw [decide_eq_false (by omega), decide_eq_false (by omega)]
    rfl
  refine wpAny_binaryOp_repeat_ref (T := "tuple") (U := "int") (by decide) ⟨_, ho, rfl⟩ (fun s' => typeIs_int s' k t) noFill_tuple_mul F.fills_int_mul F.slot_int_rmul repeat_tuple F.slot_int_index.lookup (call_meets F.slot_int_rmul (typeIs_int s k t) F.entry_int_rmul (F.args_int_rmul_2 _ _) (int_rmul_tuple k t l #[] n dd sl) ⟨ho, rfl, ⟨_, ho, rfl⟩, ?_⟩)
  exact call_meets F.slot_tuple_mul ⟨_, ho, rfl⟩ F.entry_tuple_mul (F.args_tuple_mul_2 _ _) (tuple_mul0 l n dd sl k t c0) ⟨ho, ⟨.ref l, H, I, rfl, q⟩⟩
theorem op_repA {X : Cx} : OpR X (binaryOp .Mult) (fun x y H Q => rRepT X.K x y H Q ∨ rRep0 X.K x y H Q) := OpR.or op_repT op_rep0
def gRep (p q : PV) (S : Sto) : R PV := match p, q with
  | .tup [], .int k => if 0 ≤ k ∧ k ≤ 1000 then .ok (.tup []) S else .no
  | .tup xs, .int k => if 2 ≤ k ∧ k ≤ 1000 ∧ xs.length ≤ 1000 then .ok (.tup (List.replicate k.toNat xs).flatten) S else .no
  | _, _ => .no
theorem RepPs.rep {K : PySem.W.Frag} {H : Hp} {μ : Mem} {ps : List PV} {vs : List V} (r : RepPs K H μ vs ps) : ∀ n : Nat, RepPs K H μ (List.replicate n vs).flatten (List.replicate n ps).flatten
  | 0 => .nil
  | n + 1 => by
    rw [List.replicate_succ, List.replicate_succ, List.flatten_cons, List.flatten_cons]
    exact r.append (RepPs.rep r n)
theorem l_rep {K : PySem.W.Frag} : L2R K (fun x y H Q => rRepT K x y H Q ∨ rRep0 K x y H Q) gRep := by
  intro Q H μ S v w p q rv rw' t hF
  unfold gRep at hF
  split at hF
  · split at hF
    · rename_i hc
      obtain ⟨a, vs, rfl, g1, g2⟩ := rv.tup_inv
      cases rep_int rw'
      cases g2
      exact .inr ⟨a, _, rfl, rfl, g1.sq, hc.1, hc.2, hF.val t rv⟩
    · exact hF.elim
  · rename_i xs k hne
    split at hF
    · rename_i hc
      obtain ⟨a, vs, rfl, g1, g2⟩ := rv.tup_inv
      cases rep_int rw'
      refine .inl ⟨a, _, vs, rfl, rfl, g1.sq, fun e => ?_, hc.1, hc.2.1, by rw [g2.length]; exact hc.2.2, lay_tup (fun p S H' μ' h => h) hF t (g2.rep _)⟩
      subst e
      exact hne (List.eq_nil_of_length_eq_zero g2.length.symm) 
    · exact hF.elim
  · exact hF.elim
def DEnt (K : PySem.W.Frag) (e : DictEntry) (q : Str × List Int) : Prop := (∃ t, e.key = .str q.1 t) ∧ ∃ b vs, e.val = .ref b ∧ KT K b vs ∧ vs = q.2.map V.int
def gKIn (neg : Bool) (ks : List Str) (p : PV) (S : Sto) : R PV := match p with
  | .str z => .ok (.bl (if neg then !decide (z ∈ ks) else decide (z ∈ ks))) S
  | _ => .no
theorem find_d {K : PySem.W.Frag} (z : Str) : ∀ {l : List DictEntry} {d : List (Str × List Int)}, Paired (DEnt K) l d → (l.find? (·.key.isStr z)).isSome = decide (z ∈ d.map (·.1)) ∧ l.any (·.refKey) = false
  | [], _, h => by cases h; exact ⟨rfl, rfl⟩
  | e :: l, _, h => by
    cases h with
    | cons h1 h2 =>
      rename_i q d
      obtain ⟨⟨t, ek⟩, _⟩ := h1
      obtain ⟨g1, g2⟩ := find_d z h2
      have hk : e.key.isStr z = decide (q.1 = z) := by
        rw [ek]
        show (q.1 == z) = _
        exact Bool.beq_eq_decide_eq _ _
      refine ⟨?_, ?_⟩
      · rw [List.find?_cons, hk]
        by_cases hz : q.1 = z
        · rw [decide_eq_true hz]
          exact (decide_eq_true (by rw [List.map_cons, hz]; exact List.mem_cons_self ..)).symm
        · rw [decide_eq_false hz]
          show (l.find? _).isSome = _
          rw [g1, List.map_cons]
          exact decide_eq_decide.mpr ⟨fun m => List.mem_cons_of_mem _ m, fun m => (List.mem_cons.mp m).elim (fun e => absurd e.symm hz) fun m => m⟩
      · rw [List.any_cons, g2, Bool.or_false]
        unfold DictEntry.refKey
        rw [ek]
theorem nsIn_d {K : PySem.W.Frag} {w : World} {a : Addr} {es : Array DictEntry} {n : Nat} {d : List (Str × List Int)} (D : KDict K w a es n) (r : Paired (DEnt K) es.toList d) (z : Str) : ∃ o, PySem.W.nsIn K a z = some o ∧ o.isSome = decide (z ∈ d.map (·.1)) := by
  obtain ⟨g1, g2⟩ := find_d z r
  unfold PySem.W.nsIn
  rw [D.at_]
  show ∃ o, (match es.toList.find? (·.key.isStr z) with
      | some e => some (some e.val)
      | none => if es.toList.any (·.refKey) then none else some none) = some o ∧ _
  rw [g2]
  revert g1
  cases es.toList.find? (·.key.isStr z) with
  | none => exact fun g1 => ⟨none, rfl, g1⟩
  | some e => exact fun g1 => ⟨some e.val, rfl, g1⟩
section
variable {X : Cx} {x : Str} {e : Expr} {fe : Ev} {d : List (Str × List Int)} {ks : List Str} {pos p2 : Pos}
theorem kin {K : PySem.W.Frag} {w : World} {mg : Str → Option Value} {neg : Bool} {σ : L2.St} {H : Hp} {Q : VK} (hk : ks = d.map (·.1)) {a : Addr} {es : Array DictEntry} {n : Nat} (D : KDict K w a es n) (r : Paired (DEnt K) es.toList d) (h : tEv K (eUn (gKIn neg ks) fe) σ H Q) :
    tEv K fe σ H fun v H1 => ∃ (z : Str) (o : Option Value), v = .str z ∧ V.ref a = V.ref a ∧ PySem.W.nsIn K a z = some o ∧ Q (.bl (if neg then !o.isSome else o.isSome)) H1 := by
  obtain ⟨μ, ρ, S, hE, hR, hF⟩ := h
  refine ⟨μ, ρ, S, hE, hR, (FitsG.bind hF).imp fun q S1 H1 μ1 s1 t1 h1 v rv => ?_⟩
  unfold gKIn at h1
  split at h1
  · rename_i z
    cases rep_str rv
    obtain ⟨o, o1, o2⟩ := nsIn_d D r z
    refine ⟨z, o, rfl, rfl, o1, ?_⟩
    rw [o2, ← hk]
    exact h1.val t1 (.inl (.bl _))
  · exact h1.elim
end
theorem pure_gLt : ∀ p q S z S', gLt p q S = .ok z S' → S' = S := by
  intro p q S z S' h; unfold gLt at h; split at h <;> cases h; rfl
end Py
set_option Elab.async false
set_option maxRecDepth 100000
set_option maxHeartbeats 4000000
set_option linter.all false
namespace Py
open PySem PySem.Spec PyProof.Rows L2
end Py
set_option Elab.async false
set_option maxRecDepth 100000
set_option maxHeartbeats 4000000
set_option linter.all false
namespace L2
open PySem PySem.Spec PyProof.Rows
end L2
namespace Py
open PySem PySem.Spec PyProof.Rows L2
end Py
set_option Elab.async false
set_option maxRecDepth 100000
set_option maxHeartbeats 4000000
set_option linter.all false
namespace PySem
namespace AutoSeq1
open Spec PyProof.Rows
end AutoSeq1
end PySem
namespace L2
open PySem PySem.Spec PyProof.Rows
end L2
namespace Py
open PySem PySem.Spec PyProof.Rows L2
end Py
set_option Elab.async false
set_option maxRecDepth 100000
set_option maxHeartbeats 4000000
set_option linter.all false
namespace Py
open PySem PySem.Spec PyProof.Rows L2
variable [CT]
variable {K : PySem.W.Frag}
def sPar3 (i j l : Nat) (a b c : Ev) : Es := fun ρ S => (a ρ S).bind fun p S1 => (b ρ S1).bind fun q S2 => (c ρ S2).bind fun r S3 => .ok (.nx (((ρ.set i (some p)).set j (some q)).set l (some r))) S3
end Py
set_option Elab.async false
set_option maxRecDepth 100000
set_option maxHeartbeats 4000000
set_option linter.all false
namespace HT
open PySem PySem.Spec PyProof.Rows L2
section
variable {prog : Program} {w : World} {A : Around} {E : Value → Shared → Prop} {s : Shared}
theorem sliceApplied_rev {sl : Addr} {vl vu vs : Value} {n : Nat} {Q : Int × Int × Nat → Shared → Prop} (hs : s.heap.IsSliceOf sl vl vu vs) (pl : IsPart vl none) (pu : IsPart vu none) (pk : IsPart vs (some (-1)))
    (h : Q ((n : Int) - 1, -1, n) s) : wpAny (model prog w) A (Builtin.Slice.sliceApplied (.ref sl) (pure (n : Int))) Q E s := by
  obtain ⟨os, hos, hcs, hds⟩ := id hs
  unfold Builtin.Slice.sliceApplied Builtin.Slice.sliceFields
  refine wpAny_bind (wpAny_bind (wpAny_field hos hds (x := vl) rfl (wpAny_bind (wpAny_field hos hds (x := vu) rfl (wpAny_bind (wpAny_field hos hds (x := vs) rfl (wpAny_pure ?_)))))))
  refine wpAny_bind (slicePart_ pk ?_)
  show wpAny _ _ (if ((-1 : Int) == 0) = true then _ else _) _ _ s
  rw [if_neg (by decide)]
  refine wpAny_bind (slicePart_ pl (wpAny_bind (slicePart_ pu (wpAny_bind (wpAny_pure ?_)))))
  have ha : Builtin.Slice.sliceAdjust none none (-1) (n : Int) = ((n : Int) - 1, -1) := by
    unfold Builtin.Slice.sliceAdjust
    simp
  show wpAny _ _ (match Builtin.Slice.sliceAdjust none none (-1) (n : Int) with | (lo, hi) => pure (lo, (-1 : Int), Builtin.Slice.slicePlaces lo hi (-1))) _ _ s
  rw [ha]
  have hp : Builtin.Slice.slicePlaces ((n : Int) - 1) (-1) (-1) = n := by
    unfold Builtin.Slice.slicePlaces
    rw [if_neg (by decide)]
    by_cases hn : n = 0
    · subst hn; rfl
    · rw [if_pos (by omega)]
      have : -(-1 : Int) = 1 := rfl
      rw [this, Int.ediv_one]
      omega
  show wpAny _ _ (pure ((n : Int) - 1, (-1 : Int), Builtin.Slice.slicePlaces ((n : Int) - 1) (-1) (-1))) _ _ s
  rw [hp]
  exact wpAny_pure h
theorem pick_rev (xs : Array Value) : ((List.range xs.size).filterMap fun (m : Nat) => xs[(((xs.size : Nat) : Int) - 1 + (m : Int) * (-1)).toNat]?).toArray = xs.toList.reverse.toArray := by
  have e : (List.range xs.size).filterMap (fun (m : Nat) => xs[(((xs.size : Nat) : Int) - 1 + (m : Int) * (-1)).toNat]?) = ((List.range xs.size).map fun k => xs.size - 1 - k).filterMap fun k => xs[k]? := by
    rw [List.filterMap_map]
    have fc : ∀ (f g : Nat → Option Value) (l : List Nat), (∀ m ∈ l, f m = g m) → l.filterMap f = l.filterMap g := fun f g l => by
      induction l with
      | nil => exact fun _ => rfl
      | cons x l ih =>
        intro h
        rw [List.filterMap_cons, List.filterMap_cons, h x (by simp), ih fun m hm => h m (by simp [hm])]
    refine fc _ _ _ fun m hm => ?_
    have := List.mem_range.mp hm
    have e3 : (((xs.size : Nat) : Int) - 1 + (m : Int) * (-1)).toNat = xs.size - 1 - m := by omega
    show xs[(((xs.size : Nat) : Int) - 1 + (m : Int) * (-1)).toNat]? = xs[xs.size - 1 - m]?
    rw [e3]
  rw [e, PySem.W.krv_range, List.filterMap_reverse, PySem.W.krv_all]
theorem getItem_tuple_rev {t sl : Addr} {items : Array Value} {vl vu vs : Value} {Q : Value → Shared → Prop} (ht : IsTup s.heap t items) (hs : s.heap.IsSliceOf sl vl vu vs) (pl : IsPart vl none) (pu : IsPart vu none) (pk : IsPart vs (some (-1)))
    (h : Q (.ref s.heap.objs.size) { s with heap := s.heap.push { cls := .type "tuple", data := .seq items.toList.reverse.toArray } })
    (hsz : items.size ≤ sizeLine) : wpAny (model prog w) A (getItem (.ref t) (.ref sl)) Q E s := by
  have htake : sizeOk (.seq items.toList.reverse.toArray) := by
    show items.toList.reverse.toArray.size ≤ sizeLine
    rw [List.size_toArray, List.length_reverse, Array.length_toList]
    omega
  obtain ⟨os, hos, hcs, hds⟩ := id hs
  have hTs : s.TypeIs (.ref sl) "slice" := ⟨os, hos, hcs⟩
  unfold getItem
  try with_reducible refine wpAny_holding ?_
  first | refine wpAny_bind (wpAny_pure ?_) | skip
  refine wpAny_bind (wpAny_sequenceKey ht.typeIs (by decide) ?_)
  refine wpAny_bind (wpAny_callSpecial?_slot (name := Str.ofString "__getitem__") ht.typeIs PyProof.Rows.slot_tuple_getitem
    (wpAny_call_entry PyProof.Rows.slot_tuple_getitem ht.typeIs entry_tuple_getitem ?_ (args_tuple_getitem _ _)))
  show wpAny _ _ (Builtin.Tuple.tupleItemsOf (.ref t) >>= _) _ _ s
  refine wpAny_bind (tupleItemsOf_ ht ?_)
  refine wpAny_bind (wpAny_typeOf hTs ?_)
  rw [if_pos (by decide)]
  refine wpAny_bind (sliceApplied_rev hs pl pu pk ?_)
  have hno : ¬ ((((items.size : Nat) : Int) - 1 == 0 && (-1 : Int) == 1 && items.size == items.size) = true) := by
    intro q
    rw [Bool.and_eq_true, Bool.and_eq_true] at q
    exact absurd q.1.2 (by decide)
  show wpAny _ _ (if (((items.size : Nat) : Int) - 1 == 0 && (-1 : Int) == 1 && items.size == items.size) = true then _ else _) _ _ s
  rw [if_neg hno, pick_rev]
  first
    | exact wpAny_bind (m := Builtin.Tuple.tupleExact _) (wpAny_newObj_type (wpAny_pure ⟨_, rfl, wpAny_pure h⟩) htake)
    | exact wpAny_bind (m := Builtin.Tuple.tupleExact _) (wpAny_newObj_type (wpAny_bind (wpAny_pure (wpAny_pure ⟨_, rfl, wpAny_pure h⟩))) htake)
    | exact wpAny_bind (wpAny_bind (m := Builtin.Tuple.tupleExact _) (wpAny_newObj_type (wpAny_pure (wpAny_pure ⟨_, rfl, wpAny_pure h⟩)) htake))
    | exact wpAny_bind (wpAny_bind (m := Builtin.Tuple.tupleExact _) (wpAny_newObj_type (wpAny_pure ⟨_, rfl, wpAny_pure h⟩) htake))
end
end HT
namespace L2
open PySem PySem.Spec PyProof.Rows
variable {X : Cx}
def tRevT (K : PySem.W.Frag) (te : TE) : TE := fun σ H Q => te σ H fun x H1 => ∃ a xs, x = .ref a ∧ SqT K H1 a xs ∧ ∀ p, H1 p = none → Q (.ref p) (upd H1 p (.tup xs.reverse))
theorem pe_revT {e : Expr} {te : TE} {k : Nat} {p1 p2 p3 pos : Pos} (he : PE X e te) : PE X (.Subscript e (.Slice none none (some (.UnaryOp .USub (.Constant (.int 1) k p1) p2)) p3) pos) (tRevT X.K te) := by
  refine ⟨fun pins s σ H Q I h => ?_⟩
  refine Subscript_ (thn (he.run pins s σ H _ I h) fun v s1 ⟨x, H1, I1, r1, q1⟩ => ?_)
  obtain ⟨a, xs, ex, hx, q⟩ := q1
  subst ex
  cases r1
  have hst : PO X (some (.UnaryOp .USub (.Constant (.int 1) k p1) p2)) (tPart (tUn (rU fun i => .int (-i)) (tC (.int 1)))) := po_some (pe_un un_neg pe_int)
  refine wpAny_Slice (thn (po_none.run pins s1 σ H1 (fun o H2 => o = none ∧ H2 = H1) I1 ⟨rfl, rfl⟩) fun vl s2 ⟨l, H2, I2, pl, el, e2⟩ => ?_)
  subst el e2
  refine thn (po_none.run pins s2 σ H2 (fun o H3 => o = none ∧ H3 = H2) I2 ⟨rfl, rfl⟩) fun vu s3 ⟨u, H3, I3, pu, eu, e3⟩ => ?_
  subst eu e3
  refine thn (hst.run pins s3 σ H3 (fun o H4 => o = some (-1) ∧ H4 = H3) I3 ⟨1, rfl, -1, rfl, rfl, rfl⟩) fun vs s4 ⟨o, H4, I4, ps, eo, e4⟩ => ?_
  subst eo e4
  have I5 : Inv X pins σ H4 { s4 with heap := s4.heap.push { cls := .type "slice", data := .fields #[vl, vu, vs] } } := I4.kept (t' := s4.toks) fun b ob q => Heap.get?_push_of_some _ q
  obtain ⟨its, r, ht, hz⟩ := I5.tuple hx
  have hlen := r.length
  show wpAny (model X.prog X.w) X.A (subscriptTail e (.Slice none none (some (.UnaryOp .USub (.Constant (.int 1) k p1) p2)) p3) (.ref a) (.ref s4.heap.objs.size)) (EP X pins σ Q) X.xe { s4 with heap := s4.heap.push { cls := .type "slice", data := .fields #[vl, vu, vs] } }
  refine tail_any (ops := [.ref a, .ref s4.heap.objs.size]) ht.typeIs (PyProof.Rows.slot_tuple_getitem.lookup) ?_ (by with_unfolding_all rfl)
  refine HT.getItem_tuple_rev ht (Heap.IsSliceOf.new _ vl vu vs) pl pu ps ?_ (by rw [List.size_toArray]; omega)
  refine ⟨.ref _, _, I5.laid (t' := s4.toks) (o := .tup xs.reverse) (fun b ob q => Heap.get?_push_of_some _ q) (Nat.le_refl _) ?_, rfl, q _ (I5.hok.fresh (Nat.le_refl _))⟩
  exact ⟨by rw [List.length_reverse]; omega, its.reverse, r.reverse, _, Heap.get?_push_size _ rfl, rfl, 0, rfl⟩
end L2
namespace Py
open PySem PySem.Spec PyProof.Rows L2
variable [CT]
/-- t[::-1], t a tuple -/
def gRevT (p : PV) (S : Sto) : R PV := match p with
  | .tup xs => .ok (.tup xs.reverse) S
  | _ => .no
theorem ee_revT {X : Cx} {e : Expr} {fa : Ev} {p1 p2 p3 pos : Pos} {k : Nat} (ha : EE X e fa) : EE X (.Subscript e (.Slice none none (some (.UnaryOp .USub (.Constant (.int 1) k p1) p2)) p3) pos) (eUn gRevT fa) :=
  pe_mono (pe_revT ha) fun σ H Q ⟨μ, ρ, S, hE, hR, hF⟩ => ⟨μ, ρ, S, hE, hR, (FitsG.bind hF).imp fun p S1 H1 μ1 s1 t1 h1 v rv => by
    unfold gRevT at h1
    split at h1
    · obtain ⟨a, vs, rfl, g1, g2⟩ := rv.tup_inv
      exact ⟨a, vs, rfl, g1.sq, lay_tup (fun p S H' μ' h => h) h1 t1 g2.reverse⟩
    · exact h1.elim⟩
/-- str(i) -/
def gStrI (ps : List PV) (S : Sto) : R PV := match ps with
  | [.int i] => if i.natAbs.log2 < 1920 then .ok (.str (toString i)) S else .no
  | _ => .no
theorem l_strI {K : PySem.W.Frag} : LAR K (fun xs H Q => ∃ i, xs = [.int i] ∧ i.natAbs.log2 < 1920 ∧ Q (.str (toString i)) H) gStrI := by
  intro Q H μ S vs ps rv t hF
  unfold gStrI at hF
  split at hF
  · split at hF
    · rename_i hc
      obtain ⟨v, rfl, r1⟩ := rv.one
      cases rep_int r1
      exact ⟨_, rfl, hc, hF.val t (.inl (.str _))⟩
    · exact hF.elim
  · exact hF.elim
end Py
set_option Elab.async false
set_option maxRecDepth 100000
set_option maxHeartbeats 4000000
set_option linter.all false
namespace PySem
namespace SeqAt
open Spec PyProof.Rows
section
variable {A : Around} {s : Shared}
theorem dict_eq_declines_str (l : Addr) (es : Array DictEntry) (ep : Nat) (dd : Option Addr) (sl : Array (Option Value)) (b : Str) (u : Tok) :
    Meets (Builtin.«dict.__eq__» ⟨[.ref l, .str b u], []⟩) (fun _ R s => s.heap.get? l = some { cls := .type "dict", dict := dd, data := .dict es ep, slots := sl } ∧ R (.ok (.ret .notImplemented)) s) :=
  .of_wp fun prog w A R s h => by obtain ⟨hp, g, d, tk, os⟩ := s; obtain ⟨hl, h⟩ := h; have f1 := F.sub_str_dict; wp_walk using wpAny_loadPart' hl, wpAny_load hl; exact ⟨_, rfl, h⟩
theorem str_eq_declines_dict (b : Str) (u : Tok) (l : Addr) (es : Array DictEntry) (ep : Nat) (dd : Option Addr) (sl : Array (Option Value)) :
    Meets (Builtin.«str.__eq__» ⟨[.str b u, .ref l], []⟩) (fun _ R s => s.heap.get? l = some { cls := .type "dict", dict := dd, data := .dict es ep, slots := sl } ∧ R (.ok (.ret .notImplemented)) s) :=
  .of_wp fun prog w A R s h => by obtain ⟨hp, g, d, tk, os⟩ := s; obtain ⟨hl, h⟩ := h; wp_walk using wpAny_loadPart' hl, wpAny_load hl; exact ⟨_, rfl, h⟩
theorem RcAt.dict_str {l : Addr} {o : Obj} (b : Str) (u : Tok) (ho : s.heap.get? l = some o) (hc : o.cls = .type "dict") {es : Array DictEntry} {ep : Nat} (hdt : o.data = .dict es ep) (hu : A.units < cLine) : RcAt A s (.ref l) (.str b u) false := fun prog w E Q h => by
  obtain ⟨cls, dd, data, sl⟩ := o
  simp only at hc hdt
  subst hc hdt
  exact rc_eq_decline_or (k := false) ⟨_, ho, rfl⟩ (typeIs_str s b u) (by decide) F.sub_str_dict F.slot_dict_eq F.slot_str_eq_refl
    (fun _ hq => call_meets F.slot_dict_eq ⟨_, ho, rfl⟩ F.entry_dict_eq (F.args_dict_eq_2 _ _) (dict_eq_declines_str l es ep dd sl b u) ⟨ho, hq⟩)
    (fun _ hq => call_meets F.slot_str_eq_refl (typeIs_str s b u) F.entry_str_eq (F.args_str_eq_2 _ _) (str_eq_declines_dict b u l es ep dd sl) ⟨ho, hq⟩)
    (fun _ hq => wpAny_of_eq (rfl : isSame (.ref l) (.str b u) = pure false) hq) (.inr hu) h
theorem RcAt.str_dict {l : Addr} {o : Obj} (b : Str) (u : Tok) (ho : s.heap.get? l = some o) (hc : o.cls = .type "dict") {es : Array DictEntry} {ep : Nat} (hdt : o.data = .dict es ep) (hu : A.units < cLine) : RcAt A s (.str b u) (.ref l) false := fun prog w E Q h => by
  obtain ⟨cls, dd, data, sl⟩ := o
  simp only at hc hdt
  subst hc hdt
  exact rc_eq_decline_or (k := false) (typeIs_str s b u) ⟨_, ho, rfl⟩ (by decide) F.sub_dict_str F.slot_str_eq F.slot_dict_eq_refl
    (fun _ hq => call_meets F.slot_str_eq (typeIs_str s b u) F.entry_str_eq (F.args_str_eq_2 _ _) (str_eq_declines_dict b u l es ep dd sl) ⟨ho, hq⟩)
    (fun _ hq => call_meets F.slot_dict_eq_refl ⟨_, ho, rfl⟩ F.entry_dict_eq (F.args_dict_eq_2 _ _) (dict_eq_declines_str l es ep dd sl b u) ⟨ho, hq⟩)
    (fun _ hq => wpAny_of_eq (rfl : isSame (.str b u) (.ref l) = pure false) hq) (.inr hu) h
theorem EqAt.str_dict {l : Addr} {o : Obj} (b : Str) (u : Tok) (ho : s.heap.get? l = some o) (hc : o.cls = .type "dict") {es : Array DictEntry} {ep : Nat} (hdt : o.data = .dict es ep) (hu : A.units < cLine) : EqAt A s (.str b u) (.ref l) false := fun prog w E Q h => by
  unfold eqBool
  refine wpAny_holding ?_
  refine wpAny_ite_split (fun hab => absurd (eq_of_beq hab) nofun) (fun _ => ?_)
  exact wpAny_bind (RcAt.str_dict b u ho hc hdt hu prog w E _ (wpAny_truthy_bool h))
end
end SeqAt
end PySem
namespace L2
open PySem PySem.Spec PyProof.Rows
/-- an object that is no text -/
def NoS (K : PySem.W.Frag) (H : Hp) (a : Addr) : Prop := (∃ kvs, H a = some (.dK kvs)) ∨ (∃ xs, SqT K H a xs) ∨ ∃ xs, SqL K H a xs
variable {X : Cx}
theorem nos_eq {pins : List (Addr × Obj)} {σ : St} {H : Hp} {s : Shared} {a : Addr} (I : Inv X pins σ H s) (n : NoS X.K H a) {A : Around} (hu : A.units < cLine) (b : Str) (u : Tok) :
    SeqAt.EqAt A s (.str b u) (.ref a) false ∧ SeqAt.RcAt A s (.str b u) (.ref a) false ∧ SeqAt.RcAt A s (.ref a) (.str b u) false := by
  rcases n with ⟨kvs, e⟩ | ⟨xs, h⟩ | ⟨xs, h⟩
  · obtain ⟨_, _, vs, _, d⟩ := (show ObjOk X.prog X.w H s.heap a (.dK kvs) from I.hok a _ e)
    obtain ⟨o, es, ep, ho, ⟨hc, _⟩, hdt, _⟩ := d
    exact ⟨SeqAt.EqAt.str_dict b u ho hc hdt hu, SeqAt.RcAt.str_dict b u ho hc hdt hu, SeqAt.RcAt.dict_str b u ho hc hdt hu⟩
  · obtain ⟨its, r, ht, _⟩ := I.tuple h
    exact ⟨SeqAt.EqAt.str_tuple b u ht hu, SeqAt.RcAt.str_tuple b u ht hu, SeqAt.RcAt.tuple_str b u ht hu⟩
  · obtain ⟨its, r, hl, _⟩ := I.list h
    exact ⟨SeqAt.EqAt.str_list b u hl.isList hu, SeqAt.RcAt.str_list b u hl.isList hu, SeqAt.RcAt.list_str b u hl.isList hu⟩
/-- == of a text and such an object -/
def rEqSO (K : PySem.W.Frag) : R2 := fun x y H Q => ∃ (a : Addr) (z : Str), ((x = .str z ∧ y = .ref a) ∨ (x = .ref a ∧ y = .str z)) ∧ NoS K H a ∧ Q (.bl false) H
theorem op_eqSO (hu : X.A.units < cLine) : OpR X (compareOp .Eq) (rEqSO X.K) := by
  intro pins s σ H x y v w Q I rx ry h
  obtain ⟨a, z, hxy, n, q⟩ := h
  rcases hxy with ⟨rfl, rfl⟩ | ⟨rfl, rfl⟩
  · obtain ⟨t, rfl⟩ := rx
    cases ry
    exact (nos_eq I n hu z t).2.1 _ _ _ _ ⟨.bl false, H, I, rfl, q⟩
  · obtain ⟨t, rfl⟩ := ry
    cases rx
    exact (nos_eq I n hu z t).2.2 _ _ _ _ ⟨.bl false, H, I, rfl, q⟩
/-- such an object in a tuple of texts -/
def rInSO (K : PySem.W.Frag) : R2 := fun x y H Q => ∃ (a l : Addr) (zs : List Str), x = .ref a ∧ y = .ref l ∧ NoS K H a ∧ SqT K H l (zs.map V.str) ∧ Q (.bl false) H
theorem op_inSO (hu : X.A.in1.units < cLine) : OpR X (compareOp .In) (rInSO X.K) := by
  intro pins s σ H x y v w Q I rx ry h
  obtain ⟨a, l, zs, rfl, rfl, n, ht, q⟩ := h
  cases rx
  cases ry
  obtain ⟨its, r, hl, _⟩ := I.tuple ht
  refine SeqAt.in_tupleAt (fun _ => false) hl (fun y hy => ?_) ?_
  · have key : ∀ (zs : List Str) (its : List Value), Vals (zs.map V.str) its → ∀ y ∈ its, ∃ z t, y = .str z t := by
      intro zs
      induction zs with
      | nil => intro its r y hy; cases r; cases hy
      | cons z zs ih =>
        intro its r y hy
        rw [List.map_cons] at r
        cases r with
        | cons r1 r2 =>
          obtain ⟨t, e⟩ := r1
          rcases List.mem_cons.mp hy with q | q
          · exact ⟨z, t, q.trans e⟩
          · exact ih _ r2 y q
    obtain ⟨z, t, rfl⟩ := key zs its r y (by simpa using hy)
    exact (nos_eq I n hu z t).1
  · have : (its.toArray.any fun _ => false) = false := by simp
    rw [this]
    exact ⟨.bl false, H, I, rfl, q⟩
/-- t != () -/
def rNeE (K : PySem.W.Frag) : R2 := fun x y H Q => ∃ (a b : Addr) (xs : List V), x = .ref a ∧ y = .ref b ∧ SqT K H a xs ∧ SqT K H b [] ∧ Q (.bl (!xs.isEmpty)) H
theorem op_neE (hu : X.A.units < cLine) : OpR X (compareOp .NotEq) (rNeE X.K) := by
  intro pins s σ H x y v w Q I rx ry h
  obtain ⟨a, b, xs, rfl, rfl, h1, h2, q⟩ := h
  cases rx
  cases ry
  obtain ⟨its, r1, t1, _⟩ := I.tuple h1
  obtain ⟨its2, r2, t2, _⟩ := I.tuple h2
  cases r2
  have := SeqAt.RcNeAt.tuples (A := X.A) (s := s) (e := fun _ => true) t1 t2 hu (fun j h1 h2 => absurd h2 (by simp))
  refine this _ _ _ _ ?_
  have e : (!((List.range (min its.toArray.size ([] : List Value).toArray.size)).all (fun _ => true) && its.toArray.size == ([] : List Value).toArray.size)) = !xs.isEmpty := by
    have hl := r1.length
    cases xs with
    | nil =>
      have : its = [] := List.eq_nil_of_length_eq_zero (by simpa using hl.symm)
      subst this; rfl
    | cons x xs =>
      cases its with
      | nil => simp at hl
      | cons => simp
  rw [e]
  exact ⟨.bl _, H, I, rfl, q⟩
end L2
namespace Py
open PySem PySem.Spec PyProof.Rows L2
variable [CT]
def strsOf : List PV → Option (List Str)
  | [] => some []
  | .str z :: r => (strsOf r).map (z :: ·)
  | _ => none
def isObj : PV → Bool
  | .tup _ => true
  | .lst _ => true
  | .dic _ _ => true
  | _ => false
/-- == where a text may meet any value -/
def gEqO (p q : PV) (S : Sto) : R PV := match p, q with
  | .str _, .dic _ _ => .ok (.bl false) S
  | .dic _ _, .str _ => .ok (.bl false) S
  | .str _, .tup _ => .ok (.bl false) S
  | .tup _, .str _ => .ok (.bl false) S
  | .str _, .lst _ => .ok (.bl false) S
  | .lst _, .str _ => .ok (.bl false) S
  | p, q => gEq p q S
/-- any value in a tuple of texts -/
def gInO (p q : PV) (S : Sto) : R PV := match q with
  | .tup ys => match isObj p, strsOf ys with
    | true, some _ => .ok (.bl false) S
    | _, _ => gIn false p (.tup ys) S
  | q => gIn false p q S
/-- != where a tuple of anything meets () -/
def gNeO (p q : PV) (S : Sto) : R PV := match p, q with
  | .tup xs, .tup [] => .ok (.bl (!xs.isEmpty)) S
  | p, q => gNe p q S
section
variable {K : PySem.W.Frag}
theorem strsOf_eq : ∀ {ys : List PV} {zs : List Str}, strsOf ys = some zs → ys = zs.map PV.str
  | [], _, h => by cases h; rfl
  | .str z :: r, zs, h => by
    rw [strsOf] at h
    cases e : strsOf r with
    | none => rw [e] at h; cases h
    | some ws =>
      rw [e] at h
      cases h
      rw [strsOf_eq e]; rfl
  | .non :: _, _, h => by cases h
  | .bl _ :: _, _, h => by cases h
  | .int _ :: _, _, h => by cases h
  | .tup _ :: _, _, h => by cases h
  | .lst _ :: _, _, h => by cases h
  | .frl _ :: _, _, h => by cases h
  | .dic _ _ :: _, _, h => by cases h
  | .ref _ :: _, _, h => by cases h
theorem Rep.nos {H : Hp} {μ : Mem} {v : V} {p : PV} (r : Rep K H μ v p) (h : isObj p = true) : ∃ a, v = .ref a ∧ NoS K H a := by
  replace r := r.two (by cases p <;> first | rfl | cases h)
  rcases r with r | ⟨n, a, e, _⟩
  · cases r with
    | tup h1 _ => exact ⟨_, rfl, .inr (.inl ⟨_, h1.sq⟩)⟩
    | lst h1 _ _ => exact ⟨_, rfl, .inr (.inr ⟨_, .inl (.inl h1)⟩)⟩
    | dic h1 _ _ => exact ⟨_, rfl, .inl ⟨_, h1⟩⟩
    | _ => cases h
  · subst e; cases h
theorem l_eqO : L2R K (fun x y H Q => (rEq x y H Q ∨ rEqD K x y H Q) ∨ rEqSO K x y H Q) gEqO := by
  intro Q H μ S v w p q rv rw' t hF
  unfold gEqO at hF
  split at hF
  · obtain ⟨a, rfl, n⟩ := rw'.nos rfl
    cases rep_str rv
    exact .inr ⟨a, _, .inl ⟨rfl, rfl⟩, n, hF.val t (.inl (.bl _))⟩
  · obtain ⟨a, rfl, n⟩ := rv.nos rfl
    cases rep_str rw'
    exact .inr ⟨a, _, .inr ⟨rfl, rfl⟩, n, hF.val t (.inl (.bl _))⟩
  · obtain ⟨a, rfl, n⟩ := rw'.nos rfl
    cases rep_str rv
    exact .inr ⟨a, _, .inl ⟨rfl, rfl⟩, n, hF.val t (.inl (.bl _))⟩
  · obtain ⟨a, rfl, n⟩ := rv.nos rfl
    cases rep_str rw'
    exact .inr ⟨a, _, .inr ⟨rfl, rfl⟩, n, hF.val t (.inl (.bl _))⟩
  · obtain ⟨a, rfl, n⟩ := rw'.nos rfl
    cases rep_str rv
    exact .inr ⟨a, _, .inl ⟨rfl, rfl⟩, n, hF.val t (.inl (.bl _))⟩
  · obtain ⟨a, rfl, n⟩ := rv.nos rfl
    cases rep_str rw'
    exact .inr ⟨a, _, .inr ⟨rfl, rfl⟩, n, hF.val t (.inl (.bl _))⟩
  · exact .inl (l_eq Q H μ S v w p q rv rw' t hF)
theorem op_eqO {X : Cx} (hu : X.A.units + 64 < cLine) : OpR X (compareOp .Eq) (fun x y H Q => (rEq x y H Q ∨ rEqD X.K x y H Q) ∨ rEqSO X.K x y H Q) := OpR.or (op_eqA hu) (op_eqSO (by omega))
theorem l_neO : L2R K (fun x y H Q => (rNe x y H Q ∨ rNeD K x y H Q) ∨ rNeE K x y H Q) gNeO := by
  intro Q H μ S v w p q rv rw' t hF
  unfold gNeO at hF
  split at hF
  · obtain ⟨a, vs, rfl, g1, g2⟩ := rv.tup_inv
    obtain ⟨b, ws, rfl, k1, k2⟩ := rw'.tup_inv
    cases k2
    have := g2.emp
    refine .inr ⟨a, b, vs, rfl, rfl, g1.sq, k1.sq, ?_⟩
    rw [this]
    exact hF.val t (.inl (.bl _))
  · exact .inl (l_ne Q H μ S v w p q rv rw' t hF)
theorem op_neO {X : Cx} (hu : X.A.units + 64 < cLine) : OpR X (compareOp .NotEq) (fun x y H Q => (rNe x y H Q ∨ rNeD X.K x y H Q) ∨ rNeE X.K x y H Q) := OpR.or (op_neA hu) (op_neE (by omega))
theorem l_inO : L2R K (fun x y H Q => ((∃ (c : Nat) (z : Str), x = .str ⟨#[c]⟩ ∧ y = .str z ∧ Q (.bl (decide (c ∈ z.cps.toList))) H) ∨ rIn K false x y H Q) ∨ rInSO K x y H Q) gInO := by
  intro Q H μ S v w p q rv rw' t hF
  unfold gInO at hF
  split at hF
  · rename_i ys
    split at hF
    · rename_i zs h1 h2
      obtain ⟨a, rfl, n⟩ := rv.nos h1
      obtain ⟨l, vs, rfl, g1, g2⟩ := rw'.tup_inv
      rw [strsOf_eq h2] at g2
      rw [g2.strs] at g1
      exact .inr ⟨a, l, zs, rfl, rfl, n, g1.sq, hF.val t (.inl (.bl _))⟩
    · exact .inl (l_in Q H μ S v w p _ rv rw' t hF)
  · exact .inl (l_in Q H μ S v w p _ rv rw' t hF)
theorem op_inO {X : Cx} (hu : X.A.units + 64 < cLine) (h2 : X.A.in1.units ≤ X.A.units + 1 := by exact Nat.le_refl _) : OpR X (compareOp .In) (fun x y H Q => ((∃ (c : Nat) (z : Str), x = .str ⟨#[c]⟩ ∧ y = .str z ∧ Q (.bl (decide (c ∈ z.cps.toList))) H) ∨ rIn X.K false x y H Q) ∨ rInSO X.K x y H Q) := OpR.or op_inA (op_inSO (by omega))
end
end Py
set_option Elab.async false
set_option maxRecDepth 100000
set_option maxHeartbeats 4000000
set_option linter.all false
namespace L2
open PySem PySem.Spec PySem.Calls PyProof.Rows PySem.W
end L2
namespace Py
open PySem PySem.Spec PyProof.Rows L2
end Py
namespace Py
open PySem PySem.Spec PyProof.Rows L2
end Py
set_option Elab.async false
set_option maxRecDepth 100000
set_option maxHeartbeats 4000000
set_option linter.all false
namespace L2
open PySem PySem.Spec PyProof.Rows
section
variable {X : Cx} {o e f : Expr} {apos cpos : Pos} {ty tx : TE} {d : Addr} {es : Array DictEntry} {n : Nat}
theorem pe_kget2 (D : KDict X.K X.w d es n) (ho : PE X o (tC (.ref d))) (he : PE X e ty) (hf : PE X f tx) (m : M2 X o "get" apos e f cpos) : PE X (.Call (.Attribute o "get" apos) [e, f] [] cpos)
    (fun σ H Q => ty σ H fun y H2 => tx σ H2 fun z H3 => ∃ (k : Str) (u : Option Value) (r : Option V), y = .str k ∧ PySem.W.nsIn X.K d k = some u ∧ RelO r u ∧ Q (r.getD z) H3) := by
  refine ⟨fun pins s σ H Q I h => ?_⟩
  refine wpAny_Call_method m.base m.few m.line PySem.F.plainAttrs_dict PySem.F.slot_dict_get PySem.F.type_dict_get (thn (ho.run pins s σ H (fun x H1 => x = .ref d ∧ ty σ H1 fun y H2 => tx σ H2 fun z H3 => ∃ (k : Str) (u : Option Value) (r : Option V), y = .str k ∧ PySem.W.nsIn X.K d k = some u ∧ RelO r u ∧ Q (r.getD z) H3) I ⟨rfl, h⟩) fun u s1 ⟨x, H1, I1, rx, ex, q1⟩ => ?_)
  subst ex
  obtain rfl : u = Value.ref d := rx
  refine ⟨kd_type D I1, fun b q => by cases q; exact ⟨_, I1.kIn _ _ D.at_, rfl⟩, ?_⟩
  rw [m.trees]
  refine Calls.callWith_builtin rfl (Calls.evalArgs_plain (Calls.spliced_cons (thn (he.run pins s1 σ H1 _ I1 q1) fun iv s2 ⟨y, H2, I2, ry, q2⟩ =>
    Calls.spliced_cons (thn (hf.run pins s2 σ H2 _ I2 q2) fun fv s3 ⟨z, H3, I3, rz, k, u, r, ey, eu, ru, q3⟩ => Calls.spliced_nil ?_))))
  subst ey
  obtain ⟨t, rfl⟩ := ry
  have mp := PySem.W.mapOf_K (prog := X.prog) (w := X.w) I3.kIn D.at_ D.lit
  refine call_meetsIn PySem.F.slot_dict_get (kd_type D I3) PySem.F.entry_dict_get (PySem.F.args_dict_get_3 _ _ _) (meets_dict_get_default (PySem.strKind X.prog X.w) d (PySem.strKind_is X.prog X.w k t) D.low fv) ⟨_, mp, ?_⟩
  rw [PySem.W.find_K D.at_ eu]
  refine ⟨r.getD z, H3, I3.tok _, ?_, q3⟩
  cases r with
  | none => cases u with
    | none => exact rz
    | some u => exact ru.elim
  | some r => cases u with
    | none => exact ru.elim
    | some u => exact ru
end
end L2
namespace Py
open PySem PySem.Spec PyProof.Rows L2
variable [CT]
def WEnt (K : PySem.W.Frag) (e : DictEntry) (q : Str × PV) : Prop := (∃ t, e.key = .str q.1 t) ∧ ∃ v, RelV v e.val ∧ ∀ H μ, RepP K H μ v q.2
structure HasW (K : PySem.W.Frag) (w : World) (mg : Str → Option Value) (x : Str) (d : List (Str × PV)) : Prop where
  ex : ∃ a es n, mg x = some (.ref a) ∧ KDict K w a es n ∧ Paired (WEnt K) es.toList d
def wget : List (Str × PV) → Str → Option PV
  | [], _ => none
  | (k, v) :: d, z => if k = z then some v else wget d z
theorem find_w {K : PySem.W.Frag} (z : Str) : ∀ {l : List DictEntry} {d : List (Str × PV)}, Paired (WEnt K) l d → l.any (·.refKey) = false ∧ match wget d z with
    | some p => ∃ e v, l.find? (·.key.isStr z) = some e ∧ RelV v e.val ∧ ∀ H μ, RepP K H μ v p
    | none => l.find? (·.key.isStr z) = none
  | [], _, h => by cases h; exact ⟨rfl, rfl⟩
  | e :: l, _, h => by
    cases h with
    | cons h1 h2 =>
      rename_i q d
      obtain ⟨⟨t, ek⟩, v, rv, rp⟩ := h1
      obtain ⟨g2, g1⟩ := find_w z h2
      have hk : e.key.isStr z = decide (q.1 = z) := by
        rw [ek]
        show (q.1 == z) = _
        exact Bool.beq_eq_decide_eq _ _
      refine ⟨?_, ?_⟩
      · rw [List.any_cons, g2, Bool.or_false]
        unfold DictEntry.refKey
        rw [ek]
      · obtain ⟨q1, q2⟩ := q
        rw [wget, List.find?_cons, hk]
        by_cases hz : q1 = z
        · rw [if_pos hz, decide_eq_true hz]
          exact ⟨e, v, rfl, rv, rp⟩
        · rw [if_neg hz, decide_eq_false hz]
          exact g1
theorem nsIn_w {K : PySem.W.Frag} {w : World} {a : Addr} {es : Array DictEntry} {n : Nat} {d : List (Str × PV)} (D : KDict K w a es n) (r : Paired (WEnt K) es.toList d) (z : Str) : ∃ u v, PySem.W.nsIn K a z = some u ∧ RelO v u ∧ match wget d z with
    | some p => ∃ x, v = some x ∧ ∀ H μ, RepP K H μ x p
    | none => v = none := by
  obtain ⟨g2, g1⟩ := find_w z r
  unfold PySem.W.nsIn
  rw [D.at_]
  show ∃ u v, (match es.toList.find? (·.key.isStr z) with
      | some e => some (some e.val)
      | none => if es.toList.any (·.refKey) then none else some none) = some u ∧ RelO v u ∧ _
  rw [g2]
  revert g1
  cases wget d z with
  | none =>
    intro g1
    rw [g1]
    exact ⟨none, none, rfl, trivial, rfl⟩
  | some p =>
    rintro ⟨e, v, e1, e2, e3⟩
    rw [e1]
    exact ⟨some e.val, some v, rfl, e2, v, rfl, e3⟩
def eWGet (d : List (Str × PV)) (a b : Ev) : Ev := fun ρ S => (a ρ S).bind fun x S1 => (b ρ S1).bind fun y S2 => match x with
  | .str z => .ok ((wget d z).getD y) S2
  | _ => .no
section
variable {X : Cx} {x : Str} {e f : Expr} {fe ff : Ev} {d : List (Str × PV)} {pos p2 apos cpos : Pos}
theorem HasW.get (h : HasW X.K X.w X.mg x d) (he : EE X e fe) (hf : EE X f ff) (hg : Gl X x) (m : M2 X (.Name x p2) "get" apos e f cpos) (hd : (x == ("__debug__" : Str)) = false := by decide) : EE X (.Call (.Attribute (.Name x p2) "get" apos) [e, f] [] cpos) (eWGet d fe ff) := by
  obtain ⟨a, es, n, h1, D, r⟩ := h.ex
  refine pe_mono (pe_kget2 D (pe_glob (v := .ref a) hg h1 rfl hd) he hf m) fun σ H Q ⟨μ, ρ, S, hE, hR, hF⟩ => ?_
  refine ⟨μ, ρ, S, hE, hR, (FitsG.bind hF).imp fun p S1 H1 μ1 s1 t1 h1 v rv => ⟨μ1, ρ, S1, hE.step s1, t1, (FitsG.bind h1).imp fun q S2 H2 μ2 s2 t2 h2 w' rw' => ?_⟩⟩
  cases p with
  | str z =>
    cases rep_str rv
    obtain ⟨u, v', e1, e2, e3⟩ := nsIn_w D r z
    refine ⟨z, u, v', rfl, e1, e2, ?_⟩
    revert e3
    cases ew : wget d z with
    | none =>
      intro e3
      subst e3
      have h2 : FitsG X.K H2 μ2 (.ok ((wget d z).getD q) S2) (VKont X.K Q) := h2
      rw [ew] at h2
      exact FitsG.here h2 t2 w' rw'
    | some p =>
      rintro ⟨y, rfl, e4⟩
      have h2 : FitsG X.K H2 μ2 (.ok ((wget d z).getD q) S2) (VKont X.K Q) := h2
      rw [ew] at h2
      exact FitsG.here h2 t2 y (.inl (e4 H2 μ2))
  | _ => exact h2.elim
end
end Py
namespace Py
open PySem PySem.Spec PyProof.Rows L2
end Py
namespace Py
open PySem PySem.Spec PyProof.Rows L2
end Py
set_option Elab.async false
set_option maxRecDepth 100000
set_option maxHeartbeats 4000000
set_option linter.all false
namespace Py
open PySem PySem.Spec PyProof.Rows L2
end Py
set_option Elab.async false
set_option maxRecDepth 100000
set_option maxHeartbeats 4000000
set_option linter.all false
namespace L2
open PySem PySem.Spec PyProof.Rows
end L2
namespace L2
open PySem PySem.Spec PyProof.Rows
end L2
namespace L2
open PySem PySem.Spec PyProof.Rows
end L2
set_option Elab.async false
set_option maxRecDepth 100000
set_option maxHeartbeats 4000000
set_option linter.all false
namespace Py
open PySem PySem.Spec PyProof.Rows L2
end Py
set_option Elab.async false
set_option maxRecDepth 100000
set_option maxHeartbeats 4000000
set_option linter.all false
namespace Py
open PySem PySem.Spec PyProof.Rows L2
end Py
set_option Elab.async false
set_option maxRecDepth 100000
set_option maxHeartbeats 4000000
set_option linter.all false
namespace Py
open PySem PySem.Spec PyProof.Rows L2
end Py
set_option Elab.async false
set_option maxRecDepth 100000
set_option maxHeartbeats 4000000
set_option linter.all false
namespace NdO
open PySem PySem.Spec PyProof.Rows L2 NdefX LamX
structure OScope (N ps fr : List Str) (sc : Scope) : Prop where
  isFn : sc.kind = .function
  plain : sc.isCoroutine = false ∧ sc.isGenerator = false
  nd : N.Nodup
  front : N.take (ps.length + fr.length) = ps ++ fr
  params : ∀ x ∈ ps, sc.names.lookup x = some .local ∨ sc.names.lookup x = some .cell
  once : ∀ y ∈ sc.names, sc.names.lookup y.1 = some y.2
  caught : ∀ y ∈ sc.names, y.2 = .free → y.1 ∈ fr
  isFree : ∀ x ∈ fr, sc.names.lookup x = some .free
section
variable {CX : CXT} {P : Program} {w : World} {K : PySem.W.Frag} {mg : Str → Option Value} {base : Heap} {N ps fr : List Str} {F : NF} {f : Addr} {A : Around} {outer : List Env} {s s1 : Shared} {H : Hp} {E : XK} {us : List Value} {vs : List V} {ws : List (Option V)} {k : Nat} {sp : List (Option V) → Sp}
theorem OScope.name {sc : Scope} (S : OScope N ps fr sc) {i : Nat} {y : Str} (h : N[i]? = some y) (hi : i < ps.length + fr.length) : (ps ++ fr)[i]? = some y := by
  rw [← S.front, List.getElem?_take]
  simp [hi, h]
theorem OScope.many {sc : Scope} (S : OScope N ps fr sc) : ps.length + fr.length ≤ N.length := by
  have := congrArg List.length S.front
  simp only [List.length_take, List.length_append] at this
  omega
end
end NdO
set_option Elab.async false
set_option maxRecDepth 100000
set_option maxHeartbeats 4000000
set_option linter.all false
namespace Py
open PySem PySem.Spec PyProof.Rows L2
variable [CT]
abbrev CTab := Addr → Option Obj
def addC (H : Hp) (T : CTab) : Hp := fun b => match T b with
  | some o => some (CellO b o)
  | none => H b
theorem addC_out {H : Hp} {T : CTab} {b : Addr} (h : T b = none) : addC H T b = H b := by simp only [addC, h]
/-- two tales agree where no bare predicate is told -/
def Agree (H H2 : Hp) : Prop := ∀ b o, H b = some o → (∀ φ, o ≠ .ext φ) → H2 b = some o
theorem agree_add {H : Hp} {T : CTab} (hT : ∀ b o, T b = some o → H b = none) : Agree H (addC H T) := fun b o e n => by
  cases q : T b with
  | none => rw [addC_out q]; exact e
  | some o' => rw [hT b o' q] at e; cases e
end Py
set_option Elab.async false
set_option maxRecDepth 100000
set_option maxHeartbeats 4000000
set_option linter.all false
namespace Py
open PySem PySem.Spec PyProof.Rows L2
variable [CT]
section
variable {K : PySem.W.Frag} {H H2 : Hp} {μ : Mem}
theorem TupAt.agree {a xs} (g : Agree H H2) (h : TupAt K H μ a xs) : TupAt K H2 μ a xs := by
  rcases h with ⟨r | ⟨o, r⟩, n⟩ | h
  · exact .inl ⟨.inl (g _ _ r (fun φ => by intro e; cases e)), n⟩
  · exact .inl ⟨.inr ⟨o, g _ _ r (fun φ => by intro e; cases e)⟩, n⟩
  · exact .inr h
theorem FrlAt.agree {a xs} (g : Agree H H2) (h : FrlAt K H μ a xs) : FrlAt K H2 μ a xs := by
  rcases h with ⟨⟨o, r⟩, n⟩ | h
  · exact .inl ⟨⟨o, g _ _ r (fun φ => by intro e; cases e)⟩, n⟩
  · exact .inr h
mutual
theorem RepP.agree (g : Agree H H2) : ∀ {p : PV} {v : V}, RepP K H μ v p → RepP K H2 μ v p
  | .non, _, h => by cases h; exact .non
  | .bl b, _, h => by cases h; exact .bl b
  | .int b, _, h => by cases h; exact .int b
  | .str b, _, h => by cases h; exact .str b
  | .tup ps, _, h => by
    cases h with
    | tup h1 h2 => exact .tup (h1.agree g) (RepPs.agree g h2)
  | .lst ps, _, h => by
    cases h with
    | lst h1 n h2 => exact .lst (g _ _ h1 (fun φ => by intro e; cases e)) n (RepPs.agree g h2)
  | .frl ps, _, h => by
    cases h with
    | frl h1 h2 => exact .frl (h1.agree g) (RepPs.agree g h2)
  | .dic ks ps, _, h => by
    cases h with
    | dic h1 n h2 => exact .dic (g _ _ h1 (fun φ => by intro e; cases e)) n (RepPs.agree g h2)
  | .ref n, _, h => by cases h
  | .adr a, _, h => by cases h; exact .adr a
  | .clo i ps, _, h => by cases h
  | .err i ps, _, h => by cases h
theorem RepPs.agree (g : Agree H H2) : ∀ {ps : List PV} {vs : List V}, RepPs K H μ vs ps → RepPs K H2 μ vs ps
  | [], _, h => by cases h; exact .nil
  | p :: ps, _, h => by
    cases h with
    | cons h1 h2 => exact .cons (RepP.agree g h1) (RepPs.agree g h2)
end
theorem Rep0.agree (g : Agree H H2) {v p} (h : Rep0 K H μ v p) : Rep0 K H2 μ v p := by
  rcases h with h | h
  · exact .inl (h.agree g)
  · exact .inr h
theorem tabs_agree {T : List NdefX.NTab} (g : Agree H H2) (c : ∀ c q, H c = some (LamX.CodeO c q) → H2 c = some (LamX.CodeO c q)) (t : NdefX.TabsN T H) : NdefX.TabsN T H2 := fun p hp => by
  obtain ⟨ps, h1, h2, h3⟩ := t p hp
  refine ⟨ps, g _ _ h1 (fun φ => by intro e; cases e), h2, fun pos cv hc => ?_⟩
  obtain ⟨c', e1, e2⟩ := h3 pos cv hc
  exact ⟨c', e1, c _ _ e2⟩
theorem Rel.agree {S : Sto} (g : Agree H H2) (r : ∀ a ∈ μ.rs, H2 a ≠ none) (c : ∀ c q, H c = some (LamX.CodeO c q) → H2 c = some (LamX.CodeO c q)) (t : Rel K H μ S) : Rel K H2 μ S := by
  refine ⟨t.len, t.nd, fun n a o e1 e2 => ?_, fun a q => ⟨(t.res a q).1, (t.res a q).2.imp fun l e => g _ _ e (fun φ => LD.ne)⟩, tabs_agree g c t.tab⟩
  have ob := t.obj n a o e1 e2
  revert ob
  cases o <;> intro ob <;> first | exact ob.elim | skip
  · obtain ⟨vs, h1, h2⟩ := ob
    exact ⟨vs, g _ _ h1 (fun φ => by intro e; cases e), h2.agree g⟩
  · obtain ⟨kvs, h1, h2, h3⟩ := ob
    exact ⟨kvs, g _ _ h1 (fun φ => by intro e; cases e), h2, h3.agree g⟩
end
/-- its body's mirror tells of what was captured and of the arguments -/
def spC (K : PySem.W.Frag) (m : List PV → Fn) : List (Option V) → Sp := fun ws vs H Q _ => ∃ μ cps ps S, Paired (fun (o : Option V) p => ∃ v, o = some v ∧ Rep0 K H μ v p) ws cps ∧ Reps K H μ vs ps ∧ Rel K H μ S ∧ FitsC K H μ (m cps ps S) Q
def CloOk (P : Program) (w : World) (K : PySem.W.Frag) (mg : Str → Option Value) (base : Heap) (k i : Nat) (m : List PV → Fn) : Prop :=
  ∃ ps : List Str, ∀ (f : Addr) (F : NdefX.NF), F = NdefX.NF.of (CT.code i).st (CT.code i).name F.qual F.cl F.c → NdefX.NOk P w K mg base CX0 k f F ps (CT.code i).fr (spC K m)
end Py
set_option Elab.async false
set_option maxRecDepth 100000
set_option maxHeartbeats 4000000
set_option linter.all false
namespace Py
open PySem PySem.Spec PyProof.Rows L2
end Py
set_option Elab.async false
set_option maxRecDepth 100000
set_option maxHeartbeats 4000000
set_option linter.all false
namespace Py
open PySem PySem.Spec PyProof.Rows L2
end Py
set_option Elab.async false
set_option maxRecDepth 100000
set_option maxHeartbeats 4000000
set_option linter.all false
namespace Py
open PySem PySem.Spec PyProof.Rows L2
variable [CT]
theorem stay_add {H : Hp} {T : CTab} (hT : ∀ b o, T b = some o → H b = none) {a : Addr} {o : HO} (e : H a = some o) : addC H T a = some o := by
  cases z : T a with
  | none => rw [addC_out z]; exact e
  | some o' => rw [hT a o' z] at e; cases e
theorem Rep.add {K : PySem.W.Frag} {H : Hp} {μ : Mem} {T : CTab} (hT : ∀ b o, T b = some o → H b = none) {v : V} {p : PV} (h : Rep K H μ v p) : Rep K (addC H T) μ v p := by
  have g := agree_add hT
  rcases h with h | h | h | h
  · exact .inl (h.agree g)
  · exact .inr (.inl h)
  · exact .inr (.inr (.inl (h.to (fun a o e n _ => ⟨stay_add hT e, n⟩) fun _ _ z => z.agree g)))
  · exact .inr (.inr (.inr (h.to (fun a o e n _ => ⟨stay_add hT e, n⟩) fun _ _ z => z.agree g)))
end Py
set_option Elab.async false
set_option maxRecDepth 100000
set_option maxHeartbeats 4000000
set_option linter.all false
namespace Py
open PySem PySem.Spec PyProof.Rows L2
end Py
set_option Elab.async false
set_option maxRecDepth 100000
set_option maxHeartbeats 4000000
set_option linter.all false
namespace Py
open PySem PySem.Spec PyProof.Rows L2
variable [CT]
section
variable {P : Program} {w : World} {K : PySem.W.Frag} {mg : Str → Option Value} {base : Heap} {k : Nat}
theorem CloOk.mono {j i : Nat} {m : List PV → Fn} (h : CloOk P w K mg base j i m) (hk : j ≤ k) : CloOk P w K mg base k i m := by
  obtain ⟨ps, h⟩ := h
  exact ⟨ps, fun f F e => (h f F e).mono hk⟩
end
end Py
namespace Py
open PySem PySem.Spec PyProof.Rows L2
end Py
namespace Py
open PySem PySem.Spec PyProof.Rows L2
theorem tabs_nil {K : PySem.W.Frag} {own : OwnL} {H : Hp} (h : ∀ p ∈ (own.map (·.1)).map (He.cT K), H p.2 = some (.tbl #[])) : NdefX.TabsN (tabsOf K own) H := fun p hp => by
  obtain ⟨z, hz, rfl⟩ := List.mem_map.mp hp
  exact NdefX.TabN.nil (h (He.cT K z.1) (List.mem_map.mpr ⟨z.1, List.mem_map.mpr ⟨z, hz, rfl⟩, rfl⟩))
/-- the script as the law is handed it -/
def Scr (ns : List Int) (sc : PV) : Prop := sc = .frl (ns.map PV.int) ∨ sc = .lst (ns.map PV.int)
theorem ints_rep [CT] {K : PySem.W.Frag} {H : Hp} {μ : Mem} : ∀ l : List Int, RepPs K H μ (l.map V.int) (l.map PV.int)
  | [] => .nil
  | i :: l => .cons (.int i) (ints_rep l)
theorem law_start [CT] {K : PySem.W.Frag} {m : Fn} {ns : List Int} (math : ∀ sc, Scr ns sc → ∃ S', m [sc] [] = .ok (.bl true) S') {H : Hp} {a : Addr} (hT : NdefX.TabsN CT.tb H) (hS : SqL K H a (ns.map V.int)) : spM K m [.ref a] H (fun v _ => v = .bl true) fun _ _ _ => False := by
  have fin : ∀ sc, Scr ns sc → RepP K H ⟨[], []⟩ (.ref a) sc → spM K m [.ref a] H (fun v _ => v = .bl true) fun _ _ _ => False := fun sc hs r => by
    obtain ⟨S', e⟩ := math sc hs
    refine ⟨⟨[], []⟩, [sc], [], .cons (.inl r) .nil, ⟨rfl, .nil, fun n a o h => by simp at h, fun a h => (by cases h), hT⟩, ?_⟩
    rw [e]
    intro H' _ _ v rv
    exact rep_bl rv
  have no : a ∉ (⟨[], []⟩ : Mem) := fun q => by rcases q with q | q <;> cases q
  rcases hS with (h | ⟨o, h⟩) | h
  · exact fin _ (.inr rfl) (.lst h no (ints_rep ns))
  · exact fin _ (.inl rfl) (.frl (.inl ⟨⟨o, h⟩, no⟩) (ints_rep ns))
  · exact fin _ (.inl rfl) (.frl (.inr h) (ints_rep ns))
end Py
set_option Elab.async false
set_option maxRecDepth 100000
set_option maxHeartbeats 4000000
set_option linter.all false
namespace Py
open PySem PySem.Spec PyProof.Rows L2
variable [CT]
def dputK (ks : List Key) (vs : List PV) (k : Key) (p : PV) : List Key × List PV := if ks.any (fun j => decide (j = k)) = true then (ks, dsetP ks vs k p) else (ks ++ [k], vs ++ [p])
theorem dputK_of {K : PySem.W.Frag} {H : Hp} {μ : Mem} {kvs : List (Key × V)} {ps : List PV} {v : V} {p : PV} (k : Key) (h : RepPs K H μ (kvs.map (·.2)) ps) (r : RepP K H μ v p) : (putK kvs k v).map (·.1) = (dputK (kvs.map (·.1)) ps k p).1 ∧ RepPs K H μ ((putK kvs k v).map (·.2)) (dputK (kvs.map (·.1)) ps k p).2 := by
  have any : (kvs.map (·.1)).any (fun j => decide (j = k)) = kvs.any fun kv => decide (kv.1 = k) := by
    rw [List.any_map]; rfl
  unfold putK dputK
  rw [any]
  by_cases c : (kvs.any fun kv => decide (kv.1 = k)) = true
  · rw [if_pos c, if_pos c]
    refine ⟨?_, dset_of k r h⟩
    rw [List.map_map]
    refine List.map_congr_left fun q _ => ?_
    show (if q.1 = k then (q.1, v) else q).1 = q.1
    split <;> rfl
  · rw [if_neg c, if_neg c]
    refine ⟨by simp, ?_⟩
    rw [List.map_append]
    exact h.append (.cons r .nil)
/-- at a turn: the new dict holds what is made so far -/
structure DictAt (K : PySem.W.Frag) (H1 : Hp) (μ1 : Mem) (σ : L2.St) (ρ : Env) (D : Addr) (H' : Hp) (S' : Sto) (ks : List Key) (qs : List PV) (μ' : Mem) (acc : List (Key × V)) : Prop where
  at_ : H' D = some (.dK acc)
  keys : acc.map (·.1) = ks
  reps : RepPs K H' (μ'.resv D) (acc.map (·.2)) qs
  rel : Rel K H' (μ'.resv D) S'
  stp : Step H1 μ1 H' μ'
  env : ERel K H' (μ'.resv D) σ ρ
  out : D ∉ μ'.st
section
variable {K : PySem.W.Frag} {H1 : Hp} {μ1 : Mem} {σ : L2.St} {ρ : Env} {D : Addr} {H' : Hp} {S' : Sto} {ks : List Key} {qs : List PV} {μ' : Mem} {acc : List (Key × V)}
theorem DictAt.more (c : DictAt K H1 μ1 σ ρ D H' S' ks qs μ' acc) {H4 : Hp} {μ4 : Mem} (s : Step H' (μ'.resv D) H4 μ4) {S4 : Sto} (t : Rel K H4 μ4 S4) : ∃ μ5 : Mem, μ4 = μ5.resv D ∧ DictAt K H1 μ1 σ ρ D H4 S4 ks qs μ5 acc := by
  obtain ⟨ν, e, f⟩ := s.gro
  have e2 : μ4 = (μ'.grow ν).resv D := e
  refine ⟨μ'.grow ν, e2, s.ext _ _ c.at_ c.out inferInstance, c.keys, by rw [← e2]; exact c.reps.step s, by rw [← e2]; exact t, ⟨fun a o h n z => ?_, fun a h => c.stp.dom a (s.dom a h), ?_⟩, by rw [← e2]; exact c.env.step s, ?_⟩
  · exact s.ext a o (c.stp.ext a o h n z) (c.stp.outS h n) z
  · obtain ⟨ν1, e1, f1⟩ := c.stp.gro
    refine ⟨ν1 ++ ν, by rw [e1, Mem.grow, Mem.grow, Mem.grow, List.append_assoc], fun a q => ?_⟩
    rcases List.mem_append.mp q with q | q
    · exact f1 a q
    · exact c.stp.dom a (f a q)
  · intro q
    rcases List.mem_append.mp q with q | q
    · exact c.out q
    · have := f D q
      rw [c.at_] at this
      cases this
theorem DictAt.push (c : DictAt K H1 μ1 σ ρ D H' S' ks qs μ' acc) (hD : H1 D = none) {y : V} {p : PV} {k : Key} (r : RepP K H' (μ'.resv D) y p) : DictAt K H1 μ1 σ ρ D (upd H' D (.dK (putK acc k y))) S' (dputK ks qs k p).1 (dputK ks qs k p).2 μ' (putK acc k y) := by
  have ne : ∀ a, a ∉ μ'.resv D → a ≠ D := fun a n z => n (by subst z; exact .inr (List.mem_cons_self ..))
  have kp : Keep H' (μ'.resv D) (upd H' D (.dK (putK acc k y))) (μ'.resv D) := fun a o h n _ => ⟨by rw [upd_ne (ne a n)]; exact h, n⟩
  obtain ⟨d1, d2⟩ := dputK_of k (c.reps.keep kp) (r.keep kp)
  rw [c.keys] at d1 d2
  refine ⟨upd_same, d1, d2, c.rel.keep kp rfl (fun a ha => upd_ne fun z => c.out (by rw [← z]; exact ha)) (fun a ha => ?_) (tabs_upd c.rel.tab fun u e => by rw [c.at_] at e; cases e; exact ⟨fun ps z => (by cases z), fun φ z => (by cases z)⟩), ⟨fun a o h n z => ?_, fun a h => ?_, c.stp.gro⟩, c.env.keep kp rfl, c.out⟩
  · by_cases e : a = D
    · subst e; exact ⟨(c.rel.res a ha).1, .d _, upd_same⟩
    · exact ⟨(c.rel.res a ha).1, (c.rel.res a ha).2.imp fun l z => (upd_ne e).trans z⟩
  · rw [upd_ne (ne_of_none h hD)]
    exact c.stp.ext a o h n z
  · by_cases e : a = D
    · subst e; exact hD
    · rw [upd_ne e] at h; exact c.stp.dom a h
end
end Py
set_option Elab.async false
set_option maxRecDepth 100000
set_option maxHeartbeats 4000000
set_option linter.all false
namespace Py
open PySem PySem.Spec PyProof.Rows L2
variable [CT]
/-- what is known of a closure of the frame's own -/
def OwnF (H : Hp) (μ : Mem) (cid : Nat) (cl : List (Str × Addr)) (f : Addr) : Prop := ∃ c' qual, H f = some (NdefX.FnO f (NdefX.NF.of (CT.code cid).st (CT.code cid).name qual cl c')) ∧ f ∉ μ ∧ H c' = some (LamX.CodeO c' qual) ∧ c' ∉ μ
theorem OwnF.step {H H' : Hp} {μ μ' : Mem} {cid : Nat} {cl : List (Str × Addr)} {f : Addr} (s : Step H μ H' μ') (h : OwnF H μ cid cl f) : OwnF H' μ' cid cl f := by
  obtain ⟨c', q, h1, h2, h3, h4⟩ := h
  exact ⟨c', q, (s.far _ _ h1 h2 inferInstance).1, (s.far _ _ h1 h2 inferInstance).2, (s.far _ _ h3 h4 inferInstance).1, (s.far _ _ h3 h4 inferInstance).2⟩
theorem OwnF.keep {H H' : Hp} {μ μ' : Mem} {cid : Nat} {cl : List (Str × Addr)} {f : Addr} (s : Keep H μ H' μ') (h : OwnF H μ cid cl f) : OwnF H' μ' cid cl f := by
  obtain ⟨c', q, h1, h2, h3, h4⟩ := h
  exact ⟨c', q, (s _ _ h1 h2 inferInstance).1, (s _ _ h1 h2 inferInstance).2, (s _ _ h3 h4 inferInstance).1, (s _ _ h3 h4 inferInstance).2⟩
end Py
set_option Elab.async false
set_option maxRecDepth 100000
set_option maxHeartbeats 4000000
set_option linter.all false
namespace Py
open PySem PySem.Spec PyProof.Rows L2
end Py
set_option Elab.async false
set_option maxRecDepth 100000
set_option maxHeartbeats 4000000
set_option linter.all false
namespace Py
open PySem PySem.Spec PyProof.Rows L2
end Py
set_option Elab.async false
set_option maxRecDepth 100000
set_option maxHeartbeats 4000000
set_option linter.all false
namespace Py
open PySem PySem.Spec PyProof.Rows L2
end Py
set_option Elab.async false
set_option maxRecDepth 100000
set_option maxHeartbeats 4000000
set_option linter.all false
namespace Py
open PySem PySem.Spec PyProof.Rows L2
end Py
set_option Elab.async false
set_option maxRecDepth 100000
set_option maxHeartbeats 4000000
set_option linter.all false
namespace Py
open PySem PySem.Spec PyProof.Rows L2
end Py
namespace Py
open PySem PySem.Spec PyProof.Rows L2
end Py
set_option Elab.async false
set_option maxRecDepth 100000
set_option maxHeartbeats 4000000
set_option linter.all false
namespace Py
open PySem PySem.Spec PyProof.Rows L2
variable [CT]
/-- the error's data: none, or in its one field what is told -/
def ErK (K : PySem.W.Frag) (f : Option Str) (p : PV) (cv : Value) (E : XK) (H : Hp) (μ : Mem) : Prop := match f with
  | none => E cv none H
  | some f => ∀ dd u, H dd = some (.xd [(f, u)]) → Rep K H μ u p → E cv (some dd) H
def FitsX {α : Type} (K : PySem.W.Frag) (mg : Str → Option Value) (E : XK) (H : Hp) (μ : Mem) (r : R α) (k : α → List PV → Hp → Mem → Prop) : Prop := match r with
  | .ok a S' => ∀ H' μ', Step H μ H' μ' → Rel K H' μ' S' → k a S' H' μ'
  | .er c p S' => ∃ v, mg c = some v ∧ ∀ H' μ', Step H μ H' μ' → Rel K H' μ' S' → ErK K (CT.fld c) p v E H' μ'
  | .no => False
section
variable {α β : Type} {K : PySem.W.Frag} {mg : Str → Option Value} {E : XK} {H : Hp} {μ : Mem}
theorem FitsX.imp {r : R α} {k k' : α → List PV → Hp → Mem → Prop} (h : FitsX K mg E H μ r k) (f : ∀ a S' H' μ', Step H μ H' μ' → Rel K H' μ' S' → k a S' H' μ' → k' a S' H' μ') : FitsX K mg E H μ r k' := by
  cases r with
  | ok a S => exact fun H' μ' s t => f a S H' μ' s t (h H' μ' s t)
  | er => exact h
  | no => exact h
theorem FitsX.bind {r : R α} {f : α → List PV → R β} {k : β → List PV → Hp → Mem → Prop} (h : FitsX K mg E H μ (r.bind f) k) : FitsX K mg E H μ r (fun a S' H' μ' => FitsX K mg E H' μ' (f a S') k) := by
  cases r with
  | ok a S =>
    intro H' μ' s t
    have h : FitsX K mg E H μ (f a S) k := h
    revert h
    generalize f a S = r2
    intro h
    cases r2 with
    | ok b S2 => exact fun H2 μ2 s2 t2 => h H2 μ2 (s.trans s2) t2
    | er c x S2 =>
      obtain ⟨v, e, g⟩ := h
      exact ⟨v, e, fun H2 μ2 s2 t2 => g H2 μ2 (s.trans s2) t2⟩
    | no => exact h
  | er => exact h
  | no => exact h
/-- no error -/
def noX (r : R α) : R α := match r with
  | .er _ _ _ => .no
  | r => r
theorem FitsX.g {r : R α} {k : α → List PV → Hp → Mem → Prop} (h : FitsX K mg E H μ (noX r) k) : FitsG K H μ r k := by
  cases r with
  | ok a S => exact h
  | er => exact h
  | no => exact h
end
def FitsCX (K : PySem.W.Frag) (mg : Str → Option Value) (H : Hp) (μ : Mem) (r : R PV) (Q : VK) (E : XK) : Prop := match r with
  | .ok p S' => ∀ H', Step H μ H' μ → Rel K H' μ S' → ∀ v, Rep K H' μ v p → Q v H'
  | .er c p S' => ∃ v, mg c = some v ∧ ∀ H', Step H μ H' μ → Rel K H' μ S' → ErK K (CT.fld c) p v E H' μ
  | .no => False
section
variable {P : Program} {w : World} {K : PySem.W.Frag} {mg : Str → Option Value} {base : Heap} {x qual : Str} {params : Arguments} {body : List Stmt} {scope : Scope} {f : Addr} {fd : FuncData} {N pn : List Str} {k : Nat} {g : Es}
theorem FitsCX.of {H : Hp} {μ : Mem} {r : R PV} {Q : VK} {E : XK} (h : FitsCX K mg H μ r Q E) (hn : ∀ c x S, r ≠ .er c x S) : FitsC K H μ r Q := by
  cases r with
  | ok p S => exact h
  | er c x S => exact absurd rfl (hn c x S)
  | no => exact h
end
end Py
set_option Elab.async false
set_option maxRecDepth 100000
set_option maxHeartbeats 4000000
set_option linter.all false
namespace Py
open PySem PySem.Spec PyProof.Rows L2
variable [CT]
section
variable {X : Cx} {E : XK} {e : Expr} {es : List Expr} {fa : Ev} {fs : Ea} {gb : Es} {pos : Pos}
theorem FitsX.gg {α : Type} {K : PySem.W.Frag} {mg : Str → Option Value} {H : Hp} {μ : Mem} {r : R α} {k : α → List PV → Hp → Mem → Prop} (h : FitsX K mg E H μ r k) (hn : ∀ c x S, r ≠ .er c x S) : FitsG K H μ r k := by
  cases r with
  | ok a S => exact h
  | er c x S => exact absurd rfl (hn c x S)
  | no => exact h
end
end Py
set_option Elab.async false
set_option maxRecDepth 100000
set_option maxHeartbeats 4000000
set_option linter.all false
namespace LamO
open PySem PySem.Spec PyProof.Rows L2 NdefX LamX
/-- a table has one more code object -/
structure Grown (H H1 : Hp) (P k : Addr) (qs : Array Value) (q : Str) : Prop where
  code : H1 k = some (CodeO k q)
  tab : H1 P = some (.tbl qs)
  rest : ∀ b, b ≠ P → b ≠ k → H1 b = H b
section
variable {H H1 : Hp} {P k : Addr} {ps qs : Array Value} {q : Str} {T : List NTab} {nm : Nat → Nat → Str} {pos : Pos}
theorem Grown.keeps (g : Grown H H1 P k qs q) (tp : H P = some (.tbl ps)) (fk : H k = none) : ExtN H H1 := fun b o e nt => by
  have n1 : b ≠ P := fun z => by
    subst z
    rw [tp] at e
    exact nt ps (Option.some.inj e).symm
  have n2 : b ≠ k := fun z => by
    subst z
    rw [fk] at e
    cases e
  rw [g.rest b n1 n2]
  exact e
theorem Grown.dom (g : Grown H H1 P k qs q) (fk : H k = none) (b : Addr) (e : H1 b = none) : H b = none := by
  by_cases n1 : b = P
  · rw [n1, g.tab] at e; cases e
  · by_cases n2 : b = k
    · rw [n2]; exact fk
    · rw [← g.rest b n1 n2]; exact e
end
end LamO
set_option Elab.async false
set_option maxRecDepth 100000
set_option maxHeartbeats 4000000
set_option linter.all false
set_option Elab.async false
set_option maxRecDepth 100000
set_option maxHeartbeats 4000000
set_option linter.all false
set_option Elab.async false
set_option maxRecDepth 100000
set_option maxHeartbeats 4000000
set_option linter.all false
namespace Py
open PySem PySem.Spec PyProof.Rows L2
end Py
set_option Elab.async false
set_option maxRecDepth 100000
set_option maxHeartbeats 4000000
set_option linter.all false
namespace Py
open PySem PySem.Spec PyProof.Rows L2
variable [CT]
section
variable {P : Program} {w : World} {K : PySem.W.Frag} {mg : Str → Option Value} {base : Heap} {x qual : Str} {params : Arguments} {body : List Stmt} {scope : Scope} {f : Addr} {fd : FuncData} {pn : List Str} {k : Nat} {sp : Sp}
/-- the facts of an own error class C over ValueError: raise C() -/
structure Err (K : PySem.W.Frag) (mg : Str → Option Value) (c : Str) (CS : Addr) : Prop where
  at_ : mg c = some (.ref CS)
  kp : PySem.W.keepIn K (.ref CS) = true
  own : ∃ bmB newId initId B, PySem.ExcBaseFacts B newId initId bmB ∧ PySem.W.excIn K CS bmB newId = true
  sub : PySem.W.subIn K (.ref CS) (.type "BaseException") = some true
  typ : PySem.W.typeIn K (.ref CS) = some (.type "type")
  exm : PySem.W.exmOne K (.ref CS) (.ref CS) = some true
end
end Py
set_option Elab.async false
set_option maxRecDepth 100000
set_option maxHeartbeats 4000000
set_option linter.all false
namespace Py
open PySem PySem.Spec PyProof.Rows L2
end Py
set_option Elab.async false
set_option maxRecDepth 100000
set_option maxHeartbeats 4000000
set_option linter.all false
namespace Py
open PySem PySem.Spec PyProof.Rows L2
/-- an own error class over ValueError without __init__ -/
theorem boolB_ok {o : Option Bool} (h : boolB o = true) : o = some true := by
  cases o with
  | none => cases h
  | some b => exact congrArg some h
theorem typB_ok {o : Option Value} (h : typB o = true) : o = some (.type "type") := by
  unfold typB at h
  split at h
  · rw [of_decide_eq_true h]
  · cases h
theorem err_of {K : PySem.W.Frag} {mg : Str → Option Value} {c : Str} (g : mg c = some (.ref (He.ga K c))) (h : errB K c = true) : Err K mg c (He.ga K c) := by
  obtain ⟨h1, h⟩ := He.ba h
  obtain ⟨h2, h⟩ := He.ba h
  obtain ⟨h3, h⟩ := He.ba h
  obtain ⟨h4, h5⟩ := He.ba h
  exact ⟨g, h1, ⟨_, _, _, _, PySem.F.excBase_ValueError, h2⟩, boolB_ok h3, typB_ok h4, boolB_ok h5⟩
end Py
set_option Elab.async false
set_option maxRecDepth 100000
set_option maxHeartbeats 4000000
set_option linter.all false
namespace Py
open PySem PySem.Spec PyProof.Rows L2
end Py
set_option Elab.async false
set_option maxRecDepth 100000
set_option maxHeartbeats 1000000
set_option linter.all false
namespace Py
open PySem PySem.Spec PyProof.Rows L2
variable [CT]
/-- __init__ of an own error class: its one argument becomes the field f -/
def spInit (CS : Addr) (f : Str) : Sp := fun vs H Q _ => ∃ a y, vs = [.ref a, y] ∧ H a = some (exo a CS none) ∧ ∀ dx, H dx = none → dx ≠ a → Q .non (upd (upd H dx (exd dx [(f, y)])) a (exo a CS (some dx)))
section
variable {P : Program} {w : World} {K : PySem.W.Frag} {mg : Str → Option Value} {base : Heap} {x qual self given f : Str} {params : Arguments} {scope : Scope} {fI CS : Addr} {fd : FuncData} {p1 p2 p3 p4 : Pos}
theorem fn_init (T : OexC K CS) (no : PySem.W.findIn K (.ref CS) f = some none) (F : FunD K x qual params [.Assign [.Attribute (.Name self p1) f p2] (.Name given p3) p4] scope [] [] fI fd) (S : FnScope [self, given] [self, given] scope)
    (v1 : Vis scope self) (v2 : Vis scope given) (d1 : (self == ("__debug__" : Str)) = false := by decide) (d2 : (given == ("__debug__" : Str)) = false := by decide) (c1 : (self == ("__classdict__" : Str)) = false := by decide) (c2 : (given == ("__classdict__" : Str)) = false := by decide) :
    FnOk P w K mg base CX0 1 fI fd [self, given] (spInit CS f) := by
  refine F.ok S (fun vs H Q E ⟨a, y, e, _⟩ => by rw [e]; rfl) (fun cdv A outer s H vs Q E hr ⟨a, y, e, h1, h2⟩ => ?_)
  subst e
  refine ⟨_, pss_one (ps_ost (pe_var (i := 0) rfl v1 d1 c1) (pe_var (i := 1) rfl v2 d2 c2)), ?_⟩
  exact ⟨y, rfl, .ref a, rfl, a, CS, rfl, T, no, .inl ⟨h1, fun dx n ne => h2 dx n ne⟩⟩
end
end Py
set_option Elab.async false
set_option maxRecDepth 100000
set_option maxHeartbeats 1000000
set_option linter.all false
namespace Py
open PySem PySem.Spec PyProof.Rows L2
/-- a clause: the class that it names, the slot of the error's name where it has one, what its block does -/
structure Clause where
  of : Value
  slot : Option Nat
  does : Addr → Value → Option Addr → TS
/-- the ends of a clause's block: the error's name is gone there -/
def gone : Option Nat → Ends → Ends
  | none, D => D
  | some i, D => { nx := fun σ H => D.nx (σ.set i none) H, rt := D.rt, bk := fun σ H => D.bk (σ.set i none) H, ct := fun σ H => D.ct (σ.set i none) H }
def named (a : Addr) : Option Nat → L2.St → L2.St
  | none, σ => σ
  | some i, σ => σ.set i (some (.ref a))
/-- what the clauses wish of an error -/
def wMix (K : PySem.W.Frag) (out : WX) (D : Ends) : List Clause → WX
  | [] => out
  | q :: qs => fun cls d σ H => ∃ b, PySem.W.exmOne K cls q.of = some b ∧ (b = true → ∀ a, H a = none → q.does a cls d (gone q.slot D) (named a q.slot σ) H) ∧ (b = false → wMix K out D qs cls d σ H)
end Py
set_option Elab.async false
set_option maxRecDepth 100000
set_option maxHeartbeats 4000000
set_option linter.all false
namespace Py
open PySem PySem.Spec PyProof.Rows L2
/-- a def's promise at each place where no repr is under way -/
structure FnG (P : Program) (w : World) (K : PySem.W.Frag) (mg : Str → Option Value) (base : Heap) (CX : CXT) (k : Nat) (f : Addr) (fd : FuncData) (ps : List Str) (sp : Sp) : Prop where
  many : ∀ vs H Q E, sp vs H Q E → vs.length = ps.length
  runs : ∀ (A : Around) (fr : List PySem.Env) (z : Shared) (H : Hp) (ar : Args) (us : List Value) (vs : List V) (Q : VK) (E : XK), A.guards = some [] → Room k A → Env0 P w K mg base A fr z H → BindsTo z fd ar (ps.zip us) → Vals vs us → sp vs H Q E →
    codeAny (model P w) A (.call (.ref f) ar) (CR CX fr P w H z Q E) z
section
variable {CX : CXT} {P : Program} {w : World} {K : PySem.W.Frag} {mg : Str → Option Value} {base : Heap} {k : Nat} {f : Addr} {x qual : Str} {params : Arguments} {body : List Stmt} {scope : Scope} {dv kv dc pm cdv ct oc : Value} {an od : Option Addr} {osl : Array (Option Value)} {N ps : List Str} {sp : Sp}
theorem fnG_of (at_ : K.lookup f = some ⟨oc, od, .func (PySem.W.fnOf x qual params body scope dv kv dc pm an cdv ct), osl⟩) (cd : PySem.W.codeIn K cdv qual = true) (S : FnScope N ps scope) (many : ∀ vs H Q E, sp vs H Q E → vs.length = ps.length)
    (walk : ∀ (A : Around) (fr : List PySem.Env) (z : Shared) (H : Hp) (vs : List V) (Q : VK) (E : XK), A.guards = some [] → Room k (A.deeper (envOfC qual scope z.heap.objs.size f cdv)) → sp vs H Q E →
      ∃ t, PSs (cxOf CX P w K mg base N qual scope f cdv A fr z H E) body t ∧ t { nx := fun _ H1 => Q .non H1, rt := Q } (start N vs) H) :
    FnG P w K mg base CX (k + 1) f (PySem.W.fnOf x qual params body scope dv kv dc pm an cdv ct) ps sp where
  many := many
  runs := by
    intro A fr z H ar us vs Q E gd rm en bt rv pr
    have stays : ∀ b o, base.get? b = some o → z.heap.get? b = some o := fun b o q => (en.bs b o q).1
    have kinds : ∀ y ∈ ps.zip us, scope.names.lookup y.1 = some .local ∨ (scope.names.lookup y.1 = some .cell ∧ ((cellsFrom (z.heap.objs.size + 1) scope.names []).lookup y.1).isSome = true) := by
      rintro ⟨n, v⟩ hy
      exact (S.par n (List.of_mem_zip hy).1).imp id fun q => ⟨q, PySem.W.cellsFrom_some _ _ _ (.inl q)⟩
    refine codeAny_call_function rm.depth (en.mod.kin.keeps stays _ _ at_) rfl S.co S.gen rfl (PySem.W.codeRec_of (en.mod.kin.keeps stays) cd) (bt _ _ _ _ (wpAny_newFunctionEnv_cells S.kind kinds fun env he z1 nw => ?_))
    cases he
    refine ⟨(en.mod.nolimit.keeps stays).keeps nw.toInCall.keep, codeAny_func ?_⟩
    obtain ⟨t, ht, hq⟩ := walk A fr z H vs Q E gd (rm.deeper _) pr
    have I0 := inv_start (CX := CX) (qual := qual) (E := E) (cd := cdv) S rm.hd en (many _ _ _ _ pr) rv nw
    refine wpAny_mono (ht.run [] z1 (start N vs) H _ I0 hq) (fun fl z2 hz => ?_) fun _ _ q => q
    match fl, hz with
    | .ret u, ⟨v, σ1, H1, J, r1, q1⟩ => exact ⟨v, H1, J.os, J.bare, J.base, J.hok, r1, q1⟩
    | .next, ⟨σ1, H1, J, q1⟩ => exact ⟨V.non, H1, J.os, J.bare, J.base, J.hok, rfl, q1⟩
    | .brk, ⟨_, _, _, q1⟩ => exact q1.elim
    | .cont, ⟨_, _, _, q1⟩ => exact q1.elim
end
end Py
namespace Py
open PySem PySem.Spec PyProof.Rows L2 LamX
section
variable {P : Program} {w : World} {K : PySem.W.Frag} {mg mb : Str → Option Value} {CX : CXT} {k : Nat} {fa a : Addr} {cs : List (Addr × Addr)} {fd : FuncData} {x : Str} {sp : Sp} {z : Shared} {vs : List Value} {ns : List Int}
/-- what is known of the heap when the law is called -/
structure AtCall (K : PySem.W.Frag) (mg mb : Str → Option Value) (cs : List (Addr × Addr)) (z : Shared) (a : Addr) (vs : List Value) : Prop where
  kin : K.In z.heap
  ns : z.heap.Ns mainGlobals mg
  nb : z.heap.Ns builtinsNs mb
  bb : ∀ x : Str, x ≠ "__name__" → mb x = bootBuiltins x
  lim : z.heap.NoLimit
  gens : z.gens = #[]
  tab : ∀ p ∈ cs, z.heap.get? p.2 = some { cls := .none, data := .fields #[] }
  ntab : ∀ p ∈ cs, K.lookup p.2 = none
  code : ∀ p ∈ cs, PySem.W.CodeHd z.heap p.1 p.2
  bmod : ∃ (bm : Addr) (ob : Obj), mg "__builtins__" = some (.ref bm) ∧ bm ≠ builtinsNs ∧ z.heap.get? bm = some ob ∧ ob.cls = .type "module" ∧ ob.dict = some builtinsNs ∧ ob.data = .plain
  lst : z.heap.get? a = some { cls := .type "list", data := .seq vs.toArray }
/-- an abstract heap with the script and the tables in it -/
structure Seen (K : PySem.W.Frag) (P : Program) (w : World) (cs : List (Addr × Addr)) (z : Shared) (a : Addr) (H : Hp) : Prop where
  tb : ∀ p ∈ cs, H p.2 = some (.tbl #[])
  as_ : ∀ b, H b = none ∨ b ∈ cs.map (·.2) ∨ ∃ o xs, H b = some (.frz o (.lst xs))
  ok : HOk P w H z.heap
  who : ∀ b, H b ≠ none → b = a ∨ b ∈ cs.map (·.2)
  ka : H a ≠ none → K.lookup a = none
theorem AtCall.isTab (c : AtCall K mg mb cs z a vs) {b : Addr} (hb : b ∈ cs.map (·.2)) : z.heap.get? b = some { cls := .none, data := .fields #[] } := by
  obtain ⟨p, hp, rfl⟩ := List.mem_map.mp hb
  exact c.tab p hp
/-- what is neither a list nor an empty table is not seen -/
theorem unseen (c : AtCall K mg mb cs z a vs) {H : Hp} (h : Seen K P w cs z a H) {b : Addr} {o : Obj} (e : z.heap.get? b = some o) (n1 : ∀ us n, o.data ≠ .seq us n) (n2 : o.data ≠ .fields #[]) : H b = none := by
  cases q : H b with
  | none => rfl
  | some u =>
    rcases h.who b (by rw [q]; exact Option.some_ne_none u) with rfl | m
    · rw [c.lst] at e
      exact absurd rfl (Option.some.inj e ▸ n1 vs.toArray _)
    · rw [c.isTab m] at e
      exact absurd rfl (Option.some.inj e ▸ n2)
theorem hid_ns (c : AtCall K mg mb cs z a vs) {H : Hp} (h : Seen K P w cs z a H) {b : Addr} {m : Str → Option Value} (q : z.heap.Ns b m) : (hidT z.heap H).Ns b m := by
  obtain ⟨o, es, ep, e, d, r⟩ := q
  exact ⟨o, es, ep, hidT_get e (unseen c h e (fun us n y => by rw [d] at y; cases y) fun y => by rw [d] at y; cases y), d, r⟩
theorem hid_kin (c : AtCall K mg mb cs z a vs) {H : Hp} (h : Seen K P w cs z a H) : K.In (hidT z.heap H) := fun b o e => by
  refine hidT_get (c.kin b o e) ?_
  cases q : H b with
  | none => rfl
  | some u =>
    have nn : H b ≠ none := by rw [q]; exact Option.some_ne_none u
    rcases h.who b nn with rfl | m
    · have y := (h.ka nn).symm.trans e
      cases y
    · obtain ⟨p, hp, rfl⟩ := List.mem_map.mp m
      have y := (c.ntab p hp).symm.trans e
      cases y
theorem hid_tab (c : AtCall K mg mb cs z a vs) {H : Hp} (h : Seen K P w cs z a H) {p : Addr × Addr} (hp : p ∈ cs) : TabB (hidT z.heap H) mg p.1 p.2 where
  code := by
    obtain ⟨o, us, file, tf, flags, tg, inF, text, tt, e, t1, t2, t3, rest⟩ := c.code p hp
    refine ⟨o, us, file, tf, flags, tg, inF, text, tt, hidT_get e (unseen c h e (fun us n y => by rw [t2] at y; cases y) fun y => ?_), t1, t2, t3, rest⟩
    rw [t2] at y
    cases y
    simp at t3
  bm := by
    obtain ⟨bm, ob, i1, i2, i3, i4, i5, i6⟩ := c.bmod
    refine ⟨bm, ob, i1, i2, ?_, ?_, hidT_get i3 (unseen c h i3 (fun us n y => by rw [i6] at y; cases y) fun y => by rw [i6] at y; cases y), i4, i5, i6⟩
    · rintro rfl
      obtain ⟨o, es, ep, e, d, _⟩ := c.ns
      rw [i3] at e
      cases e
      rw [i6] at d
      cases d
    · rintro rfl
      have y := i3.symm.trans (c.tab p hp)
      cases y
      cases i6
  gP := fun y => by
    obtain ⟨o, es, ep, e, d, _⟩ := c.ns
    rw [y, c.tab p hp] at e
    cases e
    cases d
abbrev LawEnd (z : Shared) (r : Result) (s' : Shared) : Prop := r = .ok (.ret (.bool true)) ∧ OldK z.heap s'.heap ∧ s'.os = z.os ∧ AllBare s'.gens
theorem law_core (c : AtCall K mg mb cs z a vs) {H : Hp} (h : Seen K P w cs z a H) (rm : Room k callerA)
    (F : ∀ base : Heap, K.In base → base.Ns mainGlobals mg → (∀ p ∈ cs, TabB base mg p.1 p.2) → FnG P w K mg base CX k fa fd [x] sp) (bind : ∀ (s : Shared) (u : Value), BindsTo s fd ⟨[u], []⟩ [(x, u)])
    (spk : sp [.ref a] H (fun v _ => v = .bl true) fun _ _ _ => False) (noE : ∀ H e s', CX [] H z (fun _ _ _ => False) e s' → False) : codeAny (model P w) callerA (.call (.ref fa) ⟨[.ref a], []⟩) (LawEnd z) z := by
  have md : L2.Mod K mg (hidT z.heap H) := ⟨hid_kin c h, hid_ns c h c.ns, ⟨mb, hid_ns c h c.nb, c.bb⟩, by
    obtain ⟨m, l1, l2⟩ := c.lim
    exact ⟨m, hid_ns c h l1, l2⟩⟩
  have en : Env0 P w K mg (hidT z.heap H) callerA [] z H := ⟨rfl, md, fun _ _ e => of_hidT e, Nat.le_of_eq (hidT_size _ _), trivial, fun b y => (nomatch y), h.ok, .of_eq c.gens⟩
  have run := (F _ (hid_kin c h) (hid_ns c h c.ns) fun p hp => hid_tab c h hp).runs callerA [] z H ⟨[.ref a], []⟩ [.ref a] [.ref a] _ _ rfl rm en (bind z (.ref a)) (.cons rfl .nil) spk
  refine codeAny_mono run fun r s' q => ?_
  match r, q with
  | .error e, q => exact (noE H e s' q).elim
  | .ok .next, q => exact False.elim q
  | .ok .brk, q => exact False.elim q
  | .ok .cont, q => exact False.elim q
  | .ok (.ret u), ⟨v, H1, os, bare, un, ok1, ru, qv⟩ =>
    have qv : v = .bl true := qv
    subst qv
    have ru : u = Value.bool true := ru
    subst ru
    have same : ∀ b o, b ∉ cs.map (·.2) → z.heap.get? b = some o → s'.heap.get? b = some o := fun b o nb e => by
      rcases h.as_ b with q | m | ⟨ob, xs, q⟩
      · exact un.keep b o e q (fun y => nomatch y) (fun y => nomatch y)
      · exact absurd m nb
      · have e1 := (h.ok b _ q).1
        have e2 := (ok1 b _ (un.frzs b ob _ q)).1
        rw [e] at e1
        cases e1
        exact e2
    have more : ∀ p ∈ cs, ∃ rs : Array Value, s'.heap.get? p.2 = some { cls := .none, data := .fields rs } := fun p hp => by
      obtain ⟨rs, q⟩ := un.tbls p.2 #[] (h.tb p hp)
      exact ⟨_, ok1 p.2 _ q⟩
    refine ⟨rfl, ⟨fun b o e => ?_, fun b o e => ?_⟩, os, bare⟩
    · by_cases m : b ∈ cs.map (·.2)
      · obtain ⟨p, hp, rfl⟩ := List.mem_map.mp m
        obtain ⟨rs, hr⟩ := more p hp
        have y := (c.tab p hp).symm.trans e
        cases y
        exact .inr (.inl ⟨((c.code p hp).tab (c.tab p hp)).isCodeTable, rfl, #[], rs, rfl, by rw [Array.empty_append]; exact hr⟩)
      · exact .inl (same b o m e)
    · by_cases m : b ∈ cs.map (·.2)
      · obtain ⟨p, hp, rfl⟩ := List.mem_map.mp m
        obtain ⟨rs, hr⟩ := more p hp
        exact ⟨_, hr⟩
      · exact ⟨o, same b o m e⟩
end
end Py
namespace Py
open PySem PySem.Spec PyProof.Rows L2 LamX
section
variable {P : Program} {w : World} {K : PySem.W.Frag} {mg mb : Str → Option Value} {CX : CXT} {k : Nat} {fa a : Addr} {cs : List (Addr × Addr)} {fd : FuncData} {x : Str} {sp : Sp} {z : Shared} {vs : List Value} {ns : List Int}
/-- the tables alone, or the tables and the script -/
def seenT (cs : List (Addr × Addr)) : Hp := fun b => if b ∈ cs.map (·.2) then some (.tbl #[]) else none
def seenS (cs : List (Addr × Addr)) (a : Addr) (vs : List Value) (ns : List Int) : Hp := fun b => if b = a then some (.frz { cls := .type "list", data := .seq vs.toArray } (.lst (ns.map V.int))) else seenT cs b
theorem seenT_in {b : Addr} (m : b ∈ cs.map (·.2)) : seenT cs b = some (.tbl #[]) := if_pos m
theorem seenT_out {b : Addr} (m : b ∉ cs.map (·.2)) : seenT cs b = none := if_neg m
theorem AtCall.sOut (c : AtCall K mg mb cs z a vs) : a ∉ cs.map (·.2) := fun m => by
  have y := c.lst.symm.trans (c.isTab m)
  cases y
theorem seenT_ok (c : AtCall K mg mb cs z a vs) : Seen K P w cs z a (seenT cs) where
  tb := fun p hp => seenT_in (List.mem_map.mpr ⟨p, hp, rfl⟩)
  as_ := fun b => by
    by_cases m : b ∈ cs.map (·.2)
    · exact .inr (.inl m)
    · exact .inl (seenT_out m)
  ok := fun b o e => by
    by_cases m : b ∈ cs.map (·.2)
    · rw [seenT_in m] at e
      cases e
      exact c.isTab m
    · rw [seenT_out m] at e
      cases e
  who := fun b n => by
    by_cases m : b ∈ cs.map (·.2)
    · exact .inr m
    · exact absurd (seenT_out m) n
  ka := fun n => absurd (seenT_out c.sOut) n
theorem seenS_ok (c : AtCall K mg mb cs z a vs) (hi : IntsAre vs ns) (hl : ns.length ≤ sizeLine) (out : K.lookup a = none) : Seen K P w cs z a (seenS cs a vs ns) where
  tb := fun p hp => by
    have m : p.2 ∈ cs.map (·.2) := List.mem_map.mpr ⟨p, hp, rfl⟩
    exact (if_neg fun (y : p.2 = a) => c.sOut (y ▸ m)).trans (seenT_in m)
  as_ := fun b => by
    by_cases q : b = a
    · exact .inr (.inr ⟨_, _, if_pos q⟩)
    · by_cases m : b ∈ cs.map (·.2)
      · exact .inr (.inl m)
      · exact .inl ((if_neg q).trans (seenT_out m))
  ok := fun b o e => by
    by_cases q : b = a
    · subst q
      have y := (if_pos rfl).symm.trans e
      cases y
      exact ⟨c.lst, by rw [List.length_map]; exact hl, vs, _, vals_ints hi, c.lst⟩
    · have y := (if_neg q).symm.trans e
      by_cases m : b ∈ cs.map (·.2)
      · rw [seenT_in m] at y
        cases y
        exact c.isTab m
      · rw [seenT_out m] at y
        cases y
  who := fun b n => by
    by_cases q : b = a
    · exact .inl q
    · exact (seenT_ok (P := P) (w := w) c).who b fun y => n ((if_neg q).trans y)
  ka := fun _ => out
theorem law_run (c : AtCall K mg mb cs z a vs) (hi : IntsAre vs ns) (hl : ns.length ≤ sizeLine) (rm : Room k callerA)
    (F : ∀ base : Heap, K.In base → base.Ns mainGlobals mg → (∀ p ∈ cs, TabB base mg p.1 p.2) → FnG P w K mg base CX k fa fd [x] sp) (bind : ∀ (s : Shared) (u : Value), BindsTo s fd ⟨[u], []⟩ [(x, u)])
    (spk : ∀ H : Hp, (∀ p ∈ cs, H p.2 = some (.tbl #[])) → SqL K H a (ns.map V.int) → sp [.ref a] H (fun v _ => v = .bl true) fun _ _ _ => False) (noE : ∀ H e s', CX [] H z (fun _ _ _ => False) e s' → False) :
    codeAny (model P w) callerA (.call (.ref fa) ⟨[.ref a], []⟩) (LawEnd z) z := by
  cases q : K.lookup a with
  | none =>
    have h := seenS_ok (P := P) (w := w) c hi hl q
    exact law_core c h rm F bind (spk _ h.tb (.inl (.inr ⟨_, if_pos rfl⟩))) noE
  | some o =>
    have h := seenT_ok (P := P) (w := w) c
    have e := (c.lst.symm.trans (c.kin a o q))
    cases e
    exact law_core c h rm F bind (spk _ h.tb (.inr ⟨_, vs.toArray, _, q, rfl, rfl, rfl, by rw [List.size_toArray, hi.length]; exact hl, vals_ints hi⟩)) noE
/-- what the law's def promises -/
def LawG (l : PySem.W.OpenLaw) (w : World) (K : PySem.W.Frag) (CX : CXT) (k n : Nat) (x : Str) (mg : Str → Option Value) (fa : Addr) (h : Heap) : Prop :=
  ∃ (fd : FuncData) (cs : List (Addr × Addr)) (sp : Sp), (∀ p ∈ cs, h.get? p.2 = some { cls := .none, data := .fields #[] }) ∧ (∀ p ∈ cs, K.lookup p.2 = none) ∧ (∀ p ∈ cs, PySem.W.CodeHd h p.1 p.2) ∧ (∀ (s : Shared) (u : Value), BindsTo s fd ⟨[u], []⟩ [(x, u)]) ∧
    (∀ (H : Hp) (a : Addr) (ns : List Int), ns.length ≤ n → (∀ i ∈ ns, Builtin.Int.intBits i ≤ 1048576) → (∀ p ∈ cs, H p.2 = some (.tbl #[])) → SqL K H a (ns.map V.int) → sp [.ref a] H (fun v _ => v = .bl true) fun _ _ _ => False) ∧
    ∀ base : Heap, K.In base → base.Ns mainGlobals mg → (∀ p ∈ cs, TabB base mg p.1 p.2) → FnG l.prog w K mg base CX k fa fd [x] sp
theorem walk_lawG {l : PySem.W.OpenLaw} {n k : Nat} {q : Program} {loose : List Str} {XP : (Str → Option Value) → Heap → Prop} {YP : World → Heap → Prop} {d : DefRec} {CX : World → CXT} {x : Str}
    (hn : l.most = some n) (hn2 : n ≤ sizeLine) (hdf : d.params.defaults = []) (rm : Room k callerA)
    (F : ∀ (w : World) (mg : Str → Option Value) (fa : Addr) (h : Heap), YP w h → h.Ns mainGlobals mg → mg d.name = some (.ref fa) → ∃ K : PySem.W.Frag, K.In h ∧ LawG l w K (CX w) k n x mg fa h)
    (noE : ∀ (w : World) (H : Hp) (s : Shared) (e : Value) (s' : Shared), CX w [] H s (fun _ _ _ => False) e s' → False) :
    PySem.W.WalkO q loose XP YP l.row.toRowW d [] (fun f vs => PySem.call f vs) :=
  Att.attach_callB hn hdf fun w _ z mg mb fa _ _ _ _ a vs ns G Y _ _ _ hmg hobj hints hlen hbits hg => by
    obtain ⟨K, kin, fd, cs, sp, t1, t2, t3, bind, spk, F1⟩ := F w mg fa _ Y G.T.g hmg
    exact law_run ⟨kin, G.T.g, G.T.b, G.T.builtins, G.T.nolimit, hg, t1, t2, t3, G.T.bmain, hobj⟩ hints (Nat.le_trans hlen hn2) rm F1 bind (fun H hT hS => spk H a ns hlen hbits hT hS) fun H e s' => noE w H z e s'
end
end Py
set_option Elab.async false
set_option maxRecDepth 100000
set_option maxHeartbeats 4000000
set_option linter.all false
namespace Py
open PySem PySem.Spec PyProof.Rows L2
variable [CT]
theorem room_repr {k : Nat} {A : Around} (r : Room k A) : A.units + 199 < cLine := by
  have := r.un
  omega
def shB (d : PyData) : Bool := d.showable && (!d.hasDict && (d.canLay0 && (decide (d.depth ≤ 190) && decide (d.shown.length ≤ sizeLine))))
end Py
set_option Elab.async false
set_option maxRecDepth 100000
set_option maxHeartbeats 4000000
set_option linter.all false
namespace Py
open PySem PySem.Spec PyProof.Rows L2
variable [CT]
section
variable {P : Program} {w : World} {K : PySem.W.Frag} {mg : Str → Option Value} {base : Heap} {x qual : Str} {params : Arguments} {body : List Stmt} {scope : Scope} {f : Addr} {fd : FuncData} {N pn : List Str} {k : Nat} {g : Es} {p : Str × Option Str}
/-- the law's def, which tells its code object, called where no repr is under way -/
theorem fn_defG (F : FunD K x qual params body scope [] [] f fd) (hf : He.fAd K p = f) (S : FnScope N pn scope)
    (hbody : ∀ (A : Around) (outer : List PySem.Env) (s : Shared) (H : Hp) (E : XK), A.guards = some [] → Room k (A.deeper (envOfC qual scope s.heap.objs.size f (.ref (He.codeOf K p)))) → ESs (cxOf CX0 P w K mg base N qual scope f (.ref (He.codeOf K p)) A outer s H E).nox body g) :
    FnG P w K mg base CX0 (k + 1) f fd pn (spM K (mkDef pn.length N.length g)) := by
  obtain ⟨oc, od, dV, kV, doc, pm, an, cdv, ct, osl, rfl, lk, hcd, _, _⟩ := F.ex
  obtain ⟨c, rfl⟩ := He.codeIn_ref hcd
  have e : He.codeOf K p = c := He.codeOf_eq (by rw [hf]; exact lk) rfl
  rw [e] at hbody
  refine fnG_of lk hcd S (fun vs H Q E ⟨μ, ps, S1, rv, t, hF⟩ => ?_) (fun A fr z H vs Q E gd rm ⟨μ, ps, S1, rv, t, hF⟩ => ⟨_, (hbody A fr z H E gd rm).nox, ?_⟩)
  · unfold mkDef at hF
    split at hF
    · rename_i h
      rw [Paired.length rv]; exact h
    · exact hF.elim
  · unfold mkDef at hF
    split at hF
    · refine ⟨μ, startP N.length ps, S1, ERel.start rv N, t, ?_⟩
      revert hF
      cases g (startP N.length ps) S1 with
      | er => exact fun y => y
      | no => exact fun y => y
      | ok fl S2 =>
        intro hF H' μ' s1 t1
        have hF : FitsC K H μ (finF S1.length fl S2) Q := hF
        cases fl with
        | rt q => exact fun v r => finV_ok t s1 t1 r hF
        | nx ρ => exact fun σ _ => finV_ok t s1 t1 (.inl .non) hF
        | bk ρ => exact hF.elim
        | ct ρ => exact hF.elim
    · exact hF.elim
end
end Py
set_option Elab.async false
set_option maxRecDepth 100000
set_option maxHeartbeats 1000000
set_option linter.all false
namespace Py
open PySem PySem.Spec PyProof.Rows L2
variable [CT]
def shC : PyData → Bool
  | .none => true
  | .bool _ => true
  | .int i => decide (i.natAbs.log2 < 1920)
  | .str x => decide ((reprText x).length ≤ sizeLine)
  | .tuple xs => shB (.tuple xs)
  | .list xs => shB (.list xs)
  | _ => false
/-- what repr tells of a value -/
def RepV (K : PySem.W.Frag) (H : Hp) (x : V) (z : Str) : Prop := (∃ d, Dp K H x d ∧ shC d = true ∧ z = d.shown) ∨ ∃ a, x = .ref a ∧ H a = some (.dK []) ∧ z = (PyData.dict []).shown
theorem call_reprE {X : Cx} (gd : X.A.guards = some []) (hu : X.A.units + 199 < cLine) : CallR X (.builtin "repr") (fun xs H Q => ∃ a, xs = [.ref a] ∧ H a = some (.dK []) ∧ Q (.str (PyData.dict []).shown) H) := by
  intro pins s σ H xs us Q I r h
  obtain ⟨a, rfl, ha, q⟩ := h
  obtain ⟨u, rfl, ru⟩ := vals1 r
  obtain rfl : u = Value.ref a := ru
  have ok : ([] : List (Key × V)).length ≤ sizeLine ∧ (a == sysModules) = false ∧ ∃ vs, KV [] vs ∧ s.heap.DictOf (mixKind X.prog X.w) a vs := I.hok a _ ha
  obtain ⟨_, hsm, vs, kv, o, es, ep, ho, hx, hd, _, hp, _⟩ := ok
  have ev : vs = [] := List.eq_nil_of_length_eq_zero (by rw [← kv.length]; rfl)
  subst ev
  have ee : es.toList = [] := List.eq_nil_of_length_eq_zero (by rw [hp.length]; rfl)
  have rd : Reads s.heap (.ref a) (.dict []) (a :: [] ++ []) := Reads.dict ho hx.1 hd (by rw [ee]; exact .nil) (by rw [ee]; exact .nil)
  exact repr_of_reads' rd (by rfl) (fun _ m => by
    rcases List.mem_singleton.mp m with e
    rw [e] at hsm
    simp at hsm) gd (by show _ + (PyData.dict []).depth.succ < _; simp [PyData.depth, PyData.depthKv]; omega) (fun _ _ e => e) (fun h' u tk kp => ⟨.str _, H, I.kept kp, ⟨u, rfl⟩, q⟩) (by decide)
theorem call_reprD2 {X : Cx} (gd : X.A.guards = some []) (hu : X.A.units + 199 < cLine) : CallR X (.builtin "repr") (fun xs H Q => ∃ x d, xs = [x] ∧ Dp X.K H x d ∧ shC d = true ∧ Q (.str d.shown) H) := by
  intro pins s σ H xs us Q I r h
  obtain ⟨x, d, rfl, hd, hs, q⟩ := h
  obtain ⟨u, rfl, ru⟩ := vals1 r
  have seq : ∀ {a : Addr} {d : PyData}, Dp X.K H (.ref a) d → u = .ref a → shB d = true → Q (.str d.shown) H → wpAny (model X.prog X.w) X.A (call (.builtin "repr") [u]) (fun v s' => ∃ v2 H', Inv X pins σ H' s' ∧ RelV v2 v ∧ Q v2 H') X.xe s := by
    intro a d hd e hs q
    subst e
    obtain ⟨as, r1⟩ := Dp.reads I d (.ref a) (.ref a) hd rfl
    simp only [shB, Bool.and_eq_true, Bool.not_eq_true', decide_eq_true_eq] at hs
    obtain ⟨h1, h2, _, h3, h4⟩ := hs
    exact repr_of_reads' r1 h1 (fun y => by rw [h2] at y; cases y) gd (by omega) (fun _ _ e => e) (fun h' u tk kp => ⟨.str _, H, I.kept kp, ⟨u, rfl⟩, q⟩) h4
  cases d with
  | none =>
    cases hd
    obtain rfl : u = Value.none := ru
    exact PySem.P.repr_of_none ⟨.str _, H, I.tok _, ⟨_, rfl⟩, q⟩
  | bool b =>
    cases hd
    obtain rfl : u = Value.bool b := ru
    exact PySem.P.repr_of_bool ⟨.str _, H, I.tok _, ⟨_, rfl⟩, q⟩
  | int i =>
    cases hd
    obtain ⟨t, rfl⟩ : ∃ t, u = Value.int i t := ru
    exact PySem.P.repr_of_int (of_decide_eq_true hs) ⟨.str _, H, I.tok _, ⟨_, rfl⟩, q⟩
  | str y =>
    cases hd
    obtain ⟨t, rfl⟩ : ∃ t, u = Value.str y t := ru
    exact PySem.P.repr_of_str ⟨.str _, H, I.tok _, ⟨_, rfl⟩, q⟩ (of_decide_eq_true hs)
  | tuple ds =>
    cases hd with
    | tup a1 a2 => exact seq (.tup a1 a2) ru hs q
  | list ds =>
    cases hd with
    | lst a1 a2 => exact seq (.lst a1 a2) ru hs q
  | _ => cases hs
theorem call_reprA {X : Cx} (gd : X.A.guards = some []) (hu : X.A.units + 199 < cLine) : CallR X (.builtin "repr") (fun xs H Q => ∃ x z, xs = [x] ∧ RepV X.K H x z ∧ Q (.str z) H) := by
  intro pins s σ H xs us Q I r h
  obtain ⟨x, z, rfl, h | h, q⟩ := h
  · obtain ⟨d, h1, h2, rfl⟩ := h
    exact call_reprD2 gd hu pins s σ H _ us Q I r ⟨x, d, rfl, h1, h2, q⟩
  · obtain ⟨a, rfl, h2, rfl⟩ := h
    exact call_reprE gd hu pins s σ H _ us Q I r ⟨a, rfl, h2, q⟩
def repOf (p : PV) : Option Str := match p with
  | .dic [] [] => some (PyData.dict []).shown
  | .str x => if shC (.str x) = true then some (PyData.str x).shown else none
  | p => if p.isRef = false ∧ (toD p).canLay0 = true ∧ shC (toD p) = true then some (toD p).shown else none
theorem repOf_ok {K : PySem.W.Frag} {H : Hp} {μ : Mem} {v : V} {p : PV} {z : Str} (r : Rep K H μ v p) (e : repOf p = some z) : RepV K H v z := by
  unfold repOf at e
  split at e
  · cases e
    have r := r.pure rfl
    generalize hk : ([] : List Key) = ks at r
    generalize hp : ([] : List PV) = ps at r
    cases r with
    | @dic a kvs _ h1 h2 h3 =>
      have : kvs = [] := List.map_eq_nil_iff.mp hk.symm
      subst this
      exact .inr ⟨a, rfl, h1, rfl⟩
  · split at e
    · rename_i hs
      cases e
      have r := r.pure rfl
      cases r
      exact .inl ⟨_, .str _, hs, rfl⟩
    · cases e
  · split at e
    · rename_i hs
      cases e
      exact .inl ⟨_, (r.pure hs.1).dp hs.2.1, hs.2.2, rfl⟩
    · cases e
def gReprA (ps : List PV) (S : Sto) : R PV := match ps with
  | [p] => (match repOf p with
    | some z => .ok (.str z) S
    | none => .no)
  | _ => .no
theorem l_reprA {K : PySem.W.Frag} : LAR K (fun xs H Q => ∃ x z, xs = [x] ∧ RepV K H x z ∧ Q (.str z) H) gReprA := by
  intro Q H μ S vs ps rv t hF
  unfold gReprA at hF
  split at hF
  · split at hF
    · rename_i p _ z e
      obtain ⟨v, rfl, h1⟩ := rv.one
      exact ⟨v, z, rfl, repOf_ok h1 e, hF.val t (.inl (.str _))⟩
    · exact hF.elim
  · exact hF.elim
end Py
set_option Elab.async false
set_option maxRecDepth 100000
set_option maxHeartbeats 1000000
set_option linter.all false
namespace Py
open PySem PySem.Spec PyProof.Rows L2 NdefX LamX
variable [CT]
/-- what stands in a clause's answer: a constant, the error's field, its repr, what is told of its class -/
inductive Item where
  | con (p : PV)
  | fld
  | rep
  | isa (b : Bool)
def isSc : PV → Bool
  | .non => true
  | .bl _ => true
  | .int _ => true
  | .str _ => true
  | _ => false
def scV : PV → V
  | .bl b => .bl b
  | .int i => .int i
  | .str x => .str x
  | _ => .non
def Item.of : Item → PV → Option PV
  | .con p, _ => if isSc p = true then some p else none
  | .fld, p => if p.isRef = false then some p else none
  | .rep, p => (repOf p).map .str
  | .isa b, _ => some (.bl b)
/-- a clause, as it is told: its class, the class's place, its field, the items of its answer -/
structure Kl where
  c : Str
  CS : Addr
  f : Option Str
  nm : Bool
  its : List Item
/-- the wish of an item -/
def tItem (K : PySem.W.Frag) (i : Nat) (k : Kl) (a : Addr) (cls : Value) (d : Option Addr) : Item → TE
  | .con p => tC (scV p)
  | .fld => fun σ H Q => ∃ f, k.f = some f ∧ tXf a cls d k.CS f (tVar i) σ H Q
  | .rep => fun σ H Q => ∃ f, k.f = some f ∧ tXf a cls d k.CS f (tVar i) σ H fun x H1 => ∃ z, RepV K H1 x z ∧ Q (.str z) H1
  | .isa b => fun σ H Q => σ[i]? = some (some (.ref a)) ∧ cls = .ref k.CS ∧ (d = none ∨ ∃ dd fs, d = some dd ∧ H dd = some (.xd fs)) ∧ Q (.bl b) H
def tItems (K : PySem.W.Frag) (i : Nat) (k : Kl) (a : Addr) (cls : Value) (d : Option Addr) : List Item → TA
  | [] => fun _ H Q => Q [] H
  | it :: its => fun σ H Q => tItem K i k a cls d it σ H fun v H1 => tItems K i k a cls d its σ H1 fun vs H2 => Q (v :: vs) H2
/-- the block of a clause -/
def doesOf (K : PySem.W.Frag) (i : Nat) (k : Kl) : Addr → Value → Option Addr → TS := fun a cls d D σ H => tItems K i k a cls d k.its σ H fun vs H1 => vs.length ≤ sizeLine ∧ ∀ p, H1 p = none → D.rt (.ref p) (upd H1 p (.tup vs))
def clOf (K : PySem.W.Frag) (i : Nat) (k : Kl) : Clause := ⟨.ref k.CS, if k.nm = true then some i else none, doesOf K i k⟩
section
variable {K : PySem.W.Frag} {mg : Str → Option Value} {H : Hp} {μ : Mem} {i : Nat} {k : Kl} {a : Addr} {cls : Value} {d : Option Addr} {p : PV} {σ : L2.St}
/-- what the clauses make of an error -/
def blk (K : PySem.W.Frag) (n i : Nat) (ks : List Kl) (Q : VK) : XK := fun cls d H => ∀ (D : Ends) (σ : L2.St), D.rt = Q → σ.length = n → wMix K (fun _ _ _ _ => False) D (ks.map (clOf K i)) cls d σ H
end
end Py
set_option Elab.async false
set_option maxRecDepth 100000
set_option maxHeartbeats 1000000
set_option linter.all false
namespace Py
open PySem PySem.Spec PyProof.Rows L2 NdefX LamX
end Py
set_option Elab.async false
set_option maxRecDepth 100000
set_option maxHeartbeats 1000000
set_option linter.all false
namespace Py
open PySem PySem.Spec PyProof.Rows L2
end Py
set_option Elab.async false
set_option maxRecDepth 100000
set_option maxHeartbeats 1000000
set_option linter.all false
namespace Py
open PySem PySem.Spec PyProof.Rows L2
variable [CT]
structure CalG (P : Program) (w : World) (K : PySem.W.Frag) (mg : Str → Option Value) (base : Heap) (k : Nat) (x : Str) (pn : List Str) (sp : Sp) : Prop where
  ex : ∃ f fd, mg x = some (.ref f) ∧ PySem.W.keepIn K (.ref f) = true ∧ Binds K fd pn [] ∧ FnG P w K mg base CX0 k f fd pn sp
section
variable {P : Program} {w : World} {K : PySem.W.Frag} {mg : Str → Option Value} {base : Heap} {x qual : Str} {params : Arguments} {body : List Stmt} {scope : Scope} {f : Addr} {fd : FuncData} {pn : List Str} {k : Nat} {sp : Sp}
theorem calg_of (hm : mg x = some (.ref f)) (F : FunD K x qual params body scope [] [] f fd)
    (h : ∀ (kV doc pm : Value) (an : Option Addr) (cdv ct : Value) (us : List Value), us.length = pn.length → bindArgs (PySem.W.fnOf x qual params body scope .none kV doc pm an cdv ct) ⟨us, []⟩ = pure (pn.zip us))
    (G : FnG P w K mg base CX0 k f fd pn sp) : CalG P w K mg base k x pn sp := ⟨f, fd, hm, F.kp, F.bindsN h, G⟩
end
section
variable {X : Cx} {k j : Nat} {m : Fn} {x : Str} {pn : List Str} {p pos : Pos} {e : Expr} {es : List Expr} {fa : Ea} {t : TA} {sp : Sp}
theorem pe_callG (gd : X.A.guards = some []) (C : CalG X.prog X.w X.K X.mg X.base k x pn sp) (hr : Room j X.A) (hk : k ≤ j) (hg : Gl X x) (ha : PA X (e :: es) t) (hdb : (x == ("__debug__" : Str)) = false := by decide)
    (he : starEach (e :: es) X.env = (false, eval e X.env) :: starEach es X.env := by rfl) (hpl : (backTo pos (starEach es X.env)).any (·.1) = false := by rfl) : PE X (.Call (.Name x p) (e :: es) [] pos) (fun σ H Q => t σ H fun vs H1 => sp vs H1 Q E0) := by
  obtain ⟨f, fd, hm, keep, hb, F⟩ := C.ex
  constructor
  intro pins s σ H Q I todo
  apply wpAny_Call_Name_kw
  refine ld_glob I hg hm ?_ hdb
  refine PySem.W.callWith_K (h₀ := X.base) I.ok.mod.kin keep (thn (ha.run pos pins s σ H _ I todo) fun us s1 ⟨vs, H1, I1, rv, q⟩ => ⟨I1.kIn, ?_⟩) he hpl
  have len : us.length = pn.length := by rw [← rv.length]; exact F.many _ _ _ _ q
  have bt := hb s1 us I1.kIn (by rw [List.append_nil]; exact len)
  rw [List.append_nil] at bt
  apply wpAny_call
  refine codeAny_mono (F.runs X.A X.stack s1 H1 ⟨us, []⟩ us vs Q E0 gd (hr.mono hk) I1.env0 bt rv q) fun r s2 done => ?_
  match r, done with
  | .ok (.ret v), done => exact I1.after done
  | .ok .next, done => exact done.elim
  | .ok .brk, done => exact done.elim
  | .ok .cont, done => exact done.elim
  | .error e, done => exact (show False from done).elim
theorem ee_callG (gd : X.A.guards = some []) (C : CalG X.prog X.w X.K X.mg X.base k x pn (spM X.K m)) (hr : Room j X.A) (hk : k ≤ j) (hg : Gl X x) (ha : EA X (e :: es) fa) (hdb : (x == ("__debug__" : Str)) = false := by decide)
    (he : starEach (e :: es) X.env = (false, eval e X.env) :: starEach es X.env := by rfl) (hpl : (backTo pos (starEach es X.env)).any (·.1) = false := by rfl) : EE X (.Call (.Name x p) (e :: es) [] pos) (eArgs m fa) :=
  pe_mono (pe_callG gd C hr hk hg ha hdb he hpl) fun σ H Q ⟨μ, ρ, S, hE, hR, hF⟩ => ⟨μ, ρ, S, hE, hR, (FitsG.bind hF).imp fun ps S2 H2 μ2 s2 t2 h2 vs rv => by
    refine ⟨μ2, ps, S2, rv, t2, ?_⟩
    revert h2
    cases m ps S2 with
    | ok q S3 => exact fun g H3 st t3 v r => g H3 μ2 st t3 v r
    | er => exact fun y => y
    | no => exact fun y => y⟩
end
end Py
set_option Elab.async false
set_option maxRecDepth 100000
set_option maxHeartbeats 1000000
set_option linter.all false
namespace Py
open PySem PySem.Spec PyProof.Rows L2
/-- an own error class over ValueError, as a Boolean of K -/
theorem oexB_ok {K : PySem.W.Frag} {C : Addr} (h : oexB K C = true) : ∃ nm q N bs bm sn sub ab col dd k0 k1 k2 k3 k5, K.lookup C = some (excClassObj nm q C N bs bm true sn sub ab col dd k0 k1 k2 k3 k5 "ValueError.__new__") ∧ PySem.HandSPX.refsVE bm = true := by
  unfold oexB at h
  split at h
  · rename_i t dd cd sl lk
    split at h
    · rename_i D bm k0 k1 k2 k3 n k5 em es
      obtain ⟨h1, h⟩ := He.ba h
      obtain ⟨h2, h⟩ := He.ba h
      obtain ⟨h3, h⟩ := He.ba h
      obtain ⟨h4, h⟩ := He.ba h
      obtain ⟨h5, h6⟩ := He.ba h
      have h1 := of_decide_eq_true h1
      have h2 := of_decide_eq_true h2
      have h3 := of_decide_eq_true h3
      obtain ⟨l⟩ := sl
      obtain ⟨nm, bs, mro, ns, qn, hd, sn, sub, ab, col, del⟩ := cd
      simp only [Bool.not_eq_true'] at em es h4 h5
      subst em es h1 h2 h3 h4 h5
      exact ⟨nm, qn, ns, bs, bm, sn, sub, ab, col, dd, k0, k1, k2, k3, k5, lk, h6⟩
    · cases h
  · cases h
theorem fnB_ok {o : Option Value} (h : fnB o = true) : o = some (.type "function") := by
  unfold fnB at h
  split at h
  · rw [of_decide_eq_true h]
  · cases h
/-- the facts that isinstance of such an error asks for -/
theorem excC_of {K : PySem.W.Frag} {D : Addr} (h : excCB K D = true) : ExcC K D := by
  obtain ⟨h1, h⟩ := He.ba h
  obtain ⟨h2, h⟩ := He.ba h
  obtain ⟨h3, h⟩ := He.ba h
  obtain ⟨h4, h⟩ := He.ba h
  obtain ⟨h5, h⟩ := He.ba h
  obtain ⟨h6, h⟩ := He.ba h
  obtain ⟨h7, h8⟩ := He.ba h
  exact ⟨He.eqO_ok h1, He.eqO_ok h2, boolB_ok h3, h4, He.eqO_ok h5, He.eqO_ok h6, boolB_ok h7, boolB_ok h8⟩
end Py
set_option Elab.async false
set_option maxRecDepth 100000
set_option maxHeartbeats 1000000
set_option linter.all false
namespace Py
open PySem PySem.Spec PyProof.Rows L2
end Py
set_option Elab.async false
set_option maxRecDepth 100000
set_option maxHeartbeats 1000000
set_option linter.all false
namespace Py
open PySem PySem.Spec PyProof.Rows L2
end Py
set_option Elab.async false
set_option maxRecDepth 100000
set_option maxHeartbeats 4000000
set_option linter.all false
namespace Py
open PySem PySem.Spec PyProof.Rows L2
end Py
set_option Elab.async false
set_option maxRecDepth 100000
set_option maxHeartbeats 4000000
set_option linter.all false
namespace Py
open PySem PySem.Spec PyProof.Rows L2
end Py
set_option Elab.async false
set_option maxRecDepth 100000
set_option maxHeartbeats 4000000
set_option linter.all false
namespace Py
open PySem PySem.Spec PyProof.Rows L2
end Py
set_option Elab.async false
set_option maxRecDepth 100000
set_option maxHeartbeats 4000000
set_option linter.all false
namespace L2
open PySem PySem.Spec PyProof.Rows
end L2
namespace Py
open PySem PySem.Spec PyProof.Rows L2
end Py
set_option Elab.async false
set_option maxRecDepth 100000
set_option maxHeartbeats 4000000
set_option linter.all false
namespace Py
open PySem PySem.Spec PyProof.Rows L2
end Py
set_option Elab.async false
set_option maxRecDepth 100000
set_option maxHeartbeats 1000000
set_option linter.all false
namespace Py
open PySem PySem.Spec PyProof.Rows L2
end Py
set_option Elab.async false
set_option maxRecDepth 100000
set_option maxHeartbeats 1000000
set_option linter.all false
namespace Py
open PySem PySem.Spec PyProof.Rows L2
end Py
set_option Elab.async false
set_option maxRecDepth 100000
set_option maxHeartbeats 1000000
set_option linter.all false
namespace Py
open PySem PySem.Spec PyProof.Rows L2
end Py
set_option Elab.async false
set_option maxRecDepth 100000
set_option maxHeartbeats 1000000
set_option linter.all false
namespace Py
open PySem PySem.Spec PyProof.Rows L2
end Py
set_option Elab.async false
set_option maxRecDepth 100000
set_option maxHeartbeats 1000000
set_option linter.all false
namespace Py
open PySem PySem.Spec PyProof.Rows L2
end Py
set_option Elab.async false
set_option maxRecDepth 100000
set_option maxHeartbeats 1000000
set_option linter.all false
namespace Py
open PySem PySem.Spec PyProof.Rows L2
mutual
inductive Dq (K : PySem.W.Frag) (H : Hp) : V → PyData → Prop
  | non : Dq K H .non .none
  | bl (b : Bool) : Dq K H (.bl b) (.bool b)
  | int (i : Int) : Dq K H (.int i) (.int i)
  | str (x : Str) : Dq K H (.str x) (.str x)
  | lst {a : Addr} {xs : List V} {ds : List PyData} : H a = some (.lst xs) → DqAll K H xs ds → Dq K H (.ref a) (.list ds)
  | tup {a : Addr} {xs : List V} {ds : List PyData} : SqT K H a xs → DqAll K H xs ds → Dq K H (.ref a) (.tuple ds)
  | dicE {a : Addr} : H a = some (.dK []) → Dq K H (.ref a) (.dict [])
inductive DqAll (K : PySem.W.Frag) (H : Hp) : List V → List PyData → Prop
  | nil : DqAll K H [] []
  | cons {v : V} {vs : List V} {d : PyData} {ds : List PyData} : Dq K H v d → DqAll K H vs ds → DqAll K H (v :: vs) (d :: ds)
end
section
variable {X : Cx} {pins : List (Addr × Obj)} {σ : L2.St} {H : Hp} {s : Shared}
theorem no_sys (hb : ∃ o, X.base.get? sysModules = some o) (I : Inv X pins σ H s) {a : Addr} {u : HO} (h : H a = some u) : a ≠ sysModules := by
  intro e
  obtain ⟨o, ho⟩ := hb
  have := (I.bs _ _ ho).2
  rw [← e, h] at this
  cases this
mutual
theorem Dq.reads (hb : ∃ o, X.base.get? sysModules = some o) (I : Inv X pins σ H s) : ∀ (d : PyData) (v : V) (u : Value), Dq X.K H v d → RelV v u → ∃ as, Reads s.heap u d as ∧ sysModules ∉ as
  | .none, _, _, h, r => by
    cases h
    cases r
    exact ⟨_, Reads.none, by simp⟩
  | .bool b, _, _, h, r => by
    cases h
    cases r
    exact ⟨_, Reads.bool b, by simp⟩
  | .int i, _, _, h, r => by
    cases h
    obtain ⟨t, rfl⟩ := r
    exact ⟨_, Reads.int i t, by simp⟩
  | .str x, _, _, h, r => by
    cases h
    obtain ⟨t, rfl⟩ := r
    exact ⟨_, Reads.str x t, by simp⟩
  | .list ds, _, _, h, r => by
    cases h with
    | lst hs ha =>
      cases r
      obtain ⟨its, rv, ⟨o, n, ho, hc, _, hd⟩, _⟩ := I.list (.inl (.inl hs))
      obtain ⟨as, hr, hn⟩ := Dq.readsAll hb I ds _ its ha rv
      refine ⟨_, Reads.list ho hc hd hr, fun m => ?_⟩
      rcases List.mem_cons.mp m with e | m
      · exact no_sys hb I hs e.symm
      · exact hn m
  | .tuple ds, _, _, h, r => by
    cases h with
    | tup hs ha =>
      cases r
      obtain ⟨its, rv, ⟨o, ho, hc, n, hd⟩, _⟩ := I.tuple hs
      obtain ⟨as, hr, hn⟩ := Dq.readsAll hb I ds _ its ha rv
      exact ⟨_, Reads.tuple ho hc hd hr, hn⟩
  | .dict _, _, _, h, r => by
    cases h with
    | dicE ha =>
      cases r
      obtain ⟨_, hsm, vs, kv, o, es, ep, ho, hx, hd, _, hp, _⟩ := (I.hok _ _ ha : ([] : List (Key × V)).length ≤ sizeLine ∧ (_ == sysModules) = false ∧ ∃ vs, KV [] vs ∧ s.heap.DictOf (mixKind X.prog X.w) _ vs)
      have ev : vs = [] := List.eq_nil_of_length_eq_zero (by rw [← kv.length]; rfl)
      subst ev
      have ee : es.toList = [] := List.eq_nil_of_length_eq_zero (by rw [hp.length]; rfl)
      refine ⟨_, Reads.dict ho hx.1 hd (by rw [ee]; exact .nil) (by rw [ee]; exact .nil), fun m => ?_⟩
      rcases List.mem_cons.mp m with e | m
      · exact no_sys hb I ha e.symm
      · cases m
theorem Dq.readsAll (hb : ∃ o, X.base.get? sysModules = some o) (I : Inv X pins σ H s) : ∀ (ds : List PyData) (vs : List V) (us : List Value), DqAll X.K H vs ds → Vals vs us → ∃ as, ReadsAll s.heap us ds as ∧ sysModules ∉ as
  | [], _, _, h, r => by
    cases h
    cases r
    exact ⟨_, ReadsAll.nil, by simp⟩
  | d :: ds, _, _, h, r => by
    cases h with
    | cons h1 h2 =>
      cases r with
      | cons r1 r2 =>
        obtain ⟨as, q1, n1⟩ := Dq.reads hb I d _ _ h1 r1
        obtain ⟨bs, q2, n2⟩ := Dq.readsAll hb I ds _ _ h2 r2
        exact ⟨_, ReadsAll.cons q1 q2, fun m => (List.mem_append.mp m).elim n1 n2⟩
end
end
/-- what may be shown -/
def shE (d : PyData) : Bool := d.showable && (decide (d.depth ≤ 190) && decide (d.shown.length ≤ sizeLine))
def RepQ (K : PySem.W.Frag) (H : Hp) (x : V) (z : Str) : Prop := ∃ a d, x = .ref a ∧ Dq K H (.ref a) d ∧ shE d = true ∧ z = d.shown
theorem call_reprQ {X : Cx} (hb : ∃ o, X.base.get? sysModules = some o) (gd : X.A.guards = some []) (hu : X.A.units + 199 < cLine) : CallR X (.builtin "repr") (fun xs H Q => ∃ x z, xs = [x] ∧ RepQ X.K H x z ∧ Q (.str z) H) := by
  intro pins s σ H xs us Q I r h
  obtain ⟨_, _, rfl, ⟨a, d, rfl, hd, hs, rfl⟩, q⟩ := h
  obtain ⟨u, rfl, ru⟩ := vals1 r
  obtain rfl : u = Value.ref a := ru
  obtain ⟨as, r1, n1⟩ := Dq.reads hb I d (.ref a) (.ref a) hd rfl
  simp only [shE, Bool.and_eq_true, decide_eq_true_eq] at hs
  obtain ⟨h1, h3, h4⟩ := hs
  exact repr_of_reads' r1 h1 (fun _ => n1) gd (by omega) (fun _ _ e => e) (fun h' u tk kp => ⟨.str _, H, I.kept kp, ⟨u, rfl⟩, q⟩) h4
variable [CT]
mutual
def layQ : PV → Bool
  | .non => true
  | .bl _ => true
  | .int _ => true
  | .str _ => true
  | .tup xs => layQs xs
  | .lst xs => layQs xs
  | .dic [] [] => true
  | _ => false
def layQs : List PV → Bool
  | [] => true
  | x :: xs => layQ x && layQs xs
end
section
variable {K : PySem.W.Frag} {H : Hp} {μ : Mem}
mutual
theorem RepP.dq : ∀ {p : PV} {v : V}, RepP K H μ v p → layQ p = true → Dq K H v (toD p)
  | .non, _, h, _ => by cases h; exact .non
  | .bl b, _, h, _ => by cases h; exact .bl b
  | .int b, _, h, _ => by cases h; exact .int b
  | .str b, _, h, _ => by cases h; exact .str b
  | .tup ps, _, h, c => by
    cases h with
    | tup h1 h2 =>
      rw [layQ] at c
      rw [toD]
      exact .tup h1.sq (RepPs.dqs h2 c)
  | .lst ps, _, h, c => by
    cases h with
    | lst h1 n h2 =>
      rw [layQ] at c
      rw [toD]
      exact .lst h1 (RepPs.dqs h2 c)
  | .dic [] [], v, h, c => by
    rw [toD]
    generalize hk : ([] : List Key) = ks at h
    generalize hp : ([] : List PV) = ps at h
    cases h with
    | @dic a kvs _ h1 h2 h3 =>
      have : kvs = [] := List.map_eq_nil_iff.mp hk.symm
      subst this
      exact .dicE h1
theorem RepPs.dqs : ∀ {ps : List PV} {vs : List V}, RepPs K H μ vs ps → layQs ps = true → DqAll K H vs (toDs ps)
  | [], _, h, _ => by cases h; rw [toDs]; exact .nil
  | p :: ps, _, h, c => by
    cases h with
    | cons h1 h2 =>
      rw [layQs, Bool.and_eq_true] at c
      rw [toDs]
      exact .cons (RepP.dq h1 c.1) (RepPs.dqs h2 c.2)
end
end
def RepU (K : PySem.W.Frag) (H : Hp) (x : V) (z : Str) : Prop := RepV K H x z ∨ RepQ K H x z
theorem call_reprU {X : Cx} (hb : ∃ o, X.base.get? sysModules = some o) (gd : X.A.guards = some []) (hu : X.A.units + 199 < cLine) : CallR X (.builtin "repr") (fun xs H Q => ∃ x z, xs = [x] ∧ RepU X.K H x z ∧ Q (.str z) H) := by
  intro pins s σ H xs us Q I r h
  obtain ⟨x, z, rfl, h | h, q⟩ := h
  · exact call_reprA gd hu pins s σ H _ us Q I r ⟨x, z, rfl, h, q⟩
  · exact call_reprQ hb gd hu pins s σ H _ us Q I r ⟨x, z, rfl, h, q⟩
def gReprD (ps : List PV) (S : Sto) : R PV := match ps with
  | [.ref n] => (match getL (.ref n) S with
    | some xs => if layQs xs = true ∧ shE (toD (.lst xs)) = true then .ok (.str (toD (.lst xs)).shown) S else .no
    | none => .no)
  | [.tup xs] => if layQs xs = true ∧ shE (toD (.tup xs)) = true then .ok (.str (toD (.tup xs)).shown) S else gReprA [.tup xs] S
  | [.lst xs] => if layQs xs = true ∧ shE (toD (.lst xs)) = true then .ok (.str (toD (.lst xs)).shown) S else gReprA [.lst xs] S
  | ps => gReprA ps S
theorem l_reprD {K : PySem.W.Frag} : LAR K (fun xs H Q => ∃ x z, xs = [x] ∧ RepU K H x z ∧ Q (.str z) H) gReprD := by
  intro Q H μ S vs ps rv t hF
  have old : ∀ {ps : List PV}, Reps K H μ vs ps → FitsG K H μ (gReprA ps S) (VKont K Q) → ∃ x z, vs = [x] ∧ RepU K H x z ∧ Q (.str z) H := fun rv hF => by
    obtain ⟨x, z, e, h, q⟩ := l_reprA Q H μ S vs _ rv t hF
    exact ⟨x, z, e, .inl h, q⟩
  unfold gReprD at hF
  split at hF
  · rename_i n
    split at hF
    · rename_i xs e
      split at hF
      · rename_i hc
        obtain ⟨v, rfl, h1⟩ := rv.one
        obtain ⟨a, us, rfl, hs, r⟩ := getL_trk t h1 e (fun ys h => by cases h)
        exact ⟨.ref a, _, rfl, .inr ⟨a, _, rfl, by rw [toD]; exact .lst hs (RepPs.dqs r hc.1), hc.2, rfl⟩, hF.val t (.inl (.str _))⟩
      · exact hF.elim
    · exact hF.elim
  · split at hF
    · rename_i xs hc
      obtain ⟨v, rfl, h1⟩ := rv.one
      obtain ⟨a, us, rfl, g1, g2⟩ := h1.tup_inv
      exact ⟨.ref a, _, rfl, .inr ⟨a, _, rfl, by rw [toD]; exact .tup g1.sq (RepPs.dqs g2 hc.1), hc.2, rfl⟩, hF.val t (.inl (.str _))⟩
    · exact old rv hF
  · split at hF
    · rename_i xs hc
      obtain ⟨v, rfl, h1⟩ := rv.one
      have d := RepP.dq (h1.pure rfl) (show layQ (.lst xs) = true by rw [layQ]; exact hc.1)
      have h2 := h1.pure rfl
      cases h2 with
      | lst h3 h4 h5 => exact ⟨_, _, rfl, .inr ⟨_, _, rfl, d, hc.2, rfl⟩, hF.val t (.inl (.str _))⟩
    · exact old rv hF
  · exact old rv hF
theorem sysB_ok {K : PySem.W.Frag} {base : Heap} (B : K.In base) (h : sysB K = true) : ∃ o, base.get? sysModules = some o := by
  obtain ⟨o, e⟩ := Option.isSome_iff_exists.mp h
  exact ⟨o, B _ _ e⟩
end Py
set_option Elab.async false
set_option maxRecDepth 100000
set_option maxHeartbeats 2000000
set_option linter.all false
namespace PySem
namespace EV
open HandSPX
section
variable {M : Model} {A : Around} {E : Value → Shared → Prop} {h : Heap} {g : Array GenState} {d : Drawn} {t : Nat} {os : OsState}
variable {nm q : Str} {C N : Addr} {bs bm bmB : List Value} {hdct : Bool} {sn : List Str} {sub : List Value} {ab : Bool} {col : Option Bool} {dd : Option Addr} {k0 k1 k2 k3 k5 : Option Value} {B newId initId : String}
theorem check_new_ownK (F : ExcBaseFacts B newId initId bmB) (hT : ∀ X : String, bm.contains (.type X) = bmB.contains (.type X)) {rest : List Value} {kw : List (Str × Value)} {Q : Unit → Shared → Prop}
    (hC : h.get? C = some (excClassObj nm q C N bs bm hdct sn sub ab col dd k0 k1 k2 k3 k5 newId)) (hq : Q () ⟨h, g, d, t, os⟩) : wpAny M A (checkBuiltinCall newId ⟨.ref C :: rest, kw⟩) Q E ⟨h, g, d, t, os⟩ := by
  have hcont : (Value.ref C :: bm).contains (.type B) = true := by rw [List.contains_cons, hT, F.hasB, Bool.or_true]
  have hstar := F.noStar
  simp only [checkBuiltinCall, F.newKind, F.newSplit, F.newRow]
  repeat (first | refine wpAny_loadPart_at hC ?_ | (refine wpAny_isSubtype_exc hC ?_; rw [hcont]) | refine wpAny_staticBase_exc hC ?_ | refine wpAny_madeBy_exc hC ?_ | simp only [bne_self_eq_false, Bool.false_eq_true, if_false] | wp_step)
  exact hq
theorem check_type_callK {M : Model} {rest : List Value} {kw : List (Str × Value)} {Q : Unit → Shared → Prop} (hC : h.get? C = some (excClassObj nm q C N bs bm hdct sn sub ab col dd k0 k1 k2 k3 k5 newId))
    (hq : Q () ⟨h, g, d, t, os⟩) : wpAny M A (checkBuiltinCall "type.__call__" ⟨.ref C :: rest, kw⟩) Q E ⟨h, g, d, t, os⟩ := by
  have f3 := tc_sub
  have hT : (⟨h, g, d, t, os⟩ : Shared).TypeIs (.ref C) "type" := ⟨_, hC, rfl⟩
  simp only [checkBuiltinCall, tc_kind, tc_split]
  repeat (any_goals (first | assumption | with_reducible refine wpAny_loadPart_at hC ?_ | with_reducible refine wpAny_onRaise ?_ | with_reducible refine wpAny_map ?_ | wp_step))
end
section
variable {prog : Program} {w : World} {A : Around} {E : Value → Shared → Prop} {R : Result → Shared → Prop} {h : Heap} {g : Array GenState} {d : Drawn} {t : Nat} {os : OsState}
variable {nm q : Str} {C N : Addr} {bs bm bmB : List Value} {hdct : Bool} {sn : List Str} {sub : List Value} {ab : Bool} {col : Option Bool} {dd : Option Addr} {k0 k1 k2 k3 k5 : Option Value} {B newId initId : String}
theorem new_ownK (F : ExcBaseFacts B newId initId bmB) (hT : ∀ X : String, bm.contains (.type X) = bmB.contains (.type X)) {rest : List Value} {kw : List (Str × Value)}
    (hC : h.get? C = some (excClassObj nm q C N bs bm hdct sn sub ab col dd k0 k1 k2 k3 k5 newId))
    (hq : R (.ok (.ret (.ref (h.objs.size + 1)))) ⟨(h.push { cls := .type "tuple", data := .seq rest.toArray }).push
      { cls := .ref C, data := .fields #[.ref h.objs.size, .none, .none, .none, .bool false, .none] }, g, d, t, os⟩) (hrest : rest.length ≤ sizeLine) :
    codeAny (model prog w) A (.builtin newId ⟨.ref C :: rest, kw⟩) R ⟨h, g, d, t, os⟩ := by
  have hends := F.ends
  have hcB : (Value.ref C :: bm).contains (.type B) = true := by rw [List.contains_cons, hT, F.hasB, Bool.or_true]
  have hcA : (Value.ref C :: bm).contains (.type "AttributeError") = false := by rw [List.contains_cons, hT, F.noAttr]; rfl
  have hcN : (Value.ref C :: bm).contains (.type "NameError") = false := by rw [List.contains_cons, hT, F.noName]; rfl
  refine codeAny_builtinAt F.entry ?_
  unfold Builtin.«BaseException.__new__»
  refine wpAt_bind ?_
  show wpAt _ _ _ (stack >>= _) _ _ _
  refine wpAt_bind (wpAt_stack fun p below => wpAt_of_wpAny ?_)
  wp_walk
  refine wpAt_of_wpAny ?_
  rw [F.owner]
  repeat (first | with_reducible refine wpAny_madeHere_exc F.canon hC ?_ | with_reducible refine wpAny_loadPart_at hC ?_ | (with_reducible refine wpAny_isSubtype_exc hC ?_; first | rw [hcB] | rw [hcA] | rw [hcN]) | wp_step)
  show R _ _
  rw [Heap.size_push]
  exact hq
theorem type_call_ownK (F : ExcBaseFacts B newId initId bmB) (hT : ∀ X : String, bm.contains (.type X) = bmB.contains (.type X)) {rest : List Value} {kw : List (Str × Value)} {fI : Addr} {Q : Fin → Shared → Prop}
    (hC : h.get? C = some (excClassObj nm q C N bs bm hdct sn sub ab col dd k0 k1 k2 k3 k5 newId))
    (hi : W.Looks (model prog w) h (typeLookup (.ref C) "__init__") (some (.ref fI))) (hb : ∀ self, W.Looks (model prog w) h (bindSpecial (.ref fI) self) (.ref fI, [self])) (hrest : rest.length ≤ sizeLine)
    (hq : codeAny (model prog w) A (.call (.ref fI) ⟨.ref (h.objs.size + 1) :: rest, kw⟩)
      (fun r s' => match r with | .ok (.ret v) => v = .none ∧ Q (.done (.ret (.ref (h.objs.size + 1)))) s' | .ok _ => False | .error e => E e s')
      ⟨(h.push (W.kdv_tup rest)).push (excO C h.objs.size), g, d, t, os⟩) :
    wpAny (model prog w) A (Builtin.«type.__call__» ⟨.ref C :: rest, kw⟩) Q E ⟨h, g, d, t, os⟩ := by
  repeat (first | with_reducible refine wpAny_loadPart_at hC ?_ | with_reducible refine wpAny_madeBy_exc hC ?_ | wp_step)
  refine codeAny_call_builtin_code (Code.quiet_builtin _ F.quiet) (check_new_ownK F hT hC ?_)
  refine new_ownK F hT hC ?_ hrest
  show wpAny _ _ _ _ _ _
  have k : ∀ b o, h.get? b = some o → ((h.push (W.kdv_tup rest)).push (excO C h.objs.size)).get? b = some o := fun b o e => Heap.get?_push_of_some _ (Heap.get?_push_of_some _ e)
  have hC₁ := k _ _ hC
  have hget : ((h.push (W.kdv_tup rest)).push (excO C h.objs.size)).get? (h.objs.size + 1) = some (excO C h.objs.size) := by heap_get
  have hcC : (Value.ref C :: bm).contains (.ref C) = true := by simp
  have i1 := hi.keeps k
  have b1 := (hb (.ref (h.objs.size + 1))).keeps k
  unfold isInstance
  repeat (first | with_reducible refine wpAny_loadPart_at hget ?_ | (with_reducible refine wpAny_isSubtype_exc hC₁ ?_; rw [hcC]) | wp_step)
  show wpAny _ _ (typeLookup (.ref C) _) _ _ _
  refine i1.at ?_
  refine wpAny_holding (wpAny_bind (b1.at ?_))
  refine wpAny_bind (wpAny_call (codeAny_mono hq fun r s' z => ?_))
  rcases r with e | (v | _ | _ | _) <;> first | exact z | exact z.elim | skip
  obtain ⟨rfl, z⟩ := z
  first
    | exact wpAny_pure (wpAny_pure z)
    | (wp_walk; exact z)
theorem call_ownK (F : ExcBaseFacts B newId initId bmB) (hT : ∀ X : String, bm.contains (.type X) = bmB.contains (.type X)) {rest : List Value} {kw : List (Str × Value)} {fI : Addr}
    (hC : h.get? C = some (excClassObj nm q C N bs bm hdct sn sub ab col dd k0 k1 k2 k3 k5 newId))
    (hi : W.Looks (model prog w) h (typeLookup (.ref C) "__init__") (some (.ref fI))) (hb : ∀ self, W.Looks (model prog w) h (bindSpecial (.ref fI) self) (.ref fI, [self])) (hrest : rest.length ≤ sizeLine)
    (hq : codeAny (model prog w) (A.under (.builtin "type.__call__" ⟨.ref C :: rest, kw⟩)) (.call (.ref fI) ⟨.ref (h.objs.size + 1) :: rest, kw⟩) (W.InitBack (h.objs.size + 1) R)
      ⟨(h.push (W.kdv_tup rest)).push (excO C h.objs.size), g, d, t, os⟩) :
    codeAny (model prog w) A (.call (.ref C) ⟨rest, kw⟩) R ⟨h, g, d, t, os⟩ := by
  have f1 := tc_lookup
  have f2 := tc_bind (.ref C)
  have hTy : (⟨h, g, d, t, os⟩ : Shared).TypeIs (.ref C) "type" := ⟨_, hC, rfl⟩
  refine codeAny_of_tree ?_
  show wpAny _ _ (callAny (.ref C) _) _ _ _
  repeat (any_goals (first | assumption | with_reducible refine wpAny_loadPart_at hC ?_ | wp_step))
  refine ⟨rfl, ?_⟩
  refine codeAny_call_builtin_at (Code.quiet_builtin _ (by decide +kernel)) entry_typeCall (check_type_callK hC (type_call_ownK F hT hC hi hb hrest ?_))
  refine codeAny_mono hq fun r s' z => ?_
  rcases r with e | (v | _ | _ | _) <;> exact z
end
end EV
end PySem
set_option Elab.async false
set_option maxRecDepth 100000
set_option maxHeartbeats 2000000
set_option linter.all false
namespace L2
open PySem PySem.Spec PyProof.Rows
/-- C(..), C's own __init__ keeping sp: the error itself -/
def tMkV (C : Addr) (n m : Nat) (sp : Sp) (gV : List V → List V → List V) (t tk : TA) : TE := fun σ H Q => t σ H fun vs H1 => tk σ H1 fun zs H2 => vs.length = n ∧ zs.length = m ∧ ∀ a, H2 a = none → sp (gV (.ref a :: vs) zs) (upd H2 a (exo a C none)) (fun v H3 => v = .non ∧ Q (.ref a) H3) (fun _ _ _ => False)
section
variable {X : Cx} {CX : CXT} {k n : Nat} {fI C : Addr} {fd : FuncData} {ps ks : List Str} {sp : Sp} {x : Str} {p pos : Pos} {e : Expr} {es : List Expr} {kws : List Keyword} {t tk : TA} {g : List Value → List Value → List Value} {gV : List V → List V → List V}
theorem run_mkV {pins : List (Addr × Obj)} {σ : St} {H : Hp} {s : Shared} {Q : VK} {us ws : List Value} {vs zs : List V} (T : OexC X.K C) (iC : PySem.W.findIn X.K (.ref C) "__init__" = some (some (.ref fI))) (tI : PySem.W.typeIn X.K (.ref fI) = some (.type "function"))
    (F1 : FnOk X.prog X.w X.K X.mg X.base CX k fI fd ps sp) (hr : Room (k + 1) X.A) (hb : KBn X.K fd ps (n + 1) ks g gV) (hx : Passes CX X (fun _ _ _ => False)) (I : Inv X pins σ H s) (r : Vals vs us) (rz : Vals zs ws) (l1 : vs.length = n) (l2 : zs.length = ks.length) (hn : n ≤ 1000)
    (h : ∀ a, H a = none → sp (gV (.ref a :: vs) zs) (upd H a (exo a C none)) (fun v H3 => v = .non ∧ Q (.ref a) H3) (fun _ _ _ => False)) :
    wpAny (model X.prog X.w) X.A (call (.ref C) us (ks.zip ws)) (EP X pins σ Q) X.xe s := by
  obtain ⟨nm, q, N, bs, bm, sn, sub, ab, col, dd, k0, k1, k2, k3, k5, hC, hbm⟩ := T.cls
  obtain ⟨hp, gn, dr, tk, os⟩ := s
  have hsz : hp.objs.size ≤ hp.objs.size + 1 := Nat.le_succ _
  have hn' : H (hp.objs.size + 1) = none := I.hok.fresh hsz
  have hq := h (hp.objs.size + 1) hn'
  have kk : ∀ b o, hp.get? b = some o → ((hp.push (PySem.W.kdv_tup us)).push (PySem.HandSPX.excO C hp.objs.size)).get? b = some o := fun b o e => Heap.get?_push_of_some _ (Heap.get?_push_of_some _ e)
  have hget : ((hp.push (PySem.W.kdv_tup us)).push (PySem.HandSPX.excO C hp.objs.size)).get? (hp.objs.size + 1) = some (PySem.HandSPX.excO C hp.objs.size) := by heap_get
  have I2 : Inv X pins σ (upd H (hp.objs.size + 1) (exo (hp.objs.size + 1) C none)) ⟨(hp.push (PySem.W.kdv_tup us)).push (PySem.HandSPX.excO C hp.objs.size), gn, dr, tk, os⟩ :=
    I.laid (t' := tk) (a := hp.objs.size + 1) (o := exo (hp.objs.size + 1) C none) (h' := (hp.push (PySem.W.kdv_tup us)).push (PySem.HandSPX.excO C hp.objs.size)) kk hsz (exo_ok hget)
  have r1 : Vals (V.ref (hp.objs.size + 1) :: vs) (Value.ref (hp.objs.size + 1) :: us) := .cons rfl r
  have r2 := hb.rel r1 rz
  have e1 : (Value.ref (hp.objs.size + 1) :: us).length = n + 1 := r1.length.symm.trans (congrArg Nat.succ l1)
  have e2 : ws.length = ks.length := rz.length.symm.trans l2
  have hus : us.length ≤ sizeLine := by
    rw [← Paired.length r, sizeLine_eq]
    omega
  refine wpAny_call (PySem.EV.call_ownK F.excBase_ValueError (fun Y => PySem.HandSPX.refsVE_contains Y bm hbm) (I.kIn _ _ hC) (PySem.W.looks_findIn I.kIn iC) (fun self => PySem.W.bind_fn I.kIn self tI) hus
    (codeAny_mono (F1.run _ X.stack _ _ ⟨Value.ref (hp.objs.size + 1) :: us, ks.zip ws⟩ (g (Value.ref (hp.objs.size + 1) :: us) ws) _ _ (fun _ _ _ => False) (hr.make C us (ks.zip ws)) (I2.env0.make C us (ks.zip ws)) (hb.to _ (Value.ref (hp.objs.size + 1) :: us) ws I2.kIn e1 e2) r2 hq) fun r s' hq' => ?_))
  cases r with
  | error er => exact hx pins σ _ _ er s' I2 hq'
  | ok fl =>
    cases fl with
    | ret u =>
      obtain ⟨v, H', I3, rv, ev, q3⟩ := I2.after hq'
      subst ev
      exact ⟨rv, ⟨V.ref (hp.objs.size + 1), H', I3, rfl, q3⟩⟩
    | next => exact False.elim hq'
    | brk => exact False.elim hq'
    | cont => exact False.elim hq'
/-- C(e, ..) -/
theorem pe_mkV (T : OexC X.K C) (iC : PySem.W.findIn X.K (.ref C) "__init__" = some (some (.ref fI))) (tI : PySem.W.typeIn X.K (.ref fI) = some (.type "function"))
    (F1 : FnOk X.prog X.w X.K X.mg X.base CX k fI fd ps sp) (hr : Room (k + 1) X.A) (hb : KBn X.K fd ps (n + 1) [] g gV) (hn : n ≤ 1000) (hx : Passes CX X (fun _ _ _ => False)) (hg : Gl X x) (hm : X.mg x = some (.ref C)) (ha : PA X (e :: es) t)
    (hdb : (x == ("__debug__" : Str)) = false := by decide) (he : starEach (e :: es) X.env = (false, eval e X.env) :: starEach es X.env := by rfl) (hpl : (backTo pos (starEach es X.env)).any (·.1) = false := by rfl) :
    PE X (.Call (.Name x p) (e :: es) [] pos) (tMkV C n 0 sp gV t tNil) := by
  refine ⟨fun pins s σ H Q I h => ?_⟩
  refine wpAny_Call_Name_kw (ld_glob I hg hm ?_ hdb)
  refine PySem.W.callWith_K (h₀ := X.base) I.ok.mod.kin T.kC (thn (ha.run pos pins s σ H _ I h) fun us s1 ⟨vs, H1, I1, r1, l1, _, q1⟩ => ⟨I1.kIn, ?_⟩) he hpl
  exact run_mkV (ks := []) (ws := []) (zs := []) T iC tI F1 hr hb hx I1 r1 .nil l1 rfl hn q1
/-- C(f = e) -/
theorem pe_mkVK (T : OexC X.K C) (iC : PySem.W.findIn X.K (.ref C) "__init__" = some (some (.ref fI))) (tI : PySem.W.typeIn X.K (.ref fI) = some (.type "function"))
    (F1 : FnOk X.prog X.w X.K X.mg X.base CX k fI fd ps sp) (hr : Room (k + 1) X.A) (hb : KBn X.K fd ps 1 ks g gV) (hx : Passes CX X (fun _ _ _ => False)) (hg : Gl X x) (hm : X.mg x = some (.ref C)) (hkw : PK X kws tk)
    (hall : (backToKw pos (keywordEach kws X.env)).all (·.1.isSome) = true := by rfl) (hks : (backToKw pos (keywordEach kws X.env)).filterMap (·.1) = ks := by rfl) (hdb : (x == ("__debug__" : Str)) = false := by decide)
    (hpl : ((backTo pos (starEach [] X.env)).any (·.1) || (backToKw pos (keywordEach kws X.env)).any (·.1.isNone)) = false := by rfl) :
    PE X (.Call (.Name x p) [] kws pos) (tMkV C 0 ks.length sp gV tNil tk) := by
  refine ⟨fun pins s σ H Q I h => ?_⟩
  refine wpAny_Call_Name_kw (ld_glob I hg hm ?_ hdb)
  refine PySem.W.callWith_KW0 (h₀ := X.base) I.ok.mod.kin T.kC hall ?_ hpl
  refine thn (hkw.run pos pins s σ H _ I h) fun ws s2 ⟨zs, H2, I2, rz, l1, l2, q2⟩ => ⟨I2.kIn, ?_⟩
  rw [hks]
  exact run_mkV (us := []) (vs := []) T iC tI F1 hr hb hx I2 .nil rz rfl l2 (by omega) q2
end
/-- C(), an own error class without own __init__ -/
theorem pe_mkV0 {X : Cx} {C : Addr} {bmB : List Value} {B newId initId : String} {x : Str} {p pos : Pos} (F : ExcBaseFacts B newId initId bmB) (q : PySem.W.excIn X.K C bmB newId = true) (gC : X.mg x = some (.ref C)) (kC : PySem.W.keepIn X.K (.ref C) = true) (hg : Gl X x)
    (hdb : (x == ("__debug__" : Str)) = false := by decide) :
    PE X (.Call (.Name x p) [] [] pos) (fun σ H Q => ∀ a, H a = none → Q (.ref a) (upd H a (ExO (.ref C) a))) := by
  refine ⟨fun pins s σ H Q I h => ?_⟩
  refine wpAny_Call_Name_kw (ld_glob I hg gC ?_ hdb)
  refine PySem.W.callWith_K0 I.kIn kC ?_
  obtain ⟨bm, N, nm, qn, bs, hdct, sn, sub, ab, col, dd, k0, k1, k2, k3, k5, mN, hC, hN, hni, T⟩ := exc_obj I.kIn q
  refine wpAny_call_exc_subT F T hC hN hni (fun h' a hm => ?_) (by show 0 ≤ sizeLine; exact Nat.zero_le _)
  have hn : H a = none := I.hok.gone hm.new
  obtain ⟨t, ht, _, _⟩ := hm.there
  exact ⟨.ref a, upd H a (ExO (.ref C) a), I.laidN hm.keeps hm.new hn (exO_ok ht ⟨rfl, rfl⟩ rfl rfl rfl (show 4 < 6 by decide)), rfl, h a hn⟩
/-- err.f -/
def tFldV (C : Addr → Prop) (f : Str) (te : TE) : TE := fun σ H Q => te σ H fun x H1 => ∃ (a c d : Addr) (v : V), x = .ref a ∧ C c ∧ H1 a = some (exo a c (some d)) ∧ H1 d = some (exd d [(f, v)]) ∧ Q v H1
theorem pe_fldV {X : Cx} {C : Addr → Prop} {e : Expr} {te : TE} {pos : Pos} {n : Str} (T : ∀ c, C c → XfC X.K c ∧ PySem.W.findIn X.K (.ref c) n = some none) (he : PE X e te) (hb : attributeBase e n X.env (eval e X.env) = eval e X.env := by rfl) :
    PE X (.Attribute e n pos) (tFldV C n te) := by
  refine ⟨fun pins s σ H Q I h => ?_⟩
  refine attr_of hb (thn (he.run pins s σ H _ I h) fun u s1 hh => ?_)
  obtain ⟨x, H1, I1, rx, a, c, d, v, ex, hc, ea, ed, q⟩ := hh
  subst ex
  obtain rfl : u = Value.ref a := rx
  obtain ⟨T1, hno⟩ := T c hc
  obtain ⟨t1, ha⟩ := exo_at I1.hok ea
  obtain ⟨mA, hns, hr⟩ := exd_at I1.hok ed
  obtain ⟨od, ho, hl⟩ := lookIn_ns hns
  obtain ⟨u, hu, ru⟩ := RelO.some_of (v := v) (o := mA n) (by have := hr n; rwa [show ([(n, v)] : List (Str × V)).lookup n = some v by simp] at this)
  have J : PySem.W.InstAt s1.heap a { cls := .ref c, dict := some d, data := .fields #[.ref t1, .none, .none, .none, .bool false, .none] } c (some od) := ⟨ha, rfl, rfl, ho⟩
  exact HandSPX.exc_get I1.kIn J T1.ga T1.gg T1.exC (PySem.W.findObj_own T1.hdC hno rfl (by rw [hl, hu])) (handed_of ru) ⟨v, H1, I1.tok _, ru, q⟩
/-- isinstance(err, c) -/
def rIsV (K : PySem.W.Frag) (C : Addr → Prop) : List V → Hp → VK → Prop := fun xs H Q => ∃ (a D : Addr) (c : V) (cv : Value) (b : Bool), xs = [.ref a, c] ∧ C D ∧ (H a = some (ExO (.ref D) a) ∨ ∃ d fs, H a = some (exo a D (some d)) ∧ H d = some (exd d fs)) ∧ (∀ u, RelV c u → u = cv) ∧ PySem.W.kitOne K (.ref D) cv = some b ∧ Q (.bl b) H
theorem call_isV {X : Cx} {C : Addr → Prop} (T : ∀ c, C c → ExcC X.K c) : CallR X (.builtin "isinstance") (rIsV X.K C) := by
  intro pins s σ H xs us Q I r h
  obtain ⟨a, D, c, cv, b, rfl, hD, ho, hcv, e, q⟩ := h
  cases r with
  | cons rx rr =>
    cases rr with
    | cons rt rr =>
      cases rr
      cases rx
      have ec := hcv _ rt
      subst ec
      have Z := T D hD
      have hcl : (PySem.W.clsIn X.K D).isSome = true := by
        obtain ⟨cd, hc, _⟩ := PySem.W.any_some Z.hd
        rw [hc]; rfl
      have J : ∃ oe od, PySem.W.InstAt s.heap a oe D od := by
        rcases ho with ho | ⟨d, fs, ho, hd⟩
        · obtain ⟨⟨oe, vs, h1, ⟨z1, z2⟩, h3, _⟩, _, _⟩ := I.hok a _ ho
          refine ⟨oe, none, ?_⟩
          obtain ⟨oc, od, oda, osl⟩ := oe
          dsimp only at z1 z2 h3
          subst z1 z2 h3
          exact ⟨h1, rfl, rfl, trivial⟩
        · obtain ⟨t1, ha⟩ := exo_at I.hok ho
          obtain ⟨mA, hns, hr⟩ := exd_at I.hok hd
          obtain ⟨od, ho, hl⟩ := lookIn_ns hns
          exact ⟨_, some od, ha, rfl, rfl, ho⟩
      obtain ⟨oe, od, J⟩ := J
      exact PySem.W.kia_one (PySem.W.kitx_exc hcl Z.hg Z.hk Z.hs Z.ha Z.hn Z.ht Z.hm) I.kIn J e (fun z => nomatch z) fun tk => ⟨.bl b, H, I.kept (t' := tk) fun _ _ z => z, rfl, q⟩
end L2
set_option Elab.async false
set_option maxRecDepth 100000
set_option maxHeartbeats 2000000
set_option linter.all false
namespace Py
open PySem PySem.Spec PyProof.Rows L2
variable [CT]
theorem Rep.err {K : PySem.W.Frag} {H : Hp} {μ : Mem} {v : V} {c : Str} {ps : List PV} (h : Rep K H μ v (.err c ps)) : ErrV K H μ v (.err c ps) := by
  rcases h with h | ⟨n, a, e, _⟩ | ⟨i, ps, _, _, _, e, _⟩ | h
  · cases h
  · cases e
  · cases e
  · exact h
/-- the facts of an own error class whose __init__ fills the field f, by place and by name -/
structure ErrG (P : Program) (w : World) (K : PySem.W.Frag) (mg : Str → Option Value) (base : Heap) (c f : Str) : Prop where
  at_ : mg c = some (.ref (He.ga K c))
  oex : OexC K (He.ga K c)
  ini : ∃ fI fd ps, PySem.W.findIn K (.ref (He.ga K c)) "__init__" = some (some (.ref fI)) ∧ PySem.W.typeIn K (.ref fI) = some (.type "function") ∧ KBn K fd ps 2 [] (fun us ws => us ++ ws) (fun vs zs => vs ++ zs) ∧ KBn K fd ps 1 [f] (fun us ws => us ++ ws) (fun vs zs => vs ++ zs) ∧ FnOk P w K mg base CX0 1 fI fd ps (spInit (He.ga K c) f)
def eMkE (c f : Str) (fa : Ea) : Ev := fun ρ S => (fa ρ S).bind fun ps S1 => match ps with
  | [p] => if p.isRef = false then .ok (.err c [.str f, p]) S1 else .no
  | _ => .no
section
variable {X : Cx} {c f : Str} {e : Expr} {fa : Ea} {p pos : Pos} {j : Nat}
theorem mk_fits {H : Hp} {μ : Mem} {S : Sto} {Q : VK} {ps : List PV} {vs : List V} (t : Rel X.K H μ S) (rv : Reps X.K H μ vs ps)
    (h : FitsG X.K H μ (match ps with
      | [p] => if p.isRef = false then .ok (.err c [.str f, p]) S else .no
      | _ => (.no : R PV)) (VKont X.K Q)) : vs.length = 1 ∧ ∀ a, H a = none → spInit (He.ga X.K c) f (.ref a :: vs) (upd H a (exo a (He.ga X.K c) none)) (fun v H3 => v = .non ∧ Q (.ref a) H3) (fun _ _ _ => False) := by
  split at h
  · rename_i p
    split at h
    · rename_i hp
      obtain ⟨y, rfl, ry⟩ := rv.one
      have ry := ry.pure hp
      refine ⟨rfl, fun a na => ⟨a, y, rfl, upd_same, fun dx nx ne => ⟨rfl, ?_⟩⟩⟩
      have n1 : H dx = none := by rw [upd_ne ne] at nx; exact nx
      have n2 : (upd H dx (exd dx [(f, y)])) a = none := by rw [upd_ne (Ne.symm ne)]; exact na
      have eq : upd (upd (upd H a (exo a (He.ga X.K c) none)) dx (exd dx [(f, y)])) a (exo a (He.ga X.K c) (some dx)) = upd (upd H dx (exd dx [(f, y)])) a (exo a (He.ga X.K c) (some dx)) := by
        funext b
        by_cases b1 : b = a
        · rw [b1, upd_same, upd_same]
        · rw [upd_ne b1, upd_ne b1]
          by_cases b2 : b = dx
          · rw [b2, upd_same, upd_same]
          · rw [upd_ne b2, upd_ne b2, upd_ne b1]
      rw [eq]
      have s1 := Step.laid H μ n1 (exd dx [(f, y)])
      have t1 := t.laid n1 (exd dx [(f, y)])
      have s2 := Step.laid _ μ n2 (exo a (He.ga X.K c) (some dx))
      have t2 := t1.laid n2 (exo a (He.ga X.K c) (some dx))
      refine (show FitsG X.K H μ (.ok _ S) (VKont X.K Q) from h) _ μ (s1.trans s2) t2 _ (.inr (.inr (.inr ?_)))
      exact ⟨c, a, rfl, t.out na, .inr ⟨dx, f, y, p, rfl, upd_same, t.out n1, by rw [upd_ne ne]; exact upd_same, ry.step (s1.trans s2)⟩⟩
    · exact h.elim
  · exact h.elim
theorem ee_mkE (G : ErrG X.prog X.w X.K X.mg X.base c f) (hr : Room j X.A) (hj : 2 ≤ j) (hg : Gl X c) (ha : EA X [e] fa) (hdb : (c == ("__debug__" : Str)) = false := by decide)
    (he : starEach [e] X.env = (false, eval e X.env) :: starEach [] X.env := by rfl) (hpl : (backTo pos (starEach [] X.env)).any (·.1) = false := by rfl) : EE X (.Call (.Name c p) [e] [] pos) (eMkE c f fa) := by
  obtain ⟨fI, fd, ps, iC, tI, b1, _, F1⟩ := G.ini
  refine pe_mono (pe_mkV (CX := CX0) (n := 1) G.oex iC tI F1 (hr.mono hj) b1 (by omega) pass0 hg G.at_ ha hdb he hpl) fun σ H Q ⟨μ, ρ, S, hE, hR, hF⟩ => ?_
  refine ⟨μ, ρ, S, hE, hR, (FitsG.bind hF).imp fun qs S1 H1 μ1 s1 t1 h1 vs rv => ?_⟩
  obtain ⟨l, g⟩ := mk_fits t1 rv h1
  exact ⟨l, rfl, fun a na => by
    show spInit (He.ga X.K c) f ((.ref a :: vs) ++ []) _ _ _
    rw [List.append_nil]
    exact g a na⟩
theorem ee_mkEK {kp : Pos} (G : ErrG X.prog X.w X.K X.mg X.base c f) (hr : Room j X.A) (hj : 2 ≤ j) (hg : Gl X c) {fe : Ev} (he : EE X e fe) (hdb : (c == ("__debug__" : Str)) = false := by decide)
    (hall : (backToKw pos (keywordEach [⟨some f, e, kp⟩] X.env)).all (·.1.isSome) = true := by rfl) (hks : (backToKw pos (keywordEach [⟨some f, e, kp⟩] X.env)).filterMap (·.1) = [f] := by rfl)
    (hpl : ((backTo pos (starEach [] X.env)).any (·.1) || (backToKw pos (keywordEach [⟨some f, e, kp⟩] X.env)).any (·.1.isNone)) = false := by rfl) : EE X (.Call (.Name c p) [] [⟨some f, e, kp⟩] pos) (eMkE c f (aCons fe aNil)) := by
  obtain ⟨fI, fd, ps, iC, tI, _, b1, F1⟩ := G.ini
  refine pe_mono (pe_mkVK (CX := CX0) G.oex iC tI F1 (hr.mono hj) b1 pass0 hg G.at_ (pk_cons he pk_nil) hall hks hdb hpl) fun σ H Q ⟨μ, ρ, S, hE, hR, hF⟩ => ?_
  refine ⟨μ, ρ, S, hE, hR, ?_⟩
  have hF : FitsG X.K H μ (eMkE c f (aCons fe aNil) ρ S) (VKont X.K Q) := hF
  unfold eMkE aCons aNil at hF
  refine (FitsG.bind (FitsG.bind hF)).imp fun q S1 H1 μ1 s1 t1 h1 v rv => ?_
  have h1 := FitsG.here h1 t1
  obtain ⟨l, g⟩ := mk_fits (vs := [v]) t1 (.cons rv .nil) h1
  exact ⟨rfl, rfl, g⟩
end
/-- C() -/
def eMk0 (c : Str) : Ev := fun _ S => .ok (.err c []) S
theorem ee_mk0 {X : Cx} {c : Str} {p pos : Pos} (G : Err X.K X.mg c (He.ga X.K c)) (hg : Gl X c) (hdb : (c == ("__debug__" : Str)) = false := by decide) : EE X (.Call (.Name c p) [] [] pos) (eMk0 c) := by
  obtain ⟨bmB, newId, initId, B, F, q⟩ := G.own
  refine pe_mono (pe_mkV0 F q G.at_ G.kp hg hdb) fun σ H Q ⟨μ, ρ, S, hE, hR, hF⟩ a na => ?_
  refine (show FitsG X.K H μ (.ok _ S) (VKont X.K Q) from hF) _ μ (Step.laid H μ na _) (hR.laid na _) _ (.inr (.inr (.inr ?_)))
  exact ⟨c, a, rfl, hR.out na, .inl ⟨rfl, upd_same⟩⟩
/-- err.f -/
def gFld (cs : List Str) (f : Str) (p : PV) (S : Sto) : R PV := match p with
  | .err c [.str g, q] => if c ∈ cs ∧ g = f then .ok q S else .no
  | _ => .no
theorem ee_fldV {X : Cx} {cs : List Str} {f : Str} {e : Expr} {fe : Ev} {pos : Pos} (T : ∀ c ∈ cs, XfC X.K (He.ga X.K c) ∧ PySem.W.findIn X.K (.ref (He.ga X.K c)) f = some none) (he : EE X e fe) (hb : attributeBase e f X.env (eval e X.env) = eval e X.env := by rfl) : EE X (.Attribute e f pos) (eUn (gFld cs f) fe) := by
  refine pe_mono (pe_fldV (C := fun D => ∃ c ∈ cs, D = He.ga X.K c) (fun D ⟨c, hc, e⟩ => by rw [e]; exact T c hc) he hb) fun σ H Q ⟨μ, ρ, S, hE, hR, hF⟩ => ?_
  refine ⟨μ, ρ, S, hE, hR, (FitsG.bind hF).imp fun q S1 H1 μ1 s1 t1 h1 v rv => ?_⟩
  unfold gFld at h1
  split at h1
  · rename_i c g q
    split at h1
    · rename_i hc
      obtain ⟨hc, rfl⟩ := hc
      obtain ⟨c', a, rfl, na, ⟨e1, _⟩ | ⟨d, f', y, q', e1, g1, nd, g2, ry⟩⟩ := rv.err
      · cases e1
      · cases e1
        exact ⟨a, _, d, y, rfl, ⟨c, hc, rfl⟩, g1, g2, h1.val t1 (.inl ry)⟩
    · exact h1.elim
  · exact h1.elim
/-- isinstance(err, T) -/
def gIsE (cs : List Str) (sup : Str → Bool) (p : PV) (S : Sto) : R PV := match p with
  | .err c _ => if c ∈ cs then .ok (.bl (sup c)) S else .no
  | _ => .no
theorem ee_isE {X : Cx} {cs : List Str} {sup : Str → Bool} {w : V} {cv : Value} {e : Expr} {fe : Ev} {x : Str} {p p2 pos : Pos} (hx : ∀ c ∈ cs, ExcC X.K (He.ga X.K c)) (hk : ∀ c ∈ cs, PySem.W.kitOne X.K (.ref (He.ga X.K c)) cv = some (sup c)) (hw : ∀ u, RelV w u → u = cv)
    (hg : Gl X "isinstance") (hm : X.mg "isinstance" = none) (he : EE X e fe) (hT : PE X (.Name x p2) (tC w))
    (hv : bootBuiltins "isinstance" = some (.builtin "isinstance") := by decide +kernel) (h1 : starEach (e :: [.Name x p2]) X.env = (false, eval e X.env) :: starEach [.Name x p2] X.env := by rfl) (h2 : starEach [.Name x p2] X.env = (false, eval (.Name x p2) X.env) :: starEach [] X.env := by rfl) (hpl : (backTo pos (starEach [.Name x p2] X.env)).any (·.1) = false := by rfl) :
    EE X (.Call (.Name "isinstance" p) [e, .Name x p2] [] pos) (eUn (gIsE cs sup) fe) :=
  pe_mono (pe_callB (call_isV (C := fun D => ∃ c ∈ cs, D = He.ga X.K c) fun D ⟨c, hc, e⟩ => by rw [e]; exact hx c hc) hg hm hv (pa_cons he (pa_cons hT pa_nil h2) h1) (by decide) (by decide) h1 hpl) fun σ H Q ⟨μ, ρ, S, hE, hR, hF⟩ => ⟨μ, ρ, S, hE, hR, (FitsG.bind hF).imp fun q S1 H1 μ1 s1 t1 h1 v rv => by
    unfold gIsE at h1
    split at h1
    · rename_i c ps
      split at h1
      · rename_i hc
        obtain ⟨c', a, rfl, na, z⟩ := rv.err
        have hcc : c' = c := by
          rcases z with ⟨e1, _⟩ | ⟨_, _, _, _, e1, _⟩ <;> cases e1 <;> rfl
        subst hcc
        refine ⟨a, _, w, cv, sup c', rfl, ⟨c', hc, rfl⟩, ?_, hw, hk c' hc, h1.val t1 (.inl (.bl _))⟩
        rcases z with ⟨_, g⟩ | ⟨d, f', y, q', _, g1, nd, g2, _⟩
        · exact .inl g
        · exact .inr ⟨d, _, g1, g2⟩
      · exact h1.elim
    · exact h1.elim⟩
end Py
set_option Elab.async false
set_option maxRecDepth 100000
set_option maxHeartbeats 2000000
set_option linter.all false
namespace Py
open PySem PySem.Spec PyProof.Rows L2
theorem kbn_pos {K : PySem.W.Frag} {x qual : Str} {params : Arguments} {body : List Stmt} {scope : Scope} {f : Addr} {fd : FuncData} {ps : List Str} (F : FunD K x qual params body scope [] [] f fd)
    (h : ∀ (kV doc pm : Value) (an : Option Addr) (cdv ct : Value) (us : List Value), us.length = 2 → bindArgs (PySem.W.fnOf x qual params body scope .none kV doc pm an cdv ct) ⟨us, []⟩ = pure (ps.zip us)) : KBn K fd ps 2 [] (fun us ws => us ++ ws) (fun vs zs => vs ++ zs) := by
  obtain ⟨oc, od, dV, kV, doc, pm, an, cdv, ct, osl, rfl, lk, hcd, hD, hK⟩ := F.ex
  rcases hD with ⟨_, rfl⟩ | ⟨e, _⟩
  · refine ⟨fun s us ws X l1 l2 => BindsTo.of_looks fun M => ?_, fun r1 r2 => L2.Vals.append r1 r2⟩
    obtain rfl : ws = [] := List.length_eq_zero_iff.mp l2
    have e := h kV doc pm an cdv ct us l1
    rw [List.append_nil, List.zip_nil_left, e]
    exact .of_pure rfl
  · exact absurd rfl e
theorem kbn_key {K : PySem.W.Frag} {x qual : Str} {params : Arguments} {body : List Stmt} {scope : Scope} {f : Addr} {fd : FuncData} {ps : List Str} {g : Str} (F : FunD K x qual params body scope [] [] f fd)
    (h : ∀ (kV doc pm : Value) (an : Option Addr) (cdv ct u w : Value), bindArgs (PySem.W.fnOf x qual params body scope .none kV doc pm an cdv ct) ⟨[u], [(g, w)]⟩ = pure (ps.zip [u, w])) : KBn K fd ps 1 [g] (fun us ws => us ++ ws) (fun vs zs => vs ++ zs) := by
  obtain ⟨oc, od, dV, kV, doc, pm, an, cdv, ct, osl, rfl, lk, hcd, hD, hK⟩ := F.ex
  rcases hD with ⟨_, rfl⟩ | ⟨e, _⟩
  · refine ⟨fun s us ws X l1 l2 => BindsTo.of_looks fun M => ?_, fun r1 r2 => L2.Vals.append r1 r2⟩
    match us, l1, ws, l2 with
    | [u], _, [w], _ =>
      have e := h kV doc pm an cdv ct u w
      show PySem.W.Looks M s.heap (bindArgs _ ⟨[u], [(g, w)]⟩) (ps.zip [u, w])
      rw [e]
      exact .of_pure rfl
  · exact absurd rfl e
theorem errG_of [CT] {P : Program} {w : World} {K : PySem.W.Frag} {mg : Str → Option Value} {base : Heap} {c f self x qual : Str} {params : Arguments} {scope : Scope} {fd : FuncData} {p1 p2 p3 p4 : Pos} (g : mg c = some (.ref (He.ga K c))) (h : errFB K c f = true)
    (F : FunD K x qual params [.Assign [.Attribute (.Name self p1) f p2] (.Name f p3) p4] scope [] [] (He.ma K (He.ga K c) "__init__") fd) (S : FnScope [self, f] [self, f] scope) (v1 : Vis scope self) (v2 : Vis scope f)
    (bnd : ∀ (kV doc pm : Value) (an : Option Addr) (cdv ct : Value) (us : List Value), us.length = 2 → bindArgs (PySem.W.fnOf x qual params [.Assign [.Attribute (.Name self p1) f p2] (.Name f p3) p4] scope .none kV doc pm an cdv ct) ⟨us, []⟩ = pure ([self, f].zip us))
    (bndK : ∀ (kV doc pm : Value) (an : Option Addr) (cdv ct u w : Value), bindArgs (PySem.W.fnOf x qual params [.Assign [.Attribute (.Name self p1) f p2] (.Name f p3) p4] scope .none kV doc pm an cdv ct) ⟨[u], [(f, w)]⟩ = pure ([self, f].zip [u, w]))
    (d1 : (self == ("__debug__" : Str)) = false := by decide) (d2 : (f == ("__debug__" : Str)) = false := by decide) (c1 : (self == ("__classdict__" : Str)) = false := by decide) (c2 : (f == ("__classdict__" : Str)) = false := by decide) :
    ErrG P w K mg base c f := by
  obtain ⟨h1, h⟩ := He.ba h
  obtain ⟨h2, h⟩ := He.ba h
  obtain ⟨h3, h⟩ := He.ba h
  obtain ⟨h4, h⟩ := He.ba h
  obtain ⟨h5, h⟩ := He.ba h
  obtain ⟨h6, h⟩ := He.ba h
  obtain ⟨h7, h⟩ := He.ba h
  obtain ⟨h8, h⟩ := He.ba h
  obtain ⟨h9, h10⟩ := He.ba h
  have T : OexC K (He.ga K c) := ⟨oexB_ok h1, He.eqO_ok h2, boolB_ok h3, typB_ok h4, h5⟩
  exact ⟨g, T, _, fd, _, He.eqO_ok h9, fnB_ok h10, kbn_pos F bnd, kbn_key F bndK, fn_init T (He.eqO_ok h6) F S v1 v2 d1 d2 c1 c2⟩
theorem excsB_ok {K : PySem.W.Frag} {cs : List Str} (h : excsB K cs = true) : ∀ c ∈ cs, ExcC K (He.ga K c) := fun c hc => excC_of (List.all_eq_true.mp h c hc)
theorem fldsB_ok {K : PySem.W.Frag} {cs : List Str} {f : Str} (h : fldsB K cs f = true) : ∀ c ∈ cs, XfC K (He.ga K c) ∧ PySem.W.findIn K (.ref (He.ga K c)) f = some none := fun c hc => by
  obtain ⟨h1, h2⟩ := He.ba (List.all_eq_true.mp h c hc)
  exact ⟨xfB_ok h1, He.eqO_ok h2⟩
theorem kitsB_ok {K : PySem.W.Frag} {cs : List Str} {cv : Value} {sup : Str → Bool} (h : kitsB K cs cv sup = true) : ∀ c ∈ cs, PySem.W.kitOne K (.ref (He.ga K c)) cv = some (sup c) := fun c hc => of_decide_eq_true (List.all_eq_true.mp h c hc)
end Py
set_option Elab.async false
set_option maxRecDepth 100000
set_option maxHeartbeats 4000000
set_option linter.all false
namespace G01
open PySem PySem.Spec PyProof.Rows L2 Py
structure Txt [CT] (K : PySem.W.Frag) (w : World) (mg : Str → Option Value) : Prop where
  ArithmeticError : mg "ArithmeticError" = none
  AttributeError : mg "AttributeError" = none
  Exception : mg "Exception" = none
  LookupError : mg "LookupError" = none
  RuntimeError : mg "RuntimeError" = none
  TypeError : mg "TypeError" = none
  ValueError : mg "ValueError" = none
  abs : mg "abs" = none
  all : mg "all" = none
  bool : mg "bool" = none
  divmod : mg "divmod" = none
  int : mg "int" = none
  isinstance : mg "isinstance" = none
  len : mg "len" = none
  list : mg "list" = none
  max : mg "max" = none
  min : mg "min" = none
  range : mg "range" = none
  repr : mg "repr" = none
  str : mg "str" = none
  sum : mg "sum" = none
  tuple : mg "tuple" = none
theorem sc_init_InvalidText : FnScope ["self", "place"] ["self", "place"] (defScope s_init_InvalidText) := ⟨rfl, rfl, rfl, by decide +kernel, rfl, by decide +kernel, by decide +kernel⟩
theorem sc_init_InvalidTerm : FnScope ["self", "given"] ["self", "given"] (defScope s_init_InvalidTerm) := ⟨rfl, rfl, rfl, by decide +kernel, rfl, by decide +kernel, by decide +kernel⟩
theorem sc_init_InvalidSource : FnScope ["self", "given"] ["self", "given"] (defScope s_init_InvalidSource) := ⟨rfl, rfl, rfl, by decide +kernel, rfl, by decide +kernel, by decide +kernel⟩
theorem sc_init_InvalidProgram : FnScope ["self", "given"] ["self", "given"] (defScope s_init_InvalidProgram) := ⟨rfl, rfl, rfl, by decide +kernel, rfl, by decide +kernel, by decide +kernel⟩
theorem sc_init_InvalidNumber : FnScope ["self", "given"] ["self", "given"] (defScope s_init_InvalidNumber) := ⟨rfl, rfl, rfl, by decide +kernel, rfl, by decide +kernel, by decide +kernel⟩
theorem sc_init_InvalidName : FnScope ["self", "given"] ["self", "given"] (defScope s_init_InvalidName) := ⟨rfl, rfl, rfl, by decide +kernel, rfl, by decide +kernel, by decide +kernel⟩
theorem sc_init_InvalidPlace : FnScope ["self", "given"] ["self", "given"] (defScope s_init_InvalidPlace) := ⟨rfl, rfl, rfl, by decide +kernel, rfl, by decide +kernel, by decide +kernel⟩
theorem sc_init_InvalidRows : FnScope ["self", "given"] ["self", "given"] (defScope s_init_InvalidRows) := ⟨rfl, rfl, rfl, by decide +kernel, rfl, by decide +kernel, by decide +kernel⟩
theorem sc_init_InvalidSizes : FnScope ["self", "given"] ["self", "given"] (defScope s_init_InvalidSizes) := ⟨rfl, rfl, rfl, by decide +kernel, rfl, by decide +kernel, by decide +kernel⟩
theorem sc_init_InvalidBook : FnScope ["self", "index"] ["self", "index"] (defScope s_init_InvalidBook) := ⟨rfl, rfl, rfl, by decide +kernel, rfl, by decide +kernel, by decide +kernel⟩
theorem sc_init_InvalidParts : FnScope ["self", "index"] ["self", "index"] (defScope s_init_InvalidParts) := ⟨rfl, rfl, rfl, by decide +kernel, rfl, by decide +kernel, by decide +kernel⟩
theorem sc_init_InvalidWays : FnScope ["self", "index"] ["self", "index"] (defScope s_init_InvalidWays) := ⟨rfl, rfl, rfl, by decide +kernel, rfl, by decide +kernel, by decide +kernel⟩
theorem sc_init_InvalidNames : FnScope ["self", "index"] ["self", "index"] (defScope s_init_InvalidNames) := ⟨rfl, rfl, rfl, by decide +kernel, rfl, by decide +kernel, by decide +kernel⟩
theorem sc_init_InvalidMemory : FnScope ["self", "index"] ["self", "index"] (defScope s_init_InvalidMemory) := ⟨rfl, rfl, rfl, by decide +kernel, rfl, by decide +kernel, by decide +kernel⟩
theorem sc_init_InvalidDevice : FnScope ["self", "index"] ["self", "index"] (defScope s_init_InvalidDevice) := ⟨rfl, rfl, rfl, by decide +kernel, rfl, by decide +kernel, by decide +kernel⟩
theorem sc_init_InvalidWrites : FnScope ["self", "index"] ["self", "index"] (defScope s_init_InvalidWrites) := ⟨rfl, rfl, rfl, by decide +kernel, rfl, by decide +kernel, by decide +kernel⟩
theorem sc_init_NoValue : FnScope ["self", "index"] ["self", "index"] (defScope s_init_NoValue) := ⟨rfl, rfl, rfl, by decide +kernel, rfl, by decide +kernel, by decide +kernel⟩
theorem sc_init_BadRows : FnScope ["self", "index"] ["self", "index"] (defScope s_init_BadRows) := ⟨rfl, rfl, rfl, by decide +kernel, rfl, by decide +kernel, by decide +kernel⟩
structure Errs [CT] (P : Program) (w : World) (K : PySem.W.Frag) (mg : Str → Option Value) (base : Heap) : Prop where
  E_FormError : Err K mg "FormError" (He.ga K "FormError")
  G_InvalidText : ErrG P w K mg base "InvalidText" "place"
  G_InvalidTerm : ErrG P w K mg base "InvalidTerm" "given"
  G_InvalidSource : ErrG P w K mg base "InvalidSource" "given"
  G_InvalidProgram : ErrG P w K mg base "InvalidProgram" "given"
  G_InvalidNumber : ErrG P w K mg base "InvalidNumber" "given"
  G_InvalidName : ErrG P w K mg base "InvalidName" "given"
  G_InvalidPlace : ErrG P w K mg base "InvalidPlace" "given"
  G_InvalidRows : ErrG P w K mg base "InvalidRows" "given"
  G_InvalidSizes : ErrG P w K mg base "InvalidSizes" "given"
  G_InvalidBook : ErrG P w K mg base "InvalidBook" "index"
  G_InvalidParts : ErrG P w K mg base "InvalidParts" "index"
  G_InvalidWays : ErrG P w K mg base "InvalidWays" "index"
  G_InvalidNames : ErrG P w K mg base "InvalidNames" "index"
  G_InvalidMemory : ErrG P w K mg base "InvalidMemory" "index"
  G_InvalidDevice : ErrG P w K mg base "InvalidDevice" "index"
  G_InvalidWrites : ErrG P w K mg base "InvalidWrites" "index"
  G_NoValue : ErrG P w K mg base "NoValue" "index"
  G_BadRows : ErrG P w K mg base "BadRows" "index"
  E_Captured : Err K mg "Captured" (He.ga K "Captured")
  E_TooGreat : Err K mg "TooGreat" (He.ga K "TooGreat")
  E_NoRoom : Err K mg "NoRoom" (He.ga K "NoRoom")
  E_DoesNotStand : Err K mg "DoesNotStand" (He.ga K "DoesNotStand")
  E_NotNow : Err K mg "NotNow" (He.ga K "NotNow")
  E_NotMended : Err K mg "NotMended" (He.ga K "NotMended")
  E_NotThere : Err K mg "NotThere" (He.ga K "NotThere")
  xs : ∀ c ∈ csE, ExcC K (He.ga K c)
  fl_given : ∀ c ∈ cs_given, XfC K (He.ga K c) ∧ PySem.W.findIn K (.ref (He.ga K c)) "given" = some none
  fl_index : ∀ c ∈ cs_index, XfC K (He.ga K c) ∧ PySem.W.findIn K (.ref (He.ga K c)) "index" = some none
  fl_place : ∀ c ∈ cs_place, XfC K (He.ga K c) ∧ PySem.W.findIn K (.ref (He.ga K c)) "place" = some none
  kT_InvalidText : ∀ c ∈ csE, PySem.W.kitOne K (.ref (He.ga K c)) (.ref (He.ga K "InvalidText")) = some ((fun c : Str => decide (c = ("InvalidText" : Str))) c)
  kT_InvalidTerm : ∀ c ∈ csE, PySem.W.kitOne K (.ref (He.ga K c)) (.ref (He.ga K "InvalidTerm")) = some ((fun c : Str => decide (c = ("InvalidTerm" : Str))) c)
  kT_InvalidSource : ∀ c ∈ csE, PySem.W.kitOne K (.ref (He.ga K c)) (.ref (He.ga K "InvalidSource")) = some ((fun c : Str => decide (c = ("InvalidSource" : Str))) c)
  kT_InvalidProgram : ∀ c ∈ csE, PySem.W.kitOne K (.ref (He.ga K c)) (.ref (He.ga K "InvalidProgram")) = some ((fun c : Str => decide (c = ("InvalidProgram" : Str))) c)
  kT_InvalidNumber : ∀ c ∈ csE, PySem.W.kitOne K (.ref (He.ga K c)) (.ref (He.ga K "InvalidNumber")) = some ((fun c : Str => decide (c = ("InvalidNumber" : Str))) c)
  kT_InvalidName : ∀ c ∈ csE, PySem.W.kitOne K (.ref (He.ga K c)) (.ref (He.ga K "InvalidName")) = some ((fun c : Str => decide (c = ("InvalidName" : Str))) c)
  kT_InvalidPlace : ∀ c ∈ csE, PySem.W.kitOne K (.ref (He.ga K c)) (.ref (He.ga K "InvalidPlace")) = some ((fun c : Str => decide (c = ("InvalidPlace" : Str))) c)
  kT_InvalidRows : ∀ c ∈ csE, PySem.W.kitOne K (.ref (He.ga K c)) (.ref (He.ga K "InvalidRows")) = some ((fun c : Str => decide (c = ("InvalidRows" : Str))) c)
  kT_InvalidSizes : ∀ c ∈ csE, PySem.W.kitOne K (.ref (He.ga K c)) (.ref (He.ga K "InvalidSizes")) = some ((fun c : Str => decide (c = ("InvalidSizes" : Str))) c)
  kT_InvalidBook : ∀ c ∈ csE, PySem.W.kitOne K (.ref (He.ga K c)) (.ref (He.ga K "InvalidBook")) = some ((fun c : Str => decide (c = ("InvalidBook" : Str))) c)
  kT_InvalidParts : ∀ c ∈ csE, PySem.W.kitOne K (.ref (He.ga K c)) (.ref (He.ga K "InvalidParts")) = some ((fun c : Str => decide (c = ("InvalidParts" : Str))) c)
  kT_InvalidWays : ∀ c ∈ csE, PySem.W.kitOne K (.ref (He.ga K c)) (.ref (He.ga K "InvalidWays")) = some ((fun c : Str => decide (c = ("InvalidWays" : Str))) c)
  kT_InvalidNames : ∀ c ∈ csE, PySem.W.kitOne K (.ref (He.ga K c)) (.ref (He.ga K "InvalidNames")) = some ((fun c : Str => decide (c = ("InvalidNames" : Str))) c)
  kT_InvalidMemory : ∀ c ∈ csE, PySem.W.kitOne K (.ref (He.ga K c)) (.ref (He.ga K "InvalidMemory")) = some ((fun c : Str => decide (c = ("InvalidMemory" : Str))) c)
  kT_InvalidDevice : ∀ c ∈ csE, PySem.W.kitOne K (.ref (He.ga K c)) (.ref (He.ga K "InvalidDevice")) = some ((fun c : Str => decide (c = ("InvalidDevice" : Str))) c)
  kT_InvalidWrites : ∀ c ∈ csE, PySem.W.kitOne K (.ref (He.ga K c)) (.ref (He.ga K "InvalidWrites")) = some ((fun c : Str => decide (c = ("InvalidWrites" : Str))) c)
  kT_NoValue : ∀ c ∈ csE, PySem.W.kitOne K (.ref (He.ga K c)) (.ref (He.ga K "NoValue")) = some ((fun c : Str => decide (c = ("NoValue" : Str))) c)
  kT_BadRows : ∀ c ∈ csE, PySem.W.kitOne K (.ref (He.ga K c)) (.ref (He.ga K "BadRows")) = some ((fun c : Str => decide (c = ("BadRows" : Str))) c)
  kT_Captured : ∀ c ∈ csE, PySem.W.kitOne K (.ref (He.ga K c)) (.ref (He.ga K "Captured")) = some ((fun c : Str => decide (c = ("Captured" : Str))) c)
  kT_TooGreat : ∀ c ∈ csE, PySem.W.kitOne K (.ref (He.ga K c)) (.ref (He.ga K "TooGreat")) = some ((fun c : Str => decide (c = ("TooGreat" : Str))) c)
  kT_NoRoom : ∀ c ∈ csE, PySem.W.kitOne K (.ref (He.ga K c)) (.ref (He.ga K "NoRoom")) = some ((fun c : Str => decide (c = ("NoRoom" : Str))) c)
  kT_DoesNotStand : ∀ c ∈ csE, PySem.W.kitOne K (.ref (He.ga K c)) (.ref (He.ga K "DoesNotStand")) = some ((fun c : Str => decide (c = ("DoesNotStand" : Str))) c)
  kT_NotNow : ∀ c ∈ csE, PySem.W.kitOne K (.ref (He.ga K c)) (.ref (He.ga K "NotNow")) = some ((fun c : Str => decide (c = ("NotNow" : Str))) c)
  kT_NotMended : ∀ c ∈ csE, PySem.W.kitOne K (.ref (He.ga K c)) (.ref (He.ga K "NotMended")) = some ((fun c : Str => decide (c = ("NotMended" : Str))) c)
  kT_NotThere : ∀ c ∈ csE, PySem.W.kitOne K (.ref (He.ga K c)) (.ref (He.ga K "NotThere")) = some ((fun c : Str => decide (c = ("NotThere" : Str))) c)
  kT_FormError : ∀ c ∈ csE, PySem.W.kitOne K (.ref (He.ga K c)) (.ref (He.ga K "FormError")) = some ((fun _ : Str => true) c)
  kT_ValueError : ∀ c ∈ csE, PySem.W.kitOne K (.ref (He.ga K c)) (.type "ValueError") = some ((fun _ : Str => true) c)
  kT_Exception : ∀ c ∈ csE, PySem.W.kitOne K (.ref (He.ga K c)) (.type "Exception") = some ((fun _ : Str => true) c)
  kT_LookupError : ∀ c ∈ csE, PySem.W.kitOne K (.ref (He.ga K c)) (.type "LookupError") = some ((fun _ : Str => false) c)
  kT_TypeError : ∀ c ∈ csE, PySem.W.kitOne K (.ref (He.ga K c)) (.type "TypeError") = some ((fun _ : Str => false) c)
  kT_ArithmeticError : ∀ c ∈ csE, PySem.W.kitOne K (.ref (He.ga K c)) (.type "ArithmeticError") = some ((fun _ : Str => false) c)
  kT_RuntimeError : ∀ c ∈ csE, PySem.W.kitOne K (.ref (He.ga K c)) (.type "RuntimeError") = some ((fun _ : Str => false) c)
  kT_AttributeError : ∀ c ∈ csE, PySem.W.kitOne K (.ref (He.ga K c)) (.type "AttributeError") = some ((fun _ : Str => false) c)
  sys : ∃ o, base.get? sysModules = some o
section
variable {P : Program} {w : World} {K : PySem.W.Frag} {mg : Str → Option Value} {base : Heap} [CT]
abbrev N__law_draw : List Str := ["_law_well_here", "_law_many", "_law_seed", "_law_figure"]
abbrev p__law_draw : List Str := ["_law_well_here", "_law_many"]
theorem sc__law_draw : FnScope N__law_draw p__law_draw (defScope s__law_draw) := ⟨rfl, rfl, rfl, by decide +kernel, rfl, by decide +kernel, by decide +kernel⟩
def b__law_draw : Es := (sSeq (sIf (tV (eOp gGt (eOp gIx (eVar 0) (eC (.int 0))) (eC (.int 0)))) (sSeq (sAsg (eArgs gDivmod (aCons (eOp gIx (eVar 0) (eC (.int 0))) (aCons (eVar 1) aNil))) (nTup 2 (nCons (nSubL (eVar 0) (eC (.int 0))) (nCons (nName 3) nNil)))) (sRet (eVar 3))) sNil) (sSeq (sAsg (eOp gAdd (eOp gIx (eVar 0) (eC (.int 2))) (eC (.int 1))) (nSubL (eVar 0) (eC (.int 2)))) (sSeq (sSet 2 (eOp gMod (eArgs gInt (aCons (eOp gAdd (eOp gIx (eVar 0) (eC (.int 1))) (eOp gMul (eC (.int 77003)) (eOp gIx (eVar 0) (eC (.int 2))))) aNil)) (eC (.int 2147483579)))) (sSeq (sAsg (eOp gMod (eArgs gInt (aCons (eOp gAdd (eOp gMul (eVar 2) (eOp gAdd (eOp gMod (eArgs gInt (aCons (eVar 2) aNil)) (eC (.int 6007))) (eC (.int 30011)))) (eOp gMul (eC (.int 17)) (eOp gIx (eVar 0) (eC (.int 2))))) aNil)) (eC (.int 2147483579))) (nSubL (eVar 0) (eC (.int 1)))) (sRet (eOp gMod (eArgs gInt (aCons (eOp gFdiv (eOp gIx (eVar 0) (eC (.int 1))) (eC (.int 719))) aNil)) (eVar 1)))))))
def m__law_draw : Fn := mkDef 2 4 b__law_draw
set_option maxHeartbeats 4000000 in
theorem e__law_draw {f : Addr} (T : Txt K w mg) (cdv : Value) (A : Around) (outer : List PySem.Env) (s : Shared) (H : Hp) (E : XK) (hr : Room 0 (A.deeper (envOfC "_law_draw" (defScope s__law_draw) s.heap.objs.size f cdv))) :
    ESs (cxOf CX0 P w K mg base N__law_draw "_law_draw" (defScope s__law_draw) f cdv A outer s H E).nox (defBody s__law_draw) b__law_draw :=
  have S := sc__law_draw
  (es_cons (es_if (et_cmp (op_gt) l_gt (ee_ix (ee_var 0 (pv 0)) ee_int (fun _ _ => rfl)) ee_int (nomark _)) (es_cons (es_asg (ee_callB call_divmodW l_divmod (by rfl) T.divmod (by decide +kernel) (ea_cons (ee_ix (ee_var 0 (pv 0)) ee_int (fun _ _ => rfl)) (ea_cons (ee_var 1 (pv 1)) ea_nil))) (eg_tup rfl (egs_cons (eg_subL (ee_var 0 (pv 0)) ee_int (pg_sub (ee_var 0 (pv 0)) ee_int set_list)) (egs_cons (eg_name (pg_name (i := 3) S.nd rfl (Or.inl rfl))) egs_nil)))) (es_one (es_ret (ee_var 3 (pv 3))))) es_nil) (es_cons (es_asg (ee_op op_addA l_add (ee_ix (ee_var 0 (pv 0)) ee_int (fun _ _ => rfl)) ee_int) (eg_subL (ee_var 0 (pv 0)) ee_int (pg_sub (ee_var 0 (pv 0)) ee_int set_list))) (es_cons (es_set (ps_set (i := 2) S.nd rfl (Or.inl rfl) (ee_op op_mod l_mod (ee_callTy call_int1 l_int (by rfl) T.int (by decide +kernel) (ea_cons (ee_op op_addA l_add (ee_ix (ee_var 0 (pv 0)) ee_int (fun _ _ => rfl)) (ee_op op_mul l_mul ee_int (ee_ix (ee_var 0 (pv 0)) ee_int (fun _ _ => rfl)))) ea_nil)) ee_int))) (es_cons (es_asg (ee_op op_mod l_mod (ee_callTy call_int1 l_int (by rfl) T.int (by decide +kernel) (ea_cons (ee_op op_addA l_add (ee_op op_mul l_mul (ee_var 2 (pv 2)) (ee_op op_addA l_add (ee_op op_mod l_mod (ee_callTy call_int1 l_int (by rfl) T.int (by decide +kernel) (ea_cons (ee_var 2 (pv 2)) ea_nil)) ee_int) ee_int)) (ee_op op_mul l_mul ee_int (ee_ix (ee_var 0 (pv 0)) ee_int (fun _ _ => rfl)))) ea_nil)) ee_int) (eg_subL (ee_var 0 (pv 0)) ee_int (pg_sub (ee_var 0 (pv 0)) ee_int set_list))) (es_one (es_ret (ee_op op_mod l_mod (ee_callTy call_int1 l_int (by rfl) T.int (by decide +kernel) (ea_cons (ee_op op_fdivW l_fdiv (ee_ix (ee_var 0 (pv 0)) ee_int (fun _ _ => rfl)) ee_int) ea_nil)) (ee_var 1 (pv 1)))))))))
theorem c__law_draw {f : Addr} {fd : FuncData} (hm : mg "_law_draw" = some (.ref f)) (F : FunD K "_law_draw" "_law_draw" (defArgs s__law_draw) (defBody s__law_draw) (defScope s__law_draw) [] [] f fd) (T : Txt K w mg) : Cal P w K mg base 1 "_law_draw" p__law_draw (spM K m__law_draw) :=
  cal_of hm F (fun _ _ _ _ _ _ us hl => match us, hl with | [_, _], _ => rfl) (fun _ _ _ _ _ _ us hl => match us, hl with | [_, _], _ => rfl) (fn_def F sc__law_draw fun cdv A outer s H E hr => e__law_draw T  cdv A outer s H E hr)
abbrev N__law_pick : List Str := ["_law_well_here", "_law_some"]
abbrev p__law_pick : List Str := ["_law_well_here", "_law_some"]
theorem sc__law_pick : FnScope N__law_pick p__law_pick (defScope s__law_pick) := ⟨rfl, rfl, rfl, by decide +kernel, rfl, by decide +kernel, by decide +kernel⟩
def b__law_pick : Es := (sRet (eOp gIx (eVar 1) (eArgs m__law_draw (aCons (eVar 0) (aCons (eArgs gLen (aCons (eVar 1) aNil)) aNil)))))
def m__law_pick : Fn := mkDef 2 2 b__law_pick
set_option maxHeartbeats 4000000 in
theorem e__law_pick {f : Addr} (T : Txt K w mg) (C__law_draw : Cal P w K mg base 1 "_law_draw" p__law_draw (spM K m__law_draw)) (cdv : Value) (A : Around) (outer : List PySem.Env) (s : Shared) (H : Hp) (E : XK) (hr : Room 1 (A.deeper (envOfC "_law_pick" (defScope s__law_pick) s.heap.objs.size f cdv))) :
    ESs (cxOf CX0 P w K mg base N__law_pick "_law_pick" (defScope s__law_pick) f cdv A outer s H E).nox (defBody s__law_pick) b__law_pick :=
  have S := sc__law_pick
  (es_one (es_ret (ee_ix (ee_var 1 (pv 1)) (ee_callC C__law_draw hr (by first | decide | omega) (by rfl) (ea_cons (ee_var 0 (pv 0)) (ea_cons (ee_callB call_lenA l_len (by rfl) T.len (by decide +kernel) (ea_cons (ee_var 1 (pv 1)) ea_nil)) ea_nil))) (fun _ _ => rfl))))
theorem c__law_pick {f : Addr} {fd : FuncData} (hm : mg "_law_pick" = some (.ref f)) (F : FunD K "_law_pick" "_law_pick" (defArgs s__law_pick) (defBody s__law_pick) (defScope s__law_pick) [] [] f fd) (T : Txt K w mg) (C__law_draw : Cal P w K mg base 1 "_law_draw" p__law_draw (spM K m__law_draw)) : Cal P w K mg base 2 "_law_pick" p__law_pick (spM K m__law_pick) :=
  cal_of hm F (fun _ _ _ _ _ _ us hl => match us, hl with | [_, _], _ => rfl) (fun _ _ _ _ _ _ us hl => match us, hl with | [_, _], _ => rfl) (fn_def F sc__law_pick fun cdv A outer s H E hr => e__law_pick T C__law_draw cdv A outer s H E hr)
abbrev N__law_odd : List Str := ["_law_well_here", "_law_branch", "_law_some"]
abbrev p__law_odd : List Str := ["_law_well_here"]
theorem sc__law_odd : FnScope N__law_odd p__law_odd (defScope s__law_odd) := ⟨rfl, rfl, rfl, by decide +kernel, rfl, by decide +kernel, by decide +kernel⟩
def b__law_odd : Es := (sSeq (sSet 1 (eArgs m__law_draw (aCons (eVar 0) (aCons (eC (.int 4)) aNil)))) (sSeq (sIf (tV (eOp gEq (eVar 1) (eC (.int 0)))) (sSeq (sSet 2 (eArgs gTupP (aCons (eC .non) (aCons (eC (.bl true)) (aCons (eC (.bl false)) (aCons (eC (.int 0)) (aCons (eC (.int 1)) (aCons (eUn gNeg (eC (.int 1))) (aCons (eC (.int 7)) (aCons (eOp gPow (eC (.int 10)) (eC (.int 12))) (aCons (eC (.str "")) (aCons (eC (.str "fn")) (aCons (eC (.str "number")) (aCons (eC (.str "at")) (aCons (eC (.str "x")) (aCons (eC (.str "test")) (aCons (eArgs gTupP aNil) (aCons (eArgs gTupP (aCons (eC (.int 0)) aNil)) (aCons (eArgs gLstP aNil) (aCons (fun _ S => .ok (.dic [] []) S) aNil)))))))))))))))))))) (sRet (eArgs m__law_pick (aCons (eVar 0) (aCons (eVar 2) aNil))))) sNil) (sSeq (sIf (tV (eOp gEq (eVar 1) (eC (.int 1)))) (sRet (eArgs m__law_pick (aCons (eVar 0) (aCons (eArgs gTupP (aCons (eArgs gTupP (aCons (eC (.str "number")) aNil)) (aCons (eArgs gTupP (aCons (eC (.str "number")) (aCons (eC (.int 5)) aNil))) (aCons (eArgs gTupP (aCons (eC (.str "number")) (aCons (eC (.bl true)) aNil))) (aCons (eArgs gTupP (aCons (eC (.str "number")) (aCons (eOp gPow (eC (.int 10)) (eC (.int 9))) aNil))) (aCons (eArgs gTupP (aCons (eC (.str "name")) (aCons (eUn gNeg (eC (.int 1))) aNil))) (aCons (eArgs gTupP (aCons (eC (.str "number")) (aCons (eOp gSub (eC (.int 1)) (eOp gPow (eC (.int 10)) (eC (.int 9)))) aNil))) (aCons (eArgs gTupP (aCons (eC (.str "number")) (aCons (eUn gNeg (eOp gPow (eC (.int 10)) (eC (.int 9)))) aNil))) (aCons (eArgs gTupP (aCons (eC (.str "name")) (aCons (eC (.int 0)) aNil))) (aCons (eArgs gTupP (aCons (eC (.str "at")) (aCons (eC (.str "0")) aNil))) (aCons (eArgs gTupP (aCons (eC (.str "at")) (aCons (eC (.int 0)) aNil))) (aCons (eArgs gTupP (aCons (eC (.str "number")) (aCons (eC (.int 2)) (aCons (eC (.int 2)) aNil)))) (aCons (eArgs gTupP (aCons (eC (.str "hole")) (aCons (eC (.int 99)) aNil))) (aCons (eArgs gTupP (aCons (eC (.str "hole")) (aCons (eC (.int 100)) aNil))) (aCons (eArgs gTupP (aCons (eC (.str "hole")) (aCons (eC (.int 0)) (aCons (eC (.int 0)) (aCons (eC (.int 1)) aNil))))) (aCons (eArgs gTupP (aCons (eC (.str "hole")) (aCons (eC (.int 0)) (aCons (eUn gNeg (eC (.int 1))) aNil)))) aNil)))))))))))))))) aNil)))) sNil) (sSeq (sIf (tV (eOp gEq (eVar 1) (eC (.int 2)))) (sRet (eArgs m__law_pick (aCons (eVar 0) (aCons (eArgs gTupP (aCons (eArgs gTupP (aCons (eC (.str "fn")) (aCons (eArgs gTupP (aCons (eC (.str "name")) (aCons (eC (.int 0)) aNil))) aNil))) (aCons (eArgs gTupP (aCons (eC (.str "fn")) aNil)) (aCons (eArgs gTupP (aCons (eC (.str "call")) (aCons (eArgs gTupP (aCons (eC (.str "number")) (aCons (eC (.int 1)) aNil))) aNil))) (aCons (eArgs gTupP (aCons (eC (.str "form")) (aCons (eArgs gTupP (aCons (eC (.str "number")) (aCons (eC (.int 1)) aNil))) aNil))) (aCons (eArgs gTupP (aCons (eC (.str "boxes")) (aCons (eArgs gTupP (aCons (eC (.str "number")) (aCons (eC (.int 1)) aNil))) aNil))) (aCons (eArgs gLstP (aCons (eC (.str "number")) (aCons (eC (.int 1)) aNil))) (aCons (eArgs gTupP (aCons (eC (.str "fn")) (aCons (eArgs gLstP (aCons (eC (.str "name")) (aCons (eC (.int 0)) aNil))) aNil))) (aCons (eArgs gTupP (aCons (eC (.str "say")) (aCons (eArgs gTupP (aCons (eC (.str "name")) (aCons (eC (.int 1)) aNil))) aNil))) aNil))))))))) aNil)))) sNil) (sRet (eArgs m__law_pick (aCons (eVar 0) (aCons (eArgs gTupP (aCons (eArgs gTupP (aCons (eArgs gTupP aNil) (aCons (eArgs gTupP (aCons (eC (.str "number")) (aCons (eC (.int 1)) aNil))) aNil))) (aCons (eArgs gTupP (aCons (eArgs gTupP (aCons (eArgs gTupP (aCons (eC (.str "number")) (aCons (eC (.int 2)) aNil))) aNil)) (aCons (eArgs gTupP (aCons (eC (.str "at")) (aCons (eC (.int 0)) aNil))) aNil))) (aCons (eArgs gTupP (aCons (eArgs gTupP (aCons (eArgs gTupP (aCons (eC (.str "number")) (aCons (eC (.int 2)) aNil))) aNil)) (aCons (eArgs gTupP (aCons (eC (.str "at")) (aCons (eC (.int 1)) aNil))) aNil))) (aCons (eArgs gTupP (aCons (eArgs gTupP (aCons (eArgs gTupP (aCons (eC (.str "name")) (aCons (eC (.int 0)) aNil))) aNil)) (aCons (eArgs gTupP (aCons (eC (.str "number")) (aCons (eC (.int 1)) aNil))) aNil))) (aCons (eArgs gTupP (aCons (eArgs gLstP aNil) (aCons (eArgs gTupP (aCons (eC (.str "number")) (aCons (eC (.int 1)) aNil))) aNil))) (aCons (eArgs gTupP (aCons (eArgs gTupP (aCons (eC (.str "number")) (aCons (eC (.int 1)) aNil))) (aCons (eArgs gTupP (aCons (eC (.str "number")) (aCons (eC (.int 1)) aNil))) aNil))) (aCons (eArgs gTupP (aCons (eArgs gTupP aNil) (aCons (eArgs gTupP (aCons (eC (.str "fn")) (aCons (eArgs gTupP (aCons (eC (.str "name")) (aCons (eC (.int 0)) aNil))) aNil))) (aCons (eArgs gTupP aNil) aNil)))) (aCons (eArgs gTupP (aCons (eArgs gTupP aNil) (aCons (eArgs gTupP (aCons (eC (.str "say")) (aCons (eArgs gTupP (aCons (eC (.str "hole")) (aCons (eC (.int 0)) aNil))) aNil))) aNil))) aNil))))))))) aNil))))))))
def m__law_odd : Fn := mkDef 1 3 b__law_odd
set_option maxHeartbeats 4000000 in
theorem e__law_odd {f : Addr} (T : Txt K w mg) (C__law_draw : Cal P w K mg base 1 "_law_draw" p__law_draw (spM K m__law_draw)) (C__law_pick : Cal P w K mg base 2 "_law_pick" p__law_pick (spM K m__law_pick)) (cdv : Value) (A : Around) (outer : List PySem.Env) (s : Shared) (H : Hp) (E : XK) (hr : Room 2 (A.deeper (envOfC "_law_odd" (defScope s__law_odd) s.heap.objs.size f cdv))) :
    ESs (cxOf CX0 P w K mg base N__law_odd "_law_odd" (defScope s__law_odd) f cdv A outer s H E).nox (defBody s__law_odd) b__law_odd :=
  have S := sc__law_odd
  (es_cons (es_set (ps_set (i := 1) S.nd rfl (Or.inl rfl) (ee_callC C__law_draw hr (by first | decide | omega) (by rfl) (ea_cons (ee_var 0 (pv 0)) (ea_cons ee_int ea_nil))))) (es_cons (es_if (et_cmp (op_eqA (hu64 hr)) l_eq (ee_var 1 (pv 1)) ee_int (nomark _)) (es_cons (es_set (ps_set (i := 2) S.nd rfl (Or.inl rfl) (ee_tup (ea_cons ee_non (ea_cons ee_bl (ea_cons ee_bl (ea_cons ee_int (ea_cons ee_int (ea_cons (ee_un un_neg l_neg ee_int) (ea_cons ee_int (ea_cons (ee_op op_pow l_pow ee_int ee_int) (ea_cons ee_str (ea_cons ee_str (ea_cons ee_str (ea_cons ee_str (ea_cons ee_str (ea_cons ee_str (ea_cons (ee_tup ea_nil) (ea_cons (ee_tup (ea_cons ee_int ea_nil)) (ea_cons (ee_pure (ef_lst ea_nil)) (ea_cons (ee_pure ef_dnew) ea_nil))))))))))))))))))))) (es_one (es_ret (ee_callC C__law_pick hr (by first | decide | omega) (by rfl) (ea_cons (ee_var 0 (pv 0)) (ea_cons (ee_var 2 (pv 2)) ea_nil)))))) es_nil) (es_cons (es_if (et_cmp (op_eqA (hu64 hr)) l_eq (ee_var 1 (pv 1)) ee_int (nomark _)) (es_one (es_ret (ee_callC C__law_pick hr (by first | decide | omega) (by rfl) (ea_cons (ee_var 0 (pv 0)) (ea_cons (ee_tup (ea_cons (ee_tup (ea_cons ee_str ea_nil)) (ea_cons (ee_tup (ea_cons ee_str (ea_cons ee_int ea_nil))) (ea_cons (ee_tup (ea_cons ee_str (ea_cons ee_bl ea_nil))) (ea_cons (ee_tup (ea_cons ee_str (ea_cons (ee_op op_pow l_pow ee_int ee_int) ea_nil))) (ea_cons (ee_tup (ea_cons ee_str (ea_cons (ee_un un_neg l_neg ee_int) ea_nil))) (ea_cons (ee_tup (ea_cons ee_str (ea_cons (ee_op op_sub l_sub ee_int (ee_op op_pow l_pow ee_int ee_int)) ea_nil))) (ea_cons (ee_tup (ea_cons ee_str (ea_cons (ee_un un_neg l_neg (ee_op op_pow l_pow ee_int ee_int)) ea_nil))) (ea_cons (ee_tup (ea_cons ee_str (ea_cons ee_int ea_nil))) (ea_cons (ee_tup (ea_cons ee_str (ea_cons ee_str ea_nil))) (ea_cons (ee_tup (ea_cons ee_str (ea_cons ee_int ea_nil))) (ea_cons (ee_tup (ea_cons ee_str (ea_cons ee_int (ea_cons ee_int ea_nil)))) (ea_cons (ee_tup (ea_cons ee_str (ea_cons ee_int ea_nil))) (ea_cons (ee_tup (ea_cons ee_str (ea_cons ee_int ea_nil))) (ea_cons (ee_tup (ea_cons ee_str (ea_cons ee_int (ea_cons ee_int (ea_cons ee_int ea_nil))))) (ea_cons (ee_tup (ea_cons ee_str (ea_cons ee_int (ea_cons (ee_un un_neg l_neg ee_int) ea_nil)))) ea_nil)))))))))))))))) ea_nil))))) es_nil) (es_cons (es_if (et_cmp (op_eqA (hu64 hr)) l_eq (ee_var 1 (pv 1)) ee_int (nomark _)) (es_one (es_ret (ee_callC C__law_pick hr (by first | decide | omega) (by rfl) (ea_cons (ee_var 0 (pv 0)) (ea_cons (ee_tup (ea_cons (ee_tup (ea_cons ee_str (ea_cons (ee_tup (ea_cons ee_str (ea_cons ee_int ea_nil))) ea_nil))) (ea_cons (ee_tup (ea_cons ee_str ea_nil)) (ea_cons (ee_tup (ea_cons ee_str (ea_cons (ee_tup (ea_cons ee_str (ea_cons ee_int ea_nil))) ea_nil))) (ea_cons (ee_tup (ea_cons ee_str (ea_cons (ee_tup (ea_cons ee_str (ea_cons ee_int ea_nil))) ea_nil))) (ea_cons (ee_tup (ea_cons ee_str (ea_cons (ee_tup (ea_cons ee_str (ea_cons ee_int ea_nil))) ea_nil))) (ea_cons (ee_pure (ef_lst (ea_cons ee_str (ea_cons ee_int ea_nil)))) (ea_cons (ee_tup (ea_cons ee_str (ea_cons (ee_pure (ef_lst (ea_cons ee_str (ea_cons ee_int ea_nil)))) ea_nil))) (ea_cons (ee_tup (ea_cons ee_str (ea_cons (ee_tup (ea_cons ee_str (ea_cons ee_int ea_nil))) ea_nil))) ea_nil))))))))) ea_nil))))) es_nil) (es_one (es_ret (ee_callC C__law_pick hr (by first | decide | omega) (by rfl) (ea_cons (ee_var 0 (pv 0)) (ea_cons (ee_tup (ea_cons (ee_tup (ea_cons (ee_tup ea_nil) (ea_cons (ee_tup (ea_cons ee_str (ea_cons ee_int ea_nil))) ea_nil))) (ea_cons (ee_tup (ea_cons (ee_tup (ea_cons (ee_tup (ea_cons ee_str (ea_cons ee_int ea_nil))) ea_nil)) (ea_cons (ee_tup (ea_cons ee_str (ea_cons ee_int ea_nil))) ea_nil))) (ea_cons (ee_tup (ea_cons (ee_tup (ea_cons (ee_tup (ea_cons ee_str (ea_cons ee_int ea_nil))) ea_nil)) (ea_cons (ee_tup (ea_cons ee_str (ea_cons ee_int ea_nil))) ea_nil))) (ea_cons (ee_tup (ea_cons (ee_tup (ea_cons (ee_tup (ea_cons ee_str (ea_cons ee_int ea_nil))) ea_nil)) (ea_cons (ee_tup (ea_cons ee_str (ea_cons ee_int ea_nil))) ea_nil))) (ea_cons (ee_tup (ea_cons (ee_pure (ef_lst ea_nil)) (ea_cons (ee_tup (ea_cons ee_str (ea_cons ee_int ea_nil))) ea_nil))) (ea_cons (ee_tup (ea_cons (ee_tup (ea_cons ee_str (ea_cons ee_int ea_nil))) (ea_cons (ee_tup (ea_cons ee_str (ea_cons ee_int ea_nil))) ea_nil))) (ea_cons (ee_tup (ea_cons (ee_tup ea_nil) (ea_cons (ee_tup (ea_cons ee_str (ea_cons (ee_tup (ea_cons ee_str (ea_cons ee_int ea_nil))) ea_nil))) (ea_cons (ee_tup ea_nil) ea_nil)))) (ea_cons (ee_tup (ea_cons (ee_tup ea_nil) (ea_cons (ee_tup (ea_cons ee_str (ea_cons (ee_tup (ea_cons ee_str (ea_cons ee_int ea_nil))) ea_nil))) ea_nil))) ea_nil))))))))) ea_nil)))))))))
theorem c__law_odd {f : Addr} {fd : FuncData} (hm : mg "_law_odd" = some (.ref f)) (F : FunD K "_law_odd" "_law_odd" (defArgs s__law_odd) (defBody s__law_odd) (defScope s__law_odd) [] [] f fd) (T : Txt K w mg) (C__law_draw : Cal P w K mg base 1 "_law_draw" p__law_draw (spM K m__law_draw)) (C__law_pick : Cal P w K mg base 2 "_law_pick" p__law_pick (spM K m__law_pick)) : Cal P w K mg base 3 "_law_odd" p__law_odd (spM K m__law_odd) :=
  cal_of hm F (fun _ _ _ _ _ _ us hl => match us, hl with | [_], _ => rfl) (fun _ _ _ _ _ _ us hl => match us, hl with | [_], _ => rfl) (fn_def F sc__law_odd fun cdv A outer s H E hr => e__law_odd T C__law_draw C__law_pick cdv A outer s H E hr)
abbrev N__law_is_whole : List Str := ["_law_thing"]
abbrev p__law_is_whole : List Str := ["_law_thing"]
theorem sc__law_is_whole : FnScope N__law_is_whole p__law_is_whole (defScope s__law_is_whole) := ⟨rfl, rfl, rfl, by decide +kernel, rfl, by decide +kernel, by decide +kernel⟩
def b__law_is_whole : Es := (sRet (eAndV (eUn (gIsi .int) (eVar 0)) (eNotT (eUn (gIsi .bool) (eVar 0)))))
def m__law_is_whole : Fn := mkDef 1 1 b__law_is_whole
set_option maxHeartbeats 4000000 in
theorem e__law_is_whole {f : Addr} (T : Txt K w mg) (cdv : Value) (A : Around) (outer : List PySem.Env) (s : Shared) (H : Hp) (E : XK) (hr : Room 0 (A.deeper (envOfC "_law_is_whole" (defScope s__law_is_whole) s.heap.objs.size f cdv))) :
    ESs (cxOf CX0 P w K mg base N__law_is_whole "_law_is_whole" (defScope s__law_is_whole) f cdv A outer s H E).nox (defBody s__law_is_whole) b__law_is_whole :=
  have S := sc__law_is_whole
  (es_one (es_ret (ee_and (ee_isi .int (by rfl) T.isinstance (ee_var 0 (pv 0)) (pe_bltn (v := .ty "int") (by rfl) T.int (by decide +kernel) rfl)) (ee_one (ee_notT (ee_isi .bool (by rfl) T.isinstance (ee_var 0 (pv 0)) (pe_bltn (v := .ty "bool") (by rfl) T.bool (by decide +kernel) rfl)))))))
theorem c__law_is_whole {f : Addr} {fd : FuncData} (hm : mg "_law_is_whole" = some (.ref f)) (F : FunD K "_law_is_whole" "_law_is_whole" (defArgs s__law_is_whole) (defBody s__law_is_whole) (defScope s__law_is_whole) [] [] f fd) (T : Txt K w mg) : Cal P w K mg base 1 "_law_is_whole" p__law_is_whole (spM K m__law_is_whole) :=
  cal_of hm F (fun _ _ _ _ _ _ us hl => match us, hl with | [_], _ => rfl) (fun _ _ _ _ _ _ us hl => match us, hl with | [_], _ => rfl) (fn_def F sc__law_is_whole fun cdv A outer s H E hr => e__law_is_whole T  cdv A outer s H E hr)
abbrev N__law_bent : List Str := ["_law_well_here", "_law_thing", "_law_branch", "_law_spot", "_law_word"]
abbrev p__law_bent : List Str := ["_law_well_here", "_law_thing"]
theorem sc__law_bent : FnScope N__law_bent p__law_bent (defScope s__law_bent) := ⟨rfl, rfl, rfl, by decide +kernel, rfl, by decide +kernel, by decide +kernel⟩
def b__law_bent (m_self : Fn) : Es := (sSeq (sIf (tAndE (tT (eUn (gIsi .tuple) (eVar 1))) (tAndE (tV (eOp gNeO (eVar 1) (eArgs gTupP aNil))) (tV (eOp gGt (eArgs m__law_draw (aCons (eVar 0) (aCons (eC (.int 5)) aNil))) (eC (.int 0)))))) (sSeq (sSet 3 (eArgs m__law_draw (aCons (eVar 0) (aCons (eArgs gLen (aCons (eVar 1) aNil)) aNil)))) (sRet (eOp gAdd (eOp gAdd (eSl (eVar 1) oNone (oSome (eVar 3))) (eArgs gTupP (aCons (eArgs m_self (aCons (eVar 0) (aCons (eOp gIx (eVar 1) (eVar 3)) aNil))) aNil))) (eSl (eVar 1) (oSome (eOp gAdd (eVar 3) (eC (.int 1)))) oNone)))) sNil) (sSeq (sSet 2 (eArgs m__law_draw (aCons (eVar 0) (aCons (eC (.int 9)) aNil)))) (sSeq (sIf (tAndE (tT (eUn (gIsi .tuple) (eVar 1))) (tV (eOp gLt (eVar 2) (eC (.int 6))))) (sRet (eOp gIx (eArgs gTupP (aCons (eArgs gLstOf (aCons (eVar 1) aNil)) (aCons (eSl (eVar 1) oNone (oSome (eUn gNeg (eC (.int 1))))) (aCons (eOp gAdd (eVar 1) (eSl (eVar 1) (oSome (eUn gNeg (eC (.int 1)))) oNone)) (aCons (eUn gRevT (eVar 1)) (aCons (eSl (eVar 1) (oSome (eC (.int 1))) oNone) (aCons (eOp gAdd (eSl (eVar 1) oNone (oSome (eC (.int 1)))) (eVar 1)) aNil))))))) (eVar 2))) sNil) (sSeq (sIf (tAndE (tT (eUn (gIsi .str) (eVar 1))) (tV (eOp gLt (eVar 2) (eC (.int 6))))) (sSeq (sSet 4 (eArgs m__law_pick (aCons (eVar 0) (aCons (eArgs gTupP (aCons (eC (.str "fn")) (aCons (eC (.str "pair")) (aCons (eC (.str "test")) (aCons (eC (.str "again")) (aCons (eC (.str "name")) (aCons (eC (.str "at")) (aCons (eC (.str "hole")) (aCons (eC (.str "put")) (aCons (eC (.str "call")) (aCons (eC (.str "say")) aNil))))))))))) aNil)))) (sRet (eOp gIx (eArgs gTupP (aCons (eOp gAdd (eVar 1) (eC (.str "a"))) (aCons (eSl (eVar 1) oNone (oSome (eUn gNeg (eC (.int 1))))) (aCons (eOp gAdd (eSl (eVar 1) oNone (oSome (eC (.int 3)))) (eC (.str "z"))) (aCons (eOp gAdd (eVar 1) (eC (.str "1"))) (aCons (eVar 4) (aCons (eOp gEqO (eVar 1) (eC (.str "at"))) aNil))))))) (eVar 2)))) sNil) (sSeq (sIf (tAndE (tT (eArgs m__law_is_whole (aCons (eVar 1) aNil))) (tV (eOp gLt (eVar 2) (eC (.int 6))))) (sRet (eOp gIx (eArgs gTupP (aCons (eOp gAdd (eVar 1) (eC (.int 1))) (aCons (eOp gSub (eVar 1) (eC (.int 1))) (aCons (eOp gSub (eC (.int 0)) (eVar 1)) (aCons (eOp gMul (eVar 1) (eC (.int 1000000007))) (aCons (eOp gEqO (eVar 1) (eC (.int 1))) (aCons (eArgs gStrI (aCons (eVar 1) aNil)) aNil))))))) (eVar 2))) sNil) (sRet (eArgs m__law_odd (aCons (eVar 0) aNil))))))))
def m__law_bent : Nat → Fn
  | 0 => fun _ _ => .no
  | n + 1 => mkDef 2 5 (b__law_bent (m__law_bent n))
set_option maxHeartbeats 4000000 in
theorem e__law_bent {f : Addr} (T : Txt K w mg) (C__law_draw : Cal P w K mg base 1 "_law_draw" p__law_draw (spM K m__law_draw)) (C__law_is_whole : Cal P w K mg base 1 "_law_is_whole" p__law_is_whole (spM K m__law_is_whole)) (C__law_odd : Cal P w K mg base 3 "_law_odd" p__law_odd (spM K m__law_odd)) (C__law_pick : Cal P w K mg base 2 "_law_pick" p__law_pick (spM K m__law_pick)) {n : Nat} (C__law_bent : Cal P w K mg base (3 + n) "_law_bent" p__law_bent (spM K (m__law_bent n))) (cdv : Value) (A : Around) (outer : List PySem.Env) (s : Shared) (H : Hp) (E : XK) (hr : Room (3 + n) (A.deeper (envOfC "_law_bent" (defScope s__law_bent) s.heap.objs.size f cdv))) :
    ESs (cxOf CX0 P w K mg base N__law_bent "_law_bent" (defScope s__law_bent) f cdv A outer s H E).nox (defBody s__law_bent) (b__law_bent (m__law_bent n)) :=
  have S := sc__law_bent
  (es_cons (es_if (et_w (ew_and (et_truth (ee_isi .tuple (by rfl) T.isinstance (ee_var 1 (pv 1)) (pe_bltn (v := .ty "tuple") (by rfl) T.tuple (by decide +kernel) rfl))) (ew_and (et_cmp (op_neO (hu64 hr)) l_neO (ee_var 1 (pv 1)) (ee_tup ea_nil) (nomark _)) (ew_and1 (et_cmp (op_gt) l_gt (ee_callC C__law_draw hr (by first | decide | omega) (by rfl) (ea_cons (ee_var 0 (pv 0)) (ea_cons ee_int ea_nil))) ee_int (nomark _)))))) (es_cons (es_set (ps_set (i := 3) S.nd rfl (Or.inl rfl) (ee_callC C__law_draw hr (by first | decide | omega) (by rfl) (ea_cons (ee_var 0 (pv 0)) (ea_cons (ee_callB call_lenA l_len (by rfl) T.len (by decide +kernel) (ea_cons (ee_var 1 (pv 1)) ea_nil)) ea_nil))))) (es_one (es_ret (ee_op op_addA l_add (ee_op op_addA l_add (ee_sl (ee_var 1 (pv 1)) eo_none (eo_some (ee_var 3 (pv 3)))) (ee_tup (ea_cons (ee_callC C__law_bent hr (by first | decide | omega) (by rfl) (ea_cons (ee_var 0 (pv 0)) (ea_cons (ee_ix (ee_var 1 (pv 1)) (ee_var 3 (pv 3)) (fun _ _ => rfl)) ea_nil))) ea_nil))) (ee_sl (ee_var 1 (pv 1)) (eo_some (ee_op op_addA l_add (ee_var 3 (pv 3)) ee_int)) eo_none))))) es_nil) (es_cons (es_set (ps_set (i := 2) S.nd rfl (Or.inl rfl) (ee_callC C__law_draw hr (by first | decide | omega) (by rfl) (ea_cons (ee_var 0 (pv 0)) (ea_cons ee_int ea_nil))))) (es_cons (es_if (et_w (ew_and (et_truth (ee_isi .tuple (by rfl) T.isinstance (ee_var 1 (pv 1)) (pe_bltn (v := .ty "tuple") (by rfl) T.tuple (by decide +kernel) rfl))) (ew_and1 (et_cmp (op_lt) l_lt (ee_var 2 (pv 2)) ee_int (nomark _))))) (es_one (es_ret (ee_ix (ee_tup (ea_cons (ee_pure (ef_callTy call_list_of l_lstOf (by rfl) T.list (by decide +kernel) (ea_cons (ee_var 1 (pv 1)) ea_nil))) (ea_cons (ee_sl (ee_var 1 (pv 1)) eo_none (eo_some (ee_un un_neg l_neg ee_int))) (ea_cons (ee_op op_addA l_add (ee_var 1 (pv 1)) (ee_sl (ee_var 1 (pv 1)) (eo_some (ee_un un_neg l_neg ee_int)) eo_none)) (ea_cons (ee_revT (ee_var 1 (pv 1))) (ea_cons (ee_sl (ee_var 1 (pv 1)) (eo_some ee_int) eo_none) (ea_cons (ee_op op_addA l_add (ee_sl (ee_var 1 (pv 1)) eo_none (eo_some ee_int)) (ee_var 1 (pv 1))) ea_nil))))))) (ee_var 2 (pv 2)) (fun _ _ => rfl)))) es_nil) (es_cons (es_if (et_w (ew_and (et_truth (ee_isi .str (by rfl) T.isinstance (ee_var 1 (pv 1)) (pe_bltn (v := .ty "str") (by rfl) T.str (by decide +kernel) rfl))) (ew_and1 (et_cmp (op_lt) l_lt (ee_var 2 (pv 2)) ee_int (nomark _))))) (es_cons (es_set (ps_set (i := 4) S.nd rfl (Or.inl rfl) (ee_callC C__law_pick hr (by first | decide | omega) (by rfl) (ea_cons (ee_var 0 (pv 0)) (ea_cons (ee_tup (ea_cons ee_str (ea_cons ee_str (ea_cons ee_str (ea_cons ee_str (ea_cons ee_str (ea_cons ee_str (ea_cons ee_str (ea_cons ee_str (ea_cons ee_str (ea_cons ee_str ea_nil))))))))))) ea_nil))))) (es_one (es_ret (ee_ix (ee_tup (ea_cons (ee_op op_addA l_add (ee_var 1 (pv 1)) ee_str) (ea_cons (ee_sl (ee_var 1 (pv 1)) eo_none (eo_some (ee_un un_neg l_neg ee_int))) (ea_cons (ee_op op_addA l_add (ee_sl (ee_var 1 (pv 1)) eo_none (eo_some ee_int)) ee_str) (ea_cons (ee_op op_addA l_add (ee_var 1 (pv 1)) ee_str) (ea_cons (ee_var 4 (pv 4)) (ea_cons (ee_cmp (op_eqO (hu64 hr)) l_eqO (ee_var 1 (pv 1)) ee_str (nomark _)) ea_nil))))))) (ee_var 2 (pv 2)) (fun _ _ => rfl))))) es_nil) (es_cons (es_if (et_w (ew_and (et_truth (ee_callC C__law_is_whole hr (by first | decide | omega) (by rfl) (ea_cons (ee_var 1 (pv 1)) ea_nil))) (ew_and1 (et_cmp (op_lt) l_lt (ee_var 2 (pv 2)) ee_int (nomark _))))) (es_one (es_ret (ee_ix (ee_tup (ea_cons (ee_op op_addA l_add (ee_var 1 (pv 1)) ee_int) (ea_cons (ee_op op_sub l_sub (ee_var 1 (pv 1)) ee_int) (ea_cons (ee_op op_sub l_sub ee_int (ee_var 1 (pv 1))) (ea_cons (ee_op op_mul l_mul (ee_var 1 (pv 1)) ee_int) (ea_cons (ee_cmp (op_eqO (hu64 hr)) l_eqO (ee_var 1 (pv 1)) ee_int (nomark _)) (ea_cons (ee_callTy call_str_int l_strI (by rfl) T.str (by decide +kernel) (ea_cons (ee_var 1 (pv 1)) ea_nil)) ea_nil))))))) (ee_var 2 (pv 2)) (fun _ _ => rfl)))) es_nil) (es_one (es_ret (ee_callC C__law_odd hr (by first | decide | omega) (by rfl) (ea_cons (ee_var 0 (pv 0)) ea_nil)))))))))
theorem c__law_bent {f : Addr} {fd : FuncData} (hm : mg "_law_bent" = some (.ref f)) (F : FunD K "_law_bent" "_law_bent" (defArgs s__law_bent) (defBody s__law_bent) (defScope s__law_bent) [] [] f fd) (T : Txt K w mg) (C__law_draw : Cal P w K mg base 1 "_law_draw" p__law_draw (spM K m__law_draw)) (C__law_is_whole : Cal P w K mg base 1 "_law_is_whole" p__law_is_whole (spM K m__law_is_whole)) (C__law_odd : Cal P w K mg base 3 "_law_odd" p__law_odd (spM K m__law_odd)) (C__law_pick : Cal P w K mg base 2 "_law_pick" p__law_pick (spM K m__law_pick)) : ∀ n : Nat, Cal P w K mg base (3 + n) "_law_bent" p__law_bent (spM K (m__law_bent n))
  | 0 => cal_of hm F (fun _ _ _ _ _ _ us hl => match us, hl with | [_, _], _ => rfl) (fun _ _ _ _ _ _ us hl => match us, hl with | [_, _], _ => rfl) (fn_zero trivial)
  | n + 1 => cal_of hm F (fun _ _ _ _ _ _ us hl => match us, hl with | [_, _], _ => rfl) (fun _ _ _ _ _ _ us hl => match us, hl with | [_, _], _ => rfl) (fn_def F sc__law_bent fun cdv A outer s H E hr => e__law_bent T C__law_draw C__law_is_whole C__law_odd C__law_pick (c__law_bent hm F T C__law_draw C__law_is_whole C__law_odd C__law_pick n) cdv A outer s H E hr)
abbrev N__law_names : List Str := ["_law_book", "_law_word", "_law_form"]
abbrev p__law_names : List Str := ["_law_book", "_law_word"]
theorem sc__law_names : FnScope N__law_names p__law_names (defScope s__law_names) := ⟨rfl, rfl, rfl, by decide +kernel, rfl, by decide +kernel, by decide +kernel⟩
def b__law_names : Es := (sSeq (sIf (tV (eOp gInO (eVar 1) (eArgs gTupP (aCons (eC (.str "call")) (aCons (eC (.str "pair")) (aCons (eC (.str "plus")) (aCons (eC (.str "minus")) (aCons (eC (.str "times")) (aCons (eC (.str "put")) aNil))))))))) (sRet (eArgs gTupP (aCons (eC (.int 0)) (aCons (eC (.int 0)) aNil)))) sNil) (sSeq (sIf (tV (eOp gInO (eVar 1) (eArgs gTupP (aCons (eC (.str "first")) (aCons (eC (.str "second")) (aCons (eC (.str "box")) (aCons (eC (.str "look")) (aCons (eC (.str "say")) aNil)))))))) (sRet (eArgs gTupP (aCons (eC (.int 0)) aNil))) sNil) (sSeq (sIf (tV (eOp gEqO (eVar 1) (eC (.str "fn")))) (sRet (eArgs gTupP (aCons (eC (.int 1)) aNil))) sNil) (sSeq (sIf (tV (eOp gEqO (eVar 1) (eC (.str "again")))) (sRet (eArgs gTupP (aCons (eC (.int 2)) aNil))) sNil) (sSeq (sIf (tV (eOp gEqO (eVar 1) (eC (.str "test")))) (sRet (eArgs gTupP (aCons (eC (.int 0)) (aCons (eC (.int 0)) (aCons (eC (.int 0)) aNil))))) sNil) (sSeq (sFor (iSeq (eVar 0)) (nName 2) (sIf (tV (eOp gEqO (eOp gIx (eVar 2) (eC (.int 0))) (eVar 1))) (sRet (eOp gIx (eVar 2) (eC (.int 1)))) sNil)) (sRet (eC .non))))))))
def m__law_names : Fn := mkDef 2 3 b__law_names
set_option maxHeartbeats 4000000 in
theorem e__law_names {f : Addr} (T : Txt K w mg) (cdv : Value) (A : Around) (outer : List PySem.Env) (s : Shared) (H : Hp) (E : XK) (hr : Room 0 (A.deeper (envOfC "_law_names" (defScope s__law_names) s.heap.objs.size f cdv))) :
    ESs (cxOf CX0 P w K mg base N__law_names "_law_names" (defScope s__law_names) f cdv A outer s H E).nox (defBody s__law_names) b__law_names :=
  have S := sc__law_names
  (es_cons (es_if (et_cmp (op_inO (hu64 hr)) l_inO (ee_var 1 (pv 1)) (ee_tup (ea_cons ee_str (ea_cons ee_str (ea_cons ee_str (ea_cons ee_str (ea_cons ee_str (ea_cons ee_str ea_nil))))))) rfl) (es_one (es_ret (ee_tup (ea_cons ee_int (ea_cons ee_int ea_nil))))) es_nil) (es_cons (es_if (et_cmp (op_inO (hu64 hr)) l_inO (ee_var 1 (pv 1)) (ee_tup (ea_cons ee_str (ea_cons ee_str (ea_cons ee_str (ea_cons ee_str (ea_cons ee_str ea_nil)))))) rfl) (es_one (es_ret (ee_tup (ea_cons ee_int ea_nil)))) es_nil) (es_cons (es_if (et_cmp (op_eqO (hu64 hr)) l_eqO (ee_var 1 (pv 1)) ee_str (nomark _)) (es_one (es_ret (ee_tup (ea_cons ee_int ea_nil)))) es_nil) (es_cons (es_if (et_cmp (op_eqO (hu64 hr)) l_eqO (ee_var 1 (pv 1)) ee_str (nomark _)) (es_one (es_ret (ee_tup (ea_cons ee_int ea_nil)))) es_nil) (es_cons (es_if (et_cmp (op_eqO (hu64 hr)) l_eqO (ee_var 1 (pv 1)) ee_str (nomark _)) (es_one (es_ret (ee_tup (ea_cons ee_int (ea_cons ee_int (ea_cons ee_int ea_nil)))))) es_nil) (es_cons (es_for PassesOwn.never rfl (ei_seq (ee_var 0 (pv 0))) (eg_name (pg_name (i := 2) S.nd rfl (Or.inl rfl))) (es_one (es_if (et_cmp (op_eqO (hu64 hr)) l_eqO (ee_ix (ee_var 2 (pv 2)) ee_int (fun _ _ => rfl)) (ee_var 1 (pv 1)) (nomark _)) (es_one (es_ret (ee_ix (ee_var 2 (pv 2)) ee_int (fun _ _ => rfl)))) es_nil))) (es_one (es_ret ee_non))))))))
theorem c__law_names {f : Addr} {fd : FuncData} (hm : mg "_law_names" = some (.ref f)) (F : FunD K "_law_names" "_law_names" (defArgs s__law_names) (defBody s__law_names) (defScope s__law_names) [] [] f fd) (T : Txt K w mg) : Cal P w K mg base 1 "_law_names" p__law_names (spM K m__law_names) :=
  cal_of hm F (fun _ _ _ _ _ _ us hl => match us, hl with | [_, _], _ => rfl) (fun _ _ _ _ _ _ us hl => match us, hl with | [_, _], _ => rfl) (fn_def F sc__law_names fun cdv A outer s H E hr => e__law_names T  cdv A outer s H E hr)
abbrev N__law_number : List Str := ["_law_well_here", "_law_branch"]
abbrev p__law_number : List Str := ["_law_well_here"]
theorem sc__law_number : FnScope N__law_number p__law_number (defScope s__law_number) := ⟨rfl, rfl, rfl, by decide +kernel, rfl, by decide +kernel, by decide +kernel⟩
def b__law_number : Es := (sSeq (sSet 1 (eArgs m__law_draw (aCons (eVar 0) (aCons (eC (.int 24)) aNil)))) (sSeq (sIf (tV (eOp gEq (eVar 1) (eC (.int 23)))) (sRet (eArgs gTupP (aCons (eC (.str "number")) (aCons (eOp gSub (eC (.int 999999999)) (eArgs m__law_draw (aCons (eVar 0) (aCons (eC (.int 3)) aNil)))) aNil)))) sNil) (sSeq (sIf (tV (eOp gEq (eVar 1) (eC (.int 22)))) (sRet (eArgs gTupP (aCons (eC (.str "number")) (aCons (eOp gSub (eArgs m__law_draw (aCons (eVar 0) (aCons (eC (.int 3)) aNil))) (eC (.int 999999999))) aNil)))) sNil) (sSeq (sIf (tV (eOp gEq (eVar 1) (eC (.int 21)))) (sRet (eArgs gTupP (aCons (eC (.str "number")) (aCons (eOp gSub (eArgs m__law_draw (aCons (eVar 0) (aCons (eC (.int 1999999999)) aNil))) (eC (.int 999999999))) aNil)))) sNil) (sRet (eArgs gTupP (aCons (eC (.str "number")) (aCons (eOp gIx (eArgs gTupP (aCons (eC (.int 0)) (aCons (eC (.int 1)) (aCons (eC (.int 2)) (aCons (eC (.int 3)) (aCons (eC (.int 1)) (aCons (eUn gNeg (eC (.int 1))) (aCons (eC (.int 5)) (aCons (eC (.int 0)) (aCons (eUn gNeg (eC (.int 2))) (aCons (eC (.int 7)) aNil))))))))))) (eArgs m__law_draw (aCons (eVar 0) (aCons (eC (.int 10)) aNil)))) aNil))))))))
def m__law_number : Fn := mkDef 1 2 b__law_number
set_option maxHeartbeats 4000000 in
theorem e__law_number {f : Addr} (T : Txt K w mg) (C__law_draw : Cal P w K mg base 1 "_law_draw" p__law_draw (spM K m__law_draw)) (cdv : Value) (A : Around) (outer : List PySem.Env) (s : Shared) (H : Hp) (E : XK) (hr : Room 1 (A.deeper (envOfC "_law_number" (defScope s__law_number) s.heap.objs.size f cdv))) :
    ESs (cxOf CX0 P w K mg base N__law_number "_law_number" (defScope s__law_number) f cdv A outer s H E).nox (defBody s__law_number) b__law_number :=
  have S := sc__law_number
  (es_cons (es_set (ps_set (i := 1) S.nd rfl (Or.inl rfl) (ee_callC C__law_draw hr (by first | decide | omega) (by rfl) (ea_cons (ee_var 0 (pv 0)) (ea_cons ee_int ea_nil))))) (es_cons (es_if (et_cmp (op_eqA (hu64 hr)) l_eq (ee_var 1 (pv 1)) ee_int (nomark _)) (es_one (es_ret (ee_tup (ea_cons ee_str (ea_cons (ee_op op_sub l_sub ee_int (ee_callC C__law_draw hr (by first | decide | omega) (by rfl) (ea_cons (ee_var 0 (pv 0)) (ea_cons ee_int ea_nil)))) ea_nil))))) es_nil) (es_cons (es_if (et_cmp (op_eqA (hu64 hr)) l_eq (ee_var 1 (pv 1)) ee_int (nomark _)) (es_one (es_ret (ee_tup (ea_cons ee_str (ea_cons (ee_op op_sub l_sub (ee_callC C__law_draw hr (by first | decide | omega) (by rfl) (ea_cons (ee_var 0 (pv 0)) (ea_cons ee_int ea_nil))) ee_int) ea_nil))))) es_nil) (es_cons (es_if (et_cmp (op_eqA (hu64 hr)) l_eq (ee_var 1 (pv 1)) ee_int (nomark _)) (es_one (es_ret (ee_tup (ea_cons ee_str (ea_cons (ee_op op_sub l_sub (ee_callC C__law_draw hr (by first | decide | omega) (by rfl) (ea_cons (ee_var 0 (pv 0)) (ea_cons ee_int ea_nil))) ee_int) ea_nil))))) es_nil) (es_one (es_ret (ee_tup (ea_cons ee_str (ea_cons (ee_ix (ee_tup (ea_cons ee_int (ea_cons ee_int (ea_cons ee_int (ea_cons ee_int (ea_cons ee_int (ea_cons (ee_un un_neg l_neg ee_int) (ea_cons ee_int (ea_cons ee_int (ea_cons (ee_un un_neg l_neg ee_int) (ea_cons ee_int ea_nil))))))))))) (ee_callC C__law_draw hr (by first | decide | omega) (by rfl) (ea_cons (ee_var 0 (pv 0)) (ea_cons ee_int ea_nil))) (fun _ _ => rfl)) ea_nil)))))))))
theorem c__law_number {f : Addr} {fd : FuncData} (hm : mg "_law_number" = some (.ref f)) (F : FunD K "_law_number" "_law_number" (defArgs s__law_number) (defBody s__law_number) (defScope s__law_number) [] [] f fd) (T : Txt K w mg) (C__law_draw : Cal P w K mg base 1 "_law_draw" p__law_draw (spM K m__law_draw)) : Cal P w K mg base 2 "_law_number" p__law_number (spM K m__law_number) :=
  cal_of hm F (fun _ _ _ _ _ _ us hl => match us, hl with | [_], _ => rfl) (fun _ _ _ _ _ _ us hl => match us, hl with | [_], _ => rfl) (fn_def F sc__law_number fun cdv A outer s H E hr => e__law_number T C__law_draw cdv A outer s H E hr)
abbrev N__law_tree : List Str := ["_law_well_here", "_law_book", "_law_deep", "_law_left", "_law_free", "_law_ats", "_law_words", "_law_word", "_law_names_here", "_law_branch", "_law_form", "_law_b"]
abbrev p__law_tree : List Str := ["_law_well_here", "_law_book", "_law_deep", "_law_left", "_law_free", "_law_ats"]
theorem sc__law_tree : FnScope N__law_tree p__law_tree (defScope s__law_tree) := ⟨rfl, rfl, rfl, by decide +kernel, rfl, by decide +kernel, by decide +kernel⟩
def b__law_tree (m_self : Fn) : Es := (sSeq (sSet 6 (eArgs gTupP (aCons (eC (.str "call")) (aCons (eC (.str "fn")) (aCons (eC (.str "pair")) (aCons (eC (.str "plus")) (aCons (eC (.str "test")) (aCons (eC (.str "again")) (aCons (eC (.str "first")) (aCons (eC (.str "second")) (aCons (eC (.str "minus")) (aCons (eC (.str "times")) (aCons (eC (.str "put")) (aCons (eC (.str "box")) (aCons (eC (.str "look")) aNil))))))))))))))) (sSeq (sSet 6 (eOp gAdd (eOp gAdd (eVar 6) (eArgs gTupP (aCons (eC (.str "say")) (aCons (eC (.str "call")) (aCons (eC (.str "fn")) (aCons (eC (.str "test")) aNil)))))) (eOp gRep (eArgs gTupOf (aCons (fComp (iSeq (eVar 1)) (nName 10) tYesE (eOp gIx (eVar 10) (eC (.int 0))) [10]) aNil)) (eC (.int 4))))) (sSeq (sSet 7 (eArgs m__law_pick (aCons (eVar 0) (aCons (eVar 6) aNil)))) (sSeq (sSet 8 (eArgs m__law_names (aCons (eVar 1) (aCons (eVar 7) aNil)))) (sSeq (sIf (tAndE (tV (eOp gLe (eOp gAdd (eArgs gSumA (aCons (eVar 8) aNil)) (eArgs gLen (aCons (eVar 8) aNil))) (eOp gIx (eVar 3) (eC (.int 0))))) (tV (eOp gGt (eArgs m__law_draw (aCons (eVar 0) (aCons (eC (.int 6)) aNil))) (eC (.int 0))))) (sSeq (sAsg (eOp gSub (eOp gSub (eOp gIx (eVar 3) (eC (.int 0))) (eArgs gSumA (aCons (eVar 8) aNil))) (eArgs gLen (aCons (eVar 8) aNil))) (nSubL (eVar 3) (eC (.int 0)))) (sRet (eOp gAdd (eArgs gTupP (aCons (eVar 7) aNil)) (eArgs gTupOf (aCons (fComp (iSeq (eVar 8)) (nName 11) tYesE (eArgs m_self (aCons (eVar 0) (aCons (eVar 1) (aCons (eOp gAdd (eVar 2) (eVar 11)) (aCons (eVar 3) (aCons (eVar 4) (aCons (eVar 5) aNil))))))) [11]) aNil))))) sNil) (sSeq (sSet 9 (eArgs m__law_draw (aCons (eVar 0) (aCons (eC (.int 5)) aNil)))) (sSeq (sIf (tAndE (tV (eOp gLt (eVar 9) (eC (.int 3)))) (tV (eOp gGt (eOp gAdd (eVar 2) (eVar 4)) (eC (.int 0))))) (sRet (eArgs gTupP (aCons (eC (.str "name")) (aCons (eArgs m__law_draw (aCons (eVar 0) (aCons (eOp gAdd (eVar 2) (eVar 4)) aNil))) aNil)))) sNil) (sSeq (sIf (tAndE (tV (eOp gEq (eVar 9) (eC (.int 3)))) (tV (eOp gGt (eVar 5) (eC (.int 0))))) (sRet (eArgs gTupP (aCons (eC (.str "at")) (aCons (eArgs m__law_draw (aCons (eVar 0) (aCons (eVar 5) aNil))) aNil)))) sNil) (sRet (eArgs m__law_number (aCons (eVar 0) aNil)))))))))))
def m__law_tree : Nat → Fn
  | 0 => fun _ _ => .no
  | n + 1 => mkDef 6 12 (b__law_tree (m__law_tree n))
set_option maxHeartbeats 4000000 in
theorem e__law_tree {f : Addr} (T : Txt K w mg) (C__law_draw : Cal P w K mg base 1 "_law_draw" p__law_draw (spM K m__law_draw)) (C__law_names : Cal P w K mg base 1 "_law_names" p__law_names (spM K m__law_names)) (C__law_number : Cal P w K mg base 2 "_law_number" p__law_number (spM K m__law_number)) (C__law_pick : Cal P w K mg base 2 "_law_pick" p__law_pick (spM K m__law_pick)) {n : Nat} (C__law_tree : Cal P w K mg base (2 + n) "_law_tree" p__law_tree (spM K (m__law_tree n))) (cdv : Value) (A : Around) (outer : List PySem.Env) (s : Shared) (H : Hp) (E : XK) (hr : Room (2 + n) (A.deeper (envOfC "_law_tree" (defScope s__law_tree) s.heap.objs.size f cdv))) :
    ESs (cxOf CX0 P w K mg base N__law_tree "_law_tree" (defScope s__law_tree) f cdv A outer s H E).nox (defBody s__law_tree) (b__law_tree (m__law_tree n)) :=
  have S := sc__law_tree
  (es_cons (es_set (ps_set (i := 6) S.nd rfl (Or.inl rfl) (ee_tup (ea_cons ee_str (ea_cons ee_str (ea_cons ee_str (ea_cons ee_str (ea_cons ee_str (ea_cons ee_str (ea_cons ee_str (ea_cons ee_str (ea_cons ee_str (ea_cons ee_str (ea_cons ee_str (ea_cons ee_str (ea_cons ee_str ea_nil)))))))))))))))) (es_cons (es_set (ps_set (i := 6) S.nd rfl (Or.inl rfl) (ee_op op_addA l_add (ee_op op_addA l_add (ee_var 6 (pv 6)) (ee_tup (ea_cons ee_str (ea_cons ee_str (ea_cons ee_str (ea_cons ee_str ea_nil)))))) (ee_op op_repA l_rep (ee_callTy call_tuple_of l_tupOf (by rfl) T.tuple (by decide +kernel) (ea_cons (ee_pure (ef_comp (own := [("_law_form", 10)]) (g := (gName 10)) rfl S.nd (blkOk_by (N := N__law_tree) (sc := defScope s__law_tree) (by decide +kernel)) (tgt_name (by decide)) (ei_seq (ee_var 1 (pv 1))) (fun _ _ _ _ _ => pg_name (i := 10) S.nd rfl (Or.inl rfl)) (fun _ _ _ _ _ => ei_none) (fun _ _ _ _ _ => (ee_ix (ee_var 10 (pv 10)) ee_int (fun _ _ => rfl))))) ea_nil)) ee_int)))) (es_cons (es_set (ps_set (i := 7) S.nd rfl (Or.inl rfl) (ee_callC C__law_pick hr (by first | decide | omega) (by rfl) (ea_cons (ee_var 0 (pv 0)) (ea_cons (ee_var 6 (pv 6)) ea_nil))))) (es_cons (es_set (ps_set (i := 8) S.nd rfl (Or.inl rfl) (ee_callC C__law_names hr (by first | decide | omega) (by rfl) (ea_cons (ee_var 1 (pv 1)) (ea_cons (ee_var 7 (pv 7)) ea_nil))))) (es_cons (es_if (et_w (ew_and (et_cmp (op_le) l_le (ee_op op_addA l_add (ee_callB (call_sumA rfl) l_sumA (by rfl) T.sum (by decide +kernel) (ea_cons (ee_var 8 (pv 8)) ea_nil)) (ee_callB call_lenA l_len (by rfl) T.len (by decide +kernel) (ea_cons (ee_var 8 (pv 8)) ea_nil))) (ee_ix (ee_var 3 (pv 3)) ee_int (fun _ _ => rfl)) (nomark _)) (ew_and1 (et_cmp (op_gt) l_gt (ee_callC C__law_draw hr (by first | decide | omega) (by rfl) (ea_cons (ee_var 0 (pv 0)) (ea_cons ee_int ea_nil))) ee_int (nomark _))))) (es_cons (es_asg (ee_op op_sub l_sub (ee_op op_sub l_sub (ee_ix (ee_var 3 (pv 3)) ee_int (fun _ _ => rfl)) (ee_callB (call_sumA rfl) l_sumA (by rfl) T.sum (by decide +kernel) (ea_cons (ee_var 8 (pv 8)) ea_nil))) (ee_callB call_lenA l_len (by rfl) T.len (by decide +kernel) (ea_cons (ee_var 8 (pv 8)) ea_nil))) (eg_subL (ee_var 3 (pv 3)) ee_int (pg_sub (ee_var 3 (pv 3)) ee_int set_list))) (es_one (es_ret (ee_op op_addA l_add (ee_tup (ea_cons (ee_var 7 (pv 7)) ea_nil)) (ee_callTy call_tuple_of l_tupOf (by rfl) T.tuple (by decide +kernel) (ea_cons (ee_pure (ef_comp (own := [("_law_b", 11)]) (g := (gName 11)) rfl S.nd (blkOk_by (N := N__law_tree) (sc := defScope s__law_tree) (by decide +kernel)) (tgt_name (by decide)) (ei_seq (ee_var 8 (pv 8))) (fun _ _ _ _ _ => pg_name (i := 11) S.nd rfl (Or.inl rfl)) (fun _ _ _ _ _ => ei_none) (fun _ _ _ _ _ => (ee_callC C__law_tree hr (by first | decide | omega) (by rfl) (ea_cons (ee_var 0 (pv 0)) (ea_cons (ee_var 1 (pv 1)) (ea_cons (ee_op op_addA l_add (ee_var 2 (pv 2)) (ee_var 11 (pv 11))) (ea_cons (ee_var 3 (pv 3)) (ea_cons (ee_var 4 (pv 4)) (ea_cons (ee_var 5 (pv 5)) ea_nil)))))))))) ea_nil)))))) es_nil) (es_cons (es_set (ps_set (i := 9) S.nd rfl (Or.inl rfl) (ee_callC C__law_draw hr (by first | decide | omega) (by rfl) (ea_cons (ee_var 0 (pv 0)) (ea_cons ee_int ea_nil))))) (es_cons (es_if (et_w (ew_and (et_cmp (op_lt) l_lt (ee_var 9 (pv 9)) ee_int (nomark _)) (ew_and1 (et_cmp (op_gt) l_gt (ee_op op_addA l_add (ee_var 2 (pv 2)) (ee_var 4 (pv 4))) ee_int (nomark _))))) (es_one (es_ret (ee_tup (ea_cons ee_str (ea_cons (ee_callC C__law_draw hr (by first | decide | omega) (by rfl) (ea_cons (ee_var 0 (pv 0)) (ea_cons (ee_op op_addA l_add (ee_var 2 (pv 2)) (ee_var 4 (pv 4))) ea_nil))) ea_nil))))) es_nil) (es_cons (es_if (et_w (ew_and (et_cmp (op_eqA (hu64 hr)) l_eq (ee_var 9 (pv 9)) ee_int (nomark _)) (ew_and1 (et_cmp (op_gt) l_gt (ee_var 5 (pv 5)) ee_int (nomark _))))) (es_one (es_ret (ee_tup (ea_cons ee_str (ea_cons (ee_callC C__law_draw hr (by first | decide | omega) (by rfl) (ea_cons (ee_var 0 (pv 0)) (ea_cons (ee_var 5 (pv 5)) ea_nil))) ea_nil))))) es_nil) (es_one (es_ret (ee_callC C__law_number hr (by first | decide | omega) (by rfl) (ea_cons (ee_var 0 (pv 0)) ea_nil))))))))))))
theorem c__law_tree {f : Addr} {fd : FuncData} (hm : mg "_law_tree" = some (.ref f)) (F : FunD K "_law_tree" "_law_tree" (defArgs s__law_tree) (defBody s__law_tree) (defScope s__law_tree) [] [] f fd) (T : Txt K w mg) (C__law_draw : Cal P w K mg base 1 "_law_draw" p__law_draw (spM K m__law_draw)) (C__law_names : Cal P w K mg base 1 "_law_names" p__law_names (spM K m__law_names)) (C__law_number : Cal P w K mg base 2 "_law_number" p__law_number (spM K m__law_number)) (C__law_pick : Cal P w K mg base 2 "_law_pick" p__law_pick (spM K m__law_pick)) : ∀ n : Nat, Cal P w K mg base (2 + n) "_law_tree" p__law_tree (spM K (m__law_tree n))
  | 0 => cal_of hm F (fun _ _ _ _ _ _ us hl => match us, hl with | [_, _, _, _, _, _], _ => rfl) (fun _ _ _ _ _ _ us hl => match us, hl with | [_, _, _, _, _, _], _ => rfl) (fn_zero trivial)
  | n + 1 => cal_of hm F (fun _ _ _ _ _ _ us hl => match us, hl with | [_, _, _, _, _, _], _ => rfl) (fun _ _ _ _ _ _ us hl => match us, hl with | [_, _, _, _, _, _], _ => rfl) (fn_def F sc__law_tree fun cdv A outer s H E hr => e__law_tree T C__law_draw C__law_names C__law_number C__law_pick (c__law_tree hm F T C__law_draw C__law_names C__law_number C__law_pick n) cdv A outer s H E hr)
abbrev N__law_by_place : List Str := ["_law_number_here", "_law_thing"]
abbrev p__law_by_place : List Str := ["_law_number_here", "_law_thing"]
theorem sc__law_by_place : FnScope N__law_by_place p__law_by_place (defScope s__law_by_place) := ⟨rfl, rfl, rfl, by decide +kernel, rfl, by decide +kernel, by decide +kernel⟩
def b__law_by_place : Es := (sSeq (sIf (tV (eOp gEq (eVar 0) (eC (.int 0)))) (sRet (eMkE "InvalidText" "place" (aCons (eVar 1) aNil))) sNil) (sSeq (sIf (tV (eOp gEq (eVar 0) (eC (.int 1)))) (sRet (eMkE "InvalidTerm" "given" (aCons (eVar 1) aNil))) sNil) (sSeq (sIf (tV (eOp gEq (eVar 0) (eC (.int 2)))) (sRet (eMkE "InvalidSource" "given" (aCons (eVar 1) aNil))) sNil) (sSeq (sIf (tV (eOp gEq (eVar 0) (eC (.int 3)))) (sRet (eMkE "InvalidProgram" "given" (aCons (eVar 1) aNil))) sNil) (sSeq (sIf (tV (eOp gEq (eVar 0) (eC (.int 4)))) (sRet (eMkE "InvalidNumber" "given" (aCons (eVar 1) aNil))) sNil) (sSeq (sIf (tV (eOp gEq (eVar 0) (eC (.int 5)))) (sRet (eMkE "InvalidName" "given" (aCons (eVar 1) aNil))) sNil) (sSeq (sIf (tV (eOp gEq (eVar 0) (eC (.int 6)))) (sRet (eMkE "InvalidPlace" "given" (aCons (eVar 1) aNil))) sNil) (sSeq (sIf (tV (eOp gEq (eVar 0) (eC (.int 7)))) (sRet (eMkE "InvalidRows" "given" (aCons (eVar 1) aNil))) sNil) (sSeq (sIf (tV (eOp gEq (eVar 0) (eC (.int 8)))) (sRet (eMkE "InvalidSizes" "given" (aCons (eVar 1) aNil))) sNil) (sSeq (sIf (tV (eOp gEq (eVar 0) (eC (.int 9)))) (sRet (eMkE "InvalidBook" "index" (aCons (eVar 1) aNil))) sNil) (sSeq (sIf (tV (eOp gEq (eVar 0) (eC (.int 10)))) (sRet (eMkE "InvalidParts" "index" (aCons (eVar 1) aNil))) sNil) (sSeq (sIf (tV (eOp gEq (eVar 0) (eC (.int 11)))) (sRet (eMkE "InvalidWays" "index" (aCons (eVar 1) aNil))) sNil) (sRet (eMkE "InvalidNames" "index" (aCons (eVar 1) aNil)))))))))))))))
def m__law_by_place : Fn := mkDef 2 2 b__law_by_place
set_option maxHeartbeats 4000000 in
theorem e__law_by_place {f : Addr} (T : Txt K w mg) (EC : Errs P w K mg base) (cdv : Value) (A : Around) (outer : List PySem.Env) (s : Shared) (H : Hp) (E : XK) (hr : Room 2 (A.deeper (envOfC "_law_by_place" (defScope s__law_by_place) s.heap.objs.size f cdv))) :
    ESs (cxOf CX0 P w K mg base N__law_by_place "_law_by_place" (defScope s__law_by_place) f cdv A outer s H E).nox (defBody s__law_by_place) b__law_by_place :=
  have S := sc__law_by_place
  (es_cons (es_if (et_cmp (op_eqA (hu64 hr)) l_eq (ee_var 0 (pv 0)) ee_int (nomark _)) (es_one (es_ret (ee_mkE EC.G_InvalidText hr (by first | decide | omega) (by rfl) (ea_cons (ee_var 1 (pv 1)) ea_nil)))) es_nil) (es_cons (es_if (et_cmp (op_eqA (hu64 hr)) l_eq (ee_var 0 (pv 0)) ee_int (nomark _)) (es_one (es_ret (ee_mkE EC.G_InvalidTerm hr (by first | decide | omega) (by rfl) (ea_cons (ee_var 1 (pv 1)) ea_nil)))) es_nil) (es_cons (es_if (et_cmp (op_eqA (hu64 hr)) l_eq (ee_var 0 (pv 0)) ee_int (nomark _)) (es_one (es_ret (ee_mkE EC.G_InvalidSource hr (by first | decide | omega) (by rfl) (ea_cons (ee_var 1 (pv 1)) ea_nil)))) es_nil) (es_cons (es_if (et_cmp (op_eqA (hu64 hr)) l_eq (ee_var 0 (pv 0)) ee_int (nomark _)) (es_one (es_ret (ee_mkE EC.G_InvalidProgram hr (by first | decide | omega) (by rfl) (ea_cons (ee_var 1 (pv 1)) ea_nil)))) es_nil) (es_cons (es_if (et_cmp (op_eqA (hu64 hr)) l_eq (ee_var 0 (pv 0)) ee_int (nomark _)) (es_one (es_ret (ee_mkE EC.G_InvalidNumber hr (by first | decide | omega) (by rfl) (ea_cons (ee_var 1 (pv 1)) ea_nil)))) es_nil) (es_cons (es_if (et_cmp (op_eqA (hu64 hr)) l_eq (ee_var 0 (pv 0)) ee_int (nomark _)) (es_one (es_ret (ee_mkE EC.G_InvalidName hr (by first | decide | omega) (by rfl) (ea_cons (ee_var 1 (pv 1)) ea_nil)))) es_nil) (es_cons (es_if (et_cmp (op_eqA (hu64 hr)) l_eq (ee_var 0 (pv 0)) ee_int (nomark _)) (es_one (es_ret (ee_mkE EC.G_InvalidPlace hr (by first | decide | omega) (by rfl) (ea_cons (ee_var 1 (pv 1)) ea_nil)))) es_nil) (es_cons (es_if (et_cmp (op_eqA (hu64 hr)) l_eq (ee_var 0 (pv 0)) ee_int (nomark _)) (es_one (es_ret (ee_mkE EC.G_InvalidRows hr (by first | decide | omega) (by rfl) (ea_cons (ee_var 1 (pv 1)) ea_nil)))) es_nil) (es_cons (es_if (et_cmp (op_eqA (hu64 hr)) l_eq (ee_var 0 (pv 0)) ee_int (nomark _)) (es_one (es_ret (ee_mkE EC.G_InvalidSizes hr (by first | decide | omega) (by rfl) (ea_cons (ee_var 1 (pv 1)) ea_nil)))) es_nil) (es_cons (es_if (et_cmp (op_eqA (hu64 hr)) l_eq (ee_var 0 (pv 0)) ee_int (nomark _)) (es_one (es_ret (ee_mkE EC.G_InvalidBook hr (by first | decide | omega) (by rfl) (ea_cons (ee_var 1 (pv 1)) ea_nil)))) es_nil) (es_cons (es_if (et_cmp (op_eqA (hu64 hr)) l_eq (ee_var 0 (pv 0)) ee_int (nomark _)) (es_one (es_ret (ee_mkE EC.G_InvalidParts hr (by first | decide | omega) (by rfl) (ea_cons (ee_var 1 (pv 1)) ea_nil)))) es_nil) (es_cons (es_if (et_cmp (op_eqA (hu64 hr)) l_eq (ee_var 0 (pv 0)) ee_int (nomark _)) (es_one (es_ret (ee_mkE EC.G_InvalidWays hr (by first | decide | omega) (by rfl) (ea_cons (ee_var 1 (pv 1)) ea_nil)))) es_nil) (es_one (es_ret (ee_mkE EC.G_InvalidNames hr (by first | decide | omega) (by rfl) (ea_cons (ee_var 1 (pv 1)) ea_nil))))))))))))))))
theorem c__law_by_place {f : Addr} {fd : FuncData} (hm : mg "_law_by_place" = some (.ref f)) (F : FunD K "_law_by_place" "_law_by_place" (defArgs s__law_by_place) (defBody s__law_by_place) (defScope s__law_by_place) [] [] f fd) (T : Txt K w mg) (EC : Errs P w K mg base) : Cal P w K mg base 3 "_law_by_place" p__law_by_place (spM K m__law_by_place) :=
  cal_of hm F (fun _ _ _ _ _ _ us hl => match us, hl with | [_, _], _ => rfl) (fun _ _ _ _ _ _ us hl => match us, hl with | [_, _], _ => rfl) (fn_def F sc__law_by_place fun cdv A outer s H E hr => e__law_by_place T EC  cdv A outer s H E hr)
abbrev N__law_further : List Str := ["_law_number_here", "_law_thing"]
abbrev p__law_further : List Str := ["_law_number_here", "_law_thing"]
theorem sc__law_further : FnScope N__law_further p__law_further (defScope s__law_further) := ⟨rfl, rfl, rfl, by decide +kernel, rfl, by decide +kernel, by decide +kernel⟩
def b__law_further : Es := (sSeq (sIf (tV (eOp gEq (eVar 0) (eC (.int 13)))) (sRet (eMkE "InvalidMemory" "index" (aCons (eVar 1) aNil))) sNil) (sSeq (sIf (tV (eOp gEq (eVar 0) (eC (.int 14)))) (sRet (eMkE "InvalidDevice" "index" (aCons (eVar 1) aNil))) sNil) (sSeq (sIf (tV (eOp gEq (eVar 0) (eC (.int 15)))) (sRet (eMkE "InvalidWrites" "index" (aCons (eVar 1) aNil))) sNil) (sSeq (sIf (tV (eOp gEq (eVar 0) (eC (.int 16)))) (sRet (eMkE "NoValue" "index" (aCons (eVar 1) aNil))) sNil) (sSeq (sIf (tV (eOp gEq (eVar 0) (eC (.int 17)))) (sRet (eMkE "BadRows" "index" (aCons (eVar 1) aNil))) sNil) (sSeq (sIf (tV (eOp gEq (eVar 0) (eC (.int 18)))) (sRet (eMk0 "Captured")) sNil) (sSeq (sIf (tV (eOp gEq (eVar 0) (eC (.int 19)))) (sRet (eMk0 "TooGreat")) sNil) (sSeq (sIf (tV (eOp gEq (eVar 0) (eC (.int 20)))) (sRet (eMk0 "NoRoom")) sNil) (sSeq (sIf (tV (eOp gEq (eVar 0) (eC (.int 21)))) (sRet (eMk0 "DoesNotStand")) sNil) (sSeq (sIf (tV (eOp gEq (eVar 0) (eC (.int 22)))) (sRet (eMk0 "NotNow")) sNil) (sSeq (sIf (tV (eOp gEq (eVar 0) (eC (.int 23)))) (sRet (eMk0 "NotMended")) sNil) (sSeq (sIf (tV (eOp gEq (eVar 0) (eC (.int 24)))) (sRet (eMk0 "NotThere")) sNil) (sRet (eMk0 "FormError"))))))))))))))
def m__law_further : Fn := mkDef 2 2 b__law_further
set_option maxHeartbeats 4000000 in
theorem e__law_further {f : Addr} (T : Txt K w mg) (EC : Errs P w K mg base) (cdv : Value) (A : Around) (outer : List PySem.Env) (s : Shared) (H : Hp) (E : XK) (hr : Room 2 (A.deeper (envOfC "_law_further" (defScope s__law_further) s.heap.objs.size f cdv))) :
    ESs (cxOf CX0 P w K mg base N__law_further "_law_further" (defScope s__law_further) f cdv A outer s H E).nox (defBody s__law_further) b__law_further :=
  have S := sc__law_further
  (es_cons (es_if (et_cmp (op_eqA (hu64 hr)) l_eq (ee_var 0 (pv 0)) ee_int (nomark _)) (es_one (es_ret (ee_mkE EC.G_InvalidMemory hr (by first | decide | omega) (by rfl) (ea_cons (ee_var 1 (pv 1)) ea_nil)))) es_nil) (es_cons (es_if (et_cmp (op_eqA (hu64 hr)) l_eq (ee_var 0 (pv 0)) ee_int (nomark _)) (es_one (es_ret (ee_mkE EC.G_InvalidDevice hr (by first | decide | omega) (by rfl) (ea_cons (ee_var 1 (pv 1)) ea_nil)))) es_nil) (es_cons (es_if (et_cmp (op_eqA (hu64 hr)) l_eq (ee_var 0 (pv 0)) ee_int (nomark _)) (es_one (es_ret (ee_mkE EC.G_InvalidWrites hr (by first | decide | omega) (by rfl) (ea_cons (ee_var 1 (pv 1)) ea_nil)))) es_nil) (es_cons (es_if (et_cmp (op_eqA (hu64 hr)) l_eq (ee_var 0 (pv 0)) ee_int (nomark _)) (es_one (es_ret (ee_mkE EC.G_NoValue hr (by first | decide | omega) (by rfl) (ea_cons (ee_var 1 (pv 1)) ea_nil)))) es_nil) (es_cons (es_if (et_cmp (op_eqA (hu64 hr)) l_eq (ee_var 0 (pv 0)) ee_int (nomark _)) (es_one (es_ret (ee_mkE EC.G_BadRows hr (by first | decide | omega) (by rfl) (ea_cons (ee_var 1 (pv 1)) ea_nil)))) es_nil) (es_cons (es_if (et_cmp (op_eqA (hu64 hr)) l_eq (ee_var 0 (pv 0)) ee_int (nomark _)) (es_one (es_ret (ee_mk0 EC.E_Captured (by rfl)))) es_nil) (es_cons (es_if (et_cmp (op_eqA (hu64 hr)) l_eq (ee_var 0 (pv 0)) ee_int (nomark _)) (es_one (es_ret (ee_mk0 EC.E_TooGreat (by rfl)))) es_nil) (es_cons (es_if (et_cmp (op_eqA (hu64 hr)) l_eq (ee_var 0 (pv 0)) ee_int (nomark _)) (es_one (es_ret (ee_mk0 EC.E_NoRoom (by rfl)))) es_nil) (es_cons (es_if (et_cmp (op_eqA (hu64 hr)) l_eq (ee_var 0 (pv 0)) ee_int (nomark _)) (es_one (es_ret (ee_mk0 EC.E_DoesNotStand (by rfl)))) es_nil) (es_cons (es_if (et_cmp (op_eqA (hu64 hr)) l_eq (ee_var 0 (pv 0)) ee_int (nomark _)) (es_one (es_ret (ee_mk0 EC.E_NotNow (by rfl)))) es_nil) (es_cons (es_if (et_cmp (op_eqA (hu64 hr)) l_eq (ee_var 0 (pv 0)) ee_int (nomark _)) (es_one (es_ret (ee_mk0 EC.E_NotMended (by rfl)))) es_nil) (es_cons (es_if (et_cmp (op_eqA (hu64 hr)) l_eq (ee_var 0 (pv 0)) ee_int (nomark _)) (es_one (es_ret (ee_mk0 EC.E_NotThere (by rfl)))) es_nil) (es_one (es_ret (ee_mk0 EC.E_FormError (by rfl))))))))))))))))
theorem c__law_further {f : Addr} {fd : FuncData} (hm : mg "_law_further" = some (.ref f)) (F : FunD K "_law_further" "_law_further" (defArgs s__law_further) (defBody s__law_further) (defScope s__law_further) [] [] f fd) (T : Txt K w mg) (EC : Errs P w K mg base) : Cal P w K mg base 3 "_law_further" p__law_further (spM K m__law_further) :=
  cal_of hm F (fun _ _ _ _ _ _ us hl => match us, hl with | [_, _], _ => rfl) (fun _ _ _ _ _ _ us hl => match us, hl with | [_, _], _ => rfl) (fn_def F sc__law_further fun cdv A outer s H E hr => e__law_further T EC  cdv A outer s H E hr)
abbrev N__law_truths : List Str := ["_law_error", "_law_found"]
abbrev p__law_truths : List Str := ["_law_error"]
theorem sc__law_truths : FnScope N__law_truths p__law_truths (defScope s__law_truths) := ⟨rfl, rfl, rfl, by decide +kernel, rfl, by decide +kernel, by decide +kernel⟩
def b__law_truths : Es := (sSeq (sSet 1 (eArgs gLstP aNil)) (sSeq (sSet 1 (eOp gCat (eVar 1) (eArgs gLstP (aCons (eUn (gIsE csE (fun c : Str => decide (c = ("InvalidText" : Str)))) (eVar 0)) (aCons (eUn (gIsE csE (fun c : Str => decide (c = ("InvalidTerm" : Str)))) (eVar 0)) aNil))))) (sSeq (sSet 1 (eOp gCat (eVar 1) (eArgs gLstP (aCons (eUn (gIsE csE (fun c : Str => decide (c = ("InvalidSource" : Str)))) (eVar 0)) (aCons (eUn (gIsE csE (fun c : Str => decide (c = ("InvalidProgram" : Str)))) (eVar 0)) aNil))))) (sSeq (sSet 1 (eOp gCat (eVar 1) (eArgs gLstP (aCons (eUn (gIsE csE (fun c : Str => decide (c = ("InvalidNumber" : Str)))) (eVar 0)) (aCons (eUn (gIsE csE (fun c : Str => decide (c = ("InvalidName" : Str)))) (eVar 0)) aNil))))) (sSeq (sSet 1 (eOp gCat (eVar 1) (eArgs gLstP (aCons (eUn (gIsE csE (fun c : Str => decide (c = ("InvalidPlace" : Str)))) (eVar 0)) (aCons (eUn (gIsE csE (fun c : Str => decide (c = ("InvalidRows" : Str)))) (eVar 0)) aNil))))) (sSeq (sSet 1 (eOp gCat (eVar 1) (eArgs gLstP (aCons (eUn (gIsE csE (fun c : Str => decide (c = ("InvalidSizes" : Str)))) (eVar 0)) (aCons (eUn (gIsE csE (fun c : Str => decide (c = ("InvalidBook" : Str)))) (eVar 0)) aNil))))) (sSeq (sSet 1 (eOp gCat (eVar 1) (eArgs gLstP (aCons (eUn (gIsE csE (fun c : Str => decide (c = ("InvalidParts" : Str)))) (eVar 0)) (aCons (eUn (gIsE csE (fun c : Str => decide (c = ("InvalidWays" : Str)))) (eVar 0)) aNil))))) (sSeq (sSet 1 (eOp gCat (eVar 1) (eArgs gLstP (aCons (eUn (gIsE csE (fun c : Str => decide (c = ("InvalidNames" : Str)))) (eVar 0)) (aCons (eUn (gIsE csE (fun c : Str => decide (c = ("InvalidMemory" : Str)))) (eVar 0)) aNil))))) (sSeq (sSet 1 (eOp gCat (eVar 1) (eArgs gLstP (aCons (eUn (gIsE csE (fun c : Str => decide (c = ("InvalidDevice" : Str)))) (eVar 0)) (aCons (eUn (gIsE csE (fun c : Str => decide (c = ("InvalidWrites" : Str)))) (eVar 0)) (aCons (eUn (gIsE csE (fun c : Str => decide (c = ("NoValue" : Str)))) (eVar 0)) aNil)))))) (sSeq (sSet 1 (eOp gCat (eVar 1) (eArgs gLstP (aCons (eUn (gIsE csE (fun c : Str => decide (c = ("BadRows" : Str)))) (eVar 0)) (aCons (eUn (gIsE csE (fun c : Str => decide (c = ("Captured" : Str)))) (eVar 0)) (aCons (eUn (gIsE csE (fun c : Str => decide (c = ("TooGreat" : Str)))) (eVar 0)) aNil)))))) (sSeq (sSet 1 (eOp gCat (eVar 1) (eArgs gLstP (aCons (eUn (gIsE csE (fun c : Str => decide (c = ("NoRoom" : Str)))) (eVar 0)) (aCons (eUn (gIsE csE (fun c : Str => decide (c = ("DoesNotStand" : Str)))) (eVar 0)) (aCons (eUn (gIsE csE (fun c : Str => decide (c = ("NotNow" : Str)))) (eVar 0)) aNil)))))) (sSeq (sSet 1 (eOp gCat (eVar 1) (eArgs gLstP (aCons (eUn (gIsE csE (fun c : Str => decide (c = ("NotMended" : Str)))) (eVar 0)) (aCons (eUn (gIsE csE (fun c : Str => decide (c = ("NotThere" : Str)))) (eVar 0)) (aCons (eUn (gIsE csE (fun _ : Str => true)) (eVar 0)) aNil)))))) (sSeq (sSet 1 (eOp gCat (eVar 1) (eArgs gLstP (aCons (eUn (gIsE csE (fun _ : Str => true)) (eVar 0)) (aCons (eUn (gIsE csE (fun _ : Str => true)) (eVar 0)) (aCons (eUn (gIsE csE (fun _ : Str => false)) (eVar 0)) aNil)))))) (sSeq (sSet 1 (eOp gCat (eVar 1) (eArgs gLstP (aCons (eUn (gIsE csE (fun _ : Str => false)) (eVar 0)) (aCons (eUn (gIsE csE (fun _ : Str => false)) (eVar 0)) aNil))))) (sSeq (sSet 1 (eOp gCat (eVar 1) (eArgs gLstP (aCons (eUn (gIsE csE (fun _ : Str => false)) (eVar 0)) (aCons (eUn (gIsE csE (fun _ : Str => false)) (eVar 0)) aNil))))) (sRet (eVar 1)))))))))))))))))
def m__law_truths : Fn := mkDef 1 2 b__law_truths
set_option maxHeartbeats 4000000 in
theorem e__law_truths {f : Addr} (T : Txt K w mg) (EC : Errs P w K mg base) (cdv : Value) (A : Around) (outer : List PySem.Env) (s : Shared) (H : Hp) (E : XK) (hr : Room 2 (A.deeper (envOfC "_law_truths" (defScope s__law_truths) s.heap.objs.size f cdv))) :
    ESs (cxOf CX0 P w K mg base N__law_truths "_law_truths" (defScope s__law_truths) f cdv A outer s H E).nox (defBody s__law_truths) b__law_truths :=
  have S := sc__law_truths
  (es_cons (es_set (ps_set (i := 1) S.nd rfl (Or.inl rfl) (ee_pure (ef_lst ea_nil)))) (es_cons (es_set (ps_set (i := 1) S.nd rfl (Or.inl rfl) (ee_pure (ef_cat (ee_var 1 (pv 1)) (ee_pure (ef_lst (ea_cons (ee_isE (w := .ref (He.ga K "InvalidText")) EC.xs EC.kT_InvalidText (fun _ z => z) (by rfl) T.isinstance (ee_var 0 (pv 0)) (pe_glob (v := .ref (He.ga K "InvalidText")) (by rfl) EC.G_InvalidText.at_ rfl)) (ea_cons (ee_isE (w := .ref (He.ga K "InvalidTerm")) EC.xs EC.kT_InvalidTerm (fun _ z => z) (by rfl) T.isinstance (ee_var 0 (pv 0)) (pe_glob (v := .ref (He.ga K "InvalidTerm")) (by rfl) EC.G_InvalidTerm.at_ rfl)) ea_nil)))))))) (es_cons (es_set (ps_set (i := 1) S.nd rfl (Or.inl rfl) (ee_pure (ef_cat (ee_var 1 (pv 1)) (ee_pure (ef_lst (ea_cons (ee_isE (w := .ref (He.ga K "InvalidSource")) EC.xs EC.kT_InvalidSource (fun _ z => z) (by rfl) T.isinstance (ee_var 0 (pv 0)) (pe_glob (v := .ref (He.ga K "InvalidSource")) (by rfl) EC.G_InvalidSource.at_ rfl)) (ea_cons (ee_isE (w := .ref (He.ga K "InvalidProgram")) EC.xs EC.kT_InvalidProgram (fun _ z => z) (by rfl) T.isinstance (ee_var 0 (pv 0)) (pe_glob (v := .ref (He.ga K "InvalidProgram")) (by rfl) EC.G_InvalidProgram.at_ rfl)) ea_nil)))))))) (es_cons (es_set (ps_set (i := 1) S.nd rfl (Or.inl rfl) (ee_pure (ef_cat (ee_var 1 (pv 1)) (ee_pure (ef_lst (ea_cons (ee_isE (w := .ref (He.ga K "InvalidNumber")) EC.xs EC.kT_InvalidNumber (fun _ z => z) (by rfl) T.isinstance (ee_var 0 (pv 0)) (pe_glob (v := .ref (He.ga K "InvalidNumber")) (by rfl) EC.G_InvalidNumber.at_ rfl)) (ea_cons (ee_isE (w := .ref (He.ga K "InvalidName")) EC.xs EC.kT_InvalidName (fun _ z => z) (by rfl) T.isinstance (ee_var 0 (pv 0)) (pe_glob (v := .ref (He.ga K "InvalidName")) (by rfl) EC.G_InvalidName.at_ rfl)) ea_nil)))))))) (es_cons (es_set (ps_set (i := 1) S.nd rfl (Or.inl rfl) (ee_pure (ef_cat (ee_var 1 (pv 1)) (ee_pure (ef_lst (ea_cons (ee_isE (w := .ref (He.ga K "InvalidPlace")) EC.xs EC.kT_InvalidPlace (fun _ z => z) (by rfl) T.isinstance (ee_var 0 (pv 0)) (pe_glob (v := .ref (He.ga K "InvalidPlace")) (by rfl) EC.G_InvalidPlace.at_ rfl)) (ea_cons (ee_isE (w := .ref (He.ga K "InvalidRows")) EC.xs EC.kT_InvalidRows (fun _ z => z) (by rfl) T.isinstance (ee_var 0 (pv 0)) (pe_glob (v := .ref (He.ga K "InvalidRows")) (by rfl) EC.G_InvalidRows.at_ rfl)) ea_nil)))))))) (es_cons (es_set (ps_set (i := 1) S.nd rfl (Or.inl rfl) (ee_pure (ef_cat (ee_var 1 (pv 1)) (ee_pure (ef_lst (ea_cons (ee_isE (w := .ref (He.ga K "InvalidSizes")) EC.xs EC.kT_InvalidSizes (fun _ z => z) (by rfl) T.isinstance (ee_var 0 (pv 0)) (pe_glob (v := .ref (He.ga K "InvalidSizes")) (by rfl) EC.G_InvalidSizes.at_ rfl)) (ea_cons (ee_isE (w := .ref (He.ga K "InvalidBook")) EC.xs EC.kT_InvalidBook (fun _ z => z) (by rfl) T.isinstance (ee_var 0 (pv 0)) (pe_glob (v := .ref (He.ga K "InvalidBook")) (by rfl) EC.G_InvalidBook.at_ rfl)) ea_nil)))))))) (es_cons (es_set (ps_set (i := 1) S.nd rfl (Or.inl rfl) (ee_pure (ef_cat (ee_var 1 (pv 1)) (ee_pure (ef_lst (ea_cons (ee_isE (w := .ref (He.ga K "InvalidParts")) EC.xs EC.kT_InvalidParts (fun _ z => z) (by rfl) T.isinstance (ee_var 0 (pv 0)) (pe_glob (v := .ref (He.ga K "InvalidParts")) (by rfl) EC.G_InvalidParts.at_ rfl)) (ea_cons (ee_isE (w := .ref (He.ga K "InvalidWays")) EC.xs EC.kT_InvalidWays (fun _ z => z) (by rfl) T.isinstance (ee_var 0 (pv 0)) (pe_glob (v := .ref (He.ga K "InvalidWays")) (by rfl) EC.G_InvalidWays.at_ rfl)) ea_nil)))))))) (es_cons (es_set (ps_set (i := 1) S.nd rfl (Or.inl rfl) (ee_pure (ef_cat (ee_var 1 (pv 1)) (ee_pure (ef_lst (ea_cons (ee_isE (w := .ref (He.ga K "InvalidNames")) EC.xs EC.kT_InvalidNames (fun _ z => z) (by rfl) T.isinstance (ee_var 0 (pv 0)) (pe_glob (v := .ref (He.ga K "InvalidNames")) (by rfl) EC.G_InvalidNames.at_ rfl)) (ea_cons (ee_isE (w := .ref (He.ga K "InvalidMemory")) EC.xs EC.kT_InvalidMemory (fun _ z => z) (by rfl) T.isinstance (ee_var 0 (pv 0)) (pe_glob (v := .ref (He.ga K "InvalidMemory")) (by rfl) EC.G_InvalidMemory.at_ rfl)) ea_nil)))))))) (es_cons (es_set (ps_set (i := 1) S.nd rfl (Or.inl rfl) (ee_pure (ef_cat (ee_var 1 (pv 1)) (ee_pure (ef_lst (ea_cons (ee_isE (w := .ref (He.ga K "InvalidDevice")) EC.xs EC.kT_InvalidDevice (fun _ z => z) (by rfl) T.isinstance (ee_var 0 (pv 0)) (pe_glob (v := .ref (He.ga K "InvalidDevice")) (by rfl) EC.G_InvalidDevice.at_ rfl)) (ea_cons (ee_isE (w := .ref (He.ga K "InvalidWrites")) EC.xs EC.kT_InvalidWrites (fun _ z => z) (by rfl) T.isinstance (ee_var 0 (pv 0)) (pe_glob (v := .ref (He.ga K "InvalidWrites")) (by rfl) EC.G_InvalidWrites.at_ rfl)) (ea_cons (ee_isE (w := .ref (He.ga K "NoValue")) EC.xs EC.kT_NoValue (fun _ z => z) (by rfl) T.isinstance (ee_var 0 (pv 0)) (pe_glob (v := .ref (He.ga K "NoValue")) (by rfl) EC.G_NoValue.at_ rfl)) ea_nil))))))))) (es_cons (es_set (ps_set (i := 1) S.nd rfl (Or.inl rfl) (ee_pure (ef_cat (ee_var 1 (pv 1)) (ee_pure (ef_lst (ea_cons (ee_isE (w := .ref (He.ga K "BadRows")) EC.xs EC.kT_BadRows (fun _ z => z) (by rfl) T.isinstance (ee_var 0 (pv 0)) (pe_glob (v := .ref (He.ga K "BadRows")) (by rfl) EC.G_BadRows.at_ rfl)) (ea_cons (ee_isE (w := .ref (He.ga K "Captured")) EC.xs EC.kT_Captured (fun _ z => z) (by rfl) T.isinstance (ee_var 0 (pv 0)) (pe_glob (v := .ref (He.ga K "Captured")) (by rfl) EC.E_Captured.at_ rfl)) (ea_cons (ee_isE (w := .ref (He.ga K "TooGreat")) EC.xs EC.kT_TooGreat (fun _ z => z) (by rfl) T.isinstance (ee_var 0 (pv 0)) (pe_glob (v := .ref (He.ga K "TooGreat")) (by rfl) EC.E_TooGreat.at_ rfl)) ea_nil))))))))) (es_cons (es_set (ps_set (i := 1) S.nd rfl (Or.inl rfl) (ee_pure (ef_cat (ee_var 1 (pv 1)) (ee_pure (ef_lst (ea_cons (ee_isE (w := .ref (He.ga K "NoRoom")) EC.xs EC.kT_NoRoom (fun _ z => z) (by rfl) T.isinstance (ee_var 0 (pv 0)) (pe_glob (v := .ref (He.ga K "NoRoom")) (by rfl) EC.E_NoRoom.at_ rfl)) (ea_cons (ee_isE (w := .ref (He.ga K "DoesNotStand")) EC.xs EC.kT_DoesNotStand (fun _ z => z) (by rfl) T.isinstance (ee_var 0 (pv 0)) (pe_glob (v := .ref (He.ga K "DoesNotStand")) (by rfl) EC.E_DoesNotStand.at_ rfl)) (ea_cons (ee_isE (w := .ref (He.ga K "NotNow")) EC.xs EC.kT_NotNow (fun _ z => z) (by rfl) T.isinstance (ee_var 0 (pv 0)) (pe_glob (v := .ref (He.ga K "NotNow")) (by rfl) EC.E_NotNow.at_ rfl)) ea_nil))))))))) (es_cons (es_set (ps_set (i := 1) S.nd rfl (Or.inl rfl) (ee_pure (ef_cat (ee_var 1 (pv 1)) (ee_pure (ef_lst (ea_cons (ee_isE (w := .ref (He.ga K "NotMended")) EC.xs EC.kT_NotMended (fun _ z => z) (by rfl) T.isinstance (ee_var 0 (pv 0)) (pe_glob (v := .ref (He.ga K "NotMended")) (by rfl) EC.E_NotMended.at_ rfl)) (ea_cons (ee_isE (w := .ref (He.ga K "NotThere")) EC.xs EC.kT_NotThere (fun _ z => z) (by rfl) T.isinstance (ee_var 0 (pv 0)) (pe_glob (v := .ref (He.ga K "NotThere")) (by rfl) EC.E_NotThere.at_ rfl)) (ea_cons (ee_isE (w := .ref (He.ga K "FormError")) EC.xs EC.kT_FormError (fun _ z => z) (by rfl) T.isinstance (ee_var 0 (pv 0)) (pe_glob (v := .ref (He.ga K "FormError")) (by rfl) EC.E_FormError.at_ rfl)) ea_nil))))))))) (es_cons (es_set (ps_set (i := 1) S.nd rfl (Or.inl rfl) (ee_pure (ef_cat (ee_var 1 (pv 1)) (ee_pure (ef_lst (ea_cons (ee_isE (w := .ty "ValueError") EC.xs EC.kT_ValueError (fun _ z => z) (by rfl) T.isinstance (ee_var 0 (pv 0)) (pe_bltn (v := .ty "ValueError") (by rfl) T.ValueError (by decide +kernel) rfl)) (ea_cons (ee_isE (w := .ty "Exception") EC.xs EC.kT_Exception (fun _ z => z) (by rfl) T.isinstance (ee_var 0 (pv 0)) (pe_bltn (v := .ty "Exception") (by rfl) T.Exception (by decide +kernel) rfl)) (ea_cons (ee_isE (w := .ty "LookupError") EC.xs EC.kT_LookupError (fun _ z => z) (by rfl) T.isinstance (ee_var 0 (pv 0)) (pe_bltn (v := .ty "LookupError") (by rfl) T.LookupError (by decide +kernel) rfl)) ea_nil))))))))) (es_cons (es_set (ps_set (i := 1) S.nd rfl (Or.inl rfl) (ee_pure (ef_cat (ee_var 1 (pv 1)) (ee_pure (ef_lst (ea_cons (ee_isE (w := .ty "TypeError") EC.xs EC.kT_TypeError (fun _ z => z) (by rfl) T.isinstance (ee_var 0 (pv 0)) (pe_bltn (v := .ty "TypeError") (by rfl) T.TypeError (by decide +kernel) rfl)) (ea_cons (ee_isE (w := .ty "ArithmeticError") EC.xs EC.kT_ArithmeticError (fun _ z => z) (by rfl) T.isinstance (ee_var 0 (pv 0)) (pe_bltn (v := .ty "ArithmeticError") (by rfl) T.ArithmeticError (by decide +kernel) rfl)) ea_nil)))))))) (es_cons (es_set (ps_set (i := 1) S.nd rfl (Or.inl rfl) (ee_pure (ef_cat (ee_var 1 (pv 1)) (ee_pure (ef_lst (ea_cons (ee_isE (w := .ty "RuntimeError") EC.xs EC.kT_RuntimeError (fun _ z => z) (by rfl) T.isinstance (ee_var 0 (pv 0)) (pe_bltn (v := .ty "RuntimeError") (by rfl) T.RuntimeError (by decide +kernel) rfl)) (ea_cons (ee_isE (w := .ty "AttributeError") EC.xs EC.kT_AttributeError (fun _ z => z) (by rfl) T.isinstance (ee_var 0 (pv 0)) (pe_bltn (v := .ty "AttributeError") (by rfl) T.AttributeError (by decide +kernel) rfl)) ea_nil)))))))) (es_one (es_ret (ee_var 1 (pv 1)))))))))))))))))))
theorem c__law_truths {f : Addr} {fd : FuncData} (hm : mg "_law_truths" = some (.ref f)) (F : FunD K "_law_truths" "_law_truths" (defArgs s__law_truths) (defBody s__law_truths) (defScope s__law_truths) [] [] f fd) (T : Txt K w mg) (EC : Errs P w K mg base) : Cal P w K mg base 3 "_law_truths" p__law_truths (spM K m__law_truths) :=
  cal_of hm F (fun _ _ _ _ _ _ us hl => match us, hl with | [_], _ => rfl) (fun _ _ _ _ _ _ us hl => match us, hl with | [_], _ => rfl) (fn_def F sc__law_truths fun cdv A outer s H E hr => e__law_truths T EC  cdv A outer s H E hr)
abbrev N__law_is_made : List Str := ["_law_number_here", "_law_thing", "_law_error", "_law_at"]
abbrev p__law_is_made : List Str := ["_law_number_here", "_law_thing", "_law_error"]
theorem sc__law_is_made : FnScope N__law_is_made p__law_is_made (defScope s__law_is_made) := ⟨rfl, rfl, rfl, by decide +kernel, rfl, by decide +kernel, by decide +kernel⟩
def b__law_is_made : Es := (sSeq (sIf (tV (eOp gNe (eArgs m__law_truths (aCons (eVar 2) aNil)) (fComp (iArgs gRange (aCons (eC (.int 33)) aNil)) (nName 3) tYesE (eOrV (eOp gEq (eVar 3) (eVar 0)) (eChain gLt gLt (eC (.int 24)) (eVar 3) (eC (.int 28)))) [3]))) (sRet (eC (.bl false))) sNil) (sSeq (sIf (tV (eOp gEq (eVar 0) (eC (.int 0)))) (sRet (eOp gEq (eArgs gReprD (aCons (eUn (gFld cs_place "place") (eVar 2)) aNil)) (eArgs gReprD (aCons (eVar 1) aNil)))) sNil) (sSeq (sIf (tV (eOp gLt (eVar 0) (eC (.int 9)))) (sRet (eOp gEq (eArgs gReprD (aCons (eUn (gFld cs_given "given") (eVar 2)) aNil)) (eArgs gReprD (aCons (eVar 1) aNil)))) sNil) (sRet (eOrV (eOp gGt (eVar 0) (eC (.int 17))) (eOp gEq (eArgs gReprD (aCons (eUn (gFld cs_index "index") (eVar 2)) aNil)) (eArgs gReprD (aCons (eVar 1) aNil))))))))
def m__law_is_made : Fn := mkDef 3 4 b__law_is_made
set_option maxHeartbeats 4000000 in
theorem e__law_is_made {f : Addr} (T : Txt K w mg) (EC : Errs P w K mg base) (C__law_truths : Cal P w K mg base 3 "_law_truths" p__law_truths (spM K m__law_truths)) (cdv : Value) (A : Around) (outer : List PySem.Env) (s : Shared) (H : Hp) (E : XK) (gd : A.guards = some []) (hr : Room 3 (A.deeper (envOfC "_law_is_made" (defScope s__law_is_made) s.heap.objs.size f cdv))) :
    ESs (cxOf CX0 P w K mg base N__law_is_made "_law_is_made" (defScope s__law_is_made) f cdv A outer s H E).nox (defBody s__law_is_made) b__law_is_made :=
  have S := sc__law_is_made
  (es_cons (es_if (et_cmp (op_neA (hu64 hr)) l_ne (ee_callC C__law_truths hr (by first | decide | omega) (by rfl) (ea_cons (ee_var 2 (pv 2)) ea_nil)) (ee_pure (ef_comp (own := [("_law_at", 3)]) (g := (gName 3)) rfl S.nd (blkOk_by (N := N__law_is_made) (sc := defScope s__law_is_made) (by decide +kernel)) (tgt_name (by decide)) (ei_range1 (by rfl) T.range (ea_cons ee_int ea_nil) (by intro ρ S ps S' h; exact aLen1 h)) (fun _ _ _ _ _ => pg_name (i := 3) S.nd rfl (Or.inl rfl)) (fun _ _ _ _ _ => ei_none) (fun _ _ _ _ _ => (ee_or (ee_cmp (op_eqA (hu64 hr)) l_eq (ee_var 3 (pv 3)) (ee_var 0 (pv 0)) (nomark _)) (ee_one (ee_chain (op_lt) l_lt (op_lt) l_lt ee_int (ee_var 3 (pv 3)) ee_int (by with_unfolding_all rfl) pure_gLt)))))) (nomark _)) (es_one (es_ret ee_bl)) es_nil) (es_cons (es_if (et_cmp (op_eqA (hu64 hr)) l_eq (ee_var 0 (pv 0)) ee_int (nomark _)) (es_one (es_ret (ee_cmp (op_eqA (hu64 hr)) l_eq (ee_callB (call_reprU EC.sys (by exact gd) (room_repr hr)) l_reprD (by rfl) T.repr (by decide +kernel) (ea_cons (ee_fldV EC.fl_place (ee_var 2 (pv 2))) ea_nil)) (ee_callB (call_reprU EC.sys (by exact gd) (room_repr hr)) l_reprD (by rfl) T.repr (by decide +kernel) (ea_cons (ee_var 1 (pv 1)) ea_nil)) (nomark _)))) es_nil) (es_cons (es_if (et_cmp (op_lt) l_lt (ee_var 0 (pv 0)) ee_int (nomark _)) (es_one (es_ret (ee_cmp (op_eqA (hu64 hr)) l_eq (ee_callB (call_reprU EC.sys (by exact gd) (room_repr hr)) l_reprD (by rfl) T.repr (by decide +kernel) (ea_cons (ee_fldV EC.fl_given (ee_var 2 (pv 2))) ea_nil)) (ee_callB (call_reprU EC.sys (by exact gd) (room_repr hr)) l_reprD (by rfl) T.repr (by decide +kernel) (ea_cons (ee_var 1 (pv 1)) ea_nil)) (nomark _)))) es_nil) (es_one (es_ret (ee_or (ee_cmp (op_gt) l_gt (ee_var 0 (pv 0)) ee_int (nomark _)) (ee_one (ee_cmp (op_eqA (hu64 hr)) l_eq (ee_callB (call_reprU EC.sys (by exact gd) (room_repr hr)) l_reprD (by rfl) T.repr (by decide +kernel) (ea_cons (ee_fldV EC.fl_index (ee_var 2 (pv 2))) ea_nil)) (ee_callB (call_reprU EC.sys (by exact gd) (room_repr hr)) l_reprD (by rfl) T.repr (by decide +kernel) (ea_cons (ee_var 1 (pv 1)) ea_nil)) (nomark _)))))))))
theorem c__law_is_made {f : Addr} {fd : FuncData} (hm : mg "_law_is_made" = some (.ref f)) (F : FunD K "_law_is_made" "_law_is_made" (defArgs s__law_is_made) (defBody s__law_is_made) (defScope s__law_is_made) [] [] f fd) (T : Txt K w mg) (ha : He.fAd K ("_law_is_made", none) = f) (EC : Errs P w K mg base) (C__law_truths : Cal P w K mg base 3 "_law_truths" p__law_truths (spM K m__law_truths)) : CalG P w K mg base 4 "_law_is_made" p__law_is_made (spM K m__law_is_made) :=
  calg_of hm F (fun _ _ _ _ _ _ us hl => match us, hl with | [_, _, _], _ => rfl) (fn_defG (p := ("_law_is_made", none)) F ha sc__law_is_made fun A outer s H E gd hr => e__law_is_made T EC C__law_truths (.ref (He.codeOf K ("_law_is_made", none))) A outer s H E gd hr)
abbrev N__law_by_name : List Str := ["_law_number_here", "_law_thing"]
abbrev p__law_by_name : List Str := ["_law_number_here", "_law_thing"]
theorem sc__law_by_name : FnScope N__law_by_name p__law_by_name (defScope s__law_by_name) := ⟨rfl, rfl, rfl, by decide +kernel, rfl, by decide +kernel, by decide +kernel⟩
def b__law_by_name : Es := (sSeq (sIf (tV (eOp gEq (eVar 0) (eC (.int 0)))) (sRet (eMkE "InvalidText" "place" (aCons (eVar 1) aNil))) sNil) (sSeq (sIf (tV (eOp gEq (eVar 0) (eC (.int 1)))) (sRet (eMkE "InvalidTerm" "given" (aCons (eVar 1) aNil))) sNil) (sSeq (sIf (tV (eOp gEq (eVar 0) (eC (.int 2)))) (sRet (eMkE "InvalidSource" "given" (aCons (eVar 1) aNil))) sNil) (sSeq (sIf (tV (eOp gEq (eVar 0) (eC (.int 3)))) (sRet (eMkE "InvalidProgram" "given" (aCons (eVar 1) aNil))) sNil) (sSeq (sIf (tV (eOp gEq (eVar 0) (eC (.int 4)))) (sRet (eMkE "InvalidNumber" "given" (aCons (eVar 1) aNil))) sNil) (sSeq (sIf (tV (eOp gEq (eVar 0) (eC (.int 5)))) (sRet (eMkE "InvalidName" "given" (aCons (eVar 1) aNil))) sNil) (sSeq (sIf (tV (eOp gEq (eVar 0) (eC (.int 6)))) (sRet (eMkE "InvalidPlace" "given" (aCons (eVar 1) aNil))) sNil) (sSeq (sIf (tV (eOp gEq (eVar 0) (eC (.int 7)))) (sRet (eMkE "InvalidRows" "given" (aCons (eVar 1) aNil))) sNil) (sSeq (sIf (tV (eOp gEq (eVar 0) (eC (.int 8)))) (sRet (eMkE "InvalidSizes" "given" (aCons (eVar 1) aNil))) sNil) (sSeq (sIf (tV (eOp gEq (eVar 0) (eC (.int 9)))) (sRet (eMkE "InvalidBook" "index" (aCons (eVar 1) aNil))) sNil) (sSeq (sIf (tV (eOp gEq (eVar 0) (eC (.int 10)))) (sRet (eMkE "InvalidParts" "index" (aCons (eVar 1) aNil))) sNil) (sSeq (sIf (tV (eOp gEq (eVar 0) (eC (.int 11)))) (sRet (eMkE "InvalidWays" "index" (aCons (eVar 1) aNil))) sNil) (sSeq (sIf (tV (eOp gEq (eVar 0) (eC (.int 12)))) (sRet (eMkE "InvalidNames" "index" (aCons (eVar 1) aNil))) sNil) (sSeq (sIf (tV (eOp gEq (eVar 0) (eC (.int 13)))) (sRet (eMkE "InvalidMemory" "index" (aCons (eVar 1) aNil))) sNil) (sSeq (sIf (tV (eOp gEq (eVar 0) (eC (.int 14)))) (sRet (eMkE "InvalidDevice" "index" (aCons (eVar 1) aNil))) sNil) (sSeq (sIf (tV (eOp gEq (eVar 0) (eC (.int 15)))) (sRet (eMkE "InvalidWrites" "index" (aCons (eVar 1) aNil))) sNil) (sSeq (sIf (tV (eOp gEq (eVar 0) (eC (.int 16)))) (sRet (eMkE "NoValue" "index" (aCons (eVar 1) aNil))) sNil) (sRet (eMkE "BadRows" "index" (aCons (eVar 1) aNil))))))))))))))))))))
def m__law_by_name : Fn := mkDef 2 2 b__law_by_name
set_option maxHeartbeats 4000000 in
theorem e__law_by_name {f : Addr} (T : Txt K w mg) (EC : Errs P w K mg base) (cdv : Value) (A : Around) (outer : List PySem.Env) (s : Shared) (H : Hp) (E : XK) (hr : Room 2 (A.deeper (envOfC "_law_by_name" (defScope s__law_by_name) s.heap.objs.size f cdv))) :
    ESs (cxOf CX0 P w K mg base N__law_by_name "_law_by_name" (defScope s__law_by_name) f cdv A outer s H E).nox (defBody s__law_by_name) b__law_by_name :=
  have S := sc__law_by_name
  (es_cons (es_if (et_cmp (op_eqA (hu64 hr)) l_eq (ee_var 0 (pv 0)) ee_int (nomark _)) (es_one (es_ret (ee_mkEK EC.G_InvalidText hr (by first | decide | omega) (by rfl) (ee_var 1 (pv 1))))) es_nil) (es_cons (es_if (et_cmp (op_eqA (hu64 hr)) l_eq (ee_var 0 (pv 0)) ee_int (nomark _)) (es_one (es_ret (ee_mkEK EC.G_InvalidTerm hr (by first | decide | omega) (by rfl) (ee_var 1 (pv 1))))) es_nil) (es_cons (es_if (et_cmp (op_eqA (hu64 hr)) l_eq (ee_var 0 (pv 0)) ee_int (nomark _)) (es_one (es_ret (ee_mkEK EC.G_InvalidSource hr (by first | decide | omega) (by rfl) (ee_var 1 (pv 1))))) es_nil) (es_cons (es_if (et_cmp (op_eqA (hu64 hr)) l_eq (ee_var 0 (pv 0)) ee_int (nomark _)) (es_one (es_ret (ee_mkEK EC.G_InvalidProgram hr (by first | decide | omega) (by rfl) (ee_var 1 (pv 1))))) es_nil) (es_cons (es_if (et_cmp (op_eqA (hu64 hr)) l_eq (ee_var 0 (pv 0)) ee_int (nomark _)) (es_one (es_ret (ee_mkEK EC.G_InvalidNumber hr (by first | decide | omega) (by rfl) (ee_var 1 (pv 1))))) es_nil) (es_cons (es_if (et_cmp (op_eqA (hu64 hr)) l_eq (ee_var 0 (pv 0)) ee_int (nomark _)) (es_one (es_ret (ee_mkEK EC.G_InvalidName hr (by first | decide | omega) (by rfl) (ee_var 1 (pv 1))))) es_nil) (es_cons (es_if (et_cmp (op_eqA (hu64 hr)) l_eq (ee_var 0 (pv 0)) ee_int (nomark _)) (es_one (es_ret (ee_mkEK EC.G_InvalidPlace hr (by first | decide | omega) (by rfl) (ee_var 1 (pv 1))))) es_nil) (es_cons (es_if (et_cmp (op_eqA (hu64 hr)) l_eq (ee_var 0 (pv 0)) ee_int (nomark _)) (es_one (es_ret (ee_mkEK EC.G_InvalidRows hr (by first | decide | omega) (by rfl) (ee_var 1 (pv 1))))) es_nil) (es_cons (es_if (et_cmp (op_eqA (hu64 hr)) l_eq (ee_var 0 (pv 0)) ee_int (nomark _)) (es_one (es_ret (ee_mkEK EC.G_InvalidSizes hr (by first | decide | omega) (by rfl) (ee_var 1 (pv 1))))) es_nil) (es_cons (es_if (et_cmp (op_eqA (hu64 hr)) l_eq (ee_var 0 (pv 0)) ee_int (nomark _)) (es_one (es_ret (ee_mkEK EC.G_InvalidBook hr (by first | decide | omega) (by rfl) (ee_var 1 (pv 1))))) es_nil) (es_cons (es_if (et_cmp (op_eqA (hu64 hr)) l_eq (ee_var 0 (pv 0)) ee_int (nomark _)) (es_one (es_ret (ee_mkEK EC.G_InvalidParts hr (by first | decide | omega) (by rfl) (ee_var 1 (pv 1))))) es_nil) (es_cons (es_if (et_cmp (op_eqA (hu64 hr)) l_eq (ee_var 0 (pv 0)) ee_int (nomark _)) (es_one (es_ret (ee_mkEK EC.G_InvalidWays hr (by first | decide | omega) (by rfl) (ee_var 1 (pv 1))))) es_nil) (es_cons (es_if (et_cmp (op_eqA (hu64 hr)) l_eq (ee_var 0 (pv 0)) ee_int (nomark _)) (es_one (es_ret (ee_mkEK EC.G_InvalidNames hr (by first | decide | omega) (by rfl) (ee_var 1 (pv 1))))) es_nil) (es_cons (es_if (et_cmp (op_eqA (hu64 hr)) l_eq (ee_var 0 (pv 0)) ee_int (nomark _)) (es_one (es_ret (ee_mkEK EC.G_InvalidMemory hr (by first | decide | omega) (by rfl) (ee_var 1 (pv 1))))) es_nil) (es_cons (es_if (et_cmp (op_eqA (hu64 hr)) l_eq (ee_var 0 (pv 0)) ee_int (nomark _)) (es_one (es_ret (ee_mkEK EC.G_InvalidDevice hr (by first | decide | omega) (by rfl) (ee_var 1 (pv 1))))) es_nil) (es_cons (es_if (et_cmp (op_eqA (hu64 hr)) l_eq (ee_var 0 (pv 0)) ee_int (nomark _)) (es_one (es_ret (ee_mkEK EC.G_InvalidWrites hr (by first | decide | omega) (by rfl) (ee_var 1 (pv 1))))) es_nil) (es_cons (es_if (et_cmp (op_eqA (hu64 hr)) l_eq (ee_var 0 (pv 0)) ee_int (nomark _)) (es_one (es_ret (ee_mkEK EC.G_NoValue hr (by first | decide | omega) (by rfl) (ee_var 1 (pv 1))))) es_nil) (es_one (es_ret (ee_mkEK EC.G_BadRows hr (by first | decide | omega) (by rfl) (ee_var 1 (pv 1))))))))))))))))))))))
theorem c__law_by_name {f : Addr} {fd : FuncData} (hm : mg "_law_by_name" = some (.ref f)) (F : FunD K "_law_by_name" "_law_by_name" (defArgs s__law_by_name) (defBody s__law_by_name) (defScope s__law_by_name) [] [] f fd) (T : Txt K w mg) (EC : Errs P w K mg base) : Cal P w K mg base 3 "_law_by_name" p__law_by_name (spM K m__law_by_name) :=
  cal_of hm F (fun _ _ _ _ _ _ us hl => match us, hl with | [_, _], _ => rfl) (fun _ _ _ _ _ _ us hl => match us, hl with | [_, _], _ => rfl) (fn_def F sc__law_by_name fun cdv A outer s H E hr => e__law_by_name T EC  cdv A outer s H E hr)
abbrev N__law_right : List Str := ["_law_well_here", "_law_thing", "_law_number_here", "_law_error"]
abbrev p__law_right : List Str := ["_law_well_here"]
theorem sc__law_right : FnScope N__law_right p__law_right (defScope s__law_right) := ⟨rfl, rfl, rfl, by decide +kernel, rfl, by decide +kernel, by decide +kernel⟩
def b__law_right : Es := (sSeq (sSet 1 (eArgs m__law_odd (aCons (eVar 0) aNil))) (sSeq (sIf (tV (eOp gEq (eArgs m__law_draw (aCons (eVar 0) (aCons (eC (.int 2)) aNil))) (eC (.int 0)))) (sSet 1 (eArgs (m__law_bent 80) (aCons (eVar 0) (aCons (eArgs (m__law_tree 40) (aCons (eVar 0) (aCons (eArgs gTupP aNil) (aCons (eC (.int 0)) (aCons (eNew (eArgs gLstP (aCons (eC (.int 6)) aNil))) (aCons (eC (.int 2)) (aCons (eC (.int 2)) aNil))))))) aNil)))) sNil) (sSeq (sFor (iArgs gRange (aCons (eC (.int 26)) aNil)) (nName 2) (sSeq (sSet 3 (eIf (tV (eOp gLt (eVar 2) (eC (.int 13)))) (eArgs m__law_by_place (aCons (eVar 2) (aCons (eVar 1) aNil))) (eArgs m__law_further (aCons (eVar 2) (aCons (eVar 1) aNil))))) (sIf (tNotE (tT (eArgs m__law_is_made (aCons (eVar 2) (aCons (eVar 1) (aCons (eVar 3) aNil)))))) (sRet (eC (.bl false))) sNil))) (sRet (eArgs gAll (aCons (fComp (iArgs gRange (aCons (eC (.int 18)) aNil)) (nName 2) tYesE (eArgs m__law_is_made (aCons (eVar 2) (aCons (eVar 1) (aCons (eArgs m__law_by_name (aCons (eVar 2) (aCons (eVar 1) aNil))) aNil)))) [2]) aNil))))))
def m__law_right : Fn := mkDef 1 4 b__law_right
set_option maxHeartbeats 4000000 in
theorem e__law_right {f : Addr} (T : Txt K w mg) (C__law_bent : Cal P w K mg base 83 "_law_bent" p__law_bent (spM K (m__law_bent 80))) (C__law_by_name : Cal P w K mg base 3 "_law_by_name" p__law_by_name (spM K m__law_by_name)) (C__law_by_place : Cal P w K mg base 3 "_law_by_place" p__law_by_place (spM K m__law_by_place)) (C__law_draw : Cal P w K mg base 1 "_law_draw" p__law_draw (spM K m__law_draw)) (C__law_further : Cal P w K mg base 3 "_law_further" p__law_further (spM K m__law_further)) (C__law_is_made : CalG P w K mg base 4 "_law_is_made" p__law_is_made (spM K m__law_is_made)) (C__law_odd : Cal P w K mg base 3 "_law_odd" p__law_odd (spM K m__law_odd)) (C__law_tree : Cal P w K mg base 42 "_law_tree" p__law_tree (spM K (m__law_tree 40))) (cdv : Value) (A : Around) (outer : List PySem.Env) (s : Shared) (H : Hp) (E : XK) (gd : A.guards = some []) (hr : Room 83 (A.deeper (envOfC "_law_right" (defScope s__law_right) s.heap.objs.size f cdv))) :
    ESs (cxOf CX0 P w K mg base N__law_right "_law_right" (defScope s__law_right) f cdv A outer s H E).nox (defBody s__law_right) b__law_right :=
  have S := sc__law_right
  (es_cons (es_set (ps_set (i := 1) S.nd rfl (Or.inr rfl) (ee_callC C__law_odd hr (by first | decide | omega) (by rfl) (ea_cons (ee_var 0 (pv 0)) ea_nil)))) (es_cons (es_if (et_cmp (op_eqA (hu64 hr)) l_eq (ee_callC C__law_draw hr (by first | decide | omega) (by rfl) (ea_cons (ee_var 0 (pv 0)) (ea_cons ee_int ea_nil))) ee_int (nomark _)) (es_one (es_set (ps_set (i := 1) S.nd rfl (Or.inr rfl) (ee_callC C__law_bent hr (by first | decide | omega) (by rfl) (ea_cons (ee_var 0 (pv 0)) (ea_cons (ee_callC C__law_tree hr (by first | decide | omega) (by rfl) (ea_cons (ee_var 0 (pv 0)) (ea_cons (ee_tup ea_nil) (ea_cons ee_int (ea_cons (ee_new (ef_lst (ea_cons ee_int ea_nil))) (ea_cons ee_int (ea_cons ee_int ea_nil))))))) ea_nil)))))) es_nil) (es_cons (es_for PassesOwn.never rfl (ei_range1 (by rfl) T.range (ea_cons ee_int ea_nil) (by intro ρ S ps S' h; exact aLen1 h)) (eg_name (pg_name (i := 2) S.nd rfl (Or.inl rfl))) (es_cons (es_set (ps_set (i := 3) S.nd rfl (Or.inl rfl) (ee_if (et_cmp (op_lt) l_lt (ee_var 2 (pv 2)) ee_int (nomark _)) (ee_callC C__law_by_place hr (by first | decide | omega) (by rfl) (ea_cons (ee_var 2 (pv 2)) (ea_cons (ee_var 1 (pv 1)) ea_nil))) (ee_callC C__law_further hr (by first | decide | omega) (by rfl) (ea_cons (ee_var 2 (pv 2)) (ea_cons (ee_var 1 (pv 1)) ea_nil)))))) (es_one (es_if (et_not (et_truth (ee_callG gd C__law_is_made hr (by first | decide | omega) (by rfl) (ea_cons (ee_var 2 (pv 2)) (ea_cons (ee_var 1 (pv 1)) (ea_cons (ee_var 3 (pv 3)) ea_nil)))))) (es_one (es_ret ee_bl)) es_nil)))) (es_one (es_ret (ee_callB (cr_all rfl) l_all (by rfl) T.all (by decide +kernel) (ea_cons (ee_pure (ef_comp (own := [("_law_number_here", 2)]) (g := (gName 2)) rfl S.nd (blkOk_by (N := N__law_right) (sc := defScope s__law_right) (by decide +kernel)) (tgt_name (by decide)) (ei_range1 (by rfl) T.range (ea_cons ee_int ea_nil) (by intro ρ S ps S' h; exact aLen1 h)) (fun _ _ _ _ _ => pg_name (i := 2) S.nd rfl (Or.inl rfl)) (fun _ _ _ _ _ => ei_none) (fun _ _ _ _ _ => (ee_callG gd C__law_is_made hr (by first | decide | omega) (by rfl) (ea_cons (ee_var 2 (pv 2)) (ea_cons (ee_var 1 (pv 1)) (ea_cons (ee_callC C__law_by_name hr (by first | decide | omega) (by rfl) (ea_cons (ee_var 2 (pv 2)) (ea_cons (ee_var 1 (pv 1)) ea_nil))) ea_nil))))))) ea_nil)))))))
theorem c__law_right {f : Addr} {fd : FuncData} (hm : mg "_law_right" = some (.ref f)) (F : FunD K "_law_right" "_law_right" (defArgs s__law_right) (defBody s__law_right) (defScope s__law_right) [] [] f fd) (T : Txt K w mg) (ha : He.fAd K ("_law_right", none) = f) (C__law_bent : Cal P w K mg base 83 "_law_bent" p__law_bent (spM K (m__law_bent 80))) (C__law_by_name : Cal P w K mg base 3 "_law_by_name" p__law_by_name (spM K m__law_by_name)) (C__law_by_place : Cal P w K mg base 3 "_law_by_place" p__law_by_place (spM K m__law_by_place)) (C__law_draw : Cal P w K mg base 1 "_law_draw" p__law_draw (spM K m__law_draw)) (C__law_further : Cal P w K mg base 3 "_law_further" p__law_further (spM K m__law_further)) (C__law_is_made : CalG P w K mg base 4 "_law_is_made" p__law_is_made (spM K m__law_is_made)) (C__law_odd : Cal P w K mg base 3 "_law_odd" p__law_odd (spM K m__law_odd)) (C__law_tree : Cal P w K mg base 42 "_law_tree" p__law_tree (spM K (m__law_tree 40))) : CalG P w K mg base 84 "_law_right" p__law_right (spM K m__law_right) :=
  calg_of hm F (fun _ _ _ _ _ _ us hl => match us, hl with | [_], _ => rfl) (fn_defG (p := ("_law_right", none)) F ha sc__law_right fun A outer s H E gd hr => e__law_right T C__law_bent C__law_by_name C__law_by_place C__law_draw C__law_further C__law_is_made C__law_odd C__law_tree (.ref (He.codeOf K ("_law_right", none))) A outer s H E gd hr)
abbrev N__law_well : List Str := ["_law_script", "_law_turn", "_law_mixed", "_law_cell", "_law_own"]
abbrev p__law_well : List Str := ["_law_script", "_law_turn"]
theorem sc__law_well : FnScope N__law_well p__law_well (defScope s__law_well) := ⟨rfl, rfl, rfl, by decide +kernel, rfl, by decide +kernel, by decide +kernel⟩
def b__law_well : Es := (sSeq (sSet 2 (eOp gAdd (eC (.int 2718281)) (eOp gMul (eC (.int 9973)) (eVar 1)))) (sSeq (sFor (iSeq (fSl (eVar 0) oNone (oSome (eC (.int 7))))) (nName 3) (sSet 2 (eOp gMod (eArgs gInt (aCons (eOp gAdd (eOp gAdd (eOp gMul (eVar 2) (eC (.int 51787))) (eOp gMod (eArgs gInt (aCons (eVar 3) aNil)) (eC (.int 2147483549)))) (eC (.int 11))) aNil)) (eC (.int 2147483579))))) (sSeq (sSet 4 (eIf (tV (eOp gLt (eVar 1) (eArgs gLen (aCons (eVar 0) aNil)))) (eArgs gInt (aCons (eOp gIx (eVar 0) (eVar 1)) aNil)) (eC (.int 0)))) (sSeq (sSet 2 (eOp gMod (eArgs gInt (aCons (eOp gAdd (eOp gAdd (eOp gMul (eVar 2) (eC (.int 39119))) (eOp gMul (eOp gMod (eArgs gInt (aCons (eVar 4) aNil)) (eC (.int 2147483549))) (eC (.int 27011)))) (eC (.int 3))) aNil)) (eC (.int 2147483579)))) (sRet (eNew (eArgs gLstP (aCons (eIf (tOrE (tV (eOp gLt (eVar 4) (eC (.int 0)))) (tV (eOp gGe (eVar 4) (eOp gPow (eC (.int 10)) (eC (.int 14)))))) (eArgs gAbs (aCons (eVar 4) aNil)) (eC (.int 0))) (aCons (eVar 2) (aCons (eC (.int 0)) aNil))))))))))
def m__law_well : Fn := mkNew 2 5 b__law_well
set_option maxHeartbeats 4000000 in
theorem e__law_well {f : Addr} (T : Txt K w mg) (cdv : Value) (A : Around) (outer : List PySem.Env) (s : Shared) (H : Hp) (E : XK) (hr : Room 0 (A.deeper (envOfC "_law_well" (defScope s__law_well) s.heap.objs.size f cdv))) :
    ESs (cxOf CX0 P w K mg base N__law_well "_law_well" (defScope s__law_well) f cdv A outer s H E).nox (defBody s__law_well) b__law_well :=
  have S := sc__law_well
  (es_cons (es_set (ps_set (i := 2) S.nd rfl (Or.inl rfl) (ee_op op_addA l_add ee_int (ee_op op_mul l_mul ee_int (ee_var 1 (pv 1)))))) (es_cons (es_for PassesOwn.never rfl (ei_seq (ee_pure (ef_sl (ee_var 0 (pv 0)) eo_none (eo_some ee_int)))) (eg_name (pg_name (i := 3) S.nd rfl (Or.inl rfl))) (es_one (es_set (ps_set (i := 2) S.nd rfl (Or.inl rfl) (ee_op op_mod l_mod (ee_callTy call_int1 l_int (by rfl) T.int (by decide +kernel) (ea_cons (ee_op op_addA l_add (ee_op op_addA l_add (ee_op op_mul l_mul (ee_var 2 (pv 2)) ee_int) (ee_op op_mod l_mod (ee_callTy call_int1 l_int (by rfl) T.int (by decide +kernel) (ea_cons (ee_var 3 (pv 3)) ea_nil)) ee_int)) ee_int) ea_nil)) ee_int))))) (es_cons (es_set (ps_set (i := 4) S.nd rfl (Or.inl rfl) (ee_if (et_cmp (op_lt) l_lt (ee_var 1 (pv 1)) (ee_callB call_lenA l_len (by rfl) T.len (by decide +kernel) (ea_cons (ee_var 0 (pv 0)) ea_nil)) (nomark _)) (ee_callTy call_int1 l_int (by rfl) T.int (by decide +kernel) (ea_cons (ee_ix (ee_var 0 (pv 0)) (ee_var 1 (pv 1)) (fun _ _ => rfl)) ea_nil)) ee_int))) (es_cons (es_set (ps_set (i := 2) S.nd rfl (Or.inl rfl) (ee_op op_mod l_mod (ee_callTy call_int1 l_int (by rfl) T.int (by decide +kernel) (ea_cons (ee_op op_addA l_add (ee_op op_addA l_add (ee_op op_mul l_mul (ee_var 2 (pv 2)) ee_int) (ee_op op_mul l_mul (ee_op op_mod l_mod (ee_callTy call_int1 l_int (by rfl) T.int (by decide +kernel) (ea_cons (ee_var 4 (pv 4)) ea_nil)) ee_int) ee_int)) ee_int) ea_nil)) ee_int))) (es_one (es_ret (ee_new (ef_lst (ea_cons (ee_if (et_w (ew_or (et_cmp (op_lt) l_lt (ee_var 4 (pv 4)) ee_int (nomark _)) (ew_or1 (et_cmp (op_ge) l_ge (ee_var 4 (pv 4)) (ee_op op_pow l_pow ee_int ee_int) (nomark _))))) (ee_callB call_abs l_abs (by rfl) T.abs (by decide +kernel) (ea_cons (ee_var 4 (pv 4)) ea_nil)) ee_int) (ea_cons (ee_var 2 (pv 2)) (ea_cons ee_int ea_nil)))))))))))
theorem c__law_well {f : Addr} {fd : FuncData} (hm : mg "_law_well" = some (.ref f)) (F : FunD K "_law_well" "_law_well" (defArgs s__law_well) (defBody s__law_well) (defScope s__law_well) [] [] f fd) (T : Txt K w mg) : Cal P w K mg base 1 "_law_well" p__law_well (spN K m__law_well) :=
  cal_of hm F (fun _ _ _ _ _ _ us hl => match us, hl with | [_, _], _ => rfl) (fun _ _ _ _ _ _ us hl => match us, hl with | [_, _], _ => rfl) (fn_new F sc__law_well fun cdv A outer s H E hr => e__law_well T  cdv A outer s H E hr)
abbrev N_law : List Str := ["_law_script", "_law_turn"]
abbrev p_law : List Str := ["_law_script"]
theorem sc_law : FnScope N_law p_law (defScope s_law) := ⟨rfl, rfl, rfl, by decide +kernel, rfl, by decide +kernel, by decide +kernel⟩
def b_law : Es := (sRet (eArgs gAll (aCons (fComp (iArgs gRange (aCons (eArgs gMax2 (aCons (eC (.int 2)) (aCons (eArgs gMin2 (aCons (eArgs gLen (aCons (eVar 0) aNil)) (aCons (eC (.int 3)) aNil))) aNil))) aNil)) (nName 1) tYesE (eArgs m__law_right (aCons (eNew (eArgs m__law_well (aCons (eVar 0) (aCons (eVar 1) aNil)))) aNil)) [1]) aNil)))
def m_law : Fn := mkDef 1 2 b_law
set_option maxHeartbeats 4000000 in
theorem e_law {f : Addr} (T : Txt K w mg) (C__law_right : CalG P w K mg base 84 "_law_right" p__law_right (spM K m__law_right)) (C__law_well : Cal P w K mg base 1 "_law_well" p__law_well (spN K m__law_well)) (cdv : Value) (A : Around) (outer : List PySem.Env) (s : Shared) (H : Hp) (E : XK) (gd : A.guards = some []) (hr : Room 84 (A.deeper (envOfC "law" (defScope s_law) s.heap.objs.size f cdv))) :
    ESs (cxOf CX0 P w K mg base N_law "law" (defScope s_law) f cdv A outer s H E).nox (defBody s_law) b_law :=
  have S := sc_law
  (es_one (es_ret (ee_callB (cr_all rfl) l_all (by rfl) T.all (by decide +kernel) (ea_cons (ee_pure (ef_comp (own := [("_law_turn", 1)]) (g := (gName 1)) rfl S.nd (blkOk_by (N := N_law) (sc := defScope s_law) (by decide +kernel)) (tgt_name (by decide)) (ei_range1 (by rfl) T.range (ea_cons (ee_callB (call_max2 rfl) l_max2 (by rfl) T.max (by decide +kernel) (ea_cons ee_int (ea_cons (ee_callB (call_min2 rfl) l_min2 (by rfl) T.min (by decide +kernel) (ea_cons (ee_callB call_lenA l_len (by rfl) T.len (by decide +kernel) (ea_cons (ee_var 0 (pv 0)) ea_nil)) (ea_cons ee_int ea_nil))) ea_nil))) ea_nil) (by intro ρ S ps S' h; exact aLen1 h)) (fun _ _ _ _ _ => pg_name (i := 1) S.nd rfl (Or.inl rfl)) (fun _ _ _ _ _ => ei_none) (fun _ _ _ _ _ => (ee_callG gd C__law_right hr (by first | decide | omega) (by rfl) (ea_cons (ee_new (ef_callC C__law_well hr (by first | decide | omega) (by rfl) (ea_cons (ee_var 0 (pv 0)) (ea_cons (ee_var 1 (pv 1)) ea_nil)))) ea_nil))))) ea_nil))))
end
end G01
set_option Elab.async false
set_option maxRecDepth 100000
set_option maxHeartbeats 4000000
set_option linter.all false
namespace G01
open PySem PySem.Spec PyProof.Rows L2 Py
def d_CORE_WORDS : List (Str × List Int) := [("fn", [1]), ("again", [2]), ("call", [0, 0]), ("pair", [0, 0]), ("plus", [0, 0]), ("minus", [0, 0]), ("times", [0, 0]), ("put", [0, 0]), ("first", [0]), ("second", [0]), ("box", [0]), ("look", [0]), ("say", [0]), ("test", [0, 0, 0])]
def ks_CORE_WORDS : List Str := ["fn", "again", "call", "pair", "plus", "minus", "times", "put", "first", "second", "box", "look", "say", "test"]
section
/-- what is asked of a value and of the store behind it; simp does not go into it -/
class Kt (α : Type) where
  f : α → Sto → Prop
def WPi {α : Type} (r : R α) [Q : Kt α] : Prop := match r with
  | .ok a S => Q.f a S
  | _ => False
abbrev WP {α : Type} (r : R α) (Q : α → Sto → Prop) : Prop := @WPi α r ⟨Q⟩
theorem wp_ok {α : Type} {a : α} {S : Sto} {Q : α → Sto → Prop} : @WPi α (.ok a S) ⟨Q⟩ = Q a S := rfl
theorem wp_no {α : Type} {Q : α → Sto → Prop} : @WPi α (.no : R α) ⟨Q⟩ = False := rfl
theorem wp_bind {α β : Type} {r : R α} {f : α → List PV → R β} {Q : β → Sto → Prop} : @WPi β (r.bind f) ⟨Q⟩ = @WPi α r ⟨fun a S => @WPi β (f a S) ⟨Q⟩⟩ := by
  cases r <;> rfl
theorem wp_of {α : Type} {r : R α} {Q Q' : α → Sto → Prop} (h : WP r Q) (f : ∀ a S, Q a S → Q' a S) : WP r Q' := by
  cases r with
  | ok a S => exact f a S h
  | er => exact h
  | no => exact h
theorem WP.ex {α : Type} {r : R α} {Q : α → Sto → Prop} (h : WP r Q) : ∃ a S, r = .ok a S ∧ Q a S := by
  cases r with
  | ok a S => exact ⟨a, S, rfl, h⟩
  | er => exact h.elim
  | no => exact h.elim
def Well (S : Sto) (n : Nat) : Prop := ∃ a b c : Int, S[n]? = some (.lst [.int a, .int b, .int c])
/-- S' is S but for the well at n -/
structure Wl (n : Nat) (S S' : Sto) : Prop where
  len : S'.length = S.length
  same : ∀ i, i ≠ n → S'[i]? = S[i]?
  w : Well S' n
theorem Wl.set {n : Nat} {S : Sto} {a b c : Int} (h : n < S.length) : Wl n S (S.set n (.lst [.int a, .int b, .int c])) :=
  ⟨by simp, fun i hi => by rw [List.getElem?_set_ne (Ne.symm hi)], a, b, c, by simp [h]⟩
theorem Wl.refl {n : Nat} {S : Sto} (h : Well S n) : Wl n S S := ⟨rfl, fun _ _ => rfl, h⟩
theorem Wl.trans {n : Nat} {S S1 S2 : Sto} (h : Wl n S S1) (g : Wl n S1 S2) : Wl n S S2 := ⟨g.len.trans h.len, fun i hi => (g.same i hi).trans (h.same i hi), g.w⟩
theorem Well.lt {S : Sto} {n : Nat} (h : Well S n) : n < S.length := by
  obtain ⟨a, b, c, e⟩ := h
  exact (List.getElem?_eq_some_iff.mp e).1
theorem gMul_l {i j : Int} {S : Sto} (h1 : -18446744073709551616 < i) (h2 : i < 18446744073709551616) : gMul (.int i) (.int j) S = .ok (.int (i * j)) S := by
  unfold gMul; exact if_pos (.inl ⟨h1, h2⟩)
theorem gMul_r {i j : Int} {S : Sto} (h1 : -18446744073709551616 < j) (h2 : j < 18446744073709551616) : gMul (.int i) (.int j) S = .ok (.int (i * j)) S := by
  unfold gMul; exact if_pos (.inr ⟨h1, h2⟩)
theorem atI_nat {α : Type} {l : List α} {i : Nat} : atI l (i : Int) = l[i]? := by
  unfold atI ixN
  rw [if_pos (Int.natCast_nonneg i)]
  by_cases h : (i : Int) < l.length
  · rw [if_pos h]; rfl
  · rw [if_neg h]; simp; omega
theorem atI0 {α : Type} {x : α} {l : List α} : atI (x :: l) 0 = some x := atI_nat (i := 0)
theorem atI1 {α : Type} {x y : α} {l : List α} : atI (x :: y :: l) 1 = some y := atI_nat (i := 1)
theorem atI2 {α : Type} {x y z : α} {l : List α} : atI (x :: y :: z :: l) 2 = some z := atI_nat (i := 2)
theorem atI3 {α : Type} {x y z u : α} {l : List α} : atI (x :: y :: z :: u :: l) 3 = some u := atI_nat (i := 3)
theorem set_get {S : Sto} {n : Nat} {x : PV} (h : n < S.length) : (S.set n x)[n]? = some x := by simp [h]
theorem take_set {S : Sto} {n : Nat} {x : PV} : (S.set n x).take S.length = S.set n x := List.take_of_length_le (by simp)
theorem take_self {S : Sto} : S.take S.length = S := List.take_of_length_le (Nat.le_refl _)
theorem gEq_int {i j : Int} {S : Sto} : gEq (.int i) (.int j) S = .ok (.bl (decide (i = j))) S := rfl
theorem gEq_str {i j : Str} {S : Sto} : gEq (.str i) (.str j) S = .ok (.bl (decide (i = j))) S := rfl
theorem gEq_bl {i j : Bool} {S : Sto} : gEq (.bl i) (.bl j) S = .ok (.bl (decide (i = j))) S := rfl
theorem gNe_int {i j : Int} {S : Sto} : gNe (.int i) (.int j) S = .ok (.bl (!decide (i = j))) S := rfl
theorem gNe_str {i j : Str} {S : Sto} : gNe (.str i) (.str j) S = .ok (.bl (!decide (i = j))) S := rfl
theorem gNe_bl {i j : Bool} {S : Sto} : gNe (.bl i) (.bl j) S = .ok (.bl (!decide (i = j))) S := rfl
theorem finV_tup {n : Nat} {xs : List PV} {S : Sto} : finV n (.tup xs) S = .ok (.tup xs) (S.take n) := rfl
theorem finV_lst {n : Nat} {xs : List PV} {S : Sto} : finV n (.lst xs) S = .ok (.lst xs) (S.take n) := rfl
theorem finV_int {n : Nat} {i : Int} {S : Sto} : finV n (.int i) S = .ok (.int i) (S.take n) := rfl
theorem finV_bl {n : Nat} {i : Bool} {S : Sto} : finV n (.bl i) S = .ok (.bl i) (S.take n) := rfl
theorem finV_str {n : Nat} {i : Str} {S : Sto} : finV n (.str i) S = .ok (.str i) (S.take n) := rfl
theorem finV_non {n : Nat} {S : Sto} : finV n .non S = .ok .non (S.take n) := rfl
theorem finV_ref {n m : Nat} {S : Sto} : finV n (.ref m) S = if m < n then .ok (.ref m) (S.take n) else match S[m]? with
  | some o => .ok o (S.take n)
  | none => .no := rfl
theorem finV_pure {n : Nat} {p : PV} {S : Sto} (h : p.isRef = false) : finV n p S = .ok p (S.take n) := by
  cases p <;> first | rfl | cases h
theorem allPure_nil : allPure [] = true := rfl
theorem allPure_cons {p : PV} {ps : List PV} : allPure (p :: ps) = (!p.isRef && allPure ps) := rfl
theorem isRef_tup {xs : List PV} : (PV.tup xs).isRef = false := rfl
theorem isRef_int {i : Int} : (PV.int i).isRef = false := rfl
theorem isRef_str {i : Str} : (PV.str i).isRef = false := rfl
theorem isRef_bl {i : Bool} : (PV.bl i).isRef = false := rfl
theorem size_1000 {n : Nat} (h : n ≤ 5000) : n ≤ sizeLine := by unfold sizeLine; omega
theorem gTupP_ok {ps : List PV} {S : Sto} (h : allPure ps = true) (hl : ps.length ≤ 5000) : gTupP ps S = .ok (.tup ps) S := by
  unfold gTupP; exact if_pos ⟨h, size_1000 hl⟩
theorem gLstP_ok {ps : List PV} {S : Sto} (h : allPure ps = true) (hl : ps.length ≤ 5000) : gLstP ps S = .ok (.lst ps) S := by
  unfold gLstP; exact if_pos ⟨h, size_1000 hl⟩
theorem gAdd_int {i j : Int} {S : Sto} : gAdd (.int i) (.int j) S = .ok (.int (i + j)) S := rfl
theorem gAdd_tup {xs ys : List PV} {S : Sto} (h : xs.length + ys.length ≤ 5000) : gAdd (.tup xs) (.tup ys) S = .ok (.tup (xs ++ ys)) S := by
  show (if xs.length + ys.length ≤ sizeLine then _ else _) = _
  rw [if_pos (size_1000 h)]
theorem gLstP_nil {S : Sto} : gLstP [] S = .ok (.lst []) S := gLstP_ok rfl (by simp)
theorem gTupP_nil {S : Sto} : gTupP [] S = .ok (.tup []) S := gTupP_ok rfl (by simp)
theorem draw_ok {S : Sto} {n : Nat} {m : Int} (hw : Well S n) (hm : 0 < m) (hm2 : m < 1152921504606846976) : WP (m__law_draw [.ref n, .int m] S) fun p S' => ∃ k : Int, p = .int k ∧ 0 ≤ k ∧ k < m ∧ Wl n S S' := by
  have hl := hw.lt
  obtain ⟨a, b, c, e⟩ := hw
  unfold m__law_draw b__law_draw
  by_cases h0 : 0 < a
  · simp only [wp_ok, wp_no, ↓wp_bind, ↓R.bind_ok, ↓sSeq, ↓sNil, ↓sSet, ↓sAsg, ↓sIf, ↓sRet, ↓sExpr, ↓sPar, ↓sPar3, ↓sFor, ↓nName, ↓nTup, ↓nCons, ↓nNil, ↓nNs, ↓eVar, ↓eC, ↓eOp, ↓eUn, ↓eArgs, ↓eNew, ↓aCons, ↓aNil, ↓tV, ↓tT, toB, truP, ↓tNotE, ↓tAndE, ↓tOrE, ↓tYesE, ↓eAndV, ↓eOrV, ↓eNotV, ↓eNotT, ↓eIf, gAdd_int, gAdd_tup, Py.gSub, gMul_l, gMul_r, gMod, gFdiv, gNeg, gLt, gLe, gGt, gGe, gInt, gIx, gEq_int, gEq_str, gEq_bl, gNe_int, gNe_str, gNe_bl, gIsN, gNotN, getQ, getL, gSetL, ↓nSubL, gDivmod, gMin2, gMax2, ↓mkDef, ↓mkNew, startP, finF, finO, finV_tup, finV_int, finV_bl, finV_lst, finV_non, finV_str, finV_ref, ↓eChain, tyP, gIsi, isiB, ↓iArgs, ↓iSeq, iterP, ↓fComp, wipeP, ↓eSl, ↓oNone, ↓oSome, gSl, ↓eMeth0, ↓eMeth1, ixN, atI0, atI1, atI2, atI3, List.length_cons, List.length_nil, List.map_cons, List.map_nil, List.replicate, List.cons_append, List.nil_append, List.append_nil, List.getElem?_cons_zero, List.getElem?_cons_succ, List.getElem?_nil, List.set_cons_zero, List.set_cons_succ, List.set_nil, List.length_set, List.length_append, Nat.add_sub_cancel, Nat.reduceAdd, Nat.reduceSub, Nat.reduceLT, Nat.reduceEqDiff, Nat.reduceLeDiff, Nat.le_refl, Nat.zero_le, if_true, if_false, ↓reduceIte, decide_eq_true_eq, Bool.false_eq_true, Bool.true_eq_false, Bool.not_true, Bool.not_false, Option.isSome_some, forall_const, not_true_eq_false, not_false_eq_true, imp_self, false_implies, true_implies, implies_true, and_true, true_and, Int.toNat_zero, Nat.zero_add, Int.reduceLE, Int.reduceLT, Int.reduceNeg, Int.reduceToNat, Int.reducePow, Int.reduceGT, Int.cast_ofNat_Int, true_or, or_true, Int.ofNat_eq_natCast, decide_true, decide_false, Int.reduceEq, List.isEmpty_cons, List.isEmpty_nil, eDGet1,  keyP, Option.map_some, Option.map_none, Option.getD_some, Option.isSome_some, reduceCtorEq, and_self,  allPure_nil, allPure_cons, Bool.and_true, Bool.true_and, Bool.false_and, Bool.and_false, Bool.not_eq_true, Bool.not_eq_false, gTupP_nil, gLstP_nil, gTupP_ok, gLstP_ok, isRef_tup, isRef_int, isRef_str, isRef_bl, Bool.or_false, Bool.or_true, Bool.true_or, Bool.false_or, e, hm, hm2, h0, take_set]
    exact ⟨_, rfl, Int.emod_nonneg _ (by omega), Int.emod_lt_of_pos _ hm, Wl.set hl⟩
  · simp only [wp_ok, wp_no, ↓wp_bind, ↓R.bind_ok, ↓sSeq, ↓sNil, ↓sSet, ↓sAsg, ↓sIf, ↓sRet, ↓sExpr, ↓sPar, ↓sPar3, ↓sFor, ↓nName, ↓nTup, ↓nCons, ↓nNil, ↓nNs, ↓eVar, ↓eC, ↓eOp, ↓eUn, ↓eArgs, ↓eNew, ↓aCons, ↓aNil, ↓tV, ↓tT, toB, truP, ↓tNotE, ↓tAndE, ↓tOrE, ↓tYesE, ↓eAndV, ↓eOrV, ↓eNotV, ↓eNotT, ↓eIf, gAdd_int, gAdd_tup, Py.gSub, gMul_l, gMul_r, gMod, gFdiv, gNeg, gLt, gLe, gGt, gGe, gInt, gIx, gEq_int, gEq_str, gEq_bl, gNe_int, gNe_str, gNe_bl, gIsN, gNotN, getQ, getL, gSetL, ↓nSubL, gDivmod, gMin2, gMax2, ↓mkDef, ↓mkNew, startP, finF, finO, finV_tup, finV_int, finV_bl, finV_lst, finV_non, finV_str, finV_ref, ↓eChain, tyP, gIsi, isiB, ↓iArgs, ↓iSeq, iterP, ↓fComp, wipeP, ↓eSl, ↓oNone, ↓oSome, gSl, ↓eMeth0, ↓eMeth1, ixN, atI0, atI1, atI2, atI3, List.length_cons, List.length_nil, List.map_cons, List.map_nil, List.replicate, List.cons_append, List.nil_append, List.append_nil, List.getElem?_cons_zero, List.getElem?_cons_succ, List.getElem?_nil, List.set_cons_zero, List.set_cons_succ, List.set_nil, List.length_set, List.length_append, Nat.add_sub_cancel, Nat.reduceAdd, Nat.reduceSub, Nat.reduceLT, Nat.reduceEqDiff, Nat.reduceLeDiff, Nat.le_refl, Nat.zero_le, if_true, if_false, ↓reduceIte, decide_eq_true_eq, Bool.false_eq_true, Bool.true_eq_false, Bool.not_true, Bool.not_false, Option.isSome_some, forall_const, not_true_eq_false, not_false_eq_true, imp_self, false_implies, true_implies, implies_true, and_true, true_and, Int.toNat_zero, Nat.zero_add, Int.reduceLE, Int.reduceLT, Int.reduceNeg, Int.reduceToNat, Int.reducePow, Int.reduceGT, Int.cast_ofNat_Int, true_or, or_true, Int.ofNat_eq_natCast, decide_true, decide_false, Int.reduceEq, List.isEmpty_cons, List.isEmpty_nil, eDGet1,  keyP, Option.map_some, Option.map_none, Option.getD_some, Option.isSome_some, reduceCtorEq, and_self,  allPure_nil, allPure_cons, Bool.and_true, Bool.true_and, Bool.false_and, Bool.and_false, Bool.not_eq_true, Bool.not_eq_false, gTupP_nil, gLstP_nil, gTupP_ok, gLstP_ok, isRef_tup, isRef_int, isRef_str, isRef_bl, Bool.or_false, Bool.or_true, Bool.true_or, Bool.false_or, e, hm, hm2, h0, set_get hl, List.set_set]
    generalize hX : (b + 77003 * (c + 1)) % 2147483579 = X
    have x1 : -18446744073709551616 < X := by omega
    have x2 : X < 18446744073709551616 := by omega
    simp only [wp_ok, wp_no, ↓wp_bind, ↓R.bind_ok, ↓sSeq, ↓sNil, ↓sSet, ↓sAsg, ↓sIf, ↓sRet, ↓sExpr, ↓sPar, ↓sPar3, ↓sFor, ↓nName, ↓nTup, ↓nCons, ↓nNil, ↓nNs, ↓eVar, ↓eC, ↓eOp, ↓eUn, ↓eArgs, ↓eNew, ↓aCons, ↓aNil, ↓tV, ↓tT, toB, truP, ↓tNotE, ↓tAndE, ↓tOrE, ↓tYesE, ↓eAndV, ↓eOrV, ↓eNotV, ↓eNotT, ↓eIf, gAdd_int, gAdd_tup, Py.gSub, gMul_l, gMul_r, gMod, gFdiv, gNeg, gLt, gLe, gGt, gGe, gInt, gIx, gEq_int, gEq_str, gEq_bl, gNe_int, gNe_str, gNe_bl, gIsN, gNotN, getQ, getL, gSetL, ↓nSubL, gDivmod, gMin2, gMax2, ↓mkDef, ↓mkNew, startP, finF, finO, finV_tup, finV_int, finV_bl, finV_lst, finV_non, finV_str, finV_ref, ↓eChain, tyP, gIsi, isiB, ↓iArgs, ↓iSeq, iterP, ↓fComp, wipeP, ↓eSl, ↓oNone, ↓oSome, gSl, ↓eMeth0, ↓eMeth1, ixN, atI0, atI1, atI2, atI3, List.length_cons, List.length_nil, List.map_cons, List.map_nil, List.replicate, List.cons_append, List.nil_append, List.append_nil, List.getElem?_cons_zero, List.getElem?_cons_succ, List.getElem?_nil, List.set_cons_zero, List.set_cons_succ, List.set_nil, List.length_set, List.length_append, Nat.add_sub_cancel, Nat.reduceAdd, Nat.reduceSub, Nat.reduceLT, Nat.reduceEqDiff, Nat.reduceLeDiff, Nat.le_refl, Nat.zero_le, if_true, if_false, ↓reduceIte, decide_eq_true_eq, Bool.false_eq_true, Bool.true_eq_false, Bool.not_true, Bool.not_false, Option.isSome_some, forall_const, not_true_eq_false, not_false_eq_true, imp_self, false_implies, true_implies, implies_true, and_true, true_and, Int.toNat_zero, Nat.zero_add, Int.reduceLE, Int.reduceLT, Int.reduceNeg, Int.reduceToNat, Int.reducePow, Int.reduceGT, Int.cast_ofNat_Int, true_or, or_true, Int.ofNat_eq_natCast, decide_true, decide_false, Int.reduceEq, List.isEmpty_cons, List.isEmpty_nil, eDGet1,  keyP, Option.map_some, Option.map_none, Option.getD_some, Option.isSome_some, reduceCtorEq, and_self,  allPure_nil, allPure_cons, Bool.and_true, Bool.true_and, Bool.false_and, Bool.and_false, Bool.not_eq_true, Bool.not_eq_false, gTupP_nil, gLstP_nil, gTupP_ok, gLstP_ok, isRef_tup, isRef_int, isRef_str, isRef_bl, Bool.or_false, Bool.or_true, Bool.true_or, Bool.false_or, e, hm, hm2, h0, set_get hl, List.set_set, x1, x2, take_set]
    exact ⟨_, rfl, Int.emod_nonneg _ (by omega), Int.emod_lt_of_pos _ hm, Wl.set hl⟩
end
local macro_rules
  | `(tactic| simp! only [$a,*]) => `(tactic| simp only [wp_ok, wp_no, ↓wp_bind, ↓R.bind_ok, ↓sSeq, ↓sNil, ↓sSet, ↓sAsg, ↓sIf, ↓sRet, ↓sExpr, ↓sPar, ↓sPar3, ↓sFor, ↓nName, ↓nTup, ↓nCons, ↓nNil, ↓nNs, ↓eVar, ↓eC, ↓eOp, ↓eUn, ↓eArgs, ↓eNew, ↓aCons, ↓aNil, ↓tV, ↓tT, toB, truP, ↓tNotE, ↓tAndE, ↓tOrE, ↓tYesE, ↓eAndV, ↓eOrV, ↓eNotV, ↓eNotT, ↓eIf, gAdd_int, gAdd_tup, Py.gSub, gMul_l, gMul_r, gMod, gFdiv, gNeg, gLt, gLe, gGt, gGe, gInt, gIx, gEq_int, gEq_str, gEq_bl, gNe_int, gNe_str, gNe_bl, gIsN, gNotN, getQ, getL, gSetL, ↓nSubL, gDivmod, gMin2, gMax2, ↓mkDef, ↓mkNew, startP, finF, finO, finV_tup, finV_int, finV_bl, finV_lst, finV_non, finV_str, finV_ref, ↓eChain, tyP, gIsi, isiB, ↓iArgs, ↓iSeq, iterP, ↓fComp, wipeP, ↓eSl, ↓oNone, ↓oSome, gSl, ↓eMeth0, ↓eMeth1, ixN, atI0, atI1, atI2, atI3, List.length_cons, List.length_nil, List.map_cons, List.map_nil, List.replicate, List.cons_append, List.nil_append, List.append_nil, List.getElem?_cons_zero, List.getElem?_cons_succ, List.getElem?_nil, List.set_cons_zero, List.set_cons_succ, List.set_nil, List.length_set, List.length_append, Nat.add_sub_cancel, Nat.reduceAdd, Nat.reduceSub, Nat.reduceLT, Nat.reduceEqDiff, Nat.reduceLeDiff, Nat.le_refl, Nat.zero_le, if_true, if_false, ↓reduceIte, decide_eq_true_eq, Bool.false_eq_true, Bool.true_eq_false, Bool.not_true, Bool.not_false, Option.isSome_some, forall_const, not_true_eq_false, not_false_eq_true, imp_self, false_implies, true_implies, implies_true, and_true, true_and, Int.toNat_zero, Nat.zero_add, Int.reduceLE, Int.reduceLT, Int.reduceNeg, Int.reduceToNat, Int.reducePow, Int.reduceGT, Int.cast_ofNat_Int, true_or, or_true, Int.ofNat_eq_natCast, decide_true, decide_false, Int.reduceEq, List.isEmpty_cons, List.isEmpty_nil, eDGet1,  keyP, Option.map_some, Option.map_none, Option.getD_some, Option.isSome_some, reduceCtorEq, and_self,  allPure_nil, allPure_cons, Bool.and_true, Bool.true_and, Bool.false_and, Bool.and_false, Bool.not_eq_true, Bool.not_eq_false, gTupP_nil, gLstP_nil, gTupP_ok, gLstP_ok, isRef_tup, isRef_int, isRef_str, isRef_bl, Bool.or_false, Bool.or_true, Bool.true_or, Bool.false_or, $a,*])
  | `(tactic| simp! only [$a,*] at $h:ident) => `(tactic| simp only [wp_ok, wp_no, ↓wp_bind, ↓R.bind_ok, ↓sSeq, ↓sNil, ↓sSet, ↓sAsg, ↓sIf, ↓sRet, ↓sExpr, ↓sPar, ↓sPar3, ↓sFor, ↓nName, ↓nTup, ↓nCons, ↓nNil, ↓nNs, ↓eVar, ↓eC, ↓eOp, ↓eUn, ↓eArgs, ↓eNew, ↓aCons, ↓aNil, ↓tV, ↓tT, toB, truP, ↓tNotE, ↓tAndE, ↓tOrE, ↓tYesE, ↓eAndV, ↓eOrV, ↓eNotV, ↓eNotT, ↓eIf, gAdd_int, gAdd_tup, Py.gSub, gMul_l, gMul_r, gMod, gFdiv, gNeg, gLt, gLe, gGt, gGe, gInt, gIx, gEq_int, gEq_str, gEq_bl, gNe_int, gNe_str, gNe_bl, gIsN, gNotN, getQ, getL, gSetL, ↓nSubL, gDivmod, gMin2, gMax2, ↓mkDef, ↓mkNew, startP, finF, finO, finV_tup, finV_int, finV_bl, finV_lst, finV_non, finV_str, finV_ref, ↓eChain, tyP, gIsi, isiB, ↓iArgs, ↓iSeq, iterP, ↓fComp, wipeP, ↓eSl, ↓oNone, ↓oSome, gSl, ↓eMeth0, ↓eMeth1, ixN, atI0, atI1, atI2, atI3, List.length_cons, List.length_nil, List.map_cons, List.map_nil, List.replicate, List.cons_append, List.nil_append, List.append_nil, List.getElem?_cons_zero, List.getElem?_cons_succ, List.getElem?_nil, List.set_cons_zero, List.set_cons_succ, List.set_nil, List.length_set, List.length_append, Nat.add_sub_cancel, Nat.reduceAdd, Nat.reduceSub, Nat.reduceLT, Nat.reduceEqDiff, Nat.reduceLeDiff, Nat.le_refl, Nat.zero_le, if_true, if_false, ↓reduceIte, decide_eq_true_eq, Bool.false_eq_true, Bool.true_eq_false, Bool.not_true, Bool.not_false, Option.isSome_some, forall_const, not_true_eq_false, not_false_eq_true, imp_self, false_implies, true_implies, implies_true, and_true, true_and, Int.toNat_zero, Nat.zero_add, Int.reduceLE, Int.reduceLT, Int.reduceNeg, Int.reduceToNat, Int.reducePow, Int.reduceGT, Int.cast_ofNat_Int, true_or, or_true, Int.ofNat_eq_natCast, decide_true, decide_false, Int.reduceEq, List.isEmpty_cons, List.isEmpty_nil, eDGet1,  keyP, Option.map_some, Option.map_none, Option.getD_some, Option.isSome_some, reduceCtorEq, and_self,  allPure_nil, allPure_cons, Bool.and_true, Bool.true_and, Bool.false_and, Bool.and_false, Bool.not_eq_true, Bool.not_eq_false, gTupP_nil, gLstP_nil, gTupP_ok, gLstP_ok, isRef_tup, isRef_int, isRef_str, isRef_bl, Bool.or_false, Bool.or_true, Bool.true_or, Bool.false_or, $a,*] at $h:ident)
local macro_rules
  | `(tactic| dsimp! only [$a,*]) => `(tactic| simp only [wp_ok, wp_no, ↓wp_bind, ↓R.bind_ok, ↓sSeq, ↓sNil, ↓sSet, ↓sAsg, ↓sIf, ↓sRet, ↓sExpr, ↓sPar, ↓sPar3, ↓sFor, ↓nName, ↓nTup, ↓nCons, ↓nNil, ↓nNs, ↓eVar, ↓eC, ↓eOp, ↓eUn, ↓eArgs, ↓eNew, ↓aCons, ↓aNil, ↓tV, ↓tT, toB, truP, ↓tNotE, ↓tAndE, ↓tOrE, ↓tYesE, ↓eAndV, ↓eOrV, ↓eNotV, ↓eNotT, ↓eIf, gAdd_int, gAdd_tup, Py.gSub, gMul_l, gMul_r, gMod, gFdiv, gNeg, gLt, gLe, gGt, gGe, gInt, gEq_int, gEq_str, gEq_bl, gNe_int, gNe_str, gNe_bl, gIsN, gNotN, getQ, getL, gSetL, ↓nSubL, gDivmod, gMin2, gMax2, ↓mkDef, ↓mkNew, startP, finF, finO, finV_tup, finV_int, finV_bl, finV_lst, finV_non, finV_str, finV_ref, ↓eChain, tyP, gIsi, isiB, ↓iArgs, ↓iSeq, iterP, ↓fComp, wipeP, ↓eSl, ↓oNone, ↓oSome, gSl, ↓eMeth0, ↓eMeth1, ixN, atI0, atI1, atI2, atI3, List.length_cons, List.length_nil, List.map_cons, List.map_nil, List.replicate, List.cons_append, List.nil_append, List.append_nil, List.getElem?_cons_zero, List.getElem?_cons_succ, List.getElem?_nil, List.set_cons_zero, List.set_cons_succ, List.set_nil, List.length_set, List.length_append, Nat.add_sub_cancel, Nat.reduceAdd, Nat.reduceSub, Nat.reduceLT, Nat.reduceEqDiff, Nat.reduceLeDiff, Nat.le_refl, Nat.zero_le, if_true, if_false, ↓reduceIte, decide_eq_true_eq, Bool.false_eq_true, Bool.true_eq_false, Bool.not_true, Bool.not_false, Option.isSome_some, forall_const, not_true_eq_false, not_false_eq_true, imp_self, false_implies, true_implies, implies_true, and_true, true_and, Int.toNat_zero, Nat.zero_add, Int.reduceLE, Int.reduceLT, Int.reduceNeg, Int.reduceToNat, Int.reducePow, Int.reduceGT, Int.cast_ofNat_Int, true_or, or_true, Int.ofNat_eq_natCast, decide_true, decide_false, Int.reduceEq, List.isEmpty_cons, List.isEmpty_nil, eDGet1,  keyP, Option.map_some, Option.map_none, Option.getD_some, Option.isSome_some, reduceCtorEq, and_self,  allPure_nil, allPure_cons, Bool.and_true, Bool.true_and, Bool.false_and, Bool.and_false, Bool.not_eq_true, Bool.not_eq_false, gTupP_nil, gLstP_nil, gTupP_ok, gLstP_ok, isRef_tup, isRef_int, isRef_str, isRef_bl, Bool.or_false, Bool.or_true, Bool.true_or, Bool.false_or, $a,*])
section
inductive T where
  | lf (w : Str) (xs : List Int)
  | nd (w : Str) (ns : List Int) (ps : List T)
mutual
def enc : T → PV
  | .lf w xs => .tup (.str w :: xs.map .int)
  | .nd w _ ps => .tup (.str w :: encs ps)
def encs : List T → List PV
  | [] => []
  | t :: ts => enc t :: encs ts
end
theorem encs_map : ∀ ps : List T, encs ps = ps.map enc
  | [] => rfl
  | t :: ts => by rw [encs, List.map_cons, encs_map ts]
mutual
def len : T → Int
  | .lf _ _ => 1
  | .nd _ ns ps => 1 + ns.sum + lens ps
def lens : List T → Int
  | [] => 0
  | t :: ts => len t + lens ts
end
mutual
def dep : T → Int
  | .lf _ _ => 1
  | .nd _ _ ps => 1 + deps ps
def deps : List T → Int
  | [] => 0
  | t :: ts => max (dep t) (deps ts)
end
mutual
def sz : T → Nat
  | .lf _ _ => 1
  | .nd _ _ ps => 1 + szs ps
def szs : List T → Nat
  | [] => 0
  | t :: ts => sz t + szs ts
end
/-- the names of a word -/
def dl : List (Str × List Int) → Str → Option (List Int)
  | [], _ => none
  | (k, v) :: r, w => if k = w then some v else dl r w
def LW : List Str := ["number", "name", "at", "hole"]
def LfOk (w : Str) (xs : List Int) : Prop :=
  (w = "hole" ∧ ∃ j ks, xs = j :: ks ∧ 0 ≤ j ∧ j ≤ 99 ∧ ks.length ≤ 100 ∧ ∀ k ∈ ks, 0 ≤ k) ∨ (w = "number" ∧ ∃ i, xs = [i] ∧ -999999999 ≤ i ∧ i ≤ 999999999) ∨ ((w = "name" ∨ w = "at") ∧ ∃ i, xs = [i] ∧ 0 ≤ i)
structure DOk (D : List (Str × List Int)) : Prop where
  nm : ∀ w ns, dl D w = some ns → 1 ≤ ns.length ∧ ns.length ≤ 4 ∧ ∀ n ∈ ns, 0 ≤ n ∧ n ≤ 2
  lw : ∀ w ns, dl D w = some ns → w ∉ LW
inductive V (D : List (Str × List Int)) : T → Prop
  | lf {w : Str} {xs : List Int} : LfOk w xs → V D (.lf w xs)
  | nd {w : Str} {ns : List Int} {ps : List T} : dl D w = some ns → ps.length = ns.length → (∀ p ∈ ps, V D p) → V D (.nd w ns ps)
theorem sum_nn {ns : List Int} (h : ∀ n ∈ ns, 0 ≤ n) : 0 ≤ ns.sum := by
  induction ns with
  | nil => simp
  | cons n ns ih =>
    have := h n (by simp)
    have := ih fun m hm => h m (by simp [hm])
    simp only [List.sum_cons]; omega
theorem lens_nn {ps : List T} (h : ∀ p ∈ ps, 1 ≤ len p) : (ps.length : Int) ≤ lens ps := by
  induction ps with
  | nil => simp [lens]
  | cons p ps ih =>
    have := h p (by simp)
    have := ih fun m hm => h m (by simp [hm])
    simp only [lens, List.length_cons]; omega
theorem lens_mem {ps : List T} (h : ∀ p ∈ ps, 1 ≤ len p) {p : T} (hp : p ∈ ps) : len p ≤ lens ps := by
  induction ps with
  | nil => cases hp
  | cons q ps ih =>
    have h0 := h q (by simp)
    have h1 := lens_nn (ps := ps) fun m hm => h m (by simp [hm])
    rcases List.mem_cons.mp hp with e | e
    · subst e; simp only [lens]; omega
    · have := ih (fun m hm => h m (by simp [hm])) e
      simp only [lens]; omega
variable {D : List (Str × List Int)}
theorem V.len_pos (hD : DOk D) {t : T} (h : V D t) : 1 ≤ len t := by
  induction h with
  | lf _ => simp [len]
  | @nd w ns ps h1 h2 h3 ih =>
    have a := sum_nn fun n hn => ((hD.nm _ _ h1).2.2 n hn).1
    have b := lens_nn ih
    simp only [len]; omega
theorem deps_le {ps : List T} {m : Int} (h : ∀ p ∈ ps, dep p ≤ m) (hm : 0 ≤ m) : deps ps ≤ m := by
  induction ps with
  | nil => simpa [deps] using hm
  | cons p ps ih =>
    have := h p (by simp)
    have := ih fun m hm => h m (by simp [hm])
    simp only [deps]; omega
theorem V.dep_le (hD : DOk D) {t : T} (h : V D t) : dep t ≤ len t := by
  induction h with
  | lf _ => simp [len, dep]
  | @nd w ns ps h1 h2 h3 ih =>
    have a := sum_nn fun n hn => ((hD.nm _ _ h1).2.2 n hn).1
    have b : ∀ p ∈ ps, 1 ≤ len p := fun p hp => (h3 p hp).len_pos hD
    have c := deps_le (ps := ps) (m := lens ps) (fun p hp => Int.le_trans (ih p hp) (lens_mem b hp)) (by have := lens_nn b; omega)
    simp only [len, dep]; omega
theorem szs_le {ps : List T} (h : ∀ p ∈ ps, (sz p : Int) ≤ len p) : (szs ps : Int) ≤ lens ps := by
  induction ps with
  | nil => simp [szs, lens]
  | cons p ps ih =>
    have := h p (by simp)
    have := ih fun m hm => h m (by simp [hm])
    simp only [szs, lens]; omega
theorem V.sz_le (hD : DOk D) {t : T} (h : V D t) : (sz t : Int) ≤ len t := by
  induction h with
  | lf _ => simp [len, sz]
  | @nd w ns ps h1 h2 h3 ih =>
    have a := sum_nn fun n hn => ((hD.nm _ _ h1).2.2 n hn).1
    have := szs_le ih
    simp only [len, sz]; omega
def sub : List Int → T → Option T
  | [], t => some t
  | i :: pl, .nd _ _ ps => if 0 ≤ i then (match ps[i.toNat]? with
    | some p => sub pl p
    | none => none) else none
  | _ :: _, .lf _ _ => none
def rp : List Int → T → T → T
  | [], _, u => u
  | i :: pl, .nd w ns ps, u => .nd w ns (match ps[i.toNat]? with
    | some p => ps.set i.toNat (rp pl p u)
    | none => ps)
  | _ :: _, .lf w xs, _ => .lf w xs
theorem sub_cons {i : Int} {pl : List Int} {t s : T} (h : sub (i :: pl) t = some s) : ∃ w ns ps p, t = .nd w ns ps ∧ 0 ≤ i ∧ ps[i.toNat]? = some p ∧ sub pl p = some s := by
  cases t with
  | lf => cases h
  | nd w ns ps =>
    unfold sub at h
    split at h
    · rename_i h0
      split at h
      · rename_i p e
        exact ⟨w, ns, ps, p, rfl, h0, e, h⟩
      · cases h
    · cases h
theorem sub_nd {i : Int} {pl : List Int} {w : Str} {ns : List Int} {ps : List T} {p : T} (h0 : 0 ≤ i) (e : ps[i.toNat]? = some p) : sub (i :: pl) (.nd w ns ps) = sub pl p := by
  rw [sub, if_pos h0, e]
theorem rp_nd {i : Int} {pl : List Int} {w : Str} {ns : List Int} {ps : List T} {p u : T} (e : ps[i.toNat]? = some p) : rp (i :: pl) (.nd w ns ps) u = .nd w ns (ps.set i.toNat (rp pl p u)) := by
  rw [rp, e]
theorem getE {α : Type} {l : List α} {i : Nat} {x : α} (h : l[i]? = some x) : i < l.length ∧ x ∈ l := ⟨(List.getElem?_eq_some_iff.mp h).1, List.mem_of_getElem? h⟩
theorem sub_V : ∀ {pl : List Int} {t s : T}, V D t → sub pl t = some s → V D s
  | [], t, s, h, e => by cases e; exact h
  | i :: pl, t, s, h, e => by
    obtain ⟨w, ns, ps, p, rfl, h0, e1, e2⟩ := sub_cons e
    cases h with
    | nd _ _ h3 => exact sub_V (h3 p (getE e1).2) e2
abbrev Lv : Type := List Int × Int × Str × List Int
mutual
def lv : T → Int → List Lv
  | .lf w xs, d => [([], d, w, xs)]
  | .nd _ ns ps, d => lvs ps ns 0 d
def lvs : List T → List Int → Nat → Int → List Lv
  | t :: ts, n :: ns, i, d => (lv t (d + n)).map (fun q => ((i : Int) :: q.1, q.2)) ++ lvs ts ns (i + 1) d
  | _, _, _, _ => []
end
theorem app_split {α : Type} {X Y A B : List α} {q : α} (h : X ++ Y = A ++ q :: B) : (∃ C, X = A ++ q :: C ∧ B = C ++ Y) ∨ (∃ C, A = X ++ C ∧ Y = C ++ q :: B) := by
  rcases List.append_eq_append_iff.mp h with ⟨a', h1, h2⟩ | ⟨c', h1, h2⟩
  · exact .inr ⟨a', h1, h2⟩
  · cases c' with
    | nil => exact .inr ⟨[], by simpa using h1.symm, by simpa using h2.symm⟩
    | cons x c =>
      simp only [List.cons_append, List.cons.injEq] at h2
      obtain ⟨rfl, h2⟩ := h2
      exact .inl ⟨c, h1, h2⟩
mutual
theorem lv_split : ∀ (t : T) (d : Int) (A : List Lv) (q : Lv) (B : List Lv), lv t d = A ++ q :: B →
    sub q.1 t = some (.lf q.2.2.1 q.2.2.2) ∧ ∀ w xs, lv (rp q.1 t (.lf w xs)) d = A ++ (q.1, q.2.1, w, xs) :: B
  | .lf w xs, d, A, q, B, h => by
    rw [lv] at h
    cases A with
    | nil =>
      simp only [List.nil_append, List.cons.injEq] at h
      obtain ⟨rfl, rfl⟩ := h
      exact ⟨rfl, fun w xs => rfl⟩
    | cons a A => simp at h
  | .nd w ns ps, d, A, q, B, h => by
    rw [lv] at h
    obtain ⟨j, p, pl, e1, e2, e3, e4⟩ := lvs_split ps ns 0 d A q B h
    rw [e2]
    have hj : ((0 + j : Nat) : Int).toNat = j := by simp
    refine ⟨?_, fun w' xs => ?_⟩
    · rw [sub_nd (by omega) (by rw [hj]; exact e1)]; exact e3
    · rw [rp_nd (by rw [hj]; exact e1), hj, lv, e4, e2]
theorem lvs_split : ∀ (ts : List T) (ns : List Int) (i : Nat) (d : Int) (A : List Lv) (q : Lv) (B : List Lv), lvs ts ns i d = A ++ q :: B →
    ∃ (j : Nat) (p : T) (pl : List Int), ts[j]? = some p ∧ q.1 = ((i + j : Nat) : Int) :: pl ∧ sub pl p = some (.lf q.2.2.1 q.2.2.2) ∧ ∀ w xs, lvs (ts.set j (rp pl p (.lf w xs))) ns i d = A ++ (q.1, q.2.1, w, xs) :: B
  | [], ns, i, d, A, q, B, h => by simp [lvs] at h
  | t :: ts, [], i, d, A, q, B, h => by simp [lvs] at h
  | t :: ts, n :: ns, i, d, A, q, B, h => by
    rw [lvs] at h
    rcases app_split h with ⟨C, h1, h2⟩ | ⟨C, h1, h2⟩
    · obtain ⟨L1, L2, e1, e2, e3⟩ := List.map_eq_append_iff.mp h1
      cases L2 with
      | nil => simp at e3
      | cons q0 L3 =>
        simp only [List.map_cons, List.cons.injEq] at e3
        obtain ⟨e3, e4⟩ := e3
        obtain ⟨g1, g2⟩ := lv_split t (d + n) L1 q0 L3 e1
        subst e3
        refine ⟨0, t, q0.1, rfl, rfl, g1, fun w xs => ?_⟩
        rw [List.set_cons_zero, lvs, g2, h2, ← e2, ← e4]
        simp
    · obtain ⟨j, p, pl, e1, e2, e3, e4⟩ := lvs_split ts ns (i + 1) d C q B h2
      refine ⟨j + 1, p, pl, by simpa using e1, by rw [e2]; congr 1; omega, e3, fun w xs => ?_⟩
      rw [List.set_cons_succ, lvs, e4, h1]
      simp
end
end
section
variable {D : List (Str × List Int)}
/-- WP of equations -/
theorem eqn {r : R PV} {p : PV} {S : Sto} (h : WP r fun a S' => a = p ∧ S' = S) : r = .ok p S := by
  obtain ⟨a, S2, e, rfl, rfl⟩ := h.ex
  exact e
theorem eqF_str (a b : Str) : eqF (.str a) (.str b) = decide (a = b) := rfl
theorem any_strs (w : Str) : ∀ ws : List Str, (ws.map PV.str).any (fun y => eqF y (.str w)) = decide (w ∈ ws)
  | [] => by simp
  | x :: ws => by
    rw [List.map_cons, List.any_cons, any_strs w ws, eqF_str]
    by_cases h : x = w
    · subst h; simp
    · have h2 : ¬ w = x := fun z => h z.symm
      simp [h, h2]
theorem all_flat_strs : ∀ ws : List Str, (ws.map PV.str).all flatP = true
  | [] => rfl
  | x :: ws => by rw [List.map_cons, List.all_cons, all_flat_strs ws]; rfl
theorem gIn_strs {w : Str} {ws : List Str} {S : Sto} : gIn false (.str w) (.tup (ws.map .str)) S = .ok (.bl (decide (w ∈ ws))) S := by
  show (if flatP (.str w) = true ∧ (ws.map PV.str).all flatP = true then R.ok (PV.bl (if false = true then !(ws.map PV.str).any (fun y => eqF y (.str w)) else (ws.map PV.str).any (fun y => eqF y (.str w)))) S else .no) = _
  rw [if_pos ⟨rfl, all_flat_strs ws⟩, any_strs]; rfl
def isLf : T → Bool
  | .lf _ _ => true
  | .nd _ _ _ => false
theorem LfOk.lw {w : Str} {xs : List Int} (h : LfOk w xs) : w ∈ LW := by
  rcases h with ⟨rfl, _⟩ | ⟨rfl, _⟩ | ⟨rfl | rfl, _⟩ <;> simp [LW]
theorem isRef_enc (t : T) : (enc t).isRef = false := by cases t <;> rfl
theorem finV_enc {n : Nat} {t : T} {S : Sto} : finV n (enc t) S = .ok (enc t) (S.take n) := finV_pure (isRef_enc t)
theorem blsOf_true : ∀ (n : List PV), blsOf (n.map fun _ => PV.bl true) = some (n.map fun _ => true)
  | [] => rfl
  | x :: n => by rw [List.map_cons, blsOf, blsOf_true n]; rfl
theorem gAll_true {ps : List PV} {S : Sto} : gAll [.lst (ps.map fun _ => PV.bl true)] S = .ok (.bl true) S := by
  show (match (some (ps.map fun _ => PV.bl true)).bind blsOf with | some ns => R.ok (PV.bl (ns.all id)) S | none => .no) = _
  rw [show (some (ps.map fun _ => PV.bl true)).bind blsOf = some (ps.map fun _ => true) from blsOf_true ps]
  simp
theorem gLen_tup {xs : List PV} {S : Sto} : gLen [.tup xs] S = .ok (.int xs.length) S := rfl
theorem ne_mn : (("name" : Str) = "number") = False := by simp; decide +kernel
theorem ne_an : (("at" : Str) = "number") = False := by simp; decide +kernel
def ksD (D : List (Str × List Int)) : List Key := D.map fun q => .inr q.1
def vsD (D : List (Str × List Int)) : List PV := D.map fun q => .tup (q.2.map .int)
def DicV (W : PV) (S : Sto) (D : List (Str × List Int)) : Prop := getD W S = some (ksD D, vsD D)
theorem intsOf_map : ∀ ns : List Int, intsOf (ns.map PV.int) = some ns
  | [] => rfl
  | n :: ns => by rw [List.map_cons, intsOf, intsOf_map ns]; rfl
theorem gSumA_ints {ns : List Int} {S : Sto} (h : ns.length ≤ 5000) : gSumA [.tup (ns.map .int)] S = .ok (.int ns.sum) S := by
  unfold gSumA
  simp only [getQ, Option.bind_some, intsOf_map]
end
section
variable {D : List (Str × List Int)}
theorem get_last {S : Sto} {x : PV} : (S ++ [x])[S.length]? = some x := by simp
theorem take_app {S : Sto} {x : PV} : (S ++ [x]).take S.length = S := by simp
theorem DicV.app {W : PV} {S : Sto} {x : PV} (h : DicV W S D) : DicV W (S ++ [x]) D := by
  unfold DicV at h ⊢
  cases W with
  | ref n =>
    cases e : S[n]? with
    | none => simp only [getD, e] at h; cases h
    | some o =>
      have e2 : (S ++ [x])[n]? = some o := by rw [List.getElem?_append_left (List.getElem?_eq_some_iff.mp e).1]; exact e
      simp only [getD, e] at h
      simp only [getD, e2]
      exact h
  | dic ks vs => exact h
  | _ => cases h
theorem deps_nn : ∀ ps : List T, 0 ≤ deps ps
  | [] => by simp [deps]
  | p :: ps => by have := deps_nn ps; simp only [deps]; omega
end
section
variable {D : List (Str × List Int)}
theorem compF_gen {α : Type} {g : Eg} {f : Ev} {ρ : Py.Env} {S : Sto} {ι φ : α → PV} : ∀ (xs : List α) (acc : List PV), (∀ x ∈ xs, ∃ ρ1, g (ι x) ρ S = .ok ρ1 S ∧ f ρ1 S = .ok (φ x) S ∧ (φ x).isRef = false) → acc.length + xs.length ≤ 5000 →
    compF g tYesE f ρ (xs.map ι) acc S = .ok (.lst (acc ++ xs.map φ)) S
  | [], acc, _, _ => by simp [compF]
  | p :: ps, acc, h, hl => by
    obtain ⟨ρ1, h0, h1, h2⟩ := h p (by simp)
    have hl' : acc.length < sizeLine := by have := size_1000 (n := acc.length + 1) (by simp at hl; omega); omega
    have h3 : (φ p).isRef = false ∧ acc.length < sizeLine := ⟨h2, hl'⟩
    simp only [List.map_cons, compF, R.bind_ok, tYesE, if_true, h0, h1, if_pos h3]
    have := compF_gen ps (acc ++ [φ p]) (fun q hq => h q (by simp [hq])) (by simp at hl ⊢; omega)
    simpa [tYesE] using this
theorem compF_gen0 {α : Type} {g : Eg} {f : Ev} {ρ : Py.Env} {S : Sto} {ι φ : α → PV} (xs : List α) (h : ∀ x ∈ xs, ∃ ρ1, g (ι x) ρ S = .ok ρ1 S ∧ f ρ1 S = .ok (φ x) S ∧ (φ x).isRef = false) (hl : xs.length ≤ 5000) :
    compF g tYesE f ρ (xs.map ι) [] S = .ok (.lst (xs.map φ)) S := by
  have := compF_gen xs [] h (by simpa using hl)
  simpa using this
end
section
variable {D : List (Str × List Int)}
local instance : CT := ⟨fun _ => ⟨.Pass ⟨0, 0, 0, 0⟩, "", []⟩, [], fun _ => none⟩
abbrev Ld : Type := Int × Str × List Int
def ToldL (q : Ld) : Prop := (q.2.1 = "number" ∧ True) ∨ (q.2.1 = "name" ∧ ∃ i, q.2.2 = [i] ∧ i < q.1) ∨ (q.2.1 = "hole" ∧ ∃ j ks, q.2.2 = j :: ks ∧ ks.length ≤ 100 ∧ ∀ k ∈ ks, k < q.1)
theorem ne_hm : (("hole" : Str) = "name") = False := by simp; decide +kernel
theorem ne_hn : (("hole" : Str) = "number") = False := by simp; decide +kernel
/-- the holes among leaves: number and names -/
def hoF (q : Ld) : Option (Int × List Int) := match q.2.2 with
  | j :: ks => if q.2.1 = "hole" then some (j, ks) else none
  | [] => none
def rgI (n : Nat) : List Int := (List.range n).map fun i : Nat => (i : Int)
/-- the holes of a template are its parts' -/
structure HoOk (ns : List Int) (hs : List (Int × List Int)) : Prop where
  perm : (hs.map (·.1)).Perm (rgI ns.length)
  each : ∀ h ∈ hs, (h.2.length : Int) = ns.getD h.1.toNat 0 ∧ h.2.Nodup ∧ h.2.length ≤ 2
end
section
variable {D : List (Str × List Int)}
theorem gAll_trueA {α : Type} {xs : List α} {S : Sto} : gAll [.lst (xs.map fun _ => PV.bl true)] S = .ok (.bl true) S := by
  have := gAll_true (ps := xs.map fun _ => PV.non) (S := S)
  rw [List.map_map] at this
  exact this
structure TmOk (D : List (Str × List Int)) (ns : List Int) (t : T) : Prop where
  v : V D t
  nl : isLf t = false
  told : ∀ q ∈ lv t 0, ToldL q.2
  ln : len t ≤ 24
  sm : 1 + ns.sum ≤ len t - ns.length
  ho : HoOk ns (((lv t 0).map fun q : Lv => q.2).filterMap hoF)
def letters : Str := "abcdefghijklmnopqrstuvwxyz"
def RS : List Str := ["number", "name", "at", "hole", "boxes", "form"]
structure OwnW (w : Str) : Prop where
  l2 : 2 ≤ w.cps.size
  l8 : w.cps.size ≤ 8
  let_ : ∀ c ∈ w.cps.toList, c ∈ letters.cps.toList
  core : w ∉ ks_CORE_WORDS
  rs : w ∉ RS
structure Fm where
  w : Str
  ns : List Int
  t : T
def fmP (f : Fm) : PV := .tup [.str f.w, .tup (f.ns.map .int), enc f.t]
structure FmOk (D : List (Str × List Int)) (f : Fm) : Prop where
  ow : OwnW f.w
  fresh : dl D f.w = none
  nl : 1 ≤ f.ns.length ∧ f.ns.length ≤ 4 ∧ ∀ n ∈ f.ns, 0 ≤ n ∧ n ≤ 2
  tm : TmOk D f.ns f.t
def dOf (D : List (Str × List Int)) : List Fm → List (Str × List Int)
  | [] => D
  | f :: b => dOf (D ++ [(f.w, f.ns)]) b
def BkOk (D : List (Str × List Int)) : List Fm → Prop
  | [] => True
  | f :: b => FmOk D f ∧ BkOk (D ++ [(f.w, f.ns)]) b
theorem dl_app {w k : Str} {v : List Int} : ∀ D : List (Str × List Int), dl (D ++ [(k, v)]) w = (dl D w).or (if k = w then some v else none)
  | [] => by simp [dl]
  | (a, b) :: D => by
    rw [List.cons_append, dl, dl, dl_app D]
    split <;> simp
theorem DOk.add (hD : DOk D) {f : Fm} (h : FmOk D f) : DOk (D ++ [(f.w, f.ns)]) := by
  have hl : f.w ∉ LW := fun z => h.ow.rs (by revert z; simp only [LW, RS, List.mem_cons]; intro z; rcases z with z | z | z | z | z <;> simp [z] at *)
  constructor
  · intro w ns e
    rw [dl_app] at e
    cases q : dl D w with
    | some v => rw [q] at e; simp at e; subst e; exact hD.nm _ _ q
    | none =>
      rw [q] at e
      simp at e
      obtain ⟨_, rfl⟩ := e
      exact h.nl
  · intro w ns e
    rw [dl_app] at e
    cases q : dl D w with
    | some v => exact hD.lw _ _ q
    | none =>
      rw [q] at e
      simp at e
      obtain ⟨rfl, _⟩ := e
      exact hl
def CD : List (Str × List Int) := d_CORE_WORDS
theorem dl_mem {w : Str} {ns : List Int} : ∀ {D : List (Str × List Int)}, dl D w = some ns → (w, ns) ∈ D
  | (k, v) :: D, h => by
    rw [dl] at h
    split at h
    · rename_i e; cases h; subst e; simp
    · exact List.mem_cons_of_mem _ (dl_mem h)
theorem CD_ok : DOk CD := by
  have h1 : ∀ q ∈ CD, 1 ≤ q.2.length ∧ q.2.length ≤ 4 ∧ ∀ n ∈ q.2, 0 ≤ n ∧ n ≤ 2 := by decide +kernel
  have h2 : ∀ q ∈ CD, q.1 ∉ LW := by decide +kernel
  exact ⟨fun w ns h => h1 _ (dl_mem h), fun w ns h => h2 _ (dl_mem h)⟩
theorem dOf_ok : ∀ {D : List (Str × List Int)} (b : List Fm), DOk D → BkOk D b → DOk (dOf D b)
  | D, [], h, _ => h
  | D, f :: b, h, hb => dOf_ok b (h.add hb.1) hb.2
def bookP (b : List Fm) : PV := .tup (b.map fmP)
end
section
variable {D : List (Str × List Int)}
def G1 : List Str := ["call", "pair", "plus", "minus", "times", "put"]
def G2 : List Str := ["first", "second", "box", "look", "say"]
theorem core_dl (w : Str) : dl CD w = if w ∈ G1 then some [0, 0] else if w ∈ G2 then some [0] else if w = "fn" then some [1] else if w = "again" then some [2] else if w = "test" then some [0, 0, 0] else none := by
  have key : ∀ w ∈ ks_CORE_WORDS, dl CD w = if w ∈ G1 then some [0, 0] else if w ∈ G2 then some [0] else if w = "fn" then some [1] else if w = "again" then some [2] else if w = "test" then some [0, 0, 0] else none := by decide +kernel
  by_cases h : w ∈ ks_CORE_WORDS
  · exact key w h
  · have h1 : w ∉ G1 := fun z => h (by revert z; simp only [G1, ks_CORE_WORDS, List.mem_cons]; intro z; rcases z with z | z | z | z | z | z | z <;> simp [z] at *)
    have h2 : w ∉ G2 := fun z => h (by revert z; simp only [G2, ks_CORE_WORDS, List.mem_cons]; intro z; rcases z with z | z | z | z | z | z <;> simp [z] at *)
    have h3 : ¬ w = "fn" := fun z => h (by subst z; simp [ks_CORE_WORDS])
    have h4 : ¬ w = "again" := fun z => h (by subst z; simp [ks_CORE_WORDS])
    have h5 : ¬ w = "test" := fun z => h (by subst z; simp [ks_CORE_WORDS])
    rw [if_neg h1, if_neg h2, if_neg h3, if_neg h4, if_neg h5]
    cases e : dl CD w with
    | none => rfl
    | some v =>
      have hm : w ∈ CD.map (·.1) := List.mem_map.mpr ⟨(w, v), dl_mem e, rfl⟩
      exact absurd (show w ∈ ks_CORE_WORDS from hm) h
def dlB : List Fm → Str → Option (List Int)
  | [], _ => none
  | f :: b, w => if f.w = w then some f.ns else dlB b w
theorem dl_dOf (w : Str) : ∀ (b : List Fm) (D : List (Str × List Int)), dl (dOf D b) w = (dl D w).or (dlB b w)
  | [], D => by simp [dOf, dlB]
  | f :: b, D => by
    rw [dOf, dl_dOf w b, dl_app, dlB]
    cases dl D w <;> simp
    split <;> simp
theorem gEqO_str {i j : Str} {S : Sto} : gEqO (.str i) (.str j) S = .ok (.bl (decide (i = j))) S := rfl
theorem names_loop {w : Str} {S : Sto} {a0 : Option PV} : ∀ (b : List Fm) (x2 : Option PV), 
    WP (forF (nName 2) (sIf (tV (eOp gEqO (eOp gIx (eVar 2) (eC (.int 0))) (eVar 1))) (sRet (eOp gIx (eVar 2) (eC (.int 1)))) sNil) (b.map fmP) [a0, some (.str w), x2] S) fun fl S' => S' = S ∧ match dlB b w with
      | some ns => fl = .rt (.tup (ns.map .int))
      | none => ∃ x2, fl = .nx [a0, some (.str w), x2]
  | [], x2 => by
    rw [List.map_nil, forF, dlB]
    simp! only []
    exact ⟨_, rfl⟩
  | f :: b, x2 => by
    rw [List.map_cons, forF, dlB]
    have f0 : fmP f = .tup [.str f.w, .tup (f.ns.map .int), enc f.t] := rfl
    rw [f0]
    by_cases h : f.w = w
    · rw [if_pos h]
      simp! only [h, gEqO_str]
    · rw [if_neg h]
      simp! only [h, gEqO_str]
      exact names_loop b _
def nmP : Option (List Int) → PV
  | some ns => .tup (ns.map .int)
  | none => .non
theorem in_G1 {w : Str} {S : Sto} : gInO (.str w) (.tup [.str "call", .str "pair", .str "plus", .str "minus", .str "times", .str "put"]) S = .ok (.bl (decide (w ∈ G1))) S := gIn_strs (ws := G1)
theorem in_G2 {w : Str} {S : Sto} : gInO (.str w) (.tup [.str "first", .str "second", .str "box", .str "look", .str "say"]) S = .ok (.bl (decide (w ∈ G2))) S := gIn_strs (ws := G2)
theorem law_names_eq {b : List Fm} {w : Str} {S : Sto} : m__law_names [bookP b, .str w] S = .ok (nmP (dl (dOf CD b) w)) S := by
  refine eqn ?_
  rw [dl_dOf, core_dl]
  unfold m__law_names b__law_names bookP
  by_cases h1 : w ∈ G1
  · simp! only [gEqO_str, in_G1, h1, take_self, Option.some_or, nmP]
  by_cases h2 : w ∈ G2
  · simp! only [gEqO_str, in_G1, in_G2, h1, h2, take_self, Option.some_or, nmP]
  by_cases h3 : w = "fn"
  · subst h3
    simp! only [gEqO_str, in_G1, in_G2, h1, h2, take_self, Option.some_or, nmP]
  by_cases h4 : w = "again"
  · subst h4
    simp! only [gEqO_str, in_G1, in_G2, h1, h2, h3, take_self, Option.some_or, nmP]
  by_cases h5 : w = "test"
  · subst h5
    simp! only [gEqO_str, in_G1, in_G2, h1, h2, h3, h4, take_self, Option.some_or, nmP]
  simp! only [gEqO_str, in_G1, in_G2, h1, h2, h3, h4, h5, Option.none_or]
  refine wp_of (names_loop b none) fun fl S' ⟨e1, e2⟩ => ?_
  subst e1
  cases q : dlB b w with
  | none =>
    rw [q] at e2
    obtain ⟨x2, rfl⟩ := e2
    simp! only [take_self, nmP]
  | some ns =>
    rw [q] at e2
    replace e2 : fl = .rt (.tup (ns.map .int)) := e2
    subst e2
    simp! only [take_self, nmP]
theorem law_names_some {b : List Fm} {w : Str} {ns : List Int} {S : Sto} (h : dl (dOf CD b) w = some ns) : m__law_names [bookP b, .str w] S = .ok (.tup (ns.map .int)) S := by
  rw [law_names_eq, h]; rfl
end
section
variable {D : List (Str × List Int)}
theorem finV_of {n : Nat} {S' : Sto} {p : PV} (h : p.isRef = false) (e : S'.length = n) : finV n p S' = .ok p S' := by
  rw [finV_pure h, List.take_of_length_le (by omega)]
theorem atI_pos {α : Type} {l : List α} {k : Int} (h : 0 ≤ k) : atI l k = l[k.toNat]? := by
  have := atI_nat (l := l) (i := k.toNat)
  rwa [Int.toNat_of_nonneg h] at this
theorem pick_tup {n : Nat} {S : Sto} {xs : List PV} (hw : Well S n) (h : 0 < xs.length) (hl : xs.length ≤ 5000) (hr : ∀ x ∈ xs, x.isRef = false) : WP (m__law_pick [.ref n, .tup xs] S) fun p S' => p ∈ xs ∧ Wl n S S' := by
  unfold m__law_pick b__law_pick
  simp! only [gLen_tup]
  refine wp_of (draw_ok hw (m := xs.length) (by omega) (by omega)) fun p S' ⟨k, e, h0, h1, h2⟩ => ?_
  subst e
  have hk : k.toNat < xs.length := by omega
  have a1 : atI xs k = some xs[k.toNat] := by
    rw [atI_pos h0]; simp [hk]
  have fp := finV_of (S' := S') (hr _ (List.getElem_mem hk)) h2.len
  simp! only [a1, fp]
  exact ⟨List.getElem_mem hk, h2⟩
theorem take_len {S S' : Sto} (h : S'.length = S.length) : S'.take S.length = S' := List.take_of_length_le (by omega)
theorem number_ok {n : Nat} {S : Sto} (hw : Well S n) : WP (m__law_number [.ref n] S) fun p S' => ∃ i : Int, p = enc (.lf "number" [i]) ∧ -999999999 ≤ i ∧ i ≤ 999999999 ∧ Wl n S S' := by
  unfold m__law_number b__law_number
  simp! only []
  refine wp_of (draw_ok hw (m := 24) (by omega) (by omega)) fun p S1 ⟨k, e, h0, h1, w1⟩ => ?_
  subst e
  by_cases c1 : k = 23
  · simp! only [c1]
    refine wp_of (draw_ok w1.w (m := 3) (by omega) (by omega)) fun p S2 ⟨j, e, h2, h3, w2⟩ => ?_
    subst e
    have w := w1.trans w2
    simp! only [take_len w.len]
    exact ⟨999999999 - j, by simp [enc], by omega, by omega, w⟩
  by_cases c2 : k = 22
  · subst c2
    simp! only []
    refine wp_of (draw_ok w1.w (m := 3) (by omega) (by omega)) fun p S2 ⟨j, e, h2, h3, w2⟩ => ?_
    subst e
    have w := w1.trans w2
    simp! only [take_len w.len]
    exact ⟨j - 999999999, by simp [enc], by omega, by omega, w⟩
  by_cases c3 : k = 21
  · subst c3
    simp! only []
    refine wp_of (draw_ok w1.w (m := 1999999999) (by omega) (by omega)) fun p S2 ⟨j, e, h2, h3, w2⟩ => ?_
    subst e
    have w := w1.trans w2
    simp! only [take_len w.len]
    exact ⟨j - 999999999, by simp [enc], by omega, by omega, w⟩
  simp! only [c1, c2, c3]
  refine wp_of (draw_ok w1.w (m := 10) (by omega) (by omega)) fun p S2 ⟨j, e, h2, h3, w2⟩ => ?_
  subst e
  have w := w1.trans w2
  have a1 : ∃ i : Int, atI [PV.int 0, .int 1, .int 2, .int 3, .int 1, .int (-1), .int 5, .int 0, .int (-2), .int 7] j = some (.int i) ∧ -999999999 ≤ i ∧ i ≤ 999999999 := by
    have : j = 0 ∨ j = 1 ∨ j = 2 ∨ j = 3 ∨ j = 4 ∨ j = 5 ∨ j = 6 ∨ j = 7 ∨ j = 8 ∨ j = 9 := by omega
    rcases this with h | h | h | h | h | h | h | h | h | h <;> subst h <;> refine ⟨_, rfl, by decide, by decide⟩
  obtain ⟨i, a1, a2, a3⟩ := a1
  simp! only [a1, take_len w.len]
  exact ⟨i, by simp [enc], a2, a3, w⟩
end
section
variable {D : List (Str × List Int)}
theorem Well.app {S X : Sto} {n : Nat} (h : Well S n) : Well (S ++ X) n := by
  obtain ⟨a, b, c, e⟩ := h
  exact ⟨a, b, c, by rw [List.getElem?_append_left (List.getElem?_eq_some_iff.mp e).1]; exact e⟩
end
section
variable {D : List (Str × List Int)}
/-- S' is S but for the well at n and the list of one number at m -/
structure W2 (n m : Nat) (S S' : Sto) (l : Int) : Prop where
  len : S'.length = S.length
  same : ∀ i, i ≠ n → i ≠ m → S'[i]? = S[i]?
  w : Well S' n
  l : S'[m]? = some (.lst [.int l])
theorem W2.of {n m : Nat} {S S' : Sto} {l : Int} (h : Wl n S S') (e : S[m]? = some (.lst [.int l])) (hm : m ≠ n) : W2 n m S S' l := ⟨h.len, fun i h1 _ => h.same i h1, h.w, by rw [h.same m hm]; exact e⟩
theorem W2.trans {n m : Nat} {S S1 S2 : Sto} {l1 l2 : Int} (h : W2 n m S S1 l1) (g : W2 n m S1 S2 l2) : W2 n m S S2 l2 := ⟨g.len.trans h.len, fun i h1 h2 => (g.same i h1 h2).trans (h.same i h1 h2), g.w, g.l⟩
def LvsOk (P : Ld → Prop) : List T → List Int → Int → Prop
  | t :: ts, n :: ns, d => (∀ q ∈ lv t (d + n), P q.2) ∧ LvsOk P ts ns d
  | _, _, _ => True
theorem lvs_all {P : Ld → Prop} : ∀ (ts : List T) (ns : List Int) (i : Nat) (d : Int), LvsOk P ts ns d → ∀ q ∈ lvs ts ns i d, P q.2
  | [], ns, i, d, _, q, hq => by simp [lvs] at hq
  | t :: ts, [], i, d, _, q, hq => by simp [lvs] at hq
  | t :: ts, n :: ns, i, d, h, q, hq => by
    rw [lvs] at hq
    rcases List.mem_append.mp hq with z | z
    · obtain ⟨y, hy, rfl⟩ := List.mem_map.mp z
      exact h.1 y hy
    · exact lvs_all ts ns (i + 1) d h.2 q z
/-- what a drawn leaf is -/
def LfT (free ats : Int) (q : Ld) : Prop := (q.2.1 = "number") ∨ (q.2.1 = "name" ∧ ∃ i, q.2.2 = [i] ∧ i < q.1 + free) ∨ (q.2.1 = "at" ∧ 0 < ats ∧ ∃ i, q.2.2 = [i] ∧ i < ats)
structure TrOk (D : List (Str × List Int)) (free ats deep : Int) (left left' : Int) (t : T) : Prop where
  v : V D t
  lf : ∀ q ∈ lv t deep, LfT free ats q.2
  ln : len t = 1 + left - left'
  nn : 0 ≤ left → 0 ≤ left'
  le : left' ≤ left
structure TsOk (D : List (Str × List Int)) (free ats deep : Int) (left left' : Int) (ns : List Int) (ts : List T) : Prop where
  v : ∀ t ∈ ts, V D t
  lf : LvsOk (LfT free ats) ts ns deep
  ln : lens ts = ts.length + left - left'
  nn : 0 ≤ left → 0 ≤ left'
  le : left' ≤ left
  le2 : ts.length = ns.length
theorem tree_comp {b : List Fm} {n m : Nat} {deep free ats : Int} {mself : Fn} {x6 x7 x8 x9 x10 : Option PV} (K B : Int)
    (rec_ : ∀ (S : Sto) (dp left : Int), dp ≤ B → Well S n → S[m]? = some (.lst [.int left]) → left ≤ K → 0 ≤ left → WP (mself [.ref n, bookP b, .int dp, .ref m, .int free, .int ats] S) fun p S' => ∃ t left', p = enc t ∧ TrOk (dOf CD b) free ats dp left left' t ∧ W2 n m S S' left') :
    ∀ (ns : List Int) (acc : List PV) (S : Sto) (left : Int) (x11 : Option PV), Well S n → S[m]? = some (.lst [.int left]) → left ≤ K → 0 ≤ left → acc.length + ns.length ≤ 100 → (∀ k ∈ ns, deep + k ≤ B) →
      WP (compF (nName 11) tYesE (eArgs mself (aCons (eVar 0) (aCons (eVar 1) (aCons (eOp gAdd (eVar 2) (eVar 11)) (aCons (eVar 3) (aCons (eVar 4) (aCons (eVar 5) aNil))))))) [some (.ref n), some (bookP b), some (.int deep), some (.ref m), some (.int free), some (.int ats), x6, x7, x8, x9, x10, x11] (ns.map .int) acc S)
        fun p S' => ∃ ts left', p = .lst (acc ++ ts.map enc) ∧ TsOk (dOf CD b) free ats deep left left' ns ts ∧ W2 n m S S' left'
  | [], acc, S, left, x11, hw, hl, h1, h2, h3, hB => by
    rw [List.map_nil, compF]
    exact ⟨[], left, by simp, ⟨by simp, trivial, by simp [lens], id, Int.le_refl _, rfl⟩, ⟨rfl, fun _ _ _ => rfl, hw, hl⟩⟩
  | k :: ns, acc, S, left, x11, hw, hl, h1, h2, h3, hB => by
    rw [List.map_cons, compF]
    simp! only []
    refine wp_of (rec_ S (deep + k) left (hB k (by simp)) hw hl h1 h2) fun p S1 ⟨t, l1, ep, ht, w1⟩ => ?_
    subst ep
    have ha : (enc t).isRef = false ∧ acc.length < sizeLine := ⟨isRef_enc t, by have := size_1000 (n := acc.length + 1) (by simp at h3; omega); omega⟩
    rw [if_pos ha]
    refine wp_of (tree_comp (b := b) K B rec_ ns (acc ++ [enc t]) S1 l1 _ w1.w w1.l (by have := ht.le; omega) (ht.nn h2) (by simp at h3 ⊢; omega) (fun k hk => hB k (by simp [hk]))) fun p S2 ⟨ts, l2, ep, hts, w2⟩ => ?_
    refine ⟨t :: ts, l2, by rw [ep]; simp, ⟨?_, ⟨ht.lf, hts.lf⟩, ?_, fun z => hts.nn (ht.nn z), ?_, by simp [hts.le2]⟩, w1.trans w2⟩
    · intro x hx
      rcases List.mem_cons.mp hx with e | e
      · subst e; exact ht.v
      · exact hts.v x e
    · have a := ht.ln; have c := hts.ln
      simp only [lens, List.length_cons]; omega
    · have := ht.le; have := hts.le; omega
theorem rep_mem {xs : List PV} {k : Nat} {p : PV} (h : p ∈ (List.replicate k xs).flatten) : p ∈ xs := by
  obtain ⟨l, hl, hp⟩ := List.mem_flatten.mp h
  rw [(List.mem_replicate.mp hl).2] at hp; exact hp
theorem gRep_ok {xs : List PV} {S : Sto} (hl : xs.length ≤ 100) : ∃ ys, gRep (.tup xs) (.int 4) S = .ok (.tup ys) S ∧ (∀ y ∈ ys, y ∈ xs) ∧ ys.length = 4 * xs.length := by
  cases xs with
  | nil => exact ⟨[], by simp [gRep], by simp, by simp⟩
  | cons x xs =>
    refine ⟨(List.replicate 4 (x :: xs)).flatten, ?_, fun y hy => rep_mem hy, by simp [List.length_flatten, List.replicate]; omega⟩
    show (if 2 ≤ (4 : Int) ∧ (4 : Int) ≤ 1000 ∧ (x :: xs).length ≤ 1000 then R.ok (PV.tup (List.replicate (4 : Int).toNat (x :: xs)).flatten) S else .no) = _
    rw [if_pos ⟨by omega, by omega, by simp at hl ⊢; omega⟩]; rfl
theorem own_names {w : Str} : ∀ {b : List Fm}, w ∈ b.map Fm.w → ∃ ns, dlB b w = some ns
  | f :: b, h => by
    rw [dlB]
    by_cases e : f.w = w
    · exact ⟨_, if_pos e⟩
    · rw [if_neg e]
      refine own_names ?_
      rcases List.mem_cons.mp h with z | z
      · exact absurd z.symm e
      · exact z
theorem word_names {b : List Fm} {w : Str} (h : w ∈ ks_CORE_WORDS ∨ w ∈ b.map Fm.w) : ∃ ns, dl (dOf CD b) w = some ns := by
  rw [dl_dOf]
  have key : ∀ w ∈ ks_CORE_WORDS, (dl CD w).isSome = true := by decide +kernel
  cases e : dl CD w with
  | some v => exact ⟨v, rfl⟩
  | none =>
    rcases h with h | h
    · have := key w h; rw [e] at this; cases this
    · obtain ⟨ns, h⟩ := own_names h
      exact ⟨ns, by simpa using h⟩
theorem comp_words {b : List Fm} {i : Nat} {ρ : Py.Env} {S : Sto} (hi : i < ρ.length) (hl : b.length ≤ 100) : compF (nName i) tYesE (eOp gIx (eVar i) (eC (.int 0))) ρ (b.map fmP) [] S = .ok (.lst ((b.map Fm.w).map .str)) S := by
  rw [List.map_map]
  refine compF_gen0 _ (fun f hf => ⟨ρ.set i (some (fmP f)), rfl, ?_, rfl⟩) (by omega)
  have : (ρ.set i (some (fmP f)))[i]? = some (some (fmP f)) := by simp [hi]
  refine eqn ?_
  have f0 : fmP f = .tup [.str f.w, .tup (f.ns.map .int), enc f.t] := rfl
  simp! only [this]
  rw [f0]
  simp! only [Function.comp_def]
end
section
variable {D : List (Str × List Int)}
theorem gTupOf_lst {xs : List PV} {S : Sto} : gTupOf [.lst xs] S = .ok (.tup xs) S := rfl
def W17 : List Str := ["call", "fn", "pair", "plus", "test", "again", "first", "second", "minus", "times", "put", "box", "look", "say", "call", "fn", "test"]
theorem tree_ok {b : List Fm} (hb : BkOk CD b) (hbl : b.length ≤ 8) {n m : Nat} (hnm : m ≠ n) {free ats : Int} (hf : free ≤ 100) (ha : ats ≤ 100) : ∀ (k : Nat) (S : Sto) (deep left : Int), left + 1 ≤ k → deep + 2 * k ≤ 1000 → 0 ≤ left → Well S n → S[m]? = some (.lst [.int left]) →
    WP (m__law_tree k [.ref n, bookP b, .int deep, .ref m, .int free, .int ats] S) fun p S' => ∃ t left', p = enc t ∧ TrOk (dOf CD b) free ats deep left left' t ∧ W2 n m S S' left'
  | 0, S, deep, left, h1, h2, h3, hw, hm => by omega
  | k + 1, S, deep, left, h1, h2, h3, hw, hm => by
    have hD := dOf_ok b CD_ok hb
    have hml : m < S.length := (List.getElem?_eq_some_iff.mp hm).1
    have cw := comp_words (b := b) (i := 10) (ρ := [some (.ref n), some (.tup (b.map fmP)), some (.int deep), some (.ref m), some (.int free), some (.int ats), some (.tup [.str "call", .str "fn", .str "pair", .str "plus", .str "test", .str "again", .str "first", .str "second", .str "minus", .str "times", .str "put", .str "box", .str "look"]), none, none, none, none, none]) (S := S) (by simp) (by omega)
    obtain ⟨ys, e1, e2, e3⟩ := gRep_ok (xs := (b.map Fm.w).map .str) (S := S) (by simp; omega)
    have hyl : ys.length ≤ 100 := by simp at e3; omega
    have rec_ := fun S dp left hdp hw hm hl h0 => tree_ok hb hbl hnm hf ha k S dp left hl hdp h0 hw hm
    rw [m__law_tree]
    unfold b__law_tree
    have bp : bookP b = .tup (b.map fmP) := rfl
    rw [bp]
    simp! only [cw, gTupOf_lst, e1]
    rw [gAdd_tup (by simp; omega)]
    simp! only []
    refine wp_of (pick_tup hw (by simp) (by simp; omega) ?_) fun p S1 ⟨hp, w1⟩ => ?_
    · intro x hx
      have hx : x ∈ W17.map PV.str ++ ys := hx
      rcases List.mem_append.mp hx with z | z
      · obtain ⟨w, _, rfl⟩ := List.mem_map.mp z; rfl
      · obtain ⟨w, _, rfl⟩ := List.mem_map.mp (e2 x z); rfl
    have hp : p ∈ W17.map PV.str ++ ys := hp
    obtain ⟨w, rfl, hwm⟩ : ∃ w, p = .str w ∧ (w ∈ ks_CORE_WORDS ∨ w ∈ b.map Fm.w) := by
      rcases List.mem_append.mp hp with z | z
      · obtain ⟨w, h, rfl⟩ := List.mem_map.mp z
        have key : ∀ w ∈ W17, w ∈ ks_CORE_WORDS := by decide +kernel
        exact ⟨w, rfl, .inl (key w h)⟩
      · obtain ⟨w, h, rfl⟩ := List.mem_map.mp (e2 p z)
        exact ⟨w, rfl, .inr h⟩
    obtain ⟨ns, hns⟩ := word_names hwm
    have nm := hD.nm _ _ hns
    have snn := sum_nn fun n hn => (nm.2.2 n hn).1
    have ln := law_names_some (S := S1) hns
    rw [bp] at ln
    have sm := gSumA_ints (ns := ns) (S := S1) (by omega)
    have w1m : S1[m]? = some (.lst [.int left]) := by rw [w1.same m hnm]; exact hm
    have tail : ∀ (S2 : Sto), Wl n S S2 → WP ((sSeq (sAsg (eArgs m__law_draw (aCons (eVar 0) (aCons (eC (.int 5)) aNil))) (nName 9)) (sSeq (sIf (tAndE (tV (eOp gLt (eVar 9) (eC (.int 3)))) (tV (eOp gGt (eOp gAdd (eVar 2) (eVar 4)) (eC (.int 0))))) (sRet (eArgs gTupP (aCons (eC (.str "name")) (aCons (eArgs m__law_draw (aCons (eVar 0) (aCons (eOp gAdd (eVar 2) (eVar 4)) aNil))) aNil)))) sNil) (sSeq (sIf (tAndE (tV (eOp gEq (eVar 9) (eC (.int 3)))) (tV (eOp gGt (eVar 5) (eC (.int 0))))) (sRet (eArgs gTupP (aCons (eC (.str "at")) (aCons (eArgs m__law_draw (aCons (eVar 0) (aCons (eVar 5) aNil))) aNil)))) sNil) (sRet (eArgs m__law_number (aCons (eVar 0) aNil))))))
        [some (.ref n), some (.tup (b.map fmP)), some (.int deep), some (.ref m), some (.int free), some (.int ats), some (.tup (W17.map PV.str ++ ys)), some (.str w), some (.tup (ns.map .int)), none, none, none] S2) fun fl S' => ∃ t left', fl = .rt (enc t) ∧ TrOk (dOf CD b) free ats deep left left' t ∧ W2 n m S S' left' := by
      intro S2 w2
      simp! only []
      refine wp_of (draw_ok w2.w (m := 5) (by omega) (by omega)) fun p S3 ⟨j, ej, j0, j1, w3⟩ => ?_
      subst ej
      have num : WP (m__law_number [.ref n] S3) fun p S' => ∃ t left', (Fl.rt p) = .rt (enc t) ∧ TrOk (dOf CD b) free ats deep left left' t ∧ W2 n m S S' left' :=
        wp_of (number_ok w3.w) fun p S4 ⟨i, ei, i0, i1, w4⟩ => ⟨.lf "number" [i], left, by rw [ei], ⟨.lf (.inr (.inl ⟨rfl, i, rfl, i0, i1⟩)), by simp [lv, LfT], by simp [len], id, Int.le_refl _⟩, W2.of ((w2.trans w3).trans w4) hm hnm⟩
      have at_ : WP ((sSeq (sIf (tAndE (tV (eOp gEq (eVar 9) (eC (.int 3)))) (tV (eOp gGt (eVar 5) (eC (.int 0))))) (sRet (eArgs gTupP (aCons (eC (.str "at")) (aCons (eArgs m__law_draw (aCons (eVar 0) (aCons (eVar 5) aNil))) aNil)))) sNil) (sRet (eArgs m__law_number (aCons (eVar 0) aNil))))
          [some (.ref n), some (.tup (b.map fmP)), some (.int deep), some (.ref m), some (.int free), some (.int ats), some (.tup (W17.map PV.str ++ ys)), some (.str w), some (.tup (ns.map .int)), some (.int j), none, none] S3) fun fl S' => ∃ t left', fl = .rt (enc t) ∧ TrOk (dOf CD b) free ats deep left left' t ∧ W2 n m S S' left' := by
        by_cases c1 : j = 3
        · by_cases c2 : 0 < ats
          · subst c1
            simp! only [c2]
            refine wp_of (draw_ok w3.w (m := ats) c2 (by omega)) fun p S4 ⟨i, ei, i0, i1, w4⟩ => ?_
            subst ei
            simp! only []
            exact ⟨.lf "at" [i], left, by simp [enc], ⟨.lf (.inr (.inr ⟨.inr rfl, i, rfl, i0⟩)), by simp [lv, LfT, c2, i1], by simp [len], id, Int.le_refl _⟩, W2.of ((w2.trans w3).trans w4) hm hnm⟩
          · subst c1
            simp! only [c2]
            exact num
        · simp! only [c1]
          exact num
      by_cases c1 : j < 3
      · by_cases c2 : 0 < deep + free
        · simp! only [c1, c2]
          refine wp_of (draw_ok w3.w (m := deep + free) c2 (by omega)) fun p S4 ⟨i, ei, i0, i1, w4⟩ => ?_
          subst ei
          simp! only []
          exact ⟨.lf "name" [i], left, by simp [enc], ⟨.lf (.inr (.inr ⟨.inl rfl, i, rfl, i0⟩)), by simp [lv, LfT, i1], by simp [len], id, Int.le_refl _⟩, W2.of ((w2.trans w3).trans w4) hm hnm⟩
        · simp! only [c1, c2]
          simp! only [] at at_
          exact at_
      · simp! only [c1]
        simp! only [] at at_
        exact at_
    have fin : ∀ {fl : Fl} {S' : Sto}, (∃ t left', fl = .rt (enc t) ∧ TrOk (dOf CD b) free ats deep left left' t ∧ W2 n m S S' left') → WP (finF S.length fl S') fun p S' => ∃ t left', p = enc t ∧ TrOk (dOf CD b) free ats deep left left' t ∧ W2 n m S S' left' := by
      intro fl S' ⟨t, l', e, h1, h2⟩
      subst e
      simp! only [finV_enc, take_len h2.len]
      exact ⟨t, l', rfl, h1, h2⟩
    simp! only [ln, sm, gLen_tup, List.length_map, w1m]
    by_cases hc : ns.sum + (ns.length : Nat) ≤ left
    · simp! only [hc]
      refine wp_of (draw_ok w1.w (m := 6) (by omega) (by omega)) fun p S2 ⟨j, ej, j0, j1, w2⟩ => ?_
      subst ej
      by_cases hj : 0 < j
      · have w2m : S2[m]? = some (.lst [.int left]) := by rw [w2.same m hnm]; exact w1m
        have hml2 : m < S2.length := (List.getElem?_eq_some_iff.mp w2m).1
        have sm2 := gSumA_ints (ns := ns) (S := S2) (by omega)
        simp! only [hj, w2m, sm2, gLen_tup, List.length_map]
        have w3 : W2 n m S2 (S2.set m (.lst [.int (left - ns.sum - (ns.length : Nat))])) (left - ns.sum - (ns.length : Nat)) :=
          ⟨by simp, fun i _ h => by rw [List.getElem?_set_ne (Ne.symm h)], by
            obtain ⟨a, b, c, e⟩ := w2.w
            exact ⟨a, b, c, by rw [List.getElem?_set_ne hnm]; exact e⟩, by simp [hml2]⟩
        refine wp_of (tree_comp (b := b) (k - 1) (1000 - 2 * k) (fun S dp left h1 h2 h3 h4 h5 => rec_ S dp left (by omega) h2 h3 (by omega) h5) ns [] _ _ none w3.w w3.l (by omega) (by omega) (by simp; omega) (fun q hq => by have := nm.2.2 q hq; omega)) fun p S4 ⟨ts, l4, ep, hts, w4⟩ => ?_
        subst ep
        have hl4 := hts.le2
        have hend : Fl.rt (PV.tup (PV.str w :: ts.map enc)) = Fl.rt (enc (.nd w ns ts)) := by rw [enc, encs_map]
        have wa : W2 n m S S4 l4 := ((W2.of (w1.trans w2) hm hnm).trans w3).trans w4
        rw [List.nil_append]
        simp! only [gTupOf_lst]
        rw [gAdd_tup (by simp; omega)]
        simp! only [take_len wa.len]
        have hln := hts.ln
        have hnn := hts.nn (by omega)
        have hle := hts.le
        refine ⟨.nd w ns ts, l4, by rw [enc, encs_map], ⟨.nd hns (by omega) hts.v, ?_, ?_, fun _ => hnn, by omega⟩, wa⟩
        · rw [lv]; exact lvs_all ts ns 0 deep hts.lf
        · simp only [len]; omega
      · simp! only [hj]
        have tl := wp_of (tail S2 (w1.trans w2)) fun fl S' z => fin z
        simp! only [] at tl
        exact tl
    · simp! only [hc]
      have tl := wp_of (tail S1 w1) fun fl S' z => fin z
      simp! only [] at tl
      exact tl
end
section
variable {D : List (Str × List Int)}
theorem gAdd_str {a b : Str} {S : Sto} (h : a.cps.size + b.cps.size ≤ 5000) : gAdd (.str a) (.str b) S = .ok (.str (a ++ b)) S := by
  show (if a.cps.size + b.cps.size ≤ sizeLine then R.ok (PV.str (a ++ b)) S else .no) = _
  rw [if_pos (size_1000 h)]
end
section
theorem well_loop {S : Sto} {a0 a1 x4 : Option PV} : ∀ (cs : List Int) (v : Int) (x3 : Option PV),
    WP (forF (nName 3) (sAsg (eOp gMod (eArgs gInt (aCons (eOp gAdd (eOp gAdd (eOp gMul (eVar 2) (eC (.int 51787))) (eOp gMod (eArgs gInt (aCons (eVar 3) aNil)) (eC (.int 2147483549)))) (eC (.int 11))) aNil)) (eC (.int 2147483579))) (nName 2)) (cs.map .int) [a0, a1, some (.int v), x3, x4] S) fun fl S' => S' = S ∧ ∃ (v : Int) (x3 : Option PV), fl = .nx [a0, a1, some (.int v), x3, x4]
  | [], v, x3 => by
    rw [List.map_nil, forF]
    simp! only []
    exact ⟨_, _, rfl⟩
  | c :: cs, v, x3 => by
    rw [List.map_cons, forF]
    simp! only []
    exact well_loop cs _ _
theorem cut_ints (ns : List Int) (lo hi : Option Int) : ∃ cs : List Int, cutP (ns.map .int) lo hi = cs.map .int := by
  refine ⟨(ns.drop (HT.sIx ns.length 0 lo)).take (HT.sIx ns.length ns.length hi - HT.sIx ns.length 0 lo), ?_⟩
  unfold cutP
  rw [List.length_map, List.map_take, List.map_drop]
theorem well_ok {ns : List Int} {t : Int} {S : Sto} (h0 : 0 ≤ t) (ht : t ≤ 10) (hl : ns.length ≤ 63) : WP (m__law_well [.frl (ns.map .int), .int t] S) fun p S' => S' = S ∧ ∃ a b c : Int, p = .lst [.int a, .int b, .int c] := by
  obtain ⟨cs, hcs⟩ := cut_ints ns none (some 7)
  unfold m__law_well b__law_well
  have gl : gLen [.frl (ns.map .int)] S = .ok (.int (ns.length : Nat)) S := by simp [gLen, getQ, getL]
  simp! only [fSl, gSlF, hcs]
  refine wp_of (well_loop cs _ _) fun fl S' ⟨e1, v, x3, e2⟩ => ?_
  subst e1 e2
  have nl : ¬ S'.length < S'.length := by omega
  have fin : ∀ w : Int, WP ((sSeq (sAsg (eOp gMod (eArgs gInt (aCons (eOp gAdd (eOp gAdd (eOp gMul (eVar 2) (eC (.int 39119))) (eOp gMul (eOp gMod (eArgs gInt (aCons (eVar 4) aNil)) (eC (.int 2147483549))) (eC (.int 27011)))) (eC (.int 3))) aNil)) (eC (.int 2147483579))) (nName 2)) (sRet (eNew (eArgs gLstP (aCons (eIf (tOrE (tV (eOp gLt (eVar 4) (eC (.int 0)))) (tV (eOp gGe (eVar 4) (eOp gPow (eC (.int 10)) (eC (.int 14)))))) (eArgs gAbs (aCons (eVar 4) aNil)) (eC (.int 0))) (aCons (eVar 2) (aCons (eC (.int 0)) aNil)))))))
      [some (.frl (ns.map .int)), some (.int t), some (.int v), x3, some (.int w)] S') fun fl S2 => WP (finO S'.length fl S2) fun p S2 => S2 = S' ∧ ∃ a b c : Int, p = .lst [.int a, .int b, .int c] := by
    intro w
    have gp : gPow (.int 10) (.int 14) S' = .ok (.int (10 ^ 14)) S' := by
      show (if 0 ≤ (14 : Int) ∧ (14 : Int) ≤ 1000000 ∧ (10 : Int).natAbs < 2 ^ 64 then R.ok (PV.int (10 ^ (14 : Int).toNat)) S' else .no) = _
      rw [if_pos (by decide)]; rfl
    have ga : gAbs [.int w] S' = .ok (.int (if w < 0 then -w else w)) S' := rfl
    by_cases c1 : w < 0
    · simp! only [c1, ga, nl, get_last, take_app]
      exact ⟨_, _, _, rfl⟩
    · by_cases c2 : (10 : Int) ^ 14 ≤ w
      · have c2' : (100000000000000 : Int) ≤ w := by simpa using c2
        simp! only [c1, gp, c2', ga, nl, get_last, take_app]
        exact ⟨_, _, _, rfl⟩
      · have c2' : ¬ (100000000000000 : Int) ≤ w := by simpa using c2
        simp! only [c1, gp, c2', ga, nl, get_last, take_app]
        exact ⟨_, _, _, rfl⟩
  by_cases c : t < (ns.length : Nat)
  · have hk : t.toNat < ns.length := by omega
    have a1 : atI (ns.map PV.int) t = some (.int ns[t.toNat]) := by rw [atI_pos h0]; simp [hk]
    have f := fin ns[t.toNat]
    simp! only [gl, c, a1]
    simp! only [] at f
    exact f
  · have f := fin 0
    simp! only [gl, c]
    simp! only [] at f
    exact f
end
section
variable {D : List (Str × List Int)}
mutual
theorem lv_deep (hD : DOk D) : ∀ (t : T) (d : Int), V D t → ∀ q ∈ lv t d, d ≤ q.2.1 ∧ q.2.1 ≤ d + 2 * dep t
  | .lf w xs, d, h, q, hq => by
    simp only [lv, List.mem_singleton] at hq
    subst hq
    simp only [dep]; omega
  | .nd w ns ps, d, h, q, hq => by
    cases h with
    | nd h1 h2 h3 =>
    have := lvs_deep hD ps ns 0 d h3 (fun n hn => (hD.nm _ _ h1).2.2 n hn) q hq
    simp only [dep]; omega
theorem lvs_deep (hD : DOk D) : ∀ (ps : List T) (ns : List Int) (i : Nat) (d : Int), (∀ p ∈ ps, V D p) → (∀ n ∈ ns, 0 ≤ n ∧ n ≤ 2) → ∀ q ∈ lvs ps ns i d, d ≤ q.2.1 ∧ q.2.1 ≤ d + 2 + 2 * deps ps
  | [], ns, i, d, h, hn, q, hq => by simp [lvs] at hq
  | p :: ps, [], i, d, h, hn, q, hq => by simp [lvs] at hq
  | p :: ps, n :: ns, i, d, h, hn, q, hq => by
    rw [lvs] at hq
    have n1 := hn n (by simp)
    rcases List.mem_append.mp hq with z | z
    · obtain ⟨y, hy, rfl⟩ := List.mem_map.mp z
      have := lv_deep hD p (d + n) (h p (by simp)) y hy
      simp only [deps]; omega
    · have := lvs_deep hD ps ns (i + 1) d (fun p hp => h p (by simp [hp])) (fun n hn' => hn n (by simp [hn'])) q z
      simp only [deps]; omega
end
theorem ints_cons (a : Int) (n : Nat) : Py.intsFrom a (n + 1) = .int a :: Py.intsFrom (a + 1) n := by
  unfold Py.intsFrom
  rw [List.range_succ_eq_map]
  simp only [List.map_cons, List.map_map]
  congr 1
  · simp
  · apply List.map_congr_left
    intro i _
    simp only [Function.comp]
    congr 1
    omega
theorem ints_zero (a : Int) : Py.intsFrom a 0 = [] := rfl
end
section
variable {D : List (Str × List Int)}
local instance : CT := ⟨fun _ => ⟨.Pass ⟨0, 0, 0, 0⟩, "", []⟩, [], fun _ => none⟩
end
section
variable {D : List (Str × List Int)}
inductive Dv : Nat → PV → Prop
  | non {k : Nat} : Dv (k + 1) .non
  | bl {k : Nat} {b : Bool} : Dv (k + 1) (.bl b)
  | int {k : Nat} {i : Int} : Dv (k + 1) (.int i)
  | str {k : Nat} {x : Str} : Dv (k + 1) (.str x)
  | lst {k : Nat} {xs : List PV} : Dv (k + 1) (.lst xs)
  | dic {k : Nat} {ks : List Key} {vs : List PV} : Dv (k + 1) (.dic ks vs)
  | tup {k : Nat} {xs : List PV} : (∀ x ∈ xs, Dv k x) → xs.length ≤ 100 → Dv (k + 1) (.tup xs)
theorem Dv.up {k : Nat} {p : PV} (h : Dv k p) : Dv (k + 1) p := by
  induction h with
  | non => exact .non
  | bl => exact .bl
  | int => exact .int
  | str => exact .str
  | lst => exact .lst
  | dic => exact .dic
  | tup _ hl ih => exact .tup ih hl
theorem Dv.le {k m : Nat} {p : PV} (h : Dv k p) (hm : k ≤ m) : Dv m p := by
  induction hm with
  | refl => exact h
  | step _ ih => exact ih.up
theorem Dv.ref {k : Nat} {p : PV} (h : Dv k p) : p.isRef = false := by cases h <;> rfl
def isIn : PV → Bool
  | .int _ => true
  | _ => false
inductive VN (D : List (Str × List Int)) (wh : Bool) : T → Prop
  | lf {w : Str} {xs : List Int} : LfOk w xs → (w = "hole" → wh = true) → VN D wh (.lf w xs)
  | nd {w : Str} {ns : List Int} {ps : List T} : dl D w = some ns → ps.length = ns.length → (∀ p ∈ ps, VN D wh p) → VN D wh (.nd w ns ps)
variable {wh : Bool}
theorem VN.v {t : T} (h : VN D wh t) : V D t := by
  induction h with
  | lf h _ => exact .lf h
  | nd h1 h2 h3 ih => exact .nd h1 h2 ih
theorem VN.of {t : T} (h : V D t) : VN D true t := by
  induction h with
  | lf h => exact .lf h fun _ => rfl
  | nd h1 h2 h3 ih => exact .nd h1 h2 ih
theorem VN.up {t : T} (h : VN D false t) : VN D true t := VN.of h.v
end
section
variable {D : List (Str × List Int)} {wh : Bool}
theorem enc_nd {w : Str} {xs : List PV} {t : T} (hD : DOk D) (h : VN D wh t) (e : enc t = .tup (.str w :: xs)) (hw : w ∉ LW) {ns : List Int} (hn : dl D w = some ns) : ∃ ps, t = .nd w ns ps ∧ xs = ps.map enc := by
  cases h with
  | @lf w' ys h1 h2 =>
    rw [enc] at e
    simp only [PV.tup.injEq, List.cons.injEq, PV.str.injEq] at e
    rw [← e.1] at hw
    exact absurd h1.lw hw
  | @nd w' ns' ps h1 h2 h3 =>
    rw [enc, encs_map] at e
    simp only [PV.tup.injEq, List.cons.injEq, PV.str.injEq] at e
    obtain ⟨e1, e2⟩ := e
    subst e1
    rw [h1] at hn
    cases hn
    exact ⟨ps, rfl, e2.symm⟩
end
section
variable {D : List (Str × List Int)} {wh : Bool}
theorem lwhole_any {k : Nat} {p : PV} {S : Sto} (h : Dv k p) : m__law_is_whole [p] S = .ok (.bl (isIn p)) S := by
  refine eqn ?_
  unfold m__law_is_whole b__law_is_whole
  cases h <;> simp! only [take_self, isIn]
end
section
variable {D : List (Str × List Int)} {wh : Bool}
theorem encs_inj : ∀ {ps qs : List T}, (∀ p ∈ ps, ∀ q, VN D wh q → enc p = enc q → p = q) → (∀ q ∈ qs, VN D wh q) → ps.map enc = qs.map enc → ps = qs
  | [], [], _, _, _ => rfl
  | [], q :: qs, _, _, e => by simp at e
  | p :: ps, [], _, _, e => by simp at e
  | p :: ps, q :: qs, h, hq, e => by
    simp only [List.map_cons, List.cons.injEq] at e
    rw [h p (by simp) q (hq q (by simp)) e.1, encs_inj (fun p hp => h p (by simp [hp])) (fun q hz => hq q (by simp [hz])) e.2]
theorem enc_inj (hD : DOk D) {t : T} (h : VN D wh t) : ∀ u, VN D wh u → enc t = enc u → t = u := by
  induction h with
  | @lf w xs hl hn =>
    intro u hu e
    cases hu with
    | @lf w' ys hl' _ =>
      rw [enc, enc] at e
      simp only [PV.tup.injEq, List.cons.injEq, PV.str.injEq] at e
      obtain ⟨rfl, e⟩ := e
      have : ∀ (a b : List Int), a.map PV.int = b.map PV.int → a = b := by
        intro a
        induction a with
        | nil => intro b h; cases b <;> simp at h ⊢
        | cons x a ih =>
          intro b h
          cases b with
          | nil => simp at h
          | cons y b =>
            simp only [List.map_cons, List.cons.injEq, PV.int.injEq] at h
            rw [h.1, ih b h.2]
      rw [this xs ys e]
    | @nd w' ns ps h1 _ _ =>
      rw [enc, enc] at e
      simp only [PV.tup.injEq, List.cons.injEq, PV.str.injEq] at e
      obtain ⟨rfl, e⟩ := e
      exact absurd hl.lw (hD.lw _ _ h1)
  | @nd w ns ps h1 h2 h3 ih =>
    intro u hu e
    rw [enc, encs_map] at e
    obtain ⟨qs, rfl, e2⟩ := enc_nd hD hu e.symm (hD.lw _ _ h1) h1
    cases hu with
    | nd g1 g2 g3 =>
    rw [encs_inj ih g3 e2]
mutual
def hg : PV → Nat
  | .tup xs => 1 + hgs xs
  | .lst xs => 1 + hgs xs
  | _ => 1
def hgs : List PV → Nat
  | [] => 0
  | x :: xs => hg x + hgs xs
end
/-- bent at most m times, depth below k -/
inductive Bd (m : Nat) : Nat → PV → Prop
  | non {k : Nat} : Bd m (k + 1) .non
  | bl {k : Nat} {b : Bool} : Bd m (k + 1) (.bl b)
  | int {k : Nat} {i : Int} : i.natAbs < 2 ^ (60 + 40 * m) → Bd m (k + 1) (.int i)
  | str {k : Nat} {x : Str} : x.cps.size ≤ 200 + m → (∀ c ∈ x.cps.toList, c < 16 ^ 8) → Bd m (k + 1) (.str x)
  | lst {k : Nat} {xs : List PV} : (∀ x ∈ xs, Bd m k x) → xs.length ≤ 20 + m → Bd m (k + 1) (.lst xs)
  | dic {k : Nat} : Bd m (k + 1) (.dic [] [])
  | tup {k : Nat} {xs : List PV} : (∀ x ∈ xs, Bd m k x) → xs.length ≤ 20 + m → Bd m (k + 1) (.tup xs)
theorem pow_le {m n : Nat} (h : m ≤ n) : 2 ^ (60 + 40 * m) ≤ 2 ^ (60 + 40 * n) := Nat.pow_le_pow_right (by omega) (by omega)
theorem Bd.up {m k : Nat} {p : PV} (h : Bd m k p) : Bd m (k + 1) p := by
  induction h with
  | non => exact .non
  | bl => exact .bl
  | int h => exact .int h
  | str h hc => exact .str h hc
  | lst _ hl ih => exact .lst ih hl
  | dic => exact .dic
  | tup _ hl ih => exact .tup ih hl
theorem Bd.le {m k n : Nat} {p : PV} (h : Bd m k p) (hm : k ≤ n) : Bd m n p := by
  induction hm with
  | refl => exact h
  | step _ ih => exact ih.up
theorem Bd.more {m k n : Nat} {p : PV} (h : Bd m k p) (hm : m ≤ n) : Bd n k p := by
  induction h with
  | non => exact .non
  | bl => exact .bl
  | int h => exact .int (Nat.lt_of_lt_of_le h (pow_le hm))
  | str h hc => exact .str (by omega) hc
  | lst _ hl ih => exact .lst ih (by omega)
  | dic => exact .dic
  | tup _ hl ih => exact .tup ih (by omega)
theorem Bd.dv {m k : Nat} {p : PV} (h : Bd m k p) (hm : m ≤ 80) : Dv k p := by
  induction h with
  | non => exact .non
  | bl => exact .bl
  | int _ => exact .int
  | str _ _ => exact .str
  | lst _ _ _ => exact .lst
  | dic => exact .dic
  | tup _ hl ih => exact .tup ih (by omega)
theorem Bd.ref {m k : Nat} {p : PV} (h : Bd m k p) : p.isRef = false := by cases h <;> rfl
theorem hg_tup (xs : List PV) : hg (.tup xs) = 1 + hgs xs := by rw [hg]
theorem hg_lst (xs : List PV) : hg (.lst xs) = 1 + hgs xs := by rw [hg]
theorem hg_int (i : Int) : hg (.int i) = 1 := by rw [hg] <;> (intro xs h; cases h)
theorem hg_str (i : Str) : hg (.str i) = 1 := by rw [hg] <;> (intro xs h; cases h)
theorem hg_bl (i : Bool) : hg (.bl i) = 1 := by rw [hg] <;> (intro xs h; cases h)
theorem hg_pos (p : PV) : 1 ≤ hg p := by
  unfold hg
  split <;> omega
theorem hgs_app : ∀ a b : List PV, hgs (a ++ b) = hgs a + hgs b
  | [], b => by simp [hgs]
  | x :: a, b => by rw [List.cons_append, hgs, hgs, hgs_app a b]; omega
theorem hgs_rev : ∀ a : List PV, hgs a.reverse = hgs a
  | [] => rfl
  | x :: a => by rw [List.reverse_cons, hgs_app, hgs_rev a, hgs, hgs, hgs]; omega
theorem hgs_take (n : Nat) (xs : List PV) : hgs (xs.take n) + hgs (xs.drop n) = hgs xs := by
  rw [← hgs_app, List.take_append_drop]
mutual
def bdB (m : Nat) : Nat → PV → Bool
  | 0, _ => false
  | k + 1, .int i => decide (i.natAbs < 2 ^ 60)
  | k + 1, .str x => decide (x.cps.size ≤ 200) && x.cps.toList.all fun c => decide (c < 16 ^ 8)
  | k + 1, .tup xs => bdBs m k xs && decide (xs.length ≤ 20)
  | k + 1, .lst xs => bdBs m k xs && decide (xs.length ≤ 20)
  | k + 1, .dic (_ :: _) _ => false
  | k + 1, .dic _ (_ :: _) => false
  | k + 1, .ref _ => false
  | k + 1, .frl _ => false
  | k + 1, .adr _ => false
  | k + 1, .clo _ _ => false
  | k + 1, .err _ _ => false
  | k + 1, _ => true
def bdBs (m : Nat) : Nat → List PV → Bool
  | _, [] => true
  | k, x :: xs => bdB m k x && bdBs m k xs
end
mutual
theorem bdB_ok {m : Nat} : ∀ {k : Nat} {p : PV}, bdB m k p = true → Bd m k p
  | 0, p, h => by rw [bdB] at h; cases h
  | k + 1, .non, h => .non
  | k + 1, .bl _, h => .bl
  | k + 1, .int i, h => by
    rw [bdB] at h
    have h := of_decide_eq_true h
    exact .int (Nat.lt_of_lt_of_le h (by have := pow_le (m := 0) (n := m) (by omega); simpa using this))
  | k + 1, .str x, h => by
    rw [bdB] at h
    rw [Bool.and_eq_true, List.all_eq_true] at h
    have := of_decide_eq_true h.1
    exact .str (by omega) fun c hc => of_decide_eq_true (h.2 c hc)
  | k + 1, .lst xs, h => by
    rw [bdB, Bool.and_eq_true] at h
    have := of_decide_eq_true h.2
    exact .lst (bdBs_ok h.1) (by omega)
  | k + 1, .dic [] [], h => .dic
  | k + 1, .dic (_ :: _) _, h => by rw [bdB] at h; cases h
  | k + 1, .dic [] (_ :: _), h => by rw [bdB] at h <;> first | cases h | (intro _ _ _ _ h; cases h)
  | k + 1, .frl _, h => by rw [bdB] at h; cases h
  | k + 1, .adr _, h => by rw [bdB] at h; cases h
  | k + 1, .clo _ _, h => by rw [bdB] at h; cases h
  | k + 1, .err _ _, h => by rw [bdB] at h; cases h
  | k + 1, .ref _, h => by rw [bdB] at h; cases h
  | k + 1, .tup xs, h => by
    rw [bdB, Bool.and_eq_true] at h
    have := of_decide_eq_true h.2
    exact .tup (bdBs_ok h.1) (by omega)
theorem bdBs_ok {m : Nat} : ∀ {k : Nat} {xs : List PV}, bdBs m k xs = true → ∀ x ∈ xs, Bd m k x
  | k, [], _, x, hx => by cases hx
  | k, y :: ys, h, x, hx => by
    rw [bdBs, Bool.and_eq_true] at h
    rcases List.mem_cons.mp hx with e | e
    · rw [e]; exact bdB_ok h.1
    · exact bdBs_ok h.2 x e
end
end
section
/-- may be compared with a text -/
def Sh : PV → Prop
  | .str _ => True
  | .dic _ _ => True
  | p => SeqAt.shaped (toD p) = true
mutual
def shB : Nat → PV → Bool
  | _, .non => true
  | _, .bl _ => true
  | _, .int _ => true
  | _, .str x => PyData.strOk x
  | k + 1, .tup xs => shBs k xs
  | k + 1, .lst xs => shBs k xs
  | _, _ => false
def shBs : Nat → List PV → Bool
  | _, [] => true
  | k, x :: xs => shB k x && shBs k xs
end
mutual
theorem shB_ok : ∀ {k : Nat} {p : PV}, shB k p = true → (toD p).canLay0 = true ∧ (toD p).depth ≤ k
  | k, .non, _ => by simp [toD, PyData.canLay0, PyData.depth]
  | k, .bl _, _ => by simp [toD, PyData.canLay0, PyData.depth]
  | k, .int _, _ => by simp [toD, PyData.canLay0, PyData.depth]
  | k, .str x, h => by
    have h : PyData.strOk x = true := by cases k <;> simpa [shB] using h
    simp [toD, PyData.canLay0, PyData.depth, h]
  | 0, .tup _, h => by simp [shB] at h
  | 0, .lst _, h => by simp [shB] at h
  | k + 1, .tup xs, h => by
    rw [shB] at h
    obtain ⟨a, b⟩ := shBs_ok h
    simp only [toD, PyData.canLay0, PyData.depth]
    exact ⟨a, by omega⟩
  | k + 1, .lst xs, h => by
    rw [shB] at h
    obtain ⟨a, b⟩ := shBs_ok h
    simp only [toD, PyData.canLay0, PyData.depth]
    exact ⟨a, by omega⟩
  | k, .dic _ _, h => by cases k <;> simp [shB] at h
  | k, .ref _, h => by cases k <;> simp [shB] at h
  | k, .frl _, h => by cases k <;> simp [shB] at h
theorem shBs_ok : ∀ {k : Nat} {xs : List PV}, shBs k xs = true → PyData.canLayAll0 (toDs xs) = true ∧ PyData.depthAll (toDs xs) ≤ k
  | k, [], _ => by simp [toDs, PyData.canLayAll0, PyData.depthAll]
  | k, x :: xs, h => by
    rw [shBs, Bool.and_eq_true] at h
    obtain ⟨a, b⟩ := shB_ok h.1
    obtain ⟨c, d⟩ := shBs_ok h.2
    simp only [toDs, PyData.canLayAll0, PyData.depthAll, Bool.and_eq_true]
    exact ⟨⟨a, c⟩, by omega⟩
end
def shQ : PV → Bool
  | .str _ => true
  | .dic _ _ => true
  | p => shB 6 p
theorem shQ_ok {p : PV} (h : shQ p = true) : Sh p := by
  have key : shB 6 p = true → SeqAt.shaped (toD p) = true := fun h => by
    obtain ⟨a, b⟩ := shB_ok h
    unfold SeqAt.shaped
    rw [Bool.and_eq_true]
    exact ⟨a, decide_eq_true (by omega)⟩
  cases p with
  | str _ => trivial
  | dic _ _ => trivial
  | _ => exact key h
def ODD1 : List PV := [.non, .bl true, .bl false, .int 0, .int 1, .int (-1), .int 7, .int 1000000000000, .str "", .str "fn", .str "number", .str "at", .str "x", .str "test", .tup [], .tup [.int 0], .lst [], .dic [] []]
theorem odd1_ok : ODD1.all (fun x => bdB 0 6 x && decide (hg x ≤ 10) && shQ x) = true := by decide +kernel
theorem odd1_len : 0 < ODD1.length ∧ ODD1.length ≤ 5000 := by decide
theorem odd1_tup (ρ : Py.Env) (S : Sto) : (eArgs gTupP (aCons (eC .non) (aCons (eC (.bl true)) (aCons (eC (.bl false)) (aCons (eC (.int 0)) (aCons (eC (.int 1)) (aCons (eUn gNeg (eC (.int 1))) (aCons (eC (.int 7)) (aCons (eOp gPow (eC (.int 10)) (eC (.int 12))) (aCons (eC (.str "")) (aCons (eC (.str "fn")) (aCons (eC (.str "number")) (aCons (eC (.str "at")) (aCons (eC (.str "x")) (aCons (eC (.str "test")) (aCons (eArgs gTupP aNil) (aCons (eArgs gTupP (aCons (eC (.int 0)) aNil)) (aCons (eArgs gLstP aNil) (aCons (fun _ S => .ok (.dic [] []) S) aNil))))))))))))))))))) ρ S = .ok (.tup ODD1) S := rfl
def ODD2 : List PV := [.tup [.str "number"], .tup [.str "number", .int 5], .tup [.str "number", .bl true], .tup [.str "number", .int 1000000000], .tup [.str "name", .int (-1)], .tup [.str "number", .int (-999999999)], .tup [.str "number", .int (-1000000000)], .tup [.str "name", .int 0], .tup [.str "at", .str "0"], .tup [.str "at", .int 0], .tup [.str "number", .int 2, .int 2], .tup [.str "hole", .int 99], .tup [.str "hole", .int 100], .tup [.str "hole", .int 0, .int 0, .int 1], .tup [.str "hole", .int 0, .int (-1)]]
theorem odd2_ok : ODD2.all (fun x => bdB 0 6 x && decide (hg x ≤ 10) && shQ x) = true := by decide +kernel
theorem odd2_len : 0 < ODD2.length ∧ ODD2.length ≤ 5000 := by decide
theorem odd2_tup (ρ : Py.Env) (S : Sto) : (eArgs gTupP (aCons (eArgs gTupP (aCons (eC (.str "number")) aNil)) (aCons (eArgs gTupP (aCons (eC (.str "number")) (aCons (eC (.int 5)) aNil))) (aCons (eArgs gTupP (aCons (eC (.str "number")) (aCons (eC (.bl true)) aNil))) (aCons (eArgs gTupP (aCons (eC (.str "number")) (aCons (eOp gPow (eC (.int 10)) (eC (.int 9))) aNil))) (aCons (eArgs gTupP (aCons (eC (.str "name")) (aCons (eUn gNeg (eC (.int 1))) aNil))) (aCons (eArgs gTupP (aCons (eC (.str "number")) (aCons (eOp gSub (eC (.int 1)) (eOp gPow (eC (.int 10)) (eC (.int 9)))) aNil))) (aCons (eArgs gTupP (aCons (eC (.str "number")) (aCons (eUn gNeg (eOp gPow (eC (.int 10)) (eC (.int 9)))) aNil))) (aCons (eArgs gTupP (aCons (eC (.str "name")) (aCons (eC (.int 0)) aNil))) (aCons (eArgs gTupP (aCons (eC (.str "at")) (aCons (eC (.str "0")) aNil))) (aCons (eArgs gTupP (aCons (eC (.str "at")) (aCons (eC (.int 0)) aNil))) (aCons (eArgs gTupP (aCons (eC (.str "number")) (aCons (eC (.int 2)) (aCons (eC (.int 2)) aNil)))) (aCons (eArgs gTupP (aCons (eC (.str "hole")) (aCons (eC (.int 99)) aNil))) (aCons (eArgs gTupP (aCons (eC (.str "hole")) (aCons (eC (.int 100)) aNil))) (aCons (eArgs gTupP (aCons (eC (.str "hole")) (aCons (eC (.int 0)) (aCons (eC (.int 0)) (aCons (eC (.int 1)) aNil))))) (aCons (eArgs gTupP (aCons (eC (.str "hole")) (aCons (eC (.int 0)) (aCons (eUn gNeg (eC (.int 1))) aNil)))) aNil)))))))))))))))) ρ S = .ok (.tup ODD2) S := rfl
def ODD3 : List PV := [.tup [.str "fn", .tup [.str "name", .int 0]], .tup [.str "fn"], .tup [.str "call", .tup [.str "number", .int 1]], .tup [.str "form", .tup [.str "number", .int 1]], .tup [.str "boxes", .tup [.str "number", .int 1]], .lst [.str "number", .int 1], .tup [.str "fn", .lst [.str "name", .int 0]], .tup [.str "say", .tup [.str "name", .int 1]]]
theorem odd3_ok : ODD3.all (fun x => bdB 0 6 x && decide (hg x ≤ 10) && shQ x) = true := by decide +kernel
theorem odd3_len : 0 < ODD3.length ∧ ODD3.length ≤ 5000 := by decide
theorem odd3_tup (ρ : Py.Env) (S : Sto) : (eArgs gTupP (aCons (eArgs gTupP (aCons (eC (.str "fn")) (aCons (eArgs gTupP (aCons (eC (.str "name")) (aCons (eC (.int 0)) aNil))) aNil))) (aCons (eArgs gTupP (aCons (eC (.str "fn")) aNil)) (aCons (eArgs gTupP (aCons (eC (.str "call")) (aCons (eArgs gTupP (aCons (eC (.str "number")) (aCons (eC (.int 1)) aNil))) aNil))) (aCons (eArgs gTupP (aCons (eC (.str "form")) (aCons (eArgs gTupP (aCons (eC (.str "number")) (aCons (eC (.int 1)) aNil))) aNil))) (aCons (eArgs gTupP (aCons (eC (.str "boxes")) (aCons (eArgs gTupP (aCons (eC (.str "number")) (aCons (eC (.int 1)) aNil))) aNil))) (aCons (eArgs gLstP (aCons (eC (.str "number")) (aCons (eC (.int 1)) aNil))) (aCons (eArgs gTupP (aCons (eC (.str "fn")) (aCons (eArgs gLstP (aCons (eC (.str "name")) (aCons (eC (.int 0)) aNil))) aNil))) (aCons (eArgs gTupP (aCons (eC (.str "say")) (aCons (eArgs gTupP (aCons (eC (.str "name")) (aCons (eC (.int 1)) aNil))) aNil))) aNil))))))))) ρ S = .ok (.tup ODD3) S := rfl
def ODD4 : List PV := [.tup [.tup [], .tup [.str "number", .int 1]], .tup [.tup [.tup [.str "number", .int 2]], .tup [.str "at", .int 0]], .tup [.tup [.tup [.str "number", .int 2]], .tup [.str "at", .int 1]], .tup [.tup [.tup [.str "name", .int 0]], .tup [.str "number", .int 1]], .tup [.lst [], .tup [.str "number", .int 1]], .tup [.tup [.str "number", .int 1], .tup [.str "number", .int 1]], .tup [.tup [], .tup [.str "fn", .tup [.str "name", .int 0]], .tup []], .tup [.tup [], .tup [.str "say", .tup [.str "hole", .int 0]]]]
theorem odd4_ok : ODD4.all (fun x => bdB 0 6 x && decide (hg x ≤ 10) && shQ x) = true := by decide +kernel
theorem odd4_len : 0 < ODD4.length ∧ ODD4.length ≤ 5000 := by decide
theorem odd4_tup (ρ : Py.Env) (S : Sto) : (eArgs gTupP (aCons (eArgs gTupP (aCons (eArgs gTupP aNil) (aCons (eArgs gTupP (aCons (eC (.str "number")) (aCons (eC (.int 1)) aNil))) aNil))) (aCons (eArgs gTupP (aCons (eArgs gTupP (aCons (eArgs gTupP (aCons (eC (.str "number")) (aCons (eC (.int 2)) aNil))) aNil)) (aCons (eArgs gTupP (aCons (eC (.str "at")) (aCons (eC (.int 0)) aNil))) aNil))) (aCons (eArgs gTupP (aCons (eArgs gTupP (aCons (eArgs gTupP (aCons (eC (.str "number")) (aCons (eC (.int 2)) aNil))) aNil)) (aCons (eArgs gTupP (aCons (eC (.str "at")) (aCons (eC (.int 1)) aNil))) aNil))) (aCons (eArgs gTupP (aCons (eArgs gTupP (aCons (eArgs gTupP (aCons (eC (.str "name")) (aCons (eC (.int 0)) aNil))) aNil)) (aCons (eArgs gTupP (aCons (eC (.str "number")) (aCons (eC (.int 1)) aNil))) aNil))) (aCons (eArgs gTupP (aCons (eArgs gLstP aNil) (aCons (eArgs gTupP (aCons (eC (.str "number")) (aCons (eC (.int 1)) aNil))) aNil))) (aCons (eArgs gTupP (aCons (eArgs gTupP (aCons (eC (.str "number")) (aCons (eC (.int 1)) aNil))) (aCons (eArgs gTupP (aCons (eC (.str "number")) (aCons (eC (.int 1)) aNil))) aNil))) (aCons (eArgs gTupP (aCons (eArgs gTupP aNil) (aCons (eArgs gTupP (aCons (eC (.str "fn")) (aCons (eArgs gTupP (aCons (eC (.str "name")) (aCons (eC (.int 0)) aNil))) aNil))) (aCons (eArgs gTupP aNil) aNil)))) (aCons (eArgs gTupP (aCons (eArgs gTupP aNil) (aCons (eArgs gTupP (aCons (eC (.str "say")) (aCons (eArgs gTupP (aCons (eC (.str "hole")) (aCons (eC (.int 0)) aNil))) aNil))) aNil))) aNil))))))))) ρ S = .ok (.tup ODD4) S := rfl
def Od (p : PV) : Prop := Bd 0 6 p ∧ hg p ≤ 10 ∧ Sh p
theorem od_of {xs : List PV} (h : xs.all (fun x => bdB 0 6 x && decide (hg x ≤ 10) && shQ x) = true) : ∀ x ∈ xs, Od x := fun x hx => by
  have := List.all_eq_true.mp h x hx
  rw [Bool.and_eq_true, Bool.and_eq_true] at this
  exact ⟨bdB_ok this.1.1, of_decide_eq_true this.1.2, shQ_ok this.2⟩
theorem odd_gen {n : Nat} {S : Sto} {X1 X2 X3 X4 : Ev} {O1 O2 O3 O4 : List PV} (hw : Well S n) (h1 : ∀ ρ S, X1 ρ S = .ok (.tup O1) S) (h2 : ∀ ρ S, X2 ρ S = .ok (.tup O2) S) (h3 : ∀ ρ S, X3 ρ S = .ok (.tup O3) S) (h4 : ∀ ρ S, X4 ρ S = .ok (.tup O4) S)
    (l1 : 0 < O1.length ∧ O1.length ≤ 5000) (l2 : 0 < O2.length ∧ O2.length ≤ 5000) (l3 : 0 < O3.length ∧ O3.length ≤ 5000) (l4 : 0 < O4.length ∧ O4.length ≤ 5000) (o1 : ∀ x ∈ O1, Od x) (o2 : ∀ x ∈ O2, Od x) (o3 : ∀ x ∈ O3, Od x) (o4 : ∀ x ∈ O4, Od x) :
    ∀ F : Fn, F = mkDef 1 3 (sSeq (sSet 1 (eArgs m__law_draw (aCons (eVar 0) (aCons (eC (.int 4)) aNil)))) (sSeq (sIf (tV (eOp gEq (eVar 1) (eC (.int 0)))) (sSeq (sSet 2 X1) (sRet (eArgs m__law_pick (aCons (eVar 0) (aCons (eVar 2) aNil))))) sNil) (sSeq (sIf (tV (eOp gEq (eVar 1) (eC (.int 1)))) (sRet (eArgs m__law_pick (aCons (eVar 0) (aCons X2 aNil)))) sNil) (sSeq (sIf (tV (eOp gEq (eVar 1) (eC (.int 2)))) (sRet (eArgs m__law_pick (aCons (eVar 0) (aCons X3 aNil)))) sNil) (sRet (eArgs m__law_pick (aCons (eVar 0) (aCons X4 aNil)))))))) → WP (F [.ref n] S) fun p S' => Wl n S S' ∧ Od p := by
  intro F eF
  rw [eF]
  have fin : ∀ (O : List PV) (S1 : Sto), Wl n S S1 → (0 < O.length ∧ O.length ≤ 5000) → (∀ x ∈ O, Od x) → WP (m__law_pick [.ref n, .tup O] S1) fun p S2 => WP (finV S.length p S2) fun p S' => Wl n S S' ∧ Od p := fun O S1 w l o =>
    wp_of (pick_tup w.w (xs := O) l.1 l.2 fun x hx => (o x hx).1.ref) fun p S2 ⟨hp, w2⟩ => by
      have w3 := w.trans w2
      rw [finV_pure (o p hp).1.ref, ← w3.len, take_self]
      exact ⟨w3, o p hp⟩
  simp! only []
  refine wp_of (draw_ok hw (m := 4) (by omega) (by omega)) fun p S1 ⟨k, ek, k0, k1, w1⟩ => ?_
  subst ek
  by_cases c0 : k = 0
  · simp! only [c0, h1]
    exact fin O1 S1 w1 l1 o1
  by_cases c1 : k = 1
  · simp! only [c0, c1, h2]
    exact fin O2 S1 w1 l2 o2
  by_cases c2 : k = 2
  · simp! only [c0, c1, c2, h3]
    exact fin O3 S1 w1 l3 o3
  simp! only [c0, c1, c2, h4]
  exact fin O4 S1 w1 l4 o4
theorem odd_ok {n : Nat} {S : Sto} (hw : Well S n) : WP (m__law_odd [.ref n] S) fun p S' => Wl n S S' ∧ Od p := by
  have hF : m__law_odd = mkDef 1 3 b__law_odd := by rw [m__law_odd]
  unfold b__law_odd at hF
  generalize m__law_odd = F at hF ⊢
  have h1 := odd1_tup
  have h2 := odd2_tup
  have h3 := odd3_tup
  have h4 := odd4_tup
  generalize (eArgs gTupP (aCons (eC .non) (aCons (eC (.bl true)) (aCons (eC (.bl false)) (aCons (eC (.int 0)) (aCons (eC (.int 1)) (aCons (eUn gNeg (eC (.int 1))) (aCons (eC (.int 7)) (aCons (eOp gPow (eC (.int 10)) (eC (.int 12))) (aCons (eC (.str "")) (aCons (eC (.str "fn")) (aCons (eC (.str "number")) (aCons (eC (.str "at")) (aCons (eC (.str "x")) (aCons (eC (.str "test")) (aCons (eArgs gTupP aNil) (aCons (eArgs gTupP (aCons (eC (.int 0)) aNil)) (aCons (eArgs gLstP aNil) (aCons (fun _ S => .ok (.dic [] []) S) aNil))))))))))))))))))) = X1 at hF h1
  generalize (eArgs gTupP (aCons (eArgs gTupP (aCons (eC (.str "number")) aNil)) (aCons (eArgs gTupP (aCons (eC (.str "number")) (aCons (eC (.int 5)) aNil))) (aCons (eArgs gTupP (aCons (eC (.str "number")) (aCons (eC (.bl true)) aNil))) (aCons (eArgs gTupP (aCons (eC (.str "number")) (aCons (eOp gPow (eC (.int 10)) (eC (.int 9))) aNil))) (aCons (eArgs gTupP (aCons (eC (.str "name")) (aCons (eUn gNeg (eC (.int 1))) aNil))) (aCons (eArgs gTupP (aCons (eC (.str "number")) (aCons (eOp gSub (eC (.int 1)) (eOp gPow (eC (.int 10)) (eC (.int 9)))) aNil))) (aCons (eArgs gTupP (aCons (eC (.str "number")) (aCons (eUn gNeg (eOp gPow (eC (.int 10)) (eC (.int 9)))) aNil))) (aCons (eArgs gTupP (aCons (eC (.str "name")) (aCons (eC (.int 0)) aNil))) (aCons (eArgs gTupP (aCons (eC (.str "at")) (aCons (eC (.str "0")) aNil))) (aCons (eArgs gTupP (aCons (eC (.str "at")) (aCons (eC (.int 0)) aNil))) (aCons (eArgs gTupP (aCons (eC (.str "number")) (aCons (eC (.int 2)) (aCons (eC (.int 2)) aNil)))) (aCons (eArgs gTupP (aCons (eC (.str "hole")) (aCons (eC (.int 99)) aNil))) (aCons (eArgs gTupP (aCons (eC (.str "hole")) (aCons (eC (.int 100)) aNil))) (aCons (eArgs gTupP (aCons (eC (.str "hole")) (aCons (eC (.int 0)) (aCons (eC (.int 0)) (aCons (eC (.int 1)) aNil))))) (aCons (eArgs gTupP (aCons (eC (.str "hole")) (aCons (eC (.int 0)) (aCons (eUn gNeg (eC (.int 1))) aNil)))) aNil)))))))))))))))) = X2 at hF h2
  generalize (eArgs gTupP (aCons (eArgs gTupP (aCons (eC (.str "fn")) (aCons (eArgs gTupP (aCons (eC (.str "name")) (aCons (eC (.int 0)) aNil))) aNil))) (aCons (eArgs gTupP (aCons (eC (.str "fn")) aNil)) (aCons (eArgs gTupP (aCons (eC (.str "call")) (aCons (eArgs gTupP (aCons (eC (.str "number")) (aCons (eC (.int 1)) aNil))) aNil))) (aCons (eArgs gTupP (aCons (eC (.str "form")) (aCons (eArgs gTupP (aCons (eC (.str "number")) (aCons (eC (.int 1)) aNil))) aNil))) (aCons (eArgs gTupP (aCons (eC (.str "boxes")) (aCons (eArgs gTupP (aCons (eC (.str "number")) (aCons (eC (.int 1)) aNil))) aNil))) (aCons (eArgs gLstP (aCons (eC (.str "number")) (aCons (eC (.int 1)) aNil))) (aCons (eArgs gTupP (aCons (eC (.str "fn")) (aCons (eArgs gLstP (aCons (eC (.str "name")) (aCons (eC (.int 0)) aNil))) aNil))) (aCons (eArgs gTupP (aCons (eC (.str "say")) (aCons (eArgs gTupP (aCons (eC (.str "name")) (aCons (eC (.int 1)) aNil))) aNil))) aNil))))))))) = X3 at hF h3
  generalize (eArgs gTupP (aCons (eArgs gTupP (aCons (eArgs gTupP aNil) (aCons (eArgs gTupP (aCons (eC (.str "number")) (aCons (eC (.int 1)) aNil))) aNil))) (aCons (eArgs gTupP (aCons (eArgs gTupP (aCons (eArgs gTupP (aCons (eC (.str "number")) (aCons (eC (.int 2)) aNil))) aNil)) (aCons (eArgs gTupP (aCons (eC (.str "at")) (aCons (eC (.int 0)) aNil))) aNil))) (aCons (eArgs gTupP (aCons (eArgs gTupP (aCons (eArgs gTupP (aCons (eC (.str "number")) (aCons (eC (.int 2)) aNil))) aNil)) (aCons (eArgs gTupP (aCons (eC (.str "at")) (aCons (eC (.int 1)) aNil))) aNil))) (aCons (eArgs gTupP (aCons (eArgs gTupP (aCons (eArgs gTupP (aCons (eC (.str "name")) (aCons (eC (.int 0)) aNil))) aNil)) (aCons (eArgs gTupP (aCons (eC (.str "number")) (aCons (eC (.int 1)) aNil))) aNil))) (aCons (eArgs gTupP (aCons (eArgs gLstP aNil) (aCons (eArgs gTupP (aCons (eC (.str "number")) (aCons (eC (.int 1)) aNil))) aNil))) (aCons (eArgs gTupP (aCons (eArgs gTupP (aCons (eC (.str "number")) (aCons (eC (.int 1)) aNil))) (aCons (eArgs gTupP (aCons (eC (.str "number")) (aCons (eC (.int 1)) aNil))) aNil))) (aCons (eArgs gTupP (aCons (eArgs gTupP aNil) (aCons (eArgs gTupP (aCons (eC (.str "fn")) (aCons (eArgs gTupP (aCons (eC (.str "name")) (aCons (eC (.int 0)) aNil))) aNil))) (aCons (eArgs gTupP aNil) aNil)))) (aCons (eArgs gTupP (aCons (eArgs gTupP aNil) (aCons (eArgs gTupP (aCons (eC (.str "say")) (aCons (eArgs gTupP (aCons (eC (.str "hole")) (aCons (eC (.int 0)) aNil))) aNil))) aNil))) aNil))))))))) = X4 at hF h4
  exact odd_gen hw h1 h2 h3 h4 odd1_len odd2_len odd3_len odd4_len (od_of odd1_ok) (od_of odd2_ok) (od_of odd3_ok) (od_of odd4_ok) F hF
end
section
theorem cutP_len (xs : List PV) (lo hi : Option Int) : (cutP xs lo hi).length ≤ xs.length := by
  unfold cutP
  rw [List.length_take, List.length_drop]
  omega
theorem cutP_mem {xs : List PV} {lo hi : Option Int} {x : PV} (h : x ∈ cutP xs lo hi) : x ∈ xs := by
  unfold cutP at h
  exact List.mem_of_mem_drop (List.mem_of_mem_take h)
theorem cutP_hgs (xs : List PV) (lo hi : Option Int) : hgs (cutP xs lo hi) ≤ hgs xs := by
  unfold cutP
  generalize HT.sIx xs.length 0 lo = a
  generalize HT.sIx xs.length xs.length hi - a = b
  have h1 := hgs_take a xs
  have h2 := hgs_take b (xs.drop a)
  omega
theorem pow_step {m : Nat} {i : Nat} (h : i < 2 ^ (60 + 40 * m)) : i * 1000000007 < 2 ^ (60 + 40 * (m + 1)) := by
  have : (2 : Nat) ^ (60 + 40 * (m + 1)) = 2 ^ (60 + 40 * m) * 2 ^ 40 := by rw [← Nat.pow_add]; congr 1
  rw [this]
  have h40 : (1000000007 : Nat) ≤ 2 ^ 40 := by decide
  calc i * 1000000007 < 2 ^ (60 + 40 * m) * 1000000007 := Nat.mul_lt_mul_of_pos_right h (by decide)
    _ ≤ 2 ^ (60 + 40 * m) * 2 ^ 40 := Nat.mul_le_mul_left _ h40
theorem pow_one {m : Nat} {i : Nat} (h : i < 2 ^ (60 + 40 * m)) : i + 1 < 2 ^ (60 + 40 * (m + 1)) := by
  have : (2 : Nat) ^ (60 + 40 * (m + 1)) = 2 ^ (60 + 40 * m) * 2 ^ 40 := by rw [← Nat.pow_add]; congr 1
  have h1 : 1 ≤ 2 ^ (60 + 40 * m) := Nat.one_le_two_pow
  have h40 : (2 : Nat) ≤ 2 ^ 40 := by decide
  have : 2 ^ (60 + 40 * m) * 2 ≤ 2 ^ (60 + 40 * m) * 2 ^ 40 := Nat.mul_le_mul_left _ h40
  omega
theorem six_ok {e0 e1 e2 e3 e4 e5 : PV} {j : Int} {S : Sto} (h0 : 0 ≤ j) (h1 : j < 6) : ∃ e ∈ [e0, e1, e2, e3, e4, e5], gIx (.tup [e0, e1, e2, e3, e4, e5]) (.int j) S = .ok e S := by
  obtain ⟨i, rfl⟩ : ∃ i : Nat, j = i := ⟨j.toNat, by omega⟩
  have hi : i < [e0, e1, e2, e3, e4, e5].length := by simp; omega
  refine ⟨[e0, e1, e2, e3, e4, e5][i], List.getElem_mem _, ?_⟩
  have e : atI [e0, e1, e2, e3, e4, e5] (i : Int) = some [e0, e1, e2, e3, e4, e5][i] := by
    rw [atI_nat]
    exact List.getElem?_eq_getElem hi
  generalize [e0, e1, e2, e3, e4, e5] = xs at *
  unfold gIx
  simp only [getQ, e]
/-- the bounds of a bent value -/
def BtP (m k : Nat) (p q : PV) : Prop := Bd (m + 1) (k + 5) q ∧ hg q ≤ 2 * hg p + 10 ∧ (∀ x, p = .str x → Sh q)
theorem tupE {m k : Nat} {xs ys : List PV} (hy : ∀ x ∈ ys, Bd (m + 1) (k + 5) x) (hl : ys.length ≤ 21 + m) (hh : hgs ys ≤ 2 * hgs xs + 10) : BtP m (k + 1) (.tup xs) (.tup ys) :=
  ⟨.tup hy (by omega), by have := hg_tup ys; have := hg_tup xs; omega, fun _ e => by cases e⟩
theorem od_BtP {m k : Nat} {p q : PV} (o : Od q) : BtP m (k + 1) p q := ⟨(o.1.le (by omega)).more (by omega), by have := o.2.1; omega, fun _ _ => o.2.2⟩
theorem BtP.ref {m k : Nat} {p q : PV} (h : BtP m k p q) : q.isRef = false := h.1.ref
theorem cutS_size (z : Str) (lo hi : Option Int) : (cutS z lo hi).cps.size ≤ z.cps.size := by
  unfold cutS
  rw [List.size_toArray, List.length_take, List.length_drop, Array.length_toList]
  omega
theorem gStr_ok {z : Str} {lo hi : Option Int} {S : Sto} (h : z.cps.size ≤ 5000) : gSl (.str z) lo hi S = .ok (.str (cutS z lo hi)) S := by
  have hz : z.length ≤ sizeLine := size_1000 h
  show (if z.length ≤ sizeLine then R.ok (PV.str (cutS z lo hi)) S else .no) = _
  rw [if_pos hz]
theorem app_size (a b : Str) : (a ++ b).cps.size = a.cps.size + b.cps.size := by
  show (a.cps ++ b.cps).size = _
  rw [Array.size_append]
theorem neO_tup {xs : List PV} {S : Sto} : gNeO (.tup xs) (.tup []) S = .ok (.bl (!xs.isEmpty)) S := rfl
theorem gStrI_ok {i : Int} {S : Sto} (h : i.natAbs.log2 < 1920) : gStrI [.int i] S = .ok (.str (toString i)) S := by
  show (if i.natAbs.log2 < 1920 then R.ok (PV.str (toString i)) S else .no) = _
  rw [if_pos h]
theorem log2_of {i k : Nat} (hk : 0 < k) (h : i < 2 ^ k) : i.log2 < k := PySem.Flt.log2_lt_of hk h
def WB : List PV := [.str "fn", .str "pair", .str "test", .str "again", .str "name", .str "at", .str "hole", .str "put", .str "call", .str "say"]
theorem WB_ok : ∀ x ∈ WB, ∃ z : Str, x = .str z ∧ z.cps.size ≤ 10 ∧ ∀ c ∈ z.cps.toList, c < 16 ^ 8 := by
  intro x hx
  simp only [WB, List.mem_cons, List.not_mem_nil, or_false] at hx
  rcases hx with h | h | h | h | h | h | h | h | h | h <;> exact ⟨_, h, by decide +kernel⟩
theorem sa : (("a" : Str)).cps.size = 1 := by decide +kernel
theorem sz_ : (("z" : Str)).cps.size = 1 := by decide +kernel
theorem s1_ : (("1" : Str)).cps.size = 1 := by decide +kernel
theorem cutS_mem {z : Str} {lo hi : Option Int} {c : Nat} (h : c ∈ (cutS z lo hi).cps.toList) : c ∈ z.cps.toList := by
  unfold cutS at h
  simp only [] at h
  exact List.mem_of_mem_drop (List.mem_of_mem_take h)
theorem app_mem {a b : Str} {c : Nat} (h : c ∈ (a ++ b).cps.toList) : c ∈ a.cps.toList ∨ c ∈ b.cps.toList := by
  have e : (a ++ b).cps.toList = a.cps.toList ++ b.cps.toList := Array.toList_append
  rw [e] at h
  exact List.mem_append.mp h
theorem ca : ∀ c ∈ ("a" : Str).cps.toList, c < 16 ^ 8 := by decide +kernel
theorem cz : ∀ c ∈ ("z" : Str).cps.toList, c < 16 ^ 8 := by decide +kernel
theorem c1 : ∀ c ∈ ("1" : Str).cps.toList, c < 16 ^ 8 := by decide +kernel
theorem of_small (x : String) : ∀ c ∈ (Str.ofString x).cps.toList, c < 16 ^ 8 := by
  intro c h
  rw [Str.ofString_eq_toList] at h
  obtain ⟨d, _, rfl⟩ := List.mem_map.mp h
  have := d.valid
  have e : (16 : Nat) ^ 8 = 4294967296 := by decide
  rw [e]
  exact d.val.toNat_lt
theorem bent_ok {n m : Nat} (hm : m ≤ 3) : ∀ (L k : Nat) (p : PV) (S : Sto), k ≤ L → Well S n → Bd m k p → WP (m__law_bent L [.ref n, p] S) fun q S' => Wl n S S' ∧ BtP m k p q := by
  intro L
  induction L with
  | zero => intro k p S hk hw h; cases h <;> omega
  | succ L ih =>
  intro k p S hk hw h
  have hpr := h.ref
  have fin : ∀ (q : PV) (S1 : Sto), Wl n S S1 → BtP m k p q → WP (finV S.length q S1) fun q S' => Wl n S S' ∧ BtP m k p q := fun q S1 w b => by
    rw [finV_pure b.ref, ← w.len, take_self]
    exact ⟨w, b⟩
  have odd : ∀ S1 : Sto, Wl n S S1 → WP (m__law_odd [.ref n] S1) fun q S2 => WP (finV S.length q S2) fun q S' => Wl n S S' ∧ BtP m k p q := fun S1 w =>
    wp_of (odd_ok w.w) fun q S2 ⟨w2, o⟩ => fin q S2 (w.trans w2) (by cases h <;> exact od_BtP o)
  have fin6 : ∀ (e0 e1 e2 e3 e4 e5 : PV) (j : Int) (S1 : Sto), 0 ≤ j → j < 6 → Wl n S S1 → (∀ e ∈ [e0, e1, e2, e3, e4, e5], BtP m k p e) → WP (gIx (.tup [e0, e1, e2, e3, e4, e5]) (.int j) S1) fun q S2 => WP (finV S.length q S2) fun q S' => Wl n S S' ∧ BtP m k p q := fun e0 e1 e2 e3 e4 e5 j S1 j0 j1 w b => by
    obtain ⟨e, he, eq⟩ := six_ok (S := S1) (e0 := e0) (e1 := e1) (e2 := e2) (e3 := e3) (e4 := e4) (e5 := e5) j0 j1
    rw [eq]
    simp! only []
    exact fin e S1 w (b e he)
  rw [m__law_bent]
  unfold b__law_bent
  cases h with
  | @tup k xs hx hl =>
    have tail : ∀ S1 : Sto, Wl n S S1 → WP (m__law_draw [.ref n, .int 9] S1) fun p_1 S2 => ∃ j : Int, p_1 = .int j ∧ 0 ≤ j ∧ j < 9 ∧ Wl n S S2 := fun S1 w => wp_of (draw_ok w.w (m := 9) (by omega) (by omega)) fun p S2 ⟨j, e, j0, j1, w2⟩ => ⟨j, e, j0, j1, w.trans w2⟩
    have hx' : ∀ x ∈ xs, Bd (m + 1) (k + 5) x := fun x hx2 => ((hx x hx2).le (by omega)).more (by omega)
    have c1 := cutP_len xs
    have c2 := cutP_hgs xs
    have hgx := hg_tup xs
    have six : ∀ (j : Int) (S2 : Sto), 0 ≤ j → j < 9 → Wl n S S2 → j < 6 → WP (gIx (.tup [.lst xs, .tup (cutP xs none (some (-1))), .tup (xs ++ cutP xs (some (-1)) none), .tup xs.reverse, .tup (cutP xs (some 1) none), .tup (cutP xs none (some 1) ++ xs)]) (.int j) S2) fun q S3 => WP (finV S.length q S3) fun q S' => Wl n S S' ∧ BtP m (k + 1) (.tup xs) q := fun j S2 j0 j1 w2 j6 => by
      refine fin6 _ _ _ _ _ _ j S2 j0 j6 w2 fun e he => ?_
      simp only [List.mem_cons, List.not_mem_nil, or_false] at he
      have l1 : (cutP xs (some (-1)) none).length ≤ 1 := by
        unfold cutP
        rw [List.length_take, List.length_drop, HT.sIx_none]
        have : HT.sIx xs.length 0 (some (-1)) = ((-1 : Int) + (xs.length : Nat)).toNat := rfl
        omega
      have l2 : (cutP xs none (some 1)).length ≤ 1 := by
        unfold cutP
        rw [List.length_take, List.length_drop, HT.sIx_none]
        have : HT.sIx xs.length xs.length (some 1) = min (1 : Int).toNat xs.length := rfl
        have : (1 : Int).toNat = 1 := rfl
        omega
      rcases he with e | e | e | e | e | e <;> subst e
      · exact ⟨.lst hx' (by omega), by rw [hg_lst]; omega, fun _ e => by cases e⟩
      · exact tupE (fun x h => hx' x (cutP_mem h)) (by have := c1 none (some (-1)); omega) (by have := c2 none (some (-1)); omega)
      · refine tupE (fun x h => ?_) (by rw [List.length_append]; omega) (by rw [hgs_app]; have := c2 (some (-1)) none; omega)
        rcases List.mem_append.mp h with z | z
        · exact hx' x z
        · exact hx' x (cutP_mem z)
      · exact tupE (fun x h => hx' x (List.mem_reverse.mp h)) (by rw [List.length_reverse]; omega) (by rw [hgs_rev]; omega)
      · exact tupE (fun x h => hx' x (cutP_mem h)) (by have := c1 (some 1) none; omega) (by have := c2 (some 1) none; omega)
      · refine tupE (fun x h => ?_) (by rw [List.length_append]; omega) (by rw [hgs_app]; have := c2 none (some 1); omega)
        rcases List.mem_append.mp h with z | z
        · exact hx' x (cutP_mem z)
        · exact hx' x z
    have g1 := fun S : Sto => gAdd_tup (xs := xs) (ys := cutP xs (some (-1)) none) (S := S) (by have := c1 (some (-1)) none; omega)
    have g2 := fun S : Sto => gAdd_tup (xs := cutP xs none (some 1)) (ys := xs) (S := S) (by have := c1 none (some 1); omega)
    have g3 : ∀ S : Sto, gLstOf [.tup xs] S = .ok (.lst xs) S := fun S => rfl
    have g4 : ∀ S : Sto, gRevT (.tup xs) S = .ok (.tup xs.reverse) S := fun S => rfl
    have g5 := fun S : Sto => gTupP_ok (ps := [.lst xs, .tup (cutP xs none (some (-1))), .tup (xs ++ cutP xs (some (-1)) none), .tup xs.reverse, .tup (cutP xs (some 1) none), .tup (cutP xs none (some 1) ++ xs)]) (S := S) rfl (by simp)
    have rest : ∀ S1 : Sto, Wl n S S1 → ∀ x3 : Option PV, WP ((sSeq (sSet 2 (eArgs m__law_draw (aCons (eVar 0) (aCons (eC (.int 9)) aNil)))) (sSeq (sIf (tAndE (tT (eUn (gIsi .tuple) (eVar 1))) (tV (eOp gLt (eVar 2) (eC (.int 6))))) (sRet (eOp gIx (eArgs gTupP (aCons (eArgs gLstOf (aCons (eVar 1) aNil)) (aCons (eSl (eVar 1) oNone (oSome (eUn gNeg (eC (.int 1))))) (aCons (eOp gAdd (eVar 1) (eSl (eVar 1) (oSome (eUn gNeg (eC (.int 1)))) oNone)) (aCons (eUn gRevT (eVar 1)) (aCons (eSl (eVar 1) (oSome (eC (.int 1))) oNone) (aCons (eOp gAdd (eSl (eVar 1) oNone (oSome (eC (.int 1)))) (eVar 1)) aNil))))))) (eVar 2))) sNil) (sSeq (sIf (tAndE (tT (eUn (gIsi .str) (eVar 1))) (tV (eOp gLt (eVar 2) (eC (.int 6))))) (sSeq (sSet 4 (eArgs m__law_pick (aCons (eVar 0) (aCons (eArgs gTupP (aCons (eC (.str "fn")) (aCons (eC (.str "pair")) (aCons (eC (.str "test")) (aCons (eC (.str "again")) (aCons (eC (.str "name")) (aCons (eC (.str "at")) (aCons (eC (.str "hole")) (aCons (eC (.str "put")) (aCons (eC (.str "call")) (aCons (eC (.str "say")) aNil))))))))))) aNil)))) (sRet (eOp gIx (eArgs gTupP (aCons (eOp gAdd (eVar 1) (eC (.str "a"))) (aCons (eSl (eVar 1) oNone (oSome (eUn gNeg (eC (.int 1))))) (aCons (eOp gAdd (eSl (eVar 1) oNone (oSome (eC (.int 3)))) (eC (.str "z"))) (aCons (eOp gAdd (eVar 1) (eC (.str "1"))) (aCons (eVar 4) (aCons (eOp gEqO (eVar 1) (eC (.str "at"))) aNil))))))) (eVar 2)))) sNil) (sSeq (sIf (tAndE (tT (eArgs m__law_is_whole (aCons (eVar 1) aNil))) (tV (eOp gLt (eVar 2) (eC (.int 6))))) (sRet (eOp gIx (eArgs gTupP (aCons (eOp gAdd (eVar 1) (eC (.int 1))) (aCons (eOp Py.gSub (eVar 1) (eC (.int 1))) (aCons (eOp Py.gSub (eC (.int 0)) (eVar 1)) (aCons (eOp gMul (eVar 1) (eC (.int 1000000007))) (aCons (eOp gEqO (eVar 1) (eC (.int 1))) (aCons (eArgs gStrI (aCons (eVar 1) aNil)) aNil))))))) (eVar 2))) sNil) (sRet (eArgs m__law_odd (aCons (eVar 0) aNil))))))) [some (.ref n), some (.tup xs), none, x3, none] S1) fun fl S2 => WP (finF S.length fl S2) fun q S' => Wl n S S' ∧ BtP m (k + 1) (.tup xs) q := fun S1 w x3 => by
      have lw := fun S : Sto => lwhole_any (S := S) (Dv.tup (fun x h => (hx x h).dv (by omega)) (by omega) : Dv (k + 1) (.tup xs))
      simp only [wp_ok, wp_no, ↓wp_bind, ↓R.bind_ok, ↓sSeq, ↓sNil, ↓sSet, ↓sAsg, ↓sIf, ↓sRet, ↓sExpr, ↓sPar, ↓sPar3, ↓sFor, ↓nName, ↓nTup, ↓nCons, ↓nNil, ↓nNs, ↓eVar, ↓eC, ↓eOp, ↓eUn, ↓eArgs, ↓eNew, ↓aCons, ↓aNil, ↓tV, ↓tT, toB, truP, ↓tNotE, ↓tAndE, ↓tOrE, ↓tYesE, ↓eAndV, ↓eOrV, ↓eNotV, ↓eNotT, ↓eIf, gAdd_int, gAdd_tup, Py.gSub, gMul_l, gMul_r, gMod, gFdiv, gNeg, gLt, gLe, gGt, gGe, gInt, gEq_int, gEq_str, gEq_bl, gNe_int, gNe_str, gNe_bl, gIsN, gNotN, getQ, getL, gSetL, ↓nSubL, gDivmod, gMin2, gMax2, ↓mkDef, ↓mkNew, startP, finF, finO, finV_tup, finV_int, finV_bl, finV_lst, finV_non, finV_str, finV_ref, ↓eChain, tyP, gIsi, isiB, ↓iArgs, ↓iSeq, iterP, ↓fComp, wipeP, ↓eSl, ↓oNone, ↓oSome, ↓eMeth0, ↓eMeth1, ixN, atI0, atI1, atI2, atI3, List.length_cons, List.length_nil, List.map_cons, List.map_nil, List.replicate, List.cons_append, List.nil_append, List.append_nil, List.getElem?_cons_zero, List.getElem?_cons_succ, List.getElem?_nil, List.set_cons_zero, List.set_cons_succ, List.set_nil, List.length_set, List.length_append, Nat.add_sub_cancel, Nat.reduceAdd, Nat.reduceSub, Nat.reduceLT, Nat.reduceEqDiff, Nat.reduceLeDiff, Nat.le_refl, Nat.zero_le, if_true, if_false, ↓reduceIte, decide_eq_true_eq, Bool.false_eq_true, Bool.true_eq_false, Bool.not_true, Bool.not_false, Option.isSome_some, forall_const, not_true_eq_false, not_false_eq_true, imp_self, false_implies, true_implies, implies_true, and_true, true_and, Int.toNat_zero, Nat.zero_add, Int.reduceLE, Int.reduceLT, Int.reduceNeg, Int.reduceToNat, Int.reducePow, Int.reduceGT, Int.cast_ofNat_Int, true_or, or_true, Int.ofNat_eq_natCast, decide_true, decide_false, Int.reduceEq, List.isEmpty_cons, List.isEmpty_nil, eDGet1,  keyP, Option.map_some, Option.map_none, Option.getD_some, Option.isSome_some, reduceCtorEq, and_self,  allPure_nil, allPure_cons, Bool.and_true, Bool.true_and, Bool.false_and, Bool.and_false, Bool.not_eq_true, Bool.not_eq_false, gTupP_nil, gLstP_nil, gTupP_ok, gLstP_ok, isRef_tup, isRef_int, isRef_str, isRef_bl, Bool.or_false, Bool.or_true, Bool.true_or, Bool.false_or]
      refine wp_of (tail S1 w) fun p_1 S2 ⟨j, ej, j0, j1, w2⟩ => ?_
      subst ej
      by_cases c6 : j < 6
      · simp only [wp_ok, wp_no, ↓wp_bind, ↓R.bind_ok, ↓sSeq, ↓sNil, ↓sSet, ↓sAsg, ↓sIf, ↓sRet, ↓sExpr, ↓sPar, ↓sPar3, ↓sFor, ↓nName, ↓nTup, ↓nCons, ↓nNil, ↓nNs, ↓eVar, ↓eC, ↓eOp, ↓eUn, ↓eArgs, ↓eNew, ↓aCons, ↓aNil, ↓tV, ↓tT, toB, truP, ↓tNotE, ↓tAndE, ↓tOrE, ↓tYesE, ↓eAndV, ↓eOrV, ↓eNotV, ↓eNotT, ↓eIf, gAdd_int, gAdd_tup, Py.gSub, gMul_l, gMul_r, gMod, gFdiv, gNeg, gLt, gLe, gGt, gGe, gInt, gEq_int, gEq_str, gEq_bl, gNe_int, gNe_str, gNe_bl, gIsN, gNotN, getQ, getL, gSetL, ↓nSubL, gDivmod, gMin2, gMax2, ↓mkDef, ↓mkNew, startP, finF, finO, finV_tup, finV_int, finV_bl, finV_lst, finV_non, finV_str, finV_ref, ↓eChain, tyP, gIsi, isiB, ↓iArgs, ↓iSeq, iterP, ↓fComp, wipeP, ↓eSl, ↓oNone, ↓oSome, gSl, ↓eMeth0, ↓eMeth1, ixN, atI0, atI1, atI2, atI3, List.length_cons, List.length_nil, List.map_cons, List.map_nil, List.replicate, List.cons_append, List.nil_append, List.append_nil, List.getElem?_cons_zero, List.getElem?_cons_succ, List.getElem?_nil, List.set_cons_zero, List.set_cons_succ, List.set_nil, List.length_set, List.length_append, Nat.add_sub_cancel, Nat.reduceAdd, Nat.reduceSub, Nat.reduceLT, Nat.reduceEqDiff, Nat.reduceLeDiff, Nat.le_refl, Nat.zero_le, if_true, if_false, ↓reduceIte, decide_eq_true_eq, Bool.false_eq_true, Bool.true_eq_false, Bool.not_true, Bool.not_false, Option.isSome_some, forall_const, not_true_eq_false, not_false_eq_true, imp_self, false_implies, true_implies, implies_true, and_true, true_and, Int.toNat_zero, Nat.zero_add, Int.reduceLE, Int.reduceLT, Int.reduceNeg, Int.reduceToNat, Int.reducePow, Int.reduceGT, Int.cast_ofNat_Int, true_or, or_true, Int.ofNat_eq_natCast, decide_true, decide_false, Int.reduceEq, List.isEmpty_cons, List.isEmpty_nil, eDGet1,  keyP, Option.map_some, Option.map_none, Option.getD_some, Option.isSome_some, reduceCtorEq, and_self,  allPure_nil, allPure_cons, Bool.and_true, Bool.true_and, Bool.false_and, Bool.and_false, Bool.not_eq_true, Bool.not_eq_false, gTupP_nil, gLstP_nil, gTupP_ok, gLstP_ok, isRef_tup, isRef_int, isRef_str, isRef_bl, Bool.or_false, Bool.or_true, Bool.true_or, Bool.false_or, c6, g3, g1, g4, g2, g5]
        exact six j S2 j0 j1 w2 c6
      · simp only [wp_ok, wp_no, ↓wp_bind, ↓R.bind_ok, ↓sSeq, ↓sNil, ↓sSet, ↓sAsg, ↓sIf, ↓sRet, ↓sExpr, ↓sPar, ↓sPar3, ↓sFor, ↓nName, ↓nTup, ↓nCons, ↓nNil, ↓nNs, ↓eVar, ↓eC, ↓eOp, ↓eUn, ↓eArgs, ↓eNew, ↓aCons, ↓aNil, ↓tV, ↓tT, toB, truP, ↓tNotE, ↓tAndE, ↓tOrE, ↓tYesE, ↓eAndV, ↓eOrV, ↓eNotV, ↓eNotT, ↓eIf, gAdd_int, gAdd_tup, Py.gSub, gMul_l, gMul_r, gMod, gFdiv, gNeg, gLt, gLe, gGt, gGe, gInt, gEq_int, gEq_str, gEq_bl, gNe_int, gNe_str, gNe_bl, gIsN, gNotN, getQ, getL, gSetL, ↓nSubL, gDivmod, gMin2, gMax2, ↓mkDef, ↓mkNew, startP, finF, finO, finV_tup, finV_int, finV_bl, finV_lst, finV_non, finV_str, finV_ref, ↓eChain, tyP, gIsi, isiB, ↓iArgs, ↓iSeq, iterP, ↓fComp, wipeP, ↓eSl, ↓oNone, ↓oSome, gSl, ↓eMeth0, ↓eMeth1, ixN, atI0, atI1, atI2, atI3, List.length_cons, List.length_nil, List.map_cons, List.map_nil, List.replicate, List.cons_append, List.nil_append, List.append_nil, List.getElem?_cons_zero, List.getElem?_cons_succ, List.getElem?_nil, List.set_cons_zero, List.set_cons_succ, List.set_nil, List.length_set, List.length_append, Nat.add_sub_cancel, Nat.reduceAdd, Nat.reduceSub, Nat.reduceLT, Nat.reduceEqDiff, Nat.reduceLeDiff, Nat.le_refl, Nat.zero_le, if_true, if_false, ↓reduceIte, decide_eq_true_eq, Bool.false_eq_true, Bool.true_eq_false, Bool.not_true, Bool.not_false, Option.isSome_some, forall_const, not_true_eq_false, not_false_eq_true, imp_self, false_implies, true_implies, implies_true, and_true, true_and, Int.toNat_zero, Nat.zero_add, Int.reduceLE, Int.reduceLT, Int.reduceNeg, Int.reduceToNat, Int.reducePow, Int.reduceGT, Int.cast_ofNat_Int, true_or, or_true, Int.ofNat_eq_natCast, decide_true, decide_false, Int.reduceEq, List.isEmpty_cons, List.isEmpty_nil, eDGet1,  keyP, Option.map_some, Option.map_none, Option.getD_some, Option.isSome_some, reduceCtorEq, and_self,  allPure_nil, allPure_cons, Bool.and_true, Bool.true_and, Bool.false_and, Bool.and_false, Bool.not_eq_true, Bool.not_eq_false, gTupP_nil, gLstP_nil, gTupP_ok, gLstP_ok, isRef_tup, isRef_int, isRef_str, isRef_bl, Bool.or_false, Bool.or_true, Bool.true_or, Bool.false_or, c6, lw, isIn]
        exact odd S2 w2
    by_cases he : xs = []
    · have e0 : (!xs.isEmpty) = false := by rw [he]; rfl
      simp only [wp_ok, wp_no, ↓wp_bind, ↓R.bind_ok, ↓sSeq, ↓sNil, ↓sSet, ↓sAsg, ↓sIf, ↓sRet, ↓sExpr, ↓sPar, ↓sPar3, ↓sFor, ↓nName, ↓nTup, ↓nCons, ↓nNil, ↓nNs, ↓eVar, ↓eC, ↓eOp, ↓eUn, ↓eArgs, ↓eNew, ↓aCons, ↓aNil, ↓tV, ↓tT, toB, truP, ↓tNotE, ↓tAndE, ↓tOrE, ↓tYesE, ↓eAndV, ↓eOrV, ↓eNotV, ↓eNotT, ↓eIf, gAdd_int, gAdd_tup, Py.gSub, gMul_l, gMul_r, gMod, gFdiv, gNeg, gLt, gLe, gGt, gGe, gInt, gEq_int, gEq_str, gEq_bl, gNe_int, gNe_str, gNe_bl, gIsN, gNotN, getQ, getL, gSetL, ↓nSubL, gDivmod, gMin2, gMax2, ↓mkDef, ↓mkNew, startP, finF, finO, finV_tup, finV_int, finV_bl, finV_lst, finV_non, finV_str, finV_ref, ↓eChain, tyP, gIsi, isiB, ↓iArgs, ↓iSeq, iterP, ↓fComp, wipeP, ↓eSl, ↓oNone, ↓oSome, gSl, ↓eMeth0, ↓eMeth1, ixN, atI0, atI1, atI2, atI3, List.length_cons, List.length_nil, List.map_cons, List.map_nil, List.replicate, List.cons_append, List.nil_append, List.append_nil, List.getElem?_cons_zero, List.getElem?_cons_succ, List.getElem?_nil, List.set_cons_zero, List.set_cons_succ, List.set_nil, List.length_set, List.length_append, Nat.add_sub_cancel, Nat.reduceAdd, Nat.reduceSub, Nat.reduceLT, Nat.reduceEqDiff, Nat.reduceLeDiff, Nat.le_refl, Nat.zero_le, if_true, if_false, ↓reduceIte, decide_eq_true_eq, Bool.false_eq_true, Bool.true_eq_false, Bool.not_true, Bool.not_false, Option.isSome_some, forall_const, not_true_eq_false, not_false_eq_true, imp_self, false_implies, true_implies, implies_true, and_true, true_and, Int.toNat_zero, Nat.zero_add, Int.reduceLE, Int.reduceLT, Int.reduceNeg, Int.reduceToNat, Int.reducePow, Int.reduceGT, Int.cast_ofNat_Int, true_or, or_true, Int.ofNat_eq_natCast, decide_true, decide_false, Int.reduceEq, List.isEmpty_cons, List.isEmpty_nil, eDGet1,  keyP, Option.map_some, Option.map_none, Option.getD_some, Option.isSome_some, reduceCtorEq, and_self,  allPure_nil, allPure_cons, Bool.and_true, Bool.true_and, Bool.false_and, Bool.and_false, Bool.not_eq_true, Bool.not_eq_false, gTupP_nil, gLstP_nil, gTupP_ok, gLstP_ok, isRef_tup, isRef_int, isRef_str, isRef_bl, Bool.or_false, Bool.or_true, Bool.true_or, Bool.false_or, neO_tup, e0]
      have r := rest S (Wl.refl hw) none
      simp only [wp_ok, wp_no, ↓wp_bind, ↓R.bind_ok, ↓sSeq, ↓sNil, ↓sSet, ↓sAsg, ↓sIf, ↓sRet, ↓sExpr, ↓sPar, ↓sPar3, ↓sFor, ↓nName, ↓nTup, ↓nCons, ↓nNil, ↓nNs, ↓eVar, ↓eC, ↓eOp, ↓eUn, ↓eArgs, ↓eNew, ↓aCons, ↓aNil, ↓tV, ↓tT, toB, truP, ↓tNotE, ↓tAndE, ↓tOrE, ↓tYesE, ↓eAndV, ↓eOrV, ↓eNotV, ↓eNotT, ↓eIf, gAdd_int, gAdd_tup, Py.gSub, gMul_l, gMul_r, gMod, gFdiv, gNeg, gLt, gLe, gGt, gGe, gInt, gEq_int, gEq_str, gEq_bl, gNe_int, gNe_str, gNe_bl, gIsN, gNotN, getQ, getL, gSetL, ↓nSubL, gDivmod, gMin2, gMax2, ↓mkDef, ↓mkNew, startP, finF, finO, finV_tup, finV_int, finV_bl, finV_lst, finV_non, finV_str, finV_ref, ↓eChain, tyP, gIsi, isiB, ↓iArgs, ↓iSeq, iterP, ↓fComp, wipeP, ↓eSl, ↓oNone, ↓oSome, gSl, ↓eMeth0, ↓eMeth1, ixN, atI0, atI1, atI2, atI3, List.length_cons, List.length_nil, List.map_cons, List.map_nil, List.replicate, List.cons_append, List.nil_append, List.append_nil, List.getElem?_cons_zero, List.getElem?_cons_succ, List.getElem?_nil, List.set_cons_zero, List.set_cons_succ, List.set_nil, List.length_set, List.length_append, Nat.add_sub_cancel, Nat.reduceAdd, Nat.reduceSub, Nat.reduceLT, Nat.reduceEqDiff, Nat.reduceLeDiff, Nat.le_refl, Nat.zero_le, if_true, if_false, ↓reduceIte, decide_eq_true_eq, Bool.false_eq_true, Bool.true_eq_false, Bool.not_true, Bool.not_false, Option.isSome_some, forall_const, not_true_eq_false, not_false_eq_true, imp_self, false_implies, true_implies, implies_true, and_true, true_and, Int.toNat_zero, Nat.zero_add, Int.reduceLE, Int.reduceLT, Int.reduceNeg, Int.reduceToNat, Int.reducePow, Int.reduceGT, Int.cast_ofNat_Int, true_or, or_true, Int.ofNat_eq_natCast, decide_true, decide_false, Int.reduceEq, List.isEmpty_cons, List.isEmpty_nil, eDGet1,  keyP, Option.map_some, Option.map_none, Option.getD_some, Option.isSome_some, reduceCtorEq, and_self,  allPure_nil, allPure_cons, Bool.and_true, Bool.true_and, Bool.false_and, Bool.and_false, Bool.not_eq_true, Bool.not_eq_false, gTupP_nil, gLstP_nil, gTupP_ok, gLstP_ok, isRef_tup, isRef_int, isRef_str, isRef_bl, Bool.or_false, Bool.or_true, Bool.true_or, Bool.false_or] at r
      exact r
    · have e0 : (!xs.isEmpty) = true := by cases xs; exact absurd rfl he; rfl
      simp only [wp_ok, wp_no, ↓wp_bind, ↓R.bind_ok, ↓sSeq, ↓sNil, ↓sSet, ↓sAsg, ↓sIf, ↓sRet, ↓sExpr, ↓sPar, ↓sPar3, ↓sFor, ↓nName, ↓nTup, ↓nCons, ↓nNil, ↓nNs, ↓eVar, ↓eC, ↓eOp, ↓eUn, ↓eArgs, ↓eNew, ↓aCons, ↓aNil, ↓tV, ↓tT, toB, truP, ↓tNotE, ↓tAndE, ↓tOrE, ↓tYesE, ↓eAndV, ↓eOrV, ↓eNotV, ↓eNotT, ↓eIf, gAdd_int, gAdd_tup, Py.gSub, gMul_l, gMul_r, gMod, gFdiv, gNeg, gLt, gLe, gGt, gGe, gInt, gEq_int, gEq_str, gEq_bl, gNe_int, gNe_str, gNe_bl, gIsN, gNotN, getQ, getL, gSetL, ↓nSubL, gDivmod, gMin2, gMax2, ↓mkDef, ↓mkNew, startP, finF, finO, finV_tup, finV_int, finV_bl, finV_lst, finV_non, finV_str, finV_ref, ↓eChain, tyP, gIsi, isiB, ↓iArgs, ↓iSeq, iterP, ↓fComp, wipeP, ↓eSl, ↓oNone, ↓oSome, gSl, ↓eMeth0, ↓eMeth1, ixN, atI0, atI1, atI2, atI3, List.length_cons, List.length_nil, List.map_cons, List.map_nil, List.replicate, List.cons_append, List.nil_append, List.append_nil, List.getElem?_cons_zero, List.getElem?_cons_succ, List.getElem?_nil, List.set_cons_zero, List.set_cons_succ, List.set_nil, List.length_set, List.length_append, Nat.add_sub_cancel, Nat.reduceAdd, Nat.reduceSub, Nat.reduceLT, Nat.reduceEqDiff, Nat.reduceLeDiff, Nat.le_refl, Nat.zero_le, if_true, if_false, ↓reduceIte, decide_eq_true_eq, Bool.false_eq_true, Bool.true_eq_false, Bool.not_true, Bool.not_false, Option.isSome_some, forall_const, not_true_eq_false, not_false_eq_true, imp_self, false_implies, true_implies, implies_true, and_true, true_and, Int.toNat_zero, Nat.zero_add, Int.reduceLE, Int.reduceLT, Int.reduceNeg, Int.reduceToNat, Int.reducePow, Int.reduceGT, Int.cast_ofNat_Int, true_or, or_true, Int.ofNat_eq_natCast, decide_true, decide_false, Int.reduceEq, List.isEmpty_cons, List.isEmpty_nil, eDGet1,  keyP, Option.map_some, Option.map_none, Option.getD_some, Option.isSome_some, reduceCtorEq, and_self,  allPure_nil, allPure_cons, Bool.and_true, Bool.true_and, Bool.false_and, Bool.and_false, Bool.not_eq_true, Bool.not_eq_false, gTupP_nil, gLstP_nil, gTupP_ok, gLstP_ok, isRef_tup, isRef_int, isRef_str, isRef_bl, Bool.or_false, Bool.or_true, Bool.true_or, Bool.false_or, neO_tup, e0]
      refine wp_of (draw_ok hw (m := 5) (by omega) (by omega)) fun p_1 S1 ⟨a, ea, a0, a1, w1⟩ => ?_
      subst ea
      by_cases ca : 0 < a
      · have hpos : 0 < xs.length := List.length_pos_iff.mpr he
        simp only [wp_ok, wp_no, ↓wp_bind, ↓R.bind_ok, ↓sSeq, ↓sNil, ↓sSet, ↓sAsg, ↓sIf, ↓sRet, ↓sExpr, ↓sPar, ↓sPar3, ↓sFor, ↓nName, ↓nTup, ↓nCons, ↓nNil, ↓nNs, ↓eVar, ↓eC, ↓eOp, ↓eUn, ↓eArgs, ↓eNew, ↓aCons, ↓aNil, ↓tV, ↓tT, toB, truP, ↓tNotE, ↓tAndE, ↓tOrE, ↓tYesE, ↓eAndV, ↓eOrV, ↓eNotV, ↓eNotT, ↓eIf, gAdd_int, gAdd_tup, Py.gSub, gMul_l, gMul_r, gMod, gFdiv, gNeg, gLt, gLe, gGt, gGe, gInt, gEq_int, gEq_str, gEq_bl, gNe_int, gNe_str, gNe_bl, gIsN, gNotN, getQ, getL, gSetL, ↓nSubL, gDivmod, gMin2, gMax2, ↓mkDef, ↓mkNew, startP, finF, finO, finV_tup, finV_int, finV_bl, finV_lst, finV_non, finV_str, finV_ref, ↓eChain, tyP, gIsi, isiB, ↓iArgs, ↓iSeq, iterP, ↓fComp, wipeP, ↓eSl, ↓oNone, ↓oSome, gSl, ↓eMeth0, ↓eMeth1, ixN, atI0, atI1, atI2, atI3, List.length_cons, List.length_nil, List.map_cons, List.map_nil, List.replicate, List.cons_append, List.nil_append, List.append_nil, List.getElem?_cons_zero, List.getElem?_cons_succ, List.getElem?_nil, List.set_cons_zero, List.set_cons_succ, List.set_nil, List.length_set, List.length_append, Nat.add_sub_cancel, Nat.reduceAdd, Nat.reduceSub, Nat.reduceLT, Nat.reduceEqDiff, Nat.reduceLeDiff, Nat.le_refl, Nat.zero_le, if_true, if_false, ↓reduceIte, decide_eq_true_eq, Bool.false_eq_true, Bool.true_eq_false, Bool.not_true, Bool.not_false, Option.isSome_some, forall_const, not_true_eq_false, not_false_eq_true, imp_self, false_implies, true_implies, implies_true, and_true, true_and, Int.toNat_zero, Nat.zero_add, Int.reduceLE, Int.reduceLT, Int.reduceNeg, Int.reduceToNat, Int.reducePow, Int.reduceGT, Int.cast_ofNat_Int, true_or, or_true, Int.ofNat_eq_natCast, decide_true, decide_false, Int.reduceEq, List.isEmpty_cons, List.isEmpty_nil, eDGet1,  keyP, Option.map_some, Option.map_none, Option.getD_some, Option.isSome_some, reduceCtorEq, and_self,  allPure_nil, allPure_cons, Bool.and_true, Bool.true_and, Bool.false_and, Bool.and_false, Bool.not_eq_true, Bool.not_eq_false, gTupP_nil, gLstP_nil, gTupP_ok, gLstP_ok, isRef_tup, isRef_int, isRef_str, isRef_bl, Bool.or_false, Bool.or_true, Bool.true_or, Bool.false_or, ca, gLen_tup]
        refine wp_of (draw_ok w1.w (m := (xs.length : Nat)) (by omega) (by omega)) fun p_1 S2 ⟨s, es, s0, s1, w2⟩ => ?_
        subst es
        obtain ⟨i, rfl⟩ : ∃ i : Nat, s = i := ⟨s.toNat, by omega⟩
        have hi : i < xs.length := by omega
        have gx : ∀ S, gIx (.tup xs) (.int (i : Nat)) S = .ok xs[i] S := fun S => by
          unfold gIx
          simp only [getQ, atI_nat, List.getElem?_eq_getElem hi]
        simp only [wp_ok, wp_no, ↓wp_bind, ↓R.bind_ok, ↓sSeq, ↓sNil, ↓sSet, ↓sAsg, ↓sIf, ↓sRet, ↓sExpr, ↓sPar, ↓sPar3, ↓sFor, ↓nName, ↓nTup, ↓nCons, ↓nNil, ↓nNs, ↓eVar, ↓eC, ↓eOp, ↓eUn, ↓eArgs, ↓eNew, ↓aCons, ↓aNil, ↓tV, ↓tT, toB, truP, ↓tNotE, ↓tAndE, ↓tOrE, ↓tYesE, ↓eAndV, ↓eOrV, ↓eNotV, ↓eNotT, ↓eIf, gAdd_int, gAdd_tup, Py.gSub, gMul_l, gMul_r, gMod, gFdiv, gNeg, gLt, gLe, gGt, gGe, gInt, gEq_int, gEq_str, gEq_bl, gNe_int, gNe_str, gNe_bl, gIsN, gNotN, getQ, getL, gSetL, ↓nSubL, gDivmod, gMin2, gMax2, ↓mkDef, ↓mkNew, startP, finF, finO, finV_tup, finV_int, finV_bl, finV_lst, finV_non, finV_str, finV_ref, ↓eChain, tyP, gIsi, isiB, ↓iArgs, ↓iSeq, iterP, ↓fComp, wipeP, ↓eSl, ↓oNone, ↓oSome, gSl, ↓eMeth0, ↓eMeth1, ixN, atI0, atI1, atI2, atI3, List.length_cons, List.length_nil, List.map_cons, List.map_nil, List.replicate, List.cons_append, List.nil_append, List.append_nil, List.getElem?_cons_zero, List.getElem?_cons_succ, List.getElem?_nil, List.set_cons_zero, List.set_cons_succ, List.set_nil, List.length_set, List.length_append, Nat.add_sub_cancel, Nat.reduceAdd, Nat.reduceSub, Nat.reduceLT, Nat.reduceEqDiff, Nat.reduceLeDiff, Nat.le_refl, Nat.zero_le, if_true, if_false, ↓reduceIte, decide_eq_true_eq, Bool.false_eq_true, Bool.true_eq_false, Bool.not_true, Bool.not_false, Option.isSome_some, forall_const, not_true_eq_false, not_false_eq_true, imp_self, false_implies, true_implies, implies_true, and_true, true_and, Int.toNat_zero, Nat.zero_add, Int.reduceLE, Int.reduceLT, Int.reduceNeg, Int.reduceToNat, Int.reducePow, Int.reduceGT, Int.cast_ofNat_Int, true_or, or_true, Int.ofNat_eq_natCast, decide_true, decide_false, Int.reduceEq, List.isEmpty_cons, List.isEmpty_nil, eDGet1,  keyP, Option.map_some, Option.map_none, Option.getD_some, Option.isSome_some, reduceCtorEq, and_self,  allPure_nil, allPure_cons, Bool.and_true, Bool.true_and, Bool.false_and, Bool.and_false, Bool.not_eq_true, Bool.not_eq_false, gTupP_nil, gLstP_nil, gTupP_ok, gLstP_ok, isRef_tup, isRef_int, isRef_str, isRef_bl, Bool.or_false, Bool.or_true, Bool.true_or, Bool.false_or, gx]
        refine wp_of (ih k xs[i] S2 (by omega) w2.w (hx _ (List.getElem_mem _))) fun q S3 ⟨w3, b⟩ => ?_
        have gt := gTupP_ok (ps := [q]) (S := S3) (by rw [allPure_cons, b.ref]; rfl) (by simp)
        have ga1 := gAdd_tup (xs := cutP xs none (some (i : Int))) (ys := [q]) (S := S3) (by have := c1 none (some (i : Int)); simp; omega)
        have ga2 := gAdd_tup (xs := cutP xs none (some (i : Int)) ++ [q]) (ys := cutP xs (some ((i : Int) + 1)) none) (S := S3) (by have := c1 none (some (i : Int)); have := c1 (some ((i : Int) + 1)) none; simp; omega)
        simp only [wp_ok, wp_no, ↓wp_bind, ↓R.bind_ok, ↓sSeq, ↓sNil, ↓sSet, ↓sAsg, ↓sIf, ↓sRet, ↓sExpr, ↓sPar, ↓sPar3, ↓sFor, ↓nName, ↓nTup, ↓nCons, ↓nNil, ↓nNs, ↓eVar, ↓eC, ↓eOp, ↓eUn, ↓eArgs, ↓eNew, ↓aCons, ↓aNil, ↓tV, ↓tT, toB, truP, ↓tNotE, ↓tAndE, ↓tOrE, ↓tYesE, ↓eAndV, ↓eOrV, ↓eNotV, ↓eNotT, ↓eIf, gAdd_int, gAdd_tup, Py.gSub, gMul_l, gMul_r, gMod, gFdiv, gNeg, gLt, gLe, gGt, gGe, gInt, gEq_int, gEq_str, gEq_bl, gNe_int, gNe_str, gNe_bl, gIsN, gNotN, getQ, getL, gSetL, ↓nSubL, gDivmod, gMin2, gMax2, ↓mkDef, ↓mkNew, startP, finF, finO, finV_tup, finV_int, finV_bl, finV_lst, finV_non, finV_str, finV_ref, ↓eChain, tyP, gIsi, isiB, ↓iArgs, ↓iSeq, iterP, ↓fComp, wipeP, ↓eSl, ↓oNone, ↓oSome, gSl, ↓eMeth0, ↓eMeth1, ixN, atI0, atI1, atI2, atI3, List.length_cons, List.length_nil, List.map_cons, List.map_nil, List.replicate, List.cons_append, List.nil_append, List.append_nil, List.getElem?_cons_zero, List.getElem?_cons_succ, List.getElem?_nil, List.set_cons_zero, List.set_cons_succ, List.set_nil, List.length_set, List.length_append, Nat.add_sub_cancel, Nat.reduceAdd, Nat.reduceSub, Nat.reduceLT, Nat.reduceEqDiff, Nat.reduceLeDiff, Nat.le_refl, Nat.zero_le, if_true, if_false, ↓reduceIte, decide_eq_true_eq, Bool.false_eq_true, Bool.true_eq_false, Bool.not_true, Bool.not_false, Option.isSome_some, forall_const, not_true_eq_false, not_false_eq_true, imp_self, false_implies, true_implies, implies_true, and_true, true_and, Int.toNat_zero, Nat.zero_add, Int.reduceLE, Int.reduceLT, Int.reduceNeg, Int.reduceToNat, Int.reducePow, Int.reduceGT, Int.cast_ofNat_Int, true_or, or_true, Int.ofNat_eq_natCast, decide_true, decide_false, Int.reduceEq, List.isEmpty_cons, List.isEmpty_nil, eDGet1,  keyP, Option.map_some, Option.map_none, Option.getD_some, Option.isSome_some, reduceCtorEq, and_self,  allPure_nil, allPure_cons, Bool.and_true, Bool.true_and, Bool.false_and, Bool.and_false, Bool.not_eq_true, Bool.not_eq_false, gTupP_nil, gLstP_nil, gTupP_ok, gLstP_ok, isRef_tup, isRef_int, isRef_str, isRef_bl, Bool.or_false, Bool.or_true, Bool.true_or, Bool.false_or, gt, ga1, ga2]
        have e1 : cutP xs none (some (i : Int)) = xs.take i := by
          unfold cutP
          rw [HT.sIx_nat, HT.sIx_none, Nat.min_eq_left (by omega)]
          simp
        have e2 : cutP xs (some ((i : Int) + 1)) none = xs.drop (i + 1) := by
          rw [show ((i : Int) + 1) = ((i + 1 : Nat) : Int) by omega]
          unfold cutP
          rw [HT.sIx_nat, HT.sIx_none, Nat.min_eq_left (by omega), List.take_of_length_le (by simp)]
        rw [e1, e2]
        have b1 : Bd (m + 1) (k + 5) q := b.1
        refine fin _ S3 ((w1.trans w2).trans w3) (tupE (fun x h => ?_) (by simp; omega) ?_)
        · rcases List.mem_append.mp h with z | z
          · rcases List.mem_append.mp z with z | z
            · exact hx' x (List.mem_of_mem_take z)
            · rw [List.mem_singleton.mp z]; exact b1
          · exact hx' x (List.mem_of_mem_drop z)
        · rw [hgs_app, hgs_app, hgs, hgs]
          have h1 := hgs_take i xs
          have h2 : hgs (xs.drop i) = hg xs[i] + hgs (xs.drop (i + 1)) := by rw [List.drop_eq_getElem_cons hi, hgs]
          have := b.2.1
          omega
      · simp only [wp_ok, wp_no, ↓wp_bind, ↓R.bind_ok, ↓sSeq, ↓sNil, ↓sSet, ↓sAsg, ↓sIf, ↓sRet, ↓sExpr, ↓sPar, ↓sPar3, ↓sFor, ↓nName, ↓nTup, ↓nCons, ↓nNil, ↓nNs, ↓eVar, ↓eC, ↓eOp, ↓eUn, ↓eArgs, ↓eNew, ↓aCons, ↓aNil, ↓tV, ↓tT, toB, truP, ↓tNotE, ↓tAndE, ↓tOrE, ↓tYesE, ↓eAndV, ↓eOrV, ↓eNotV, ↓eNotT, ↓eIf, gAdd_int, gAdd_tup, Py.gSub, gMul_l, gMul_r, gMod, gFdiv, gNeg, gLt, gLe, gGt, gGe, gInt, gEq_int, gEq_str, gEq_bl, gNe_int, gNe_str, gNe_bl, gIsN, gNotN, getQ, getL, gSetL, ↓nSubL, gDivmod, gMin2, gMax2, ↓mkDef, ↓mkNew, startP, finF, finO, finV_tup, finV_int, finV_bl, finV_lst, finV_non, finV_str, finV_ref, ↓eChain, tyP, gIsi, isiB, ↓iArgs, ↓iSeq, iterP, ↓fComp, wipeP, ↓eSl, ↓oNone, ↓oSome, gSl, ↓eMeth0, ↓eMeth1, ixN, atI0, atI1, atI2, atI3, List.length_cons, List.length_nil, List.map_cons, List.map_nil, List.replicate, List.cons_append, List.nil_append, List.append_nil, List.getElem?_cons_zero, List.getElem?_cons_succ, List.getElem?_nil, List.set_cons_zero, List.set_cons_succ, List.set_nil, List.length_set, List.length_append, Nat.add_sub_cancel, Nat.reduceAdd, Nat.reduceSub, Nat.reduceLT, Nat.reduceEqDiff, Nat.reduceLeDiff, Nat.le_refl, Nat.zero_le, if_true, if_false, ↓reduceIte, decide_eq_true_eq, Bool.false_eq_true, Bool.true_eq_false, Bool.not_true, Bool.not_false, Option.isSome_some, forall_const, not_true_eq_false, not_false_eq_true, imp_self, false_implies, true_implies, implies_true, and_true, true_and, Int.toNat_zero, Nat.zero_add, Int.reduceLE, Int.reduceLT, Int.reduceNeg, Int.reduceToNat, Int.reducePow, Int.reduceGT, Int.cast_ofNat_Int, true_or, or_true, Int.ofNat_eq_natCast, decide_true, decide_false, Int.reduceEq, List.isEmpty_cons, List.isEmpty_nil, eDGet1,  keyP, Option.map_some, Option.map_none, Option.getD_some, Option.isSome_some, reduceCtorEq, and_self,  allPure_nil, allPure_cons, Bool.and_true, Bool.true_and, Bool.false_and, Bool.and_false, Bool.not_eq_true, Bool.not_eq_false, gTupP_nil, gLstP_nil, gTupP_ok, gLstP_ok, isRef_tup, isRef_int, isRef_str, isRef_bl, Bool.or_false, Bool.or_true, Bool.true_or, Bool.false_or, ca]
        have r := rest S1 w1 none
        simp only [wp_ok, wp_no, ↓wp_bind, ↓R.bind_ok, ↓sSeq, ↓sNil, ↓sSet, ↓sAsg, ↓sIf, ↓sRet, ↓sExpr, ↓sPar, ↓sPar3, ↓sFor, ↓nName, ↓nTup, ↓nCons, ↓nNil, ↓nNs, ↓eVar, ↓eC, ↓eOp, ↓eUn, ↓eArgs, ↓eNew, ↓aCons, ↓aNil, ↓tV, ↓tT, toB, truP, ↓tNotE, ↓tAndE, ↓tOrE, ↓tYesE, ↓eAndV, ↓eOrV, ↓eNotV, ↓eNotT, ↓eIf, gAdd_int, gAdd_tup, Py.gSub, gMul_l, gMul_r, gMod, gFdiv, gNeg, gLt, gLe, gGt, gGe, gInt, gEq_int, gEq_str, gEq_bl, gNe_int, gNe_str, gNe_bl, gIsN, gNotN, getQ, getL, gSetL, ↓nSubL, gDivmod, gMin2, gMax2, ↓mkDef, ↓mkNew, startP, finF, finO, finV_tup, finV_int, finV_bl, finV_lst, finV_non, finV_str, finV_ref, ↓eChain, tyP, gIsi, isiB, ↓iArgs, ↓iSeq, iterP, ↓fComp, wipeP, ↓eSl, ↓oNone, ↓oSome, gSl, ↓eMeth0, ↓eMeth1, ixN, atI0, atI1, atI2, atI3, List.length_cons, List.length_nil, List.map_cons, List.map_nil, List.replicate, List.cons_append, List.nil_append, List.append_nil, List.getElem?_cons_zero, List.getElem?_cons_succ, List.getElem?_nil, List.set_cons_zero, List.set_cons_succ, List.set_nil, List.length_set, List.length_append, Nat.add_sub_cancel, Nat.reduceAdd, Nat.reduceSub, Nat.reduceLT, Nat.reduceEqDiff, Nat.reduceLeDiff, Nat.le_refl, Nat.zero_le, if_true, if_false, ↓reduceIte, decide_eq_true_eq, Bool.false_eq_true, Bool.true_eq_false, Bool.not_true, Bool.not_false, Option.isSome_some, forall_const, not_true_eq_false, not_false_eq_true, imp_self, false_implies, true_implies, implies_true, and_true, true_and, Int.toNat_zero, Nat.zero_add, Int.reduceLE, Int.reduceLT, Int.reduceNeg, Int.reduceToNat, Int.reducePow, Int.reduceGT, Int.cast_ofNat_Int, true_or, or_true, Int.ofNat_eq_natCast, decide_true, decide_false, Int.reduceEq, List.isEmpty_cons, List.isEmpty_nil, eDGet1,  keyP, Option.map_some, Option.map_none, Option.getD_some, Option.isSome_some, reduceCtorEq, and_self,  allPure_nil, allPure_cons, Bool.and_true, Bool.true_and, Bool.false_and, Bool.and_false, Bool.not_eq_true, Bool.not_eq_false, gTupP_nil, gLstP_nil, gTupP_ok, gLstP_ok, isRef_tup, isRef_int, isRef_str, isRef_bl, Bool.or_false, Bool.or_true, Bool.true_or, Bool.false_or] at r
        exact r
  | @int k i hi =>
    have lw := fun S : Sto => lwhole_any (S := S) (Dv.int : Dv 1 (.int i))
    have hlog : i.natAbs.log2 < 1920 := Nat.lt_of_lt_of_le (log2_of (by omega) hi) (by omega)
    have gs := fun S : Sto => gStrI_ok (S := S) hlog
    have gm := fun S : Sto => gMul_r (i := i) (j := 1000000007) (S := S) (by omega) (by omega)
    have ge : ∀ S : Sto, gEqO (.int i) (.int 1) S = .ok (.bl (decide (i = 1))) S := fun S => rfl
    have hsz : (PV.str (toString i)).isRef = false := rfl
    have ls : (Str.ofString (toString i)).cps.size ≤ 60 + 40 * m + 1 := by
      have e := int_text_length_le (a := i) (k := 60 + 40 * m) (by omega) (log2_of (by omega) hi)
      show (Str.ofString (toString i)).length ≤ _
      rw [PySem.ofString_length]
      exact e
    have g5 := fun S : Sto => gTupP_ok (ps := [.int (i + 1), .int (i - 1), .int (0 - i), .int (i * 1000000007), .bl (decide (i = 1)), .str (toString i)]) (S := S) rfl (by simp)
    have ib : ∀ z : Int, z.natAbs < 2 ^ (60 + 40 * (m + 1)) → BtP m (k + 1) (.int i) (.int z) := fun z hz => ⟨.int hz, by rw [hg_int]; omega, fun _ e => by cases e⟩
    simp only [wp_ok, wp_no, ↓wp_bind, ↓R.bind_ok, ↓sSeq, ↓sNil, ↓sSet, ↓sAsg, ↓sIf, ↓sRet, ↓sExpr, ↓sPar, ↓sPar3, ↓sFor, ↓nName, ↓nTup, ↓nCons, ↓nNil, ↓nNs, ↓eVar, ↓eC, ↓eOp, ↓eUn, ↓eArgs, ↓eNew, ↓aCons, ↓aNil, ↓tV, ↓tT, toB, truP, ↓tNotE, ↓tAndE, ↓tOrE, ↓tYesE, ↓eAndV, ↓eOrV, ↓eNotV, ↓eNotT, ↓eIf, gAdd_int, gAdd_tup, Py.gSub, gMul_l, gMul_r, gMod, gFdiv, gNeg, gLt, gLe, gGt, gGe, gInt, gEq_int, gEq_str, gEq_bl, gNe_int, gNe_str, gNe_bl, gIsN, gNotN, getQ, getL, gSetL, ↓nSubL, gDivmod, gMin2, gMax2, ↓mkDef, ↓mkNew, startP, finF, finO, finV_tup, finV_int, finV_bl, finV_lst, finV_non, finV_str, finV_ref, ↓eChain, tyP, gIsi, isiB, ↓iArgs, ↓iSeq, iterP, ↓fComp, wipeP, ↓eSl, ↓oNone, ↓oSome, gSl, ↓eMeth0, ↓eMeth1, ixN, atI0, atI1, atI2, atI3, List.length_cons, List.length_nil, List.map_cons, List.map_nil, List.replicate, List.cons_append, List.nil_append, List.append_nil, List.getElem?_cons_zero, List.getElem?_cons_succ, List.getElem?_nil, List.set_cons_zero, List.set_cons_succ, List.set_nil, List.length_set, List.length_append, Nat.add_sub_cancel, Nat.reduceAdd, Nat.reduceSub, Nat.reduceLT, Nat.reduceEqDiff, Nat.reduceLeDiff, Nat.le_refl, Nat.zero_le, if_true, if_false, ↓reduceIte, decide_eq_true_eq, Bool.false_eq_true, Bool.true_eq_false, Bool.not_true, Bool.not_false, Option.isSome_some, forall_const, not_true_eq_false, not_false_eq_true, imp_self, false_implies, true_implies, implies_true, and_true, true_and, Int.toNat_zero, Nat.zero_add, Int.reduceLE, Int.reduceLT, Int.reduceNeg, Int.reduceToNat, Int.reducePow, Int.reduceGT, Int.cast_ofNat_Int, true_or, or_true, Int.ofNat_eq_natCast, decide_true, decide_false, Int.reduceEq, List.isEmpty_cons, List.isEmpty_nil, eDGet1,  keyP, Option.map_some, Option.map_none, Option.getD_some, Option.isSome_some, reduceCtorEq, and_self,  allPure_nil, allPure_cons, Bool.and_true, Bool.true_and, Bool.false_and, Bool.and_false, Bool.not_eq_true, Bool.not_eq_false, gTupP_nil, gLstP_nil, gTupP_ok, gLstP_ok, isRef_tup, isRef_int, isRef_str, isRef_bl, Bool.or_false, Bool.or_true, Bool.true_or, Bool.false_or]
    refine wp_of (draw_ok hw (m := 9) (by omega) (by omega)) fun p_1 S2 ⟨j, ej, j0, j1, w2⟩ => ?_
    subst ej
    by_cases c6 : j < 6
    · simp only [wp_ok, wp_no, ↓wp_bind, ↓R.bind_ok, ↓sSeq, ↓sNil, ↓sSet, ↓sAsg, ↓sIf, ↓sRet, ↓sExpr, ↓sPar, ↓sPar3, ↓sFor, ↓nName, ↓nTup, ↓nCons, ↓nNil, ↓nNs, ↓eVar, ↓eC, ↓eOp, ↓eUn, ↓eArgs, ↓eNew, ↓aCons, ↓aNil, ↓tV, ↓tT, toB, truP, ↓tNotE, ↓tAndE, ↓tOrE, ↓tYesE, ↓eAndV, ↓eOrV, ↓eNotV, ↓eNotT, ↓eIf, gAdd_int, gAdd_tup, Py.gSub, gMul_l, gMul_r, gMod, gFdiv, gNeg, gLt, gLe, gGt, gGe, gInt, gEq_int, gEq_str, gEq_bl, gNe_int, gNe_str, gNe_bl, gIsN, gNotN, getQ, getL, gSetL, ↓nSubL, gDivmod, gMin2, gMax2, ↓mkDef, ↓mkNew, startP, finF, finO, finV_tup, finV_int, finV_bl, finV_lst, finV_non, finV_str, finV_ref, ↓eChain, tyP, gIsi, isiB, ↓iArgs, ↓iSeq, iterP, ↓fComp, wipeP, ↓eSl, ↓oNone, ↓oSome, gSl, ↓eMeth0, ↓eMeth1, ixN, atI0, atI1, atI2, atI3, List.length_cons, List.length_nil, List.map_cons, List.map_nil, List.replicate, List.cons_append, List.nil_append, List.append_nil, List.getElem?_cons_zero, List.getElem?_cons_succ, List.getElem?_nil, List.set_cons_zero, List.set_cons_succ, List.set_nil, List.length_set, List.length_append, Nat.add_sub_cancel, Nat.reduceAdd, Nat.reduceSub, Nat.reduceLT, Nat.reduceEqDiff, Nat.reduceLeDiff, Nat.le_refl, Nat.zero_le, if_true, if_false, ↓reduceIte, decide_eq_true_eq, Bool.false_eq_true, Bool.true_eq_false, Bool.not_true, Bool.not_false, Option.isSome_some, forall_const, not_true_eq_false, not_false_eq_true, imp_self, false_implies, true_implies, implies_true, and_true, true_and, Int.toNat_zero, Nat.zero_add, Int.reduceLE, Int.reduceLT, Int.reduceNeg, Int.reduceToNat, Int.reducePow, Int.reduceGT, Int.cast_ofNat_Int, true_or, or_true, Int.ofNat_eq_natCast, decide_true, decide_false, Int.reduceEq, List.isEmpty_cons, List.isEmpty_nil, eDGet1,  keyP, Option.map_some, Option.map_none, Option.getD_some, Option.isSome_some, reduceCtorEq, and_self,  allPure_nil, allPure_cons, Bool.and_true, Bool.true_and, Bool.false_and, Bool.and_false, Bool.not_eq_true, Bool.not_eq_false, gTupP_nil, gLstP_nil, gTupP_ok, gLstP_ok, isRef_tup, isRef_int, isRef_str, isRef_bl, Bool.or_false, Bool.or_true, Bool.true_or, Bool.false_or, c6, lw, isIn, gm, ge, gs, g5]
      refine fin6 _ _ _ _ _ _ j S2 j0 c6 w2 fun e he => ?_
      simp only [List.mem_cons, List.not_mem_nil, or_false] at he
      have p1 := pow_one hi
      rcases he with e | e | e | e | e | e <;> subst e
      · exact ib _ (by omega)
      · exact ib _ (by omega)
      · exact ib _ (by omega)
      · refine ib _ ?_
        rw [Int.natAbs_mul]
        exact pow_step hi
      · exact ⟨.bl, by rw [hg_bl]; omega, fun _ _ => shQ_ok rfl⟩
      · exact ⟨.str (by have : (Str.ofString (toString i)).cps.size ≤ 60 + 40 * m + 1 := ls; show (Str.ofString (toString i)).cps.size ≤ _; omega) (of_small _), by rw [hg_str]; omega, fun _ _ => shQ_ok rfl⟩
    · simp only [wp_ok, wp_no, ↓wp_bind, ↓R.bind_ok, ↓sSeq, ↓sNil, ↓sSet, ↓sAsg, ↓sIf, ↓sRet, ↓sExpr, ↓sPar, ↓sPar3, ↓sFor, ↓nName, ↓nTup, ↓nCons, ↓nNil, ↓nNs, ↓eVar, ↓eC, ↓eOp, ↓eUn, ↓eArgs, ↓eNew, ↓aCons, ↓aNil, ↓tV, ↓tT, toB, truP, ↓tNotE, ↓tAndE, ↓tOrE, ↓tYesE, ↓eAndV, ↓eOrV, ↓eNotV, ↓eNotT, ↓eIf, gAdd_int, gAdd_tup, Py.gSub, gMul_l, gMul_r, gMod, gFdiv, gNeg, gLt, gLe, gGt, gGe, gInt, gEq_int, gEq_str, gEq_bl, gNe_int, gNe_str, gNe_bl, gIsN, gNotN, getQ, getL, gSetL, ↓nSubL, gDivmod, gMin2, gMax2, ↓mkDef, ↓mkNew, startP, finF, finO, finV_tup, finV_int, finV_bl, finV_lst, finV_non, finV_str, finV_ref, ↓eChain, tyP, gIsi, isiB, ↓iArgs, ↓iSeq, iterP, ↓fComp, wipeP, ↓eSl, ↓oNone, ↓oSome, gSl, ↓eMeth0, ↓eMeth1, ixN, atI0, atI1, atI2, atI3, List.length_cons, List.length_nil, List.map_cons, List.map_nil, List.replicate, List.cons_append, List.nil_append, List.append_nil, List.getElem?_cons_zero, List.getElem?_cons_succ, List.getElem?_nil, List.set_cons_zero, List.set_cons_succ, List.set_nil, List.length_set, List.length_append, Nat.add_sub_cancel, Nat.reduceAdd, Nat.reduceSub, Nat.reduceLT, Nat.reduceEqDiff, Nat.reduceLeDiff, Nat.le_refl, Nat.zero_le, if_true, if_false, ↓reduceIte, decide_eq_true_eq, Bool.false_eq_true, Bool.true_eq_false, Bool.not_true, Bool.not_false, Option.isSome_some, forall_const, not_true_eq_false, not_false_eq_true, imp_self, false_implies, true_implies, implies_true, and_true, true_and, Int.toNat_zero, Nat.zero_add, Int.reduceLE, Int.reduceLT, Int.reduceNeg, Int.reduceToNat, Int.reducePow, Int.reduceGT, Int.cast_ofNat_Int, true_or, or_true, Int.ofNat_eq_natCast, decide_true, decide_false, Int.reduceEq, List.isEmpty_cons, List.isEmpty_nil, eDGet1,  keyP, Option.map_some, Option.map_none, Option.getD_some, Option.isSome_some, reduceCtorEq, and_self,  allPure_nil, allPure_cons, Bool.and_true, Bool.true_and, Bool.false_and, Bool.and_false, Bool.not_eq_true, Bool.not_eq_false, gTupP_nil, gLstP_nil, gTupP_ok, gLstP_ok, isRef_tup, isRef_int, isRef_str, isRef_bl, Bool.or_false, Bool.or_true, Bool.true_or, Bool.false_or, c6, lw, isIn]
      exact odd S2 w2
  | @str k x hx hch =>
    have lw := fun S : Sto => lwhole_any (S := S) (Dv.str : Dv 1 (.str x))
    have ge : ∀ S : Sto, gEqO (.str x) (.str "at") S = .ok (.bl (decide (x = "at"))) S := fun S => rfl
    have c1 := cutS_size x
    have a1 := fun S : Sto => gAdd_str (a := x) (b := "a") (S := S) (by rw [sa]; omega)
    have a2 := fun S : Sto => gAdd_str (a := cutS x none (some 3)) (b := "z") (S := S) (by rw [sz_]; have := c1 none (some 3); omega)
    have a3 := fun S : Sto => gAdd_str (a := x) (b := "1") (S := S) (by rw [s1_]; omega)
    have s1 := fun S : Sto => gStr_ok (z := x) (lo := none) (hi := some (-1)) (S := S) (by omega)
    have s2 := fun S : Sto => gStr_ok (z := x) (lo := none) (hi := some 3) (S := S) (by omega)
    have sb : ∀ z : Str, z.cps.size ≤ 200 + (m + 1) → (∀ c ∈ z.cps.toList, c < 16 ^ 8) → BtP m (k + 1) (.str x) (.str z) := fun z hz hc => ⟨.str hz hc, by rw [hg_str]; omega, fun _ _ => shQ_ok rfl⟩
    have g6 := fun S : Sto => gTupP_ok (ps := WB) (S := S) (by decide +kernel) (by decide)
    have hWB : [PV.str "fn", .str "pair", .str "test", .str "again", .str "name", .str "at", .str "hole", .str "put", .str "call", .str "say"] = WB := rfl
    have wok := WB_ok
    have wl1 : 0 < WB.length := by decide
    have wl2 : WB.length ≤ 5000 := by decide
    rw [← hWB] at g6
    generalize WB = W at *
    simp only [wp_ok, wp_no, ↓wp_bind, ↓R.bind_ok, ↓sSeq, ↓sNil, ↓sSet, ↓sAsg, ↓sIf, ↓sRet, ↓sExpr, ↓sPar, ↓sPar3, ↓sFor, ↓nName, ↓nTup, ↓nCons, ↓nNil, ↓nNs, ↓eVar, ↓eC, ↓eOp, ↓eUn, ↓eArgs, ↓eNew, ↓aCons, ↓aNil, ↓tV, ↓tT, toB, truP, ↓tNotE, ↓tAndE, ↓tOrE, ↓tYesE, ↓eAndV, ↓eOrV, ↓eNotV, ↓eNotT, ↓eIf, gAdd_int, gAdd_tup, Py.gSub, gMul_l, gMul_r, gMod, gFdiv, gNeg, gLt, gLe, gGt, gGe, gInt, gEq_int, gEq_str, gEq_bl, gNe_int, gNe_str, gNe_bl, gIsN, gNotN, getQ, getL, gSetL, ↓nSubL, gDivmod, gMin2, gMax2, ↓mkDef, ↓mkNew, startP, finF, finO, finV_tup, finV_int, finV_bl, finV_lst, finV_non, finV_str, finV_ref, ↓eChain, tyP, gIsi, isiB, ↓iArgs, ↓iSeq, iterP, ↓fComp, wipeP, ↓eSl, ↓oNone, ↓oSome, ↓eMeth0, ↓eMeth1, ixN, atI0, atI1, atI2, atI3, List.length_cons, List.length_nil, List.map_cons, List.map_nil, List.replicate, List.cons_append, List.nil_append, List.append_nil, List.getElem?_cons_zero, List.getElem?_cons_succ, List.getElem?_nil, List.set_cons_zero, List.set_cons_succ, List.set_nil, List.length_set, List.length_append, Nat.add_sub_cancel, Nat.reduceAdd, Nat.reduceSub, Nat.reduceLT, Nat.reduceEqDiff, Nat.reduceLeDiff, Nat.le_refl, Nat.zero_le, if_true, if_false, ↓reduceIte, decide_eq_true_eq, Bool.false_eq_true, Bool.true_eq_false, Bool.not_true, Bool.not_false, Option.isSome_some, forall_const, not_true_eq_false, not_false_eq_true, imp_self, false_implies, true_implies, implies_true, and_true, true_and, Int.toNat_zero, Nat.zero_add, Int.reduceLE, Int.reduceLT, Int.reduceNeg, Int.reduceToNat, Int.reducePow, Int.reduceGT, Int.cast_ofNat_Int, true_or, or_true, Int.ofNat_eq_natCast, decide_true, decide_false, Int.reduceEq, List.isEmpty_cons, List.isEmpty_nil, eDGet1,  keyP, Option.map_some, Option.map_none, Option.getD_some, Option.isSome_some, reduceCtorEq, and_self,  allPure_nil, allPure_cons, Bool.and_true, Bool.true_and, Bool.false_and, Bool.and_false, Bool.not_eq_true, Bool.not_eq_false, gTupP_nil, gLstP_nil, gTupP_ok, gLstP_ok, isRef_tup, isRef_int, isRef_str, isRef_bl, Bool.or_false, Bool.or_true, Bool.true_or, Bool.false_or]
    refine wp_of (draw_ok hw (m := 9) (by omega) (by omega)) fun p_1 S2 ⟨j, ej, j0, j1, w2⟩ => ?_
    subst ej
    by_cases c6 : j < 6
    · simp only [wp_ok, wp_no, ↓wp_bind, ↓R.bind_ok, ↓sSeq, ↓sNil, ↓sSet, ↓sAsg, ↓sIf, ↓sRet, ↓sExpr, ↓sPar, ↓sPar3, ↓sFor, ↓nName, ↓nTup, ↓nCons, ↓nNil, ↓nNs, ↓eVar, ↓eC, ↓eOp, ↓eUn, ↓eArgs, ↓eNew, ↓aCons, ↓aNil, ↓tV, ↓tT, toB, truP, ↓tNotE, ↓tAndE, ↓tOrE, ↓tYesE, ↓eAndV, ↓eOrV, ↓eNotV, ↓eNotT, ↓eIf, gAdd_int, gAdd_tup, Py.gSub, gMul_l, gMul_r, gMod, gFdiv, gNeg, gLt, gLe, gGt, gGe, gInt, gEq_int, gEq_str, gEq_bl, gNe_int, gNe_str, gNe_bl, gIsN, gNotN, getQ, getL, gSetL, ↓nSubL, gDivmod, gMin2, gMax2, ↓mkDef, ↓mkNew, startP, finF, finO, finV_tup, finV_int, finV_bl, finV_lst, finV_non, finV_str, finV_ref, ↓eChain, tyP, gIsi, isiB, ↓iArgs, ↓iSeq, iterP, ↓fComp, wipeP, ↓eSl, ↓oNone, ↓oSome, ↓eMeth0, ↓eMeth1, ixN, atI0, atI1, atI2, atI3, List.length_cons, List.length_nil, List.map_cons, List.map_nil, List.replicate, List.cons_append, List.nil_append, List.append_nil, List.getElem?_cons_zero, List.getElem?_cons_succ, List.getElem?_nil, List.set_cons_zero, List.set_cons_succ, List.set_nil, List.length_set, List.length_append, Nat.add_sub_cancel, Nat.reduceAdd, Nat.reduceSub, Nat.reduceLT, Nat.reduceEqDiff, Nat.reduceLeDiff, Nat.le_refl, Nat.zero_le, if_true, if_false, ↓reduceIte, decide_eq_true_eq, Bool.false_eq_true, Bool.true_eq_false, Bool.not_true, Bool.not_false, Option.isSome_some, forall_const, not_true_eq_false, not_false_eq_true, imp_self, false_implies, true_implies, implies_true, and_true, true_and, Int.toNat_zero, Nat.zero_add, Int.reduceLE, Int.reduceLT, Int.reduceNeg, Int.reduceToNat, Int.reducePow, Int.reduceGT, Int.cast_ofNat_Int, true_or, or_true, Int.ofNat_eq_natCast, decide_true, decide_false, Int.reduceEq, List.isEmpty_cons, List.isEmpty_nil, eDGet1,  keyP, Option.map_some, Option.map_none, Option.getD_some, Option.isSome_some, reduceCtorEq, and_self,  allPure_nil, allPure_cons, Bool.and_true, Bool.true_and, Bool.false_and, Bool.and_false, Bool.not_eq_true, Bool.not_eq_false, gTupP_nil, gLstP_nil, gTupP_ok, gLstP_ok, isRef_tup, isRef_int, isRef_str, isRef_bl, Bool.or_false, Bool.or_true, Bool.true_or, Bool.false_or, c6, lw, isIn, g6]
      rw [hWB]
      refine wp_of (pick_tup w2.w (xs := W) wl1 wl2 fun x h => by obtain ⟨z, e, _, _⟩ := wok x h; rw [e]; rfl) fun q S3 ⟨hq, w3⟩ => ?_
      obtain ⟨z, rfl, hz, hzc⟩ := wok q hq
      have g5 := gTupP_ok (ps := [.str (x ++ "a"), .str (cutS x none (some (-1))), .str (cutS x none (some 3) ++ "z"), .str (x ++ "1"), .str z, .bl (decide (x = "at"))]) (S := S3) rfl (by simp)
      simp only [wp_ok, wp_no, ↓wp_bind, ↓R.bind_ok, ↓sSeq, ↓sNil, ↓sSet, ↓sAsg, ↓sIf, ↓sRet, ↓sExpr, ↓sPar, ↓sPar3, ↓sFor, ↓nName, ↓nTup, ↓nCons, ↓nNil, ↓nNs, ↓eVar, ↓eC, ↓eOp, ↓eUn, ↓eArgs, ↓eNew, ↓aCons, ↓aNil, ↓tV, ↓tT, toB, truP, ↓tNotE, ↓tAndE, ↓tOrE, ↓tYesE, ↓eAndV, ↓eOrV, ↓eNotV, ↓eNotT, ↓eIf, gAdd_int, gAdd_tup, Py.gSub, gMul_l, gMul_r, gMod, gFdiv, gNeg, gLt, gLe, gGt, gGe, gInt, gEq_int, gEq_str, gEq_bl, gNe_int, gNe_str, gNe_bl, gIsN, gNotN, getQ, getL, gSetL, ↓nSubL, gDivmod, gMin2, gMax2, ↓mkDef, ↓mkNew, startP, finF, finO, finV_tup, finV_int, finV_bl, finV_lst, finV_non, finV_str, finV_ref, ↓eChain, tyP, gIsi, isiB, ↓iArgs, ↓iSeq, iterP, ↓fComp, wipeP, ↓eSl, ↓oNone, ↓oSome, ↓eMeth0, ↓eMeth1, ixN, atI0, atI1, atI2, atI3, List.length_cons, List.length_nil, List.map_cons, List.map_nil, List.replicate, List.cons_append, List.nil_append, List.append_nil, List.getElem?_cons_zero, List.getElem?_cons_succ, List.getElem?_nil, List.set_cons_zero, List.set_cons_succ, List.set_nil, List.length_set, List.length_append, Nat.add_sub_cancel, Nat.reduceAdd, Nat.reduceSub, Nat.reduceLT, Nat.reduceEqDiff, Nat.reduceLeDiff, Nat.le_refl, Nat.zero_le, if_true, if_false, ↓reduceIte, decide_eq_true_eq, Bool.false_eq_true, Bool.true_eq_false, Bool.not_true, Bool.not_false, Option.isSome_some, forall_const, not_true_eq_false, not_false_eq_true, imp_self, false_implies, true_implies, implies_true, and_true, true_and, Int.toNat_zero, Nat.zero_add, Int.reduceLE, Int.reduceLT, Int.reduceNeg, Int.reduceToNat, Int.reducePow, Int.reduceGT, Int.cast_ofNat_Int, true_or, or_true, Int.ofNat_eq_natCast, decide_true, decide_false, Int.reduceEq, List.isEmpty_cons, List.isEmpty_nil, eDGet1,  keyP, Option.map_some, Option.map_none, Option.getD_some, Option.isSome_some, reduceCtorEq, and_self,  allPure_nil, allPure_cons, Bool.and_true, Bool.true_and, Bool.false_and, Bool.and_false, Bool.not_eq_true, Bool.not_eq_false, gTupP_nil, gLstP_nil, gTupP_ok, gLstP_ok, isRef_tup, isRef_int, isRef_str, isRef_bl, Bool.or_false, Bool.or_true, Bool.true_or, Bool.false_or, a1, s1, s2, a2, a3, ge, g5]
      refine fin6 _ _ _ _ _ _ j S3 j0 c6 (w2.trans w3) fun e he => ?_
      simp only [List.mem_cons, List.not_mem_nil, or_false] at he
      rcases he with e | e | e | e | e | e <;> subst e
      · exact sb _ (by rw [app_size, sa]; omega) fun c h => (app_mem h).elim (hch c) (ca c)
      · exact sb _ (by have := c1 none (some (-1)); omega) fun c h => hch c (cutS_mem h)
      · exact sb _ (by rw [app_size, sz_]; have := c1 none (some 3); omega) fun c h => (app_mem h).elim (fun z => hch c (cutS_mem z)) (cz c)
      · exact sb _ (by rw [app_size, s1_]; omega) fun c h => (app_mem h).elim (hch c) (G01.c1 c)
      · exact sb _ (by omega) hzc
      · exact ⟨.bl, by rw [hg_bl]; omega, fun _ _ => shQ_ok rfl⟩
    · simp only [wp_ok, wp_no, ↓wp_bind, ↓R.bind_ok, ↓sSeq, ↓sNil, ↓sSet, ↓sAsg, ↓sIf, ↓sRet, ↓sExpr, ↓sPar, ↓sPar3, ↓sFor, ↓nName, ↓nTup, ↓nCons, ↓nNil, ↓nNs, ↓eVar, ↓eC, ↓eOp, ↓eUn, ↓eArgs, ↓eNew, ↓aCons, ↓aNil, ↓tV, ↓tT, toB, truP, ↓tNotE, ↓tAndE, ↓tOrE, ↓tYesE, ↓eAndV, ↓eOrV, ↓eNotV, ↓eNotT, ↓eIf, gAdd_int, gAdd_tup, Py.gSub, gMul_l, gMul_r, gMod, gFdiv, gNeg, gLt, gLe, gGt, gGe, gInt, gEq_int, gEq_str, gEq_bl, gNe_int, gNe_str, gNe_bl, gIsN, gNotN, getQ, getL, gSetL, ↓nSubL, gDivmod, gMin2, gMax2, ↓mkDef, ↓mkNew, startP, finF, finO, finV_tup, finV_int, finV_bl, finV_lst, finV_non, finV_str, finV_ref, ↓eChain, tyP, gIsi, isiB, ↓iArgs, ↓iSeq, iterP, ↓fComp, wipeP, ↓eSl, ↓oNone, ↓oSome, ↓eMeth0, ↓eMeth1, ixN, atI0, atI1, atI2, atI3, List.length_cons, List.length_nil, List.map_cons, List.map_nil, List.replicate, List.cons_append, List.nil_append, List.append_nil, List.getElem?_cons_zero, List.getElem?_cons_succ, List.getElem?_nil, List.set_cons_zero, List.set_cons_succ, List.set_nil, List.length_set, List.length_append, Nat.add_sub_cancel, Nat.reduceAdd, Nat.reduceSub, Nat.reduceLT, Nat.reduceEqDiff, Nat.reduceLeDiff, Nat.le_refl, Nat.zero_le, if_true, if_false, ↓reduceIte, decide_eq_true_eq, Bool.false_eq_true, Bool.true_eq_false, Bool.not_true, Bool.not_false, Option.isSome_some, forall_const, not_true_eq_false, not_false_eq_true, imp_self, false_implies, true_implies, implies_true, and_true, true_and, Int.toNat_zero, Nat.zero_add, Int.reduceLE, Int.reduceLT, Int.reduceNeg, Int.reduceToNat, Int.reducePow, Int.reduceGT, Int.cast_ofNat_Int, true_or, or_true, Int.ofNat_eq_natCast, decide_true, decide_false, Int.reduceEq, List.isEmpty_cons, List.isEmpty_nil, eDGet1,  keyP, Option.map_some, Option.map_none, Option.getD_some, Option.isSome_some, reduceCtorEq, and_self,  allPure_nil, allPure_cons, Bool.and_true, Bool.true_and, Bool.false_and, Bool.and_false, Bool.not_eq_true, Bool.not_eq_false, gTupP_nil, gLstP_nil, gTupP_ok, gLstP_ok, isRef_tup, isRef_int, isRef_str, isRef_bl, Bool.or_false, Bool.or_true, Bool.true_or, Bool.false_or, c6, lw, isIn]
      exact odd S2 w2
  | non =>
    have lw := fun S : Sto => lwhole_any (S := S) (Dv.non : Dv 1 .non)
    simp only [wp_ok, wp_no, ↓wp_bind, ↓R.bind_ok, ↓sSeq, ↓sNil, ↓sSet, ↓sAsg, ↓sIf, ↓sRet, ↓sExpr, ↓sPar, ↓sPar3, ↓sFor, ↓nName, ↓nTup, ↓nCons, ↓nNil, ↓nNs, ↓eVar, ↓eC, ↓eOp, ↓eUn, ↓eArgs, ↓eNew, ↓aCons, ↓aNil, ↓tV, ↓tT, toB, truP, ↓tNotE, ↓tAndE, ↓tOrE, ↓tYesE, ↓eAndV, ↓eOrV, ↓eNotV, ↓eNotT, ↓eIf, gAdd_int, gAdd_tup, Py.gSub, gMul_l, gMul_r, gMod, gFdiv, gNeg, gLt, gLe, gGt, gGe, gInt, gEq_int, gEq_str, gEq_bl, gNe_int, gNe_str, gNe_bl, gIsN, gNotN, getQ, getL, gSetL, ↓nSubL, gDivmod, gMin2, gMax2, ↓mkDef, ↓mkNew, startP, finF, finO, finV_tup, finV_int, finV_bl, finV_lst, finV_non, finV_str, finV_ref, ↓eChain, tyP, gIsi, isiB, ↓iArgs, ↓iSeq, iterP, ↓fComp, wipeP, ↓eSl, ↓oNone, ↓oSome, gSl, ↓eMeth0, ↓eMeth1, ixN, atI0, atI1, atI2, atI3, List.length_cons, List.length_nil, List.map_cons, List.map_nil, List.replicate, List.cons_append, List.nil_append, List.append_nil, List.getElem?_cons_zero, List.getElem?_cons_succ, List.getElem?_nil, List.set_cons_zero, List.set_cons_succ, List.set_nil, List.length_set, List.length_append, Nat.add_sub_cancel, Nat.reduceAdd, Nat.reduceSub, Nat.reduceLT, Nat.reduceEqDiff, Nat.reduceLeDiff, Nat.le_refl, Nat.zero_le, if_true, if_false, ↓reduceIte, decide_eq_true_eq, Bool.false_eq_true, Bool.true_eq_false, Bool.not_true, Bool.not_false, Option.isSome_some, forall_const, not_true_eq_false, not_false_eq_true, imp_self, false_implies, true_implies, implies_true, and_true, true_and, Int.toNat_zero, Nat.zero_add, Int.reduceLE, Int.reduceLT, Int.reduceNeg, Int.reduceToNat, Int.reducePow, Int.reduceGT, Int.cast_ofNat_Int, true_or, or_true, Int.ofNat_eq_natCast, decide_true, decide_false, Int.reduceEq, List.isEmpty_cons, List.isEmpty_nil, eDGet1,  keyP, Option.map_some, Option.map_none, Option.getD_some, Option.isSome_some, reduceCtorEq, and_self,  allPure_nil, allPure_cons, Bool.and_true, Bool.true_and, Bool.false_and, Bool.and_false, Bool.not_eq_true, Bool.not_eq_false, gTupP_nil, gLstP_nil, gTupP_ok, gLstP_ok, isRef_tup, isRef_int, isRef_str, isRef_bl, Bool.or_false, Bool.or_true, Bool.true_or, Bool.false_or]
    refine wp_of (draw_ok hw (m := 9) (by omega) (by omega)) fun p_1 S2 ⟨j, ej, j0, j1, w2⟩ => ?_
    subst ej
    by_cases c6 : j < 6
    · simp only [wp_ok, wp_no, ↓wp_bind, ↓R.bind_ok, ↓sSeq, ↓sNil, ↓sSet, ↓sAsg, ↓sIf, ↓sRet, ↓sExpr, ↓sPar, ↓sPar3, ↓sFor, ↓nName, ↓nTup, ↓nCons, ↓nNil, ↓nNs, ↓eVar, ↓eC, ↓eOp, ↓eUn, ↓eArgs, ↓eNew, ↓aCons, ↓aNil, ↓tV, ↓tT, toB, truP, ↓tNotE, ↓tAndE, ↓tOrE, ↓tYesE, ↓eAndV, ↓eOrV, ↓eNotV, ↓eNotT, ↓eIf, gAdd_int, gAdd_tup, Py.gSub, gMul_l, gMul_r, gMod, gFdiv, gNeg, gLt, gLe, gGt, gGe, gInt, gEq_int, gEq_str, gEq_bl, gNe_int, gNe_str, gNe_bl, gIsN, gNotN, getQ, getL, gSetL, ↓nSubL, gDivmod, gMin2, gMax2, ↓mkDef, ↓mkNew, startP, finF, finO, finV_tup, finV_int, finV_bl, finV_lst, finV_non, finV_str, finV_ref, ↓eChain, tyP, gIsi, isiB, ↓iArgs, ↓iSeq, iterP, ↓fComp, wipeP, ↓eSl, ↓oNone, ↓oSome, gSl, ↓eMeth0, ↓eMeth1, ixN, atI0, atI1, atI2, atI3, List.length_cons, List.length_nil, List.map_cons, List.map_nil, List.replicate, List.cons_append, List.nil_append, List.append_nil, List.getElem?_cons_zero, List.getElem?_cons_succ, List.getElem?_nil, List.set_cons_zero, List.set_cons_succ, List.set_nil, List.length_set, List.length_append, Nat.add_sub_cancel, Nat.reduceAdd, Nat.reduceSub, Nat.reduceLT, Nat.reduceEqDiff, Nat.reduceLeDiff, Nat.le_refl, Nat.zero_le, if_true, if_false, ↓reduceIte, decide_eq_true_eq, Bool.false_eq_true, Bool.true_eq_false, Bool.not_true, Bool.not_false, Option.isSome_some, forall_const, not_true_eq_false, not_false_eq_true, imp_self, false_implies, true_implies, implies_true, and_true, true_and, Int.toNat_zero, Nat.zero_add, Int.reduceLE, Int.reduceLT, Int.reduceNeg, Int.reduceToNat, Int.reducePow, Int.reduceGT, Int.cast_ofNat_Int, true_or, or_true, Int.ofNat_eq_natCast, decide_true, decide_false, Int.reduceEq, List.isEmpty_cons, List.isEmpty_nil, eDGet1,  keyP, Option.map_some, Option.map_none, Option.getD_some, Option.isSome_some, reduceCtorEq, and_self,  allPure_nil, allPure_cons, Bool.and_true, Bool.true_and, Bool.false_and, Bool.and_false, Bool.not_eq_true, Bool.not_eq_false, gTupP_nil, gLstP_nil, gTupP_ok, gLstP_ok, isRef_tup, isRef_int, isRef_str, isRef_bl, Bool.or_false, Bool.or_true, Bool.true_or, Bool.false_or, c6, lw, isIn]
      exact odd S2 w2
    · simp only [wp_ok, wp_no, ↓wp_bind, ↓R.bind_ok, ↓sSeq, ↓sNil, ↓sSet, ↓sAsg, ↓sIf, ↓sRet, ↓sExpr, ↓sPar, ↓sPar3, ↓sFor, ↓nName, ↓nTup, ↓nCons, ↓nNil, ↓nNs, ↓eVar, ↓eC, ↓eOp, ↓eUn, ↓eArgs, ↓eNew, ↓aCons, ↓aNil, ↓tV, ↓tT, toB, truP, ↓tNotE, ↓tAndE, ↓tOrE, ↓tYesE, ↓eAndV, ↓eOrV, ↓eNotV, ↓eNotT, ↓eIf, gAdd_int, gAdd_tup, Py.gSub, gMul_l, gMul_r, gMod, gFdiv, gNeg, gLt, gLe, gGt, gGe, gInt, gEq_int, gEq_str, gEq_bl, gNe_int, gNe_str, gNe_bl, gIsN, gNotN, getQ, getL, gSetL, ↓nSubL, gDivmod, gMin2, gMax2, ↓mkDef, ↓mkNew, startP, finF, finO, finV_tup, finV_int, finV_bl, finV_lst, finV_non, finV_str, finV_ref, ↓eChain, tyP, gIsi, isiB, ↓iArgs, ↓iSeq, iterP, ↓fComp, wipeP, ↓eSl, ↓oNone, ↓oSome, gSl, ↓eMeth0, ↓eMeth1, ixN, atI0, atI1, atI2, atI3, List.length_cons, List.length_nil, List.map_cons, List.map_nil, List.replicate, List.cons_append, List.nil_append, List.append_nil, List.getElem?_cons_zero, List.getElem?_cons_succ, List.getElem?_nil, List.set_cons_zero, List.set_cons_succ, List.set_nil, List.length_set, List.length_append, Nat.add_sub_cancel, Nat.reduceAdd, Nat.reduceSub, Nat.reduceLT, Nat.reduceEqDiff, Nat.reduceLeDiff, Nat.le_refl, Nat.zero_le, if_true, if_false, ↓reduceIte, decide_eq_true_eq, Bool.false_eq_true, Bool.true_eq_false, Bool.not_true, Bool.not_false, Option.isSome_some, forall_const, not_true_eq_false, not_false_eq_true, imp_self, false_implies, true_implies, implies_true, and_true, true_and, Int.toNat_zero, Nat.zero_add, Int.reduceLE, Int.reduceLT, Int.reduceNeg, Int.reduceToNat, Int.reducePow, Int.reduceGT, Int.cast_ofNat_Int, true_or, or_true, Int.ofNat_eq_natCast, decide_true, decide_false, Int.reduceEq, List.isEmpty_cons, List.isEmpty_nil, eDGet1,  keyP, Option.map_some, Option.map_none, Option.getD_some, Option.isSome_some, reduceCtorEq, and_self,  allPure_nil, allPure_cons, Bool.and_true, Bool.true_and, Bool.false_and, Bool.and_false, Bool.not_eq_true, Bool.not_eq_false, gTupP_nil, gLstP_nil, gTupP_ok, gLstP_ok, isRef_tup, isRef_int, isRef_str, isRef_bl, Bool.or_false, Bool.or_true, Bool.true_or, Bool.false_or, c6, lw, isIn]
      exact odd S2 w2
  | @bl k b =>
    have lw := fun S : Sto => lwhole_any (S := S) (Dv.bl : Dv 1 (.bl b))
    simp only [wp_ok, wp_no, ↓wp_bind, ↓R.bind_ok, ↓sSeq, ↓sNil, ↓sSet, ↓sAsg, ↓sIf, ↓sRet, ↓sExpr, ↓sPar, ↓sPar3, ↓sFor, ↓nName, ↓nTup, ↓nCons, ↓nNil, ↓nNs, ↓eVar, ↓eC, ↓eOp, ↓eUn, ↓eArgs, ↓eNew, ↓aCons, ↓aNil, ↓tV, ↓tT, toB, truP, ↓tNotE, ↓tAndE, ↓tOrE, ↓tYesE, ↓eAndV, ↓eOrV, ↓eNotV, ↓eNotT, ↓eIf, gAdd_int, gAdd_tup, Py.gSub, gMul_l, gMul_r, gMod, gFdiv, gNeg, gLt, gLe, gGt, gGe, gInt, gEq_int, gEq_str, gEq_bl, gNe_int, gNe_str, gNe_bl, gIsN, gNotN, getQ, getL, gSetL, ↓nSubL, gDivmod, gMin2, gMax2, ↓mkDef, ↓mkNew, startP, finF, finO, finV_tup, finV_int, finV_bl, finV_lst, finV_non, finV_str, finV_ref, ↓eChain, tyP, gIsi, isiB, ↓iArgs, ↓iSeq, iterP, ↓fComp, wipeP, ↓eSl, ↓oNone, ↓oSome, gSl, ↓eMeth0, ↓eMeth1, ixN, atI0, atI1, atI2, atI3, List.length_cons, List.length_nil, List.map_cons, List.map_nil, List.replicate, List.cons_append, List.nil_append, List.append_nil, List.getElem?_cons_zero, List.getElem?_cons_succ, List.getElem?_nil, List.set_cons_zero, List.set_cons_succ, List.set_nil, List.length_set, List.length_append, Nat.add_sub_cancel, Nat.reduceAdd, Nat.reduceSub, Nat.reduceLT, Nat.reduceEqDiff, Nat.reduceLeDiff, Nat.le_refl, Nat.zero_le, if_true, if_false, ↓reduceIte, decide_eq_true_eq, Bool.false_eq_true, Bool.true_eq_false, Bool.not_true, Bool.not_false, Option.isSome_some, forall_const, not_true_eq_false, not_false_eq_true, imp_self, false_implies, true_implies, implies_true, and_true, true_and, Int.toNat_zero, Nat.zero_add, Int.reduceLE, Int.reduceLT, Int.reduceNeg, Int.reduceToNat, Int.reducePow, Int.reduceGT, Int.cast_ofNat_Int, true_or, or_true, Int.ofNat_eq_natCast, decide_true, decide_false, Int.reduceEq, List.isEmpty_cons, List.isEmpty_nil, eDGet1,  keyP, Option.map_some, Option.map_none, Option.getD_some, Option.isSome_some, reduceCtorEq, and_self,  allPure_nil, allPure_cons, Bool.and_true, Bool.true_and, Bool.false_and, Bool.and_false, Bool.not_eq_true, Bool.not_eq_false, gTupP_nil, gLstP_nil, gTupP_ok, gLstP_ok, isRef_tup, isRef_int, isRef_str, isRef_bl, Bool.or_false, Bool.or_true, Bool.true_or, Bool.false_or]
    refine wp_of (draw_ok hw (m := 9) (by omega) (by omega)) fun p_1 S2 ⟨j, ej, j0, j1, w2⟩ => ?_
    subst ej
    by_cases c6 : j < 6
    · simp only [wp_ok, wp_no, ↓wp_bind, ↓R.bind_ok, ↓sSeq, ↓sNil, ↓sSet, ↓sAsg, ↓sIf, ↓sRet, ↓sExpr, ↓sPar, ↓sPar3, ↓sFor, ↓nName, ↓nTup, ↓nCons, ↓nNil, ↓nNs, ↓eVar, ↓eC, ↓eOp, ↓eUn, ↓eArgs, ↓eNew, ↓aCons, ↓aNil, ↓tV, ↓tT, toB, truP, ↓tNotE, ↓tAndE, ↓tOrE, ↓tYesE, ↓eAndV, ↓eOrV, ↓eNotV, ↓eNotT, ↓eIf, gAdd_int, gAdd_tup, Py.gSub, gMul_l, gMul_r, gMod, gFdiv, gNeg, gLt, gLe, gGt, gGe, gInt, gEq_int, gEq_str, gEq_bl, gNe_int, gNe_str, gNe_bl, gIsN, gNotN, getQ, getL, gSetL, ↓nSubL, gDivmod, gMin2, gMax2, ↓mkDef, ↓mkNew, startP, finF, finO, finV_tup, finV_int, finV_bl, finV_lst, finV_non, finV_str, finV_ref, ↓eChain, tyP, gIsi, isiB, ↓iArgs, ↓iSeq, iterP, ↓fComp, wipeP, ↓eSl, ↓oNone, ↓oSome, gSl, ↓eMeth0, ↓eMeth1, ixN, atI0, atI1, atI2, atI3, List.length_cons, List.length_nil, List.map_cons, List.map_nil, List.replicate, List.cons_append, List.nil_append, List.append_nil, List.getElem?_cons_zero, List.getElem?_cons_succ, List.getElem?_nil, List.set_cons_zero, List.set_cons_succ, List.set_nil, List.length_set, List.length_append, Nat.add_sub_cancel, Nat.reduceAdd, Nat.reduceSub, Nat.reduceLT, Nat.reduceEqDiff, Nat.reduceLeDiff, Nat.le_refl, Nat.zero_le, if_true, if_false, ↓reduceIte, decide_eq_true_eq, Bool.false_eq_true, Bool.true_eq_false, Bool.not_true, Bool.not_false, Option.isSome_some, forall_const, not_true_eq_false, not_false_eq_true, imp_self, false_implies, true_implies, implies_true, and_true, true_and, Int.toNat_zero, Nat.zero_add, Int.reduceLE, Int.reduceLT, Int.reduceNeg, Int.reduceToNat, Int.reducePow, Int.reduceGT, Int.cast_ofNat_Int, true_or, or_true, Int.ofNat_eq_natCast, decide_true, decide_false, Int.reduceEq, List.isEmpty_cons, List.isEmpty_nil, eDGet1,  keyP, Option.map_some, Option.map_none, Option.getD_some, Option.isSome_some, reduceCtorEq, and_self,  allPure_nil, allPure_cons, Bool.and_true, Bool.true_and, Bool.false_and, Bool.and_false, Bool.not_eq_true, Bool.not_eq_false, gTupP_nil, gLstP_nil, gTupP_ok, gLstP_ok, isRef_tup, isRef_int, isRef_str, isRef_bl, Bool.or_false, Bool.or_true, Bool.true_or, Bool.false_or, c6, lw, isIn]
      exact odd S2 w2
    · simp only [wp_ok, wp_no, ↓wp_bind, ↓R.bind_ok, ↓sSeq, ↓sNil, ↓sSet, ↓sAsg, ↓sIf, ↓sRet, ↓sExpr, ↓sPar, ↓sPar3, ↓sFor, ↓nName, ↓nTup, ↓nCons, ↓nNil, ↓nNs, ↓eVar, ↓eC, ↓eOp, ↓eUn, ↓eArgs, ↓eNew, ↓aCons, ↓aNil, ↓tV, ↓tT, toB, truP, ↓tNotE, ↓tAndE, ↓tOrE, ↓tYesE, ↓eAndV, ↓eOrV, ↓eNotV, ↓eNotT, ↓eIf, gAdd_int, gAdd_tup, Py.gSub, gMul_l, gMul_r, gMod, gFdiv, gNeg, gLt, gLe, gGt, gGe, gInt, gEq_int, gEq_str, gEq_bl, gNe_int, gNe_str, gNe_bl, gIsN, gNotN, getQ, getL, gSetL, ↓nSubL, gDivmod, gMin2, gMax2, ↓mkDef, ↓mkNew, startP, finF, finO, finV_tup, finV_int, finV_bl, finV_lst, finV_non, finV_str, finV_ref, ↓eChain, tyP, gIsi, isiB, ↓iArgs, ↓iSeq, iterP, ↓fComp, wipeP, ↓eSl, ↓oNone, ↓oSome, gSl, ↓eMeth0, ↓eMeth1, ixN, atI0, atI1, atI2, atI3, List.length_cons, List.length_nil, List.map_cons, List.map_nil, List.replicate, List.cons_append, List.nil_append, List.append_nil, List.getElem?_cons_zero, List.getElem?_cons_succ, List.getElem?_nil, List.set_cons_zero, List.set_cons_succ, List.set_nil, List.length_set, List.length_append, Nat.add_sub_cancel, Nat.reduceAdd, Nat.reduceSub, Nat.reduceLT, Nat.reduceEqDiff, Nat.reduceLeDiff, Nat.le_refl, Nat.zero_le, if_true, if_false, ↓reduceIte, decide_eq_true_eq, Bool.false_eq_true, Bool.true_eq_false, Bool.not_true, Bool.not_false, Option.isSome_some, forall_const, not_true_eq_false, not_false_eq_true, imp_self, false_implies, true_implies, implies_true, and_true, true_and, Int.toNat_zero, Nat.zero_add, Int.reduceLE, Int.reduceLT, Int.reduceNeg, Int.reduceToNat, Int.reducePow, Int.reduceGT, Int.cast_ofNat_Int, true_or, or_true, Int.ofNat_eq_natCast, decide_true, decide_false, Int.reduceEq, List.isEmpty_cons, List.isEmpty_nil, eDGet1,  keyP, Option.map_some, Option.map_none, Option.getD_some, Option.isSome_some, reduceCtorEq, and_self,  allPure_nil, allPure_cons, Bool.and_true, Bool.true_and, Bool.false_and, Bool.and_false, Bool.not_eq_true, Bool.not_eq_false, gTupP_nil, gLstP_nil, gTupP_ok, gLstP_ok, isRef_tup, isRef_int, isRef_str, isRef_bl, Bool.or_false, Bool.or_true, Bool.true_or, Bool.false_or, c6, lw, isIn]
      exact odd S2 w2
  | @lst k xs hx hl =>
    have lw := fun S : Sto => lwhole_any (S := S) (Dv.lst : Dv 1 (.lst xs))
    simp only [wp_ok, wp_no, ↓wp_bind, ↓R.bind_ok, ↓sSeq, ↓sNil, ↓sSet, ↓sAsg, ↓sIf, ↓sRet, ↓sExpr, ↓sPar, ↓sPar3, ↓sFor, ↓nName, ↓nTup, ↓nCons, ↓nNil, ↓nNs, ↓eVar, ↓eC, ↓eOp, ↓eUn, ↓eArgs, ↓eNew, ↓aCons, ↓aNil, ↓tV, ↓tT, toB, truP, ↓tNotE, ↓tAndE, ↓tOrE, ↓tYesE, ↓eAndV, ↓eOrV, ↓eNotV, ↓eNotT, ↓eIf, gAdd_int, gAdd_tup, Py.gSub, gMul_l, gMul_r, gMod, gFdiv, gNeg, gLt, gLe, gGt, gGe, gInt, gEq_int, gEq_str, gEq_bl, gNe_int, gNe_str, gNe_bl, gIsN, gNotN, getQ, getL, gSetL, ↓nSubL, gDivmod, gMin2, gMax2, ↓mkDef, ↓mkNew, startP, finF, finO, finV_tup, finV_int, finV_bl, finV_lst, finV_non, finV_str, finV_ref, ↓eChain, tyP, gIsi, isiB, ↓iArgs, ↓iSeq, iterP, ↓fComp, wipeP, ↓eSl, ↓oNone, ↓oSome, gSl, ↓eMeth0, ↓eMeth1, ixN, atI0, atI1, atI2, atI3, List.length_cons, List.length_nil, List.map_cons, List.map_nil, List.replicate, List.cons_append, List.nil_append, List.append_nil, List.getElem?_cons_zero, List.getElem?_cons_succ, List.getElem?_nil, List.set_cons_zero, List.set_cons_succ, List.set_nil, List.length_set, List.length_append, Nat.add_sub_cancel, Nat.reduceAdd, Nat.reduceSub, Nat.reduceLT, Nat.reduceEqDiff, Nat.reduceLeDiff, Nat.le_refl, Nat.zero_le, if_true, if_false, ↓reduceIte, decide_eq_true_eq, Bool.false_eq_true, Bool.true_eq_false, Bool.not_true, Bool.not_false, Option.isSome_some, forall_const, not_true_eq_false, not_false_eq_true, imp_self, false_implies, true_implies, implies_true, and_true, true_and, Int.toNat_zero, Nat.zero_add, Int.reduceLE, Int.reduceLT, Int.reduceNeg, Int.reduceToNat, Int.reducePow, Int.reduceGT, Int.cast_ofNat_Int, true_or, or_true, Int.ofNat_eq_natCast, decide_true, decide_false, Int.reduceEq, List.isEmpty_cons, List.isEmpty_nil, eDGet1,  keyP, Option.map_some, Option.map_none, Option.getD_some, Option.isSome_some, reduceCtorEq, and_self,  allPure_nil, allPure_cons, Bool.and_true, Bool.true_and, Bool.false_and, Bool.and_false, Bool.not_eq_true, Bool.not_eq_false, gTupP_nil, gLstP_nil, gTupP_ok, gLstP_ok, isRef_tup, isRef_int, isRef_str, isRef_bl, Bool.or_false, Bool.or_true, Bool.true_or, Bool.false_or]
    refine wp_of (draw_ok hw (m := 9) (by omega) (by omega)) fun p_1 S2 ⟨j, ej, j0, j1, w2⟩ => ?_
    subst ej
    by_cases c6 : j < 6
    · simp only [wp_ok, wp_no, ↓wp_bind, ↓R.bind_ok, ↓sSeq, ↓sNil, ↓sSet, ↓sAsg, ↓sIf, ↓sRet, ↓sExpr, ↓sPar, ↓sPar3, ↓sFor, ↓nName, ↓nTup, ↓nCons, ↓nNil, ↓nNs, ↓eVar, ↓eC, ↓eOp, ↓eUn, ↓eArgs, ↓eNew, ↓aCons, ↓aNil, ↓tV, ↓tT, toB, truP, ↓tNotE, ↓tAndE, ↓tOrE, ↓tYesE, ↓eAndV, ↓eOrV, ↓eNotV, ↓eNotT, ↓eIf, gAdd_int, gAdd_tup, Py.gSub, gMul_l, gMul_r, gMod, gFdiv, gNeg, gLt, gLe, gGt, gGe, gInt, gEq_int, gEq_str, gEq_bl, gNe_int, gNe_str, gNe_bl, gIsN, gNotN, getQ, getL, gSetL, ↓nSubL, gDivmod, gMin2, gMax2, ↓mkDef, ↓mkNew, startP, finF, finO, finV_tup, finV_int, finV_bl, finV_lst, finV_non, finV_str, finV_ref, ↓eChain, tyP, gIsi, isiB, ↓iArgs, ↓iSeq, iterP, ↓fComp, wipeP, ↓eSl, ↓oNone, ↓oSome, gSl, ↓eMeth0, ↓eMeth1, ixN, atI0, atI1, atI2, atI3, List.length_cons, List.length_nil, List.map_cons, List.map_nil, List.replicate, List.cons_append, List.nil_append, List.append_nil, List.getElem?_cons_zero, List.getElem?_cons_succ, List.getElem?_nil, List.set_cons_zero, List.set_cons_succ, List.set_nil, List.length_set, List.length_append, Nat.add_sub_cancel, Nat.reduceAdd, Nat.reduceSub, Nat.reduceLT, Nat.reduceEqDiff, Nat.reduceLeDiff, Nat.le_refl, Nat.zero_le, if_true, if_false, ↓reduceIte, decide_eq_true_eq, Bool.false_eq_true, Bool.true_eq_false, Bool.not_true, Bool.not_false, Option.isSome_some, forall_const, not_true_eq_false, not_false_eq_true, imp_self, false_implies, true_implies, implies_true, and_true, true_and, Int.toNat_zero, Nat.zero_add, Int.reduceLE, Int.reduceLT, Int.reduceNeg, Int.reduceToNat, Int.reducePow, Int.reduceGT, Int.cast_ofNat_Int, true_or, or_true, Int.ofNat_eq_natCast, decide_true, decide_false, Int.reduceEq, List.isEmpty_cons, List.isEmpty_nil, eDGet1,  keyP, Option.map_some, Option.map_none, Option.getD_some, Option.isSome_some, reduceCtorEq, and_self,  allPure_nil, allPure_cons, Bool.and_true, Bool.true_and, Bool.false_and, Bool.and_false, Bool.not_eq_true, Bool.not_eq_false, gTupP_nil, gLstP_nil, gTupP_ok, gLstP_ok, isRef_tup, isRef_int, isRef_str, isRef_bl, Bool.or_false, Bool.or_true, Bool.true_or, Bool.false_or, c6, lw, isIn]
      exact odd S2 w2
    · simp only [wp_ok, wp_no, ↓wp_bind, ↓R.bind_ok, ↓sSeq, ↓sNil, ↓sSet, ↓sAsg, ↓sIf, ↓sRet, ↓sExpr, ↓sPar, ↓sPar3, ↓sFor, ↓nName, ↓nTup, ↓nCons, ↓nNil, ↓nNs, ↓eVar, ↓eC, ↓eOp, ↓eUn, ↓eArgs, ↓eNew, ↓aCons, ↓aNil, ↓tV, ↓tT, toB, truP, ↓tNotE, ↓tAndE, ↓tOrE, ↓tYesE, ↓eAndV, ↓eOrV, ↓eNotV, ↓eNotT, ↓eIf, gAdd_int, gAdd_tup, Py.gSub, gMul_l, gMul_r, gMod, gFdiv, gNeg, gLt, gLe, gGt, gGe, gInt, gEq_int, gEq_str, gEq_bl, gNe_int, gNe_str, gNe_bl, gIsN, gNotN, getQ, getL, gSetL, ↓nSubL, gDivmod, gMin2, gMax2, ↓mkDef, ↓mkNew, startP, finF, finO, finV_tup, finV_int, finV_bl, finV_lst, finV_non, finV_str, finV_ref, ↓eChain, tyP, gIsi, isiB, ↓iArgs, ↓iSeq, iterP, ↓fComp, wipeP, ↓eSl, ↓oNone, ↓oSome, gSl, ↓eMeth0, ↓eMeth1, ixN, atI0, atI1, atI2, atI3, List.length_cons, List.length_nil, List.map_cons, List.map_nil, List.replicate, List.cons_append, List.nil_append, List.append_nil, List.getElem?_cons_zero, List.getElem?_cons_succ, List.getElem?_nil, List.set_cons_zero, List.set_cons_succ, List.set_nil, List.length_set, List.length_append, Nat.add_sub_cancel, Nat.reduceAdd, Nat.reduceSub, Nat.reduceLT, Nat.reduceEqDiff, Nat.reduceLeDiff, Nat.le_refl, Nat.zero_le, if_true, if_false, ↓reduceIte, decide_eq_true_eq, Bool.false_eq_true, Bool.true_eq_false, Bool.not_true, Bool.not_false, Option.isSome_some, forall_const, not_true_eq_false, not_false_eq_true, imp_self, false_implies, true_implies, implies_true, and_true, true_and, Int.toNat_zero, Nat.zero_add, Int.reduceLE, Int.reduceLT, Int.reduceNeg, Int.reduceToNat, Int.reducePow, Int.reduceGT, Int.cast_ofNat_Int, true_or, or_true, Int.ofNat_eq_natCast, decide_true, decide_false, Int.reduceEq, List.isEmpty_cons, List.isEmpty_nil, eDGet1,  keyP, Option.map_some, Option.map_none, Option.getD_some, Option.isSome_some, reduceCtorEq, and_self,  allPure_nil, allPure_cons, Bool.and_true, Bool.true_and, Bool.false_and, Bool.and_false, Bool.not_eq_true, Bool.not_eq_false, gTupP_nil, gLstP_nil, gTupP_ok, gLstP_ok, isRef_tup, isRef_int, isRef_str, isRef_bl, Bool.or_false, Bool.or_true, Bool.true_or, Bool.false_or, c6, lw, isIn]
      exact odd S2 w2
  | @dic k =>
    have lw := fun S : Sto => lwhole_any (S := S) (Dv.dic : Dv 1 (.dic [] []))
    simp only [wp_ok, wp_no, ↓wp_bind, ↓R.bind_ok, ↓sSeq, ↓sNil, ↓sSet, ↓sAsg, ↓sIf, ↓sRet, ↓sExpr, ↓sPar, ↓sPar3, ↓sFor, ↓nName, ↓nTup, ↓nCons, ↓nNil, ↓nNs, ↓eVar, ↓eC, ↓eOp, ↓eUn, ↓eArgs, ↓eNew, ↓aCons, ↓aNil, ↓tV, ↓tT, toB, truP, ↓tNotE, ↓tAndE, ↓tOrE, ↓tYesE, ↓eAndV, ↓eOrV, ↓eNotV, ↓eNotT, ↓eIf, gAdd_int, gAdd_tup, Py.gSub, gMul_l, gMul_r, gMod, gFdiv, gNeg, gLt, gLe, gGt, gGe, gInt, gEq_int, gEq_str, gEq_bl, gNe_int, gNe_str, gNe_bl, gIsN, gNotN, getQ, getL, gSetL, ↓nSubL, gDivmod, gMin2, gMax2, ↓mkDef, ↓mkNew, startP, finF, finO, finV_tup, finV_int, finV_bl, finV_lst, finV_non, finV_str, finV_ref, ↓eChain, tyP, gIsi, isiB, ↓iArgs, ↓iSeq, iterP, ↓fComp, wipeP, ↓eSl, ↓oNone, ↓oSome, gSl, ↓eMeth0, ↓eMeth1, ixN, atI0, atI1, atI2, atI3, List.length_cons, List.length_nil, List.map_cons, List.map_nil, List.replicate, List.cons_append, List.nil_append, List.append_nil, List.getElem?_cons_zero, List.getElem?_cons_succ, List.getElem?_nil, List.set_cons_zero, List.set_cons_succ, List.set_nil, List.length_set, List.length_append, Nat.add_sub_cancel, Nat.reduceAdd, Nat.reduceSub, Nat.reduceLT, Nat.reduceEqDiff, Nat.reduceLeDiff, Nat.le_refl, Nat.zero_le, if_true, if_false, ↓reduceIte, decide_eq_true_eq, Bool.false_eq_true, Bool.true_eq_false, Bool.not_true, Bool.not_false, Option.isSome_some, forall_const, not_true_eq_false, not_false_eq_true, imp_self, false_implies, true_implies, implies_true, and_true, true_and, Int.toNat_zero, Nat.zero_add, Int.reduceLE, Int.reduceLT, Int.reduceNeg, Int.reduceToNat, Int.reducePow, Int.reduceGT, Int.cast_ofNat_Int, true_or, or_true, Int.ofNat_eq_natCast, decide_true, decide_false, Int.reduceEq, List.isEmpty_cons, List.isEmpty_nil, eDGet1,  keyP, Option.map_some, Option.map_none, Option.getD_some, Option.isSome_some, reduceCtorEq, and_self,  allPure_nil, allPure_cons, Bool.and_true, Bool.true_and, Bool.false_and, Bool.and_false, Bool.not_eq_true, Bool.not_eq_false, gTupP_nil, gLstP_nil, gTupP_ok, gLstP_ok, isRef_tup, isRef_int, isRef_str, isRef_bl, Bool.or_false, Bool.or_true, Bool.true_or, Bool.false_or]
    refine wp_of (draw_ok hw (m := 9) (by omega) (by omega)) fun p_1 S2 ⟨j, ej, j0, j1, w2⟩ => ?_
    subst ej
    by_cases c6 : j < 6
    · simp only [wp_ok, wp_no, ↓wp_bind, ↓R.bind_ok, ↓sSeq, ↓sNil, ↓sSet, ↓sAsg, ↓sIf, ↓sRet, ↓sExpr, ↓sPar, ↓sPar3, ↓sFor, ↓nName, ↓nTup, ↓nCons, ↓nNil, ↓nNs, ↓eVar, ↓eC, ↓eOp, ↓eUn, ↓eArgs, ↓eNew, ↓aCons, ↓aNil, ↓tV, ↓tT, toB, truP, ↓tNotE, ↓tAndE, ↓tOrE, ↓tYesE, ↓eAndV, ↓eOrV, ↓eNotV, ↓eNotT, ↓eIf, gAdd_int, gAdd_tup, Py.gSub, gMul_l, gMul_r, gMod, gFdiv, gNeg, gLt, gLe, gGt, gGe, gInt, gEq_int, gEq_str, gEq_bl, gNe_int, gNe_str, gNe_bl, gIsN, gNotN, getQ, getL, gSetL, ↓nSubL, gDivmod, gMin2, gMax2, ↓mkDef, ↓mkNew, startP, finF, finO, finV_tup, finV_int, finV_bl, finV_lst, finV_non, finV_str, finV_ref, ↓eChain, tyP, gIsi, isiB, ↓iArgs, ↓iSeq, iterP, ↓fComp, wipeP, ↓eSl, ↓oNone, ↓oSome, gSl, ↓eMeth0, ↓eMeth1, ixN, atI0, atI1, atI2, atI3, List.length_cons, List.length_nil, List.map_cons, List.map_nil, List.replicate, List.cons_append, List.nil_append, List.append_nil, List.getElem?_cons_zero, List.getElem?_cons_succ, List.getElem?_nil, List.set_cons_zero, List.set_cons_succ, List.set_nil, List.length_set, List.length_append, Nat.add_sub_cancel, Nat.reduceAdd, Nat.reduceSub, Nat.reduceLT, Nat.reduceEqDiff, Nat.reduceLeDiff, Nat.le_refl, Nat.zero_le, if_true, if_false, ↓reduceIte, decide_eq_true_eq, Bool.false_eq_true, Bool.true_eq_false, Bool.not_true, Bool.not_false, Option.isSome_some, forall_const, not_true_eq_false, not_false_eq_true, imp_self, false_implies, true_implies, implies_true, and_true, true_and, Int.toNat_zero, Nat.zero_add, Int.reduceLE, Int.reduceLT, Int.reduceNeg, Int.reduceToNat, Int.reducePow, Int.reduceGT, Int.cast_ofNat_Int, true_or, or_true, Int.ofNat_eq_natCast, decide_true, decide_false, Int.reduceEq, List.isEmpty_cons, List.isEmpty_nil, eDGet1,  keyP, Option.map_some, Option.map_none, Option.getD_some, Option.isSome_some, reduceCtorEq, and_self,  allPure_nil, allPure_cons, Bool.and_true, Bool.true_and, Bool.false_and, Bool.and_false, Bool.not_eq_true, Bool.not_eq_false, gTupP_nil, gLstP_nil, gTupP_ok, gLstP_ok, isRef_tup, isRef_int, isRef_str, isRef_bl, Bool.or_false, Bool.or_true, Bool.true_or, Bool.false_or, c6, lw, isIn]
      exact odd S2 w2
    · simp only [wp_ok, wp_no, ↓wp_bind, ↓R.bind_ok, ↓sSeq, ↓sNil, ↓sSet, ↓sAsg, ↓sIf, ↓sRet, ↓sExpr, ↓sPar, ↓sPar3, ↓sFor, ↓nName, ↓nTup, ↓nCons, ↓nNil, ↓nNs, ↓eVar, ↓eC, ↓eOp, ↓eUn, ↓eArgs, ↓eNew, ↓aCons, ↓aNil, ↓tV, ↓tT, toB, truP, ↓tNotE, ↓tAndE, ↓tOrE, ↓tYesE, ↓eAndV, ↓eOrV, ↓eNotV, ↓eNotT, ↓eIf, gAdd_int, gAdd_tup, Py.gSub, gMul_l, gMul_r, gMod, gFdiv, gNeg, gLt, gLe, gGt, gGe, gInt, gEq_int, gEq_str, gEq_bl, gNe_int, gNe_str, gNe_bl, gIsN, gNotN, getQ, getL, gSetL, ↓nSubL, gDivmod, gMin2, gMax2, ↓mkDef, ↓mkNew, startP, finF, finO, finV_tup, finV_int, finV_bl, finV_lst, finV_non, finV_str, finV_ref, ↓eChain, tyP, gIsi, isiB, ↓iArgs, ↓iSeq, iterP, ↓fComp, wipeP, ↓eSl, ↓oNone, ↓oSome, gSl, ↓eMeth0, ↓eMeth1, ixN, atI0, atI1, atI2, atI3, List.length_cons, List.length_nil, List.map_cons, List.map_nil, List.replicate, List.cons_append, List.nil_append, List.append_nil, List.getElem?_cons_zero, List.getElem?_cons_succ, List.getElem?_nil, List.set_cons_zero, List.set_cons_succ, List.set_nil, List.length_set, List.length_append, Nat.add_sub_cancel, Nat.reduceAdd, Nat.reduceSub, Nat.reduceLT, Nat.reduceEqDiff, Nat.reduceLeDiff, Nat.le_refl, Nat.zero_le, if_true, if_false, ↓reduceIte, decide_eq_true_eq, Bool.false_eq_true, Bool.true_eq_false, Bool.not_true, Bool.not_false, Option.isSome_some, forall_const, not_true_eq_false, not_false_eq_true, imp_self, false_implies, true_implies, implies_true, and_true, true_and, Int.toNat_zero, Nat.zero_add, Int.reduceLE, Int.reduceLT, Int.reduceNeg, Int.reduceToNat, Int.reducePow, Int.reduceGT, Int.cast_ofNat_Int, true_or, or_true, Int.ofNat_eq_natCast, decide_true, decide_false, Int.reduceEq, List.isEmpty_cons, List.isEmpty_nil, eDGet1,  keyP, Option.map_some, Option.map_none, Option.getD_some, Option.isSome_some, reduceCtorEq, and_self,  allPure_nil, allPure_cons, Bool.and_true, Bool.true_and, Bool.false_and, Bool.and_false, Bool.not_eq_true, Bool.not_eq_false, gTupP_nil, gLstP_nil, gTupP_ok, gLstP_ok, isRef_tup, isRef_int, isRef_str, isRef_bl, Bool.or_false, Bool.or_true, Bool.true_or, Bool.false_or, c6, lw, isIn]
      exact odd S2 w2
end
section
variable {D : List (Str × List Int)}
local instance : CT := ⟨fun _ => ⟨.Pass ⟨0, 0, 0, 0⟩, "", []⟩, [], fun _ => none⟩
end
section
variable {D : List (Str × List Int)}
theorem lv_leaf {t : T} (hD : DOk D) (hv : V D t) {d : Int} {q : Lv} (hq : q ∈ lv t d) : LfOk q.2.2.1 q.2.2.2 := by
  obtain ⟨A, B, e⟩ := List.append_of_mem hq
  obtain ⟨g1, _⟩ := lv_split t d A q B e
  have := sub_V hv g1
  cases this with
  | lf hl => exact hl
def IsFm (D : List (Str × List Int)) (p : PV) : Prop := ∃ f, p = fmP f ∧ FmOk D f
theorem int_inj : ∀ {a b : List Int}, a.map PV.int = b.map PV.int → a = b
  | [], [], _ => rfl
  | [], _ :: _, h => by simp at h
  | _ :: _, [], h => by simp at h
  | x :: a, y :: b, h => by
    simp only [List.map_cons, List.cons.injEq, PV.int.injEq] at h
    rw [h.1, int_inj h.2]
end
section
variable {D : List (Str × List Int)}
local instance : CT := ⟨fun _ => ⟨.Pass ⟨0, 0, 0, 0⟩, "", []⟩, [], fun _ => none⟩
end
section
variable {D : List (Str × List Int)}
local instance : CT := ⟨fun _ => ⟨.Pass ⟨0, 0, 0, 0⟩, "", []⟩, [], fun _ => none⟩
end
section
variable {D : List (Str × List Int)}
local instance : CT := ⟨fun _ => ⟨.Pass ⟨0, 0, 0, 0⟩, "", []⟩, [], fun _ => none⟩
end
section
variable {D : List (Str × List Int)}
local instance : CT := ⟨fun _ => ⟨.Pass ⟨0, 0, 0, 0⟩, "", []⟩, [], fun _ => none⟩
end
section
variable {D : List (Str × List Int)}
local instance : CT := ⟨fun _ => ⟨.Pass ⟨0, 0, 0, 0⟩, "", []⟩, [], fun _ => none⟩
theorem fmP_inj (hD : DOk D) {f g : Fm} (hf : FmOk D f) (hg : FmOk D g) (e : fmP f = fmP g) : f = g := by
  unfold fmP at e
  simp only [PV.tup.injEq, List.cons.injEq, PV.str.injEq, and_true] at e
  obtain ⟨e1, e2, e3⟩ := e
  replace e2 := int_inj e2
  replace e3 := enc_inj hD (VN.of hf.tm.v) _ (VN.of hg.tm.v) e3
  obtain ⟨w, ns, t⟩ := f
  obtain ⟨w', ns', t'⟩ := g
  simp only [] at e1 e2 e3
  subst e1 e2 e3
  rfl
/-- where the first thing stands that is no form -/
def Flt (D : List (Str × List Int)) (xs : List PV) (j : Nat) : Prop := ∃ (b : List Fm) (x : PV) (r : List PV), xs = b.map fmP ++ x :: r ∧ b.length = j ∧ BkOk D b ∧ ¬ IsFm (dOf D b) x
theorem Flt.cons {f : Fm} {xs : List PV} {j : Nat} (hf : FmOk D f) (h : Flt (D ++ [(f.w, f.ns)]) xs j) : Flt D (fmP f :: xs) (j + 1) := by
  obtain ⟨b, x, r, rfl, rfl, h1, h2⟩ := h
  exact ⟨f :: b, x, r, rfl, rfl, ⟨hf, h1⟩, h2⟩
theorem Flt.one : ∀ {b c : List Fm} {x y : PV} {r q : List PV} {D : List (Str × List Int)}, DOk D → b.map fmP ++ x :: r = c.map fmP ++ y :: q → BkOk D b → BkOk D c → ¬ IsFm (dOf D b) x → ¬ IsFm (dOf D c) y → b.length = c.length
  | [], [], _, _, _, _, _, _, _, _, _, _, _ => rfl
  | [], g :: c, x, y, r, q, D, hD, e, h1, h2, n1, n2 => by
    simp only [List.map_nil, List.nil_append, List.map_cons, List.cons_append, List.cons.injEq] at e
    exact absurd ⟨g, e.1, h2.1⟩ n1
  | f :: b, [], x, y, r, q, D, hD, e, h1, h2, n1, n2 => by
    simp only [List.map_nil, List.nil_append, List.map_cons, List.cons_append, List.cons.injEq] at e
    exact absurd ⟨f, e.1.symm, h1.1⟩ n2
  | f :: b, g :: c, x, y, r, q, D, hD, e, h1, h2, n1, n2 => by
    simp only [List.map_cons, List.cons_append, List.cons.injEq] at e
    have ef := fmP_inj hD h1.1 h2.1 e.1
    subst ef
    rw [List.length_cons, List.length_cons, Flt.one (hD.add h1.1) e.2 h1.2 h2.2 n1 n2]
theorem Flt.uniq {xs : List PV} {i j : Nat} (hD : DOk D) (h : Flt D xs i) (g : Flt D xs j) : i = j := by
  obtain ⟨b, x, r, e1, rfl, h1, n1⟩ := h
  obtain ⟨c, y, q, e2, rfl, h2, n2⟩ := g
  exact Flt.one hD (e1.symm.trans e2) h1 h2 n1 n2
theorem Flt.lt {xs : List PV} {i : Nat} (h : Flt D xs i) : i < xs.length := by
  obtain ⟨b, x, r, rfl, rfl, _⟩ := h
  simp
/-- what is told of what is no book -/
def FltP (p d : PV) : Prop := (d = .non ∧ ∀ xs, p = .tup xs → 8 < xs.length) ∨ ∃ (xs : List PV) (j : Nat), p = .tup xs ∧ d = .int (j : Nat) ∧ xs.length ≤ 8 ∧ Flt CD xs j
theorem FltP.same {p d e : PV} (h : FltP p d) (g : FltP p e) : d = e := by
  rcases h with ⟨rfl, h⟩ | ⟨xs, j, rfl, rfl, h1, h2⟩
  · rcases g with ⟨rfl, _⟩ | ⟨xs, j, rfl, rfl, g1, g2⟩
    · rfl
    · have := h xs rfl; omega
  · rcases g with ⟨rfl, g⟩ | ⟨ys, i, e, rfl, g1, g2⟩
    · have := g xs rfl; omega
    · cases e
      rw [Flt.uniq CD_ok h2 g2]
end
section
variable {D : List (Str × List Int)}
local instance : CT := ⟨fun _ => ⟨.Pass ⟨0, 0, 0, 0⟩, "", []⟩, [], fun _ => none⟩
abbrev SmW (w : Str) : Prop := w.cps.size ≤ 8 ∧ ∀ c ∈ w.cps.toList, c < 16 ^ 8
def SmL (w : Str) (xs : List Int) : Prop := SmW w ∧ xs.length ≤ 4 ∧ (∀ i ∈ xs, i.natAbs < 2 ^ 60)
mutual
def SmT : T → Prop
  | .lf w xs => SmL w xs
  | .nd w _ ps => SmW w ∧ ps.length ≤ 4 ∧ SmTs ps
def SmTs : List T → Prop
  | [] => True
  | p :: ps => SmT p ∧ SmTs ps
end
theorem SmTs_iff : ∀ {ps : List T}, SmTs ps ↔ ∀ p ∈ ps, SmT p
  | [] => ⟨fun _ _ hp => absurd hp (by simp), fun _ => trivial⟩
  | q :: ps => by
    rw [SmTs, SmTs_iff]
    constructor
    · intro ⟨h1, h2⟩ p hp
      rcases List.mem_cons.mp hp with e | e
      · rw [e]; exact h1
      · exact h2 p e
    · exact fun h => ⟨h q (by simp), fun p hp => h p (by simp [hp])⟩
def WdOk (D : List (Str × List Int)) : Prop := ∀ w ns, dl D w = some ns → SmW w
theorem Sm_of (hD : DOk D) (hW : WdOk D) {t : T} (hv : V D t) : ∀ d : Int, (∀ q ∈ lv t d, SmL q.2.2.1 q.2.2.2) → SmT t := by
  induction hv with
  | @lf w xs hl =>
    intro d h
    exact h ([], d, w, xs) (by simp [lv])
  | @nd w ns ps h1 h2 h3 ih =>
    intro d h
    have nm := hD.nm _ _ h1
    refine ⟨hW _ _ h1, by omega, SmTs_iff.mpr ?_⟩
    have key : ∀ (ps : List T) (ns : List Int) (i : Nat), ps.length = ns.length → (∀ q ∈ lvs ps ns i d, SmL q.2.2.1 q.2.2.2) → ∀ p ∈ ps, ∃ d', ∀ q ∈ lv p d', SmL q.2.2.1 q.2.2.2 := by
      intro ps
      induction ps with
      | nil => intro ns i _ _ p hp; cases hp
      | cons p ps ihp =>
        intro ns i hl hq x hx
        cases ns with
        | nil => simp at hl
        | cons n ns =>
          rw [lvs] at hq
          rcases List.mem_cons.mp hx with e | e
          · rw [e]
            exact ⟨d + n, fun q h => hq ((i : Int) :: q.1, q.2) (List.mem_append.mpr (.inl (List.mem_map.mpr ⟨q, h, rfl⟩)))⟩
          · exact ihp ns (i + 1) (by simpa using hl) (fun q h => hq q (List.mem_append.mpr (.inr h))) x e
    intro p hp
    obtain ⟨d', h'⟩ := key ps ns 0 h2 (fun q hq => h q (by rw [lv]; exact hq)) p hp
    exact ih p hp d' h'
mutual
theorem Sm_Bd : ∀ (t : T) (k : Nat), SmT t → dep t + 1 ≤ k → Bd 0 k (enc t)
  | .lf w xs, k, h, hk => by
    obtain ⟨m, rfl⟩ : ∃ m, k = m + 2 := ⟨k - 2, by simp only [dep] at hk; omega⟩
    obtain ⟨h1, h2, h3⟩ := h
    rw [enc]
    refine .tup (fun x hx => ?_) (by simp; omega)
    rcases List.mem_cons.mp hx with e | e
    · rw [e]; exact .str (by have := h1.1; omega) h1.2
    · obtain ⟨i, hi, rfl⟩ := List.mem_map.mp e
      exact .int (h3 i hi)
  | .nd w ns ps, k, h, hk => by
    obtain ⟨h1, h2, h3⟩ := h
    have hdn := deps_nn ps
    obtain ⟨m, rfl⟩ : ∃ m, k = m + 2 := ⟨k - 2, by simp only [dep] at hk; omega⟩
    rw [enc, encs_map]
    refine .tup (fun x hx => ?_) (by simp; omega)
    rcases List.mem_cons.mp hx with e | e
    · rw [e]; exact .str (by have := h1.1; omega) h1.2
    · exact Sms_Bd ps (m + 1) h3 (by simp only [dep] at hk; omega) x e
theorem Sms_Bd : ∀ (ps : List T) (k : Nat), SmTs ps → deps ps + 1 ≤ k → ∀ x ∈ ps.map enc, Bd 0 k x
  | [], k, h, hk, x, hx => by cases hx
  | p :: ps, k, h, hk, x, hx => by
    rw [List.map_cons] at hx
    simp only [deps] at hk
    rcases List.mem_cons.mp hx with e | e
    · rw [e]; exact Sm_Bd p k h.1 (by omega)
    · exact Sms_Bd ps k h.2 (by omega) x e
end
theorem letters_small : ∀ c ∈ letters.cps.toList, c < 16 ^ 8 := by decide +kernel
theorem ow_small {w : Str} (h : OwnW w) : SmW w := ⟨h.l8, fun c hc => letters_small c (h.let_ c hc)⟩
theorem wd_own {w : Str} {ns : List Int} : ∀ (b : List Fm) (D : List (Str × List Int)), BkOk D b → WdOk D → WdOk (dOf D b)
  | [], D, h, hw => hw
  | f :: b, D, h, hw => by
    refine wd_own (w := w) (ns := ns) b _ h.2 fun w ns e => ?_
    rw [dl_app] at e
    cases e2 : dl D w with
    | some v =>
      exact hw w v e2
    | none =>
      rw [e2] at e
      by_cases c : f.w = w
      · rw [← c]; exact ow_small h.1.ow
      · simp [c] at e
theorem wd_core : WdOk CD := by
  intro w ns e
  have hm : w ∈ CD.map (·.1) := List.mem_map.mpr ⟨(w, ns), dl_mem e, rfl⟩
  have key : ∀ w ∈ ks_CORE_WORDS, w.cps.size ≤ 8 ∧ ∀ c ∈ w.cps.toList, c < 16 ^ 8 := by decide +kernel
  exact key w hm
theorem wd_book {b : List Fm} (hb : BkOk CD b) : WdOk (dOf CD b) := wd_own (w := "fn") (ns := []) b CD hb wd_core
theorem hgs_ints : ∀ xs : List Int, hgs (xs.map PV.int) = xs.length
  | [] => rfl
  | x :: xs => by rw [List.map_cons, hgs, hgs_ints xs, hg_int, List.length_cons]; omega
mutual
theorem hg_sz : ∀ t : T, SmT t → hg (enc t) ≤ 6 * sz t
  | .lf w xs, h => by
    rw [enc, hg_tup, hgs, hgs_ints, hg_str, sz]
    have := h.2.1
    omega
  | .nd w ns ps, h => by
    rw [enc, encs_map, hg_tup, hgs, hg_str, sz]
    have b := hgs_szs ps h.2.2
    omega
theorem hgs_szs : ∀ ps : List T, SmTs ps → hgs (ps.map enc) ≤ 6 * szs ps
  | [], _ => Nat.le_refl _
  | p :: ps, h => by
    rw [List.map_cons, hgs, szs]
    have := hg_sz p h.1
    have := hgs_szs ps h.2
    omega
end
end
section
variable {D : List (Str × List Int)}
def wy (ws : List Int) (b d k : Int) : Int := if k < d then k else d + (if k - d < (ws.length : Nat) then (ws[(k - d).toNat]?).getD 0 else k - d - (ws.length : Nat) + b)
def wl (ws : List Int) (b d : Int) (w : Str) (xs : List Int) : List Int := if w = "name" then xs.map (wy ws b d) else if w = "hole" then xs.take 1 ++ (xs.drop 1).map (wy ws b d) else xs
mutual
def ld (ws : List Int) (b : Int) : T → Int → T
  | .lf w xs, d => .lf w (wl ws b d w xs)
  | .nd w ns ps, d => .nd w ns (lds ws b ps ns d)
def lds (ws : List Int) (b : Int) : List T → List Int → Int → List T
  | [], _, _ => []
  | _ :: _, [], _ => []
  | t :: ts, n :: ns, d => ld ws b t (d + n) :: lds ws b ts ns d
end
end
section
variable {D : List (Str × List Int)}
inductive VT (D : List (Str × List Int)) : T → Prop
  | lf {w : Str} {xs : List Int} : LfOk w xs → ¬ w = "hole" → VT D (.lf w xs)
  | nd {w : Str} {ns : List Int} {ps : List T} : dl D w = some ns → ps.length = ns.length → (∀ p ∈ ps, VT D p) → VT D (.nd w ns ps)
theorem VT.v {t : T} (h : VT D t) : V D t := by
  induction h with
  | lf h _ => exact .lf h
  | nd h1 h2 _ ih => exact .nd h1 h2 ih
def t0 : T := .lf "number" [0]
/-- what becomes of a leaf -/
def pl (parts : List T) (d : Int) (w : Str) (xs : List Int) : T := if w = "name" then match xs with
    | [k] => if k < d then .lf w xs else if k - d < (parts.length : Nat) then ld [] d ((parts[(k - d).toNat]?).getD t0) 0 else .lf w [k - (parts.length : Nat)]
    | _ => .lf w xs
  else .lf w xs
end
section
variable {D : List (Str × List Int)} {wh : Bool}
section
variable {b : List Fm} {p : PV} {S : Sto} {n : Nat}
variable {t : T} {wh : Bool}
/-- a pattern of a book within the bounds -/
structure Pn (b : List Fm) (wh : Bool) (t : T) : Prop where
  v : VN (dOf CD b) wh t
  l : len t ≤ 1500
  d : dep t ≤ 60
  dv : ∃ n, Dv n (enc t)
theorem Pn.up (h : Pn b wh t) : Pn b true t := ⟨VN.of h.v.v, h.l, h.d, h.dv⟩
end
end
section
variable {b : List Fm} {S : Sto} {n : Nat} {t : T}
local instance : CT := ⟨fun _ => ⟨.Pass ⟨0, 0, 0, 0⟩, "", []⟩, [], fun _ => none⟩
theorem BkOk.ow : ∀ {b : List Fm} {D : List (Str × List Int)}, BkOk D b → ∀ f ∈ b, OwnW f.w
  | [], _, _, f, hf => by cases hf
  | g :: b, D, h, f, hf => by
    rcases List.mem_cons.mp hf with e | e
    · rw [e]; exact h.1.ow
    · exact BkOk.ow h.2 f e
end
section
structure DS (S0 : Sto) (m : Nat) (L : List PV) (S : Sto) : Prop where
  ge : S0.length ≤ m
  at_ : S[m]? = some (.lst L)
  tk : S.take S0.length = S0
theorem tk_len {S0 S : Sto} (h : S.take S0.length = S0) : S0.length ≤ S.length := by
  have := congrArg List.length h
  rw [List.length_take] at this
  omega
theorem tk_app {S0 S X : Sto} (h : S.take S0.length = S0) : (S ++ X).take S0.length = S0 := by
  rw [List.take_append_of_le_length (tk_len h)]; exact h
theorem DS.app {S0 S : Sto} {m : Nat} {L : List PV} (d : DS S0 m L S) (X : Sto) : DS S0 m L (S ++ X) :=
  ⟨d.ge, by rw [List.getElem?_append_left (List.getElem?_eq_some_iff.mp d.at_).1]; exact d.at_, tk_app d.tk⟩
theorem DS.set {S0 S : Sto} {m : Nat} {L : List PV} (d : DS S0 m L S) (L2 : List PV) : DS S0 m L2 (S.set m (.lst L2)) :=
  ⟨d.ge, set_get (List.getElem?_eq_some_iff.mp d.at_).1, by rw [List.take_set_of_le d.ge]; exact d.tk⟩
theorem DS.new {S0 S : Sto} (h : S.take S0.length = S0) (L : List PV) : DS S0 S.length L (S ++ [.lst L]) :=
  ⟨tk_len h, get_last, tk_app h⟩
theorem wp_seq {a rest : Es} {ρ ρ1 : Py.Env} {S S1 : Sto} {Q : Fl → Sto → Prop} (h : a ρ S = .ok (.nx ρ1) S1) (k : WP (rest ρ1 S1) Q) : WP (sSeq a rest ρ S) Q := by
  rw [sSeq, h]
  exact k
theorem wp_def {n N : Nat} {g : Es} {ps : List PV} {S : Sto} {Q : PV → Sto → Prop} (hl : ps.length = n) (h : WP (g (startP N ps) S) fun fl S' => WP (finF S.length fl S') Q) : WP (mkDef n N g ps S) Q := by
  unfold mkDef
  rw [if_pos hl]
  show @WPi _ _ ⟨Q⟩
  rw [wp_bind]
  exact h
section
variable {M0 : Ev} {T0 : Et} {R0 M1 M2 M3 : Ev} {T4 : Et} {R4 G1 G2 G3 G4 M8 M9 P9 M10 M11 : Ev} {q0 q1 q2 q3 q4 q5 q6 : PV} {S0 : Sto} {b7 v1 v2 v3 w1 w2 w3 w4 w8 w9 w10 w11 pl9 : PV}
theorem if_no {ft : Et} {a rest : Es} {ρ : Py.Env} {S : Sto} {Q : Fl → Sto → Prop} (h : ft ρ S = .ok false S) (k : WP (rest ρ S) Q) : WP (sSeq (sIf ft a sNil) rest ρ S) Q := by
  refine wp_seq (ρ1 := ρ) (S1 := S) ?_ k
  rw [sIf, h]
  rfl
end
end
section
variable {D : List (Str × List Int)}
mutual
def Cp (s : Nat) : PV → Prop
  | .non => True
  | .bl _ => True
  | .int i => i.natAbs < 10 ^ 58
  | .str x => x.cps.size ≤ s ∧ ∀ c ∈ x.cps.toList, c < 16 ^ 8
  | .tup xs => Cps s xs
  | .lst xs => Cps s xs
  | .dic [] [] => True
  | _ => False
def Cps (s : Nat) : List PV → Prop
  | [] => True
  | x :: xs => Cp s x ∧ Cps s xs
end
theorem Cps_iff {s : Nat} : ∀ {xs : List PV}, Cps s xs ↔ ∀ x ∈ xs, Cp s x
  | [] => ⟨fun _ _ h => absurd h (by simp), fun _ => by rw [Cps]; trivial⟩
  | y :: xs => by
    rw [Cps, Cps_iff]
    constructor
    · intro ⟨h1, h2⟩ x hx
      rcases List.mem_cons.mp hx with e | e
      · rw [e]; exact h1
      · exact h2 x e
    · exact fun h => ⟨h y (by simp), fun x hx => h x (by simp [hx])⟩
theorem shown_int {i : Int} (h : i.natAbs < 10 ^ 58) : (PyData.shown (.int i)).length ≤ 59 := by
  have e := int_text_length_le10 (a := i) (k := 58) (by decide) h
  show (Str.ofString (toString i)).length ≤ 59
  rw [PySem.ofString_length]
  exact e
theorem showable_int {i : Int} (h : i.natAbs < 10 ^ 58) : i.natAbs.log2 < 1920 :=
  log2_of (by decide) (Nat.lt_of_lt_of_le h (by decide))
mutual
theorem Cp.lay {s : Nat} : ∀ (p : PV), Cp s p → layQ p = true ∧ (toD p).showable = true ∧ (toD p).shown.length + 2 ≤ (10 * s + 70) * hg p
  | .non, _ => by
    refine ⟨rfl, rfl, ?_⟩
    have e : (PyData.shown .none).length = 4 := rfl
    rw [toD, e]
    have := Nat.mul_le_mul_left (10 * s + 70) (hg_pos .non)
    omega
  | .bl b, _ => by
    refine ⟨rfl, rfl, ?_⟩
    have e : (PyData.shown (.bool b)).length ≤ 5 := by cases b <;> decide
    rw [toD, hg_bl]
    omega
  | .int i, h => by
    rw [Cp] at h
    refine ⟨rfl, ?_, ?_⟩
    · rw [toD, PyData.showable]; exact decide_eq_true (showable_int h)
    · have e := shown_int h
      rw [toD, hg_int]
      omega
  | .str x, h => by
    rw [Cp] at h
    refine ⟨rfl, rfl, ?_⟩
    have e := StrLaws.reprText_len x h.2
    have e2 : x.length = x.cps.size := rfl
    have := h.1
    rw [toD, hg_str, PyData.shown]
    omega
  | .tup xs, h => by
    rw [Cp] at h
    obtain ⟨h1, h2, h3⟩ := Cps.lay xs h
    have e := tupleText_len_le (PyData.shownAll (toDs xs))
    have e2 := PyData.shownAll_length (toDs xs)
    have e3 : (toDs xs).length = xs.length := by
      have key : ∀ xs : List PV, (toDs xs).length = xs.length := fun xs => by
        induction xs with
        | nil => rfl
        | cons y ys ih => rw [toDs, List.length_cons, ih, List.length_cons]
      exact key xs
    refine ⟨by rw [layQ]; exact h1, by rw [toD, PyData.showable]; exact h2, ?_⟩
    rw [toD, hg_tup, PyData.shown, Nat.mul_add (10 * s + 70) 1]
    omega
  | .lst xs, h => by
    rw [Cp] at h
    obtain ⟨h1, h2, h3⟩ := Cps.lay xs h
    have e := listText_len_le (PyData.shownAll (toDs xs))
    have e2 := PyData.shownAll_length (toDs xs)
    have e3 : (toDs xs).length = xs.length := by
      have key : ∀ xs : List PV, (toDs xs).length = xs.length := fun xs => by
        induction xs with
        | nil => rfl
        | cons y ys ih => rw [toDs, List.length_cons, ih, List.length_cons]
      exact key xs
    refine ⟨by rw [layQ]; exact h1, by rw [toD, PyData.showable]; exact h2, ?_⟩
    rw [toD, hg_lst, PyData.shown, Nat.mul_add (10 * s + 70) 1]
    omega
  | .dic [] [], _ => by
    refine ⟨by rw [layQ], by rw [toD]; rfl, ?_⟩
    have e : (PyData.shown (.dict [])).length = 2 := rfl
    rw [toD, e]
    have := Nat.mul_le_mul_left (10 * s + 70) (hg_pos (.dic [] []))
    omega
  | .dic (_ :: _) _, h => by rw [Cp] at h; exact h.elim; all_goals (intros; simp_all)
  | .dic [] (_ :: _), h => by rw [Cp] at h; exact h.elim; all_goals (intros; simp_all)
  | .frl _, h => by rw [Cp] at h; exact h.elim; all_goals (intros; simp_all)
  | .ref _, h => by rw [Cp] at h; exact h.elim; all_goals (intros; simp_all)
  | .adr _, h => by rw [Cp] at h; exact h.elim; all_goals (intros; simp_all)
  | .clo _ _, h => by rw [Cp] at h; exact h.elim; all_goals (intros; simp_all)
  | .err _ _, h => by rw [Cp] at h; exact h.elim; all_goals (intros; simp_all)
theorem Cps.lay {s : Nat} : ∀ (xs : List PV), Cps s xs → layQs xs = true ∧ PyData.showableAll (toDs xs) = true ∧ ((PyData.shownAll (toDs xs)).map (·.length)).sum + 2 * xs.length ≤ (10 * s + 70) * hgs xs
  | [], _ => by
    refine ⟨rfl, rfl, ?_⟩
    simp [toDs, PyData.shownAll]
  | x :: xs, h => by
    rw [Cps] at h
    obtain ⟨a1, a2, a3⟩ := Cp.lay x h.1
    obtain ⟨b1, b2, b3⟩ := Cps.lay xs h.2
    refine ⟨by rw [layQs, a1, b1]; rfl, by rw [toDs, PyData.showableAll, a2, b2]; rfl, ?_⟩
    rw [toDs, hgs, PyData.shownAll, List.map_cons, List.sum_cons, List.length_cons, Nat.mul_add (10 * s + 70) (hg x)]
    omega
end
/-- a value that may be shown -/
structure Sw (w : Nat) (p : PV) : Prop where
  lay : layQ p = true
  sh : (toD p).showable = true
  dp : (toD p).depth ≤ 140
  ln : (toD p).shown.length ≤ w
  ref : p.isRef = false
theorem Sw.of {s w : Nat} {p : PV} (h : Cp s p) (hd : (toD p).depth ≤ 140) (hw : (10 * s + 70) * hg p ≤ w) (hr : p.isRef = false) : Sw w p := by
  obtain ⟨a, b, c⟩ := Cp.lay p h
  exact ⟨a, b, hd, by omega, hr⟩
theorem Bd.cp {m k : Nat} {p : PV} (hm : m ≤ 3) (h : Bd m k p) : Cp 203 p := by
  induction h with
  | non => rw [Cp]; trivial
  | bl => rw [Cp]; trivial
  | int h =>
    rw [Cp]
    have := pow_le (show m ≤ 3 by omega)
    exact Nat.lt_of_lt_of_le h (Nat.le_trans this (by decide))
  | str h hc => rw [Cp]; exact ⟨by omega, hc⟩
  | lst _ _ ih => rw [Cp]; exact Cps_iff.mpr ih
  | dic => rw [Cp]; trivial
  | tup _ _ ih => rw [Cp]; exact Cps_iff.mpr ih
theorem depth_all {k : Nat} : ∀ {xs : List PV}, (∀ x ∈ xs, (toD x).depth ≤ k) → PyData.depthAll (toDs xs) ≤ k
  | [], _ => Nat.zero_le _
  | x :: xs, h => by
    have a := h x (by simp)
    have b := depth_all (xs := xs) fun y hy => h y (by simp [hy])
    rw [toDs, PyData.depthAll]
    omega
theorem Bd.depth {m k : Nat} {p : PV} (h : Bd m k p) : (toD p).depth ≤ k := by
  induction h with
  | non => exact Nat.zero_le _
  | bl => exact Nat.zero_le _
  | int _ => exact Nat.zero_le _
  | str _ _ => exact Nat.zero_le _
  | lst _ _ ih => rw [toD, PyData.depth]; have := depth_all ih; omega
  | dic => rw [toD, PyData.depth, PyData.depthKv]; omega
  | tup _ _ ih => rw [toD, PyData.depth]; have := depth_all ih; omega
mutual
def TI (B : Int) : T → Prop
  | .lf _ xs => ∀ i ∈ xs, -B ≤ i ∧ i ≤ B
  | .nd _ _ ps => TIs B ps
def TIs (B : Int) : List T → Prop
  | [] => True
  | p :: ps => TI B p ∧ TIs B ps
end
theorem TIs_iff {B : Int} : ∀ {ps : List T}, TIs B ps ↔ ∀ p ∈ ps, TI B p
  | [] => ⟨fun _ _ h => absurd h (by simp), fun _ => by rw [TIs]; trivial⟩
  | y :: xs => by
    rw [TIs, TIs_iff]
    constructor
    · intro ⟨h1, h2⟩ x hx
      rcases List.mem_cons.mp hx with e | e
      · rw [e]; exact h1
      · exact h2 x e
    · exact fun h => ⟨h y (by simp), fun x hx => h x (by simp [hx])⟩
theorem TI.nd {B : Int} {w : Str} {ns : List Int} {ps : List T} : TI B (.nd w ns ps) ↔ ∀ p ∈ ps, TI B p := by rw [TI, TIs_iff]
theorem lf_small {w : Str} (h : w ∈ LW) : SmW w := by
  have key : ∀ w ∈ LW, w.cps.size ≤ 8 ∧ ∀ c ∈ w.cps.toList, c < 16 ^ 8 := by decide +kernel
  exact key w h
theorem sw_bd {m k : Nat} {p : PV} (hm : m ≤ 3) (h : Bd m k p) (hk : k ≤ 140) (hh : hg p ≤ 700) : Sw 1500000 p :=
  Sw.of (h.cp hm) (Nat.le_trans h.depth hk) (by omega) h.ref
end
section
variable {b : List Fm}
section
variable {q0 q1 q2 q3 q4 q5 q6 x7 : PV} {ρ : Py.Env} {S : Sto} {m : Fn}
theorem f0 : eArgs m (aCons (eVar 0) aNil) (some q0 :: ρ) S = m [q0] S := rfl
end
end
section
variable {b : List Fm}
structure Ar (k : Nat) (p : PV) : Prop where
  bd : Bd 2 k p
  h : hg p ≤ 4000
  sw : Sw 1500000 p
theorem Ar.dv {k : Nat} {p : PV} (a : Ar k p) : Dv k p := a.bd.dv (by omega)
end
section
variable {b : List Fm}
local instance : CT := ⟨fun _ => ⟨.Pass ⟨0, 0, 0, 0⟩, "", []⟩, [], fun _ => none⟩
end
section
variable {D : List (Str × List Int)}
def SL (q : Ld) : Prop := SmL q.2.1 q.2.2
theorem SL_T (hD : DOk D) {t : T} (hv : V D t) {free ats : Int} (hf : free ≤ 10) (ha : ats ≤ 10) (hd : dep t ≤ 40) (h : ∀ q ∈ lv t 0, LfT free ats q.2) : ∀ q ∈ lv t 0, SL q.2 := by
  intro q hq
  have hl := lv_leaf hD hv hq
  have dq := lv_deep hD t 0 hv q hq
  have hlf := h q hq
  have p60 : (2 : Nat) ^ 60 = 1152921504606846976 := by decide
  unfold SL SmL
  rw [p60]
  refine ⟨lf_small hl.lw, ?_⟩
  rcases hl with ⟨e, j, ks, e2, _⟩ | ⟨e, i, e2, h1, h2⟩ | ⟨e, i, e2, h1⟩
  · rcases hlf with z | ⟨z, _⟩ | ⟨z, _⟩
    · rw [e, ne_hn] at z; exact z.elim
    · rw [e, ne_hm] at z; exact z.elim
    · rw [e] at z; exact absurd z (by decide +kernel)
  · rw [e2]
    exact ⟨by simp, fun x hx => by rw [List.mem_singleton] at hx; rw [hx]; omega⟩
  · rcases hlf with z | ⟨z, i', z2, z3⟩ | ⟨z, _, i', z2, z3⟩
    · rcases e with e | e
      · rw [e, ne_mn] at z; exact z.elim
      · rw [e, ne_an] at z; exact z.elim
    · rw [e2] at z2
      cases z2
      rw [e2]
      exact ⟨by simp, fun x hx => by rw [List.mem_singleton] at hx; rw [hx]; omega⟩
    · rw [e2] at z2
      cases z2
      rw [e2]
      exact ⟨by simp, fun x hx => by rw [List.mem_singleton] at hx; rw [hx]; omega⟩
end
section
structure Ex (n : Nat) (S S' : Sto) : Prop where
  le : S.length ≤ S'.length
  same : ∀ i, i < S.length → i ≠ n → S'[i]? = S[i]?
  w : Well S' n
theorem Ex.trans {n : Nat} {S S1 S2 : Sto} (h : Ex n S S1) (g : Ex n S1 S2) : Ex n S S2 :=
  ⟨Nat.le_trans h.le g.le, fun i hi hn => (g.same i (Nat.lt_of_lt_of_le hi h.le) hn).trans (h.same i hi hn), g.w⟩
theorem Wl.ex {n : Nat} {S S' : Sto} (h : Wl n S S') : Ex n S S' := ⟨by rw [h.len]; exact Nat.le_refl _, fun i _ hn => h.same i hn, h.w⟩
/-- a drawn pattern -/
structure Dr (b : List Fm) (L : Int) (t : T) : Prop where
  v : V (dOf CD b) t
  l : len t ≤ L
  sl : ∀ q ∈ lv t 0, SL q.2
theorem Dr.bd {b : List Fm} {L : Int} {t : T} (hb : BkOk CD b) (h : Dr b L t) {k : Nat} (hk : L + 1 ≤ k) : Bd 0 k (enc t) ∧ (hg (enc t) : Int) ≤ 6 * L := by
  have hD := dOf_ok b CD_ok hb
  have sm := Sm_of hD (wd_book hb) h.v 0 h.sl
  have d := h.v.dep_le hD
  have z := h.v.sz_le hD
  have g := hg_sz t sm
  have l := h.l
  exact ⟨Sm_Bd t k sm (by omega), by omega⟩
theorem step_set {F : Ev} {rest : Es} {ρ : Py.Env} {S : Sto} {j : Nat} {P : PV → Sto → Prop} {Q : Fl → Sto → Prop} (hF : WP (F ρ S) P) (k : ∀ p S', P p S' → WP (rest (ρ.set j (some p)) S') Q) : WP (sSeq (sSet j F) rest ρ S) Q := by
  obtain ⟨p, S', e, hp⟩ := hF.ex
  refine wp_seq (ρ1 := ρ.set j (some p)) (S1 := S') ?_ (k _ _ hp)
  unfold sSet sAsg
  rw [e]
  rfl
end
section
theorem well_okL {ns : List Int} {t : Int} {S : Sto} (h0 : 0 ≤ t) (ht : t ≤ 10) (hl : ns.length ≤ 63) : WP (m__law_well [.lst (ns.map .int), .int t] S) fun p S' => S' = S ∧ ∃ a b c : Int, p = .lst [.int a, .int b, .int c] := by
  obtain ⟨cs, hcs⟩ := cut_ints ns none (some 7)
  unfold m__law_well b__law_well
  have gl : gLen [.lst (ns.map .int)] S = .ok (.int (ns.length : Nat)) S := by simp [gLen, getQ, getL]
  simp! only [fSl, gSlF, hcs]
  refine wp_of (well_loop cs _ _) fun fl S' ⟨e1, v, x3, e2⟩ => ?_
  subst e1 e2
  have nl : ¬ S'.length < S'.length := by omega
  have fin : ∀ w : Int, WP ((sSeq (sSet 2 (eOp gMod (eArgs gInt (aCons (eOp gAdd (eOp gAdd (eOp gMul (eVar 2) (eC (.int 39119))) (eOp gMul (eOp gMod (eArgs gInt (aCons (eVar 4) aNil)) (eC (.int 2147483549))) (eC (.int 27011)))) (eC (.int 3))) aNil)) (eC (.int 2147483579)))) (sRet (eNew (eArgs gLstP (aCons (eIf (tOrE (tV (eOp gLt (eVar 4) (eC (.int 0)))) (tV (eOp gGe (eVar 4) (eOp gPow (eC (.int 10)) (eC (.int 14)))))) (eArgs gAbs (aCons (eVar 4) aNil)) (eC (.int 0))) (aCons (eVar 2) (aCons (eC (.int 0)) aNil)))))))
      [some (.lst (ns.map .int)), some (.int t), some (.int v), x3, some (.int w)] S') fun fl S2 => WP (finO S'.length fl S2) fun p S2 => S2 = S' ∧ ∃ a b c : Int, p = .lst [.int a, .int b, .int c] := by
    intro w
    have gp : gPow (.int 10) (.int 14) S' = .ok (.int (10 ^ 14)) S' := by
      show (if 0 ≤ (14 : Int) ∧ (14 : Int) ≤ 1000000 ∧ (10 : Int).natAbs < 2 ^ 64 then R.ok (PV.int (10 ^ (14 : Int).toNat)) S' else .no) = _
      rw [if_pos (by decide)]; rfl
    have ga : gAbs [.int w] S' = .ok (.int (if w < 0 then -w else w)) S' := rfl
    by_cases c1 : w < 0
    · simp! only [c1, ga, nl, get_last, take_app]
      exact ⟨_, _, _, rfl⟩
    · by_cases c2 : (10 : Int) ^ 14 ≤ w
      · have c2' : (100000000000000 : Int) ≤ w := by simpa using c2
        simp! only [c1, gp, c2', ga, nl, get_last, take_app]
        exact ⟨_, _, _, rfl⟩
      · have c2' : ¬ (100000000000000 : Int) ≤ w := by simpa using c2
        simp! only [c1, gp, c2', ga, nl, get_last, take_app]
        exact ⟨_, _, _, rfl⟩
  by_cases c : t < (ns.length : Nat)
  · have hk : t.toNat < ns.length := by omega
    have a1 : atI (ns.map PV.int) t = some (.int ns[t.toNat]) := by rw [atI_pos h0]; simp [hk]
    have f := fin ns[t.toNat]
    simp! only [gl, c, a1]
    simp! only [] at f
    exact f
  · have f := fin 0
    simp! only [gl, c]
    simp! only [] at f
    exact f
theorem well_okS {ns : List Int} {sc : PV} (hs : Py.Scr ns sc) {t : Int} {S : Sto} (h0 : 0 ≤ t) (ht : t ≤ 10) (hl : ns.length ≤ 63) : WP (m__law_well [sc, .int t] S) fun p S' => S' = S ∧ ∃ a b c : Int, p = .lst [.int a, .int b, .int c] := by
  rcases hs with rfl | rfl
  · exact well_ok h0 ht hl
  · exact well_okL h0 ht hl
theorem comp_true {f : Ev} {s : Option PV} (hf : ∀ i : Int, 0 ≤ i → i ≤ 10 → ∀ S, WP (f [s, some (.int i)] S) fun p S' => p = .bl true) : ∀ (c : Nat) (i : Int) (acc : List PV) (x1 : Option PV) (S : Sto), 0 ≤ i → i + c ≤ 10 → acc.length + c ≤ 100 →
    WP (compF (nName 1) tYesE f [s, x1] (Py.intsFrom i c) acc S) fun p S' => p = .lst (acc ++ (Py.intsFrom i c).map fun _ => .bl true)
  | 0, i, acc, x1, S, h0, h1, h2 => by
    rw [ints_zero, compF]
    show PV.lst acc = _
    simp
  | c + 1, i, acc, x1, S, h0, h1, h2 => by
    rw [ints_cons, compF]
    simp! only []
    refine wp_of (hf i h0 (by omega) S) fun p S1 ep => ?_
    subst ep
    have ha : (PV.bl true).isRef = false ∧ acc.length < sizeLine := ⟨rfl, by have := size_1000 (n := acc.length + 1) (by omega); omega⟩
    rw [if_pos ha]
    refine wp_of (comp_true hf c (i + 1) (acc ++ [.bl true]) x1 S1 (by omega) (by omega) (by simp; omega)) fun p S' e => ?_
    rw [e]; simp
theorem len_sc {ns : List Int} {sc : PV} (hs : Py.Scr ns sc) {S : Sto} : gLen [sc] S = .ok (.int (ns.length : Nat)) S := by
  rcases hs with rfl | rfl <;> simp [gLen, getQ, getL]
end
end G01
set_option Elab.async false
set_option maxRecDepth 100000
set_option maxHeartbeats 1000000
set_option linter.all false
namespace G01
open PySem PySem.Spec PyProof.Rows L2 Py
/-- what may be shown -/
structure Rp (p : PV) : Prop where
  ref : p.isRef = false
  rep : ∃ z, ∀ S, gReprD [p] S = .ok (.str z) S
theorem big_size : 1500000 ≤ sizeLine := by decide
theorem rp_of {m k : Nat} {p : PV} (hm : m ≤ 3) (h : Bd m k p) (hk : k ≤ 140) (hh : hg p ≤ 700) : Rp p := by
  have sw := sw_bd hm h hk hh
  have ln := Nat.le_trans sw.ln big_size
  have hs : shE (toD p) = true := by
    unfold shE
    rw [sw.sh, decide_eq_true (Nat.le_trans sw.dp (by omega)), decide_eq_true ln]
    rfl
  have atom : ∀ q, q = p → q.isRef = false → (toD q).canLay0 = true → shC (toD q) = true → (∀ S, gReprD [q] S = gReprA [q] S) → (∀ S, gReprA [q] S = match repOf q with
      | some z => .ok (.str z) S
      | none => .no) → (repOf q = if q.isRef = false ∧ (toD q).canLay0 = true ∧ shC (toD q) = true then some (toD q).shown else none) → Rp p := fun q e h1 h2 h3 g1 g2 g3 => by
    subst e
    refine ⟨h1, (toD q).shown, fun S => ?_⟩
    rw [g1, g2, g3, if_pos ⟨h1, h2, h3⟩]
  cases h with
  | non => exact atom .non rfl rfl rfl rfl (fun _ => rfl) (fun _ => rfl) rfl
  | @bl _ b => exact atom (.bl b) rfl rfl rfl rfl (fun _ => rfl) (fun _ => rfl) rfl
  | @int _ i hi =>
    have h2 : shC (toD (.int i)) = true := by
      show decide (i.natAbs.log2 < 1920) = true
      refine decide_eq_true ?_
      have := Nat.lt_of_lt_of_le hi (Nat.pow_le_pow_right (show 0 < 2 by omega) (show 60 + 40 * m ≤ 180 by omega))
      by_cases z : i.natAbs = 0
      · rw [z]; decide
      · have := (Nat.log2_lt z).mpr this
        omega
    exact atom (.int i) rfl rfl rfl h2 (fun _ => rfl) (fun _ => rfl) rfl
  | @str _ x hx hc =>
    have h2 : shC (PyData.str x) = true := decide_eq_true ln
    refine ⟨rfl, (PyData.str x).shown, fun S => ?_⟩
    have e : repOf (PV.str x) = some (PyData.str x).shown := by
      show (if shC (PyData.str x) = true then some (PyData.str x).shown else none) = _
      rw [if_pos h2]
    show (match repOf (PV.str x) with
      | some z => R.ok (PV.str z) S
      | none => .no) = _
    rw [e]
  | @lst _ xs hx hl =>
    refine ⟨rfl, (toD (.lst xs)).shown, fun S => ?_⟩
    have l : layQs xs = true := sw.lay
    unfold gReprD
    simp only []
    rw [if_pos ⟨l, hs⟩]
  | dic => exact ⟨rfl, _, fun S => rfl⟩
  | @tup _ xs hx hl =>
    refine ⟨rfl, (toD (.tup xs)).shown, fun S => ?_⟩
    have l : layQs xs = true := sw.lay
    unfold gReprD
    simp only []
    rw [if_pos ⟨l, hs⟩]
abbrev compE : Ev := (fComp (iArgs gRange (aCons (eC (.int 33)) aNil)) (nName 3) tYesE (eOrV (eOp gEq (eVar 3) (eVar 0)) (eChain gLt gLt (eC (.int 24)) (eVar 3) (eC (.int 28)))) [3])
abbrev testB : Et := tV (eOp gNe (eArgs m__law_truths (aCons (eVar 2) aNil)) compE)
section
variable {v : PV} {S : Sto}
theorem tt0 : testB [some (.int 0), some v, some (.err "InvalidText" [.str "place", v]), none] S = .ok false (S.take S.length) := by kernel_rfl
theorem tt1 : testB [some (.int 1), some v, some (.err "InvalidTerm" [.str "given", v]), none] S = .ok false (S.take S.length) := by kernel_rfl
theorem tt2 : testB [some (.int 2), some v, some (.err "InvalidSource" [.str "given", v]), none] S = .ok false (S.take S.length) := by kernel_rfl
theorem tt3 : testB [some (.int 3), some v, some (.err "InvalidProgram" [.str "given", v]), none] S = .ok false (S.take S.length) := by kernel_rfl
theorem tt4 : testB [some (.int 4), some v, some (.err "InvalidNumber" [.str "given", v]), none] S = .ok false (S.take S.length) := by kernel_rfl
theorem tt5 : testB [some (.int 5), some v, some (.err "InvalidName" [.str "given", v]), none] S = .ok false (S.take S.length) := by kernel_rfl
theorem tt6 : testB [some (.int 6), some v, some (.err "InvalidPlace" [.str "given", v]), none] S = .ok false (S.take S.length) := by kernel_rfl
theorem tt7 : testB [some (.int 7), some v, some (.err "InvalidRows" [.str "given", v]), none] S = .ok false (S.take S.length) := by kernel_rfl
theorem tt8 : testB [some (.int 8), some v, some (.err "InvalidSizes" [.str "given", v]), none] S = .ok false (S.take S.length) := by kernel_rfl
theorem tt9 : testB [some (.int 9), some v, some (.err "InvalidBook" [.str "index", v]), none] S = .ok false (S.take S.length) := by kernel_rfl
theorem tt10 : testB [some (.int 10), some v, some (.err "InvalidParts" [.str "index", v]), none] S = .ok false (S.take S.length) := by kernel_rfl
theorem tt11 : testB [some (.int 11), some v, some (.err "InvalidWays" [.str "index", v]), none] S = .ok false (S.take S.length) := by kernel_rfl
theorem tt12 : testB [some (.int 12), some v, some (.err "InvalidNames" [.str "index", v]), none] S = .ok false (S.take S.length) := by kernel_rfl
theorem tt13 : testB [some (.int 13), some v, some (.err "InvalidMemory" [.str "index", v]), none] S = .ok false (S.take S.length) := by kernel_rfl
theorem tt14 : testB [some (.int 14), some v, some (.err "InvalidDevice" [.str "index", v]), none] S = .ok false (S.take S.length) := by kernel_rfl
theorem tt15 : testB [some (.int 15), some v, some (.err "InvalidWrites" [.str "index", v]), none] S = .ok false (S.take S.length) := by kernel_rfl
theorem tt16 : testB [some (.int 16), some v, some (.err "NoValue" [.str "index", v]), none] S = .ok false (S.take S.length) := by kernel_rfl
theorem tt17 : testB [some (.int 17), some v, some (.err "BadRows" [.str "index", v]), none] S = .ok false (S.take S.length) := by kernel_rfl
theorem tt18 : testB [some (.int 18), some v, some (.err "Captured" []), none] S = .ok false (S.take S.length) := by kernel_rfl
theorem tt19 : testB [some (.int 19), some v, some (.err "TooGreat" []), none] S = .ok false (S.take S.length) := by kernel_rfl
theorem tt20 : testB [some (.int 20), some v, some (.err "NoRoom" []), none] S = .ok false (S.take S.length) := by kernel_rfl
theorem tt21 : testB [some (.int 21), some v, some (.err "DoesNotStand" []), none] S = .ok false (S.take S.length) := by kernel_rfl
theorem tt22 : testB [some (.int 22), some v, some (.err "NotNow" []), none] S = .ok false (S.take S.length) := by kernel_rfl
theorem tt23 : testB [some (.int 23), some v, some (.err "NotMended" []), none] S = .ok false (S.take S.length) := by kernel_rfl
theorem tt24 : testB [some (.int 24), some v, some (.err "NotThere" []), none] S = .ok false (S.take S.length) := by kernel_rfl
theorem tt25 : testB [some (.int 25), some v, some (.err "FormError" []), none] S = .ok false (S.take S.length) := by kernel_rfl
theorem f0_ : gFld cs_place "place" (.err "InvalidText" [.str "place", v]) S = .ok v S := by kernel_rfl
theorem f1_ : gFld cs_given "given" (.err "InvalidTerm" [.str "given", v]) S = .ok v S := by kernel_rfl
theorem f2_ : gFld cs_given "given" (.err "InvalidSource" [.str "given", v]) S = .ok v S := by kernel_rfl
theorem f3_ : gFld cs_given "given" (.err "InvalidProgram" [.str "given", v]) S = .ok v S := by kernel_rfl
theorem f4_ : gFld cs_given "given" (.err "InvalidNumber" [.str "given", v]) S = .ok v S := by kernel_rfl
theorem f5_ : gFld cs_given "given" (.err "InvalidName" [.str "given", v]) S = .ok v S := by kernel_rfl
theorem f6_ : gFld cs_given "given" (.err "InvalidPlace" [.str "given", v]) S = .ok v S := by kernel_rfl
theorem f7_ : gFld cs_given "given" (.err "InvalidRows" [.str "given", v]) S = .ok v S := by kernel_rfl
theorem f8_ : gFld cs_given "given" (.err "InvalidSizes" [.str "given", v]) S = .ok v S := by kernel_rfl
theorem f9_ : gFld cs_index "index" (.err "InvalidBook" [.str "index", v]) S = .ok v S := by kernel_rfl
theorem f10_ : gFld cs_index "index" (.err "InvalidParts" [.str "index", v]) S = .ok v S := by kernel_rfl
theorem f11_ : gFld cs_index "index" (.err "InvalidWays" [.str "index", v]) S = .ok v S := by kernel_rfl
theorem f12_ : gFld cs_index "index" (.err "InvalidNames" [.str "index", v]) S = .ok v S := by kernel_rfl
theorem f13_ : gFld cs_index "index" (.err "InvalidMemory" [.str "index", v]) S = .ok v S := by kernel_rfl
theorem f14_ : gFld cs_index "index" (.err "InvalidDevice" [.str "index", v]) S = .ok v S := by kernel_rfl
theorem f15_ : gFld cs_index "index" (.err "InvalidWrites" [.str "index", v]) S = .ok v S := by kernel_rfl
theorem f16_ : gFld cs_index "index" (.err "NoValue" [.str "index", v]) S = .ok v S := by kernel_rfl
theorem f17_ : gFld cs_index "index" (.err "BadRows" [.str "index", v]) S = .ok v S := by kernel_rfl
end
abbrev restM : Es := (sSeq (sIf (tV (eOp gEq (eVar 0) (eC (.int 0)))) (sRet (eOp gEq (eArgs gReprD (aCons (eUn (gFld cs_place "place") (eVar 2)) aNil)) (eArgs gReprD (aCons (eVar 1) aNil)))) sNil) (sSeq (sIf (tV (eOp gLt (eVar 0) (eC (.int 9)))) (sRet (eOp gEq (eArgs gReprD (aCons (eUn (gFld cs_given "given") (eVar 2)) aNil)) (eArgs gReprD (aCons (eVar 1) aNil)))) sNil) (sRet (eOrV (eOp gGt (eVar 0) (eC (.int 17))) (eOp gEq (eArgs gReprD (aCons (eUn (gFld cs_index "index") (eVar 2)) aNil)) (eArgs gReprD (aCons (eVar 1) aNil)))))))
theorem made_gen {i : Int} {v E : PV} {S : Sto} (h1 : testB [some (.int i), some v, some E, none] S = .ok false (S.take S.length)) (h2 : WP (restM [some (.int i), some v, some E, none] S) fun fl S' => fl = .rt (.bl true) ∧ S' = S) :
    m__law_is_made [.int i, v, E] S = .ok (.bl true) S := by
  have h : WP (m__law_is_made [.int i, v, E] S) fun a S' => a = .bl true ∧ S' = S := by
    unfold m__law_is_made b__law_is_made
    refine wp_def rfl ?_
    rw [show startP 4 [PV.int i, v, E] = [some (.int i), some v, some E, none] from rfl]
    refine if_no (show testB [some (.int i), some v, some E, none] S = .ok false S by rw [h1, take_self]) ?_
    refine wp_of h2 fun fl S' ⟨e1, e2⟩ => ?_
    subst e1 e2
    show WP (finV S'.length (.bl true) S') _
    rw [finV_bl, take_self]
    exact ⟨rfl, rfl⟩
  obtain ⟨a, S', e, rfl, rfl⟩ := h.ex
  exact e
section
variable {v : PV} {S : Sto}
theorem made0 (hv : Rp v) : m__law_is_made [.int 0, v, (.err "InvalidText" [.str "place", v])] S = .ok (.bl true) S := by
  obtain ⟨z, hz⟩ := hv.rep
  refine made_gen tt0 ?_
  simp only [wp_ok, wp_no, ↓wp_bind, ↓R.bind_ok, ↓sSeq, ↓sNil, ↓sSet, ↓sAsg, ↓sIf, ↓sRet, ↓sExpr, ↓sPar, ↓sPar3, ↓sFor, ↓nName, ↓nTup, ↓nCons, ↓nNil, ↓nNs, ↓eVar, ↓eC, ↓eOp, ↓eUn, ↓eArgs, ↓eNew, ↓aCons, ↓aNil, ↓tV, ↓tT, toB, truP, ↓tNotE, ↓tAndE, ↓tOrE, ↓tYesE, ↓eAndV, ↓eOrV, ↓eNotV, ↓eNotT, ↓eIf, gAdd_int, gAdd_tup, Py.gSub, gMul_l, gMul_r, gMod, gFdiv, gNeg, gLt, gLe, gGt, gGe, gInt, gIx, gEq_int, gEq_str, gEq_bl, gNe_int, gNe_str, gNe_bl, gIsN, gNotN, getQ, getL, gSetL, ↓nSubL, gDivmod, gMin2, gMax2, ↓mkDef, ↓mkNew, startP, finF, finO, finV_tup, finV_int, finV_bl, finV_lst, finV_non, finV_str, finV_ref, ↓eChain, tyP, gIsi, isiB, ↓iArgs, ↓iSeq, iterP, ↓fComp, wipeP, ↓eSl, ↓oNone, ↓oSome, gSl, ↓eMeth0, ↓eMeth1, ixN, atI0, atI1, atI2, atI3, List.length_cons, List.length_nil, List.map_cons, List.map_nil, List.replicate, List.cons_append, List.nil_append, List.append_nil, List.getElem?_cons_zero, List.getElem?_cons_succ, List.getElem?_nil, List.set_cons_zero, List.set_cons_succ, List.set_nil, List.length_set, List.length_append, Nat.add_sub_cancel, Nat.reduceAdd, Nat.reduceSub, Nat.reduceLT, Nat.reduceEqDiff, Nat.reduceLeDiff, Nat.le_refl, Nat.zero_le, if_true, if_false, ↓reduceIte, decide_eq_true_eq, Bool.false_eq_true, Bool.true_eq_false, Bool.not_true, Bool.not_false, Option.isSome_some, forall_const, not_true_eq_false, not_false_eq_true, imp_self, false_implies, true_implies, implies_true, and_true, true_and, Int.toNat_zero, Nat.zero_add, Int.reduceLE, Int.reduceLT, Int.reduceNeg, Int.reduceToNat, Int.reducePow, Int.reduceGT, Int.cast_ofNat_Int, true_or, or_true, Int.ofNat_eq_natCast, decide_true, decide_false, Int.reduceEq, List.isEmpty_cons, List.isEmpty_nil, eDGet1,  keyP, Option.map_some, Option.map_none, Option.getD_some, Option.isSome_some, reduceCtorEq, and_self,  allPure_nil, allPure_cons, Bool.and_true, Bool.true_and, Bool.false_and, Bool.and_false, Bool.not_eq_true, Bool.not_eq_false, gTupP_nil, gLstP_nil, gTupP_ok, gLstP_ok, isRef_tup, isRef_int, isRef_str, isRef_bl, Bool.or_false, Bool.or_true, Bool.true_or, Bool.false_or, f0_, hz]
  all_goals exact ⟨rfl, rfl⟩
theorem made1 (hv : Rp v) : m__law_is_made [.int 1, v, (.err "InvalidTerm" [.str "given", v])] S = .ok (.bl true) S := by
  obtain ⟨z, hz⟩ := hv.rep
  refine made_gen tt1 ?_
  simp only [wp_ok, wp_no, ↓wp_bind, ↓R.bind_ok, ↓sSeq, ↓sNil, ↓sSet, ↓sAsg, ↓sIf, ↓sRet, ↓sExpr, ↓sPar, ↓sPar3, ↓sFor, ↓nName, ↓nTup, ↓nCons, ↓nNil, ↓nNs, ↓eVar, ↓eC, ↓eOp, ↓eUn, ↓eArgs, ↓eNew, ↓aCons, ↓aNil, ↓tV, ↓tT, toB, truP, ↓tNotE, ↓tAndE, ↓tOrE, ↓tYesE, ↓eAndV, ↓eOrV, ↓eNotV, ↓eNotT, ↓eIf, gAdd_int, gAdd_tup, Py.gSub, gMul_l, gMul_r, gMod, gFdiv, gNeg, gLt, gLe, gGt, gGe, gInt, gIx, gEq_int, gEq_str, gEq_bl, gNe_int, gNe_str, gNe_bl, gIsN, gNotN, getQ, getL, gSetL, ↓nSubL, gDivmod, gMin2, gMax2, ↓mkDef, ↓mkNew, startP, finF, finO, finV_tup, finV_int, finV_bl, finV_lst, finV_non, finV_str, finV_ref, ↓eChain, tyP, gIsi, isiB, ↓iArgs, ↓iSeq, iterP, ↓fComp, wipeP, ↓eSl, ↓oNone, ↓oSome, gSl, ↓eMeth0, ↓eMeth1, ixN, atI0, atI1, atI2, atI3, List.length_cons, List.length_nil, List.map_cons, List.map_nil, List.replicate, List.cons_append, List.nil_append, List.append_nil, List.getElem?_cons_zero, List.getElem?_cons_succ, List.getElem?_nil, List.set_cons_zero, List.set_cons_succ, List.set_nil, List.length_set, List.length_append, Nat.add_sub_cancel, Nat.reduceAdd, Nat.reduceSub, Nat.reduceLT, Nat.reduceEqDiff, Nat.reduceLeDiff, Nat.le_refl, Nat.zero_le, if_true, if_false, ↓reduceIte, decide_eq_true_eq, Bool.false_eq_true, Bool.true_eq_false, Bool.not_true, Bool.not_false, Option.isSome_some, forall_const, not_true_eq_false, not_false_eq_true, imp_self, false_implies, true_implies, implies_true, and_true, true_and, Int.toNat_zero, Nat.zero_add, Int.reduceLE, Int.reduceLT, Int.reduceNeg, Int.reduceToNat, Int.reducePow, Int.reduceGT, Int.cast_ofNat_Int, true_or, or_true, Int.ofNat_eq_natCast, decide_true, decide_false, Int.reduceEq, List.isEmpty_cons, List.isEmpty_nil, eDGet1,  keyP, Option.map_some, Option.map_none, Option.getD_some, Option.isSome_some, reduceCtorEq, and_self,  allPure_nil, allPure_cons, Bool.and_true, Bool.true_and, Bool.false_and, Bool.and_false, Bool.not_eq_true, Bool.not_eq_false, gTupP_nil, gLstP_nil, gTupP_ok, gLstP_ok, isRef_tup, isRef_int, isRef_str, isRef_bl, Bool.or_false, Bool.or_true, Bool.true_or, Bool.false_or, f1_, hz]
  all_goals exact ⟨rfl, rfl⟩
theorem made2 (hv : Rp v) : m__law_is_made [.int 2, v, (.err "InvalidSource" [.str "given", v])] S = .ok (.bl true) S := by
  obtain ⟨z, hz⟩ := hv.rep
  refine made_gen tt2 ?_
  simp only [wp_ok, wp_no, ↓wp_bind, ↓R.bind_ok, ↓sSeq, ↓sNil, ↓sSet, ↓sAsg, ↓sIf, ↓sRet, ↓sExpr, ↓sPar, ↓sPar3, ↓sFor, ↓nName, ↓nTup, ↓nCons, ↓nNil, ↓nNs, ↓eVar, ↓eC, ↓eOp, ↓eUn, ↓eArgs, ↓eNew, ↓aCons, ↓aNil, ↓tV, ↓tT, toB, truP, ↓tNotE, ↓tAndE, ↓tOrE, ↓tYesE, ↓eAndV, ↓eOrV, ↓eNotV, ↓eNotT, ↓eIf, gAdd_int, gAdd_tup, Py.gSub, gMul_l, gMul_r, gMod, gFdiv, gNeg, gLt, gLe, gGt, gGe, gInt, gIx, gEq_int, gEq_str, gEq_bl, gNe_int, gNe_str, gNe_bl, gIsN, gNotN, getQ, getL, gSetL, ↓nSubL, gDivmod, gMin2, gMax2, ↓mkDef, ↓mkNew, startP, finF, finO, finV_tup, finV_int, finV_bl, finV_lst, finV_non, finV_str, finV_ref, ↓eChain, tyP, gIsi, isiB, ↓iArgs, ↓iSeq, iterP, ↓fComp, wipeP, ↓eSl, ↓oNone, ↓oSome, gSl, ↓eMeth0, ↓eMeth1, ixN, atI0, atI1, atI2, atI3, List.length_cons, List.length_nil, List.map_cons, List.map_nil, List.replicate, List.cons_append, List.nil_append, List.append_nil, List.getElem?_cons_zero, List.getElem?_cons_succ, List.getElem?_nil, List.set_cons_zero, List.set_cons_succ, List.set_nil, List.length_set, List.length_append, Nat.add_sub_cancel, Nat.reduceAdd, Nat.reduceSub, Nat.reduceLT, Nat.reduceEqDiff, Nat.reduceLeDiff, Nat.le_refl, Nat.zero_le, if_true, if_false, ↓reduceIte, decide_eq_true_eq, Bool.false_eq_true, Bool.true_eq_false, Bool.not_true, Bool.not_false, Option.isSome_some, forall_const, not_true_eq_false, not_false_eq_true, imp_self, false_implies, true_implies, implies_true, and_true, true_and, Int.toNat_zero, Nat.zero_add, Int.reduceLE, Int.reduceLT, Int.reduceNeg, Int.reduceToNat, Int.reducePow, Int.reduceGT, Int.cast_ofNat_Int, true_or, or_true, Int.ofNat_eq_natCast, decide_true, decide_false, Int.reduceEq, List.isEmpty_cons, List.isEmpty_nil, eDGet1,  keyP, Option.map_some, Option.map_none, Option.getD_some, Option.isSome_some, reduceCtorEq, and_self,  allPure_nil, allPure_cons, Bool.and_true, Bool.true_and, Bool.false_and, Bool.and_false, Bool.not_eq_true, Bool.not_eq_false, gTupP_nil, gLstP_nil, gTupP_ok, gLstP_ok, isRef_tup, isRef_int, isRef_str, isRef_bl, Bool.or_false, Bool.or_true, Bool.true_or, Bool.false_or, f2_, hz]
  all_goals exact ⟨rfl, rfl⟩
theorem made3 (hv : Rp v) : m__law_is_made [.int 3, v, (.err "InvalidProgram" [.str "given", v])] S = .ok (.bl true) S := by
  obtain ⟨z, hz⟩ := hv.rep
  refine made_gen tt3 ?_
  simp only [wp_ok, wp_no, ↓wp_bind, ↓R.bind_ok, ↓sSeq, ↓sNil, ↓sSet, ↓sAsg, ↓sIf, ↓sRet, ↓sExpr, ↓sPar, ↓sPar3, ↓sFor, ↓nName, ↓nTup, ↓nCons, ↓nNil, ↓nNs, ↓eVar, ↓eC, ↓eOp, ↓eUn, ↓eArgs, ↓eNew, ↓aCons, ↓aNil, ↓tV, ↓tT, toB, truP, ↓tNotE, ↓tAndE, ↓tOrE, ↓tYesE, ↓eAndV, ↓eOrV, ↓eNotV, ↓eNotT, ↓eIf, gAdd_int, gAdd_tup, Py.gSub, gMul_l, gMul_r, gMod, gFdiv, gNeg, gLt, gLe, gGt, gGe, gInt, gIx, gEq_int, gEq_str, gEq_bl, gNe_int, gNe_str, gNe_bl, gIsN, gNotN, getQ, getL, gSetL, ↓nSubL, gDivmod, gMin2, gMax2, ↓mkDef, ↓mkNew, startP, finF, finO, finV_tup, finV_int, finV_bl, finV_lst, finV_non, finV_str, finV_ref, ↓eChain, tyP, gIsi, isiB, ↓iArgs, ↓iSeq, iterP, ↓fComp, wipeP, ↓eSl, ↓oNone, ↓oSome, gSl, ↓eMeth0, ↓eMeth1, ixN, atI0, atI1, atI2, atI3, List.length_cons, List.length_nil, List.map_cons, List.map_nil, List.replicate, List.cons_append, List.nil_append, List.append_nil, List.getElem?_cons_zero, List.getElem?_cons_succ, List.getElem?_nil, List.set_cons_zero, List.set_cons_succ, List.set_nil, List.length_set, List.length_append, Nat.add_sub_cancel, Nat.reduceAdd, Nat.reduceSub, Nat.reduceLT, Nat.reduceEqDiff, Nat.reduceLeDiff, Nat.le_refl, Nat.zero_le, if_true, if_false, ↓reduceIte, decide_eq_true_eq, Bool.false_eq_true, Bool.true_eq_false, Bool.not_true, Bool.not_false, Option.isSome_some, forall_const, not_true_eq_false, not_false_eq_true, imp_self, false_implies, true_implies, implies_true, and_true, true_and, Int.toNat_zero, Nat.zero_add, Int.reduceLE, Int.reduceLT, Int.reduceNeg, Int.reduceToNat, Int.reducePow, Int.reduceGT, Int.cast_ofNat_Int, true_or, or_true, Int.ofNat_eq_natCast, decide_true, decide_false, Int.reduceEq, List.isEmpty_cons, List.isEmpty_nil, eDGet1,  keyP, Option.map_some, Option.map_none, Option.getD_some, Option.isSome_some, reduceCtorEq, and_self,  allPure_nil, allPure_cons, Bool.and_true, Bool.true_and, Bool.false_and, Bool.and_false, Bool.not_eq_true, Bool.not_eq_false, gTupP_nil, gLstP_nil, gTupP_ok, gLstP_ok, isRef_tup, isRef_int, isRef_str, isRef_bl, Bool.or_false, Bool.or_true, Bool.true_or, Bool.false_or, f3_, hz]
  all_goals exact ⟨rfl, rfl⟩
theorem made4 (hv : Rp v) : m__law_is_made [.int 4, v, (.err "InvalidNumber" [.str "given", v])] S = .ok (.bl true) S := by
  obtain ⟨z, hz⟩ := hv.rep
  refine made_gen tt4 ?_
  simp only [wp_ok, wp_no, ↓wp_bind, ↓R.bind_ok, ↓sSeq, ↓sNil, ↓sSet, ↓sAsg, ↓sIf, ↓sRet, ↓sExpr, ↓sPar, ↓sPar3, ↓sFor, ↓nName, ↓nTup, ↓nCons, ↓nNil, ↓nNs, ↓eVar, ↓eC, ↓eOp, ↓eUn, ↓eArgs, ↓eNew, ↓aCons, ↓aNil, ↓tV, ↓tT, toB, truP, ↓tNotE, ↓tAndE, ↓tOrE, ↓tYesE, ↓eAndV, ↓eOrV, ↓eNotV, ↓eNotT, ↓eIf, gAdd_int, gAdd_tup, Py.gSub, gMul_l, gMul_r, gMod, gFdiv, gNeg, gLt, gLe, gGt, gGe, gInt, gIx, gEq_int, gEq_str, gEq_bl, gNe_int, gNe_str, gNe_bl, gIsN, gNotN, getQ, getL, gSetL, ↓nSubL, gDivmod, gMin2, gMax2, ↓mkDef, ↓mkNew, startP, finF, finO, finV_tup, finV_int, finV_bl, finV_lst, finV_non, finV_str, finV_ref, ↓eChain, tyP, gIsi, isiB, ↓iArgs, ↓iSeq, iterP, ↓fComp, wipeP, ↓eSl, ↓oNone, ↓oSome, gSl, ↓eMeth0, ↓eMeth1, ixN, atI0, atI1, atI2, atI3, List.length_cons, List.length_nil, List.map_cons, List.map_nil, List.replicate, List.cons_append, List.nil_append, List.append_nil, List.getElem?_cons_zero, List.getElem?_cons_succ, List.getElem?_nil, List.set_cons_zero, List.set_cons_succ, List.set_nil, List.length_set, List.length_append, Nat.add_sub_cancel, Nat.reduceAdd, Nat.reduceSub, Nat.reduceLT, Nat.reduceEqDiff, Nat.reduceLeDiff, Nat.le_refl, Nat.zero_le, if_true, if_false, ↓reduceIte, decide_eq_true_eq, Bool.false_eq_true, Bool.true_eq_false, Bool.not_true, Bool.not_false, Option.isSome_some, forall_const, not_true_eq_false, not_false_eq_true, imp_self, false_implies, true_implies, implies_true, and_true, true_and, Int.toNat_zero, Nat.zero_add, Int.reduceLE, Int.reduceLT, Int.reduceNeg, Int.reduceToNat, Int.reducePow, Int.reduceGT, Int.cast_ofNat_Int, true_or, or_true, Int.ofNat_eq_natCast, decide_true, decide_false, Int.reduceEq, List.isEmpty_cons, List.isEmpty_nil, eDGet1,  keyP, Option.map_some, Option.map_none, Option.getD_some, Option.isSome_some, reduceCtorEq, and_self,  allPure_nil, allPure_cons, Bool.and_true, Bool.true_and, Bool.false_and, Bool.and_false, Bool.not_eq_true, Bool.not_eq_false, gTupP_nil, gLstP_nil, gTupP_ok, gLstP_ok, isRef_tup, isRef_int, isRef_str, isRef_bl, Bool.or_false, Bool.or_true, Bool.true_or, Bool.false_or, f4_, hz]
  all_goals exact ⟨rfl, rfl⟩
theorem made5 (hv : Rp v) : m__law_is_made [.int 5, v, (.err "InvalidName" [.str "given", v])] S = .ok (.bl true) S := by
  obtain ⟨z, hz⟩ := hv.rep
  refine made_gen tt5 ?_
  simp only [wp_ok, wp_no, ↓wp_bind, ↓R.bind_ok, ↓sSeq, ↓sNil, ↓sSet, ↓sAsg, ↓sIf, ↓sRet, ↓sExpr, ↓sPar, ↓sPar3, ↓sFor, ↓nName, ↓nTup, ↓nCons, ↓nNil, ↓nNs, ↓eVar, ↓eC, ↓eOp, ↓eUn, ↓eArgs, ↓eNew, ↓aCons, ↓aNil, ↓tV, ↓tT, toB, truP, ↓tNotE, ↓tAndE, ↓tOrE, ↓tYesE, ↓eAndV, ↓eOrV, ↓eNotV, ↓eNotT, ↓eIf, gAdd_int, gAdd_tup, Py.gSub, gMul_l, gMul_r, gMod, gFdiv, gNeg, gLt, gLe, gGt, gGe, gInt, gIx, gEq_int, gEq_str, gEq_bl, gNe_int, gNe_str, gNe_bl, gIsN, gNotN, getQ, getL, gSetL, ↓nSubL, gDivmod, gMin2, gMax2, ↓mkDef, ↓mkNew, startP, finF, finO, finV_tup, finV_int, finV_bl, finV_lst, finV_non, finV_str, finV_ref, ↓eChain, tyP, gIsi, isiB, ↓iArgs, ↓iSeq, iterP, ↓fComp, wipeP, ↓eSl, ↓oNone, ↓oSome, gSl, ↓eMeth0, ↓eMeth1, ixN, atI0, atI1, atI2, atI3, List.length_cons, List.length_nil, List.map_cons, List.map_nil, List.replicate, List.cons_append, List.nil_append, List.append_nil, List.getElem?_cons_zero, List.getElem?_cons_succ, List.getElem?_nil, List.set_cons_zero, List.set_cons_succ, List.set_nil, List.length_set, List.length_append, Nat.add_sub_cancel, Nat.reduceAdd, Nat.reduceSub, Nat.reduceLT, Nat.reduceEqDiff, Nat.reduceLeDiff, Nat.le_refl, Nat.zero_le, if_true, if_false, ↓reduceIte, decide_eq_true_eq, Bool.false_eq_true, Bool.true_eq_false, Bool.not_true, Bool.not_false, Option.isSome_some, forall_const, not_true_eq_false, not_false_eq_true, imp_self, false_implies, true_implies, implies_true, and_true, true_and, Int.toNat_zero, Nat.zero_add, Int.reduceLE, Int.reduceLT, Int.reduceNeg, Int.reduceToNat, Int.reducePow, Int.reduceGT, Int.cast_ofNat_Int, true_or, or_true, Int.ofNat_eq_natCast, decide_true, decide_false, Int.reduceEq, List.isEmpty_cons, List.isEmpty_nil, eDGet1,  keyP, Option.map_some, Option.map_none, Option.getD_some, Option.isSome_some, reduceCtorEq, and_self,  allPure_nil, allPure_cons, Bool.and_true, Bool.true_and, Bool.false_and, Bool.and_false, Bool.not_eq_true, Bool.not_eq_false, gTupP_nil, gLstP_nil, gTupP_ok, gLstP_ok, isRef_tup, isRef_int, isRef_str, isRef_bl, Bool.or_false, Bool.or_true, Bool.true_or, Bool.false_or, f5_, hz]
  all_goals exact ⟨rfl, rfl⟩
theorem made6 (hv : Rp v) : m__law_is_made [.int 6, v, (.err "InvalidPlace" [.str "given", v])] S = .ok (.bl true) S := by
  obtain ⟨z, hz⟩ := hv.rep
  refine made_gen tt6 ?_
  simp only [wp_ok, wp_no, ↓wp_bind, ↓R.bind_ok, ↓sSeq, ↓sNil, ↓sSet, ↓sAsg, ↓sIf, ↓sRet, ↓sExpr, ↓sPar, ↓sPar3, ↓sFor, ↓nName, ↓nTup, ↓nCons, ↓nNil, ↓nNs, ↓eVar, ↓eC, ↓eOp, ↓eUn, ↓eArgs, ↓eNew, ↓aCons, ↓aNil, ↓tV, ↓tT, toB, truP, ↓tNotE, ↓tAndE, ↓tOrE, ↓tYesE, ↓eAndV, ↓eOrV, ↓eNotV, ↓eNotT, ↓eIf, gAdd_int, gAdd_tup, Py.gSub, gMul_l, gMul_r, gMod, gFdiv, gNeg, gLt, gLe, gGt, gGe, gInt, gIx, gEq_int, gEq_str, gEq_bl, gNe_int, gNe_str, gNe_bl, gIsN, gNotN, getQ, getL, gSetL, ↓nSubL, gDivmod, gMin2, gMax2, ↓mkDef, ↓mkNew, startP, finF, finO, finV_tup, finV_int, finV_bl, finV_lst, finV_non, finV_str, finV_ref, ↓eChain, tyP, gIsi, isiB, ↓iArgs, ↓iSeq, iterP, ↓fComp, wipeP, ↓eSl, ↓oNone, ↓oSome, gSl, ↓eMeth0, ↓eMeth1, ixN, atI0, atI1, atI2, atI3, List.length_cons, List.length_nil, List.map_cons, List.map_nil, List.replicate, List.cons_append, List.nil_append, List.append_nil, List.getElem?_cons_zero, List.getElem?_cons_succ, List.getElem?_nil, List.set_cons_zero, List.set_cons_succ, List.set_nil, List.length_set, List.length_append, Nat.add_sub_cancel, Nat.reduceAdd, Nat.reduceSub, Nat.reduceLT, Nat.reduceEqDiff, Nat.reduceLeDiff, Nat.le_refl, Nat.zero_le, if_true, if_false, ↓reduceIte, decide_eq_true_eq, Bool.false_eq_true, Bool.true_eq_false, Bool.not_true, Bool.not_false, Option.isSome_some, forall_const, not_true_eq_false, not_false_eq_true, imp_self, false_implies, true_implies, implies_true, and_true, true_and, Int.toNat_zero, Nat.zero_add, Int.reduceLE, Int.reduceLT, Int.reduceNeg, Int.reduceToNat, Int.reducePow, Int.reduceGT, Int.cast_ofNat_Int, true_or, or_true, Int.ofNat_eq_natCast, decide_true, decide_false, Int.reduceEq, List.isEmpty_cons, List.isEmpty_nil, eDGet1,  keyP, Option.map_some, Option.map_none, Option.getD_some, Option.isSome_some, reduceCtorEq, and_self,  allPure_nil, allPure_cons, Bool.and_true, Bool.true_and, Bool.false_and, Bool.and_false, Bool.not_eq_true, Bool.not_eq_false, gTupP_nil, gLstP_nil, gTupP_ok, gLstP_ok, isRef_tup, isRef_int, isRef_str, isRef_bl, Bool.or_false, Bool.or_true, Bool.true_or, Bool.false_or, f6_, hz]
  all_goals exact ⟨rfl, rfl⟩
theorem made7 (hv : Rp v) : m__law_is_made [.int 7, v, (.err "InvalidRows" [.str "given", v])] S = .ok (.bl true) S := by
  obtain ⟨z, hz⟩ := hv.rep
  refine made_gen tt7 ?_
  simp only [wp_ok, wp_no, ↓wp_bind, ↓R.bind_ok, ↓sSeq, ↓sNil, ↓sSet, ↓sAsg, ↓sIf, ↓sRet, ↓sExpr, ↓sPar, ↓sPar3, ↓sFor, ↓nName, ↓nTup, ↓nCons, ↓nNil, ↓nNs, ↓eVar, ↓eC, ↓eOp, ↓eUn, ↓eArgs, ↓eNew, ↓aCons, ↓aNil, ↓tV, ↓tT, toB, truP, ↓tNotE, ↓tAndE, ↓tOrE, ↓tYesE, ↓eAndV, ↓eOrV, ↓eNotV, ↓eNotT, ↓eIf, gAdd_int, gAdd_tup, Py.gSub, gMul_l, gMul_r, gMod, gFdiv, gNeg, gLt, gLe, gGt, gGe, gInt, gIx, gEq_int, gEq_str, gEq_bl, gNe_int, gNe_str, gNe_bl, gIsN, gNotN, getQ, getL, gSetL, ↓nSubL, gDivmod, gMin2, gMax2, ↓mkDef, ↓mkNew, startP, finF, finO, finV_tup, finV_int, finV_bl, finV_lst, finV_non, finV_str, finV_ref, ↓eChain, tyP, gIsi, isiB, ↓iArgs, ↓iSeq, iterP, ↓fComp, wipeP, ↓eSl, ↓oNone, ↓oSome, gSl, ↓eMeth0, ↓eMeth1, ixN, atI0, atI1, atI2, atI3, List.length_cons, List.length_nil, List.map_cons, List.map_nil, List.replicate, List.cons_append, List.nil_append, List.append_nil, List.getElem?_cons_zero, List.getElem?_cons_succ, List.getElem?_nil, List.set_cons_zero, List.set_cons_succ, List.set_nil, List.length_set, List.length_append, Nat.add_sub_cancel, Nat.reduceAdd, Nat.reduceSub, Nat.reduceLT, Nat.reduceEqDiff, Nat.reduceLeDiff, Nat.le_refl, Nat.zero_le, if_true, if_false, ↓reduceIte, decide_eq_true_eq, Bool.false_eq_true, Bool.true_eq_false, Bool.not_true, Bool.not_false, Option.isSome_some, forall_const, not_true_eq_false, not_false_eq_true, imp_self, false_implies, true_implies, implies_true, and_true, true_and, Int.toNat_zero, Nat.zero_add, Int.reduceLE, Int.reduceLT, Int.reduceNeg, Int.reduceToNat, Int.reducePow, Int.reduceGT, Int.cast_ofNat_Int, true_or, or_true, Int.ofNat_eq_natCast, decide_true, decide_false, Int.reduceEq, List.isEmpty_cons, List.isEmpty_nil, eDGet1,  keyP, Option.map_some, Option.map_none, Option.getD_some, Option.isSome_some, reduceCtorEq, and_self,  allPure_nil, allPure_cons, Bool.and_true, Bool.true_and, Bool.false_and, Bool.and_false, Bool.not_eq_true, Bool.not_eq_false, gTupP_nil, gLstP_nil, gTupP_ok, gLstP_ok, isRef_tup, isRef_int, isRef_str, isRef_bl, Bool.or_false, Bool.or_true, Bool.true_or, Bool.false_or, f7_, hz]
  all_goals exact ⟨rfl, rfl⟩
theorem made8 (hv : Rp v) : m__law_is_made [.int 8, v, (.err "InvalidSizes" [.str "given", v])] S = .ok (.bl true) S := by
  obtain ⟨z, hz⟩ := hv.rep
  refine made_gen tt8 ?_
  simp only [wp_ok, wp_no, ↓wp_bind, ↓R.bind_ok, ↓sSeq, ↓sNil, ↓sSet, ↓sAsg, ↓sIf, ↓sRet, ↓sExpr, ↓sPar, ↓sPar3, ↓sFor, ↓nName, ↓nTup, ↓nCons, ↓nNil, ↓nNs, ↓eVar, ↓eC, ↓eOp, ↓eUn, ↓eArgs, ↓eNew, ↓aCons, ↓aNil, ↓tV, ↓tT, toB, truP, ↓tNotE, ↓tAndE, ↓tOrE, ↓tYesE, ↓eAndV, ↓eOrV, ↓eNotV, ↓eNotT, ↓eIf, gAdd_int, gAdd_tup, Py.gSub, gMul_l, gMul_r, gMod, gFdiv, gNeg, gLt, gLe, gGt, gGe, gInt, gIx, gEq_int, gEq_str, gEq_bl, gNe_int, gNe_str, gNe_bl, gIsN, gNotN, getQ, getL, gSetL, ↓nSubL, gDivmod, gMin2, gMax2, ↓mkDef, ↓mkNew, startP, finF, finO, finV_tup, finV_int, finV_bl, finV_lst, finV_non, finV_str, finV_ref, ↓eChain, tyP, gIsi, isiB, ↓iArgs, ↓iSeq, iterP, ↓fComp, wipeP, ↓eSl, ↓oNone, ↓oSome, gSl, ↓eMeth0, ↓eMeth1, ixN, atI0, atI1, atI2, atI3, List.length_cons, List.length_nil, List.map_cons, List.map_nil, List.replicate, List.cons_append, List.nil_append, List.append_nil, List.getElem?_cons_zero, List.getElem?_cons_succ, List.getElem?_nil, List.set_cons_zero, List.set_cons_succ, List.set_nil, List.length_set, List.length_append, Nat.add_sub_cancel, Nat.reduceAdd, Nat.reduceSub, Nat.reduceLT, Nat.reduceEqDiff, Nat.reduceLeDiff, Nat.le_refl, Nat.zero_le, if_true, if_false, ↓reduceIte, decide_eq_true_eq, Bool.false_eq_true, Bool.true_eq_false, Bool.not_true, Bool.not_false, Option.isSome_some, forall_const, not_true_eq_false, not_false_eq_true, imp_self, false_implies, true_implies, implies_true, and_true, true_and, Int.toNat_zero, Nat.zero_add, Int.reduceLE, Int.reduceLT, Int.reduceNeg, Int.reduceToNat, Int.reducePow, Int.reduceGT, Int.cast_ofNat_Int, true_or, or_true, Int.ofNat_eq_natCast, decide_true, decide_false, Int.reduceEq, List.isEmpty_cons, List.isEmpty_nil, eDGet1,  keyP, Option.map_some, Option.map_none, Option.getD_some, Option.isSome_some, reduceCtorEq, and_self,  allPure_nil, allPure_cons, Bool.and_true, Bool.true_and, Bool.false_and, Bool.and_false, Bool.not_eq_true, Bool.not_eq_false, gTupP_nil, gLstP_nil, gTupP_ok, gLstP_ok, isRef_tup, isRef_int, isRef_str, isRef_bl, Bool.or_false, Bool.or_true, Bool.true_or, Bool.false_or, f8_, hz]
  all_goals exact ⟨rfl, rfl⟩
theorem made9 (hv : Rp v) : m__law_is_made [.int 9, v, (.err "InvalidBook" [.str "index", v])] S = .ok (.bl true) S := by
  obtain ⟨z, hz⟩ := hv.rep
  refine made_gen tt9 ?_
  simp only [wp_ok, wp_no, ↓wp_bind, ↓R.bind_ok, ↓sSeq, ↓sNil, ↓sSet, ↓sAsg, ↓sIf, ↓sRet, ↓sExpr, ↓sPar, ↓sPar3, ↓sFor, ↓nName, ↓nTup, ↓nCons, ↓nNil, ↓nNs, ↓eVar, ↓eC, ↓eOp, ↓eUn, ↓eArgs, ↓eNew, ↓aCons, ↓aNil, ↓tV, ↓tT, toB, truP, ↓tNotE, ↓tAndE, ↓tOrE, ↓tYesE, ↓eAndV, ↓eOrV, ↓eNotV, ↓eNotT, ↓eIf, gAdd_int, gAdd_tup, Py.gSub, gMul_l, gMul_r, gMod, gFdiv, gNeg, gLt, gLe, gGt, gGe, gInt, gIx, gEq_int, gEq_str, gEq_bl, gNe_int, gNe_str, gNe_bl, gIsN, gNotN, getQ, getL, gSetL, ↓nSubL, gDivmod, gMin2, gMax2, ↓mkDef, ↓mkNew, startP, finF, finO, finV_tup, finV_int, finV_bl, finV_lst, finV_non, finV_str, finV_ref, ↓eChain, tyP, gIsi, isiB, ↓iArgs, ↓iSeq, iterP, ↓fComp, wipeP, ↓eSl, ↓oNone, ↓oSome, gSl, ↓eMeth0, ↓eMeth1, ixN, atI0, atI1, atI2, atI3, List.length_cons, List.length_nil, List.map_cons, List.map_nil, List.replicate, List.cons_append, List.nil_append, List.append_nil, List.getElem?_cons_zero, List.getElem?_cons_succ, List.getElem?_nil, List.set_cons_zero, List.set_cons_succ, List.set_nil, List.length_set, List.length_append, Nat.add_sub_cancel, Nat.reduceAdd, Nat.reduceSub, Nat.reduceLT, Nat.reduceEqDiff, Nat.reduceLeDiff, Nat.le_refl, Nat.zero_le, if_true, if_false, ↓reduceIte, decide_eq_true_eq, Bool.false_eq_true, Bool.true_eq_false, Bool.not_true, Bool.not_false, Option.isSome_some, forall_const, not_true_eq_false, not_false_eq_true, imp_self, false_implies, true_implies, implies_true, and_true, true_and, Int.toNat_zero, Nat.zero_add, Int.reduceLE, Int.reduceLT, Int.reduceNeg, Int.reduceToNat, Int.reducePow, Int.reduceGT, Int.cast_ofNat_Int, true_or, or_true, Int.ofNat_eq_natCast, decide_true, decide_false, Int.reduceEq, List.isEmpty_cons, List.isEmpty_nil, eDGet1,  keyP, Option.map_some, Option.map_none, Option.getD_some, Option.isSome_some, reduceCtorEq, and_self,  allPure_nil, allPure_cons, Bool.and_true, Bool.true_and, Bool.false_and, Bool.and_false, Bool.not_eq_true, Bool.not_eq_false, gTupP_nil, gLstP_nil, gTupP_ok, gLstP_ok, isRef_tup, isRef_int, isRef_str, isRef_bl, Bool.or_false, Bool.or_true, Bool.true_or, Bool.false_or, f9_, hz]
  all_goals exact ⟨rfl, rfl⟩
theorem made10 (hv : Rp v) : m__law_is_made [.int 10, v, (.err "InvalidParts" [.str "index", v])] S = .ok (.bl true) S := by
  obtain ⟨z, hz⟩ := hv.rep
  refine made_gen tt10 ?_
  simp only [wp_ok, wp_no, ↓wp_bind, ↓R.bind_ok, ↓sSeq, ↓sNil, ↓sSet, ↓sAsg, ↓sIf, ↓sRet, ↓sExpr, ↓sPar, ↓sPar3, ↓sFor, ↓nName, ↓nTup, ↓nCons, ↓nNil, ↓nNs, ↓eVar, ↓eC, ↓eOp, ↓eUn, ↓eArgs, ↓eNew, ↓aCons, ↓aNil, ↓tV, ↓tT, toB, truP, ↓tNotE, ↓tAndE, ↓tOrE, ↓tYesE, ↓eAndV, ↓eOrV, ↓eNotV, ↓eNotT, ↓eIf, gAdd_int, gAdd_tup, Py.gSub, gMul_l, gMul_r, gMod, gFdiv, gNeg, gLt, gLe, gGt, gGe, gInt, gIx, gEq_int, gEq_str, gEq_bl, gNe_int, gNe_str, gNe_bl, gIsN, gNotN, getQ, getL, gSetL, ↓nSubL, gDivmod, gMin2, gMax2, ↓mkDef, ↓mkNew, startP, finF, finO, finV_tup, finV_int, finV_bl, finV_lst, finV_non, finV_str, finV_ref, ↓eChain, tyP, gIsi, isiB, ↓iArgs, ↓iSeq, iterP, ↓fComp, wipeP, ↓eSl, ↓oNone, ↓oSome, gSl, ↓eMeth0, ↓eMeth1, ixN, atI0, atI1, atI2, atI3, List.length_cons, List.length_nil, List.map_cons, List.map_nil, List.replicate, List.cons_append, List.nil_append, List.append_nil, List.getElem?_cons_zero, List.getElem?_cons_succ, List.getElem?_nil, List.set_cons_zero, List.set_cons_succ, List.set_nil, List.length_set, List.length_append, Nat.add_sub_cancel, Nat.reduceAdd, Nat.reduceSub, Nat.reduceLT, Nat.reduceEqDiff, Nat.reduceLeDiff, Nat.le_refl, Nat.zero_le, if_true, if_false, ↓reduceIte, decide_eq_true_eq, Bool.false_eq_true, Bool.true_eq_false, Bool.not_true, Bool.not_false, Option.isSome_some, forall_const, not_true_eq_false, not_false_eq_true, imp_self, false_implies, true_implies, implies_true, and_true, true_and, Int.toNat_zero, Nat.zero_add, Int.reduceLE, Int.reduceLT, Int.reduceNeg, Int.reduceToNat, Int.reducePow, Int.reduceGT, Int.cast_ofNat_Int, true_or, or_true, Int.ofNat_eq_natCast, decide_true, decide_false, Int.reduceEq, List.isEmpty_cons, List.isEmpty_nil, eDGet1,  keyP, Option.map_some, Option.map_none, Option.getD_some, Option.isSome_some, reduceCtorEq, and_self,  allPure_nil, allPure_cons, Bool.and_true, Bool.true_and, Bool.false_and, Bool.and_false, Bool.not_eq_true, Bool.not_eq_false, gTupP_nil, gLstP_nil, gTupP_ok, gLstP_ok, isRef_tup, isRef_int, isRef_str, isRef_bl, Bool.or_false, Bool.or_true, Bool.true_or, Bool.false_or, f10_, hz]
  all_goals exact ⟨rfl, rfl⟩
theorem made11 (hv : Rp v) : m__law_is_made [.int 11, v, (.err "InvalidWays" [.str "index", v])] S = .ok (.bl true) S := by
  obtain ⟨z, hz⟩ := hv.rep
  refine made_gen tt11 ?_
  simp only [wp_ok, wp_no, ↓wp_bind, ↓R.bind_ok, ↓sSeq, ↓sNil, ↓sSet, ↓sAsg, ↓sIf, ↓sRet, ↓sExpr, ↓sPar, ↓sPar3, ↓sFor, ↓nName, ↓nTup, ↓nCons, ↓nNil, ↓nNs, ↓eVar, ↓eC, ↓eOp, ↓eUn, ↓eArgs, ↓eNew, ↓aCons, ↓aNil, ↓tV, ↓tT, toB, truP, ↓tNotE, ↓tAndE, ↓tOrE, ↓tYesE, ↓eAndV, ↓eOrV, ↓eNotV, ↓eNotT, ↓eIf, gAdd_int, gAdd_tup, Py.gSub, gMul_l, gMul_r, gMod, gFdiv, gNeg, gLt, gLe, gGt, gGe, gInt, gIx, gEq_int, gEq_str, gEq_bl, gNe_int, gNe_str, gNe_bl, gIsN, gNotN, getQ, getL, gSetL, ↓nSubL, gDivmod, gMin2, gMax2, ↓mkDef, ↓mkNew, startP, finF, finO, finV_tup, finV_int, finV_bl, finV_lst, finV_non, finV_str, finV_ref, ↓eChain, tyP, gIsi, isiB, ↓iArgs, ↓iSeq, iterP, ↓fComp, wipeP, ↓eSl, ↓oNone, ↓oSome, gSl, ↓eMeth0, ↓eMeth1, ixN, atI0, atI1, atI2, atI3, List.length_cons, List.length_nil, List.map_cons, List.map_nil, List.replicate, List.cons_append, List.nil_append, List.append_nil, List.getElem?_cons_zero, List.getElem?_cons_succ, List.getElem?_nil, List.set_cons_zero, List.set_cons_succ, List.set_nil, List.length_set, List.length_append, Nat.add_sub_cancel, Nat.reduceAdd, Nat.reduceSub, Nat.reduceLT, Nat.reduceEqDiff, Nat.reduceLeDiff, Nat.le_refl, Nat.zero_le, if_true, if_false, ↓reduceIte, decide_eq_true_eq, Bool.false_eq_true, Bool.true_eq_false, Bool.not_true, Bool.not_false, Option.isSome_some, forall_const, not_true_eq_false, not_false_eq_true, imp_self, false_implies, true_implies, implies_true, and_true, true_and, Int.toNat_zero, Nat.zero_add, Int.reduceLE, Int.reduceLT, Int.reduceNeg, Int.reduceToNat, Int.reducePow, Int.reduceGT, Int.cast_ofNat_Int, true_or, or_true, Int.ofNat_eq_natCast, decide_true, decide_false, Int.reduceEq, List.isEmpty_cons, List.isEmpty_nil, eDGet1,  keyP, Option.map_some, Option.map_none, Option.getD_some, Option.isSome_some, reduceCtorEq, and_self,  allPure_nil, allPure_cons, Bool.and_true, Bool.true_and, Bool.false_and, Bool.and_false, Bool.not_eq_true, Bool.not_eq_false, gTupP_nil, gLstP_nil, gTupP_ok, gLstP_ok, isRef_tup, isRef_int, isRef_str, isRef_bl, Bool.or_false, Bool.or_true, Bool.true_or, Bool.false_or, f11_, hz]
  all_goals exact ⟨rfl, rfl⟩
theorem made12 (hv : Rp v) : m__law_is_made [.int 12, v, (.err "InvalidNames" [.str "index", v])] S = .ok (.bl true) S := by
  obtain ⟨z, hz⟩ := hv.rep
  refine made_gen tt12 ?_
  simp only [wp_ok, wp_no, ↓wp_bind, ↓R.bind_ok, ↓sSeq, ↓sNil, ↓sSet, ↓sAsg, ↓sIf, ↓sRet, ↓sExpr, ↓sPar, ↓sPar3, ↓sFor, ↓nName, ↓nTup, ↓nCons, ↓nNil, ↓nNs, ↓eVar, ↓eC, ↓eOp, ↓eUn, ↓eArgs, ↓eNew, ↓aCons, ↓aNil, ↓tV, ↓tT, toB, truP, ↓tNotE, ↓tAndE, ↓tOrE, ↓tYesE, ↓eAndV, ↓eOrV, ↓eNotV, ↓eNotT, ↓eIf, gAdd_int, gAdd_tup, Py.gSub, gMul_l, gMul_r, gMod, gFdiv, gNeg, gLt, gLe, gGt, gGe, gInt, gIx, gEq_int, gEq_str, gEq_bl, gNe_int, gNe_str, gNe_bl, gIsN, gNotN, getQ, getL, gSetL, ↓nSubL, gDivmod, gMin2, gMax2, ↓mkDef, ↓mkNew, startP, finF, finO, finV_tup, finV_int, finV_bl, finV_lst, finV_non, finV_str, finV_ref, ↓eChain, tyP, gIsi, isiB, ↓iArgs, ↓iSeq, iterP, ↓fComp, wipeP, ↓eSl, ↓oNone, ↓oSome, gSl, ↓eMeth0, ↓eMeth1, ixN, atI0, atI1, atI2, atI3, List.length_cons, List.length_nil, List.map_cons, List.map_nil, List.replicate, List.cons_append, List.nil_append, List.append_nil, List.getElem?_cons_zero, List.getElem?_cons_succ, List.getElem?_nil, List.set_cons_zero, List.set_cons_succ, List.set_nil, List.length_set, List.length_append, Nat.add_sub_cancel, Nat.reduceAdd, Nat.reduceSub, Nat.reduceLT, Nat.reduceEqDiff, Nat.reduceLeDiff, Nat.le_refl, Nat.zero_le, if_true, if_false, ↓reduceIte, decide_eq_true_eq, Bool.false_eq_true, Bool.true_eq_false, Bool.not_true, Bool.not_false, Option.isSome_some, forall_const, not_true_eq_false, not_false_eq_true, imp_self, false_implies, true_implies, implies_true, and_true, true_and, Int.toNat_zero, Nat.zero_add, Int.reduceLE, Int.reduceLT, Int.reduceNeg, Int.reduceToNat, Int.reducePow, Int.reduceGT, Int.cast_ofNat_Int, true_or, or_true, Int.ofNat_eq_natCast, decide_true, decide_false, Int.reduceEq, List.isEmpty_cons, List.isEmpty_nil, eDGet1,  keyP, Option.map_some, Option.map_none, Option.getD_some, Option.isSome_some, reduceCtorEq, and_self,  allPure_nil, allPure_cons, Bool.and_true, Bool.true_and, Bool.false_and, Bool.and_false, Bool.not_eq_true, Bool.not_eq_false, gTupP_nil, gLstP_nil, gTupP_ok, gLstP_ok, isRef_tup, isRef_int, isRef_str, isRef_bl, Bool.or_false, Bool.or_true, Bool.true_or, Bool.false_or, f12_, hz]
  all_goals exact ⟨rfl, rfl⟩
theorem made13 (hv : Rp v) : m__law_is_made [.int 13, v, (.err "InvalidMemory" [.str "index", v])] S = .ok (.bl true) S := by
  obtain ⟨z, hz⟩ := hv.rep
  refine made_gen tt13 ?_
  simp only [wp_ok, wp_no, ↓wp_bind, ↓R.bind_ok, ↓sSeq, ↓sNil, ↓sSet, ↓sAsg, ↓sIf, ↓sRet, ↓sExpr, ↓sPar, ↓sPar3, ↓sFor, ↓nName, ↓nTup, ↓nCons, ↓nNil, ↓nNs, ↓eVar, ↓eC, ↓eOp, ↓eUn, ↓eArgs, ↓eNew, ↓aCons, ↓aNil, ↓tV, ↓tT, toB, truP, ↓tNotE, ↓tAndE, ↓tOrE, ↓tYesE, ↓eAndV, ↓eOrV, ↓eNotV, ↓eNotT, ↓eIf, gAdd_int, gAdd_tup, Py.gSub, gMul_l, gMul_r, gMod, gFdiv, gNeg, gLt, gLe, gGt, gGe, gInt, gIx, gEq_int, gEq_str, gEq_bl, gNe_int, gNe_str, gNe_bl, gIsN, gNotN, getQ, getL, gSetL, ↓nSubL, gDivmod, gMin2, gMax2, ↓mkDef, ↓mkNew, startP, finF, finO, finV_tup, finV_int, finV_bl, finV_lst, finV_non, finV_str, finV_ref, ↓eChain, tyP, gIsi, isiB, ↓iArgs, ↓iSeq, iterP, ↓fComp, wipeP, ↓eSl, ↓oNone, ↓oSome, gSl, ↓eMeth0, ↓eMeth1, ixN, atI0, atI1, atI2, atI3, List.length_cons, List.length_nil, List.map_cons, List.map_nil, List.replicate, List.cons_append, List.nil_append, List.append_nil, List.getElem?_cons_zero, List.getElem?_cons_succ, List.getElem?_nil, List.set_cons_zero, List.set_cons_succ, List.set_nil, List.length_set, List.length_append, Nat.add_sub_cancel, Nat.reduceAdd, Nat.reduceSub, Nat.reduceLT, Nat.reduceEqDiff, Nat.reduceLeDiff, Nat.le_refl, Nat.zero_le, if_true, if_false, ↓reduceIte, decide_eq_true_eq, Bool.false_eq_true, Bool.true_eq_false, Bool.not_true, Bool.not_false, Option.isSome_some, forall_const, not_true_eq_false, not_false_eq_true, imp_self, false_implies, true_implies, implies_true, and_true, true_and, Int.toNat_zero, Nat.zero_add, Int.reduceLE, Int.reduceLT, Int.reduceNeg, Int.reduceToNat, Int.reducePow, Int.reduceGT, Int.cast_ofNat_Int, true_or, or_true, Int.ofNat_eq_natCast, decide_true, decide_false, Int.reduceEq, List.isEmpty_cons, List.isEmpty_nil, eDGet1,  keyP, Option.map_some, Option.map_none, Option.getD_some, Option.isSome_some, reduceCtorEq, and_self,  allPure_nil, allPure_cons, Bool.and_true, Bool.true_and, Bool.false_and, Bool.and_false, Bool.not_eq_true, Bool.not_eq_false, gTupP_nil, gLstP_nil, gTupP_ok, gLstP_ok, isRef_tup, isRef_int, isRef_str, isRef_bl, Bool.or_false, Bool.or_true, Bool.true_or, Bool.false_or, f13_, hz]
  all_goals exact ⟨rfl, rfl⟩
theorem made14 (hv : Rp v) : m__law_is_made [.int 14, v, (.err "InvalidDevice" [.str "index", v])] S = .ok (.bl true) S := by
  obtain ⟨z, hz⟩ := hv.rep
  refine made_gen tt14 ?_
  simp only [wp_ok, wp_no, ↓wp_bind, ↓R.bind_ok, ↓sSeq, ↓sNil, ↓sSet, ↓sAsg, ↓sIf, ↓sRet, ↓sExpr, ↓sPar, ↓sPar3, ↓sFor, ↓nName, ↓nTup, ↓nCons, ↓nNil, ↓nNs, ↓eVar, ↓eC, ↓eOp, ↓eUn, ↓eArgs, ↓eNew, ↓aCons, ↓aNil, ↓tV, ↓tT, toB, truP, ↓tNotE, ↓tAndE, ↓tOrE, ↓tYesE, ↓eAndV, ↓eOrV, ↓eNotV, ↓eNotT, ↓eIf, gAdd_int, gAdd_tup, Py.gSub, gMul_l, gMul_r, gMod, gFdiv, gNeg, gLt, gLe, gGt, gGe, gInt, gIx, gEq_int, gEq_str, gEq_bl, gNe_int, gNe_str, gNe_bl, gIsN, gNotN, getQ, getL, gSetL, ↓nSubL, gDivmod, gMin2, gMax2, ↓mkDef, ↓mkNew, startP, finF, finO, finV_tup, finV_int, finV_bl, finV_lst, finV_non, finV_str, finV_ref, ↓eChain, tyP, gIsi, isiB, ↓iArgs, ↓iSeq, iterP, ↓fComp, wipeP, ↓eSl, ↓oNone, ↓oSome, gSl, ↓eMeth0, ↓eMeth1, ixN, atI0, atI1, atI2, atI3, List.length_cons, List.length_nil, List.map_cons, List.map_nil, List.replicate, List.cons_append, List.nil_append, List.append_nil, List.getElem?_cons_zero, List.getElem?_cons_succ, List.getElem?_nil, List.set_cons_zero, List.set_cons_succ, List.set_nil, List.length_set, List.length_append, Nat.add_sub_cancel, Nat.reduceAdd, Nat.reduceSub, Nat.reduceLT, Nat.reduceEqDiff, Nat.reduceLeDiff, Nat.le_refl, Nat.zero_le, if_true, if_false, ↓reduceIte, decide_eq_true_eq, Bool.false_eq_true, Bool.true_eq_false, Bool.not_true, Bool.not_false, Option.isSome_some, forall_const, not_true_eq_false, not_false_eq_true, imp_self, false_implies, true_implies, implies_true, and_true, true_and, Int.toNat_zero, Nat.zero_add, Int.reduceLE, Int.reduceLT, Int.reduceNeg, Int.reduceToNat, Int.reducePow, Int.reduceGT, Int.cast_ofNat_Int, true_or, or_true, Int.ofNat_eq_natCast, decide_true, decide_false, Int.reduceEq, List.isEmpty_cons, List.isEmpty_nil, eDGet1,  keyP, Option.map_some, Option.map_none, Option.getD_some, Option.isSome_some, reduceCtorEq, and_self,  allPure_nil, allPure_cons, Bool.and_true, Bool.true_and, Bool.false_and, Bool.and_false, Bool.not_eq_true, Bool.not_eq_false, gTupP_nil, gLstP_nil, gTupP_ok, gLstP_ok, isRef_tup, isRef_int, isRef_str, isRef_bl, Bool.or_false, Bool.or_true, Bool.true_or, Bool.false_or, f14_, hz]
  all_goals exact ⟨rfl, rfl⟩
theorem made15 (hv : Rp v) : m__law_is_made [.int 15, v, (.err "InvalidWrites" [.str "index", v])] S = .ok (.bl true) S := by
  obtain ⟨z, hz⟩ := hv.rep
  refine made_gen tt15 ?_
  simp only [wp_ok, wp_no, ↓wp_bind, ↓R.bind_ok, ↓sSeq, ↓sNil, ↓sSet, ↓sAsg, ↓sIf, ↓sRet, ↓sExpr, ↓sPar, ↓sPar3, ↓sFor, ↓nName, ↓nTup, ↓nCons, ↓nNil, ↓nNs, ↓eVar, ↓eC, ↓eOp, ↓eUn, ↓eArgs, ↓eNew, ↓aCons, ↓aNil, ↓tV, ↓tT, toB, truP, ↓tNotE, ↓tAndE, ↓tOrE, ↓tYesE, ↓eAndV, ↓eOrV, ↓eNotV, ↓eNotT, ↓eIf, gAdd_int, gAdd_tup, Py.gSub, gMul_l, gMul_r, gMod, gFdiv, gNeg, gLt, gLe, gGt, gGe, gInt, gIx, gEq_int, gEq_str, gEq_bl, gNe_int, gNe_str, gNe_bl, gIsN, gNotN, getQ, getL, gSetL, ↓nSubL, gDivmod, gMin2, gMax2, ↓mkDef, ↓mkNew, startP, finF, finO, finV_tup, finV_int, finV_bl, finV_lst, finV_non, finV_str, finV_ref, ↓eChain, tyP, gIsi, isiB, ↓iArgs, ↓iSeq, iterP, ↓fComp, wipeP, ↓eSl, ↓oNone, ↓oSome, gSl, ↓eMeth0, ↓eMeth1, ixN, atI0, atI1, atI2, atI3, List.length_cons, List.length_nil, List.map_cons, List.map_nil, List.replicate, List.cons_append, List.nil_append, List.append_nil, List.getElem?_cons_zero, List.getElem?_cons_succ, List.getElem?_nil, List.set_cons_zero, List.set_cons_succ, List.set_nil, List.length_set, List.length_append, Nat.add_sub_cancel, Nat.reduceAdd, Nat.reduceSub, Nat.reduceLT, Nat.reduceEqDiff, Nat.reduceLeDiff, Nat.le_refl, Nat.zero_le, if_true, if_false, ↓reduceIte, decide_eq_true_eq, Bool.false_eq_true, Bool.true_eq_false, Bool.not_true, Bool.not_false, Option.isSome_some, forall_const, not_true_eq_false, not_false_eq_true, imp_self, false_implies, true_implies, implies_true, and_true, true_and, Int.toNat_zero, Nat.zero_add, Int.reduceLE, Int.reduceLT, Int.reduceNeg, Int.reduceToNat, Int.reducePow, Int.reduceGT, Int.cast_ofNat_Int, true_or, or_true, Int.ofNat_eq_natCast, decide_true, decide_false, Int.reduceEq, List.isEmpty_cons, List.isEmpty_nil, eDGet1,  keyP, Option.map_some, Option.map_none, Option.getD_some, Option.isSome_some, reduceCtorEq, and_self,  allPure_nil, allPure_cons, Bool.and_true, Bool.true_and, Bool.false_and, Bool.and_false, Bool.not_eq_true, Bool.not_eq_false, gTupP_nil, gLstP_nil, gTupP_ok, gLstP_ok, isRef_tup, isRef_int, isRef_str, isRef_bl, Bool.or_false, Bool.or_true, Bool.true_or, Bool.false_or, f15_, hz]
  all_goals exact ⟨rfl, rfl⟩
theorem made16 (hv : Rp v) : m__law_is_made [.int 16, v, (.err "NoValue" [.str "index", v])] S = .ok (.bl true) S := by
  obtain ⟨z, hz⟩ := hv.rep
  refine made_gen tt16 ?_
  simp only [wp_ok, wp_no, ↓wp_bind, ↓R.bind_ok, ↓sSeq, ↓sNil, ↓sSet, ↓sAsg, ↓sIf, ↓sRet, ↓sExpr, ↓sPar, ↓sPar3, ↓sFor, ↓nName, ↓nTup, ↓nCons, ↓nNil, ↓nNs, ↓eVar, ↓eC, ↓eOp, ↓eUn, ↓eArgs, ↓eNew, ↓aCons, ↓aNil, ↓tV, ↓tT, toB, truP, ↓tNotE, ↓tAndE, ↓tOrE, ↓tYesE, ↓eAndV, ↓eOrV, ↓eNotV, ↓eNotT, ↓eIf, gAdd_int, gAdd_tup, Py.gSub, gMul_l, gMul_r, gMod, gFdiv, gNeg, gLt, gLe, gGt, gGe, gInt, gIx, gEq_int, gEq_str, gEq_bl, gNe_int, gNe_str, gNe_bl, gIsN, gNotN, getQ, getL, gSetL, ↓nSubL, gDivmod, gMin2, gMax2, ↓mkDef, ↓mkNew, startP, finF, finO, finV_tup, finV_int, finV_bl, finV_lst, finV_non, finV_str, finV_ref, ↓eChain, tyP, gIsi, isiB, ↓iArgs, ↓iSeq, iterP, ↓fComp, wipeP, ↓eSl, ↓oNone, ↓oSome, gSl, ↓eMeth0, ↓eMeth1, ixN, atI0, atI1, atI2, atI3, List.length_cons, List.length_nil, List.map_cons, List.map_nil, List.replicate, List.cons_append, List.nil_append, List.append_nil, List.getElem?_cons_zero, List.getElem?_cons_succ, List.getElem?_nil, List.set_cons_zero, List.set_cons_succ, List.set_nil, List.length_set, List.length_append, Nat.add_sub_cancel, Nat.reduceAdd, Nat.reduceSub, Nat.reduceLT, Nat.reduceEqDiff, Nat.reduceLeDiff, Nat.le_refl, Nat.zero_le, if_true, if_false, ↓reduceIte, decide_eq_true_eq, Bool.false_eq_true, Bool.true_eq_false, Bool.not_true, Bool.not_false, Option.isSome_some, forall_const, not_true_eq_false, not_false_eq_true, imp_self, false_implies, true_implies, implies_true, and_true, true_and, Int.toNat_zero, Nat.zero_add, Int.reduceLE, Int.reduceLT, Int.reduceNeg, Int.reduceToNat, Int.reducePow, Int.reduceGT, Int.cast_ofNat_Int, true_or, or_true, Int.ofNat_eq_natCast, decide_true, decide_false, Int.reduceEq, List.isEmpty_cons, List.isEmpty_nil, eDGet1,  keyP, Option.map_some, Option.map_none, Option.getD_some, Option.isSome_some, reduceCtorEq, and_self,  allPure_nil, allPure_cons, Bool.and_true, Bool.true_and, Bool.false_and, Bool.and_false, Bool.not_eq_true, Bool.not_eq_false, gTupP_nil, gLstP_nil, gTupP_ok, gLstP_ok, isRef_tup, isRef_int, isRef_str, isRef_bl, Bool.or_false, Bool.or_true, Bool.true_or, Bool.false_or, f16_, hz]
  all_goals exact ⟨rfl, rfl⟩
theorem made17 (hv : Rp v) : m__law_is_made [.int 17, v, (.err "BadRows" [.str "index", v])] S = .ok (.bl true) S := by
  obtain ⟨z, hz⟩ := hv.rep
  refine made_gen tt17 ?_
  simp only [wp_ok, wp_no, ↓wp_bind, ↓R.bind_ok, ↓sSeq, ↓sNil, ↓sSet, ↓sAsg, ↓sIf, ↓sRet, ↓sExpr, ↓sPar, ↓sPar3, ↓sFor, ↓nName, ↓nTup, ↓nCons, ↓nNil, ↓nNs, ↓eVar, ↓eC, ↓eOp, ↓eUn, ↓eArgs, ↓eNew, ↓aCons, ↓aNil, ↓tV, ↓tT, toB, truP, ↓tNotE, ↓tAndE, ↓tOrE, ↓tYesE, ↓eAndV, ↓eOrV, ↓eNotV, ↓eNotT, ↓eIf, gAdd_int, gAdd_tup, Py.gSub, gMul_l, gMul_r, gMod, gFdiv, gNeg, gLt, gLe, gGt, gGe, gInt, gIx, gEq_int, gEq_str, gEq_bl, gNe_int, gNe_str, gNe_bl, gIsN, gNotN, getQ, getL, gSetL, ↓nSubL, gDivmod, gMin2, gMax2, ↓mkDef, ↓mkNew, startP, finF, finO, finV_tup, finV_int, finV_bl, finV_lst, finV_non, finV_str, finV_ref, ↓eChain, tyP, gIsi, isiB, ↓iArgs, ↓iSeq, iterP, ↓fComp, wipeP, ↓eSl, ↓oNone, ↓oSome, gSl, ↓eMeth0, ↓eMeth1, ixN, atI0, atI1, atI2, atI3, List.length_cons, List.length_nil, List.map_cons, List.map_nil, List.replicate, List.cons_append, List.nil_append, List.append_nil, List.getElem?_cons_zero, List.getElem?_cons_succ, List.getElem?_nil, List.set_cons_zero, List.set_cons_succ, List.set_nil, List.length_set, List.length_append, Nat.add_sub_cancel, Nat.reduceAdd, Nat.reduceSub, Nat.reduceLT, Nat.reduceEqDiff, Nat.reduceLeDiff, Nat.le_refl, Nat.zero_le, if_true, if_false, ↓reduceIte, decide_eq_true_eq, Bool.false_eq_true, Bool.true_eq_false, Bool.not_true, Bool.not_false, Option.isSome_some, forall_const, not_true_eq_false, not_false_eq_true, imp_self, false_implies, true_implies, implies_true, and_true, true_and, Int.toNat_zero, Nat.zero_add, Int.reduceLE, Int.reduceLT, Int.reduceNeg, Int.reduceToNat, Int.reducePow, Int.reduceGT, Int.cast_ofNat_Int, true_or, or_true, Int.ofNat_eq_natCast, decide_true, decide_false, Int.reduceEq, List.isEmpty_cons, List.isEmpty_nil, eDGet1,  keyP, Option.map_some, Option.map_none, Option.getD_some, Option.isSome_some, reduceCtorEq, and_self,  allPure_nil, allPure_cons, Bool.and_true, Bool.true_and, Bool.false_and, Bool.and_false, Bool.not_eq_true, Bool.not_eq_false, gTupP_nil, gLstP_nil, gTupP_ok, gLstP_ok, isRef_tup, isRef_int, isRef_str, isRef_bl, Bool.or_false, Bool.or_true, Bool.true_or, Bool.false_or, f17_, hz]
  all_goals exact ⟨rfl, rfl⟩
theorem made18 (hv : Rp v) : m__law_is_made [.int 18, v, (.err "Captured" [])] S = .ok (.bl true) S := by
  refine made_gen tt18 ?_
  simp only [wp_ok, wp_no, ↓wp_bind, ↓R.bind_ok, ↓sSeq, ↓sNil, ↓sSet, ↓sAsg, ↓sIf, ↓sRet, ↓sExpr, ↓sPar, ↓sPar3, ↓sFor, ↓nName, ↓nTup, ↓nCons, ↓nNil, ↓nNs, ↓eVar, ↓eC, ↓eOp, ↓eUn, ↓eArgs, ↓eNew, ↓aCons, ↓aNil, ↓tV, ↓tT, toB, truP, ↓tNotE, ↓tAndE, ↓tOrE, ↓tYesE, ↓eAndV, ↓eOrV, ↓eNotV, ↓eNotT, ↓eIf, gAdd_int, gAdd_tup, Py.gSub, gMul_l, gMul_r, gMod, gFdiv, gNeg, gLt, gLe, gGt, gGe, gInt, gIx, gEq_int, gEq_str, gEq_bl, gNe_int, gNe_str, gNe_bl, gIsN, gNotN, getQ, getL, gSetL, ↓nSubL, gDivmod, gMin2, gMax2, ↓mkDef, ↓mkNew, startP, finF, finO, finV_tup, finV_int, finV_bl, finV_lst, finV_non, finV_str, finV_ref, ↓eChain, tyP, gIsi, isiB, ↓iArgs, ↓iSeq, iterP, ↓fComp, wipeP, ↓eSl, ↓oNone, ↓oSome, gSl, ↓eMeth0, ↓eMeth1, ixN, atI0, atI1, atI2, atI3, List.length_cons, List.length_nil, List.map_cons, List.map_nil, List.replicate, List.cons_append, List.nil_append, List.append_nil, List.getElem?_cons_zero, List.getElem?_cons_succ, List.getElem?_nil, List.set_cons_zero, List.set_cons_succ, List.set_nil, List.length_set, List.length_append, Nat.add_sub_cancel, Nat.reduceAdd, Nat.reduceSub, Nat.reduceLT, Nat.reduceEqDiff, Nat.reduceLeDiff, Nat.le_refl, Nat.zero_le, if_true, if_false, ↓reduceIte, decide_eq_true_eq, Bool.false_eq_true, Bool.true_eq_false, Bool.not_true, Bool.not_false, Option.isSome_some, forall_const, not_true_eq_false, not_false_eq_true, imp_self, false_implies, true_implies, implies_true, and_true, true_and, Int.toNat_zero, Nat.zero_add, Int.reduceLE, Int.reduceLT, Int.reduceNeg, Int.reduceToNat, Int.reducePow, Int.reduceGT, Int.cast_ofNat_Int, true_or, or_true, Int.ofNat_eq_natCast, decide_true, decide_false, Int.reduceEq, List.isEmpty_cons, List.isEmpty_nil, eDGet1,  keyP, Option.map_some, Option.map_none, Option.getD_some, Option.isSome_some, reduceCtorEq, and_self,  allPure_nil, allPure_cons, Bool.and_true, Bool.true_and, Bool.false_and, Bool.and_false, Bool.not_eq_true, Bool.not_eq_false, gTupP_nil, gLstP_nil, gTupP_ok, gLstP_ok, isRef_tup, isRef_int, isRef_str, isRef_bl, Bool.or_false, Bool.or_true, Bool.true_or, Bool.false_or]
  all_goals exact ⟨rfl, rfl⟩
theorem made19 (hv : Rp v) : m__law_is_made [.int 19, v, (.err "TooGreat" [])] S = .ok (.bl true) S := by
  refine made_gen tt19 ?_
  simp only [wp_ok, wp_no, ↓wp_bind, ↓R.bind_ok, ↓sSeq, ↓sNil, ↓sSet, ↓sAsg, ↓sIf, ↓sRet, ↓sExpr, ↓sPar, ↓sPar3, ↓sFor, ↓nName, ↓nTup, ↓nCons, ↓nNil, ↓nNs, ↓eVar, ↓eC, ↓eOp, ↓eUn, ↓eArgs, ↓eNew, ↓aCons, ↓aNil, ↓tV, ↓tT, toB, truP, ↓tNotE, ↓tAndE, ↓tOrE, ↓tYesE, ↓eAndV, ↓eOrV, ↓eNotV, ↓eNotT, ↓eIf, gAdd_int, gAdd_tup, Py.gSub, gMul_l, gMul_r, gMod, gFdiv, gNeg, gLt, gLe, gGt, gGe, gInt, gIx, gEq_int, gEq_str, gEq_bl, gNe_int, gNe_str, gNe_bl, gIsN, gNotN, getQ, getL, gSetL, ↓nSubL, gDivmod, gMin2, gMax2, ↓mkDef, ↓mkNew, startP, finF, finO, finV_tup, finV_int, finV_bl, finV_lst, finV_non, finV_str, finV_ref, ↓eChain, tyP, gIsi, isiB, ↓iArgs, ↓iSeq, iterP, ↓fComp, wipeP, ↓eSl, ↓oNone, ↓oSome, gSl, ↓eMeth0, ↓eMeth1, ixN, atI0, atI1, atI2, atI3, List.length_cons, List.length_nil, List.map_cons, List.map_nil, List.replicate, List.cons_append, List.nil_append, List.append_nil, List.getElem?_cons_zero, List.getElem?_cons_succ, List.getElem?_nil, List.set_cons_zero, List.set_cons_succ, List.set_nil, List.length_set, List.length_append, Nat.add_sub_cancel, Nat.reduceAdd, Nat.reduceSub, Nat.reduceLT, Nat.reduceEqDiff, Nat.reduceLeDiff, Nat.le_refl, Nat.zero_le, if_true, if_false, ↓reduceIte, decide_eq_true_eq, Bool.false_eq_true, Bool.true_eq_false, Bool.not_true, Bool.not_false, Option.isSome_some, forall_const, not_true_eq_false, not_false_eq_true, imp_self, false_implies, true_implies, implies_true, and_true, true_and, Int.toNat_zero, Nat.zero_add, Int.reduceLE, Int.reduceLT, Int.reduceNeg, Int.reduceToNat, Int.reducePow, Int.reduceGT, Int.cast_ofNat_Int, true_or, or_true, Int.ofNat_eq_natCast, decide_true, decide_false, Int.reduceEq, List.isEmpty_cons, List.isEmpty_nil, eDGet1,  keyP, Option.map_some, Option.map_none, Option.getD_some, Option.isSome_some, reduceCtorEq, and_self,  allPure_nil, allPure_cons, Bool.and_true, Bool.true_and, Bool.false_and, Bool.and_false, Bool.not_eq_true, Bool.not_eq_false, gTupP_nil, gLstP_nil, gTupP_ok, gLstP_ok, isRef_tup, isRef_int, isRef_str, isRef_bl, Bool.or_false, Bool.or_true, Bool.true_or, Bool.false_or]
  all_goals exact ⟨rfl, rfl⟩
theorem made20 (hv : Rp v) : m__law_is_made [.int 20, v, (.err "NoRoom" [])] S = .ok (.bl true) S := by
  refine made_gen tt20 ?_
  simp only [wp_ok, wp_no, ↓wp_bind, ↓R.bind_ok, ↓sSeq, ↓sNil, ↓sSet, ↓sAsg, ↓sIf, ↓sRet, ↓sExpr, ↓sPar, ↓sPar3, ↓sFor, ↓nName, ↓nTup, ↓nCons, ↓nNil, ↓nNs, ↓eVar, ↓eC, ↓eOp, ↓eUn, ↓eArgs, ↓eNew, ↓aCons, ↓aNil, ↓tV, ↓tT, toB, truP, ↓tNotE, ↓tAndE, ↓tOrE, ↓tYesE, ↓eAndV, ↓eOrV, ↓eNotV, ↓eNotT, ↓eIf, gAdd_int, gAdd_tup, Py.gSub, gMul_l, gMul_r, gMod, gFdiv, gNeg, gLt, gLe, gGt, gGe, gInt, gIx, gEq_int, gEq_str, gEq_bl, gNe_int, gNe_str, gNe_bl, gIsN, gNotN, getQ, getL, gSetL, ↓nSubL, gDivmod, gMin2, gMax2, ↓mkDef, ↓mkNew, startP, finF, finO, finV_tup, finV_int, finV_bl, finV_lst, finV_non, finV_str, finV_ref, ↓eChain, tyP, gIsi, isiB, ↓iArgs, ↓iSeq, iterP, ↓fComp, wipeP, ↓eSl, ↓oNone, ↓oSome, gSl, ↓eMeth0, ↓eMeth1, ixN, atI0, atI1, atI2, atI3, List.length_cons, List.length_nil, List.map_cons, List.map_nil, List.replicate, List.cons_append, List.nil_append, List.append_nil, List.getElem?_cons_zero, List.getElem?_cons_succ, List.getElem?_nil, List.set_cons_zero, List.set_cons_succ, List.set_nil, List.length_set, List.length_append, Nat.add_sub_cancel, Nat.reduceAdd, Nat.reduceSub, Nat.reduceLT, Nat.reduceEqDiff, Nat.reduceLeDiff, Nat.le_refl, Nat.zero_le, if_true, if_false, ↓reduceIte, decide_eq_true_eq, Bool.false_eq_true, Bool.true_eq_false, Bool.not_true, Bool.not_false, Option.isSome_some, forall_const, not_true_eq_false, not_false_eq_true, imp_self, false_implies, true_implies, implies_true, and_true, true_and, Int.toNat_zero, Nat.zero_add, Int.reduceLE, Int.reduceLT, Int.reduceNeg, Int.reduceToNat, Int.reducePow, Int.reduceGT, Int.cast_ofNat_Int, true_or, or_true, Int.ofNat_eq_natCast, decide_true, decide_false, Int.reduceEq, List.isEmpty_cons, List.isEmpty_nil, eDGet1,  keyP, Option.map_some, Option.map_none, Option.getD_some, Option.isSome_some, reduceCtorEq, and_self,  allPure_nil, allPure_cons, Bool.and_true, Bool.true_and, Bool.false_and, Bool.and_false, Bool.not_eq_true, Bool.not_eq_false, gTupP_nil, gLstP_nil, gTupP_ok, gLstP_ok, isRef_tup, isRef_int, isRef_str, isRef_bl, Bool.or_false, Bool.or_true, Bool.true_or, Bool.false_or]
  all_goals exact ⟨rfl, rfl⟩
theorem made21 (hv : Rp v) : m__law_is_made [.int 21, v, (.err "DoesNotStand" [])] S = .ok (.bl true) S := by
  refine made_gen tt21 ?_
  simp only [wp_ok, wp_no, ↓wp_bind, ↓R.bind_ok, ↓sSeq, ↓sNil, ↓sSet, ↓sAsg, ↓sIf, ↓sRet, ↓sExpr, ↓sPar, ↓sPar3, ↓sFor, ↓nName, ↓nTup, ↓nCons, ↓nNil, ↓nNs, ↓eVar, ↓eC, ↓eOp, ↓eUn, ↓eArgs, ↓eNew, ↓aCons, ↓aNil, ↓tV, ↓tT, toB, truP, ↓tNotE, ↓tAndE, ↓tOrE, ↓tYesE, ↓eAndV, ↓eOrV, ↓eNotV, ↓eNotT, ↓eIf, gAdd_int, gAdd_tup, Py.gSub, gMul_l, gMul_r, gMod, gFdiv, gNeg, gLt, gLe, gGt, gGe, gInt, gIx, gEq_int, gEq_str, gEq_bl, gNe_int, gNe_str, gNe_bl, gIsN, gNotN, getQ, getL, gSetL, ↓nSubL, gDivmod, gMin2, gMax2, ↓mkDef, ↓mkNew, startP, finF, finO, finV_tup, finV_int, finV_bl, finV_lst, finV_non, finV_str, finV_ref, ↓eChain, tyP, gIsi, isiB, ↓iArgs, ↓iSeq, iterP, ↓fComp, wipeP, ↓eSl, ↓oNone, ↓oSome, gSl, ↓eMeth0, ↓eMeth1, ixN, atI0, atI1, atI2, atI3, List.length_cons, List.length_nil, List.map_cons, List.map_nil, List.replicate, List.cons_append, List.nil_append, List.append_nil, List.getElem?_cons_zero, List.getElem?_cons_succ, List.getElem?_nil, List.set_cons_zero, List.set_cons_succ, List.set_nil, List.length_set, List.length_append, Nat.add_sub_cancel, Nat.reduceAdd, Nat.reduceSub, Nat.reduceLT, Nat.reduceEqDiff, Nat.reduceLeDiff, Nat.le_refl, Nat.zero_le, if_true, if_false, ↓reduceIte, decide_eq_true_eq, Bool.false_eq_true, Bool.true_eq_false, Bool.not_true, Bool.not_false, Option.isSome_some, forall_const, not_true_eq_false, not_false_eq_true, imp_self, false_implies, true_implies, implies_true, and_true, true_and, Int.toNat_zero, Nat.zero_add, Int.reduceLE, Int.reduceLT, Int.reduceNeg, Int.reduceToNat, Int.reducePow, Int.reduceGT, Int.cast_ofNat_Int, true_or, or_true, Int.ofNat_eq_natCast, decide_true, decide_false, Int.reduceEq, List.isEmpty_cons, List.isEmpty_nil, eDGet1,  keyP, Option.map_some, Option.map_none, Option.getD_some, Option.isSome_some, reduceCtorEq, and_self,  allPure_nil, allPure_cons, Bool.and_true, Bool.true_and, Bool.false_and, Bool.and_false, Bool.not_eq_true, Bool.not_eq_false, gTupP_nil, gLstP_nil, gTupP_ok, gLstP_ok, isRef_tup, isRef_int, isRef_str, isRef_bl, Bool.or_false, Bool.or_true, Bool.true_or, Bool.false_or]
  all_goals exact ⟨rfl, rfl⟩
theorem made22 (hv : Rp v) : m__law_is_made [.int 22, v, (.err "NotNow" [])] S = .ok (.bl true) S := by
  refine made_gen tt22 ?_
  simp only [wp_ok, wp_no, ↓wp_bind, ↓R.bind_ok, ↓sSeq, ↓sNil, ↓sSet, ↓sAsg, ↓sIf, ↓sRet, ↓sExpr, ↓sPar, ↓sPar3, ↓sFor, ↓nName, ↓nTup, ↓nCons, ↓nNil, ↓nNs, ↓eVar, ↓eC, ↓eOp, ↓eUn, ↓eArgs, ↓eNew, ↓aCons, ↓aNil, ↓tV, ↓tT, toB, truP, ↓tNotE, ↓tAndE, ↓tOrE, ↓tYesE, ↓eAndV, ↓eOrV, ↓eNotV, ↓eNotT, ↓eIf, gAdd_int, gAdd_tup, Py.gSub, gMul_l, gMul_r, gMod, gFdiv, gNeg, gLt, gLe, gGt, gGe, gInt, gIx, gEq_int, gEq_str, gEq_bl, gNe_int, gNe_str, gNe_bl, gIsN, gNotN, getQ, getL, gSetL, ↓nSubL, gDivmod, gMin2, gMax2, ↓mkDef, ↓mkNew, startP, finF, finO, finV_tup, finV_int, finV_bl, finV_lst, finV_non, finV_str, finV_ref, ↓eChain, tyP, gIsi, isiB, ↓iArgs, ↓iSeq, iterP, ↓fComp, wipeP, ↓eSl, ↓oNone, ↓oSome, gSl, ↓eMeth0, ↓eMeth1, ixN, atI0, atI1, atI2, atI3, List.length_cons, List.length_nil, List.map_cons, List.map_nil, List.replicate, List.cons_append, List.nil_append, List.append_nil, List.getElem?_cons_zero, List.getElem?_cons_succ, List.getElem?_nil, List.set_cons_zero, List.set_cons_succ, List.set_nil, List.length_set, List.length_append, Nat.add_sub_cancel, Nat.reduceAdd, Nat.reduceSub, Nat.reduceLT, Nat.reduceEqDiff, Nat.reduceLeDiff, Nat.le_refl, Nat.zero_le, if_true, if_false, ↓reduceIte, decide_eq_true_eq, Bool.false_eq_true, Bool.true_eq_false, Bool.not_true, Bool.not_false, Option.isSome_some, forall_const, not_true_eq_false, not_false_eq_true, imp_self, false_implies, true_implies, implies_true, and_true, true_and, Int.toNat_zero, Nat.zero_add, Int.reduceLE, Int.reduceLT, Int.reduceNeg, Int.reduceToNat, Int.reducePow, Int.reduceGT, Int.cast_ofNat_Int, true_or, or_true, Int.ofNat_eq_natCast, decide_true, decide_false, Int.reduceEq, List.isEmpty_cons, List.isEmpty_nil, eDGet1,  keyP, Option.map_some, Option.map_none, Option.getD_some, Option.isSome_some, reduceCtorEq, and_self,  allPure_nil, allPure_cons, Bool.and_true, Bool.true_and, Bool.false_and, Bool.and_false, Bool.not_eq_true, Bool.not_eq_false, gTupP_nil, gLstP_nil, gTupP_ok, gLstP_ok, isRef_tup, isRef_int, isRef_str, isRef_bl, Bool.or_false, Bool.or_true, Bool.true_or, Bool.false_or]
  all_goals exact ⟨rfl, rfl⟩
theorem made23 (hv : Rp v) : m__law_is_made [.int 23, v, (.err "NotMended" [])] S = .ok (.bl true) S := by
  refine made_gen tt23 ?_
  simp only [wp_ok, wp_no, ↓wp_bind, ↓R.bind_ok, ↓sSeq, ↓sNil, ↓sSet, ↓sAsg, ↓sIf, ↓sRet, ↓sExpr, ↓sPar, ↓sPar3, ↓sFor, ↓nName, ↓nTup, ↓nCons, ↓nNil, ↓nNs, ↓eVar, ↓eC, ↓eOp, ↓eUn, ↓eArgs, ↓eNew, ↓aCons, ↓aNil, ↓tV, ↓tT, toB, truP, ↓tNotE, ↓tAndE, ↓tOrE, ↓tYesE, ↓eAndV, ↓eOrV, ↓eNotV, ↓eNotT, ↓eIf, gAdd_int, gAdd_tup, Py.gSub, gMul_l, gMul_r, gMod, gFdiv, gNeg, gLt, gLe, gGt, gGe, gInt, gIx, gEq_int, gEq_str, gEq_bl, gNe_int, gNe_str, gNe_bl, gIsN, gNotN, getQ, getL, gSetL, ↓nSubL, gDivmod, gMin2, gMax2, ↓mkDef, ↓mkNew, startP, finF, finO, finV_tup, finV_int, finV_bl, finV_lst, finV_non, finV_str, finV_ref, ↓eChain, tyP, gIsi, isiB, ↓iArgs, ↓iSeq, iterP, ↓fComp, wipeP, ↓eSl, ↓oNone, ↓oSome, gSl, ↓eMeth0, ↓eMeth1, ixN, atI0, atI1, atI2, atI3, List.length_cons, List.length_nil, List.map_cons, List.map_nil, List.replicate, List.cons_append, List.nil_append, List.append_nil, List.getElem?_cons_zero, List.getElem?_cons_succ, List.getElem?_nil, List.set_cons_zero, List.set_cons_succ, List.set_nil, List.length_set, List.length_append, Nat.add_sub_cancel, Nat.reduceAdd, Nat.reduceSub, Nat.reduceLT, Nat.reduceEqDiff, Nat.reduceLeDiff, Nat.le_refl, Nat.zero_le, if_true, if_false, ↓reduceIte, decide_eq_true_eq, Bool.false_eq_true, Bool.true_eq_false, Bool.not_true, Bool.not_false, Option.isSome_some, forall_const, not_true_eq_false, not_false_eq_true, imp_self, false_implies, true_implies, implies_true, and_true, true_and, Int.toNat_zero, Nat.zero_add, Int.reduceLE, Int.reduceLT, Int.reduceNeg, Int.reduceToNat, Int.reducePow, Int.reduceGT, Int.cast_ofNat_Int, true_or, or_true, Int.ofNat_eq_natCast, decide_true, decide_false, Int.reduceEq, List.isEmpty_cons, List.isEmpty_nil, eDGet1,  keyP, Option.map_some, Option.map_none, Option.getD_some, Option.isSome_some, reduceCtorEq, and_self,  allPure_nil, allPure_cons, Bool.and_true, Bool.true_and, Bool.false_and, Bool.and_false, Bool.not_eq_true, Bool.not_eq_false, gTupP_nil, gLstP_nil, gTupP_ok, gLstP_ok, isRef_tup, isRef_int, isRef_str, isRef_bl, Bool.or_false, Bool.or_true, Bool.true_or, Bool.false_or]
  all_goals exact ⟨rfl, rfl⟩
theorem made24 (hv : Rp v) : m__law_is_made [.int 24, v, (.err "NotThere" [])] S = .ok (.bl true) S := by
  refine made_gen tt24 ?_
  simp only [wp_ok, wp_no, ↓wp_bind, ↓R.bind_ok, ↓sSeq, ↓sNil, ↓sSet, ↓sAsg, ↓sIf, ↓sRet, ↓sExpr, ↓sPar, ↓sPar3, ↓sFor, ↓nName, ↓nTup, ↓nCons, ↓nNil, ↓nNs, ↓eVar, ↓eC, ↓eOp, ↓eUn, ↓eArgs, ↓eNew, ↓aCons, ↓aNil, ↓tV, ↓tT, toB, truP, ↓tNotE, ↓tAndE, ↓tOrE, ↓tYesE, ↓eAndV, ↓eOrV, ↓eNotV, ↓eNotT, ↓eIf, gAdd_int, gAdd_tup, Py.gSub, gMul_l, gMul_r, gMod, gFdiv, gNeg, gLt, gLe, gGt, gGe, gInt, gIx, gEq_int, gEq_str, gEq_bl, gNe_int, gNe_str, gNe_bl, gIsN, gNotN, getQ, getL, gSetL, ↓nSubL, gDivmod, gMin2, gMax2, ↓mkDef, ↓mkNew, startP, finF, finO, finV_tup, finV_int, finV_bl, finV_lst, finV_non, finV_str, finV_ref, ↓eChain, tyP, gIsi, isiB, ↓iArgs, ↓iSeq, iterP, ↓fComp, wipeP, ↓eSl, ↓oNone, ↓oSome, gSl, ↓eMeth0, ↓eMeth1, ixN, atI0, atI1, atI2, atI3, List.length_cons, List.length_nil, List.map_cons, List.map_nil, List.replicate, List.cons_append, List.nil_append, List.append_nil, List.getElem?_cons_zero, List.getElem?_cons_succ, List.getElem?_nil, List.set_cons_zero, List.set_cons_succ, List.set_nil, List.length_set, List.length_append, Nat.add_sub_cancel, Nat.reduceAdd, Nat.reduceSub, Nat.reduceLT, Nat.reduceEqDiff, Nat.reduceLeDiff, Nat.le_refl, Nat.zero_le, if_true, if_false, ↓reduceIte, decide_eq_true_eq, Bool.false_eq_true, Bool.true_eq_false, Bool.not_true, Bool.not_false, Option.isSome_some, forall_const, not_true_eq_false, not_false_eq_true, imp_self, false_implies, true_implies, implies_true, and_true, true_and, Int.toNat_zero, Nat.zero_add, Int.reduceLE, Int.reduceLT, Int.reduceNeg, Int.reduceToNat, Int.reducePow, Int.reduceGT, Int.cast_ofNat_Int, true_or, or_true, Int.ofNat_eq_natCast, decide_true, decide_false, Int.reduceEq, List.isEmpty_cons, List.isEmpty_nil, eDGet1,  keyP, Option.map_some, Option.map_none, Option.getD_some, Option.isSome_some, reduceCtorEq, and_self,  allPure_nil, allPure_cons, Bool.and_true, Bool.true_and, Bool.false_and, Bool.and_false, Bool.not_eq_true, Bool.not_eq_false, gTupP_nil, gLstP_nil, gTupP_ok, gLstP_ok, isRef_tup, isRef_int, isRef_str, isRef_bl, Bool.or_false, Bool.or_true, Bool.true_or, Bool.false_or]
  all_goals exact ⟨rfl, rfl⟩
theorem made25 (hv : Rp v) : m__law_is_made [.int 25, v, (.err "FormError" [])] S = .ok (.bl true) S := by
  refine made_gen tt25 ?_
  simp only [wp_ok, wp_no, ↓wp_bind, ↓R.bind_ok, ↓sSeq, ↓sNil, ↓sSet, ↓sAsg, ↓sIf, ↓sRet, ↓sExpr, ↓sPar, ↓sPar3, ↓sFor, ↓nName, ↓nTup, ↓nCons, ↓nNil, ↓nNs, ↓eVar, ↓eC, ↓eOp, ↓eUn, ↓eArgs, ↓eNew, ↓aCons, ↓aNil, ↓tV, ↓tT, toB, truP, ↓tNotE, ↓tAndE, ↓tOrE, ↓tYesE, ↓eAndV, ↓eOrV, ↓eNotV, ↓eNotT, ↓eIf, gAdd_int, gAdd_tup, Py.gSub, gMul_l, gMul_r, gMod, gFdiv, gNeg, gLt, gLe, gGt, gGe, gInt, gIx, gEq_int, gEq_str, gEq_bl, gNe_int, gNe_str, gNe_bl, gIsN, gNotN, getQ, getL, gSetL, ↓nSubL, gDivmod, gMin2, gMax2, ↓mkDef, ↓mkNew, startP, finF, finO, finV_tup, finV_int, finV_bl, finV_lst, finV_non, finV_str, finV_ref, ↓eChain, tyP, gIsi, isiB, ↓iArgs, ↓iSeq, iterP, ↓fComp, wipeP, ↓eSl, ↓oNone, ↓oSome, gSl, ↓eMeth0, ↓eMeth1, ixN, atI0, atI1, atI2, atI3, List.length_cons, List.length_nil, List.map_cons, List.map_nil, List.replicate, List.cons_append, List.nil_append, List.append_nil, List.getElem?_cons_zero, List.getElem?_cons_succ, List.getElem?_nil, List.set_cons_zero, List.set_cons_succ, List.set_nil, List.length_set, List.length_append, Nat.add_sub_cancel, Nat.reduceAdd, Nat.reduceSub, Nat.reduceLT, Nat.reduceEqDiff, Nat.reduceLeDiff, Nat.le_refl, Nat.zero_le, if_true, if_false, ↓reduceIte, decide_eq_true_eq, Bool.false_eq_true, Bool.true_eq_false, Bool.not_true, Bool.not_false, Option.isSome_some, forall_const, not_true_eq_false, not_false_eq_true, imp_self, false_implies, true_implies, implies_true, and_true, true_and, Int.toNat_zero, Nat.zero_add, Int.reduceLE, Int.reduceLT, Int.reduceNeg, Int.reduceToNat, Int.reducePow, Int.reduceGT, Int.cast_ofNat_Int, true_or, or_true, Int.ofNat_eq_natCast, decide_true, decide_false, Int.reduceEq, List.isEmpty_cons, List.isEmpty_nil, eDGet1,  keyP, Option.map_some, Option.map_none, Option.getD_some, Option.isSome_some, reduceCtorEq, and_self,  allPure_nil, allPure_cons, Bool.and_true, Bool.true_and, Bool.false_and, Bool.and_false, Bool.not_eq_true, Bool.not_eq_false, gTupP_nil, gLstP_nil, gTupP_ok, gLstP_ok, isRef_tup, isRef_int, isRef_str, isRef_bl, Bool.or_false, Bool.or_true, Bool.true_or, Bool.false_or]
  all_goals exact ⟨rfl, rfl⟩
end
end G01
set_option Elab.async false
set_option maxRecDepth 100000
set_option maxHeartbeats 1000000
set_option linter.all false
namespace G01
open PySem PySem.Spec PyProof.Rows L2 Py
theorem call1 {F : Fn} {g : Es} {n N : Nat} {ps : List PV} {S : Sto} {p : PV} (hF : F = mkDef n N g) (hl : ps.length = n) (h : WP (g (startP N ps) S) fun fl S' => fl = .rt p ∧ S' = S) (hp : finV S.length p S = .ok p S) : F ps S = .ok p S := by
  have : WP (F ps S) fun a S' => a = p ∧ S' = S := by
    rw [hF]
    refine wp_def hl ?_
    refine wp_of h fun fl S' ⟨e1, e2⟩ => ?_
    subst e1 e2
    show WP (finV S'.length p S') _
    rw [hp]
    exact ⟨rfl, rfl⟩
  obtain ⟨a, S', e, rfl, rfl⟩ := this.ex
  exact e
theorem call2 {F : Fn} {g : Es} {n N : Nat} {ps : List PV} {S : Sto} {p : PV} (hF : F = mkDef n N g) (hl : ps.length = n) (h : g (startP N ps) S = .ok (.rt p) S) (hp : finV S.length p S = .ok p S) : F ps S = .ok p S :=
  call1 hF hl (by rw [h]; exact ⟨rfl, rfl⟩) hp
theorem fin_err {c : Str} {ps : List PV} {S : Sto} : finV S.length (.err c ps) S = .ok (.err c ps) S := by
  show R.ok (PV.err c ps) (S.take S.length) = _
  rw [take_self]
section
variable {v : PV} {S : Sto}
theorem pl0 (hv : v.isRef = false) : m__law_by_place [.int 0, v] S = .ok (.err "InvalidText" [.str "place", v]) S := by
  have e : b__law_by_place [some (.int 0), some v] S = .ok (.rt (.err "InvalidText" [.str "place", v])) S := by
    cases v <;> first
      | exact Bool.noConfusion hv
      | kernel_rfl
  exact call2 (n := 2) (N := 2) (g := b__law_by_place) rfl rfl e fin_err
theorem pl1 (hv : v.isRef = false) : m__law_by_place [.int 1, v] S = .ok (.err "InvalidTerm" [.str "given", v]) S := by
  have e : b__law_by_place [some (.int 1), some v] S = .ok (.rt (.err "InvalidTerm" [.str "given", v])) S := by
    cases v <;> first
      | exact Bool.noConfusion hv
      | kernel_rfl
  exact call2 (n := 2) (N := 2) (g := b__law_by_place) rfl rfl e fin_err
theorem pl2 (hv : v.isRef = false) : m__law_by_place [.int 2, v] S = .ok (.err "InvalidSource" [.str "given", v]) S := by
  have e : b__law_by_place [some (.int 2), some v] S = .ok (.rt (.err "InvalidSource" [.str "given", v])) S := by
    cases v <;> first
      | exact Bool.noConfusion hv
      | kernel_rfl
  exact call2 (n := 2) (N := 2) (g := b__law_by_place) rfl rfl e fin_err
theorem pl3 (hv : v.isRef = false) : m__law_by_place [.int 3, v] S = .ok (.err "InvalidProgram" [.str "given", v]) S := by
  have e : b__law_by_place [some (.int 3), some v] S = .ok (.rt (.err "InvalidProgram" [.str "given", v])) S := by
    cases v <;> first
      | exact Bool.noConfusion hv
      | kernel_rfl
  exact call2 (n := 2) (N := 2) (g := b__law_by_place) rfl rfl e fin_err
theorem pl4 (hv : v.isRef = false) : m__law_by_place [.int 4, v] S = .ok (.err "InvalidNumber" [.str "given", v]) S := by
  have e : b__law_by_place [some (.int 4), some v] S = .ok (.rt (.err "InvalidNumber" [.str "given", v])) S := by
    cases v <;> first
      | exact Bool.noConfusion hv
      | kernel_rfl
  exact call2 (n := 2) (N := 2) (g := b__law_by_place) rfl rfl e fin_err
theorem pl5 (hv : v.isRef = false) : m__law_by_place [.int 5, v] S = .ok (.err "InvalidName" [.str "given", v]) S := by
  have e : b__law_by_place [some (.int 5), some v] S = .ok (.rt (.err "InvalidName" [.str "given", v])) S := by
    cases v <;> first
      | exact Bool.noConfusion hv
      | kernel_rfl
  exact call2 (n := 2) (N := 2) (g := b__law_by_place) rfl rfl e fin_err
theorem pl6 (hv : v.isRef = false) : m__law_by_place [.int 6, v] S = .ok (.err "InvalidPlace" [.str "given", v]) S := by
  have e : b__law_by_place [some (.int 6), some v] S = .ok (.rt (.err "InvalidPlace" [.str "given", v])) S := by
    cases v <;> first
      | exact Bool.noConfusion hv
      | kernel_rfl
  exact call2 (n := 2) (N := 2) (g := b__law_by_place) rfl rfl e fin_err
theorem pl7 (hv : v.isRef = false) : m__law_by_place [.int 7, v] S = .ok (.err "InvalidRows" [.str "given", v]) S := by
  have e : b__law_by_place [some (.int 7), some v] S = .ok (.rt (.err "InvalidRows" [.str "given", v])) S := by
    cases v <;> first
      | exact Bool.noConfusion hv
      | kernel_rfl
  exact call2 (n := 2) (N := 2) (g := b__law_by_place) rfl rfl e fin_err
theorem pl8 (hv : v.isRef = false) : m__law_by_place [.int 8, v] S = .ok (.err "InvalidSizes" [.str "given", v]) S := by
  have e : b__law_by_place [some (.int 8), some v] S = .ok (.rt (.err "InvalidSizes" [.str "given", v])) S := by
    cases v <;> first
      | exact Bool.noConfusion hv
      | kernel_rfl
  exact call2 (n := 2) (N := 2) (g := b__law_by_place) rfl rfl e fin_err
theorem pl9 (hv : v.isRef = false) : m__law_by_place [.int 9, v] S = .ok (.err "InvalidBook" [.str "index", v]) S := by
  have e : b__law_by_place [some (.int 9), some v] S = .ok (.rt (.err "InvalidBook" [.str "index", v])) S := by
    cases v <;> first
      | exact Bool.noConfusion hv
      | kernel_rfl
  exact call2 (n := 2) (N := 2) (g := b__law_by_place) rfl rfl e fin_err
theorem pl10 (hv : v.isRef = false) : m__law_by_place [.int 10, v] S = .ok (.err "InvalidParts" [.str "index", v]) S := by
  have e : b__law_by_place [some (.int 10), some v] S = .ok (.rt (.err "InvalidParts" [.str "index", v])) S := by
    cases v <;> first
      | exact Bool.noConfusion hv
      | kernel_rfl
  exact call2 (n := 2) (N := 2) (g := b__law_by_place) rfl rfl e fin_err
theorem pl11 (hv : v.isRef = false) : m__law_by_place [.int 11, v] S = .ok (.err "InvalidWays" [.str "index", v]) S := by
  have e : b__law_by_place [some (.int 11), some v] S = .ok (.rt (.err "InvalidWays" [.str "index", v])) S := by
    cases v <;> first
      | exact Bool.noConfusion hv
      | kernel_rfl
  exact call2 (n := 2) (N := 2) (g := b__law_by_place) rfl rfl e fin_err
theorem pl12 (hv : v.isRef = false) : m__law_by_place [.int 12, v] S = .ok (.err "InvalidNames" [.str "index", v]) S := by
  have e : b__law_by_place [some (.int 12), some v] S = .ok (.rt (.err "InvalidNames" [.str "index", v])) S := by
    cases v <;> first
      | exact Bool.noConfusion hv
      | kernel_rfl
  exact call2 (n := 2) (N := 2) (g := b__law_by_place) rfl rfl e fin_err
theorem fu13 (hv : v.isRef = false) : m__law_further [.int 13, v] S = .ok (.err "InvalidMemory" [.str "index", v]) S := by
  have e : b__law_further [some (.int 13), some v] S = .ok (.rt (.err "InvalidMemory" [.str "index", v])) S := by
    cases v <;> first
      | exact Bool.noConfusion hv
      | kernel_rfl
  exact call2 (n := 2) (N := 2) (g := b__law_further) rfl rfl e fin_err
theorem fu14 (hv : v.isRef = false) : m__law_further [.int 14, v] S = .ok (.err "InvalidDevice" [.str "index", v]) S := by
  have e : b__law_further [some (.int 14), some v] S = .ok (.rt (.err "InvalidDevice" [.str "index", v])) S := by
    cases v <;> first
      | exact Bool.noConfusion hv
      | kernel_rfl
  exact call2 (n := 2) (N := 2) (g := b__law_further) rfl rfl e fin_err
theorem fu15 (hv : v.isRef = false) : m__law_further [.int 15, v] S = .ok (.err "InvalidWrites" [.str "index", v]) S := by
  have e : b__law_further [some (.int 15), some v] S = .ok (.rt (.err "InvalidWrites" [.str "index", v])) S := by
    cases v <;> first
      | exact Bool.noConfusion hv
      | kernel_rfl
  exact call2 (n := 2) (N := 2) (g := b__law_further) rfl rfl e fin_err
theorem fu16 (hv : v.isRef = false) : m__law_further [.int 16, v] S = .ok (.err "NoValue" [.str "index", v]) S := by
  have e : b__law_further [some (.int 16), some v] S = .ok (.rt (.err "NoValue" [.str "index", v])) S := by
    cases v <;> first
      | exact Bool.noConfusion hv
      | kernel_rfl
  exact call2 (n := 2) (N := 2) (g := b__law_further) rfl rfl e fin_err
theorem fu17 (hv : v.isRef = false) : m__law_further [.int 17, v] S = .ok (.err "BadRows" [.str "index", v]) S := by
  have e : b__law_further [some (.int 17), some v] S = .ok (.rt (.err "BadRows" [.str "index", v])) S := by
    cases v <;> first
      | exact Bool.noConfusion hv
      | kernel_rfl
  exact call2 (n := 2) (N := 2) (g := b__law_further) rfl rfl e fin_err
theorem fu18 (hv : v.isRef = false) : m__law_further [.int 18, v] S = .ok (.err "Captured" []) S := by
  have e : b__law_further [some (.int 18), some v] S = .ok (.rt (.err "Captured" [])) S := by
    cases v <;> first
      | exact Bool.noConfusion hv
      | kernel_rfl
  exact call2 (n := 2) (N := 2) (g := b__law_further) rfl rfl e fin_err
theorem fu19 (hv : v.isRef = false) : m__law_further [.int 19, v] S = .ok (.err "TooGreat" []) S := by
  have e : b__law_further [some (.int 19), some v] S = .ok (.rt (.err "TooGreat" [])) S := by
    cases v <;> first
      | exact Bool.noConfusion hv
      | kernel_rfl
  exact call2 (n := 2) (N := 2) (g := b__law_further) rfl rfl e fin_err
theorem fu20 (hv : v.isRef = false) : m__law_further [.int 20, v] S = .ok (.err "NoRoom" []) S := by
  have e : b__law_further [some (.int 20), some v] S = .ok (.rt (.err "NoRoom" [])) S := by
    cases v <;> first
      | exact Bool.noConfusion hv
      | kernel_rfl
  exact call2 (n := 2) (N := 2) (g := b__law_further) rfl rfl e fin_err
theorem fu21 (hv : v.isRef = false) : m__law_further [.int 21, v] S = .ok (.err "DoesNotStand" []) S := by
  have e : b__law_further [some (.int 21), some v] S = .ok (.rt (.err "DoesNotStand" [])) S := by
    cases v <;> first
      | exact Bool.noConfusion hv
      | kernel_rfl
  exact call2 (n := 2) (N := 2) (g := b__law_further) rfl rfl e fin_err
theorem fu22 (hv : v.isRef = false) : m__law_further [.int 22, v] S = .ok (.err "NotNow" []) S := by
  have e : b__law_further [some (.int 22), some v] S = .ok (.rt (.err "NotNow" [])) S := by
    cases v <;> first
      | exact Bool.noConfusion hv
      | kernel_rfl
  exact call2 (n := 2) (N := 2) (g := b__law_further) rfl rfl e fin_err
theorem fu23 (hv : v.isRef = false) : m__law_further [.int 23, v] S = .ok (.err "NotMended" []) S := by
  have e : b__law_further [some (.int 23), some v] S = .ok (.rt (.err "NotMended" [])) S := by
    cases v <;> first
      | exact Bool.noConfusion hv
      | kernel_rfl
  exact call2 (n := 2) (N := 2) (g := b__law_further) rfl rfl e fin_err
theorem fu24 (hv : v.isRef = false) : m__law_further [.int 24, v] S = .ok (.err "NotThere" []) S := by
  have e : b__law_further [some (.int 24), some v] S = .ok (.rt (.err "NotThere" [])) S := by
    cases v <;> first
      | exact Bool.noConfusion hv
      | kernel_rfl
  exact call2 (n := 2) (N := 2) (g := b__law_further) rfl rfl e fin_err
theorem fu25 (hv : v.isRef = false) : m__law_further [.int 25, v] S = .ok (.err "FormError" []) S := by
  have e : b__law_further [some (.int 25), some v] S = .ok (.rt (.err "FormError" [])) S := by
    cases v <;> first
      | exact Bool.noConfusion hv
      | kernel_rfl
  exact call2 (n := 2) (N := 2) (g := b__law_further) rfl rfl e fin_err
theorem bn0 (hv : v.isRef = false) : m__law_by_name [.int 0, v] S = .ok (.err "InvalidText" [.str "place", v]) S := by
  have e : b__law_by_name [some (.int 0), some v] S = .ok (.rt (.err "InvalidText" [.str "place", v])) S := by
    cases v <;> first
      | exact Bool.noConfusion hv
      | kernel_rfl
  exact call2 (n := 2) (N := 2) (g := b__law_by_name) rfl rfl e fin_err
theorem bn1 (hv : v.isRef = false) : m__law_by_name [.int 1, v] S = .ok (.err "InvalidTerm" [.str "given", v]) S := by
  have e : b__law_by_name [some (.int 1), some v] S = .ok (.rt (.err "InvalidTerm" [.str "given", v])) S := by
    cases v <;> first
      | exact Bool.noConfusion hv
      | kernel_rfl
  exact call2 (n := 2) (N := 2) (g := b__law_by_name) rfl rfl e fin_err
theorem bn2 (hv : v.isRef = false) : m__law_by_name [.int 2, v] S = .ok (.err "InvalidSource" [.str "given", v]) S := by
  have e : b__law_by_name [some (.int 2), some v] S = .ok (.rt (.err "InvalidSource" [.str "given", v])) S := by
    cases v <;> first
      | exact Bool.noConfusion hv
      | kernel_rfl
  exact call2 (n := 2) (N := 2) (g := b__law_by_name) rfl rfl e fin_err
theorem bn3 (hv : v.isRef = false) : m__law_by_name [.int 3, v] S = .ok (.err "InvalidProgram" [.str "given", v]) S := by
  have e : b__law_by_name [some (.int 3), some v] S = .ok (.rt (.err "InvalidProgram" [.str "given", v])) S := by
    cases v <;> first
      | exact Bool.noConfusion hv
      | kernel_rfl
  exact call2 (n := 2) (N := 2) (g := b__law_by_name) rfl rfl e fin_err
theorem bn4 (hv : v.isRef = false) : m__law_by_name [.int 4, v] S = .ok (.err "InvalidNumber" [.str "given", v]) S := by
  have e : b__law_by_name [some (.int 4), some v] S = .ok (.rt (.err "InvalidNumber" [.str "given", v])) S := by
    cases v <;> first
      | exact Bool.noConfusion hv
      | kernel_rfl
  exact call2 (n := 2) (N := 2) (g := b__law_by_name) rfl rfl e fin_err
theorem bn5 (hv : v.isRef = false) : m__law_by_name [.int 5, v] S = .ok (.err "InvalidName" [.str "given", v]) S := by
  have e : b__law_by_name [some (.int 5), some v] S = .ok (.rt (.err "InvalidName" [.str "given", v])) S := by
    cases v <;> first
      | exact Bool.noConfusion hv
      | kernel_rfl
  exact call2 (n := 2) (N := 2) (g := b__law_by_name) rfl rfl e fin_err
theorem bn6 (hv : v.isRef = false) : m__law_by_name [.int 6, v] S = .ok (.err "InvalidPlace" [.str "given", v]) S := by
  have e : b__law_by_name [some (.int 6), some v] S = .ok (.rt (.err "InvalidPlace" [.str "given", v])) S := by
    cases v <;> first
      | exact Bool.noConfusion hv
      | kernel_rfl
  exact call2 (n := 2) (N := 2) (g := b__law_by_name) rfl rfl e fin_err
theorem bn7 (hv : v.isRef = false) : m__law_by_name [.int 7, v] S = .ok (.err "InvalidRows" [.str "given", v]) S := by
  have e : b__law_by_name [some (.int 7), some v] S = .ok (.rt (.err "InvalidRows" [.str "given", v])) S := by
    cases v <;> first
      | exact Bool.noConfusion hv
      | kernel_rfl
  exact call2 (n := 2) (N := 2) (g := b__law_by_name) rfl rfl e fin_err
theorem bn8 (hv : v.isRef = false) : m__law_by_name [.int 8, v] S = .ok (.err "InvalidSizes" [.str "given", v]) S := by
  have e : b__law_by_name [some (.int 8), some v] S = .ok (.rt (.err "InvalidSizes" [.str "given", v])) S := by
    cases v <;> first
      | exact Bool.noConfusion hv
      | kernel_rfl
  exact call2 (n := 2) (N := 2) (g := b__law_by_name) rfl rfl e fin_err
theorem bn9 (hv : v.isRef = false) : m__law_by_name [.int 9, v] S = .ok (.err "InvalidBook" [.str "index", v]) S := by
  have e : b__law_by_name [some (.int 9), some v] S = .ok (.rt (.err "InvalidBook" [.str "index", v])) S := by
    cases v <;> first
      | exact Bool.noConfusion hv
      | kernel_rfl
  exact call2 (n := 2) (N := 2) (g := b__law_by_name) rfl rfl e fin_err
theorem bn10 (hv : v.isRef = false) : m__law_by_name [.int 10, v] S = .ok (.err "InvalidParts" [.str "index", v]) S := by
  have e : b__law_by_name [some (.int 10), some v] S = .ok (.rt (.err "InvalidParts" [.str "index", v])) S := by
    cases v <;> first
      | exact Bool.noConfusion hv
      | kernel_rfl
  exact call2 (n := 2) (N := 2) (g := b__law_by_name) rfl rfl e fin_err
theorem bn11 (hv : v.isRef = false) : m__law_by_name [.int 11, v] S = .ok (.err "InvalidWays" [.str "index", v]) S := by
  have e : b__law_by_name [some (.int 11), some v] S = .ok (.rt (.err "InvalidWays" [.str "index", v])) S := by
    cases v <;> first
      | exact Bool.noConfusion hv
      | kernel_rfl
  exact call2 (n := 2) (N := 2) (g := b__law_by_name) rfl rfl e fin_err
theorem bn12 (hv : v.isRef = false) : m__law_by_name [.int 12, v] S = .ok (.err "InvalidNames" [.str "index", v]) S := by
  have e : b__law_by_name [some (.int 12), some v] S = .ok (.rt (.err "InvalidNames" [.str "index", v])) S := by
    cases v <;> first
      | exact Bool.noConfusion hv
      | kernel_rfl
  exact call2 (n := 2) (N := 2) (g := b__law_by_name) rfl rfl e fin_err
theorem bn13 (hv : v.isRef = false) : m__law_by_name [.int 13, v] S = .ok (.err "InvalidMemory" [.str "index", v]) S := by
  have e : b__law_by_name [some (.int 13), some v] S = .ok (.rt (.err "InvalidMemory" [.str "index", v])) S := by
    cases v <;> first
      | exact Bool.noConfusion hv
      | kernel_rfl
  exact call2 (n := 2) (N := 2) (g := b__law_by_name) rfl rfl e fin_err
theorem bn14 (hv : v.isRef = false) : m__law_by_name [.int 14, v] S = .ok (.err "InvalidDevice" [.str "index", v]) S := by
  have e : b__law_by_name [some (.int 14), some v] S = .ok (.rt (.err "InvalidDevice" [.str "index", v])) S := by
    cases v <;> first
      | exact Bool.noConfusion hv
      | kernel_rfl
  exact call2 (n := 2) (N := 2) (g := b__law_by_name) rfl rfl e fin_err
theorem bn15 (hv : v.isRef = false) : m__law_by_name [.int 15, v] S = .ok (.err "InvalidWrites" [.str "index", v]) S := by
  have e : b__law_by_name [some (.int 15), some v] S = .ok (.rt (.err "InvalidWrites" [.str "index", v])) S := by
    cases v <;> first
      | exact Bool.noConfusion hv
      | kernel_rfl
  exact call2 (n := 2) (N := 2) (g := b__law_by_name) rfl rfl e fin_err
theorem bn16 (hv : v.isRef = false) : m__law_by_name [.int 16, v] S = .ok (.err "NoValue" [.str "index", v]) S := by
  have e : b__law_by_name [some (.int 16), some v] S = .ok (.rt (.err "NoValue" [.str "index", v])) S := by
    cases v <;> first
      | exact Bool.noConfusion hv
      | kernel_rfl
  exact call2 (n := 2) (N := 2) (g := b__law_by_name) rfl rfl e fin_err
theorem bn17 (hv : v.isRef = false) : m__law_by_name [.int 17, v] S = .ok (.err "BadRows" [.str "index", v]) S := by
  have e : b__law_by_name [some (.int 17), some v] S = .ok (.rt (.err "BadRows" [.str "index", v])) S := by
    cases v <;> first
      | exact Bool.noConfusion hv
      | kernel_rfl
  exact call2 (n := 2) (N := 2) (g := b__law_by_name) rfl rfl e fin_err
end
end G01
set_option Elab.async false
set_option maxRecDepth 100000
set_option maxHeartbeats 1000000
set_option linter.all false
namespace G01
open PySem PySem.Spec PyProof.Rows L2 Py
section
variable {v : PV} {S : Sto}
theorem stepE {i : Int} (h0 : 0 ≤ i) (h1 : i < 26) (hv : Rp v) : ∃ E : PV, ∀ S, (i < 13 → m__law_by_place [.int i, v] S = .ok E S) ∧ (¬ i < 13 → m__law_further [.int i, v] S = .ok E S) ∧ m__law_is_made [.int i, v, E] S = .ok (.bl true) S := by
  have hr := hv.ref
  have h : i = 0 ∨ i = 1 ∨ i = 2 ∨ i = 3 ∨ i = 4 ∨ i = 5 ∨ i = 6 ∨ i = 7 ∨ i = 8 ∨ i = 9 ∨ i = 10 ∨ i = 11 ∨ i = 12 ∨ i = 13 ∨ i = 14 ∨ i = 15 ∨ i = 16 ∨ i = 17 ∨ i = 18 ∨ i = 19 ∨ i = 20 ∨ i = 21 ∨ i = 22 ∨ i = 23 ∨ i = 24 ∨ i = 25 := by omega
  rcases h with h | h | h | h | h | h | h | h | h | h | h | h | h | h | h | h | h | h | h | h | h | h | h | h | h | h
  · subst h; exact ⟨_, fun S => ⟨fun _ => pl0 hr, fun z => absurd (by decide) z, made0 hv⟩⟩
  · subst h; exact ⟨_, fun S => ⟨fun _ => pl1 hr, fun z => absurd (by decide) z, made1 hv⟩⟩
  · subst h; exact ⟨_, fun S => ⟨fun _ => pl2 hr, fun z => absurd (by decide) z, made2 hv⟩⟩
  · subst h; exact ⟨_, fun S => ⟨fun _ => pl3 hr, fun z => absurd (by decide) z, made3 hv⟩⟩
  · subst h; exact ⟨_, fun S => ⟨fun _ => pl4 hr, fun z => absurd (by decide) z, made4 hv⟩⟩
  · subst h; exact ⟨_, fun S => ⟨fun _ => pl5 hr, fun z => absurd (by decide) z, made5 hv⟩⟩
  · subst h; exact ⟨_, fun S => ⟨fun _ => pl6 hr, fun z => absurd (by decide) z, made6 hv⟩⟩
  · subst h; exact ⟨_, fun S => ⟨fun _ => pl7 hr, fun z => absurd (by decide) z, made7 hv⟩⟩
  · subst h; exact ⟨_, fun S => ⟨fun _ => pl8 hr, fun z => absurd (by decide) z, made8 hv⟩⟩
  · subst h; exact ⟨_, fun S => ⟨fun _ => pl9 hr, fun z => absurd (by decide) z, made9 hv⟩⟩
  · subst h; exact ⟨_, fun S => ⟨fun _ => pl10 hr, fun z => absurd (by decide) z, made10 hv⟩⟩
  · subst h; exact ⟨_, fun S => ⟨fun _ => pl11 hr, fun z => absurd (by decide) z, made11 hv⟩⟩
  · subst h; exact ⟨_, fun S => ⟨fun _ => pl12 hr, fun z => absurd (by decide) z, made12 hv⟩⟩
  · subst h; exact ⟨_, fun S => ⟨fun z => absurd z (by decide), fun _ => fu13 hr, made13 hv⟩⟩
  · subst h; exact ⟨_, fun S => ⟨fun z => absurd z (by decide), fun _ => fu14 hr, made14 hv⟩⟩
  · subst h; exact ⟨_, fun S => ⟨fun z => absurd z (by decide), fun _ => fu15 hr, made15 hv⟩⟩
  · subst h; exact ⟨_, fun S => ⟨fun z => absurd z (by decide), fun _ => fu16 hr, made16 hv⟩⟩
  · subst h; exact ⟨_, fun S => ⟨fun z => absurd z (by decide), fun _ => fu17 hr, made17 hv⟩⟩
  · subst h; exact ⟨_, fun S => ⟨fun z => absurd z (by decide), fun _ => fu18 hr, made18 hv⟩⟩
  · subst h; exact ⟨_, fun S => ⟨fun z => absurd z (by decide), fun _ => fu19 hr, made19 hv⟩⟩
  · subst h; exact ⟨_, fun S => ⟨fun z => absurd z (by decide), fun _ => fu20 hr, made20 hv⟩⟩
  · subst h; exact ⟨_, fun S => ⟨fun z => absurd z (by decide), fun _ => fu21 hr, made21 hv⟩⟩
  · subst h; exact ⟨_, fun S => ⟨fun z => absurd z (by decide), fun _ => fu22 hr, made22 hv⟩⟩
  · subst h; exact ⟨_, fun S => ⟨fun z => absurd z (by decide), fun _ => fu23 hr, made23 hv⟩⟩
  · subst h; exact ⟨_, fun S => ⟨fun z => absurd z (by decide), fun _ => fu24 hr, made24 hv⟩⟩
  · subst h; exact ⟨_, fun S => ⟨fun z => absurd z (by decide), fun _ => fu25 hr, made25 hv⟩⟩
theorem nameE {i : Int} (h0 : 0 ≤ i) (h1 : i < 18) (hv : Rp v) : ∃ E : PV, ∀ S, m__law_by_name [.int i, v] S = .ok E S ∧ m__law_is_made [.int i, v, E] S = .ok (.bl true) S := by
  have hr := hv.ref
  have h : i = 0 ∨ i = 1 ∨ i = 2 ∨ i = 3 ∨ i = 4 ∨ i = 5 ∨ i = 6 ∨ i = 7 ∨ i = 8 ∨ i = 9 ∨ i = 10 ∨ i = 11 ∨ i = 12 ∨ i = 13 ∨ i = 14 ∨ i = 15 ∨ i = 16 ∨ i = 17 := by omega
  rcases h with h | h | h | h | h | h | h | h | h | h | h | h | h | h | h | h | h | h
  · subst h; exact ⟨_, fun S => ⟨bn0 hr, made0 hv⟩⟩
  · subst h; exact ⟨_, fun S => ⟨bn1 hr, made1 hv⟩⟩
  · subst h; exact ⟨_, fun S => ⟨bn2 hr, made2 hv⟩⟩
  · subst h; exact ⟨_, fun S => ⟨bn3 hr, made3 hv⟩⟩
  · subst h; exact ⟨_, fun S => ⟨bn4 hr, made4 hv⟩⟩
  · subst h; exact ⟨_, fun S => ⟨bn5 hr, made5 hv⟩⟩
  · subst h; exact ⟨_, fun S => ⟨bn6 hr, made6 hv⟩⟩
  · subst h; exact ⟨_, fun S => ⟨bn7 hr, made7 hv⟩⟩
  · subst h; exact ⟨_, fun S => ⟨bn8 hr, made8 hv⟩⟩
  · subst h; exact ⟨_, fun S => ⟨bn9 hr, made9 hv⟩⟩
  · subst h; exact ⟨_, fun S => ⟨bn10 hr, made10 hv⟩⟩
  · subst h; exact ⟨_, fun S => ⟨bn11 hr, made11 hv⟩⟩
  · subst h; exact ⟨_, fun S => ⟨bn12 hr, made12 hv⟩⟩
  · subst h; exact ⟨_, fun S => ⟨bn13 hr, made13 hv⟩⟩
  · subst h; exact ⟨_, fun S => ⟨bn14 hr, made14 hv⟩⟩
  · subst h; exact ⟨_, fun S => ⟨bn15 hr, made15 hv⟩⟩
  · subst h; exact ⟨_, fun S => ⟨bn16 hr, made16 hv⟩⟩
  · subst h; exact ⟨_, fun S => ⟨bn17 hr, made17 hv⟩⟩
end
end G01
set_option Elab.async false
set_option maxRecDepth 100000
set_option maxHeartbeats 1000000
set_option linter.all false
namespace G01
open PySem PySem.Spec PyProof.Rows L2 Py
abbrev turnL : Es := (sSeq (sSet 3 (eIf (tV (eOp gLt (eVar 2) (eC (.int 13)))) (eArgs m__law_by_place (aCons (eVar 2) (aCons (eVar 1) aNil))) (eArgs m__law_further (aCons (eVar 2) (aCons (eVar 1) aNil))))) (sIf (tNotE (tT (eArgs m__law_is_made (aCons (eVar 2) (aCons (eVar 1) (aCons (eVar 3) aNil)))))) (sRet (eC (.bl false))) sNil))
theorem turn_ok {n : Nat} {v : PV} {S : Sto} {i : Int} {x3 : Option PV} (h0 : 0 ≤ i) (h1 : i < 26) (hv : Rp v) : WP (turnL [some (.ref n), some v, some (.int i), x3] S) fun fl S' => S' = S ∧ ∃ y3, fl = .nx [some (.ref n), some v, some (.int i), y3] := by
  obtain ⟨E, hE⟩ := stepE h0 h1 hv
  obtain ⟨e1, e2, e3⟩ := hE S
  unfold turnL
  by_cases c : i < 13
  · have e := e1 c
    simp only [wp_ok, wp_no, ↓wp_bind, ↓R.bind_ok, ↓sSeq, ↓sNil, ↓sSet, ↓sAsg, ↓sIf, ↓sRet, ↓sExpr, ↓sPar, ↓sPar3, ↓sFor, ↓nName, ↓nTup, ↓nCons, ↓nNil, ↓nNs, ↓eVar, ↓eC, ↓eOp, ↓eUn, ↓eArgs, ↓eNew, ↓aCons, ↓aNil, ↓tV, ↓tT, toB, truP, ↓tNotE, ↓tAndE, ↓tOrE, ↓tYesE, ↓eAndV, ↓eOrV, ↓eNotV, ↓eNotT, ↓eIf, gAdd_int, gAdd_tup, Py.gSub, gMul_l, gMul_r, gMod, gFdiv, gNeg, gLt, gLe, gGt, gGe, gInt, gIx, gEq_int, gEq_str, gEq_bl, gNe_int, gNe_str, gNe_bl, gIsN, gNotN, getQ, getL, gSetL, ↓nSubL, gDivmod, gMin2, gMax2, ↓mkDef, ↓mkNew, startP, finF, finO, finV_tup, finV_int, finV_bl, finV_lst, finV_non, finV_str, finV_ref, ↓eChain, tyP, gIsi, isiB, ↓iArgs, ↓iSeq, iterP, ↓fComp, wipeP, ↓eSl, ↓oNone, ↓oSome, gSl, ↓eMeth0, ↓eMeth1, ixN, atI0, atI1, atI2, atI3, List.length_cons, List.length_nil, List.map_cons, List.map_nil, List.replicate, List.cons_append, List.nil_append, List.append_nil, List.getElem?_cons_zero, List.getElem?_cons_succ, List.getElem?_nil, List.set_cons_zero, List.set_cons_succ, List.set_nil, List.length_set, List.length_append, Nat.add_sub_cancel, Nat.reduceAdd, Nat.reduceSub, Nat.reduceLT, Nat.reduceEqDiff, Nat.reduceLeDiff, Nat.le_refl, Nat.zero_le, if_true, if_false, ↓reduceIte, decide_eq_true_eq, Bool.false_eq_true, Bool.true_eq_false, Bool.not_true, Bool.not_false, Option.isSome_some, forall_const, not_true_eq_false, not_false_eq_true, imp_self, false_implies, true_implies, implies_true, and_true, true_and, Int.toNat_zero, Nat.zero_add, Int.reduceLE, Int.reduceLT, Int.reduceNeg, Int.reduceToNat, Int.reducePow, Int.reduceGT, Int.cast_ofNat_Int, true_or, or_true, Int.ofNat_eq_natCast, decide_true, decide_false, Int.reduceEq, List.isEmpty_cons, List.isEmpty_nil, eDGet1,  keyP, Option.map_some, Option.map_none, Option.getD_some, Option.isSome_some, reduceCtorEq, and_self,  allPure_nil, allPure_cons, Bool.and_true, Bool.true_and, Bool.false_and, Bool.and_false, Bool.not_eq_true, Bool.not_eq_false, gTupP_nil, gLstP_nil, gTupP_ok, gLstP_ok, isRef_tup, isRef_int, isRef_str, isRef_bl, Bool.or_false, Bool.or_true, Bool.true_or, Bool.false_or, c, e, e3]
    exact ⟨_, rfl⟩
  · have e := e2 c
    simp only [wp_ok, wp_no, ↓wp_bind, ↓R.bind_ok, ↓sSeq, ↓sNil, ↓sSet, ↓sAsg, ↓sIf, ↓sRet, ↓sExpr, ↓sPar, ↓sPar3, ↓sFor, ↓nName, ↓nTup, ↓nCons, ↓nNil, ↓nNs, ↓eVar, ↓eC, ↓eOp, ↓eUn, ↓eArgs, ↓eNew, ↓aCons, ↓aNil, ↓tV, ↓tT, toB, truP, ↓tNotE, ↓tAndE, ↓tOrE, ↓tYesE, ↓eAndV, ↓eOrV, ↓eNotV, ↓eNotT, ↓eIf, gAdd_int, gAdd_tup, Py.gSub, gMul_l, gMul_r, gMod, gFdiv, gNeg, gLt, gLe, gGt, gGe, gInt, gIx, gEq_int, gEq_str, gEq_bl, gNe_int, gNe_str, gNe_bl, gIsN, gNotN, getQ, getL, gSetL, ↓nSubL, gDivmod, gMin2, gMax2, ↓mkDef, ↓mkNew, startP, finF, finO, finV_tup, finV_int, finV_bl, finV_lst, finV_non, finV_str, finV_ref, ↓eChain, tyP, gIsi, isiB, ↓iArgs, ↓iSeq, iterP, ↓fComp, wipeP, ↓eSl, ↓oNone, ↓oSome, gSl, ↓eMeth0, ↓eMeth1, ixN, atI0, atI1, atI2, atI3, List.length_cons, List.length_nil, List.map_cons, List.map_nil, List.replicate, List.cons_append, List.nil_append, List.append_nil, List.getElem?_cons_zero, List.getElem?_cons_succ, List.getElem?_nil, List.set_cons_zero, List.set_cons_succ, List.set_nil, List.length_set, List.length_append, Nat.add_sub_cancel, Nat.reduceAdd, Nat.reduceSub, Nat.reduceLT, Nat.reduceEqDiff, Nat.reduceLeDiff, Nat.le_refl, Nat.zero_le, if_true, if_false, ↓reduceIte, decide_eq_true_eq, Bool.false_eq_true, Bool.true_eq_false, Bool.not_true, Bool.not_false, Option.isSome_some, forall_const, not_true_eq_false, not_false_eq_true, imp_self, false_implies, true_implies, implies_true, and_true, true_and, Int.toNat_zero, Nat.zero_add, Int.reduceLE, Int.reduceLT, Int.reduceNeg, Int.reduceToNat, Int.reducePow, Int.reduceGT, Int.cast_ofNat_Int, true_or, or_true, Int.ofNat_eq_natCast, decide_true, decide_false, Int.reduceEq, List.isEmpty_cons, List.isEmpty_nil, eDGet1,  keyP, Option.map_some, Option.map_none, Option.getD_some, Option.isSome_some, reduceCtorEq, and_self,  allPure_nil, allPure_cons, Bool.and_true, Bool.true_and, Bool.false_and, Bool.and_false, Bool.not_eq_true, Bool.not_eq_false, gTupP_nil, gLstP_nil, gTupP_ok, gLstP_ok, isRef_tup, isRef_int, isRef_str, isRef_bl, Bool.or_false, Bool.or_true, Bool.true_or, Bool.false_or, c, e, e3]
    exact ⟨_, rfl⟩
theorem turn_loop {n : Nat} {v : PV} {S : Sto} (hv : Rp v) : ∀ (c : Nat) (i : Int) (x2 x3 : Option PV), 0 ≤ i → i + c ≤ 26 →
    WP (forF (nName 2) turnL (Py.intsFrom i c) [some (.ref n), some v, x2, x3] S) fun fl S' => S' = S ∧ ∃ y2 y3, fl = .nx [some (.ref n), some v, y2, y3]
  | 0, i, x2, x3, h0, h1 => by
    rw [ints_zero, forF]
    exact ⟨rfl, x2, x3, rfl⟩
  | c + 1, i, x2, x3, h0, h1 => by
    obtain ⟨fl, S1, e1, rfl, y3, rfl⟩ := (turn_ok (n := n) (S := S) (i := i) (x3 := x3) h0 (by omega) hv).ex
    have ih := turn_loop (n := n) (S := S1) hv c (i + 1) (some (.int i)) y3 (by omega) (by omega)
    rw [ints_cons, forF]
    have sn : nName 2 (.int i) [some (.ref n), some v, x2, x3] S1 = .ok [some (.ref n), some v, some (.int i), x3] S1 := rfl
    dsimp only
    rw [sn, R.bind_ok, e1, R.bind_ok]
    exact ih
theorem comp18 {f : Ev} {s0 s1 x3 : Option PV} (hf : ∀ i : Int, 0 ≤ i → i < 18 → ∀ S, f [s0, s1, some (.int i), x3] S = .ok (.bl true) S) : ∀ (c : Nat) (i : Int) (acc : List PV) (x2 : Option PV) (S : Sto), 0 ≤ i → i + c ≤ 18 → acc.length + c ≤ 100 →
    WP (compF (nName 2) tYesE f [s0, s1, x2, x3] (Py.intsFrom i c) acc S) fun p S' => p = .lst (acc ++ (Py.intsFrom i c).map fun _ => .bl true)
  | 0, i, acc, x2, S, h0, h1, h2 => by
    rw [ints_zero, compF]
    show PV.lst acc = _
    simp
  | c + 1, i, acc, x2, S, h0, h1, h2 => by
    rw [ints_cons, compF]
    have e := hf i h0 (by omega) S
    simp only [wp_ok, wp_no, ↓wp_bind, ↓R.bind_ok, ↓sSeq, ↓sNil, ↓sSet, ↓sAsg, ↓sIf, ↓sRet, ↓sExpr, ↓sPar, ↓sPar3, ↓sFor, ↓nName, ↓nTup, ↓nCons, ↓nNil, ↓nNs, ↓eVar, ↓eC, ↓eOp, ↓eUn, ↓eArgs, ↓eNew, ↓aCons, ↓aNil, ↓tV, ↓tT, toB, truP, ↓tNotE, ↓tAndE, ↓tOrE, ↓tYesE, ↓eAndV, ↓eOrV, ↓eNotV, ↓eNotT, ↓eIf, gAdd_int, gAdd_tup, Py.gSub, gMul_l, gMul_r, gMod, gFdiv, gNeg, gLt, gLe, gGt, gGe, gInt, gIx, gEq_int, gEq_str, gEq_bl, gNe_int, gNe_str, gNe_bl, gIsN, gNotN, getQ, getL, gSetL, ↓nSubL, gDivmod, gMin2, gMax2, ↓mkDef, ↓mkNew, startP, finF, finO, finV_tup, finV_int, finV_bl, finV_lst, finV_non, finV_str, finV_ref, ↓eChain, tyP, gIsi, isiB, ↓iArgs, ↓iSeq, iterP, ↓fComp, wipeP, ↓eSl, ↓oNone, ↓oSome, gSl, ↓eMeth0, ↓eMeth1, ixN, atI0, atI1, atI2, atI3, List.length_cons, List.length_nil, List.map_cons, List.map_nil, List.replicate, List.cons_append, List.nil_append, List.append_nil, List.getElem?_cons_zero, List.getElem?_cons_succ, List.getElem?_nil, List.set_cons_zero, List.set_cons_succ, List.set_nil, List.length_set, List.length_append, Nat.add_sub_cancel, Nat.reduceAdd, Nat.reduceSub, Nat.reduceLT, Nat.reduceEqDiff, Nat.reduceLeDiff, Nat.le_refl, Nat.zero_le, if_true, if_false, ↓reduceIte, decide_eq_true_eq, Bool.false_eq_true, Bool.true_eq_false, Bool.not_true, Bool.not_false, Option.isSome_some, forall_const, not_true_eq_false, not_false_eq_true, imp_self, false_implies, true_implies, implies_true, and_true, true_and, Int.toNat_zero, Nat.zero_add, Int.reduceLE, Int.reduceLT, Int.reduceNeg, Int.reduceToNat, Int.reducePow, Int.reduceGT, Int.cast_ofNat_Int, true_or, or_true, Int.ofNat_eq_natCast, decide_true, decide_false, Int.reduceEq, List.isEmpty_cons, List.isEmpty_nil, eDGet1,  keyP, Option.map_some, Option.map_none, Option.getD_some, Option.isSome_some, reduceCtorEq, and_self,  allPure_nil, allPure_cons, Bool.and_true, Bool.true_and, Bool.false_and, Bool.and_false, Bool.not_eq_true, Bool.not_eq_false, gTupP_nil, gLstP_nil, gTupP_ok, gLstP_ok, isRef_tup, isRef_int, isRef_str, isRef_bl, Bool.or_false, Bool.or_true, Bool.true_or, Bool.false_or, e]
    have ha : (PV.bl true).isRef = false ∧ acc.length < sizeLine := ⟨rfl, by have := size_1000 (n := acc.length + 1) (by omega); omega⟩
    rw [if_pos ha.2]
    refine wp_of (comp18 hf c (i + 1) (acc ++ [.bl true]) x2 S (by omega) (by omega) (by simp; omega)) fun p S' e => ?_
    rw [e]; simp
theorem name_ok {n : Nat} {v : PV} (hv : Rp v) {x3 : Option PV} {i : Int} (h0 : 0 ≤ i) (h1 : i < 18) {S : Sto} : (eArgs m__law_is_made (aCons (eVar 2) (aCons (eVar 1) (aCons (eArgs m__law_by_name (aCons (eVar 2) (aCons (eVar 1) aNil))) aNil)))) [some (.ref n), some v, some (.int i), x3] S = .ok (.bl true) S := by
  obtain ⟨E, hE⟩ := nameE h0 h1 hv
  obtain ⟨e1, e2⟩ := hE S
  have : WP ((eArgs m__law_is_made (aCons (eVar 2) (aCons (eVar 1) (aCons (eArgs m__law_by_name (aCons (eVar 2) (aCons (eVar 1) aNil))) aNil)))) [some (.ref n), some v, some (.int i), x3] S) fun p S' => p = .bl true ∧ S' = S := by
    simp only [wp_ok, wp_no, ↓wp_bind, ↓R.bind_ok, ↓sSeq, ↓sNil, ↓sSet, ↓sAsg, ↓sIf, ↓sRet, ↓sExpr, ↓sPar, ↓sPar3, ↓sFor, ↓nName, ↓nTup, ↓nCons, ↓nNil, ↓nNs, ↓eVar, ↓eC, ↓eOp, ↓eUn, ↓eArgs, ↓eNew, ↓aCons, ↓aNil, ↓tV, ↓tT, toB, truP, ↓tNotE, ↓tAndE, ↓tOrE, ↓tYesE, ↓eAndV, ↓eOrV, ↓eNotV, ↓eNotT, ↓eIf, gAdd_int, gAdd_tup, Py.gSub, gMul_l, gMul_r, gMod, gFdiv, gNeg, gLt, gLe, gGt, gGe, gInt, gIx, gEq_int, gEq_str, gEq_bl, gNe_int, gNe_str, gNe_bl, gIsN, gNotN, getQ, getL, gSetL, ↓nSubL, gDivmod, gMin2, gMax2, ↓mkDef, ↓mkNew, startP, finF, finO, finV_tup, finV_int, finV_bl, finV_lst, finV_non, finV_str, finV_ref, ↓eChain, tyP, gIsi, isiB, ↓iArgs, ↓iSeq, iterP, ↓fComp, wipeP, ↓eSl, ↓oNone, ↓oSome, gSl, ↓eMeth0, ↓eMeth1, ixN, atI0, atI1, atI2, atI3, List.length_cons, List.length_nil, List.map_cons, List.map_nil, List.replicate, List.cons_append, List.nil_append, List.append_nil, List.getElem?_cons_zero, List.getElem?_cons_succ, List.getElem?_nil, List.set_cons_zero, List.set_cons_succ, List.set_nil, List.length_set, List.length_append, Nat.add_sub_cancel, Nat.reduceAdd, Nat.reduceSub, Nat.reduceLT, Nat.reduceEqDiff, Nat.reduceLeDiff, Nat.le_refl, Nat.zero_le, if_true, if_false, ↓reduceIte, decide_eq_true_eq, Bool.false_eq_true, Bool.true_eq_false, Bool.not_true, Bool.not_false, Option.isSome_some, forall_const, not_true_eq_false, not_false_eq_true, imp_self, false_implies, true_implies, implies_true, and_true, true_and, Int.toNat_zero, Nat.zero_add, Int.reduceLE, Int.reduceLT, Int.reduceNeg, Int.reduceToNat, Int.reducePow, Int.reduceGT, Int.cast_ofNat_Int, true_or, or_true, Int.ofNat_eq_natCast, decide_true, decide_false, Int.reduceEq, List.isEmpty_cons, List.isEmpty_nil, eDGet1,  keyP, Option.map_some, Option.map_none, Option.getD_some, Option.isSome_some, reduceCtorEq, and_self,  allPure_nil, allPure_cons, Bool.and_true, Bool.true_and, Bool.false_and, Bool.and_false, Bool.not_eq_true, Bool.not_eq_false, gTupP_nil, gLstP_nil, gTupP_ok, gLstP_ok, isRef_tup, isRef_int, isRef_str, isRef_bl, Bool.or_false, Bool.or_true, Bool.true_or, Bool.false_or, e1, e2]
  obtain ⟨a, S', e, rfl, rfl⟩ := this.ex
  exact e
end G01
set_option Elab.async false
set_option maxRecDepth 100000
set_option maxHeartbeats 1000000
set_option linter.all false
namespace G01
open PySem PySem.Spec PyProof.Rows L2 Py
theorem gRange_eq {j : Int} {S : Sto} (h : -1000000 ≤ j) (h2 : j ≤ 1000000) : Py.gRange [.int j] S = .ok (Py.intsFrom 0 j.toNat) S := by
  show (if -(2 ^ 62) ≤ j ∧ j < 2 ^ 62 then R.ok (Py.intsFrom 0 j.toNat) S else .no) = _
  rw [if_pos (by omega)]
theorem right_gen {F1 FC : Ev} {IB BL : Es} {IR : Ei} {its : List PV} {n : Nat} {S : Sto}
    (h1 : WP (F1 [some (.ref n), none, none, none] S) fun p S1 => Rp p ∧ Well S1 n)
    (h2 : ∀ v S1, Rp v → Well S1 n → WP (IB [some (.ref n), some v, none, none] S1) fun fl S2 => ∃ w, Rp w ∧ fl = .nx [some (.ref n), some w, none, none])
    (hI : ∀ ρ S, IR ρ S = .ok its S)
    (hL : ∀ w S, Rp w → WP (forF (nName 2) BL its [some (.ref n), some w, none, none] S) fun fl S' => S' = S ∧ ∃ y2 y3, fl = .nx [some (.ref n), some w, y2, y3])
    (h3 : ∀ w y2 y3 S, Rp w → WP (FC [some (.ref n), some w, y2, y3] S) fun p S' => p = .bl true) :
    WP (mkDef 1 4 (sSeq (sSet 1 F1) (sSeq IB (sSeq (sFor IR (nName 2) BL) (sRet FC)))) [.ref n] S) fun p S' => p = .bl true := by
  refine wp_def rfl ?_
  rw [show startP 4 [PV.ref n] = [some (.ref n), none, none, none] from rfl]
  refine step_set h1 fun v S1 ⟨hv, w1⟩ => ?_
  obtain ⟨fl, S2, e2, w, hw, rfl⟩ := (h2 v S1 hv w1).ex
  refine wp_seq e2 ?_
  obtain ⟨fl, S3, e3, _, y2, y3, rfl⟩ := (hL w S2 hw).ex
  refine wp_seq (ρ1 := [some (.ref n), some w, y2, y3]) (S1 := S3) ?_ ?_
  · unfold sFor
    rw [hI, R.bind_ok]
    exact e3
  · obtain ⟨p, S4, e4, rfl⟩ := (h3 w y2 y3 S3 hw).ex
    have : sRet FC [some (.ref n), some w, y2, y3] S3 = .ok (.rt (.bl true)) S4 := by
      unfold sRet
      rw [e4]
      rfl
    rw [this]
    simp only [wp_ok, wp_no, ↓wp_bind, ↓R.bind_ok, ↓sSeq, ↓sNil, ↓sSet, ↓sAsg, ↓sIf, ↓sRet, ↓sExpr, ↓sPar, ↓sPar3, ↓sFor, ↓nName, ↓nTup, ↓nCons, ↓nNil, ↓nNs, ↓eVar, ↓eC, ↓eOp, ↓eUn, ↓eArgs, ↓eNew, ↓aCons, ↓aNil, ↓tV, ↓tT, toB, truP, ↓tNotE, ↓tAndE, ↓tOrE, ↓tYesE, ↓eAndV, ↓eOrV, ↓eNotV, ↓eNotT, ↓eIf, gAdd_int, gAdd_tup, Py.gSub, gMul_l, gMul_r, gMod, gFdiv, gNeg, gLt, gLe, gGt, gGe, gInt, gIx, gEq_int, gEq_str, gEq_bl, gNe_int, gNe_str, gNe_bl, gIsN, gNotN, getQ, getL, gSetL, ↓nSubL, gDivmod, gMin2, gMax2, ↓mkDef, ↓mkNew, startP, finF, finO, finV_tup, finV_int, finV_bl, finV_lst, finV_non, finV_str, finV_ref, ↓eChain, tyP, gIsi, isiB, ↓iArgs, ↓iSeq, iterP, ↓fComp, wipeP, ↓eSl, ↓oNone, ↓oSome, gSl, ↓eMeth0, ↓eMeth1, ixN, atI0, atI1, atI2, atI3, List.length_cons, List.length_nil, List.map_cons, List.map_nil, List.replicate, List.cons_append, List.nil_append, List.append_nil, List.getElem?_cons_zero, List.getElem?_cons_succ, List.getElem?_nil, List.set_cons_zero, List.set_cons_succ, List.set_nil, List.length_set, List.length_append, Nat.add_sub_cancel, Nat.reduceAdd, Nat.reduceSub, Nat.reduceLT, Nat.reduceEqDiff, Nat.reduceLeDiff, Nat.le_refl, Nat.zero_le, if_true, if_false, ↓reduceIte, decide_eq_true_eq, Bool.false_eq_true, Bool.true_eq_false, Bool.not_true, Bool.not_false, Option.isSome_some, forall_const, not_true_eq_false, not_false_eq_true, imp_self, false_implies, true_implies, implies_true, and_true, true_and, Int.toNat_zero, Nat.zero_add, Int.reduceLE, Int.reduceLT, Int.reduceNeg, Int.reduceToNat, Int.reducePow, Int.reduceGT, Int.cast_ofNat_Int, true_or, or_true, Int.ofNat_eq_natCast, decide_true, decide_false, Int.reduceEq, List.isEmpty_cons, List.isEmpty_nil, eDGet1,  keyP, Option.map_some, Option.map_none, Option.getD_some, Option.isSome_some, reduceCtorEq, and_self,  allPure_nil, allPure_cons, Bool.and_true, Bool.true_and, Bool.false_and, Bool.and_false, Bool.not_eq_true, Bool.not_eq_false, gTupP_nil, gLstP_nil, gTupP_ok, gLstP_ok, isRef_tup, isRef_int, isRef_str, isRef_bl, Bool.or_false, Bool.or_true, Bool.true_or, Bool.false_or]
abbrev ifR : Es := (sIf (tV (eOp gEq (eArgs m__law_draw (aCons (eVar 0) (aCons (eC (.int 2)) aNil))) (eC (.int 0)))) (sSet 1 (eArgs (m__law_bent 80) (aCons (eVar 0) (aCons (eArgs (m__law_tree 40) (aCons (eVar 0) (aCons (eArgs gTupP aNil) (aCons (eC (.int 0)) (aCons (eNew (eArgs gLstP (aCons (eC (.int 6)) aNil))) (aCons (eC (.int 2)) (aCons (eC (.int 2)) aNil))))))) aNil)))) sNil)
theorem if_ok {n : Nat} {v : PV} {S1 : Sto} (hv : Rp v) (hw : Well S1 n) : WP (ifR [some (.ref n), some v, none, none] S1) fun fl S2 => ∃ w, Rp w ∧ fl = .nx [some (.ref n), some w, none, none] := by
  have hD := dOf_ok [] CD_ok trivial
  unfold ifR
  simp only [wp_ok, wp_no, ↓wp_bind, ↓R.bind_ok, ↓sSeq, ↓sNil, ↓sSet, ↓sAsg, ↓sIf, ↓sRet, ↓sExpr, ↓sPar, ↓sPar3, ↓sFor, ↓nName, ↓nTup, ↓nCons, ↓nNil, ↓nNs, ↓eVar, ↓eC, ↓eOp, ↓eUn, ↓eArgs, ↓eNew, ↓aCons, ↓aNil, ↓tV, ↓tT, toB, truP, ↓tNotE, ↓tAndE, ↓tOrE, ↓tYesE, ↓eAndV, ↓eOrV, ↓eNotV, ↓eNotT, ↓eIf, gAdd_int, gAdd_tup, Py.gSub, gMul_l, gMul_r, gMod, gFdiv, gNeg, gLt, gLe, gGt, gGe, gInt, gIx, gEq_int, gEq_str, gEq_bl, gNe_int, gNe_str, gNe_bl, gIsN, gNotN, getQ, getL, gSetL, ↓nSubL, gDivmod, gMin2, gMax2, ↓mkDef, ↓mkNew, startP, finF, finO, finV_tup, finV_int, finV_bl, finV_lst, finV_non, finV_str, finV_ref, ↓eChain, tyP, gIsi, isiB, ↓iArgs, ↓iSeq, iterP, ↓fComp, wipeP, ↓eSl, ↓oNone, ↓oSome, gSl, ↓eMeth0, ↓eMeth1, ixN, atI0, atI1, atI2, atI3, List.length_cons, List.length_nil, List.map_cons, List.map_nil, List.replicate, List.cons_append, List.nil_append, List.append_nil, List.getElem?_cons_zero, List.getElem?_cons_succ, List.getElem?_nil, List.set_cons_zero, List.set_cons_succ, List.set_nil, List.length_set, List.length_append, Nat.add_sub_cancel, Nat.reduceAdd, Nat.reduceSub, Nat.reduceLT, Nat.reduceEqDiff, Nat.reduceLeDiff, Nat.le_refl, Nat.zero_le, if_true, if_false, ↓reduceIte, decide_eq_true_eq, Bool.false_eq_true, Bool.true_eq_false, Bool.not_true, Bool.not_false, Option.isSome_some, forall_const, not_true_eq_false, not_false_eq_true, imp_self, false_implies, true_implies, implies_true, and_true, true_and, Int.toNat_zero, Nat.zero_add, Int.reduceLE, Int.reduceLT, Int.reduceNeg, Int.reduceToNat, Int.reducePow, Int.reduceGT, Int.cast_ofNat_Int, true_or, or_true, Int.ofNat_eq_natCast, decide_true, decide_false, Int.reduceEq, List.isEmpty_cons, List.isEmpty_nil, eDGet1,  keyP, Option.map_some, Option.map_none, Option.getD_some, Option.isSome_some, reduceCtorEq, and_self,  allPure_nil, allPure_cons, Bool.and_true, Bool.true_and, Bool.false_and, Bool.and_false, Bool.not_eq_true, Bool.not_eq_false, gTupP_nil, gLstP_nil, gTupP_ok, gLstP_ok, isRef_tup, isRef_int, isRef_str, isRef_bl, Bool.or_false, Bool.or_true, Bool.true_or, Bool.false_or]
  refine wp_of (draw_ok hw (m := 2) (by omega) (by omega)) fun p S2 ⟨k, ek, k0, k1, w2⟩ => ?_
  subst ek
  by_cases hk : k = 0
  · subst hk
    have hn := w2.w.lt
    have tr := tree_ok (b := []) trivial (by simp) (n := n) (m := S2.length) (by omega) (free := 2) (ats := 2) (by omega) (by omega) 40 (S2 ++ [.lst [.int 6]]) 0 6 (by omega) (by omega) (by omega) w2.w.app get_last
    rw [show bookP [] = PV.tup [] from rfl] at tr
    simp only [wp_ok, wp_no, ↓wp_bind, ↓R.bind_ok, ↓sSeq, ↓sNil, ↓sSet, ↓sAsg, ↓sIf, ↓sRet, ↓sExpr, ↓sPar, ↓sPar3, ↓sFor, ↓nName, ↓nTup, ↓nCons, ↓nNil, ↓nNs, ↓eVar, ↓eC, ↓eOp, ↓eUn, ↓eArgs, ↓eNew, ↓aCons, ↓aNil, ↓tV, ↓tT, toB, truP, ↓tNotE, ↓tAndE, ↓tOrE, ↓tYesE, ↓eAndV, ↓eOrV, ↓eNotV, ↓eNotT, ↓eIf, gAdd_int, gAdd_tup, Py.gSub, gMul_l, gMul_r, gMod, gFdiv, gNeg, gLt, gLe, gGt, gGe, gInt, gIx, gEq_int, gEq_str, gEq_bl, gNe_int, gNe_str, gNe_bl, gIsN, gNotN, getQ, getL, gSetL, ↓nSubL, gDivmod, gMin2, gMax2, ↓mkDef, ↓mkNew, startP, finF, finO, finV_tup, finV_int, finV_bl, finV_lst, finV_non, finV_str, finV_ref, ↓eChain, tyP, gIsi, isiB, ↓iArgs, ↓iSeq, iterP, ↓fComp, wipeP, ↓eSl, ↓oNone, ↓oSome, gSl, ↓eMeth0, ↓eMeth1, ixN, atI0, atI1, atI2, atI3, List.length_cons, List.length_nil, List.map_cons, List.map_nil, List.replicate, List.cons_append, List.nil_append, List.append_nil, List.getElem?_cons_zero, List.getElem?_cons_succ, List.getElem?_nil, List.set_cons_zero, List.set_cons_succ, List.set_nil, List.length_set, List.length_append, Nat.add_sub_cancel, Nat.reduceAdd, Nat.reduceSub, Nat.reduceLT, Nat.reduceEqDiff, Nat.reduceLeDiff, Nat.le_refl, Nat.zero_le, if_true, if_false, ↓reduceIte, decide_eq_true_eq, Bool.false_eq_true, Bool.true_eq_false, Bool.not_true, Bool.not_false, Option.isSome_some, forall_const, not_true_eq_false, not_false_eq_true, imp_self, false_implies, true_implies, implies_true, and_true, true_and, Int.toNat_zero, Nat.zero_add, Int.reduceLE, Int.reduceLT, Int.reduceNeg, Int.reduceToNat, Int.reducePow, Int.reduceGT, Int.cast_ofNat_Int, true_or, or_true, Int.ofNat_eq_natCast, decide_true, decide_false, Int.reduceEq, List.isEmpty_cons, List.isEmpty_nil, eDGet1,  keyP, Option.map_some, Option.map_none, Option.getD_some, Option.isSome_some, reduceCtorEq, and_self,  allPure_nil, allPure_cons, Bool.and_true, Bool.true_and, Bool.false_and, Bool.and_false, Bool.not_eq_true, Bool.not_eq_false, gTupP_nil, gLstP_nil, gTupP_ok, gLstP_ok, isRef_tup, isRef_int, isRef_str, isRef_bl, Bool.or_false, Bool.or_true, Bool.true_or, Bool.false_or]
    refine wp_of tr fun p S3 ⟨t, l4, ep, ht, w3⟩ => ?_
    subst ep
    have hln := ht.ln
    have hnn := ht.nn (by omega)
    have hd := ht.v.dep_le hD
    have dr : Dr [] 7 t := ⟨ht.v, by omega, SL_T hD ht.v (by omega) (by omega) (by omega) ht.lf⟩
    obtain ⟨b1, b2⟩ := Dr.bd (k := 8) (show BkOk CD [] from trivial) dr (by omega)
    have bt := bent_ok (m := 0) (by omega) 80 8 (enc t) S3 (by omega) w3.w b1
    simp only [wp_ok, wp_no, ↓wp_bind, ↓R.bind_ok, ↓sSeq, ↓sNil, ↓sSet, ↓sAsg, ↓sIf, ↓sRet, ↓sExpr, ↓sPar, ↓sPar3, ↓sFor, ↓nName, ↓nTup, ↓nCons, ↓nNil, ↓nNs, ↓eVar, ↓eC, ↓eOp, ↓eUn, ↓eArgs, ↓eNew, ↓aCons, ↓aNil, ↓tV, ↓tT, toB, truP, ↓tNotE, ↓tAndE, ↓tOrE, ↓tYesE, ↓eAndV, ↓eOrV, ↓eNotV, ↓eNotT, ↓eIf, gAdd_int, gAdd_tup, Py.gSub, gMul_l, gMul_r, gMod, gFdiv, gNeg, gLt, gLe, gGt, gGe, gInt, gIx, gEq_int, gEq_str, gEq_bl, gNe_int, gNe_str, gNe_bl, gIsN, gNotN, getQ, getL, gSetL, ↓nSubL, gDivmod, gMin2, gMax2, ↓mkDef, ↓mkNew, startP, finF, finO, finV_tup, finV_int, finV_bl, finV_lst, finV_non, finV_str, finV_ref, ↓eChain, tyP, gIsi, isiB, ↓iArgs, ↓iSeq, iterP, ↓fComp, wipeP, ↓eSl, ↓oNone, ↓oSome, gSl, ↓eMeth0, ↓eMeth1, ixN, atI0, atI1, atI2, atI3, List.length_cons, List.length_nil, List.map_cons, List.map_nil, List.replicate, List.cons_append, List.nil_append, List.append_nil, List.getElem?_cons_zero, List.getElem?_cons_succ, List.getElem?_nil, List.set_cons_zero, List.set_cons_succ, List.set_nil, List.length_set, List.length_append, Nat.add_sub_cancel, Nat.reduceAdd, Nat.reduceSub, Nat.reduceLT, Nat.reduceEqDiff, Nat.reduceLeDiff, Nat.le_refl, Nat.zero_le, if_true, if_false, ↓reduceIte, decide_eq_true_eq, Bool.false_eq_true, Bool.true_eq_false, Bool.not_true, Bool.not_false, Option.isSome_some, forall_const, not_true_eq_false, not_false_eq_true, imp_self, false_implies, true_implies, implies_true, and_true, true_and, Int.toNat_zero, Nat.zero_add, Int.reduceLE, Int.reduceLT, Int.reduceNeg, Int.reduceToNat, Int.reducePow, Int.reduceGT, Int.cast_ofNat_Int, true_or, or_true, Int.ofNat_eq_natCast, decide_true, decide_false, Int.reduceEq, List.isEmpty_cons, List.isEmpty_nil, eDGet1,  keyP, Option.map_some, Option.map_none, Option.getD_some, Option.isSome_some, reduceCtorEq, and_self,  allPure_nil, allPure_cons, Bool.and_true, Bool.true_and, Bool.false_and, Bool.and_false, Bool.not_eq_true, Bool.not_eq_false, gTupP_nil, gLstP_nil, gTupP_ok, gLstP_ok, isRef_tup, isRef_int, isRef_str, isRef_bl, Bool.or_false, Bool.or_true, Bool.true_or, Bool.false_or]
    refine wp_of bt fun q S4 ⟨w4, b⟩ => ?_
    simp only [wp_ok, wp_no, ↓wp_bind, ↓R.bind_ok, ↓sSeq, ↓sNil, ↓sSet, ↓sAsg, ↓sIf, ↓sRet, ↓sExpr, ↓sPar, ↓sPar3, ↓sFor, ↓nName, ↓nTup, ↓nCons, ↓nNil, ↓nNs, ↓eVar, ↓eC, ↓eOp, ↓eUn, ↓eArgs, ↓eNew, ↓aCons, ↓aNil, ↓tV, ↓tT, toB, truP, ↓tNotE, ↓tAndE, ↓tOrE, ↓tYesE, ↓eAndV, ↓eOrV, ↓eNotV, ↓eNotT, ↓eIf, gAdd_int, gAdd_tup, Py.gSub, gMul_l, gMul_r, gMod, gFdiv, gNeg, gLt, gLe, gGt, gGe, gInt, gIx, gEq_int, gEq_str, gEq_bl, gNe_int, gNe_str, gNe_bl, gIsN, gNotN, getQ, getL, gSetL, ↓nSubL, gDivmod, gMin2, gMax2, ↓mkDef, ↓mkNew, startP, finF, finO, finV_tup, finV_int, finV_bl, finV_lst, finV_non, finV_str, finV_ref, ↓eChain, tyP, gIsi, isiB, ↓iArgs, ↓iSeq, iterP, ↓fComp, wipeP, ↓eSl, ↓oNone, ↓oSome, gSl, ↓eMeth0, ↓eMeth1, ixN, atI0, atI1, atI2, atI3, List.length_cons, List.length_nil, List.map_cons, List.map_nil, List.replicate, List.cons_append, List.nil_append, List.append_nil, List.getElem?_cons_zero, List.getElem?_cons_succ, List.getElem?_nil, List.set_cons_zero, List.set_cons_succ, List.set_nil, List.length_set, List.length_append, Nat.add_sub_cancel, Nat.reduceAdd, Nat.reduceSub, Nat.reduceLT, Nat.reduceEqDiff, Nat.reduceLeDiff, Nat.le_refl, Nat.zero_le, if_true, if_false, ↓reduceIte, decide_eq_true_eq, Bool.false_eq_true, Bool.true_eq_false, Bool.not_true, Bool.not_false, Option.isSome_some, forall_const, not_true_eq_false, not_false_eq_true, imp_self, false_implies, true_implies, implies_true, and_true, true_and, Int.toNat_zero, Nat.zero_add, Int.reduceLE, Int.reduceLT, Int.reduceNeg, Int.reduceToNat, Int.reducePow, Int.reduceGT, Int.cast_ofNat_Int, true_or, or_true, Int.ofNat_eq_natCast, decide_true, decide_false, Int.reduceEq, List.isEmpty_cons, List.isEmpty_nil, eDGet1,  keyP, Option.map_some, Option.map_none, Option.getD_some, Option.isSome_some, reduceCtorEq, and_self,  allPure_nil, allPure_cons, Bool.and_true, Bool.true_and, Bool.false_and, Bool.and_false, Bool.not_eq_true, Bool.not_eq_false, gTupP_nil, gLstP_nil, gTupP_ok, gLstP_ok, isRef_tup, isRef_int, isRef_str, isRef_bl, Bool.or_false, Bool.or_true, Bool.true_or, Bool.false_or]
    exact ⟨q, rp_of (by omega) b.1 (by omega) (by have := b.2.1; omega), rfl⟩
  · simp only [wp_ok, wp_no, ↓wp_bind, ↓R.bind_ok, ↓sSeq, ↓sNil, ↓sSet, ↓sAsg, ↓sIf, ↓sRet, ↓sExpr, ↓sPar, ↓sPar3, ↓sFor, ↓nName, ↓nTup, ↓nCons, ↓nNil, ↓nNs, ↓eVar, ↓eC, ↓eOp, ↓eUn, ↓eArgs, ↓eNew, ↓aCons, ↓aNil, ↓tV, ↓tT, toB, truP, ↓tNotE, ↓tAndE, ↓tOrE, ↓tYesE, ↓eAndV, ↓eOrV, ↓eNotV, ↓eNotT, ↓eIf, gAdd_int, gAdd_tup, Py.gSub, gMul_l, gMul_r, gMod, gFdiv, gNeg, gLt, gLe, gGt, gGe, gInt, gIx, gEq_int, gEq_str, gEq_bl, gNe_int, gNe_str, gNe_bl, gIsN, gNotN, getQ, getL, gSetL, ↓nSubL, gDivmod, gMin2, gMax2, ↓mkDef, ↓mkNew, startP, finF, finO, finV_tup, finV_int, finV_bl, finV_lst, finV_non, finV_str, finV_ref, ↓eChain, tyP, gIsi, isiB, ↓iArgs, ↓iSeq, iterP, ↓fComp, wipeP, ↓eSl, ↓oNone, ↓oSome, gSl, ↓eMeth0, ↓eMeth1, ixN, atI0, atI1, atI2, atI3, List.length_cons, List.length_nil, List.map_cons, List.map_nil, List.replicate, List.cons_append, List.nil_append, List.append_nil, List.getElem?_cons_zero, List.getElem?_cons_succ, List.getElem?_nil, List.set_cons_zero, List.set_cons_succ, List.set_nil, List.length_set, List.length_append, Nat.add_sub_cancel, Nat.reduceAdd, Nat.reduceSub, Nat.reduceLT, Nat.reduceEqDiff, Nat.reduceLeDiff, Nat.le_refl, Nat.zero_le, if_true, if_false, ↓reduceIte, decide_eq_true_eq, Bool.false_eq_true, Bool.true_eq_false, Bool.not_true, Bool.not_false, Option.isSome_some, forall_const, not_true_eq_false, not_false_eq_true, imp_self, false_implies, true_implies, implies_true, and_true, true_and, Int.toNat_zero, Nat.zero_add, Int.reduceLE, Int.reduceLT, Int.reduceNeg, Int.reduceToNat, Int.reducePow, Int.reduceGT, Int.cast_ofNat_Int, true_or, or_true, Int.ofNat_eq_natCast, decide_true, decide_false, Int.reduceEq, List.isEmpty_cons, List.isEmpty_nil, eDGet1,  keyP, Option.map_some, Option.map_none, Option.getD_some, Option.isSome_some, reduceCtorEq, and_self,  allPure_nil, allPure_cons, Bool.and_true, Bool.true_and, Bool.false_and, Bool.and_false, Bool.not_eq_true, Bool.not_eq_false, gTupP_nil, gLstP_nil, gTupP_ok, gLstP_ok, isRef_tup, isRef_int, isRef_str, isRef_bl, Bool.or_false, Bool.or_true, Bool.true_or, Bool.false_or, hk]
    exact ⟨v, hv, rfl⟩
theorem right_ok {n : Nat} {S : Sto} (hw : Well S n) : WP (m__law_right [.ref n] S) fun p S' => p = .bl true := by
  have h1 : WP ((eArgs m__law_odd (aCons (eVar 0) aNil)) [some (.ref n), none, none, none] S) fun p S1 => Rp p ∧ Well S1 n := by
    simp only [wp_ok, wp_no, ↓wp_bind, ↓R.bind_ok, ↓sSeq, ↓sNil, ↓sSet, ↓sAsg, ↓sIf, ↓sRet, ↓sExpr, ↓sPar, ↓sPar3, ↓sFor, ↓nName, ↓nTup, ↓nCons, ↓nNil, ↓nNs, ↓eVar, ↓eC, ↓eOp, ↓eUn, ↓eArgs, ↓eNew, ↓aCons, ↓aNil, ↓tV, ↓tT, toB, truP, ↓tNotE, ↓tAndE, ↓tOrE, ↓tYesE, ↓eAndV, ↓eOrV, ↓eNotV, ↓eNotT, ↓eIf, gAdd_int, gAdd_tup, Py.gSub, gMul_l, gMul_r, gMod, gFdiv, gNeg, gLt, gLe, gGt, gGe, gInt, gIx, gEq_int, gEq_str, gEq_bl, gNe_int, gNe_str, gNe_bl, gIsN, gNotN, getQ, getL, gSetL, ↓nSubL, gDivmod, gMin2, gMax2, ↓mkDef, ↓mkNew, startP, finF, finO, finV_tup, finV_int, finV_bl, finV_lst, finV_non, finV_str, finV_ref, ↓eChain, tyP, gIsi, isiB, ↓iArgs, ↓iSeq, iterP, ↓fComp, wipeP, ↓eSl, ↓oNone, ↓oSome, gSl, ↓eMeth0, ↓eMeth1, ixN, atI0, atI1, atI2, atI3, List.length_cons, List.length_nil, List.map_cons, List.map_nil, List.replicate, List.cons_append, List.nil_append, List.append_nil, List.getElem?_cons_zero, List.getElem?_cons_succ, List.getElem?_nil, List.set_cons_zero, List.set_cons_succ, List.set_nil, List.length_set, List.length_append, Nat.add_sub_cancel, Nat.reduceAdd, Nat.reduceSub, Nat.reduceLT, Nat.reduceEqDiff, Nat.reduceLeDiff, Nat.le_refl, Nat.zero_le, if_true, if_false, ↓reduceIte, decide_eq_true_eq, Bool.false_eq_true, Bool.true_eq_false, Bool.not_true, Bool.not_false, Option.isSome_some, forall_const, not_true_eq_false, not_false_eq_true, imp_self, false_implies, true_implies, implies_true, and_true, true_and, Int.toNat_zero, Nat.zero_add, Int.reduceLE, Int.reduceLT, Int.reduceNeg, Int.reduceToNat, Int.reducePow, Int.reduceGT, Int.cast_ofNat_Int, true_or, or_true, Int.ofNat_eq_natCast, decide_true, decide_false, Int.reduceEq, List.isEmpty_cons, List.isEmpty_nil, eDGet1,  keyP, Option.map_some, Option.map_none, Option.getD_some, Option.isSome_some, reduceCtorEq, and_self,  allPure_nil, allPure_cons, Bool.and_true, Bool.true_and, Bool.false_and, Bool.and_false, Bool.not_eq_true, Bool.not_eq_false, gTupP_nil, gLstP_nil, gTupP_ok, gLstP_ok, isRef_tup, isRef_int, isRef_str, isRef_bl, Bool.or_false, Bool.or_true, Bool.true_or, Bool.false_or]
    refine wp_of (odd_ok hw) fun p S1 ⟨w, o⟩ => ?_
    exact ⟨rp_of (by omega) o.1 (by omega) (by have := o.2.1; omega), w.w⟩
  have h3 : ∀ (w : PV) (y2 y3 : Option PV) (S : Sto), Rp w → WP ((eArgs gAll (aCons (fComp (iArgs gRange (aCons (eC (.int 18)) aNil)) (nName 2) tYesE (eArgs m__law_is_made (aCons (eVar 2) (aCons (eVar 1) (aCons (eArgs m__law_by_name (aCons (eVar 2) (aCons (eVar 1) aNil))) aNil)))) [2]) aNil)) [some (.ref n), some w, y2, y3] S) fun p S' => p = .bl true := by
    intro w y2 y3 S hv
    have gr := gRange_eq (j := 18) (S := S) (by omega) (by omega)
    have main := comp18 (f := (eArgs m__law_is_made (aCons (eVar 2) (aCons (eVar 1) (aCons (eArgs m__law_by_name (aCons (eVar 2) (aCons (eVar 1) aNil))) aNil))))) (s0 := some (.ref n)) (s1 := some w) (x3 := y3) (fun i h0 h1 S => name_ok hv h0 h1) (Int.toNat 18) 0 [] none S (by omega) (by decide) (by decide)
    generalize (eArgs m__law_is_made (aCons (eVar 2) (aCons (eVar 1) (aCons (eArgs m__law_by_name (aCons (eVar 2) (aCons (eVar 1) aNil))) aNil)))) = f at main ⊢
    generalize hits : Py.intsFrom 0 (Int.toNat 18) = its at *
    simp only [wp_ok, wp_no, ↓wp_bind, ↓R.bind_ok, ↓sSeq, ↓sNil, ↓sSet, ↓sAsg, ↓sIf, ↓sRet, ↓sExpr, ↓sPar, ↓sPar3, ↓sFor, ↓nName, ↓nTup, ↓nCons, ↓nNil, ↓nNs, ↓eVar, ↓eC, ↓eOp, ↓eUn, ↓eArgs, ↓eNew, ↓aCons, ↓aNil, ↓tV, ↓tT, toB, truP, ↓tNotE, ↓tAndE, ↓tOrE, ↓tYesE, ↓eAndV, ↓eOrV, ↓eNotV, ↓eNotT, ↓eIf, gAdd_int, gAdd_tup, Py.gSub, gMul_l, gMul_r, gMod, gFdiv, gNeg, gLt, gLe, gGt, gGe, gInt, gIx, gEq_int, gEq_str, gEq_bl, gNe_int, gNe_str, gNe_bl, gIsN, gNotN, getQ, getL, gSetL, ↓nSubL, gDivmod, gMin2, gMax2, ↓mkDef, ↓mkNew, startP, finF, finO, finV_tup, finV_int, finV_bl, finV_lst, finV_non, finV_str, finV_ref, ↓eChain, tyP, gIsi, isiB, ↓iSeq, iterP, ↓fComp, wipeP, ↓eSl, ↓oNone, ↓oSome, gSl, ↓eMeth0, ↓eMeth1, ixN, atI0, atI1, atI2, atI3, List.length_cons, List.length_nil, List.map_cons, List.map_nil, List.replicate, List.cons_append, List.nil_append, List.append_nil, List.getElem?_cons_zero, List.getElem?_cons_succ, List.getElem?_nil, List.set_cons_zero, List.set_cons_succ, List.set_nil, List.length_set, List.length_append, Nat.add_sub_cancel, Nat.reduceAdd, Nat.reduceSub, Nat.reduceLT, Nat.reduceEqDiff, Nat.reduceLeDiff, Nat.le_refl, Nat.zero_le, if_true, if_false, ↓reduceIte, decide_eq_true_eq, Bool.false_eq_true, Bool.true_eq_false, Bool.not_true, Bool.not_false, Option.isSome_some, forall_const, not_true_eq_false, not_false_eq_true, imp_self, false_implies, true_implies, implies_true, and_true, true_and, Int.toNat_zero, Nat.zero_add, Int.reduceLE, Int.reduceLT, Int.reduceNeg, Int.reduceToNat, Int.reducePow, Int.reduceGT, Int.cast_ofNat_Int, true_or, or_true, Int.ofNat_eq_natCast, decide_true, decide_false, Int.reduceEq, List.isEmpty_cons, List.isEmpty_nil, eDGet1,  keyP, Option.map_some, Option.map_none, Option.getD_some, Option.isSome_some, reduceCtorEq, and_self,  allPure_nil, allPure_cons, Bool.and_true, Bool.true_and, Bool.false_and, Bool.and_false, Bool.not_eq_true, Bool.not_eq_false, gTupP_nil, gLstP_nil, gTupP_ok, gLstP_ok, isRef_tup, isRef_int, isRef_str, isRef_bl, Bool.or_false, Bool.or_true, Bool.true_or, Bool.false_or, iArgs, gr]
    try rw [hits]
    refine wp_of main fun p S' e => ?_
    subst e
    rw [List.nil_append]
    simp only [wp_ok, wp_no, ↓wp_bind, ↓R.bind_ok, ↓sSeq, ↓sNil, ↓sSet, ↓sAsg, ↓sIf, ↓sRet, ↓sExpr, ↓sPar, ↓sPar3, ↓sFor, ↓nName, ↓nTup, ↓nCons, ↓nNil, ↓nNs, ↓eVar, ↓eC, ↓eOp, ↓eUn, ↓eArgs, ↓eNew, ↓aCons, ↓aNil, ↓tV, ↓tT, toB, truP, ↓tNotE, ↓tAndE, ↓tOrE, ↓tYesE, ↓eAndV, ↓eOrV, ↓eNotV, ↓eNotT, ↓eIf, gAdd_int, gAdd_tup, Py.gSub, gMul_l, gMul_r, gMod, gFdiv, gNeg, gLt, gLe, gGt, gGe, gInt, gIx, gEq_int, gEq_str, gEq_bl, gNe_int, gNe_str, gNe_bl, gIsN, gNotN, getQ, getL, gSetL, ↓nSubL, gDivmod, gMin2, gMax2, ↓mkDef, ↓mkNew, startP, finF, finO, finV_tup, finV_int, finV_bl, finV_lst, finV_non, finV_str, finV_ref, ↓eChain, tyP, gIsi, isiB, ↓iArgs, ↓iSeq, iterP, ↓fComp, wipeP, ↓eSl, ↓oNone, ↓oSome, gSl, ↓eMeth0, ↓eMeth1, ixN, atI0, atI1, atI2, atI3, List.length_cons, List.length_nil, List.map_cons, List.map_nil, List.replicate, List.cons_append, List.nil_append, List.append_nil, List.getElem?_cons_zero, List.getElem?_cons_succ, List.getElem?_nil, List.set_cons_zero, List.set_cons_succ, List.set_nil, List.length_set, List.length_append, Nat.add_sub_cancel, Nat.reduceAdd, Nat.reduceSub, Nat.reduceLT, Nat.reduceEqDiff, Nat.reduceLeDiff, Nat.le_refl, Nat.zero_le, if_true, if_false, ↓reduceIte, decide_eq_true_eq, Bool.false_eq_true, Bool.true_eq_false, Bool.not_true, Bool.not_false, Option.isSome_some, forall_const, not_true_eq_false, not_false_eq_true, imp_self, false_implies, true_implies, implies_true, and_true, true_and, Int.toNat_zero, Nat.zero_add, Int.reduceLE, Int.reduceLT, Int.reduceNeg, Int.reduceToNat, Int.reducePow, Int.reduceGT, Int.cast_ofNat_Int, true_or, or_true, Int.ofNat_eq_natCast, decide_true, decide_false, Int.reduceEq, List.isEmpty_cons, List.isEmpty_nil, eDGet1,  keyP, Option.map_some, Option.map_none, Option.getD_some, Option.isSome_some, reduceCtorEq, and_self,  allPure_nil, allPure_cons, Bool.and_true, Bool.true_and, Bool.false_and, Bool.and_false, Bool.not_eq_true, Bool.not_eq_false, gTupP_nil, gLstP_nil, gTupP_ok, gLstP_ok, isRef_tup, isRef_int, isRef_str, isRef_bl, Bool.or_false, Bool.or_true, Bool.true_or, Bool.false_or, gAll_trueA]
  have g := right_gen (F1 := (eArgs m__law_odd (aCons (eVar 0) aNil))) (IB := ifR) (BL := turnL) (IR := iArgs gRange (aCons (eC (.int 26)) aNil)) (its := Py.intsFrom 0 (Int.toNat 26)) h1 (fun v S1 hv hw => if_ok hv hw) (fun ρ S => gRange_eq (j := 26) (S := S) (by omega) (by omega))
    (fun w S hw => turn_loop hw (Int.toNat 26) 0 none none (by omega) (by decide)) h3
  unfold m__law_right b__law_right
  exact g
theorem body_ok {ns : List Int} {sc : PV} (hs : Py.Scr ns sc) (hl : ns.length ≤ 63) {i : Int} (h0 : 0 ≤ i) (h1 : i ≤ 10) {S : Sto} : WP ((eArgs m__law_right (aCons (eNew (eArgs m__law_well (aCons (eVar 0) (aCons (eVar 1) aNil)))) aNil)) [some sc, some (.int i)] S) fun p S' => p = .bl true := by
  simp only [wp_ok, wp_no, ↓wp_bind, ↓R.bind_ok, ↓sSeq, ↓sNil, ↓sSet, ↓sAsg, ↓sIf, ↓sRet, ↓sExpr, ↓sPar, ↓sPar3, ↓sFor, ↓nName, ↓nTup, ↓nCons, ↓nNil, ↓nNs, ↓eVar, ↓eC, ↓eOp, ↓eUn, ↓eArgs, ↓eNew, ↓aCons, ↓aNil, ↓tV, ↓tT, toB, truP, ↓tNotE, ↓tAndE, ↓tOrE, ↓tYesE, ↓eAndV, ↓eOrV, ↓eNotV, ↓eNotT, ↓eIf, gAdd_int, gAdd_tup, Py.gSub, gMul_l, gMul_r, gMod, gFdiv, gNeg, gLt, gLe, gGt, gGe, gInt, gIx, gEq_int, gEq_str, gEq_bl, gNe_int, gNe_str, gNe_bl, gIsN, gNotN, getQ, getL, gSetL, ↓nSubL, gDivmod, gMin2, gMax2, ↓mkDef, ↓mkNew, startP, finF, finO, finV_tup, finV_int, finV_bl, finV_lst, finV_non, finV_str, finV_ref, ↓eChain, tyP, gIsi, isiB, ↓iArgs, ↓iSeq, iterP, ↓fComp, wipeP, ↓eSl, ↓oNone, ↓oSome, gSl, ↓eMeth0, ↓eMeth1, ixN, atI0, atI1, atI2, atI3, List.length_cons, List.length_nil, List.map_cons, List.map_nil, List.replicate, List.cons_append, List.nil_append, List.append_nil, List.getElem?_cons_zero, List.getElem?_cons_succ, List.getElem?_nil, List.set_cons_zero, List.set_cons_succ, List.set_nil, List.length_set, List.length_append, Nat.add_sub_cancel, Nat.reduceAdd, Nat.reduceSub, Nat.reduceLT, Nat.reduceEqDiff, Nat.reduceLeDiff, Nat.le_refl, Nat.zero_le, if_true, if_false, ↓reduceIte, decide_eq_true_eq, Bool.false_eq_true, Bool.true_eq_false, Bool.not_true, Bool.not_false, Option.isSome_some, forall_const, not_true_eq_false, not_false_eq_true, imp_self, false_implies, true_implies, implies_true, and_true, true_and, Int.toNat_zero, Nat.zero_add, Int.reduceLE, Int.reduceLT, Int.reduceNeg, Int.reduceToNat, Int.reducePow, Int.reduceGT, Int.cast_ofNat_Int, true_or, or_true, Int.ofNat_eq_natCast, decide_true, decide_false, Int.reduceEq, List.isEmpty_cons, List.isEmpty_nil, eDGet1,  keyP, Option.map_some, Option.map_none, Option.getD_some, Option.isSome_some, reduceCtorEq, and_self,  allPure_nil, allPure_cons, Bool.and_true, Bool.true_and, Bool.false_and, Bool.and_false, Bool.not_eq_true, Bool.not_eq_false, gTupP_nil, gLstP_nil, gTupP_ok, gLstP_ok, isRef_tup, isRef_int, isRef_str, isRef_bl, Bool.or_false, Bool.or_true, Bool.true_or, Bool.false_or]
  refine wp_of (well_okS hs h0 h1 hl) fun p S' ⟨e, a, b, c, ep⟩ => ?_
  subst e ep
  try simp only [wp_ok, wp_no, ↓wp_bind, ↓R.bind_ok, ↓sSeq, ↓sNil, ↓sSet, ↓sAsg, ↓sIf, ↓sRet, ↓sExpr, ↓sPar, ↓sPar3, ↓sFor, ↓nName, ↓nTup, ↓nCons, ↓nNil, ↓nNs, ↓eVar, ↓eC, ↓eOp, ↓eUn, ↓eArgs, ↓eNew, ↓aCons, ↓aNil, ↓tV, ↓tT, toB, truP, ↓tNotE, ↓tAndE, ↓tOrE, ↓tYesE, ↓eAndV, ↓eOrV, ↓eNotV, ↓eNotT, ↓eIf, gAdd_int, gAdd_tup, Py.gSub, gMul_l, gMul_r, gMod, gFdiv, gNeg, gLt, gLe, gGt, gGe, gInt, gIx, gEq_int, gEq_str, gEq_bl, gNe_int, gNe_str, gNe_bl, gIsN, gNotN, getQ, getL, gSetL, ↓nSubL, gDivmod, gMin2, gMax2, ↓mkDef, ↓mkNew, startP, finF, finO, finV_tup, finV_int, finV_bl, finV_lst, finV_non, finV_str, finV_ref, ↓eChain, tyP, gIsi, isiB, ↓iArgs, ↓iSeq, iterP, ↓fComp, wipeP, ↓eSl, ↓oNone, ↓oSome, gSl, ↓eMeth0, ↓eMeth1, ixN, atI0, atI1, atI2, atI3, List.length_cons, List.length_nil, List.map_cons, List.map_nil, List.replicate, List.cons_append, List.nil_append, List.append_nil, List.getElem?_cons_zero, List.getElem?_cons_succ, List.getElem?_nil, List.set_cons_zero, List.set_cons_succ, List.set_nil, List.length_set, List.length_append, Nat.add_sub_cancel, Nat.reduceAdd, Nat.reduceSub, Nat.reduceLT, Nat.reduceEqDiff, Nat.reduceLeDiff, Nat.le_refl, Nat.zero_le, if_true, if_false, ↓reduceIte, decide_eq_true_eq, Bool.false_eq_true, Bool.true_eq_false, Bool.not_true, Bool.not_false, Option.isSome_some, forall_const, not_true_eq_false, not_false_eq_true, imp_self, false_implies, true_implies, implies_true, and_true, true_and, Int.toNat_zero, Nat.zero_add, Int.reduceLE, Int.reduceLT, Int.reduceNeg, Int.reduceToNat, Int.reducePow, Int.reduceGT, Int.cast_ofNat_Int, true_or, or_true, Int.ofNat_eq_natCast, decide_true, decide_false, Int.reduceEq, List.isEmpty_cons, List.isEmpty_nil, eDGet1,  keyP, Option.map_some, Option.map_none, Option.getD_some, Option.isSome_some, reduceCtorEq, and_self,  allPure_nil, allPure_cons, Bool.and_true, Bool.true_and, Bool.false_and, Bool.and_false, Bool.not_eq_true, Bool.not_eq_false, gTupP_nil, gLstP_nil, gTupP_ok, gLstP_ok, isRef_tup, isRef_int, isRef_str, isRef_bl, Bool.or_false, Bool.or_true, Bool.true_or, Bool.false_or]
  exact right_ok ⟨a, b, c, get_last⟩
theorem law_ok (ns : List Int) (hl : ns.length ≤ 63) (sc : PV) (hs : Py.Scr ns sc) : ∃ S', m_law [sc] [] = .ok (.bl true) S' := by
  generalize hc : (if 2 < (if (3 : Int) < (ns.length : Nat) then 3 else ((ns.length : Nat) : Int)) then (if (3 : Int) < (ns.length : Nat) then 3 else ((ns.length : Nat) : Int)) else 2) = c
  have c0 : 0 ≤ c := by rw [← hc]; split <;> split <;> omega
  have c3 : c ≤ 3 := by rw [← hc]; split <;> (try split) <;> omega
  have gr := gRange_eq (j := c) (S := []) (by omega) (by omega)
  have main := comp_true (f := eArgs m__law_right (aCons (eNew (eArgs m__law_well (aCons (eVar 0) (aCons (eVar 1) aNil)))) aNil)) (s := some sc) (fun i h0 h1 S => body_ok hs hl h0 h1) c.toNat 0 [] none [] (by omega) (by omega) (by simp; omega)
  suffices h : WP (m_law [sc] []) fun p S' => p = .bl true by
    obtain ⟨p, S', e, rfl⟩ := h.ex
    exact ⟨S', e⟩
  unfold m_law b_law
  generalize (eArgs m__law_right (aCons (eNew (eArgs m__law_well (aCons (eVar 0) (aCons (eVar 1) aNil)))) aNil)) = f at main ⊢
  simp only [wp_ok, wp_no, ↓wp_bind, ↓R.bind_ok, ↓sSeq, ↓sNil, ↓sSet, ↓sAsg, ↓sIf, ↓sRet, ↓sExpr, ↓sPar, ↓sPar3, ↓sFor, ↓nName, ↓nTup, ↓nCons, ↓nNil, ↓nNs, ↓eVar, ↓eC, ↓eOp, ↓eUn, ↓eArgs, ↓eNew, ↓aCons, ↓aNil, ↓tV, ↓tT, toB, truP, ↓tNotE, ↓tAndE, ↓tOrE, ↓tYesE, ↓eAndV, ↓eOrV, ↓eNotV, ↓eNotT, ↓eIf, gAdd_int, gAdd_tup, Py.gSub, gMul_l, gMul_r, gMod, gFdiv, gNeg, gLt, gLe, gGt, gGe, gInt, gIx, gEq_int, gEq_str, gEq_bl, gNe_int, gNe_str, gNe_bl, gIsN, gNotN, getQ, getL, gSetL, ↓nSubL, gDivmod, gMin2, gMax2, ↓mkDef, ↓mkNew, startP, finF, finO, finV_tup, finV_int, finV_bl, finV_lst, finV_non, finV_str, finV_ref, ↓eChain, tyP, gIsi, isiB, ↓iArgs, ↓iSeq, iterP, ↓fComp, wipeP, ↓eSl, ↓oNone, ↓oSome, gSl, ↓eMeth0, ↓eMeth1, ixN, atI0, atI1, atI2, atI3, List.length_cons, List.length_nil, List.map_cons, List.map_nil, List.replicate, List.cons_append, List.nil_append, List.append_nil, List.getElem?_cons_zero, List.getElem?_cons_succ, List.getElem?_nil, List.set_cons_zero, List.set_cons_succ, List.set_nil, List.length_set, List.length_append, Nat.add_sub_cancel, Nat.reduceAdd, Nat.reduceSub, Nat.reduceLT, Nat.reduceEqDiff, Nat.reduceLeDiff, Nat.le_refl, Nat.zero_le, if_true, if_false, ↓reduceIte, decide_eq_true_eq, Bool.false_eq_true, Bool.true_eq_false, Bool.not_true, Bool.not_false, Option.isSome_some, forall_const, not_true_eq_false, not_false_eq_true, imp_self, false_implies, true_implies, implies_true, and_true, true_and, Int.toNat_zero, Nat.zero_add, Int.reduceLE, Int.reduceLT, Int.reduceNeg, Int.reduceToNat, Int.reducePow, Int.reduceGT, Int.cast_ofNat_Int, true_or, or_true, Int.ofNat_eq_natCast, decide_true, decide_false, Int.reduceEq, List.isEmpty_cons, List.isEmpty_nil, eDGet1,  keyP, Option.map_some, Option.map_none, Option.getD_some, Option.isSome_some, reduceCtorEq, and_self,  allPure_nil, allPure_cons, Bool.and_true, Bool.true_and, Bool.false_and, Bool.and_false, Bool.not_eq_true, Bool.not_eq_false, gTupP_nil, gLstP_nil, gTupP_ok, gLstP_ok, isRef_tup, isRef_int, isRef_str, isRef_bl, Bool.or_false, Bool.or_true, Bool.true_or, Bool.false_or, len_sc hs, hc, gr]
  refine wp_of main fun p S' e => ?_
  subst e
  rw [List.nil_append]
  simp only [wp_ok, wp_no, ↓wp_bind, ↓R.bind_ok, ↓sSeq, ↓sNil, ↓sSet, ↓sAsg, ↓sIf, ↓sRet, ↓sExpr, ↓sPar, ↓sPar3, ↓sFor, ↓nName, ↓nTup, ↓nCons, ↓nNil, ↓nNs, ↓eVar, ↓eC, ↓eOp, ↓eUn, ↓eArgs, ↓eNew, ↓aCons, ↓aNil, ↓tV, ↓tT, toB, truP, ↓tNotE, ↓tAndE, ↓tOrE, ↓tYesE, ↓eAndV, ↓eOrV, ↓eNotV, ↓eNotT, ↓eIf, gAdd_int, gAdd_tup, Py.gSub, gMul_l, gMul_r, gMod, gFdiv, gNeg, gLt, gLe, gGt, gGe, gInt, gIx, gEq_int, gEq_str, gEq_bl, gNe_int, gNe_str, gNe_bl, gIsN, gNotN, getQ, getL, gSetL, ↓nSubL, gDivmod, gMin2, gMax2, ↓mkDef, ↓mkNew, startP, finF, finO, finV_tup, finV_int, finV_bl, finV_lst, finV_non, finV_str, finV_ref, ↓eChain, tyP, gIsi, isiB, ↓iArgs, ↓iSeq, iterP, ↓fComp, wipeP, ↓eSl, ↓oNone, ↓oSome, gSl, ↓eMeth0, ↓eMeth1, ixN, atI0, atI1, atI2, atI3, List.length_cons, List.length_nil, List.map_cons, List.map_nil, List.replicate, List.cons_append, List.nil_append, List.append_nil, List.getElem?_cons_zero, List.getElem?_cons_succ, List.getElem?_nil, List.set_cons_zero, List.set_cons_succ, List.set_nil, List.length_set, List.length_append, Nat.add_sub_cancel, Nat.reduceAdd, Nat.reduceSub, Nat.reduceLT, Nat.reduceEqDiff, Nat.reduceLeDiff, Nat.le_refl, Nat.zero_le, if_true, if_false, ↓reduceIte, decide_eq_true_eq, Bool.false_eq_true, Bool.true_eq_false, Bool.not_true, Bool.not_false, Option.isSome_some, forall_const, not_true_eq_false, not_false_eq_true, imp_self, false_implies, true_implies, implies_true, and_true, true_and, Int.toNat_zero, Nat.zero_add, Int.reduceLE, Int.reduceLT, Int.reduceNeg, Int.reduceToNat, Int.reducePow, Int.reduceGT, Int.cast_ofNat_Int, true_or, or_true, Int.ofNat_eq_natCast, decide_true, decide_false, Int.reduceEq, List.isEmpty_cons, List.isEmpty_nil, eDGet1,  keyP, Option.map_some, Option.map_none, Option.getD_some, Option.isSome_some, reduceCtorEq, and_self,  allPure_nil, allPure_cons, Bool.and_true, Bool.true_and, Bool.false_and, Bool.and_false, Bool.not_eq_true, Bool.not_eq_false, gTupP_nil, gLstP_nil, gTupP_ok, gLstP_ok, isRef_tup, isRef_int, isRef_str, isRef_bl, Bool.or_false, Bool.or_true, Bool.true_or, Bool.false_or, gAll_trueA]
end G01
set_option Elab.async false
set_option maxRecDepth 100000
set_option maxHeartbeats 4000000
set_option linter.all false
namespace G01
open PySem PySem.Spec PyProof.Rows L2 Py
def ctOf (K : PySem.W.Frag) : CT := ⟨fun i => match i with  | _ => ⟨.Pass ⟨0, 0, 0, 0⟩, "", []⟩, tabsOf K Head.own, fun c => if c = "InvalidText" then some "place" else if c = "InvalidTerm" then some "given" else if c = "InvalidSource" then some "given" else if c = "InvalidProgram" then some "given" else if c = "InvalidNumber" then some "given" else if c = "InvalidName" then some "given" else if c = "InvalidPlace" then some "given" else if c = "InvalidRows" then some "given" else if c = "InvalidSizes" then some "given" else if c = "InvalidBook" then some "index" else if c = "InvalidParts" then some "index" else if c = "InvalidWays" then some "index" else if c = "InvalidNames" then some "index" else if c = "InvalidMemory" then some "index" else if c = "InvalidDevice" then some "index" else if c = "InvalidWrites" then some "index" else if c = "NoValue" then some "index" else if c = "BadRows" then some "index" else none⟩
theorem txt_of {w : World} {K : PySem.W.Frag} {h : Heap} {mg : Str → Option Value} (X : K.In h) (G : h.Ns mainGlobals mg) (c : He.SaysX Head.fa Head.fn Head.ts Head.tf Head.ex w h K) : @Txt (ctOf K) K w mg :=
  letI : CT := ctOf K
  ⟨He.free_ok X G (c.t.d.fact 16 (f := .free "ArithmeticError") rfl),
   He.free_ok X G (c.t.d.fact 17 (f := .free "AttributeError") rfl),
   He.free_ok X G (c.t.d.fact 18 (f := .free "Exception") rfl),
   He.free_ok X G (c.t.d.fact 19 (f := .free "LookupError") rfl),
   He.free_ok X G (c.t.d.fact 20 (f := .free "RuntimeError") rfl),
   He.free_ok X G (c.t.d.fact 21 (f := .free "TypeError") rfl),
   He.free_ok X G (c.t.d.fact 22 (f := .free "ValueError") rfl),
   He.free_ok X G (c.t.d.fact 23 (f := .free "abs") rfl),
   He.free_ok X G (c.t.d.fact 24 (f := .free "all") rfl),
   He.free_ok X G (c.t.d.fact 25 (f := .free "bool") rfl),
   He.free_ok X G (c.t.d.fact 26 (f := .free "divmod") rfl),
   He.free_ok X G (c.t.d.fact 27 (f := .free "int") rfl),
   He.free_ok X G (c.t.d.fact 28 (f := .free "isinstance") rfl),
   He.free_ok X G (c.t.d.fact 29 (f := .free "len") rfl),
   He.free_ok X G (c.t.d.fact 30 (f := .free "list") rfl),
   He.free_ok X G (c.t.d.fact 31 (f := .free "max") rfl),
   He.free_ok X G (c.t.d.fact 32 (f := .free "min") rfl),
   He.free_ok X G (c.t.d.fact 33 (f := .free "range") rfl),
   He.free_ok X G (c.t.d.fact 34 (f := .free "repr") rfl),
   He.free_ok X G (c.t.d.fact 35 (f := .free "str") rfl),
   He.free_ok X G (c.t.d.fact 36 (f := .free "sum") rfl),
   He.free_ok X G (c.t.d.fact 37 (f := .free "tuple") rfl)⟩
theorem cal_law {P : Program} {w : World} {K : PySem.W.Frag} {h base : Heap} {mg : Str → Option Value} {fd_law : FuncData} (X : K.In h) (G : h.Ns mainGlobals mg) (c : He.SaysX Head.fa Head.fn Head.ts Head.tf Head.ex w h K) (B : K.In base) (TB : ∀ p ∈ Head.tf.map (He.cT K), LamX.TabB base mg p.1 p.2) (F_law : FunD K "law" "law" (defArgs s_law) (defBody s_law) (defScope s_law) [] [] (He.ga K "law") fd_law) : FnG P w K mg base CX0 85 (He.ga K "law") fd_law p_law (@spM (ctOf K) K m_law) := by
  letI : CT := ctOf K
  have T := txt_of X G c
  have nd : ndOwn K Head.own = true := (He.ba (He.ba (He.ba (He.ba (He.ba (He.ba (He.ba (He.ba (He.ba (He.ba (He.ba (He.ba (He.ba (He.ba (He.ba (He.ba (He.ba (He.ba (He.ba (He.ba (He.ba (He.ba (He.ba (He.ba (He.ba (He.ba (He.ba (He.ba (He.ba (He.ba (He.ba (He.ba (He.ba (He.ba (He.ba (He.ba (He.ba (He.ba (He.ba (He.ba (He.ba (He.ba (He.ba (He.ba (He.ba (He.ba (He.ba (He.ba (He.ba (He.ba (He.ba (He.ba (He.ba (He.ba (He.ba (He.ba (He.ba (He.ba (He.ba (He.ba (He.ba (He.ba (He.ba (He.ba c.more).1).1).1).1).1).1).1).1).1).1).1).1).1).1).1).1).1).1).1).1).1).1).1).1).1).1).1).1).1).1).1).1).1).1).1).1).1).1).1).1).1).1).1).1).1).1).1).1).1).1).1).1).1).1).1).1).1).1).1).1).1).1).1).1
  obtain ⟨fd_init_InvalidText, F_init_InvalidText⟩ := c.t.d.def_ 16 (d := ⟨("InvalidText", some "__init__"), "__init__", "InvalidText.__init__", defArgs s_init_InvalidText, defBody s_init_InvalidText, defScope s_init_InvalidText, [], []⟩) rfl
  obtain ⟨fd_init_InvalidTerm, F_init_InvalidTerm⟩ := c.t.d.def_ 17 (d := ⟨("InvalidTerm", some "__init__"), "__init__", "InvalidTerm.__init__", defArgs s_init_InvalidTerm, defBody s_init_InvalidTerm, defScope s_init_InvalidTerm, [], []⟩) rfl
  obtain ⟨fd_init_InvalidSource, F_init_InvalidSource⟩ := c.t.d.def_ 18 (d := ⟨("InvalidSource", some "__init__"), "__init__", "InvalidSource.__init__", defArgs s_init_InvalidSource, defBody s_init_InvalidSource, defScope s_init_InvalidSource, [], []⟩) rfl
  obtain ⟨fd_init_InvalidProgram, F_init_InvalidProgram⟩ := c.t.d.def_ 19 (d := ⟨("InvalidProgram", some "__init__"), "__init__", "InvalidProgram.__init__", defArgs s_init_InvalidProgram, defBody s_init_InvalidProgram, defScope s_init_InvalidProgram, [], []⟩) rfl
  obtain ⟨fd_init_InvalidNumber, F_init_InvalidNumber⟩ := c.t.d.def_ 20 (d := ⟨("InvalidNumber", some "__init__"), "__init__", "InvalidNumber.__init__", defArgs s_init_InvalidNumber, defBody s_init_InvalidNumber, defScope s_init_InvalidNumber, [], []⟩) rfl
  obtain ⟨fd_init_InvalidName, F_init_InvalidName⟩ := c.t.d.def_ 21 (d := ⟨("InvalidName", some "__init__"), "__init__", "InvalidName.__init__", defArgs s_init_InvalidName, defBody s_init_InvalidName, defScope s_init_InvalidName, [], []⟩) rfl
  obtain ⟨fd_init_InvalidPlace, F_init_InvalidPlace⟩ := c.t.d.def_ 22 (d := ⟨("InvalidPlace", some "__init__"), "__init__", "InvalidPlace.__init__", defArgs s_init_InvalidPlace, defBody s_init_InvalidPlace, defScope s_init_InvalidPlace, [], []⟩) rfl
  obtain ⟨fd_init_InvalidRows, F_init_InvalidRows⟩ := c.t.d.def_ 23 (d := ⟨("InvalidRows", some "__init__"), "__init__", "InvalidRows.__init__", defArgs s_init_InvalidRows, defBody s_init_InvalidRows, defScope s_init_InvalidRows, [], []⟩) rfl
  obtain ⟨fd_init_InvalidSizes, F_init_InvalidSizes⟩ := c.t.d.def_ 24 (d := ⟨("InvalidSizes", some "__init__"), "__init__", "InvalidSizes.__init__", defArgs s_init_InvalidSizes, defBody s_init_InvalidSizes, defScope s_init_InvalidSizes, [], []⟩) rfl
  obtain ⟨fd_init_InvalidBook, F_init_InvalidBook⟩ := c.t.d.def_ 25 (d := ⟨("InvalidBook", some "__init__"), "__init__", "InvalidBook.__init__", defArgs s_init_InvalidBook, defBody s_init_InvalidBook, defScope s_init_InvalidBook, [], []⟩) rfl
  obtain ⟨fd_init_InvalidParts, F_init_InvalidParts⟩ := c.t.d.def_ 26 (d := ⟨("InvalidParts", some "__init__"), "__init__", "InvalidParts.__init__", defArgs s_init_InvalidParts, defBody s_init_InvalidParts, defScope s_init_InvalidParts, [], []⟩) rfl
  obtain ⟨fd_init_InvalidWays, F_init_InvalidWays⟩ := c.t.d.def_ 27 (d := ⟨("InvalidWays", some "__init__"), "__init__", "InvalidWays.__init__", defArgs s_init_InvalidWays, defBody s_init_InvalidWays, defScope s_init_InvalidWays, [], []⟩) rfl
  obtain ⟨fd_init_InvalidNames, F_init_InvalidNames⟩ := c.t.d.def_ 28 (d := ⟨("InvalidNames", some "__init__"), "__init__", "InvalidNames.__init__", defArgs s_init_InvalidNames, defBody s_init_InvalidNames, defScope s_init_InvalidNames, [], []⟩) rfl
  obtain ⟨fd_init_InvalidMemory, F_init_InvalidMemory⟩ := c.t.d.def_ 29 (d := ⟨("InvalidMemory", some "__init__"), "__init__", "InvalidMemory.__init__", defArgs s_init_InvalidMemory, defBody s_init_InvalidMemory, defScope s_init_InvalidMemory, [], []⟩) rfl
  obtain ⟨fd_init_InvalidDevice, F_init_InvalidDevice⟩ := c.t.d.def_ 30 (d := ⟨("InvalidDevice", some "__init__"), "__init__", "InvalidDevice.__init__", defArgs s_init_InvalidDevice, defBody s_init_InvalidDevice, defScope s_init_InvalidDevice, [], []⟩) rfl
  obtain ⟨fd_init_InvalidWrites, F_init_InvalidWrites⟩ := c.t.d.def_ 31 (d := ⟨("InvalidWrites", some "__init__"), "__init__", "InvalidWrites.__init__", defArgs s_init_InvalidWrites, defBody s_init_InvalidWrites, defScope s_init_InvalidWrites, [], []⟩) rfl
  obtain ⟨fd_init_NoValue, F_init_NoValue⟩ := c.t.d.def_ 32 (d := ⟨("NoValue", some "__init__"), "__init__", "NoValue.__init__", defArgs s_init_NoValue, defBody s_init_NoValue, defScope s_init_NoValue, [], []⟩) rfl
  obtain ⟨fd_init_BadRows, F_init_BadRows⟩ := c.t.d.def_ 33 (d := ⟨("BadRows", some "__init__"), "__init__", "BadRows.__init__", defArgs s_init_BadRows, defBody s_init_BadRows, defScope s_init_BadRows, [], []⟩) rfl
  have EC : Errs P w K mg base := ⟨err_of (He.glo_ok X G (c.t.d.fact 38 (f := .glo "FormError") rfl)) (He.ba (He.ba (He.ba (He.ba (He.ba (He.ba (He.ba (He.ba (He.ba (He.ba (He.ba (He.ba (He.ba (He.ba (He.ba (He.ba (He.ba (He.ba (He.ba (He.ba (He.ba (He.ba (He.ba (He.ba (He.ba (He.ba (He.ba (He.ba (He.ba (He.ba (He.ba (He.ba (He.ba (He.ba (He.ba (He.ba (He.ba (He.ba (He.ba (He.ba (He.ba (He.ba (He.ba (He.ba (He.ba (He.ba (He.ba (He.ba (He.ba (He.ba (He.ba (He.ba (He.ba (He.ba (He.ba (He.ba (He.ba (He.ba (He.ba (He.ba (He.ba (He.ba (He.ba (He.ba c.more).1).1).1).1).1).1).1).1).1).1).1).1).1).1).1).1).1).1).1).1).1).1).1).1).1).1).1).1).1).1).1).1).1).1).1).1).1).1).1).1).1).1).1).1).1).1).1).1).1).1).1).1).1).1).1).1).1).1).1).1).1).1).1).2,
    errG_of (He.glo_ok X G (c.t.d.fact 39 (f := .glo "InvalidText") rfl)) (He.ba (He.ba (He.ba (He.ba (He.ba (He.ba (He.ba (He.ba (He.ba (He.ba (He.ba (He.ba (He.ba (He.ba (He.ba (He.ba (He.ba (He.ba (He.ba (He.ba (He.ba (He.ba (He.ba (He.ba (He.ba (He.ba (He.ba (He.ba (He.ba (He.ba (He.ba (He.ba (He.ba (He.ba (He.ba (He.ba (He.ba (He.ba (He.ba (He.ba (He.ba (He.ba (He.ba (He.ba (He.ba (He.ba (He.ba (He.ba (He.ba (He.ba (He.ba (He.ba (He.ba (He.ba (He.ba (He.ba (He.ba (He.ba (He.ba (He.ba (He.ba (He.ba (He.ba c.more).1).1).1).1).1).1).1).1).1).1).1).1).1).1).1).1).1).1).1).1).1).1).1).1).1).1).1).1).1).1).1).1).1).1).1).1).1).1).1).1).1).1).1).1).1).1).1).1).1).1).1).1).1).1).1).1).1).1).1).1).1).1).2 F_init_InvalidText sc_init_InvalidText (Or.inl rfl) (Or.inl rfl) (fun _ _ _ _ _ _ us hl => match us, hl with | [_, _], _ => rfl) (fun _ _ _ _ _ _ _ _ => rfl),
    errG_of (He.glo_ok X G (c.t.d.fact 40 (f := .glo "InvalidTerm") rfl)) (He.ba (He.ba (He.ba (He.ba (He.ba (He.ba (He.ba (He.ba (He.ba (He.ba (He.ba (He.ba (He.ba (He.ba (He.ba (He.ba (He.ba (He.ba (He.ba (He.ba (He.ba (He.ba (He.ba (He.ba (He.ba (He.ba (He.ba (He.ba (He.ba (He.ba (He.ba (He.ba (He.ba (He.ba (He.ba (He.ba (He.ba (He.ba (He.ba (He.ba (He.ba (He.ba (He.ba (He.ba (He.ba (He.ba (He.ba (He.ba (He.ba (He.ba (He.ba (He.ba (He.ba (He.ba (He.ba (He.ba (He.ba (He.ba (He.ba (He.ba (He.ba (He.ba c.more).1).1).1).1).1).1).1).1).1).1).1).1).1).1).1).1).1).1).1).1).1).1).1).1).1).1).1).1).1).1).1).1).1).1).1).1).1).1).1).1).1).1).1).1).1).1).1).1).1).1).1).1).1).1).1).1).1).1).1).1).1).2 F_init_InvalidTerm sc_init_InvalidTerm (Or.inl rfl) (Or.inl rfl) (fun _ _ _ _ _ _ us hl => match us, hl with | [_, _], _ => rfl) (fun _ _ _ _ _ _ _ _ => rfl),
    errG_of (He.glo_ok X G (c.t.d.fact 41 (f := .glo "InvalidSource") rfl)) (He.ba (He.ba (He.ba (He.ba (He.ba (He.ba (He.ba (He.ba (He.ba (He.ba (He.ba (He.ba (He.ba (He.ba (He.ba (He.ba (He.ba (He.ba (He.ba (He.ba (He.ba (He.ba (He.ba (He.ba (He.ba (He.ba (He.ba (He.ba (He.ba (He.ba (He.ba (He.ba (He.ba (He.ba (He.ba (He.ba (He.ba (He.ba (He.ba (He.ba (He.ba (He.ba (He.ba (He.ba (He.ba (He.ba (He.ba (He.ba (He.ba (He.ba (He.ba (He.ba (He.ba (He.ba (He.ba (He.ba (He.ba (He.ba (He.ba (He.ba (He.ba c.more).1).1).1).1).1).1).1).1).1).1).1).1).1).1).1).1).1).1).1).1).1).1).1).1).1).1).1).1).1).1).1).1).1).1).1).1).1).1).1).1).1).1).1).1).1).1).1).1).1).1).1).1).1).1).1).1).1).1).1).1).2 F_init_InvalidSource sc_init_InvalidSource (Or.inl rfl) (Or.inl rfl) (fun _ _ _ _ _ _ us hl => match us, hl with | [_, _], _ => rfl) (fun _ _ _ _ _ _ _ _ => rfl),
    errG_of (He.glo_ok X G (c.t.d.fact 42 (f := .glo "InvalidProgram") rfl)) (He.ba (He.ba (He.ba (He.ba (He.ba (He.ba (He.ba (He.ba (He.ba (He.ba (He.ba (He.ba (He.ba (He.ba (He.ba (He.ba (He.ba (He.ba (He.ba (He.ba (He.ba (He.ba (He.ba (He.ba (He.ba (He.ba (He.ba (He.ba (He.ba (He.ba (He.ba (He.ba (He.ba (He.ba (He.ba (He.ba (He.ba (He.ba (He.ba (He.ba (He.ba (He.ba (He.ba (He.ba (He.ba (He.ba (He.ba (He.ba (He.ba (He.ba (He.ba (He.ba (He.ba (He.ba (He.ba (He.ba (He.ba (He.ba (He.ba (He.ba c.more).1).1).1).1).1).1).1).1).1).1).1).1).1).1).1).1).1).1).1).1).1).1).1).1).1).1).1).1).1).1).1).1).1).1).1).1).1).1).1).1).1).1).1).1).1).1).1).1).1).1).1).1).1).1).1).1).1).1).1).2 F_init_InvalidProgram sc_init_InvalidProgram (Or.inl rfl) (Or.inl rfl) (fun _ _ _ _ _ _ us hl => match us, hl with | [_, _], _ => rfl) (fun _ _ _ _ _ _ _ _ => rfl),
    errG_of (He.glo_ok X G (c.t.d.fact 43 (f := .glo "InvalidNumber") rfl)) (He.ba (He.ba (He.ba (He.ba (He.ba (He.ba (He.ba (He.ba (He.ba (He.ba (He.ba (He.ba (He.ba (He.ba (He.ba (He.ba (He.ba (He.ba (He.ba (He.ba (He.ba (He.ba (He.ba (He.ba (He.ba (He.ba (He.ba (He.ba (He.ba (He.ba (He.ba (He.ba (He.ba (He.ba (He.ba (He.ba (He.ba (He.ba (He.ba (He.ba (He.ba (He.ba (He.ba (He.ba (He.ba (He.ba (He.ba (He.ba (He.ba (He.ba (He.ba (He.ba (He.ba (He.ba (He.ba (He.ba (He.ba (He.ba (He.ba c.more).1).1).1).1).1).1).1).1).1).1).1).1).1).1).1).1).1).1).1).1).1).1).1).1).1).1).1).1).1).1).1).1).1).1).1).1).1).1).1).1).1).1).1).1).1).1).1).1).1).1).1).1).1).1).1).1).1).1).2 F_init_InvalidNumber sc_init_InvalidNumber (Or.inl rfl) (Or.inl rfl) (fun _ _ _ _ _ _ us hl => match us, hl with | [_, _], _ => rfl) (fun _ _ _ _ _ _ _ _ => rfl),
    errG_of (He.glo_ok X G (c.t.d.fact 44 (f := .glo "InvalidName") rfl)) (He.ba (He.ba (He.ba (He.ba (He.ba (He.ba (He.ba (He.ba (He.ba (He.ba (He.ba (He.ba (He.ba (He.ba (He.ba (He.ba (He.ba (He.ba (He.ba (He.ba (He.ba (He.ba (He.ba (He.ba (He.ba (He.ba (He.ba (He.ba (He.ba (He.ba (He.ba (He.ba (He.ba (He.ba (He.ba (He.ba (He.ba (He.ba (He.ba (He.ba (He.ba (He.ba (He.ba (He.ba (He.ba (He.ba (He.ba (He.ba (He.ba (He.ba (He.ba (He.ba (He.ba (He.ba (He.ba (He.ba (He.ba (He.ba c.more).1).1).1).1).1).1).1).1).1).1).1).1).1).1).1).1).1).1).1).1).1).1).1).1).1).1).1).1).1).1).1).1).1).1).1).1).1).1).1).1).1).1).1).1).1).1).1).1).1).1).1).1).1).1).1).1).1).2 F_init_InvalidName sc_init_InvalidName (Or.inl rfl) (Or.inl rfl) (fun _ _ _ _ _ _ us hl => match us, hl with | [_, _], _ => rfl) (fun _ _ _ _ _ _ _ _ => rfl),
    errG_of (He.glo_ok X G (c.t.d.fact 45 (f := .glo "InvalidPlace") rfl)) (He.ba (He.ba (He.ba (He.ba (He.ba (He.ba (He.ba (He.ba (He.ba (He.ba (He.ba (He.ba (He.ba (He.ba (He.ba (He.ba (He.ba (He.ba (He.ba (He.ba (He.ba (He.ba (He.ba (He.ba (He.ba (He.ba (He.ba (He.ba (He.ba (He.ba (He.ba (He.ba (He.ba (He.ba (He.ba (He.ba (He.ba (He.ba (He.ba (He.ba (He.ba (He.ba (He.ba (He.ba (He.ba (He.ba (He.ba (He.ba (He.ba (He.ba (He.ba (He.ba (He.ba (He.ba (He.ba (He.ba (He.ba c.more).1).1).1).1).1).1).1).1).1).1).1).1).1).1).1).1).1).1).1).1).1).1).1).1).1).1).1).1).1).1).1).1).1).1).1).1).1).1).1).1).1).1).1).1).1).1).1).1).1).1).1).1).1).1).1).1).2 F_init_InvalidPlace sc_init_InvalidPlace (Or.inl rfl) (Or.inl rfl) (fun _ _ _ _ _ _ us hl => match us, hl with | [_, _], _ => rfl) (fun _ _ _ _ _ _ _ _ => rfl),
    errG_of (He.glo_ok X G (c.t.d.fact 46 (f := .glo "InvalidRows") rfl)) (He.ba (He.ba (He.ba (He.ba (He.ba (He.ba (He.ba (He.ba (He.ba (He.ba (He.ba (He.ba (He.ba (He.ba (He.ba (He.ba (He.ba (He.ba (He.ba (He.ba (He.ba (He.ba (He.ba (He.ba (He.ba (He.ba (He.ba (He.ba (He.ba (He.ba (He.ba (He.ba (He.ba (He.ba (He.ba (He.ba (He.ba (He.ba (He.ba (He.ba (He.ba (He.ba (He.ba (He.ba (He.ba (He.ba (He.ba (He.ba (He.ba (He.ba (He.ba (He.ba (He.ba (He.ba (He.ba (He.ba c.more).1).1).1).1).1).1).1).1).1).1).1).1).1).1).1).1).1).1).1).1).1).1).1).1).1).1).1).1).1).1).1).1).1).1).1).1).1).1).1).1).1).1).1).1).1).1).1).1).1).1).1).1).1).1).1).2 F_init_InvalidRows sc_init_InvalidRows (Or.inl rfl) (Or.inl rfl) (fun _ _ _ _ _ _ us hl => match us, hl with | [_, _], _ => rfl) (fun _ _ _ _ _ _ _ _ => rfl),
    errG_of (He.glo_ok X G (c.t.d.fact 47 (f := .glo "InvalidSizes") rfl)) (He.ba (He.ba (He.ba (He.ba (He.ba (He.ba (He.ba (He.ba (He.ba (He.ba (He.ba (He.ba (He.ba (He.ba (He.ba (He.ba (He.ba (He.ba (He.ba (He.ba (He.ba (He.ba (He.ba (He.ba (He.ba (He.ba (He.ba (He.ba (He.ba (He.ba (He.ba (He.ba (He.ba (He.ba (He.ba (He.ba (He.ba (He.ba (He.ba (He.ba (He.ba (He.ba (He.ba (He.ba (He.ba (He.ba (He.ba (He.ba (He.ba (He.ba (He.ba (He.ba (He.ba (He.ba (He.ba c.more).1).1).1).1).1).1).1).1).1).1).1).1).1).1).1).1).1).1).1).1).1).1).1).1).1).1).1).1).1).1).1).1).1).1).1).1).1).1).1).1).1).1).1).1).1).1).1).1).1).1).1).1).1).1).2 F_init_InvalidSizes sc_init_InvalidSizes (Or.inl rfl) (Or.inl rfl) (fun _ _ _ _ _ _ us hl => match us, hl with | [_, _], _ => rfl) (fun _ _ _ _ _ _ _ _ => rfl),
    errG_of (He.glo_ok X G (c.t.d.fact 48 (f := .glo "InvalidBook") rfl)) (He.ba (He.ba (He.ba (He.ba (He.ba (He.ba (He.ba (He.ba (He.ba (He.ba (He.ba (He.ba (He.ba (He.ba (He.ba (He.ba (He.ba (He.ba (He.ba (He.ba (He.ba (He.ba (He.ba (He.ba (He.ba (He.ba (He.ba (He.ba (He.ba (He.ba (He.ba (He.ba (He.ba (He.ba (He.ba (He.ba (He.ba (He.ba (He.ba (He.ba (He.ba (He.ba (He.ba (He.ba (He.ba (He.ba (He.ba (He.ba (He.ba (He.ba (He.ba (He.ba (He.ba (He.ba c.more).1).1).1).1).1).1).1).1).1).1).1).1).1).1).1).1).1).1).1).1).1).1).1).1).1).1).1).1).1).1).1).1).1).1).1).1).1).1).1).1).1).1).1).1).1).1).1).1).1).1).1).1).1).2 F_init_InvalidBook sc_init_InvalidBook (Or.inl rfl) (Or.inl rfl) (fun _ _ _ _ _ _ us hl => match us, hl with | [_, _], _ => rfl) (fun _ _ _ _ _ _ _ _ => rfl),
    errG_of (He.glo_ok X G (c.t.d.fact 49 (f := .glo "InvalidParts") rfl)) (He.ba (He.ba (He.ba (He.ba (He.ba (He.ba (He.ba (He.ba (He.ba (He.ba (He.ba (He.ba (He.ba (He.ba (He.ba (He.ba (He.ba (He.ba (He.ba (He.ba (He.ba (He.ba (He.ba (He.ba (He.ba (He.ba (He.ba (He.ba (He.ba (He.ba (He.ba (He.ba (He.ba (He.ba (He.ba (He.ba (He.ba (He.ba (He.ba (He.ba (He.ba (He.ba (He.ba (He.ba (He.ba (He.ba (He.ba (He.ba (He.ba (He.ba (He.ba (He.ba (He.ba c.more).1).1).1).1).1).1).1).1).1).1).1).1).1).1).1).1).1).1).1).1).1).1).1).1).1).1).1).1).1).1).1).1).1).1).1).1).1).1).1).1).1).1).1).1).1).1).1).1).1).1).1).1).2 F_init_InvalidParts sc_init_InvalidParts (Or.inl rfl) (Or.inl rfl) (fun _ _ _ _ _ _ us hl => match us, hl with | [_, _], _ => rfl) (fun _ _ _ _ _ _ _ _ => rfl),
    errG_of (He.glo_ok X G (c.t.d.fact 50 (f := .glo "InvalidWays") rfl)) (He.ba (He.ba (He.ba (He.ba (He.ba (He.ba (He.ba (He.ba (He.ba (He.ba (He.ba (He.ba (He.ba (He.ba (He.ba (He.ba (He.ba (He.ba (He.ba (He.ba (He.ba (He.ba (He.ba (He.ba (He.ba (He.ba (He.ba (He.ba (He.ba (He.ba (He.ba (He.ba (He.ba (He.ba (He.ba (He.ba (He.ba (He.ba (He.ba (He.ba (He.ba (He.ba (He.ba (He.ba (He.ba (He.ba (He.ba (He.ba (He.ba (He.ba (He.ba (He.ba c.more).1).1).1).1).1).1).1).1).1).1).1).1).1).1).1).1).1).1).1).1).1).1).1).1).1).1).1).1).1).1).1).1).1).1).1).1).1).1).1).1).1).1).1).1).1).1).1).1).1).1).1).2 F_init_InvalidWays sc_init_InvalidWays (Or.inl rfl) (Or.inl rfl) (fun _ _ _ _ _ _ us hl => match us, hl with | [_, _], _ => rfl) (fun _ _ _ _ _ _ _ _ => rfl),
    errG_of (He.glo_ok X G (c.t.d.fact 51 (f := .glo "InvalidNames") rfl)) (He.ba (He.ba (He.ba (He.ba (He.ba (He.ba (He.ba (He.ba (He.ba (He.ba (He.ba (He.ba (He.ba (He.ba (He.ba (He.ba (He.ba (He.ba (He.ba (He.ba (He.ba (He.ba (He.ba (He.ba (He.ba (He.ba (He.ba (He.ba (He.ba (He.ba (He.ba (He.ba (He.ba (He.ba (He.ba (He.ba (He.ba (He.ba (He.ba (He.ba (He.ba (He.ba (He.ba (He.ba (He.ba (He.ba (He.ba (He.ba (He.ba (He.ba (He.ba c.more).1).1).1).1).1).1).1).1).1).1).1).1).1).1).1).1).1).1).1).1).1).1).1).1).1).1).1).1).1).1).1).1).1).1).1).1).1).1).1).1).1).1).1).1).1).1).1).1).1).1).2 F_init_InvalidNames sc_init_InvalidNames (Or.inl rfl) (Or.inl rfl) (fun _ _ _ _ _ _ us hl => match us, hl with | [_, _], _ => rfl) (fun _ _ _ _ _ _ _ _ => rfl),
    errG_of (He.glo_ok X G (c.t.d.fact 52 (f := .glo "InvalidMemory") rfl)) (He.ba (He.ba (He.ba (He.ba (He.ba (He.ba (He.ba (He.ba (He.ba (He.ba (He.ba (He.ba (He.ba (He.ba (He.ba (He.ba (He.ba (He.ba (He.ba (He.ba (He.ba (He.ba (He.ba (He.ba (He.ba (He.ba (He.ba (He.ba (He.ba (He.ba (He.ba (He.ba (He.ba (He.ba (He.ba (He.ba (He.ba (He.ba (He.ba (He.ba (He.ba (He.ba (He.ba (He.ba (He.ba (He.ba (He.ba (He.ba (He.ba (He.ba c.more).1).1).1).1).1).1).1).1).1).1).1).1).1).1).1).1).1).1).1).1).1).1).1).1).1).1).1).1).1).1).1).1).1).1).1).1).1).1).1).1).1).1).1).1).1).1).1).1).1).2 F_init_InvalidMemory sc_init_InvalidMemory (Or.inl rfl) (Or.inl rfl) (fun _ _ _ _ _ _ us hl => match us, hl with | [_, _], _ => rfl) (fun _ _ _ _ _ _ _ _ => rfl),
    errG_of (He.glo_ok X G (c.t.d.fact 53 (f := .glo "InvalidDevice") rfl)) (He.ba (He.ba (He.ba (He.ba (He.ba (He.ba (He.ba (He.ba (He.ba (He.ba (He.ba (He.ba (He.ba (He.ba (He.ba (He.ba (He.ba (He.ba (He.ba (He.ba (He.ba (He.ba (He.ba (He.ba (He.ba (He.ba (He.ba (He.ba (He.ba (He.ba (He.ba (He.ba (He.ba (He.ba (He.ba (He.ba (He.ba (He.ba (He.ba (He.ba (He.ba (He.ba (He.ba (He.ba (He.ba (He.ba (He.ba (He.ba (He.ba c.more).1).1).1).1).1).1).1).1).1).1).1).1).1).1).1).1).1).1).1).1).1).1).1).1).1).1).1).1).1).1).1).1).1).1).1).1).1).1).1).1).1).1).1).1).1).1).1).1).2 F_init_InvalidDevice sc_init_InvalidDevice (Or.inl rfl) (Or.inl rfl) (fun _ _ _ _ _ _ us hl => match us, hl with | [_, _], _ => rfl) (fun _ _ _ _ _ _ _ _ => rfl),
    errG_of (He.glo_ok X G (c.t.d.fact 54 (f := .glo "InvalidWrites") rfl)) (He.ba (He.ba (He.ba (He.ba (He.ba (He.ba (He.ba (He.ba (He.ba (He.ba (He.ba (He.ba (He.ba (He.ba (He.ba (He.ba (He.ba (He.ba (He.ba (He.ba (He.ba (He.ba (He.ba (He.ba (He.ba (He.ba (He.ba (He.ba (He.ba (He.ba (He.ba (He.ba (He.ba (He.ba (He.ba (He.ba (He.ba (He.ba (He.ba (He.ba (He.ba (He.ba (He.ba (He.ba (He.ba (He.ba (He.ba (He.ba c.more).1).1).1).1).1).1).1).1).1).1).1).1).1).1).1).1).1).1).1).1).1).1).1).1).1).1).1).1).1).1).1).1).1).1).1).1).1).1).1).1).1).1).1).1).1).1).1).2 F_init_InvalidWrites sc_init_InvalidWrites (Or.inl rfl) (Or.inl rfl) (fun _ _ _ _ _ _ us hl => match us, hl with | [_, _], _ => rfl) (fun _ _ _ _ _ _ _ _ => rfl),
    errG_of (He.glo_ok X G (c.t.d.fact 55 (f := .glo "NoValue") rfl)) (He.ba (He.ba (He.ba (He.ba (He.ba (He.ba (He.ba (He.ba (He.ba (He.ba (He.ba (He.ba (He.ba (He.ba (He.ba (He.ba (He.ba (He.ba (He.ba (He.ba (He.ba (He.ba (He.ba (He.ba (He.ba (He.ba (He.ba (He.ba (He.ba (He.ba (He.ba (He.ba (He.ba (He.ba (He.ba (He.ba (He.ba (He.ba (He.ba (He.ba (He.ba (He.ba (He.ba (He.ba (He.ba (He.ba (He.ba c.more).1).1).1).1).1).1).1).1).1).1).1).1).1).1).1).1).1).1).1).1).1).1).1).1).1).1).1).1).1).1).1).1).1).1).1).1).1).1).1).1).1).1).1).1).1).1).2 F_init_NoValue sc_init_NoValue (Or.inl rfl) (Or.inl rfl) (fun _ _ _ _ _ _ us hl => match us, hl with | [_, _], _ => rfl) (fun _ _ _ _ _ _ _ _ => rfl),
    errG_of (He.glo_ok X G (c.t.d.fact 56 (f := .glo "BadRows") rfl)) (He.ba (He.ba (He.ba (He.ba (He.ba (He.ba (He.ba (He.ba (He.ba (He.ba (He.ba (He.ba (He.ba (He.ba (He.ba (He.ba (He.ba (He.ba (He.ba (He.ba (He.ba (He.ba (He.ba (He.ba (He.ba (He.ba (He.ba (He.ba (He.ba (He.ba (He.ba (He.ba (He.ba (He.ba (He.ba (He.ba (He.ba (He.ba (He.ba (He.ba (He.ba (He.ba (He.ba (He.ba (He.ba (He.ba c.more).1).1).1).1).1).1).1).1).1).1).1).1).1).1).1).1).1).1).1).1).1).1).1).1).1).1).1).1).1).1).1).1).1).1).1).1).1).1).1).1).1).1).1).1).1).2 F_init_BadRows sc_init_BadRows (Or.inl rfl) (Or.inl rfl) (fun _ _ _ _ _ _ us hl => match us, hl with | [_, _], _ => rfl) (fun _ _ _ _ _ _ _ _ => rfl),
    err_of (He.glo_ok X G (c.t.d.fact 57 (f := .glo "Captured") rfl)) (He.ba (He.ba (He.ba (He.ba (He.ba (He.ba (He.ba (He.ba (He.ba (He.ba (He.ba (He.ba (He.ba (He.ba (He.ba (He.ba (He.ba (He.ba (He.ba (He.ba (He.ba (He.ba (He.ba (He.ba (He.ba (He.ba (He.ba (He.ba (He.ba (He.ba (He.ba (He.ba (He.ba (He.ba (He.ba (He.ba (He.ba (He.ba (He.ba (He.ba (He.ba (He.ba (He.ba (He.ba (He.ba c.more).1).1).1).1).1).1).1).1).1).1).1).1).1).1).1).1).1).1).1).1).1).1).1).1).1).1).1).1).1).1).1).1).1).1).1).1).1).1).1).1).1).1).1).1).2,
    err_of (He.glo_ok X G (c.t.d.fact 58 (f := .glo "TooGreat") rfl)) (He.ba (He.ba (He.ba (He.ba (He.ba (He.ba (He.ba (He.ba (He.ba (He.ba (He.ba (He.ba (He.ba (He.ba (He.ba (He.ba (He.ba (He.ba (He.ba (He.ba (He.ba (He.ba (He.ba (He.ba (He.ba (He.ba (He.ba (He.ba (He.ba (He.ba (He.ba (He.ba (He.ba (He.ba (He.ba (He.ba (He.ba (He.ba (He.ba (He.ba (He.ba (He.ba (He.ba (He.ba c.more).1).1).1).1).1).1).1).1).1).1).1).1).1).1).1).1).1).1).1).1).1).1).1).1).1).1).1).1).1).1).1).1).1).1).1).1).1).1).1).1).1).1).1).2,
    err_of (He.glo_ok X G (c.t.d.fact 59 (f := .glo "NoRoom") rfl)) (He.ba (He.ba (He.ba (He.ba (He.ba (He.ba (He.ba (He.ba (He.ba (He.ba (He.ba (He.ba (He.ba (He.ba (He.ba (He.ba (He.ba (He.ba (He.ba (He.ba (He.ba (He.ba (He.ba (He.ba (He.ba (He.ba (He.ba (He.ba (He.ba (He.ba (He.ba (He.ba (He.ba (He.ba (He.ba (He.ba (He.ba (He.ba (He.ba (He.ba (He.ba (He.ba (He.ba c.more).1).1).1).1).1).1).1).1).1).1).1).1).1).1).1).1).1).1).1).1).1).1).1).1).1).1).1).1).1).1).1).1).1).1).1).1).1).1).1).1).1).1).2,
    err_of (He.glo_ok X G (c.t.d.fact 60 (f := .glo "DoesNotStand") rfl)) (He.ba (He.ba (He.ba (He.ba (He.ba (He.ba (He.ba (He.ba (He.ba (He.ba (He.ba (He.ba (He.ba (He.ba (He.ba (He.ba (He.ba (He.ba (He.ba (He.ba (He.ba (He.ba (He.ba (He.ba (He.ba (He.ba (He.ba (He.ba (He.ba (He.ba (He.ba (He.ba (He.ba (He.ba (He.ba (He.ba (He.ba (He.ba (He.ba (He.ba (He.ba (He.ba c.more).1).1).1).1).1).1).1).1).1).1).1).1).1).1).1).1).1).1).1).1).1).1).1).1).1).1).1).1).1).1).1).1).1).1).1).1).1).1).1).1).1).2,
    err_of (He.glo_ok X G (c.t.d.fact 61 (f := .glo "NotNow") rfl)) (He.ba (He.ba (He.ba (He.ba (He.ba (He.ba (He.ba (He.ba (He.ba (He.ba (He.ba (He.ba (He.ba (He.ba (He.ba (He.ba (He.ba (He.ba (He.ba (He.ba (He.ba (He.ba (He.ba (He.ba (He.ba (He.ba (He.ba (He.ba (He.ba (He.ba (He.ba (He.ba (He.ba (He.ba (He.ba (He.ba (He.ba (He.ba (He.ba (He.ba (He.ba c.more).1).1).1).1).1).1).1).1).1).1).1).1).1).1).1).1).1).1).1).1).1).1).1).1).1).1).1).1).1).1).1).1).1).1).1).1).1).1).1).1).2,
    err_of (He.glo_ok X G (c.t.d.fact 62 (f := .glo "NotMended") rfl)) (He.ba (He.ba (He.ba (He.ba (He.ba (He.ba (He.ba (He.ba (He.ba (He.ba (He.ba (He.ba (He.ba (He.ba (He.ba (He.ba (He.ba (He.ba (He.ba (He.ba (He.ba (He.ba (He.ba (He.ba (He.ba (He.ba (He.ba (He.ba (He.ba (He.ba (He.ba (He.ba (He.ba (He.ba (He.ba (He.ba (He.ba (He.ba (He.ba (He.ba c.more).1).1).1).1).1).1).1).1).1).1).1).1).1).1).1).1).1).1).1).1).1).1).1).1).1).1).1).1).1).1).1).1).1).1).1).1).1).1).1).2,
    err_of (He.glo_ok X G (c.t.d.fact 63 (f := .glo "NotThere") rfl)) (He.ba (He.ba (He.ba (He.ba (He.ba (He.ba (He.ba (He.ba (He.ba (He.ba (He.ba (He.ba (He.ba (He.ba (He.ba (He.ba (He.ba (He.ba (He.ba (He.ba (He.ba (He.ba (He.ba (He.ba (He.ba (He.ba (He.ba (He.ba (He.ba (He.ba (He.ba (He.ba (He.ba (He.ba (He.ba (He.ba (He.ba (He.ba (He.ba c.more).1).1).1).1).1).1).1).1).1).1).1).1).1).1).1).1).1).1).1).1).1).1).1).1).1).1).1).1).1).1).1).1).1).1).1).1).1).1).2,
    excsB_ok (He.ba (He.ba (He.ba (He.ba (He.ba (He.ba (He.ba (He.ba (He.ba (He.ba (He.ba (He.ba (He.ba (He.ba (He.ba (He.ba (He.ba (He.ba (He.ba (He.ba (He.ba (He.ba (He.ba (He.ba (He.ba (He.ba (He.ba (He.ba (He.ba (He.ba (He.ba (He.ba (He.ba (He.ba (He.ba (He.ba (He.ba (He.ba c.more).1).1).1).1).1).1).1).1).1).1).1).1).1).1).1).1).1).1).1).1).1).1).1).1).1).1).1).1).1).1).1).1).1).1).1).1).1).2,
    fldsB_ok (He.ba (He.ba (He.ba (He.ba (He.ba (He.ba (He.ba (He.ba (He.ba (He.ba (He.ba (He.ba (He.ba (He.ba (He.ba (He.ba (He.ba (He.ba (He.ba (He.ba (He.ba (He.ba (He.ba (He.ba (He.ba (He.ba (He.ba (He.ba (He.ba (He.ba (He.ba (He.ba (He.ba (He.ba (He.ba (He.ba (He.ba c.more).1).1).1).1).1).1).1).1).1).1).1).1).1).1).1).1).1).1).1).1).1).1).1).1).1).1).1).1).1).1).1).1).1).1).1).1).2,
    fldsB_ok (He.ba (He.ba (He.ba (He.ba (He.ba (He.ba (He.ba (He.ba (He.ba (He.ba (He.ba (He.ba (He.ba (He.ba (He.ba (He.ba (He.ba (He.ba (He.ba (He.ba (He.ba (He.ba (He.ba (He.ba (He.ba (He.ba (He.ba (He.ba (He.ba (He.ba (He.ba (He.ba (He.ba (He.ba (He.ba (He.ba c.more).1).1).1).1).1).1).1).1).1).1).1).1).1).1).1).1).1).1).1).1).1).1).1).1).1).1).1).1).1).1).1).1).1).1).1).2,
    fldsB_ok (He.ba (He.ba (He.ba (He.ba (He.ba (He.ba (He.ba (He.ba (He.ba (He.ba (He.ba (He.ba (He.ba (He.ba (He.ba (He.ba (He.ba (He.ba (He.ba (He.ba (He.ba (He.ba (He.ba (He.ba (He.ba (He.ba (He.ba (He.ba (He.ba (He.ba (He.ba (He.ba (He.ba (He.ba (He.ba c.more).1).1).1).1).1).1).1).1).1).1).1).1).1).1).1).1).1).1).1).1).1).1).1).1).1).1).1).1).1).1).1).1).1).1).2,
    kitsB_ok (He.ba (He.ba (He.ba (He.ba (He.ba (He.ba (He.ba (He.ba (He.ba (He.ba (He.ba (He.ba (He.ba (He.ba (He.ba (He.ba (He.ba (He.ba (He.ba (He.ba (He.ba (He.ba (He.ba (He.ba (He.ba (He.ba (He.ba (He.ba (He.ba (He.ba (He.ba (He.ba (He.ba (He.ba c.more).1).1).1).1).1).1).1).1).1).1).1).1).1).1).1).1).1).1).1).1).1).1).1).1).1).1).1).1).1).1).1).1).1).2,
    kitsB_ok (He.ba (He.ba (He.ba (He.ba (He.ba (He.ba (He.ba (He.ba (He.ba (He.ba (He.ba (He.ba (He.ba (He.ba (He.ba (He.ba (He.ba (He.ba (He.ba (He.ba (He.ba (He.ba (He.ba (He.ba (He.ba (He.ba (He.ba (He.ba (He.ba (He.ba (He.ba (He.ba (He.ba c.more).1).1).1).1).1).1).1).1).1).1).1).1).1).1).1).1).1).1).1).1).1).1).1).1).1).1).1).1).1).1).1).1).2,
    kitsB_ok (He.ba (He.ba (He.ba (He.ba (He.ba (He.ba (He.ba (He.ba (He.ba (He.ba (He.ba (He.ba (He.ba (He.ba (He.ba (He.ba (He.ba (He.ba (He.ba (He.ba (He.ba (He.ba (He.ba (He.ba (He.ba (He.ba (He.ba (He.ba (He.ba (He.ba (He.ba (He.ba c.more).1).1).1).1).1).1).1).1).1).1).1).1).1).1).1).1).1).1).1).1).1).1).1).1).1).1).1).1).1).1).1).2,
    kitsB_ok (He.ba (He.ba (He.ba (He.ba (He.ba (He.ba (He.ba (He.ba (He.ba (He.ba (He.ba (He.ba (He.ba (He.ba (He.ba (He.ba (He.ba (He.ba (He.ba (He.ba (He.ba (He.ba (He.ba (He.ba (He.ba (He.ba (He.ba (He.ba (He.ba (He.ba (He.ba c.more).1).1).1).1).1).1).1).1).1).1).1).1).1).1).1).1).1).1).1).1).1).1).1).1).1).1).1).1).1).1).2,
    kitsB_ok (He.ba (He.ba (He.ba (He.ba (He.ba (He.ba (He.ba (He.ba (He.ba (He.ba (He.ba (He.ba (He.ba (He.ba (He.ba (He.ba (He.ba (He.ba (He.ba (He.ba (He.ba (He.ba (He.ba (He.ba (He.ba (He.ba (He.ba (He.ba (He.ba (He.ba c.more).1).1).1).1).1).1).1).1).1).1).1).1).1).1).1).1).1).1).1).1).1).1).1).1).1).1).1).1).1).2,
    kitsB_ok (He.ba (He.ba (He.ba (He.ba (He.ba (He.ba (He.ba (He.ba (He.ba (He.ba (He.ba (He.ba (He.ba (He.ba (He.ba (He.ba (He.ba (He.ba (He.ba (He.ba (He.ba (He.ba (He.ba (He.ba (He.ba (He.ba (He.ba (He.ba (He.ba c.more).1).1).1).1).1).1).1).1).1).1).1).1).1).1).1).1).1).1).1).1).1).1).1).1).1).1).1).1).2,
    kitsB_ok (He.ba (He.ba (He.ba (He.ba (He.ba (He.ba (He.ba (He.ba (He.ba (He.ba (He.ba (He.ba (He.ba (He.ba (He.ba (He.ba (He.ba (He.ba (He.ba (He.ba (He.ba (He.ba (He.ba (He.ba (He.ba (He.ba (He.ba (He.ba c.more).1).1).1).1).1).1).1).1).1).1).1).1).1).1).1).1).1).1).1).1).1).1).1).1).1).1).1).2,
    kitsB_ok (He.ba (He.ba (He.ba (He.ba (He.ba (He.ba (He.ba (He.ba (He.ba (He.ba (He.ba (He.ba (He.ba (He.ba (He.ba (He.ba (He.ba (He.ba (He.ba (He.ba (He.ba (He.ba (He.ba (He.ba (He.ba (He.ba (He.ba c.more).1).1).1).1).1).1).1).1).1).1).1).1).1).1).1).1).1).1).1).1).1).1).1).1).1).1).2,
    kitsB_ok (He.ba (He.ba (He.ba (He.ba (He.ba (He.ba (He.ba (He.ba (He.ba (He.ba (He.ba (He.ba (He.ba (He.ba (He.ba (He.ba (He.ba (He.ba (He.ba (He.ba (He.ba (He.ba (He.ba (He.ba (He.ba (He.ba c.more).1).1).1).1).1).1).1).1).1).1).1).1).1).1).1).1).1).1).1).1).1).1).1).1).1).2,
    kitsB_ok (He.ba (He.ba (He.ba (He.ba (He.ba (He.ba (He.ba (He.ba (He.ba (He.ba (He.ba (He.ba (He.ba (He.ba (He.ba (He.ba (He.ba (He.ba (He.ba (He.ba (He.ba (He.ba (He.ba (He.ba (He.ba c.more).1).1).1).1).1).1).1).1).1).1).1).1).1).1).1).1).1).1).1).1).1).1).1).1).2,
    kitsB_ok (He.ba (He.ba (He.ba (He.ba (He.ba (He.ba (He.ba (He.ba (He.ba (He.ba (He.ba (He.ba (He.ba (He.ba (He.ba (He.ba (He.ba (He.ba (He.ba (He.ba (He.ba (He.ba (He.ba (He.ba c.more).1).1).1).1).1).1).1).1).1).1).1).1).1).1).1).1).1).1).1).1).1).1).1).2,
    kitsB_ok (He.ba (He.ba (He.ba (He.ba (He.ba (He.ba (He.ba (He.ba (He.ba (He.ba (He.ba (He.ba (He.ba (He.ba (He.ba (He.ba (He.ba (He.ba (He.ba (He.ba (He.ba (He.ba (He.ba c.more).1).1).1).1).1).1).1).1).1).1).1).1).1).1).1).1).1).1).1).1).1).1).2,
    kitsB_ok (He.ba (He.ba (He.ba (He.ba (He.ba (He.ba (He.ba (He.ba (He.ba (He.ba (He.ba (He.ba (He.ba (He.ba (He.ba (He.ba (He.ba (He.ba (He.ba (He.ba (He.ba (He.ba c.more).1).1).1).1).1).1).1).1).1).1).1).1).1).1).1).1).1).1).1).1).1).2,
    kitsB_ok (He.ba (He.ba (He.ba (He.ba (He.ba (He.ba (He.ba (He.ba (He.ba (He.ba (He.ba (He.ba (He.ba (He.ba (He.ba (He.ba (He.ba (He.ba (He.ba (He.ba (He.ba c.more).1).1).1).1).1).1).1).1).1).1).1).1).1).1).1).1).1).1).1).1).2,
    kitsB_ok (He.ba (He.ba (He.ba (He.ba (He.ba (He.ba (He.ba (He.ba (He.ba (He.ba (He.ba (He.ba (He.ba (He.ba (He.ba (He.ba (He.ba (He.ba (He.ba (He.ba c.more).1).1).1).1).1).1).1).1).1).1).1).1).1).1).1).1).1).1).1).2,
    kitsB_ok (He.ba (He.ba (He.ba (He.ba (He.ba (He.ba (He.ba (He.ba (He.ba (He.ba (He.ba (He.ba (He.ba (He.ba (He.ba (He.ba (He.ba (He.ba (He.ba c.more).1).1).1).1).1).1).1).1).1).1).1).1).1).1).1).1).1).1).2,
    kitsB_ok (He.ba (He.ba (He.ba (He.ba (He.ba (He.ba (He.ba (He.ba (He.ba (He.ba (He.ba (He.ba (He.ba (He.ba (He.ba (He.ba (He.ba (He.ba c.more).1).1).1).1).1).1).1).1).1).1).1).1).1).1).1).1).1).2,
    kitsB_ok (He.ba (He.ba (He.ba (He.ba (He.ba (He.ba (He.ba (He.ba (He.ba (He.ba (He.ba (He.ba (He.ba (He.ba (He.ba (He.ba (He.ba c.more).1).1).1).1).1).1).1).1).1).1).1).1).1).1).1).1).2,
    kitsB_ok (He.ba (He.ba (He.ba (He.ba (He.ba (He.ba (He.ba (He.ba (He.ba (He.ba (He.ba (He.ba (He.ba (He.ba (He.ba (He.ba c.more).1).1).1).1).1).1).1).1).1).1).1).1).1).1).1).2,
    kitsB_ok (He.ba (He.ba (He.ba (He.ba (He.ba (He.ba (He.ba (He.ba (He.ba (He.ba (He.ba (He.ba (He.ba (He.ba (He.ba c.more).1).1).1).1).1).1).1).1).1).1).1).1).1).1).2,
    kitsB_ok (He.ba (He.ba (He.ba (He.ba (He.ba (He.ba (He.ba (He.ba (He.ba (He.ba (He.ba (He.ba (He.ba (He.ba c.more).1).1).1).1).1).1).1).1).1).1).1).1).1).2,
    kitsB_ok (He.ba (He.ba (He.ba (He.ba (He.ba (He.ba (He.ba (He.ba (He.ba (He.ba (He.ba (He.ba (He.ba c.more).1).1).1).1).1).1).1).1).1).1).1).1).2,
    kitsB_ok (He.ba (He.ba (He.ba (He.ba (He.ba (He.ba (He.ba (He.ba (He.ba (He.ba (He.ba (He.ba c.more).1).1).1).1).1).1).1).1).1).1).1).2,
    kitsB_ok (He.ba (He.ba (He.ba (He.ba (He.ba (He.ba (He.ba (He.ba (He.ba (He.ba (He.ba c.more).1).1).1).1).1).1).1).1).1).1).2,
    kitsB_ok (He.ba (He.ba (He.ba (He.ba (He.ba (He.ba (He.ba (He.ba (He.ba (He.ba c.more).1).1).1).1).1).1).1).1).1).2,
    kitsB_ok (He.ba (He.ba (He.ba (He.ba (He.ba (He.ba (He.ba (He.ba (He.ba c.more).1).1).1).1).1).1).1).1).2,
    kitsB_ok (He.ba (He.ba (He.ba (He.ba (He.ba (He.ba (He.ba (He.ba c.more).1).1).1).1).1).1).1).2,
    kitsB_ok (He.ba (He.ba (He.ba (He.ba (He.ba (He.ba (He.ba c.more).1).1).1).1).1).1).2,
    kitsB_ok (He.ba (He.ba (He.ba (He.ba (He.ba (He.ba c.more).1).1).1).1).1).2,
    kitsB_ok (He.ba (He.ba (He.ba (He.ba (He.ba c.more).1).1).1).1).2,
    kitsB_ok (He.ba (He.ba (He.ba (He.ba c.more).1).1).1).2,
    kitsB_ok (He.ba (He.ba (He.ba c.more).1).1).2,
    kitsB_ok (He.ba (He.ba c.more).1).2,
    sysB_ok B (He.ba c.more).2⟩
  obtain ⟨fd__law_draw, F__law_draw⟩ := c.t.d.def_ 0 (d := ⟨("_law_draw", none), "_law_draw", "_law_draw", defArgs s__law_draw, defBody s__law_draw, defScope s__law_draw, [], []⟩) rfl
  have C__law_draw := c__law_draw (P := P) (base := base) (He.glo_ok X G (c.t.d.fact 0 (f := .glo "_law_draw") rfl)) F__law_draw T
  obtain ⟨fd__law_pick, F__law_pick⟩ := c.t.d.def_ 1 (d := ⟨("_law_pick", none), "_law_pick", "_law_pick", defArgs s__law_pick, defBody s__law_pick, defScope s__law_pick, [], []⟩) rfl
  have C__law_pick := c__law_pick (P := P) (base := base) (He.glo_ok X G (c.t.d.fact 1 (f := .glo "_law_pick") rfl)) F__law_pick T C__law_draw
  obtain ⟨fd__law_odd, F__law_odd⟩ := c.t.d.def_ 2 (d := ⟨("_law_odd", none), "_law_odd", "_law_odd", defArgs s__law_odd, defBody s__law_odd, defScope s__law_odd, [], []⟩) rfl
  have C__law_odd := c__law_odd (P := P) (base := base) (He.glo_ok X G (c.t.d.fact 2 (f := .glo "_law_odd") rfl)) F__law_odd T C__law_draw C__law_pick
  obtain ⟨fd__law_is_whole, F__law_is_whole⟩ := c.t.d.def_ 3 (d := ⟨("_law_is_whole", none), "_law_is_whole", "_law_is_whole", defArgs s__law_is_whole, defBody s__law_is_whole, defScope s__law_is_whole, [], []⟩) rfl
  have C__law_is_whole := c__law_is_whole (P := P) (base := base) (He.glo_ok X G (c.t.d.fact 3 (f := .glo "_law_is_whole") rfl)) F__law_is_whole T
  obtain ⟨fd__law_bent, F__law_bent⟩ := c.t.d.def_ 4 (d := ⟨("_law_bent", none), "_law_bent", "_law_bent", defArgs s__law_bent, defBody s__law_bent, defScope s__law_bent, [], []⟩) rfl
  have C__law_bent := c__law_bent (P := P) (base := base) (He.glo_ok X G (c.t.d.fact 4 (f := .glo "_law_bent") rfl)) F__law_bent T C__law_draw C__law_is_whole C__law_odd C__law_pick 80
  obtain ⟨fd__law_names, F__law_names⟩ := c.t.d.def_ 5 (d := ⟨("_law_names", none), "_law_names", "_law_names", defArgs s__law_names, defBody s__law_names, defScope s__law_names, [], []⟩) rfl
  have C__law_names := c__law_names (P := P) (base := base) (He.glo_ok X G (c.t.d.fact 5 (f := .glo "_law_names") rfl)) F__law_names T
  obtain ⟨fd__law_number, F__law_number⟩ := c.t.d.def_ 6 (d := ⟨("_law_number", none), "_law_number", "_law_number", defArgs s__law_number, defBody s__law_number, defScope s__law_number, [], []⟩) rfl
  have C__law_number := c__law_number (P := P) (base := base) (He.glo_ok X G (c.t.d.fact 6 (f := .glo "_law_number") rfl)) F__law_number T C__law_draw
  obtain ⟨fd__law_tree, F__law_tree⟩ := c.t.d.def_ 7 (d := ⟨("_law_tree", none), "_law_tree", "_law_tree", defArgs s__law_tree, defBody s__law_tree, defScope s__law_tree, [], []⟩) rfl
  have C__law_tree := c__law_tree (P := P) (base := base) (He.glo_ok X G (c.t.d.fact 7 (f := .glo "_law_tree") rfl)) F__law_tree T C__law_draw C__law_names C__law_number C__law_pick 40
  obtain ⟨fd__law_by_place, F__law_by_place⟩ := c.t.d.def_ 8 (d := ⟨("_law_by_place", none), "_law_by_place", "_law_by_place", defArgs s__law_by_place, defBody s__law_by_place, defScope s__law_by_place, [], []⟩) rfl
  have C__law_by_place := c__law_by_place (P := P) (base := base) (He.glo_ok X G (c.t.d.fact 8 (f := .glo "_law_by_place") rfl)) F__law_by_place T EC
  obtain ⟨fd__law_further, F__law_further⟩ := c.t.d.def_ 9 (d := ⟨("_law_further", none), "_law_further", "_law_further", defArgs s__law_further, defBody s__law_further, defScope s__law_further, [], []⟩) rfl
  have C__law_further := c__law_further (P := P) (base := base) (He.glo_ok X G (c.t.d.fact 9 (f := .glo "_law_further") rfl)) F__law_further T EC
  obtain ⟨fd__law_truths, F__law_truths⟩ := c.t.d.def_ 10 (d := ⟨("_law_truths", none), "_law_truths", "_law_truths", defArgs s__law_truths, defBody s__law_truths, defScope s__law_truths, [], []⟩) rfl
  have C__law_truths := c__law_truths (P := P) (base := base) (He.glo_ok X G (c.t.d.fact 10 (f := .glo "_law_truths") rfl)) F__law_truths T EC
  obtain ⟨fd__law_is_made, F__law_is_made⟩ := c.t.d.def_ 11 (d := ⟨("_law_is_made", none), "_law_is_made", "_law_is_made", defArgs s__law_is_made, defBody s__law_is_made, defScope s__law_is_made, [], []⟩) rfl
  have C__law_is_made := c__law_is_made (P := P) (base := base) (He.glo_ok X G (c.t.d.fact 11 (f := .glo "_law_is_made") rfl)) F__law_is_made T rfl EC C__law_truths
  obtain ⟨fd__law_by_name, F__law_by_name⟩ := c.t.d.def_ 12 (d := ⟨("_law_by_name", none), "_law_by_name", "_law_by_name", defArgs s__law_by_name, defBody s__law_by_name, defScope s__law_by_name, [], []⟩) rfl
  have C__law_by_name := c__law_by_name (P := P) (base := base) (He.glo_ok X G (c.t.d.fact 12 (f := .glo "_law_by_name") rfl)) F__law_by_name T EC
  obtain ⟨fd__law_right, F__law_right⟩ := c.t.d.def_ 13 (d := ⟨("_law_right", none), "_law_right", "_law_right", defArgs s__law_right, defBody s__law_right, defScope s__law_right, [], []⟩) rfl
  have C__law_right := c__law_right (P := P) (base := base) (He.glo_ok X G (c.t.d.fact 13 (f := .glo "_law_right") rfl)) F__law_right T rfl C__law_bent C__law_by_name C__law_by_place C__law_draw C__law_further C__law_is_made C__law_odd C__law_tree
  obtain ⟨fd__law_well, F__law_well⟩ := c.t.d.def_ 14 (d := ⟨("_law_well", none), "_law_well", "_law_well", defArgs s__law_well, defBody s__law_well, defScope s__law_well, [], []⟩) rfl
  have C__law_well := c__law_well (P := P) (base := base) (He.glo_ok X G (c.t.d.fact 14 (f := .glo "_law_well") rfl)) F__law_well T
  exact fn_defG (p := ("law", none)) F_law rfl sc_law fun A outer s H E gd hr => e_law T C__law_right C__law_well (.ref (He.codeOf K ("law", none))) A outer s H E gd hr
theorem facts {P : Program} {w : World} {K : PySem.W.Frag} {h : Heap} {mg : Str → Option Value} {f : Addr} (X : K.In h) (G : h.Ns mainGlobals mg) (hfa : mg ("law" : Str) = some (.ref f)) (c : He.SaysX Head.fa Head.fn Head.ts Head.tf Head.ex w h K) :
    ∃ fd : FuncData, (∀ (s : Shared) (v : Value), BindsTo s fd ⟨[v], []⟩ [(p_law.head!, v)]) ∧ ∀ base : Heap, K.In base → base.Ns mainGlobals mg → (∀ p ∈ Head.tf.map (He.cT K), LamX.TabB base mg p.1 p.2) → FnG P w K mg base CX0 85 f fd p_law (@spM (ctOf K) K m_law) := by
  obtain ⟨fd, F⟩ := c.t.d.def_ 15 (d := ⟨("law", none), "law", "law", defArgs s_law, defBody s_law, defScope s_law, [], []⟩) rfl
  have e := hfa.symm.trans (He.glo_ok X G (c.t.d.fact 15 (f := .glo "law") rfl))
  cases e
  have b := FunD.bindsA (ps := p_law) F fun _ _ _ _ _ _ us hl => match us, hl with | [_], _ => rfl
  exact ⟨fd, fun s v => b s [v] rfl, fun base B _ TB => cal_law X G c B TB F⟩
end G01
open PySem PySem.W PySem.Calls PyProof.Rows
theorem G01.holds (math : ∀ ns : List Int, ns.length ≤ 63 → ∀ sc, Py.Scr ns sc → ∃ S', G01.m_law [sc] [] = .ok (.bl true) S') : PySem.Challenge.rw_formstead_k01_errors_each_of_its_own.Holds := by
  w_on; o_law
  refine HandSHeadRun.head_any (r := OpenLaw.row PySem.Challenge.rw_formstead_k01_errors_each_of_its_own) (q := view (OpenLaw.row PySem.Challenge.rw_formstead_k01_errors_each_of_its_own).prog [43]) (H := G01.Head.hk) (ob := G01.Head.ob) (M := 8000) (loose := G01.lse) (d := HandSHeadRun.topDef (OpenLaw.row PySem.Challenge.rw_formstead_k01_errors_each_of_its_own).prog 43) (kwd := []) G01.Head.ob_eq
    (by kernel_rfl) (fun s => by kernel_rfl) G01.run (by kernel_rfl) (by kernel_rfl) (by kernel_rfl) (by rfl) (by first | assumption | decide +kernel) (by decide +kernel) ⟨rfl, rfl, rfl, rfl, rfl, by decide +kernel⟩ ?hw ?hc
  case hw => w_witness2
  case hc =>
    refine Py.walk_lawG (l := PySem.Challenge.rw_formstead_k01_errors_each_of_its_own) (n := 63) (k := 85) (x := G01.p_law.head!) (CX := fun _ => L2.CX0) rfl (by decide) (by kernel_rfl) ⟨rfl, by decide, by decide⟩ ?F (fun _ _ _ _ _ z => z)
    intro w mg fa h Y G hmg0
    obtain ⟨K, KX, c⟩ := Y
    have hmg : mg ("law" : PySem.Str) = some (.ref fa) := by
      have e : (HandSHeadRun.topDef (OpenLaw.row PySem.Challenge.rw_formstead_k01_errors_each_of_its_own).prog 43).name = ("law" : PySem.Str) := by kernel_rfl
      rw [← e]
      exact hmg0
    obtain ⟨fd, hb, hF⟩ := G01.facts (P := (PySem.Challenge.rw_formstead_k01_errors_each_of_its_own).prog) (w := w) KX G hmg c
    refine ⟨K, KX, fd, G01.Head.tf.map (He.cT K), @Py.spM (G01.ctOf K) K G01.m_law, fun p hp => ?_, fun p hp => ?_, fun p hp => ?_, hb, fun H a ns hl _ hT hS => ?_, hF⟩
    · obtain ⟨q, hq, e⟩ := List.mem_map.mp hp
      rw [← e]
      exact c.empty q hq
    · obtain ⟨q, hq, e⟩ := List.mem_map.mp hp
      rw [← e]
      exact c.out q hq
    · obtain ⟨q, hq, e⟩ := List.mem_map.mp hp
      rw [← e]
      exact PySem.W.codeHd_of_K KX (c.hd q hq)
    · letI : Py.CT := G01.ctOf K
      exact Py.law_start (math ns hl) (Py.tabs_nil hT) hS
open PySem PySem.W PyProof.Rows
set_option maxRecDepth 100000 in
set_option maxHeartbeats 8000000 in
theorem PySem.Challenge.cw_formstead_k01_errors_each_of_its_own_holds : PySem.Challenge.rw_formstead_k01_errors_each_of_its_own.Holds := by
  exact G01.holds fun ns hl sc hs => G01.law_ok ns hl sc hs
