import PyProof.Rows.All
import Wide.All
import OpenK.AllK
import Wide.FinOn
import KE.KStateDown
import Lean
import HandS.Words
import HandS.Head0
import HandS.Head1
import HandS.Head2
import HandS.HeadHook1
import HandS.HeadHook2
import HandS.HeadHook3
import KE.DataEq
import HandS.ForExc
import HandS.ForMost
import HandS.IsInst
import HandS.TupAny
import HandS.TupMul
import KE.KExcStr
import HandS.ExcCtx
import HandS.HotCalls
import HandS.ExcIs
import HandS.ExcValue
import HandS.SetFor
import HandS.RaiseMore
import KE.DataCmp
import HandS.Walk
import HandS.Zip
import HandS.IterVal
import KE.KeyNested
import KE.KDictKeyed
import KE.SortData
import HandS.TupSets
import HandS.Conv
import HandS.ListItems
import KE.KDictItemsList
import HandS.More
import HandS.FStrTup
import KE.DataFind
import KE.GoesEnum
import KE.GoesMore
import HandS.DictComp
import PyProof.DictFindH
import HandS.Star
import KE.GoesZip
import KE.KRevSl
import HandS.Flt
import PySem.Challenge.RW_corrigenda_k27_rows_of_many_items
set_option Elab.async false
set_option linter.all false
set_option maxRecDepth 100000
namespace Cg
open PySem PySem.Spec PyProof.Rows L2
namespace Hk
abbrev G : Type := Addr → Option Obj
theorem frG_of {g : G} {a : Addr} {o : Obj} (h : g a = some o) : ∀ as : List Addr, a ∈ as → (He.frG g as).lookup a = some o
  | b :: r, m => by
    unfold He.frG
    rw [List.filterMap_cons]
    by_cases e : a = b
    · subst e
      rw [h]
      show (match a == a with | true => some o | false => _) = some o
      rw [beq_self_eq_true]
    · have m' : a ∈ r := (List.mem_cons.mp m).resolve_left e
      have ih := frG_of h r m'
      unfold He.frG at ih
      cases hb : g b with
      | none => exact ih
      | some ob =>
        show (match a == b with | true => some ob | false => _) = some o
        rw [beq_eq_false_iff_ne.mpr e]
        exact ih
def allK (h : Heap) : PySem.W.Frag := He.frG h.get? (List.range h.objs.size)
theorem allK_in (h : Heap) : (allK h).In h := He.frG_in
theorem allK_at (h : Heap) (a : Addr) : (allK h).lookup a = h.get? a := by
  cases e : h.get? a with
  | some o =>
    refine frG_of e _ (List.mem_range.mpr ?_)
    unfold Heap.get? at e
    by_cases q : a < h.objs.size
    · exact q
    · rw [Array.getElem?_eq_none (Nat.le_of_not_lt q)] at e
      cases e
  | none =>
    cases e2 : (allK h).lookup a with
    | none => rfl
    | some o => rw [allK_in h a o e2] at e; cases e
def nsG (g : G) (ns : Addr) (x : Str) : Option (Option Value) := match g ns with
  | some ⟨_, _, .dict es _, _⟩ => (match es.toList.find? (·.key.isStr x) with
      | some e => some (some e.val)
      | none => if es.toList.any (·.refKey) then none else some none)
  | _ => none
theorem nsG_eq (K : PySem.W.Frag) (ns : Addr) (x : Str) : PySem.W.nsIn K ns x = nsG (fun a => K.lookup a) ns x := rfl
def codeG (g : G) (cd : Value) (q : Str) : Bool := match cd with
  | .ref c => (match g c with
      | some ⟨_, _, .fields vs, _⟩ => (match vs.toList with | _ :: .str n _ :: _ => n == q | _ => false)
      | _ => false)
  | _ => false
theorem codeG_eq (K : PySem.W.Frag) (cd : Value) (q : Str) : PySem.W.codeIn K cd q = codeG (fun a => K.lookup a) cd q := rfl
def nsOkG (g : G) (N : Addr) : Bool := match g N with
  | some ⟨_, _, .dict es _, _⟩ => es.all fun e => match e.key with | .str _ _ => true | _ => false
  | _ => false
def tailG (g : G) (bmB : List Value) : List Value → Bool
  | [] => bmB == []
  | v :: r => (v :: r) == bmB || match v with
    | .ref A => (match g A with
      | some ⟨_, _, .cls cd, _⟩ => nsOkG g cd.ns && nsG g cd.ns "__init__" == some none && tailG g bmB r
      | _ => false)
    | _ => false
theorem tailG_eq (K : PySem.W.Frag) (bmB : List Value) : ∀ l : List Value, PySem.W.tailIn K bmB l = tailG (fun a => K.lookup a) bmB l
  | [] => rfl
  | v :: r => by
    unfold PySem.W.tailIn tailG
    rw [tailG_eq K bmB r]
    rfl
def excG (g : G) (C : Addr) (bmB : List Value) (newId : String) : Bool := match g C with
  | some ⟨.type "type", _, .cls cd, sl⟩ => (match cd.mro, sl.toList with
    | .ref C' :: bm, [_, _, _, _, some (.builtin n), _] => C' == C && n == newId && !cd.hasDel && tailG g bmB bm && nsOkG g cd.ns && nsG g cd.ns "__init__" == some none
    | _, _ => false)
  | _ => false
theorem excG_eq (K : PySem.W.Frag) (C : Addr) (bmB : List Value) (newId : String) : PySem.W.excIn K C bmB newId = excG (fun a => K.lookup a) C bmB newId := by
  unfold PySem.W.excIn excG
  simp only [tailG_eq]
  rfl
def veB : List Value := [.type "ValueError", .type "Exception", .type "BaseException", .type "object"]
def baseG (g : G) (C : Addr) : Bool := match g C with
  | some ⟨_, _, .cls cd, _⟩ => !cd.mro.isEmpty && cd.mro.contains (.type "BaseException")
  | _ => false
/-- a value in a dict of the top: what a name of the module stands for, or a number -/
inductive Dw where
  | glo (x : Str)
  | int (i : Int)
structure Cfg where
  defs : List (Str × Stmt)
  free : List Str
  nums : List (Str × Int)
  tups : List (Str × List V)
  dics : List (Str × List (Str × Dw))
  errs : List Str
def glo (g : G) (x : Str) : Option Addr := match nsG g mainGlobals x with
  | some (some (.ref a)) => some a
  | _ => none
abbrev FnV : Type := Option (Str × Str × Arguments × FuncBody × Scope × Addr × List (Str × Addr) × Value × Addr)
def defV (g : G) (x : Str) : FnV := match glo g x with
  | some f => (match g f with
    | some ⟨_, _, .func fd, _⟩ => (match codeG g fd.code x with
      | true => some (fd.name, fd.qualname, fd.params, fd.body, fd.scope, fd.globals, fd.closure, fd.defaults, fd.builtins)
      | false => none)
    | _ => none)
  | none => none
def defW (q : Str × Stmt) : FnV := some (q.1, q.1, defArgs q.2, .stmts (defBody q.2), defScope q.2, mainGlobals, [], .none, builtinsNs)
def freeB (g : G) (x : Str) : Bool := match nsG g mainGlobals x with
  | some none => true
  | _ => false
def intB (g : G) (q : Str × Int) : Bool := match nsG g mainGlobals q.1 with
  | some (some (.int j _)) => decide (j = q.2)
  | _ => false
def tupB (g : G) (q : Str × List V) : Bool := match glo g q.1 with
  | some a => (match g a with
    | some ⟨.type c, none, .seq its _, _⟩ => decide (c = "tuple") && (decide (its.size ≤ 1000) && He.relAll q.2 its.toList)
    | _ => false)
  | none => false
def Dw.ok (g : G) : Dw → Value → Bool
  | .glo y, .ref b => (match Hk.glo g y with
    | some c => decide (b = c)
    | none => false)
  | .int i, .int j _ => decide (i = j)
  | _, _ => false
def dicB (g : G) (q : Str × List (Str × Dw)) : Bool := match glo g q.1 with
  | some a => q.2.all fun z => (match nsG g a z.1 with
    | some (some u) => z.2.ok g u
    | _ => false)
  | none => false
def dicV (g : G) (x : Str) : Option (List (Option (Str × Int))) := match glo g x with
  | some a => (match g a with
    | some ⟨.type c, none, .dict es _, sl⟩ => (match decide (c = "dict") && sl.isEmpty with
      | true => some (es.toList.map He.keyOf)
      | false => none)
    | _ => none)
  | none => none
def errB (g : G) (x : Str) : Bool := match glo g x with
  | some C => excG g C veB "ValueError.__new__" && baseG g C
  | none => false
abbrev Al : Type := List FnV × List (Option (List (Option (Str × Int)))) × Bool
def obsG (c : Cfg) (g : G) : Al := (c.defs.map fun q => defV g q.1, c.dics.map fun q => dicV g q.1,
  (c.free.all fun x => freeB g x) && ((c.nums.all fun q => intB g q) && ((c.tups.all fun q => tupB g q) && ((c.dics.all fun q => dicB g q) && c.errs.all fun x => errB g x))))
def valW (c : Cfg) (w : World) : Al := (c.defs.map defW, c.dics.map fun q => some (He.keysIn w.params (q.2.map Prod.fst)), true)
/-- what the end leans on -/
def Says (c : Cfg) (w : World) (K : PySem.W.Frag) : Prop := obsG c (fun a => K.lookup a) = valW c w
def hook (c : Cfg) : PySem.W.Hook where
  α := Al
  obs := fun s => obsG c s.heap.get?
  val := fun w => valW c w
  says := fun w h => ∃ K : PySem.W.Frag, K.In h ∧ Says c w K
  of := fun w s e => ⟨allK s.heap, allK_in _, by
    have e2 : (fun a => (allK s.heap).lookup a) = s.heap.get? := funext (allK_at s.heap)
    unfold Says
    rw [e2]
    exact e⟩
  keeps := fun _ _ _ ⟨K, hK, c⟩ k => ⟨K, PySem.W.Frag.In.keeps hK k, c⟩
def ob (c : Cfg) (s : PySem.W.SharedT) : Al := obsG c (HandSHeadRun.getT s)
theorem ob_eq (c : Cfg) (s : PySem.W.SharedT) : ob c s = (hook c).obs s.abs := by
  have e : HandSHeadRun.getT s = s.abs.heap.get? := funext (HandSHeadRun.getT_eq s)
  unfold ob
  rw [e]
  rfl
end Hk
end Cg
namespace K27
open PySem PySem.Spec PyProof.Rows L2 Cg
def topS (i : Nat) : Stmt := PySem.Challenge.pw_corrigenda_k27_rows_of_many_items.main.body.getD i (.Pass ⟨0, 0, 0, 0⟩)
abbrev s_check_kind : Stmt := topS 11
abbrev s_is_whole : Stmt := topS 12
abbrev s_is_within : Stmt := topS 13
abbrev s_is_tuple : Stmt := topS 14
abbrev s_inner_kinds : Stmt := topS 15
abbrev s_count_kinds : Stmt := topS 16
abbrev s_is_value : Stmt := topS 17
abbrev s_weigh : Stmt := topS 18
abbrev s_heft : Stmt := topS 19
abbrev s_value_parts : Stmt := topS 20
abbrev s_record_parts : Stmt := topS 21
abbrev s_choice_parts : Stmt := topS 22
abbrev s_item_parts : Stmt := topS 23
abbrev s_bag_parts : Stmt := topS 24
abbrev s_table_parts : Stmt := topS 25
abbrev s_is_ordered : Stmt := topS 27
abbrev s_is_rising : Stmt := topS 28
abbrev s_gap : Stmt := topS 30
abbrev s_climb : Stmt := topS 31
abbrev s_next_heights : Stmt := topS 32
abbrev s_paper_of : Stmt := topS 39
abbrev s_has_turn_alone : Stmt := topS 40
abbrev s_worth_of : Stmt := topS 41
abbrev s_turn_worth : Stmt := topS 42
abbrev s_record_worth : Stmt := topS 43
abbrev s_choice_worth : Stmt := topS 44
abbrev s_row_worth : Stmt := topS 45
abbrev s_is_grid : Stmt := topS 46
abbrev s_goes_down : Stmt := topS 47
abbrev s_goes_left : Stmt := topS 48
abbrev s_goes_across : Stmt := topS 49
abbrev s_lot_worth : Stmt := topS 50
abbrev s_table_worth : Stmt := topS 51
abbrev s_packed : Stmt := topS 57
abbrev s_distance : Stmt := topS 59
abbrev s_least : Stmt := topS 60
abbrev s_bound : Stmt := topS 61
abbrev s_worth : Stmt := topS 62
abbrev s_check_values : Stmt := topS 63
abbrev s_least_patch : Stmt := topS 64
abbrev s_least_parts : Stmt := topS 65
abbrev s_last_part : Stmt := topS 66
abbrev s__law_box : Stmt := topS 69
abbrev s__law_take : Stmt := topS 70
abbrev s__law_pick : Stmt := topS 71
abbrev s__law_weight : Stmt := topS 72
abbrev s__law_made : Stmt := topS 73
abbrev s__law_made_row : Stmt := topS 74
abbrev s__law_cost : Stmt := topS 78
abbrev s__law_distance : Stmt := topS 79
abbrev s__law_far : Stmt := topS 80
abbrev s__law_edited : Stmt := topS 81
abbrev s_law : Stmt := topS 82
def hkn_0 : List PySem.Str := [("__name__" : PySem.Str), ("CorrigendaError" : PySem.Str), ("BadKind" : PySem.Str), ("BadValue" : PySem.Str), ("MOST_NUMBER" : PySem.Str), ("MOST_DEEP" : PySem.Str), ("MOST_KINDS" : PySem.Str), ("MOST_WEIGHT" : PySem.Str), ("FEWEST_INSIDE" : PySem.Str), ("MOST_INSIDE" : PySem.Str), ("check_kind" : PySem.Str), ("is_whole" : PySem.Str), ("is_within" : PySem.Str), ("is_tuple" : PySem.Str)]
def hkn_1 : List PySem.Str := [("inner_kinds" : PySem.Str), ("count_kinds" : PySem.Str), ("is_value" : PySem.Str), ("weigh" : PySem.Str), ("heft" : PySem.Str), ("value_parts" : PySem.Str), ("record_parts" : PySem.Str), ("choice_parts" : PySem.Str), ("item_parts" : PySem.Str), ("bag_parts" : PySem.Str), ("table_parts" : PySem.Str), ("VALUE_PARTS" : PySem.Str), ("is_ordered" : PySem.Str), ("is_rising" : PySem.Str)]
def hkn_2 : List PySem.Str := [("gap" : PySem.Str), ("climb" : PySem.Str), ("next_heights" : PySem.Str), ("counted" : PySem.Str), ("shifts" : PySem.Str), ("shared" : PySem.Str), ("lone" : PySem.Str), ("lone_heft" : PySem.Str), ("paper_of" : PySem.Str), ("has_turn_alone" : PySem.Str), ("worth_of" : PySem.Str), ("turn_worth" : PySem.Str), ("record_worth" : PySem.Str), ("choice_worth" : PySem.Str)]
def hkn_3 : List PySem.Str := [("row_worth" : PySem.Str), ("is_grid" : PySem.Str), ("goes_down" : PySem.Str), ("goes_left" : PySem.Str), ("goes_across" : PySem.Str), ("lot_worth" : PySem.Str), ("table_worth" : PySem.Str), ("total" : PySem.Str), ("WORTHS" : PySem.Str), ("SAME" : PySem.Str), ("KEEP" : PySem.Str), ("packed" : PySem.Str), ("distance" : PySem.Str), ("least" : PySem.Str)]
def hkn_4 : List PySem.Str := [("bound" : PySem.Str), ("worth" : PySem.Str), ("check_values" : PySem.Str), ("least_patch" : PySem.Str), ("least_parts" : PySem.Str), ("last_part" : PySem.Str), ("least_changes" : PySem.Str), ("_law_box" : PySem.Str), ("_law_take" : PySem.Str), ("_law_pick" : PySem.Str), ("_law_weight" : PySem.Str), ("_law_made" : PySem.Str), ("_law_made_row" : PySem.Str), ("_law_made_set" : PySem.Str)]
def hkn_5 : List PySem.Str := [("_law_made_bag" : PySem.Str), ("_law_made_table" : PySem.Str), ("_law_cost" : PySem.Str), ("_law_distance" : PySem.Str), ("_law_far" : PySem.Str), ("_law_edited" : PySem.Str)]
def hkd_0 : List (PySem.Str × Stmt) := [(("check_kind" : PySem.Str), s_check_kind), (("is_whole" : PySem.Str), s_is_whole), (("is_within" : PySem.Str), s_is_within), (("is_tuple" : PySem.Str), s_is_tuple), (("inner_kinds" : PySem.Str), s_inner_kinds), (("count_kinds" : PySem.Str), s_count_kinds), (("is_value" : PySem.Str), s_is_value), (("weigh" : PySem.Str), s_weigh), (("heft" : PySem.Str), s_heft), (("value_parts" : PySem.Str), s_value_parts), (("record_parts" : PySem.Str), s_record_parts), (("choice_parts" : PySem.Str), s_choice_parts), (("item_parts" : PySem.Str), s_item_parts), (("bag_parts" : PySem.Str), s_bag_parts)]
def hkd_1 : List (PySem.Str × Stmt) := [(("table_parts" : PySem.Str), s_table_parts), (("is_ordered" : PySem.Str), s_is_ordered), (("is_rising" : PySem.Str), s_is_rising), (("gap" : PySem.Str), s_gap), (("climb" : PySem.Str), s_climb), (("next_heights" : PySem.Str), s_next_heights), (("paper_of" : PySem.Str), s_paper_of), (("has_turn_alone" : PySem.Str), s_has_turn_alone), (("worth_of" : PySem.Str), s_worth_of), (("turn_worth" : PySem.Str), s_turn_worth), (("record_worth" : PySem.Str), s_record_worth), (("choice_worth" : PySem.Str), s_choice_worth), (("row_worth" : PySem.Str), s_row_worth), (("is_grid" : PySem.Str), s_is_grid)]
def hkd_2 : List (PySem.Str × Stmt) := [(("goes_down" : PySem.Str), s_goes_down), (("goes_left" : PySem.Str), s_goes_left), (("goes_across" : PySem.Str), s_goes_across), (("lot_worth" : PySem.Str), s_lot_worth), (("table_worth" : PySem.Str), s_table_worth), (("packed" : PySem.Str), s_packed), (("distance" : PySem.Str), s_distance), (("least" : PySem.Str), s_least), (("bound" : PySem.Str), s_bound), (("worth" : PySem.Str), s_worth), (("check_values" : PySem.Str), s_check_values), (("least_patch" : PySem.Str), s_least_patch), (("least_parts" : PySem.Str), s_least_parts), (("last_part" : PySem.Str), s_last_part)]
def hkd_3 : List (PySem.Str × Stmt) := [(("_law_box" : PySem.Str), s__law_box), (("_law_take" : PySem.Str), s__law_take), (("_law_pick" : PySem.Str), s__law_pick), (("_law_weight" : PySem.Str), s__law_weight), (("_law_made" : PySem.Str), s__law_made), (("_law_made_row" : PySem.Str), s__law_made_row), (("_law_cost" : PySem.Str), s__law_cost), (("_law_distance" : PySem.Str), s__law_distance), (("_law_far" : PySem.Str), s__law_far), (("_law_edited" : PySem.Str), s__law_edited), (("law" : PySem.Str), s_law)]
def hkf_0 : List PySem.Str := [("abs" : PySem.Str), ("all" : PySem.Str), ("any" : PySem.Str), ("bool" : PySem.Str), ("enumerate" : PySem.Str), ("int" : PySem.Str), ("isinstance" : PySem.Str), ("len" : PySem.Str), ("list" : PySem.Str), ("max" : PySem.Str), ("min" : PySem.Str), ("range" : PySem.Str), ("sum" : PySem.Str), ("tuple" : PySem.Str)]
def hkf_1 : List PySem.Str := [("zip" : PySem.Str)]
def names : List PySem.Str := hkn_0 ++ (hkn_1 ++ (hkn_2 ++ (hkn_3 ++ (hkn_4 ++ (hkn_5)))))
def cfg : Cg.Hk.Cfg := { defs := hkd_0 ++ (hkd_1 ++ (hkd_2 ++ (hkd_3))), free := hkf_0 ++ (hkf_1), nums := [(("MOST_DEEP" : PySem.Str), 5), (("MOST_INSIDE" : PySem.Str), 4), (("MOST_KINDS" : PySem.Str), 20), (("MOST_NUMBER" : PySem.Str), 1000), (("MOST_WEIGHT" : PySem.Str), 400)], tups := [(("KEEP" : PySem.Str), [V.str "keep", V.int 1]), (("SAME" : PySem.Str), [V.str "same"])], dics := [(("FEWEST_INSIDE" : PySem.Str), [(("record" : PySem.Str), .int 1), (("choice" : PySem.Str), .int 2)]), (("VALUE_PARTS" : PySem.Str), [(("record" : PySem.Str), .glo ("record_parts" : PySem.Str)), (("choice" : PySem.Str), .glo ("choice_parts" : PySem.Str)), (("row" : PySem.Str), .glo ("item_parts" : PySem.Str)), (("set" : PySem.Str), .glo ("item_parts" : PySem.Str)), (("bag" : PySem.Str), .glo ("bag_parts" : PySem.Str)), (("table" : PySem.Str), .glo ("table_parts" : PySem.Str))]), (("WORTHS" : PySem.Str), [(("record" : PySem.Str), .glo ("record_worth" : PySem.Str)), (("choice" : PySem.Str), .glo ("choice_worth" : PySem.Str)), (("row" : PySem.Str), .glo ("row_worth" : PySem.Str)), (("set" : PySem.Str), .glo ("lot_worth" : PySem.Str)), (("bag" : PySem.Str), .glo ("lot_worth" : PySem.Str)), (("table" : PySem.Str), .glo ("table_worth" : PySem.Str))])], errs := [("BadKind" : PySem.Str), ("BadValue" : PySem.Str), ("CorrigendaError" : PySem.Str)] }
abbrev R : PySem.W.OpenRow := PySem.W.OpenLaw.row PySem.Challenge.rw_corrigenda_k27_rows_of_many_items
abbrev qv : Program := PySem.W.view R.prog [82]
set_option maxHeartbeats 0 in
theorem pre (h : PySem.W.OpenRow.wellSaid R = true → PySem.W.OpenRow.Holds R) : PySem.Challenge.rw_corrigenda_k27_rows_of_many_items.Holds := by
  w_on; o_law
  exact h (by assumption)
set_option maxHeartbeats 0 in
theorem runF (w : World) : HandSHeadRun.RunEq R qv (Hk.hook cfg) (Hk.ob cfg) 5600 names (w.withFollow "special-get-raises" false) := by
  intro os
  kernel_rfl
set_option maxHeartbeats 0 in
theorem runT (w : World) : HandSHeadRun.RunEq R qv (Hk.hook cfg) (Hk.ob cfg) 5600 names (w.withFollow "special-get-raises" true) := by
  intro os
  kernel_rfl
theorem run (w : World) : HandSHeadRun.RunEq R qv (Hk.hook cfg) (Hk.ob cfg) 5600 names w := PySem.W.byRow2 "special-get-raises" (P := fun w => HandSHeadRun.RunEq R qv (Hk.hook cfg) (Hk.ob cfg) 5600 names w) runF runT w
abbrev dL : DefRec := HandSHeadRun.topDef R.prog 82
theorem dL_name : dL.name = ("law" : PySem.Str) := by kernel_rfl
theorem dL_dfl : dL.params.defaults = [] := by kernel_rfl
theorem most : (PySem.Challenge.rw_corrigenda_k27_rows_of_many_items).most = some 63 := rfl
set_option maxHeartbeats 0 in
open PySem PySem.W PySem.Calls PyProof.Rows in
theorem top (hc : WalkO qv names (XL qv []) (Hk.hook cfg).says R.toRowW dL [] fun f vs => PySem.call f vs) : PySem.Challenge.rw_corrigenda_k27_rows_of_many_items.Holds := by
  refine pre fun said => ?_
  w_on
  refine HandSHeadRun.head_any (r := R) (q := qv) (H := Hk.hook cfg) (ob := Hk.ob cfg) (M := 5600) (loose := names) (d := dL) (kwd := []) (Hk.ob_eq _)
    (by kernel_rfl) (fun s => by kernel_rfl) run (by kernel_rfl) (by kernel_rfl) (by kernel_rfl) (by rfl) said (by decide +kernel) ⟨rfl, rfl, rfl, rfl, rfl, by decide +kernel⟩ ?hw hc
  case hw => w_witness2
end K27
namespace L2
open PySem PySem.Spec PyProof.Rows
section
variable {X : Cx}
theorem SqT.frz {K : PySem.W.Frag} {H : Hp} {a : Addr} {o : Obj} {xs : List V} (h : H a = some (.frz o (.tup xs))) : SqT K H a xs := .inl (.inr ⟨o, h⟩)
def newT (its : List Value) : Obj := { cls := .type "tuple", data := .seq its.toArray }
theorem frz_ok {X : Cx} {H : Hp} {h' : Heap} {p : Addr} {its : List Value} {xs : List V} (hp : h'.get? p = some (newT its)) (hz : xs.length ≤ sizeLine) (r : Vals xs its) : ObjOk X.prog X.w H h' p (.frz (newT its) (.tup xs)) :=
  ⟨hp, hz, its, r, ⟨_, hp, rfl, _, rfl⟩⟩
def tTupF (t : TA) : TE := fun σ H Q => t σ H fun xs H1 => xs.length ≤ sizeLine ∧ ∀ p o, H1 p = none → o.dict = none → Q (.ref p) (upd H1 p (.frz o (.tup xs)))
theorem pe_tupF {x1} {es : List Expr} {t : TA} {pos : Pos} (h : PA X es t) : PE X (.Tuple es x1 pos) (tTupF t) := by
  refine ⟨fun pins s σ H Q I hq => ?_⟩
  refine wpAny_Tuple_spliced (thn (h.run pos pins s σ H _ I hq) fun us s1 ⟨xs, H1, I1, r, z, q⟩ => ⟨by rw [← r.length]; exact z, ?_⟩)
  have hf : H1 s1.heap.objs.size = none := I1.hok.fresh (Nat.le_refl _)
  exact ⟨.ref s1.heap.objs.size, upd H1 s1.heap.objs.size (.frz (newT us) (.tup xs)), I1.laid (t' := s1.toks) (fun b u e => Heap.get?_push_of_some _ e) (Nat.le_refl _) (frz_ok (Heap.get?_push_size _ rfl) z r), rfl, q _ _ hf rfl⟩
def rCatF (K : PySem.W.Frag) : R2 := fun x y H Q => ∃ a b xs ys, x = .ref a ∧ y = .ref b ∧ SqT K H a xs ∧ SqT K H b ys ∧ xs.length + ys.length ≤ sizeLine ∧
  (xs = [] → Q (.ref b) H) ∧ (xs ≠ [] → ys = [] → Q (.ref a) H) ∧ (xs ≠ [] → ys ≠ [] → ∀ p o, H p = none → o.dict = none → Q (.ref p) (upd H p (.frz o (.tup (xs ++ ys)))))
theorem op_catF : OpR X (binaryOp .Add) (rCatF X.K) := by
  intro pins s σ H x y v u Q I rx ry h
  obtain ⟨a, b, xs, ys, rfl, rfl, ha, hb, hz, q0, q1, q2⟩ := h
  cases rx
  cases ry
  obtain ⟨its, r1, p1, _⟩ := I.tuple ha
  obtain ⟨its2, r2, p2, _⟩ := I.tuple hb
  by_cases hx : xs = []
  · subst hx
    cases r1
    exact cat_tup0 p1 p2 ⟨.ref b, H, I, rfl, q0 rfl⟩
  · refine HT.cat_tup p1 p2 (fun z => hx (r1.nil_iff.mp z)) (fun z => ⟨.ref a, H, I, rfl, q1 hx (r2.nil_iff.mp z)⟩) (fun z => ?_) (by rw [← r1.length, ← r2.length]; exact hz)
    exact ⟨.ref s.heap.objs.size, _, I.laid (t' := s.toks) (o := .frz (newT (its ++ its2)) (.tup (xs ++ ys))) (fun b ob q => Heap.get?_push_of_some _ q) (Nat.le_refl _) (frz_ok (Heap.get?_push_size _ rfl) (by rw [List.length_append]; exact hz) (r1.append r2)), rfl, q2 hx (fun w => z (r2.nil_iff.mpr w)) _ _ (I.hok.fresh (Nat.le_refl _)) rfl⟩
def rSlF (K : PySem.W.Frag) : V → Option Int → Option Int → Hp → VK → Prop := fun x lo hi H Q => ∃ a xs, x = .ref a ∧ SqT K H a xs ∧
  (HT.sIx xs.length 0 lo = 0 ∧ HT.sIx xs.length xs.length hi = xs.length → Q (.ref a) H) ∧ (¬ (HT.sIx xs.length 0 lo = 0 ∧ HT.sIx xs.length xs.length hi = xs.length) → ∀ p o, H p = none → o.dict = none → Q (.ref p) (upd H p (.frz o (.tup (cutV xs lo hi)))))
theorem sl_tupF : SlR X (rSlF X.K) := by
  intro pins s σ H x v vl vu lo hi sl Q I rx hs pl pu h
  obtain ⟨a, xs, rfl, hx, q1, q2⟩ := h
  cases rx
  obtain ⟨its, r, ht, hz⟩ := I.tuple hx
  have hlen : its.toArray.size = xs.length := by rw [List.size_toArray]; exact r.length.symm
  by_cases hw : HT.sIx xs.length 0 lo = 0 ∧ HT.sIx xs.length xs.length hi = xs.length
  · refine ⟨"tuple", _, PyProof.Rows.slot_tuple_getitem.lookup, ht.typeIs, ?_⟩
    exact getItem_tuple_whole ht hs pl pu (by rw [hlen]; exact hw) ⟨.ref a, H, I, rfl, q1 hw⟩
  · refine ⟨"tuple", _, PyProof.Rows.slot_tuple_getitem.lookup, ht.typeIs, ?_⟩
    refine HT.getItem_tuple_cut ht hs pl pu (by rw [hlen]; exact hw) ?_ (by rw [hlen]; exact hz)
    rw [hlen]
    exact ⟨.ref s.heap.objs.size, _, I.laid (t' := s.toks) (o := .frz (newT _) (.tup (cutV xs lo hi))) (fun b ob q => Heap.get?_push_of_some _ q) (Nat.le_refl _) (frz_ok (Heap.get?_push_size _ rfl) (Nat.le_trans (cutV_length xs lo hi) hz) ((r.drop (HT.sIx xs.length 0 lo)).take (HT.sIx xs.length xs.length hi - HT.sIx xs.length 0 lo))), rfl, q2 hw _ _ (I.hok.fresh (Nat.le_refl _)) rfl⟩
theorem call_tupleF : CallR X (.type "tuple") (fun xs H Q => ∃ p ys, xs = [.ref p] ∧ ((SqL X.K H p ys ∧ ∀ l o, H l = none → o.dict = none → Q (.ref l) (upd H l (.frz o (.tup ys)))) ∨ (SqT X.K H p ys ∧ Q (.ref p) H))) := by
  intro pins s σ H xs us Q I r h
  obtain ⟨p, ys, rfl, h⟩ := h
  obtain ⟨u, rfl, rx⟩ := vals1 r
  cases rx
  rcases h with ⟨hq, q⟩ | ⟨hq, q⟩
  · obtain ⟨its, r', pl, hz⟩ := I.list hq
    have hlen := r'.length
    refine call_tuple_list pl.isList (fun h' kp => ?_) (by simp only [List.size_toArray] <;> omega)
    have I1 : Inv X pins σ H { s with heap := h' } := I.kept (t' := s.toks) kp
    have I2 : Inv X pins σ (upd H h'.objs.size (.frz (newT its) (.tup ys))) { s with heap := h'.push { cls := .type "tuple", data := .seq its.toArray } } :=
      I1.laid (t' := s.toks) (fun b o e => Heap.get?_push_of_some _ e) (Nat.le_refl _) (frz_ok (Heap.get?_push_size _ rfl) hz r')
    exact ⟨.ref h'.objs.size, _, I2, rfl, q _ _ (I1.hok.fresh (Nat.le_refl _)) rfl⟩
  · obtain ⟨its, r', pl, hz⟩ := I.tuple hq
    exact call_tuple_same pl ⟨.ref p, H, I, rfl, q⟩
theorem tuple_mul0 (l : Addr) (items : Array Value) (n : Nat) (dd : Option Addr) (sl : Array (Option Value)) (u : Tok) (c1 : (items.isEmpty || (0 : Int) == 1) = false) :
    Meets (Builtin.«tuple.__mul__» ⟨[.ref l, .int 0 u], []⟩) (fun _ R s => s.heap.get? l = some { cls := .type "tuple", dict := dd, data := .seq items n, slots := sl } ∧ R (.ok (.ret (Value.ref s.heap.objs.size))) { s with heap := s.heap.push { cls := Value.type "tuple", data := Data.seq #[] }, toks := s.toks }) :=
  .of_wp fun prog w A R s h => by
    obtain ⟨hp, g, d, tk, os⟩ := s
    obtain ⟨hl, h⟩ := h
    have f1 := AutoSeq1.idx_int
    have c0 : (decide ((0 : Int) < -(2 ^ 63)) || decide ((0 : Int) ≥ 2 ^ 63)) = false := by decide
    have c2 : (decide ((0 : Int) ≤ 0) || items.isEmpty) = true := by rfl
    wp_walk using wpAny_loadPart' hl
    repeat (first
      | (refine wpAny_ite_false (decide_eq_false (by rw [c0]; exact Bool.false_ne_true)) ?_; wp_walk using wpAny_loadPart' hl)
      | (refine wpAny_ite_false (decide_eq_false (by rw [c1]; exact Bool.false_ne_true)) ?_; wp_walk using wpAny_loadPart' hl)
      | (refine wpAny_ite_true (decide_eq_true c2) ?_; wp_walk using wpAny_loadPart' hl))
    exact ⟨_, rfl, h⟩
def rRep0F (K : PySem.W.Frag) : R2 := fun x y H Q => ∃ l xs, x = .ref l ∧ y = .int 0 ∧ SqT K H l xs ∧ xs ≠ [] ∧ ∀ p o, H p = none → o.dict = none → Q (.ref p) (upd H p (.frz o (.tup [])))
theorem op_rep0F : OpR X (binaryOp .Mult) (rRep0F X.K) := by
  intro pins s σ H x y v u Q I rx ry h
  obtain ⟨l, xs, rfl, rfl, hT, hne, q⟩ := h
  cases rx
  obtain ⟨t, rfl⟩ := ry
  obtain ⟨its, r, ⟨⟨cls, dd, data, sl⟩, ho, hc, n, hd⟩, hs⟩ := I.tuple hT
  simp only at hc hd
  subst hc hd
  have hle : its.length = xs.length := r.length.symm
  have hn : its ≠ [] := fun e => hne (by
    rw [e] at hle
    exact List.eq_nil_of_length_eq_zero hle.symm)
  have c1 : (its.toArray.isEmpty || (0 : Int) == 1) = false := by
    cases its with
    | nil => exact absurd rfl hn
    | cons a b => rfl
  refine wpAny_binaryOp_repeat_ref (T := "tuple") (U := "int") (by decide) ⟨_, ho, rfl⟩ (fun s' => typeIs_int s' 0 t) noFill_tuple_mul F.fills_int_mul F.slot_int_rmul repeat_tuple F.slot_int_index.lookup
    (call_meets F.slot_int_rmul (typeIs_int s 0 t) F.entry_int_rmul (F.args_int_rmul_2 _ _) (int_rmul_tuple 0 t l its.toArray n dd sl)
      ⟨ho, rfl, ⟨_, ho, rfl⟩, call_meets F.slot_tuple_mul ⟨_, ho, rfl⟩ F.entry_tuple_mul (F.args_tuple_mul_2 _ _) (tuple_mul0 l its.toArray n dd sl t c1) ⟨ho, ?_⟩⟩)
  exact ⟨.ref s.heap.objs.size, _, I.laid (t' := s.toks) (o := .frz (newT []) (.tup [])) (fun b ob q => Heap.get?_push_of_some _ q) (Nat.le_refl _) (frz_ok (Heap.get?_push_size _ rfl) (Nat.zero_le _) .nil), rfl, q _ _ (I.hok.fresh (Nat.le_refl _)) rfl⟩
def rRepF (K : PySem.W.Frag) : R2 := fun x y H Q => ∃ l k xs, x = .ref l ∧ y = .int k ∧ SqT K H l xs ∧ xs ≠ [] ∧ 2 ≤ k ∧ k ≤ 1000 ∧ xs.length ≤ 1000 ∧ ∀ p o, H p = none → o.dict = none → Q (.ref p) (upd H p (.frz o (.tup (List.replicate k.toNat xs).flatten)))
theorem op_repF : OpR X (binaryOp .Mult) (rRepF X.K) := by
  intro pins s σ H x y v u Q I rx ry h
  obtain ⟨l, k, xs, rfl, rfl, hT, ne, k2, k3, len, q⟩ := h
  cases rx
  obtain ⟨t, rfl⟩ := ry
  obtain ⟨its, r, ⟨⟨cls, dd, data, sl⟩, ho, hc, n, hd⟩, hs⟩ := I.tuple hT
  simp only at hc hd
  subst hc hd
  have el : its.length = xs.length := r.length.symm
  have full : its.toArray.isEmpty = false := by
    cases its with
    | nil => exact absurd (List.eq_nil_of_length_eq_zero el.symm) ne
    | cons a b => rfl
  have sz : its.toArray.size = xs.length := by
    rw [List.size_toArray, el]
  have few : ((its.toArray.size : Nat) : Int) * k ≤ 1000000 := by
    rw [sz]
    exact Int.le_trans (Int.mul_le_mul_of_nonneg_right (show ((xs.length : Nat) : Int) ≤ 1000 by omega) (by omega)) (by omega)
  have hzz : k.toNat * xs.length ≤ 1000000 := Nat.le_trans (Nat.mul_le_mul (show k.toNat ≤ 1000 by omega) len) (by decide)
  have e0 : (decide (k < -(2 ^ 63)) || decide (k ≥ 2 ^ 63)) = false := Bool.or_eq_false_iff.mpr ⟨decide_eq_false (by omega), decide_eq_false (by omega)⟩
  have e1 : (its.toArray.isEmpty || k == 1) = false := Bool.or_eq_false_iff.mpr ⟨full, beq_eq_false_iff_ne.mpr (by omega)⟩
  have e2 : (decide (k ≤ 0) || its.toArray.isEmpty) = false := Bool.or_eq_false_iff.mpr ⟨decide_eq_false (by omega), full⟩
  have e3 : Builtin.Tuple.tupleTooMany (((its.toArray.size : Nat) : Int) * k) = false := decide_eq_false (by rw [sizeLine_eq]; omega)
  have e4 : (List.replicate k.toNat its).flatten.toArray.size ≤ sizeLine := by
    rw [List.size_toArray, PyProof.Rows.lm_len_rep_flat, el, sizeLine_eq]
    omega
  have mul := tuple_mulW l its.toArray n dd sl k t e0 e1 e2 (by omega) e3 (by rw [size_rep]; exact e4)
  refine wpAny_binaryOp_repeat_ref (T := "tuple") (U := "int") (by decide) ⟨_, ho, rfl⟩ (fun z => typeIs_int z k t) noFill_tuple_mul F.fills_int_mul F.slot_int_rmul repeat_tuple F.slot_int_index.lookup ?_
  refine call_meets F.slot_int_rmul (typeIs_int s k t) F.entry_int_rmul (F.args_int_rmul_2 _ _) (int_rmul_tuple k t l its.toArray n dd sl) ⟨ho, rfl, ⟨_, ho, rfl⟩, ?_⟩
  refine call_meets F.slot_tuple_mul ⟨_, ho, rfl⟩ F.entry_tuple_mul (F.args_tuple_mul_2 _ _) mul ⟨ho, ?_⟩
  rw [size_rep]
  have ok : (List.replicate k.toNat xs).flatten.length ≤ sizeLine := by
    rw [PyProof.Rows.lm_len_rep_flat, sizeLine_eq]
    omega
  exact ⟨.ref s.heap.objs.size, _, I.laid (t' := s.toks) (o := .frz (newT (List.replicate k.toNat its).flatten) (.tup (List.replicate k.toNat xs).flatten)) (fun b ob q => Heap.get?_push_of_some _ q) (Nat.le_refl _) (frz_ok (Heap.get?_push_size _ rfl) ok (r.rep k.toNat)), rfl, q _ _ (I.hok.fresh (Nat.le_refl _)) rfl⟩
end
end L2
namespace Cg
open PySem L2
/-- the four errors, and the one above them -/
inductive Ek where | kind | value | patch | unfit | base
  deriving DecidableEq
/-- what a run comes to: an answer, an error, nothing that is told, or a number below n that is drawn -/
inductive Tr (α : Type) where
  | ret (a : α)
  | exc (c : Ek)
  | bad
  | draw (n : Nat) (k : Nat → Tr α)
namespace Tr
variable {α β γ : Type}
def bind : Tr α → (α → Tr β) → Tr β
  | .ret a, f => f a
  | .exc c, _ => .exc c
  | .bad, _ => .bad
  | .draw n k, f => .draw n fun i => (k i).bind f
def wp (Q : α → Prop) (E : Ek → Prop) : Tr α → Prop
  | .ret a => Q a
  | .exc c => E c
  | .bad => False
  | .draw n k => ∀ i, i < n → (k i).wp Q E
theorem wp_bind {f : α → Tr β} {Q : β → Prop} {E : Ek → Prop} : ∀ {t : Tr α}, (t.bind f).wp Q E ↔ t.wp (fun a => (f a).wp Q E) E
  | .ret _ => Iff.rfl
  | .exc _ => Iff.rfl
  | .bad => Iff.rfl
  | .draw n k => by
    show (∀ i, i < n → ((k i).bind f).wp Q E) ↔ ∀ i, i < n → (k i).wp (fun a => (f a).wp Q E) E
    exact ⟨fun h i hi => wp_bind.mp (h i hi), fun h i hi => wp_bind.mpr (h i hi)⟩
theorem wp_mono {Q Q' : α → Prop} {E E' : Ek → Prop} (hq : ∀ a, Q a → Q' a) (he : ∀ c, E c → E' c) : ∀ {t : Tr α}, t.wp Q E → t.wp Q' E'
  | .ret a, h => hq a h
  | .exc c, h => he c h
  | .bad, h => h.elim
  | .draw n k, h => fun i hi => wp_mono hq he (h i hi)
@[simp] theorem ret_bind (a : α) (f : α → Tr β) : (Tr.ret a).bind f = f a := rfl
@[simp] theorem exc_bind (c : Ek) (f : α → Tr β) : (Tr.exc c : Tr α).bind f = .exc c := rfl
@[simp] theorem bad_bind (f : α → Tr β) : (Tr.bad : Tr α).bind f = .bad := rfl
@[simp] theorem draw_bind (n : Nat) (k : Nat → Tr α) (f : α → Tr β) : (Tr.draw n k).bind f = .draw n fun i => (k i).bind f := rfl
@[simp] theorem bind_ret : ∀ t : Tr α, t.bind Tr.ret = t
  | .ret _ => rfl
  | .exc _ => rfl
  | .bad => rfl
  | .draw n k => by
    show Tr.draw n (fun i => (k i).bind Tr.ret) = _
    congr
    funext i
    exact bind_ret (k i)
theorem bind_assoc (f : α → Tr β) (g : β → Tr γ) : ∀ t : Tr α, (t.bind f).bind g = t.bind fun a => (f a).bind g
  | .ret _ => rfl
  | .exc _ => rfl
  | .bad => rfl
  | .draw n k => by
    show Tr.draw n (fun i => ((k i).bind f).bind g) = Tr.draw n fun i => (k i).bind fun a => (f a).bind g
    congr
    funext i
    exact bind_assoc f g (k i)
end Tr
def Ex (H H' : Hp) : Prop := ∀ a o, H a = some o → H' a = some o
theorem Ex.refl (H : Hp) : Ex H H := fun _ _ h => h
theorem Ex.trans {H H1 H2 : Hp} (a : Ex H H1) (b : Ex H1 H2) : Ex H H2 := fun x o h => b x o (a x o h)
theorem Ex.new {H : Hp} {p : Addr} {o : HO} (h : H p = none) : Ex H (upd H p o) := fun a u e => by
  rw [upd_ne (ne_of_none e h)]
  exact e
theorem Ex.rd {H H' : Hp} {a : Addr} {u : HO} (e : Ex H H') (h : Rd H a u) : Rd H' a u := by
  rcases h with h | ⟨o, h⟩
  · exact Or.inl (e a _ h)
  · exact Or.inr ⟨o, e a _ h⟩
theorem Ex.l {K : PySem.W.Frag} {H H' : Hp} {a : Addr} {xs : List V} (e : Ex H H') (h : SqL K H a xs) : SqL K H' a xs := by
  rcases h with h | h
  · exact Or.inl (e.rd h)
  · exact Or.inr h
theorem Ex.t {K : PySem.W.Frag} {H H' : Hp} {a : Addr} {xs : List V} (e : Ex H H') (h : SqT K H a xs) : SqT K H' a xs := by
  rcases h with h | h
  · exact Or.inl (e.rd h)
  · exact Or.inr h
theorem Ex.back {H H' : Hp} {p : Addr} (e : Ex H H') (h : H' p = none) : H p = none := by
  cases h1 : H p with
  | none => rfl
  | some o =>
    rw [e p o h1] at h
    cases h
/-- a tuple without a dict of its own -/
def PlT (K : PySem.W.Frag) (G : Hp) (a : Addr) : Prop := (∃ o u, G a = some (.frz o u) ∧ o.dict = none) ∨ ∃ o, K.lookup a = some o ∧ o.dict = none
theorem Ex.p {K : PySem.W.Frag} {H H' : Hp} {a : Addr} (e : Ex H H') (h : PlT K H a) : PlT K H' a := by
  rcases h with ⟨o, u, h, d⟩ | h
  · exact .inl ⟨o, u, e a _ h, d⟩
  · exact .inr h
mutual
inductive Rp (K : PySem.W.Frag) (G : Hp) : V → PyData → Prop
  | non : Rp K G .non .none
  | bl (b : Bool) : Rp K G (.bl b) (.bool b)
  | int (i : Int) : Rp K G (.int i) (.int i)
  | str (x : Str) : Rp K G (.str x) (.str x)
  | lst {a : Addr} {xs : List V} {ds : List PyData} : SqL K G a xs → ds.length ≤ sizeLine → RpAll K G xs ds → Rp K G (.ref a) (.list ds)
  | tup {a : Addr} {xs : List V} {ds : List PyData} : SqT K G a xs → ds.length ≤ sizeLine → RpAll K G xs ds → PlT K G a → Rp K G (.ref a) (.tuple ds)
inductive RpAll (K : PySem.W.Frag) (G : Hp) : List V → List PyData → Prop
  | nil : RpAll K G [] []
  | cons {v : V} {vs : List V} {d : PyData} {ds : List PyData} : Rp K G v d → RpAll K G vs ds → RpAll K G (v :: vs) (d :: ds)
end
section
variable {K : PySem.W.Frag} {G G' : Hp}
mutual
theorem Rp.mono (e : Ex G G') : ∀ {v : V} {d : PyData}, Rp K G v d → Rp K G' v d
  | _, _, .non => .non
  | _, _, .bl b => .bl b
  | _, _, .int i => .int i
  | _, _, .str x => .str x
  | _, _, .lst h l a => .lst (e.l h) l (RpAll.mono e a)
  | _, _, .tup h l a p => .tup (e.t h) l (RpAll.mono e a) (e.p p)
theorem RpAll.mono (e : Ex G G') : ∀ {vs : List V} {ds : List PyData}, RpAll K G vs ds → RpAll K G' vs ds
  | _, _, .nil => .nil
  | _, _, .cons h t => .cons (Rp.mono e h) (RpAll.mono e t)
end
mutual
theorem Rp.dp : ∀ {v : V} {d : PyData}, Rp K G v d → Dp K G v d
  | _, _, .non => .non
  | _, _, .bl b => .bl b
  | _, _, .int i => .int i
  | _, _, .str x => .str x
  | _, _, .lst h l a => .lst h (RpAll.dp a)
  | _, _, .tup h l a _ => .tup h (RpAll.dp a)
theorem RpAll.dp : ∀ {vs : List V} {ds : List PyData}, RpAll K G vs ds → DpAll K G vs ds
  | _, _, .nil => .nil
  | _, _, .cons h t => .cons (Rp.dp h) (RpAll.dp t)
end
mutual
theorem Rp.plain : ∀ {v : V} {d : PyData}, Rp K G v d → d.plain = true
  | _, _, .non => rfl
  | _, _, .bl b => rfl
  | _, _, .int i => rfl
  | _, _, .str x => rfl
  | _, .list ds, .lst h l a => by
    show PyData.plainAll ds = true
    exact RpAll.plain a
  | _, .tuple ds, .tup h l a _ => by
    show PyData.plainAll ds = true
    exact RpAll.plain a
theorem RpAll.plain : ∀ {vs : List V} {ds : List PyData}, RpAll K G vs ds → PyData.plainAll ds = true
  | _, _, .nil => rfl
  | _, d :: ds, .cons h t => by
    show (PyData.plain d && PyData.plainAll ds) = true
    rw [Rp.plain h, RpAll.plain t]
    rfl
end
theorem RpAll.len : ∀ {vs : List V} {ds : List PyData}, RpAll K G vs ds → vs.length = ds.length
  | _, _, .nil => rfl
  | _, _, .cons h t => congrArg (· + 1) (RpAll.len t)
theorem RpAll.get : ∀ {vs : List V} {ds : List PyData} {i : Nat} {d : PyData}, RpAll K G vs ds → ds[i]? = some d → ∃ v, vs[i]? = some v ∧ Rp K G v d
  | _, _, _, _, .nil, e => by simp at e
  | _, _, 0, _, .cons h _, e => by
    simp at e
    subst e
    exact ⟨_, rfl, h⟩
  | _, _, i + 1, d, .cons _ t, e => by
    obtain ⟨v, h1, h2⟩ := RpAll.get (i := i) (d := d) t (by simpa using e)
    exact ⟨v, by simpa using h1, h2⟩
theorem RpAll.getV : ∀ {vs : List V} {ds : List PyData} {i : Nat} {v : V}, RpAll K G vs ds → vs[i]? = some v → ∃ d, ds[i]? = some d ∧ Rp K G v d
  | _, _, _, _, .nil, e => by simp at e
  | _, _, 0, _, .cons h _, e => by
    simp at e
    subst e
    exact ⟨_, rfl, h⟩
  | _, _, i + 1, v, .cons _ t, e => by
    obtain ⟨d, h1, h2⟩ := RpAll.getV (i := i) (v := v) t (by simpa using e)
    exact ⟨d, by simpa using h1, h2⟩
theorem RpAll.append : ∀ {vs : List V} {ds : List PyData} {ws : List V} {es : List PyData}, RpAll K G vs ds → RpAll K G ws es → RpAll K G (vs ++ ws) (ds ++ es)
  | _, _, _, _, .nil, s => s
  | _, _, _, _, .cons h t, s => .cons h (RpAll.append t s)
theorem RpAll.take : ∀ {vs : List V} {ds : List PyData} (n : Nat), RpAll K G vs ds → RpAll K G (vs.take n) (ds.take n)
  | _, _, 0, _ => .nil
  | _, _, _ + 1, .nil => .nil
  | _, _, n + 1, .cons h t => .cons h (RpAll.take n t)
theorem RpAll.drop : ∀ {vs : List V} {ds : List PyData} (n : Nat), RpAll K G vs ds → RpAll K G (vs.drop n) (ds.drop n)
  | _, _, 0, r => r
  | _, _, _ + 1, .nil => .nil
  | _, _, n + 1, .cons _ t => RpAll.drop n t
theorem RpAll.ints : ∀ {vs : List V} {ns : List Int}, RpAll K G vs (ns.map PyData.int) → vs = ns.map V.int
  | _, [], .nil => rfl
  | _, n :: ns, .cons h t => by
    cases h
    rw [RpAll.ints t]
    rfl
theorem RpAll.ofInts : ∀ (ns : List Int), RpAll K G (ns.map V.int) (ns.map PyData.int)
  | [] => .nil
  | n :: ns => .cons (.int n) (RpAll.ofInts ns)
theorem RpAll.rep : ∀ {vs : List V} {ds : List PyData} (n : Nat), RpAll K G vs ds → RpAll K G (List.replicate n vs).flatten (List.replicate n ds).flatten
  | _, _, 0, _ => .nil
  | vs, ds, n + 1, h => by
    rw [List.replicate_succ, List.replicate_succ, List.flatten_cons, List.flatten_cons]
    exact RpAll.append h (RpAll.rep n h)
end
/-- what a slot holds: data; a list of the def's own; the box; a value as it is; anything -/
inductive Sl where
  | dat (d : PyData)
  | acc (ds : List PyData)
  | box
  | val (v : V)
  | obj (R : Hp → Addr → HO → Prop)
  | fz (R : Hp → Addr → HO → Prop)
  | any
/-- the box that is drawn from: a cell, a count, a place, the script -/
def BoxOk (K : PySem.W.Frag) (G H : Hp) (b : Addr) : Prop :=
  G b = none ∧ ∃ (cell k at' : Int) (c : Addr) (ns : List Int), H b = some (.lst [.int cell, .int k, .int at', .ref c]) ∧ SqL K G c (ns.map V.int) ∧ 0 ≤ at'
def owning : Sl → Bool
  | .acc _ => true
  | .box => true
  | .obj _ => true
  | _ => false
def SlOk (K : PySem.W.Frag) (G H : Hp) : Sl → Option V → Prop
  | .dat d, o => ∃ v, o = some v ∧ Rp K G v d
  | .acc ds, o => ∃ a xs, o = some (.ref a) ∧ H a = some (.lst xs) ∧ ds.length ≤ sizeLine ∧ RpAll K G xs ds ∧ G a = none
  | .box, o => ∃ a, o = some (.ref a) ∧ BoxOk K G H a
  | .val v, o => o = some v
  | .obj R, o => ∃ a ob, o = some (.ref a) ∧ H a = some ob ∧ (∀ G', Ex G G' → R G' a ob) ∧ G a = none
  | .fz R, o => ∃ a ob, o = some (.ref a) ∧ G a = some ob ∧ ∀ G', Ex G G' → R G' a ob
  | .any, _ => True
structure Sta (K : PySem.W.Frag) (G H : Hp) (ρ : List Sl) (σ : L2.St) : Prop where
  len : ρ.length = σ.length
  sub : Ex G H
  ok : ∀ (i : Nat) (s : Sl) (o : Option V), ρ[i]? = some s → σ[i]? = some o → SlOk K G H s o
  dis : ∀ (i j : Nat) (si sj : Sl) (a : Addr), ρ[i]? = some si → ρ[j]? = some sj → owning si = true → owning sj = true → σ[i]? = some (some (.ref a)) → σ[j]? = some (some (.ref a)) → i = j
def Owns (ρ : List Sl) (σ : L2.St) (a : Addr) : Prop := ∃ (i : Nat) (s : Sl), ρ[i]? = some s ∧ owning s = true ∧ σ[i]? = some (some (V.ref a))
/-- how the heap grows while O is ours -/
structure Gr (O : Addr → Prop) (G H G' H' : Hp) : Prop where
  ex : Ex G G'
  new : ∀ a, ¬ O a → H a ≠ none → G a = none → G' a = none
  fr : ∀ a o, ¬ O a → H a = some o → H' a = some o
  keep : ∀ a, H a ≠ none → H' a ≠ none
section
variable {K : PySem.W.Frag} {O O' : Addr → Prop} {G H G1 H1 G2 H2 : Hp}
theorem Gr.refl : Gr O G H G H := ⟨Ex.refl G, fun _ _ _ h => h, fun _ _ _ h => h, fun _ h => h⟩
/-- what is ours later was ours or is new -/
theorem Gr.trans (a : Gr O G H G1 H1) (b : Gr O' G1 H1 G2 H2) (s : ∀ x, O' x → O x ∨ H x = none) : Gr O G H G2 H2 := by
  have no : ∀ x, ¬ O x → H x ≠ none → ¬ O' x := fun x hx hn ho => by
    rcases s x ho with z | z
    · exact hx z
    · exact hn z
  refine ⟨a.ex.trans b.ex, fun x hx hn hg => ?_, fun x o hx ho => ?_, fun x hn => b.keep x (a.keep x hn)⟩
  · exact b.new x (no x hx hn) (a.keep x hn) (a.new x hx hn hg)
  · exact b.fr x o (no x hx (by rw [ho]; exact fun z => nomatch z)) (a.fr x o hx ho)
theorem Gr.trans' (a : Gr O G H G1 H1) (b : Gr O G1 H1 G2 H2) : Gr O G H G2 H2 := a.trans b fun _ h => .inl h
theorem Gr.less (a : Gr O G H G1 H1) (s : ∀ x, O x → O' x) : Gr O' G H G1 H1 :=
  ⟨a.ex, fun x hx => a.new x fun z => hx (s x z), fun x o hx => a.fr x o fun z => hx (s x z), a.keep⟩
/-- a new thing that never changes -/
theorem Gr.lay {p : Addr} {o : HO} (h : H p = none) (e : Ex G H) : Gr O G H (upd G p o) (upd H p o) := by
  refine ⟨Ex.new (e.back h), fun a _ hn hg => ?_, fun a u _ ha => ?_, fun a hn => ?_⟩
  · rw [upd_ne (fun z => hn (by rw [z]; exact h))]
    exact hg
  · rw [upd_ne (ne_of_none ha h)]
    exact ha
  · rw [upd_ne (fun z => hn (by rw [z]; exact h))]
    exact hn
theorem BoxOk.grow {b : Addr} (h : BoxOk K G H b) (e : Ex G G1) (n : G1 b = none) (k : ∀ o, H b = some o → H1 b = some o) : BoxOk K G1 H1 b := by
  obtain ⟨_, cell, q, at', c, ns, h1, h2, r⟩ := h
  exact ⟨n, cell, q, at', c, ns, k _ h1, e.l h2, r⟩
theorem BoxOk.there {b : Addr} (h : BoxOk K G H b) : H b ≠ none := by
  obtain ⟨_, cell, q, at', c, ns, h1, r⟩ := h
  rw [h1]
  exact fun z => nomatch z
/-- a slot's word stays while the heap grows by things that are not ours -/
theorem SlOk.grow {s : Sl} {o : Option V} (h : SlOk K G H s o) (e : Ex G G1) (n : ∀ a, owning s = true → o = some (.ref a) → G a = none → H a ≠ none → G1 a = none) (k : ∀ a u, owning s = true → o = some (.ref a) → H a = some u → H1 a = some u) : SlOk K G1 H1 s o := by
  cases s with
  | dat d =>
    obtain ⟨v, ev, r⟩ := h
    exact ⟨v, ev, r.mono e⟩
  | acc ds =>
    obtain ⟨a, xs, ev, ha, hl, r, hg⟩ := h
    exact ⟨a, xs, ev, k a _ rfl ev ha, hl, r.mono e, n a rfl ev hg (by rw [ha]; exact fun z => nomatch z)⟩
  | box =>
    obtain ⟨a, ev, b⟩ := h
    exact ⟨a, ev, b.grow e (n a rfl ev b.1 b.there) fun u q => k a u rfl ev q⟩
  | val v => exact h
  | obj R =>
    obtain ⟨a, ob, ev, ha, hR, hg⟩ := h
    exact ⟨a, ob, ev, k a _ rfl ev ha, fun G2 e2 => hR G2 (e.trans e2), n a rfl ev hg (by rw [ha]; exact fun z => nomatch z)⟩
  | fz R =>
    obtain ⟨a, ob, ev, ha, hR⟩ := h
    exact ⟨a, ob, ev, e a ob ha, fun G2 e2 => hR G2 (e.trans e2)⟩
  | any => trivial
variable {ρ : List Sl} {σ : L2.St}
theorem Sta.own (S : Sta K G H ρ σ) {a : Addr} (h : Owns ρ σ a) : G a = none ∧ H a ≠ none := by
  obtain ⟨i, s, h1, h2, h3⟩ := h
  have q := S.ok i s _ h1 h3
  cases s with
  | acc ds =>
    obtain ⟨b, xs, ev, hb, _, _, hg⟩ := q
    cases ev
    exact ⟨hg, by rw [hb]; exact fun z => nomatch z⟩
  | box =>
    obtain ⟨b, ev, hb⟩ := q
    cases ev
    exact ⟨hb.1, hb.there⟩
  | obj R =>
    obtain ⟨b, ob, ev, hb, _, hg⟩ := q
    cases ev
    exact ⟨hg, by rw [hb]; exact fun z => nomatch z⟩
  | dat _ => cases h2
  | val _ => cases h2
  | fz _ => cases h2
  | any => cases h2
/-- nothing of ours is touched -/
theorem Sta.grow (S : Sta K G H ρ σ) (g : Gr (fun _ => False) G H G1 H1) (e : Ex G1 H1) : Sta K G1 H1 ρ σ :=
  ⟨S.len, e, fun i s o h1 h2 => (S.ok i s o h1 h2).grow g.ex (fun a _ _ hg hn => g.new a id hn hg) fun a u _ _ h => g.fr a u id h, S.dis⟩
theorem Ex.lay {p : Addr} {o : HO} (e : Ex G H) (h : H p = none) : Ex (upd G p o) (upd H p o) := fun a u q => by
  by_cases z : a = p
  · rw [z, upd_same] at q
    rw [z, upd_same]
    exact q
  · rw [upd_ne z] at q
    rw [upd_ne z]
    exact e a u q
theorem Sta.lay (S : Sta K G H ρ σ) {p : Addr} {o : HO} (h : H p = none) : Sta K (upd G p o) (upd H p o) ρ σ := S.grow (Gr.lay h S.sub) (S.sub.lay h)
end
variable {W α β : Type}
/-- what is wanted of an answer -/
def Po (K : PySem.W.Frag) (ρ : List Sl) (σ : L2.St) (Rel : Hp → W → α → Prop) (G H : Hp) (Q : W → Hp → Prop) (d : α) : Prop :=
  ∀ v G' H', Gr (Owns ρ σ) G H G' H' → Sta K G' H' ρ σ → Rel G' v d → Q v H'
/-- what is wanted of an error -/
def Xo (cl : Ek → Addr) (E : Option XK) (O : Addr → Prop) (H : Hp) (c : Ek) : Prop := match E with
  | none => False
  | some E => ∀ H', (∀ a o, ¬ O a → H a = some o → H' a = some o) → ∀ t, H' t = some (.tup []) → E (.ref (cl c)) (some t) H'
def EvG (K : PySem.W.Frag) (cl : Ek → Addr) (E : L2.St → Option XK) (Rel : Hp → W → α → Prop) (te : L2.St → Hp → (W → Hp → Prop) → Prop) (ρ : List Sl) (t : Tr α) : Prop :=
  ∀ G H σ, Sta K G H ρ σ → ∀ Q, t.wp (Po K ρ σ Rel G H Q) (Xo cl (E σ) (Owns ρ σ) H) → te σ H Q
abbrev Ev (K : PySem.W.Frag) (cl : Ek → Addr) (E : L2.St → Option XK) (te : TE) (ρ : List Sl) (t : Tr PyData) : Prop := EvG K cl E (Rp K) te ρ t
abbrev EvT (K : PySem.W.Frag) (cl : Ek → Addr) (E : L2.St → Option XK) (te : TT) (ρ : List Sl) (t : Tr Bool) : Prop := EvG K cl E (fun _ v d => v = d) te ρ t
section
variable {W' : Type} {K : PySem.W.Frag} {cl : Ek → Addr} {E : L2.St → Option XK} {ρ : List Sl} {σ : L2.St} {G H G1 H1 : Hp} {Rel : Hp → W → α → Prop} {Rel' : Hp → W' → β → Prop}
theorem Po.up (g : Gr (Owns ρ σ) G H G1 H1) {Q : W → Hp → Prop} {d : α} (h : Po K ρ σ Rel G H Q d) : Po K ρ σ Rel G1 H1 Q d := fun v G' H' g' => h v G' H' (g.trans' g')
theorem Xo.up {O : Addr → Prop} {E : Option XK} (g : Gr O G H G1 H1) {c : Ek} (h : Xo cl E O H c) : Xo cl E O H1 c := by
  cases E with
  | none => exact h
  | some E => exact fun H' k => h H' fun a o hn ha => k a o hn (g.fr a o hn ha)
theorem up (g : Gr (Owns ρ σ) G H G1 H1) {Q : W → Hp → Prop} {t : Tr α} (h : t.wp (Po K ρ σ Rel G H Q) (Xo cl (E σ) (Owns ρ σ) H)) : t.wp (Po K ρ σ Rel G1 H1 Q) (Xo cl (E σ) (Owns ρ σ) H1) :=
  Tr.wp_mono (fun _ => Po.up g) (fun _ => Xo.up g) h
/-- one after another -/
theorem EvG.seq {te : L2.St → Hp → (W → Hp → Prop) → Prop} {t : Tr α} {f : α → Tr β} (h : EvG K cl E Rel te ρ t) (S : Sta K G H ρ σ) {Q : W' → Hp → Prop} {R : W → Hp → Prop}
    (hw : (t.bind f).wp (Po K ρ σ Rel' G H Q) (Xo cl (E σ) (Owns ρ σ) H))
    (k : ∀ d v G1 H1, Gr (Owns ρ σ) G H G1 H1 → Sta K G1 H1 ρ σ → Rel G1 v d → (f d).wp (Po K ρ σ Rel' G1 H1 Q) (Xo cl (E σ) (Owns ρ σ) H1) → R v H1) : te σ H R :=
  h G H σ S R (Tr.wp_mono (fun d hd v G' H' g S' r => k d v G' H' g S' r (up g hd)) (fun _ x => x) (Tr.wp_bind.mp hw))
theorem Po.now {Q : W → Hp → Prop} {d : α} {v : W} (h : Po K ρ σ Rel G H Q d) (S : Sta K G H ρ σ) (r : Rel G v d) : Q v H := h v G H Gr.refl S r
theorem Po.lay {Q : V → Hp → Prop} {d : PyData} {p : Addr} {o : HO} (h : Po K ρ σ (Rp K) G H Q d) (S : Sta K G H ρ σ) (hp : H p = none) (r : Rp K (upd G p o) (.ref p) d) : Q (.ref p) (upd H p o) :=
  h (.ref p) _ _ (Gr.lay hp S.sub) (S.lay hp) r
end
end Cg
namespace Cg
open PySem L2
def asB : PyData → Tr Bool
  | .bool b => .ret b
  | _ => .bad
def asI : PyData → Tr Int
  | .int i => .ret i
  | _ => .bad
@[simp] theorem asB_bool (b : Bool) : asB (.bool b) = .ret b := rfl
@[simp] theorem asI_int (i : Int) : asI (.int i) = .ret i := rfl
/-- tests by words of the language -/
def isTup : PyData → Bool
  | .tuple _ => true
  | _ => false
def isInt : PyData → Bool
  | .int _ => true
  | .bool _ => true
  | _ => false
def isBool : PyData → Bool
  | .bool _ => true
  | _ => false
def isStr : PyData → Bool
  | .str _ => true
  | _ => false
def isNon : PyData → Bool
  | .none => true
  | _ => false
def cEq (a b : PyData) : Tr Bool := if min a.depth b.depth ≤ 64 then .ret (PyData.eqv a b) else .bad
def cNe (a b : PyData) : Tr Bool := if min a.depth b.depth ≤ 64 then .ret (!PyData.eqv a b) else .bad
def memD (a : PyData) (xs : List PyData) : Bool := xs.any fun y => PyData.eqv y a
def cIn (a b : PyData) : Tr Bool := match b with
  | .tuple xs => if min (PyData.depthAll xs) a.depth ≤ 64 then .ret (memD a xs) else .bad
  | .list xs => if min (PyData.depthAll xs) a.depth ≤ 64 then .ret (memD a xs) else .bad
  | _ => .bad
def cNotIn (a b : PyData) : Tr Bool := (cIn a b).bind fun k => .ret (!k)
def cLt : PyData → PyData → Tr Bool
  | .int i, .int j => .ret (decide (i < j))
  | _, _ => .bad
def cLe : PyData → PyData → Tr Bool
  | .int i, .int j => .ret (decide (i ≤ j))
  | _, _ => .bad
def cGt : PyData → PyData → Tr Bool
  | .int i, .int j => .ret (decide (j < i))
  | _, _ => .bad
def cGe : PyData → PyData → Tr Bool
  | .int i, .int j => .ret (decide (j ≤ i))
  | _, _ => .bad
def dAdd : PyData → PyData → Tr PyData
  | .int i, .int j => .ret (.int (i + j))
  | .tuple xs, .tuple ys => if xs.length + ys.length ≤ 1000000 then .ret (.tuple (xs ++ ys)) else .bad
  | .list xs, .list ys => if xs.length + ys.length ≤ 1000000 then .ret (.list (xs ++ ys)) else .bad
  | _, _ => .bad
def dSub : PyData → PyData → Tr PyData
  | .int i, .int j => .ret (.int (i - j))
  | _, _ => .bad
def dMul : PyData → PyData → Tr PyData
  | .int i, .int j => if (-(2 ^ 64) < i ∧ i < 2 ^ 64) ∨ (-(2 ^ 64) < j ∧ j < 2 ^ 64) then .ret (.int (i * j)) else .bad
  | .tuple xs, .int k => if 0 < xs.length ∧ xs.length ≤ 1000 ∧ 0 ≤ k ∧ k ≤ 1000 then .ret (.tuple (List.replicate k.toNat xs).flatten) else .bad
  | .list xs, .int k => if xs.length ≤ 100 ∧ -10000 ≤ k ∧ k ≤ 10000 then .ret (.list (List.replicate k.toNat xs).flatten) else .bad
  | _, _ => .bad
def dIx : PyData → PyData → Tr PyData
  | .tuple xs, .int i => match atI xs i with
    | some d => .ret d
    | none => .bad
  | .list xs, .int i => match atI xs i with
    | some d => .ret d
    | none => .bad
  | _, _ => .bad
def dLen : PyData → Tr PyData
  | .tuple xs => .ret (.int xs.length)
  | .list xs => .ret (.int xs.length)
  | _ => .bad
def cutD (xs : List PyData) (lo hi : Option Int) : List PyData := (xs.drop (HT.sIx xs.length 0 lo)).take (HT.sIx xs.length xs.length hi - HT.sIx xs.length 0 lo)
def dSl (a : PyData) (lo hi : Option Int) : Tr PyData := match a with
  | .tuple xs => .ret (.tuple (cutD xs lo hi))
  | .list xs => .ret (.list (cutD xs lo hi))
  | _ => .bad
def items : PyData → Tr (List PyData)
  | .tuple xs => .ret xs
  | .list xs => .ret xs
  | _ => .bad
def dTuple : PyData → Tr PyData
  | .tuple xs => .ret (.tuple xs)
  | .list xs => .ret (.tuple xs)
  | _ => .bad
def dList : PyData → Tr PyData
  | .tuple xs => .ret (.list xs)
  | .list xs => .ret (.list xs)
  | _ => .bad
def asInts : List PyData → Option (List Int)
  | [] => some []
  | .int i :: r => (asInts r).map (i :: ·)
  | _ => none
def dSum : PyData → Tr PyData
  | .list xs => match asInts xs with
    | some ns => .ret (.int ns.sum)
    | none => .bad
  | _ => .bad
def dAbs : PyData → Tr PyData
  | .int i => .ret (.int (if i < 0 then -i else i))
  | _ => .bad
section
variable {K : PySem.W.Frag} {cl : Ek → Addr} {E : L2.St → Option XK} {ρ : List Sl}
theorem Sta.var {G H : Hp} {σ : L2.St} (S : Sta K G H ρ σ) {i : Nat} {s : Sl} (h : ρ[i]? = some s) : ∃ o, σ[i]? = some o ∧ SlOk K G H s o := by
  have hi : i < σ.length := by
    rw [← S.len]
    exact (List.getElem?_eq_some_iff.mp h).1
  exact ⟨σ[i], List.getElem?_eq_getElem hi, S.ok i s _ h (List.getElem?_eq_getElem hi)⟩
theorem ev_var {i : Nat} {d : PyData} (h : ρ[i]? = some (.dat d)) : Ev K cl E (tVar i) ρ (.ret d) := fun G H σ S Q q => by
  obtain ⟨o, h1, v, e, r⟩ := S.var h
  rw [e] at h1
  exact ⟨v, h1, Po.now q S r⟩
theorem ev_int {i : Int} : Ev K cl E (tC (.int i)) ρ (.ret (.int i)) := fun G H σ S Q q => Po.now q S (.int i)
theorem ev_bl {b : Bool} : Ev K cl E (tC (.bl b)) ρ (.ret (.bool b)) := fun G H σ S Q q => Po.now q S (.bl b)
theorem ev_str {x : Str} : Ev K cl E (tC (.str x)) ρ (.ret (.str x)) := fun G H σ S Q q => Po.now q S (.str x)
theorem ev_non : Ev K cl E (tC .non) ρ (.ret .none) := fun G H σ S Q q => Po.now q S .non
def RR (K : PySem.W.Frag) (r : R2) (f : PyData → PyData → Tr PyData) : Prop :=
  ∀ (cl : Ek → Addr) (E : L2.St → Option XK) (ρ : List Sl) (σ : L2.St) (G H : Hp) (x y : V) (a b : PyData), Sta K G H ρ σ → Rp K G x a → Rp K G y b → ∀ Q : VK, (f a b).wp (Po K ρ σ (Rp K) G H Q) (Xo cl (E σ) (Owns ρ σ) H) → r x y H Q
def RC (K : PySem.W.Frag) (r : R2) (c : PyData → PyData → Tr Bool) : Prop :=
  ∀ (G H : Hp) (x y : V) (a b : PyData) (E : Ek → Prop), Ex G H → Rp K G x a → Rp K G y b → ∀ Q : VK, (c a b).wp (fun k => Q (.bl k) H) E → r x y H Q
theorem ev_op {r : R2} {f : PyData → PyData → Tr PyData} {ta tb : TE} {fa fb : Tr PyData} (hr : RR K r f) (ha : Ev K cl E ta ρ fa) (hb : Ev K cl E tb ρ fb) : Ev K cl E (tOp r ta tb) ρ (fa.bind fun a => fb.bind fun b => f a b) :=
  fun G H σ S Q h => ha.seq S h fun a x G1 H1 g1 S1 rx h1 => hb.seq S1 h1 fun b y G2 H2 g2 S2 ry h2 => hr cl E ρ σ G2 H2 x y a b S2 (rx.mono g2.ex) ry Q h2
theorem ev_cmp {r : R2} {c : PyData → PyData → Tr Bool} {ta tb : TE} {fa fb : Tr PyData} (hr : RC K r c) (ha : Ev K cl E ta ρ fa) (hb : Ev K cl E tb ρ fb) : Ev K cl E (tOp r ta tb) ρ (fa.bind fun a => fb.bind fun b => (c a b).bind fun k => .ret (.bool k)) :=
  fun G H σ S Q h => ha.seq S h fun a x G1 H1 g1 S1 rx h1 => hb.seq S1 h1 fun b y G2 H2 g2 S2 ry h2 => by
    refine hr G2 H2 x y a b _ S2.sub (rx.mono g2.ex) ry Q (Tr.wp_mono (fun k hk => ?_) (fun _ z => z) (Tr.wp_bind.mp h2))
    exact Po.now hk S2 (.bl k)
theorem et_cmp {r : R2} {c : PyData → PyData → Tr Bool} {ta tb : TE} {fa fb : Tr PyData} (hr : RC K r c) (ha : Ev K cl E ta ρ fa) (hb : Ev K cl E tb ρ fb) : EvT K cl E (tTest (tOp r ta tb)) ρ (fa.bind fun a => fb.bind fun b => c a b) :=
  fun G H σ S Q h => ha.seq S h fun a x G1 H1 g1 S1 rx h1 => hb.seq S1 h1 fun b y G2 H2 g2 S2 ry h2 => by
    refine hr G2 H2 x y a b _ S2.sub (rx.mono g2.ex) ry _ (Tr.wp_mono (fun k hk => ?_) (fun _ z => z) h2)
    exact ⟨k, rfl, Po.now hk S2 rfl⟩
/-- a chained comparison -/
theorem et_chain {r r' : R2} {c c' : PyData → PyData → Tr Bool} {ta tb tc : TE} {fa fb fc : Tr PyData} (hr : RC K r c) (hr' : RC K r' c') (ha : Ev K cl E ta ρ fa) (hb : Ev K cl E tb ρ fb) (hc : Ev K cl E tc ρ fc) :
    EvT K cl E (tTest (tChain r r' ta tb tc)) ρ (fa.bind fun a => fb.bind fun b => (c a b).bind fun k => if k then fc.bind fun z => c' b z else .ret false) :=
  fun G H σ S Q h => ha.seq S h fun a x G1 H1 g1 S1 rx h1 => hb.seq S1 h1 fun b y G2 H2 g2 S2 ry h2 => by
    refine hr G2 H2 x y a b _ S2.sub (rx.mono g2.ex) ry _ (Tr.wp_mono (fun k hk => ?_) (fun _ z => z) (Tr.wp_bind.mp h2))
    refine ⟨k, rfl, ?_⟩
    cases k with
    | true =>
      refine hc.seq (f := fun z => c' b z) (Rel' := fun _ (v : Bool) d => v = d) S2 hk fun z w G3 H3 g3 S3 rz h3 => ?_
      refine hr' G3 H3 y w b z _ S3.sub (ry.mono g3.ex) rz _ (Tr.wp_mono (fun k hk => ?_) (fun _ z => z) h3)
      exact ⟨k, rfl, Po.now hk S3 rfl⟩
    | false => exact ⟨false, rfl, Po.now hk S2 rfl⟩
theorem ev_chain {r r' : R2} {c c' : PyData → PyData → Tr Bool} {ta tb tc : TE} {fa fb fc : Tr PyData} (hr : RC K r c) (hr' : RC K r' c') (ha : Ev K cl E ta ρ fa) (hb : Ev K cl E tb ρ fb) (hc : Ev K cl E tc ρ fc) :
    Ev K cl E (tChain r r' ta tb tc) ρ (fa.bind fun a => fb.bind fun b => (c a b).bind fun k => if k then fc.bind fun z => (c' b z).bind fun k => .ret (.bool k) else .ret (.bool false)) :=
  fun G H σ S Q h => ha.seq S h fun a x G1 H1 g1 S1 rx h1 => hb.seq S1 h1 fun b y G2 H2 g2 S2 ry h2 => by
    refine hr G2 H2 x y a b _ S2.sub (rx.mono g2.ex) ry _ (Tr.wp_mono (fun k hk => ?_) (fun _ z => z) (Tr.wp_bind.mp h2))
    refine ⟨k, rfl, ?_⟩
    cases k with
    | true =>
      refine hc.seq (f := fun z => (c' b z).bind fun k => .ret (.bool k)) (Rel' := Rp K) S2 hk fun z w G3 H3 g3 S3 rz h3 => ?_
      refine hr' G3 H3 y w b z _ S3.sub (ry.mono g3.ex) rz _ (Tr.wp_mono (fun k hk => ?_) (fun _ z => z) (Tr.wp_bind.mp h3))
      exact Po.now hk S3 (.bl k)
    | false => exact Po.now hk S2 (.bl false)
theorem et_B {te : TE} {f : Tr PyData} (h : Ev K cl E te ρ f) : EvT K cl E (tB te) ρ (f.bind asB) := fun G H σ S Q q => h.seq S q fun a x G1 H1 g1 S1 rx h1 => by
  cases rx with
  | bl b => exact ⟨b, rfl, Po.now h1 S1 rfl⟩
  | _ => exact h1.elim
theorem et_yes : EvT K cl E tYes ρ (.ret true) := fun G H σ S Q q => Po.now q S rfl
theorem et_and {t u : TT} {f g : Tr Bool} (h1 : EvT K cl E t ρ f) (h2 : EvT K cl E u ρ g) : EvT K cl E (tAnd t u) ρ (f.bind fun a => if a then g else .ret false) := fun G H σ S Q q => h1.seq S q fun a x G1 H1 g1 S1 rx q1 => by
  cases rx
  cases a with
  | true => exact h2 G1 H1 σ S1 Q q1
  | false => exact Po.now q1 S1 rfl
theorem et_or {t u : TT} {f g : Tr Bool} (h1 : EvT K cl E t ρ f) (h2 : EvT K cl E u ρ g) : EvT K cl E (tOr t u) ρ (f.bind fun a => if a then .ret true else g) := fun G H σ S Q q => h1.seq S q fun a x G1 H1 g1 S1 rx q1 => by
  cases rx
  cases a with
  | true => exact Po.now q1 S1 rfl
  | false => exact h2 G1 H1 σ S1 Q q1
theorem et_not {t : TT} {f : Tr Bool} (h1 : EvT K cl E t ρ f) : EvT K cl E (tNot t) ρ (f.bind fun a => .ret (!a)) := fun G H σ S Q q => h1.seq S q fun a x G1 H1 g1 S1 rx q1 => by
  cases rx
  exact Po.now q1 S1 rfl
theorem ev_andV {ta tb : TE} {fa fb : Tr PyData} (h1 : Ev K cl E ta ρ fa) (h2 : Ev K cl E tb ρ fb) : Ev K cl E (tAndV ta tb) ρ (fa.bind fun a => (asB a).bind fun c => if c then fb else .ret (.bool false)) := fun G H σ S Q q => h1.seq S q fun a x G1 H1 g1 S1 rx q1 => by
  cases rx with
  | bl b =>
    refine ⟨b, rfl, ?_⟩
    cases b with
    | true => exact h2 G1 H1 σ S1 Q q1
    | false => exact Po.now q1 S1 (.bl false)
  | _ => exact q1.elim
theorem ev_orV {ta tb : TE} {fa fb : Tr PyData} (h1 : Ev K cl E ta ρ fa) (h2 : Ev K cl E tb ρ fb) : Ev K cl E (tOrV ta tb) ρ (fa.bind fun a => (asB a).bind fun c => if c then .ret (.bool true) else fb) := fun G H σ S Q q => h1.seq S q fun a x G1 H1 g1 S1 rx q1 => by
  cases rx with
  | bl b =>
    refine ⟨b, rfl, ?_⟩
    cases b with
    | true => exact Po.now q1 S1 (.bl true)
    | false => exact h2 G1 H1 σ S1 Q q1
  | _ => exact q1.elim
theorem ev_notV {ta : TE} {fa : Tr PyData} (h1 : Ev K cl E ta ρ fa) : Ev K cl E (tNotV ta) ρ (fa.bind fun a => (asB a).bind fun c => .ret (.bool (!c))) := fun G H σ S Q q => h1.seq S q fun a x G1 H1 g1 S1 rx q1 => by
  cases rx with
  | bl b => exact ⟨b, rfl, Po.now q1 S1 (.bl (!b))⟩
  | _ => exact q1.elim
theorem ev_if {t : TT} {ta tb : TE} {ft : Tr Bool} {fa fb : Tr PyData} (h : EvT K cl E t ρ ft) (h1 : Ev K cl E ta ρ fa) (h2 : Ev K cl E tb ρ fb) : Ev K cl E (tIf t ta tb) ρ (ft.bind fun b => if b then fa else fb) := fun G H σ S Q q => h.seq S q fun a x G1 H1 g1 S1 rx q1 => by
  cases rx
  cases a with
  | true => exact h1 G1 H1 σ S1 Q q1
  | false => exact h2 G1 H1 σ S1 Q q1
/-- arguments, ahead of anything that goes on with them -/
def EvA (K : PySem.W.Frag) (cl : Ek → Addr) (E : L2.St → Option XK) (te : TA) (ρ : List Sl) (n : Nat) (F : ∀ β : Type, (List PyData → Tr β) → Tr β) : Prop :=
  ∀ (G H : Hp) (σ : L2.St), Sta K G H ρ σ → ∀ {W β : Type} (Rel : Hp → W → β → Prop) (k : List PyData → Tr β) (Q : W → Hp → Prop) (R : List V → Hp → Prop), (F β k).wp (Po K ρ σ Rel G H Q) (Xo cl (E σ) (Owns ρ σ) H) →
    (∀ ds vs G1 H1, Gr (Owns ρ σ) G H G1 H1 → Sta K G1 H1 ρ σ → RpAll K G1 vs ds → ds.length = n → (k ds).wp (Po K ρ σ Rel G1 H1 Q) (Xo cl (E σ) (Owns ρ σ) H1) → R vs H1) → te σ H R
theorem ea_nil : EvA K cl E tNil ρ 0 fun _ k => k [] := fun G H σ S _ _ _ _ _ _ q h => h [] [] G H Gr.refl S .nil rfl q
theorem ea_cons {ta : TE} {tr : TA} {fa : Tr PyData} {n : Nat} {F : ∀ β : Type, (List PyData → Tr β) → Tr β} (h : Ev K cl E ta ρ fa) (hr : EvA K cl E tr ρ n F) : EvA K cl E (tCons ta tr) ρ (n + 1) fun β k => fa.bind fun a => F β fun r => k (a :: r) :=
  fun G H σ S _ _ Rel k Q R q c => h.seq S q fun a x G1 H1 g1 S1 rx q1 => hr G1 H1 σ S1 Rel (fun r => k (a :: r)) Q _ q1 fun ds vs G2 H2 g2 S2 rs hl q2 =>
    c (a :: ds) (x :: vs) G2 H2 (g1.trans' g2) S2 (.cons (rx.mono g2.ex) rs) (congrArg (· + 1) hl) q2
theorem ev_tup {ta : TA} {n : Nat} {F : ∀ β : Type, (List PyData → Tr β) → Tr β} (h : EvA K cl E ta ρ n F) (hn : n ≤ 1000 := by decide) : Ev K cl E (tTupF ta) ρ (F _ fun ds => .ret (.tuple ds)) :=
  fun G H σ S Q q => h G H σ S (Rp K) _ Q _ q fun ds vs G1 H1 g1 S1 rs hl q1 => by
    have hs : ds.length ≤ sizeLine := by rw [hl, sizeLine_eq]; omega
    exact ⟨by rw [rs.len]; exact hs, fun p o hp od => Po.lay q1 S1 hp (.tup (SqT.frz upd_same) hs (rs.mono (Ex.new (S1.sub.back hp))) (.inl ⟨o, _, upd_same, od⟩))⟩
theorem ev_lst {ta : TA} {n : Nat} {F : ∀ β : Type, (List PyData → Tr β) → Tr β} (h : EvA K cl E ta ρ n F) (hn : n ≤ 1000 := by decide) : Ev K cl E (tLst ta) ρ (F _ fun ds => .ret (.list ds)) :=
  fun G H σ S Q q => h G H σ S (Rp K) _ Q _ q fun ds vs G1 H1 g1 S1 rs hl q1 => by
    have hs : ds.length ≤ sizeLine := by rw [hl, sizeLine_eq]; omega
    exact ⟨by rw [rs.len]; exact hs, fun p hp => Po.lay q1 S1 hp (.lst (SqL.of upd_same) hs (rs.mono (Ex.new (S1.sub.back hp))))⟩
def RK (K : PySem.W.Frag) (r : List V → Hp → VK → Prop) (f : List PyData → Tr PyData) : Prop :=
  ∀ (cl : Ek → Addr) (E : L2.St → Option XK) (ρ : List Sl) (σ : L2.St) (G H : Hp) (vs : List V) (ds : List PyData), Sta K G H ρ σ → RpAll K G vs ds → ∀ Q : VK, (f ds).wp (Po K ρ σ (Rp K) G H Q) (Xo cl (E σ) (Owns ρ σ) H) → r vs H Q
theorem ev_cb {r : List V → Hp → VK → Prop} {f : List PyData → Tr PyData} {ta : TA} {n : Nat} {F : ∀ β : Type, (List PyData → Tr β) → Tr β} (hr : RK K r f) (h : EvA K cl E ta ρ n F) : Ev K cl E (tCB r ta) ρ (F _ f) :=
  fun G H σ S Q q => h G H σ S (Rp K) f Q _ q fun ds vs G1 H1 g1 S1 rs hl q1 => hr cl E ρ σ G1 H1 vs ds S1 rs Q q1
/-- of one argument -/
def on1 (f : PyData → Tr PyData) : List PyData → Tr PyData
  | [a] => f a
  | _ => .bad
def on2 (f : PyData → PyData → Tr PyData) : List PyData → Tr PyData
  | [a, b] => f a b
  | _ => .bad
def RK1 (K : PySem.W.Frag) (r : List V → Hp → VK → Prop) (f : PyData → Tr PyData) : Prop :=
  ∀ (cl : Ek → Addr) (E : L2.St → Option XK) (ρ : List Sl) (σ : L2.St) (G H : Hp) (x : V) (a : PyData), Sta K G H ρ σ → Rp K G x a → ∀ Q : VK, (f a).wp (Po K ρ σ (Rp K) G H Q) (Xo cl (E σ) (Owns ρ σ) H) → r [x] H Q
theorem ev_cb1 {r : List V → Hp → VK → Prop} {f : PyData → Tr PyData} {ta : TE} {fa : Tr PyData} (hr : RK1 K r f) (h : Ev K cl E ta ρ fa) : Ev K cl E (tCB r (tCons ta tNil)) ρ (fa.bind f) :=
  fun G H σ S Q q => h.seq S q fun a x G1 H1 g1 S1 rx q1 => hr cl E ρ σ G1 H1 x a S1 rx Q q1
theorem eo_none : EvG K cl E (fun _ (v : Option Int) d => v = d) tNoPart ρ (.ret none) := fun G H σ S Q q => Po.now q S rfl
theorem eo_some {te : TE} {f : Tr PyData} (h : Ev K cl E te ρ f) : EvG K cl E (fun _ (v : Option Int) d => v = d) (tPart te) ρ (f.bind fun a => (asI a).bind fun i => .ret (some i)) := fun G H σ S Q q => h.seq S q fun a x G1 H1 g1 S1 rx q1 => by
  cases rx with
  | int i => exact ⟨i, rfl, Po.now q1 S1 rfl⟩
  | _ => exact q1.elim
def RS (K : PySem.W.Frag) (r : V → Option Int → Option Int → Hp → VK → Prop) : Prop :=
  ∀ (cl : Ek → Addr) (E : L2.St → Option XK) (ρ : List Sl) (σ : L2.St) (G H : Hp) (x : V) (a : PyData) (lo hi : Option Int), Sta K G H ρ σ → Rp K G x a → ∀ Q : VK, (dSl a lo hi).wp (Po K ρ σ (Rp K) G H Q) (Xo cl (E σ) (Owns ρ σ) H) → r x lo hi H Q
theorem ev_sl {r : V → Option Int → Option Int → Hp → VK → Prop} {te : TE} {tl th : TO} {f : Tr PyData} {fl fh : Tr (Option Int)} (hr : RS K r) (h : Ev K cl E te ρ f) (h1 : EvG K cl E (fun _ (v : Option Int) d => v = d) tl ρ fl) (h2 : EvG K cl E (fun _ (v : Option Int) d => v = d) th ρ fh) :
    Ev K cl E (tSl r te tl th) ρ (f.bind fun a => fl.bind fun lo => fh.bind fun hi => dSl a lo hi) :=
  fun G H σ S Q q => h.seq S q fun a x G1 H1 g1 S1 rx q1 => h1.seq S1 q1 fun lo lo' G2 H2 g2 S2 e2 q2 => h2.seq S2 q2 fun hi hi' G3 H3 g3 S3 e3 q3 => by
    cases e2
    cases e3
    exact hr cl E ρ σ G3 H3 x a lo hi S3 (rx.mono (g2.ex.trans g3.ex)) Q q3
end
end Cg
namespace L2
open PySem PySem.Spec PyProof.Rows
section
variable {X : Cx}
def rEqP (K : PySem.W.Frag) : R2 := fun x y H Q => ∃ d e, Dp K H x d ∧ Dp K H y e ∧ d.plain = true ∧ e.plain = true ∧ min d.depth e.depth ≤ 64 ∧ Q (.bl (PyData.eqv d e)) H
def rNeP (K : PySem.W.Frag) : R2 := fun x y H Q => ∃ d e, Dp K H x d ∧ Dp K H y e ∧ d.plain = true ∧ e.plain = true ∧ min d.depth e.depth ≤ 64 ∧ Q (.bl (!PyData.eqv d e)) H
theorem op_eqP (hu : X.A.units + 64 < cLine) : OpR X (compareOp .Eq) (rEqP X.K) := by
  intro pins s σ H x y v u Q I rx ry h
  obtain ⟨d, e, hd, he, sd, se, hm, q⟩ := h
  obtain ⟨as, r1⟩ := Dp.reads I d x v hd rx
  obtain ⟨bs, r2⟩ := Dp.reads I e y u he ry
  exact SeqAt.eq_plain r1 r2 sd se (by omega) ⟨.bl _, H, I, rfl, q⟩
theorem op_neP (hu : X.A.units + 64 < cLine) : OpR X (compareOp .NotEq) (rNeP X.K) := by
  intro pins s σ H x y v u Q I rx ry h
  obtain ⟨d, e, hd, he, sd, se, hm, q⟩ := h
  obtain ⟨as, r1⟩ := Dp.reads I d x v hd rx
  obtain ⟨bs, r2⟩ := Dp.reads I e y u he ry
  exact SeqAt.ne_plain r1 r2 sd se (by omega) ⟨.bl _, H, I, rfl, q⟩
def rInP (K : PySem.W.Frag) : R2 := fun x y H Q => ∃ d es, Dp K H x d ∧ (Dp K H y (.tuple es) ∨ Dp K H y (.list es)) ∧ d.plain = true ∧ PyData.plainAll es = true ∧ min (PyData.depthAll es) d.depth ≤ 64 ∧ Q (.bl (es.any fun z => PyData.eqv z d)) H
def rNotInP (K : PySem.W.Frag) : R2 := fun x y H Q => ∃ d es, Dp K H x d ∧ (Dp K H y (.tuple es) ∨ Dp K H y (.list es)) ∧ d.plain = true ∧ PyData.plainAll es = true ∧ min (PyData.depthAll es) d.depth ≤ 64 ∧ Q (.bl (!es.any fun z => PyData.eqv z d)) H
theorem op_inP (hu : X.A.units + 65 < cLine) : OpR X (compareOp .In) (rInP X.K) := by
  intro pins s σ H x y v u Q I rx ry h
  obtain ⟨d, es, hd, he, sd, se, hm, q⟩ := h
  obtain ⟨as, r1⟩ := Dp.reads I d x v hd rx
  rcases he with he | he
  · obtain ⟨bs, r2⟩ := Dp.reads I (.tuple es) y u he ry
    exact SeqAt.in_tuple_data r2 r1 se sd (by omega) ⟨.bl _, H, I, rfl, q⟩
  · obtain ⟨bs, r2⟩ := Dp.reads I (.list es) y u he ry
    exact SeqAt.in_list_data r2 r1 se sd (by omega) ⟨.bl _, H, I, rfl, q⟩
theorem op_notInP (hu : X.A.units + 65 < cLine) : OpR X (compareOp .NotIn) (rNotInP X.K) := by
  intro pins s σ H x y v u Q I rx ry h
  obtain ⟨d, es, hd, he, sd, se, hm, q⟩ := h
  obtain ⟨as, r1⟩ := Dp.reads I d x v hd rx
  rcases he with he | he
  · obtain ⟨bs, r2⟩ := Dp.reads I (.tuple es) y u he ry
    exact SeqAt.notIn_tuple_data r2 r1 se sd (by omega) ⟨.bl _, H, I, rfl, q⟩
  · obtain ⟨bs, r2⟩ := Dp.reads I (.list es) y u he ry
    exact SeqAt.notIn_list_data r2 r1 se sd (by omega) ⟨.bl _, H, I, rfl, q⟩
theorem tuple_mul1 (l : Addr) (items : Array Value) (n : Nat) (dd : Option Addr) (sl : Array (Option Value)) (u : Tok) :
    Meets (Builtin.«tuple.__mul__» ⟨[.ref l, .int 1 u], []⟩) (fun _ R s => s.heap.get? l = some { cls := .type "tuple", dict := dd, data := .seq items n, slots := sl } ∧ R (.ok (.ret (Value.ref l))) s) :=
  .of_wp fun prog w A R s h => by
    obtain ⟨hp, g, d, tk, os⟩ := s
    obtain ⟨hl, h⟩ := h
    have f1 := AutoSeq1.idx_int
    have c0 : (decide ((1 : Int) < -(2 ^ 63)) || decide ((1 : Int) ≥ 2 ^ 63)) = false := by decide
    have c1 : (items.isEmpty || (1 : Int) == 1) = true := by rw [show ((1 : Int) == 1) = true from rfl, Bool.or_true]
    wp_walk using wpAny_loadPart' hl
    repeat (first
      | (refine wpAny_ite_false (decide_eq_false (by rw [c0]; exact Bool.false_ne_true)) ?_; wp_walk using wpAny_loadPart' hl)
      | (refine wpAny_ite_true (decide_eq_true c1) ?_; wp_walk using wpAny_loadPart' hl))
    all_goals first
      | exact ⟨_, rfl, h⟩
      | skip
def rRepT1 (K : PySem.W.Frag) : R2 := fun x y H Q => ∃ l xs, x = .ref l ∧ y = .int 1 ∧ SqT K H l xs ∧ Q (.ref l) H
theorem op_repT1 : OpR X (binaryOp .Mult) (rRepT1 X.K) := by
  intro pins s σ H x y v u Q I rx ry h
  obtain ⟨l, xs, rfl, rfl, hT, q⟩ := h
  cases rx
  obtain ⟨t, rfl⟩ := ry
  obtain ⟨its, r, ⟨⟨cls, dd, data, sl⟩, ho, hc, n, hd⟩, hs⟩ := I.tuple hT
  simp only at hc hd
  subst hc hd
  refine wpAny_binaryOp_repeat_ref (T := "tuple") (U := "int") (by decide) ⟨_, ho, rfl⟩ (fun s' => typeIs_int s' 1 t) noFill_tuple_mul F.fills_int_mul F.slot_int_rmul repeat_tuple F.slot_int_index.lookup
    (call_meets F.slot_int_rmul (typeIs_int s 1 t) F.entry_int_rmul (F.args_int_rmul_2 _ _) (int_rmul_tuple 1 t l its.toArray n dd sl)
      ⟨ho, rfl, ⟨_, ho, rfl⟩, call_meets F.slot_tuple_mul ⟨_, ho, rfl⟩ F.entry_tuple_mul (F.args_tuple_mul_2 _ _) (tuple_mul1 l its.toArray n dd sl t) ⟨ho, ?_⟩⟩)
  exact ⟨.ref l, H, I, rfl, q⟩
end
end L2
namespace Cg
open PySem L2
section
variable {K : PySem.W.Frag}
theorem rc_eq : RC K (rEqP K) cEq := fun G H x y a b Er e rx ry Q h => by
  unfold cEq at h
  split at h
  · exact ⟨a, b, (rx.mono e).dp, (ry.mono e).dp, rx.plain, ry.plain, by assumption, h⟩
  · exact h.elim
theorem rc_ne : RC K (rNeP K) cNe := fun G H x y a b Er e rx ry Q h => by
  unfold cNe at h
  split at h
  · exact ⟨a, b, (rx.mono e).dp, (ry.mono e).dp, rx.plain, ry.plain, by assumption, h⟩
  · exact h.elim
theorem rc_in : RC K (rInP K) cIn := fun G H x y a b Er e rx ry Q h => by
  cases ry with
  | @tup t xs es hs hl ha hpl =>
    have h' : (if min (PyData.depthAll es) a.depth ≤ 64 then Tr.ret (memD a es) else .bad).wp (fun k => Q (.bl k) H) Er := h
    split at h'
    · exact ⟨a, es, (rx.mono e).dp, .inl ((Rp.tup hs hl ha hpl).mono e).dp, rx.plain, ha.plain, by assumption, h'⟩
    · exact h'.elim
  | @lst t xs es hs hl ha =>
    have h' : (if min (PyData.depthAll es) a.depth ≤ 64 then Tr.ret (memD a es) else .bad).wp (fun k => Q (.bl k) H) Er := h
    split at h'
    · exact ⟨a, es, (rx.mono e).dp, .inr ((Rp.lst hs hl ha).mono e).dp, rx.plain, ha.plain, by assumption, h'⟩
    · exact h'.elim
  | _ => exact h.elim
theorem rc_notIn : RC K (rNotInP K) cNotIn := fun G H x y a b Er e rx ry Q h => by
  cases ry with
  | @tup t xs es hs hl ha hpl =>
    have h' : ((if min (PyData.depthAll es) a.depth ≤ 64 then Tr.ret (memD a es) else .bad).bind fun k => Tr.ret (!k)).wp (fun k => Q (.bl k) H) Er := h
    split at h'
    · exact ⟨a, es, (rx.mono e).dp, .inl ((Rp.tup hs hl ha hpl).mono e).dp, rx.plain, ha.plain, by assumption, h'⟩
    · exact h'.elim
  | @lst t xs es hs hl ha =>
    have h' : ((if min (PyData.depthAll es) a.depth ≤ 64 then Tr.ret (memD a es) else .bad).bind fun k => Tr.ret (!k)).wp (fun k => Q (.bl k) H) Er := h
    split at h'
    · exact ⟨a, es, (rx.mono e).dp, .inr ((Rp.lst hs hl ha).mono e).dp, rx.plain, ha.plain, by assumption, h'⟩
    · exact h'.elim
  | _ => exact h.elim
theorem rc_lt : RC K (rI0 fun i j => .bl (decide (i < j))) cLt := fun G H x y a b Er e rx ry Q h => by
  cases rx <;> cases ry <;> first
    | exact ⟨_, _, rfl, rfl, h⟩
    | exact h.elim
theorem rc_le : RC K (rI0 fun i j => .bl (decide (i ≤ j))) cLe := fun G H x y a b Er e rx ry Q h => by
  cases rx <;> cases ry <;> first
    | exact ⟨_, _, rfl, rfl, h⟩
    | exact h.elim
theorem rc_gt : RC K (rI0 fun i j => .bl (decide (j < i))) cGt := fun G H x y a b Er e rx ry Q h => by
  cases rx <;> cases ry <;> first
    | exact ⟨_, _, rfl, rfl, h⟩
    | exact h.elim
theorem rc_ge : RC K (rI0 fun i j => .bl (decide (j ≤ i))) cGe := fun G H x y a b Er e rx ry Q h => by
  cases rx <;> cases ry <;> first
    | exact ⟨_, _, rfl, rfl, h⟩
    | exact h.elim
theorem isNon_rp {G : Hp} {x : V} {a : PyData} (r : Rp K G x a) : decide (x = .non) = isNon a := by
  cases r <;> first
    | rfl
    | exact decide_eq_false (fun z => nomatch z)
theorem et_isN {cl : Ek → Addr} {E : L2.St → Option XK} {ρ : List Sl} {ta : TE} {fa : Tr PyData} (ha : Ev K cl E ta ρ fa) : EvT K cl E (tTest (tOp (fun x y H Q => y = .non ∧ Q (.bl (decide (x = .non))) H) ta (tC .non))) ρ (fa.bind fun a => .ret (isNon a)) :=
  fun G H σ S Q h => ha.seq S h fun a x G1 H1 g1 S1 rx h1 => ⟨rfl, isNon a, by rw [isNon_rp rx], Po.now h1 S1 rfl⟩
theorem ev_notN {cl : Ek → Addr} {E : L2.St → Option XK} {ρ : List Sl} {ta : TE} {fa : Tr PyData} (ha : Ev K cl E ta ρ fa) : Ev K cl E (tOp (fun x y H Q => y = .non ∧ Q (.bl (!decide (x = .non))) H) ta (tC .non)) ρ (fa.bind fun a => .ret (.bool (!isNon a))) :=
  fun G H σ S Q h => ha.seq S h fun a x G1 H1 g1 S1 rx h1 => ⟨rfl, by
    rw [isNon_rp rx]
    exact Po.now h1 S1 (.bl _)⟩
theorem add_any (l : Addr) (us : Array Value) (n : Nat) (sl : Array (Option Value)) (b : Addr) (vs : Array Value) (m : Nat) (sk : Array (Option Value)) (hz : us.size + vs.size ≤ sizeLine) :
    Meets (Builtin.«list.__add__» ⟨[.ref l, .ref b], []⟩) (fun _ R s => s.heap.get? l = some ⟨.type "list", none, .seq us n, sl⟩ ∧ s.heap.get? b = some ⟨.type "list", none, .seq vs m, sk⟩ ∧
      R (.ok (.ret (Value.ref s.heap.objs.size))) { s with heap := s.heap.push { cls := Value.type "list", data := Data.seq (us ++ vs) }, toks := s.toks }) := by
  refine .of_wp fun prog w A R s h => ?_
  obtain ⟨hp, g, d, tk, os⟩ := s
  obtain ⟨h1, h2, h⟩ := h
  have q1 := AutoSeq1.idx_int
  have q2 := AutoSeq1.sub_list_list
  have q3 := AutoSeq1.sub_list_tuple
  have q4 := AutoSeq1.sub_tuple_list
  have q5 := AutoSeq1.sub_tuple_tuple
  wp_walk using AutoSeq1.wpAny_loadPart' h1, AutoSeq1.wpAny_loadPart' h2
  exact ⟨_, rfl, h⟩
theorem mul_any (l : Addr) (us : Array Value) (n : Nat) (sl : Array (Option Value)) (x : Int) (u : Tok) (hc0 : ¬(!Builtin.List.listFitsIndex x) = true) (hc1 : ¬us.size * x.toNat > (2 ^ 63 - 1) / 8) (hc2 : ¬Builtin.List.listTooLong (us.size * x.toNat) = true) :
    Meets (Builtin.«list.__mul__» ⟨[.ref l, .int x u], []⟩) (fun _ R s => s.heap.get? l = some ⟨.type "list", none, .seq us n, sl⟩ ∧
      R (.ok (.ret (Value.ref s.heap.objs.size))) { s with heap := s.heap.push { cls := Value.type "list", data := Data.seq (List.foldl (fun x1 x2 => x1 ++ x2) #[] (List.replicate (if us.isEmpty = true then 0 else x.toNat) us)) }, toks := s.toks }) := by
  refine .of_wp fun prog w A R s h => ?_
  obtain ⟨hp, g, d, tk, os⟩ := s
  obtain ⟨hl, h⟩ := h
  have hz := AutoListH.joined_fits hc2
  wp_walk
  refine wpAny_ite_false (decide_eq_false (Nat.not_lt.mpr hz)) ?_
  wp_walk
  exact ⟨_, rfl, h⟩
theorem rmul_any (a : Int) (t : Tok) (l : Addr) (us : Array Value) (n : Nat) (sl : Array (Option Value)) :
    Meets (Builtin.«int.__rmul__» ⟨[.int a t, .ref l], []⟩) (fun _ R s => s.heap.get? l = some ⟨.type "list", none, .seq us n, sl⟩ ∧ R (.ok (.ret Value.notImplemented)) s) := by
  refine .of_wp fun prog w A R s h => ?_
  obtain ⟨hp, g, d, tk, os⟩ := s
  obtain ⟨hl, h⟩ := h
  wp_walk
  exact ⟨_, rfl, h⟩
/-- lists, also such as were there before -/
def rCatL (K : PySem.W.Frag) : R2 := fun x y H Q => ∃ a b xs ys, x = .ref a ∧ y = .ref b ∧ SqL K H a xs ∧ SqL K H b ys ∧ xs.length + ys.length ≤ sizeLine ∧ ∀ p, H p = none → Q (.ref p) (upd H p (.lst (xs ++ ys)))
theorem op_catL {X : Cx} : OpR X (binaryOp .Add) (rCatL X.K) := by
  intro pins s σ H x y v u Q I rx ry h
  obtain ⟨a, b, xs, ys, rfl, rfl, ha, hb, hz, q⟩ := h
  cases rx
  cases ry
  obtain ⟨its, r, ⟨⟨cls, dd, data, sl⟩, n, e, h1, h2, h3⟩, z⟩ := I.list ha
  obtain ⟨its2, r2, ⟨⟨cls2, dd2, data2, sl2⟩, n2, e2, h1', h2', h3'⟩, z2⟩ := I.list hb
  simp only at h1 h2 h3 h1' h2' h3'
  subst h1 h2 h3 h1' h2' h3'
  have l1 := r.length
  have l2 := r2.length
  refine PySem.concat_meets ⟨_, e, rfl⟩ ⟨_, e2, rfl⟩ PySem.noFill_list_add PySem.seq_list_add F.slot_list_add F.entry_list_add (F.args_list_add_2 _ _) (add_any a its.toArray n sl b its2.toArray n2 sl2 (by rw [List.size_toArray, List.size_toArray]; omega)) ⟨e, e2, ?_⟩
  have ea : its.toArray ++ its2.toArray = (its ++ its2).toArray := by simp
  rw [ea]
  exact ⟨.ref _, _, I.lnew (t' := s.toks) (r.append r2) (by rw [List.length_append]; omega), rfl, q _ I.fresh⟩
def rRepL (K : PySem.W.Frag) : R2 := fun x y H Q => ∃ l k xs, x = .ref l ∧ y = .int k ∧ SqL K H l xs ∧ -(2 ^ 63) ≤ k ∧ k < 2 ^ 63 ∧ xs.length * k.toNat ≤ sizeLine ∧ ∀ p, H p = none → Q (.ref p) (upd H p (.lst (List.replicate k.toNat xs).flatten))
theorem op_repL {X : Cx} : OpR X (binaryOp .Mult) (rRepL X.K) := by
  intro pins s σ H x y v u Q I rx ry h
  obtain ⟨l, k, xs, rfl, rfl, hH, h1, h2, hz, q⟩ := h
  cases rx
  obtain ⟨t, rfl⟩ := ry
  obtain ⟨its, r, ⟨⟨cls, dd, data, sl⟩, n, e, g1, g2, g3⟩, z⟩ := I.list hH
  simp only at g1 g2 g3
  subst g1 g2 g3
  have l1 := r.length
  have hlen : its.toArray.size * k.toNat ≤ sizeLine := by rw [List.size_toArray, ← l1]; exact hz
  have hcap : ¬ its.toArray.size * k.toNat > (2 ^ 63 - 1) / 8 := by
    have : (sizeLine : Nat) ≤ (2 ^ 63 - 1) / 8 := by decide
    omega
  have hfit : ¬ (!Builtin.List.listFitsIndex k) = true := by
    rw [fitsIndex_both h1 h2]
    exact Bool.false_ne_true
  have hlong : ¬ Builtin.List.listTooLong (its.toArray.size * k.toNat) = true := by
    rw [notLongL hlen]
    exact Bool.false_ne_true
  have hnew : List.foldl (fun x1 x2 => x1 ++ x2) #[] (List.replicate (if its.toArray.isEmpty = true then 0 else k.toNat) its.toArray) = (List.replicate k.toNat its).flatten.toArray := by
    have f0 : ∀ m : Nat, List.foldl (fun x1 x2 => x1 ++ x2) #[] (List.replicate m its.toArray) = (List.replicate m its).flatten.toArray := fun m => size_rep its m
    rw [f0]
    cases its with
    | nil => simp
    | cons a r' => rw [if_neg (by simp)]
  refine wpAny_binaryOp_repeat_ref (T := "list") (U := "int") (by decide) ⟨_, e, rfl⟩ (fun s' => typeIs_int s' k t) PySem.noFill_list_mul F.fills_int_mul F.slot_int_rmul PySem.repeat_list F.slot_int_index.lookup
    (PySem.call_meets F.slot_int_rmul (typeIs_int s k t) F.entry_int_rmul (F.args_int_rmul_2 _ _) (rmul_any k t l its.toArray n sl)
      ⟨e, rfl, ⟨_, e, rfl⟩, PySem.call_meets F.slot_list_mul ⟨_, e, rfl⟩ F.entry_list_mul (F.args_list_mul_2 _ _) (mul_any l its.toArray n sl k t hfit hcap hlong) ⟨e, ?_⟩⟩)
  rw [hnew]
  exact ⟨.ref _, _, I.lnew (t' := s.toks) (r.rep k.toNat) (by rw [PyProof.Rows.lm_len_rep_flat, Nat.mul_comm]; exact hz), rfl, q _ I.fresh⟩
def rAddA (K : PySem.W.Frag) : R2 := fun x y H Q => rI0 (fun i j => .int (i + j)) x y H Q ∨ rCatF K x y H Q ∨ rCatL K x y H Q
theorem op_addA {X : Cx} : OpR X (binaryOp .Add) (rAddA X.K) := op_add.or (op_catF.or op_catL)
theorem rr_add : RR K (rAddA K) dAdd := fun cl E ρ σ G H x y a b S rx ry Q h => by
  cases rx with
  | int i =>
    cases ry with
    | int j => exact .inl ⟨i, j, rfl, rfl, Po.now h S (.int _)⟩
    | _ => exact h.elim
  | @tup p xs ds hs hl ha hpl =>
    cases ry with
    | @tup q ys es hs' hl' ha' hpl' =>
      have h' : (if ds.length + es.length ≤ 1000000 then Tr.ret (PyData.tuple (ds ++ es)) else .bad).wp (Po K ρ σ (Rp K) G H Q) (Xo cl (E σ) (Owns ρ σ) H) := h
      split at h'
      · rename_i hz
        have hz' : (ds ++ es).length ≤ sizeLine := by rw [List.length_append, sizeLine_eq]; omega
        refine .inr (.inl ⟨p, q, xs, ys, rfl, rfl, S.sub.t hs, S.sub.t hs', by rw [ha.len, ha'.len]; rw [List.length_append] at hz'; exact hz', fun e => ?_, fun e1 e2 => ?_, fun e1 e2 t o ht od => ?_⟩)
        · subst e
          cases ha
          exact Po.now h' S (.tup hs' hl' ha' hpl')
        · subst e2
          cases ha'
          rw [List.append_nil] at h'
          exact Po.now h' S (.tup hs hl ha hpl)
        · exact Po.lay h' S ht (.tup (SqT.frz upd_same) hz' ((ha.append ha').mono (Ex.new (S.sub.back ht))) (.inl ⟨_, _, upd_same, od⟩))
      · exact h'.elim
    | _ => exact h.elim
  | @lst p xs ds hs hl ha =>
    cases ry with
    | @lst q ys es hs' hl' ha' =>
      have h' : (if ds.length + es.length ≤ 1000000 then Tr.ret (PyData.list (ds ++ es)) else .bad).wp (Po K ρ σ (Rp K) G H Q) (Xo cl (E σ) (Owns ρ σ) H) := h
      split at h'
      · rename_i hz
        have hz' : (ds ++ es).length ≤ sizeLine := by rw [List.length_append, sizeLine_eq]; omega
        refine .inr (.inr ⟨p, q, xs, ys, rfl, rfl, S.sub.l hs, S.sub.l hs', by rw [ha.len, ha'.len]; rw [List.length_append] at hz'; exact hz', fun t ht => ?_⟩)
        exact Po.lay h' S ht (.lst (SqL.of upd_same) hz' ((ha.append ha').mono (Ex.new (S.sub.back ht))))
      · exact h'.elim
    | _ => exact h.elim
  | _ => exact h.elim
theorem rr_sub : RR K (rI0 fun i j => .int (i - j)) dSub := fun cl E ρ σ G H x y a b S rx ry Q h => by
  cases rx with
  | int i =>
    cases ry with
    | int j => exact ⟨i, j, rfl, rfl, Po.now h S (.int _)⟩
    | _ => exact h.elim
  | _ => exact h.elim
def rMulA (K : PySem.W.Frag) : R2 := fun x y H Q => rI CMul (fun i j => .int (i * j)) x y H Q ∨ rRepF K x y H Q ∨ rRepT1 K x y H Q ∨ rRepL K x y H Q ∨ rRep0F K x y H Q
theorem op_mulA {X : Cx} : OpR X (binaryOp .Mult) (rMulA X.K) := op_mul.or (op_repF.or (op_repT1.or (op_repL.or op_rep0F)))
theorem rr_mul : RR K (rMulA K) dMul := fun cl E ρ σ G H x y a b S rx ry Q h => by
  cases rx with
  | int i =>
    cases ry with
    | int j =>
      have h' : (if (-(2 ^ 64) < i ∧ i < 2 ^ 64) ∨ (-(2 ^ 64) < j ∧ j < 2 ^ 64) then Tr.ret (PyData.int (i * j)) else .bad).wp (Po K ρ σ (Rp K) G H Q) (Xo cl (E σ) (Owns ρ σ) H) := h
      split at h'
      · exact .inl ⟨i, j, rfl, rfl, by assumption, Po.now h' S (.int _)⟩
      · exact h'.elim
    | _ => exact h.elim
  | @tup p xs ds hs hl ha hpl =>
    cases ry with
    | int k =>
      have h' : (if 0 < ds.length ∧ ds.length ≤ 1000 ∧ 0 ≤ k ∧ k ≤ 1000 then Tr.ret (PyData.tuple (List.replicate k.toNat ds).flatten) else .bad).wp (Po K ρ σ (Rp K) G H Q) (Xo cl (E σ) (Owns ρ σ) H) := h
      split at h'
      · rename_i hz
        by_cases h1 : k = 1
        · subst h1
          refine .inr (.inr (.inl ⟨p, xs, rfl, rfl, S.sub.t hs, ?_⟩))
          have e1 : (List.replicate (1 : Int).toNat ds).flatten = ds := by
            show (List.replicate 1 ds).flatten = ds
            simp
          rw [e1] at h'
          exact Po.now h' S (.tup hs hl ha hpl)
        · by_cases h0 : k = 0
          · subst h0
            refine .inr (.inr (.inr (.inr ⟨p, xs, rfl, rfl, S.sub.t hs, fun z => ?_, fun t o ht od => ?_⟩)))
            · have e := ha.len
              rw [z] at e
              have : ds.length = 0 := e.symm
              omega
            · exact Po.lay h' S ht (.tup (SqT.frz upd_same) (Nat.zero_le _) .nil (.inl ⟨_, _, upd_same, od⟩))
          refine .inr (.inl ⟨p, k, xs, rfl, rfl, S.sub.t hs, fun z => ?_, by omega, by omega, by rw [ha.len]; omega, fun t o ht od => ?_⟩)
          · have e := ha.len
            rw [z] at e
            have : ds.length = 0 := e.symm
            omega
          · refine Po.lay h' S ht (.tup (SqT.frz upd_same) ?_ ((ha.rep k.toNat).mono (Ex.new (S.sub.back ht))) (.inl ⟨_, _, upd_same, od⟩))
            rw [PyProof.Rows.lm_len_rep_flat, sizeLine_eq]
            have a1 : k.toNat * ds.length ≤ 1000 * 1000 := Nat.mul_le_mul (by omega) (by omega)
            omega
      · exact h'.elim
    | _ => exact h.elim
  | @lst p xs ds hs hl ha =>
    cases ry with
    | int k =>
      have h' : (if ds.length ≤ 100 ∧ -10000 ≤ k ∧ k ≤ 10000 then Tr.ret (PyData.list (List.replicate k.toNat ds).flatten) else .bad).wp (Po K ρ σ (Rp K) G H Q) (Xo cl (E σ) (Owns ρ σ) H) := h
      split at h'
      · rename_i hz
        have a1 : k.toNat * ds.length ≤ 10000 * 100 := Nat.mul_le_mul (by omega) (by omega)
        have a2 : ds.length * k.toNat ≤ 1000000 := by
          rw [Nat.mul_comm]
          exact a1
        refine .inr (.inr (.inr (.inl ⟨p, k, xs, rfl, rfl, S.sub.l hs, by omega, by omega, by rw [ha.len, sizeLine_eq]; omega, fun t ht => ?_⟩)))
        refine Po.lay h' S ht (.lst (SqL.of upd_same) ?_ ((ha.rep k.toNat).mono (Ex.new (S.sub.back ht))))
        rw [PyProof.Rows.lm_len_rep_flat, sizeLine_eq]
        omega
      · exact h'.elim
    | _ => exact h.elim
  | _ => exact h.elim
theorem ixN_len {α β : Type} {xs : List α} {ys : List β} (h : xs.length = ys.length) {i : Int} {v : β} (e : atI ys i = some v) : ∃ j : Nat, ys[j]? = some v ∧ ∀ x, xs[j]? = some x → atI xs i = some x := by
  unfold atI at e ⊢
  rw [h]
  cases hi : ixN ys.length i with
  | none =>
    rw [hi] at e
    cases e
  | some j =>
    rw [hi] at e
    exact ⟨j, e, fun x hx => hx⟩
theorem rr_ix : RR K (rIx K) dIx := fun cl E ρ σ G H x y a b S rx ry Q h => by
  cases rx with
  | @tup p xs ds hs hl ha hpl =>
    cases ry with
    | int i =>
      have h' : (match atI ds i with | some d => Tr.ret d | none => .bad).wp (Po K ρ σ (Rp K) G H Q) (Xo cl (E σ) (Owns ρ σ) H) := h
      cases hd : atI ds i with
      | none =>
        rw [hd] at h'
        exact h'.elim
      | some d =>
        rw [hd] at h'
        obtain ⟨j, e1, e2⟩ := ixN_len ha.len hd
        obtain ⟨v, hv, rv⟩ := ha.get e1
        exact .inr (.inl ⟨p, xs, i, v, rfl, rfl, S.sub.t hs, e2 v hv, Po.now h' S rv⟩)
    | _ => exact h.elim
  | @lst p xs ds hs hl ha =>
    cases ry with
    | int i =>
      have h' : (match atI ds i with | some d => Tr.ret d | none => .bad).wp (Po K ρ σ (Rp K) G H Q) (Xo cl (E σ) (Owns ρ σ) H) := h
      cases hd : atI ds i with
      | none =>
        rw [hd] at h'
        exact h'.elim
      | some d =>
        rw [hd] at h'
        obtain ⟨j, e1, e2⟩ := ixN_len ha.len hd
        obtain ⟨v, hv, rv⟩ := ha.get e1
        exact .inl ⟨p, xs, i, v, rfl, rfl, S.sub.l hs, e2 v hv, Po.now h' S rv⟩
    | _ => exact h.elim
  | _ => exact h.elim
def rSlP (K : PySem.W.Frag) : V → Option Int → Option Int → Hp → VK → Prop := fun x lo hi H Q => rSlF K x lo hi H Q ∨ rSlL K x lo hi H Q
theorem sl_P {X : Cx} : SlR X (rSlP X.K) := sl_tupF.or sl_list
theorem RpAll.cut {G : Hp} {xs : List V} {ds : List PyData} (h : RpAll K G xs ds) (lo hi : Option Int) : RpAll K G (cutV xs lo hi) (cutD ds lo hi) := by
  unfold cutV cutD
  rw [h.len]
  exact (h.drop _).take _
theorem cutD_len (ds : List PyData) (lo hi : Option Int) : (cutD ds lo hi).length ≤ ds.length := by
  unfold cutD
  rw [List.length_take, List.length_drop]
  omega
theorem rs_P : RS K (rSlP K) := fun cl E ρ σ G H x a lo hi S rx Q h => by
  cases rx with
  | @tup p xs ds hs hl ha hpl =>
    have hz : (cutD ds lo hi).length ≤ sizeLine := Nat.le_trans (cutD_len ds lo hi) hl
    refine .inl ⟨p, xs, rfl, S.sub.t hs, fun ⟨e1, e2⟩ => ?_, fun _ t o ht od => ?_⟩
    · rw [ha.len] at e1 e2
      have e3 : cutD ds lo hi = ds := by
        unfold cutD
        rw [e1, e2, List.drop_zero, Nat.sub_zero, List.take_length]
      have h' : (Tr.ret (PyData.tuple (cutD ds lo hi))).wp (Po K ρ σ (Rp K) G H Q) (Xo cl (E σ) (Owns ρ σ) H) := h
      rw [e3] at h'
      exact Po.now h' S (.tup hs hl ha hpl)
    · exact Po.lay h S ht (.tup (SqT.frz upd_same) hz ((ha.cut lo hi).mono (Ex.new (S.sub.back ht))) (.inl ⟨_, _, upd_same, od⟩))
  | @lst p xs ds hs hl ha =>
    have hz : (cutD ds lo hi).length ≤ sizeLine := Nat.le_trans (cutD_len ds lo hi) hl
    exact .inr ⟨p, xs, rfl, S.sub.l hs, fun t ht => Po.lay h S ht (.lst (SqL.of upd_same) hz ((ha.cut lo hi).mono (Ex.new (S.sub.back ht))))⟩
  | _ => exact h.elim
theorem rk_len : RK1 K (fun xs H Q => ∃ p ys, xs = [.ref p] ∧ (SqL K H p ys ∨ SqT K H p ys) ∧ Q (.int ys.length) H) dLen := fun cl E ρ σ G H x a S rx Q h => by
  cases rx with
  | @tup p xs ds hs hl ha hpl =>
    refine ⟨p, xs, rfl, .inr (S.sub.t hs), ?_⟩
    rw [ha.len]
    exact Po.now h S (.int _)
  | @lst p xs ds hs hl ha =>
    refine ⟨p, xs, rfl, .inl (S.sub.l hs), ?_⟩
    rw [ha.len]
    exact Po.now h S (.int _)
  | _ => exact h.elim
theorem rk_tuple : RK1 K (fun xs H Q => ∃ p ys, xs = [.ref p] ∧ ((SqL K H p ys ∧ ∀ l o, H l = none → o.dict = none → Q (.ref l) (upd H l (.frz o (.tup ys)))) ∨ (SqT K H p ys ∧ Q (.ref p) H))) dTuple := fun cl E ρ σ G H x a S rx Q h => by
  cases rx with
  | @tup p xs ds hs hl ha hpl => exact ⟨p, xs, rfl, .inr ⟨S.sub.t hs, Po.now h S (.tup hs hl ha hpl)⟩⟩
  | @lst p xs ds hs hl ha => exact ⟨p, xs, rfl, .inl ⟨S.sub.l hs, fun t o ht od => Po.lay h S ht (.tup (SqT.frz upd_same) hl (ha.mono (Ex.new (S.sub.back ht))) (.inl ⟨_, _, upd_same, od⟩))⟩⟩
  | _ => exact h.elim
theorem rk_list : RK1 K (fun xs H Q => ∃ p ys, xs = [.ref p] ∧ (SqL K H p ys ∨ SqT K H p ys) ∧ ∀ l, H l = none → Q (.ref l) (upd H l (.lst ys))) dList := fun cl E ρ σ G H x a S rx Q h => by
  cases rx with
  | @tup p xs ds hs hl ha hpl => exact ⟨p, xs, rfl, .inr (S.sub.t hs), fun t ht => Po.lay h S ht (.lst (SqL.of upd_same) hl (ha.mono (Ex.new (S.sub.back ht))))⟩
  | @lst p xs ds hs hl ha => exact ⟨p, xs, rfl, .inl (S.sub.l hs), fun t ht => Po.lay h S ht (.lst (SqL.of upd_same) hl (ha.mono (Ex.new (S.sub.back ht))))⟩
  | _ => exact h.elim
theorem asInts_map : ∀ {ds : List PyData} {ns : List Int}, asInts ds = some ns → ds = ns.map PyData.int
  | [], ns, h => by
    cases h
    rfl
  | .int i :: r, ns, h => by
    unfold asInts at h
    cases e : asInts r with
    | none =>
      rw [e] at h
      cases h
    | some ms =>
      rw [e] at h
      cases h
      rw [asInts_map e]
      rfl
  | .none :: _, _, h => nomatch h
  | .bool _ :: _, _, h => nomatch h
  | .str _ :: _, _, h => nomatch h
  | .list _ :: _, _, h => nomatch h
  | .tuple _ :: _, _, h => nomatch h
  | .dict _ :: _, _, h => nomatch h
theorem rk_sum : RK1 K (rSum K) dSum := fun cl E ρ σ G H x a S rx Q h => by
  cases rx with
  | @lst p xs ds hs hl ha =>
    have h' : (match asInts ds with | some ns => Tr.ret (PyData.int ns.sum) | none => .bad).wp (Po K ρ σ (Rp K) G H Q) (Xo cl (E σ) (Owns ρ σ) H) := h
    cases hd : asInts ds with
    | none =>
      rw [hd] at h'
      exact h'.elim
    | some ns =>
      rw [hd] at h'
      have e := asInts_map hd
      subst e
      have e2 := ha.ints
      subst e2
      exact ⟨p, ns, rfl, S.sub.l hs, Po.now h' S (.int _)⟩
  | _ => exact h.elim
theorem rk_abs : RK1 K (fun xs H Q => ∃ i, xs = [.int i] ∧ Q (.int (if i < 0 then -i else i)) H) dAbs := fun cl E ρ σ G H x a S rx Q h => by
  cases rx with
  | int i => exact ⟨i, rfl, Po.now h S (.int _)⟩
  | _ => exact h.elim
def tyN : PyData → String
  | .none => "NoneType"
  | .bool _ => "bool"
  | .int _ => "int"
  | .str _ => "str"
  | .list _ => "list"
  | .tuple _ => "tuple"
  | .dict _ => "dict"
theorem rd_tyT {G : Hp} {p : Addr} {xs : List V} (h : SqT K G p xs) : TyX K G (.ref p) (.type "tuple") := by
  rcases h with (h | ⟨o, h⟩) | ⟨o, its, n, h, c, _⟩
  · exact .base (.tup h)
  · exact .fTuple h
  · exact .kTuple h c
theorem rd_tyL {G : Hp} {p : Addr} {xs : List V} (h : SqL K G p xs) : TyX K G (.ref p) (.type "list") := by
  rcases h with (h | ⟨o, h⟩) | ⟨o, its, n, h, c, _⟩
  · exact .base (.lst h)
  · exact .base (.frz h)
  · exact .kList h c
theorem rp_ty {G H : Hp} (e : Ex G H) {x : V} {a : PyData} (r : Rp K G x a) : TyX K H x (.type (tyN a)) := by
  cases r with
  | non => exact .base .non
  | bl b => exact .base (.bl b)
  | int i => exact .base (.int i)
  | str z => exact .base (.str z)
  | lst h l ha => exact rd_tyL (e.l h)
  | tup h l ha _ => exact rd_tyT (e.t h)
def isTy (T : String) (f : PyData → Bool) : Prop := ∀ a : PyData, a.plain = true → kitB (tyN a) T = some (f a)
theorem isTy_tuple : isTy "tuple" isTup := fun a h => by
  cases a with
  | none => exact (show kitB "NoneType" "tuple" = some false by decide +kernel)
  | bool _ => exact (show kitB "bool" "tuple" = some false by decide +kernel)
  | int _ => exact (show kitB "int" "tuple" = some false by decide +kernel)
  | str _ => exact (show kitB "str" "tuple" = some false by decide +kernel)
  | list _ => exact (show kitB "list" "tuple" = some false by decide +kernel)
  | tuple _ => exact (show kitB "tuple" "tuple" = some true by decide +kernel)
  | dict _ => exact nomatch h
theorem isTy_int : isTy "int" isInt := fun a h => by
  cases a with
  | none => exact (show kitB "NoneType" "int" = some false by decide +kernel)
  | bool _ => exact (show kitB "bool" "int" = some true by decide +kernel)
  | int _ => exact (show kitB "int" "int" = some true by decide +kernel)
  | str _ => exact (show kitB "str" "int" = some false by decide +kernel)
  | list _ => exact (show kitB "list" "int" = some false by decide +kernel)
  | tuple _ => exact (show kitB "tuple" "int" = some false by decide +kernel)
  | dict _ => exact nomatch h
theorem isTy_bool : isTy "bool" isBool := fun a h => by
  cases a with
  | none => exact (show kitB "NoneType" "bool" = some false by decide +kernel)
  | bool _ => exact (show kitB "bool" "bool" = some true by decide +kernel)
  | int _ => exact (show kitB "int" "bool" = some false by decide +kernel)
  | str _ => exact (show kitB "str" "bool" = some false by decide +kernel)
  | list _ => exact (show kitB "list" "bool" = some false by decide +kernel)
  | tuple _ => exact (show kitB "tuple" "bool" = some false by decide +kernel)
  | dict _ => exact nomatch h
theorem ev_isi {T : String} {f : PyData → Bool} (hT : isTy T f) {cl : Ek → Addr} {E : L2.St → Option XK} {ρ : List Sl} {ta : TE} {fa : Tr PyData} (ha : Ev K cl E ta ρ fa) : Ev K cl E (tCB (rIsi K) (tCons ta (tCons (tC (.ty T)) tNil))) ρ (fa.bind fun a => .ret (.bool (f a))) :=
  fun G H σ S Q h => ha.seq S h fun a x G1 H1 g1 S1 rx h1 =>
    ⟨x, .ty T, .type (tyN a), .type T, f a, rfl, .ty T, rp_ty S1.sub rx, kit_ty (hT a rx.plain), Po.now h1 S1 (.bl _)⟩
end
end Cg
namespace L2
open PySem PySem.Spec PyProof.Rows
section
variable {X : Cx} {tg : Expr}
def iSeq (K : PySem.W.Frag) (tl : TE) : TI := fun σ H R => tl σ H fun x H1 => ∃ a, x = .ref a ∧ (((∃ xs, SqL K H1 a xs) ∧ R (Itl K a) H1) ∨ ((∃ xs, SqT K H1 a xs) ∧ R (Itt K a) H1))
theorem pi_seq {l : Expr} {tl : TE} (hl : PE X l tl) : PI X tg l (iSeq X.K tl) := by
  refine ⟨fun pins s σ H R I h => ?_⟩
  refine thn (hl.run pins s σ H _ I h) fun v s1 ⟨x, H1, I1, r1, q1⟩ => ?_
  obtain ⟨a, e, q1⟩ := q1
  subst e
  cases r1
  rcases q1 with ⟨⟨xs, hq⟩, q⟩ | ⟨⟨xs, hq⟩, q⟩
  · obtain ⟨its, rv, p, hz⟩ := I1.list hq
    refine wpAny_pyIter_list p.isList ?_
    refine ⟨s1.heap.objs.size, [s1.heap.objs.size], _, _, H1, rfl, I1.kept (t' := s1.toks) fun b o e => Heap.get?_push_of_some _ e, turn_list a _, ⟨_, Heap.get?_push_size _ rfl, rfl, rfl⟩, fun b hb => ?_, q⟩
    have e : b = s1.heap.objs.size := by simpa using hb
    subst e
    exact I1.fpOk (Nat.le_refl _) (I1.hok.fresh (Nat.le_refl _))
  · obtain ⟨its, rv, p, hz⟩ := I1.tuple hq
    refine wpAny_pyIter_tuple (show s1.heap.IsTuple a its.toArray from p) ?_
    refine ⟨s1.heap.objs.size, [s1.heap.objs.size], _, _, H1, rfl, I1.kept (t' := s1.toks) fun b o e => Heap.get?_push_of_some _ e, turn_tuple a _, ⟨_, Heap.get?_push_size _ rfl, rfl, rfl⟩, fun b hb => ?_, q⟩
    have e : b = s1.heap.objs.size := by simpa using hb
    subst e
    exact I1.fpOk (Nat.le_refl _) (I1.hok.fresh (Nat.le_refl _))
end
end L2
namespace Cg
open PySem L2
/-- on data; nothing of the caller's is touched -/
def SpP (K : PySem.W.Frag) (cl : Ek → Addr) (n : Nat) (m : List PyData → Tr PyData) : Sp := fun vs H Q E => ∃ (ds : List PyData) (G : Hp), RpAll K G vs ds ∧ ds.length = n ∧ Ex G H ∧
  (m ds).wp (fun d => ∀ v G' H', Gr (fun _ => False) G H G' H' → Ex G' H' → Rp K G' v d → Q v H') (Xo cl (some E) (fun _ => False) H)
/-- where nothing is raised -/
def SpN (K : PySem.W.Frag) (n : Nat) (m : List PyData → Tr PyData) : Sp := fun vs H Q _ => ∃ (ds : List PyData) (G : Hp), RpAll K G vs ds ∧ ds.length = n ∧ Ex G H ∧
  (m ds).wp (fun d => ∀ v G' H', Gr (fun _ => False) G H G' H' → Ex G' H' → Rp K G' v d → Q v H') (fun _ => False)
/-- with the box ahead -/
def SpB (K : PySem.W.Frag) (n : Nat) (m : List PyData → Tr PyData) : Sp := fun ws H Q _ => ∃ (b : Addr) (vs : List V) (ds : List PyData) (G : Hp), ws = .ref b :: vs ∧ BoxOk K G H b ∧ RpAll K G vs ds ∧ ds.length = n ∧ Ex G H ∧
  (m ds).wp (fun d => ∀ v G' H', Gr (fun a => a = b) G H G' H' → Ex G' H' → BoxOk K G' H' b → Rp K G' v d → Q v H') (fun _ => False)
/-- an error that may not be -/
def Tr.noX {α : Type} : Tr α → Tr α
  | .ret a => .ret a
  | .exc _ => .bad
  | .bad => .bad
  | .draw n k => .draw n fun i => (k i).noX
@[simp] theorem Tr.noX_ret {α : Type} (a : α) : (Tr.ret a).noX = .ret a := rfl
theorem Tr.wp_noX {α : Type} {Q : α → Prop} {E E' : Ek → Prop} : ∀ {t : Tr α}, t.noX.wp Q E → t.wp Q E'
  | .ret _, h => h
  | .exc _, h => h.elim
  | .bad, h => h.elim
  | .draw n k, h => fun i hi => Tr.wp_noX (h i hi)
section
variable {K : PySem.W.Frag} {cl : Ek → Addr} {E : L2.St → Option XK} {ρ : List Sl} {σ : L2.St} {G H G1 H1 : Hp}
theorem Sta.box (S : Sta K G H ρ σ) {i : Nat} (h : ρ[i]? = some .box) : ∃ b, σ[i]? = some (some (.ref b)) ∧ BoxOk K G H b ∧ Owns ρ σ b := by
  obtain ⟨o, h1, b, e, hb⟩ := S.var h
  subst e
  exact ⟨b, h1, hb, i, .box, h, rfl, h1⟩
/-- behind a callee that had the box at b -/
theorem Sta.boxed (S : Sta K G H ρ σ) {b : Addr} (ob : ∀ (i : Nat) (s : Sl), ρ[i]? = some s → owning s = true → σ[i]? = some (some (.ref b)) → s = .box) (g : Gr (fun a => a = b) G H G1 H1) (e : Ex G1 H1) (hb : BoxOk K G1 H1 b) : Sta K G1 H1 ρ σ := by
  refine ⟨S.len, e, fun i s o h1 h2 => ?_, S.dis⟩
  by_cases hs : owning s = true ∧ o = some (.ref b)
  · obtain ⟨hs, rfl⟩ := hs
    have z := ob i s h1 hs h2
    subst z
    exact ⟨b, rfl, hb⟩
  · refine (S.ok i s o h1 h2).grow g.ex (fun a ho ha hg hn => g.new a (fun z => ?_) hn hg) fun a u ho ha h => g.fr a u (fun z => ?_) h
    · subst z
      exact hs ⟨ho, ha⟩
    · subst z
      exact hs ⟨ho, ha⟩
theorem Sta.onlyBox (S : Sta K G H ρ σ) {i : Nat} {b : Addr} (h : ρ[i]? = some .box) (hb : σ[i]? = some (some (.ref b))) (j : Nat) (s : Sl) (h1 : ρ[j]? = some s) (h2 : owning s = true) (h3 : σ[j]? = some (some (.ref b))) : s = .box := by
  have e := S.dis i j .box s b h h1 rfl h2 hb h3
  subst e
  rw [h] at h1
  exact (Option.some.inj h1).symm
theorem call_core {m : Tr PyData} {X : Ek → Prop} {G1 H1 : Hp} {Q : VK} (S : Sta K G1 H1 ρ σ) (h : m.wp (Po K ρ σ (Rp K) G1 H1 Q) X) :
    m.wp (fun d => ∀ v G' H', Gr (fun _ => False) G1 H1 G' H' → Ex G' H' → Rp K G' v d → Q v H') X :=
  Tr.wp_mono (fun d hd v G' H' g e r => hd v G' H' (g.less fun _ z => z.elim) (S.grow g e) r) (fun _ z => z) h
theorem xo_all {E : XK} {O : Addr → Prop} {c : Ek} (h : Xo cl (some E) O H c) : Xo cl (some E) (fun _ => False) H c := fun H' k => h H' fun a o _ ha => k a o id ha
theorem ev_call {E : XK} {ta : TA} {n : Nat} {F : ∀ β : Type, (List PyData → Tr β) → Tr β} {m : List PyData → Tr PyData} (ha : EvA K cl (fun _ => some E) ta ρ n F) : Ev K cl (fun _ => some E) (tCall (SpP K cl n m) [] E ta) ρ (F _ m) :=
  fun G H σ S Q h => ha G H σ S (Rp K) m Q _ h fun ds vs G1 H1 g1 S1 rs hl h1 => ⟨ds, G1, by rw [List.append_nil]; exact rs, hl, S1.sub, call_core S1 (Tr.wp_mono (fun _ z => z) (fun _ => xo_all) h1)⟩
/-- of a def that may raise, where nothing may be raised -/
theorem ev_callP {ta : TA} {n : Nat} {F : ∀ β : Type, (List PyData → Tr β) → Tr β} {m : List PyData → Tr PyData} (ha : EvA K cl E ta ρ n F) : Ev K cl E (tCall (SpP K cl n m) [] E0 ta) ρ (F _ fun ds => (m ds).noX) :=
  fun G H σ S Q h => ha G H σ S (Rp K) (fun ds => (m ds).noX) Q _ h fun ds vs G1 H1 g1 S1 rs hl h1 => ⟨ds, G1, by rw [List.append_nil]; exact rs, hl, S1.sub, call_core S1 (Tr.wp_noX h1)⟩
/-- of a def that raises nothing -/
theorem ev_callN {ta : TA} {n : Nat} {F : ∀ β : Type, (List PyData → Tr β) → Tr β} {m : List PyData → Tr PyData} (ha : EvA K cl (fun _ => none) ta ρ n F) : Ev K cl (fun _ => none) (tCall (SpN K n m) [] E0 ta) ρ (F _ m) :=
  fun G H σ S Q h => ha G H σ S (Rp K) m Q _ h fun ds vs G1 H1 g1 S1 rs hl h1 => ⟨ds, G1, by rw [List.append_nil]; exact rs, hl, S1.sub, call_core S1 h1⟩
/-- .. where something may be raised -/
theorem ev_callX {ta : TA} {n : Nat} {F : ∀ β : Type, (List PyData → Tr β) → Tr β} {m : List PyData → Tr PyData} (ha : EvA K cl E ta ρ n F) : Ev K cl E (tCall (SpN K n m) [] E0 ta) ρ (F _ fun ds => (m ds).noX) :=
  fun G H σ S Q h => ha G H σ S (Rp K) (fun ds => (m ds).noX) Q _ h fun ds vs G1 H1 g1 S1 rs hl h1 => ⟨ds, G1, by rw [List.append_nil]; exact rs, hl, S1.sub, call_core S1 (Tr.wp_noX h1)⟩
theorem ev_callB {ta : TA} {n i : Nat} {F : ∀ β : Type, (List PyData → Tr β) → Tr β} {m : List PyData → Tr PyData} (hi : ρ[i]? = some .box) (ha : EvA K cl (fun _ => none) ta ρ n F) : Ev K cl (fun _ => none) (tCall (SpB K n m) [] E0 (tCons (tVar i) ta)) ρ (F _ m) :=
  fun G H σ S Q h => by
    obtain ⟨b, e, _, ow⟩ := S.box hi
    refine ⟨.ref b, e, ha G H σ S (Rp K) m Q _ h fun ds vs G1 H1 g1 S1 rs hl h1 => ?_⟩
    obtain ⟨b', e', hb, _⟩ := S1.box hi
    obtain rfl : b = b' := V.ref.inj (Option.some.inj (Option.some.inj (e.symm.trans e')))
    exact ⟨b, vs, ds, G1, by rw [List.append_nil], hb, rs, hl, S1.sub, Tr.wp_mono (fun d hd v G' H' g e2 hb' r => hd v G' H' (g.less fun x z => by rw [z]; exact ow) (S1.boxed (S1.onlyBox hi e) g e2 hb') r) (fun _ z => z) h1⟩
def mapT {α β : Type} (f : α → Tr β) : List α → Tr (List β)
  | [] => .ret []
  | x :: xs => (f x).bind fun y => (mapT f xs).bind fun ys => .ret (y :: ys)
def mapIf {α β : Type} (c : α → Tr Bool) (f : α → Tr β) : List α → Tr (List β)
  | [] => .ret []
  | x :: xs => (c x).bind fun b => if b then (f x).bind fun y => (mapIf c f xs).bind fun ys => .ret (y :: ys) else mapIf c f xs
/-- what comes of the rest of the turns, behind acc -/
def lcT (c : PyData → Tr Bool) (f : PyData → Tr PyData) : List PyData → List PyData → Tr (List PyData)
  | acc, [] => .ret acc
  | acc, x :: xs => (c x).bind fun b => if b then (f x).bind fun y => lcT c f (acc ++ [y]) xs else lcT c f acc xs
theorem lcT_if (c : PyData → Tr Bool) (f : PyData → Tr PyData) : ∀ (xs acc : List PyData), lcT c f acc xs = (mapIf c f xs).bind fun ys => .ret (acc ++ ys)
  | [], acc => by
    show Tr.ret acc = Tr.ret (acc ++ [])
    rw [List.append_nil]
  | x :: xs, acc => by
    show ((c x).bind fun b => if b then (f x).bind fun y => lcT c f (acc ++ [y]) xs else lcT c f acc xs) = ((c x).bind fun b => if b then (f x).bind fun y => (mapIf c f xs).bind fun ys => .ret (y :: ys) else mapIf c f xs).bind fun ys => .ret (acc ++ ys)
    rw [Tr.bind_assoc]
    congr
    funext b
    cases b with
    | true =>
      show ((f x).bind fun y => lcT c f (acc ++ [y]) xs) = ((f x).bind fun y => (mapIf c f xs).bind fun ys => .ret (y :: ys)).bind fun ys => .ret (acc ++ ys)
      rw [Tr.bind_assoc]
      congr
      funext y
      rw [lcT_if c f xs, Tr.bind_assoc]
      congr
      funext ys
      show Tr.ret (acc ++ [y] ++ ys) = Tr.ret (acc ++ (y :: ys))
      rw [List.append_assoc]
      rfl
    | false => exact lcT_if c f xs acc
/-- the new list at Dl, behind some turns -/
structure Lc (K : PySem.W.Frag) (ρ : List Sl) (σ : L2.St) (G H : Hp) (Dl : Addr) (acc : List PyData) (n : Nat) (G' H' : Hp) : Prop where
  gr : Gr (Owns ρ σ) G H G' H'
  st : Sta K G' H' ρ σ
  old : H Dl = none
  out : G' Dl = none
  at' : ∃ xs, H' Dl = some (.lst xs) ∧ RpAll K G' xs acc
  len : acc.length ≤ n
theorem Lc.own {Dl : Addr} {acc : List PyData} {n : Nat} {G' H' : Hp} (L : Lc K ρ σ G H Dl acc n G' H') (S : Sta K G H ρ σ) : ¬ Owns ρ σ Dl := fun z => (S.own z).2 L.old
theorem lc_start {Dl : Addr} (S : Sta K G H ρ σ) (hD : H Dl = none) : Lc K ρ σ G H Dl [] 0 G (upd H Dl (.lst [])) := by
  have g : Gr (Owns ρ σ) G H G (upd H Dl (.lst [])) := ⟨Ex.refl G, fun _ _ _ h => h, fun a o _ ha => by rw [upd_ne (ne_of_none ha hD)]; exact ha, fun a hn => by rw [upd_ne (fun z => hn (by rw [z]; exact hD))]; exact hn⟩
  refine ⟨g, ?_, hD, S.sub.back hD, ⟨[], upd_same, .nil⟩, Nat.le_refl _⟩
  refine ⟨S.len, fun a o ha => by rw [upd_ne (ne_of_none (S.sub a o ha) hD)]; exact S.sub a o ha, fun i s o h1 h2 => ?_, S.dis⟩
  exact (S.ok i s o h1 h2).grow (Ex.refl G) (fun _ _ _ hg _ => hg) fun a u _ _ ha => by rw [upd_ne (ne_of_none ha hD)]; exact ha
/-- one more item -/
theorem Lc.add {Dl : Addr} {acc : List PyData} {n : Nat} {G1 H1 : Hp} (L : Lc K ρ σ G H Dl acc n G1 H1) (S : Sta K G H ρ σ) {v : V} {d : PyData} (r : Rp K G1 v d) {xs : List V} (hx : H1 Dl = some (.lst xs)) (ha : RpAll K G1 xs acc) :
    Lc K ρ σ G H Dl (acc ++ [d]) (n + 1) G1 (upd H1 Dl (.lst (xs ++ [v]))) := by
  have no := L.own S
  have e : Ex G1 (upd H1 Dl (.lst (xs ++ [v]))) := fun a o h => by rw [upd_ne (ne_of_none h L.out)]; exact L.st.sub a o h
  refine ⟨⟨L.gr.ex, L.gr.new, fun a o hn h => ?_, fun a hn => ?_⟩, ⟨L.st.len, e, fun i s o h1 h2 => ?_, L.st.dis⟩, L.old, L.out, ⟨_, upd_same, ha.append (.cons r .nil)⟩, ?_⟩
  · rw [upd_ne (ne_of_none h L.old)]
    exact L.gr.fr a o hn h
  · by_cases z : a = Dl
    · rw [z, upd_same]
      exact fun q => nomatch q
    · rw [upd_ne z]
      exact L.gr.keep a hn
  · refine (L.st.ok i s o h1 h2).grow (Ex.refl G1) (fun _ _ _ hg _ => hg) fun a u ho hv h => ?_
    rw [upd_ne (fun z => no ?_)]
    · exact h
    · subst z
      subst hv
      exact ⟨i, s, h1, ho, h2⟩
  · rw [List.length_append]
    have := L.len
    show acc.length + 1 ≤ n + 1
    omega
/-- the list is handed out -/
theorem Lc.done {Dl : Addr} {acc : List PyData} {n : Nat} {G1 H1 : Hp} (L : Lc K ρ σ G H Dl acc n G1 H1) (S : Sta K G H ρ σ) (hn : n ≤ sizeLine) : ∃ G2, Gr (Owns ρ σ) G H G2 H1 ∧ Sta K G2 H1 ρ σ ∧ Rp K G2 (.ref Dl) (.list acc) := by
  obtain ⟨xs, hx, ha⟩ := L.at'
  have no := L.own S
  have e1 : Ex G1 (upd G1 Dl (.lst xs)) := Ex.new L.out
  refine ⟨upd G1 Dl (.lst xs), ⟨L.gr.ex.trans e1, fun a h1 h2 h3 => ?_, L.gr.fr, L.gr.keep⟩, ⟨L.st.len, fun a o h => ?_, fun i s o h1 h2 => ?_, L.st.dis⟩, .lst (SqL.of upd_same) (Nat.le_trans L.len hn) (ha.mono e1)⟩
  · rw [upd_ne (fun z => h2 (by rw [z]; exact L.old))]
    exact L.gr.new a h1 h2 h3
  · by_cases z : a = Dl
    · rw [z, upd_same] at h
      rw [z, hx, ← h]
    · rw [upd_ne z] at h
      exact L.st.sub a o h
  · refine (L.st.ok i s o h1 h2).grow e1 (fun a ho hv hg _ => ?_) fun _ _ _ _ h => h
    rw [upd_ne (fun z => no ?_)]
    · exact hg
    · subst z
      subst hv
      exact ⟨i, s, h1, ho, h2⟩
/-- what is ours under (ρ, σ) is ours under (ρ2, σ2), at its place -/
structure Kp (ρ : List Sl) (σ : L2.St) (ρ2 : List Sl) (σ2 : L2.St) : Prop where
  fwd : ∀ (i : Nat) (s : Sl), ρ[i]? = some s → owning s = true → ρ2[i]? = some s ∧ σ2[i]? = σ[i]?
  bwd : ∀ a, Owns ρ2 σ2 a → Owns ρ σ a
theorem Kp.trans {ρ1 ρ2 : List Sl} {σ1 σ2 : L2.St} (a : Kp ρ σ ρ1 σ1) (b : Kp ρ1 σ1 ρ2 σ2) : Kp ρ σ ρ2 σ2 :=
  ⟨fun i s h o => ⟨(b.fwd i s (a.fwd i s h o).1 o).1, (b.fwd i s (a.fwd i s h o).1 o).2.trans (a.fwd i s h o).2⟩, fun x h => a.bwd x (b.bwd x h)⟩
theorem Kp.own {ρ2 : List Sl} {σ2 : L2.St} (k : Kp ρ σ ρ2 σ2) {a : Addr} (h : Owns ρ σ a) : Owns ρ2 σ2 a := by
  obtain ⟨i, s, h1, h2, h3⟩ := h
  obtain ⟨q1, q2⟩ := k.fwd i s h1 h2
  exact ⟨i, s, q1, h2, q2.trans h3⟩
theorem Sta.back {ρ2 : List Sl} {σ2 : L2.St} (S : Sta K G H ρ σ) (k : Kp ρ σ ρ2 σ2) (e : Ex G G1) (S2 : Sta K G1 H1 ρ2 σ2) : Sta K G1 H1 ρ σ := by
  refine ⟨S.len, S2.sub, fun i s o h1 h2 => ?_, S.dis⟩
  by_cases ho : owning s = true
  · obtain ⟨q1, q2⟩ := k.fwd i s h1 ho
    exact S2.ok i s o q1 (q2.trans h2)
  · have q := S.ok i s o h1 h2
    cases s with
    | dat d =>
      obtain ⟨v, ev, r⟩ := q
      exact ⟨v, ev, r.mono e⟩
    | acc ds => exact absurd rfl ho
    | box => exact absurd rfl ho
    | obj R => exact absurd rfl ho
    | fz R =>
      obtain ⟨a, ob, ev, ha, hR⟩ := q
      exact ⟨a, ob, ev, e a ob ha, fun G2 e2 => hR G2 (e.trans e2)⟩
    | val v => exact q
    | any => trivial
theorem wipe_get {σ : L2.St} : ∀ (vs : List Nat) (k : Nat), (wipe σ vs)[k]? = if k ∈ vs ∧ k < σ.length then some none else σ[k]?
  | [], k => by
    rw [if_neg (fun z => nomatch z.1)]
    rfl
  | v :: vs, k => by
    show ((wipe σ vs).set v none)[k]? = _
    by_cases z : v = k
    · subst z
      by_cases hl : v < σ.length
      · rw [List.getElem?_set_self (by rw [wipe_length]; exact hl), if_pos ⟨List.mem_cons_self, hl⟩]
      · rw [if_neg (fun q => hl q.2), List.getElem?_eq_none_iff.mpr (by rw [List.length_set, wipe_length]; omega), List.getElem?_eq_none_iff.mpr (by omega)]
    · rw [List.getElem?_set_ne z, wipe_get vs k]
      by_cases hk : k ∈ vs ∧ k < σ.length
      · rw [if_pos hk, if_pos ⟨List.mem_cons_of_mem _ hk.1, hk.2⟩]
      · rw [if_neg hk, if_neg]
        rintro ⟨q1, q2⟩
        rcases List.mem_cons.mp q1 with q | q
        · exact z q.symm
        · exact hk ⟨q, q2⟩
theorem wipe_set {σ : L2.St} {i : Nat} {x : Option V} {vs : List Nat} (h : i ∈ vs) : wipe (σ.set i x) vs = wipe σ vs := by
  apply List.ext_getElem?
  intro k
  rw [wipe_get, wipe_get, List.length_set]
  by_cases hk : k ∈ vs ∧ k < σ.length
  · rw [if_pos hk, if_pos hk]
  · rw [if_neg hk, if_neg hk]
    by_cases z : i = k
    · subst z
      have hl : ¬ i < σ.length := fun q => hk ⟨h, q⟩
      rw [List.getElem?_eq_none_iff.mpr (by rw [List.length_set]; omega), List.getElem?_eq_none_iff.mpr (by omega)]
    · rw [List.getElem?_set_ne z]
theorem wipe_wipe {σ : L2.St} {vs : List Nat} : wipe (wipe σ vs) vs = wipe σ vs := by
  apply List.ext_getElem?
  intro k
  rw [wipe_get, wipe_length]
  by_cases hk : k ∈ vs ∧ k < σ.length
  · rw [if_pos hk, wipe_get, if_pos hk]
  · rw [if_neg hk]
theorem Sta.wiped (S : Sta K G H ρ σ) {vs : List Nat} (h : ∀ i ∈ vs, ρ[i]? = some .any) : Sta K G H ρ (wipe σ vs) ∧ Kp ρ σ ρ (wipe σ vs) := by
  have oth : ∀ (i : Nat) (s : Sl), ρ[i]? = some s → owning s = true → (wipe σ vs)[i]? = σ[i]? := fun i s h1 h2 => by
    rw [wipe_get, if_neg]
    rintro ⟨q, _⟩
    rw [h i q] at h1
    cases h1
    cases h2
  refine ⟨⟨by rw [wipe_length]; exact S.len, S.sub, fun i s o h1 h2 => ?_, fun i j si sj a h1 h2 h3 h4 h5 h6 => ?_⟩, ⟨fun i s h1 h2 => ⟨h1, oth i s h1 h2⟩, fun a q => ?_⟩⟩
  · rw [wipe_get] at h2
    by_cases hk : i ∈ vs ∧ i < σ.length
    · rw [h i hk.1] at h1
      cases h1
      trivial
    · rw [if_neg hk] at h2
      exact S.ok i s o h1 h2
  · rw [oth i si h1 h3] at h5
    rw [oth j sj h2 h4] at h6
    exact S.dis i j si sj a h1 h2 h3 h4 h5 h6
  · obtain ⟨i, s, h1, h2, h3⟩ := q
    rw [oth i s h1 h2] at h3
    exact ⟨i, s, h1, h2, h3⟩
/-- a slot that owns nothing takes data -/
theorem Sta.put (S : Sta K G H ρ σ) {i : Nat} {v : V} {d : PyData} (r : Rp K G v d) : Sta K G H (ρ.set i (.dat d)) (σ.set i (some v)) := by
  refine ⟨by rw [List.length_set, List.length_set]; exact S.len, S.sub, fun j s o h1 h2 => ?_, fun j k sj sk a h1 h2 h3 h4 h5 h6 => ?_⟩
  · by_cases z : i = j
    · subst z
      have hl : i < σ.length := by
        have := (List.getElem?_eq_some_iff.mp h2).1
        rwa [List.length_set] at this
      rw [List.getElem?_set_self (by rw [S.len]; exact hl)] at h1
      rw [List.getElem?_set_self hl] at h2
      cases h1
      cases h2
      exact ⟨v, rfl, r⟩
    · rw [List.getElem?_set_ne z] at h1 h2
      exact S.ok j s o h1 h2
  · have ne : ∀ (m : Nat) (t : Sl), (ρ.set i (.dat d))[m]? = some t → owning t = true → i ≠ m := fun m t q1 q2 z => by
      subst z
      have hl : i < ρ.length := by
        have := (List.getElem?_eq_some_iff.mp q1).1
        rwa [List.length_set] at this
      rw [List.getElem?_set_self hl] at q1
      cases q1
      cases q2
    have n1 := ne j sj h1 h3
    have n2 := ne k sk h2 h4
    rw [List.getElem?_set_ne n1] at h1 h5
    rw [List.getElem?_set_ne n2] at h2 h6
    exact S.dis j k sj sk a h1 h2 h3 h4 h5 h6
theorem owns_put {i : Nat} {v : V} {d : PyData} {a : Addr} (h : Owns (ρ.set i (.dat d)) (σ.set i (some v)) a) : Owns ρ σ a := by
  obtain ⟨j, s, h1, h2, h3⟩ := h
  by_cases z : i = j
  · subst z
    have hl : i < ρ.length := by
      have := (List.getElem?_eq_some_iff.mp h1).1
      rwa [List.length_set] at this
    rw [List.getElem?_set_self hl] at h1
    cases h1
    cases h2
  · rw [List.getElem?_set_ne z] at h1 h3
    exact ⟨j, s, h1, h2, h3⟩
/-- a slot that owns nothing -/
def nown (ρ : List Sl) (i : Nat) : Bool := match ρ[i]? with
  | some s => !owning s
  | none => true
theorem nown_of {i : Nat} (h : nown ρ i = true) : ∀ s, ρ[i]? = some s → owning s = false := fun s hs => by
  unfold nown at h
  rw [hs] at h
  simpa using h
theorem kp_put {i : Nat} {v : V} {d : PyData} (n : nown ρ i = true) : Kp ρ σ (ρ.set i (.dat d)) (σ.set i (some v)) := by
  refine ⟨fun j s h1 h2 => ?_, fun a => owns_put⟩
  have z : i ≠ j := fun z => by
    subst z
    rw [nown_of n s h1] at h2
    cases h2
  exact ⟨by rw [List.getElem?_set_ne z]; exact h1, List.getElem?_set_ne z⟩
/-- a target that takes data d, from ρ to ρ' d; its slots are vs -/
def TgR (R : Hp → V → PyData → Prop) (K : PySem.W.Frag) (g : TG) (vs : List Nat) (ρ : List Sl) (ρ' : PyData → List Sl) (ok : PyData → Bool) : Prop :=
  ∀ (G H : Hp) (σ : L2.St) (x : V) (d : PyData) (N : L2.St → Hp → Prop), Sta K G H ρ σ → R G x d → ok d = true → (∀ σ2, Sta K G H (ρ' d) σ2 → Kp ρ σ (ρ' d) σ2 → wipe σ2 vs = wipe σ vs → N σ2 H) → g x σ H N
abbrev Tg (K : PySem.W.Frag) := TgR (Rp K) K
/-- a value, or a tuple of such -/
def RpW (K : PySem.W.Frag) (G : Hp) (x : V) (d : PyData) : Prop := Rp K G x d ∨ ∃ a xs ds, x = .ref a ∧ d = .tuple ds ∧ SqT K G a xs ∧ RpAll K G xs ds
theorem RpW.tup {G : Hp} {x : V} {d : PyData} (h : RpW K G x d) (ht : ∃ ds, d = .tuple ds) : ∃ a xs ds, x = .ref a ∧ d = .tuple ds ∧ SqT K G a xs ∧ RpAll K G xs ds := by
  obtain ⟨ds, rfl⟩ := ht
  rcases h with h | h
  · cases h with
    | tup h l a p => exact ⟨_, _, _, rfl, rfl, h, a⟩
  · exact h
theorem tg_name {i : Nat} (hi : nown ρ i = true := by rfl) : Tg K (gName i) [i] ρ (fun d => ρ.set i (.dat d)) (fun _ => true) := fun G H σ x d N S r _ k =>
  k _ (S.put r) (kp_put hi) (wipe_set List.mem_cons_self)
def pair? : PyData → Option (PyData × PyData)
  | .tuple [a, b] => some (a, b)
  | _ => none
def trip? : PyData → Option (PyData × PyData × PyData)
  | .tuple [a, b, c] => some (a, b, c)
  | _ => none
theorem tg_tup2W {i j : Nat} (hi : nown ρ i = true := by rfl) (hj : nown ρ j = true := by rfl) (ne : i ≠ j := by decide) {vs : List Nat} (h1 : i ∈ vs := by decide) (h2 : j ∈ vs := by decide) :
    TgR (RpW K) K (gTup K 2 (gCons (gName i) (gCons (gName j) gNil))) vs ρ (fun d => match pair? d with | some (a, b) => (ρ.set i (.dat a)).set j (.dat b) | none => ρ) (fun d => (pair? d).isSome) := fun G H σ x d N S r ok k => by
  obtain ⟨p, xs, ds, rfl, rfl, hs, ha⟩ := r.tup (by
    cases d with
    | tuple ds => exact ⟨ds, rfl⟩
    | _ => cases ok)
  · match ds, ok with
    | [a, b], _ =>
      cases ha with
      | cons ra t =>
        cases t with
        | cons rb t =>
          cases t
          have n2 : nown (ρ.set i (.dat a)) j = true := by
            unfold nown
            rw [List.getElem?_set_ne ne]
            exact hj
          exact ⟨p, _, rfl, S.sub.t hs, rfl, _, _, rfl, _, _, rfl, rfl, k _ ((S.put ra).put rb) ((kp_put hi).trans (kp_put n2)) (by rw [wipe_set h2, wipe_set h1])⟩
theorem tg_tup2 {i j : Nat} (hi : nown ρ i = true := by rfl) (hj : nown ρ j = true := by rfl) (ne : i ≠ j := by decide) {vs : List Nat} (h1 : i ∈ vs := by decide) (h2 : j ∈ vs := by decide) :
    Tg K (gTup K 2 (gCons (gName i) (gCons (gName j) gNil))) vs ρ (fun d => match pair? d with | some (a, b) => (ρ.set i (.dat a)).set j (.dat b) | none => ρ) (fun d => (pair? d).isSome) := fun G H σ x d N S r ok k => tg_tup2W hi hj ne h1 h2 G H σ x d N S (.inl r) ok k
theorem tg_tup3W {i j l : Nat} (hi : nown ρ i = true := by rfl) (hj : nown ρ j = true := by rfl) (hk : nown ρ l = true := by rfl) (ne : i ≠ j := by decide) (ne2 : i ≠ l := by decide) (ne3 : j ≠ l := by decide) {vs : List Nat} (h1 : i ∈ vs := by decide) (h2 : j ∈ vs := by decide) (h3 : l ∈ vs := by decide) :
    TgR (RpW K) K (gTup K 3 (gCons (gName i) (gCons (gName j) (gCons (gName l) gNil)))) vs ρ (fun d => match trip? d with | some (a, b, c) => ((ρ.set i (.dat a)).set j (.dat b)).set l (.dat c) | none => ρ) (fun d => (trip? d).isSome) := fun G H σ x d N S r ok k => by
  obtain ⟨p, xs, ds, rfl, rfl, hs, ha⟩ := r.tup (by
    cases d with
    | tuple ds => exact ⟨ds, rfl⟩
    | _ => cases ok)
  · match ds, ok with
    | [a, b, c], _ =>
      cases ha with
      | cons ra t =>
        cases t with
        | cons rb t =>
          cases t with
          | cons rc t =>
            cases t
            have n2 : nown (ρ.set i (.dat a)) j = true := by
              unfold nown
              rw [List.getElem?_set_ne ne]
              exact hj
            have n3 : nown ((ρ.set i (.dat a)).set j (.dat b)) l = true := by
              unfold nown
              rw [List.getElem?_set_ne ne3, List.getElem?_set_ne ne2]
              exact hk
            exact ⟨p, _, rfl, S.sub.t hs, rfl, _, _, rfl, _, _, rfl, _, _, rfl, rfl, k _ (((S.put ra).put rb).put rc) (((kp_put hi).trans (kp_put n2)).trans (kp_put n3)) (by rw [wipe_set h3, wipe_set h2, wipe_set h1])⟩
theorem tg_tup3 {i j l : Nat} (hi : nown ρ i = true := by rfl) (hj : nown ρ j = true := by rfl) (hk : nown ρ l = true := by rfl) (ne : i ≠ j := by decide) (ne2 : i ≠ l := by decide) (ne3 : j ≠ l := by decide) {vs : List Nat} (h1 : i ∈ vs := by decide) (h2 : j ∈ vs := by decide) (h3 : l ∈ vs := by decide) :
    Tg K (gTup K 3 (gCons (gName i) (gCons (gName j) (gCons (gName l) gNil)))) vs ρ (fun d => match trip? d with | some (a, b, c) => ((ρ.set i (.dat a)).set j (.dat b)).set l (.dat c) | none => ρ) (fun d => (trip? d).isSome) := fun G H σ x d N S r ok k => tg_tup3W hi hj hk ne ne2 ne3 h1 h2 h3 G H σ x d N S (.inl r) ok k
theorem lc_turn (hE : ∀ a b, E a = E b) {g : TG} {tt : TT} {te : TE} {vs : List Nat} {ρx : PyData → List Sl} {ok : PyData → Bool} {c : PyData → Tr Bool} {f : PyData → Tr PyData} (hv : ∀ i ∈ vs, ρ[i]? = some .any) {R : Hp → V → PyData → Prop} (tg : TgR R K g vs ρ ρx ok) (hb : ∀ d, ok d = false → c d = .bad)
    (ht : ∀ d, ok d = true → EvT K cl E tt (ρx d) (c d)) (he : ∀ d, ok d = true → Ev K cl E te (ρx d) (f d)) {Q : VK} {Dl : Addr} (S : Sta K G H ρ σ) {acc : List PyData} {n : Nat} {G1 H1 : Hp} (L : Lc K ρ σ G H Dl acc n G1 H1) (hn : n < sizeLine)
    {x : V} {d : PyData} (r : R G1 x d) {ds : List PyData} {N : Hp → Prop} (hN : ∀ acc' G' H', Lc K ρ σ G H Dl acc' (n + 1) G' H' → ((lcT c f acc' ds).bind fun ys => .ret (.list ys)).wp (Po K ρ σ (Rp K) G H Q) (Xo cl (E σ) (Owns ρ σ) H) → N H')
    (h : ((lcT c f acc (d :: ds)).bind fun ys => .ret (.list ys)).wp (Po K ρ σ (Rp K) G H Q) (Xo cl (E σ) (Owns ρ σ) H)) :
    g x (wipe σ vs) H1 fun σ2 H2 => wipe σ2 vs = wipe σ vs ∧ tt σ2 H2 fun b H3 => if b = true then te σ2 H3 fun y H4 => ∃ acc, H4 Dl = some (.lst acc) ∧ acc.length < sizeLine ∧ N (upd H4 Dl (.lst (acc ++ [y]))) else N H3 := by
  have h0 : ((c d).bind fun b => if b then ((f d).bind fun y => (lcT c f (acc ++ [y]) ds).bind fun ys => .ret (.list ys)) else (lcT c f acc ds).bind fun ys => .ret (.list ys)).wp (Po K ρ σ (Rp K) G H Q) (Xo cl (E σ) (Owns ρ σ) H) := by
    have e : ((lcT c f acc (d :: ds)).bind fun ys => Tr.ret (PyData.list ys)) = ((c d).bind fun b => if b then ((f d).bind fun y => (lcT c f (acc ++ [y]) ds).bind fun ys => .ret (.list ys)) else (lcT c f acc ds).bind fun ys => .ret (.list ys)) := by
      show (((c d).bind fun b => if b then (f d).bind fun y => lcT c f (acc ++ [y]) ds else lcT c f acc ds).bind fun ys => Tr.ret (PyData.list ys)) = _
      rw [Tr.bind_assoc]
      congr
      funext b
      cases b with
      | true => exact Tr.bind_assoc _ _ _
      | false => rfl
    rw [← e]
    exact h
  have hok : ok d = true := by
    cases q : ok d with
    | true => rfl
    | false =>
      rw [hb d q] at h0
      exact h0.elim
  obtain ⟨S1, k1⟩ := L.st.wiped hv
  refine tg G1 H1 (wipe σ vs) x d _ S1 r hok fun σ2 S2 k2 ew => ⟨ew.trans wipe_wipe, ?_⟩
  have k : Kp ρ σ (ρx d) σ2 := k1.trans k2
  -- what the base wants of errors, told here
  have xo : ∀ {G3 H3 : Hp}, Gr (Owns ρ σ) G H G3 H3 → ∀ e, Xo cl (E σ) (Owns ρ σ) H e → Xo cl (E σ2) (Owns (ρx d) σ2) H3 e := fun g3 e hx => by
    rw [hE σ2 σ]
    cases q : E σ with
    | none => rw [q] at hx; exact hx
    | some E' =>
      rw [q] at hx
      exact fun H' fr => hx H' fun a o hn ha => fr a o (fun z => hn (k.bwd a z)) (g3.fr a o hn ha)
  have lift : ∀ {G2 H2 : Hp}, Gr (Owns (ρx d) σ2) G1 H1 G2 H2 → Sta K G2 H2 (ρx d) σ2 → Lc K ρ σ G H Dl acc n G2 H2 := fun g2 S3 => by
    have g2' : Gr (Owns ρ σ) G1 H1 _ _ := g2.less k.bwd
    have no := L.own S
    have noD : ¬ Owns (ρx d) σ2 Dl := fun z => no (k.bwd Dl z)
    obtain ⟨xs, hx, ha⟩ := L.at'
    exact ⟨L.gr.trans' g2', L.st.back k g2.ex S3, L.old, g2.new Dl noD (by rw [hx]; exact fun z => nomatch z) L.out, ⟨xs, g2.fr Dl _ noD hx, ha.mono g2.ex⟩, L.len⟩
  refine ht d hok G1 H1 σ2 S2 _ (Tr.wp_mono (fun b hb v G2 H2 g2 S3 ev => ?_) (fun e hx => xo L.gr e hx) (Tr.wp_bind.mp h0))
  cases ev
  have L2 := lift g2 S3
  cases b with
  | true =>
    refine he d hok G2 H2 σ2 S3 _ (Tr.wp_mono (fun y hy w G3 H3 g3 S4 ry => ?_) (fun e hx => xo L2.gr e hx) (Tr.wp_bind.mp hb))
    have L3 := lift (g2.trans' g3) S4
    obtain ⟨xs, hx, ha⟩ := L3.at'
    exact ⟨xs, hx, by rw [ha.len]; exact Nat.lt_of_le_of_lt L3.len hn, hN _ _ _ (L3.add S ry hx ha) hy⟩
  | false => exact hN _ _ _ ⟨L2.gr, L2.st, L2.old, L2.out, L2.at', Nat.le_succ_of_le L2.len⟩ hb
theorem drop_cons {α : Type} {xs : List α} {i : Nat} {x : α} (h : xs[i]? = some x) : xs.drop i = x :: xs.drop (i + 1) := by
  obtain ⟨hi, e⟩ := List.getElem?_eq_some_iff.mp h
  rw [← e]
  exact List.drop_eq_getElem_cons hi
/-- over a list or a tuple -/
theorem ev_lcS (hE : ∀ a b, E a = E b) {tl : TE} {g : TG} {tt : TT} {te : TE} {vs : List Nat} {ρx : PyData → List Sl} {ok : PyData → Bool} {fl : Tr PyData} {c : PyData → Tr Bool} {f : PyData → Tr PyData} (hl : Ev K cl E tl ρ fl) (hv : ∀ i ∈ vs, ρ[i]? = some .any) (tg : Tg K g vs ρ ρx ok) (hb : ∀ d, ok d = false → c d = .bad)
    (ht : ∀ d, ok d = true → EvT K cl E tt (ρx d) (c d)) (he : ∀ d, ok d = true → Ev K cl E te (ρx d) (f d)) : Ev K cl E (tLc (iSeq K tl) g tt te vs) ρ (fl.bind fun l => (items l).bind fun xs => (lcT c f [] xs).bind fun ys => .ret (.list ys)) :=
  fun G H σ S Q h => hl.seq S h fun l x G1 H1 g1 S1 rx h1 => by
    have fin : ∀ {Dl : Addr} {G' H' : Hp} {acc : List PyData} {n : Nat}, n ≤ sizeLine → Lc K ρ σ G1 H1 Dl acc n G' H' → ((lcT c f acc []).bind fun ys => Tr.ret (PyData.list ys)).wp (Po K ρ σ (Rp K) G1 H1 Q) (Xo cl (E σ) (Owns ρ σ) H1) → Q (.ref Dl) H' := fun hn L q => by
      obtain ⟨G2, g2, S2, r2⟩ := L.done S1 hn
      exact q _ G2 _ g2 S2 r2
    cases rx with
    | @lst p xs ds hs hz ha =>
      refine ⟨p, rfl, .inl ⟨⟨xs, S1.sub.l hs⟩, fun Dl hD => lc_list (K := K) (a := p) (xs := xs) (fun i H' => ∃ G' acc, Lc K ρ σ G1 H1 Dl acc i G' H' ∧ ((lcT c f acc (ds.drop i)).bind fun ys => Tr.ret (PyData.list ys)).wp (Po K ρ σ (Rp K) G1 H1 Q) (Xo cl (E σ) (Owns ρ σ) H1))
        ⟨G1, [], lc_start S1 hD, h1⟩ (fun i H' _ ⟨G', acc, L, _⟩ => L.st.sub.l (L.gr.ex.l hs)) (fun i x H' hi ⟨G', acc, L, q⟩ => ?_) fun H' ⟨G', acc, L, q⟩ => ?_⟩⟩
      · obtain ⟨d, hd, r⟩ := ha.getV hi
        have hlt := (List.getElem?_eq_some_iff.mp hd).1
        rw [drop_cons hd] at q
        exact lc_turn hE hv tg hb ht he S1 L (Nat.lt_of_lt_of_le hlt hz) (r.mono L.gr.ex) (fun acc' G'' H'' L' q' => ⟨G'', acc', L', q'⟩) q
      · rw [ha.len, List.drop_length] at q
        exact fin (by rw [ha.len]; exact hz) L q
    | @tup p xs ds hs hz ha hpl =>
      refine ⟨p, rfl, .inr ⟨⟨xs, S1.sub.t hs⟩, fun Dl hD => lc_tup (K := K) (a := p) (xs := xs) (fun i H' => ∃ G' acc, Lc K ρ σ G1 H1 Dl acc i G' H' ∧ ((lcT c f acc (ds.drop i)).bind fun ys => Tr.ret (PyData.list ys)).wp (Po K ρ σ (Rp K) G1 H1 Q) (Xo cl (E σ) (Owns ρ σ) H1))
        ⟨G1, [], lc_start S1 hD, h1⟩ (fun i H' _ ⟨G', acc, L, _⟩ => L.st.sub.t (L.gr.ex.t hs)) (fun i x H' hi ⟨G', acc, L, q⟩ => ?_) fun H' ⟨G', acc, L, q⟩ => ?_⟩⟩
      · obtain ⟨d, hd, r⟩ := ha.getV hi
        have hlt := (List.getElem?_eq_some_iff.mp hd).1
        rw [drop_cons hd] at q
        exact lc_turn hE hv tg hb ht he S1 L (Nat.lt_of_lt_of_le hlt hz) (r.mono L.gr.ex) (fun acc' G'' H'' L' q' => ⟨G'', acc', L', q'⟩) q
      · rw [ha.len, List.drop_length] at q
        exact fin (by rw [ha.len]; exact hz) L q
    | _ => exact h1.elim
/-- the numbers lo, lo + 1, .. , n of them -/
def rng (lo : Int) (n : Nat) : List PyData := (List.range n).map fun (i : Nat) => PyData.int (lo + (i : Int))
theorem rng_get {lo : Int} {n i : Nat} (h : i < n) : (rng lo n)[i]? = some (.int (lo + (i : Int))) := by
  unfold rng
  rw [List.getElem?_map, List.getElem?_range h]
  rfl
theorem rng_len (lo : Int) (n : Nat) : (rng lo n).length = n := by
  unfold rng
  rw [List.length_map, List.length_range]
/-- what a range walks: at most a million turns -/
def rangeT (lo hi : PyData) : Tr (List PyData) := match lo, hi with
  | .int a, .int b => if -(2 ^ 61) ≤ a ∧ a ≤ 2 ^ 61 ∧ -(2 ^ 61) ≤ b ∧ b ≤ 2 ^ 61 ∧ b - a ≤ 1000000 then .ret (rng a (b - a).toNat) else .bad
  | _, _ => .bad
theorem lc_rng (hE : ∀ a b, E a = E b) {g : TG} {tt : TT} {te : TE} {vs : List Nat} {ρx : PyData → List Sl} {ok : PyData → Bool} {c : PyData → Tr Bool} {f : PyData → Tr PyData} (hv : ∀ i ∈ vs, ρ[i]? = some .any) (tg : Tg K g vs ρ ρx ok) (hb : ∀ d, ok d = false → c d = .bad)
    (ht : ∀ d, ok d = true → EvT K cl E tt (ρx d) (c d)) (he : ∀ d, ok d = true → Ev K cl E te (ρx d) (f d)) {Q : VK} {lo : Int} {n : Nat} (hn : n ≤ 1000000) (S1 : Sta K G1 H1 ρ σ)
    (h1 : ((lcT c f [] (rng lo n)).bind fun ys => Tr.ret (PyData.list ys)).wp (Po K ρ σ (Rp K) G1 H1 Q) (Xo cl (E σ) (Owns ρ σ) H1)) {Dl : Addr} (hD : H1 Dl = none) :
    ∃ W : Nat → Nat → Hp → Prop, (∃ m, W 0 m (upd H1 Dl (.lst []))) ∧ ∀ i m H, W i m H →
      ((Itr lo n).stop i H ∧ Q (.ref Dl) H) ∨ ((Itr lo n).go i H ∧ ∃ Nx : Hp → Prop, (∀ H', Nx H' → ∃ m', m' < m ∧ W (i + 1) m' H') ∧ ∀ x H', (Itr lo n).yld i H x H' → g x (wipe σ vs) H' fun σ2 H2 => wipe σ2 vs = wipe σ vs ∧ tt σ2 H2 fun b H3 =>
        if b = true then te σ2 H3 fun y H4 => ∃ acc, H4 Dl = some (.lst acc) ∧ acc.length < sizeLine ∧ Nx (upd H4 Dl (.lst (acc ++ [y]))) else Nx H3) := by
  have hs : n ≤ sizeLine := by rw [sizeLine_eq]; omega
  refine lc_range (lo := lo) (n := n) (Qd := fun H => Q (.ref Dl) H) (fun i H' => ∃ G' acc, Lc K ρ σ G1 H1 Dl acc i G' H' ∧ ((lcT c f acc ((rng lo n).drop i)).bind fun ys => Tr.ret (PyData.list ys)).wp (Po K ρ σ (Rp K) G1 H1 Q) (Xo cl (E σ) (Owns ρ σ) H1))
    ⟨G1, [], lc_start S1 hD, h1⟩ (fun i H' hi ⟨G', acc, L, q⟩ => ?_) fun H' ⟨G', acc, L, q⟩ => ?_
  · rw [drop_cons (rng_get hi)] at q
    exact lc_turn hE hv tg hb ht he S1 L (Nat.lt_of_lt_of_le hi hs) (.int _) (fun acc' G'' H'' L' q' => ⟨G'', acc', L', q'⟩) q
  · have e : (rng lo n).drop n = [] := List.drop_eq_nil_of_le (by rw [rng_len]; exact Nat.le_refl _)
    rw [e] at q
    obtain ⟨G2, g2, S2, r2⟩ := L.done S1 hs
    exact q _ G2 _ g2 S2 r2
theorem ev_lcR1 (hE : ∀ a b, E a = E b) {ta : TE} {g : TG} {tt : TT} {te : TE} {vs : List Nat} {ρx : PyData → List Sl} {ok : PyData → Bool} {fa : Tr PyData} {c : PyData → Tr Bool} {f : PyData → Tr PyData} (ha : Ev K cl E ta ρ fa) (hv : ∀ i ∈ vs, ρ[i]? = some .any) (tg : Tg K g vs ρ ρx ok) (hb : ∀ d, ok d = false → c d = .bad)
    (ht : ∀ d, ok d = true → EvT K cl E tt (ρx d) (c d)) (he : ∀ d, ok d = true → Ev K cl E te (ρx d) (f d)) : Ev K cl E (tLc (iRng1 (tCons ta tNil)) g tt te vs) ρ (fa.bind fun a => (rangeT (.int 0) a).bind fun xs => (lcT c f [] xs).bind fun ys => .ret (.list ys)) :=
  fun G H σ S Q h => ha.seq S h fun a x G1 H1 g1 S1 rx h1 => by
    cases rx with
    | int b =>
      have h2 : ((if -(2 ^ 61) ≤ (0 : Int) ∧ (0 : Int) ≤ 2 ^ 61 ∧ -(2 ^ 61) ≤ b ∧ b ≤ 2 ^ 61 ∧ b - 0 ≤ 1000000 then Tr.ret (rng 0 (b - 0).toNat) else .bad).bind fun xs => (lcT c f [] xs).bind fun ys => Tr.ret (PyData.list ys)).wp (Po K ρ σ (Rp K) G1 H1 Q) (Xo cl (E σ) (Owns ρ σ) H1) := h1
      split at h2
      · rename_i hz
        refine ⟨b, rfl, by omega, by omega, fun Dl hD => ?_⟩
        have e : (b - 0).toNat = b.toNat := by omega
        rw [e] at h2
        exact lc_rng hE hv tg hb ht he (by omega) S1 h2 hD
      · exact h2.elim
    | _ => exact h1.elim
theorem ev_lcR2 (hE : ∀ a b, E a = E b) {ta tb : TE} {g : TG} {tt : TT} {te : TE} {vs : List Nat} {ρx : PyData → List Sl} {ok : PyData → Bool} {fa fb : Tr PyData} {c : PyData → Tr Bool} {f : PyData → Tr PyData} (ha : Ev K cl E ta ρ fa) (hb2 : Ev K cl E tb ρ fb) (hv : ∀ i ∈ vs, ρ[i]? = some .any) (tg : Tg K g vs ρ ρx ok) (hb : ∀ d, ok d = false → c d = .bad)
    (ht : ∀ d, ok d = true → EvT K cl E tt (ρx d) (c d)) (he : ∀ d, ok d = true → Ev K cl E te (ρx d) (f d)) : Ev K cl E (tLc (iRng2 (tCons ta (tCons tb tNil))) g tt te vs) ρ (fa.bind fun a => fb.bind fun b => (rangeT a b).bind fun xs => (lcT c f [] xs).bind fun ys => .ret (.list ys)) :=
  fun G H σ S Q h => ha.seq S h fun a x G1 H1 g1 S1 rx h1 => hb2.seq S1 h1 fun b y G2 H2 g2 S2 ry h2 => by
    cases rx with
    | int a =>
      cases ry with
      | int b =>
        have h3 : ((if -(2 ^ 61) ≤ a ∧ a ≤ 2 ^ 61 ∧ -(2 ^ 61) ≤ b ∧ b ≤ 2 ^ 61 ∧ b - a ≤ 1000000 then Tr.ret (rng a (b - a).toNat) else .bad).bind fun xs => (lcT c f [] xs).bind fun ys => Tr.ret (PyData.list ys)).wp (Po K ρ σ (Rp K) G2 H2 Q) (Xo cl (E σ) (Owns ρ σ) H2) := h2
        split at h3
        · rename_i hz
          exact ⟨a, b, rfl, ⟨by omega, by omega, by omega, by omega⟩, fun Dl hD => lc_rng hE hv tg hb ht he (by omega) S2 h3 hD⟩
        · exact h3.elim
      | _ => exact h2.elim
    | _ =>
      cases ry <;> exact h2.elim
end
end Cg
namespace Cg
open PySem L2
section
variable {K : PySem.W.Frag} {cl : Ek → Addr} {E : L2.St → Option XK} {ρ : List Sl} {σ : L2.St} {G H G1 H1 : Hp}
theorem EvG.eq {W α : Type} {Rel : Hp → W → α → Prop} {te : L2.St → Hp → (W → Hp → Prop) → Prop} {t t' : Tr α} (h : EvG K cl E Rel te ρ t) (e : t = t') : EvG K cl E Rel te ρ t' := by
  rw [← e]
  exact h
def un2 {α : Type} (f : PyData → PyData → Tr α) (d : PyData) : Tr α := match pair? d with
  | some (a, b) => f a b
  | none => .bad
def un3 {α : Type} (f : PyData → PyData → PyData → Tr α) (d : PyData) : Tr α := match trip? d with
  | some (a, b, c) => f a b c
  | none => .bad
theorem lc_map {f : PyData → Tr PyData} {c : PyData → Tr Bool} (h : ∀ d, c d = .ret true ∨ (c d = .bad ∧ f d = .bad)) (xs : List PyData) : ((lcT c f [] xs).bind fun ys => Tr.ret (PyData.list ys)) = (mapT f xs).bind fun ys => .ret (.list ys) := by
  rw [lcT_if, Tr.bind_assoc]
  have e : mapIf c f xs = mapT f xs := by
    induction xs with
    | nil => rfl
    | cons x xs ih =>
      show ((c x).bind fun b => if b then (f x).bind fun y => (mapIf c f xs).bind fun ys => .ret (y :: ys) else mapIf c f xs) = (f x).bind fun y => (mapT f xs).bind fun ys => .ret (y :: ys)
      rcases h x with h | ⟨h1, h2⟩
      · rw [h, ih]
        rfl
      · rw [h1, h2]
        rfl
  rw [e]
  rfl
theorem lc_mapIf {f : PyData → Tr PyData} {c : PyData → Tr Bool} (xs : List PyData) : ((lcT c f [] xs).bind fun ys => Tr.ret (PyData.list ys)) = (mapIf c f xs).bind fun ys => .ret (.list ys) := by
  rw [lcT_if, Tr.bind_assoc]
  rfl
section
variable {tl ta tb te : TE} {tt : TT} {fl fa fb : Tr PyData} {i j l : Nat}
theorem any_of {vs : List Nat} (h : vs.all (fun i => match ρ[i]? with | some .any => true | _ => false) = true) : ∀ i ∈ vs, ρ[i]? = some .any := fun i hi => by
  have q := List.all_eq_true.mp h i hi
  cases e : ρ[i]? with
  | none =>
    rw [e] at q
    cases q
  | some s =>
    rw [e] at q
    cases s <;> first
      | rfl
      | cases q
/-- [e for x in l] -/
theorem ev_lcS1 (hE : ∀ a b, E a = E b) {f : PyData → Tr PyData} (hl : Ev K cl E tl ρ fl) (hv : ρ[i]? = some .any) (he : ∀ d, Ev K cl E te (ρ.set i (.dat d)) (f d)) :
    Ev K cl E (tLc (iSeq K tl) (gName i) tYes te [i]) ρ (fl.bind fun l => (items l).bind fun xs => (mapT f xs).bind fun ys => .ret (.list ys)) := by
  refine (ev_lcS hE (c := fun _ => .ret true) hl (fun j hj => by cases List.mem_singleton.mp hj; exact hv) (tg_name (by unfold nown; rw [hv]; rfl)) (fun _ q => nomatch q) (fun d _ => et_yes) fun d _ => he d).eq ?_
  congr; funext l; congr; funext xs
  exact lc_map (fun _ => .inl rfl) xs
/-- [e for x in l if c] -/
theorem ev_lcS1i (hE : ∀ a b, E a = E b) {c : PyData → Tr Bool} {f : PyData → Tr PyData} (hl : Ev K cl E tl ρ fl) (hv : ρ[i]? = some .any) (ht : ∀ d, EvT K cl E tt (ρ.set i (.dat d)) (c d)) (he : ∀ d, Ev K cl E te (ρ.set i (.dat d)) (f d)) :
    Ev K cl E (tLc (iSeq K tl) (gName i) tt te [i]) ρ (fl.bind fun l => (items l).bind fun xs => (mapIf c f xs).bind fun ys => .ret (.list ys)) := by
  refine (ev_lcS hE (c := c) hl (fun j hj => by cases List.mem_singleton.mp hj; exact hv) (tg_name (by unfold nown; rw [hv]; rfl)) (fun _ q => nomatch q) (fun d _ => ht d) fun d _ => he d).eq ?_
  congr; funext l; congr; funext xs
  exact lc_mapIf xs
theorem ev_lcR1n (hE : ∀ a b, E a = E b) {f : PyData → Tr PyData} (ha : Ev K cl E ta ρ fa) (hv : ρ[i]? = some .any) (he : ∀ d, Ev K cl E te (ρ.set i (.dat d)) (f d)) :
    Ev K cl E (tLc (iRng1 (tCons ta tNil)) (gName i) tYes te [i]) ρ (fa.bind fun a => (rangeT (.int 0) a).bind fun xs => (mapT f xs).bind fun ys => .ret (.list ys)) := by
  refine (ev_lcR1 hE (c := fun _ => .ret true) ha (fun j hj => by cases List.mem_singleton.mp hj; exact hv) (tg_name (by unfold nown; rw [hv]; rfl)) (fun _ q => nomatch q) (fun d _ => et_yes) fun d _ => he d).eq ?_
  congr; funext l; congr; funext xs
  exact lc_map (fun _ => .inl rfl) xs
theorem ev_lcR2n (hE : ∀ a b, E a = E b) {f : PyData → Tr PyData} (ha : Ev K cl E ta ρ fa) (hb : Ev K cl E tb ρ fb) (hv : ρ[i]? = some .any) (he : ∀ d, Ev K cl E te (ρ.set i (.dat d)) (f d)) :
    Ev K cl E (tLc (iRng2 (tCons ta (tCons tb tNil))) (gName i) tYes te [i]) ρ (fa.bind fun a => fb.bind fun b => (rangeT a b).bind fun xs => (mapT f xs).bind fun ys => .ret (.list ys)) := by
  refine (ev_lcR2 hE (c := fun _ => .ret true) ha hb (fun j hj => by cases List.mem_singleton.mp hj; exact hv) (tg_name (by unfold nown; rw [hv]; rfl)) (fun _ q => nomatch q) (fun d _ => et_yes) fun d _ => he d).eq ?_
  congr; funext a; congr; funext b; congr; funext xs
  exact lc_map (fun _ => .inl rfl) xs
/-- [e for a, b in l] -/
theorem ev_lcS2 (hE : ∀ a b, E a = E b) {f : PyData → PyData → Tr PyData} (hl : Ev K cl E tl ρ fl) (hv : ([i, j].all fun i => match ρ[i]? with | some .any => true | _ => false) = true) (he : ∀ a b, Ev K cl E te ((ρ.set i (.dat a)).set j (.dat b)) (f a b)) (hi : nown ρ i = true := by rfl) (hj : nown ρ j = true := by rfl) (ne : i ≠ j := by decide) :
    Ev K cl E (tLc (iSeq K tl) (gTup K 2 (gCons (gName i) (gCons (gName j) gNil))) tYes te [i, j]) ρ (fl.bind fun l => (items l).bind fun xs => (mapT (un2 f) xs).bind fun ys => .ret (.list ys)) := by
  refine (ev_lcS hE (c := un2 fun _ _ => .ret true) (f := un2 f) hl (any_of hv) (tg_tup2 hi hj ne List.mem_cons_self (List.mem_cons_of_mem _ List.mem_cons_self)) (fun d q => ?_) (fun d q => ?_) fun d q => ?_).eq ?_
  · unfold un2
    cases e : pair? d with
    | none => rfl
    | some p => rw [e] at q; cases q
  · unfold un2
    cases e : pair? d with
    | none => rw [e] at q; cases q
    | some p => exact et_yes
  · unfold un2
    cases e : pair? d with
    | none => rw [e] at q; cases q
    | some p => exact he p.1 p.2
  · congr; funext l; congr; funext xs
    refine lc_map (fun d => ?_) xs
    unfold un2
    cases e : pair? d with
    | none => exact .inr ⟨rfl, rfl⟩
    | some p => exact .inl rfl
theorem ev_lcS2i (hE : ∀ a b, E a = E b) {c : PyData → PyData → Tr Bool} {f : PyData → PyData → Tr PyData} (hl : Ev K cl E tl ρ fl) (hv : ([i, j].all fun i => match ρ[i]? with | some .any => true | _ => false) = true) (ht : ∀ a b, EvT K cl E tt ((ρ.set i (.dat a)).set j (.dat b)) (c a b)) (he : ∀ a b, Ev K cl E te ((ρ.set i (.dat a)).set j (.dat b)) (f a b)) (hi : nown ρ i = true := by rfl) (hj : nown ρ j = true := by rfl) (ne : i ≠ j := by decide) :
    Ev K cl E (tLc (iSeq K tl) (gTup K 2 (gCons (gName i) (gCons (gName j) gNil))) tt te [i, j]) ρ (fl.bind fun l => (items l).bind fun xs => (mapIf (un2 c) (un2 f) xs).bind fun ys => .ret (.list ys)) := by
  refine (ev_lcS hE (c := un2 c) (f := un2 f) hl (any_of hv) (tg_tup2 hi hj ne List.mem_cons_self (List.mem_cons_of_mem _ List.mem_cons_self)) (fun d q => ?_) (fun d q => ?_) fun d q => ?_).eq ?_
  · unfold un2
    cases e : pair? d with
    | none => rfl
    | some p => rw [e] at q; cases q
  · unfold un2
    cases e : pair? d with
    | none => rw [e] at q; cases q
    | some p => exact ht p.1 p.2
  · unfold un2
    cases e : pair? d with
    | none => rw [e] at q; cases q
    | some p => exact he p.1 p.2
  · congr; funext l; congr; funext xs
    exact lc_mapIf xs
theorem ev_lcS3 (hE : ∀ a b, E a = E b) {f : PyData → PyData → PyData → Tr PyData} (hl : Ev K cl E tl ρ fl) (hv : ([i, j, l].all fun i => match ρ[i]? with | some .any => true | _ => false) = true) (he : ∀ a b c, Ev K cl E te (((ρ.set i (.dat a)).set j (.dat b)).set l (.dat c)) (f a b c)) (hi : nown ρ i = true := by rfl) (hj : nown ρ j = true := by rfl) (hk : nown ρ l = true := by rfl) (ne : i ≠ j := by decide) (ne2 : i ≠ l := by decide) (ne3 : j ≠ l := by decide) :
    Ev K cl E (tLc (iSeq K tl) (gTup K 3 (gCons (gName i) (gCons (gName j) (gCons (gName l) gNil)))) tYes te [i, j, l]) ρ (fl.bind fun l => (items l).bind fun xs => (mapT (un3 f) xs).bind fun ys => .ret (.list ys)) := by
  refine (ev_lcS hE (c := un3 fun _ _ _ => .ret true) (f := un3 f) hl (any_of hv) (tg_tup3 hi hj hk ne ne2 ne3 List.mem_cons_self (List.mem_cons_of_mem _ List.mem_cons_self) (List.mem_cons_of_mem _ (List.mem_cons_of_mem _ List.mem_cons_self))) (fun d q => ?_) (fun d q => ?_) fun d q => ?_).eq ?_
  · unfold un3
    cases e : trip? d with
    | none => rfl
    | some p => rw [e] at q; cases q
  · unfold un3
    cases e : trip? d with
    | none => rw [e] at q; cases q
    | some p => exact et_yes
  · unfold un3
    cases e : trip? d with
    | none => rw [e] at q; cases q
    | some p => exact he p.1 p.2.1 p.2.2
  · congr; funext l; congr; funext xs
    refine lc_map (fun d => ?_) xs
    unfold un3
    cases e : trip? d with
    | none => exact .inr ⟨rfl, rfl⟩
    | some p => exact .inl rfl
end
/-- how a block ends: on, with an answer, out of the loop, to the next turn -/
inductive Ct (S : Type) where
  | nx (s : S)
  | rt (d : PyData)
  | bk (s : S)
  | ct (s : S)
/-- the box that was handed in -/
def Box0 (ρ : List Sl) (σ : L2.St) (b : Addr) : Prop := ρ[0]? = some .box ∧ σ[0]? = some (some (V.ref b))
/-- from one place of a body to a later one -/
structure Af (K : PySem.W.Frag) (ρ : List Sl) (σ : L2.St) (G H : Hp) (ρ' : List Sl) (σ' : L2.St) (G' H' : Hp) : Prop where
  gr : Gr (Owns ρ σ) G H G' H'
  st : Sta K G' H' ρ' σ'
  ow : ∀ a, Owns ρ' σ' a → Owns ρ σ a ∨ H a = none
  bx : ∀ b, Box0 ρ σ b → Box0 ρ' σ' b
theorem Af.ev (g : Gr (Owns ρ σ) G H G1 H1) (S : Sta K G1 H1 ρ σ) : Af K ρ σ G H ρ σ G1 H1 := ⟨g, S, fun _ h => .inl h, fun _ h => h⟩
theorem Af.trans {ρ1 ρ2 : List Sl} {σ1 σ2 : L2.St} {G2 H2 : Hp} (a : Af K ρ σ G H ρ1 σ1 G1 H1) (b : Af K ρ1 σ1 G1 H1 ρ2 σ2 G2 H2) : Af K ρ σ G H ρ2 σ2 G2 H2 := by
  refine ⟨a.gr.trans b.gr a.ow, b.st, fun x h => ?_, fun x h => b.bx x (a.bx x h)⟩
  rcases b.ow x h with h | h
  · exact a.ow x h
  · cases e : H x with
    | none => exact .inr rfl
    | some o => exact absurd h (a.gr.keep x (by rw [e]; exact fun z => nomatch z))
def OutP {S : Type} (K : PySem.W.Frag) (ρ : List Sl) (σ : L2.St) (G H : Hp) (ρ' : S → List Sl) (D : Ends) : Ct S → Prop
  | .nx s => ∀ σ' G' H', Af K ρ σ G H (ρ' s) σ' G' H' → D.nx σ' H'
  | .rt d => ∀ v G' H', Gr (Owns ρ σ) G H G' H' → Ex G' H' → (∀ b, Box0 ρ σ b → BoxOk K G' H' b) → Rp K G' v d → D.rt v H'
  | .bk s => ∀ σ' G' H', Af K ρ σ G H (ρ' s) σ' G' H' → D.bk σ' H'
  | .ct s => ∀ σ' G' H', Af K ρ σ G H (ρ' s) σ' G' H' → D.ct σ' H'
def StG {S β : Type} (K : PySem.W.Frag) (cl : Ek → Addr) (E : L2.St → Option XK) (oc : β → Ct S) (ρ' : S → List Sl) (ts : TS) (ρ : List Sl) (t : Tr β) : Prop :=
  ∀ G H σ, Sta K G H ρ σ → ∀ D : Ends, t.wp (fun b => OutP K ρ σ G H ρ' D (oc b)) (Xo cl (E σ) (Owns ρ σ) H) → ts D σ H
section
variable {S β : Type} {oc : β → Ct S} {ρ' : S → List Sl} {ρ1 : List Sl} {σ1 : L2.St} {D : Ends}
theorem OutP.up (a : Af K ρ σ G H ρ1 σ1 G1 H1) : ∀ {c : Ct S}, OutP K ρ σ G H ρ' D c → OutP K ρ1 σ1 G1 H1 ρ' D c
  | .nx s, h => fun σ' G' H' b => h σ' G' H' (a.trans b)
  | .rt d, h => fun v G' H' g e hb r => h v G' H' (a.gr.trans g a.ow) e (fun b z => hb b (a.bx b z)) r
  | .bk s, h => fun σ' G' H' b => h σ' G' H' (a.trans b)
  | .ct s, h => fun σ' G' H' b => h σ' G' H' (a.trans b)
theorem Af.xo {E : Option XK} (a : Af K ρ σ G H ρ1 σ1 G1 H1) {c : Ek} (h : Xo cl E (Owns ρ σ) H c) : Xo cl E (Owns ρ1 σ1) H1 c := by
  cases E with
  | none => exact h
  | some E => exact fun H' k => h H' fun x o hn hx => k x o (fun z => by
      rcases a.ow x z with z | z
      · exact hn z
      · rw [hx] at z
        cases z) (a.gr.fr x o hn hx)
theorem upS (hE : ∀ a b, E a = E b) (a : Af K ρ σ G H ρ1 σ1 G1 H1) {t : Tr β} (h : t.wp (fun b => OutP K ρ σ G H ρ' D (oc b)) (Xo cl (E σ) (Owns ρ σ) H)) : t.wp (fun b => OutP K ρ1 σ1 G1 H1 ρ' D (oc b)) (Xo cl (E σ1) (Owns ρ1 σ1) H1) :=
  Tr.wp_mono (fun _ => OutP.up a) (fun _ q => by rw [hE σ1 σ]; exact a.xo q) h
/-- an expression, then what the statement makes of it -/
theorem EvG.then {W α : Type} {Rel : Hp → W → α → Prop} {te : L2.St → Hp → (W → Hp → Prop) → Prop} {f : Tr α} {g : α → Tr β} (h : EvG K cl E Rel te ρ f) (hS : Sta K G H ρ σ) {R : W → Hp → Prop}
    (hw : (f.bind g).wp (fun b => OutP K ρ σ G H ρ' D (oc b)) (Xo cl (E σ) (Owns ρ σ) H))
    (k : ∀ d v G1 H1, Af K ρ σ G H ρ σ G1 H1 → Rel G1 v d → (g d).wp (fun b => OutP K ρ σ G1 H1 ρ' D (oc b)) (Xo cl (E σ) (Owns ρ σ) H1) → R v H1) : te σ H R :=
  h G H σ hS R (Tr.wp_mono (fun d hd v G' H' g' S' r => k d v G' H' (.ev g' S') r (Tr.wp_mono (fun _ => OutP.up (.ev g' S')) (fun _ => (Af.ev g' S').xo) hd)) (fun _ x => x) (Tr.wp_bind.mp hw))
/-- the end of a block -/
inductive Wk : List Sl → List Sl → Prop
  | nil : Wk [] []
  | same (s : Sl) {a b : List Sl} : Wk a b → Wk (s :: a) (s :: b)
  | any {s : Sl} {a b : List Sl} (h : (match s with | .box => false | _ => true) = true) : Wk a b → Wk (s :: a) (.any :: b)
theorem Wk.len : ∀ {a b : List Sl}, Wk a b → a.length = b.length
  | _, _, .nil => rfl
  | _, _, .same _ h => congrArg (· + 1) h.len
  | _, _, .any _ h => congrArg (· + 1) h.len
theorem Wk.at : ∀ {a b : List Sl}, Wk a b → ∀ (i : Nat) (s : Sl), b[i]? = some s → a[i]? = some s ∨ s = .any
  | _, _, .nil, i, s, e => by simp at e
  | _, _, .same t h, 0, s, e => by
    simp at e
    subst e
    exact .inl rfl
  | _, _, .same t h, i + 1, s, e => by
    simpa using h.at i s (by simpa using e)
  | _, _, .any q h, 0, s, e => by
    simp at e
    exact .inr e.symm
  | _, _, .any q h, i + 1, s, e => by
    simpa using h.at i s (by simpa using e)
theorem Wk.box : ∀ {a b : List Sl}, Wk a b → a[0]? = some .box → b[0]? = some .box
  | _, _, .nil, e => by simp at e
  | _, _, .same t h, e => e
  | _, _, .any q h, e => by
    simp at e
    subst e
    cases q
theorem Wk.af {ρ1 : List Sl} (w : Wk ρ ρ1) (hS : Sta K G H ρ σ) : Af K ρ σ G H ρ1 σ G H := by
  refine ⟨Gr.refl, ⟨by rw [← w.len]; exact hS.len, hS.sub, fun i s o h1 h2 => ?_, fun i j si sj a h1 h2 h3 h4 h5 h6 => ?_⟩, fun a h => .inl ?_, fun b h => ⟨w.box h.1, h.2⟩⟩
  · rcases w.at i s h1 with h | h
    · exact hS.ok i s o h h2
    · subst h
      trivial
  · rcases w.at i si h1 with q1 | q1
    · rcases w.at j sj h2 with q2 | q2
      · exact hS.dis i j si sj a q1 q2 h3 h4 h5 h6
      · subst q2
        cases h4
    · subst q1
      cases h3
  · obtain ⟨i, s, h1, h2, h3⟩ := h
    rcases w.at i s h1 with q | q
    · exact ⟨i, s, q, h2, h3⟩
    · subst q
      cases h2
theorem st_nx {b : β} {s : S} (h : oc b = .nx s) (w : Wk ρ (ρ' s)) : StG K cl E oc ρ' tNext ρ (.ret b) := fun G H σ hS D q => by
  have q' : OutP K ρ σ G H ρ' D (oc b) := q
  rw [h] at q'
  exact q' σ G H (w.af hS)
theorem rt_out {r : PyData → β} (hr : ∀ d, oc (r d) = .rt d) {te : TE} {f : Tr PyData} (h : Ev K cl E te ρ f) (hS : Sta K G H ρ σ) (q : (f.bind fun d => Tr.ret (r d)).wp (fun b => OutP K ρ σ G H ρ' D (oc b)) (Xo cl (E σ) (Owns ρ σ) H)) : te σ H D.rt :=
  h.then (g := fun d => Tr.ret (r d)) hS q fun d v G1 H1 a rv w => by
    have w' : OutP K ρ σ G1 H1 ρ' D (oc (r d)) := w
    rw [hr d] at w'
    refine w' v G1 H1 Gr.refl a.st.sub (fun b z => ?_) rv
    obtain ⟨o, h1, b', e, hb⟩ := a.st.var z.1
    rw [z.2] at h1
    cases h1
    cases e
    exact hb
/-- return e: where more may follow in a loop -/
theorem st_rt {r : PyData → β} (hr : ∀ d, oc (r d) = .rt d) {te : TE} {f : Tr PyData} {u : TS} (h : Ev K cl E te ρ f) : StG K cl E oc ρ' (tSeq (tRet te) u) ρ (f.bind fun d => .ret (r d)) := fun G H σ hS D q => rt_out (D := D) hr h hS q
/-- name = e -/
theorem st_asg (hE : ∀ a b, E a = E b) {i : Nat} {te : TE} {f : Tr PyData} {g : PyData → Tr β} {u : TS} (h : Ev K cl E te ρ f) (k : ∀ d, StG K cl E oc ρ' u (ρ.set i (.dat d)) (g d)) (n : nown ρ i = true := by rfl) : StG K cl E oc ρ' (tSeq (tAsg te (gName i)) u) ρ (f.bind g) :=
  fun G H σ hS D q => h.then (g := g) hS q fun d v G1 H1 a rv w => by
    have kp := kp_put (σ := σ) (v := v) (d := d) n
    have a2 : Af K ρ σ G1 H1 (ρ.set i (.dat d)) (σ.set i (some v)) G1 H1 := ⟨Gr.refl, a.st.put rv, fun x z => .inl (kp.bwd x z), fun b z => by
      obtain ⟨q1, q2⟩ := kp.fwd 0 .box z.1 rfl
      exact ⟨q1, q2.trans z.2⟩⟩
    exact k d G1 H1 (σ.set i (some v)) (a.st.put rv) D (upS hE a2 w)
/-- if c: (it ends) -/
theorem st_if {tc : TT} {t u : TS} {fc : Tr Bool} {ft fu : Tr β} (hc : EvT K cl E tc ρ fc) (ht : StG K cl E oc ρ' t ρ ft) (hu : StG K cl E oc ρ' u ρ fu) (nn : ∀ (D : Ends) (n : L2.St → Hp → Prop), t { D with nx := n } = t D := by intros; rfl) :
    StG K cl E oc ρ' (tSeq (tIfS tc t tNext) u) ρ (fc.bind fun b => if b then ft else fu) := fun G H σ hS D q => hc.then (g := fun b => if b then ft else fu) hS q fun b b' G1 H1 a e w => by
  cases e
  cases b with
  | true =>
    show t { D with nx := u D } σ H1
    rw [nn]
    exact ht G1 H1 σ a.st D w
  | false => exact hu G1 H1 σ a.st D w
/-- if c: .. else: .., both go on; s is what they leave -/
theorem st_ifj (hE : ∀ a b, E a = E b) {S1 : Type} {ρs : S1 → List Sl} {tc : TT} {t t2 u : TS} {fc : Tr Bool} {ft fu : Tr S1} {k : S1 → Tr β} (hc : EvT K cl E tc ρ fc) (ht : StG K cl E Ct.nx ρs t ρ ft) (hu : StG K cl E Ct.nx ρs t2 ρ fu) (hk : ∀ s, StG K cl E oc ρ' u (ρs s) (k s)) :
    StG K cl E oc ρ' (tSeq (tIfS tc t t2) u) ρ (fc.bind fun b => (if b then ft else fu).bind k) := fun G H σ hS D q => hc.then (g := fun b => (if b then ft else fu).bind k) hS q fun b b' G1 H1 a e w => by
  cases e
  have go : ∀ {t : TS} {f : Tr S1}, StG K cl E Ct.nx ρs t ρ f → (f.bind k).wp (fun b => OutP K ρ σ G1 H1 ρ' D (oc b)) (Xo cl (E σ) (Owns ρ σ) H1) → t { D with nx := u D } σ H1 := fun ht w =>
    ht G1 H1 σ a.st _ (Tr.wp_mono (fun s hs σ' G' H' a2 => hk s G' H' σ' a2.st D (upS hE a2 hs)) (fun _ z => z) (Tr.wp_bind.mp w))
  cases b with
  | true => exact go ht w
  | false => exact go hu w
/-- the same where a branch may also end -/
def andThen {S1 : Type} (r : PyData → β) (f : Tr (Ct S1)) (k : S1 → Tr β) : Tr β := f.bind fun c => match c with
  | .nx s => k s
  | .rt d => .ret (r d)
  | .bk _ => .bad
  | .ct _ => .bad
theorem st_ifc (hE : ∀ a b, E a = E b) {S1 : Type} {ρs : S1 → List Sl} {r : PyData → β} (hr : ∀ d, oc (r d) = .rt d) {tc : TT} {t t2 u : TS} {fc : Tr Bool} {ft fu : Tr (Ct S1)} {k : S1 → Tr β} (hc : EvT K cl E tc ρ fc) (ht : StG K cl E id ρs t ρ ft) (hu : StG K cl E id ρs t2 ρ fu) (hk : ∀ s, StG K cl E oc ρ' u (ρs s) (k s)) :
    StG K cl E oc ρ' (tSeq (tIfS tc t t2) u) ρ (fc.bind fun b => andThen r (if b then ft else fu) k) := fun G H σ hS D q => hc.then (g := fun b => andThen r (if b then ft else fu) k) hS q fun b b' G1 H1 a e w => by
  cases e
  have go : ∀ {t : TS} {f : Tr (Ct S1)}, StG K cl E id ρs t ρ f → (andThen r f k).wp (fun b => OutP K ρ σ G1 H1 ρ' D (oc b)) (Xo cl (E σ) (Owns ρ σ) H1) → t { D with nx := u D } σ H1 := fun ht w =>
    ht G1 H1 σ a.st _ (Tr.wp_mono (fun c hs => by
      cases c with
      | nx s => exact fun σ' G' H' a2 => hk s G' H' σ' a2.st D (upS hE a2 hs)
      | rt d =>
        have hs' : OutP K ρ σ G1 H1 ρ' D (oc (r d)) := hs
        rw [hr d] at hs'
        exact hs'
      | bk _ => exact hs.elim
      | ct _ => exact hs.elim) (fun _ z => z) (Tr.wp_bind.mp w))
  cases b with
  | true => exact go ht w
  | false => exact go hu w
/-- e, its answer dropped -/
theorem st_drop (hE : ∀ a b, E a = E b) {te : TE} {f : Tr PyData} {g : Tr β} {u : TS} (h : Ev K cl E te ρ f) (k : StG K cl E oc ρ' u ρ g) : StG K cl E oc ρ' (tSeq (tDrop te) u) ρ (f.bind fun _ => g) :=
  fun G H σ hS D q => h.then (g := fun _ => g) hS q fun d v G1 H1 a rv w => k G1 H1 σ a.st D w
/-- name op= e, whole numbers -/
theorem st_aug (hE : ∀ a b, E a = E b) {i : Nat} {x : PyData} {op : Int → Int → Int} {te : TE} {f : Tr PyData} {g : PyData → Tr β} {u : TS} (hx : ρ[i]? = some (.dat x)) (h : Ev K cl E te ρ f) (k : ∀ d, StG K cl E oc ρ' u (ρ.set i (.dat d)) (g d)) :
    StG K cl E oc ρ' (tSeq (tAug i te (ipI op)) u) ρ (f.bind fun y => (asI x).bind fun a => (asI y).bind fun b => g (.int (op a b))) := fun G H σ hS D q => by
  obtain ⟨o, h1, vx, e, rx⟩ := hS.var hx
  subst e
  refine ⟨vx, h1, h.then (g := fun y => (asI x).bind fun a => (asI y).bind fun b => g (.int (op a b))) hS q fun d v G1 H1 a rv w => ?_⟩
  cases rx with
  | int m =>
    cases rv with
    | int n =>
      refine ⟨m, n, rfl, rfl, ?_⟩
      have nn : nown ρ i = true := by
        unfold nown
        rw [hx]
        rfl
      have rz : Rp K G1 (.int (op m n)) (.int (op m n)) := .int _
      have kp := kp_put (σ := σ) (v := .int (op m n)) (d := .int (op m n)) nn
      have a2 : Af K ρ σ G1 H1 (ρ.set i (.dat (.int (op m n)))) (σ.set i (some (.int (op m n)))) G1 H1 := ⟨Gr.refl, a.st.put rz, fun x z => .inl (kp.bwd x z), fun b z => by
        obtain ⟨q1, q2⟩ := kp.fwd 0 .box z.1 rfl
        exact ⟨q1, q2.trans z.2⟩⟩
      exact k _ G1 H1 _ (a.st.put rz) D (upS hE a2 w)
    | _ => exact w.elim
  | _ => exact w.elim
def forC {α S' : Type} (r : PyData → β) (f : α → S' → Tr (Ct S')) (k : S' → Tr β) : List α → S' → Tr β
  | [], s => k s
  | x :: xs, s => (f x s).bind fun c => match c with
    | .nx s' => forC r f k xs s'
    | .ct s' => forC r f k xs s'
    | .bk s' => k s'
    | .rt d => .ret (r d)
def forN {α S' : Type} (f : α → S' → Tr S') : List α → S' → Tr S'
  | [], s => .ret s
  | x :: xs, s => (f x s).bind fun s' => forN f xs s'
theorem forC_N {α S' : Type} {r : PyData → β} (f : α → S' → Tr S') (k : S' → Tr β) : ∀ (xs : List α) (s : S'), forC r (fun x s => (f x s).bind fun s' => .ret (.nx s')) k xs s = (forN f xs s).bind k
  | [], s => rfl
  | x :: xs, s => by
    show (((f x s).bind fun s' => Tr.ret (Ct.nx s')).bind _) = ((f x s).bind fun s' => forN f xs s').bind k
    rw [Tr.bind_assoc, Tr.bind_assoc]
    congr
    funext s'
    exact forC_N f k xs s'
theorem StG.nxs {S1 : Type} {ρs : S1 → List Sl} {t : TS} {f : Tr S1} (h : StG K cl E Ct.nx ρs t ρ f) : StG K cl E id ρs t ρ (f.bind fun s => .ret (.nx s)) := fun G H σ hS D q => h G H σ hS D (Tr.wp_mono (fun _ z => z) (fun _ z => z) (Tr.wp_bind.mp q))
theorem for_turn (hE : ∀ a b, E a = E b) {S1 : Type} {ρs : S1 → List Sl} {g : TG} {vs : List Nat} {ok : PyData → Bool} {ρb : S1 → PyData → List Sl} {r : PyData → β} (hr : ∀ d, oc (r d) = .rt d) {tb : TS} {f : PyData → S1 → Tr (Ct S1)} {k : S1 → Tr β} {R : Hp → V → PyData → Prop} (tg : ∀ s, TgR R K g vs (ρs s) (ρb s) ok) (hb : ∀ d s, ok d = false → f d s = .bad)
    (hf : ∀ d s, ok d = true → StG K cl E id ρs tb (ρb s d) (f d s)) {ds : List PyData} {d : PyData} {s : S1} {x : V} {σ' : L2.St} {G' H' : Hp} (a : Af K ρ σ G H (ρs s) σ' G' H') (rx : R G' x d) {Pn : L2.St → Hp → Prop}
    (hn : ∀ s2 σ2 G2 H2, Af K ρ σ G H (ρs s2) σ2 G2 H2 → (forC r f k ds s2).wp (fun b => OutP K ρ σ G H ρ' D (oc b)) (Xo cl (E σ) (Owns ρ σ) H) → Pn σ2 H2) {De : Ends} (ert : De.rt = D.rt)
    (hk : ∀ s2 σ2 G2 H2, Af K ρ σ G H (ρs s2) σ2 G2 H2 → (k s2).wp (fun b => OutP K ρ σ G H ρ' D (oc b)) (Xo cl (E σ) (Owns ρ σ) H) → De.nx σ2 H2)
    (h : (forC r f k (d :: ds) s).wp (fun b => OutP K ρ σ G H ρ' D (oc b)) (Xo cl (E σ) (Owns ρ σ) H)) : g x σ' H' fun σ2 H2 => tb { De with nx := Pn, ct := Pn, bk := De.nx } σ2 H2 := by
  have hok : ok d = true := by
    cases q : ok d with
    | true => rfl
    | false =>
      have h' : ((f d s).bind fun c => match c with
        | .nx s' => forC r f k ds s'
        | .ct s' => forC r f k ds s'
        | .bk s' => k s'
        | .rt d => .ret (r d)).wp (fun b => OutP K ρ σ G H ρ' D (oc b)) (Xo cl (E σ) (Owns ρ σ) H) := h
      rw [hb d s q] at h'
      exact h'.elim
  refine tg s G' H' σ' x d _ a.st rx hok fun σ2 S2 kp _ => ?_
  have a2 : Af K ρ σ G H (ρb s d) σ2 G' H' := a.trans ⟨Gr.refl, S2, fun x z => .inl (kp.bwd x z), fun b z => by
    obtain ⟨q1, q2⟩ := kp.fwd 0 .box z.1 rfl
    exact ⟨q1, q2.trans z.2⟩⟩
  refine hf d s hok G' H' σ2 S2 _ (Tr.wp_mono (fun c hc => ?_) (fun e he => by rw [hE σ2 σ]; exact a2.xo he) (Tr.wp_bind.mp h))
  cases c with
  | nx s2 => exact fun σ3 G3 H3 a3 => hn s2 σ3 G3 H3 (a2.trans a3) hc
  | ct s2 => exact fun σ3 G3 H3 a3 => hn s2 σ3 G3 H3 (a2.trans a3) hc
  | bk s2 => exact fun σ3 G3 H3 a3 => hk s2 σ3 G3 H3 (a2.trans a3) hc
  | rt d2 =>
    have hc' : OutP K ρ σ G H ρ' D (oc (r d2)) := hc
    rw [hr d2] at hc'
    have h2 := OutP.up (ρ' := ρ') a2 (c := Ct.rt d2) hc'
    show OutP K (ρb s d) σ2 G' H' ρs _ (Ct.rt d2)
    intro v G3 H3 g3 e3 hb3 r3
    show De.rt v H3
    rw [ert]
    exact h2 v G3 H3 g3 e3 hb3 r3
/-- for target in a list or a tuple -/
theorem st_forS (hE : ∀ a b, E a = E b) {S1 : Type} {ρs : S1 → List Sl} {g : TG} {vs : List Nat} {ok : PyData → Bool} {ρb : S1 → PyData → List Sl} {r : PyData → β} (hr : ∀ d, oc (r d) = .rt d) {tl : TE} {tb u : TS} {fl : Tr PyData} {f : PyData → S1 → Tr (Ct S1)} {k : S1 → Tr β} {s0 : S1} (hl : Ev K cl E tl ρ fl) (w : Wk ρ (ρs s0))
    (tg : ∀ s, Tg K g vs (ρs s) (ρb s) ok) (hb : ∀ d s, ok d = false → f d s = .bad) (hf : ∀ d s, ok d = true → StG K cl E id ρs tb (ρb s d) (f d s)) (hk : ∀ s, StG K cl E oc ρ' u (ρs s) (k s)) :
    StG K cl E oc ρ' (tSeq (tFor (iSeq K tl) g tb) u) ρ (fl.bind fun l => (items l).bind fun xs => forC r f k xs s0) := fun G H σ hS D q => hl.then (g := fun l => (items l).bind fun xs => forC r f k xs s0) hS q fun l x G1 H1 a rx w1 => by
  have fin : ∀ s2 σ2 G2 H2, Af K ρ σ G1 H1 (ρs s2) σ2 G2 H2 → (k s2).wp (fun b => OutP K ρ σ G1 H1 ρ' D (oc b)) (Xo cl (E σ) (Owns ρ σ) H1) → u D σ2 H2 := fun s2 σ2 G2 H2 a2 q2 => hk s2 G2 H2 σ2 a2.st D (upS hE a2 q2)
  cases rx with
  | @lst p xs ds hs hz ha =>
    refine ⟨p, rfl, .inl ⟨⟨xs, a.st.sub.l hs⟩, for_list (K := K) (a := p) (xs := xs) (D := { D with nx := u D }) (fun i σ' H' => ∃ G' s, Af K ρ σ G1 H1 (ρs s) σ' G' H' ∧ (forC r f k (ds.drop i) s).wp (fun b => OutP K ρ σ G1 H1 ρ' D (oc b)) (Xo cl (E σ) (Owns ρ σ) H1))
      ⟨G1, s0, w.af a.st, w1⟩ (fun i σ' H' _ ⟨G', s, a2, _⟩ => a2.st.sub.l (a2.gr.ex.l hs)) (fun i x σ' H' hi ⟨G', s, a2, q2⟩ => ?_) fun σ' H' ⟨G', s, a2, q2⟩ => ?_⟩⟩
    · obtain ⟨d, hd, rd⟩ := ha.getV hi
      rw [drop_cons hd] at q2
      exact for_turn (D := D) (De := { D with nx := u D }) hE hr tg hb hf a2 (rd.mono a2.gr.ex) (fun s2 σ2 G2 H2 a3 q3 => ⟨G2, s2, a3, q3⟩) rfl fin q2
    · rw [ha.len, List.drop_length] at q2
      exact fin s σ' G' H' a2 q2
  | @tup p xs ds hs hz ha hpl =>
    refine ⟨p, rfl, .inr ⟨⟨xs, a.st.sub.t hs⟩, for_tup (K := K) (a := p) (xs := xs) (D := { D with nx := u D }) (fun i σ' H' => ∃ G' s, Af K ρ σ G1 H1 (ρs s) σ' G' H' ∧ (forC r f k (ds.drop i) s).wp (fun b => OutP K ρ σ G1 H1 ρ' D (oc b)) (Xo cl (E σ) (Owns ρ σ) H1))
      ⟨G1, s0, w.af a.st, w1⟩ (fun i σ' H' _ ⟨G', s, a2, _⟩ => a2.st.sub.t (a2.gr.ex.t hs)) (fun i x σ' H' hi ⟨G', s, a2, q2⟩ => ?_) fun σ' H' ⟨G', s, a2, q2⟩ => ?_⟩⟩
    · obtain ⟨d, hd, rd⟩ := ha.getV hi
      rw [drop_cons hd] at q2
      exact for_turn (D := D) (De := { D with nx := u D }) hE hr tg hb hf a2 (rd.mono a2.gr.ex) (fun s2 σ2 G2 H2 a3 q3 => ⟨G2, s2, a3, q3⟩) rfl fin q2
    · rw [ha.len, List.drop_length] at q2
      exact fin s σ' G' H' a2 q2
  | _ => exact w1.elim
theorem for_rng (hE : ∀ a b, E a = E b) {S1 : Type} {ρs : S1 → List Sl} {g : TG} {vs : List Nat} {ok : PyData → Bool} {ρb : S1 → PyData → List Sl} {r : PyData → β} (hr : ∀ d, oc (r d) = .rt d) {tb u : TS} {f : PyData → S1 → Tr (Ct S1)} {k : S1 → Tr β} {s0 : S1} (hS : Sta K G1 H1 ρ σ) (w : Wk ρ (ρs s0))
    (tg : ∀ s, Tg K g vs (ρs s) (ρb s) ok) (hb : ∀ d s, ok d = false → f d s = .bad) (hf : ∀ d s, ok d = true → StG K cl E id ρs tb (ρb s d) (f d s)) (hk : ∀ s, StG K cl E oc ρ' u (ρs s) (k s)) {lo : Int} {n : Nat}
    (w1 : (forC r f k (rng lo n) s0).wp (fun b => OutP K ρ σ G1 H1 ρ' D (oc b)) (Xo cl (E σ) (Owns ρ σ) H1)) :
    ∃ W : Nat → Nat → L2.St → Hp → Prop, (∃ m, W 0 m σ H1) ∧ ∀ i m σ H, W i m σ H →
      ((Itr lo n).stop i H ∧ ({ D with nx := u D } : Ends).nx σ H) ∨ ((Itr lo n).go i H ∧ ∃ N : L2.St → Hp → Prop, (∀ σ' H', N σ' H' → ∃ m', m' < m ∧ W (i + 1) m' σ' H') ∧ ∀ x H', (Itr lo n).yld i H x H' → g x σ H' fun σ2 H2 => tb { ({ D with nx := u D } : Ends) with nx := N, ct := N, bk := ({ D with nx := u D } : Ends).nx } σ2 H2) := by
  have fin : ∀ s2 σ2 G2 H2, Af K ρ σ G1 H1 (ρs s2) σ2 G2 H2 → (k s2).wp (fun b => OutP K ρ σ G1 H1 ρ' D (oc b)) (Xo cl (E σ) (Owns ρ σ) H1) → u D σ2 H2 := fun s2 σ2 G2 H2 a2 q2 => hk s2 G2 H2 σ2 a2.st D (upS hE a2 q2)
  refine for_range (lo := lo) (n := n) (D := { D with nx := u D }) (fun i σ' H' => ∃ G' s, Af K ρ σ G1 H1 (ρs s) σ' G' H' ∧ (forC r f k ((rng lo n).drop i) s).wp (fun b => OutP K ρ σ G1 H1 ρ' D (oc b)) (Xo cl (E σ) (Owns ρ σ) H1))
    ⟨G1, s0, w.af hS, w1⟩ (fun i σ' H' hi ⟨G', s, a2, q2⟩ => ?_) fun σ' H' ⟨G', s, a2, q2⟩ => ?_
  · rw [drop_cons (rng_get hi)] at q2
    exact for_turn (D := D) (De := { D with nx := u D }) hE hr tg hb hf a2 (.int _) (fun s2 σ2 G2 H2 a3 q3 => ⟨G2, s2, a3, q3⟩) rfl fin q2
  · have e : (rng lo n).drop n = [] := List.drop_eq_nil_of_le (by rw [rng_len]; exact Nat.le_refl _)
    rw [e] at q2
    exact fin s σ' G' H' a2 q2
theorem st_forR1 (hE : ∀ a b, E a = E b) {S1 : Type} {ρs : S1 → List Sl} {g : TG} {vs : List Nat} {ok : PyData → Bool} {ρb : S1 → PyData → List Sl} {r : PyData → β} (hr : ∀ d, oc (r d) = .rt d) {ta : TE} {tb u : TS} {fa : Tr PyData} {f : PyData → S1 → Tr (Ct S1)} {k : S1 → Tr β} {s0 : S1} (ha : Ev K cl E ta ρ fa) (w : Wk ρ (ρs s0))
    (tg : ∀ s, Tg K g vs (ρs s) (ρb s) ok) (hb : ∀ d s, ok d = false → f d s = .bad) (hf : ∀ d s, ok d = true → StG K cl E id ρs tb (ρb s d) (f d s)) (hk : ∀ s, StG K cl E oc ρ' u (ρs s) (k s)) :
    StG K cl E oc ρ' (tSeq (tFor (iRng1 (tCons ta tNil)) g tb) u) ρ (fa.bind fun a => (rangeT (.int 0) a).bind fun xs => forC r f k xs s0) := fun G H σ hS D q => ha.then (g := fun a => (rangeT (.int 0) a).bind fun xs => forC r f k xs s0) hS q fun a x G1 H1 af rx w1 => by
  cases rx with
  | int b =>
    have h2 : ((if -(2 ^ 61) ≤ (0 : Int) ∧ (0 : Int) ≤ 2 ^ 61 ∧ -(2 ^ 61) ≤ b ∧ b ≤ 2 ^ 61 ∧ b - 0 ≤ 1000000 then Tr.ret (rng 0 (b - 0).toNat) else .bad).bind fun xs => forC r f k xs s0).wp (fun b => OutP K ρ σ G1 H1 ρ' D (oc b)) (Xo cl (E σ) (Owns ρ σ) H1) := w1
    split at h2
    · refine ⟨b, rfl, by omega, by omega, ?_⟩
      have e : (b - 0).toNat = b.toNat := by omega
      rw [e] at h2
      exact for_rng hE hr af.st w tg hb hf hk h2
    · exact h2.elim
  | _ => exact w1.elim
theorem st_forR2 (hE : ∀ a b, E a = E b) {S1 : Type} {ρs : S1 → List Sl} {g : TG} {vs : List Nat} {ok : PyData → Bool} {ρb : S1 → PyData → List Sl} {r : PyData → β} (hr : ∀ d, oc (r d) = .rt d) {ta tb2 : TE} {tb u : TS} {fa fb : Tr PyData} {f : PyData → S1 → Tr (Ct S1)} {k : S1 → Tr β} {s0 : S1} (ha : Ev K cl E ta ρ fa) (hb2 : Ev K cl E tb2 ρ fb) (w : Wk ρ (ρs s0))
    (tg : ∀ s, Tg K g vs (ρs s) (ρb s) ok) (hb : ∀ d s, ok d = false → f d s = .bad) (hf : ∀ d s, ok d = true → StG K cl E id ρs tb (ρb s d) (f d s)) (hk : ∀ s, StG K cl E oc ρ' u (ρs s) (k s)) :
    StG K cl E oc ρ' (tSeq (tFor (iRng2 (tCons ta (tCons tb2 tNil))) g tb) u) ρ (fa.bind fun a => fb.bind fun b => (rangeT a b).bind fun xs => forC r f k xs s0) := fun G H σ hS D q => ha.then (g := fun a => fb.bind fun b => (rangeT a b).bind fun xs => forC r f k xs s0) hS q fun a x G1 H1 af rx w1 => hb2.then (g := fun b => (rangeT a b).bind fun xs => forC r f k xs s0) af.st w1 fun b y G2 H2 af2 ry w2 => by
  cases rx with
  | int a =>
    cases ry with
    | int b =>
      have h3 : ((if -(2 ^ 61) ≤ a ∧ a ≤ 2 ^ 61 ∧ -(2 ^ 61) ≤ b ∧ b ≤ 2 ^ 61 ∧ b - a ≤ 1000000 then Tr.ret (rng a (b - a).toNat) else .bad).bind fun xs => forC r f k xs s0).wp (fun b => OutP K ρ σ G2 H2 ρ' D (oc b)) (Xo cl (E σ) (Owns ρ σ) H2) := w2
      split at h3
      · exact ⟨a, b, rfl, ⟨by omega, by omega, by omega, by omega⟩, for_rng hE hr af2.st w tg hb hf hk h3⟩
      · exact h3.elim
    | _ => exact w2.elim
  | _ =>
    cases ry <;> exact w2.elim
end
end
end Cg
namespace Cgx
open PySem PySem.Spec PyProof.Rows L2
def ArgsAt (t : Addr) (o : Obj) : Prop := ∀ vs : Array Value, o.data = .fields vs → vs[0]? = some (.ref t)
theorem steady_args {t : Addr} : PXN.Steady1 (ArgsAt t) := fun o v h => by
  obtain ⟨c, d, dt, sl⟩ := o
  intro vs e
  cases dt with
  | fields vs0 =>
    have e2 : vs0.setIfInBounds 1 v = vs := Data.fields.inj e
    rw [← e2, Array.getElem?_setIfInBounds_ne (by decide)]
    exact h vs0 rfl
  | _ => exact Data.noConfusion e
/-- class, no dict, no context, the arguments' tuple at d -/
def Zt (cls : Value) (d : Option Addr) : Obj → Prop := fun o => o.cls = cls ∧ o.dict = none ∧ PXN.CtxN o ∧ ∃ t, d = some t ∧ ArgsAt t o
theorem Zt.steady {cls : Value} {d : Option Addr} : PXN.Steady1 (Zt cls d) := fun o v ⟨h1, h2, h3, t, e, h4⟩ => ⟨PXN.steady_cls o v h1, PXN.steady_dict o v h2, PXN.steady_ctx o v h3, t, e, steady_args o v h4⟩
/-- an error in the air over X: sI is the state without it -/
structure Air (X : Cx) (W : WX) (u : Value) (s' : Shared) (a : Addr) (B : Heap) (sI : Shared) (pins : List (Addr × Obj)) (σ : L2.St) (H : Hp) (cls : Value) (d : Option Addr) : Prop where
  eq : u = .ref a
  inv : Inv X pins σ H sI
  gr : ∀ b o, sI.heap.get? b = some o → b ∉ frs X.stack → B.get? b = some o
  up : sI.heap.UpToSlots s'.heap
  sky : Sky B X.stack a (Zt cls d) X.env.locals s'.heap
  na : H a = none
  os : s'.os = sI.os
  ag : AllBare s'.gens
  w : W cls d σ H
def Flies (X : Cx) (W : WX) (u : Value) (s' : Shared) : Prop := ∃ a B sI pins σ H cls d, Air X W u s' a B sI pins σ H cls d
def Lets (X : Cx) (W : WX) : Prop := ∀ u s', Flies X W u s' → X.xe u s'
/-- behind a call that let an error out -/
def CT (P : Program) (w : World) (outer : List Env) (H : Hp) (s : Shared) (E : XK) (u : Value) (s' : Shared) : Prop :=
  ∃ (a : Addr) (B : Heap) (H' : Hp) (cls : Value) (d : Option Addr), u = .ref a ∧ HandSPX.FlyingZ B outer a (Zt cls d) s'.heap ∧ HOk P w H' B ∧ UB (frs outer) H H' s.heap B s'.heap ∧ H' a = none ∧ s'.os = s.os ∧ AllBare s'.gens ∧ E cls d H'
section
variable {X : Cx} {pins : List (Addr × Obj)} {σ : L2.St} {H : Hp} {sI s s' : Shared} {B : Heap} {W : WX} {E : XK}
theorem flies_call (I : Inv X pins σ H s) (hW : ∀ cls d H', E cls d H' → W cls d σ H') {u : Value} (c : CT X.prog X.w X.stack H s E u s') : Flies X W u s' := by
  obtain ⟨a, B, H', cls, d, eu, fl, hok, ub, na, os, ag, hE⟩ := c
  -- what the ground and the running frames know of the heap
  obtain ⟨G, g1, g2⟩ := restrict s'.heap fun b => (B.get? b).isSome || decide (b ∈ frs X.stack)
  have gB : ∀ b o, B.get? b = some o → G.get? b = some o := fun b o e => (g1 b (by simp [e])).trans (fl.1 b o e)
  have gF : ∀ b, b ∈ frs X.stack → G.get? b = s'.heap.get? b := fun b hb => g1 b (by simp [hb])
  have gS : ∀ b o, G.get? b = some o → s'.heap.get? b = some o ∧ ((B.get? b).isSome = true ∨ b ∈ frs X.stack) := fun b o e => by
    by_cases q : ((B.get? b).isSome || decide (b ∈ frs X.stack)) = true
    · exact ⟨(g1 b q).symm.trans e, by simpa [Bool.or_eq_true] using q⟩
    · have z := g2 b (by simpa using q)
      rw [z] at e
      cases e
  have un : Un (frs X.stack) [] H H' s.heap G := ⟨fun b o e n hb _ => gB b o (ub.keep b o e n hb), fun b o e n hb _ => by
    obtain ⟨sl, q⟩ := ub.slot b o e hb
    exact ⟨sl, (gF b hb).trans q⟩, fun b o e n _ => ub.free b o e n, fun b o e _ => by
      by_cases hb : b ∈ frs X.stack
      · obtain ⟨sl, q⟩ := ub.slot b o e hb
        exact ⟨_, (gF b hb).trans q⟩
      · obtain ⟨o', q⟩ := ub.there b o e hb
        exact ⟨o', gB b o' q⟩, ub.tups, ub.frzs, ub.tbls⟩
  refine ⟨a, B, { s with heap := G, gens := s'.gens, drawn := s'.drawn, toks := s'.toks }, pins, σ, H', cls, d, eu, I.call (ch := []) un (hok.kept gB) ag (fun _ z => nomatch z), fun b o e hb => ?_, Heap.UpToSlots.of_keeps fun b o e => (gS b o e).1, .inr (.inl fl), na, os, ag, hW _ _ _ hE⟩
  obtain ⟨e', h⟩ := gS b o e
  rcases h with h | h
  · obtain ⟨o', q⟩ := Option.isSome_iff_exists.mp h
    have z := fl.1 b o' q
    rw [e'] at z
    rw [q, ← Option.some.inj z]
  · exact absurd h hb
theorem flies_new {a : Addr} {oe : Obj} {vs : Array Value} {cls : Value} {d : Option Addr} (I : Inv X pins σ H sI) (k : ∀ b o, sI.heap.get? b = some o → s'.heap.get? b = some o) (hne : sI.heap.get? a = none) (he : s'.heap.get? a = some oe)
    (hz : Zt cls d oe) (hd : oe.data = .fields vs) (h1 : vs[1]? = some .none) (na : H a = none) (os : s'.os = sI.os) (ag : AllBare s'.gens) (w : W cls d σ H) : Flies X W (.ref a) s' := by
  have hid : ∀ b o, (PySem.W.hideAll sI.heap (frs X.stack)).get? b = some o → sI.heap.get? b = some o := fun b o e => PySem.W.of_hideAll _ e
  have na' : (PySem.W.hideAll sI.heap (frs X.stack)).get? a = none := by
    cases q : (PySem.W.hideAll sI.heap (frs X.stack)).get? a with
    | none => rfl
    | some o =>
      have z := hid a o q
      rw [hne] at z
      cases z
  have ff := Heap.FunFrames.of_keeps (h' := s'.heap) (fun b o e _ => ⟨o, k b o e, rfl⟩) (funFrames_none I.stack fun b hb => PySem.W.hideAll_none (h := sI.heap) (frs X.stack) hb)
  exact ⟨a, _, sI, pins, σ, H, cls, d, rfl, I, fun b o e hb => PySem.W.hideAll_get _ e hb, Heap.UpToSlots.of_keeps k, .inl ⟨fun b o e => k b o (hid b o e), na', ff, oe, vs, he, hz, hd, h1⟩, na, os, ag, w⟩
theorem flies_out (hs : X.stack = X.env :: X.outer) (hf : X.env.frame = some X.env.locals) (hex : X.ex = []) {E₁ : Value → Shared → Prop} (hW : ∀ cls d σ H, W cls d σ H → E cls d H) {u : Value} (x : Flies X W u s') :
    wpAny (model X.prog X.w) X.A (leaving X.env u) (fun _ s'' => CT X.prog X.w X.outer X.H_0 X.s_0 E u s'') E₁ s' := by
  obtain ⟨a, B, sI, pins, σ, H, cls, d, rfl, I, nb, up, sky, na, os, ag, w⟩ := x
  have ok := I.ok
  have hfr : X.A.frames = some (X.env :: X.outer) := by rw [ok.frames, hs]
  have hx : ∀ b, b ∉ X.ex := fun b hb => by rw [hex] at hb; cases hb
  have old : ∀ b o, X.s_0.heap.get? b = some o → b ∉ X.fs → b ∉ frs X.stack := fun b o e hb hm => by
    rcases List.mem_cons.mp (I.stkSub b hm) with z | z
    · have h1 := Nat.lt_of_lt_of_le (Heap.lt_size e) ok.above
      rw [z] at h1
      exact Nat.lt_irrefl _ h1
    · exact hb z
  have done : ∀ h', HandSPX.FlyingZ B X.outer a (Zt cls d) h' → s'.heap.UpToSlots h' → CT X.prog X.w X.outer X.H_0 X.s_0 E (.ref a) { s' with heap := h' } := fun h' fl up' => by
    have slot : ∀ b o, X.s_0.heap.get? b = some o → b ∈ frs X.outer → ∃ sl, h'.get? b = some { o with slots := sl } := fun b o e hb => by
      obtain ⟨_, o0, e0, hnf⟩ := ok.funs.mem hb
      obtain rfl : o = o0 := Option.some.inj (e.symm.trans e0)
      obtain ⟨sl, e1⟩ := I.base.slot b o e (ok.frf b hb) hb (hx b)
      obtain ⟨sl2, e2⟩ := up b _ e1 hnf
      obtain ⟨sl3, e3⟩ := up' b _ e2 hnf
      exact ⟨sl3, e3⟩
    refine ⟨a, B, H, cls, d, rfl, fl, I.inGround nb, ⟨fun b o e n hb => nb b o (I.base.keep b o e n hb (hx b)) (old b o e hb), slot, fun b o e n => I.base.free b o e n (hx b), fun b o e hb => ?_, I.base.tups, I.base.frzs, I.base.tbls⟩, na, os.trans I.os, ag, hW _ _ _ _ w⟩
    obtain ⟨o', e1⟩ := I.base.there b o e (hx b)
    exact ⟨o', nb b o' e1 (old b o e hb)⟩
  rw [hs] at sky
  rcases sky with ⟨hB, hn, hl, oe, vs, he, hz, hd, h1⟩ | fl | hd
  · exact PXN.leaving_firstZ Zt.steady hfr hl hf he hB hn hd h1 hz done
  · exact PXN.leaves_onZ Zt.steady hfr hf fl done
  · exact HandSPX.leaves_heldZ hf hd done
theorem lets_of (hs : X.stack = X.env :: X.outer) (hf : X.env.frame = some X.env.locals) (hex : X.ex = []) {E₁ : Value → Shared → Prop}
    (hx : X.xe = fun e s' => wpAny (model X.prog X.w) X.A (leaving X.env e) (fun _ s'' => CT X.prog X.w X.outer X.H_0 X.s_0 E e s'') E₁ s') : Lets X (fun cls d _ H => E cls d H) := fun u s' x => by
  rw [hx]
  exact flies_out (E := E) hs hf hex (fun _ _ _ _ h => h) x
theorem lets_call (tk : Lets X W) (hW : ∀ cls d σ H, E cls d H → W cls d σ H) : Passes (CT X.prog X.w) X E :=
  fun _ σ _ _ e s' I c => tk e s' (flies_call I (fun cls d H' h => hW cls d σ H' h) c)
theorem pass_none : Passes (CT X.prog X.w) X E0 := fun _ _ _ _ _ _ _ h => by
  obtain ⟨_, _, _, _, _, _, _, _, _, _, _, _, z⟩ := h
  exact z.elim
end
/-- what is asked of an own class whose errors are made and raised -/
structure ErrC (K : PySem.W.Frag) (C : Addr) : Prop where
  ex : PySem.W.excIn K C [.type "ValueError", .type "Exception", .type "BaseException", .type "object"] "ValueError.__new__" = true
  kp : PySem.W.keepIn K (.ref C) = true
  sb : PySem.W.subIn K (.ref C) (.type "BaseException") = some true
  ty : PySem.W.typeIn K (.ref C) = some (.type "type")
section
variable {X : Cx} {C : Addr} {x : Str}
/-- C() gives out a new error: behind it all as before, but the tuple of its arguments stands at d -/
theorem make_err {pins : List (Addr × Obj)} {σ : L2.St} {H : Hp} {s : Shared} {p pos : Pos} {Q : Value → Shared → Prop} {E₁ : Value → Shared → Prop} (R : ErrC X.K C) (gC : X.mg x = some (.ref C)) (hg : Gl X x) (I : Inv X pins σ H s)
    (h : ∀ (e t : Addr) (oe : Obj) (vs : Array Value) (sI : Shared) (s' : Shared), Inv X pins σ (upd H t (.tup [])) sI → (∀ b o, sI.heap.get? b = some o → s'.heap.get? b = some o) → sI.heap.get? e = none → s'.heap.get? e = some oe → Zt (.ref C) (some t) oe → oe.data = .fields vs → vs[1]? = some .none → vs[2]? = some .none → 4 < vs.size →
      H t = none → (upd H t (.tup [])) e = none → s'.os = sI.os → AllBare s'.gens → s' = { sI with heap := s'.heap } → Q (.ref e) s') (hdb : (x == ("__debug__" : Str)) = false := by decide) : wpAny (model X.prog X.w) X.A (eval (.Call (.Name x p) [] [] pos) X.env) Q E₁ s := by
  refine wpAny_Call_Name_kw (ld_glob I hg gC ?_ hdb)
  refine PySem.W.callWith_K0 I.kIn R.kp ?_
  obtain ⟨bm, N, nm, qn, bs, hdct, sn, sub, ab, col, dd, k0, k1, k2, k3, k5, mN, hC, hN, hni, T⟩ := exc_obj I.kIn R.ex
  obtain ⟨hp, g, dr, tk, os⟩ := s
  refine wpAny_call_exc_subT (rest := []) PySem.F.excBase_ValueError T hC hN hni (fun h' e hm => ?_) (Nat.zero_le _)
  obtain ⟨t, he, ht0, ht⟩ := hm.there
  have hte : t ≠ e := fun z => by
    rw [z, he] at ht
    cases ht
  obtain ⟨G, g1, g2⟩ := restrict h' fun b => decide (b ≠ e)
  have gk : ∀ b, b ≠ e → G.get? b = h'.get? b := fun b hb => g1 b (decide_eq_true hb)
  have ge : G.get? e = none := g2 e (by simp)
  have nold : ∀ b o, hp.get? b = some o → b ≠ e := fun b o q z => by
    have hn := hm.new
    rw [← z] at hn
    rw [show hp.get? b = none from hn] at q
    cases q
  have keep : ∀ b o, hp.get? b = some o → G.get? b = some o := fun b o q => (gk b (nold b o q)).trans (hm.keeps b o q)
  have hHt : H t = none := I.hok.gone ht0
  have ob : ObjOk X.prog X.w (upd H t (.tup [])) G t (.tup []) := ⟨Nat.zero_le _, [], .nil, _, (gk t hte).trans ht, rfl, 0, rfl⟩
  have J : Inv X pins σ (upd H t (.tup [])) { heap := G, gens := g, drawn := dr, toks := tk, os := os } := I.un (Un.laidN keep ht0 hHt) (I.hok.laidN keep hHt ob)
  refine h e t _ _ { heap := G, gens := g, drawn := dr, toks := tk, os := os } _ J (fun b o q => ?_) ge he ⟨rfl, rfl, fun vs q => ?_, t, rfl, fun vs q => ?_⟩ rfl rfl rfl (by show 4 < 6; decide) hHt ?_ rfl I.bare rfl
  · have hb : b ≠ e := fun z => by
      rw [z] at q
      rw [show G.get? e = none from ge] at q
      cases q
    exact (gk b hb).symm.trans q
  · cases q
    rfl
  · cases q
    rfl
  · rw [upd_ne (Ne.symm hte)]
    exact I.hok.gone hm.new
def tRaise (C : Addr) (W : WX) : TS := fun _ σ H => ∀ t, H t = none → W (.ref C) (some t) σ (upd H t (.tup []))
theorem ps_raise0 {W : WX} {p pos pos2 : Pos} (hc : X.calm = true) (tk : Lets X W) (R : ErrC X.K C) (gC : X.mg x = some (.ref C)) (hg : Gl X x) (hdb : (x == ("__debug__" : Str)) = false := by decide) :
    PS X (.Raise (some (.Call (.Name x p) [] [] pos)) none pos2) (tRaise C W) := by
  refine ⟨fun pins s σ H D I h => ?_⟩
  have ra := raises_own R.sb R.ty
  show wpAny _ _ (do standAt pos2; raiseStmt X.env (some (do let v ← eval (.Call (.Name x p) [] [] pos) X.env; standAt pos2; pure v)) none) _ _ _
  refine wpAny_bind (wpAny_standAt (raise_made (I.ok.hd hc) (wpAny_bind (make_err R gC hg I (fun e t oe vs sI s' J k hne he hz hd h1 h2 h5 hHt na os ag _ => wpAny_bind (wpAny_standAt (wpAny_pure ?_))) hdb))))
  obtain ⟨r1, r2⟩ := ra (model X.prog X.w) s'.heap (J.kIn.keeps k)
  exact ⟨e, oe, vs, .ref C, rfl, he, hz.1, hd, h1, r1, r2, tk _ _ (flies_new J k hne he hz hd h1 na os ag (h t hHt))⟩
end
section
variable {X : Cx} {x n : Str} {c : Value} {i : Nat} {body suite : List Stmt} {b₀ : Stmt} {np pos pos' : Pos} {tb : WX → TS} {ts : Addr → Value → Option Addr → TS} {Wout : WX}
/-- every error of the body is the clause's (c) -/
def wAll (K : PySem.W.Frag) (c : Value) (i : Nat) (ts : Addr → Value → Option Addr → TS) (D : Ends) : WX := fun cls d σ H =>
  PySem.W.exmOne K cls c = some true ∧ ∀ a, H a = none → ts a cls d { nx := fun σ => D.nx (σ.set i none), rt := D.rt, bk := fun σ => D.bk (σ.set i none), ct := fun σ => D.ct (σ.set i none) } (σ.set i (some (.ref a))) H
end
end Cgx
namespace L2
open PySem PySem.Spec PyProof.Rows
end L2
namespace Cg
open PySem PySem.Spec PyProof.Rows L2
section
variable {P : Program} {w : World} {K : PySem.W.Frag} {mg : Str → Option Value} {base : Heap} {cl : Ek → Addr}
def st0 (n : Nat) (ds : List PyData) : List Sl := ds.map Sl.dat ++ List.replicate (n - ds.length) .any
def st0B (n : Nat) (ds : List PyData) : List Sl := .box :: st0 (n - 1) ds
theorem st0_get {n : Nat} {ds : List PyData} {i : Nat} {s : Sl} (h : (st0 n ds)[i]? = some s) : (∃ d, ds[i]? = some d ∧ s = .dat d) ∨ s = .any := by
  unfold st0 at h
  by_cases hi : i < ds.length
  · rw [List.getElem?_append_left (by rw [List.length_map]; exact hi), List.getElem?_map] at h
    cases e : ds[i]? with
    | none =>
      rw [e] at h
      cases h
    | some d =>
      rw [e] at h
      cases h
      exact .inl ⟨d, rfl, rfl⟩
  · rw [List.getElem?_append_right (by rw [List.length_map]; omega), List.getElem?_replicate] at h
    split at h
    · cases h
      exact .inr rfl
    · cases h
theorem st0_own {n : Nat} {ds : List PyData} {i : Nat} {s : Sl} (h : (st0 n ds)[i]? = some s) : owning s = false := by
  rcases st0_get h with ⟨d, _, rfl⟩ | rfl <;> rfl
theorem start_get {N : List Str} {vs : List V} {i : Nat} {v : V} (h : vs[i]? = some v) : (start N vs)[i]? = some (some v) := by
  unfold L2.start
  have hi := (List.getElem?_eq_some_iff.mp h).1
  rw [List.getElem?_append_left (by rw [List.length_map]; exact hi), List.getElem?_map, h]
  rfl
theorem sta_start {N : List Str} {vs : List V} {ds : List PyData} {G H : Hp} (r : RpAll K G vs ds) (e : Ex G H) (hN : vs.length ≤ N.length) : Sta K G H (st0 N.length ds) (start N vs) := by
  have hl := r.len
  refine ⟨?_, e, fun i s o h1 h2 => ?_, fun i j si sj a h1 h2 h3 => ?_⟩
  · unfold st0 L2.start
    simp only [List.length_append, List.length_map, List.length_replicate]
    omega
  · rcases st0_get h1 with ⟨d, hd, rfl⟩ | rfl
    · obtain ⟨v, hv, rv⟩ := r.get hd
      rw [start_get hv] at h2
      exact ⟨v, (Option.some.inj h2).symm, rv⟩
    · trivial
  · rw [st0_own h1] at h3
    cases h3
theorem owns_start {n : Nat} {ds : List PyData} {σ : L2.St} {a : Addr} (h : Owns (st0 n ds) σ a) : False := by
  obtain ⟨i, s, h1, h2, _⟩ := h
  rw [st0_own h1] at h2
  cases h2
theorem sta_startB {N : List Str} {b : Addr} {vs : List V} {ds : List PyData} {G H : Hp} (hb : BoxOk K G H b) (r : RpAll K G vs ds) (e : Ex G H) (hN : vs.length + 1 ≤ N.length) : Sta K G H (st0B N.length ds) (start N (.ref b :: vs)) := by
  obtain ⟨x, N, rfl⟩ : ∃ x N', N = x :: N' := by
    cases N with
    | nil => exact absurd hN (by simp)
    | cons x N => exact ⟨x, N, rfl⟩
  have es : start (x :: N) (.ref b :: vs) = some (.ref b) :: start N vs := by
    unfold L2.start
    simp
  have er : st0B (x :: N).length ds = .box :: st0 N.length ds := by
    unfold st0B
    simp
  have S := sta_start (N := N) r e (by simpa using hN)
  rw [es, er]
  refine ⟨congrArg (· + 1) S.len, e, fun i s o h1 h2 => ?_, fun i j si sj a h1 h2 h3 h4 _ _ => ?_⟩
  · cases i with
    | zero =>
      simp at h1 h2
      subst h1
      subst h2
      exact ⟨b, rfl, hb⟩
    | succ i => exact S.ok i s o (by simpa using h1) (by simpa using h2)
  · cases i with
    | zero =>
      cases j with
      | zero => rfl
      | succ j =>
        have z := st0_own (i := j) (s := sj) (by simpa using h2)
        rw [z] at h4
        cases h4
    | succ i =>
      have z := st0_own (i := i) (s := si) (by simpa using h1)
      rw [z] at h3
      cases h3
theorem owns_startB {n : Nat} {ds : List PyData} {σ : L2.St} {a b : Addr} (hs : σ[0]? = some (some (.ref b))) (h : Owns (st0B n ds) σ a) : a = b := by
  obtain ⟨i, s, h1, h2, h3⟩ := h
  cases i with
  | zero =>
    rw [hs] at h3
    cases h3
    rfl
  | succ i =>
    have z := st0_own (i := i) (s := s) (by simpa [st0B] using h1)
    rw [z] at h2
    cases h2
theorem scope_le {N ps : List Str} {sc : Scope} (S : FnScope N ps sc) : ps.length ≤ N.length := by
  have q := congrArg List.length S.pre
  rw [List.length_take] at q
  omega
theorem SpN.len {n : Nat} {m : List PyData → Tr PyData} {vs : List V} {H : Hp} {Q : VK} {E : XK} (h : SpN K n m vs H Q E) : vs.length = n := by
  obtain ⟨ds, G, r, hl, _⟩ := h
  rw [r.len, hl]
theorem SpP.len {n : Nat} {m : List PyData → Tr PyData} {vs : List V} {H : Hp} {Q : VK} {E : XK} (h : SpP K cl n m vs H Q E) : vs.length = n := by
  obtain ⟨ds, G, r, hl, _⟩ := h
  rw [r.len, hl]
theorem SpB.len {n : Nat} {m : List PyData → Tr PyData} {vs : List V} {H : Hp} {Q : VK} {E : XK} (h : SpB K n m vs H Q E) : vs.length = n + 1 := by
  obtain ⟨b, ws, ds, G, rfl, _, r, hl, _⟩ := h
  rw [List.length_cons, r.len, hl]
/-- answers at every end -/
theorem fn_pure {x q : Str} {st : Stmt} {f : Addr} {fd : FuncData} {N ps : List Str} {k : Nat} {m : List PyData → Tr PyData} (F : Fun K x q st f fd) (Sc : FnScope N ps (defScope st))
    (hb : ∀ (cdv : Value) (A : Around) (outer : List Env) (s : Shared) (H : Hp) (E : XK), Room k (A.deeper (envOfC q (defScope st) s.heap.objs.size f cdv)) →
      ∃ t, PSs (cxOf CX0 P w K mg base N q (defScope st) f cdv A outer s H E).nox (defBody st) t ∧ ∀ ds, ds.length = ps.length → StG (S := Unit) K cl (fun _ => none) Ct.rt (fun _ => []) t (st0 N.length ds) (m ds)) :
    FnOk P w K mg base CX0 (k + 1) f fd ps (SpN K ps.length m) := by
  refine F.ok Sc (fun vs H Q E h => h.len) fun cdv A outer s H vs Q E hr h => ?_
  obtain ⟨t, ht, hs⟩ := hb cdv A outer s H E hr
  obtain ⟨ds, G, r, hl, e, h⟩ := h
  refine ⟨t, ht, hs ds hl G H _ (sta_start r e (by rw [r.len, hl]; exact scope_le Sc)) _ (Tr.wp_mono (fun d hd v G' H' g e' _ rv => hd v G' H' (g.less fun a z => owns_start z) e' rv) (fun _ z => z.elim) h)⟩
/-- the same behind a last raise that was not taken: nothing is handed back -/
theorem fn_box {x q : Str} {st : Stmt} {f : Addr} {fd : FuncData} {N ps : List Str} {n k : Nat} {m : List PyData → Tr PyData} (F : Fun K x q st f fd) (Sc : FnScope N ps (defScope st)) (hn : ps.length = n + 1)
    (hb : ∀ (cdv : Value) (A : Around) (outer : List Env) (s : Shared) (H : Hp) (E : XK), Room k (A.deeper (envOfC q (defScope st) s.heap.objs.size f cdv)) →
      ∃ t, PSs (cxOf CX0 P w K mg base N q (defScope st) f cdv A outer s H E).nox (defBody st) t ∧ ∀ ds, ds.length = n → StG (S := Unit) K cl (fun _ => none) Ct.rt (fun _ => []) t (st0B N.length ds) (m ds)) :
    FnOk P w K mg base CX0 (k + 1) f fd ps (SpB K n m) := by
  refine F.ok Sc (fun vs H Q E h => h.len.trans hn.symm) fun cdv A outer s H vs Q E hr h => ?_
  obtain ⟨t, ht, hs⟩ := hb cdv A outer s H E hr
  obtain ⟨b, ws, ds, G, rfl, bo, r, hl, e, h⟩ := h
  have s0 : (start N (V.ref b :: ws))[0]? = some (some (V.ref b)) := start_get rfl
  refine ⟨t, ht, hs ds hl G H _ (sta_startB bo r e (by rw [r.len, hl, ← hn]; exact scope_le Sc)) _ (Tr.wp_mono (fun d hd v G' H' g e' bx rv => hd v G' H' (g.less fun a z => owns_startB s0 z) e' (bx b ⟨rfl, s0⟩) rv) (fun _ z => z.elim) h)⟩
/-- that may raise, and answers at every end -/
theorem fn_raise {x q : Str} {st : Stmt} {f : Addr} {fd : FuncData} {N ps : List Str} {k : Nat} {m : List PyData → Tr PyData} (F : Fun K x q st f fd) (Sc : FnScope N ps (defScope st))
    (hb : ∀ (cdv : Value) (A : Around) (outer : List Env) (s : Shared) (H : Hp) (E : XK), Room k (A.deeper (envOfC q (defScope st) s.heap.objs.size f cdv)) →
      ∃ t, PSs (cxOf (Cgx.CT P w) P w K mg base N q (defScope st) f cdv A outer s H E) (defBody st) t ∧ ∀ ds, ds.length = ps.length → StG (S := Unit) K cl (fun _ => some E) Ct.rt (fun _ => []) t (st0 N.length ds) (m ds)) :
    FnOk P w K mg base (Cgx.CT P w) (k + 1) f fd ps (SpP K cl ps.length m) := by
  obtain ⟨oc, od, kV, doc, pm, an, cdv, ct, osl, rfl, lk, hcd⟩ := F.ex
  refine fn_of lk hcd Sc (fun vs H Q E h => h.len) fun A outer s H vs Q E hr h => ?_
  obtain ⟨t, ht, hs⟩ := hb cdv A outer s H E hr
  obtain ⟨ds, G, r, hl, e, h⟩ := h
  refine ⟨t, ht, hs ds hl G H _ (sta_start r e (by rw [r.len, hl]; exact scope_le Sc)) _ (Tr.wp_mono (fun d hd v G' H' g e' _ rv => hd v G' H' (g.less fun a z => owns_start z) e' rv) (fun c hc H' kf => hc H' fun a o _ ha => kf a o (fun z => owns_start z) ha) h)⟩
/-- that may raise, and hands nothing back -/
theorem fn_raise0 {x q : Str} {st : Stmt} {f : Addr} {fd : FuncData} {N ps : List Str} {k : Nat} {m : List PyData → Tr Unit} (F : Fun K x q st f fd) (Sc : FnScope N ps (defScope st))
    (hb : ∀ (cdv : Value) (A : Around) (outer : List Env) (s : Shared) (H : Hp) (E : XK), Room k (A.deeper (envOfC q (defScope st) s.heap.objs.size f cdv)) →
      ∃ (t : TS) (ρ' : Unit → List Sl), PSs (cxOf (Cgx.CT P w) P w K mg base N q (defScope st) f cdv A outer s H E) (defBody st) t ∧ ∀ ds, ds.length = ps.length → StG (S := Unit) K cl (fun _ => some E) Ct.nx ρ' t (st0 N.length ds) (m ds)) :
    FnOk P w K mg base (Cgx.CT P w) (k + 1) f fd ps (SpP K cl ps.length fun ds => (m ds).bind fun _ => .ret .none) := by
  obtain ⟨oc, od, kV, doc, pm, an, cdv, ct, osl, rfl, lk, hcd⟩ := F.ex
  refine fn_of lk hcd Sc (fun vs H Q E h => h.len) fun A outer s H vs Q E hr h => ?_
  obtain ⟨t, ρ', ht, hs⟩ := hb cdv A outer s H E hr
  obtain ⟨ds, G, r, hl, e, h⟩ := h
  refine ⟨t, ht, hs ds hl G H _ (sta_start r e (by rw [r.len, hl]; exact scope_le Sc)) _ (Tr.wp_mono (fun d hd σ' G' H' a => ?_) (fun c hc H' kf => hc H' fun a o _ ha => kf a o (fun z => owns_start z) ha) (Tr.wp_bind.mp h))⟩
  exact hd .non G' H' (a.gr.less fun a z => owns_start z) a.st.sub .non
section
variable {E : L2.St → Option XK} {ρ : List Sl} {S β : Type} {oc : β → Ct S} {ρ' : S → List Sl}
/-- raise C() -/
theorem st_raise {c : Ek} {E : XK} {u : TS} : StG K cl (fun _ => some E) oc ρ' (tSeq (Cgx.tRaise (cl c) fun cls d _ H => E cls d H) u) ρ (.exc c) := fun G H σ hS D q t ht => by
  have q' : Xo cl (some E) (Owns ρ σ) H c := q
  refine q' (upd H t (.tup [])) (fun a o _ ha => ?_) t upd_same
  rw [upd_ne (ne_of_none ha ht)]
  exact ha
end
end
end Cg
namespace Cg
open PySem PySem.Spec PyProof.Rows L2
section
variable {K : PySem.W.Frag} {cl : Ek → Addr} {E : L2.St → Option XK} {ρ : List Sl}
variable {S β : Type} {oc : β → Ct S} {ρ' : S → List Sl} {S1 : Type} {ρs : S1 → List Sl} {r : PyData → β} {tl ta tb2 : TE} {tb u : TS} {fl fa fb : Tr PyData} {k : S1 → Tr β} {s0 : S1} {i j l : Nat}
theorem StG.eq {ts : TS} {t t' : Tr β} (h : StG K cl E oc ρ' ts ρ t) (e : t = t') : StG K cl E oc ρ' ts ρ t' := by
  rw [← e]
  exact h
/-- an answer at a def's end -/
theorem st_ret {S : Type} {ρ' : S → List Sl} {te : TE} {f : Tr PyData} {u : TS} (h : Ev K cl E te ρ f) : StG (S := S) K cl E Ct.rt ρ' (tSeq (tRet te) u) ρ f := (st_rt (r := id) (fun _ => rfl) h).eq (Tr.bind_ret f)
theorem st_forS1 (hE : ∀ a b, E a = E b) (hr : ∀ d, oc (r d) = .rt d) {f : PyData → S1 → Tr (Ct S1)} (hl : Ev K cl E tl ρ fl) (w : Wk ρ (ρs s0)) (hi : ∀ s, nown (ρs s) i = true) (hf : ∀ d s, StG K cl E id ρs tb ((ρs s).set i (.dat d)) (f d s)) (hk : ∀ s, StG K cl E oc ρ' u (ρs s) (k s)) :
    StG K cl E oc ρ' (tSeq (tFor (iSeq K tl) (gName i) tb) u) ρ (fl.bind fun l => (items l).bind fun xs => forC r f k xs s0) :=
  st_forS hE hr hl w (fun s => tg_name (hi s)) (fun _ _ q => nomatch q) (fun d s _ => hf d s) hk
theorem st_forS1n (hE : ∀ a b, E a = E b) (hr : ∀ d, oc (r d) = .rt d) {f : PyData → S1 → Tr S1} (hl : Ev K cl E tl ρ fl) (w : Wk ρ (ρs s0)) (hi : ∀ s, nown (ρs s) i = true) (hf : ∀ d s, StG K cl E Ct.nx ρs tb ((ρs s).set i (.dat d)) (f d s)) (hk : ∀ s, StG K cl E oc ρ' u (ρs s) (k s)) :
    StG K cl E oc ρ' (tSeq (tFor (iSeq K tl) (gName i) tb) u) ρ (fl.bind fun l => (items l).bind fun xs => (forN f xs s0).bind k) :=
  (st_forS1 (r := r) hE hr hl w hi (fun d s => (hf d s).nxs) hk).eq (by congr; funext l; congr; funext xs; exact forC_N f k xs s0)
theorem st_forR11 (hE : ∀ a b, E a = E b) (hr : ∀ d, oc (r d) = .rt d) {f : PyData → S1 → Tr (Ct S1)} (ha : Ev K cl E ta ρ fa) (w : Wk ρ (ρs s0)) (hi : ∀ s, nown (ρs s) i = true) (hf : ∀ d s, StG K cl E id ρs tb ((ρs s).set i (.dat d)) (f d s)) (hk : ∀ s, StG K cl E oc ρ' u (ρs s) (k s)) :
    StG K cl E oc ρ' (tSeq (tFor (iRng1 (tCons ta tNil)) (gName i) tb) u) ρ (fa.bind fun a => (rangeT (.int 0) a).bind fun xs => forC r f k xs s0) :=
  st_forR1 hE hr ha w (fun s => tg_name (hi s)) (fun _ _ q => nomatch q) (fun d s _ => hf d s) hk
theorem st_forR11n (hE : ∀ a b, E a = E b) (hr : ∀ d, oc (r d) = .rt d) {f : PyData → S1 → Tr S1} (ha : Ev K cl E ta ρ fa) (w : Wk ρ (ρs s0)) (hi : ∀ s, nown (ρs s) i = true) (hf : ∀ d s, StG K cl E Ct.nx ρs tb ((ρs s).set i (.dat d)) (f d s)) (hk : ∀ s, StG K cl E oc ρ' u (ρs s) (k s)) :
    StG K cl E oc ρ' (tSeq (tFor (iRng1 (tCons ta tNil)) (gName i) tb) u) ρ (fa.bind fun a => (rangeT (.int 0) a).bind fun xs => (forN f xs s0).bind k) :=
  (st_forR11 (r := r) hE hr ha w hi (fun d s => (hf d s).nxs) hk).eq (by congr; funext l; congr; funext xs; exact forC_N f k xs s0)
theorem st_forR21 (hE : ∀ a b, E a = E b) (hr : ∀ d, oc (r d) = .rt d) {f : PyData → S1 → Tr (Ct S1)} (ha : Ev K cl E ta ρ fa) (hb : Ev K cl E tb2 ρ fb) (w : Wk ρ (ρs s0)) (hi : ∀ s, nown (ρs s) i = true) (hf : ∀ d s, StG K cl E id ρs tb ((ρs s).set i (.dat d)) (f d s)) (hk : ∀ s, StG K cl E oc ρ' u (ρs s) (k s)) :
    StG K cl E oc ρ' (tSeq (tFor (iRng2 (tCons ta (tCons tb2 tNil))) (gName i) tb) u) ρ (fa.bind fun a => fb.bind fun b => (rangeT a b).bind fun xs => forC r f k xs s0) :=
  st_forR2 hE hr ha hb w (fun s => tg_name (hi s)) (fun _ _ q => nomatch q) (fun d s _ => hf d s) hk
theorem room65 {k : Nat} {A : Around} (hr : Room k A) : A.units + 65 < cLine := by
  have := hr.un
  omega
theorem room64 {k : Nat} {A : Around} (hr : Room k A) : A.units + 64 < cLine := by
  have := hr.un
  omega
theorem fn_never {P : Program} {w : World} {mg : Str → Option Value} {base : Heap} {CX : CXT} {k : Nat} {f : Addr} {fd : FuncData} {ps : List Str} {sp : Sp} (h : ∀ vs H Q E, ¬ sp vs H Q E) : FnOk P w K mg base CX k f fd ps sp :=
  ⟨fun vs H Q E q => absurd q (h vs H Q E), fun _ _ _ H _ _ vs Q E _ _ _ _ q => absurd q (h vs H Q E)⟩
theorem spN_bad {n : Nat} {m : List PyData → Tr PyData} (hm : ∀ ds, ds.length = n → m ds = .bad) (vs : List V) (H : Hp) (Q : VK) (E : XK) : ¬ SpN K n m vs H Q E := fun ⟨ds, G, _, hl, _, h⟩ => by
  rw [hm ds hl] at h
  exact h
/-- a number below m is drawn -/
def takeT : PyData → Tr PyData
  | .int m => if 1 ≤ m ∧ m < 1073741824 then .draw m.toNat fun i => .ret (.int (i : Int)) else .bad
  | _ => .bad
end
@[simp] theorem on1_one (f : PyData → Tr PyData) (a : PyData) : on1 f [a] = f a := rfl
def dInt : PyData → Tr PyData
  | .int i => .ret (.int i)
  | .bool b => .ret (.int (if b then 1 else 0))
  | _ => .bad
theorem rk_int {K : PySem.W.Frag} : RK1 K (fun xs H Q => (∃ i, xs = [.int i] ∧ Q (.int i) H) ∨ ∃ k, xs = [.bl k] ∧ Q (.int (if k then 1 else 0)) H) dInt := fun cl E ρ σ G H x a S rx Q h => by
  cases rx with
  | int i => exact .inl ⟨i, rfl, Po.now h S (.int _)⟩
  | bl b => exact .inr ⟨b, rfl, Po.now h S (.int _)⟩
  | _ => exact h.elim
/-- a new box, of a list of numbers -/
def SpMk (K : PySem.W.Frag) : Sp := fun vs H Q _ => ∃ (v : V) (ns : List Int) (G : Hp), vs = [v] ∧ Rp K G v (.list (ns.map PyData.int)) ∧ Ex G H ∧
  ∀ b G' H', Gr (fun _ => False) G H G' H' → Ex G' H' → H b = none → BoxOk K G' H' b → Q (.ref b) H'
def boxT : PyData → Tr Unit
  | .list xs => if (asInts xs).isSome then .ret () else .bad
  | _ => .bad
section
variable {K : PySem.W.Frag} {cl : Ek → Addr} {E : L2.St → Option XK} {ρ : List Sl} {S β : Type} {oc : β → Ct S} {ρ' : S → List Sl} {u : TS}
theorem mapT_ints {f : PyData → Tr PyData} {g : Int → Int} (h : ∀ i, f (.int i) = .ret (.int (g i))) : ∀ ns : List Int, mapT f (ns.map PyData.int) = .ret ((ns.map g).map PyData.int)
  | [] => rfl
  | n :: ns => by
    show ((f (.int n)).bind fun y => (mapT f (ns.map PyData.int)).bind fun ys => .ret (y :: ys)) = _
    rw [h n, mapT_ints h ns]
    rfl
/-- box = _law_box(script) -/
theorem st_box (hE : ∀ a b, E a = E b) {i : Nat} {ta : TE} {f : Tr PyData} {g : Tr β} (h : Ev K cl E ta ρ f) (k : StG K cl E oc ρ' u (ρ.set i .box) g) (n : nown ρ i = true := by rfl) (hi : i ≠ 0 := by decide) :
    StG K cl E oc ρ' (tSeq (tAsg (tCall (SpMk K) [] E0 (tCons ta tNil)) (gName i)) u) ρ (f.bind fun d => (boxT d).bind fun _ => g) :=
  fun G H σ hS D q => h.then (g := fun d => (boxT d).bind fun _ => g) hS q fun d v G1 H1 a rv w => by
    cases rv with
    | @lst p xs ds hs hl ha =>
      have w' : ((if (asInts ds).isSome then Tr.ret () else .bad).bind fun _ => g).wp (fun b => OutP K ρ σ G1 H1 ρ' D (oc b)) (Xo cl (E σ) (Owns ρ σ) H1) := w
      split at w'
      · rename_i hi2
        obtain ⟨ns, hns⟩ := Option.isSome_iff_exists.mp hi2
        have e := asInts_map hns
        subst e
        refine ⟨.ref p, ns, G1, rfl, .lst hs hl ha, a.st.sub, fun b G2 H2 gr e2 hb bo => ?_⟩
        have S2 := a.st.grow gr e2
        have nb : ∀ j : Nat, ∀ s, ρ[j]? = some s → owning s = true → σ[j]? ≠ some (some (.ref b)) := fun j s h1 h2 h3 => (a.st.own ⟨j, s, h1, h2, h3⟩).2 hb
        have ne : ∀ (j : Nat) (s : Sl), (ρ.set i .box)[j]? = some s → owning s = true → j = i ∨ (i ≠ j ∧ ρ[j]? = some s) := fun j s h1 _ => by
          by_cases z : i = j
          · exact .inl z.symm
          · rw [List.getElem?_set_ne z] at h1
            exact .inr ⟨z, h1⟩
        have S3 : Sta K G2 H2 (ρ.set i .box) (σ.set i (some (.ref b))) := by
          refine ⟨by rw [List.length_set, List.length_set]; exact S2.len, e2, fun j s o h1 h2 => ?_, fun j l sj sl x h1 h2 h3 h4 h5 h6 => ?_⟩
          · by_cases z : i = j
            · subst z
              have hl2 : i < σ.length := by
                have := (List.getElem?_eq_some_iff.mp h2).1
                rwa [List.length_set] at this
              rw [List.getElem?_set_self (by rw [S2.len]; exact hl2)] at h1
              rw [List.getElem?_set_self hl2] at h2
              cases h1
              cases h2
              exact ⟨b, rfl, bo⟩
            · rw [List.getElem?_set_ne z] at h1 h2
              exact S2.ok j s o h1 h2
          · rcases ne j sj h1 h3 with e1 | ⟨e1, q1⟩
            · rcases ne l sl h2 h4 with e2 | ⟨e2, q2⟩
              · rw [e1, e2]
              · subst e1
                rw [List.getElem?_set_ne e2] at h6
                have hl2 : j < σ.length := by
                  have := (List.getElem?_eq_some_iff.mp h5).1
                  rwa [List.length_set] at this
                rw [List.getElem?_set_self hl2] at h5
                cases h5
                exact absurd h6 (nb l sl q2 h4)
            · rcases ne l sl h2 h4 with e2 | ⟨e2, q2⟩
              · subst e2
                rw [List.getElem?_set_ne e1] at h5
                have hl2 : l < σ.length := by
                  have := (List.getElem?_eq_some_iff.mp h6).1
                  rwa [List.length_set] at this
                rw [List.getElem?_set_self hl2] at h6
                cases h6
                exact absurd h5 (nb j sj q1 h3)
              · rw [List.getElem?_set_ne e1] at h5
                rw [List.getElem?_set_ne e2] at h6
                exact S2.dis j l sj sl x q1 q2 h3 h4 h5 h6
        have a2 : Af K ρ σ G1 H1 (ρ.set i .box) (σ.set i (some (.ref b))) G2 H2 := by
          refine ⟨gr.less fun _ z => z.elim, S3, fun x ⟨j, s, h1, h2, h3⟩ => ?_, fun y z => ⟨by rw [List.getElem?_set_ne hi]; exact z.1, by rw [List.getElem?_set_ne hi]; exact z.2⟩⟩
          rcases ne j s h1 h2 with e1 | ⟨e1, q1⟩
          · subst e1
            have hl2 : j < σ.length := by
              have := (List.getElem?_eq_some_iff.mp h3).1
              rwa [List.length_set] at this
            rw [List.getElem?_set_self hl2] at h3
            cases h3
            exact .inr hb
          · rw [List.getElem?_set_ne e1] at h3
            exact .inl ⟨j, s, q1, h2, h3⟩
        exact k G2 H2 _ S3 D (upS hE a2 w')
      · exact w'.elim
    | _ => exact w.elim
end
theorem ev_negc {K : PySem.W.Frag} {cl : Ek → Addr} {E : L2.St → Option XK} {ρ : List Sl} {i : Int} : Ev K cl E (tUn (rU fun i => .int (-i)) (tC (.int i))) ρ (.ret (.int (-i))) := fun G H σ S Q q => ⟨i, rfl, Po.now q S (.int _)⟩
structure KdAt (w : World) (K : PySem.W.Frag) (p : Addr) (tab : List (Str × Int)) : Prop where
  ex : ∃ es n, K.lookup p = some ⟨.type "dict", none, .dict es n, #[]⟩ ∧ PySem.W.KeysLit w.params es.toList
  at' : ∀ q ∈ tab, ∃ t, PySem.W.nsIn K p q.1 = some (some (.int q.2 t))
def kdT (tab : List (Str × Int)) : PyData → Tr PyData
  | .str s => match tab.find? (fun (q : Str × Int) => q.1 == s) with
    | some q => .ret (.int q.2)
    | none => .bad
  | _ => .bad
theorem ev_kd {w : World} {K : PySem.W.Frag} {cl : Ek → Addr} {E : L2.St → Option XK} {ρ : List Sl} {p : Addr} {tab : List (Str × Int)} {tb : TE} {fb : Tr PyData} (D : KdAt w K p tab) (hb : Ev K cl E tb ρ fb) : Ev K cl E (tOp (rIxD K w) (tC (.ref p)) tb) ρ (fb.bind fun y => kdT tab y) :=
  fun G H σ S Q h => hb.seq S h fun y v G1 H1 g1 S1 ry h1 => by
    cases ry with
    | str s =>
      have h2 : (match tab.find? (fun (q : Str × Int) => q.1 == s) with | some q => Tr.ret (PyData.int q.2) | none => .bad).wp (Po K ρ σ (Rp K) G1 H1 Q) (Xo cl (E σ) (Owns ρ σ) H1) := h1
      cases e : tab.find? (fun (q : Str × Int) => q.1 == s) with
      | none =>
        rw [e] at h2
        exact h2.elim
      | some q =>
        rw [e] at h2
        have hq := List.mem_of_find?_eq_some e
        have hs : q.1 = s := by simpa using List.find?_some e
        obtain ⟨es, n, hl, hk⟩ := D.ex
        obtain ⟨t, ht⟩ := D.at' q hq
        rw [hs] at ht
        exact ⟨p, s, .int q.2, rfl, rfl, ⟨es, n, _, hl, hk, ht, ⟨t, rfl⟩⟩, Po.now h2 S1 (.int _)⟩
    | _ => exact h1.elim
/-- a def as it stands behind the top -/
structure DefAt (K : PySem.W.Frag) (mg : Str → Option Value) (x : Str) (st : Stmt) (ps : List Str) where
  f : Addr
  fd : FuncData
  F : Fun K x x st f fd
  g : mg x = some (.ref f)
  b : Binds K fd ps []
end Cg
namespace Cg
open PySem PySem.Spec PyProof.Rows L2 L2H Cgx
end Cg
namespace Cg
open PySem PySem.Spec PyProof.Rows L2
def on2g {β : Type} (g : PyData → PyData → Tr β) : List PyData → Tr β
  | [a, b] => g a b
  | _ => .bad
@[simp] theorem on2g_two {β : Type} (g : PyData → PyData → Tr β) (a b : PyData) : on2g g [a, b] = g a b := rfl
section
variable {K : PySem.W.Frag} {cl : Ek → Addr} {E : L2.St → Option XK} {ρ : List Sl} {S β : Type} {oc : β → Ct S} {ρ' : S → List Sl} {u : TS}
theorem ea_ev {te : TA} {n : Nat} {F : ∀ β : Type, (List PyData → Tr β) → Tr β} (h : EvA K cl E te ρ n F) : EvG K cl E (fun G vs ds => RpAll K G vs ds ∧ ds.length = n) te ρ (F _ Tr.ret) := fun G H σ S Q q =>
  h G H σ S (fun G vs ds => RpAll K G vs ds ∧ ds.length = n) Tr.ret Q _ q fun ds vs G1 H1 g1 S1 rs hl q1 => Po.now q1 S1 ⟨rs, hl⟩
end
def dDiv : PyData → PyData → Tr PyData
  | .int i, .int j => if 0 < j ∧ j < 1073741824 then .ret (.int (i / j)) else .bad
  | _, _ => .bad
def dMod : PyData → PyData → Tr PyData
  | .int i, .int j => if 0 < j then .ret (.int (i % j)) else .bad
  | _, _ => .bad
def dMax : PyData → PyData → Tr PyData
  | .int i, .int j => .ret (.int (if j > i then j else i))
  | _, _ => .bad
def dMin : PyData → PyData → Tr PyData
  | .int i, .int j => .ret (.int (if j < i then j else i))
  | _, _ => .bad
section
variable {K : PySem.W.Frag}
theorem rr_div : RR K (rI CDiv fun i j => .int (i / j)) dDiv := fun cl E ρ σ G H x y a b S rx ry Q h => by
  cases rx with
  | int i =>
    cases ry with
    | int j =>
      have h' : (if 0 < j ∧ j < 1073741824 then Tr.ret (PyData.int (i / j)) else .bad).wp (Po K ρ σ (Rp K) G H Q) (Xo cl (E σ) (Owns ρ σ) H) := h
      split at h'
      · exact ⟨i, j, rfl, rfl, by assumption, Po.now h' S (.int _)⟩
      · exact h'.elim
    | _ => exact h.elim
  | _ => exact h.elim
theorem rr_mod : RR K (rI (fun _ j => 0 < j) fun i j => .int (i % j)) dMod := fun cl E ρ σ G H x y a b S rx ry Q h => by
  cases rx with
  | int i =>
    cases ry with
    | int j =>
      have h' : (if 0 < j then Tr.ret (PyData.int (i % j)) else .bad).wp (Po K ρ σ (Rp K) G H Q) (Xo cl (E σ) (Owns ρ σ) H) := h
      split at h'
      · exact ⟨i, j, rfl, rfl, by assumption, Po.now h' S (.int _)⟩
      · exact h'.elim
    | _ => exact h.elim
  | _ => exact h.elim
@[simp] theorem on2_two (f : PyData → PyData → Tr PyData) (a b : PyData) : on2 f [a, b] = f a b := rfl
theorem rk_max2 : RK K (fun xs H Q => ∃ i j, xs = [.int i, .int j] ∧ Q (.int (if j > i then j else i)) H) (on2 dMax) := fun cl E ρ σ G H vs ds S r Q h => by
  match ds, vs, r, h with
  | [a, b], [x, y], .cons r1 (.cons r2 .nil), h =>
    cases r1 with
    | int i =>
      cases r2 with
      | int j => exact ⟨i, j, rfl, Po.now h S (.int _)⟩
      | _ => exact h.elim
    | _ => exact h.elim
  | [], _, _, h => exact h.elim
  | [_], _, _, h => exact h.elim
  | _ :: _ :: _ :: _, _, _, h => exact h.elim
theorem rk_min2 : RK K (fun xs H Q => ∃ i j, xs = [.int i, .int j] ∧ Q (.int (if j < i then j else i)) H) (on2 dMin) := fun cl E ρ σ G H vs ds S r Q h => by
  match ds, vs, r, h with
  | [a, b], [x, y], .cons r1 (.cons r2 .nil), h =>
    cases r1 with
    | int i =>
      cases r2 with
      | int j => exact ⟨i, j, rfl, Po.now h S (.int _)⟩
      | _ => exact h.elim
    | _ => exact h.elim
  | [], _, _, h => exact h.elim
  | [_], _, _, h => exact h.elim
  | _ :: _ :: _ :: _, _, _, h => exact h.elim
end
section
variable {K : PySem.W.Frag} {cl : Ek → Addr} {E : L2.St → Option XK} {ρ : List Sl}
variable {S β : Type} {oc : β → Ct S} {ρ' : S → List Sl} {S1 : Type} {ρs : S1 → List Sl} {r : PyData → β} {tl : TE} {tb u : TS} {fl : Tr PyData} {k : S1 → Tr β} {s0 : S1} {i j l : Nat}
theorem and_two {a b : Bool} (h : (a && b) = true) : a = true ∧ b = true := Bool.and_eq_true_iff.mp h
theorem st_forS2 (hE : ∀ a b, E a = E b) (hr : ∀ d, oc (r d) = .rt d) {f : PyData → PyData → S1 → Tr (Ct S1)} (hl : Ev K cl E tl ρ fl) (w : Wk ρ (ρs s0)) (hi : ∀ s, (nown (ρs s) i && nown (ρs s) j) = true) (hf : ∀ a b s, StG K cl E id ρs tb (((ρs s).set i (.dat a)).set j (.dat b)) (f a b s)) (hk : ∀ s, StG K cl E oc ρ' u (ρs s) (k s)) (ne : i ≠ j := by decide) :
    StG K cl E oc ρ' (tSeq (tFor (iSeq K tl) (gTup K 2 (gCons (gName i) (gCons (gName j) gNil))) tb) u) ρ (fl.bind fun l => (items l).bind fun xs => forC r (fun d s => un2 (fun a b => f a b s) d) k xs s0) :=
  st_forS (vs := [i, j]) hE hr hl w (fun s => tg_tup2 (and_two (hi s)).1 (and_two (hi s)).2 ne List.mem_cons_self (List.mem_cons_of_mem _ List.mem_cons_self)) (fun d s q => by
    unfold un2
    cases e : pair? d with
    | none => rfl
    | some p => rw [e] at q; cases q) (fun d s q => by
    unfold un2
    cases e : pair? d with
    | none => rw [e] at q; cases q
    | some p => exact hf p.1 p.2 s) hk
theorem st_forS3 (hE : ∀ a b, E a = E b) (hr : ∀ d, oc (r d) = .rt d) {f : PyData → PyData → PyData → S1 → Tr (Ct S1)} (hl : Ev K cl E tl ρ fl) (w : Wk ρ (ρs s0)) (hi : ∀ s, (nown (ρs s) i && (nown (ρs s) j && nown (ρs s) l)) = true) (hf : ∀ a b c s, StG K cl E id ρs tb ((((ρs s).set i (.dat a)).set j (.dat b)).set l (.dat c)) (f a b c s)) (hk : ∀ s, StG K cl E oc ρ' u (ρs s) (k s)) (ne : i ≠ j := by decide) (ne2 : i ≠ l := by decide) (ne3 : j ≠ l := by decide) :
    StG K cl E oc ρ' (tSeq (tFor (iSeq K tl) (gTup K 3 (gCons (gName i) (gCons (gName j) (gCons (gName l) gNil)))) tb) u) ρ (fl.bind fun z => (items z).bind fun xs => forC r (fun d s => un3 (fun a b c => f a b c s) d) k xs s0) :=
  st_forS (vs := [i, j, l]) hE hr hl w (fun s => tg_tup3 (and_two (hi s)).1 (and_two (and_two (hi s)).2).1 (and_two (and_two (hi s)).2).2 ne ne2 ne3 List.mem_cons_self (List.mem_cons_of_mem _ List.mem_cons_self) (List.mem_cons_of_mem _ (List.mem_cons_of_mem _ List.mem_cons_self))) (fun d s q => by
    unfold un3
    cases e : trip? d with
    | none => rfl
    | some p => rw [e] at q; cases q) (fun d s q => by
    unfold un3
    cases e : trip? d with
    | none => rw [e] at q; cases q
    | some p => exact hf p.1 p.2.1 p.2.2 s) hk
end
def asBools : List PyData → Option (List Bool)
  | [] => some []
  | .bool i :: r => (asBools r).map (i :: ·)
  | _ => none
def dAll : PyData → Tr PyData
  | .list xs => match asBools xs with
    | some bs => .ret (.bool (bs.all id))
    | none => .bad
  | _ => .bad
def dAny : PyData → Tr PyData
  | .list xs => match asBools xs with
    | some bs => .ret (.bool (bs.any id))
    | none => .bad
  | _ => .bad
section
variable {K : PySem.W.Frag}
theorem asBools_vals {G : Hp} : ∀ {ds : List PyData} {xs : List V} {bs : List Bool}, RpAll K G xs ds → asBools ds = some bs → xs = bs.map V.bl
  | [], _, bs, .nil, h => by
    cases h
    rfl
  | .bool i :: r, _, bs, .cons r1 rs, h => by
    simp only [asBools] at h
    cases e : asBools r with
    | none =>
      rw [e] at h
      cases h
    | some ms =>
      rw [e] at h
      cases h
      cases r1
      rw [asBools_vals rs e]
      rfl
  | .none :: _, _, _, _, h => nomatch h
  | .int _ :: _, _, _, _, h => nomatch h
  | .str _ :: _, _, _, _, h => nomatch h
  | .list _ :: _, _, _, _, h => nomatch h
  | .tuple _ :: _, _, _, _, h => nomatch h
  | .dict _ :: _, _, _, _, h => nomatch h
theorem rk_all : RK1 K (rAll K) dAll := fun cl E ρ σ G H x a S rx Q h => by
  cases rx with
  | @lst p xs ds hs hl ha =>
    have h' : (match asBools ds with | some bs => Tr.ret (PyData.bool (bs.all id)) | none => .bad).wp (Po K ρ σ (Rp K) G H Q) (Xo cl (E σ) (Owns ρ σ) H) := h
    cases hd : asBools ds with
    | none =>
      rw [hd] at h'
      exact h'.elim
    | some bs =>
      rw [hd] at h'
      have e2 := asBools_vals ha hd
      subst e2
      exact ⟨p, bs, rfl, S.sub.l hs, Po.now h' S (.bl _)⟩
  | _ => exact h.elim
theorem rk_any : RK1 K (rAny K) dAny := fun cl E ρ σ G H x a S rx Q h => by
  cases rx with
  | @lst p xs ds hs hl ha =>
    have h' : (match asBools ds with | some bs => Tr.ret (PyData.bool (bs.any id)) | none => .bad).wp (Po K ρ σ (Rp K) G H Q) (Xo cl (E σ) (Owns ρ σ) H) := h
    cases hd : asBools ds with
    | none =>
      rw [hd] at h'
      exact h'.elim
    | some bs =>
      rw [hd] at h'
      have e2 := asBools_vals ha hd
      subst e2
      exact ⟨p, bs, rfl, S.sub.l hs, Po.now h' S (.bl _)⟩
  | _ => exact h.elim
end
end Cg
namespace Cg
open PySem PySem.Spec PyProof.Rows L2
def unL : PyData → List PyData
  | .list xs => xs
  | _ => []
@[simp] theorem unL_list (xs : List PyData) : unL (.list xs) = xs := rfl
section
variable {K : PySem.W.Frag} {cl : Ek → Addr} {E : L2.St → Option XK} {ρ : List Sl} {σ : L2.St} {G H G1 H1 : Hp}
theorem get_lt {α : Type} {l : List α} {i : Nat} {x : α} (h : l[i]? = some x) : i < l.length := (List.getElem?_eq_some_iff.mp h).1
theorem set_self {α : Type} {l : List α} {i : Nat} {x y z : α} (h : l[i]? = some x) (q : (l.set i y)[i]? = some z) : z = y := by
  rw [List.getElem?_set_self (get_lt h)] at q
  exact (Option.some.inj q).symm
/-- what was ours is data from here on -/
theorem freeze (S : Sta K G H ρ σ) {i : Nat} {ds : List PyData} (hi : ρ[i]? = some (.acc ds)) : ∃ G1, Af K ρ σ G H (ρ.set i (.dat (.list ds))) σ G1 H := by
  have hs : i < σ.length := by
    rw [← S.len]
    exact get_lt hi
  have ho : σ[i]? = some σ[i] := List.getElem?_eq_getElem hs
  generalize σ[i] = o at ho
  obtain ⟨a, xs, eo, ha, hl, r, hg⟩ := S.ok i _ o hi ho
  subst eo
  have ow : Owns ρ σ a := ⟨i, _, hi, rfl, ho⟩
  have e : Ex G (upd G a (.lst xs)) := Ex.new hg
  have ne : ∀ (j : Nat) (s : Sl), (ρ.set i (.dat (.list ds)))[j]? = some s → owning s = true → i ≠ j := fun j s h1 h2 z => by
    subst z
    cases set_self hi h1
    cases h2
  refine ⟨upd G a (.lst xs), ⟨e, fun b hb _ hgb => ?_, fun _ _ _ h => h, fun _ h => h⟩, ⟨by rw [List.length_set]; exact S.len, fun b u q => ?_, fun j s o' h1 h2 => ?_, fun j l sj sl b h1 h2 h3 h4 h5 h6 => ?_⟩, fun b h => .inl ?_, fun b h => ⟨?_, h.2⟩⟩
  · rw [upd_ne (fun z => hb (by rw [z]; exact ow))]
    exact hgb
  · by_cases z : b = a
    · rw [z, upd_same] at q
      rw [z, ha]
      exact q
    · rw [upd_ne z] at q
      exact S.sub b u q
  · by_cases z : i = j
    · subst z
      cases set_self hi h1
      rw [ho] at h2
      cases h2
      exact ⟨.ref a, rfl, .lst (SqL.of upd_same) hl (r.mono e)⟩
    · rw [List.getElem?_set_ne z] at h1
      refine (S.ok j s o' h1 h2).grow e (fun b q1 q2 q3 _ => ?_) (fun _ _ _ _ h => h)
      subst q2
      rw [upd_ne (fun y => z (S.dis i j _ s a hi h1 rfl q1 ho (by rw [h2, y])))]
      exact q3
  · have n1 := ne j sj h1 h3
    have n2 := ne l sl h2 h4
    rw [List.getElem?_set_ne n1] at h1
    rw [List.getElem?_set_ne n2] at h2
    exact S.dis j l sj sl b h1 h2 h3 h4 h5 h6
  · obtain ⟨j, s, h1, h2, h3⟩ := h
    rw [List.getElem?_set_ne (ne j s h1 h2)] at h1
    exact ⟨j, s, h1, h2, h3⟩
  · rw [List.getElem?_set_ne (fun z => by
      subst z
      rw [h.1] at hi
      cases hi)]
    exact h.1
/-- a slot that owns nothing takes a new list -/
theorem Sta.newL (S : Sta K G H ρ σ) {i : Nat} {p : Addr} (n : nown ρ i = true) (hp : H p = none) : Af K ρ σ G H (ρ.set i (.acc [])) (σ.set i (some (.ref p))) G (upd H p (.lst [])) := by
  have gp : G p = none := S.sub.back hp
  have old : ∀ (j : Nat) (s : Sl) (b : Addr), ρ[j]? = some s → owning s = true → σ[j]? = some (some (.ref b)) → b ≠ p := fun j s b h1 h2 h3 z => by
    have q := (S.own ⟨j, s, h1, h2, h3⟩).2
    rw [z] at q
    exact q hp
  refine ⟨⟨Ex.refl G, fun _ _ _ h => h, fun b u _ hb => ?_, fun b hb => ?_⟩, ⟨by rw [List.length_set, List.length_set]; exact S.len, fun b u q => ?_, fun j s o h1 h2 => ?_, fun j l sj sl b h1 h2 h3 h4 h5 h6 => ?_⟩, fun b h => ?_, fun b h => ?_⟩
  · rw [upd_ne (ne_of_none hb hp)]
    exact hb
  · rw [upd_ne (fun z => hb (by rw [z]; exact hp))]
    exact hb
  · have := S.sub b u q
    rw [upd_ne (ne_of_none this hp)]
    exact this
  · by_cases z : i = j
    · subst z
      have l1 : i < ρ.length := by
        have := get_lt h1
        rwa [List.length_set] at this
      have l2 : i < σ.length := by
        rw [← S.len]
        exact l1
      rw [List.getElem?_set_self l1] at h1
      rw [List.getElem?_set_self l2] at h2
      cases h1
      cases h2
      exact ⟨p, [], rfl, upd_same, Nat.zero_le _, .nil, gp⟩
    · rw [List.getElem?_set_ne z] at h1 h2
      refine (S.ok j s o h1 h2).grow (Ex.refl G) (fun _ _ _ h _ => h) fun b u q1 q2 h => ?_
      subst q2
      rw [upd_ne (old j s b h1 q1 h2)]
      exact h
  · by_cases z1 : i = j
    · by_cases z2 : i = l
      · exact z1.symm.trans z2
      · exfalso
        subst z1
        have l2 : i < σ.length := by
          have := get_lt h5
          rwa [List.length_set] at this
        rw [List.getElem?_set_self l2] at h5
        rw [List.getElem?_set_ne z2] at h2 h6
        exact old l sl b h2 h4 h6 (by cases h5; rfl)
    · by_cases z2 : i = l
      · exfalso
        subst z2
        have l2 : i < σ.length := by
          have := get_lt h6
          rwa [List.length_set] at this
        rw [List.getElem?_set_self l2] at h6
        rw [List.getElem?_set_ne z1] at h1 h5
        exact old j sj b h1 h3 h5 (by cases h6; rfl)
      · rw [List.getElem?_set_ne z1] at h1 h5
        rw [List.getElem?_set_ne z2] at h2 h6
        exact S.dis j l sj sl b h1 h2 h3 h4 h5 h6
  · obtain ⟨j, s, h1, h2, h3⟩ := h
    by_cases z : i = j
    · subst z
      have l2 : i < σ.length := by
        have := get_lt h3
        rwa [List.length_set] at this
      rw [List.getElem?_set_self l2] at h3
      cases h3
      exact .inr hp
    · rw [List.getElem?_set_ne z] at h1 h3
      exact .inl ⟨j, s, h1, h2, h3⟩
  · have z : i ≠ 0 := fun z => by
      subst z
      have := nown_of n _ h.1
      cases this
    exact ⟨by rw [List.getElem?_set_ne z]; exact h.1, by rw [List.getElem?_set_ne z]; exact h.2⟩
/-- what is ours is put behind -/
theorem Sta.push (S : Sta K G H ρ σ) {i : Nat} {ds : List PyData} {a : Addr} {xs : List V} {v : V} {d : PyData} (hi : ρ[i]? = some (.acc ds)) (ho : σ[i]? = some (some (.ref a))) (ha : H a = some (.lst xs)) (r : RpAll K G xs ds) (rv : Rp K G v d) (hl : ds.length < sizeLine) (hg : G a = none) :
    Af K ρ σ G H (ρ.set i (.acc (ds ++ [d]))) σ G (upd H a (.lst (xs ++ [v]))) := by
  have ow : Owns ρ σ a := ⟨i, _, hi, rfl, ho⟩
  have oth : ∀ (j : Nat) (s : Sl) (b : Addr), i ≠ j → ρ[j]? = some s → owning s = true → σ[j]? = some (some (.ref b)) → b ≠ a := fun j s b z h1 h2 h3 y => z (S.dis i j _ s a hi h1 rfl h2 ho (by rw [h3, y]))
  have sl : ∀ (j : Nat) (s : Sl), (ρ.set i (.acc (ds ++ [d])))[j]? = some s → owning s = true → ∃ s', ρ[j]? = some s' ∧ owning s' = true := fun j s h1 h2 => by
    by_cases z : i = j
    · subst z
      exact ⟨_, hi, rfl⟩
    · rw [List.getElem?_set_ne z] at h1
      exact ⟨s, h1, h2⟩
  refine ⟨⟨Ex.refl G, fun _ _ _ h => h, fun b u hb h => ?_, fun b h => ?_⟩, ⟨by rw [List.length_set]; exact S.len, fun b u q => ?_, fun j s o h1 h2 => ?_, fun j l sj sl' b h1 h2 h3 h4 h5 h6 => ?_⟩, fun b h => .inl ?_, fun b h => ⟨?_, h.2⟩⟩
  · rw [upd_ne (fun z => hb (by rw [z]; exact ow))]
    exact h
  · by_cases z : b = a
    · rw [z, upd_same]
      exact fun y => nomatch y
    · rw [upd_ne z]
      exact h
  · rw [upd_ne (fun z => by
      rw [z, hg] at q
      cases q)]
    exact S.sub b u q
  · by_cases z : i = j
    · subst z
      cases set_self hi h1
      rw [ho] at h2
      cases h2
      refine ⟨a, xs ++ [v], rfl, upd_same, ?_, r.append (.cons rv .nil), hg⟩
      rw [List.length_append, List.length_singleton]
      omega
    · rw [List.getElem?_set_ne z] at h1
      refine (S.ok j s o h1 h2).grow (Ex.refl G) (fun _ _ _ h _ => h) fun b u q1 q2 h => ?_
      subst q2
      rw [upd_ne (oth j s b z h1 q1 h2)]
      exact h
  · obtain ⟨s1, g1, g2⟩ := sl j sj h1 h3
    obtain ⟨s2, g3, g4⟩ := sl l sl' h2 h4
    exact S.dis j l s1 s2 b g1 g3 g2 g4 h5 h6
  · obtain ⟨j, s, h1, h2, h3⟩ := h
    obtain ⟨s1, g1, g2⟩ := sl j s h1 h2
    exact ⟨j, s1, g1, g2, h3⟩
  · rw [List.getElem?_set_ne (fun z => by
      subst z
      rw [h.1] at hi
      cases hi)]
    exact h.1
end
section
variable {K : PySem.W.Frag} {cl : Ek → Addr} {E : L2.St → Option XK} {ρ : List Sl} {S β : Type} {oc : β → Ct S} {ρ' : S → List Sl} {u : TS}
theorem st_freeze (hE : ∀ a b, E a = E b) {i : Nat} {ds : List PyData} {t : Tr β} (hi : ρ[i]? = some (.acc ds)) (k : StG K cl E oc ρ' u (ρ.set i (.dat (.list ds))) t) : StG K cl E oc ρ' u ρ t := fun G H σ hS D q => by
  obtain ⟨G1, a⟩ := freeze hS hi
  exact k G1 H σ a.st D (upS hE a q)
/-- name = [] -/
theorem st_accNew (hE : ∀ a b, E a = E b) {i : Nat} {g : PyData → Tr β} (k : ∀ v, StG K cl E oc ρ' u (ρ.set i (.acc (unL v))) (g v)) (n : nown ρ i = true := by rfl) : StG K cl E oc ρ' (tSeq (tAsg (tLst tNil) (gName i)) u) ρ ((Tr.ret (PyData.list [])).bind g) := fun G H σ hS D q =>
  ⟨Nat.zero_le _, fun p hp => k (.list []) G _ _ (hS.newL n hp).st D (upS hE (hS.newL n hp) q)⟩
/-- at most so many are put behind -/
def dApp (a y : PyData) : Tr PyData := if (unL a).length < 1000000 then .ret (.list (unL a ++ [y])) else .bad
/-- name.append(e) -/
theorem st_append (hE : ∀ a b, E a = E b) {i : Nat} {a : PyData} {te : TE} {f : Tr PyData} {g : PyData → Tr β} (hi : ρ[i]? = some (.acc (unL a))) (h : Ev K cl E te ρ f) (k : ∀ v, StG K cl E oc ρ' u (ρ.set i (.acc (unL v))) (g v)) :
    StG K cl E oc ρ' (tSeq (tDrop (tBM K "list" rAppend (tVar i) (tCons te tNil))) u) ρ (f.bind fun y => (dApp a y).bind g) := fun G H σ hS D q => by
  have hs : i < σ.length := by
    rw [← hS.len]
    exact get_lt hi
  have ho : σ[i]? = some σ[i] := List.getElem?_eq_getElem hs
  generalize σ[i] = o at ho
  obtain ⟨p, xs, eo, hp, hl, r, hg⟩ := hS.ok i _ o hi ho
  subst eo
  refine ⟨.ref p, ho, .inl ⟨rfl, _, SqL.of hp⟩, h.then (g := fun y => (dApp a y).bind g) hS q fun y v G1 H1 af rv w => ?_⟩
  obtain ⟨p', xs', eo, hp', hl', r', hg'⟩ := af.st.ok i _ _ hi ho
  obtain rfl : p = p' := V.ref.inj (Option.some.inj eo)
  have w' : ((if (unL a).length < 1000000 then Tr.ret (PyData.list (unL a ++ [y])) else .bad).bind g).wp (fun b => OutP K ρ σ G1 H1 ρ' D (oc b)) (Xo cl (E σ) (Owns ρ σ) H1) := w
  split at w'
  · rename_i hz
    have hz' : (unL a).length < sizeLine := by rw [sizeLine_eq]; omega
    have a2 := af.st.push hi ho hp' r' rv hz' hg'
    exact ⟨p, xs', v, rfl, rfl, hp', by rw [r'.len]; exact hz', k (.list (unL a ++ [y])) G1 _ σ a2.st D (upS hE a2 w')⟩
  · exact w'.elim
end
def dNeg : PyData → Tr PyData
  | .int i => .ret (.int (-i))
  | _ => .bad
section
variable {K : PySem.W.Frag} {cl : Ek → Addr} {E : L2.St → Option XK} {ρ : List Sl}
theorem ev_neg {te : TE} {f : Tr PyData} (h : Ev K cl E te ρ f) : Ev K cl E (tUn (rU fun i => .int (-i)) te) ρ (f.bind dNeg) := fun G H σ S Q q => h.seq S q fun a x G1 H1 g1 S1 rx q1 => by
  cases rx with
  | int i => exact ⟨i, rfl, Po.now q1 S1 (.int _)⟩
  | _ => exact q1.elim
end
end Cg
namespace Cg
open PySem PySem.Spec PyProof.Rows L2 RZ
def dPairs (xs ys : List PyData) : List PyData := List.zipWith (fun x y => PyData.tuple [x, y]) xs ys
def dZip : PyData → PyData → Tr (List PyData)
  | .tuple xs, .tuple ys => .ret (dPairs xs ys)
  | .list xs, .list ys => .ret (dPairs xs ys)
  | _, _ => .bad
theorem pairs_len (xs ys : List PyData) : (dPairs xs ys).length = min xs.length ys.length := List.length_zipWith
theorem pairs_get {xs ys : List PyData} {i : Nat} {d e : PyData} (h1 : xs[i]? = some d) (h2 : ys[i]? = some e) : (dPairs xs ys)[i]? = some (.tuple [d, e]) := by
  unfold dPairs
  rw [List.getElem?_zipWith, h1, h2]
section
variable {K : PySem.W.Frag} {cl : Ek → Addr} {E : L2.St → Option XK} {ρ : List Sl} {σ : L2.St} {G H G1 H1 : Hp}
theorem walk_zipT {a b : Addr} {xs ys : List V} {n : Nat} (hn : n = min xs.length ys.length) : Walk (ItzT K a b) n (fun H => SqT K H a xs ∧ SqT K H b ys) (YPair (fun i => xs[i]?) (fun i => ys[i]?)) := by
  refine ⟨fun i H hi q => ?_, fun H q => ⟨xs, ys, q.1, q.2, by omega⟩, fun i H x H' hi q y => ?_⟩
  · have l1 : i < xs.length := by omega
    have l2 : i < ys.length := by omega
    exact ⟨xs, ys, xs[i], ys[i], q.1, q.2, List.getElem?_eq_getElem l1, List.getElem?_eq_getElem l2⟩
  · obtain ⟨T, u, v, e1, hT, e2, f1, f2⟩ := y
    exact ⟨T, u, v, e1, hT, e2, f1 xs q.1, f2 ys q.2⟩
theorem Lc.lay {Dl : Addr} {acc : List PyData} {n : Nat} {G' H' : Hp} {T : Addr} {o : HO} (L : Lc K ρ σ G H Dl acc n G' H') (hT : H' T = none) : Lc K ρ σ G H Dl acc n (upd G' T o) (upd H' T o) := by
  obtain ⟨xs, hx, ha⟩ := L.at'
  have ne : Dl ≠ T := ne_of_none hx hT
  exact ⟨L.gr.trans' (Gr.lay hT L.st.sub), L.st.lay hT, L.old, by rw [upd_ne ne]; exact L.out, ⟨xs, by rw [upd_ne ne]; exact hx, ha.mono (Ex.new (L.st.sub.back hT))⟩, L.len⟩
theorem lc_zipW (hE : ∀ a b, E a = E b) {g : TG} {tt : TT} {te : TE} {vs : List Nat} {ρx : PyData → List Sl} {ok : PyData → Bool} {c : PyData → Tr Bool} {f : PyData → Tr PyData} (hv : ∀ i ∈ vs, ρ[i]? = some .any) (tg : TgR (RpW K) K g vs ρ ρx ok) (hb : ∀ d, ok d = false → c d = .bad)
    (ht : ∀ d, ok d = true → EvT K cl E tt (ρx d) (c d)) (he : ∀ d, ok d = true → Ev K cl E te (ρx d) (f d)) {Q : VK} {J : It} {n : Nat} {Gp : Hp → Prop} {xs ys : List V} {ds es : List PyData} (w : Walk J n Gp (YPair (fun i => xs[i]?) (fun i => ys[i]?)))
    (hn : n = min ds.length es.length) (hz : n ≤ sizeLine) (hG : ∀ H', Ex G1 H' → Gp H') (ra : RpAll K G1 xs ds) (rb : RpAll K G1 ys es) (S1 : Sta K G1 H1 ρ σ) (h1 : ((lcT c f [] (dPairs ds es)).bind fun ys => Tr.ret (PyData.list ys)).wp (Po K ρ σ (Rp K) G1 H1 Q) (Xo cl (E σ) (Owns ρ σ) H1)) {Dl : Addr} (hD : H1 Dl = none) :
    ∃ W : Nat → Nat → Hp → Prop, (∃ m, W 0 m (upd H1 Dl (.lst []))) ∧ ∀ i m H, W i m H →
      (J.stop i H ∧ Q (.ref Dl) H) ∨ (J.go i H ∧ ∃ Nx : Hp → Prop, (∀ H', Nx H' → ∃ m', m' < m ∧ W (i + 1) m' H') ∧ ∀ x H', J.yld i H x H' → g x (wipe σ vs) H' fun σ2 H2 => wipe σ2 vs = wipe σ vs ∧ tt σ2 H2 fun b H3 =>
        if b = true then te σ2 H3 fun y H4 => ∃ acc, H4 Dl = some (.lst acc) ∧ acc.length < sizeLine ∧ Nx (upd H4 Dl (.lst (acc ++ [y]))) else Nx H3) := by
  refine lc_it w (Qd := fun H => Q (.ref Dl) H) (fun i H' => ∃ G' acc, Lc K ρ σ G1 H1 Dl acc i G' H' ∧ ((lcT c f acc ((dPairs ds es).drop i)).bind fun ys => Tr.ret (PyData.list ys)).wp (Po K ρ σ (Rp K) G1 H1 Q) (Xo cl (E σ) (Owns ρ σ) H1))
    ⟨G1, [], lc_start S1 hD, h1⟩ (fun i H' _ ⟨G', acc, L, _⟩ => hG H' (L.gr.ex.trans L.st.sub)) (fun i x H2 H' hi ⟨G', acc, L, q⟩ y => ?_) fun H' ⟨G', acc, L, q⟩ => ?_
  · obtain ⟨T, u, v, rfl, hT, rfl, hx, hy⟩ := y
    obtain ⟨d, hd, r1⟩ := ra.getV hx
    obtain ⟨e, he', r2⟩ := rb.getV hy
    rw [drop_cons (pairs_get hd he')] at q
    have L2 := L.lay (o := .tup [u, v]) hT
    refine lc_turn hE hv tg hb ht he S1 L2 (Nat.lt_of_lt_of_le hi hz) (.inr ⟨T, _, _, rfl, rfl, SqT.of upd_same, .cons (r1.mono L2.gr.ex) (.cons (r2.mono L2.gr.ex) .nil)⟩) (fun acc' G'' H'' L' q' => ⟨G'', acc', L', q'⟩) q
  · have e : (dPairs ds es).drop n = [] := List.drop_eq_nil_of_le (by rw [pairs_len, hn]; exact Nat.le_refl _)
    rw [e] at q
    obtain ⟨G2, g2, S2, r2⟩ := L.done S1 hz
    exact q _ G2 _ g2 S2 r2
theorem ev_lcZ (hE : ∀ a b, E a = E b) {ta tb : TE} {g : TG} {tt : TT} {te : TE} {vs : List Nat} {ρx : PyData → List Sl} {ok : PyData → Bool} {fa fb : Tr PyData} {c : PyData → Tr Bool} {f : PyData → Tr PyData} (ha : Ev K cl E ta ρ fa) (hb2 : Ev K cl E tb ρ fb) (hv : ∀ i ∈ vs, ρ[i]? = some .any) (tg : TgR (RpW K) K g vs ρ ρx ok) (hb : ∀ d, ok d = false → c d = .bad)
    (ht : ∀ d, ok d = true → EvT K cl E tt (ρx d) (c d)) (he : ∀ d, ok d = true → Ev K cl E te (ρx d) (f d)) : Ev K cl E (tLc (iZipA K (tCons ta (tCons tb tNil))) g tt te vs) ρ (fa.bind fun a => fb.bind fun b => (dZip a b).bind fun xs => (lcT c f [] xs).bind fun ys => .ret (.list ys)) :=
  fun G H σ S Q h => ha.seq S h fun a x G1 H1 g1 S1 rx h1 => hb2.seq S1 h1 fun b y G2 H2 g2 S2 ry h2 => by
    have rx' := rx.mono g2.ex
    cases rx' with
    | @tup p xs ds hs hz ra hpl =>
      cases ry with
      | @tup q ys es hs' hz' rb hpl' =>
        refine ⟨p, q, xs, ys, rfl, .inr ⟨S2.sub.t hs, S2.sub.t hs', fun Dl hD => ?_⟩⟩
        exact lc_zipW hE hv tg hb ht he (walk_zipT rfl) (by rw [ra.len, rb.len]) (by rw [ra.len, rb.len]; omega) (fun H' e => ⟨e.t hs, e.t hs'⟩) ra rb S2 h2 hD
      | _ => exact h2.elim
    | @lst p xs ds hs hz ra =>
      cases ry with
      | @lst q ys es hs' hz' rb =>
        refine ⟨p, q, xs, ys, rfl, .inl ⟨S2.sub.l hs, S2.sub.l hs', fun Dl hD => ?_⟩⟩
        exact lc_zipW hE hv tg hb ht he (walk_zip rfl) (by rw [ra.len, rb.len]) (by rw [ra.len, rb.len]; omega) (fun H' e => ⟨e.l hs, e.l hs'⟩) ra rb S2 h2 hD
      | _ => exact h2.elim
    | _ =>
      cases ry <;> exact h2.elim
/-- two names -/
theorem ev_lcZ2 (hE : ∀ a b, E a = E b) {ta tb te : TE} {fa fb : Tr PyData} {i j : Nat} {f : PyData → PyData → Tr PyData} (ha : Ev K cl E ta ρ fa) (hb2 : Ev K cl E tb ρ fb) (hv : ([i, j].all fun i => match ρ[i]? with | some .any => true | _ => false) = true) (he : ∀ a b, Ev K cl E te ((ρ.set i (.dat a)).set j (.dat b)) (f a b)) (hi : nown ρ i = true := by rfl) (hj : nown ρ j = true := by rfl) (ne : i ≠ j := by decide) :
    Ev K cl E (tLc (iZipA K (tCons ta (tCons tb tNil))) (gTup K 2 (gCons (gName i) (gCons (gName j) gNil))) tYes te [i, j]) ρ (fa.bind fun a => fb.bind fun b => (dZip a b).bind fun xs => (mapT (un2 f) xs).bind fun ys => .ret (.list ys)) := by
  refine (ev_lcZ hE (c := un2 fun _ _ => .ret true) (f := un2 f) ha hb2 (any_of hv) (tg_tup2W hi hj ne List.mem_cons_self (List.mem_cons_of_mem _ List.mem_cons_self)) (fun d q => ?_) (fun d q => ?_) fun d q => ?_).eq ?_
  · unfold un2
    cases e : pair? d with
    | none => rfl
    | some p => rw [e] at q; cases q
  · unfold un2
    cases e : pair? d with
    | none => rw [e] at q; cases q
    | some p => exact et_yes
  · unfold un2
    cases e : pair? d with
    | none => rw [e] at q; cases q
    | some p => exact he p.1 p.2
  · congr; funext l; congr; funext m; congr; funext xs
    refine lc_map (fun d => ?_) xs
    unfold un2
    cases e : pair? d with
    | none => exact .inr ⟨rfl, rfl⟩
    | some p => exact .inl rfl
end
end Cg
namespace Cg
open PySem PySem.Spec PyProof.Rows L2 ItX
section
variable {K : PySem.W.Frag} {cl : Ek → Addr} {E : L2.St → Option XK} {ρ : List Sl} {σ : L2.St} {G H : Hp}
theorem Sta.putS (S : Sta K G H ρ σ) {i : Nat} {v : V} {t : Sl} (ht : owning t = false) (r : SlOk K G H t (some v)) : Sta K G H (ρ.set i t) (σ.set i (some v)) := by
  refine ⟨by rw [List.length_set, List.length_set]; exact S.len, S.sub, fun j s o h1 h2 => ?_, fun j k sj sk a h1 h2 h3 h4 h5 h6 => ?_⟩
  · by_cases z : i = j
    · subst z
      have hl : i < σ.length := by
        have := get_lt h2
        rwa [List.length_set] at this
      rw [List.getElem?_set_self (by rw [S.len]; exact hl)] at h1
      rw [List.getElem?_set_self hl] at h2
      cases h1
      cases h2
      exact r
    · rw [List.getElem?_set_ne z] at h1 h2
      exact S.ok j s o h1 h2
  · have ne : ∀ (m : Nat) (s : Sl), (ρ.set i t)[m]? = some s → owning s = true → i ≠ m := fun m s q1 q2 z => by
      subst z
      have hl : i < ρ.length := by
        have := get_lt q1
        rwa [List.length_set] at this
      rw [List.getElem?_set_self hl] at q1
      cases q1
      rw [ht] at q2
      cases q2
    have n1 := ne j sj h1 h3
    have n2 := ne k sk h2 h4
    rw [List.getElem?_set_ne n1] at h1 h5
    rw [List.getElem?_set_ne n2] at h2 h6
    exact S.dis j k sj sk a h1 h2 h3 h4 h5 h6
theorem kp_putS {i : Nat} {v : V} {t : Sl} (ht : owning t = false) (n : nown ρ i = true) : Kp ρ σ (ρ.set i t) (σ.set i (some v)) := by
  refine ⟨fun j s h1 h2 => ?_, fun a h => ?_⟩
  · have z : i ≠ j := fun z => by
      subst z
      rw [nown_of n s h1] at h2
      cases h2
    exact ⟨by rw [List.getElem?_set_ne z]; exact h1, List.getElem?_set_ne z⟩
  · obtain ⟨j, s, h1, h2, h3⟩ := h
    by_cases z : i = j
    · subst z
      have hl : i < ρ.length := by
        have := get_lt h1
        rwa [List.length_set] at this
      rw [List.getElem?_set_self hl] at h1
      cases h1
      rw [ht] at h2
      cases h2
    · rw [List.getElem?_set_ne z] at h1 h3
      exact ⟨j, s, h1, h2, h3⟩
end
structure FdAt (w : World) (K : PySem.W.Frag) (p : Addr) (tab : List (Str × Addr)) : Prop where
  ex : ∃ es n, K.lookup p = some ⟨.type "dict", none, .dict es n, #[]⟩ ∧ PySem.W.KeysLit w.params es.toList
  at' : ∀ q ∈ tab, PySem.W.nsIn K p q.1 = some (some (.ref q.2))
/-- the name of the def that is read -/
def fdT (names : List Str) : PyData → Tr Str
  | .str s => match names.find? (fun q => q == s) with
    | some q => .ret q
    | none => .bad
  | _ => .bad
section
variable {w : World} {K : PySem.W.Frag} {cl : Ek → Addr} {E : L2.St → Option XK} {ρ : List Sl} {S β : Type} {oc : β → Ct S} {ρ' : S → List Sl} {u : TS}
theorem st_asgF (hE : ∀ a b, E a = E b) {i : Nat} {p : Addr} {tab : List (Str × Addr)} {tb : TE} {fb : Tr PyData} {g : Str → Tr β} (D : FdAt w K p tab) (hb : Ev K cl E tb ρ fb) (k : ∀ q ∈ tab, StG K cl E oc ρ' u (ρ.set i (.val (.ref q.2))) (g q.1)) (n : nown ρ i = true := by rfl) :
    StG K cl E oc ρ' (tSeq (tAsg (tOp (rIxD K w) (tC (.ref p)) tb) (gName i)) u) ρ (fb.bind fun y => (fdT (tab.map Prod.fst) y).bind g) := fun G H σ hS DD q =>
  hb.then (g := fun y => (fdT (tab.map Prod.fst) y).bind g) hS q fun y v G1 H1 a ry w' => by
    cases ry with
    | str s =>
      have w2 : ((match (tab.map Prod.fst).find? (fun q => q == s) with | some q => Tr.ret q | none => .bad).bind g).wp (fun b => OutP K ρ σ G1 H1 ρ' DD (oc b)) (Xo cl (E σ) (Owns ρ σ) H1) := w'
      cases e : (tab.map Prod.fst).find? (fun q => q == s) with
      | none =>
        rw [e] at w2
        exact w2.elim
      | some z =>
        rw [e] at w2
        have hz := List.mem_of_find?_eq_some e
        have hs : z = s := by simpa using List.find?_some e
        obtain ⟨q, hq, rfl⟩ := List.mem_map.mp hz
        obtain ⟨es, m, hl, hk⟩ := D.ex
        have ht := D.at' q hq
        rw [hs] at ht
        have kp := kp_putS (σ := σ) (v := .ref q.2) (t := .val (.ref q.2)) rfl n
        have S2 := a.st.putS (i := i) (v := .ref q.2) (t := .val (.ref q.2)) rfl rfl
        have a2 : Af K ρ σ G1 H1 (ρ.set i (.val (.ref q.2))) (σ.set i (some (.ref q.2))) G1 H1 := ⟨Gr.refl, S2, fun x z => .inl (kp.bwd x z), fun b z => by
          obtain ⟨q1, q2⟩ := kp.fwd 0 .box z.1 rfl
          exact ⟨q1, q2.trans z.2⟩⟩
        exact ⟨p, s, .ref q.2, rfl, rfl, ⟨es, m, _, hl, hk, ht, rfl⟩, k q hq G1 H1 _ S2 DD (upS hE a2 w2)⟩
    | _ => exact w'.elim
end
/-- a call by one of several readings -/
theorem pe_alt {X : Cx} {e : Expr} {κ : Type} {t : κ → TE} (h : ∀ k, PE X e (t k)) : PE X e (fun σ H Q => ∃ k, t k σ H Q) :=
  ⟨fun pins s σ H Q I ⟨k, q⟩ => (h k).run pins s σ H Q I q⟩
section
variable {K : PySem.W.Frag} {cl : Ek → Addr} {ρ : List Sl}
/-- the call of what was read -/
def tCallF (i n : Nat) (K : PySem.W.Frag) (tab : List (Str × Addr)) (m : Str → List PyData → Tr PyData) (t : TA) : TE := fun σ H Q => ∃ q : { q : Str × Addr // q ∈ tab }, tCallV i q.1.2 (fun vs H Q E => SpN K n (m q.1.1) (vs ++ []) H Q E) E0 t σ H Q
theorem ev_callF {ta : TA} {n i : Nat} {tab : List (Str × Addr)} {q : Str × Addr} {F : ∀ β : Type, (List PyData → Tr β) → Tr β} {m : Str → List PyData → Tr PyData} (hq : q ∈ tab) (hi : ρ[i]? = some (.val (.ref q.2))) (ha : EvA K cl (fun _ => none) ta ρ n F) : Ev K cl (fun _ => none) (tCallF i n K tab m ta) ρ (F _ (m q.1)) :=
  fun G H σ S Q h => by
    have hs : i < σ.length := by
      rw [← S.len]
      exact get_lt hi
    have ho : σ[i]? = some σ[i] := List.getElem?_eq_getElem hs
    generalize σ[i] = o at ho
    have e : o = some (.ref q.2) := S.ok i _ o hi ho
    subst e
    exact ⟨⟨q, hq⟩, ho, ha G H σ S (Rp K) (m q.1) Q _ h fun ds vs G1 H1 g1 S1 rs hl h1 => ⟨ds, G1, by rw [List.append_nil]; exact rs, hl, S1.sub, call_core S1 h1⟩⟩
end
end Cg
namespace Cgn
open PySem PySem.Spec PyProof.Rows L2
open SeqAt
mutual
def numD : PyData → Bool
  | .int _ => true
  | .tuple xs => numDs xs
  | _ => false
def numDs : List PyData → Bool
  | [] => true
  | x :: xs => numD x && numDs xs
end
mutual
def toK : PyData → NestedKey
  | .int i => .num i
  | .str s => .text s
  | .tuple xs => .tup (toKs xs)
  | _ => .none
def toKs : List PyData → List NestedKey
  | [] => []
  | x :: xs => toK x :: toKs xs
end
mutual
theorem toK_inj : ∀ d e : PyData, numD d = true → numD e = true → toK d = toK e → d = e
  | .int i, .int j, _, _, h => by
    rw [toK, toK] at h
    injection h with h
    rw [h]
  | .int _, .tuple _, _, _, h => by simp [toK] at h
  | .tuple _, .int _, _, _, h => by simp [toK] at h
  | .tuple xs, .tuple ys, h1, h2, h => by
    rw [numD] at h1 h2
    rw [toK, toK] at h
    injection h with h
    rw [toKs_inj xs ys h1 h2 h]
  | .none, _, h, _, _ | .bool _, _, h, _, _ | .str _, _, h, _, _ | .list _, _, h, _, _ | .dict _, _, h, _, _ => by simp [numD] at h
  | .int _, .none, _, h, _ | .int _, .bool _, _, h, _ | .int _, .str _, _, h, _ | .int _, .list _, _, h, _ | .int _, .dict _, _, h, _ => by simp [numD] at h
  | .tuple _, .none, _, h, _ | .tuple _, .bool _, _, h, _ | .tuple _, .str _, _, h, _ | .tuple _, .list _, _, h, _ | .tuple _, .dict _, _, h, _ => by simp [numD] at h
theorem toKs_inj : ∀ ds es : List PyData, numDs ds = true → numDs es = true → toKs ds = toKs es → ds = es
  | [], [], _, _, _ => rfl
  | [], _ :: _, _, _, h => by simp [toKs] at h
  | _ :: _, [], _, _, h => by simp [toKs] at h
  | x :: xs, y :: ys, h1, h2, h => by
    rw [numDs, Bool.and_eq_true] at h1 h2
    rw [toKs, toKs] at h
    injection h with ha hb
    rw [toK_inj x y h1.1 h2.1 ha, toKs_inj xs ys h1.2 h2.2 hb]
end
mutual
theorem numD_eqv : ∀ d e : PyData, numD d = true → numD e = true → (PyData.eqv d e = true ↔ d = e)
  | .int i, .int j, _, _ => by simp [PyData.eqv]
  | .int _, .tuple _, _, _ => by simp [PyData.eqv]
  | .tuple _, .int _, _, _ => by simp [PyData.eqv]
  | .tuple xs, .tuple ys, h1, h2 => by
    rw [numD] at h1 h2
    rw [PyData.eqv, numDs_eqv xs ys h1 h2]
    exact ⟨fun e => by rw [e], fun e => by injection e⟩
  | .none, _, h, _ | .bool _, _, h, _ | .str _, _, h, _ | .list _, _, h, _ | .dict _, _, h, _ => by simp [numD] at h
  | .int _, .none, _, h | .int _, .bool _, _, h | .int _, .str _, _, h | .int _, .list _, _, h | .int _, .dict _, _, h => by simp [numD] at h
  | .tuple _, .none, _, h | .tuple _, .bool _, _, h | .tuple _, .str _, _, h | .tuple _, .list _, _, h | .tuple _, .dict _, _, h => by simp [numD] at h
theorem numDs_eqv : ∀ ds es : List PyData, numDs ds = true → numDs es = true → (PyData.eqvAll ds es = true ↔ ds = es)
  | [], [], _, _ => by simp [PyData.eqvAll]
  | [], _ :: _, _, _ => by simp [PyData.eqvAll]
  | _ :: _, [], _, _ => by simp [PyData.eqvAll]
  | x :: xs, y :: ys, h1, h2 => by
    rw [numDs, Bool.and_eq_true] at h1 h2
    rw [PyData.eqvAll, Bool.and_eq_true, numD_eqv x y h1.1 h2.1, numDs_eqv xs ys h1.2 h2.2, List.cons.injEq]
end
mutual
def numK : NestedKey → Bool
  | .num _ => true
  | .tup ks => numKs ks
  | _ => false
def numKs : List NestedKey → Bool
  | [] => true
  | k :: ks => numK k && numKs ks
end
/-- at b stands the tuple k, of numbers only, eight deep at most -/
structure At (h : Heap) (k : NestedKey) (b : Addr) : Prop where
  is : NestedIs h k (.ref b)
  dp : k.depth ≤ 8
  nm : numK k = true
theorem At.inj {h : Heap} {x y : NestedKey} {b : Addr} (p : At h x b) (q : At h y b) : x = y := NestedIs.inj _ _ _ p.is q.is
theorem At.keep {h h' : Heap} {k : NestedKey} {b : Addr} (p : At h k b) (q : ∀ c o vs n, h.get? c = some o → o.data = .seq vs n → h'.get? c = some o) : At h' k b := ⟨NestedIs.at q _ _ p.is, p.dp, p.nm⟩
theorem At.all {h h' : Heap} {k : NestedKey} {b : Addr} (p : At h k b) (q : ∀ c o, h.get? c = some o → h'.get? c = some o) : At h' k b := p.keep fun c o _ _ e _ => q c o e
/-- a change at a set's own place -/
theorem At.but {h h' : Heap} {k : NestedKey} {a b : Addr} {o : Obj} {es : Array (Int × Value)} {ep : Nat} {t : SetTable} (p : At h k b) (ho : h.get? a = some o) (hd : o.data = .set es ep t) (s : Heap.SameBut a h h') : At h' k b :=
  p.keep fun c u vs n e f => (s.2 c fun z => by
    subst z
    rw [ho] at e
    cases e
    rw [hd] at f
    cases f).trans e
theorem At.ty {s : Shared} {k : NestedKey} {b : Addr} (p : At s.heap k b) : s.TypeIs (.ref b) "tuple" := by
  cases p.is with
  | tup h1 h2 _ _ => exact ⟨_, h1, h2⟩
section
variable {P : Program} {w : World} {A : Around} {E : Value → Shared → Prop} {s : Shared}
mutual
theorem cls_no : ∀ (k : NestedKey) (v : Value) (n : Nat) (A : Around) (E : Value → Shared → Prop) (s : Shared) (Q : Bool → Shared → Prop), NestedIs s.heap k v → k.depth ≤ n → Q false s → wpAny (model P w) A (ofAClassStatement n v) Q E s
  | .none, _, n, A, E, s, Q, x, _, q => by
    cases x
    cases n <;> exact wpAny_pure q
  | .num i, _, n, A, E, s, Q, x, _, q => by
    cases x <;> cases n <;> exact wpAny_pure q
  | .text i, _, n, A, E, s, Q, x, _, q => by
    cases x
    cases n <;> exact wpAny_pure q
  | .tup ks, _, 0, A, E, s, Q, x, hn, q => by
    simp only [NestedKey.depth] at hn
    omega
  | .tup ks, _, n + 1, A, E, s, Q, x, hn, q => by
    cases x with
    | @tup b o vs m _ h1 h2 h3 h4 =>
      simp only [NestedKey.depth] at hn
      have ty : s.TypeIs (.ref b) "tuple" := ⟨o, h1, h2⟩
      unfold ofAClassStatement
      refine wpAny_bind (wpAny_typeOf ty ?_)
      dsimp only
      have e : (("tuple" : String) == "tuple") = true := by decide
      simp only [e, if_true, Bool.not_true, Bool.false_eq_true, if_false]
      try refine wpAny_bind (wpAny_pure ?_)
      try simp only [Bool.not_true, Bool.false_eq_true, if_false]
      show wpAny _ _ (seqItems? (.ref b) >>= _) _ _ s
      refine wpAny_bind (wpAny_seqItems h1 h3 ?_)
      dsimp only
      refine wpAny_bind ?_
      show wpAny _ _ (forIn vs _ _) _ _ s
      rw [← Array.forIn_toList]
      have each : ∀ v ∈ vs.toList, ∀ (A : Around) (E : Value → Shared → Prop) (Q : Bool → Shared → Prop), Q false s → wpAny (model P w) A (ofAClassStatement n v) Q E s := clss_no ks vs.toList n s h4 (by omega)
      refine wpAny_forIn_list _ (fun l r s' => r.1 = none ∧ s' = s ∧ ∀ v ∈ l, v ∈ vs.toList) _ ?_ ?_ _ _ ⟨rfl, rfl, fun v hv => hv⟩
      · rintro v l r s' ⟨hr, rfl, hl⟩
        refine wpAny_bind (each v (hl v List.mem_cons_self) _ _ _ ?_)
        simp only [Bool.false_eq_true, if_false]
        exact wpAny_pure ⟨rfl, rfl, fun u hu => hl u (List.mem_cons_of_mem _ hu)⟩
      · rintro ⟨r1, r2⟩ s' ⟨hr, rfl, _⟩
        simp only at hr
        subst hr
        exact wpAny_pure q
theorem clss_no : ∀ (ks : List NestedKey) (vs : List Value) (n : Nat) (s : Shared), NestedAll s.heap ks vs → NestedKey.depthAll ks ≤ n →
    ∀ v ∈ vs, ∀ (A : Around) (E : Value → Shared → Prop) (Q : Bool → Shared → Prop), Q false s → wpAny (model P w) A (ofAClassStatement n v) Q E s
  | [], _, n, s, x, _, v, hv, A, E, Q, q => by
    cases x
    cases hv
  | k :: ks, _, n, s, x, hn, v, hv, A, E, Q, q => by
    simp only [NestedKey.depthAll] at hn
    cases x with
    | cons x1 x2 =>
      rcases List.mem_cons.mp hv with e | hv
      · subst e
        exact cls_no k _ n A E s Q x1 (by omega) q
      · exact clss_no ks _ n s x2 (by omega) v hv A E Q q
end
theorem At.cls {k : NestedKey} {b : Addr} {Q : Bool → Shared → Prop} (p : At s.heap k b) (q : Q false s) : wpAny (model P w) A (ofAClassStatement 8 (.ref b)) Q E s := cls_no k _ 8 A E s Q p.is p.dp q
theorem At.eq {k l : NestedKey} {b c : Addr} {Q : Bool → Shared → Prop} (hu : A.units + 8 < cLine) (p : At s.heap k b) (r : At s.heap l c) (q : Q (decide (k = l)) s) : wpAny (model P w) A (eqBool (.ref b) (.ref c)) Q E s :=
  eqAt_key k l A s _ _ p.is r.is (by have := p.dp; omega) _ _ _ _ (by rw [← NestedKey.decide_eq]; exact q)
theorem At.hash {k : NestedKey} {b : Addr} {Q : Int → Shared → Prop} (hu : A.units + 8 < cLine) (p : At s.heap k b) (q : Q (k.hash w) { s with toks := s.toks + k.draws }) : wpAny (model P w) A (pyHash (.ref b)) Q E s :=
  pyHash_key k _ A s Q p.is (by have := p.dp; omega) q
end
end Cgn
namespace Cgn
open PySem PySem.Spec PyProof.Rows L2
/-- an element: where its tuple stands, and what it is -/
abbrev Elt := Addr × NestedKey
def ents (w : World) (L : List Elt) : List (Int × Value) := L.map fun p => (p.2.hash w, Value.ref p.1)
def hs (w : World) (L : List Elt) : List Int := L.map fun p => p.2.hash w
theorem ents_len (w : World) (L : List Elt) : (ents w L).length = L.length := List.length_map _
theorem ents_get {w : World} {L : List Elt} {i : Nat} {p : Elt} (h : L[i]? = some p) : (ents w L)[i]? = some (p.2.hash w, Value.ref p.1) := by
  unfold ents
  rw [List.getElem?_map, h]
  rfl
structure SetN (w : World) (h : Heap) (a : Addr) (L : List Elt) (es : Array (Int × Value)) (ep : Nat) (t : SetTable) : Prop where
  ob : ∃ o, h.get? a = some o ∧ o.ExactSet ∧ o.data = .set es ep t
  en : es.toList = ents w L
  tab : TabOk t (hs w L)
  nd : (L.map (·.2)).Nodup
  el : ∀ p ∈ L, At h p.2 p.1
  pl : t.plain = true
  ld : w.params.followText "set-order" = true ∨ t.led = true
  rm : L.length * 5 < t.mask * 3
  fw : L.length < 64
section
variable {P : Program} {w : World} {A : Around} {E : Value → Shared → Prop} {s : Shared} {a : Addr} {L : List Elt} {es : Array (Int × Value)} {ep : Nat} {t : SetTable}
theorem fits_of {es : Array (Int × Value)} {t : SetTable} (h1 : t.place.size = es.size) (h2 : t.dummies = #[]) (h3 : es.size ≤ t.mask) : t.fits es.size = true := by
  unfold SetTable.fits SetTable.fill
  rw [h2, Bool.and_eq_true, beq_iff_eq, decide_eq_true_eq]
  show t.place.size = es.size ∧ t.place.size + 0 ≤ t.mask
  omega
theorem SetN.get {h : Heap} (R : SetN w h a L es ep t) {i : Nat} {p : Elt} (q : L[i]? = some p) : es[i]? = some (p.2.hash w, Value.ref p.1) := by
  rw [← Array.getElem?_toList, R.en]
  exact ents_get q
theorem pick_all (L : List Elt) (es : Array (Int × Value)) (order : Array Nat) (hr : es.toList = ents w L) (hp : order.toList.Perm (List.range L.length)) :
    ∃ M, (order.filterMap (es[·]?)).toList = ents w M ∧ M.Perm L ∧ hs w M = order.toList.map fun i => (es.map (·.1)).getD i 0 := by
  have hsz : es.size = L.length := by rw [← Array.length_toList, hr, ents_len]
  have ent : ∀ i (h : i < L.length), es[i]? = some ((L[i]).2.hash w, Value.ref (L[i]).1) := fun i h => by
    rw [← Array.getElem?_toList, hr]
    exact ents_get (List.getElem?_eq_getElem h)
  have key : ∀ l : List Nat, (∀ i ∈ l, i < L.length) → l.filterMap (fun i => es[i]?) = ents w (l.filterMap (fun i => L[i]?)) ∧ hs w (l.filterMap (fun i => L[i]?)) = l.map fun i => (es.map (·.1)).getD i 0 := by
    intro l
    induction l with
    | nil => exact fun _ => ⟨rfl, rfl⟩
    | cons i l ih =>
      intro hl
      have hi := hl i List.mem_cons_self
      obtain ⟨e1, e2⟩ := ih fun j hj => hl j (List.mem_cons_of_mem _ hj)
      have e3 : (es.map (·.1)).getD i 0 = (L[i]).2.hash w := by
        have e5 : (es.map (·.1))[i]? = some ((L[i]).2.hash w) := by
          rw [Array.getElem?_map, ent i hi]
          rfl
        simp [Array.getD_eq_getD_getElem?, e5]
      rw [List.filterMap_cons_some (ent i hi), List.filterMap_cons_some (List.getElem?_eq_getElem hi), e1, List.map_cons, e3]
      refine ⟨rfl, ?_⟩
      rw [← e2]
      rfl
  obtain ⟨e1, e2⟩ := key order.toList fun i hi => List.mem_range.mp (hp.mem_iff.mp hi)
  refine ⟨_, by first | (rw [Array.toList_filterMap]; exact e1) | simpa using e1, ?_, e2⟩
  refine (hp.filterMap _).trans (List.Perm.of_eq ?_)
  have upto : ∀ n, n ≤ L.length → (List.range n).filterMap (fun i => L[i]?) = L.take n := by
    intro n
    induction n with
    | zero => exact fun _ => rfl
    | succ n ih =>
      intro hn
      have lt : n < L.length := hn
      rw [List.range_succ, List.filterMap_append, ih (Nat.le_of_lt lt), List.take_succ, List.getElem?_eq_getElem lt, List.filterMap_cons_some (List.getElem?_eq_getElem lt)]
      rfl
  rw [upto L.length (Nat.le_refl _), List.take_length]
theorem grow {o : Obj} (ho : s.heap.get? a = some o) (hex : o.ExactSet) (hd : o.data = .set es ep t) (hen : es.toList = ents w L) (hsz : t.place.size = es.size) (hdm : t.dummies = #[]) (hfl : es.size ≤ t.mask)
    (nd : (L.map (·.2)).Nodup) (el : ∀ p ∈ L, At s.heap p.2 p.1) (pl : t.plain = true) (ld : w.params.followText "set-order" = true ∨ t.led = true) (few : L.length < 64) {wanted M : Nat}
    (hw : SetTable.sizeAbove wanted - 1 = M) (hM : MaskOk M) (hw2 : SetTable.sizeAbove wanted ≤ 128) (hn : L.length * 5 < M * 3) {Q : Unit → Shared → Prop}
    (hQ : ∀ h' L' es' ep' t', Heap.SameBut a s.heap h' → SetN w h' a L' es' ep' t' → L'.Perm L → Q () { s with heap := h' }) : wpAny (model P w) A (setRelay a wanted) Q E s := by
  have hsl : es.size = L.length := by rw [← Array.length_toList, hen, ents_len]
  obtain ⟨t', order, e, hp, T, em, el', ep', ed⟩ := relaid_ok t (hs := es.map (·.1)) (wanted := wanted) hw hM (by rw [Array.size_map, hsl]; omega)
  rw [Array.size_map, hsl] at hp
  obtain ⟨L2, r1, r2, r3⟩ := pick_all (w := w) L es order hen hp
  rw [← r3] at T
  have hs2 : (order.filterMap (es[·]?)).size = es.size := by rw [← Array.length_toList, r1, ents_len, r2.length_eq, hsl]
  rw [setRelay_eq]
  refine wpAny_bind (wpAny_setState_of ho hd (fits_of hsz hdm hfl) ?_)
  dsimp only
  refine wp_if_neg (by rw [sizeLine_eq]; omega) ?_
  try refine wpAny_bind (wpAny_pure ?_)
  rw [e]
  dsimp only
  refine wpAny_bind ?_
  refine wp_if_neg (by rw [hs2]; simp) ?_
  try refine wpAny_bind (wpAny_pure ?_)
  refine wpAny_pure ?_
  dsimp only
  refine wpAny_storeSet_of ho hd ?_ (by rw [hs2, hsl, sizeLine_eq]; omega)
  have sb : Heap.SameBut a s.heap (s.heap.update a (Obj.putSet (order.filterMap (es[·]?)) t')) := Heap.SameBut.update ..
  refine hQ _ L2 (order.filterMap (es[·]?)) (ep + 1) t' sb ⟨⟨_, store_at ho hd, ⟨hex.1, hex.2.1, hex.2.2⟩, rfl⟩, r1, T, (r2.map (·.2)).nodup_iff.mpr nd, fun p hpm => (el p (r2.mem_iff.mp hpm)).but ho hd sb, by rw [ep']; exact pl, by rw [el']; exact ld, ?_, by rw [r2.length_eq]; exact few⟩ r2
  rw [r2.length_eq, em]
  exact hn
end
end Cgn
namespace Cgn
open PySem PySem.Spec PyProof.Rows L2
/-- what has come into the set of the first i items -/
structure Upto (ks : List Elt) (i : Nat) (L : List Elt) : Prop where
  sub : ∀ p ∈ L, p ∈ ks.take i
  all : ∀ p ∈ ks.take i, p.2 ∈ L.map (·.2)
  len : L.length ≤ i
theorem Upto.none (ks : List Elt) : Upto ks 0 [] := ⟨fun p h => (by cases h), fun p h => (by simp at h), Nat.le_refl _⟩
theorem Upto.old {ks L : List Elt} {i : Nat} {x : Elt} (g : Upto ks i L) (h : ks[i]? = some x) (hm : x.2 ∈ L.map (·.2)) : Upto ks (i + 1) L := by
  have e : ks.take (i + 1) = ks.take i ++ [x] := take_next h
  refine ⟨fun p hp => by rw [e]; exact List.mem_append_left _ (g.sub p hp), fun p hp => ?_, Nat.le_succ_of_le g.len⟩
  rw [e] at hp
  rcases List.mem_append.mp hp with z | z
  · exact g.all p z
  · rw [List.mem_singleton.mp z]
    exact hm
theorem Upto.new {ks L L' : List Elt} {i : Nat} {x : Elt} (g : Upto ks i L) (h : ks[i]? = some x) (pm : L'.Perm (x :: L)) : Upto ks (i + 1) L' := by
  have e : ks.take (i + 1) = ks.take i ++ [x] := take_next h
  refine ⟨fun p hp => ?_, fun p hp => ?_, ?_⟩
  · rw [e]
    rcases List.mem_cons.mp (pm.mem_iff.mp hp) with z | z
    · rw [z]
      exact List.mem_append_right _ (List.mem_singleton.mpr rfl)
    · exact List.mem_append_left _ (g.sub p z)
  · rw [(pm.map (·.2)).mem_iff, List.map_cons]
    rw [e] at hp
    rcases List.mem_append.mp hp with z | z
    · exact List.mem_cons_of_mem _ (g.all p z)
    · rw [List.mem_singleton.mp z]
      exact List.mem_cons_self
  · rw [pm.length_eq, List.length_cons]
    exact Nat.succ_le_succ g.len
section
variable {P : Program} {w : World} {A : Around} {E : Value → Shared → Prop} {s : Shared}
theorem SetN.keep {h h' : Heap} {a : Addr} {L : List Elt} {es : Array (Int × Value)} {ep : Nat} {t : SetTable} (R : SetN w h a L es ep t) (ha : ∀ o, h.get? a = some o → h'.get? a = some o) (ht : ∀ p ∈ L, At h' p.2 p.1) : SetN w h' a L es ep t := by
  obtain ⟨o, ho, r⟩ := R.ob
  exact ⟨⟨o, ha o ho, r⟩, R.en, R.tab, R.nd, ht, R.pl, R.ld, R.rm, R.fw⟩
end
end Cgn
namespace Cgo
open PySem PySem.Spec PyProof.Rows L2
open PySem.SeqAt
open AutoSeq1 (wpAny_loadPart')
open MeetsSeq MeetsSeq2 MeetsSeq3 SeqRoads2
mutual
def sig : PyData → Bool
  | .int _ => true
  | .str _ => true
  | .tuple xs => sigs xs
  | _ => false
def sigs : List PyData → Bool
  | [] => true
  | x :: xs => sig x && sigs xs
end
mutual
theorem sig_plain : ∀ d : PyData, sig d = true → d.plain = true
  | .int _, _ => rfl
  | .str _, _ => rfl
  | .tuple xs, h => by
    rw [sig] at h
    show PyData.plainAll xs = true
    exact sigs_plain xs h
  | .none, h | .bool _, h | .list _, h | .dict _, h => by simp [sig] at h
theorem sigs_plain : ∀ ds : List PyData, sigs ds = true → PyData.plainAll ds = true
  | [], _ => rfl
  | x :: xs, h => by
    rw [sigs, Bool.and_eq_true] at h
    show (PyData.plain x && PyData.plainAll xs) = true
    rw [sig_plain x h.1, sigs_plain xs h.2]
    rfl
end
mutual
theorem sig_eqv : ∀ d e : PyData, sig d = true → sig e = true → (PyData.eqv d e = true ↔ d = e)
  | .int i, .int j, _, _ => by simp [PyData.eqv]
  | .str i, .str j, _, _ => by simp [PyData.eqv]
  | .int _, .str _, _, _ => by simp [PyData.eqv]
  | .str _, .int _, _, _ => by simp [PyData.eqv]
  | .int _, .tuple _, _, _ => by simp [PyData.eqv]
  | .str _, .tuple _, _, _ => by simp [PyData.eqv]
  | .tuple _, .int _, _, _ => by simp [PyData.eqv]
  | .tuple _, .str _, _, _ => by simp [PyData.eqv]
  | .tuple xs, .tuple ys, h1, h2 => by
    rw [sig] at h1 h2
    rw [PyData.eqv, sigs_eqv xs ys h1 h2]
    exact ⟨fun e => by rw [e], fun e => by injection e⟩
  | .none, _, h, _ | .bool _, _, h, _ | .list _, _, h, _ | .dict _, _, h, _ => by simp [sig] at h
  | .int _, .none, _, h | .int _, .bool _, _, h | .int _, .list _, _, h | .int _, .dict _, _, h => by simp [sig] at h
  | .str _, .none, _, h | .str _, .bool _, _, h | .str _, .list _, _, h | .str _, .dict _, _, h => by simp [sig] at h
  | .tuple _, .none, _, h | .tuple _, .bool _, _, h | .tuple _, .list _, _, h | .tuple _, .dict _, _, h => by simp [sig] at h
theorem sigs_eqv : ∀ ds es : List PyData, sigs ds = true → sigs es = true → (PyData.eqvAll ds es = true ↔ ds = es)
  | [], [], _, _ => by simp [PyData.eqvAll]
  | [], _ :: _, _, _ => by simp [PyData.eqvAll]
  | _ :: _, [], _, _ => by simp [PyData.eqvAll]
  | x :: xs, y :: ys, h1, h2 => by
    rw [sigs, Bool.and_eq_true] at h1 h2
    rw [PyData.eqvAll, Bool.and_eq_true, sig_eqv x y h1.1 h2.1, sigs_eqv xs ys h1.2 h2.2, List.cons.injEq]
end
mutual
/-- x < y, where it is told -/
def ltD : PyData → PyData → Option Bool
  | .int i, .int j => some (decide (i < j))
  | .str x, .str y => some (decide (x.cps.toList < y.cps.toList))
  | .tuple xs, .tuple ys => ltDs xs ys
  | _, _ => none
def ltDs : List PyData → List PyData → Option Bool
  | [], [] => some false
  | [], _ :: _ => some true
  | _ :: _, [] => some false
  | x :: xs, y :: ys => if PyData.eqv x y = true then ltDs xs ys else ltD x y
end
/-- from here on the first ones decide -/
inductive LtRun (A : Around) (s : Shared) : List Value → List Value → Bool → Prop
  | nil : LtRun A s [] [] false
  | less {v vs} : LtRun A s [] (v :: vs) true
  | more {u us} : LtRun A s (u :: us) [] false
  | same {u us v vs k} : EqAt A s u v true → LtRun A s us vs k → LtRun A s (u :: us) (v :: vs) k
  | diff {u us v vs k} : EqAt A s u v false → RcLt A s u v k → LtRun A s (u :: us) (v :: vs) k
theorem tup_lt (l b : Addr) (items items2 : Array Value) (n n2 : Nat) (dd dd2 : Option Addr) (sl sl2 : Array (Option Value)) (k : Bool) :
    Meets (Builtin.«tuple.__lt__» ⟨[.ref l, .ref b], []⟩)
      (fun A R s => s.heap.get? l = some { cls := .type "tuple", dict := dd, data := .seq items n, slots := sl } ∧ s.heap.get? b = some { cls := .type "tuple", dict := dd2, data := .seq items2 n2, slots := sl2 } ∧
        LtRun A.in1 s items.toList items2.toList k ∧ R (.ok (.ret (.bool k))) s) :=
  .of_wp fun prog w A R s h => by
    obtain ⟨hp, g, d, tk, os⟩ := s
    obtain ⟨hl, hb, he, h⟩ := h
    have f2 := AutoSeq1.sub_tuple_tuple
    wp_walk using wpAny_loadPart' hl, wpAny_loadPart' hb, wpAny_forIn_list _ (fun rest b s' => b.1 = none ∧ s' = ⟨hp, g, d, tk, os⟩ ∧ ∃ us vs, rest = us.zip vs ∧ us.length + items2.size = vs.length + items.size ∧ LtRun A.in1 ⟨hp, g, d, tk, os⟩ us vs k) _
    case turn =>
      rintro ⟨y, x⟩ rest b s' ⟨hb', rfl, us, vs, hz, hlen, run⟩
      cases run with
      | nil => cases hz
      | less => cases hz
      | more => cases hz
      | same e r =>
        rw [List.zip_cons_cons] at hz
        injection hz with h1 h2
        injection h1 with h1 h3
        subst h1 h3
        refine wpAny_bind (e prog w _ _ ?_)
        wp_walk
        exact ⟨rfl, rfl, _, _, h2, by simpa [Nat.add_right_comm, Nat.succ_add] using hlen, r⟩
      | diff e r =>
        rw [List.zip_cons_cons] at hz
        injection hz with h1 h2
        injection h1 with h1 h3
        subst h1 h3
        refine wpAny_bind (e prog w _ _ ?_)
        have r' := r prog w
        generalize PySem.richCompare .Lt y x = rc at r' ⊢
        wp_walk
        refine r' _ _ ?_
        wp_walk
        exact ⟨_, rfl, h⟩
    case fin =>
      rintro ⟨b1, b2⟩ s' ⟨hb', rfl, us, vs, hz, hlen, run⟩
      simp only at hb'
      subst hb'
      have e : k = decide (items.size < items2.size) := by
        cases run with
        | nil =>
          simp only [List.length_nil] at hlen
          exact (decide_eq_false (by omega)).symm
        | less =>
          simp only [List.length_nil, List.length_cons] at hlen
          exact (decide_eq_true (by omega)).symm
        | more =>
          simp only [List.length_nil, List.length_cons] at hlen
          exact (decide_eq_false (by omega)).symm
        | same e r => cases hz
        | diff e r => cases hz
      wp_walk
      exact ⟨_, rfl, by simpa [Builtin.Tuple.tupleCompareSizes, e] using h⟩
    case h =>
      exact ⟨rfl, rfl, items.toList, items2.toList, rfl, by simp [Nat.add_comm], he⟩
section
variable {A : Around} {s : Shared}
theorem RcLt.tup {l b : Addr} {items items2 : Array Value} {k : Bool} (hl : s.heap.IsTuple l items) (hb : s.heap.IsTuple b items2) (hu : A.units < cLine) (r : LtRun A.in1 s items.toList items2.toList k) : RcLt A s (.ref l) (.ref b) k := fun prog w E Q h => by
  obtain ⟨⟨cls, dd, data, sl⟩, ho, hc, n, hd⟩ := id hl
  obtain ⟨⟨cls2, dd2, data2, sl2⟩, ho2, hc2, n2, hd2⟩ := id hb
  simp only at hc hd hc2 hd2
  subst hc hd hc2 hd2
  exact richCompare_meets_room (op := .Lt) ⟨_, ho, rfl⟩ ⟨_, ho2, rfl⟩ F.slot_tuple_lt F.entry_tuple_lt (F.args_tuple_lt_2 _ _) (tup_lt l b items items2 n n2 dd dd2 sl sl2 k)
    ⟨ho, ho2, r, show Value.bool k ≠ Value.notImplemented ∧ Q (.bool k) s from ⟨(fun x => nomatch x), h⟩⟩ hu
theorem room_down {A : Around} {x y : PyData} {xs ys : List PyData} (h : A.units + min (PyData.depth (.tuple xs)) (PyData.depth (.tuple ys)) < cLine) : A.in1.units + min (PyData.depthAll xs) (PyData.depthAll ys) < cLine := by
  simp only [PyData.depth] at h
  show A.units + 1 + _ < _
  omega
mutual
theorem rc_lt : ∀ (x y : PyData) (A : Around) (a b : Value) (as bs : List Addr) (k : Bool), Reads s.heap a x as → Reads s.heap b y bs → sig x = true → sig y = true → ltD x y = some k → A.units + min x.depth y.depth < cLine → RcLt A s a b k
  | .int i, .int j, A, a, b, as, bs, k, ra, rb, _, _, h, _ => by
    cases ra
    cases rb
    intro prog w E Q hq
    rw [ltD, Option.some.injEq] at h
    rw [← h] at hq
    exact P.lt_int hq
  | .str i, .str j, A, a, b, as, bs, k, ra, rb, _, _, h, _ => by
    cases ra
    cases rb
    intro prog w E Q hq
    rw [ltD, Option.some.injEq] at h
    rw [← h] at hq
    exact P.lt_str hq
  | .tuple xs, .tuple ys, A, a, b, as, bs, k, ra, rb, h1, h2, h, hu => by
    rw [sig] at h1 h2
    rw [ltD] at h
    cases ra with
    | @tuple l o vs n _ _ p1 p2 p3 p4 =>
      cases rb with
      | @tuple l' o' vs' n' _ _ q1 q2 q3 q4 => exact RcLt.tup ⟨_, p1, p2, _, p3⟩ ⟨_, q1, q2, _, q3⟩ (by omega) (rc_lts xs ys A.in1 _ _ _ _ k p4 q4 h1 h2 h (room_down (x := .none) (y := .none) hu))
  | .none, _, _, _, _, _, _, _, _, _, h, _, _, _ | .bool _, _, _, _, _, _, _, _, _, _, h, _, _, _ | .list _, _, _, _, _, _, _, _, _, _, h, _, _, _ | .dict _, _, _, _, _, _, _, _, _, _, h, _, _, _ => by simp [sig] at h
  | .int _, .none, _, _, _, _, _, _, _, _, _, _, h, _ | .int _, .bool _, _, _, _, _, _, _, _, _, _, _, h, _ | .int _, .str _, _, _, _, _, _, _, _, _, _, _, h, _ | .int _, .list _, _, _, _, _, _, _, _, _, _, _, h, _ | .int _, .tuple _, _, _, _, _, _, _, _, _, _, _, h, _ | .int _, .dict _, _, _, _, _, _, _, _, _, _, _, h, _ => by simp [ltD] at h
  | .str _, .none, _, _, _, _, _, _, _, _, _, _, h, _ | .str _, .bool _, _, _, _, _, _, _, _, _, _, _, h, _ | .str _, .int _, _, _, _, _, _, _, _, _, _, _, h, _ | .str _, .list _, _, _, _, _, _, _, _, _, _, _, h, _ | .str _, .tuple _, _, _, _, _, _, _, _, _, _, _, h, _ | .str _, .dict _, _, _, _, _, _, _, _, _, _, _, h, _ => by simp [ltD] at h
  | .tuple _, .none, _, _, _, _, _, _, _, _, _, _, h, _ | .tuple _, .bool _, _, _, _, _, _, _, _, _, _, _, h, _ | .tuple _, .int _, _, _, _, _, _, _, _, _, _, _, h, _ | .tuple _, .str _, _, _, _, _, _, _, _, _, _, _, h, _ | .tuple _, .list _, _, _, _, _, _, _, _, _, _, _, h, _ | .tuple _, .dict _, _, _, _, _, _, _, _, _, _, _, h, _ => by simp [ltD] at h
theorem rc_lts : ∀ (xs ys : List PyData) (A : Around) (us vs : List Value) (as bs : List Addr) (k : Bool), ReadsAll s.heap us xs as → ReadsAll s.heap vs ys bs → sigs xs = true → sigs ys = true → ltDs xs ys = some k →
    A.units + min (PyData.depthAll xs) (PyData.depthAll ys) < cLine → LtRun A s us vs k
  | [], [], A, us, vs, as, bs, k, ra, rb, _, _, h, _ => by
    cases ra
    cases rb
    rw [ltDs, Option.some.injEq] at h
    rw [← h]
    exact .nil
  | [], _ :: _, A, us, vs, as, bs, k, ra, rb, _, _, h, _ => by
    cases ra
    cases rb
    rw [ltDs, Option.some.injEq] at h
    rw [← h]
    exact .less
  | _ :: _, [], A, us, vs, as, bs, k, ra, rb, _, _, h, _ => by
    cases ra
    cases rb
    rw [ltDs, Option.some.injEq] at h
    rw [← h]
    exact .more
  | x :: xs, y :: ys, A, us, vs, as, bs, k, ra, rb, h1, h2, h, hu => by
    rw [sigs, Bool.and_eq_true] at h1 h2
    rw [ltDs] at h
    simp only [PyData.depthAll] at hu
    cases ra with
    | cons ra ras =>
      cases rb with
      | cons rb rbs =>
        have e := eqAt_plain x y A s _ _ _ _ ra rb (sig_plain x h1.1) (sig_plain y h2.1) (by omega)
        by_cases c : PyData.eqv x y = true
        · rw [if_pos c] at h
          rw [c] at e
          exact .same e (rc_lts xs ys A _ _ _ _ k ras rbs h1.2 h2.2 h (by omega))
        · rw [if_neg c] at h
          rw [Bool.eq_false_iff.mpr c] at e
          exact .diff e (rc_lt x y A _ _ _ _ k ra rb h1.1 h2.1 h (by omega))
end
end
end Cgo
namespace Cgo
open PySem PySem.Spec PyProof.Rows L2
open PySem.SeqAt PySem.W
/-- each two can be compared -/
def Cmp (ds : List PyData) : Prop := (∀ d ∈ ds, sig d = true) ∧ ∀ d ∈ ds, ∀ e ∈ ds, (ltD d e).isSome = true
section
variable {prog : Program} {w : World} {A : Around} {E : Value → Shared → Prop} {s : Shared}
/-- the first item of a tuple, if it has one -/
def Fst (h : Heap) (v : Value) (f : Option Value) : Prop := ∃ a o xs n, v = .ref a ∧ h.get? a = some o ∧ o.cls = .type "tuple" ∧ o.data = .seq xs n ∧ xs[0]? = f
theorem fsts {M : Model} : ∀ {vs : List Value} {fs : List (Option Value)} {Q : List (Option Value) → Shared → Prop}, EachIs (Fst s.heap) vs fs → Q fs s → wpAny M A (vs.mapM firstOfTuple') Q E s
  | _, _, _, .nil, h => by
    rw [List.mapM_nil]
    exact wpAny_pure h
  | _, _, Q, .cons (as := vs) (b := f) (bs := fs) ⟨a, o, xs, n, e, ho, hc, hd, hf⟩ t, h => by
    subst e
    rw [List.mapM_cons]
    refine wpAny_bind ?_
    rw [kas_first_eq]
    refine wpAny_bind (Looks.here (show Looks M s.heap (typeOf (.ref a)) o.cls from (Looks.ld ho).andThen .now) ?_)
    rw [hc, if_neg (by first | decide | simp)]
    refine wpAny_bind (listItems_at ho hd (wpAny_pure ?_))
    rw [hf]
    exact wpAny_bind (fsts (Q := fun bs s' => wpAny M A (pure (f :: bs)) Q E s') t (wpAny_pure h))
end
end Cgo
namespace Cgo
open PySem PySem.Spec PyProof.Rows L2
open PySem.SeqAt PySem.W
theorem Cmp.sub {ds es : List PyData} (C : Cmp ds) (p : ∀ e ∈ es, e ∈ ds) : Cmp es := ⟨fun d hd => C.1 d (p d hd), fun d hd e he => C.2 d (p d hd) e (p e he)⟩
end Cgo
namespace Cgo
open PySem PySem.Spec PyProof.Rows L2
open PySem.SeqAt PySem.W
section
variable {X : Cx}
def rLtD (K : PySem.W.Frag) : R2 := fun x y H Q => ∃ d e k, Dp K H x d ∧ Dp K H y e ∧ sig d = true ∧ sig e = true ∧ ltD d e = some k ∧ min d.depth e.depth ≤ 64 ∧ Q (.bl k) H
theorem op_ltD (hu : X.A.units + 64 < cLine) : OpR X (compareOp .Lt) (rLtD X.K) := by
  intro pins s σ H x y v u Q I rx ry h
  obtain ⟨d, e, k, hd, he, sd, se, hk, hm, q⟩ := h
  obtain ⟨as, r1⟩ := Dp.reads I d x v hd rx
  obtain ⟨bs, r2⟩ := Dp.reads I e y u he ry
  exact rc_lt d e X.A v u as bs k r1 r2 sd se hk (by omega) X.prog X.w _ _ ⟨.bl _, H, I, rfl, q⟩
end
end Cgo
namespace Cgu
open PySem PySem.Spec PyProof.Rows L2
abbrev Ent := NestedKey × Addr × V
abbrev EntV := NestedKey × Addr × Value
abbrev RelE : Ent → EntV → Prop := fun x y => x.1 = y.1 ∧ x.2.1 = y.2.1 ∧ RelV x.2.2 y.2.2
/-- the dict's own object -/
def DicRaw (w : World) (h : Heap) (a : Addr) (ys : List EntV) : Prop :=
  ∃ o es ep, h.get? a = some o ∧ o.ExactDict ∧ o.data = .dict es ep ∧ es.toList = ys.map (fun y => ⟨y.1.hash w, .ref y.2.1, y.2.2⟩) ∧ (ys.map (·.1)).Nodup
def DicT (w : World) (a : Addr) (xs : List Ent) : HO := .ext fun h => xs.length ≤ sizeLine ∧ (a == sysModules) = false ∧ ∃ ys, Paired RelE xs ys ∧ DicRaw w h a ys
mutual
theorem toKS_depth : ∀ d : PyData, Cgo.sig d = true → (Cgn.toK d).depth = d.depth
  | .int _, _ => rfl
  | .str _, _ => rfl
  | .tuple xs, h => by
    rw [Cgn.toK, NestedKey.depth, PyData.depth, toKsS_depth xs (by rw [Cgo.sig] at h; exact h)]
  | .none, h | .bool _, h | .list _, h | .dict _, h => by simp [Cgo.sig] at h
theorem toKsS_depth : ∀ ds : List PyData, Cgo.sigs ds = true → NestedKey.depthAll (Cgn.toKs ds) = PyData.depthAll ds
  | [], _ => rfl
  | x :: xs, h => by
    rw [Cgo.sigs, Bool.and_eq_true] at h
    rw [Cgn.toKs, NestedKey.depthAll, PyData.depthAll, toKS_depth x h.1, toKsS_depth xs h.2]
end
mutual
theorem toKS_inj : ∀ d e : PyData, Cgo.sig d = true → Cgo.sig e = true → Cgn.toK d = Cgn.toK e → d = e
  | .int i, .int j, _, _, h => by
    rw [Cgn.toK, Cgn.toK] at h
    injection h with h
    rw [h]
  | .str i, .str j, _, _, h => by
    rw [Cgn.toK, Cgn.toK] at h
    injection h with h
    rw [h]
  | .int _, .str _, _, _, h | .str _, .int _, _, _, h => by simp [Cgn.toK] at h
  | .int _, .tuple _, _, _, h | .str _, .tuple _, _, _, h => by simp [Cgn.toK] at h
  | .tuple _, .int _, _, _, h | .tuple _, .str _, _, _, h => by simp [Cgn.toK] at h
  | .tuple xs, .tuple ys, h1, h2, h => by
    rw [Cgo.sig] at h1 h2
    rw [Cgn.toK, Cgn.toK] at h
    injection h with h
    rw [toKsS_inj xs ys h1 h2 h]
  | .none, _, h, _, _ | .bool _, _, h, _, _ | .list _, _, h, _, _ | .dict _, _, h, _, _ => by simp [Cgo.sig] at h
  | .int _, .none, _, h, _ | .int _, .bool _, _, h, _ | .int _, .list _, _, h, _ | .int _, .dict _, _, h, _ => by simp [Cgo.sig] at h
  | .str _, .none, _, h, _ | .str _, .bool _, _, h, _ | .str _, .list _, _, h, _ | .str _, .dict _, _, h, _ => by simp [Cgo.sig] at h
  | .tuple _, .none, _, h, _ | .tuple _, .bool _, _, h, _ | .tuple _, .list _, _, h, _ | .tuple _, .dict _, _, h, _ => by simp [Cgo.sig] at h
theorem toKsS_inj : ∀ ds es : List PyData, Cgo.sigs ds = true → Cgo.sigs es = true → Cgn.toKs ds = Cgn.toKs es → ds = es
  | [], [], _, _, _ => rfl
  | [], _ :: _, _, _, h => by simp [Cgn.toKs] at h
  | _ :: _, [], _, _, h => by simp [Cgn.toKs] at h
  | x :: xs, y :: ys, h1, h2, h => by
    rw [Cgo.sigs, Bool.and_eq_true] at h1 h2
    rw [Cgn.toKs, Cgn.toKs] at h
    injection h with ha hb
    rw [toKS_inj x y h1.1 h2.1 ha, toKsS_inj xs ys h1.2 h2.2 hb]
end
section
open SeqAt
variable {h : Heap}
mutual
theorem nestedS_of : ∀ (d : PyData) (v : Value) (as : List Addr), Cgo.sig d = true → Reads h v d as → NestedIs h (Cgn.toK d) v
  | .int i, _, _, _, r => by
    cases r with
    | int i t => exact .int i t
  | .str i, _, _, _, r => by
    cases r with
    | str i t => exact .text i t
  | .tuple xs, _, _, q, r => by
    rw [Cgo.sig] at q
    cases r with
    | tuple h1 h2 h3 h4 => exact .tup h1 h2 h3 (nestedsS_of xs _ _ q h4)
  | .none, _, _, h, _ | .bool _, _, _, h, _ | .list _, _, _, h, _ | .dict _, _, _, h, _ => by simp [Cgo.sig] at h
theorem nestedsS_of : ∀ (ds : List PyData) (vs : List Value) (as : List Addr), Cgo.sigs ds = true → ReadsAll h vs ds as → NestedAll h (Cgn.toKs ds) vs
  | [], _, _, _, r => by
    cases r
    exact .nil
  | x :: xs, _, _, q, r => by
    rw [Cgo.sigs, Bool.and_eq_true] at q
    cases r with
    | cons r1 r2 => exact .cons (nestedS_of x _ _ q.1 r1) (nestedsS_of xs _ _ q.2 r2)
end
end
mutual
theorem sig_of_num : ∀ d : PyData, Cgn.numD d = true → Cgo.sig d = true
  | .int _, _ => rfl
  | .tuple xs, h => by
    rw [Cgn.numD] at h
    rw [Cgo.sig]
    exact sigs_of_nums xs h
  | .none, h | .bool _, h | .str _, h | .list _, h | .dict _, h => by simp [Cgn.numD] at h
theorem sigs_of_nums : ∀ ds : List PyData, Cgn.numDs ds = true → Cgo.sigs ds = true
  | [], _ => rfl
  | x :: xs, h => by
    rw [Cgn.numDs, Bool.and_eq_true] at h
    rw [Cgo.sigs, sig_of_num x h.1, sigs_of_nums xs h.2]
    rfl
end
/-- at b stands the key d -/
structure KeyT (K : PySem.W.Frag) (H : Hp) (b : Addr) (d : PyData) : Prop where
  dp : Dp K H (.ref b) d
  nm : Cgo.sig d = true
  le : d.depth ≤ 8
def KeysT (K : PySem.W.Frag) (H : Hp) (xs : List Ent) : Prop := ∀ x ∈ xs, ∃ d, KeyT K H x.2.1 d ∧ x.1 = Cgn.toK d
def findT (xs : List Ent) (k : NestedKey) : Option V := (xs.find? fun x => decide (x.1 = k)).map (·.2.2)
def setT (k : NestedKey) (v : V) (x : Ent) : Ent := if x.1 = k then (x.1, x.2.1, v) else x
def putT (xs : List Ent) (k : NestedKey) (b : Addr) (v : V) : List Ent := if (findT xs k).isSome = true then xs.map (setT k v) else xs ++ [(k, b, v)]
theorem rel_find {xs : List Ent} {ys : List EntV} (r : Paired RelE xs ys) (k : NestedKey) : RelO (findT xs k) ((atKey ys k).map (·.2)) := by
  induction r with
  | nil => exact True.intro
  | @cons p q ps qs h t ih =>
    obtain ⟨h1, _, h2⟩ := h
    by_cases e : p.1 = k
    · have e1 : findT (p :: ps) k = some p.2.2 := by simp [findT, List.find?_cons, e]
      have e2 : atKey (q :: qs) k = some q.2 := by simp [atKey, List.find?_cons, h1 ▸ e]
      rw [e1, e2]
      exact h2
    · have e' : ¬ q.1 = k := fun z => e (h1.trans z)
      have e1 : findT (p :: ps) k = findT ps k := by simp [findT, List.find?_cons, e]
      have e2 : atKey (q :: qs) k = atKey qs k := by simp [atKey, List.find?_cons, e']
      rw [e1, e2]
      exact ih
theorem rel_put {xs : List Ent} {ys : List EntV} (r : Paired RelE xs ys) (k : NestedKey) (b : Addr) {v : V} {u : Value} (rv : RelV v u) : Paired RelE (putT xs k b v) (storedH ys k b u) := by
  have e : (findT xs k).isSome = (atKey ys k).isSome := by
    rw [(rel_find r k).isSome_eq, Option.isSome_map]
  unfold putT storedH
  rw [e]
  by_cases q : (atKey ys k).isSome = true
  · rw [if_pos q, if_pos q]
    clear e q
    induction r with
    | nil => exact .nil
    | @cons p q ps qs h t ih =>
      rw [List.map_cons, List.map_cons]
      refine .cons ?_ ih
      obtain ⟨h1, h2, h3⟩ := h
      unfold setT putAt
      by_cases e : p.1 = k
      · rw [if_pos e, if_pos (h1 ▸ e)]
        exact ⟨h1, h2, rv⟩
      · rw [if_neg e, if_neg (fun z => e (h1.trans z))]
        exact ⟨h1, h2, h3⟩
  · rw [if_neg q, if_neg q]
    exact Paired.snoc r ⟨rfl, rfl, rv⟩
theorem putT_len (xs : List Ent) (k : NestedKey) (b : Addr) (v : V) : (putT xs k b v).length ≤ xs.length + 1 := by
  unfold putT
  split
  · rw [List.length_map]
    omega
  · rw [List.length_append, List.length_cons, List.length_nil]
    omega
section
variable {X : Cx} {pins : List (Addr × Obj)} {σ : L2.St} {H : Hp} {s : Shared} {a b : Addr} {xs : List Ent} {d : PyData}
abbrev NK (X : Cx) : HeapKind X.prog X.w NestedKey := nestedKind X.prog X.w
theorem keyT_at (I : Inv X pins σ H s) (k : KeyT X.K H b d) : (NK X).is s.heap (Cgn.toK d) b := by
  obtain ⟨as, r⟩ := Dp.reads I d _ _ k.dp rfl
  exact ⟨nestedS_of d _ as k.nm r, by rw [toKS_depth d k.nm]; exact k.le⟩
theorem dicT_at (I : Inv X pins σ H s) (e : Rd H a (DicT X.w a xs)) (hk : KeysT X.K H xs) : xs.length ≤ sizeLine ∧ (a == sysModules) = false ∧ ∃ ys, Paired RelE xs ys ∧ s.heap.DictOfH (NK X) a ys := by
  have q : ObjOk X.prog X.w H s.heap a (DicT X.w a xs) := e.ok I.hok
  obtain ⟨⟨z, hs, ys, r, o, es, ep, h1, h2, h3, h4, h5⟩, _⟩ := q
  refine ⟨z, hs, ys, r, o, es, ep, h1, h2, h3, h4, fun y hy => ?_, h5⟩
  have key : ∀ {xs : List Ent} {ys : List EntV}, Paired RelE xs ys → KeysT X.K H xs → ∀ y ∈ ys, (NK X).is s.heap y.1 y.2.1 := by
    intro xs ys r
    induction r with
    | nil => exact fun _ y hy => nomatch hy
    | @cons p q ps qs h t ih =>
      intro hk y hy
      rcases List.mem_cons.mp hy with e | hy
      · subst e
        obtain ⟨d, kd, ek⟩ := hk p List.mem_cons_self
        rw [← h.1, ek, ← h.2.1]
        exact keyT_at I kd
      · exact ih (fun x hx => hk x (List.mem_cons_of_mem _ hx)) y hy
  exact key r hk y hy
theorem raw_of {P : Program} {w : World} {h : Heap} {ys : List EntV} (x : h.DictOfH (nestedKind P w) a ys) : DicRaw w h a ys := by
  obtain ⟨o, es, ep, h1, h2, h3, h4, _, h5⟩ := x
  exact ⟨o, es, ep, h1, h2, h3, h4, h5⟩
theorem dicT_ok {P : Program} {w : World} {H : Hp} {h : Heap} {xs : List Ent} {ys : List EntV} (z : xs.length ≤ sizeLine) (hs : (a == sysModules) = false) (r : Paired RelE xs ys) (x : DicRaw w h a ys) : ObjOk P w H h a (DicT w a xs) := by
  obtain ⟨o, es, ep, h1, q⟩ := id x
  refine ⟨⟨z, hs, ys, r, x⟩, ⟨o, h1⟩, fun g1 g2 p k => ?_⟩
  obtain ⟨z', hs', ys', r', o', es', ep', h1', q'⟩ := p
  exact ⟨z', hs', ys', r', o', es', ep', k _ h1', q'⟩
theorem dicT_write (I : Inv X pins σ H s) {h' : Heap} {t' : Nat} {ob : HO} (mu : Mut (H a)) (hs : Heap.SameBut a s.heap h') (he : ∃ q, h'.get? a = some q) (new : ObjOk X.prog X.w (upd H a ob) h' a ob) : Inv X pins σ (upd H a ob) { s with heap := h', toks := t' } :=
  I.write (x := a) (e := a) mu (.inl rfl) (fun c q hb z => (hs.2 c hb).trans z) he new
/-- no entries: a dict of either sort -/
theorem none_at (I : Inv X pins σ H s) (e : Rd H a (.dK [])) : (a == sysModules) = false ∧ s.heap.DictOfH (NK X) a [] := by
  obtain ⟨z, hd, vs, rel, o, es, ep, h1, h2, h3, h4, h5, h6⟩ := dk_rd I.hok e
  cases rel
  have e0 : es.toList = [] := by
    cases q : es.toList with
    | nil => rfl
    | cons x r =>
      rw [q] at h5
      cases h5
  exact ⟨hd, o, es, ep, h1, h2, h3, by rw [e0]; rfl, (fun y hy => by cases hy), List.nodup_nil⟩
/-- what the dict at a has for the key y -/
def DRead (K : PySem.W.Frag) (w : World) (H : Hp) (a : Addr) (y : V) (r : Option V) : Prop :=
  DGet H a y r ∨ (∃ xs b d, Rd H a (DicT w a xs) ∧ KeysT K H xs ∧ y = .ref b ∧ KeyT K H b d ∧ r = findT xs (Cgn.toK d)) ∨ (∃ b d, Rd H a (.dK []) ∧ y = .ref b ∧ KeyT K H b d ∧ r = none)
/-- the heap behind a[y] = v -/
def DWrite (K : PySem.W.Frag) (w : World) (H : Hp) (a : Addr) (y v : V) (H' : Hp) : Prop :=
  DPut H a y v H' ∨ (∃ xs b d, H a = some (DicT w a xs) ∧ KeysT K H xs ∧ y = .ref b ∧ KeyT K H b d ∧ xs.length < sizeLine ∧ H' = upd H a (DicT w a (putT xs (Cgn.toK d) b v))) ∨
  ∃ b d, H a = some (.dK []) ∧ y = .ref b ∧ KeyT K H b d ∧ H' = upd H a (DicT w a [(Cgn.toK d, b, v)])
/-- a dict of either sort -/
def IsDic (K : PySem.W.Frag) (w : World) (H : Hp) (a : Addr) : Prop := IsD H a ∨ ∃ xs, Rd H a (DicT w a xs)
theorem isDic_at (I : Inv X pins σ H s) (g : IsDic X.K X.w H a) : s.TypeIs (.ref a) "dict" ∧ (∀ b, Value.ref a = .ref b → ∃ ob, s.heap.get? b = some ob ∧ ob.dict = none) ∧ (a == sysModules) = false := by
  rcases g with g | ⟨xs, e⟩
  · exact isD_at I g
  · have q : ObjOk X.prog X.w H s.heap a (DicT X.w a xs) := e.ok I.hok
    obtain ⟨⟨z, hs, ys, r, o, es, ep, h1, h2, _⟩, _⟩ := q
    refine ⟨⟨o, h1, h2.1⟩, fun b e => ?_, hs⟩
    cases e
    exact ⟨o, h1, h2.2.1⟩
theorem DRead.dic {K : PySem.W.Frag} {w : World} {y : V} {r : Option V} (g : DRead K w H a y r) : IsDic K w H a := by
  rcases g with (⟨kvs, k, e, _, _⟩ | ⟨kvs, k, b, e, _⟩) | ⟨xs, b, d, e, _⟩ | ⟨b, d, e, _⟩
  · exact .inl (.inl ⟨_, e⟩)
  · exact .inl (.inr ⟨_, e⟩)
  · exact .inr ⟨_, e⟩
  · exact .inl (.inl ⟨_, e⟩)
variable {y v : V} {u r : Value} {o : Option V} {A : Around} {E : Value → Shared → Prop}
theorem e_getItem {Q : Value → Shared → Prop} (hu : A.units + 16 < cLine) (I : Inv X pins σ H s) (g : DRead X.K X.w H a y (some v)) (ry : RelV y u) (h : ∀ w' s', Inv X pins σ H s' → RelV v w' → Q w' s') :
    wpAny (model X.prog X.w) A (getItem (.ref a) u) Q E s := by
  rcases g with g | ⟨xs, b, d, e, hk, ey, kd, l⟩ | ⟨b, d, e, ey, kd, l⟩
  · exact d_getItem (by omega) I g ry h
  · subst ey
    cases (show u = Value.ref b from ry)
    obtain ⟨z, hd, ys, rel, dd⟩ := dicT_at I e hk
    obtain ⟨w', hw, rw'⟩ := RelO.some_of (v := v) (o := (atKey ys (Cgn.toK d)).map (·.2)) (by rw [l]; exact rel_find rel _)
    obtain ⟨p, hp, hp2⟩ := Option.map_eq_some_iff.mp hw
    refine wpAny_getItem_heap (knd := NK X) (show A.in1.units + 8 < cLine by simp only [Around.in1]; omega) (keyT_at I kd) dd hp ?_
    rw [hp2]
    exact h w' _ (I.tok _) rw'
  · cases l
theorem e_notIn {Q : Value → Shared → Prop} (hu : A.units + 16 < cLine) (I : Inv X pins σ H s) (g : DRead X.K X.w H a y o) (ry : RelV y u) (h : ∀ s', Inv X pins σ H s' → Q (.bool (!o.isSome)) s') : wpAny (model X.prog X.w) A (compareOp .NotIn u (.ref a)) Q E s := by
  rcases g with g | ⟨xs, b, d, e, hk, ey, kd, l⟩ | ⟨b, d, e, ey, kd, l⟩
  · exact d_notIn (by omega) I g ry h
  · subst ey
    cases (show u = Value.ref b from ry)
    obtain ⟨z, hd, ys, rel, dd⟩ := dicT_at I e hk
    refine wpAny_notIn_heap (knd := NK X) (show A.in1.units + 8 < cLine by simp only [Around.in1]; omega) (keyT_at I kd) hd dd ?_
    have q := (rel_find rel (Cgn.toK d)).isSome_eq
    rw [Option.isSome_map] at q
    rw [← q, ← l]
    exact h _ (I.tok _)
  · subst ey
    cases (show u = Value.ref b from ry)
    obtain ⟨hd, dd⟩ := none_at I e
    refine wpAny_notIn_heap (knd := NK X) (show A.in1.units + 8 < cLine by simp only [Around.in1]; omega) (keyT_at I kd) hd dd ?_
    rw [l] at h
    exact h _ (I.tok _)
theorem e_setItem {H' : Hp} {Q : Unit → Shared → Prop} (hu : A.units + 16 < cLine) (I : Inv X pins σ H s) (g : DWrite X.K X.w H a y v H') (ry : RelV y u) (rv : RelV v r) (h : ∀ s', Inv X pins σ H' s' → Q () s') :
    wpAny (model X.prog X.w) A (setItem (.ref a) u r) Q E s := by
  rcases g with g | ⟨xs, b, d, e, hk, ey, kd, l, eH⟩ | ⟨b, d, e, ey, kd, eH⟩
  · exact d_setItem (by omega) I g ry rv h
  · subst ey eH
    cases (show u = Value.ref b from ry)
    obtain ⟨z, hd, ys, rel, dd⟩ := dicT_at I (.inl e) hk
    have hz : ys.length ≤ sizeLine := by rw [← Paired.length rel]; exact z
    have hl : (putT xs (Cgn.toK d) b v).length ≤ sizeLine := by have := putT_len xs (Cgn.toK d) b v; omega
    refine wpAny_setItem_heap (knd := NK X) (hsz := hz) (show A.in1.units + 8 < cLine by simp only [Around.in1]; omega) (keyT_at I kd) dd fun h' dd' hs => h _ ?_
    have he : ∃ q, h'.get? a = some q := let ⟨q, _, _, hq, _⟩ := dd'; ⟨q, hq⟩
    exact dicT_write I (by rw [e]; exact True.intro) hs he (dicT_ok hl hd (rel_put rel _ b rv) (raw_of dd'))
  · subst ey eH
    cases (show u = Value.ref b from ry)
    obtain ⟨hd, dd⟩ := none_at I (.inl e)
    refine wpAny_setItem_heap (knd := NK X) (hsz := Nat.zero_le _) (show A.in1.units + 8 < cLine by simp only [Around.in1]; omega) (keyT_at I kd) dd fun h' dd' hs => h _ ?_
    have he : ∃ q, h'.get? a = some q := let ⟨q, _, _, hq, _⟩ := dd'; ⟨q, hq⟩
    exact dicT_write I (by rw [e]; exact True.intro) hs he (dicT_ok (by show 1 ≤ sizeLine; rw [sizeLine_eq]; omega) hd (xs := [(Cgn.toK d, b, v)]) (ys := [(Cgn.toK d, b, r)]) (.cons ⟨rfl, rfl, rv⟩ .nil) (raw_of dd'))
end
def tDRead (K : PySem.W.Frag) (w : World) (td ty : TE) : TE := fun σ H Q => td σ H fun x H1 => ty σ H1 fun y H2 => ∃ a v, x = .ref a ∧ DRead K w H2 a y (some v) ∧ Q v H2
def tDIsNo (K : PySem.W.Frag) (w : World) (ty td : TE) : TE := fun σ H Q => ty σ H fun y H1 => td σ H1 fun x H2 => ∃ a o, x = .ref a ∧ DRead K w H2 a y o ∧ Q (.bl (!o.isSome)) H2
def sDWrite (K : PySem.W.Frag) (w : World) (td ty tv : TE) : TS := fun D σ H => tv σ H fun v H1 => td σ H1 fun x H2 => ty σ H2 fun y H3 => ∃ a H4, x = .ref a ∧ DWrite K w H3 a y v H4 ∧ D.nx σ H4
section
variable {X : Cx} {o i e f value : Expr} {pos pos' tpos apos cpos : Pos} {td ty tv tx : TE}
theorem pe_dread (hu : X.A.units + 16 < cLine) (ho : PE X o td) (hi : PE X i ty) (hs : NoSl i) : PE X (.Subscript o i pos) (tDRead X.K X.w td ty) := by
  refine ⟨fun pins s σ H Q I h => ?_⟩
  refine subD_of PySem.F.slot_dict_getitem.lookup hs (thn (ho.run pins s σ H _ I h) fun u s1 ⟨x, H1, I1, rx, q1⟩ => thn (hi.run pins s1 σ H1 _ I1 q1) fun iv s2 ⟨y, H2, I2, ry, a, v, ex, g, q2⟩ => ?_)
  subst ex
  obtain rfl : u = Value.ref a := rx
  exact ⟨(isDic_at I2 g.dic).1, e_getItem hu I2 g ry fun w' s3 I3 rw' => ⟨v, H2, I3, rw', q2⟩⟩
theorem pc_disno (hu : X.A.units + 16 < cLine) (hi : PE X i ty) (ho : PE X o td) : PC X .NotIn i o (tDIsNo X.K X.w ty td) := by
  refine ⟨fun pins s σ H Q I h => ?_⟩
  refine thn (hi.run pins s σ H _ I h) fun iv s1 ⟨y, H1, I1, ry, q1⟩ => thn (ho.run pins s1 σ H1 _ I1 q1) fun u s2 ⟨x, H2, I2, rx, a, ov, ex, g, q2⟩ => ?_
  subst ex
  obtain rfl : u = Value.ref a := rx
  exact e_notIn hu I2 g ry fun s3 I3 => ⟨.bl (!ov.isSome), H2, I3, rfl, q2⟩
theorem ps_dwrite (hu : X.A.units + 16 < cLine) (ho : PE X o td) (hi : PE X i ty) (hv : PE X value tv) (hs : swapsWith value (some (.Subscript o i pos')) pos.line X.env = pure false) : PS X (.Assign [.Subscript o i pos'] value pos) (sDWrite X.K X.w td ty tv) := by
  refine ⟨fun pins s σ H D I h => ?_⟩
  refine wpAny_Assign_Subscript (thn (hv.run pins s σ H _ I h) fun r s1 ⟨v, H1, I1, rv, q1⟩ => thn (ho.run pins s1 σ H1 _ I1 q1) fun u s2 ⟨x, H2, I2, rx, q2⟩ => thn (hi.run pins s2 σ H2 _ I2 q2) fun iv s3 ⟨y, H3, I3, ry, a, H4, ex, g, q3⟩ => ?_) hs
  subst ex
  obtain rfl : u = Value.ref a := rx
  exact e_setItem hu I3 g ry rv fun s4 I4 => ⟨σ, H4, I4, q3⟩
end
end Cgu
namespace Cg
open PySem PySem.Spec PyProof.Rows L2
section
variable {K : PySem.W.Frag} {cl : Ek → Addr} {E : L2.St → Option XK} {ρ : List Sl} {σ : L2.St} {G H : Hp}
/-- what is ours is written -/
theorem Sta.write (S : Sta K G H ρ σ) {i : Nat} {ds es : List PyData} {a : Addr} {xs ys : List V} (hi : ρ[i]? = some (.acc ds)) (ho : σ[i]? = some (some (.ref a))) (ha : H a = some (.lst xs)) (r : RpAll K G ys es) (hl : es.length ≤ sizeLine) (hg : G a = none) :
    Af K ρ σ G H (ρ.set i (.acc es)) σ G (upd H a (.lst ys)) := by
  have ow : Owns ρ σ a := ⟨i, _, hi, rfl, ho⟩
  have oth : ∀ (j : Nat) (s : Sl) (b : Addr), i ≠ j → ρ[j]? = some s → owning s = true → σ[j]? = some (some (.ref b)) → b ≠ a := fun j s b z h1 h2 h3 y => z (S.dis i j _ s a hi h1 rfl h2 ho (by rw [h3, y]))
  have sl : ∀ (j : Nat) (s : Sl), (ρ.set i (.acc es))[j]? = some s → owning s = true → ∃ s', ρ[j]? = some s' ∧ owning s' = true := fun j s h1 h2 => by
    by_cases z : i = j
    · subst z
      exact ⟨_, hi, rfl⟩
    · rw [List.getElem?_set_ne z] at h1
      exact ⟨s, h1, h2⟩
  refine ⟨⟨Ex.refl G, fun _ _ _ h => h, fun b u hb h => ?_, fun b h => ?_⟩, ⟨by rw [List.length_set]; exact S.len, fun b u q => ?_, fun j s o h1 h2 => ?_, fun j l sj sl' b h1 h2 h3 h4 h5 h6 => ?_⟩, fun b h => .inl ?_, fun b h => ⟨?_, h.2⟩⟩
  · rw [upd_ne (fun z => hb (by rw [z]; exact ow))]
    exact h
  · by_cases z : b = a
    · rw [z, upd_same]
      exact fun y => nomatch y
    · rw [upd_ne z]
      exact h
  · rw [upd_ne (fun z => by
      rw [z, hg] at q
      cases q)]
    exact S.sub b u q
  · by_cases z : i = j
    · subst z
      cases set_self hi h1
      rw [ho] at h2
      cases h2
      exact ⟨a, ys, rfl, upd_same, hl, r, hg⟩
    · rw [List.getElem?_set_ne z] at h1
      refine (S.ok j s o h1 h2).grow (Ex.refl G) (fun _ _ _ h _ => h) fun b u q1 q2 h => ?_
      subst q2
      rw [upd_ne (oth j s b z h1 q1 h2)]
      exact h
  · obtain ⟨s1, g1, g2⟩ := sl j sj h1 h3
    obtain ⟨s2, g3, g4⟩ := sl l sl' h2 h4
    exact S.dis j l s1 s2 b g1 g3 g2 g4 h5 h6
  · obtain ⟨j, s, h1, h2, h3⟩ := h
    obtain ⟨s1, g1, g2⟩ := sl j s h1 h2
    exact ⟨j, s1, g1, g2, h3⟩
  · rw [List.getElem?_set_ne (fun z => by
      subst z
      rw [h.1] at hi
      cases hi)]
    exact h.1
end
section
variable {K : PySem.W.Frag} {cl : Ek → Addr} {E : L2.St → Option XK} {ρ : List Sl} {S β : Type} {oc : β → Ct S} {ρ' : S → List Sl} {u : TS}
theorem RpAll.set {G : Hp} {v : V} {d : PyData} (h : Rp K G v d) : ∀ {vs : List V} {ds : List PyData} (n : Nat), RpAll K G vs ds → RpAll K G (vs.set n v) (ds.set n d)
  | _, _, _, .nil => .nil
  | _, _, 0, .cons _ t => .cons h t
  | _, _, n + 1, .cons p t => .cons p (RpAll.set h n t)
/-- the def that is read, with the names told apart from the table -/
theorem st_asgF2 (hE : ∀ a b, E a = E b) {w : World} {i : Nat} {p : Addr} {tab : List (Str × Addr)} {names : List Str} {tb : TE} {fb : Tr PyData} {g : Str → Tr β} (D : FdAt w K p tab) (hn : tab.map Prod.fst = names) (hb : Ev K cl E tb ρ fb) (k : ∀ q ∈ tab, StG K cl E oc ρ' u (ρ.set i (.val (.ref q.2))) (g q.1)) (n : nown ρ i = true := by rfl) :
    StG K cl E oc ρ' (tSeq (tAsg (tOp (rIxD K w) (tC (.ref p)) tb) (gName i)) u) ρ (fb.bind fun y => (fdT names y).bind g) := by
  subst hn
  exact st_asgF hE D hb k n
/-- a, b = e -/
theorem st_unp2 (hE : ∀ a b, E a = E b) {i j : Nat} {te : TE} {f : Tr PyData} {g : PyData → PyData → Tr β} (h : Ev K cl E te ρ f) (k : ∀ a b, StG K cl E oc ρ' u ((ρ.set i (.dat a)).set j (.dat b)) (g a b))
    (hi : nown ρ i = true := by rfl) (hj : ∀ a, nown (ρ.set i (.dat a)) j = true := by intro; rfl) : StG K cl E oc ρ' (tSeq (tAsg te (gTup K 2 (gCons (gName i) (gCons (gName j) gNil)))) u) ρ (f.bind (un2 g)) := fun G H σ hS D q =>
  h.then (g := un2 g) hS q fun d v G1 H1 a rv w => by
    cases rv with
    | @tup p xs ds hs hl ra hpl =>
      cases ra with
      | nil => exact w.elim
      | @cons v0 _ d0 _ r1 t =>
        cases t with
        | nil => exact w.elim
        | @cons v1 _ d1 _ r2 t =>
          cases t with
          | cons _ _ => exact w.elim
          | nil =>
            refine ⟨p, [v0, v1], rfl, a.st.sub.t hs, rfl, v0, [v1], rfl, v1, [], rfl, rfl, ?_⟩
            have kp := kp_put (σ := σ) (v := v0) (d := d0) hi
            have S1 := a.st.put (i := i) r1
            have kp2 := kp_put (σ := σ.set i (some v0)) (v := v1) (d := d1) (hj d0)
            have a2 : Af K ρ σ G1 H1 ((ρ.set i (.dat d0)).set j (.dat d1)) ((σ.set i (some v0)).set j (some v1)) G1 H1 := ⟨Gr.refl, S1.put r2, fun x z => .inl (kp.bwd x (kp2.bwd x z)), fun b z => by
              obtain ⟨q1, q2⟩ := kp.fwd 0 .box z.1 rfl
              obtain ⟨q3, q4⟩ := kp2.fwd 0 .box q1 rfl
              exact ⟨q3, q4.trans (q2.trans z.2)⟩⟩
            exact k d0 d1 G1 H1 _ (S1.put r2) D (upS hE a2 w)
    | _ => exact w.elim
end
def cLtD (a b : PyData) : Tr Bool := if Cgo.sig a = true ∧ Cgo.sig b = true ∧ min a.depth b.depth ≤ 64 then (match Cgo.ltD a b with | some k => .ret k | none => .bad) else .bad
theorem rc_ltD {K : PySem.W.Frag} : RC K (Cgo.rLtD K) cLtD := fun G H x y a b Er e rx ry Q h => by
  have h' : (if Cgo.sig a = true ∧ Cgo.sig b = true ∧ min a.depth b.depth ≤ 64 then (match Cgo.ltD a b with | some k => Tr.ret k | none => .bad) else .bad).wp (fun k => Q (.bl k) H) Er := h
  split at h'
  · rename_i hz
    cases q : Cgo.ltD a b with
    | none =>
      rw [q] at h'
      exact h'.elim
    | some k =>
      rw [q] at h'
      exact ⟨a, b, k, (rx.mono e).dp, (ry.mono e).dp, hz.1, hz.2.1, q, hz.2.2, h'⟩
  · exact h'.elim
end Cg
namespace Km
open PySem L2 Cg Cgo
def isW (a : PyData) (s : Str) : Bool := match a with
  | .str t => t == s
  | _ => false
theorem isW_yes {a : PyData} {s : Str} (h : isW a s = true) : a = .str s := by
  cases a with
  | str t =>
    rw [show t = s from eq_of_beq h]
  | _ => exact absurd h Bool.noConfusion
theorem eqv_str (a : PyData) (s : Str) : PyData.eqv a (.str s) = isW a s := by
  cases a <;> simp [PyData.eqv, isW]
theorem eqv_strL (a : PyData) (s : Str) : PyData.eqv (.str s) a = isW a s := by
  cases a with
  | str t =>
    simp only [PyData.eqv, isW]
    exact Bool.beq_comm
  | _ => simp [PyData.eqv, isW]
theorem depth_str (s : Str) : (PyData.str s).depth = 0 := by simp [PyData.depth]
theorem depth_int (s : Int) : (PyData.int s).depth = 0 := by simp [PyData.depth]
theorem cEq_str (a : PyData) (s : Str) : cEq a (.str s) = .ret (isW a s) := by
  unfold cEq
  rw [depth_str, Nat.min_zero, if_pos (by omega), eqv_str]
theorem cNe_str (a : PyData) (s : Str) : cNe a (.str s) = .ret (!isW a s) := by
  unfold cNe
  rw [depth_str, Nat.min_zero, if_pos (by omega), eqv_str]
theorem eqv_int (i j : Int) : PyData.eqv (.int i) (.int j) = decide (i = j) := by
  simp only [PyData.eqv]
  exact rfl
theorem cEq_int (i j : Int) : cEq (.int i) (.int j) = .ret (decide (i = j)) := by
  unfold cEq
  rw [depth_int, if_pos (by omega), eqv_int]
theorem cNe_int (i j : Int) : cNe (.int i) (.int j) = .ret (!decide (i = j)) := by
  unfold cNe
  rw [depth_int, if_pos (by omega), eqv_int]
theorem cIn_2 (a : PyData) (s t : Str) : cIn a (.tuple [.str s, .str t]) = .ret (isW a s || isW a t) := by
  unfold cIn
  have h : PyData.depthAll [.str s, .str t] = 0 := by simp [PyData.depthAll, PyData.depth]
  show (if min (PyData.depthAll [.str s, .str t]) a.depth ≤ 64 then Tr.ret (memD a [.str s, .str t]) else .bad) = _
  rw [h, Nat.zero_min, if_pos (by omega)]
  simp only [memD, List.any, eqv_strL, Bool.or_false]
theorem cIn_3 (a : PyData) (s t u : Str) : cIn a (.tuple [.str s, .str t, .str u]) = .ret (isW a s || (isW a t || isW a u)) := by
  unfold cIn
  have h : PyData.depthAll [.str s, .str t, .str u] = 0 := by simp [PyData.depthAll, PyData.depth]
  show (if min (PyData.depthAll [.str s, .str t, .str u]) a.depth ≤ 64 then Tr.ret (memD a [.str s, .str t, .str u]) else .bad) = _
  rw [h, Nat.zero_min, if_pos (by omega)]
  simp only [memD, List.any, eqv_strL, Bool.or_false]
theorem cLt_int (i j : Int) : cLt (.int i) (.int j) = .ret (decide (i < j)) := rfl
theorem cGt_int (i j : Int) : cGt (.int i) (.int j) = .ret (decide (j < i)) := rfl
theorem cLe_int (i j : Int) : cLe (.int i) (.int j) = .ret (decide (i ≤ j)) := rfl
theorem cGe_int (i j : Int) : cGe (.int i) (.int j) = .ret (decide (j ≤ i)) := rfl
theorem dLen_tup (xs : List PyData) : dLen (.tuple xs) = .ret (.int xs.length) := rfl
theorem dLen_lst (xs : List PyData) : dLen (.list xs) = .ret (.int xs.length) := rfl
theorem dSub_int (i j : Int) : dSub (.int i) (.int j) = .ret (.int (i - j)) := rfl
theorem dAdd_int (i j : Int) : dAdd (.int i) (.int j) = .ret (.int (i + j)) := rfl
theorem sl1 (w : PyData) (xs : List PyData) : dSl (.tuple (w :: xs)) (some 1) none = .ret (.tuple xs) := by
  show Tr.ret (PyData.tuple (cutD (w :: xs) (some 1) none)) = _
  have e : cutD (w :: xs) (some 1) none = xs := by
    unfold cutD
    rw [HT.sIx_none, show HT.sIx (w :: xs).length 0 (some 1) = min 1 (w :: xs).length from HT.sIx_nat _ 0 1]
    simp
  rw [e]
theorem ix_nat {xs : List PyData} {j : Nat} {d : PyData} (h : xs[j]? = some d) : dIx (.tuple xs) (.int (j : Int)) = .ret d := by
  unfold dIx
  simp only [atI_nat h]
theorem ixL_nat {xs : List PyData} {j : Nat} {d : PyData} (h : xs[j]? = some d) : dIx (.list xs) (.int (j : Int)) = .ret d := by
  unfold dIx
  simp only [atI_nat h]
theorem ix0 (w : PyData) (xs : List PyData) : dIx (.tuple (w :: xs)) (.int 0) = .ret w := ix_nat (j := 0) rfl
theorem ix1 (w a : PyData) (xs : List PyData) : dIx (.tuple (w :: a :: xs)) (.int 1) = .ret a := ix_nat (j := 1) rfl
theorem ix2 (w a b : PyData) (xs : List PyData) : dIx (.tuple (w :: a :: b :: xs)) (.int 2) = .ret b := ix_nat (j := 2) rfl
theorem asInts_map : ∀ ns : List Int, asInts (ns.map PyData.int) = some ns
  | [] => rfl
  | n :: ns => by
    show (asInts (ns.map PyData.int)).map (n :: ·) = _
    rw [asInts_map ns]
    rfl
theorem dSum_map (ns : List Int) : dSum (.list (ns.map PyData.int)) = .ret (.int ns.sum) := by
  unfold dSum
  simp only [asInts_map]
theorem map_ret {α : Type} {f : α → Tr PyData} {g : α → PyData} : ∀ (ys : List α), (∀ y ∈ ys, f y = .ret (g y)) → mapT f ys = .ret (ys.map g)
  | [], _ => rfl
  | y :: ys, h => by
    show (f y).bind _ = _
    rw [h y (List.mem_cons_self ..), Tr.ret_bind, map_ret ys fun z hz => h z (List.mem_cons_of_mem _ hz)]
    rfl
theorem rng_map (lo : Int) (n : Nat) : rng lo n = (List.range n).map fun (i : Nat) => PyData.int (lo + (i : Int)) := rfl
theorem range_eq {c : Int} (h0 : 0 ≤ c) (h1 : c ≤ 1000000) : rangeT (.int 0) (.int c) = .ret (rng 0 c.toNat) := by
  unfold rangeT
  show (if _ then _ else _) = _
  rw [if_pos (by refine ⟨by omega, by omega, by omega, by omega, by omega⟩), Int.sub_zero]
theorem wp_of_eq {α : Type} {t : Tr α} {a : α} {Q : α → Prop} {E : Ek → Prop} (e : t = .ret a) (h : Q a) : t.wp Q E := by
  rw [e]
  exact h
inductive Kd where
  | num (n : Int)
  | rcd (ks : List Kd)
  | cho (ks : List Kd)
  | row (k : Kd)
  | set (k : Kd)
  | bag (k : Kd)
  | tab (k e : Kd)
mutual
def Kd.ok : Kd → Bool
  | .num n => decide (2 ≤ n) && decide (n ≤ 1000)
  | .rcd ks => (decide (1 ≤ ks.length) && decide (ks.length ≤ 4)) && oks ks
  | .cho ks => (decide (2 ≤ ks.length) && decide (ks.length ≤ 4)) && oks ks
  | .row k => k.ok
  | .set k => k.ok
  | .bag k => k.ok
  | .tab k e => k.ok && e.ok
def oks : List Kd → Bool
  | [] => true
  | k :: ks => k.ok && oks ks
end
mutual
def Kd.deep : Kd → Nat
  | .num _ => 1
  | .rcd ks => 1 + deeps ks
  | .cho ks => 1 + deeps ks
  | .row k => 1 + k.deep
  | .set k => 1 + k.deep
  | .bag k => 1 + k.deep
  | .tab k e => 1 + max k.deep e.deep
def deeps : List Kd → Nat
  | [] => 0
  | k :: ks => max k.deep (deeps ks)
end
mutual
def Kd.size : Kd → Int
  | .num _ => 1
  | .rcd ks => 1 + sizes ks
  | .cho ks => 1 + sizes ks
  | .row k => 1 + k.size
  | .set k => 1 + k.size
  | .bag k => 1 + k.size
  | .tab k e => 1 + (k.size + e.size)
def sizes : List Kd → Int
  | [] => 0
  | k :: ks => k.size + sizes ks
end
/-- they rise strictly -/
def rising (vs : List PyData) : Bool := (List.range (vs.length - 1)).all fun j => ltD (vs.getD j .none) (vs.getD (j + 1) .none) == some true
def fsts (vs : List PyData) : List PyData := vs.map fun p => match p with
  | .tuple (u :: _) => u
  | _ => .none
mutual
def isV : Kd → PyData → Bool
  | .num n, .int i => decide (0 ≤ i) && decide (i ≤ n - 1)
  | .rcd ks, .tuple vs => isVs ks vs
  | .cho ks, .tuple [.int i, u] => decide (0 ≤ i) && isVn ks i.toNat u
  | .row k, .tuple vs => vs.all (isV k)
  | .set k, .tuple vs => vs.all (isV k) && rising vs
  | .bag k, .tuple vs => (vs.all fun p => match p with
    | .tuple [u, .int c] => isV k u && decide (1 ≤ c)
    | _ => false) && rising (fsts vs)
  | .tab k e, .tuple vs => (vs.all fun p => match p with
    | .tuple [u, w] => isV k u && isV e w
    | _ => false) && rising (fsts vs)
  | _, _ => false
def isVs : List Kd → List PyData → Bool
  | [], [] => true
  | k :: ks, v :: vs => isV k v && isVs ks vs
  | _, _ => false
def isVn : List Kd → Nat → PyData → Bool
  | [], _, _ => false
  | k :: _, 0, v => isV k v
  | _ :: ks, n + 1, v => isVn ks n v
end
mutual
def wt : Kd → PyData → Int
  | .num _, _ => 1
  | .rcd ks, .tuple vs => 1 + wts ks vs
  | .cho ks, .tuple [.int i, u] => 1 + wtn ks i.toNat u
  | .row k, .tuple vs => 1 + (vs.map (wt k)).sum
  | .set k, .tuple vs => 1 + (vs.map (wt k)).sum
  | .bag k, .tuple vs => 1 + (vs.map fun p => match p with
    | .tuple [u, .int c] => c * wt k u
    | _ => 0).sum
  | .tab k e, .tuple vs => 1 + (vs.map fun p => match p with
    | .tuple [u, w] => wt k u + wt e w
    | _ => 0).sum
  | _, _ => 1
def wts : List Kd → List PyData → Int
  | k :: ks, v :: vs => wt k v + wts ks vs
  | _, _ => 0
def wtn : List Kd → Nat → PyData → Int
  | [], _, _ => 1
  | k :: _, 0, v => wt k v
  | _ :: ks, n + 1, v => wtn ks n v
end
end Km
namespace Km
open PySem L2 Cg Cgo
theorem depthAll_le : ∀ {vs : List PyData} {d : Nat}, (∀ v ∈ vs, v.depth ≤ d) → PyData.depthAll vs ≤ d
  | [], _, _ => by rw [PyData.depthAll]; omega
  | v :: vs, d, h => by
    rw [PyData.depthAll]
    have h1 := h v List.mem_cons_self
    have h2 := depthAll_le (vs := vs) (d := d) fun x hx => h x (List.mem_cons_of_mem _ hx)
    omega
theorem depth_tup {vs : List PyData} {d : Nat} (h : ∀ v ∈ vs, v.depth ≤ d) : (PyData.tuple vs).depth ≤ d + 1 := by
  rw [PyData.depth]
  have := depthAll_le h
  omega
end Km
namespace Km
open PySem L2 Cg Cgo
open PySem.W (dataLt)
abbrev F0 : Ek → Prop := fun _ => False
theorem take_wp {m : Int} {Q : PyData → Prop} (h1 : 1 ≤ m) (h2 : m < 1073741824) (h : ∀ i : Nat, (i : Int) < m → Q (.int (i : Int))) : (takeT (.int m)).wp Q F0 := by
  show Tr.wp Q F0 (if 1 ≤ m ∧ m < 1073741824 then Tr.draw m.toNat fun i => Tr.ret (PyData.int (i : Int)) else Tr.bad)
  rw [if_pos ⟨h1, h2⟩]
  exact fun i hi => h i (by omega)
/-- what a draw keeps, told of any that draws so -/
def Draws (tk : PyData → Tr PyData) : Prop := ∀ {m : Int} {Q : PyData → Prop}, 1 ≤ m → m < 1073741824 → (∀ i : Nat, (i : Int) < m → Q (.int (i : Int))) → (tk (.int m)).wp Q F0
theorem map_wp {α : Type} {P : PyData → Prop} {f : α → Tr PyData} : ∀ (xs : List α), (∀ x ∈ xs, (f x).wp P F0) → (mapT f xs).wp (fun ys => ys.length = xs.length ∧ ∀ y ∈ ys, P y) F0
  | [], _ => ⟨rfl, fun y hy => nomatch hy⟩
  | x :: xs, h => by
    refine Tr.wp_bind.mpr (Tr.wp_mono (fun y hy => ?_) (fun _ z => z) (h x (List.mem_cons_self ..)))
    refine Tr.wp_bind.mpr (Tr.wp_mono (fun ys hys => ?_) (fun _ z => z) (map_wp xs fun z hz => h z (List.mem_cons_of_mem _ hz)))
    refine ⟨congrArg (· + 1) hys.1, fun z hz => ?_⟩
    rcases List.mem_cons.mp hz with rfl | hz
    · exact hy
    · exact hys.2 z hz
end Km
namespace Km
open PySem L2 Cg Cgo
def numIn (v : PyData) (lo hi : Int) : Bool := match v with
  | .int i => decide (lo ≤ i) && decide (i ≤ hi)
  | _ => false
theorem all_bools (bs : List Bool) : dAll (.list (bs.map PyData.bool)) = .ret (.bool (bs.all id)) := by
  have e : ∀ bs : List Bool, asBools (bs.map PyData.bool) = some bs := by
    intro bs
    induction bs with
    | nil => rfl
    | cons b bs ih =>
      show (asBools (bs.map PyData.bool)).map (b :: ·) = _
      rw [ih]
      rfl
  unfold dAll
  simp only [e]
theorem box_ints (ns : List Int) : boxT (.list (ns.map PyData.int)) = .ret () := by
  show (if (asInts (ns.map PyData.int)).isSome = true then Tr.ret () else .bad) = _
  rw [asInts_map]
  rfl
end Km
namespace Km
open PySem L2 Cg Cgo
end Km
namespace Km
open PySem L2 Cg Cgo
/-- the patches of every kind, and the others by f -/
def head (P : PyData → Bool) (p : PyData) (f : PyData → List PyData → Option Nat) : Option Nat := match p with
  | .tuple (w :: r) => if isW w "same" then (if r.isEmpty then some 1 else none)
    else if isW w "only" then (match r with
      | [v] => if P v then some 1 else none
      | _ => none)
    else if isW w "turn" then (match r with
      | [v, u] => if P v && (P u && !PyData.eqv v u) then some 1 else none
      | _ => none)
    else f w r
  | _ => none
def addO (o o' : Option Nat) : Option Nat := match o with
  | some a => o'.map (a + ·)
  | none => none
def cntN (f : PyData → Option Nat) : List PyData → Option Nat
  | [] => some 0
  | y :: ys => addO (f y) (cntN f ys)
def partN (P : PyData → Bool) (m : PyData → Option Nat) (x : PyData) : Option Nat := match x with
  | .tuple [w, a] => if isW w "keep" then (if numIn a 1 10000 then some 1 else none)
    else if isW w "cut" || isW w "add" then (if P a then some 1 else none)
    else if isW w "mend" then (m a).map (1 + ·) else none
  | _ => none
def keepOf (x : PyData) : Int := match x with
  | .tuple [w, .int i] => if isW w "keep" then i else 0
  | _ => 0
def keeps (qs : List PyData) : Int := (qs.map keepOf).sum
def chgN (P : PyData → Bool) (m : PyData → Option Nat) (c : PyData) : Option Nat := match c with
  | .tuple [w] => if isW w "out" then some 1 else none
  | .tuple [w, a] => if isW w "cut" || isW w "add" then (if P a then some 1 else none)
    else if isW w "mend" then (m a).map (1 + ·) else none
  | _ => none
def entN (Pk Pe : PyData → Bool) (m : PyData → Option Nat) (x : PyData) : Option Nat := match x with
  | .tuple [u, c] => if Pk u then chgN Pe m c else none
  | _ => none
def setW (w : PyData) : Bool := isW w "cut" || (isW w "add" || (isW w "in" || isW w "out"))
def setCh (P : PyData → Bool) (x : PyData) : Bool := match x with
  | .tuple [u, w] => P u && setW w
  | _ => false
def bagNum (l d : PyData) : Bool := match l, d with
  | .int i, .int j => (decide (0 ≤ i) && decide (i ≤ 10000)) && ((decide (-i ≤ j) && decide (j ≤ 10000)) && !(decide (i = 0) && decide (j = 0)))
  | _, _ => false
def bagCh (P : PyData → Bool) (x : PyData) : Bool := match x with
  | .tuple [u, l, d] => P u && bagNum l d
  | _ => false
def lst (w : Str) (g : List PyData → Option Nat) (w0 : PyData) (r : List PyData) : Option Nat := if isW w0 w then (match r with
    | [.tuple qs] => (g qs).map (1 + ·)
    | _ => none) else none
def chN (n : Int) (g : Nat → PyData → Option Nat) (w0 : PyData) (r : List PyData) : Option Nat := if isW w0 "choice" then (match r with
    | [a, q] => (match a with
      | .int i => if numIn (.int i) 0 (n - 1) then (g i.toNat q).map (1 + ·) else none
      | _ => none)
    | _ => none) else none
def ifN (b : Bool) (o : Option Nat) : Option Nat := if b then o else none
mutual
def pc (P : Kd → PyData → Bool) : Kd → PyData → Option Nat
  | .num n, p => head (P (.num n)) p fun _ _ => none
  | .rcd ks, p => head (P (.rcd ks)) p (lst "record" fun qs => pcs P ks qs)
  | .cho ks, p => head (P (.cho ks)) p (chN ks.length fun i q => pcn P ks i q)
  | .row k, p => head (P (.row k)) p (lst "row" fun qs => ifN (decide (keeps qs ≤ 10000)) (cntN (partN (P k) (pc P k)) qs))
  | .set k, p => head (P (.set k)) p (lst "set" fun qs => ifN (qs.all (setCh (P k)) && rising (fsts qs)) (some qs.length))
  | .bag k, p => head (P (.bag k)) p (lst "bag" fun qs => ifN (qs.all (bagCh (P k)) && rising (fsts qs)) (some qs.length))
  | .tab k e, p => head (P (.tab k e)) p (lst "table" fun qs => ifN (rising (fsts qs)) (cntN (entN (P k) (P e) (pc P e)) qs))
def pcs (P : Kd → PyData → Bool) : List Kd → List PyData → Option Nat
  | [], [] => some 0
  | k :: ks, q :: qs => addO (pc P k q) (pcs P ks qs)
  | _, _ => none
def pcn (P : Kd → PyData → Bool) : List Kd → Nat → PyData → Option Nat
  | [], _, _ => none
  | k :: _, 0, q => pc P k q
  | _ :: ks, n + 1, q => pcn P ks n q
end
def lim (R : Int) (o : Option Nat) : Option Nat := match o with
  | some m => if (m : Int) ≤ R then some m else none
  | none => none
end Km
namespace Cg
open PySem PySem.Spec PyProof.Rows L2 Cgu
abbrev KVs := List (PyData × PyData)
def keyOk (k : PyData) : Bool := Cgn.numD k && decide (k.depth ≤ 8)
def fD (es : KVs) (k : PyData) : Option PyData := (es.find? fun e => PyData.eqv e.1 k).map (·.2)
def setD (k v : PyData) (e : PyData × PyData) : PyData × PyData := if PyData.eqv e.1 k = true then (e.1, v) else e
def pD (es : KVs) (k v : PyData) : KVs := if (fD es k).isSome = true then es.map (setD k v) else es ++ [(k, v)]
def sameSort (es : KVs) (k : PyData) : Bool := es.all fun e => isTup e.1 == isTup k
def RI (K : PySem.W.Frag) (G : Hp) (p : Key × V) (e : PyData × PyData) : Prop := ∃ i : Int, p.1 = .inl i ∧ e.1 = .int i ∧ Rp K G p.2 e.2
def RT (K : PySem.W.Frag) (G : Hp) (x : Ent) (e : PyData × PyData) : Prop := (∃ ks, e.1 = .tuple ks) ∧ Rp K G (.ref x.2.1) e.1 ∧ x.1 = Cgn.toK e.1 ∧ Rp K G x.2.2 e.2
/-- what stands for a dict -/
def DicRep (K : PySem.W.Frag) (w : World) (es : KVs) (G : Hp) (a : Addr) (ob : HO) : Prop :=
  es.length ≤ sizeLine ∧ (∀ e ∈ es, keyOk e.1 = true) ∧ ((∃ kvs : List (Key × V), ob = .dK kvs ∧ Paired (RI K G) kvs es) ∨ ∃ xs : List Ent, ob = DicT w a xs ∧ Paired (RT K G) xs es ∧ es ≠ [])
theorem paired_imp {α β : Type} {R S : α → β → Prop} (h : ∀ a b, R a b → S a b) : ∀ {xs : List α} {ys : List β}, Paired R xs ys → Paired S xs ys
  | _, _, .nil => .nil
  | _, _, .cons p t => .cons (h _ _ p) (paired_imp h t)
section
variable {K : PySem.W.Frag} {w : World} {G G' H : Hp} {a : Addr} {ob : HO} {es : KVs}
theorem DicRep.mono (e : Ex G G') (h : DicRep K w es G a ob) : DicRep K w es G' a ob := by
  obtain ⟨h1, h2, h⟩ := h
  refine ⟨h1, h2, ?_⟩
  rcases h with ⟨kvs, e1, r⟩ | ⟨xs, e1, r, ne⟩
  · exact .inl ⟨kvs, e1, paired_imp (fun p e' ⟨i, q1, q2, q3⟩ => ⟨i, q1, q2, q3.mono e⟩) r⟩
  · exact .inr ⟨xs, e1, paired_imp (fun p e' ⟨q0, q1, q2, q3⟩ => ⟨q0, q1.mono e, q2, q3.mono e⟩) r, ne⟩
theorem keyOk_iff {k : PyData} : keyOk k = true ↔ Cgn.numD k = true ∧ k.depth ≤ 8 := by
  unfold keyOk
  rw [Bool.and_eq_true, decide_eq_true_eq]
theorem keyT_of {b : Addr} {k : PyData} (r : Rp K G (.ref b) k) (e : Ex G H) (hk : keyOk k = true) : KeyT K H b k := by
  obtain ⟨z1, z2⟩ := keyOk_iff.mp hk
  exact ⟨(r.mono e).dp, Cgu.sig_of_num k z1, z2⟩
theorem keysT_of {xs : List Ent} (r : Paired (RT K G) xs es) (hk : ∀ e ∈ es, keyOk e.1 = true) (e : Ex G H) : KeysT K H xs := by
  induction r with
  | nil => exact fun x hx => nomatch hx
  | @cons x d xs es h t ih =>
    intro y hy
    rcases List.mem_cons.mp hy with z | hy
    · rw [z]
      exact ⟨d.1, keyT_of h.2.1 e (hk d List.mem_cons_self), h.2.2.1⟩
    · exact ih (fun e he => hk e (List.mem_cons_of_mem _ he)) y hy
def ROp (K : PySem.W.Frag) (G : Hp) (o : Option V) (d : Option PyData) : Prop := match o, d with
  | none, none => True
  | some v, some d => Rp K G v d
  | _, _ => False
theorem find_int {kvs : List (Key × V)} (r : Paired (RI K G) kvs es) (i : Int) : ROp K G (valV kvs (.inl i)) (fD es (.int i)) := by
  induction r with
  | nil => exact True.intro
  | @cons p e kvs es h t ih =>
    obtain ⟨j, q1, q2, q3⟩ := h
    by_cases z : j = i
    · have e1 : valV (p :: kvs) (.inl i) = some p.2 := valV_pos (by rw [q1, z])
      have e2 : fD (e :: es) (.int i) = some e.2 := by
        unfold fD
        rw [List.find?_cons, q2, show PyData.eqv (.int j) (.int i) = true by simp [PyData.eqv, z]]
        rfl
      rw [e1, e2]
      exact q3
    · have e1 : valV (p :: kvs) (.inl i) = valV kvs (.inl i) := valV_neg (by rw [q1]; exact fun y => z (Sum.inl.inj y))
      have e2 : fD (e :: es) (.int i) = fD es (.int i) := by
        unfold fD
        rw [List.find?_cons, q2, show PyData.eqv (.int j) (.int i) = false by simp [PyData.eqv, z]]
      rw [e1, e2]
      exact ih
theorem key_eqv {d k : PyData} (h1 : keyOk d = true) (h2 : keyOk k = true) : PyData.eqv d k = true ↔ Cgn.toK d = Cgn.toK k := by
  rw [Cgn.numD_eqv d k (keyOk_iff.mp h1).1 (keyOk_iff.mp h2).1]
  exact ⟨fun e => by rw [e], fun e => Cgn.toK_inj d k (keyOk_iff.mp h1).1 (keyOk_iff.mp h2).1 e⟩
theorem find_tup {xs : List Ent} {k : PyData} (r : Paired (RT K G) xs es) (hk : ∀ e ∈ es, keyOk e.1 = true) (h : keyOk k = true) : ROp K G (findT xs (Cgn.toK k)) (fD es k) := by
  induction r with
  | nil => exact True.intro
  | @cons x e xs es hx t ih =>
    have ke := hk e List.mem_cons_self
    by_cases z : PyData.eqv e.1 k = true
    · have e1 : findT (x :: xs) (Cgn.toK k) = some x.2.2 := by
        simp [findT, List.find?_cons, hx.2.2.1, (key_eqv ke h).mp z]
      have e2 : fD (e :: es) k = some e.2 := by
        unfold fD
        rw [List.find?_cons, z]
        rfl
      rw [e1, e2]
      exact hx.2.2.2
    · have z' : ¬ x.1 = Cgn.toK k := fun y => z ((key_eqv ke h).mpr (by rw [← hx.2.2.1]; exact y))
      have e1 : findT (x :: xs) (Cgn.toK k) = findT xs (Cgn.toK k) := by
        simp [findT, List.find?_cons, z']
      have e2 : fD (e :: es) k = fD es k := by
        unfold fD
        rw [List.find?_cons, show PyData.eqv e.1 k = false by simpa using z]
      rw [e1, e2]
      exact ih fun e he => hk e (List.mem_cons_of_mem _ he)
theorem sort_nil {k : PyData} (hs : sameSort es k = true) (h : ∀ e ∈ es, isTup e.1 ≠ isTup k) : es = [] := by
  cases es with
  | nil => rfl
  | cons e es =>
    have := List.all_eq_true.mp hs e List.mem_cons_self
    exact absurd (eq_of_beq this) (h e List.mem_cons_self)
/-- what is read -/
theorem DicRep.read (r : DicRep K w es G a ob) (ha : H a = some ob) (e : Ex G H) {y : V} {k : PyData} (rk : Rp K G y k) (hk : keyOk k = true) (hs : sameSort es k = true) : ∃ o, DRead K w H a y o ∧ ROp K G o (fD es k) := by
  obtain ⟨h1, h2, h⟩ := r
  rcases h with ⟨kvs, rfl, r⟩ | ⟨xs, rfl, r, ne⟩
  · cases rk with
    | int i => exact ⟨_, .inl (.inl ⟨kvs, .inl i, .inl ha, rfl, rfl⟩), find_int r i⟩
    | @tup b us ks hq hl hr hpl =>
      have en : es = [] := sort_nil hs fun e he z => by
        have key : ∀ {kvs : List (Key × V)} {es : KVs}, Paired (RI K G) kvs es → ∀ e ∈ es, isTup e.1 = false := by
          intro kvs es r
          induction r with
          | nil => exact fun e he => nomatch he
          | cons p t ih =>
            obtain ⟨i, _, q, _⟩ := p
            intro e he
            rcases List.mem_cons.mp he with y | he
            · rw [y, q]
              rfl
            · exact ih e he
        rw [key r e he] at z
        cases z
      subst en
      cases r
      exact ⟨none, .inr (.inr ⟨b, _, .inl ha, rfl, keyT_of (.tup hq hl hr hpl) e hk, rfl⟩), True.intro⟩
    | _ => simp [keyOk, Cgn.numD] at hk
  · have tu : ∀ {xs : List Ent} {es : KVs}, Paired (RT K G) xs es → ∀ e ∈ es, isTup e.1 = true := by
      intro xs es r
      induction r with
      | nil => exact fun e he => nomatch he
      | cons p t ih =>
        obtain ⟨⟨ks, q⟩, _⟩ := p
        intro e he
        rcases List.mem_cons.mp he with y | he
        · rw [y, q]
          rfl
        · exact ih e he
    cases rk with
    | int i => exact absurd (sort_nil hs fun e he z => by rw [tu r e he] at z; cases z) ne
    | @tup b us ks hq hl hr hpl => exact ⟨_, .inr (.inl ⟨xs, b, _, .inl ha, keysT_of r h2 e, rfl, keyT_of (.tup hq hl hr hpl) e hk, rfl⟩), find_tup r h2 hk⟩
    | _ => simp [keyOk, Cgn.numD] at hk
theorem ROp.some_eq {o : Option V} {d : Option PyData} (h : ROp K G o d) : o.isSome = d.isSome := by
  cases o <;> cases d <;> first | rfl | exact h.elim
theorem pD_len (es : KVs) (k v : PyData) : (pD es k v).length ≤ es.length + 1 := by
  unfold pD
  split
  · rw [List.length_map]
    omega
  · rw [List.length_append]
    exact Nat.le_refl _
theorem pD_keys {P : PyData → Prop} {es : KVs} {k v : PyData} (h : ∀ e ∈ es, P e.1) (hk : P k) : ∀ e ∈ pD es k v, P e.1 := by
  intro e he
  unfold pD at he
  split at he
  · obtain ⟨x, hx, rfl⟩ := List.mem_map.mp he
    unfold setD
    split
    · exact h x hx
    · exact h x hx
  · rcases List.mem_append.mp he with q | q
    · exact h e q
    · cases List.mem_singleton.mp q
      exact hk
theorem pD_ne (es : KVs) (k v : PyData) : pD es k v ≠ [] := by
  unfold pD
  split
  · rename_i h
    intro z
    have : es = [] := List.map_eq_nil_iff.mp z
    rw [this] at h
    cases h
  · simp
theorem put_int {kvs : List (Key × V)} (r : Paired (RI K G) kvs es) (i : Int) {v : V} {d : PyData} (rv : Rp K G v d) : Paired (RI K G) (putK kvs (.inl i) v) (pD es (.int i) d) := by
  unfold putK pD
  rw [valV_any, (find_int r i).some_eq]
  by_cases q : (fD es (.int i)).isSome = true
  · rw [if_pos q, if_pos q]
    clear q
    induction r with
    | nil => exact .nil
    | @cons p e kvs es h t ih =>
      rw [List.map_cons, List.map_cons]
      refine .cons ?_ ih
      obtain ⟨j, q1, q2, q3⟩ := h
      unfold setD
      by_cases z : j = i
      · rw [if_pos (show p.1 = .inl i by rw [q1, z]), if_pos (by rw [q2]; simp [PyData.eqv, z])]
        exact ⟨j, q1, q2, rv⟩
      · rw [if_neg (show ¬ p.1 = .inl i by rw [q1]; exact fun y => z (Sum.inl.inj y)), if_neg (by rw [q2]; simp [PyData.eqv, z])]
        exact ⟨j, q1, q2, q3⟩
  · rw [if_neg q, if_neg q]
    have app : ∀ {kvs : List (Key × V)} {es : KVs}, Paired (RI K G) kvs es → Paired (RI K G) (kvs ++ [(.inl i, v)]) (es ++ [(.int i, d)]) := by
      intro kvs es r
      induction r with
      | nil => exact .cons ⟨i, rfl, rfl, rv⟩ .nil
      | cons h t ih => exact .cons h ih
    exact app r
theorem put_tup {xs : List Ent} {k : PyData} {b : Addr} (r : Paired (RT K G) xs es) (hk : ∀ e ∈ es, keyOk e.1 = true) (h : keyOk k = true) (ht : ∃ ks, k = .tuple ks) (rk : Rp K G (.ref b) k) {v : V} {d : PyData} (rv : Rp K G v d) : Paired (RT K G) (putT xs (Cgn.toK k) b v) (pD es k d) := by
  unfold putT pD
  rw [(find_tup r hk h).some_eq]
  by_cases q : (fD es k).isSome = true
  · rw [if_pos q, if_pos q]
    clear q
    induction r with
    | nil => exact .nil
    | @cons x e xs es hx t ih =>
      rw [List.map_cons, List.map_cons]
      refine .cons ?_ (ih fun e he => hk e (List.mem_cons_of_mem _ he))
      have ke := hk e List.mem_cons_self
      unfold setD setT
      by_cases z : PyData.eqv e.1 k = true
      · rw [if_pos (show x.1 = Cgn.toK k by rw [hx.2.2.1]; exact (key_eqv ke h).mp z), if_pos z]
        exact ⟨hx.1, hx.2.1, hx.2.2.1, rv⟩
      · rw [if_neg (show ¬ x.1 = Cgn.toK k from fun y => z ((key_eqv ke h).mpr (by rw [← hx.2.2.1]; exact y))), if_neg z]
        exact hx
  · rw [if_neg q, if_neg q]
    have app : ∀ {xs : List Ent} {es : KVs}, Paired (RT K G) xs es → Paired (RT K G) (xs ++ [(Cgn.toK k, b, v)]) (es ++ [(k, d)]) := by
      intro xs es r
      induction r with
      | nil => exact .cons ⟨ht, rk, rfl, rv⟩ .nil
      | cons h t ih => exact .cons h ih
    exact app r
/-- what is written -/
theorem DicRep.write (r : DicRep K w es G a ob) (ha : H a = some ob) (e : Ex G H) {y v : V} {k d : PyData} (rk : Rp K G y k) (rv : Rp K G v d) (hk : keyOk k = true) (hs : sameSort es k = true) (hl : es.length < sizeLine) :
    ∃ ob', DWrite K w H a y v (upd H a ob') ∧ DicRep K w (pD es k d) G a ob' := by
  obtain ⟨h1, h2, h⟩ := r
  have hl2 : (pD es k d).length ≤ sizeLine := by have := pD_len es k d; omega
  have hk2 : ∀ e ∈ pD es k d, keyOk e.1 = true := pD_keys (P := fun k => keyOk k = true) h2 hk
  rcases h with ⟨kvs, rfl, r⟩ | ⟨xs, rfl, r, ne⟩
  · have lk : kvs.length = es.length := Paired.length r
    cases rk with
    | int i => exact ⟨_, .inl (.inl ⟨kvs, .inl i, ha, rfl, by omega, rfl⟩), hl2, hk2, .inl ⟨_, rfl, put_int r i rv⟩⟩
    | @tup b us ks hq hlk hr hpl =>
      have en : es = [] := sort_nil hs fun e he z => by
        have key : ∀ {kvs : List (Key × V)} {es : KVs}, Paired (RI K G) kvs es → ∀ e ∈ es, isTup e.1 = false := by
          intro kvs es r
          induction r with
          | nil => exact fun e he => nomatch he
          | cons p t ih =>
            obtain ⟨i, _, q, _⟩ := p
            intro e he
            rcases List.mem_cons.mp he with y | he
            · rw [y, q]
              rfl
            · exact ih e he
        rw [key r e he] at z
        cases z
      subst en
      cases r
      refine ⟨_, .inr (.inr ⟨b, _, ha, rfl, keyT_of (.tup hq hlk hr hpl) e hk, rfl⟩), hl2, hk2, .inr ⟨_, rfl, ?_, pD_ne _ _ _⟩⟩
      exact .cons ⟨⟨ks, rfl⟩, (.tup hq hlk hr hpl), rfl, rv⟩ .nil
    | _ => simp [keyOk, Cgn.numD] at hk
  · have lk : xs.length = es.length := Paired.length r
    have tu : ∀ {xs : List Ent} {es : KVs}, Paired (RT K G) xs es → ∀ e ∈ es, isTup e.1 = true := by
      intro xs es r
      induction r with
      | nil => exact fun e he => nomatch he
      | cons p t ih =>
        obtain ⟨⟨ks, q⟩, _⟩ := p
        intro e he
        rcases List.mem_cons.mp he with y | he
        · rw [y, q]
          rfl
        · exact ih e he
    cases rk with
    | int i => exact absurd (sort_nil hs fun e he z => by rw [tu r e he] at z; cases z) ne
    | @tup b us ks hq hlk hr hpl => exact ⟨_, .inr (.inl ⟨xs, b, _, ha, keysT_of r h2 e, rfl, keyT_of (.tup hq hlk hr hpl) e hk, by omega, rfl⟩), hl2, hk2, .inr ⟨_, rfl, put_tup r h2 hk ⟨ks, rfl⟩ (.tup hq hlk hr hpl) rv, pD_ne _ _ _⟩⟩
    | _ => simp [keyOk, Cgn.numD] at hk
end
section
variable {K : PySem.W.Frag} {w : World} {cl : Ek → Addr} {E : L2.St → Option XK} {ρ : List Sl} {σ : L2.St} {G H : Hp}
/-- what is ours is written -/
theorem Sta.writeO (S : Sta K G H ρ σ) {i : Nat} {R R' : Hp → Addr → HO → Prop} {a : Addr} {ob' : HO} (hi : ρ[i]? = some (.obj R)) (ho : σ[i]? = some (some (.ref a))) (hR : ∀ G', Ex G G' → R' G' a ob') (hg : G a = none) :
    Af K ρ σ G H (ρ.set i (.obj R')) σ G (upd H a ob') := by
  have ow : Owns ρ σ a := ⟨i, _, hi, rfl, ho⟩
  have oth : ∀ (j : Nat) (s : Sl) (b : Addr), i ≠ j → ρ[j]? = some s → owning s = true → σ[j]? = some (some (.ref b)) → b ≠ a := fun j s b z h1 h2 h3 y => z (S.dis i j _ s a hi h1 rfl h2 ho (by rw [h3, y]))
  have sl : ∀ (j : Nat) (s : Sl), (ρ.set i (.obj R'))[j]? = some s → owning s = true → ∃ s', ρ[j]? = some s' ∧ owning s' = true := fun j s h1 h2 => by
    by_cases z : i = j
    · subst z
      exact ⟨_, hi, rfl⟩
    · rw [List.getElem?_set_ne z] at h1
      exact ⟨s, h1, h2⟩
  refine ⟨⟨Ex.refl G, fun _ _ _ h => h, fun b u hb h => ?_, fun b h => ?_⟩, ⟨by rw [List.length_set]; exact S.len, fun b u q => ?_, fun j s o h1 h2 => ?_, fun j l sj sl' b h1 h2 h3 h4 h5 h6 => ?_⟩, fun b h => .inl ?_, fun b h => ⟨?_, h.2⟩⟩
  · rw [upd_ne (fun z => hb (by rw [z]; exact ow))]
    exact h
  · by_cases z : b = a
    · rw [z, upd_same]
      exact fun y => nomatch y
    · rw [upd_ne z]
      exact h
  · rw [upd_ne (fun z => by
      rw [z, hg] at q
      cases q)]
    exact S.sub b u q
  · by_cases z : i = j
    · subst z
      cases set_self hi h1
      rw [ho] at h2
      cases h2
      exact ⟨a, ob', rfl, upd_same, hR, hg⟩
    · rw [List.getElem?_set_ne z] at h1
      refine (S.ok j s o h1 h2).grow (Ex.refl G) (fun _ _ _ h _ => h) fun b u q1 q2 h => ?_
      subst q2
      rw [upd_ne (oth j s b z h1 q1 h2)]
      exact h
  · obtain ⟨s1, g1, g2⟩ := sl j sj h1 h3
    obtain ⟨s2, g3, g4⟩ := sl l sl' h2 h4
    exact S.dis j l s1 s2 b g1 g3 g2 g4 h5 h6
  · obtain ⟨j, s, h1, h2, h3⟩ := h
    obtain ⟨s1, g1, g2⟩ := sl j s h1 h2
    exact ⟨j, s1, g1, g2, h3⟩
  · rw [List.getElem?_set_ne (fun z => by
      subst z
      rw [h.1] at hi
      cases hi)]
    exact h.1
end
end Cg
namespace Cg
open PySem PySem.Spec PyProof.Rows L2 Cgu
end Cg
namespace Cg
open PySem PySem.Spec PyProof.Rows L2 Cgu
end Cg
namespace Cg
open PySem PySem.Spec PyProof.Rows L2 Cgu
section
variable {K : PySem.W.Frag} {w : World} {cl : Ek → Addr} {E : L2.St → Option XK} {ρ : List Sl} {σ : L2.St} {G H H' : Hp}
/-- a dict that is not written any more -/
def RelD (K : PySem.W.Frag) (w : World) (G : Hp) (v : V) (es : KVs) : Prop := ∃ a ob, v = .ref a ∧ G a = some ob ∧ DicRep K w es G a ob
theorem RelD.mono {G G' : Hp} {v : V} {es : KVs} (e : Ex G G') (h : RelD K w G v es) : RelD K w G' v es := by
  obtain ⟨a, ob, ev, ha, r⟩ := h
  exact ⟨a, ob, ev, e a _ ha, r.mono e⟩
end
end Cg
namespace Cg
open PySem PySem.Spec PyProof.Rows L2
section
variable {K : PySem.W.Frag} {w : World} {cl : Ek → Addr} {E : L2.St → Option XK} {ρ : List Sl} {σ : L2.St} {G H : Hp}
theorem acc_slot (S : Sta K G H ρ σ) {i : Nat} {a : PyData} (hi : ρ[i]? = some (.acc (unL a))) : ∃ p xs, σ[i]? = some (some (.ref p)) ∧ H p = some (.lst xs) ∧ (unL a).length ≤ sizeLine ∧ RpAll K G xs (unL a) ∧ G p = none := by
  have hs : i < σ.length := by
    rw [← S.len]
    exact get_lt hi
  have ho : σ[i]? = some σ[i] := List.getElem?_eq_getElem hs
  generalize σ[i] = o at ho
  obtain ⟨p, xs, eo, hp, hl, r, hg⟩ := S.ok i _ o hi ho
  exact ⟨p, xs, by rw [ho, eo], hp, hl, r, hg⟩
/-- len(name) -/
theorem ev_lenOwn {i : Nat} {a : PyData} (hi : ρ[i]? = some (.acc (unL a))) : Ev K cl E (tCB (fun xs H Q => ∃ p ys, xs = [.ref p] ∧ (SqL K H p ys ∨ SqT K H p ys) ∧ Q (.int ys.length) H) (tCons (tVar i) tNil)) ρ (.ret (.int (unL a).length)) := fun G H σ S Q q => by
  obtain ⟨p, xs, ho, hp, hl, r, hg⟩ := acc_slot S hi
  refine ⟨.ref p, ho, p, xs, rfl, .inl (SqL.of hp), ?_⟩
  rw [r.len]
  exact Po.now q S (.int _)
/-- name[e] -/
theorem ev_ixOwn {i : Nat} {a : PyData} {ty : TE} {fy : Tr PyData} (hi : ρ[i]? = some (.acc (unL a))) (hy : Ev K cl E ty ρ fy) : Ev K cl E (tOp (rIx K) (tVar i) ty) ρ (fy.bind fun y => dIx (.list (unL a)) y) := fun G H σ S Q q => by
  obtain ⟨p, xs, ho, hp, hl, r, hg⟩ := acc_slot S hi
  refine ⟨.ref p, ho, hy.seq S q fun y x G1 H1 g1 S1 rx q1 => ?_⟩
  obtain ⟨p', xs', ho', hp', hl', r', hg'⟩ := acc_slot S1 hi
  obtain rfl : p = p' := by
    rw [ho] at ho'
    cases ho'
    rfl
  cases rx with
  | int n =>
    have q2 : (match atI (unL a) n with
      | some d => Tr.ret d
      | none => .bad).wp (Po K ρ σ (Rp K) G1 H1 Q) (Xo cl (E σ) (Owns ρ σ) H1) := q1
    cases e : atI (unL a) n with
    | none =>
      rw [e] at q2
      exact q2.elim
    | some d =>
      rw [e] at q2
      obtain ⟨j, hj, hx⟩ := ixN_len r'.len e
      obtain ⟨v, hv, rv⟩ := r'.get hj
      exact .inl ⟨p, xs', n, v, rfl, rfl, SqL.of hp', hx v hv, Po.now q2 S1 rv⟩
  | _ => exact q1.elim
/-- name[lo:hi] -/
theorem ev_slOwn {i : Nat} {a : PyData} {tl th : TO} {fl fh : Tr (Option Int)} (hi : ρ[i]? = some (.acc (unL a))) (h1 : EvG K cl E (fun _ (v : Option Int) d => v = d) tl ρ fl) (h2 : EvG K cl E (fun _ (v : Option Int) d => v = d) th ρ fh) :
    Ev K cl E (tSl (rSlP K) (tVar i) tl th) ρ (fl.bind fun l => fh.bind fun h => dSl (.list (unL a)) l h) := fun G H σ S Q q => by
  obtain ⟨p, xs, ho, hp, hl, r, hg⟩ := acc_slot S hi
  refine ⟨.ref p, ho, h1.seq S q fun l l' G1 H1 g1 S1 el q1 => h2.seq S1 q1 fun h h' G2 H2 g2 S2 eh q2 => ?_⟩
  subst el eh
  obtain ⟨p', xs', ho', hp', hl', r', hg'⟩ := acc_slot S2 hi
  obtain rfl : p = p' := by
    rw [ho] at ho'
    cases ho'
    rfl
  refine .inr ⟨p, xs', rfl, SqL.of hp', fun t ht => ?_⟩
  exact Po.lay q2 S2 ht (.lst (SqL.of upd_same) (Nat.le_trans (cutD_len _ _ _) hl') ((r'.cut _ _).mono (Ex.new (S2.sub.back ht))))
/-- name, as a truth -/
theorem et_own {i : Nat} {a : PyData} (hi : ρ[i]? = some (.acc (unL a))) : EvT K cl E (fun σ H Q => tVar i σ H fun x H' => ∃ k, TruV K x H' k ∧ Q k H') ρ (.ret (!(unL a).isEmpty)) := fun G H σ S Q q => by
  obtain ⟨p, xs, ho, hp, hl, r, hg⟩ := acc_slot S hi
  refine ⟨.ref p, ho, !(unL a).isEmpty, .inl ⟨xs, SqL.of hp, ?_⟩, Po.now q S rfl⟩
  generalize unL a = ds at r
  cases r <;> rfl
end
section
variable {K : PySem.W.Frag} {w : World} {cl : Ek → Addr} {E : L2.St → Option XK} {ρ : List Sl} {S β : Type} {oc : β → Ct S} {ρ' : S → List Sl} {u : TS}
/-- name = list(e), our own -/
theorem st_listOwn (hE : ∀ a b, E a = E b) {i : Nat} {ta : TE} {fa : Tr PyData} {g : PyData → Tr β} (ha : Ev K cl E ta ρ fa) (k : ∀ v, StG K cl E oc ρ' u (ρ.set i (.acc (unL v))) (g v)) (n : nown ρ i = true := by rfl) :
    StG K cl E oc ρ' (tSeq (tAsg (tCB (fun xs H Q => ∃ p ys, xs = [.ref p] ∧ (SqL K H p ys ∨ SqT K H p ys) ∧ ∀ l, H l = none → Q (.ref l) (upd H l (.lst ys))) (tCons ta tNil)) (gName i)) u) ρ (fa.bind fun x => (dList x).bind g) := fun G H σ hS D q =>
  ha.then (g := fun x => (dList x).bind g) hS q fun x v G1 H1 af rx w1 => by
    have main : ∀ {p : Addr} {xs : List V} {ds : List PyData}, (SqL K H1 p xs ∨ SqT K H1 p xs) → ds.length ≤ sizeLine → RpAll K G1 xs ds → (g (.list ds)).wp (fun b => OutP K ρ σ G1 H1 ρ' D (oc b)) (Xo cl (E σ) (Owns ρ σ) H1) → v = .ref p →
        ∃ p ys, [v] = [V.ref p] ∧ (SqL K H1 p ys ∨ SqT K H1 p ys) ∧ ∀ l, H1 l = none → gName i (.ref l) σ (upd H1 l (.lst ys)) (u D) := by
      intro p xs ds hs hl hr hw ev
      refine ⟨p, xs, by rw [ev], hs, fun l hn => ?_⟩
      have a1 := af.st.newL (i := i) n hn
      have hi : (ρ.set i (.acc ([] : List PyData)))[i]? = some (.acc []) ∨ ρ.length ≤ i := by
        by_cases hlt : i < ρ.length
        · exact .inl (List.getElem?_set_self hlt)
        · exact .inr (by omega)
      rcases hi with hi | hi
      · have hlt : i < ρ.length := by
          have := get_lt hi
          rwa [List.length_set] at this
        have ho : (σ.set i (some (V.ref l)))[i]? = some (some (V.ref l)) := List.getElem?_set_self (by rw [← af.st.len]; exact hlt)
        have hg : G1 l = none := af.st.sub.back hn
        have a2 := a1.st.write hi ho upd_same hr hl hg
        rw [upd_upd, List.set_set] at a2
        have a3 : Af K ρ σ G1 H1 (ρ.set i (.acc ds)) (σ.set i (some (.ref l))) G1 (upd H1 l (.lst xs)) := by
          have := a1.trans (a1.st.write hi ho upd_same hr hl hg)
          rw [upd_upd, List.set_set] at this
          exact this
        exact k (.list ds) G1 _ _ a3.st D (upS hE a3 hw)
      · have e1 : ρ.set i (.acc ds) = ρ := List.set_eq_of_length_le hi
        have e2 : σ.set i (some (V.ref l)) = σ := List.set_eq_of_length_le (by rw [← af.st.len]; exact hi)
        have a3 : Af K ρ σ G1 H1 ρ σ (upd G1 l (.lst xs)) (upd H1 l (.lst xs)) := .ev (Gr.lay hn af.st.sub) (af.st.lay hn)
        have := k (.list ds)
        rw [show (Sl.acc (unL (.list ds))) = Sl.acc ds from rfl, e1] at this
        show u D (σ.set i (some (V.ref l))) _
        rw [e2]
        exact this _ _ _ a3.st D (upS hE a3 hw)
    cases rx with
    | @tup p xs ds hs hl hr hpl => exact main (.inr (af.st.sub.t hs)) hl hr w1 rfl
    | @lst p xs ds hs hl hr => exact main (.inl (af.st.sub.l hs)) hl hr w1 rfl
    | _ => exact w1.elim
/-- name = a + b of lists, our own -/
def dCat : PyData → PyData → Tr PyData
  | .list xs, .list ys => if xs.length + ys.length ≤ 1000000 then .ret (.list (xs ++ ys)) else .bad
  | _, _ => .bad
theorem newA {G H : Hp} {σ : L2.St} (S0 : Sta K G H ρ σ) {i : Nat} {l : Addr} {xs : List V} {ds : List PyData} (n : nown ρ i = true) (hi : i < ρ.length) (hn : H l = none) (hr : RpAll K G xs ds) (hl : ds.length ≤ sizeLine) : Af K ρ σ G H (ρ.set i (.acc ds)) (σ.set i (some (.ref l))) G (upd H l (.lst xs)) := by
  have a1 := S0.newL (i := i) n hn
  have h1 : (ρ.set i (.acc ([] : List PyData)))[i]? = some (.acc []) := List.getElem?_set_self hi
  have ho : (σ.set i (some (V.ref l)))[i]? = some (some (V.ref l)) := List.getElem?_set_self (by rw [← S0.len]; exact hi)
  have := a1.trans (a1.st.write h1 ho upd_same hr hl (S0.sub.back hn))
  rw [upd_upd, List.set_set] at this
  exact this
theorem st_catOwn (hE : ∀ a b, E a = E b) {i : Nat} {ta tb : TE} {fa fb : Tr PyData} {g : PyData → Tr β} (ha : Ev K cl E ta ρ fa) (hb : Ev K cl E tb ρ fb) (k : ∀ v, StG K cl E oc ρ' u (ρ.set i (.acc (unL v))) (g v)) (n : nown (ρ.set i .any) i = true := by rfl) (hi : i < ρ.length := by decide) (no : nown ρ i = true := by rfl) :
    StG K cl E oc ρ' (tSeq (tAsg (tOp (rAddA K) ta tb) (gName i)) u) ρ (fa.bind fun x => fb.bind fun y => (dCat x y).bind g) := fun G H σ hS D q =>
  ha.then (g := fun x => fb.bind fun y => (dCat x y).bind g) hS q fun x v G1 H1 af rx w1 => hb.then (g := fun y => (dCat x y).bind g) af.st w1 fun y v2 G2 H2 af2 ry w2 => by
    have rx2 := rx.mono af2.gr.ex
    cases rx2 with
    | @lst p xs ds hs hl hr =>
      cases ry with
      | @lst p2 ys es hs2 hl2 hr2 =>
        have w3 : ((if ds.length + es.length ≤ 1000000 then Tr.ret (PyData.list (ds ++ es)) else .bad).bind g).wp (fun b => OutP K ρ σ G2 H2 ρ' D (oc b)) (Xo cl (E σ) (Owns ρ σ) H2) := w2
        split at w3
        · rename_i hz
          refine .inr (.inr ⟨p, p2, xs, ys, rfl, rfl, af2.st.sub.l hs, af2.st.sub.l hs2, by rw [hr.len, hr2.len, sizeLine_eq]; omega, fun l hn => ?_⟩)
          have a3 := newA af2.st (i := i) no hi hn (hr.append hr2) (by rw [List.length_append, sizeLine_eq]; omega)
          exact k (.list (ds ++ es)) _ _ _ a3.st D (upS hE a3 w3)
        · exact w3.elim
      | _ => exact w2.elim
    | _ => exact w2.elim
/-- name = name[..] + name[..], the same name -/
theorem st_catSelf (hE : ∀ a b, E a = E b) {i : Nat} {a : PyData} {ta tb : TE} {fa fb : Tr PyData} {g : PyData → Tr β} (ho : ρ[i]? = some (.acc (unL a))) (ha : Ev K cl E ta ρ fa) (hb : Ev K cl E tb ρ fb) (k : ∀ v, StG K cl E oc ρ' u (ρ.set i (.acc (unL v))) (g v)) :
    StG K cl E oc ρ' (tSeq (tAsg (tOp (rAddA K) ta tb) (gName i)) u) ρ (fa.bind fun x => fb.bind fun y => (dCat x y).bind g) := fun G H σ hS D q =>
  ha.then (g := fun x => fb.bind fun y => (dCat x y).bind g) hS q fun x v G1 H1 af rx w1 => hb.then (g := fun y => (dCat x y).bind g) af.st w1 fun y v2 G2 H2 af2 ry w2 => by
    have rx2 := rx.mono af2.gr.ex
    cases rx2 with
    | @lst p xs ds hs hl hr =>
      cases ry with
      | @lst p2 ys es hs2 hl2 hr2 =>
        have w3 : ((if ds.length + es.length ≤ 1000000 then Tr.ret (PyData.list (ds ++ es)) else .bad).bind g).wp (fun b => OutP K ρ σ G2 H2 ρ' D (oc b)) (Xo cl (E σ) (Owns ρ σ) H2) := w2
        split at w3
        · rename_i hz
          refine .inr (.inr ⟨p, p2, xs, ys, rfl, rfl, af2.st.sub.l hs, af2.st.sub.l hs2, by rw [hr.len, hr2.len, sizeLine_eq]; omega, fun l hn => ?_⟩)
          -- the old list is let go
          obtain ⟨G3, a0⟩ := freeze af2.st ho
          have hr3 : RpAll K G3 (xs ++ ys) (ds ++ es) := (hr.append hr2).mono a0.gr.ex
          have hlt : i < (ρ.set i (Sl.dat (.list (unL a)))).length := by
            rw [List.length_set]
            exact get_lt ho
          have no : nown (ρ.set i (Sl.dat (.list (unL a)))) i = true := by
            unfold nown
            rw [List.getElem?_set_self (get_lt ho)]
            rfl
          have a3 := newA a0.st (i := i) no hlt hn hr3 (by rw [List.length_append, sizeLine_eq]; omega)
          rw [List.set_set] at a3
          have a4 := a0.trans a3
          exact k (.list (ds ++ es)) _ _ _ a4.st D (upS hE a4 w3)
        · exact w3.elim
      | _ => exact w2.elim
    | _ => exact w2.elim
/-- name[e] = v -/
def dSetL (a y v : PyData) : Tr PyData := match y with
  | .int n => if 0 ≤ n ∧ n < (unL a).length then .ret (.list ((unL a).set n.toNat v)) else if -((unL a).length : Int) ≤ n ∧ n < 0 then .ret (.list ((unL a).set (n + (unL a).length).toNat v)) else .bad
  | _ => .bad
theorem st_setI (hE : ∀ a b, E a = E b) {i : Nat} {a : PyData} {te ti : TE} {fe fi : Tr PyData} {g : PyData → Tr β} (hi : ρ[i]? = some (.acc (unL a))) (he : Ev K cl E te ρ fe) (hx : Ev K cl E ti ρ fi) (k : ∀ v, StG K cl E oc ρ' u (ρ.set i (.acc (unL v))) (g v)) :
    StG K cl E oc ρ' (tSeq (tAsg te (gSub (tVar i) ti rSetL)) u) ρ (fe.bind fun v => fi.bind fun y => (dSetL a y v).bind g) := fun G H σ hS D q =>
  he.then (g := fun v => fi.bind fun y => (dSetL a y v).bind g) hS q fun v xv G1 H1 af rv w1 => by
    obtain ⟨p, xs, ho, hp, hl, r, hg⟩ := acc_slot af.st hi
    refine ⟨.ref p, ho, hx.then (g := fun y => (dSetL a y v).bind g) af.st w1 fun y xy G2 H2 af2 ry w2 => ?_⟩
    obtain ⟨p', xs', ho', hp', hl', r', hg'⟩ := acc_slot af2.st hi
    obtain rfl : p = p' := by
      rw [ho] at ho'
      cases ho'
      rfl
    cases ry with
    | int n =>
      have w3 : ((if 0 ≤ n ∧ n < (unL a).length then Tr.ret (PyData.list ((unL a).set n.toNat v)) else if -((unL a).length : Int) ≤ n ∧ n < 0 then .ret (.list ((unL a).set (n + (unL a).length).toNat v)) else .bad).bind g).wp (fun b => OutP K ρ σ G2 H2 ρ' D (oc b)) (Xo cl (E σ) (Owns ρ σ) H2) := w2
      have main : ∀ j : Nat, ixN xs'.length n = some j → (g (.list ((unL a).set j v))).wp (fun b => OutP K ρ σ G2 H2 ρ' D (oc b)) (Xo cl (E σ) (Owns ρ σ) H2) → rSetL (.ref p) (.int n) xv H2 fun H3 => u D σ H3 := by
        intro j hj hw
        have a3 := af2.st.write hi ho' hp' (RpAll.set (rv.mono af2.gr.ex) j r') (by rw [List.length_set]; exact hl') hg'
        exact ⟨p, xs', n, j, rfl, rfl, hp', hj, k (.list ((unL a).set j v)) G2 _ σ a3.st D (upS hE a3 hw)⟩
      have ll := r'.len
      split at w3
      · rename_i hz
        refine main n.toNat ?_ w3
        unfold ixN
        rw [if_pos hz.1, if_pos (by omega)]
      · split at w3
        · rename_i h0 hz
          refine main (n + (unL a).length).toNat ?_ w3
          unfold ixN
          rw [if_neg (by omega), if_pos (by omega), ll]
        · exact w3.elim
    | _ => exact w2.elim
end
section
variable {K : PySem.W.Frag} {cl : Ek → Addr} {E : L2.St → Option XK} {ρ : List Sl} {σ : L2.St} {G1 H1 : Hp} {D : Ends}
variable {S β : Type} {oc : β → Ct S} {ρ' : S → List Sl} {S1 : Type} {ρs : S1 → List Sl} {r : PyData → β} {tb u : TS} {k : S1 → Tr β} {s0 : S1} {i j : Nat}
theorem room16 {k : Nat} {A : Around} (hr : Room k A) : A.units + 16 < cLine := by
  have := room64 hr
  omega
end
end Cg
namespace Km
open PySem L2 Cg Cgo
end Km
namespace Km
open PySem L2 Cg Cgo PySem.SeqAt PySem.W
/-- the parts of a row's patch, and what they take -/
inductive RowC (A : PyData → Prop) (M : PyData → PyData → Prop) : List PyData → List PyData → Prop
  | nil : RowC A M [] []
  | add {x : PyData} {vs L : List PyData} : A x → RowC A M vs L → RowC A M vs (.tuple [.str "add", x] :: L)
  | keep {n : Nat} {us vs ws L : List PyData} : us.length = n → 1 ≤ n → ws = us ++ vs → RowC A M vs L → RowC A M ws (.tuple [.str "keep", .int (n : Int)] :: L)
  | cut {v : PyData} {vs L : List PyData} : RowC A M vs L → RowC A M (v :: vs) (.tuple [.str "cut", v] :: L)
  | mend {v p : PyData} {vs L : List PyData} : M v p → RowC A M vs L → RowC A M (v :: vs) (.tuple [.str "mend", p] :: L)
section
variable {A : PyData → Prop} {M : PyData → PyData → Prop}
theorem RowC.app {vs L us R : List PyData} (h : RowC A M vs L) (t : RowC A M us R) : RowC A M (vs ++ us) (L ++ R) := by
  induction h with
  | nil => exact t
  | add a _ ih => exact .add a ih
  | keep a b e _ ih => exact .keep a b (by rw [e, List.append_assoc]) ih
  | cut _ ih => exact .cut ih
  | mend m _ ih => exact .mend m ih
theorem RowC.split : ∀ {L R ws : List PyData}, RowC A M ws (L ++ R) → ∃ vs us, ws = vs ++ us ∧ RowC A M vs L ∧ RowC A M us R
  | [], R, ws, h => ⟨[], ws, rfl, .nil, h⟩
  | x :: L, R, ws, h => by
    cases h with
    | add a t =>
      obtain ⟨vs, us, e, h1, h2⟩ := RowC.split t
      exact ⟨vs, us, e, .add a h1, h2⟩
    | keep a b e0 t =>
      obtain ⟨vs, us, e, h1, h2⟩ := RowC.split t
      exact ⟨_ ++ vs, us, by rw [e0, e, List.append_assoc], .keep a b rfl h1, h2⟩
    | cut t =>
      obtain ⟨vs, us, e, h1, h2⟩ := RowC.split t
      exact ⟨_ :: vs, us, by rw [e]; rfl, .cut h1, h2⟩
    | mend m t =>
      obtain ⟨vs, us, e, h1, h2⟩ := RowC.split t
      exact ⟨_ :: vs, us, by rw [e]; rfl, .mend m h1, h2⟩
theorem RowC.more {ws L : List PyData} {c : Int} {v : PyData} (h : RowC A M ws (L ++ [.tuple [.str "keep", .int c]])) : RowC A M (ws ++ [v]) (L ++ [.tuple [.str "keep", .int (c + 1)]]) := by
  obtain ⟨vs, us, rfl, h1, h2⟩ := h.split
  cases h2 with
  | @keep n us' vs' _ _ a b e t =>
    cases t with
    | nil =>
      rw [List.append_nil] at e
      subst e
      rw [List.append_assoc]
      refine h1.app ?_
      have : ((n : Int) + 1) = ((n + 1 : Nat) : Int) := by omega
      rw [this]
      exact .keep (us := us ++ [v]) (vs := []) (by rw [List.length_append, List.length_singleton, a]) (by omega) (by rw [List.append_nil]) .nil
theorem RowC.keeps {ws L : List PyData} (h : RowC A M ws L) : 0 ≤ keeps L ∧ keeps L ≤ (ws.length : Int) := by
  unfold Km.keeps
  induction h with
  | nil => exact ⟨by simp, by simp⟩
  | @add x vs L a _ ih =>
    have e : keepOf (.tuple [.str "add", x]) = 0 := by
      unfold keepOf
      cases x <;> rfl
    rw [List.map_cons, List.sum_cons, e]
    omega
  | @keep n us vs ws L a b e0 _ ih =>
    have e : keepOf (.tuple [.str "keep", .int (n : Int)]) = (n : Int) := rfl
    rw [List.map_cons, List.sum_cons, e, e0, List.length_append]
    omega
  | @cut v vs L _ ih =>
    have e : keepOf (.tuple [.str "cut", v]) = 0 := by
      unfold keepOf
      cases v <;> rfl
    rw [List.map_cons, List.sum_cons, e, List.length_cons]
    omega
  | @mend v p vs L _ _ ih =>
    have e : keepOf (.tuple [.str "mend", p]) = 0 := by
      unfold keepOf
      cases p <;> rfl
    rw [List.map_cons, List.sum_cons, e, List.length_cons]
    omega
theorem RowC.imp {A' : PyData → Prop} {M' : PyData → PyData → Prop} {ws L : List PyData} (h : RowC A M ws L) (ha : ∀ x, A x → A' x) (hm : ∀ v ∈ ws, ∀ p, M v p → M' v p) : RowC A' M' ws L := by
  induction h with
  | nil => exact .nil
  | add a _ ih => exact .add (ha _ a) (ih hm)
  | keep a b e _ ih =>
    subst e
    exact .keep a b rfl (ih fun v hv => hm v (List.mem_append_right _ hv))
  | cut _ ih => exact .cut (ih fun v hv => hm v (List.mem_cons_of_mem _ hv))
  | mend m _ ih => exact .mend (hm _ List.mem_cons_self _ m) (ih fun v hv => hm v (List.mem_cons_of_mem _ hv))
end
def ofSet (cs : List (PyData × Str)) : List PyData := cs.map fun c => .tuple [c.1, .str c.2]
end Km
namespace Km
open PySem L2 Cg Cgo
end Km
namespace Cg
open PySem PySem.Spec PyProof.Rows L2 Cgu
end Cg
namespace Km
open PySem L2 Cg Cgo
theorem rng_at {n j : Nat} {x : PyData} (h : (rng 0 n)[j]? = some x) : j < n ∧ x = .int (j : Int) := by
  have hl := get_lt h
  rw [rng_len] at hl
  rw [rng_map, List.getElem?_map, List.getElem?_range hl] at h
  cases h
  exact ⟨hl, by show PyData.int (0 + (j : Int)) = _; rw [Int.zero_add]⟩
theorem RowC.snoc {A : PyData → Prop} {M : PyData → PyData → Prop} {vs L : List PyData} {x : PyData} (h : RowC A M vs L) (a : A x) : RowC A M vs (L ++ [.tuple [.str "add", x]]) := by
  have := h.app (RowC.add a .nil)
  rwa [List.append_nil] at this
end Km
namespace Cg
open PySem PySem.Spec PyProof.Rows L2
section
variable {P : Program} {w : World} {K : PySem.W.Frag} {mg : Str → Option Value} {base : Heap}
/-- what a def does when it is called from just there -/
def FnAt (A : Around) (P : Program) (w : World) (K : PySem.W.Frag) (mg : Str → Option Value) (base : Heap) (f : Addr) (fd : FuncData) (ps : List Str) (sp : Sp) : Prop :=
  ∀ (outer : List Env) (s : Shared) (H : Hp) (us : List Value) (vs : List V) (Q : VK) (E : XK), Env0 P w K mg base A outer s H → BindsTo s fd ⟨us, []⟩ (ps.zip us) → Vals vs us → sp vs H Q E → codeAny (model P w) A (.call (.ref f) ⟨us, []⟩) (CR CX0 outer P w H s Q E) s
theorem FnAt.imp {A : Around} {f : Addr} {fd : FuncData} {ps : List Str} {sp sp' : Sp} (h : FnAt A P w K mg base f fd ps sp) (i : ∀ vs H Q E, sp' vs H Q E → sp vs H Q E) : FnAt A P w K mg base f fd ps sp' := fun o s H us vs Q E e b r q => h o s H us vs Q E e b r (i _ _ _ _ q)
theorem fn_at {x q : Str} {st : Stmt} {f : Addr} {fd : FuncData} {N ps : List Str} {k : Nat} {sp : Sp} {A : Around} (hr : Room (k + 1) A) (F : Fun K x q st f fd) (Sc : FnScope N ps (defScope st)) (len : ∀ vs H Q E, sp vs H Q E → vs.length = ps.length)
    (body : ∀ (cdv : Value) (outer : List Env) (s : Shared) (H : Hp) (vs : List V) (Q : VK) (E : XK), Room k (A.deeper (envOfC q (defScope st) s.heap.objs.size f cdv)) → sp vs H Q E → ∃ t, PSs (cxOf CX0 P w K mg base N q (defScope st) f cdv A outer s H E).nox (defBody st) t ∧ t { nx := fun _ H' => Q .non H', rt := Q } (start N vs) H) :
    FnAt A P w K mg base f fd ps sp := by
  intro outer s H us vs Q E e0 hb rv h
  obtain ⟨c0, d0, k0, dc, m0, n0, cd, t0, sl, rfl, hl, hc⟩ := F.ex
  have old : ∀ b o, base.get? b = some o → s.heap.get? b = some o := fun b o z => (e0.bs b o z).1
  have kin := e0.mod.kin.keeps old
  refine codeAny_call_function hr.depth (kin _ _ hl) rfl Sc.co Sc.gen rfl (PySem.W.codeRec_of kin hc) (hb _ _ _ _ (wpAny_newFunctionEnv_cells Sc.kind (fun y hy => ?_) fun env he s1 ic => ?_))
  · obtain ⟨y1, y2⟩ := y
    exact (Sc.par y1 (List.of_mem_zip hy).1).imp id fun z => ⟨z, PySem.W.cellsFrom_some _ _ _ (.inl z)⟩
  subst he
  obtain ⟨t, ht, hq⟩ := body cd outer s H vs Q E (hr.deeper _) h
  refine ⟨(e0.mod.nolimit.keeps old).keeps ic.toInCall.keep, codeAny_func (wpAny_mono (ht.nox.run [] s1 (start N vs) H _ (inv_start Sc hr.hd e0 (len _ _ _ _ h) rv ic) hq) (fun fl s' hs => ?_) fun e s' hs => hs)⟩
  match fl, hs with
  | .ret u, ⟨v, _, H', J, r, q⟩ => exact ⟨v, H', J.os, J.bare, J.base, J.hok, r, q⟩
  | .next, ⟨_, H', J, q⟩ => exact ⟨.non, H', J.os, J.bare, J.base, J.hok, rfl, q⟩
  | .brk, ⟨_, _, _, q⟩ => exact q.elim
  | .cont, ⟨_, _, _, q⟩ => exact q.elim
theorem fn_pureAt {cl : Ek → Addr} {x q : Str} {st : Stmt} {f : Addr} {fd : FuncData} {N ps : List Str} {k : Nat} {m : List PyData → Tr PyData} {A : Around} (hr : Room (k + 1) A) (F : Fun K x q st f fd) (Sc : FnScope N ps (defScope st))
    (hb : ∀ (cdv : Value) (outer : List Env) (s : Shared) (H : Hp) (E : XK), Room k (A.deeper (envOfC q (defScope st) s.heap.objs.size f cdv)) →
      ∃ t, PSs (cxOf CX0 P w K mg base N q (defScope st) f cdv A outer s H E).nox (defBody st) t ∧ ∀ ds, ds.length = ps.length → StG (S := Unit) K cl (fun _ => none) Ct.rt (fun _ => []) t (st0 N.length ds) (m ds)) :
    FnAt A P w K mg base f fd ps (SpN K ps.length m) := fn_at hr F Sc (fun vs H Q E h => h.len) fun cdv outer s H vs Q E hr h => by
  obtain ⟨t, ht, hs⟩ := hb cdv outer s H E hr
  obtain ⟨ds, G, r, hl, e, h⟩ := h
  exact ⟨t, ht, hs ds hl G H _ (sta_start r e (by rw [r.len, hl]; exact scope_le Sc)) _ (Tr.wp_mono (fun d hd v G' H' g e' _ rv => hd v G' H' (g.less fun a z => owns_start z) e' rv) (fun _ z => z.elim) h)⟩
end
end Cg
namespace Km
open PySem L2 Cg Cgo
def bkW (s : Str) : Str := if s = "cut" then "add" else if s = "add" then "cut" else s
def tu0 (p : PyData) (o : List PyData → PyData) : PyData := match p with
  | .tuple (w :: r) => if isW w "same" then p else if isW w "only" then p else if isW w "turn" then (match r with
      | [v, u] => .tuple [w, u, v]
      | _ => p)
    else o r
  | _ => p
def tuP (T : PyData → PyData) (x : PyData) : PyData := match x with
  | .tuple [.str s, a] => if s = "mend" then .tuple [.str "mend", T a] else .tuple [.str (bkW s), a]
  | _ => x
def tuS (x : PyData) : PyData := match x with
  | .tuple [u, .str s] => .tuple [u, .str (bkW s)]
  | _ => x
def tuB (x : PyData) : PyData := match x with
  | .tuple [u, .int l, .int d] => .tuple [u, .int (l + d), .int (-d)]
  | _ => x
def tuE (T : PyData → PyData) (x : PyData) : PyData := match x with
  | .tuple [u, .tuple [.str s, a]] => if s = "mend" then .tuple [u, .tuple [.str "mend", T a]] else .tuple [u, .tuple [.str (bkW s), a]]
  | _ => x
def oneT (w : Str) (f : List PyData → List PyData) (r : List PyData) : PyData := match r with
  | [.tuple qs] => .tuple [.str w, .tuple (f qs)]
  | _ => .none
def chT (f : Nat → PyData → PyData) (r : List PyData) : PyData := match r with
  | [.int i, q] => .tuple [.str "choice", .int i, f i.toNat q]
  | _ => .none
mutual
def tu : Kd → PyData → PyData
  | .num _, p => tu0 p fun _ => .none
  | .rcd ks, p => tu0 p (oneT "record" fun qs => tus ks qs)
  | .cho ks, p => tu0 p (chT fun i q => tun ks i q)
  | .row k, p => tu0 p (oneT "row" fun qs => qs.map (tuP (tu k)))
  | .set _, p => tu0 p (oneT "set" fun qs => qs.map tuS)
  | .bag _, p => tu0 p (oneT "bag" fun qs => qs.map tuB)
  | .tab _ e, p => tu0 p (oneT "table" fun qs => qs.map (tuE (tu e)))
def tus : List Kd → List PyData → List PyData
  | k :: ks, q :: qs => tu k q :: tus ks qs
  | _, _ => []
def tun : List Kd → Nat → PyData → PyData
  | [], _, q => q
  | k :: _, 0, q => tu k q
  | _ :: ks, n + 1, q => tun ks n q
end
end Km
namespace Km
open PySem L2 Cg Cgo
end Km
namespace Km
open PySem L2 Cg Cgo
mutual
/-- how many things stand in it, itself counted -/
def cntA : PyData → Nat
  | .tuple xs => 1 + cntAs xs
  | _ => 1
def cntAs : List PyData → Nat
  | [] => 0
  | x :: xs => cntA x + cntAs xs
end
end Km
namespace Km
open PySem L2 Cg Cgo
end Km
namespace Cg
open PySem PySem.Spec PyProof.Rows L2 Cgu
section
variable {K : PySem.W.Frag} {w : World} {cl : Ek → Addr} {E : L2.St → Option XK} {ρ : List Sl} {S β : Type} {oc : β → Ct S} {ρ' : S → List Sl} {u : TS}
/-- x, y = e, [] -/
theorem st_parDL (hE : ∀ a b, E a = E b) {i j : Nat} {ta : TE} {fa : Tr PyData} {g : PyData → PyData → Tr β} (ha : Ev K cl E ta ρ fa) (k : ∀ a v, StG K cl E oc ρ' u ((ρ.set i (.dat a)).set j (.acc (unL v))) (g a v)) (hi : nown ρ i = true := by rfl) (hj : ∀ a, nown (ρ.set i (.dat a)) j = true := by intro; rfl) :
    StG K cl E oc ρ' (tSeq (tPar i j (tCons ta (tCons (tLst tNil) tNil))) u) ρ (fa.bind fun a => (Tr.ret (PyData.list [])).bind fun v => g a v) := fun G H σ hS D q =>
  ha.then (g := fun a => (Tr.ret (PyData.list [])).bind fun v => g a v) hS q fun a v G1 H1 af rv w => by
    refine ⟨Nat.zero_le _, fun p hp => ⟨v, .ref p, rfl, ?_⟩⟩
    have kp := kp_put (σ := σ) (v := v) (d := a) hi
    have S1 := af.st.put (i := i) rv
    have a1 : Af K ρ σ G1 H1 (ρ.set i (.dat a)) (σ.set i (some v)) G1 H1 := ⟨Gr.refl, S1, fun x z => .inl (kp.bwd x z), fun b z => by
      obtain ⟨q1, q2⟩ := kp.fwd 0 .box z.1 rfl
      exact ⟨q1, q2.trans z.2⟩⟩
    have a2 := a1.trans (S1.newL (i := j) (hj a) hp)
    exact k a (.list []) G1 _ _ a2.st D (upS hE a2 w)
end
end Cg
namespace Cg
open PySem PySem.Spec PyProof.Rows L2 Cgu
end Cg
namespace Cg
open PySem PySem.Spec PyProof.Rows L2 RZ
/-- the pairs that enumerate lays -/
def natsD (n : Nat) : List PyData := (List.range n).map fun i => PyData.int (i : Nat)
section
variable {K : PySem.W.Frag} {cl : Ek → Addr} {E : L2.St → Option XK} {ρ : List Sl} {σ : L2.St} {G H : Hp}
theorem natsD_len (n : Nat) : (natsD n).length = n := by
  unfold natsD
  rw [List.length_map, List.length_range]
end
end Cg
namespace Cgu
open PySem PySem.Spec PyProof.Rows L2
end Cgu
namespace Cg
open PySem PySem.Spec PyProof.Rows L2 Cgu
end Cg
namespace Cgu
open PySem PySem.Spec PyProof.Rows L2
end Cgu
namespace Cg
open PySem PySem.Spec PyProof.Rows L2 Cgu
section
variable {K : PySem.W.Frag} {w : World} {cl : Ek → Addr} {E : L2.St → Option XK} {ρ : List Sl} {σ : L2.St} {G H : Hp} {a : Addr} {ob : HO} {es : KVs}
theorem ROp.some_of {o : Option V} {d : Option PyData} (h : ROp K G o d) (hd : d.isSome = true) : o.isSome = true := by rw [h.some_eq, hd]
end
end Cg
namespace Cg
open PySem PySem.Spec PyProof.Rows PySem.W L2 Cgu Cgo
end Cg
namespace Cg
open PySem PySem.Spec PyProof.Rows L2
end Cg
namespace Cg
open PySem PySem.Spec PyProof.Rows L2 RZ
/-- the tuples at a, b and c as they stand at each turn, the items in new triples -/
def ItzT3 (K : PySem.W.Frag) (a b c : Addr) : It :=
  ⟨fun i H => ∃ (xs ys zs : List V) (x y z : V), SqT K H a xs ∧ SqT K H b ys ∧ SqT K H c zs ∧ xs[i]? = some x ∧ ys[i]? = some y ∧ zs[i]? = some z,
    fun i H v H' => ∃ T x y z, v = .ref T ∧ H T = none ∧ H' = upd H T (.tup [x, y, z]) ∧ (∀ xs, SqT K H a xs → xs[i]? = some x) ∧ (∀ ys, SqT K H b ys → ys[i]? = some y) ∧ ∀ zs, SqT K H c zs → zs[i]? = some z,
    fun i H => ∃ xs ys zs : List V, SqT K H a xs ∧ SqT K H b ys ∧ SqT K H c zs ∧ i = min (min xs.length ys.length) zs.length⟩
theorem zip3_live {h : Heap} {a b c z TI TO i1 i2 i3 : Addr} {i : Nat} (st : IsZip h z TI TO .none ∧ IsTupOf3 h TI (.ref i1) (.ref i2) (.ref i3) ∧ (∃ x y u, IsTupOf3 h TO x y u) ∧ h.IsTupleIter i1 a i ∧ h.IsTupleIter i2 b i ∧ h.IsTupleIter i3 c i) : ∀ d ∈ [z, TI, TO, i1, i2, i3], ∃ o, h.get? d = some o ∧ ∀ v, o.data ≠ .cell v := fun d hd => by
  obtain ⟨hz, hTI, ⟨x, y, u, hTO⟩, ⟨o1, e1, _, d1⟩, ⟨o2, e2, _, d2⟩, ⟨o3, e3, _, d3⟩⟩ := st
  simp only [List.mem_cons, List.not_mem_nil, or_false] at hd
  rcases hd with rfl | rfl | rfl | rfl | rfl | rfl
  · exact ⟨_, hz, fun v q => nomatch q⟩
  · exact ⟨_, hTI, fun v q => nomatch q⟩
  · exact ⟨_, hTO, fun v q => nomatch q⟩
  · exact ⟨o1, e1, fun v q => by rw [d1] at q; cases q⟩
  · exact ⟨o2, e2, fun v q => by rw [d2] at q; cases q⟩
  · exact ⟨o3, e3, fun v q => by rw [d3] at q; cases q⟩
theorem ch_sub {z TI TO i1 i2 i3 d : Addr} (h : d ∈ [z, TO, i1, i2, i3]) : d ∈ [z, TI, TO, i1, i2, i3] := by
  simp only [List.mem_cons, List.not_mem_nil, or_false] at h ⊢
  rcases h with h | h | h | h | h
  · exact .inl h
  · exact .inr (.inr (.inl h))
  · exact .inr (.inr (.inr (.inl h)))
  · exact .inr (.inr (.inr (.inr (.inl h))))
  · exact .inr (.inr (.inr (.inr (.inr h))))
theorem turn_zip3 {P : Program} {w : World} {K : PySem.W.Frag} {elts : List Expr} {kk : Nat} {tpos : Pos} {a b c z TI TO i1 i2 i3 : Addr} (S : ZipSep3 z TI TO i1 i2 i3 [i1, a] [i2, b] [i3, c]) (na : a ≠ i1) (nb : b ≠ i2) (nc : c ≠ i3) :
    Turn P w K (.Tuple elts kk tpos) (ItzT3 K a b c) [z, TI, TO, i1, i2, i3] z (fun i h => IsZip h z TI TO .none ∧ IsTupOf3 h TI (.ref i1) (.ref i2) (.ref i3) ∧ (∃ x y u, IsTupOf3 h TO x y u) ∧ h.IsTupleIter i1 a i ∧ h.IsTupleIter i2 b i ∧ h.IsTupleIter i3 c i) where
  mem := List.mem_cons_self
  obj := fun i h st d hd => let ⟨o, e, n⟩ := zip3_live st d hd; ⟨o, e, n⟩
  keep := fun i h h' st k => by
    obtain ⟨hz, hTI, ⟨x, y, u, hTO⟩, h1, h2, h3⟩ := st
    exact ⟨k z (by simp) _ hz, k TI (by simp) _ hTI, ⟨x, y, u, k TO (by simp) _ hTO⟩, h1.at fun o q => k i1 (by simp) o q, h2.at fun o q => k i2 (by simp) o q, h3.at fun o q => k i3 (by simp) o q⟩
  item := by
    intro X hP hw hK hc i pins s σ H E I hf st hg
    subst hP hw hK
    have st0 := st
    obtain ⟨hz, hTI, hTO, h1, h2, h3⟩ := st
    obtain ⟨xs, ys, zs, x, y, u, qx, qy, qz, gx, gy, gz⟩ := hg
    obtain ⟨is1, r1, p1, _⟩ := I.tuple qx
    obtain ⟨is2, r2, p2, _⟩ := I.tuple qy
    obtain ⟨is3, r3, p3, _⟩ := I.tuple qz
    obtain ⟨v1, g1, w1⟩ := r1.get gx
    obtain ⟨v2, g2, w2⟩ := r2.get gy
    obtain ⟨v3, g3, w3⟩ := r3.get gz
    have hh : X.A.in1.handled = none := I.ok.hd hc
    have W := WalksT.zipD3 (A := X.A) S (Draws.tuple (prog := X.prog) (w := X.w) (A := X.A.in1) hh i1 a na is1.toArray) (Draws.tuple hh i2 b nb is2.toArray) (Draws.tuple hh i3 c nc is3.toArray)
    have n1 : i < is1.length := (List.getElem?_eq_some_iff.mp g1).1
    have n2 : i < is2.length := (List.getElem?_eq_some_iff.mp g2).1
    have n3 : i < is3.length := (List.getElem?_eq_some_iff.mp g3).1
    refine W.item i s _ _ (by simp only [List.size_toArray]; omega) ⟨hz, hTI, hTO, ⟨h1, p1⟩, ⟨h2, p2⟩, ⟨h3, p3⟩⟩ fun T vals h' tk hv hle hT mid hk => ?_
    obtain ⟨y1, y2, y3, e1, e2, e3, rfl⟩ := hv
    have q1 : y1 = v1 := by
      rw [List.getElem?_toArray, g1] at e1
      exact (Option.some.inj e1).symm
    have q2 : y2 = v2 := by
      rw [List.getElem?_toArray, g2] at e2
      exact (Option.some.inj e2).symm
    have q3 : y3 = v3 := by
      rw [List.getElem?_toArray, g3] at e3
      exact (Option.some.inj e3).symm
    subst q1 q2 q3
    have nT := W.apart i T h' mid
    refine ⟨_, rfl, W.go elts kk tpos i T { s with heap := h', toks := tk } _ _ mid fun h'' st2 hk2 => ?_⟩
    obtain ⟨oT, hoT, cT, nTs, dT⟩ := hT
    have hT2 : h''.get? T = some oT := hk2 T oT nT hoT
    have new : ObjOk X.prog X.w (upd H T (.tup [x, y, u])) h'' T (.tup [x, y, u]) := ⟨by show 3 ≤ sizeLine; decide, [y1, y2, y3], .cons w1 (.cons w2 (.cons w3 .nil)), ⟨oT, hT2, cT, nTs, dT⟩⟩
    have I1 : Inv X pins σ (upd H T (.tup [x, y, u])) { s with heap := h'', toks := tk } :=
      I.turnedNew (t' := tk) (ch := [z, TI, TO, i1, i2, i3]) (fun d ob hd q => hk2 d ob (fun m => hd (ch_sub m)) (hk d ob (fun m => hd (ch_sub m)) q)) hf hle new
    refine ⟨.ref T, _, I1, rfl, ⟨T, x, y, u, rfl, I.hok.fresh hle, rfl, fun l hl => by rw [I.tuple_inj hl qx]; exact gx, fun l hl => by rw [I.tuple_inj hl qy]; exact gy, fun l hl => by rw [I.tuple_inj hl qz]; exact gz⟩, ⟨st2.1, st2.2.1, st2.2.2.1, st2.2.2.2.1.1, st2.2.2.2.2.1.1, st2.2.2.2.2.2.1⟩, fun d hd => ?_⟩
    obtain ⟨oz, ez, _⟩ := zip3_live st0 d hd
    have lt : d < s.heap.objs.size := Heap.lt_size ez
    rw [upd_ne (Nat.ne_of_lt (Nat.lt_of_lt_of_le lt hle))]
    exact (hf d hd).1
  done := by
    intro X hP hw hK hc i pins s σ H E I hf st hg
    subst hP hw hK
    obtain ⟨hz, hTI, hTO, h1, h2, h3⟩ := st
    obtain ⟨xs, ys, zs, qx, qy, qz, hend⟩ := hg
    obtain ⟨is1, r1, p1, _⟩ := I.tuple qx
    obtain ⟨is2, r2, p2, _⟩ := I.tuple qy
    obtain ⟨is3, r3, p3, _⟩ := I.tuple qz
    have hh : X.A.in1.handled = none := I.ok.hd hc
    have W := WalksT.zipD3 (A := X.A) S (Draws.tuple (prog := X.prog) (w := X.w) (A := X.A.in1) hh i1 a na is1.toArray) (Draws.tuple hh i2 b nb is2.toArray) (Draws.tuple hh i3 c nc is3.toArray)
    have hn : i = min (min is1.toArray.size is2.toArray.size) is3.toArray.size := by
      simp only [List.size_toArray]
      rw [hend, r1.length, r2.length, r3.length]
    refine W.done s _ _ (by rw [← hn]; exact ⟨hz, hTI, hTO, ⟨h1, p1⟩, ⟨h2, p2⟩, ⟨h3, p3⟩⟩) fun h' tk hk => ⟨rfl, I.turnedL (t' := tk) (ch := [z, TI, TO, i1, i2, i3]) (fun d o hd q => hk d o (fun m => hd (ch_sub m)) q) hf⟩
  self := fun A i s Q E st h => wpAny_pyIter_zip st.1 h
def iZip3 (K : PySem.W.Frag) (ta : TA) : TI := fun σ H R => ta σ H fun vs H1 => ∃ a b c xs ys zs, vs = [.ref a, .ref b, .ref c] ∧ SqT K H1 a xs ∧ SqT K H1 b ys ∧ SqT K H1 c zs ∧ R (ItzT3 K a b c) H1
theorem pi_zip3 {X : Cx} {e e2 e3 : Expr} {ta : TA} {p pos tpos : Pos} {elts : List Expr} {kk : Nat} (hg : Gl X "zip") (hm : X.mg "zip" = none) (ha : PA X [e, e2, e3] ta)
    (hs : starEach [e, e2, e3] X.env = (false, eval e X.env) :: starEach [e2, e3] X.env := by rfl) (hpl : (backTo pos (starEach [e2, e3] X.env)).any (·.1) = false := by rfl) :
    PI X (.Tuple elts kk tpos) (.Call (.Name "zip" p) [e, e2, e3] [] pos) (iZip3 X.K ta) := by
  refine ⟨fun pins s σ H R I h => Call_ (ld_blt I hg hm PyProof.Rows.boot_zip (PyProof.Rows.callWith_type1 (thn (ha.run pos pins s σ H _ I h) fun us s1 q0 => ?_) hs hpl))⟩
  obtain ⟨vs, H1, I1, r1, a, b, c, xs, ys, zs, rfl, qx, qy, qz, q⟩ := q0
  cases r1 with
  | cons r r1 =>
    cases r1 with
    | cons r' r1 =>
      cases r1 with
      | cons r'' r1 =>
      cases r1
      cases r
      cases r'
      cases r''
      obtain ⟨is1, v1, p1, _⟩ := I1.tuple qx
      obtain ⟨is2, v2, p2, _⟩ := I1.tuple qy
      obtain ⟨is3, v3, p3, _⟩ := I1.tuple qz
      have l1 : a < s1.heap.objs.size := by obtain ⟨o, ho, _⟩ := id p1; exact Heap.lt_size ho
      have l2 : b < s1.heap.objs.size := by obtain ⟨o, ho, _⟩ := id p2; exact Heap.lt_size ho
      have l3 : c < s1.heap.objs.size := by obtain ⟨o, ho, _⟩ := id p3; exact Heap.lt_size ho
      refine zip_begins3 (begins_tuple a is1.toArray) (begins_tuple b is2.toArray) (begins_tuple c is3.toArray) p1 p2 p3 fun h' hz hTI hTO g1 g2 g3 hsz hk => wpAny_pyIter_zip hz ?_
      have I2 : Inv X pins σ H1 { s1 with heap := h' } := I1.kept (t' := s1.toks) hk
      have S := zip_sep3 (N := s1.heap.objs.size) (fp1 := [a]) (fp2 := [b]) (fp3 := [c]) (fun d hd => by rw [List.mem_singleton.mp hd]; exact l1) (fun d hd => by rw [List.mem_singleton.mp hd]; exact l2) (fun d hd => by rw [List.mem_singleton.mp hd]; exact l3)
      refine ⟨s1.heap.objs.size + 5, [s1.heap.objs.size + 5, s1.heap.objs.size + 3, s1.heap.objs.size + 4, s1.heap.objs.size, s1.heap.objs.size + 1, s1.heap.objs.size + 2], _, _, H1, rfl, I2, turn_zip3 S (Nat.ne_of_lt l1) (Nat.ne_of_lt (Nat.lt_succ_of_lt l2)) (Nat.ne_of_lt (Nat.lt_succ_of_lt (Nat.lt_succ_of_lt l3))), ⟨hz, hTI, ⟨_, _, _, hTO⟩, ⟨_, g1, rfl, rfl⟩, ⟨_, g2, rfl, rfl⟩, ⟨_, g3, rfl, rfl⟩⟩, fun d hd => ?_, q⟩
      have hle : s1.heap.objs.size ≤ d := by
        simp only [List.mem_cons, List.not_mem_nil, or_false] at hd
        rcases hd with rfl | rfl | rfl | rfl | rfl | rfl
        · exact Nat.le_add_right _ _
        · exact Nat.le_add_right _ _
        · exact Nat.le_add_right _ _
        · exact Nat.le_refl _
        · exact Nat.le_add_right _ _
        · exact Nat.le_add_right _ _
      exact I1.fpOk hle (I1.hok.fresh hle)
/-- the triples that zip lays -/
def dTrips : List PyData → List PyData → List PyData → List PyData
  | x :: xs, y :: ys, z :: zs => .tuple [x, y, z] :: dTrips xs ys zs
  | _, _, _ => []
def dZip3 : PyData → PyData → PyData → Tr (List PyData)
  | .tuple xs, .tuple ys, .tuple zs => .ret (dTrips xs ys zs)
  | _, _, _ => .bad
theorem trips_len : ∀ xs ys zs : List PyData, (dTrips xs ys zs).length = min (min xs.length ys.length) zs.length
  | [], _, _ => by simp [dTrips]
  | _ :: _, [], _ => by simp [dTrips]
  | _ :: _, _ :: _, [] => by simp [dTrips]
  | _ :: xs, _ :: ys, _ :: zs => by
    rw [dTrips, List.length_cons, trips_len xs ys zs, List.length_cons, List.length_cons, List.length_cons]
    omega
theorem trips_get : ∀ {xs ys zs : List PyData} {i : Nat} {a b c : PyData}, xs[i]? = some a → ys[i]? = some b → zs[i]? = some c → (dTrips xs ys zs)[i]? = some (.tuple [a, b, c])
  | [], _, _, _, _, _, _, h, _, _ => by simp at h
  | _ :: _, [], _, _, _, _, _, _, h, _ => by simp at h
  | _ :: _, _ :: _, [], _, _, _, _, _, _, h => by simp at h
  | _ :: xs, _ :: ys, _ :: zs, 0, _, _, _, h1, h2, h3 => by
    cases h1
    cases h2
    cases h3
    rfl
  | _ :: xs, _ :: ys, _ :: zs, i + 1, _, _, _, h1, h2, h3 => trips_get (xs := xs) (ys := ys) (zs := zs) (i := i) h1 h2 h3
def YTrip (xs ys zs : List V) : Nat → Hp → V → Hp → Prop := fun i H v H' => ∃ T x y z, v = .ref T ∧ H T = none ∧ H' = upd H T (.tup [x, y, z]) ∧ xs[i]? = some x ∧ ys[i]? = some y ∧ zs[i]? = some z
section
variable {K : PySem.W.Frag} {cl : Ek → Addr} {E : L2.St → Option XK} {ρ : List Sl} {σ : L2.St} {G H G1 H1 : Hp}
theorem walk_zip3 {a b c : Addr} {xs ys zs : List V} {n : Nat} (hn : n = min (min xs.length ys.length) zs.length) : Walk (ItzT3 K a b c) n (fun H => SqT K H a xs ∧ SqT K H b ys ∧ SqT K H c zs) (YTrip xs ys zs) := by
  refine ⟨fun i H hi q => ?_, fun H q => ⟨xs, ys, zs, q.1, q.2.1, q.2.2, hn⟩, fun i H x H' hi q y => ?_⟩
  · have l1 : i < xs.length := by omega
    have l2 : i < ys.length := by omega
    have l3 : i < zs.length := by omega
    exact ⟨xs, ys, zs, _, _, _, q.1, q.2.1, q.2.2, List.getElem?_eq_getElem l1, List.getElem?_eq_getElem l2, List.getElem?_eq_getElem l3⟩
  · obtain ⟨T, u, v, w, e1, hT, e2, f1, f2, f3⟩ := y
    exact ⟨T, u, v, w, e1, hT, e2, f1 xs q.1, f2 ys q.2.1, f3 zs q.2.2⟩
theorem ev_lcZ3 (hE : ∀ a b, E a = E b) {ta tb tc te : TE} {fa fb fc : Tr PyData} {i j l : Nat} {f : PyData → PyData → PyData → Tr PyData} (ha : Ev K cl E ta ρ fa) (hb2 : Ev K cl E tb ρ fb) (hc : Ev K cl E tc ρ fc) (hv : ([i, j, l].all fun i => match ρ[i]? with | some .any => true | _ => false) = true)
    (he : ∀ a b c, Ev K cl E te (((ρ.set i (.dat a)).set j (.dat b)).set l (.dat c)) (f a b c)) (hi : nown ρ i = true := by rfl) (hj : nown ρ j = true := by rfl) (hk : nown ρ l = true := by rfl) (ne : i ≠ j := by decide) (ne2 : i ≠ l := by decide) (ne3 : j ≠ l := by decide) :
    Ev K cl E (tLc (iZip3 K (tCons ta (tCons tb (tCons tc tNil)))) (gTup K 3 (gCons (gName i) (gCons (gName j) (gCons (gName l) gNil)))) tYes te [i, j, l]) ρ (fa.bind fun a => fb.bind fun b => fc.bind fun c => (dZip3 a b c).bind fun xs => (mapT (un3 f) xs).bind fun ys => .ret (.list ys)) := by
  have hv3 := any_of hv
  have tg := tg_tup3W (K := K) (ρ := ρ) hi hj hk ne ne2 ne3 (vs := [i, j, l]) (by simp) (by simp) (by simp)
  have main : Ev K cl E (tLc (iZip3 K (tCons ta (tCons tb (tCons tc tNil)))) (gTup K 3 (gCons (gName i) (gCons (gName j) (gCons (gName l) gNil)))) tYes te [i, j, l]) ρ (fa.bind fun a => fb.bind fun b => fc.bind fun c => (dZip3 a b c).bind fun xs => (lcT (un3 fun _ _ _ => .ret true) (un3 f) [] xs).bind fun ys => .ret (.list ys)) :=
    fun G H σ S Q h => ha.seq S h fun a x G1 H1 g1 S1 rx h1 => hb2.seq S1 h1 fun b y G2 H2 g2 S2 ry h2 => hc.seq S2 h2 fun c z G3 H3 g3 S3 rz h3 => by
      have rx' := rx.mono (g2.ex.trans g3.ex)
      have ry' := ry.mono g3.ex
      cases rx' with
      | @tup p xs ds hs hz ra hpl =>
        cases ry' with
        | @tup q ys es hs' hz' rb hpl' =>
          cases rz with
          | @tup t zs fs hs2 hz2 rc hpl2 =>
            refine ⟨p, q, t, xs, ys, zs, rfl, S3.sub.t hs, S3.sub.t hs', S3.sub.t hs2, fun Dl hD => ?_⟩
            have w := walk_zip3 (K := K) (a := p) (b := q) (c := t) (xs := xs) (ys := ys) (zs := zs) rfl
            have ln : min (min xs.length ys.length) zs.length = min (min ds.length es.length) fs.length := by rw [ra.len, rb.len, rc.len]
            have lz : min (min xs.length ys.length) zs.length ≤ sizeLine := by rw [ln]; omega
            refine lc_it w (Qd := fun H => Q (.ref Dl) H) (fun i' H' => ∃ G' acc, Lc K ρ σ G3 H3 Dl acc i' G' H' ∧ ((lcT (un3 fun _ _ _ => .ret true) (un3 f) acc ((dTrips ds es fs).drop i')).bind fun ys => Tr.ret (PyData.list ys)).wp (Po K ρ σ (Rp K) G3 H3 Q) (Xo cl (E σ) (Owns ρ σ) H3))
              ⟨G3, [], lc_start S3 hD, h3⟩ (fun i' H' _ z0 => ?_) (fun i' x H2 H' hi' z0 y => ?_) fun H' z0 => ?_
            · obtain ⟨G', acc, L, _⟩ := z0
              have e := L.gr.ex.trans L.st.sub
              exact ⟨e.t hs, e.t hs', e.t hs2⟩
            · obtain ⟨G', acc, L, q⟩ := z0
              obtain ⟨T, u, v, w', rfl, hT, rfl, hx, hy, hw⟩ := y
              obtain ⟨d, hd, r1⟩ := ra.getV hx
              obtain ⟨e, he', r2⟩ := rb.getV hy
              obtain ⟨f', hf', r3⟩ := rc.getV hw
              rw [drop_cons (trips_get hd he' hf')] at q
              have L2 := L.lay (o := .tup [u, v, w']) hT
              refine lc_turn hE hv3 tg (fun d q => ?_) (fun d q => ?_) (fun d q => ?_) S3 L2 (Nat.lt_of_lt_of_le hi' lz) (.inr ⟨T, _, _, rfl, rfl, SqT.of upd_same, .cons (r1.mono L2.gr.ex) (.cons (r2.mono L2.gr.ex) (.cons (r3.mono L2.gr.ex) .nil))⟩) (fun acc' G'' H'' L' q' => ⟨G'', acc', L', q'⟩) q
              · unfold un3
                cases e : trip? d with
                | none => rfl
                | some p => rw [e] at q; cases q
              · unfold un3
                cases e : trip? d with
                | none => rw [e] at q; cases q
                | some p => exact et_yes
              · unfold un3
                cases e : trip? d with
                | none => rw [e] at q; cases q
                | some p => exact he p.1 p.2.1 p.2.2
            · obtain ⟨G', acc, L, q⟩ := z0
              have e : (dTrips ds es fs).drop (min (min xs.length ys.length) zs.length) = [] := List.drop_eq_nil_of_le (by rw [trips_len, ln]; exact Nat.le_refl _)
              rw [e] at q
              obtain ⟨G2', g2', S2', r2⟩ := L.done S3 lz
              exact q _ G2' _ g2' S2' r2
          | _ => exact h3.elim
        | _ => cases rz <;> exact h3.elim
      | _ => cases ry' <;> cases rz <;> exact h3.elim
  refine main.eq ?_
  congr; funext a; congr; funext b; congr; funext c; congr; funext xs
  refine lc_map (fun d => ?_) xs
  unfold un3
  cases e : trip? d with
  | none => exact .inr ⟨rfl, rfl⟩
  | some p => exact .inl rfl
end
end Cg
namespace Cg
open PySem PySem.Spec PyProof.Rows L2 RZ
/-- the tuples at a, b and c as they stand at each turn, the items in new triples -/
def ItzL3 (K : PySem.W.Frag) (a b c : Addr) : It :=
  ⟨fun i H => ∃ (xs ys zs : List V) (x y z : V), SqT K H a xs ∧ SqT K H b ys ∧ SqL K H c zs ∧ xs[i]? = some x ∧ ys[i]? = some y ∧ zs[i]? = some z,
    fun i H v H' => ∃ T x y z, v = .ref T ∧ H T = none ∧ H' = upd H T (.tup [x, y, z]) ∧ (∀ xs, SqT K H a xs → xs[i]? = some x) ∧ (∀ ys, SqT K H b ys → ys[i]? = some y) ∧ ∀ zs, SqL K H c zs → zs[i]? = some z,
    fun i H => ∃ xs ys zs : List V, SqT K H a xs ∧ SqT K H b ys ∧ SqL K H c zs ∧ i = min (min xs.length ys.length) zs.length⟩
theorem zip3l_live {h : Heap} {a b c z TI TO i1 i2 i3 : Addr} {i : Nat} (st : IsZip h z TI TO .none ∧ IsTupOf3 h TI (.ref i1) (.ref i2) (.ref i3) ∧ (∃ x y u, IsTupOf3 h TO x y u) ∧ h.IsTupleIter i1 a i ∧ h.IsTupleIter i2 b i ∧ h.IsListIter i3 c i) : ∀ d ∈ [z, TI, TO, i1, i2, i3], ∃ o, h.get? d = some o ∧ ∀ v, o.data ≠ .cell v := fun d hd => by
  obtain ⟨hz, hTI, ⟨x, y, u, hTO⟩, ⟨o1, e1, _, d1⟩, ⟨o2, e2, _, d2⟩, ⟨o3, e3, _, d3⟩⟩ := st
  simp only [List.mem_cons, List.not_mem_nil, or_false] at hd
  rcases hd with rfl | rfl | rfl | rfl | rfl | rfl
  · exact ⟨_, hz, fun v q => nomatch q⟩
  · exact ⟨_, hTI, fun v q => nomatch q⟩
  · exact ⟨_, hTO, fun v q => nomatch q⟩
  · exact ⟨o1, e1, fun v q => by rw [d1] at q; cases q⟩
  · exact ⟨o2, e2, fun v q => by rw [d2] at q; cases q⟩
  · exact ⟨o3, e3, fun v q => by rw [d3] at q; cases q⟩
theorem ch_subL {z TI TO i1 i2 i3 d : Addr} (h : d ∈ [z, TO, i1, i2, i3]) : d ∈ [z, TI, TO, i1, i2, i3] := by
  simp only [List.mem_cons, List.not_mem_nil, or_false] at h ⊢
  rcases h with h | h | h | h | h
  · exact .inl h
  · exact .inr (.inr (.inl h))
  · exact .inr (.inr (.inr (.inl h)))
  · exact .inr (.inr (.inr (.inr (.inl h))))
  · exact .inr (.inr (.inr (.inr (.inr h))))
theorem turn_zip3l {P : Program} {w : World} {K : PySem.W.Frag} {elts : List Expr} {kk : Nat} {tpos : Pos} {a b c z TI TO i1 i2 i3 : Addr} (S : ZipSep3 z TI TO i1 i2 i3 [i1, a] [i2, b] [i3, c]) (na : a ≠ i1) (nb : b ≠ i2) (nc : c ≠ i3) :
    Turn P w K (.Tuple elts kk tpos) (ItzL3 K a b c) [z, TI, TO, i1, i2, i3] z (fun i h => IsZip h z TI TO .none ∧ IsTupOf3 h TI (.ref i1) (.ref i2) (.ref i3) ∧ (∃ x y u, IsTupOf3 h TO x y u) ∧ h.IsTupleIter i1 a i ∧ h.IsTupleIter i2 b i ∧ h.IsListIter i3 c i) where
  mem := List.mem_cons_self
  obj := fun i h st d hd => let ⟨o, e, n⟩ := zip3l_live st d hd; ⟨o, e, n⟩
  keep := fun i h h' st k => by
    obtain ⟨hz, hTI, ⟨x, y, u, hTO⟩, h1, h2, h3⟩ := st
    exact ⟨k z (by simp) _ hz, k TI (by simp) _ hTI, ⟨x, y, u, k TO (by simp) _ hTO⟩, h1.at fun o q => k i1 (by simp) o q, h2.at fun o q => k i2 (by simp) o q, h3.at fun o q => k i3 (by simp) o q⟩
  item := by
    intro X hP hw hK hc i pins s σ H E I hf st hg
    subst hP hw hK
    have st0 := st
    obtain ⟨hz, hTI, hTO, h1, h2, h3⟩ := st
    obtain ⟨xs, ys, zs, x, y, u, qx, qy, qz, gx, gy, gz⟩ := hg
    obtain ⟨is1, r1, p1, _⟩ := I.tuple qx
    obtain ⟨is2, r2, p2, _⟩ := I.tuple qy
    obtain ⟨is3, r3, p3, _⟩ := I.list qz
    obtain ⟨v1, g1, w1⟩ := r1.get gx
    obtain ⟨v2, g2, w2⟩ := r2.get gy
    obtain ⟨v3, g3, w3⟩ := r3.get gz
    have hh : X.A.in1.handled = none := I.ok.hd hc
    have W := WalksT.zipD3 (A := X.A) S (Draws.tuple (prog := X.prog) (w := X.w) (A := X.A.in1) hh i1 a na is1.toArray) (Draws.tuple hh i2 b nb is2.toArray) (Draws.list hh i3 c nc is3.toArray)
    have n1 : i < is1.length := (List.getElem?_eq_some_iff.mp g1).1
    have n2 : i < is2.length := (List.getElem?_eq_some_iff.mp g2).1
    have n3 : i < is3.length := (List.getElem?_eq_some_iff.mp g3).1
    refine W.item i s _ _ (by simp only [List.size_toArray]; omega) ⟨hz, hTI, hTO, ⟨h1, p1⟩, ⟨h2, p2⟩, ⟨h3, p3.isList⟩⟩ fun T vals h' tk hv hle hT mid hk => ?_
    obtain ⟨y1, y2, y3, e1, e2, e3, rfl⟩ := hv
    have q1 : y1 = v1 := by
      rw [List.getElem?_toArray, g1] at e1
      exact (Option.some.inj e1).symm
    have q2 : y2 = v2 := by
      rw [List.getElem?_toArray, g2] at e2
      exact (Option.some.inj e2).symm
    have q3 : y3 = v3 := by
      rw [List.getElem?_toArray, g3] at e3
      exact (Option.some.inj e3).symm
    subst q1 q2 q3
    have nT := W.apart i T h' mid
    refine ⟨_, rfl, W.go elts kk tpos i T { s with heap := h', toks := tk } _ _ mid fun h'' st2 hk2 => ?_⟩
    obtain ⟨oT, hoT, cT, nTs, dT⟩ := hT
    have hT2 : h''.get? T = some oT := hk2 T oT nT hoT
    have new : ObjOk X.prog X.w (upd H T (.tup [x, y, u])) h'' T (.tup [x, y, u]) := ⟨by show 3 ≤ sizeLine; decide, [y1, y2, y3], .cons w1 (.cons w2 (.cons w3 .nil)), ⟨oT, hT2, cT, nTs, dT⟩⟩
    have I1 : Inv X pins σ (upd H T (.tup [x, y, u])) { s with heap := h'', toks := tk } :=
      I.turnedNew (t' := tk) (ch := [z, TI, TO, i1, i2, i3]) (fun d ob hd q => hk2 d ob (fun m => hd (ch_subL m)) (hk d ob (fun m => hd (ch_subL m)) q)) hf hle new
    refine ⟨.ref T, _, I1, rfl, ⟨T, x, y, u, rfl, I.hok.fresh hle, rfl, fun l hl => by rw [I.tuple_inj hl qx]; exact gx, fun l hl => by rw [I.tuple_inj hl qy]; exact gy, fun l hl => by rw [I.list_inj hl qz]; exact gz⟩, ⟨st2.1, st2.2.1, st2.2.2.1, st2.2.2.2.1.1, st2.2.2.2.2.1.1, st2.2.2.2.2.2.1⟩, fun d hd => ?_⟩
    obtain ⟨oz, ez, _⟩ := zip3l_live st0 d hd
    have lt : d < s.heap.objs.size := Heap.lt_size ez
    rw [upd_ne (Nat.ne_of_lt (Nat.lt_of_lt_of_le lt hle))]
    exact (hf d hd).1
  done := by
    intro X hP hw hK hc i pins s σ H E I hf st hg
    subst hP hw hK
    obtain ⟨hz, hTI, hTO, h1, h2, h3⟩ := st
    obtain ⟨xs, ys, zs, qx, qy, qz, hend⟩ := hg
    obtain ⟨is1, r1, p1, _⟩ := I.tuple qx
    obtain ⟨is2, r2, p2, _⟩ := I.tuple qy
    obtain ⟨is3, r3, p3, _⟩ := I.list qz
    have hh : X.A.in1.handled = none := I.ok.hd hc
    have W := WalksT.zipD3 (A := X.A) S (Draws.tuple (prog := X.prog) (w := X.w) (A := X.A.in1) hh i1 a na is1.toArray) (Draws.tuple hh i2 b nb is2.toArray) (Draws.list hh i3 c nc is3.toArray)
    have hn : i = min (min is1.toArray.size is2.toArray.size) is3.toArray.size := by
      simp only [List.size_toArray]
      rw [hend, r1.length, r2.length, r3.length]
    refine W.done s _ _ (by rw [← hn]; exact ⟨hz, hTI, hTO, ⟨h1, p1⟩, ⟨h2, p2⟩, ⟨h3, p3.isList⟩⟩) fun h' tk hk => ⟨rfl, I.turnedL (t' := tk) (ch := [z, TI, TO, i1, i2, i3]) (fun d o hd q => hk d o (fun m => hd (ch_subL m)) q) hf⟩
  self := fun A i s Q E st h => wpAny_pyIter_zip st.1 h
def iZip3L (K : PySem.W.Frag) (ta : TA) : TI := fun σ H R => ta σ H fun vs H1 => ∃ a b c xs ys zs, vs = [.ref a, .ref b, .ref c] ∧ SqT K H1 a xs ∧ SqT K H1 b ys ∧ SqL K H1 c zs ∧ R (ItzL3 K a b c) H1
theorem pi_zip3L {X : Cx} {e e2 e3 : Expr} {ta : TA} {p pos tpos : Pos} {elts : List Expr} {kk : Nat} (hg : Gl X "zip") (hm : X.mg "zip" = none) (ha : PA X [e, e2, e3] ta)
    (hs : starEach [e, e2, e3] X.env = (false, eval e X.env) :: starEach [e2, e3] X.env := by rfl) (hpl : (backTo pos (starEach [e2, e3] X.env)).any (·.1) = false := by rfl) :
    PI X (.Tuple elts kk tpos) (.Call (.Name "zip" p) [e, e2, e3] [] pos) (iZip3L X.K ta) := by
  refine ⟨fun pins s σ H R I h => Call_ (ld_blt I hg hm PyProof.Rows.boot_zip (PyProof.Rows.callWith_type1 (thn (ha.run pos pins s σ H _ I h) fun us s1 q0 => ?_) hs hpl))⟩
  obtain ⟨vs, H1, I1, r1, a, b, c, xs, ys, zs, rfl, qx, qy, qz, q⟩ := q0
  cases r1 with
  | cons r r1 =>
    cases r1 with
    | cons r' r1 =>
      cases r1 with
      | cons r'' r1 =>
      cases r1
      cases r
      cases r'
      cases r''
      obtain ⟨is1, v1, p1, _⟩ := I1.tuple qx
      obtain ⟨is2, v2, p2, _⟩ := I1.tuple qy
      obtain ⟨is3, v3, p3, _⟩ := I1.list qz
      have l1 : a < s1.heap.objs.size := by obtain ⟨o, ho, _⟩ := id p1; exact Heap.lt_size ho
      have l2 : b < s1.heap.objs.size := by obtain ⟨o, ho, _⟩ := id p2; exact Heap.lt_size ho
      have l3 : c < s1.heap.objs.size := by obtain ⟨o, ho, _⟩ := id p3.isList; exact Heap.lt_size ho
      refine zip_begins3 (begins_tuple a is1.toArray) (begins_tuple b is2.toArray) (begins_list c is3.toArray) p1 p2 p3.isList fun h' hz hTI hTO g1 g2 g3 hsz hk => wpAny_pyIter_zip hz ?_
      have I2 : Inv X pins σ H1 { s1 with heap := h' } := I1.kept (t' := s1.toks) hk
      have S := zip_sep3 (N := s1.heap.objs.size) (fp1 := [a]) (fp2 := [b]) (fp3 := [c]) (fun d hd => by rw [List.mem_singleton.mp hd]; exact l1) (fun d hd => by rw [List.mem_singleton.mp hd]; exact l2) (fun d hd => by rw [List.mem_singleton.mp hd]; exact l3)
      refine ⟨s1.heap.objs.size + 5, [s1.heap.objs.size + 5, s1.heap.objs.size + 3, s1.heap.objs.size + 4, s1.heap.objs.size, s1.heap.objs.size + 1, s1.heap.objs.size + 2], _, _, H1, rfl, I2, turn_zip3l S (Nat.ne_of_lt l1) (Nat.ne_of_lt (Nat.lt_succ_of_lt l2)) (Nat.ne_of_lt (Nat.lt_succ_of_lt (Nat.lt_succ_of_lt l3))), ⟨hz, hTI, ⟨_, _, _, hTO⟩, ⟨_, g1, rfl, rfl⟩, ⟨_, g2, rfl, rfl⟩, ⟨_, g3, rfl, rfl⟩⟩, fun d hd => ?_, q⟩
      have hle : s1.heap.objs.size ≤ d := by
        simp only [List.mem_cons, List.not_mem_nil, or_false] at hd
        rcases hd with rfl | rfl | rfl | rfl | rfl | rfl
        · exact Nat.le_add_right _ _
        · exact Nat.le_add_right _ _
        · exact Nat.le_add_right _ _
        · exact Nat.le_refl _
        · exact Nat.le_add_right _ _
        · exact Nat.le_add_right _ _
      exact I1.fpOk hle (I1.hok.fresh hle)
end Cg
namespace Cg
open PySem PySem.Spec PyProof.Rows L2 Cgu
end Cg
namespace Cg
open PySem PySem.Spec PyProof.Rows L2 Cgu
end Cg
namespace Cg
open PySem PySem.Spec PyProof.Rows L2
section
variable {K : PySem.W.Frag} {w : World} {cl : Ek → Addr} {E : L2.St → Option XK} {ρ : List Sl} {S β : Type} {oc : β → Ct S} {ρ' : S → List Sl} {u : TS}
theorem st_unp3 (hE : ∀ a b, E a = E b) {i j l : Nat} {te : TE} {f : Tr PyData} {g : PyData → PyData → PyData → Tr β} (h : Ev K cl E te ρ f) (k : ∀ a b c, StG K cl E oc ρ' u (((ρ.set i (.dat a)).set j (.dat b)).set l (.dat c)) (g a b c))
    (hi : nown ρ i = true := by rfl) (hj : ∀ a, nown (ρ.set i (.dat a)) j = true := by intro; rfl) (hl3 : ∀ a b, nown ((ρ.set i (.dat a)).set j (.dat b)) l = true := by intro _ _; rfl) : StG K cl E oc ρ' (tSeq (tAsg te (gTup K 3 (gCons (gName i) (gCons (gName j) (gCons (gName l) gNil))))) u) ρ (f.bind (un3 g)) := fun G H σ hS D q =>
  h.then (g := un3 g) hS q fun d v G1 H1 a rv w => by
    cases rv with
    | @tup p xs ds hs hl ra hpl =>
      cases ra with
      | nil => exact w.elim
      | @cons v0 _ d0 _ r1 t =>
      cases t with
      | nil => exact w.elim
      | @cons v1 _ d1 _ r2 t =>
      cases t with
      | nil => exact w.elim
      | @cons v2 _ d2 _ r3 t =>
      cases t with
      | cons _ _ => exact w.elim
      | nil =>
        refine ⟨p, [v0, v1, v2], rfl, a.st.sub.t hs, rfl, v0, [v1, v2], rfl, v1, [v2], rfl, v2, [], rfl, rfl, ?_⟩
        have kp := kp_put (σ := σ) (v := v0) (d := d0) hi
        have S1 := a.st.put (i := i) r1
        have kp2 := kp_put (σ := σ.set i (some v0)) (v := v1) (d := d1) (hj d0)
        have S2 := S1.put (i := j) r2
        have kp3 := kp_put (σ := (σ.set i (some v0)).set j (some v1)) (v := v2) (d := d2) (hl3 d0 d1)
        have S3 := S2.put (i := l) r3
        have a2 : Af K ρ σ G1 H1 (((ρ.set i (.dat d0)).set j (.dat d1)).set l (.dat d2)) (((σ.set i (some v0)).set j (some v1)).set l (some v2)) G1 H1 := ⟨Gr.refl, S3, fun x z => .inl (kp.bwd x (kp2.bwd x (kp3.bwd x z))), fun b z => by
          obtain ⟨q1, q2⟩ := kp.fwd 0 .box z.1 rfl
          obtain ⟨q3, q4⟩ := kp2.fwd 0 .box q1 rfl
          obtain ⟨q5, q6⟩ := kp3.fwd 0 .box q3 rfl
          exact ⟨q5, q6.trans (q4.trans (q2.trans z.2))⟩⟩
        exact k d0 d1 d2 G1 H1 _ S3 D (upS hE a2 w)
    | _ => exact w.elim
end
end Cg
namespace Cg
open PySem PySem.Spec PyProof.Rows L2
end Cg
namespace Cg
open PySem PySem.Spec PyProof.Rows L2
section
variable {X : Cx}
def tNever : TE := fun _ _ _ => False
theorem pe_never {e : Expr} : PE X e tNever := ⟨fun _ _ _ _ _ _ h => h.elim⟩
end
section
variable {K : PySem.W.Frag} {cl : Ek → Addr} {E : L2.St → Option XK} {ρ : List Sl} {S β : Type} {oc : β → Ct S} {ρ' : S → List Sl} {u : TS}
theorem ev_never : Ev K cl E tNever ρ .bad := fun G H σ S Q q => q
structure GtAt (K : PySem.W.Frag) (p : Addr) (xs : List V) : Prop where
  ex : ∃ (its : Array Value) (n : Nat) (sl : Array (Option Value)), K.lookup p = some ⟨.type "tuple", none, .seq its n, sl⟩ ∧ its.size ≤ sizeLine ∧ Vals xs its.toList
theorem ev_gt {p : Addr} {xs : List V} {ds : List PyData} (h : GtAt K p xs) (hd : ∀ G, RpAll K G xs ds) (hl : ds.length ≤ 1000 := by decide) : Ev K cl E (tC (.ref p)) ρ (.ret (.tuple ds)) := fun G H σ S Q q => by
  obtain ⟨its, n, sl, h1, h2, h3⟩ := h.ex
  exact Po.now q S (.tup (.inr ⟨_, its, n, h1, rfl, rfl, h2, h3⟩) (by rw [sizeLine_eq]; omega) (hd G) (.inr ⟨_, h1, rfl⟩))
end
end Cg
namespace Cg
open PySem PySem.Spec PyProof.Rows L2
/-- at most so many turns -/
def whileC {β S' : Type} (r : PyData → β) (c : S' → Tr Bool) (f : S' → Tr (Ct S')) (k : S' → Tr β) : Nat → S' → Tr β
  | 0, _ => .bad
  | n + 1, s => (c s).bind fun b => if b then (f s).bind fun o => match o with
    | .nx s' => whileC r c f k n s'
    | .ct s' => whileC r c f k n s'
    | .bk s' => k s'
    | .rt d => .ret (r d)
    else k s
section
variable {K : PySem.W.Frag} {cl : Ek → Addr} {E : L2.St → Option XK} {ρ : List Sl}
variable {S β : Type} {oc : β → Ct S} {ρ' : S → List Sl} {S1 : Type} {ρs : S1 → List Sl} {r : PyData → β} {tb u : TS} {k : S1 → Tr β} {s0 : S1}
theorem st_while (hE : ∀ a b, E a = E b) (hr : ∀ d, oc (r d) = .rt d) {tc : TT} {c : S1 → Tr Bool} {f : S1 → Tr (Ct S1)} (w : Wk ρ (ρs s0)) (hc : ∀ s, EvT K cl E tc (ρs s) (c s)) (hf : ∀ s, StG K cl E id ρs tb (ρs s) (f s)) (hk : ∀ s, StG K cl E oc ρ' u (ρs s) (k s)) (n : Nat) :
    StG K cl E oc ρ' (tSeq (tWhile tc tb) u) ρ (whileC r c f k n s0) := fun G H σ hS D q => by
  refine ⟨fun m σ' H' => ∃ s G', Af K ρ σ G H (ρs s) σ' G' H' ∧ (whileC r c f k m s).wp (fun b => OutP K ρ σ G H ρ' D (oc b)) (Xo cl (E σ) (Owns ρ σ) H), ⟨n, s0, G, w.af hS, q⟩, ?_⟩
  rintro m σ' H' ⟨s, G', a, h⟩
  cases m with
  | zero => exact h.elim
  | succ m =>
    refine hc s G' H' σ' a.st _ (Tr.wp_mono (fun b hb v G1 H1 g1 S1' e => ?_) (fun c z => by rw [hE σ' σ]; exact a.xo z) (Tr.wp_bind.mp h))
    subst e
    have a1 : Af K ρ σ G H (ρs s) σ' G1 H1 := a.trans (Af.ev g1 S1')
    cases v with
    | true =>
      rw [if_pos rfl]
      refine ⟨fun σ2 H2 => ∃ s2 G2, Af K ρ σ G H (ρs s2) σ2 G2 H2 ∧ (whileC r c f k m s2).wp (fun b => OutP K ρ σ G H ρ' D (oc b)) (Xo cl (E σ) (Owns ρ σ) H), fun σ2 H2 z => ⟨m, Nat.lt_succ_self _, z⟩, hf s G1 H1 σ' S1' _ (Tr.wp_mono (fun o ho => ?_) (fun c z => by rw [hE σ' σ]; exact a1.xo z) (Tr.wp_bind.mp hb))⟩
      cases o with
      | nx s' => exact fun σ2 G2 H2 a2 => ⟨s', G2, a1.trans a2, ho⟩
      | ct s' => exact fun σ2 G2 H2 a2 => ⟨s', G2, a1.trans a2, ho⟩
      | bk s' => exact fun σ2 G2 H2 a2 => hk s' G2 H2 σ2 a2.st D (upS hE (a1.trans a2) ho)
      | rt d =>
        have ho' : OutP K ρ σ G H ρ' D (oc (r d)) := ho
        rw [hr d] at ho'
        exact OutP.up (ρ' := ρ') (c := .rt d) a1 ho'
    | false =>
      rw [if_neg (by decide)]
      exact hk s G1 H1 σ' S1' D (upS hE a1 hb)
end
section
variable {K : PySem.W.Frag} {cl : Ek → Addr} {E : L2.St → Option XK} {ρ : List Sl} {σ : L2.St} {G H G1 H1 : Hp}
theorem RpAll.dropLast {vs : List V} {ds : List PyData} (r : RpAll K G vs ds) : RpAll K G vs.dropLast ds.dropLast := by
  rw [List.dropLast_eq_take, List.dropLast_eq_take, r.len]
  exact r.take _
theorem set_ne {α : Type} {l : List α} {i j : Nat} {x y : α} (h : i ≠ j) (e : l[i]? = some x) : (l.set j y)[i]? = some x := by
  rw [List.getElem?_set_ne (Ne.symm h)]
  exact e
/-- the list ahead -/
def SpL (K : PySem.W.Frag) (n : Nat) (m : PyData → List PyData → Tr (PyData × PyData)) : Sp := fun ws H Q _ => ∃ (b : Addr) (xs : List V) (a : PyData) (vs : List V) (ds : List PyData) (G : Hp), ws = .ref b :: vs ∧ H b = some (.lst xs) ∧ (unL a).length ≤ sizeLine ∧ RpAll K G xs (unL a) ∧ G b = none ∧ RpAll K G vs ds ∧ ds.length = n ∧ Ex G H ∧
  (m a ds).wp (fun p => ∀ v G' H', Gr (fun x => x = b) G H G' H' → Ex G' H' → (∃ ys, H' b = some (.lst ys) ∧ (unL p.2).length ≤ sizeLine ∧ RpAll K G' ys (unL p.2) ∧ G' b = none) → Rp K G' v p.1 → Q v H') (fun _ => False)
end
inductive Cl (S : Type) where
  | nx (s : S)
  | rt (d a : PyData)
section
variable {K : PySem.W.Frag} {cl : Ek → Addr} {E : L2.St → Option XK} {ρ : List Sl} {σ : L2.St} {G H G1 H1 : Hp}
/-- the list that was handed in -/
def L0 (ρ : List Sl) (σ : L2.St) (b : Addr) : Prop := (∃ ds, ρ[0]? = some (.acc ds)) ∧ σ[0]? = some (some (V.ref b))
structure Al (K : PySem.W.Frag) (ρ : List Sl) (σ : L2.St) (G H : Hp) (ρ' : List Sl) (σ' : L2.St) (G' H' : Hp) : Prop where
  af : Af K ρ σ G H ρ' σ' G' H'
  l0 : ∀ b, L0 ρ σ b → L0 ρ' σ' b
theorem Al.trans {ρ1 ρ2 : List Sl} {σ1 σ2 : L2.St} {G2 H2 : Hp} (a : Al K ρ σ G H ρ1 σ1 G1 H1) (b : Al K ρ1 σ1 G1 H1 ρ2 σ2 G2 H2) : Al K ρ σ G H ρ2 σ2 G2 H2 := ⟨a.af.trans b.af, fun x h => b.l0 x (a.l0 x h)⟩
theorem Al.same (a : Af K ρ σ G H ρ σ G1 H1) : Al K ρ σ G H ρ σ G1 H1 := ⟨a, fun _ h => h⟩
theorem Al.own {i : Nat} {ds : List PyData} (a : Af K ρ σ G H (ρ.set i (.acc ds)) σ G1 H1) : Al K ρ σ G H (ρ.set i (.acc ds)) σ G1 H1 := ⟨a, fun b h => by
  obtain ⟨⟨es, h1⟩, h2⟩ := h
  refine ⟨?_, h2⟩
  by_cases z : i = 0
  · subst z
    exact ⟨ds, by rw [List.getElem?_set_self (get_lt h1)]⟩
  · exact ⟨es, set_ne (Ne.symm z) h1⟩⟩
def OutL {S : Type} (K : PySem.W.Frag) (ρ : List Sl) (σ : L2.St) (G H : Hp) (ρ' : S → List Sl) (D : Ends) : Cl S → Prop
  | .nx s => ∀ σ' G' H', Al K ρ σ G H (ρ' s) σ' G' H' → D.nx σ' H'
  | .rt d a => ∀ v G' H', Gr (Owns ρ σ) G H G' H' → Ex G' H' → (∀ b, L0 ρ σ b → ∃ ys, H' b = some (.lst ys) ∧ (unL a).length ≤ sizeLine ∧ RpAll K G' ys (unL a) ∧ G' b = none) → Rp K G' v d → D.rt v H'
/-- nothing is raised, nothing drawn by name -/
def StL {S : Type} (K : PySem.W.Frag) (cl : Ek → Addr) (ρ' : S → List Sl) (ts : TS) (ρ : List Sl) (t : Tr (Cl S)) : Prop :=
  ∀ G H σ, Sta K G H ρ σ → ∀ D : Ends, t.wp (fun b => OutL K ρ σ G H ρ' D b) (fun _ => False) → ts D σ H
variable {S : Type} {ρ' : S → List Sl} {ρ1 : List Sl} {σ1 : L2.St} {D : Ends} {u : TS}
theorem StL.eq {ts : TS} {t t' : Tr (Cl S)} (h : StL K cl ρ' ts ρ t) (e : t = t') : StL K cl ρ' ts ρ t' := by
  rw [← e]
  exact h
theorem SpL.len {n : Nat} {m : PyData → List PyData → Tr (PyData × PyData)} {vs : List V} {H : Hp} {Q : VK} {E : XK} (h : SpL K n m vs H Q E) : vs.length = n + 1 := by
  obtain ⟨b, xs, a, ws, ds, G, rfl, _, _, _, _, r, hl, _⟩ := h
  rw [List.length_cons, r.len, hl]
end
end Cg
namespace Cg
open PySem PySem.Spec PyProof.Rows L2 Cgu
section
variable {K : PySem.W.Frag} {w : World} {cl : Ek → Addr} {E : L2.St → Option XK} {ρ : List Sl} {σ : L2.St} {G H : Hp} {S β : Type} {oc : β → Ct S} {ρ' : S → List Sl} {u : TS}
theorem Af.put {i : Nat} {v : V} {d : PyData} (hS : Sta K G H ρ σ) (n : nown ρ i = true) (rv : Rp K G v d) : Af K ρ σ G H (ρ.set i (.dat d)) (σ.set i (some v)) G H := by
  have kp := kp_put (σ := σ) (v := v) (d := d) n
  exact ⟨Gr.refl, hS.put rv, fun x z => .inl (kp.bwd x z), fun b z => by
    obtain ⟨q1, q2⟩ := kp.fwd 0 .box z.1 rfl
    exact ⟨q1, q2.trans z.2⟩⟩
/-- an object that nobody looks at -/
theorem Af.lay (hS : Sta K G H ρ σ) {p : Addr} {o : HO} (h : H p = none) : Af K ρ σ G H ρ σ (upd G p o) (upd H p o) := Af.ev (Gr.lay h hS.sub) (hS.lay h)
end
end Cg
namespace Cg
open PySem PySem.Spec PyProof.Rows L2
end Cg
namespace Cg
open PySem PySem.Spec PyProof.Rows L2
end Cg
namespace Cg
open PySem PySem.Spec PyProof.Rows L2
def on3 (f : PyData → PyData → PyData → Tr PyData) : List PyData → Tr PyData
  | [a, b, c] => f a b c
  | _ => .bad
@[simp] theorem on3_three (f : PyData → PyData → PyData → Tr PyData) (a b c : PyData) : on3 f [a, b, c] = f a b c := rfl
end Cg
namespace Cg
open PySem PySem.Spec PyProof.Rows L2 Cgu
end Cg
namespace Cg
open PySem PySem.Spec PyProof.Rows L2 Cgu
theorem Gr.newH {O : Addr → Prop} {G H : Hp} {p : Addr} {o : HO} (h : H p = none) : Gr O G H G (upd H p o) := by
  refine ⟨Ex.refl G, fun _ _ _ hg => hg, fun a u _ ha => ?_, fun a hn => ?_⟩
  · rw [upd_ne (ne_of_none ha h)]
    exact ha
  · rw [upd_ne (fun z => hn (by rw [z]; exact h))]
    exact hn
section
variable {P : Program} {w : World} {K : PySem.W.Frag} {mg : Str → Option Value} {base : Heap} {cl : Ek → Addr}
def nxT {S : Type} (k : S → Tr PyData) : Ct S → Tr PyData
  | .nx s => k s
  | _ => .bad
@[simp] theorem nxT_nx {S : Type} (k : S → Tr PyData) (s : S) : nxT k (.nx s) = k s := rfl
end
end Cg
namespace Cg
open PySem PySem.Spec PyProof.Rows L2 Cgu
section
variable {K : PySem.W.Frag} {w : World} {cl : Ek → Addr} {E : L2.St → Option XK} {ρ : List Sl} {σ : L2.St} {G H : Hp}
theorem Sta.anyput (S : Sta K G H ρ σ) {i : Nat} (hi : ρ[i]? = some .any) (v : V) : Af K ρ σ G H ρ (σ.set i (some v)) G H := by
  have nj : ∀ {j : Nat} {s : Sl}, ρ[j]? = some s → owning s = true → i ≠ j := fun h1 h2 z => by
    subst z
    rw [hi] at h1
    cases h1
    cases h2
  refine ⟨Gr.refl, ⟨by rw [List.length_set]; exact S.len, S.sub, fun j s o h1 h2 => ?_, fun j l sj sl a h1 h2 h3 h4 h5 h6 => ?_⟩, fun a h => .inl ?_, fun b h => ⟨h.1, ?_⟩⟩
  · by_cases z : i = j
    · subst z
      rw [hi] at h1
      cases h1
      trivial
    · rw [List.getElem?_set_ne z] at h2
      exact S.ok j s o h1 h2
  · rw [List.getElem?_set_ne (nj h1 h3)] at h5
    rw [List.getElem?_set_ne (nj h2 h4)] at h6
    exact S.dis j l sj sl a h1 h2 h3 h4 h5 h6
  · obtain ⟨j, s, h1, h2, h3⟩ := h
    rw [List.getElem?_set_ne (nj h1 h2)] at h3
    exact ⟨j, s, h1, h2, h3⟩
  · rw [List.getElem?_set_ne (nj h.1 rfl)]
    exact h.2
theorem set_back {α : Type} {l : List α} {i : Nat} {x : α} (h : l[i]? = some x) : l.set i x = l := by
  apply List.ext_getElem?
  intro j
  by_cases z : i = j
  · subst z
    rw [List.getElem?_set_self (get_lt h), h]
  · rw [List.getElem?_set_ne z]
variable {S β : Type} {oc : β → Ct S} {ρ' : S → List Sl} {u : TS}
end
end Cg
namespace Cg
open PySem PySem.Spec PyProof.Rows L2 Cgu
end Cg
namespace Cg
open PySem PySem.Spec PyProof.Rows L2
end Cg
namespace Cg
open PySem PySem.Spec PyProof.Rows L2 RZ
/-- an item as it stands, or a new tuple of such -/
def Itm (K : PySem.W.Frag) (b : Bool) (G H : Hp) (v : V) (H' : Hp) (d : PyData) : Prop := (H' = H ∧ Rp K G v d) ∨ (b = true ∧ ∃ T us es, v = .ref T ∧ H T = none ∧ H' = upd H T (.tup us) ∧ d = .tuple es ∧ RpAll K G us es)
structure SrcAt (K : PySem.W.Frag) (b : Bool) (J : It) (ds : List PyData) (G : Hp) : Prop where
  len : ds.length ≤ sizeLine
  wk : ∃ (P : Hp → Prop) (Y : Nat → Hp → V → Hp → Prop), Walk J ds.length P Y ∧ (∀ H', Ex G H' → P H') ∧ ∀ i H v H', i < ds.length → Y i H v H' → ∃ d, ds[i]? = some d ∧ Itm K b G H v H' d
/-- a value, or where b says so a tuple of such -/
def RpB (K : PySem.W.Frag) (b : Bool) (G : Hp) (x : V) (d : PyData) : Prop := Rp K G x d ∨ (b = true ∧ ∃ a xs ds, x = .ref a ∧ d = .tuple ds ∧ SqT K G a xs ∧ RpAll K G xs ds)
abbrev Src (K : PySem.W.Frag) (cl : Ek → Addr) (E : L2.St → Option XK) (b : Bool) (wi : TI) (ρ : List Sl) (fl : Tr (List PyData)) : Prop := EvG K cl E (fun G J ds => SrcAt K b J ds G) wi ρ fl
section
variable {K : PySem.W.Frag} {cl : Ek → Addr} {E : L2.St → Option XK} {ρ : List Sl} {σ : L2.St} {G H G1 H1 : Hp}
theorem src_seq {tl : TE} {fl : Tr PyData} (hl : Ev K cl E tl ρ fl) : Src K cl E false (iSeq K tl) ρ (fl.bind items) := fun G H σ S Q h => hl.seq S h fun l x G1 H1 g1 S1 rx h1 => by
  cases rx with
  | @lst p xs ds hs hz ha =>
    refine ⟨p, rfl, .inl ⟨⟨xs, S1.sub.l hs⟩, Po.now h1 S1 ⟨hz, fun H => SqL K H p xs, YAt xs, by rw [← ha.len]; exact walk_list, fun H' e => e.l hs, fun i H v H' hi y => ?_⟩⟩⟩
    obtain ⟨d, hd, r⟩ := ha.getV y.2
    exact ⟨d, hd, .inl ⟨y.1, r⟩⟩
  | @tup p xs ds hs hz ha hpl =>
    refine ⟨p, rfl, .inr ⟨⟨xs, S1.sub.t hs⟩, Po.now h1 S1 ⟨hz, fun H => SqT K H p xs, YAt xs, by rw [← ha.len]; exact walk_tup, fun H' e => e.t hs, fun i H v H' hi y => ?_⟩⟩⟩
    obtain ⟨d, hd, r⟩ := ha.getV y.2
    exact ⟨d, hd, .inl ⟨y.1, r⟩⟩
  | _ => exact h1.elim
theorem src_zip {ta tb : TE} {fa fb : Tr PyData} (ha : Ev K cl E ta ρ fa) (hb : Ev K cl E tb ρ fb) : Src K cl E true (RZ.iZipA K (tCons ta (tCons tb tNil))) ρ (fa.bind fun a => fb.bind fun b => dZip a b) := fun G H σ S Q h =>
  ha.seq S h fun a x G1 H1 g1 S1 rx h1 => hb.seq S1 h1 fun b y G2 H2 g2 S2 ry h2 => by
    have rx' := rx.mono g2.ex
    have pr : ∀ {xs ys : List V} {ds es : List PyData}, RpAll K G2 xs ds → RpAll K G2 ys es → ∀ i H v H', YPair (fun i => xs[i]?) (fun i => ys[i]?) i H v H' → ∃ d, (dPairs ds es)[i]? = some d ∧ Itm K true G2 H v H' d := fun {xs ys ds es} ra rb i H v H' y => by
      obtain ⟨T, u, w, rfl, hT, rfl, hx, hy⟩ := y
      obtain ⟨d, hd, r1⟩ := ra.getV hx
      obtain ⟨e, he', r2⟩ := rb.getV hy
      exact ⟨_, pairs_get hd he', .inr ⟨rfl, T, _, _, rfl, hT, rfl, rfl, .cons r1 (.cons r2 .nil)⟩⟩
    cases rx' with
    | @tup p xs ds hs hz ra hpl =>
      cases ry with
      | @tup q ys es hs' hz' rb hpl' =>
        exact ⟨p, q, xs, ys, rfl, .inr ⟨S2.sub.t hs, S2.sub.t hs', Po.now h2 S2 ⟨by rw [pairs_len]; omega, _, _, walk_zipT (by rw [pairs_len, ra.len, rb.len]), fun H' e => ⟨e.t hs, e.t hs'⟩, fun i H v H' _ y => pr ra rb i H v H' y⟩⟩⟩
      | _ => exact h2.elim
    | @lst p xs ds hs hz ra =>
      cases ry with
      | @lst q ys es hs' hz' rb =>
        exact ⟨p, q, xs, ys, rfl, .inl ⟨S2.sub.l hs, S2.sub.l hs', Po.now h2 S2 ⟨by rw [pairs_len]; omega, _, _, walk_zip (by rw [pairs_len, ra.len, rb.len]), fun H' e => ⟨e.l hs, e.l hs'⟩, fun i H v H' _ y => pr ra rb i H v H' y⟩⟩⟩
      | _ => exact h2.elim
    | _ => cases ry <;> exact h2.elim
/-- two tuples and a list -/
def dZip3L : PyData → PyData → PyData → Tr (List PyData)
  | .tuple xs, .tuple ys, .list zs => .ret (dTrips xs ys zs)
  | _, _, _ => .bad
theorem walk_zip3L {a b c : Addr} {xs ys zs : List V} {n : Nat} (hn : n = min (min xs.length ys.length) zs.length) : Walk (ItzL3 K a b c) n (fun H => SqT K H a xs ∧ SqT K H b ys ∧ SqL K H c zs) (YTrip xs ys zs) := by
  refine ⟨fun i H hi q => ?_, fun H q => ⟨xs, ys, zs, q.1, q.2.1, q.2.2, hn⟩, fun i H x H' hi q y => ?_⟩
  · have l1 : i < xs.length := by omega
    have l2 : i < ys.length := by omega
    have l3 : i < zs.length := by omega
    exact ⟨xs, ys, zs, _, _, _, q.1, q.2.1, q.2.2, List.getElem?_eq_getElem l1, List.getElem?_eq_getElem l2, List.getElem?_eq_getElem l3⟩
  · obtain ⟨T, u, v, w, e1, hT, e2, f1, f2, f3⟩ := y
    exact ⟨T, u, v, w, e1, hT, e2, f1 xs q.1, f2 ys q.2.1, f3 zs q.2.2⟩
theorem src_zip3 {ta tb tc : TE} {fa fb fc : Tr PyData} (ha : Ev K cl E ta ρ fa) (hb : Ev K cl E tb ρ fb) (hc : Ev K cl E tc ρ fc) : Src K cl E true (iZip3L K (tCons ta (tCons tb (tCons tc tNil)))) ρ (fa.bind fun a => fb.bind fun b => fc.bind fun c => dZip3L a b c) := fun G H σ S Q h =>
  ha.seq S h fun a x G1 H1 g1 S1 rx h1 => hb.seq S1 h1 fun b y G2 H2 g2 S2 ry h2 => hc.seq S2 h2 fun c z G3 H3 g3 S3 rz h3 => by
    have rx' := rx.mono (g2.ex.trans g3.ex)
    have ry' := ry.mono g3.ex
    cases rx' with
    | @tup p xs ds hs hz ra hpl =>
      cases ry' with
      | @tup q ys es hs' hz' rb hpl' =>
        cases rz with
        | @lst t zs fs hs2 hz2 rc =>
          refine ⟨p, q, t, xs, ys, zs, rfl, S3.sub.t hs, S3.sub.t hs', S3.sub.l hs2, Po.now h3 S3 ⟨by rw [trips_len]; omega, _, _, walk_zip3L (by rw [trips_len, ra.len, rb.len, rc.len]), fun H' e => ⟨e.t hs, e.t hs', e.l hs2⟩, fun i H v H' _ y => ?_⟩⟩
          obtain ⟨T, u, v', w', rfl, hT, rfl, hx, hy, hw⟩ := y
          obtain ⟨d, hd, r1⟩ := ra.getV hx
          obtain ⟨e, he', r2⟩ := rb.getV hy
          obtain ⟨f', hf', r3⟩ := rc.getV hw
          exact ⟨_, trips_get hd he' hf', .inr ⟨rfl, T, _, _, rfl, hT, rfl, rfl, .cons r1 (.cons r2 (.cons r3 .nil))⟩⟩
        | _ => exact h3.elim
      | _ => cases rz <;> exact h3.elim
    | _ => cases ry' <;> cases rz <;> exact h3.elim
/-- a list with the places of its items -/
def dEnumL : PyData → Tr (List PyData)
  | .list xs => .ret (dPairs (natsD xs.length) xs)
  | _ => .bad
theorem src_enum {ta : TE} {fa : Tr PyData} (ha : Ev K cl E ta ρ fa) : Src K cl E true (iEnum K (tCons ta tNil)) ρ (fa.bind dEnumL) := fun G H σ S Q h => ha.seq S h fun a x G1 H1 g1 S1 rx h1 => by
  cases rx with
  | @lst p xs ds hs hz ra =>
    have ll := ra.len
    refine ⟨p, xs, rfl, S1.sub.l hs, Po.now h1 S1 ⟨by rw [pairs_len, natsD_len]; omega, fun H => SqL K H p xs, _, by
      have : (dPairs (natsD ds.length) ds).length = xs.length := by rw [pairs_len, natsD_len, Nat.min_self, ll]
      rw [this]
      exact walk_enum, fun H' e => e.l hs, fun i H v H' hi y => ?_⟩⟩
    rw [pairs_len, natsD_len, Nat.min_self] at hi
    obtain ⟨T, u, w, rfl, hT, rfl, hx, hy⟩ := y
    obtain ⟨e, he', r2⟩ := ra.getV hy
    have hx' : V.int (i : Nat) = u := Option.some.inj hx
    have hd : (natsD ds.length)[i]? = some (.int (i : Nat)) := by
      unfold natsD
      rw [List.getElem?_map, List.getElem?_range hi]
      rfl
    exact ⟨_, pairs_get hd he', .inr ⟨rfl, T, _, _, rfl, hT, rfl, rfl, .cons (by rw [← hx']; exact .int _) (.cons r2 .nil)⟩⟩
  | _ => exact h1.elim
end
end Cg
namespace Cg
open PySem PySem.Spec PyProof.Rows L2 RZ
section
variable {K : PySem.W.Frag} {cl : Ek → Addr} {E : L2.St → Option XK} {ρ ρ1 : List Sl} {σ σ1 : L2.St} {G H G1 H1 : Hp}
/-- what is told of a list that nobody holds may be told anew -/
theorem Sta.upd_list (S : Sta K G H ρ σ) {Dl : Addr} {o : HO} (hG : G Dl = none) (no : ¬ Owns ρ σ Dl) : Sta K G (upd H Dl o) ρ σ := by
  refine ⟨S.len, fun a u h => by rw [upd_ne (ne_of_none h hG)]; exact S.sub a u h, fun i s u h1 h2 => ?_, S.dis⟩
  refine (S.ok i s u h1 h2).grow (Ex.refl G) (fun _ _ _ hg _ => hg) fun a u' ho hv h => ?_
  rw [upd_ne (fun z => no ?_)]
  · exact h
  · subst z
    subst hv
    exact ⟨i, s, h1, ho, h2⟩
theorem lc_turn1 (hE : ∀ a b, E a = E b) {g : TG} {te : TE} {vs : List Nat} {ρx : PyData → List Sl} {ok : PyData → Bool} {b0 : Bool} {f : PyData → Tr PyData} (S1 : Sta K G1 H1 ρ1 σ1) (k1 : Kp ρ σ ρ1 σ1) (hv : ∀ i ∈ vs, ρ1[i]? = some .any) (tg : TgR (RpB K b0) K g vs ρ1 ρx ok) (hb : ∀ d, ok d = false → f d = .bad)
    (he : ∀ d, ok d = true → Ev K cl E te (ρx d) (f d)) {Dl : Addr} (S : Sta K G H ρ σ) {acc : List PyData} {n : Nat} (L : Lc K ρ σ G H Dl acc n G1 H1) (hn : n < sizeLine) {x : V} {d : PyData} (r : RpB K b0 G1 x d) {ds : List PyData} {P : List PyData → Prop} {N : Hp → Prop}
    (hN : ∀ acc' G' H', Lc K ρ σ G H Dl acc' (n + 1) G' H' → Sta K G' H' ρ1 σ1 → Ex G1 G' → (lcT (fun _ => .ret true) f acc' ds).wp P (Xo cl (E σ) (Owns ρ σ) H) → N H') (h : (lcT (fun _ => .ret true) f acc (d :: ds)).wp P (Xo cl (E σ) (Owns ρ σ) H)) :
    g x (wipe σ1 vs) H1 fun σ2 H2 => wipe σ2 vs = wipe σ1 vs ∧ tYes σ2 H2 fun b H3 => if b = true then te σ2 H3 fun y H4 => ∃ acc, H4 Dl = some (.lst acc) ∧ acc.length < sizeLine ∧ N (upd H4 Dl (.lst (acc ++ [y]))) else N H3 := by
  have h0 : ((f d).bind fun y => lcT (fun _ => .ret true) f (acc ++ [y]) ds).wp P (Xo cl (E σ) (Owns ρ σ) H) := h
  have hok : ok d = true := by
    cases q : ok d with
    | true => rfl
    | false =>
      rw [hb d q] at h0
      exact h0.elim
  obtain ⟨S2, k2⟩ := S1.wiped hv
  refine tg G1 H1 (wipe σ1 vs) x d _ S2 r hok fun σ2 S3 k3 ew => ⟨ew.trans wipe_wipe, ?_⟩
  have k12 : Kp ρ1 σ1 (ρx d) σ2 := k2.trans k3
  have k : Kp ρ σ (ρx d) σ2 := k1.trans k12
  have xo : ∀ e, Xo cl (E σ) (Owns ρ σ) H e → Xo cl (E σ2) (Owns (ρx d) σ2) H1 e := fun e hx => by
    rw [hE σ2 σ]
    cases q : E σ with
    | none => rw [q] at hx; exact hx
    | some E' =>
      rw [q] at hx
      exact fun H' fr => hx H' fun a o hn ha => fr a o (fun z => hn (k.bwd a z)) (L.gr.fr a o hn ha)
  have no := L.own S
  have noD : ¬ Owns (ρx d) σ2 Dl := fun z => no (k.bwd Dl z)
  have noD1 : ¬ Owns ρ1 σ1 Dl := fun z => no (k1.bwd Dl z)
  show (if true = true then te σ2 H1 _ else N H1)
  rw [if_pos rfl]
  refine he d hok G1 H1 σ2 S3 _ (Tr.wp_mono (fun y hy w G3 H3 g3 S4 ry => ?_) xo (Tr.wp_bind.mp h0))
  have L3 : Lc K ρ σ G H Dl acc n G3 H3 := by
    obtain ⟨xs, hx, ha⟩ := L.at'
    exact ⟨L.gr.trans' (g3.less k.bwd), L.st.back k g3.ex S4, L.old, g3.new Dl noD (by rw [hx]; exact fun z => nomatch z) L.out, ⟨xs, g3.fr Dl _ noD hx, ha.mono g3.ex⟩, L.len⟩
  obtain ⟨xs, hx, ha⟩ := L3.at'
  exact ⟨xs, hx, by rw [ha.len]; exact Nat.lt_of_le_of_lt L3.len hn, hN _ _ _ (L3.add S ry hx ha) ((S1.back k12 g3.ex S4).upd_list L3.out noD1) g3.ex hy⟩
theorem tyes {τ : L2.St} {H0 : Hp} {A B : Hp → Prop} (h : A H0) : tYes τ H0 fun b H3 => if b = true then A H3 else B H3 := by
  show (if true = true then A H0 else B H0)
  rw [if_pos rfl]
  exact h
/-- what comes of the rest of the outer turns, behind acc -/
def lc2T (h : PyData → Tr (List PyData)) (f : PyData → PyData → Tr PyData) : List PyData → List PyData → Tr (List PyData)
  | acc, [] => .ret acc
  | acc, x :: xs => (h x).bind fun ys => if acc.length + ys.length ≤ 1000000 then (lcT (fun _ => .ret true) (f x) acc ys).bind fun acc' => lc2T h f acc' xs else .bad
theorem ev_lc2 (hE : ∀ a b, E a = E b) {wi wi1 : TI} {g g1 : TG} {te : TE} {vs vs1 : List Nat} {ρx : PyData → List Sl} {ok ok1 : PyData → Bool} {b0 b1 : Bool} {ρy : PyData → PyData → List Sl} {fl : Tr (List PyData)} {h : PyData → Tr (List PyData)} {f : PyData → PyData → Tr PyData} (hs : Src K cl E b0 wi ρ fl) (hv : ∀ i ∈ vs, ρ[i]? = some .any) (tg : TgR (RpB K b0) K g vs ρ ρx ok) (hb : ∀ d, ok d = false → h d = .bad)
    (hs1 : ∀ d, ok d = true → Src K cl E b1 wi1 (ρx d) (h d)) (hv1 : ∀ d, ok d = true → ∀ i ∈ vs1, (ρx d)[i]? = some .any) (tg1 : ∀ d, ok d = true → TgR (RpB K b1) K g1 vs1 (ρx d) (ρy d) ok1) (hb1 : ∀ d e, ok1 e = false → f d e = .bad) (he : ∀ d e, ok d = true → ok1 e = true → Ev K cl E te (ρy d e) (f d e)) :
    Ev K cl E (tLc2 wi g tYes wi1 g1 tYes te vs vs1) ρ (fl.bind fun xs => (lc2T h f [] xs).bind fun ys => .ret (.list ys)) := fun G H σ S Q hh => hs.seq S hh fun xs J G1 H1 gr1 S1 sa h1 => by
  intro Dl hD
  obtain ⟨len, P0, Y0, wk, hP, hY⟩ := sa
  refine ⟨fun i m H' => m = xs.length - i ∧ i ≤ xs.length ∧ ∃ G' acc, Lc K ρ σ G1 H1 Dl acc acc.length G' H' ∧ acc.length ≤ sizeLine ∧ ((lc2T h f acc (xs.drop i)).bind fun ys => Tr.ret (PyData.list ys)).wp (Po K ρ σ (Rp K) G1 H1 Q) (Xo cl (E σ) (Owns ρ σ) H1), ⟨_, rfl, Nat.zero_le _, G1, [], lc_start S1 hD, Nat.zero_le _, h1⟩, ?_⟩
  rintro i m H' ⟨rfl, hi, G', acc, L, hac, q⟩
  have hPH : P0 H' := hP H' (L.gr.ex.trans L.st.sub)
  by_cases hlt : i < xs.length
  · refine .inr ⟨wk.goes i H' hlt hPH, fun H2 => ∃ G2 acc', Lc K ρ σ G1 H1 Dl acc' acc'.length G2 H2 ∧ acc'.length ≤ sizeLine ∧ ((lc2T h f acc' (xs.drop (i + 1))).bind fun ys => Tr.ret (PyData.list ys)).wp (Po K ρ σ (Rp K) G1 H1 Q) (Xo cl (E σ) (Owns ρ σ) H1), fun H2 ⟨G2, acc', L2, ha2, q2⟩ => ⟨_, by omega, rfl, hlt, G2, acc', L2, ha2, q2⟩, fun x H2 y => ?_⟩
    obtain ⟨d, hd, it⟩ := hY i H' x H2 hlt (wk.yields i H' x H2 hlt hPH y)
    rw [drop_cons hd] at q
    have q' : ((h d).bind fun ys => ((if acc.length + ys.length ≤ 1000000 then (lcT (fun _ => .ret true) (f d) acc ys).bind fun acc' => lc2T h f acc' (xs.drop (i + 1)) else .bad).bind fun ys => Tr.ret (PyData.list ys))).wp (Po K ρ σ (Rp K) G1 H1 Q) (Xo cl (E σ) (Owns ρ σ) H1) := by
      rw [← Tr.bind_assoc]
      exact q
    have nx : ∃ G2, Lc K ρ σ G1 H1 Dl acc acc.length G2 H2 ∧ RpB K b0 G2 x d := by
      rcases it with ⟨rfl, r⟩ | ⟨hb0, T, us, es, rfl, hT, rfl, rfl, r⟩
      · exact ⟨G', L, .inl (r.mono L.gr.ex)⟩
      · have L2 := L.lay (o := .tup us) hT
        exact ⟨_, L2, .inr ⟨hb0, T, us, es, rfl, rfl, SqT.of upd_same, r.mono L2.gr.ex⟩⟩
    obtain ⟨G2, L2, r⟩ := nx
    have hok : ok d = true := by
      cases z : ok d with
      | true => rfl
      | false =>
        rw [hb d z] at q'
        exact q'.elim
    obtain ⟨S2, k2⟩ := L2.st.wiped hv
    refine tg G2 H2 (wipe σ vs) x d _ S2 r hok fun σ2 S3 k3 ew => ⟨ew.trans wipe_wipe, ?_⟩
    have k : Kp ρ σ (ρx d) σ2 := k2.trans k3
    have no := L2.own S1
    have noD : ¬ Owns (ρx d) σ2 Dl := fun z => no (k.bwd Dl z)
    have xo : ∀ e, Xo cl (E σ) (Owns ρ σ) H1 e → Xo cl (E σ2) (Owns (ρx d) σ2) H2 e := fun e hx => by
      rw [hE σ2 σ]
      cases q : E σ with
      | none => rw [q] at hx; exact hx
      | some E' =>
        rw [q] at hx
        exact fun H' fr => hx H' fun a o hn ha => fr a o (fun z => hn (k.bwd a z)) (L2.gr.fr a o hn ha)
    refine tyes ?_
    refine hs1 d hok G2 H2 σ2 S3 _ (Tr.wp_mono (fun ys hys J1 G4 H4 g4 S4 sa1 => ?_) xo (Tr.wp_bind.mp q'))
    obtain ⟨len1, P1, Y1, wk1, hP1, hY1⟩ := sa1
    have L4 : Lc K ρ σ G1 H1 Dl acc acc.length G4 H4 := by
      obtain ⟨as, hx, ha⟩ := L2.at'
      exact ⟨L2.gr.trans' (g4.less k.bwd), L2.st.back k g4.ex S4, L2.old, g4.new Dl noD (by rw [hx]; exact fun z => nomatch z) L2.out, ⟨as, g4.fr Dl _ noD hx, ha.mono g4.ex⟩, L2.len⟩
    by_cases hsz : acc.length + ys.length ≤ 1000000
    · rw [if_pos hsz, Tr.bind_assoc] at hys
      have hys' := Tr.wp_bind.mp hys
      refine ⟨fun j m H5 => m = ys.length - j ∧ j ≤ ys.length ∧ ∃ G5 acc', Lc K ρ σ G1 H1 Dl acc' (acc.length + j) G5 H5 ∧ Sta K G5 H5 (ρx d) σ2 ∧ Ex G4 G5 ∧ (lcT (fun _ => .ret true) (f d) acc' (ys.drop j)).wp (fun acc' => ((lc2T h f acc' (xs.drop (i + 1))).bind fun ys => Tr.ret (PyData.list ys)).wp (Po K ρ σ (Rp K) G1 H1 Q) (Xo cl (E σ) (Owns ρ σ) H1)) (Xo cl (E σ) (Owns ρ σ) H1), ⟨_, rfl, Nat.zero_le _, G4, acc, L4, S4, Ex.refl _, hys'⟩, ?_⟩
      rintro j m H5 ⟨rfl, hj, G5, acc', L5, S5, e5, q5⟩
      have hPH1 : P1 H5 := hP1 H5 (e5.trans L5.st.sub)
      by_cases hlt1 : j < ys.length
      · refine .inr ⟨wk1.goes j H5 hlt1 hPH1, fun H6 => ∃ G6 acc', Lc K ρ σ G1 H1 Dl acc' (acc.length + (j + 1)) G6 H6 ∧ Sta K G6 H6 (ρx d) σ2 ∧ Ex G4 G6 ∧ (lcT (fun _ => .ret true) (f d) acc' (ys.drop (j + 1))).wp (fun acc' => ((lc2T h f acc' (xs.drop (i + 1))).bind fun ys => Tr.ret (PyData.list ys)).wp (Po K ρ σ (Rp K) G1 H1 Q) (Xo cl (E σ) (Owns ρ σ) H1)) (Xo cl (E σ) (Owns ρ σ) H1), fun H6 ⟨G6, a6, L6, S6, e6, q6⟩ => ⟨_, by omega, rfl, hlt1, G6, a6, L6, S6, e6, q6⟩, fun x1 H6 y1 => ?_⟩
        obtain ⟨d1, hd1, it1⟩ := hY1 j H5 x1 H6 hlt1 (wk1.yields j H5 x1 H6 hlt1 hPH1 y1)
        rw [drop_cons hd1] at q5
        have nx1 : ∃ G6, Lc K ρ σ G1 H1 Dl acc' (acc.length + j) G6 H6 ∧ Sta K G6 H6 (ρx d) σ2 ∧ Ex G4 G6 ∧ RpB K b1 G6 x1 d1 := by
          rcases it1 with ⟨rfl, r⟩ | ⟨hb1', T, us, es, rfl, hT, rfl, rfl, r⟩
          · exact ⟨G5, L5, S5, e5, .inl (r.mono e5)⟩
          · have L6 := L5.lay (o := .tup us) hT
            have e6 : Ex G4 (upd G5 T (.tup us)) := e5.trans (Ex.new (L5.st.sub.back hT))
            exact ⟨_, L6, S5.lay hT, e6, .inr ⟨hb1', T, us, es, rfl, rfl, SqT.of upd_same, r.mono e6⟩⟩
        obtain ⟨G6, L6, S6, e6, r1⟩ := nx1
        exact lc_turn1 hE S6 k (hv1 d hok) (tg1 d hok) (hb1 d) (fun e z => he d e hok z) S1 L6 (by rw [sizeLine_eq]; omega) r1 (fun acc2 G7 H7 L7 S7 e7 q7 => ⟨G7, acc2, L7, S7, e6.trans e7, q7⟩) q5
      · have e : j = ys.length := by omega
        subst e
        rw [List.drop_length] at q5
        have hl := L5.len
        exact .inl ⟨wk1.stops H5 hPH1, G5, acc', ⟨L5.gr, L5.st, L5.old, L5.out, L5.at', Nat.le_refl _⟩, by rw [sizeLine_eq]; omega, q5⟩
    · rw [if_neg hsz] at hys
      exact hys.elim
  · have e : i = xs.length := by omega
    subst e
    rw [List.drop_length] at q
    obtain ⟨G2, g2, S2, r2⟩ := L.done S1 hac
    exact .inl ⟨wk.stops H' hPH, q _ G2 _ g2 S2 r2⟩
end
theorem tgB {K : PySem.W.Frag} {g : TG} {vs : List Nat} {ρ : List Sl} {ρx : PyData → List Sl} {ok : PyData → Bool} (h : TgR (RpW K) K g vs ρ ρx ok) : TgR (RpB K true) K g vs ρ ρx ok := fun G H σ x d N S r => h G H σ x d N S (r.imp (fun z => z) fun z => z.2)
theorem tgN {K : PySem.W.Frag} {g : TG} {vs : List Nat} {ρ : List Sl} {ρx : PyData → List Sl} {ok : PyData → Bool} (h : Tg K g vs ρ ρx ok) : TgR (RpB K false) K g vs ρ ρx ok := fun G H σ x d N S r => h G H σ x d N S (r.resolve_right fun z => nomatch z.1)
section
variable {K : PySem.W.Frag} {cl : Ek → Addr} {E : L2.St → Option XK} {ρ : List Sl} {σ : L2.St} {G H : Hp} {D : Ends}
variable {S β : Type} {oc : β → Ct S} {ρ' : S → List Sl} {S1 : Type} {ρs : S1 → List Sl} {r : PyData → β} {tb u : TS} {k : S1 → Tr β} {s0 : S1} {i j : Nat}
theorem st_forW (hE : ∀ a b, E a = E b) {g : TG} {vs : List Nat} {ok : PyData → Bool} {ρb : S1 → PyData → List Sl} (hr : ∀ d, oc (r d) = .rt d) {b0 : Bool} {wi : TI} {fl : Tr (List PyData)} {f : PyData → S1 → Tr (Ct S1)} (hl : Src K cl E b0 wi ρ fl) (w : Wk ρ (ρs s0))
    (tg : ∀ s, TgR (RpB K b0) K g vs (ρs s) (ρb s) ok) (hb : ∀ d s, ok d = false → f d s = .bad) (hf : ∀ d s, ok d = true → StG K cl E id ρs tb (ρb s d) (f d s)) (hk : ∀ s, StG K cl E oc ρ' u (ρs s) (k s)) :
    StG K cl E oc ρ' (tSeq (tFor wi g tb) u) ρ (fl.bind fun xs => forC r f k xs s0) := fun G H σ hS D q => by
  refine hl G H σ hS _ (Tr.wp_mono (fun xs hxs J G1 H1 g1 S1' sa => ?_) (fun _ z => z) (Tr.wp_bind.mp q))
  have a : Af K ρ σ G H ρ σ G1 H1 := .ev g1 S1'
  have w1 := upS hE a hxs
  obtain ⟨len, P0, Y0, wk, hP, hY⟩ := sa
  have fin : ∀ s2 σ2 G2 H2, Af K ρ σ G1 H1 (ρs s2) σ2 G2 H2 → (k s2).wp (fun b => OutP K ρ σ G1 H1 ρ' D (oc b)) (Xo cl (E σ) (Owns ρ σ) H1) → u D σ2 H2 := fun s2 σ2 G2 H2 a2 q2 => hk s2 G2 H2 σ2 a2.st D (upS hE a2 q2)
  refine for_it wk (D := { D with nx := u D }) (fun i σ' H' => ∃ G' s, Af K ρ σ G1 H1 (ρs s) σ' G' H' ∧ (forC r f k (xs.drop i) s).wp (fun b => OutP K ρ σ G1 H1 ρ' D (oc b)) (Xo cl (E σ) (Owns ρ σ) H1))
    ⟨G1, s0, w.af S1', w1⟩ (fun i σ' H' _ ⟨G', s, a2, _⟩ => hP H' (a2.gr.ex.trans a2.st.sub)) (fun i x σ' H2 H' hi ⟨G', s, a2, q2⟩ y => ?_) fun σ' H' ⟨G', s, a2, q2⟩ => ?_
  · obtain ⟨d, hd, it⟩ := hY i H2 x H' hi y
    rw [drop_cons hd] at q2
    rcases it with ⟨rfl, rd⟩ | ⟨hb0, T, us, es, rfl, hT, rfl, rfl, rd⟩
    · exact for_turn (D := D) (De := { D with nx := u D }) hE hr tg hb hf a2 (.inl (rd.mono a2.gr.ex)) (fun s2 σ2 G2 H2 a3 q3 => ⟨G2, s2, a3, q3⟩) rfl fin q2
    · have a3 : Af K ρ σ G1 H1 (ρs s) σ' (upd G' T (.tup us)) (upd H2 T (.tup us)) := a2.trans (.ev (Gr.lay hT a2.st.sub) (a2.st.lay hT))
      exact for_turn (D := D) (De := { D with nx := u D }) hE hr tg hb hf a3 (.inr ⟨hb0, T, _, _, rfl, rfl, SqT.of upd_same, rd.mono a3.gr.ex⟩) (fun s2 σ2 G2 H2 a4 q3 => ⟨G2, s2, a4, q3⟩) rfl fin q2
  · rw [List.drop_length] at q2
    exact fin s σ' G' H' a2 q2
theorem st_forE2 (hE : ∀ a b, E a = E b) (hr : ∀ d, oc (r d) = .rt d) {ta : TE} {fa : Tr PyData} {f : PyData → PyData → S1 → Tr (Ct S1)} (ha : Ev K cl E ta ρ fa) (w : Wk ρ (ρs s0)) (hi : ∀ s, (nown (ρs s) i && nown (ρs s) j) = true) (hf : ∀ a b s, StG K cl E id ρs tb (((ρs s).set i (.dat a)).set j (.dat b)) (f a b s)) (hk : ∀ s, StG K cl E oc ρ' u (ρs s) (k s)) (ne : i ≠ j := by decide) :
    StG K cl E oc ρ' (tSeq (tFor (iEnum K (tCons ta tNil)) (gTup K 2 (gCons (gName i) (gCons (gName j) gNil))) tb) u) ρ (fa.bind fun a => (dEnumL a).bind fun xs => forC r (fun d s => un2 (fun a b => f a b s) d) k xs s0) := by
  refine StG.eq (st_forW hE hr (src_enum ha) w (f := fun d s => un2 (fun a b => f a b s) d) (fun s => tgB (tg_tup2W (and_two (hi s)).1 (and_two (hi s)).2 ne List.mem_cons_self (List.mem_cons_of_mem _ List.mem_cons_self) (vs := [i, j]))) (fun d s q => ?_) (fun d s q => ?_) hk) (Tr.bind_assoc _ _ _)
  · unfold un2
    cases e : pair? d with
    | none => rfl
    | some p =>
      rw [e] at q
      cases q
  · unfold un2
    cases e : pair? d with
    | none =>
      rw [e] at q
      cases q
    | some p => exact hf p.1 p.2 s
end
end Cg
namespace Km
open PySem L2 Cg Cgo PySem.SeqAt PySem.W
inductive RowM (M : PyData → PyData → PyData → Prop) : List PyData → List PyData → List PyData → Prop
  | nil : RowM M [] [] []
  | add {a : PyData} {L xs ys : List PyData} : RowM M L xs ys → RowM M (.tuple [.str "add", a] :: L) xs (a :: ys)
  | keep {n : Nat} {us L xs ys : List PyData} : us.length = n → 1 ≤ n → RowM M L xs ys → RowM M (.tuple [.str "keep", .int (n : Int)] :: L) (us ++ xs) (us ++ ys)
  | cut {v : PyData} {L xs ys : List PyData} : RowM M L xs ys → RowM M (.tuple [.str "cut", v] :: L) (v :: xs) ys
  | mend {q v y : PyData} {L xs ys : List PyData} : M q v y → RowM M L xs ys → RowM M (.tuple [.str "mend", q] :: L) (v :: xs) (y :: ys)
def SetM (cs : List (PyData × Str)) (xs ys : List PyData) : Prop :=
  (∀ c ∈ cs, (c.1 ∈ xs ↔ c.2 = "cut" ∨ c.2 = "in") ∧ (c.1 ∈ ys ↔ c.2 = "add" ∨ c.2 = "in")) ∧ ∀ z, z ∉ cs.map (·.1) → (z ∈ xs ↔ z ∈ ys)
end Km
namespace Km
open PySem L2 Cg Cgo PySem.SeqAt PySem.W
end Km
namespace Km
open PySem L2 Cg Cgo PySem.SeqAt PySem.W
theorem nd_len {α : Type} : ∀ {ys zs : List α}, ys.Nodup → (∀ y ∈ ys, y ∈ zs) → ys.length ≤ zs.length
  | [], _, _, _ => Nat.zero_le _
  | y :: ys, zs, hn, h => by
    rw [List.nodup_cons] at hn
    obtain ⟨s, t, rfl⟩ := List.append_of_mem (h y List.mem_cons_self)
    have := nd_len (ys := ys) (zs := s ++ t) hn.2 fun z hz => by
      have := h z (List.mem_cons_of_mem _ hz)
      rcases List.mem_append.mp this with a | a
      · exact List.mem_append_left _ a
      · rcases List.mem_cons.mp a with rfl | a
        · exact absurd hz hn.1
        · exact List.mem_append_right _ a
    rw [List.length_append] at this ⊢
    rw [List.length_cons, List.length_cons]
    omega
end Km
namespace Cg
open PySem PySem.Spec PyProof.Rows L2 Cgu
def memKey (k : PyData) : Bool := isTup k && (Cgo.sig k && decide (k.depth ≤ 8))
theorem memKey_iff {k : PyData} : memKey k = true ↔ isTup k = true ∧ Cgo.sig k = true ∧ k.depth ≤ 8 := by
  unfold memKey
  rw [Bool.and_eq_true, Bool.and_eq_true, decide_eq_true_eq]
/-- told keys, all among F, each with an answer that I knows -/
def MemRep (K : PySem.W.Frag) (w : World) (I : PyData → PyData → Prop) (F : List PyData) (es : KVs) (G : Hp) (a : Addr) (ob : HO) : Prop :=
  F.length ≤ 1000000 ∧ (∀ e ∈ es, memKey e.1 = true ∧ e.1 ∈ F ∧ I e.1 e.2) ∧ (es.map (·.1)).Nodup ∧ ((ob = .dK [] ∧ es = []) ∨ ∃ xs, ob = DicT w a xs ∧ Paired (RT K G) xs es)
def MemR (K : PySem.W.Frag) (w : World) (I : PyData → PyData → Prop) (F : List PyData) (G : Hp) (a : Addr) (ob : HO) : Prop := ∃ es, MemRep K w I F es G a ob
section
variable {K : PySem.W.Frag} {w : World} {I : PyData → PyData → Prop} {F : List PyData} {es : KVs} {G G' H : Hp} {a : Addr} {ob : HO}
theorem MemRep.mono (e : Ex G G') (h : MemRep K w I F es G a ob) : MemRep K w I F es G' a ob := by
  obtain ⟨h1, h2, h3, h⟩ := h
  refine ⟨h1, h2, h3, ?_⟩
  rcases h with h | ⟨xs, e1, r⟩
  · exact .inl h
  · exact .inr ⟨xs, e1, paired_imp (fun p e' ⟨q0, q1, q2, q3⟩ => ⟨q0, q1.mono e, q2, q3.mono e⟩) r⟩
theorem MemR.mono (e : Ex G G') (h : MemR K w I F G a ob) : MemR K w I F G' a ob := by
  obtain ⟨es, h⟩ := h
  exact ⟨es, h.mono e⟩
theorem MemRep.len (h : MemRep K w I F es G a ob) : es.length ≤ F.length := by
  have := Km.nd_len (zs := F) h.2.2.1 fun y hy => by
    obtain ⟨e, he, rfl⟩ := List.mem_map.mp hy
    exact (h.2.1 e he).2.1
  rw [List.length_map] at this
  exact this
theorem mem_keyT {b : Addr} {k : PyData} (r : Rp K G (.ref b) k) (e : Ex G H) (hk : memKey k = true) : KeyT K H b k := by
  obtain ⟨_, z1, z2⟩ := memKey_iff.mp hk
  exact ⟨(r.mono e).dp, z1, z2⟩
theorem mem_keysT {xs : List Ent} (r : Paired (RT K G) xs es) (hk : ∀ e ∈ es, memKey e.1 = true) (e : Ex G H) : KeysT K H xs := by
  induction r with
  | nil => exact fun x hx => nomatch hx
  | @cons x d xs es h t ih =>
    intro y hy
    rcases List.mem_cons.mp hy with z | hy
    · rw [z]
      exact ⟨d.1, mem_keyT h.2.1 e (hk d List.mem_cons_self), h.2.2.1⟩
    · exact ih (fun e he => hk e (List.mem_cons_of_mem _ he)) y hy
theorem mem_inj {d k : PyData} (h1 : memKey d = true) (h2 : memKey k = true) (h : Cgn.toK d = Cgn.toK k) : d = k := toKS_inj d k (memKey_iff.mp h1).2.1 (memKey_iff.mp h2).2.1 h
/-- what is found for a key -/
def MemO (K : PySem.W.Frag) (G : Hp) (es : KVs) (k : PyData) : Option V → Prop
  | some v => ∃ d, (k, d) ∈ es ∧ Rp K G v d
  | none => k ∉ es.map (·.1)
theorem mem_find {xs : List Ent} {k : PyData} (r : Paired (RT K G) xs es) (hk : ∀ e ∈ es, memKey e.1 = true) (h : memKey k = true) : MemO K G es k (findT xs (Cgn.toK k)) := by
  induction r with
  | nil => exact fun z => nomatch z
  | @cons x e xs es hx t ih =>
    have ke := hk e List.mem_cons_self
    by_cases z : x.1 = Cgn.toK k
    · have e1 : findT (x :: xs) (Cgn.toK k) = some x.2.2 := by simp [findT, List.find?_cons, z]
      rw [e1]
      have ek : e.1 = k := mem_inj ke h (by rw [← hx.2.2.1]; exact z)
      exact ⟨e.2, by rw [← ek]; exact List.mem_cons_self, hx.2.2.2⟩
    · have e1 : findT (x :: xs) (Cgn.toK k) = findT xs (Cgn.toK k) := by simp [findT, List.find?_cons, z]
      rw [e1]
      have := ih fun e he => hk e (List.mem_cons_of_mem _ he)
      cases q : findT xs (Cgn.toK k) with
      | none =>
        rw [q] at this
        intro hm
        rw [List.map_cons] at hm
        rcases List.mem_cons.mp hm with y | y
        · exact z (by rw [hx.2.2.1, y])
        · exact this y
      | some v =>
        rw [q] at this
        obtain ⟨d, hd, r⟩ := this
        exact ⟨d, List.mem_cons_of_mem _ hd, r⟩
theorem tup_ref {y : V} {k : PyData} (rk : Rp K G y k) (hk : memKey k = true) : ∃ b ks, y = .ref b ∧ k = .tuple ks := by
  cases rk with
  | @tup b us ks hq hl hr hpl => exact ⟨b, ks, rfl, rfl⟩
  | _ => simp [memKey, isTup] at hk
theorem MemRep.read (r : MemRep K w I F es G a ob) (ha : H a = some ob) (e : Ex G H) {y : V} {k : PyData} (rk : Rp K G y k) (hk : memKey k = true) : ∃ o, DRead K w H a y o ∧ MemO K G es k o := by
  obtain ⟨b, ks, rfl, rfl⟩ := tup_ref rk hk
  obtain ⟨h1, h2, h3, h⟩ := r
  rcases h with ⟨rfl, rfl⟩ | ⟨xs, rfl, r⟩
  · exact ⟨none, .inr (.inr ⟨b, _, .inl ha, rfl, mem_keyT rk e hk, rfl⟩), fun z => nomatch z⟩
  · exact ⟨_, .inr (.inl ⟨xs, b, _, .inl ha, mem_keysT r (fun e he => (h2 e he).1) e, rfl, mem_keyT rk e hk, rfl⟩), mem_find r (fun e he => (h2 e he).1) hk⟩
theorem setD_keys {k d : PyData} (hk : memKey k = true) : ∀ {es : KVs}, (∀ e ∈ es, memKey e.1 = true) → (es.map (setD k d)).map (·.1) = es.map (·.1)
  | [], _ => rfl
  | e :: es, h => by
    rw [List.map_cons, List.map_cons, List.map_cons, setD_keys hk fun e he => h e (List.mem_cons_of_mem _ he)]
    congr 1
    unfold setD
    split <;> rfl
theorem paired_setT {xs : List Ent} {k d : PyData} {v : V} (r : Paired (RT K G) xs es) (hk : ∀ e ∈ es, memKey e.1 = true) (h : memKey k = true) (rv : Rp K G v d) : Paired (RT K G) (xs.map (setT (Cgn.toK k) v)) (es.map (setD k d)) := by
  induction r with
  | nil => exact .nil
  | @cons x e xs es hx t ih =>
    have ke := hk e List.mem_cons_self
    rw [List.map_cons, List.map_cons]
    refine .cons ?_ (ih fun e he => hk e (List.mem_cons_of_mem _ he))
    unfold setT setD
    by_cases z : x.1 = Cgn.toK k
    · have ek : e.1 = k := mem_inj ke h (by rw [← hx.2.2.1]; exact z)
      rw [if_pos z, if_pos ((Cgo.sig_eqv _ _ (memKey_iff.mp ke).2.1 (memKey_iff.mp h).2.1).mpr ek)]
      exact ⟨hx.1, hx.2.1, hx.2.2.1, rv⟩
    · rw [if_neg z, if_neg (fun y => z ?_)]
      · exact hx
      · rw [hx.2.2.1, (Cgo.sig_eqv _ _ (memKey_iff.mp ke).2.1 (memKey_iff.mp h).2.1).mp y]
theorem paired_snoc {xs : List Ent} {x : Ent} {e : PyData × PyData} (r : Paired (RT K G) xs es) (h : RT K G x e) : Paired (RT K G) (xs ++ [x]) (es ++ [e]) := by
  induction r with
  | nil => exact .cons h .nil
  | cons h1 t ih => exact .cons h1 ih
theorem MemRep.write (r : MemRep K w I F es G a ob) (ha : H a = some ob) (e : Ex G H) {y v : V} {k d : PyData} (rk : Rp K G y k) (rv : Rp K G v d) (hk : memKey k = true) (hF : k ∈ F) (hI : I k d) :
    ∃ ob' es', DWrite K w H a y v (upd H a ob') ∧ MemRep K w I F es' G a ob' ∧ k ∈ es'.map (·.1) := by
  obtain ⟨b, ks, rfl, rfl⟩ := tup_ref rk hk
  have hlen := r.len
  obtain ⟨h1, h2, h3, h⟩ := r
  have hk2 : ∀ e ∈ es, memKey e.1 = true := fun e he => (h2 e he).1
  rcases h with ⟨rfl, rfl⟩ | ⟨xs, rfl, r⟩
  · refine ⟨_, [(.tuple ks, d)], .inr (.inr ⟨b, _, ha, rfl, mem_keyT rk e hk, rfl⟩), ⟨h1, fun e he => ?_, by simp, .inr ⟨_, rfl, .cons ⟨⟨ks, rfl⟩, rk, rfl, rv⟩ .nil⟩⟩, by simp⟩
    rw [List.mem_singleton.mp he]
    exact ⟨hk, hF, hI⟩
  · have lk : xs.length = es.length := Paired.length r
    have hw : DWrite K w H a (.ref b) v (upd H a (DicT w a (putT xs (Cgn.toK (.tuple ks)) b v))) := .inr (.inl ⟨xs, b, _, ha, mem_keysT r hk2 e, rfl, mem_keyT rk e hk, by rw [sizeLine_eq]; omega, rfl⟩)
    have hf := mem_find r hk2 hk
    unfold putT at hw
    cases q : findT xs (Cgn.toK (.tuple ks)) with
    | some v0 =>
      rw [q] at hf hw
      obtain ⟨d0, hd0, _⟩ := hf
      have hw := (show DWrite K w H a (.ref b) v (upd H a (DicT w a (xs.map (setT (Cgn.toK (.tuple ks)) v)))) from hw)
      have ek := setD_keys (d := d) hk hk2
      refine ⟨_, es.map (setD (.tuple ks) d), hw, ⟨h1, fun e he => ?_, by rw [ek]; exact h3, .inr ⟨_, rfl, paired_setT r hk2 hk rv⟩⟩, by rw [ek]; exact List.mem_map.mpr ⟨_, hd0, rfl⟩⟩
      obtain ⟨e0, he0, rfl⟩ := List.mem_map.mp he
      unfold setD
      split
      · rename_i z
        have ez := (Cgo.sig_eqv _ _ (memKey_iff.mp (hk2 e0 he0)).2.1 (memKey_iff.mp hk).2.1).mp z
        rw [ez]
        exact ⟨hk, hF, hI⟩
      · exact h2 e0 he0
    | none =>
      rw [q] at hf hw
      have hw := (show DWrite K w H a (.ref b) v (upd H a (DicT w a (xs ++ [(Cgn.toK (.tuple ks), b, v)]))) from hw)
      have hn : PyData.tuple ks ∉ es.map (·.1) := hf
      refine ⟨_, es ++ [(.tuple ks, d)], hw, ⟨h1, fun e he => ?_, ?_, .inr ⟨_, rfl, paired_snoc r ⟨⟨ks, rfl⟩, rk, rfl, rv⟩⟩⟩, by simp⟩
      · rcases List.mem_append.mp he with he | he
        · exact h2 e he
        · rw [List.mem_singleton.mp he]
          exact ⟨hk, hF, hI⟩
      · rw [List.map_append, List.nodup_append]
        refine ⟨h3, by simp, fun x hx y hy z => ?_⟩
        rw [List.map_cons, List.map_nil, List.mem_singleton] at hy
        have hy : y = .tuple ks := hy
        rw [z, hy] at hx
        exact hn hx
end
/-- a slot that holds it: it stands at a, all along -/
def memS (K : PySem.W.Frag) (w : World) (I : PyData → PyData → Prop) (F : List PyData) (a : Addr) : Sl := .obj fun G' b ob => b = a ∧ MemR K w I F G' b ob
def MemAt (K : PySem.W.Frag) (w : World) (I : PyData → PyData → Prop) (F : List PyData) (a : Addr) (G H : Hp) : Prop := G a = none ∧ ∃ ob, H a = some ob ∧ ∀ G', Ex G G' → MemR K w I F G' a ob
section
variable {K : PySem.W.Frag} {w : World} {cl : Ek → Addr} {I : PyData → PyData → Prop} {F : List PyData} {ρ : List Sl} {σ : L2.St} {G H G1 H1 : Hp} {a : Addr} {mi : Nat}
theorem mem_slot (S : Sta K G H ρ σ) (hm : ρ[mi]? = some (memS K w I F a)) : σ[mi]? = some (some (.ref a)) ∧ MemAt K w I F a G H := by
  have hs : mi < σ.length := by
    rw [← S.len]
    exact get_lt hm
  have ho : σ[mi]? = some σ[mi] := List.getElem?_eq_getElem hs
  generalize σ[mi] = o at ho
  obtain ⟨b, ob, eo, hb, hR, hg⟩ := S.ok mi _ o hm ho
  have e := (hR G (Ex.refl G)).1
  subst e
  exact ⟨by rw [ho, eo], hg, ob, hb, fun G' e => (hR G' e).2⟩
/-- behind a callee that had it -/
theorem Sta.memd (S : Sta K G H ρ σ) (hm : ρ[mi]? = some (memS K w I F a)) (g : Gr (fun x => x = a) G H G1 H1) (e : Ex G1 H1) (hA : MemAt K w I F a G1 H1) : Sta K G1 H1 ρ σ := by
  obtain ⟨ho, _⟩ := mem_slot S hm
  refine ⟨S.len, e, fun i s o h1 h2 => ?_, S.dis⟩
  by_cases hs : owning s = true ∧ o = some (.ref a)
  · obtain ⟨hs, rfl⟩ := hs
    have z := S.dis i mi s _ a h1 hm hs rfl h2 ho
    subst z
    rw [hm] at h1
    cases h1
    obtain ⟨hg, ob, hb, hR⟩ := hA
    exact ⟨a, ob, rfl, hb, fun G' e => ⟨rfl, hR G' e⟩, hg⟩
  · refine (S.ok i s o h1 h2).grow g.ex (fun x hw ha hg hn => g.new x (fun z => ?_) hn hg) fun x u hw ha h => g.fr x u (fun z => ?_) h
    · subst z
      exact hs ⟨hw, ha⟩
    · subst z
      exact hs ⟨hw, ha⟩
/-- three data and such a dict -/
def SpM (K : PySem.W.Frag) (w : World) (I : List PyData → PyData → PyData → Prop) (m : List PyData → List PyData → Tr PyData) : Sp := fun ws H Q _ => ∃ (F : List PyData) (v0 v1 v2 : V) (b : Addr) (d0 d1 d2 : PyData) (G : Hp), ws = [v0, v1, v2, .ref b] ∧ Rp K G v0 d0 ∧ Rp K G v1 d1 ∧ Rp K G v2 d2 ∧ Ex G H ∧ MemAt K w (I F) F b G H ∧
  (m F [d0, d1, d2]).wp (fun d => ∀ v G' H', Gr (fun x => x = b) G H G' H' → Ex G' H' → MemAt K w (I F) F b G' H' → Rp K G' v d → Q v H') (fun _ => False)
theorem spM_bad {I : List PyData → PyData → PyData → Prop} {m : List PyData → List PyData → Tr PyData} (hm : ∀ F ds, ds.length = 3 → m F ds = .bad) (vs : List V) (H : Hp) (Q : VK) (E : XK) : ¬ SpM K w I m vs H Q E := fun ⟨F, _, _, _, _, d0, d1, d2, G, _, _, _, _, _, _, h⟩ => by
  rw [hm _ _ rfl] at h
  exact h
theorem ev_callM {I : List PyData → PyData → PyData → Prop} {t0 t1 t2 : TE} {f0 f1 f2 : Tr PyData} {m : List PyData → List PyData → Tr PyData} (hm : ρ[mi]? = some (memS K w (I F) F a)) (h0 : Ev K cl (fun _ => none) t0 ρ f0) (h1 : Ev K cl (fun _ => none) t1 ρ f1) (h2 : Ev K cl (fun _ => none) t2 ρ f2) :
    Ev K cl (fun _ => none) (tCall (SpM K w I m) [] E0 (tCons t0 (tCons t1 (tCons t2 (tCons (tVar mi) tNil))))) ρ (f0.bind fun x => f1.bind fun y => f2.bind fun z => m F [x, y, z]) := fun G H σ S Q q => h0.seq S q fun x v0 G1 H1 g1 S1 r0 q1 => h1.seq S1 q1 fun y v1 G2 H2 g2 S2 r1 q2 => h2.seq S2 q2 fun z v2 G3 H3 g3 S3 r2 q3 => by
  obtain ⟨ho, hA⟩ := mem_slot S3 hm
  have ow : Owns ρ σ a := ⟨mi, _, hm, rfl, ho⟩
  refine ⟨.ref a, ho, F, v0, v1, v2, a, x, y, z, G3, rfl, r0.mono (g2.ex.trans g3.ex), r1.mono g3.ex, r2, S3.sub, hA, Tr.wp_mono (fun d hd v G' H' g e hA' r => ?_) (fun _ z => z) q3⟩
  exact hd v G' H' (g.less fun x z => by rw [z]; exact ow) (S3.memd hm g e hA') r
/-- .. with a new one -/
theorem ev_callM0 {I : List PyData → PyData → PyData → Prop} {t0 t1 t2 : TE} {f0 f1 f2 : Tr PyData} {m : List PyData → List PyData → Tr PyData} {mf : PyData → PyData → PyData → List PyData} (h0 : Ev K cl (fun _ => none) t0 ρ f0) (h1 : Ev K cl (fun _ => none) t1 ρ f1) (h2 : Ev K cl (fun _ => none) t2 ρ f2) :
    Ev K cl (fun _ => none) (tCall (SpM K w I m) [] E0 (tCons t0 (tCons t1 (tCons t2 (tCons tDNewK tNil))))) ρ (f0.bind fun x => f1.bind fun y => f2.bind fun z => if (mf x y z).length ≤ 1000000 then m (mf x y z) [x, y, z] else .bad) := fun G H σ S Q q => h0.seq S q fun x v0 G1 H1 g1 S1 r0 q1 => h1.seq S1 q1 fun y v1 G2 H2 g2 S2 r1 q2 => h2.seq S2 q2 fun z v2 G3 H3 g3 S3 r2 q3 => by
  intro p hp
  by_cases hl : (mf x y z).length ≤ 1000000
  · rw [if_pos hl] at q3
    have gp : G3 p = none := S3.sub.back hp
    have e3 : Ex G3 (upd H3 p (.dK [])) := fun c o h => by
      rw [upd_ne (ne_of_none h gp)]
      exact S3.sub c o h
    refine ⟨mf x y z, v0, v1, v2, p, x, y, z, G3, rfl, r0.mono (g2.ex.trans g3.ex), r1.mono g3.ex, r2, e3, ⟨gp, _, upd_same, fun G' _ => ⟨[], hl, (fun _ h => nomatch h), List.nodup_nil, .inl ⟨rfl, rfl⟩⟩⟩, Tr.wp_mono (fun d hd v G' H' g e hA' r => ?_) (fun _ z => z) q3⟩
    have g4 : Gr (fun _ => False) G3 H3 G' H' := (Gr.newH (O := fun _ => False) (o := .dK []) hp).trans g fun c z => .inr (by rw [z]; exact hp)
    exact hd v G' H' (g4.less fun _ z => z.elim) (S3.grow g4 e) r
  · rw [if_neg hl] at q3
    exact q3.elim
def StM (K : PySem.W.Frag) (cl : Ek → Addr) (w : World) (I : PyData → PyData → Prop) (F : List PyData) (a : Addr) (ts : TS) (ρ : List Sl) (t : Tr PyData) : Prop :=
  ∀ G H σ, Sta K G H ρ σ → ∀ D : Ends, t.wp (fun d => ∀ v G' H', Gr (Owns ρ σ) G H G' H' → Ex G' H' → MemAt K w I F a G' H' → Rp K G' v d → D.rt v H') (fun _ => False) → ts D σ H
theorem StM.eq {ts : TS} {t t' : Tr PyData} (h : StM K cl w I F a ts ρ t) (e : t = t') : StM K cl w I F a ts ρ t' := by
  rw [← e]
  exact h
theorem stm_ret {te : TE} {f : Tr PyData} {u : TS} (hm : ρ[mi]? = some (memS K w I F a)) (h : Ev K cl (fun _ => none) te ρ f) : StM K cl w I F a (tSeq (tRet te) u) ρ f := fun G H σ S D q =>
  h G H σ S D.rt (Tr.wp_mono (fun d hd v G1 H1 g S1 r => hd v G1 H1 g S1.sub (mem_slot S1 hm).2 r) (fun _ z => z.elim) q)
theorem stm_if {tc : TT} {t u : TS} {fc : Tr Bool} {ft fu : Tr PyData} (hc : EvT K cl (fun _ => none) tc ρ fc) (ht : StM K cl w I F a t ρ ft) (hu : StM K cl w I F a u ρ fu) : StM K cl w I F a (tSeq (tIfS tc t tNext) u) ρ (fc.bind fun b => if b then ft else fu) := fun G H σ S D q => by
  refine hc G H σ S _ (Tr.wp_mono (fun b hb b' G1 H1 g S1 e => ?_) (fun _ z => z.elim) (Tr.wp_bind.mp q))
  subst e
  have up : ∀ {t : Tr PyData}, t.wp (fun d => ∀ v G' H', Gr (Owns ρ σ) G H G' H' → Ex G' H' → MemAt K w I F a G' H' → Rp K G' v d → D.rt v H') (fun _ => False) → t.wp (fun d => ∀ v G' H', Gr (Owns ρ σ) G1 H1 G' H' → Ex G' H' → MemAt K w I F a G' H' → Rp K G' v d → D.rt v H') (fun _ => False) := fun h => Tr.wp_mono (fun d hd v G' H' g' => hd v G' H' (g.trans' g')) (fun _ z => z) h
  cases b' with
  | true => exact ht G1 H1 σ S1 { D with nx := u D } (up hb)
  | false => exact hu G1 H1 σ S1 D (up hb)
/-- what stands ahead, and what comes of the rest -/
theorem stm_pre {S1 : Type} {ρs : S1 → List Sl} {ts pre rest : TS} {tp : Tr (Ct S1)} {f : S1 → Tr PyData} (hp : StG K cl (fun _ => none) id ρs pre ρ tp) (hr : ∀ s, StM K cl w I F a rest (ρs s) (f s)) (eq : ∀ D : Ends, ts D = pre { D with nx := fun σ H => rest D σ H }) : StM K cl w I F a ts ρ (tp.bind (nxT f)) := fun G H σ S D q => by
  rw [eq]
  refine hp G H σ S _ (Tr.wp_mono (fun c hc => ?_) (fun _ z => z.elim) (Tr.wp_bind.mp q))
  cases c with
  | nx s =>
    intro σ' G' H' af
    exact hr s G' H' σ' af.st D (Tr.wp_mono (fun d hd v G2 H2 g2 => hd v G2 H2 (af.gr.trans g2 af.ow)) (fun _ z => z) hc)
  | rt d => exact hc.elim
  | bk s => exact hc.elim
  | ct s => exact hc.elim
def tKey3 (i j l : Nat) : TE := tTupF (tCons (tVar i) (tCons (tVar j) (tCons (tVar l) tNil)))
theorem key_run {i j l : Nat} {d0 d1 d2 : PyData} (S : Sta K G H ρ σ) (hi : ρ[i]? = some (.dat d0)) (hj : ρ[j]? = some (.dat d1)) (hl : ρ[l]? = some (.dat d2)) {Q : VK} (k : ∀ p o G1, Gr (Owns ρ σ) G H G1 (upd H p o) → Sta K G1 (upd H p o) ρ σ → H p = none → Rp K G1 (.ref p) (.tuple [d0, d1, d2]) → Q (.ref p) (upd H p o)) : tKey3 i j l σ H Q := by
  obtain ⟨o0, e0, v0, rfl, r0⟩ := S.var hi
  obtain ⟨o1, e1, v1, rfl, r1⟩ := S.var hj
  obtain ⟨o2, e2, v2, rfl, r2⟩ := S.var hl
  refine ⟨v0, e0, v1, e1, v2, e2, by show 3 ≤ sizeLine; decide, fun p o hp od => ?_⟩
  have g : Gr (Owns ρ σ) G H (upd G p (.frz o (.tup [v0, v1, v2]))) (upd H p (.frz o (.tup [v0, v1, v2]))) := Gr.lay hp S.sub
  exact k p _ _ g (S.lay hp) hp (.tup (SqT.frz upd_same) (by show 3 ≤ sizeLine; decide) (.cons (r0.mono g.ex) (.cons (r1.mono g.ex) (.cons (r2.mono g.ex) .nil))) (.inl ⟨o, _, upd_same, od⟩))
/-- if k not in d: d[k] = .. ; return d[k] -/
theorem stm_memo {i j l : Nat} {d0 d1 d2 : PyData} {tf : TE} {ff : Tr PyData} {u : TS} (hm : ρ[mi]? = some (memS K w I F a)) (hi : ρ[i]? = some (.dat d0)) (hj : ρ[j]? = some (.dat d1)) (hl : ρ[l]? = some (.dat d2)) (hf : Ev K cl (fun _ => none) tf ρ ff)
    (h1 : ∀ d, ff = .ret d → I (.tuple [d0, d1, d2]) d) (h2 : ∀ d d', I (.tuple [d0, d1, d2]) d → ff = .ret d' → d = d') (h3 : ff = .bad ∨ ∃ d, ff = .ret d) (hF : ∀ d, ff = .ret d → memKey (.tuple [d0, d1, d2]) = true ∧ PyData.tuple [d0, d1, d2] ∈ F) :
    StM K cl w I F a (tSeq (tIfS (tB (tDIsNo K w (tKey3 i j l) (tVar mi))) (tSeq (sDWrite K w (tVar mi) (tKey3 i j l) tf) tNext) tNext) (tSeq (tRet (tDRead K w (tVar mi) (tKey3 i j l))) u)) ρ ff := fun G H σ S D q => by
  rcases h3 with rfl | ⟨d, rfl⟩
  · exact q.elim
  obtain ⟨hk, hkF⟩ := hF d rfl
  have q' : ∀ v G' H', Gr (Owns ρ σ) G H G' H' → Ex G' H' → MemAt K w I F a G' H' → Rp K G' v d → D.rt v H' := q
  -- the last read
  have fin : ∀ G1 H1 ob es, Gr (Owns ρ σ) G H G1 H1 → Sta K G1 H1 ρ σ → H1 a = some ob → MemRep K w I F es G1 a ob → PyData.tuple [d0, d1, d2] ∈ es.map (·.1) → tSeq (tRet (tDRead K w (tVar mi) (tKey3 i j l))) u D σ H1 := fun G1 H1 ob es g1 S1 hob hR hin => by
    obtain ⟨ho, _⟩ := mem_slot S1 hm
    refine ⟨.ref a, ho, key_run S1 hi hj hl fun p o G2 g2 S2 hp rk => ?_⟩
    have hap : a ≠ p := fun z => by rw [z, hp] at hob; cases hob
    obtain ⟨oo, hr, hO⟩ := (hR.mono g2.ex).read (H := upd H1 p o) (by rw [upd_ne hap]; exact hob) S2.sub rk hk
    cases oo with
    | none => exact absurd hin hO
    | some v =>
      obtain ⟨d', hd', rv⟩ := hO
      have ed := h2 d' d (hR.2.1 _ hd').2.2 rfl
      subst ed
      exact ⟨a, v, rfl, hr, q' v G2 _ (g1.trans' g2) S2.sub (mem_slot S2 hm).2 rv⟩
  delta tSeq tIfS tB tDIsNo
  refine key_run S hi hj hl fun p o G1 g1 S1 hp rk => ?_
  obtain ⟨ho, hg, ob, hob, hR⟩ := mem_slot S1 hm
  obtain ⟨es, hR1⟩ := hR G1 (Ex.refl _)
  obtain ⟨oo, hr, hO⟩ := hR1.read hob S1.sub rk hk
  refine ⟨.ref a, ho, a, oo, rfl, hr, !oo.isSome, rfl, ?_⟩
  cases oo with
  | some v =>
    obtain ⟨d', hd', _⟩ := hO
    exact fin G1 _ ob es g1 S1 hob hR1 (List.mem_map.mpr ⟨_, hd', rfl⟩)
  | none =>
    show sDWrite K w (tVar mi) (tKey3 i j l) tf _ σ _
    refine hf G1 _ σ S1 _ (show ∀ v G' H', Gr (Owns ρ σ) G1 (upd H p o) G' H' → Sta K G' H' ρ σ → Rp K G' v d → _ from fun v G2 H2 g2 S2 rv => ?_)
    obtain ⟨ho2, _⟩ := mem_slot S2 hm
    refine ⟨.ref a, ho2, key_run S2 hi hj hl fun p2 o2 G3 g3 S3 hp2 rk2 => ?_⟩
    obtain ⟨_, hg3, ob3, hob3, hR3⟩ := mem_slot S3 hm
    obtain ⟨es3, hM3⟩ := hR3 G3 (Ex.refl _)
    obtain ⟨ob4, es4, hw, hM4, hin⟩ := hM3.write hob3 S3.sub rk2 (rv.mono g3.ex) hk hkF (h1 d rfl)
    have a4 := S3.writeO (R' := fun G' b ob => b = a ∧ MemR K w I F G' b ob) hm ho2 (ob' := ob4) (fun G' e => ⟨rfl, es4, hM4.mono e⟩) hg3
    have eρ : ρ.set mi (.obj fun G' b ob => b = a ∧ MemR K w I F G' b ob) = ρ := set_back hm
    rw [eρ] at a4
    exact ⟨a, _, rfl, hw, fin G3 _ ob4 es4 (g1.trans' (g2.trans' (g3.trans' a4.gr))) a4.st upd_same hM4 hin⟩
end
section
variable {P : Program} {w : World} {K : PySem.W.Frag} {mg : Str → Option Value} {base : Heap} {cl : Ek → Addr}
def st0M (K : PySem.W.Frag) (w : World) (I : PyData → PyData → Prop) (F : List PyData) (a : Addr) (n : Nat) (ds : List PyData) : List Sl := match ds with
  | [x, y, z] => .dat x :: .dat y :: .dat z :: memS K w I F a :: List.replicate (n - 4) .any
  | _ => []
theorem fn_memo {I : List PyData → PyData → PyData → Prop} {x q : Str} {st : Stmt} {f : Addr} {fd : FuncData} {N ps : List Str} {k : Nat} {m : List PyData → List PyData → Tr PyData} (F : Fun K x q st f fd) (Sc : FnScope N ps (defScope st)) (hn : ps.length = 4)
    (hb : ∀ (cdv : Value) (A : Around) (outer : List Env) (s : Shared) (H : Hp) (E : XK), Room k (A.deeper (envOfC q (defScope st) s.heap.objs.size f cdv)) →
      ∃ t, PSs (cxOf CX0 P w K mg base N q (defScope st) f cdv A outer s H E).nox (defBody st) t ∧ ∀ F a ds, ds.length = 3 → StM K cl w (I F) F a t (st0M K w (I F) F a N.length ds) (m F ds)) :
    FnOk P w K mg base CX0 (k + 1) f fd ps (SpM K w I m) := by
  refine F.ok Sc (fun vs H Q E h => ?_) fun cdv A outer s H vs Q E hr h => ?_
  · obtain ⟨_, _, _, _, _, _, _, _, _, rfl, _⟩ := h
    exact hn.symm
  · obtain ⟨t, ht, hs⟩ := hb cdv A outer s H E hr
    obtain ⟨Fk, v0, v1, v2, b, d0, d1, d2, G, rfl, r0, r1, r2, e, hA, h⟩ := h
    have hN := scope_le Sc
    rw [hn] at hN
    obtain ⟨j, hj⟩ : ∃ j, N.length = j + 4 := ⟨N.length - 4, by omega⟩
    have es : start N [v0, v1, v2, .ref b] = some v0 :: some v1 :: some v2 :: some (.ref b) :: List.replicate j none := by
      unfold L2.start
      have : N.length - [v0, v1, v2, V.ref b].length = j := by
        show N.length - 4 = j
        omega
      rw [this]
      rfl
    have er : st0M K w (I Fk) Fk b N.length [d0, d1, d2] = .dat d0 :: .dat d1 :: .dat d2 :: memS K w (I Fk) Fk b :: List.replicate j .any := by
      show Sl.dat d0 :: Sl.dat d1 :: Sl.dat d2 :: memS K w (I Fk) Fk b :: List.replicate (N.length - 4) .any = _
      rw [hj]
      rfl
    have own : ∀ {i : Nat} {s : Sl}, (st0M K w (I Fk) Fk b N.length [d0, d1, d2])[i]? = some s → owning s = true → i = 3 := fun {i s} h1 h2 => by
      rw [er] at h1
      match i, h1 with
      | 0, h1 => cases h1; cases h2
      | 1, h1 => cases h1; cases h2
      | 2, h1 => cases h1; cases h2
      | 3, _ => rfl
      | i + 4, h1 =>
        have h1' : (List.replicate j Sl.any)[i]? = some s := h1
        rw [List.getElem?_replicate] at h1'
        split at h1'
        · cases h1'
          cases h2
        · cases h1'
    have S : Sta K G H (st0M K w (I Fk) Fk b N.length [d0, d1, d2]) (start N [v0, v1, v2, .ref b]) := by
      refine ⟨by rw [es, er]; simp, e, fun i s o h1 h2 => ?_, fun i l si sl a1 h1 h2 h3 h4 _ _ => (own h1 h3).trans (own h2 h4).symm⟩
      rw [er] at h1
      rw [es] at h2
      match i, h1, h2 with
      | 0, h1, h2 => cases h1; cases h2; exact ⟨v0, rfl, r0⟩
      | 1, h1, h2 => cases h1; cases h2; exact ⟨v1, rfl, r1⟩
      | 2, h1, h2 => cases h1; cases h2; exact ⟨v2, rfl, r2⟩
      | 3, h1, h2 =>
        cases h1
        cases h2
        obtain ⟨hg, ob, hob, hR⟩ := hA
        exact ⟨b, ob, rfl, hob, fun G' e => ⟨rfl, hR G' e⟩, hg⟩
      | i + 4, h1, h2 =>
        have h1' : (List.replicate j Sl.any)[i]? = some s := h1
        rw [List.getElem?_replicate] at h1'
        split at h1'
        · cases h1'
          trivial
        · cases h1'
    refine ⟨t, ht, hs Fk b _ rfl G H _ S _ (Tr.wp_mono (fun d hd v G' H' g e' hA' rv => hd v G' H' (g.less fun z hz => ?_) e' hA' rv) (fun _ z => z.elim) h)⟩
    obtain ⟨i, s, h1, h2, h3⟩ := hz
    have := own h1 h2
    subst this
    rw [es] at h3
    cases h3
    rfl
end
end Cg
namespace Cg
open PySem PySem.Spec PyProof.Rows L2 Cgu RZ
section
variable {K : PySem.W.Frag} {cl : Ek → Addr} {E : L2.St → Option XK} {ρ : List Sl} {S β : Type} {oc : β → Ct S} {ρ' : S → List Sl} {u : TS}
/-- name = [e, ..], our own -/
theorem st_lstOwn (hE : ∀ a b, E a = E b) {i n : Nat} {ta : TA} {F : ∀ β : Type, (List PyData → Tr β) → Tr β} {g : PyData → Tr β} (h : EvA K cl E ta ρ n F) (k : ∀ v, StG K cl E oc ρ' u (ρ.set i (.acc (unL v))) (g v)) (hn : n ≤ 1000 := by decide) (hi : i < ρ.length := by exact of_decide_eq_true rfl) (no : nown ρ i = true := by rfl) :
    StG K cl E oc ρ' (tSeq (tAsg (tLst ta) (gName i)) u) ρ ((F _ Tr.ret).bind fun ds => g (.list ds)) := fun G H σ hS D q =>
  (ea_ev h).then (g := fun ds => g (.list ds)) hS q fun ds vs G1 H1 a rv w => by
    obtain ⟨rs, hl⟩ := rv
    have hz : ds.length ≤ sizeLine := by rw [hl, sizeLine_eq]; omega
    refine ⟨by rw [rs.len]; exact hz, fun p hp => ?_⟩
    have a2 := newA a.st no hi hp rs hz
    exact k (.list ds) G1 _ _ a2.st D (upS hE a2 w)
/-- name.reverse() -/
def dRev (a : PyData) : Tr PyData := .ret (.list (unL a).reverse)
theorem rpAll_rev {G : Hp} : ∀ {vs : List V} {ds : List PyData}, RpAll K G vs ds → RpAll K G vs.reverse ds.reverse
  | _, _, .nil => .nil
  | _, _, .cons h t => by
    rw [List.reverse_cons, List.reverse_cons]
    exact (rpAll_rev t).append (.cons h .nil)
theorem st_reverse (hE : ∀ a b, E a = E b) {i : Nat} {a : PyData} {g : PyData → Tr β} (hi : ρ[i]? = some (.acc (unL a))) (k : ∀ v, StG K cl E oc ρ' u (ρ.set i (.acc (unL v))) (g v)) :
    StG K cl E oc ρ' (tSeq (tDrop (tBM0 K "list" rReverse (tVar i))) u) ρ ((dRev a).bind g) := fun G H σ hS D q => by
  obtain ⟨p, xs, ho, hp, hl, r, hg⟩ := acc_slot hS hi
  have a3 := hS.write hi ho hp (rpAll_rev r) (by rw [List.length_reverse]; exact hl) hg
  exact ⟨.ref p, ho, .inl ⟨rfl, _, SqL.of hp⟩, p, xs, rfl, rfl, hp, k (.list (unL a).reverse) G _ σ a3.st D (upS hE a3 q)⟩
/-- {} where it is not asked what for -/
theorem ev_noneD {t : TT} {ft : Tr Bool} (h : EvT K cl E t ρ ft) : EvG K cl E (fun _ (_ : V) (_ : Unit) => True) (tIf t tNever tDNewK) ρ (ft.bind fun b => if b then .bad else .ret ()) := fun G H σ S Q q => h.seq S q fun a x G1 H1 g1 S1 rx q1 => by
  cases rx
  cases a with
  | true => exact q1.elim
  | false =>
    intro p hp
    have e1 : Ex G1 (upd H1 p (.dK [])) := fun c o z => by
      rw [upd_ne (ne_of_none z (S1.sub.back hp))]
      exact S1.sub c o z
    have g2 : Gr (Owns ρ σ) G1 H1 G1 (upd H1 p (.dK [])) := Gr.newH hp
    exact q1 (.ref p) G1 _ g2 (S1.grow (Gr.newH (O := fun _ => False) hp) e1) True.intro
end
section
variable {K : PySem.W.Frag} {cl : Ek → Addr} {E : L2.St → Option XK} {ρ : List Sl}
theorem un3_not {α : Type} {f : PyData → PyData → PyData → Tr α} {d : PyData} (h : (trip? d).isSome = false) : un3 f d = .bad := by
  unfold un3
  cases e : trip? d with
  | none => rfl
  | some p => rw [e] at h; cases h
theorem un2_not {α : Type} {f : PyData → PyData → Tr α} {d : PyData} (h : (pair? d).isSome = false) : un2 f d = .bad := by
  unfold un2
  cases e : pair? d with
  | none => rfl
  | some p => rw [e] at h; cases h
def ρ3 (ρ : List Sl) (i j l : Nat) (d : PyData) : List Sl := match trip? d with
  | some (a, b, c) => ((ρ.set i (.dat a)).set j (.dat b)).set l (.dat c)
  | none => ρ
def ρ2 (ρ : List Sl) (i j : Nat) (d : PyData) : List Sl := match pair? d with
  | some (a, b) => (ρ.set i (.dat a)).set j (.dat b)
  | none => ρ
theorem tg_name' {i : Nat} {vs : List Nat} (hi : nown ρ i = true) (hm : i ∈ vs) : Tg K (gName i) vs ρ (fun d => ρ.set i (.dat d)) (fun _ => true) := fun G H σ x d N S r _ k =>
  k _ (S.put r) (kp_put hi) (wipe_set hm)
theorem nown_any {i : Nat} (h : ρ[i]? = some .any) : nown ρ i = true := by
  unfold nown
  rw [h]
  rfl
theorem set_any {i j : Nat} {d : PyData} (h : ρ[j]? = some .any) (ne : i ≠ j) : (ρ.set i (.dat d))[j]? = some .any := by
  rw [List.getElem?_set_ne ne]
  exact h
/-- for x in l for y in e -/
theorem ev_lcSS (hE : ∀ a b, E a = E b) {tl tm te : TE} {i j : Nat} {fl : Tr PyData} {fm : PyData → Tr PyData} {f : PyData → PyData → Tr PyData} (hl : Ev K cl E tl ρ fl) (hm : ∀ x, Ev K cl E tm (ρ.set i (.dat x)) (fm x)) (he : ∀ x y, Ev K cl E te ((ρ.set i (.dat x)).set j (.dat y)) (f x y))
    (hi : ρ[i]? = some .any := by rfl) (hj : ρ[j]? = some .any := by rfl) (ne : i ≠ j := by decide) :
    Ev K cl E (tLc2 (iSeq K tl) (gName i) tYes (iSeq K tm) (gName j) tYes te [i, j] [j]) ρ (fl.bind fun l => (items l).bind fun xs => (lc2T (fun x => (fm x).bind items) f [] xs).bind fun ys => .ret (.list ys)) := by
  have hj' : ∀ x, (ρ.set i (.dat x))[j]? = some .any := fun x => set_any hj ne
  refine (ev_lc2 hE (ρx := fun x => ρ.set i (.dat x)) (ok := fun _ => true) (ok1 := fun _ => true) (ρy := fun x y => (ρ.set i (.dat x)).set j (.dat y)) (src_seq hl) (fun k hk => ?_) (tgN (tg_name' (nown_any hi) List.mem_cons_self)) (fun _ h => nomatch h) (fun x _ => src_seq (hm x)) (fun x _ k hk => ?_) (fun x _ => tgN (tg_name' (nown_any (hj' x)) List.mem_cons_self)) (fun _ _ h => nomatch h) (fun x y _ _ => he x y)).eq (Tr.bind_assoc _ _ _)
  · rcases List.mem_cons.mp hk with rfl | hk
    · exact hi
    · rw [List.mem_singleton.mp hk]
      exact hj
  · rw [List.mem_singleton.mp hk]
    exact hj' x
/-- for x in l for a, b, c in zip(.., .., ..) -/
theorem ev_lcSZ (hE : ∀ a b, E a = E b) {tl t0 t1 t2 te : TE} {i j l m : Nat} {fl : Tr PyData} {f0 f1 f2 : PyData → Tr PyData} {f : PyData → PyData → PyData → PyData → Tr PyData} (hl : Ev K cl E tl ρ fl) (h0 : ∀ x, Ev K cl E t0 (ρ.set i (.dat x)) (f0 x)) (h1 : ∀ x, Ev K cl E t1 (ρ.set i (.dat x)) (f1 x)) (h2 : ∀ x, Ev K cl E t2 (ρ.set i (.dat x)) (f2 x))
    (he : ∀ x a b c, Ev K cl E te ((((ρ.set i (.dat x)).set j (.dat a)).set l (.dat b)).set m (.dat c)) (f x a b c)) (hi : ρ[i]? = some .any := by rfl) (hj : ρ[j]? = some .any := by rfl) (hl' : ρ[l]? = some .any := by rfl) (hm : ρ[m]? = some .any := by rfl)
    (n1 : i ≠ j := by decide) (n2 : i ≠ l := by decide) (n3 : i ≠ m := by decide) (n4 : j ≠ l := by decide) (n5 : j ≠ m := by decide) (n6 : l ≠ m := by decide) :
    Ev K cl E (tLc2 (iSeq K tl) (gName i) tYes (iZip3L K (tCons t0 (tCons t1 (tCons t2 tNil)))) (gTup K 3 (gCons (gName j) (gCons (gName l) (gCons (gName m) gNil)))) tYes te [i, j, l, m] [j, l, m]) ρ (fl.bind fun y => (items y).bind fun xs => (lc2T (fun x => (f0 x).bind fun a => (f1 x).bind fun b => (f2 x).bind fun c => dZip3L a b c) (fun x => un3 (f x)) [] xs).bind fun ys => .ret (.list ys)) := by
  have nj : ∀ x, nown (ρ.set i (.dat x)) j = true := fun x => nown_any (set_any hj n1)
  have nl : ∀ x, nown (ρ.set i (.dat x)) l = true := fun x => nown_any (set_any hl' n2)
  have nm : ∀ x, nown (ρ.set i (.dat x)) m = true := fun x => nown_any (set_any hm n3)
  refine (ev_lc2 hE (ρx := fun x => ρ.set i (.dat x)) (ok := fun _ => true) (ok1 := fun d => (trip? d).isSome) (ρy := fun x => ρ3 (ρ.set i (.dat x)) j l m) (src_seq hl) (fun k hk => ?_) (tgN (tg_name' (nown_any hi) List.mem_cons_self)) (fun _ h => nomatch h) (fun x _ => src_zip3 (h0 x) (h1 x) (h2 x)) (fun x _ k hk => ?_) (fun x _ => tgB (tg_tup3W (nj x) (nl x) (nm x) n4 n5 n6 (by simp) (by simp) (by simp))) (fun _ _ h => un3_not h) (fun x y _ ok => ?_)).eq (Tr.bind_assoc _ _ _)
  · simp only [List.mem_cons, List.not_mem_nil, or_false] at hk
    rcases hk with rfl | rfl | rfl | rfl
    · exact hi
    · exact hj
    · exact hl'
    · exact hm
  · simp only [List.mem_cons, List.not_mem_nil, or_false] at hk
    rcases hk with rfl | rfl | rfl
    · exact set_any hj n1
    · exact set_any hl' n2
    · exact set_any hm n3
  · unfold un3 ρ3
    cases e : trip? y with
    | none => rw [e] at ok; cases ok
    | some p => exact he x p.1 p.2.1 p.2.2
/-- for a, b, c in zip(..) for x, y in zip(..) -/
theorem ev_lcZ32 (hE : ∀ a b, E a = E b) {t0 t1 t2 u0 u1 te : TE} {i j l m n : Nat} {f0 f1 f2 : Tr PyData} {g0 g1 : PyData → PyData → PyData → Tr PyData} {f : PyData → PyData → PyData → PyData → PyData → Tr PyData} (h0 : Ev K cl E t0 ρ f0) (h1 : Ev K cl E t1 ρ f1) (h2 : Ev K cl E t2 ρ f2)
    (k0 : ∀ a b c, Ev K cl E u0 (((ρ.set i (.dat a)).set j (.dat b)).set l (.dat c)) (g0 a b c)) (k1 : ∀ a b c, Ev K cl E u1 (((ρ.set i (.dat a)).set j (.dat b)).set l (.dat c)) (g1 a b c)) (he : ∀ a b c x y, Ev K cl E te (((((ρ.set i (.dat a)).set j (.dat b)).set l (.dat c)).set m (.dat x)).set n (.dat y)) (f a b c x y))
    (hi : ρ[i]? = some .any := by rfl) (hj : ρ[j]? = some .any := by rfl) (hl : ρ[l]? = some .any := by rfl) (hm : ρ[m]? = some .any := by rfl) (hn : ρ[n]? = some .any := by rfl)
    (n1 : i ≠ j := by decide) (n2 : i ≠ l := by decide) (n3 : j ≠ l := by decide) (n4 : i ≠ m := by decide) (n5 : j ≠ m := by decide) (n6 : l ≠ m := by decide) (n7 : i ≠ n := by decide) (n8 : j ≠ n := by decide) (n9 : l ≠ n := by decide) (n10 : m ≠ n := by decide) :
    Ev K cl E (tLc2 (iZip3L K (tCons t0 (tCons t1 (tCons t2 tNil)))) (gTup K 3 (gCons (gName i) (gCons (gName j) (gCons (gName l) gNil)))) tYes (RZ.iZipA K (tCons u0 (tCons u1 tNil))) (gTup K 2 (gCons (gName m) (gCons (gName n) gNil))) tYes te [i, j, l, m, n] [m, n]) ρ
      (f0.bind fun a => f1.bind fun b => f2.bind fun c => (dZip3L a b c).bind fun xs => (lc2T (un3 fun a b c => (g0 a b c).bind fun x => (g1 a b c).bind fun y => dZip x y) (fun d e => un3 (fun a b c => un2 (f a b c) e) d) [] xs).bind fun ys => .ret (.list ys)) := by
  have hm' : ∀ a b c, (((ρ.set i (.dat a)).set j (.dat b)).set l (.dat c))[m]? = some .any := fun a b c => set_any (set_any (set_any hm n4) n5) n6
  have hn' : ∀ a b c, (((ρ.set i (.dat a)).set j (.dat b)).set l (.dat c))[n]? = some .any := fun a b c => set_any (set_any (set_any hn n7) n8) n9
  refine (ev_lc2 hE (b1 := true) (ρx := ρ3 ρ i j l) (ok := fun d => (trip? d).isSome) (ok1 := fun d => (pair? d).isSome) (ρy := fun d => ρ2 (ρ3 ρ i j l d) m n) (h := un3 fun a b c => (g0 a b c).bind fun x => (g1 a b c).bind fun y => dZip x y) (f := fun d e => un3 (fun a b c => un2 (f a b c) e) d) (src_zip3 h0 h1 h2) (fun k hk => ?_) (tgB (tg_tup3W (nown_any hi) (nown_any hj) (nown_any hl) n1 n2 n3 (by simp) (by simp) (by simp))) (fun _ h => un3_not h) (fun d ok => ?_) (fun d ok k hk => ?_) (fun d ok => ?_) (fun d e h => ?_) (fun d e ok ok1 => ?_)).eq ?_
  · simp only [List.mem_cons, List.not_mem_nil, or_false] at hk
    rcases hk with rfl | rfl | rfl | rfl | rfl
    · exact hi
    · exact hj
    · exact hl
    · exact hm
    · exact hn
  · unfold un3 ρ3
    cases e : trip? d with
    | none => rw [e] at ok; cases ok
    | some p => exact src_zip (k0 p.1 p.2.1 p.2.2) (k1 p.1 p.2.1 p.2.2)
  · unfold ρ3
    cases e : trip? d with
    | none => rw [e] at ok; cases ok
    | some p =>
      simp only [List.mem_cons, List.not_mem_nil, or_false] at hk
      rcases hk with rfl | rfl
      · exact hm' _ _ _
      · exact hn' _ _ _
  · unfold ρ3
    cases e : trip? d with
    | none => rw [e] at ok; cases ok
    | some p => exact tgB (tg_tup2W (nown_any (hm' _ _ _)) (nown_any (hn' _ _ _)) n10 (by simp) (by simp))
  · unfold un3
    cases e3 : trip? d with
    | none => rfl
    | some p => exact un2_not h
  · unfold un3 ρ3 ρ2
    cases e3 : trip? d with
    | none => rw [e3] at ok; cases ok
    | some p =>
      unfold un2
      cases e2 : pair? e with
      | none => rw [e2] at ok1; cases ok1
      | some q => exact he p.1 p.2.1 p.2.2 q.1 q.2
  · simp only [Tr.bind_assoc]
/-- for a, b, c in zip(..) for x, y, z in zip(..) -/
theorem ev_lcZ33 (hE : ∀ a b, E a = E b) {t0 t1 t2 u0 u1 u2 te : TE} {i j l m n o : Nat} {f0 f1 f2 : Tr PyData} {g0 g1 g2 : PyData → PyData → PyData → Tr PyData} {f : PyData → PyData → PyData → PyData → PyData → PyData → Tr PyData} (h0 : Ev K cl E t0 ρ f0) (h1 : Ev K cl E t1 ρ f1) (h2 : Ev K cl E t2 ρ f2)
    (k0 : ∀ a b c, Ev K cl E u0 (((ρ.set i (.dat a)).set j (.dat b)).set l (.dat c)) (g0 a b c)) (k1 : ∀ a b c, Ev K cl E u1 (((ρ.set i (.dat a)).set j (.dat b)).set l (.dat c)) (g1 a b c)) (k2 : ∀ a b c, Ev K cl E u2 (((ρ.set i (.dat a)).set j (.dat b)).set l (.dat c)) (g2 a b c)) (he : ∀ a b c x y z, Ev K cl E te ((((((ρ.set i (.dat a)).set j (.dat b)).set l (.dat c)).set m (.dat x)).set n (.dat y)).set o (.dat z)) (f a b c x y z))
    (hi : ρ[i]? = some .any := by rfl) (hj : ρ[j]? = some .any := by rfl) (hl : ρ[l]? = some .any := by rfl) (hm : ρ[m]? = some .any := by rfl) (hn : ρ[n]? = some .any := by rfl) (ho : ρ[o]? = some .any := by rfl)
    (n1 : i ≠ j := by decide) (n2 : i ≠ l := by decide) (n3 : j ≠ l := by decide) (n4 : i ≠ m := by decide) (n5 : j ≠ m := by decide) (n6 : l ≠ m := by decide) (n7 : i ≠ n := by decide) (n8 : j ≠ n := by decide) (n9 : l ≠ n := by decide) (n10 : m ≠ n := by decide)
    (m1 : i ≠ o := by decide) (m2 : j ≠ o := by decide) (m3 : l ≠ o := by decide) (m4 : m ≠ o := by decide) (m5 : n ≠ o := by decide) :
    Ev K cl E (tLc2 (iZip3L K (tCons t0 (tCons t1 (tCons t2 tNil)))) (gTup K 3 (gCons (gName i) (gCons (gName j) (gCons (gName l) gNil)))) tYes (iZip3L K (tCons u0 (tCons u1 (tCons u2 tNil)))) (gTup K 3 (gCons (gName m) (gCons (gName n) (gCons (gName o) gNil)))) tYes te [i, j, l, m, n, o] [m, n, o]) ρ
      (f0.bind fun a => f1.bind fun b => f2.bind fun c => (dZip3L a b c).bind fun xs => (lc2T (un3 fun a b c => (g0 a b c).bind fun x => (g1 a b c).bind fun y => (g2 a b c).bind fun z => dZip3L x y z) (fun d e => un3 (fun a b c => un3 (f a b c) e) d) [] xs).bind fun ys => .ret (.list ys)) := by
  have hm' : ∀ a b c, (((ρ.set i (.dat a)).set j (.dat b)).set l (.dat c))[m]? = some .any := fun a b c => set_any (set_any (set_any hm n4) n5) n6
  have hn' : ∀ a b c, (((ρ.set i (.dat a)).set j (.dat b)).set l (.dat c))[n]? = some .any := fun a b c => set_any (set_any (set_any hn n7) n8) n9
  have ho' : ∀ a b c, (((ρ.set i (.dat a)).set j (.dat b)).set l (.dat c))[o]? = some .any := fun a b c => set_any (set_any (set_any ho m1) m2) m3
  refine (ev_lc2 hE (b1 := true) (ρx := ρ3 ρ i j l) (ok := fun d => (trip? d).isSome) (ok1 := fun d => (trip? d).isSome) (ρy := fun d => ρ3 (ρ3 ρ i j l d) m n o) (h := un3 fun a b c => (g0 a b c).bind fun x => (g1 a b c).bind fun y => (g2 a b c).bind fun z => dZip3L x y z) (f := fun d e => un3 (fun a b c => un3 (f a b c) e) d) (src_zip3 h0 h1 h2) (fun k hk => ?_) (tgB (tg_tup3W (nown_any hi) (nown_any hj) (nown_any hl) n1 n2 n3 (by simp) (by simp) (by simp))) (fun _ h => un3_not h) (fun d ok => ?_) (fun d ok k hk => ?_) (fun d ok => ?_) (fun d e h => ?_) (fun d e ok ok1 => ?_)).eq ?_
  · simp only [List.mem_cons, List.not_mem_nil, or_false] at hk
    rcases hk with rfl | rfl | rfl | rfl | rfl | rfl
    · exact hi
    · exact hj
    · exact hl
    · exact hm
    · exact hn
    · exact ho
  · unfold un3 ρ3
    cases e : trip? d with
    | none => rw [e] at ok; cases ok
    | some p => exact src_zip3 (k0 p.1 p.2.1 p.2.2) (k1 p.1 p.2.1 p.2.2) (k2 p.1 p.2.1 p.2.2)
  · unfold ρ3
    cases e : trip? d with
    | none => rw [e] at ok; cases ok
    | some p =>
      simp only [List.mem_cons, List.not_mem_nil, or_false] at hk
      rcases hk with rfl | rfl | rfl
      · exact hm' _ _ _
      · exact hn' _ _ _
      · exact ho' _ _ _
  · unfold ρ3
    cases e : trip? d with
    | none => rw [e] at ok; cases ok
    | some p => exact tgB (tg_tup3W (nown_any (hm' _ _ _)) (nown_any (hn' _ _ _)) (nown_any (ho' _ _ _)) n10 m4 m5 (by simp) (by simp) (by simp))
  · unfold un3
    cases e3 : trip? d with
    | none => rfl
    | some p => exact un3_not h
  · unfold un3 ρ3
    cases e3 : trip? d with
    | none => rw [e3] at ok; cases ok
    | some p =>
      show Ev K cl E te (match trip? e with | some (a, b, c) => _ | none => _) (match trip? e with | some (a, b, c) => _ | none => _)
      cases e2 : trip? e with
      | none => rw [e2] at ok1; cases ok1
      | some q => exact he p.1 p.2.1 p.2.2 q.1 q.2.1 q.2.2
  · simp only [Tr.bind_assoc]
end
end Cg
namespace Cg
open PySem PySem.Spec PyProof.Rows L2 Cgu
/-- a tree only where p holds -/
noncomputable def guardT {α : Type} (p : Prop) (t : Tr α) : Tr α := @ite _ p (Classical.propDecidable p) t .bad
theorem guardT_pos {α : Type} {p : Prop} {t : Tr α} (h : p) : guardT p t = t := if_pos h
theorem guardT_neg {α : Type} {p : Prop} {t : Tr α} (h : ¬ p) : guardT p t = .bad := if_neg h
section
variable {K : PySem.W.Frag} {cl : Ek → Addr} {E : L2.St → Option XK} {ρ : List Sl} {oc : Ct PyData → Ct PyData}
theorem ev_guard {te : TE} {f : Tr PyData} {p : Prop} (h : Ev K cl E te ρ f) : Ev K cl E te ρ (guardT p f) := fun G H σ S Q q => by
  by_cases hp : p
  · rw [guardT_pos hp] at q
    exact h G H σ S Q q
  · rw [guardT_neg hp] at q
    exact q.elim
theorem st_dead {S β : Type} {oc : β → Ct S} {ρ' : S → List Sl} {t : TS} : StG K cl E oc ρ' t ρ .bad := fun _ _ _ _ _ q => q.elim
theorem pre_nil {rest : TS} : ∀ D : Ends, rest D = tNext { D with nx := fun σ H => rest D σ H } := fun _ => rfl
theorem pre_seq {a u u' rest : TS} (h : ∀ D : Ends, u D = u' { D with nx := fun σ H => rest D σ H }) : ∀ D : Ends, tSeq a u D = tSeq a u' { D with nx := fun σ H => rest D σ H } := fun D => by
  show (fun σ H => a { D with nx := u D } σ H) = fun σ H => a { D with nx := u' { D with nx := fun σ H => rest D σ H } } σ H
  rw [h D]
/-- list(range(n)) -/
theorem ev_listRange {ta : TE} {fa : Tr PyData} (ha : Ev K cl E ta ρ fa) : Ev K cl E (tLstRg (tRg1 ta)) ρ (fa.bind fun a => (rangeT (.int 0) a).bind fun xs => .ret (.list xs)) := fun G H σ S Q q => ha.seq S q fun a x G1 H1 g1 S1 rx q1 => by
  cases rx with
  | int b =>
    have h2 : ((if -(2 ^ 61) ≤ (0 : Int) ∧ (0 : Int) ≤ 2 ^ 61 ∧ -(2 ^ 61) ≤ b ∧ b ≤ 2 ^ 61 ∧ b - 0 ≤ 1000000 then Tr.ret (rng 0 (b - 0).toNat) else .bad).bind fun xs => Tr.ret (PyData.list xs)).wp (Po K ρ σ (Rp K) G1 H1 Q) (Xo cl (E σ) (Owns ρ σ) H1) := q1
    split at h2
    · rename_i hz
      refine ⟨b, rfl, ⟨by omega, by omega, by omega, by omega, by omega⟩, fun q hq => ?_⟩
      refine Po.lay h2 S1 hq (.lst (SqL.of upd_same) (by rw [rng_len, sizeLine_eq]; omega) ?_)
      have := RpAll.ofInts (K := K) (G := upd G1 q (.lst (rgV 0 b))) ((List.range (b - 0).toNat).map fun i => (0 : Int) + ((i : Nat) : Int))
      rw [List.map_map, List.map_map] at this
      exact this
    · exact h2.elim
  | _ => exact q1.elim
end
section
variable {K : PySem.W.Frag} {cl : Ek → Addr} {E : L2.St → Option XK} {ρ : List Sl} {α β : Type} {oc : β → Ct PyData}
/-- (cells) x, y = such, neither of them asked for -/
theorem st_par2C {S : Type} {oc : β → Ct S} {ρ' : S → List Sl} {u : TS} (hE : ∀ a b, E a = E b) {i j : Nat} {ta tb : TE} {fa fb : Tr Unit} {g : Tr β} (ha : EvG K cl E (fun _ (_ : V) (_ : Unit) => True) ta ρ fa) (hb : EvG K cl E (fun _ (_ : V) (_ : Unit) => True) tb ρ fb) (hi : ρ[i]? = some .any) (hj : ρ[j]? = some .any) (k : StG K cl E oc ρ' u ρ g) :
    StG K cl E oc ρ' (tSeq (tAsg (tTup (tCons ta (tCons tb tNil))) (gTup K 2 (gCons (gName i) (gCons (gName j) gNil)))) u) ρ (fa.bind fun _ => fb.bind fun _ => g) := fun G H σ hS D q =>
  ha.then (g := fun _ => fb.bind fun _ => g) hS q fun _ v G1 H1 a1 _ w1 => hb.then (g := fun _ => g) a1.st w1 fun _ v2 G2 H2 a2 _ w2 => by
    refine ⟨by show 2 ≤ sizeLine; decide, fun p hp => ?_⟩
    have e1 : Ex G2 (upd H2 p (.tup [v, v2])) := fun c o z => by
      rw [upd_ne (ne_of_none z (a2.st.sub.back hp))]
      exact a2.st.sub c o z
    have g2 : Gr (Owns ρ σ) G2 H2 G2 (upd H2 p (.tup [v, v2])) := Gr.newH hp
    have S3 : Sta K G2 (upd H2 p (.tup [v, v2])) ρ σ := a2.st.grow (Gr.newH (O := fun _ => False) hp) e1
    refine ⟨p, [v, v2], rfl, .inl (.inl upd_same), rfl, v, [v2], rfl, v2, [], rfl, rfl, ?_⟩
    have a3 := S3.anyput hi v
    have a4 := a3.st.anyput hj v2
    exact k G2 _ _ a4.st D (upS hE ((Af.ev g2 S3).trans (a3.trans a4)) w2)
end
section
variable {K : PySem.W.Frag} {cl : Ek → Addr} {E : L2.St → Option XK} {ρ : List Sl} {α β : Type} {oc : β → Ct PyData}
def rMin3 : List V → Hp → VK → Prop := fun xs H Q => ∃ i j k, xs = [.int i, .int j, .int k] ∧ Q (.int (min (min i j) k)) H
theorem nu_min2 (i j : Int) : nuMin2 (.int i) (.int j) = some (.int (min i j)) := by
  unfold nuMin2
  show some (if decide (j < i) = true then V.int j else V.int i) = _
  by_cases h : j < i
  · rw [if_pos (decide_eq_true h), Int.min_eq_right (by omega)]
  · rw [if_neg (by simp [h]), Int.min_eq_left (by omega)]
theorem call_min3 {X : Cx} (hc : X.calm = true) : CallR X (.builtin "min") rMin3 := by
  intro pins s σ H xs us Q I r h
  obtain ⟨i, j, k, rfl, q⟩ := h
  refine call_min3Nu hc pins s σ H _ us Q I r ⟨_, _, _, _, rfl, ?_, q⟩
  unfold nuMin3
  rw [nu_min2]
  exact nu_min2 _ _
def dMin3 : PyData → PyData → PyData → Tr PyData
  | .int i, .int j, .int k => .ret (.int (min (min i j) k))
  | _, _, _ => .bad
theorem rk_min3 {K : PySem.W.Frag} : RK K rMin3 (on3 dMin3) := fun cl E ρ σ G H vs ds S r Q h => by
  match ds, vs, r, h with
  | [a, b, c], [x, y, z], .cons r1 (.cons r2 (.cons r3 .nil)), h =>
    cases r1 with
    | int i =>
      cases r2 with
      | int j =>
        cases r3 with
        | int k => exact ⟨i, j, k, rfl, Po.now h S (.int _)⟩
        | _ => exact h.elim
      | _ => exact h.elim
    | _ => exact h.elim
  | [], _, _, h => exact h.elim
  | [_], _, _, h => exact h.elim
  | [_, _], _, _, h => exact h.elim
  | _ :: _ :: _ :: _ :: _, _, _, h => exact h.elim
end
end Cg
namespace Cg
open PySem PySem.Spec PyProof.Rows L2 Cgu
/-- what it costs to make one row of another, both turned about -/
def edr {α : Type} (wt : α → Int) (d : α → α → Int) : List α → List α → Int
  | [], [] => 0
  | a :: as, [] => edr wt d as [] + wt a
  | [], b :: bs => edr wt d [] bs + wt b
  | a :: as, b :: bs => min (min (edr wt d as (b :: bs) + wt a) (edr wt d (a :: as) bs + wt b)) (edr wt d as bs + d a b)
termination_by as bs => as.length + bs.length
def lstD : PyData → List PyData
  | .tuple xs => xs
  | .list xs => xs
  | _ => []
def wtN : Nat → PyData → Int
  | 0, _ => 1
  | n + 1, .tuple xs => 1 + (xs.map (wtN n)).sum
  | _ + 1, _ => 1
def wtD : PyData → Int := wtN 4
noncomputable def dstN : Nat → PyData → PyData → PyData → Int
  | 0, _, _, _ => 0
  | n + 1, k, v, w => @ite _ (v = w) (Classical.propDecidable _) 0 (match k with
    | .tuple [.str _, .int _] => 2
    | .tuple [.str _, i] => edr wtD (dstN n i) (lstD v).reverse (lstD w).reverse
    | _ => 2)
noncomputable def dstD : PyData → PyData → PyData → Int := dstN 4
def keysN : Nat → PyData → PyData → PyData → List PyData
  | 0, _, _, _ => []
  | n + 1, k, v, w => .tuple [k, v, w] :: match k with
    | .tuple [.str _, .int _] => []
    | .tuple [.str _, i] => (lstD v).flatMap fun a => (lstD w).flatMap fun b => keysN n i a b
    | _ => []
def memF : PyData → PyData → PyData → List PyData := keysN 4
def memI (_ : List PyData) (key d : PyData) : Prop := ∃ k v w, key = .tuple [k, v, w] ∧ d = .int (dstD k v w)
def memP (F : List PyData) (k v w : PyData) (t : Tr PyData) : Prop := memKey (.tuple [k, v, w]) = true ∧ PyData.tuple [k, v, w] ∈ F ∧ t = .ret (.int (dstD k v w))
section
variable {K : PySem.W.Frag} {w : World} {cl : Ek → Addr} {F : List PyData} {ρ : List Sl} {a : Addr} {mi : Nat}
theorem stm_memoG {i j l : Nat} {d0 d1 d2 : PyData} {tf : TE} {ff : Tr PyData} {u : TS} (hm : ρ[mi]? = some (memS K w (memI F) F a)) (hi : ρ[i]? = some (.dat d0)) (hj : ρ[j]? = some (.dat d1)) (hl : ρ[l]? = some (.dat d2)) (hf : Ev K cl (fun _ => none) tf ρ ff) :
    StM K cl w (memI F) F a (tSeq (tIfS (tB (tDIsNo K w (tKey3 i j l) (tVar mi))) (tSeq (sDWrite K w (tVar mi) (tKey3 i j l) tf) tNext) tNext) (tSeq (tRet (tDRead K w (tVar mi) (tKey3 i j l))) u)) ρ (guardT (memP F d0 d1 d2 ff) ff) := by
  refine stm_memo hm hi hj hl (ev_guard hf) (fun d e => ?_) (fun d d' h e => ?_) ?_ (fun d e => ?_)
  · by_cases p : memP F d0 d1 d2 ff
    · rw [guardT_pos p, p.2.2] at e
      cases e
      exact ⟨d0, d1, d2, rfl, rfl⟩
    · rw [guardT_neg p] at e
      cases e
  · by_cases p : memP F d0 d1 d2 ff
    · rw [guardT_pos p, p.2.2] at e
      cases e
      obtain ⟨k, v, w, e1, e2⟩ := h
      cases e1
      exact e2
    · rw [guardT_neg p] at e
      cases e
  · by_cases p : memP F d0 d1 d2 ff
    · exact .inr ⟨_, by rw [guardT_pos p]; exact p.2.2⟩
    · exact .inl (guardT_neg p)
  · by_cases p : memP F d0 d1 d2 ff
    · exact ⟨p.1, p.2.1⟩
    · rw [guardT_neg p] at e
      cases e
end
end Cg
namespace Km
open PySem L2 Cg Cgo PySem.SeqAt PySem.W
end Km
namespace Km
open PySem L2 Cg Cgo PySem.SeqAt PySem.W
end Km
namespace Km
open PySem L2 Cg Cgo PySem.SeqAt PySem.W
end Km
namespace Km
open PySem L2 Cg Cgo PySem.SeqAt PySem.W
end Km
namespace Km
open PySem L2 Cg Cgo PySem.SeqAt PySem.W
end Km
namespace Km
open PySem L2 Cg Cgo PySem.SeqAt PySem.W
end Km
namespace Km
open PySem L2 Cg Cgo
end Km
namespace Km
open PySem L2 Cg Cgo PySem.SeqAt PySem.W
end Km
namespace Km
open PySem L2 Cg Cgo PySem.SeqAt PySem.W
def prodL : List Int → Int
  | [] => 1
  | c :: cs => c * prodL cs
def sumL : List Int → Int
  | [] => 0
  | c :: cs => c + sumL cs
mutual
def cnt : Kd → Option Int
  | .num n => some n
  | .rcd ks => (cnts ks).map prodL
  | .cho ks => (cnts ks).map sumL
  | .row _ => none
  | .set k => (cnt k).map fun c => 2 ^ c.toNat
  | .bag _ => none
  | .tab k e => (cnt k).bind fun c => (cnt e).map fun d => (1 + d) ^ c.toNat
def cnts : List Kd → Option (List Int)
  | [] => some []
  | k :: ks => (cnt k).bind fun c => (cnts ks).map fun cs => c :: cs
end
/-- n things are all values of the kind -/
def full (k : Kd) (n : Nat) : Bool := decide (cnt k = some (n : Int))
def SAME : PyData := .tuple [.str "same"]
def KEEP1 : PyData := .tuple [.str "keep", .int 1]
def stl (v w : PyData) : PyData := if PyData.eqv v w then .tuple [.str "only", v] else .tuple [.str "turn", v, w]
def sgl (f : PyData) : Option (PyData × PyData) := match f with
  | .tuple [.str s, v] => if s = "only" then some (v, v) else none
  | .tuple [.str s, v, w] => if s = "turn" then some (v, w) else none
  | _ => none
def isSame (f : PyData) : Bool := match f with
  | .tuple [.str s] => decide (s = "same")
  | _ => false
def sgls : List PyData → Option (List PyData × List PyData)
  | [] => some ([], [])
  | f :: fs => (sgl f).bind fun p => (sgls fs).map fun q => (p.1 :: q.1, p.2 :: q.2)
/-- what a part of a row comes to -/
def tok (N : PyData → PyData) (x : PyData) : List PyData := match x with
  | .tuple [.str s, a] => if s = "mend" then (if isSame (N a) then [KEEP1] else match sgl (N a) with
      | some p => [.tuple [.str "cut", p.1], .tuple [.str "add", p.2]]
      | none => [.tuple [.str "mend", N a]]) else [x]
  | _ => [x]
def wIs (w : Str) (t : PyData) : Bool := match t with
  | .tuple (x :: _) => isW x w
  | _ => false
def keepN (t : PyData) : Option Int := match t with
  | .tuple [.str s, .int n] => if s = "keep" then some n else none
  | _ => none
/-- behind the rest, two that are kept as one -/
def pushK (o : List PyData) (t : PyData) : List PyData := match keepN t, o.getLast?.bind keepN with
  | some n, some m => o.dropLast ++ [.tuple [.str "keep", .int (m + n)]]
  | _, _ => o ++ [t]
abbrev St := List PyData × List PyData × List PyData
def stp (s : St) (t : PyData) : St := if wIs "cut" t then (s.1, s.2.1 ++ [t], s.2.2) else if wIs "add" t then (s.1, s.2.1, s.2.2 ++ [t]) else (pushK (s.1 ++ s.2.1 ++ s.2.2) t, [], [])
def snd1 (t : PyData) : PyData := match t with
  | .tuple [_, a] => a
  | _ => .none
def rowS (s : St) : PyData := if s.1.isEmpty then stl (.tuple (s.2.1.map snd1)) (.tuple (s.2.2.map snd1)) else .tuple [.str "row", .tuple (s.1 ++ s.2.1 ++ s.2.2)]
def rowF (T : List PyData) : PyData := rowS (T.foldl stp ([], [], []))
def rcdF (fs : List PyData) : PyData := if fs.all isSame then SAME else match sgls fs with
  | some p => stl (.tuple p.1) (.tuple p.2)
  | none => .tuple [.str "record", .tuple fs]
def choF (i : Int) (f : PyData) : PyData := match sgl f with
  | some p => stl (.tuple [.int i, p.1]) (.tuple [.int i, p.2])
  | none => .tuple [.str "choice", .int i, f]
def selS (a b : Str) (c : PyData) : Option PyData := match c with
  | .tuple [x, .str s] => if s = a ∨ s = b then some x else none
  | _ => none
def setF (k : Kd) (cs : List PyData) : PyData := if cs.isEmpty then SAME else if full k cs.length then stl (.tuple (cs.filterMap (selS "cut" "in"))) (.tuple (cs.filterMap (selS "add" "in"))) else .tuple [.str "set", .tuple cs]
def bagF (cs : List PyData) : PyData := if cs.isEmpty then SAME else .tuple [.str "bag", .tuple cs]
/-- a change of a table, a normal patch inside -/
def tabC (N : PyData → PyData) (x : PyData) : PyData := match x with
  | .tuple [u, .tuple [.str s, a]] => if s = "mend" then .tuple [u, .tuple [.str "mend", N a]] else x
  | _ => x
def prD (a b : PyData) : PyData := .tuple [a, b]
/-- the pairs that are there ahead and behind, of a change that settles its key -/
def tabQ (x : PyData) : Option (List PyData × List PyData) := match x with
  | .tuple [u, .tuple [.str s, a]] => if s = "cut" then some ([prD u a], []) else if s = "add" then some ([], [prD u a]) else (sgl a).map fun p => ([prD u p.1], [prD u p.2])
  | .tuple [_, .tuple [_]] => some ([], [])
  | _ => none
def tabS : List PyData → Option (List PyData × List PyData)
  | [] => some ([], [])
  | x :: xs => (tabQ x).bind fun p => (tabS xs).map fun q => (p.1 ++ q.1, p.2 ++ q.2)
def tabF (k : Kd) (cs : List PyData) : PyData := if cs.isEmpty then SAME else if full k cs.length then (match tabS cs with
    | some p => stl (.tuple p.1) (.tuple p.2)
    | none => .tuple [.str "table", .tuple cs]) else .tuple [.str "table", .tuple cs]
def nf0 (p : PyData) (o : List PyData → PyData) : PyData := match p with
  | .tuple (w :: r) => if isW w "same" then p else if isW w "only" then p else if isW w "turn" then p else o r
  | _ => p
def oneR (f : List PyData → PyData) (r : List PyData) : PyData := match r with
  | [.tuple qs] => f qs
  | _ => .none
def chR (f : Int → PyData → PyData) (r : List PyData) : PyData := match r with
  | [.int i, q] => f i q
  | _ => .none
mutual
/-- the normal form -/
def nf : Kd → PyData → PyData
  | .num _, p => nf0 p fun _ => .none
  | .rcd ks, p => nf0 p (oneR fun qs => rcdF (nfs ks qs))
  | .cho ks, p => nf0 p (chR fun i q => choF i (nfn ks i.toNat q))
  | .row k, p => nf0 p (oneR fun qs => rowF (qs.flatMap (tok (nf k))))
  | .set k, p => nf0 p (oneR fun qs => setF k qs)
  | .bag _, p => nf0 p (oneR fun qs => bagF qs)
  | .tab k e, p => nf0 p (oneR fun qs => tabF k (qs.map (tabC (nf e))))
def nfs : List Kd → List PyData → List PyData
  | k :: ks, q :: qs => nf k q :: nfs ks qs
  | _, _ => []
def nfn : List Kd → Nat → PyData → PyData
  | [], _, q => q
  | k :: _, 0, q => nf k q
  | _ :: ks, n + 1, q => nfn ks n q
end
theorem keepN_keep (n : Int) : keepN (.tuple [.str "keep", .int n]) = some n := by
  show (if ("keep" : Str) = "keep" then some n else none) = _
  rw [if_pos rfl]
theorem pushK_not {o : List PyData} {t : PyData} (h : keepN t = none) : pushK o t = o ++ [t] := by
  unfold pushK
  rw [h]
theorem pushK_first {t : PyData} : pushK [] t = [t] := by
  unfold pushK
  cases keepN t <;> rfl
end Km
namespace Km
open PySem L2 Cg Cgo PySem.SeqAt PySem.W
end Km
namespace Km
open PySem L2 Cg Cgo PySem.SeqAt PySem.W
end Km
namespace Km
open PySem L2 Cg Cgo PySem.SeqAt PySem.W
theorem sel_inv {a b : Str} {c x : PyData} (h : selS a b c = some x) : ∃ s : Str, c = .tuple [x, .str s] ∧ (s = a ∨ s = b) := by
  unfold selS at h
  split at h
  · rename_i y s
    by_cases q : s = a ∨ s = b
    · rw [if_pos q] at h
      injection h with h
      rw [h]
      exact ⟨s, rfl, q⟩
    · rw [if_neg q] at h
      cases h
  · cases h
end Km
namespace Km
open PySem L2 Cg Cgo PySem.SeqAt PySem.W
end Km
namespace Km
open PySem L2 Cg Cgo PySem.SeqAt PySem.W
theorem one_of {α : Type} : ∀ {cs : List (PyData × α)} {z : PyData} {s s' : α}, (cs.map (·.1)).Nodup → (z, s) ∈ cs → (z, s') ∈ cs → s = s'
  | c :: cs, z, s, s', hn, h, h' => by
    rw [List.map_cons, List.nodup_cons] at hn
    rcases List.mem_cons.mp h with e1 | h1
    · rcases List.mem_cons.mp h' with e2 | h2
      · rw [← e2] at e1; injection e1 with _ e1
      · exact absurd (List.mem_map.mpr ⟨(z, s'), h2, by rw [← e1]⟩) hn.1
    · rcases List.mem_cons.mp h' with e2 | h2
      · exact absurd (List.mem_map.mpr ⟨(z, s), h1, by rw [← e2]⟩) hn.1
      · exact one_of hn.2 h1 h2
theorem sel_mem {a b : Str} {cs : List (PyData × Str)} {z : PyData} : z ∈ (ofSet cs).filterMap (selS a b) ↔ ∃ s, (z, s) ∈ cs ∧ (s = a ∨ s = b) := by
  rw [List.mem_filterMap]
  constructor
  · rintro ⟨x, hx, e⟩
    obtain ⟨c, hc, rfl⟩ := List.mem_map.mp hx
    obtain ⟨s, e1, e2⟩ := sel_inv e
    injection e1 with e1
    injection e1 with e1 e3
    injection e3 with e3 _
    injection e3 with e3
    subst e1 e3
    exact ⟨c.2, hc, e2⟩
  · rintro ⟨s, hs, e⟩
    refine ⟨.tuple [z, .str s], List.mem_map.mpr ⟨_, hs, rfl⟩, ?_⟩
    show (if s = a ∨ s = b then some z else none) = _
    rw [if_pos e]
theorem set_set {cs : List (PyData × Str)} (hn : (cs.map (·.1)).Nodup) : SetM cs ((ofSet cs).filterMap (selS "cut" "in")) ((ofSet cs).filterMap (selS "add" "in")) := by
  have one : ∀ (a b : Str) (c : PyData × Str), c ∈ cs → (c.1 ∈ (ofSet cs).filterMap (selS a b) ↔ c.2 = a ∨ c.2 = b) := fun a b c hc => by
    rw [sel_mem]
    constructor
    · rintro ⟨s, hs, e⟩
      rw [one_of (s := c.2) (s' := s) hn hc hs]
      exact e
    · exact fun e => ⟨c.2, hc, e⟩
  refine ⟨fun c hc => ⟨one _ _ c hc, one _ _ c hc⟩, fun z hz => ?_⟩
  have no : ∀ a b : Str, z ∉ (ofSet cs).filterMap (selS a b) := fun a b h => by
    obtain ⟨s, hs, _⟩ := sel_mem.mp h
    exact hz (List.mem_map.mpr ⟨_, hs, rfl⟩)
  exact ⟨fun h => absurd h (no _ _), fun h => absurd h (no _ _)⟩
end Km
namespace Km
open PySem L2 Cg Cgo PySem.SeqAt PySem.W
end Km
namespace Km
open PySem L2 Cg Cgo PySem.SeqAt PySem.W
end Km
namespace Km
open PySem L2 Cg Cgo PySem.SeqAt PySem.W
def S1 (f : PyData) : Nat := match sgl f with
  | some p => cntA p.1 + cntA p.2
  | none => cntA f
def kp (t : PyData) : Int := (keepN t).getD 0
theorem last_eq {o : List PyData} {l : PyData} (h : o.getLast? = some l) : o = o.dropLast ++ [l] := by
  rcases List.eq_nil_or_concat o with rfl | ⟨o', t, rfl⟩
  · cases h
  · rw [List.concat_eq_append] at h ⊢
    rw [List.getLast?_concat] at h
    rw [List.dropLast_concat, Option.some.inj h]
end Km
namespace Km
open PySem L2 Cg Cgo PySem.SeqAt PySem.W
end Km
namespace Km
open PySem L2 Cg Cgo PySem.SeqAt PySem.W
def Dp (k : Kd) : Prop := ∀ (p : PyData) (m : Nat), pc isV k p = some m → p.depth ≤ 4 * k.deep ∧ (nf k p).depth ≤ 4 * k.deep
end Km
namespace Km
open PySem L2 Cg Cgo PySem.SeqAt PySem.W
end Km
namespace Km
open PySem L2 Cg Cgo PySem.SeqAt PySem.W
end Km
namespace Km
open PySem L2 Cg Cgo PySem.SeqAt PySem.W
section
variable {M : PyData → PyData → PyData → Prop} {L A B xs ys : List PyData}
theorem row_app_iff : ∀ {A xs ys : List PyData}, RowM M (A ++ B) xs ys ↔ ∃ x1 x2 y1 y2, xs = x1 ++ x2 ∧ ys = y1 ++ y2 ∧ RowM M A x1 y1 ∧ RowM M B x2 y2 := by
  intro A xs ys
  constructor
  · intro h
    generalize e : A ++ B = K at h
    induction h generalizing A with
    | nil =>
      obtain ⟨rfl, rfl⟩ := List.append_eq_nil_iff.mp e
      exact ⟨[], [], [], [], rfl, rfl, .nil, .nil⟩
    | @add a L xs ys h ih =>
      cases A with
      | nil => exact ⟨[], xs, [], a :: ys, rfl, rfl, .nil, by rw [show B = _ from e]; exact .add h⟩
      | cons x A =>
        injection e with e1 e2
        obtain ⟨x1, x2, y1, y2, rfl, rfl, h1, h2⟩ := ih e2
        rw [e1]
        exact ⟨x1, x2, a :: y1, y2, rfl, rfl, .add h1, h2⟩
    | @keep n us L xs ys hl h1 h ih =>
      cases A with
      | nil => exact ⟨[], us ++ xs, [], us ++ ys, rfl, rfl, .nil, by rw [show B = _ from e]; exact .keep hl h1 h⟩
      | cons x A =>
        injection e with e1 e2
        obtain ⟨x1, x2, y1, y2, rfl, rfl, h3, h4⟩ := ih e2
        rw [e1]
        exact ⟨us ++ x1, x2, us ++ y1, y2, by rw [List.append_assoc], by rw [List.append_assoc], .keep hl h1 h3, h4⟩
    | @cut v L xs ys h ih =>
      cases A with
      | nil => exact ⟨[], v :: xs, [], ys, rfl, rfl, .nil, by rw [show B = _ from e]; exact .cut h⟩
      | cons x A =>
        injection e with e1 e2
        obtain ⟨x1, x2, y1, y2, rfl, rfl, h1, h2⟩ := ih e2
        rw [e1]
        exact ⟨v :: x1, x2, y1, y2, rfl, rfl, .cut h1, h2⟩
    | @mend q v y L xs ys m h ih =>
      cases A with
      | nil => exact ⟨[], v :: xs, [], y :: ys, rfl, rfl, .nil, by rw [show B = _ from e]; exact .mend m h⟩
      | cons x A =>
        injection e with e1 e2
        obtain ⟨x1, x2, y1, y2, rfl, rfl, h1, h2⟩ := ih e2
        rw [e1]
        exact ⟨v :: x1, x2, y :: y1, y2, rfl, rfl, .mend m h1, h2⟩
  · rintro ⟨x1, x2, y1, y2, rfl, rfl, h1, h2⟩
    induction h1 with
    | nil => exact h2
    | add _ ih => exact .add ih
    | keep a b _ ih => rw [List.append_assoc, List.append_assoc]; exact .keep a b ih
    | cut _ ih => exact .cut ih
    | mend m _ ih => exact .mend m ih
/-- lists of parts that do the same -/
def SameM (M : PyData → PyData → PyData → Prop) (A B : List PyData) : Prop := ∀ xs ys, RowM M A xs ys ↔ RowM M B xs ys
theorem SameM.trans {C : List PyData} (h : SameM M A B) (h2 : SameM M B C) : SameM M A C := fun xs ys => (h xs ys).trans (h2 xs ys)
theorem SameM.symm (h : SameM M A B) : SameM M B A := fun xs ys => (h xs ys).symm
theorem SameM.app {C D : List PyData} (h : SameM M A B) (h2 : SameM M C D) : SameM M (A ++ C) (B ++ D) := fun xs ys => by
  rw [row_app_iff, row_app_iff]
  constructor
  · rintro ⟨x1, x2, y1, y2, e1, e2, h3, h4⟩
    exact ⟨x1, x2, y1, y2, e1, e2, (h x1 y1).mp h3, (h2 x2 y2).mp h4⟩
  · rintro ⟨x1, x2, y1, y2, e1, e2, h3, h4⟩
    exact ⟨x1, x2, y1, y2, e1, e2, (h x1 y1).mpr h3, (h2 x2 y2).mpr h4⟩
end
end Km
namespace Km
open PySem L2 Cg Cgo PySem.SeqAt PySem.W
end Km
namespace Km
open PySem L2 Cg Cgo
/-- what becomes of one item -/
inductive Edt where
  | keep
  | cut
  | mend (y : Int)
  | put (y : Int)
def H1 (x : PyData) : Edt → List PyData
  | .keep => [x]
  | .cut => []
  | .mend y => [.int y]
  | .put y => [.int y, x]
abbrev Acts := List (PyData × Edt)
def XL (as : Acts) : List PyData := as.map (·.1)
/-- an item, what the one makes of it, what the other -/
abbrev Duo := List (PyData × Edt × Edt)
def P1 (cs : Duo) : Acts := cs.map fun c => (c.1, c.2.1)
def both : Edt → Edt → Edt
  | .keep, b => b
  | a, _ => a
end Km
namespace Km
open PySem L2 Cg Cgo
/-- the first n of f -/
def tabD (f : Nat → PyData) (n : Nat) : List PyData := (List.range n).map f
section
variable {f : Nat → PyData} {n i : Nat}
theorem tabD_len : (tabD f n).length = n := by
  unfold tabD
  rw [List.length_map, List.length_range]
theorem tabD_get (h : i < n) : (tabD f n)[i]? = some (f i) := by
  unfold tabD
  rw [List.getElem?_map, List.getElem?_range h]
  rfl
theorem tabD_succ : tabD f (n + 1) = tabD f n ++ [f n] := by
  unfold tabD
  rw [List.range_succ, List.map_append]
  rfl
theorem tabD_ixL (h : i < n) : dIx (.list (tabD f n)) (.int (i : Int)) = .ret (f i) := ixL_nat (tabD_get h)
theorem tabD_ixT (h : i < n) : dIx (.tuple (tabD f n)) (.int (i : Int)) = .ret (f i) := ix_nat (tabD_get h)
theorem atI_last (xs : List PyData) (x : PyData) : atI (xs ++ [x]) (-1) = some x := by
  have hl : (xs ++ [x]).length = xs.length + 1 := by rw [List.length_append, List.length_singleton]
  have e : ((-1 : Int) + (((xs.length + 1 : Nat) : Int))).toNat = xs.length := by omega
  unfold atI ixN
  rw [hl, if_neg (by omega), if_pos (by omega), e, Option.bind_some, List.getElem?_append_right (Nat.le_refl _), Nat.sub_self]
  rfl
theorem ixL_m1 (xs : List PyData) (x : PyData) : dIx (.list (xs ++ [x])) (.int (-1)) = .ret x := by
  unfold dIx
  simp only [atI_last]
theorem ixT_m1 (xs : List PyData) (x : PyData) : dIx (.tuple (xs ++ [x])) (.int (-1)) = .ret x := by
  unfold dIx
  simp only [atI_last]
theorem tabD_lastL : dIx (.list (tabD f (n + 1))) (.int (-1)) = .ret (f n) := by
  rw [tabD_succ]
  exact ixL_m1 _ _
theorem tabD_lastT : dIx (.tuple (tabD f (n + 1))) (.int (-1)) = .ret (f n) := by
  rw [tabD_succ]
  exact ixT_m1 _ _
theorem tabD_app (h : n < 1000000) : dApp (.list (tabD f n)) (f n) = .ret (.list (tabD f (n + 1))) := by
  unfold dApp
  rw [if_pos (by show (tabD f n).length < 1000000; rw [tabD_len]; exact h), tabD_succ]
  rfl
theorem tabD_of {xs : List PyData} (h : xs.length = n) (g : ∀ i (hi : i < xs.length), xs[i] = f i) : xs = tabD f n := by
  apply List.ext_getElem?
  intro j
  by_cases hj : j < n
  · rw [tabD_get hj, List.getElem?_eq_getElem (by omega), g j (by omega)]
  · rw [List.getElem?_eq_none (by omega), List.getElem?_eq_none (by rw [tabD_len]; omega)]
end
theorem forN_at {α S : Type} {f : α → S → Tr S} (st : Nat → S) : ∀ (l : List α) (k : Nat), (∀ i (h : i < l.length), f l[i] (st (k + i)) = .ret (st (k + i + 1))) → forN f l (st k) = .ret (st (k + l.length))
  | [], k, _ => rfl
  | x :: xs, k, h => by
    rw [forN, show f x (st k) = .ret (st (k + 1)) from h 0 (Nat.zero_lt_succ _), Tr.ret_bind, forN_at st xs (k + 1) fun i hi => ?_]
    · rw [List.length_cons, show k + 1 + xs.length = k + (xs.length + 1) by omega]
    · have := h (i + 1) (Nat.succ_lt_succ hi)
      rw [show k + 1 + i = k + (i + 1) by omega]
      exact this
theorem forC_at' {α β S : Type} {r : PyData → β} {f : α → S → Tr (Ct S)} {g : S → Tr β} (st : Nat → S) : ∀ (l : List α) (k : Nat), (∀ i (h : i < l.length), f l[i] (st (k + i)) = .ret (.nx (st (k + i + 1)))) → forC r f g l (st k) = g (st (k + l.length))
  | [], k, _ => rfl
  | x :: xs, k, h => by
    rw [forC, show f x (st k) = .ret (.nx (st (k + 1))) from h 0 (Nat.zero_lt_succ _), Tr.ret_bind]
    show forC r f g xs (st (k + 1)) = _
    rw [forC_at' st xs (k + 1) fun i hi => ?_]
    · rw [List.length_cons, show k + 1 + xs.length = k + (xs.length + 1) by omega]
    · have := h (i + 1) (Nat.succ_lt_succ hi)
      rw [show k + 1 + i = k + (i + 1) by omega]
      exact this
section
variable {wt : PyData → Int} {d : PyData → PyData → Int}
theorem edr_nn : edr wt d [] [] = 0 := by rw [edr]
theorem edr_cn (a : PyData) (as : List PyData) : edr wt d (a :: as) [] = edr wt d as [] + wt a := by rw [edr]
theorem edr_nc (b : PyData) (bs : List PyData) : edr wt d [] (b :: bs) = edr wt d [] bs + wt b := by rw [edr]
theorem edr_cc (a b : PyData) (as bs : List PyData) : edr wt d (a :: as) (b :: bs) = min (min (edr wt d as (b :: bs) + wt a) (edr wt d (a :: as) bs + wt b)) (edr wt d as bs + d a b) := by rw [edr]
theorem edr_nonneg : ∀ (as bs : List PyData), (∀ a ∈ as, 0 ≤ wt a) → (∀ b ∈ bs, 0 ≤ wt b) → (∀ a ∈ as, ∀ b ∈ bs, 0 ≤ d a b) → 0 ≤ edr wt d as bs
  | [], [], _, _, _ => by rw [edr_nn]; omega
  | a :: as, [], ha, hb, hd => by
    rw [edr_cn]
    have h1 := edr_nonneg as [] (fun x hx => ha x (List.mem_cons_of_mem _ hx)) hb fun x hx => hd x (List.mem_cons_of_mem _ hx)
    have h2 := ha a List.mem_cons_self
    omega
  | [], b :: bs, ha, hb, hd => by
    rw [edr_nc]
    have h1 := edr_nonneg [] bs ha (fun x hx => hb x (List.mem_cons_of_mem _ hx)) fun x hx => nomatch hx
    have h2 := hb b List.mem_cons_self
    omega
  | a :: as, b :: bs, ha, hb, hd => by
    rw [edr_cc]
    have h1 := edr_nonneg as (b :: bs) (fun x hx => ha x (List.mem_cons_of_mem _ hx)) hb fun x hx => hd x (List.mem_cons_of_mem _ hx)
    have h2 := edr_nonneg (a :: as) bs ha (fun x hx => hb x (List.mem_cons_of_mem _ hx)) fun x hx y hy => hd x hx y (List.mem_cons_of_mem _ hy)
    have h3 := edr_nonneg as bs (fun x hx => ha x (List.mem_cons_of_mem _ hx)) (fun x hx => hb x (List.mem_cons_of_mem _ hx)) fun x hx y hy => hd x (List.mem_cons_of_mem _ hx) y (List.mem_cons_of_mem _ hy)
    have w1 := ha a List.mem_cons_self
    have w2 := hb b List.mem_cons_self
    have w3 := hd a List.mem_cons_self b List.mem_cons_self
    omega
termination_by as bs => as.length + bs.length
theorem edr_self : ∀ (as : List PyData), (∀ a ∈ as, 0 ≤ wt a) → (∀ a ∈ as, ∀ b ∈ as, 0 ≤ d a b) → (∀ a ∈ as, d a a = 0) → edr wt d as as = 0
  | [], _, _, _ => edr_nn
  | a :: as, ha, hd, h0 => by
    have h1 := edr_self as (fun x hx => ha x (List.mem_cons_of_mem _ hx)) (fun x hx y hy => hd x (List.mem_cons_of_mem _ hx) y (List.mem_cons_of_mem _ hy)) fun x hx => h0 x (List.mem_cons_of_mem _ hx)
    have h2 := edr_nonneg (a :: as) (a :: as) ha ha hd
    rw [edr_cc] at h2 ⊢
    rw [h1, h0 a List.mem_cons_self] at h2 ⊢
    omega
/-- by beginnings -/
def eT (wt : PyData → Int) (d : PyData → PyData → Int) (xs ys : List PyData) (x y : Nat) : Int := edr wt d (xs.take x).reverse (ys.take y).reverse
theorem take_rev {xs : List PyData} {x : Nat} (h : x < xs.length) : (xs.take (x + 1)).reverse = xs[x] :: (xs.take x).reverse := by
  rw [List.take_succ_eq_append_getElem h, List.reverse_append]
  rfl
variable {xs ys : List PyData} {x y : Nat}
theorem eT_00 : eT wt d xs ys 0 0 = 0 := edr_nn
theorem eT_s0 (h : x < xs.length) : eT wt d xs ys (x + 1) 0 = eT wt d xs ys x 0 + wt xs[x] := by
  unfold eT
  rw [take_rev h]
  exact edr_cn _ _
theorem eT_0s (h : y < ys.length) : eT wt d xs ys 0 (y + 1) = eT wt d xs ys 0 y + wt ys[y] := by
  unfold eT
  rw [take_rev h]
  exact edr_nc _ _
theorem eT_ss (h : x < xs.length) (g : y < ys.length) : eT wt d xs ys (x + 1) (y + 1) = min (min (eT wt d xs ys x (y + 1) + wt xs[x]) (eT wt d xs ys (x + 1) y + wt ys[y])) (eT wt d xs ys x y + d xs[x] ys[y]) := by
  unfold eT
  rw [take_rev h, take_rev g]
  exact edr_cc _ _ _ _
theorem eT_all : eT wt d xs ys xs.length ys.length = edr wt d xs.reverse ys.reverse := by
  unfold eT
  rw [List.take_length, List.take_length]
theorem eT_nonneg (ha : ∀ a ∈ xs, 0 ≤ wt a) (hb : ∀ b ∈ ys, 0 ≤ wt b) (hd : ∀ a ∈ xs, ∀ b ∈ ys, 0 ≤ d a b) : 0 ≤ eT wt d xs ys x y :=
  edr_nonneg _ _ (fun a h => ha a (List.mem_of_mem_take (List.mem_reverse.mp h))) (fun b h => hb b (List.mem_of_mem_take (List.mem_reverse.mp h))) fun a h b g => hd a (List.mem_of_mem_take (List.mem_reverse.mp h)) b (List.mem_of_mem_take (List.mem_reverse.mp g))
end
end Km
namespace Cg
open PySem PySem.Spec PyProof.Rows L2
namespace Hk
theorem errC_of {K : PySem.W.Frag} {C : Addr} (h : excG (fun a => K.lookup a) C veB "ValueError.__new__" = true) (hb : baseG (fun a => K.lookup a) C = true) : Cgx.ErrC K C := by
  have hx := h
  unfold excG at hx
  split at hx
  · rename_i d cd sl ho
    have ho' : K.lookup C = some ⟨.type "type", d, .cls cd, sl⟩ := ho
    unfold baseG at hb
    rw [ho] at hb
    have hb' : (!cd.mro.isEmpty && cd.mro.contains (Value.type "BaseException")) = true := hb
    rw [Bool.and_eq_true] at hb'
    have ty : PySem.W.typeIn K (.ref C) = some (.type "type") := by
      show Option.map (·.cls) (K.lookup C) = _
      rw [ho']
      rfl
    refine ⟨(excG_eq K C _ _).trans h, ?_, ?_, ty⟩
    · show (match K.lookup C with
        | some ⟨_, _, .func _, _⟩ => true
        | some ⟨_, _, .cls _, _⟩ => PySem.W.specialIn K (.ref C) "__call__" == some (some (.builtin "type.__call__"))
        | _ => false) = true
      rw [ho']
      show (PySem.W.specialIn K (.ref C) "__call__" == some (some (.builtin "type.__call__"))) = true
      unfold PySem.W.specialIn
      rw [ty]
      show (fastLookup "type" "__call__" == some (some (.builtin "type.__call__"))) = true
      decide +kernel
    · show ((match K.lookup C with
        | some ⟨_, _, .cls cd, _⟩ => some cd
        | _ => none).bind fun cd => if cd.mro.isEmpty then none else some (cd.mro.contains (Value.type "BaseException"))) = some true
      rw [ho']
      show (if cd.mro.isEmpty = true then none else some (cd.mro.contains (Value.type "BaseException"))) = some true
      have e1 : cd.mro.isEmpty = false := by
        have := hb'.1
        cases q : cd.mro.isEmpty with
        | false => rfl
        | true => rw [q] at this; cases this
      rw [e1, hb'.2]
      rfl
  · cases hx
section
variable {c : Cfg} {w : World} {K : PySem.W.Frag} {h : Heap} {mg : Str → Option Value}
theorem Says.b (S : Says c w K) : (c.free.all fun x => freeB (fun a => K.lookup a) x) = true ∧ (c.nums.all fun q => intB (fun a => K.lookup a) q) = true ∧ (c.tups.all fun q => tupB (fun a => K.lookup a) q) = true ∧ (c.dics.all fun q => dicB (fun a => K.lookup a) q) = true ∧ (c.errs.all fun x => errB (fun a => K.lookup a) x) = true := by
  have e := congrArg (fun z : Al => z.2.2) S
  have e2 : ((c.free.all fun x => freeB (fun a => K.lookup a) x) && ((c.nums.all fun q => intB (fun a => K.lookup a) q) && ((c.tups.all fun q => tupB (fun a => K.lookup a) q) && ((c.dics.all fun q => dicB (fun a => K.lookup a) q) && c.errs.all fun x => errB (fun a => K.lookup a) x)))) = true := e
  simpa only [Bool.and_eq_true] using e2
theorem glo_ok (X : K.In h) (N : h.Ns mainGlobals mg) {x : Str} {a : Addr} (e : glo (fun a => K.lookup a) x = some a) : mg x = some (.ref a) := by
  refine PySem.W.mg_of X N ?_
  unfold glo at e
  rw [nsG_eq]
  split at e
  · rename_i b hb
    cases e
    exact hb
  · cases e
theorem Says.defAt (S : Says c w K) (X : K.In h) (N : h.Ns mainGlobals mg) (i : Nat) {x : Str} {st : Stmt} {ps : List Str} (e : c.defs[i]? = some (x, st))
    (hb : ∀ (kV doc pm : Value) (an : Option Addr) (cdv ct : Value) (us : List Value), us.length = ps.length → bindArgs (PySem.W.fnOf x x (defArgs st) (defBody st) (defScope st) .none kV doc pm an cdv ct) ⟨us, []⟩ = pure (ps.zip us)) : Nonempty (DefAt K mg x st ps) := by
  have e1 : c.defs.map (fun q => defV (fun a => K.lookup a) q.1) = c.defs.map defW := congrArg (fun z : Al => z.1) S
  have e2 : (c.defs.map (fun q => defV (fun a => K.lookup a) q.1))[i]? = (c.defs.map defW)[i]? := by rw [e1]
  rw [List.getElem?_map, List.getElem?_map, e] at e2
  have e3 : defV (fun a => K.lookup a) x = defW (x, st) := Option.some.inj e2
  unfold defV at e3
  split at e3
  · rename_i f hf
    split at e3
    · rename_i oc od fd osl ho
      split at e3
      · rename_i hc
        obtain ⟨n1, n2, n3, n4, n5, n6, n7, n8, n9, n10, n11, n12, n13, n14, n15⟩ := fd
        have e4 : (some (n1, n2, n3, n4, n5, n6, n7, n8, n15) : FnV) = some (x, x, defArgs st, .stmts (defBody st), defScope st, mainGlobals, [], .none, builtinsNs) := e3
        simp only [Option.some.injEq, Prod.mk.injEq] at e4
        obtain ⟨h1, h2, h3, h4, h5, h6, h7, h8, h9⟩ := e4
        have h1 := h1.symm
        have h2 := h2.symm
        subst h1 h2 h3 h4 h5 h6 h7 h8 h9
        have kp : PySem.W.keepIn K (.ref f) = true := by
          show (match K.lookup f with
            | some ⟨_, _, .func _, _⟩ => true
            | some ⟨_, _, .cls _, _⟩ => PySem.W.specialIn K (.ref f) "__call__" == some (some (.builtin "type.__call__"))
            | _ => false) = true
          rw [show K.lookup f = _ from ho]
        have F := fun_mk (x := x) (qual := x) (st := st) (show K.lookup f = some ⟨oc, od, .func (PySem.W.fnOf x x (defArgs st) (defBody st) (defScope st) .none n9 n10 n11 n12 n13 n14), osl⟩ from ho) ((codeG_eq K _ _).trans hc) kp
        exact ⟨⟨f, _, F, glo_ok X N hf, F.binds hb⟩⟩
      · cases e3
    · cases e3
  · cases e3
theorem Says.free (S : Says c w K) (X : K.In h) (N : h.Ns mainGlobals mg) (i : Nat) {x : Str} (e : c.free[i]? = some x := by rfl) : mg x = none := by
  have h1 := List.all_eq_true.mp S.b.1 x (List.mem_of_getElem? e)
  refine PySem.W.mg_none_of X N ?_
  rw [nsG_eq]
  unfold freeB at h1
  split at h1
  · assumption
  · cases h1
theorem Says.int (S : Says c w K) (X : K.In h) (N : h.Ns mainGlobals mg) (i : Nat) {x : Str} {n : Int} (e : c.nums[i]? = some (x, n) := by rfl) : ∃ t, mg x = some (.int n t) := by
  have h1 := List.all_eq_true.mp S.b.2.1 (x, n) (List.mem_of_getElem? e)
  unfold intB at h1
  split at h1
  · rename_i j t hj
    have ej : j = n := of_decide_eq_true h1
    rw [ej] at hj
    exact ⟨t, PySem.W.mg_of X N hj⟩
  · cases h1
theorem Says.tup (S : Says c w K) (X : K.In h) (N : h.Ns mainGlobals mg) (i : Nat) {x : Str} {vs : List V} (e : c.tups[i]? = some (x, vs) := by rfl) : ∃ p, mg x = some (.ref p) ∧ GtAt K p vs := by
  have h1 := List.all_eq_true.mp S.b.2.2.1 (x, vs) (List.mem_of_getElem? e)
  unfold tupB at h1
  split at h1
  · rename_i a ha
    split at h1
    · rename_i k its n sl ho
      simp only [Bool.and_eq_true, decide_eq_true_eq] at h1
      obtain ⟨rfl, h2, h3⟩ := h1
      exact ⟨a, glo_ok X N ha, ⟨its, n, sl, ho, by rw [sizeLine_eq]; omega, He.relAll_ok h3⟩⟩
    · cases h1
  · cases h1
theorem Says.err (S : Says c w K) (X : K.In h) (N : h.Ns mainGlobals mg) (i : Nat) {x : Str} (e : c.errs[i]? = some x := by rfl) : ∃ C, mg x = some (.ref C) ∧ Cgx.ErrC K C := by
  have h1 := List.all_eq_true.mp S.b.2.2.2.2 x (List.mem_of_getElem? e)
  unfold errB at h1
  split at h1
  · rename_i C hC
    rw [Bool.and_eq_true] at h1
    exact ⟨C, glo_ok X N hC, errC_of h1.1 h1.2⟩
  · cases h1
/-- an entry of a dict of the top -/
def DwAt (K : PySem.W.Frag) (mg : Str → Option Value) (p : Addr) (k : Str) : Dw → Prop
  | .glo y => ∃ f, mg y = some (.ref f) ∧ PySem.W.nsIn K p k = some (some (.ref f))
  | .int n => ∃ t, PySem.W.nsIn K p k = some (some (.int n t))
theorem Says.dic (S : Says c w K) (X : K.In h) (N : h.Ns mainGlobals mg) (i : Nat) {x : Str} {kvs : List (Str × Dw)} (e : c.dics[i]? = some (x, kvs) := by rfl) :
    ∃ p, mg x = some (.ref p) ∧ (∃ es n, K.lookup p = some ⟨.type "dict", none, .dict es n, #[]⟩ ∧ PySem.W.KeysLit w.params es.toList) ∧ ∀ q ∈ kvs, DwAt K mg p q.1 q.2 := by
  have h1 := List.all_eq_true.mp S.b.2.2.2.1 (x, kvs) (List.mem_of_getElem? e)
  have e1 : c.dics.map (fun q => dicV (fun a => K.lookup a) q.1) = c.dics.map fun q => some (He.keysIn w.params (q.2.map Prod.fst)) := congrArg (fun z : Al => z.2.1) S
  have e2 : (c.dics.map (fun q => dicV (fun a => K.lookup a) q.1))[i]? = (c.dics.map fun q => some (He.keysIn w.params (q.2.map Prod.fst)))[i]? := by rw [e1]
  rw [List.getElem?_map, List.getElem?_map, e] at e2
  have e3 : dicV (fun a => K.lookup a) x = some (He.keysIn w.params (kvs.map Prod.fst)) := Option.some.inj e2
  unfold dicB at h1
  unfold dicV at e3
  split at h1
  · rename_i a ha
    rw [ha] at e3
    refine ⟨a, glo_ok X N ha, ?_, fun q hq => ?_⟩
    · dsimp only at e3
      split at e3
      · rename_i k es n sl ho
        split at e3
        · rename_i hd
          simp only [Bool.and_eq_true, decide_eq_true_eq] at hd
          obtain ⟨rfl, h3⟩ := hd
          have e4 : sl = #[] := Array.isEmpty_iff.mp h3
          subst e4
          exact ⟨es, n, ho, He.keysLit_of (Option.some.inj e3)⟩
        · cases e3
      · cases e3
    · have h2 := List.all_eq_true.mp h1 q hq
      obtain ⟨k, d⟩ := q
      dsimp only at h2
      split at h2
      · rename_i u hu
        cases d with
        | glo y =>
          cases u with
          | ref b =>
            have h3 : (match glo (fun a => K.lookup a) y with
              | some c => decide (b = c)
              | none => false) = true := h2
            split at h3
            · rename_i c' hc'
              have eb : b = c' := of_decide_eq_true h3
              subst eb
              exact ⟨b, glo_ok X N hc', hu⟩
            · cases h3
          | _ => cases h2
        | int n =>
          cases u with
          | int j t =>
            have ej : n = j := of_decide_eq_true h2
            subst ej
            exact ⟨t, hu⟩
          | _ => cases h2
      · cases h2
  · cases h1
/-- the names of a dict's defs stand for these -/
def TabOk (mg : Str → Option Value) : List (Str × Dw) → List (Str × Addr) → Prop
  | [], [] => True
  | q :: l, t :: r => (q.1 = t.1 ∧ ∃ y, q.2 = .glo y ∧ mg y = some (.ref t.2)) ∧ TabOk mg l r
  | _, _ => False
theorem tabOk_at {p : Addr} : ∀ {kvs : List (Str × Dw)} {tab : List (Str × Addr)}, TabOk mg kvs tab → (∀ q ∈ kvs, DwAt K mg p q.1 q.2) → ∀ t ∈ tab, PySem.W.nsIn K p t.1 = some (some (.ref t.2))
  | [], [], _, _ => fun _ m => absurd m List.not_mem_nil
  | a :: l, b :: r, z, hq => by
    obtain ⟨⟨e1, y, e2, e3⟩, z2⟩ := z
    intro t m
    rcases List.mem_cons.mp m with rfl | m
    · have h2 := hq a List.mem_cons_self
      rw [e2] at h2
      obtain ⟨f, h3, h4⟩ := h2
      rw [e3] at h3
      cases h3
      rw [← e1]
      exact h4
    · exact tabOk_at z2 (fun q m => hq q (List.mem_cons_of_mem _ m)) t m
theorem fdAt_of {p : Addr} (hx : ∃ es n, K.lookup p = some ⟨.type "dict", none, .dict es n, #[]⟩ ∧ PySem.W.KeysLit w.params es.toList) {kvs : List (Str × Dw)} {tab : List (Str × Addr)} (hq : ∀ q ∈ kvs, DwAt K mg p q.1 q.2) (z : TabOk mg kvs tab) : FdAt w K p tab := ⟨hx, tabOk_at z hq⟩
theorem kdAt_of {p : Addr} (hx : ∃ es n, K.lookup p = some ⟨.type "dict", none, .dict es n, #[]⟩ ∧ PySem.W.KeysLit w.params es.toList) {tab : List (Str × Int)} (hq : ∀ q ∈ tab.map (fun z => (z.1, Dw.int z.2)), DwAt K mg p q.1 q.2) : KdAt w K p tab := ⟨hx, fun q m => hq (q.1, .int q.2) (List.mem_map.mpr ⟨q, m, rfl⟩)⟩
end
end Hk
theorem walk_atE {l : PySem.W.OpenLaw} {n : Nat} {q : Program} {loose : List Str} {XP : (Str → Option Value) → Heap → Prop} {YP : World → Heap → Prop} {d : DefRec} {x : Str} (hn : l.most = some n) (hs : n ≤ sizeLine) (hdf : d.params.defaults = [])
    (F : ∀ (w : World) (mg : Str → Option Value) (fa : Addr) (h : Heap), YP w h → h.Ns mainGlobals mg → mg d.name = some (.ref fa) → ∃ (K : PySem.W.Frag) (fd : FuncData) (sp : Sp), K.In h ∧ (∀ (s : Shared) (u : Value), K.In s.heap → BindsTo s fd ⟨[u], []⟩ [(x, u)]) ∧
      (∀ (H : Hp) (a : Addr) (ns : List Int), ns.length ≤ n → SqL K H a (ns.map V.int) → sp [.ref a] H (fun v _ => v = .bl true) fun _ _ _ => False) ∧ ∀ base : Heap, K.In base → base.Ns mainGlobals mg → FnAt callerA l.prog w K mg base fa fd [x] sp) : PySem.W.WalkO q loose XP YP l.row.toRowW d [] (fun f vs => PySem.call f vs) := by
  refine Att.attach_call hn hdf fun w _ s mg mb fa _ _ _ _ a vs ns G Y _ _ _ hmg ha hi hl hgen => ?_
  obtain ⟨K, fd, sp, KX, hb, hsp, hF⟩ := F w mg fa _ Y G.T.g hmg
  -- the script alone is tracked, unless it is the module's own
  have ex : ∃ H : Hp, SqL K H a (ns.map V.int) ∧ HOk l.prog w H s.heap ∧ ∀ b o, s.heap.get? b = some o → (H b = none ∧ (∀ u, K.lookup b = some u → True)) ∨ (b = a ∧ K.lookup a = none ∧ ∃ u, H b = some (.frz o u)) := by
    cases hk : K.lookup a with
    | some o =>
      have e := KX a o hk
      rw [ha] at e
      cases e
      exact ⟨fun _ => none, .inr ⟨_, vs.toArray, _, hk, rfl, rfl, rfl, by rw [List.size_toArray, hi.length]; exact Nat.le_trans hl hs, by simpa using vals_ints hi⟩, fun b u z => (nomatch z), fun b o _ => .inl ⟨rfl, fun _ _ => trivial⟩⟩
    | none =>
      let z : HO := .frz { cls := .type "list", data := .seq vs.toArray } (.lst (ns.map V.int))
      refine ⟨upd (fun _ => none) a z, .inl (.inr ⟨_, upd_same⟩), fun b u hz => ?_, fun b o ho => ?_⟩
      · by_cases hba : b = a
        · subst hba
          rw [upd_same] at hz
          cases hz
          exact ⟨ha, by rw [List.length_map]; exact Nat.le_trans hl hs, vs, _, vals_ints hi, ha⟩
        · rw [upd_ne hba] at hz
          cases hz
      · by_cases hba : b = a
        · subst hba
          rw [ha] at ho
          cases ho
          exact .inr ⟨rfl, rfl, _, upd_same⟩
        · exact .inl ⟨upd_ne hba, fun _ _ => trivial⟩
  obtain ⟨H, hS, hok, hall⟩ := ex
  have stay : ∀ {b : Addr} {o : Obj}, s.heap.get? b = some o → (∀ xs m, o.data ≠ .seq xs m) → (hidT s.heap H).get? b = some o := fun {b o} e nd => hidT_get e (by
    rcases hall b o e with ⟨z, _⟩ | ⟨rfl, _, _⟩
    · exact z
    · rw [ha] at e
      cases e
      exact absurd rfl (nd _ _))
  have kns : ∀ {b : Addr} {m : Str → Option Value}, s.heap.Ns b m → (hidT s.heap H).Ns b m := fun {b m} ⟨o, es, ep, e, hd, r⟩ => ⟨o, es, ep, stay e (fun xs m z => by rw [hd] at z; cases z), hd, r⟩
  have kin : K.In (hidT s.heap H) := fun b o e => hidT_get (KX b o e) (by
    rcases hall b o (KX b o e) with ⟨z, _⟩ | ⟨rfl, z, _⟩
    · exact z
    · rw [e] at z
      cases z)
  have hlim := G.T.nolimit
  have md : Mod K mg (hidT s.heap H) := ⟨kin, kns G.T.g, ⟨mb, kns G.T.b, G.T.builtins⟩, let ⟨mc, z1, z2⟩ := hlim; ⟨mc, kns z1, z2⟩⟩
  have e0 : Env0 l.prog w K mg (hidT s.heap H) callerA [] s H := { frames := rfl, mod := md, bs := fun b o e => of_hidT e, bsz := Nat.le_of_eq (hidT_size _ _), funs := trivial, frf := fun b z => absurd (show b ∈ ([] : List Addr) from z) (by simp), hok := hok, bare := .of_eq hgen }
  refine codeAny_mono (hF _ kin (kns G.T.g) [] s H [.ref a] [.ref a] _ _ e0 (hb s (.ref a) KX) (.cons rfl .nil) (hsp H a ns hl hS)) fun r s' h => ?_
  match r, h with
  | .ok (.ret u), ⟨v, H', os, br, un, hok', rv, hv⟩ =>
    obtain rfl : v = .bl true := hv
    obtain rfl : u = Value.bool true := rv
    refine ⟨rfl, OldK.of_keep fun b o e => ?_, os, br⟩
    rcases hall b o e with ⟨z, _⟩ | ⟨rfl, _, u, z⟩
    · exact un.keep b o e z (fun y => absurd (show b ∈ ([] : List Addr) from y) (by simp)) (by simp)
    · exact (hok' _ _ (un.frzs _ _ _ z)).1
end Cg
namespace K27
open PySem PySem.Spec PyProof.Rows L2 Cg
def tab_FEWEST_INSIDE : List (Str × Int) := [("record", 1), ("choice", 2)]
structure Txt (w : World) (K : PySem.W.Frag) (mg : Str → Option Value) where
  d_check_kind : DefAt K mg "check_kind" s_check_kind ["kind"]
  d_is_whole : DefAt K mg "is_whole" s_is_whole ["thing"]
  d_is_within : DefAt K mg "is_within" s_is_within ["thing", "low", "high"]
  d_is_tuple : DefAt K mg "is_tuple" s_is_tuple ["thing", "many"]
  d_inner_kinds : DefAt K mg "inner_kinds" s_inner_kinds ["kind"]
  d_count_kinds : DefAt K mg "count_kinds" s_count_kinds ["kind", "deep"]
  d_is_value : DefAt K mg "is_value" s_is_value ["kind", "value"]
  d_weigh : DefAt K mg "weigh" s_weigh ["kind", "value", "limit"]
  d_heft : DefAt K mg "heft" s_heft ["kind", "value"]
  d_value_parts : DefAt K mg "value_parts" s_value_parts ["kind", "value"]
  d_record_parts : DefAt K mg "record_parts" s_record_parts ["kind", "value"]
  d_choice_parts : DefAt K mg "choice_parts" s_choice_parts ["kind", "value"]
  d_item_parts : DefAt K mg "item_parts" s_item_parts ["kind", "value"]
  d_bag_parts : DefAt K mg "bag_parts" s_bag_parts ["kind", "value"]
  d_table_parts : DefAt K mg "table_parts" s_table_parts ["kind", "value"]
  d_is_ordered : DefAt K mg "is_ordered" s_is_ordered ["kind", "value"]
  d_is_rising : DefAt K mg "is_rising" s_is_rising ["values"]
  d_gap : DefAt K mg "gap" s_gap ["kind", "v", "w"]
  d_climb : DefAt K mg "climb" s_climb ["kind", "v", "w"]
  d_next_heights : DefAt K mg "next_heights" s_next_heights ["kind", "item", "w", "lefts", "above"]
  d_paper_of : DefAt K mg "paper_of" s_paper_of ["kind", "v", "w"]
  d_has_turn_alone : DefAt K mg "has_turn_alone" s_has_turn_alone ["kind", "v", "w"]
  d_worth_of : DefAt K mg "worth_of" s_worth_of ["kind", "v", "w", "paper"]
  d_turn_worth : DefAt K mg "turn_worth" s_turn_worth ["kind", "v", "w"]
  d_record_worth : DefAt K mg "record_worth" s_record_worth ["kind", "v", "w", "paper"]
  d_choice_worth : DefAt K mg "choice_worth" s_choice_worth ["kind", "v", "w", "paper"]
  d_row_worth : DefAt K mg "row_worth" s_row_worth ["kind", "v", "w", "paper"]
  d_is_grid : DefAt K mg "is_grid" s_is_grid ["thing", "many", "wide"]
  d_goes_down : DefAt K mg "goes_down" s_goes_down ["heights", "downs"]
  d_goes_left : DefAt K mg "goes_left" s_goes_left ["heights", "lefts"]
  d_goes_across : DefAt K mg "goes_across" s_goes_across ["heights", "worths"]
  d_lot_worth : DefAt K mg "lot_worth" s_lot_worth ["kind", "v", "w", "paper"]
  d_table_worth : DefAt K mg "table_worth" s_table_worth ["kind", "v", "w", "paper"]
  d_packed : DefAt K mg "packed" s_packed ["parts"]
  d_distance : DefAt K mg "distance" s_distance ["kind", "v", "w"]
  d_least : DefAt K mg "least" s_least ["kind", "v", "w"]
  d_bound : DefAt K mg "bound" s_bound ["kind", "v", "w"]
  d_worth : DefAt K mg "worth" s_worth ["kind", "v", "w", "paper"]
  d_check_values : DefAt K mg "check_values" s_check_values ["kind", "v", "w"]
  d_least_patch : DefAt K mg "least_patch" s_least_patch ["kind", "v", "w"]
  d_least_parts : DefAt K mg "least_parts" s_least_parts ["kind", "v", "w"]
  d_last_part : DefAt K mg "last_part" s_last_part ["kind", "v", "w", "heights"]
  d__law_box : DefAt K mg "_law_box" s__law_box ["script"]
  d__law_take : DefAt K mg "_law_take" s__law_take ["box", "m"]
  d__law_pick : DefAt K mg "_law_pick" s__law_pick ["box", "menu"]
  d__law_weight : DefAt K mg "_law_weight" s__law_weight ["kind", "v"]
  d__law_made : DefAt K mg "_law_made" s__law_made ["kind", "p", "v"]
  d__law_made_row : DefAt K mg "_law_made_row" s__law_made_row ["kind", "parts", "v"]
  d__law_cost : DefAt K mg "_law_cost" s__law_cost ["kind", "p"]
  d__law_distance : DefAt K mg "_law_distance" s__law_distance ["kind", "v", "w", "known"]
  d__law_far : DefAt K mg "_law_far" s__law_far ["kind", "v", "w", "known"]
  d__law_edited : DefAt K mg "_law_edited" s__law_edited ["box", "v", "fresh"]
  d_law : DefAt K mg "law" s_law ["script"]
  z_abs : mg "abs" = none
  z_all : mg "all" = none
  z_any : mg "any" = none
  z_bool : mg "bool" = none
  z_enumerate : mg "enumerate" = none
  z_int : mg "int" = none
  z_isinstance : mg "isinstance" = none
  z_len : mg "len" = none
  z_list : mg "list" = none
  z_max : mg "max" = none
  z_min : mg "min" = none
  z_range : mg "range" = none
  z_sum : mg "sum" = none
  z_tuple : mg "tuple" = none
  z_zip : mg "zip" = none
  t_MOST_DEEP : Tok
  k_MOST_DEEP : mg "MOST_DEEP" = some (.int 5 t_MOST_DEEP)
  t_MOST_INSIDE : Tok
  k_MOST_INSIDE : mg "MOST_INSIDE" = some (.int 4 t_MOST_INSIDE)
  t_MOST_KINDS : Tok
  k_MOST_KINDS : mg "MOST_KINDS" = some (.int 20 t_MOST_KINDS)
  t_MOST_NUMBER : Tok
  k_MOST_NUMBER : mg "MOST_NUMBER" = some (.int 1000 t_MOST_NUMBER)
  t_MOST_WEIGHT : Tok
  k_MOST_WEIGHT : mg "MOST_WEIGHT" = some (.int 400 t_MOST_WEIGHT)
  p_KEEP : Addr
  g_KEEP : mg "KEEP" = some (.ref p_KEEP)
  gt_KEEP : GtAt K p_KEEP [V.str "keep", V.int 1]
  p_SAME : Addr
  g_SAME : mg "SAME" = some (.ref p_SAME)
  gt_SAME : GtAt K p_SAME [V.str "same"]
  cl : Ek → Addr
  e_BadKind : Cgx.ErrC K (cl Ek.kind)
  g_BadKind : mg "BadKind" = some (.ref (cl Ek.kind))
  e_BadValue : Cgx.ErrC K (cl Ek.value)
  g_BadValue : mg "BadValue" = some (.ref (cl Ek.value))
  e_CorrigendaError : Cgx.ErrC K (cl Ek.base)
  g_CorrigendaError : mg "CorrigendaError" = some (.ref (cl Ek.base))
  p_FEWEST_INSIDE : Addr
  g_FEWEST_INSIDE : mg "FEWEST_INSIDE" = some (.ref p_FEWEST_INSIDE)
  kd_FEWEST_INSIDE : KdAt w K p_FEWEST_INSIDE tab_FEWEST_INSIDE
  p_VALUE_PARTS : Addr
  g_VALUE_PARTS : mg "VALUE_PARTS" = some (.ref p_VALUE_PARTS)
  fd_VALUE_PARTS : FdAt w K p_VALUE_PARTS [("record", d_record_parts.f), ("choice", d_choice_parts.f), ("row", d_item_parts.f), ("set", d_item_parts.f), ("bag", d_bag_parts.f), ("table", d_table_parts.f)]
  p_WORTHS : Addr
  g_WORTHS : mg "WORTHS" = some (.ref p_WORTHS)
  fd_WORTHS : FdAt w K p_WORTHS [("record", d_record_worth.f), ("choice", d_choice_worth.f), ("row", d_row_worth.f), ("set", d_lot_worth.f), ("bag", d_lot_worth.f), ("table", d_table_worth.f)]
def fn_VALUE_PARTS : List Str := ["record", "choice", "row", "set", "bag", "table"]
def fn_WORTHS : List Str := ["record", "choice", "row", "set", "bag", "table"]
def tab_VALUE_PARTS {w : World} {K : PySem.W.Frag} {mg : Str → Option Value} (T : Txt w K mg) : List (Str × Addr) := [("record", T.d_record_parts.f), ("choice", T.d_choice_parts.f), ("row", T.d_item_parts.f), ("set", T.d_item_parts.f), ("bag", T.d_bag_parts.f), ("table", T.d_table_parts.f)]
def tab_WORTHS {w : World} {K : PySem.W.Frag} {mg : Str → Option Value} (T : Txt w K mg) : List (Str × Addr) := [("record", T.d_record_worth.f), ("choice", T.d_choice_worth.f), ("row", T.d_row_worth.f), ("set", T.d_lot_worth.f), ("bag", T.d_lot_worth.f), ("table", T.d_table_worth.f)]
def m_is_whole (v_thing : PyData) : Tr PyData :=
  if (isInt v_thing) then (asB (PyData.bool (isBool v_thing))).bind fun x1 => Tr.ret (PyData.bool (!x1)) else Tr.ret (PyData.bool false)
def m_is_within (v_thing v_low v_high : PyData) : Tr PyData :=
  (m_is_whole v_thing).bind fun x3 => (asB x3).bind fun x4 => if x4 then (cLe v_low v_thing).bind fun x2 => if x2 then (cLe v_thing v_high).bind fun k => Tr.ret (PyData.bool k) else Tr.ret (PyData.bool false) else Tr.ret (PyData.bool false)
def m_inner_kinds (v_kind : PyData) : Tr PyData :=
  (if (!(isTup v_kind)) then Tr.ret true else (dLen v_kind).bind fun x5 => cLt x5 (PyData.int 2)).bind fun x30 => if x30 then Tr.ret PyData.none else (dIx v_kind (PyData.int 0)).bind fun v_word => (cEq v_word (PyData.str "table")).bind fun x29 => if x29 then ((dLen v_kind).bind fun x6 => cEq x6 (PyData.int 3)).bind fun x8 => if x8 then (asI (PyData.int 1)).bind fun x7 => dSl v_kind (some x7) none else Tr.ret PyData.none else ((dLen v_kind).bind fun x9 => cGt x9 (PyData.int 2)).bind fun x28 => if x28 then Tr.ret PyData.none else (cEq v_word (PyData.str "number")).bind fun x27 => if x27 then (((dIx v_kind (PyData.int 1)).bind fun x10 => m_is_within x10 (PyData.int 2) (PyData.int 1000)).bind fun x11 => (asB x11).bind fun x12 => Tr.ret x12).bind fun x13 => if x13 then Tr.ret (PyData.tuple []) else Tr.ret PyData.none else (cIn v_word (PyData.tuple [(PyData.str "row"), (PyData.str "set"), (PyData.str "bag")])).bind fun x26 => if x26 then (asI (PyData.int 1)).bind fun x14 => dSl v_kind (some x14) none else ((cNotIn v_word (PyData.tuple [(PyData.str "record"), (PyData.str "choice")])).bind fun x19 => if x19 then Tr.ret true else (((dIx v_kind (PyData.int 1)).bind fun x15 => Tr.ret (PyData.bool (isTup x15))).bind fun x16 => (asB x16).bind fun x17 => Tr.ret x17).bind fun x18 => Tr.ret (!x18)).bind fun x25 => if x25 then Tr.ret PyData.none else ((kdT tab_FEWEST_INSIDE v_word).bind fun x21 => ((dIx v_kind (PyData.int 1)).bind fun x20 => dLen x20).bind fun x22 => (cLe x21 x22).bind fun x23 => if x23 then cLe x22 (PyData.int 4) else Tr.ret false).bind fun x24 => if x24 then dIx v_kind (PyData.int 1) else Tr.ret PyData.none
def m_count_kinds : Nat → PyData → PyData → Tr PyData
  | 0, _, _ => Tr.bad
  | n + 1, v_kind, v_deep => (m_inner_kinds v_kind).bind fun v_inside => (if (isNon v_inside) then Tr.ret true else cLt v_deep (PyData.int 1)).bind fun x34 => if x34 then Tr.ret PyData.none else (Tr.ret (PyData.int 1)).bind fun v_total => (items v_inside).bind fun x33 => forC id (fun (v_inner : PyData) (x31 : PyData) => (((dSub v_deep (PyData.int 1)).bind fun x32 => m_count_kinds n v_inner x32).bind fun v_many => if (isNon v_many) then Tr.ret (Ct.rt PyData.none) else (asI x31).bind fun a => (asI v_many).bind fun b => (fun v_total => Tr.ret (Ct.nx v_total)) (.int (a + b)) : Tr (Ct (PyData)))) (fun x31 => Tr.ret x31) x33 v_total
def b_check_kind (v_kind : PyData) : Tr Unit :=
  ((m_count_kinds 8 v_kind (PyData.int 5)).noX).bind fun v_many => (if (isNon v_many) then Tr.ret true else cGt v_many (PyData.int 20)).bind fun x35 => if x35 then Tr.exc Ek.kind else Tr.ret ()
def m_check_kind (v_kind : PyData) : Tr PyData := (b_check_kind v_kind).bind fun _ => Tr.ret .none
def m_is_tuple (v_thing v_many : PyData) : Tr PyData :=
  if (isTup v_thing) then ((dLen v_thing).bind fun x36 => cEq x36 v_many).bind fun x37 => Tr.ret (PyData.bool x37) else Tr.ret (PyData.bool false)
def m_is_rising (v_values : PyData) : Tr PyData :=
  ((dLen v_values).bind fun x42 => (rangeT (PyData.int 1) x42).bind fun x43 => (mapT (fun v_at => (((dSub v_at (PyData.int 1)).bind fun x38 => dIx v_values x38).bind fun x39 => (dIx v_values v_at).bind fun x40 => cLtD x39 x40).bind fun x41 => Tr.ret (PyData.bool x41)) x43).bind fun x44 => Tr.ret (PyData.list x44)).bind fun x45 => dAll x45
def m_is_ordered (v_kind v_value : PyData) : Tr PyData :=
  ((dIx v_kind (PyData.int 0)).bind fun x46 => cEq x46 (PyData.str "set")).bind fun x52 => if x52 then m_is_rising v_value else ((dIx v_kind (PyData.int 0)).bind fun x47 => cIn x47 (PyData.tuple [(PyData.str "bag"), (PyData.str "table")])).bind fun x51 => if x51 then ((items v_value).bind fun x48 => (mapT (fun v_pair => dIx v_pair (PyData.int 0)) x48).bind fun x49 => Tr.ret (PyData.list x49)).bind fun x50 => m_is_rising x50 else Tr.ret (PyData.bool true)
def m_bag_parts (v_kind v_value : PyData) : Tr PyData :=
  (items v_value).bind fun x68 => forC id (fun (v_pair : PyData) (x53 : Unit) => (((((m_is_tuple v_pair (PyData.int 2)).bind fun x54 => (asB x54).bind fun x55 => Tr.ret x55).bind fun x56 => Tr.ret (!x56)).bind fun x63 => if x63 then Tr.ret true else ((((dIx v_pair (PyData.int 1)).bind fun x57 => m_is_whole x57).bind fun x58 => (asB x58).bind fun x59 => Tr.ret x59).bind fun x60 => Tr.ret (!x60)).bind fun x62 => if x62 then Tr.ret true else (dIx v_pair (PyData.int 1)).bind fun x61 => cLt x61 (PyData.int 1)).bind fun x64 => if x64 then Tr.ret (Ct.rt PyData.none) else Tr.ret (Ct.nx ()) : Tr (Ct (Unit)))) (fun x53 => (items v_value).bind fun x66 => (mapT (un2 fun v_item v_count => (dIx v_kind (PyData.int 1)).bind fun x65 => Tr.ret (PyData.tuple [x65, v_item, v_count])) x66).bind fun x67 => Tr.ret (PyData.list x67)) x68 ()
def m_choice_parts (v_kind v_value : PyData) : Tr PyData :=
  (((dLen v_value).bind fun x69 => cNe x69 (PyData.int 2)).bind fun x77 => if x77 then Tr.ret true else (((dIx v_value (PyData.int 0)).bind fun x72 => (((dIx v_kind (PyData.int 1)).bind fun x70 => dLen x70).bind fun x71 => dSub x71 (PyData.int 1)).bind fun x73 => m_is_within x72 (PyData.int 0) x73).bind fun x74 => (asB x74).bind fun x75 => Tr.ret x75).bind fun x76 => Tr.ret (!x76)).bind fun x83 => if x83 then Tr.ret PyData.none else (((dIx v_kind (PyData.int 1)).bind fun x78 => (dIx v_value (PyData.int 0)).bind fun x79 => dIx x78 x79).bind fun x80 => (dIx v_value (PyData.int 1)).bind fun x81 => Tr.ret (PyData.tuple [x80, x81, (PyData.int 1)])).bind fun x82 => Tr.ret (PyData.list [x82])
def m_item_parts (v_kind v_value : PyData) : Tr PyData :=
  (items v_value).bind fun x85 => (mapT (fun v_item => (dIx v_kind (PyData.int 1)).bind fun x84 => Tr.ret (PyData.tuple [x84, v_item, (PyData.int 1)])) x85).bind fun x86 => Tr.ret (PyData.list x86)
def m_record_parts (v_kind v_value : PyData) : Tr PyData :=
  ((dLen v_value).bind fun x88 => ((dIx v_kind (PyData.int 1)).bind fun x87 => dLen x87).bind fun x89 => cNe x88 x89).bind fun x93 => if x93 then Tr.ret PyData.none else (dIx v_kind (PyData.int 1)).bind fun x90 => (dZip x90 v_value).bind fun x91 => (mapT (un2 fun v_inner v_item => Tr.ret (PyData.tuple [v_inner, v_item, (PyData.int 1)])) x91).bind fun x92 => Tr.ret (PyData.list x92)
def m_table_parts (v_kind v_value : PyData) : Tr PyData :=
  (Tr.ret (PyData.list [])).bind fun v_parts => (items v_value).bind fun x105 => forC id (fun (v_pair : PyData) (x94 : PyData) => ((((m_is_tuple v_pair (PyData.int 2)).bind fun x95 => (asB x95).bind fun x96 => Tr.ret x96).bind fun x97 => Tr.ret (!x97)).bind fun x104 => if x104 then Tr.ret (Ct.rt PyData.none) else ((dIx v_kind (PyData.int 1)).bind fun x98 => (dIx v_pair (PyData.int 0)).bind fun x99 => Tr.ret (PyData.tuple [x98, x99, (PyData.int 1)])).bind fun x103 => (dApp x94 x103).bind fun v_parts => ((dIx v_kind (PyData.int 2)).bind fun x100 => (dIx v_pair (PyData.int 1)).bind fun x101 => Tr.ret (PyData.tuple [x100, x101, (PyData.int 1)])).bind fun x102 => (dApp v_parts x102).bind fun v_parts => Tr.ret (Ct.nx v_parts) : Tr (Ct (PyData)))) (fun x94 => Tr.ret (PyData.list (unL x94))) x105 v_parts
def fm_VALUE_PARTS (s : Str) : List PyData → Tr PyData :=
  if s = "record" then fun ds => match ds with | [a0, a1] => m_record_parts a0 a1 | _ => Tr.bad else
  if s = "choice" then fun ds => match ds with | [a0, a1] => m_choice_parts a0 a1 | _ => Tr.bad else
  if s = "row" then fun ds => match ds with | [a0, a1] => m_item_parts a0 a1 | _ => Tr.bad else
  if s = "set" then fun ds => match ds with | [a0, a1] => m_item_parts a0 a1 | _ => Tr.bad else
  if s = "bag" then fun ds => match ds with | [a0, a1] => m_bag_parts a0 a1 | _ => Tr.bad else
  if s = "table" then fun ds => match ds with | [a0, a1] => m_table_parts a0 a1 | _ => Tr.bad else
  fun _ => Tr.bad
def m_value_parts (v_kind v_value : PyData) : Tr PyData :=
  ((dIx v_kind (PyData.int 0)).bind fun x106 => cEq x106 (PyData.str "number")).bind fun x113 => if x113 then ((((dIx v_kind (PyData.int 1)).bind fun x107 => dSub x107 (PyData.int 1)).bind fun x108 => m_is_within v_value (PyData.int 0) x108).bind fun x109 => (asB x109).bind fun x110 => Tr.ret x110).bind fun x111 => if x111 then Tr.ret (PyData.list []) else Tr.ret PyData.none else if (!(isTup v_value)) then Tr.ret PyData.none else (dIx v_kind (PyData.int 0)).bind fun x112 => (fdT fn_VALUE_PARTS x112).bind fun q_action => fm_VALUE_PARTS q_action [v_kind, v_value]
def m_weigh : Nat → PyData → PyData → PyData → Tr PyData
  | 0, _, _, _ => Tr.bad
  | n + 1, v_kind, v_value, v_limit => (m_value_parts v_kind v_value).bind fun v_parts => (if (isNon v_parts) then Tr.ret true else (dLen v_parts).bind fun x114 => cGe x114 v_limit).bind fun x123 => if x123 then Tr.ret PyData.none else (Tr.ret (PyData.int 1)).bind fun v_total => (items v_parts).bind fun x122 => forC id (fun (d : PyData) (x115 : PyData) => un3 (fun v_inner v_item v_times => ((((dSub v_limit x115).bind fun x116 => dDiv x116 v_times).bind fun x117 => m_weigh n v_inner v_item x117).bind fun v_each => if (isNon v_each) then Tr.ret (Ct.rt PyData.none) else (dMul v_times v_each).bind fun x118 => (asI x115).bind fun a => (asI x118).bind fun b => (fun v_total => Tr.ret (Ct.nx v_total)) (.int (a + b)) : Tr (Ct (PyData)))) d) (fun x115 => ((m_is_ordered v_kind v_value).bind fun x119 => (asB x119).bind fun x120 => Tr.ret x120).bind fun x121 => if x121 then Tr.ret x115 else Tr.ret PyData.none) x122 v_total
def m_is_value (v_kind v_value : PyData) : Tr PyData :=
  (m_weigh 8 v_kind v_value (PyData.int 400)).bind fun x124 => Tr.ret (PyData.bool (!isNon x124))
def m_heft : Nat → PyData → PyData → Tr PyData
  | 0, _, _ => Tr.bad
  | n + 1, v_kind, v_value => (((m_value_parts v_kind v_value).bind fun x126 => (items x126).bind fun x127 => (mapT (un3 fun v_inner v_item v_times => (m_heft n v_inner v_item).bind fun x125 => dMul v_times x125) x127).bind fun x128 => Tr.ret (PyData.list x128)).bind fun x129 => dSum x129).bind fun x130 => dAdd (PyData.int 1) x130
mutual
def m_gap : Nat → PyData → PyData → PyData → Tr PyData
  | 0, _, _, _ => Tr.bad
  | n + 1, v_kind, v_v, v_w => (cEq v_v v_w).bind fun x172 => if x172 then Tr.ret (PyData.int 0) else (dIx v_kind (PyData.int 0)).bind fun v_word => (cEq v_word (PyData.str "number")).bind fun x171 => if x171 then Tr.ret (PyData.int 2) else (cEq v_word (PyData.str "record")).bind fun x170 => if x170 then ((dIx v_kind (PyData.int 1)).bind fun x131 => (dZip3 x131 v_v v_w).bind fun x132 => (mapT (un3 fun v_inner v_a v_b => m_gap n v_inner v_a v_b) x132).bind fun x133 => Tr.ret (PyData.list x133)).bind fun x134 => dSum x134 else (cEq v_word (PyData.str "choice")).bind fun x169 => if x169 then ((dIx v_v (PyData.int 0)).bind fun x135 => (dIx v_w (PyData.int 0)).bind fun x136 => cEq x135 x136).bind fun x144 => if x144 then ((dIx v_kind (PyData.int 1)).bind fun x137 => (dIx v_v (PyData.int 0)).bind fun x138 => dIx x137 x138).bind fun x139 => (dIx v_v (PyData.int 1)).bind fun x140 => (dIx v_w (PyData.int 1)).bind fun x141 => m_gap n x139 x140 x141 else (m_heft 8 v_kind v_v).bind fun x142 => (m_heft 8 v_kind v_w).bind fun x143 => dAdd x142 x143 else (cEq v_word (PyData.str "row")).bind fun x168 => if x168 then (((dIx v_kind (PyData.int 1)).bind fun x145 => m_climb n x145 v_v v_w).bind fun x146 => dIx x146 (PyData.int (-1))).bind fun x147 => dIx x147 (PyData.int (-1)) else (cEq v_word (PyData.str "table")).bind fun x167 => if x167 then ((((Tr.bad : Tr PyData)).bind fun x149 => (items x149).bind fun x150 => (mapT (un3 fun v__ v_a v_b => (dIx v_kind (PyData.int 2)).bind fun x148 => m_gap n x148 v_a v_b) x150).bind fun x151 => Tr.ret (PyData.list x151)).bind fun x152 => dSum x152).bind fun v_inside => (((((Tr.bad : Tr PyData)).bind fun x153 => ((Tr.bad : Tr PyData)).bind fun x154 => dAdd x153 x154).bind fun x155 => (items x155).bind fun x156 => (mapT (fun v_pair => (Tr.bad : Tr PyData)) x156).bind fun x157 => Tr.ret (PyData.list x157)).bind fun x158 => dSum x158).bind fun x159 => dAdd v_inside x159 else (((Tr.bad : Tr PyData)).bind fun x163 => (items x163).bind fun x164 => (mapT (un2 fun v_item v_d => ((dIx v_kind (PyData.int 1)).bind fun x160 => m_heft 8 x160 v_item).bind fun x161 => (dAbs v_d).bind fun x162 => dMul x161 x162) x164).bind fun x165 => Tr.ret (PyData.list x165)).bind fun x166 => dSum x166
def m_climb : Nat → PyData → PyData → PyData → Tr PyData
  | 0, _, _, _ => Tr.bad
  | n + 1, v_kind, v_v, v_w => ((items v_w).bind fun x173 => (mapT (fun v_item => m_heft 8 v_kind v_item) x173).bind fun x174 => Tr.ret (PyData.list x174)).bind fun v_lefts => (Tr.ret (PyData.list [(PyData.int 0)])).bind fun v_first => (items v_lefts).bind fun x182 => (forN (fun (v_heavy : PyData) (x175 : PyData) => (((dIx (.list (unL x175)) (PyData.int (-1))).bind fun x176 => dAdd x176 v_heavy).bind fun x177 => (dApp x175 x177).bind fun v_first => Tr.ret v_first : Tr (PyData))) x182 v_first).bind (fun x175 => (Tr.ret (PyData.list [(PyData.list (unL x175))])).bind fun v_heights => (items v_v).bind fun x181 => (forN (fun (v_item : PyData) (x178 : PyData) => (((dIx (.list (unL x178)) (PyData.int (-1))).bind fun x179 => m_next_heights n v_kind v_item v_w v_lefts x179).bind fun x180 => (dApp x178 x180).bind fun v_heights => Tr.ret v_heights : Tr (PyData))) x181 v_heights).bind (fun x178 => Tr.ret (PyData.list (unL x178))))
def m_next_heights : Nat → PyData → PyData → PyData → PyData → PyData → Tr PyData
  | 0, _, _, _, _, _ => Tr.bad
  | n + 1, v_kind, v_item, v_w, v_lefts, v_above => (m_heft 8 v_kind v_item).bind fun v_down => ((dIx v_above (PyData.int 0)).bind fun x183 => dAdd x183 v_down).bind fun x198 => (Tr.ret (PyData.list [x198])).bind fun v_heights => (dEnumL v_lefts).bind fun x197 => forC id (fun (d : PyData) (x184 : PyData) => un2 (fun v_y v_left => (((((dAdd v_y (PyData.int 1)).bind fun x185 => dIx v_above x185).bind fun x186 => dAdd x186 v_down).bind fun x188 => ((dIx (.list (unL x184)) v_y).bind fun x187 => dAdd x187 v_left).bind fun x189 => dMin x188 x189).bind fun v_least => ((dIx v_above v_y).bind fun x190 => cLt x190 v_least).bind fun x196 => (if x196 then ((((dIx v_above v_y).bind fun x193 => ((dIx v_w v_y).bind fun x192 => m_gap n v_kind v_item x192).bind fun x194 => dAdd x193 x194).bind fun x195 => dMin v_least x195).bind fun v_least => Tr.ret v_least : Tr (PyData)) else Tr.ret v_least).bind fun x191 => (dApp x184 x191).bind fun v_heights => Tr.ret (Ct.nx v_heights) : Tr (Ct (PyData)))) d) (fun x184 => Tr.ret (PyData.list (unL x184))) x197 v_heights
end
def m_has_turn_alone (v_kind v_v v_w : PyData) : Tr PyData :=
  (((dIx v_kind (PyData.int 0)).bind fun x199 => cEq x199 (PyData.str "number")).bind fun x200 => Tr.ret (PyData.bool x200)).bind fun x208 => (asB x208).bind fun x209 => if x209 then Tr.ret (PyData.bool true) else (((dIx v_kind (PyData.int 0)).bind fun x201 => cEq x201 (PyData.str "choice")).bind fun x202 => Tr.ret (PyData.bool x202)).bind fun x206 => (asB x206).bind fun x207 => if x207 then ((dIx v_v (PyData.int 0)).bind fun x203 => (dIx v_w (PyData.int 0)).bind fun x204 => cNe x203 x204).bind fun x205 => Tr.ret (PyData.bool x205) else Tr.ret (PyData.bool false)
def m_paper_of : Nat → PyData → PyData → PyData → Tr PyData
  | 0, _, _, _ => Tr.bad
  | n + 1, v_kind, v_v, v_w => (dIx v_kind (PyData.int 0)).bind fun v_word => ((m_has_turn_alone v_kind v_v v_w).bind fun x210 => (asB x210).bind fun x211 => Tr.ret x211).bind fun x246 => if x246 then Tr.ret (PyData.tuple [(PyData.str "all")]) else (cEq v_word (PyData.str "record")).bind fun x245 => if x245 then (((dIx v_kind (PyData.int 1)).bind fun x212 => (dZip3 x212 v_v v_w).bind fun x213 => (mapT (un3 fun v_inner v_a v_b => m_paper_of n v_inner v_a v_b) x213).bind fun x214 => Tr.ret (PyData.list x214)).bind fun x215 => dTuple x215).bind fun x216 => Tr.ret (PyData.tuple [(PyData.str "record"), x216]) else (cEq v_word (PyData.str "choice")).bind fun x244 => if x244 then (((dIx v_kind (PyData.int 1)).bind fun x217 => (dIx v_v (PyData.int 0)).bind fun x218 => dIx x217 x218).bind fun x219 => (dIx v_v (PyData.int 1)).bind fun x220 => (dIx v_w (PyData.int 1)).bind fun x221 => m_paper_of n x219 x220 x221).bind fun x222 => Tr.ret (PyData.tuple [(PyData.str "choice"), x222]) else (cEq v_word (PyData.str "row")).bind fun x243 => if x243 then ((((dIx v_kind (PyData.int 1)).bind fun x223 => m_climb 12 x223 v_v v_w).bind fun x224 => (items x224).bind fun x225 => (mapT (fun v_line => dTuple v_line) x225).bind fun x226 => Tr.ret (PyData.list x226)).bind fun x227 => dTuple x227).bind fun v_heights => (((items v_v).bind fun x232 => (mapT (fun v_a => ((items v_w).bind fun x229 => (mapT (fun v_b => (dIx v_kind (PyData.int 1)).bind fun x228 => m_paper_of n x228 v_a v_b) x229).bind fun x230 => Tr.ret (PyData.list x230)).bind fun x231 => dTuple x231) x232).bind fun x233 => Tr.ret (PyData.list x233)).bind fun x234 => dTuple x234).bind fun x235 => Tr.ret (PyData.tuple [(PyData.str "row"), v_heights, x235]) else (cEq v_word (PyData.str "table")).bind fun x242 => if x242 then ((((Tr.bad : Tr PyData)).bind fun x237 => (items x237).bind fun x238 => (mapT (un3 fun v__ v_a v_b => (dIx v_kind (PyData.int 2)).bind fun x236 => m_paper_of n x236 v_a v_b) x238).bind fun x239 => Tr.ret (PyData.list x239)).bind fun x240 => dTuple x240).bind fun x241 => Tr.ret (PyData.tuple [(PyData.str "table"), x241]) else Tr.ret (PyData.tuple [v_word])
def m_choice_worth (v_kind v_v v_w v_paper : PyData) : Tr PyData := .bad
def m_lot_worth (v_kind v_v v_w v_paper : PyData) : Tr PyData := .bad
def m_record_worth (v_kind v_v v_w v_paper : PyData) : Tr PyData := .bad
def m_goes_across (v_heights v_worths : PyData) : Tr PyData :=
  ((((asI (PyData.int 1)).bind fun x247 => dSl v_heights (some x247) none).bind fun x252 => dZip3L v_heights x252 v_worths).bind fun x253 => (lc2T (un3 (fun v_above v_line v_inside => ((asI (PyData.int 1)).bind fun x248 => dSl v_line (some x248) none).bind fun x251 => dZip3L v_above x251 v_inside)) (fun d e => un3 (fun v_above v_line v_inside => (un3 (fun v_high v_low v_each => (((dAdd v_high v_each).bind fun x249 => cLe v_low x249).bind fun x250 => Tr.ret (PyData.bool x250) : Tr PyData))) e) d) [] x253).bind fun x254 => Tr.ret (PyData.list x254)).bind fun x255 => dAll x255
def m_goes_down (v_heights v_downs : PyData) : Tr PyData :=
  ((((asI (PyData.int 1)).bind fun x256 => dSl v_heights (some x256) none).bind fun x259 => dZip3L v_heights x259 v_downs).bind fun x260 => (lc2T (un3 (fun v_above v_line v_down => dZip v_above v_line)) (fun d e => un3 (fun v_above v_line v_down => (un2 (fun v_high v_low => (((dAdd v_high v_down).bind fun x257 => cLe v_low x257).bind fun x258 => Tr.ret (PyData.bool x258) : Tr PyData))) e) d) [] x260).bind fun x261 => Tr.ret (PyData.list x261)).bind fun x262 => dAll x262
def m_goes_left (v_heights v_lefts : PyData) : Tr PyData :=
  ((items v_heights).bind fun x267 => (lc2T (fun v_line => ((asI (PyData.int 1)).bind fun x263 => dSl v_line (some x263) none).bind fun x266 => dZip3L v_line x266 v_lefts) (fun v_line => (un3 (fun v_high v_low v_left => (((dAdd v_high v_left).bind fun x264 => cLe v_low x264).bind fun x265 => Tr.ret (PyData.bool x265) : Tr PyData)))) [] x267).bind fun x268 => Tr.ret (PyData.list x268)).bind fun x269 => dAll x269
def m_is_grid (v_thing v_many v_wide : PyData) : Tr PyData :=
  (m_is_tuple v_thing v_many).bind fun x273 => (asB x273).bind fun x274 => if x274 then ((items v_thing).bind fun x270 => (mapT (fun v_line => m_is_tuple v_line v_wide) x270).bind fun x271 => Tr.ret (PyData.list x271)).bind fun x272 => dAll x272 else Tr.ret (PyData.bool false)
def m_table_worth (v_kind v_v v_w v_paper : PyData) : Tr PyData := .bad
def m_turn_worth (v_kind v_v v_w : PyData) : Tr PyData :=
  (cEq v_v v_w).bind fun x277 => if x277 then Tr.ret (PyData.int 0) else (m_heft 8 v_kind v_v).bind fun x275 => (m_heft 8 v_kind v_w).bind fun x276 => dAdd x275 x276
def fx_WORTHS (g_record_worth g_choice_worth g_row_worth g_lot_worth g_table_worth : PyData → PyData → PyData → PyData → Tr PyData) (s : Str) : List PyData → Tr PyData :=
  if s = "record" then (fun ds => match ds with | [a0, a1, a2, a3] => g_record_worth a0 a1 a2 a3 | _ => Tr.bad) else
  if s = "choice" then (fun ds => match ds with | [a0, a1, a2, a3] => g_choice_worth a0 a1 a2 a3 | _ => Tr.bad) else
  if s = "row" then (fun ds => match ds with | [a0, a1, a2, a3] => g_row_worth a0 a1 a2 a3 | _ => Tr.bad) else
  if s = "set" then (fun ds => match ds with | [a0, a1, a2, a3] => g_lot_worth a0 a1 a2 a3 | _ => Tr.bad) else
  if s = "bag" then (fun ds => match ds with | [a0, a1, a2, a3] => g_lot_worth a0 a1 a2 a3 | _ => Tr.bad) else
  if s = "table" then (fun ds => match ds with | [a0, a1, a2, a3] => g_table_worth a0 a1 a2 a3 | _ => Tr.bad) else
  fun _ => Tr.bad
mutual
def m_worth_of : Nat → PyData → PyData → PyData → PyData → Tr PyData
  | 0, _, _, _, _ => Tr.bad
  | n + 1, v_kind, v_v, v_w, v_paper => (if (!(isTup v_paper)) then Tr.ret true else (dLen v_paper).bind fun x278 => cEq x278 (PyData.int 0)).bind fun x291 => if x291 then Tr.ret PyData.none else ((dIx v_paper (PyData.int 0)).bind fun x279 => cEq x279 (PyData.str "none")).bind fun x290 => if x290 then ((dLen v_paper).bind fun x280 => cEq x280 (PyData.int 1)).bind fun x281 => if x281 then Tr.ret (PyData.int 0) else Tr.ret PyData.none else ((m_has_turn_alone v_kind v_v v_w).bind fun x282 => (asB x282).bind fun x283 => Tr.ret x283).bind fun x289 => if x289 then (cEq v_paper (PyData.tuple [(PyData.str "all")])).bind fun x284 => if x284 then m_turn_worth v_kind v_v v_w else Tr.ret PyData.none else ((dIx v_paper (PyData.int 0)).bind fun x285 => (dIx v_kind (PyData.int 0)).bind fun x286 => cNe x285 x286).bind fun x288 => if x288 then Tr.ret PyData.none else (dIx v_kind (PyData.int 0)).bind fun x287 => (fdT fn_WORTHS x287).bind fun q_action => (fx_WORTHS m_record_worth m_choice_worth (m_row_worth n) m_lot_worth m_table_worth) q_action [v_kind, v_v, v_w, v_paper]
def m_row_worth : Nat → PyData → PyData → PyData → PyData → Tr PyData
  | 0, _, _, _, _ => Tr.bad
  | n + 1, v_kind, v_v, v_w, v_paper => (((dLen v_paper).bind fun x292 => cNe x292 (PyData.int 3)).bind fun x308 => if x308 then Tr.ret true else ((((dIx v_paper (PyData.int 1)).bind fun x295 => ((dLen v_v).bind fun x293 => dAdd x293 (PyData.int 1)).bind fun x296 => ((dLen v_w).bind fun x294 => dAdd x294 (PyData.int 1)).bind fun x297 => m_is_grid x295 x296 x297).bind fun x298 => (asB x298).bind fun x299 => Tr.ret x299).bind fun x300 => Tr.ret (!x300)).bind fun x307 => if x307 then Tr.ret true else (((dIx v_paper (PyData.int 2)).bind fun x301 => (dLen v_v).bind fun x302 => (dLen v_w).bind fun x303 => m_is_grid x301 x302 x303).bind fun x304 => (asB x304).bind fun x305 => Tr.ret x305).bind fun x306 => Tr.ret (!x306)).bind fun x351 => if x351 then Tr.ret PyData.none else (Tr.ret v_paper).bind (un3 fun v__ v_heights v_bounds => ((((((items v_heights).bind fun x312 => (lc2T (fun v_line => items v_line) (fun v_line => (fun v_height => ((m_is_whole v_height).bind fun x310 => (asB x310).bind fun x311 => if x311 then (cGe v_height (PyData.int 0)).bind fun x309 => Tr.ret (PyData.bool x309) else Tr.ret (PyData.bool false) : Tr PyData))) [] x312).bind fun x313 => Tr.ret (PyData.list x313)).bind fun x314 => dAll x314).bind fun x315 => (asB x315).bind fun x316 => Tr.ret x316).bind fun x317 => Tr.ret (!x317)).bind fun x320 => if x320 then Tr.ret true else ((dIx v_heights (PyData.int 0)).bind fun x318 => dIx x318 (PyData.int 0)).bind fun x319 => cNe x319 (PyData.int 0)).bind fun x350 => if x350 then Tr.ret PyData.none else ((dZip v_v v_bounds).bind fun x324 => (mapT (un2 fun v_a v_line => (dZip v_w v_line).bind fun x322 => (mapT (un2 fun v_b v_each => (dIx v_kind (PyData.int 1)).bind fun x321 => m_worth_of n x321 v_a v_b v_each) x322).bind fun x323 => Tr.ret (PyData.list x323)) x324).bind fun x325 => Tr.ret (PyData.list x325)).bind fun v_worths => ((((items v_worths).bind fun x327 => (mapT (fun v_line => (cIn PyData.none v_line).bind fun x326 => Tr.ret (PyData.bool x326)) x327).bind fun x328 => Tr.ret (PyData.list x328)).bind fun x329 => dAny x329).bind fun x330 => (asB x330).bind fun x331 => Tr.ret x331).bind fun x349 => if x349 then Tr.ret PyData.none else ((items v_v).bind fun x333 => (mapT (fun v_item => (dIx v_kind (PyData.int 1)).bind fun x332 => m_heft 8 x332 v_item) x333).bind fun x334 => Tr.ret (PyData.list x334)).bind fun v_downs => ((items v_w).bind fun x336 => (mapT (fun v_item => (dIx v_kind (PyData.int 1)).bind fun x335 => m_heft 8 x335 v_item) x336).bind fun x337 => Tr.ret (PyData.list x337)).bind fun v_lefts => ((((m_goes_down v_heights v_downs).bind fun x338 => (asB x338).bind fun x339 => Tr.ret x339).bind fun x345 => if x345 then ((m_goes_left v_heights v_lefts).bind fun x340 => (asB x340).bind fun x341 => Tr.ret x341).bind fun x344 => if x344 then (m_goes_across v_heights v_worths).bind fun x342 => (asB x342).bind fun x343 => Tr.ret x343 else Tr.ret false else Tr.ret false).bind fun x346 => Tr.ret (!x346)).bind fun x348 => if x348 then Tr.ret PyData.none else (dIx v_heights (PyData.int (-1))).bind fun x347 => dIx x347 (PyData.int (-1)))
end
def m_packed (v_parts : PyData) : Tr PyData :=
  (Tr.ret (PyData.list [])).bind fun v_found => (items v_parts).bind fun x364 => (forN (fun (v_part : PyData) (x352 : PyData) => ((((dIx v_part (PyData.int 0)).bind fun x353 => cEq x353 (PyData.str "keep")).bind fun x356 => if x356 then if (!(unL x352).isEmpty) then ((dIx (.list (unL x352)) (PyData.int (-1))).bind fun x354 => dIx x354 (PyData.int 0)).bind fun x355 => cEq x355 (PyData.str "keep") else Tr.ret false else Tr.ret false).bind fun x363 => (if x363 then (((((dIx (.list (unL x352)) (PyData.int (-1))).bind fun x358 => dIx x358 (PyData.int 1)).bind fun x359 => (dIx v_part (PyData.int 1)).bind fun x360 => dAdd x359 x360).bind fun x361 => Tr.ret (PyData.tuple [(PyData.str "keep"), x361])).bind fun x362 => (dSetL x352 (PyData.int (-1)) x362).bind fun v_found => Tr.ret v_found : Tr (PyData)) else (dApp x352 v_part).bind fun v_found => Tr.ret v_found).bind fun x357 => Tr.ret x357 : Tr (PyData))) x364 v_found).bind (fun x352 => dTuple (PyData.list (unL x352)))
def b_check_values (v_kind v_v v_w : PyData) : Tr Unit :=
  (m_check_kind v_kind).bind fun _ => (((((m_is_value v_kind v_v).noX).bind fun x365 => (asB x365).bind fun x366 => Tr.ret x366).bind fun x367 => Tr.ret (!x367)).bind fun x371 => if x371 then Tr.ret true else (((m_is_value v_kind v_w).noX).bind fun x368 => (asB x368).bind fun x369 => Tr.ret x369).bind fun x370 => Tr.ret (!x370)).bind fun x372 => if x372 then Tr.exc Ek.value else Tr.ret ()
def m_check_values (v_kind v_v v_w : PyData) : Tr PyData := (b_check_values v_kind v_v v_w).bind fun _ => Tr.ret .none
def m_distance (v_kind v_v v_w : PyData) : Tr PyData :=
  (m_check_values v_kind v_v v_w).bind fun _ => (m_gap 12 v_kind v_v v_w).noX
mutual
def m_least_patch : Nat → PyData → PyData → PyData → Tr PyData
  | 0, _, _, _ => Tr.bad
  | n + 1, v_kind, v_v, v_w => (cEq v_v v_w).bind fun x411 => if x411 then Tr.ret (PyData.tuple [(PyData.str "same")]) else (dIx v_kind (PyData.int 0)).bind fun v_word => (cEq v_word (PyData.str "record")).bind fun x410 => if x410 then (((dIx v_kind (PyData.int 1)).bind fun x373 => (dZip3 x373 v_v v_w).bind fun x374 => (mapT (un3 fun v_inner v_a v_b => m_least_patch n v_inner v_a v_b) x374).bind fun x375 => Tr.ret (PyData.list x375)).bind fun x376 => dTuple x376).bind fun x377 => Tr.ret (PyData.tuple [(PyData.str "record"), x377]) else ((cEq v_word (PyData.str "choice")).bind fun x380 => if x380 then (dIx v_v (PyData.int 0)).bind fun x378 => (dIx v_w (PyData.int 0)).bind fun x379 => cEq x378 x379 else Tr.ret false).bind fun x409 => if x409 then (dIx v_v (PyData.int 0)).bind fun x386 => (((dIx v_kind (PyData.int 1)).bind fun x381 => (dIx v_v (PyData.int 0)).bind fun x382 => dIx x381 x382).bind fun x383 => (dIx v_v (PyData.int 1)).bind fun x384 => (dIx v_w (PyData.int 1)).bind fun x385 => m_least_patch n x383 x384 x385).bind fun x387 => Tr.ret (PyData.tuple [(PyData.str "choice"), x386, x387]) else (cEq v_word (PyData.str "row")).bind fun x408 => if x408 then ((dIx v_kind (PyData.int 1)).bind fun x388 => m_least_parts n x388 v_v v_w).bind fun x389 => Tr.ret (PyData.tuple [(PyData.str "row"), x389]) else (cEq v_word (PyData.str "set")).bind fun x407 => if x407 then ((((Tr.bad : Tr PyData)).bind fun x392 => (items x392).bind fun x393 => (mapT (un2 fun v_item v_d => ((cGt v_d (PyData.int 0)).bind fun x390 => if x390 then Tr.ret (PyData.str "add") else Tr.ret (PyData.str "cut")).bind fun x391 => Tr.ret (PyData.tuple [v_item, x391])) x393).bind fun x394 => Tr.ret (PyData.list x394)).bind fun x395 => dTuple x395).bind fun x396 => Tr.ret (PyData.tuple [(PyData.str "set"), x396]) else (cEq v_word (PyData.str "bag")).bind fun x406 => if x406 then ((((Tr.bad : Tr PyData)).bind fun x399 => (items x399).bind fun x400 => (mapT (un2 fun v_item v_d => ((dNeg v_d).bind fun x397 => dMax (PyData.int 0) x397).bind fun x398 => Tr.ret (PyData.tuple [v_item, x398, v_d])) x400).bind fun x401 => Tr.ret (PyData.list x401)).bind fun x402 => dTuple x402).bind fun x403 => Tr.ret (PyData.tuple [(PyData.str "bag"), x403]) else (cEq v_word (PyData.str "table")).bind fun x405 => if x405 then ((Tr.bad : Tr PyData)).bind fun x404 => Tr.ret (PyData.tuple [(PyData.str "table"), x404]) else Tr.ret (PyData.tuple [(PyData.str "turn"), v_v, v_w])
def m_least_parts : Nat → PyData → PyData → PyData → Tr PyData
  | 0, _, _, _ => Tr.bad
  | n + 1, v_kind, v_v, v_w => (m_climb 12 v_kind v_v v_w).bind fun v_heights => (dLen v_v).bind fun v_x => (dLen v_w).bind fun v_y => (Tr.ret (PyData.list [])).bind fun v_parts => whileC id (fun (x412 : PyData × PyData × PyData) => ((cGt x412.2.1 (PyData.int 0)).bind fun x413 => if x413 then Tr.ret true else cGt x412.2.2 (PyData.int 0) : Tr Bool)) (fun (x412 : PyData × PyData × PyData) => ((((asI x412.2.1).bind fun x414 => dSl v_v none (some x414)).bind fun x416 => ((asI x412.2.2).bind fun x415 => dSl v_w none (some x415)).bind fun x417 => m_last_part n v_kind x416 x417 v_heights).bind fun v_part => (dApp x412.1 v_part).bind fun v_parts => ((dIx v_part (PyData.int 0)).bind fun x418 => cNe x418 (PyData.str "add")).bind fun x423 => (if x423 then ((asI x412.2.1).bind fun a => (asI (PyData.int 1)).bind fun b => (fun v_x => Tr.ret v_x) (.int (a - b)) : Tr (PyData)) else Tr.ret x412.2.1).bind fun x419 => ((dIx v_part (PyData.int 0)).bind fun x420 => cNe x420 (PyData.str "cut")).bind fun x422 => (if x422 then ((asI x412.2.2).bind fun a => (asI (PyData.int 1)).bind fun b => (fun v_y => Tr.ret v_y) (.int (a - b)) : Tr (PyData)) else Tr.ret x412.2.2).bind fun x421 => Tr.ret (Ct.nx (v_parts, x419, x421)) : Tr (Ct (PyData × PyData × PyData)))) (fun x412 => (dRev x412.1).bind fun v_parts => m_packed (PyData.list (unL v_parts))) 20000 (v_parts, v_x, v_y)
def m_last_part : Nat → PyData → PyData → PyData → PyData → Tr PyData
  | 0, _, _, _, _ => Tr.bad
  | n + 1, v_kind, v_v, v_w, v_heights => (dLen v_v).bind fun v_x => (dLen v_w).bind fun v_y => ((dIx v_heights v_x).bind fun x424 => dIx x424 v_y).bind fun v_here => ((cGt v_x (PyData.int 0)).bind fun x434 => if x434 then (cGt v_y (PyData.int 0)).bind fun x433 => if x433 then ((((dSub v_x (PyData.int 1)).bind fun x425 => dIx v_heights x425).bind fun x426 => (dSub v_y (PyData.int 1)).bind fun x427 => dIx x426 x427).bind fun x430 => ((dIx v_v (PyData.int (-1))).bind fun x428 => (dIx v_w (PyData.int (-1))).bind fun x429 => m_gap 12 v_kind x428 x429).bind fun x431 => dAdd x430 x431).bind fun x432 => cEq v_here x432 else Tr.ret false else Tr.ret false).bind fun x451 => if x451 then ((dIx v_v (PyData.int (-1))).bind fun x435 => (dIx v_w (PyData.int (-1))).bind fun x436 => cEq x435 x436).bind fun x440 => if x440 then Tr.ret (PyData.tuple [(PyData.str "keep"), (PyData.int 1)]) else ((dIx v_v (PyData.int (-1))).bind fun x437 => (dIx v_w (PyData.int (-1))).bind fun x438 => m_least_patch n v_kind x437 x438).bind fun x439 => Tr.ret (PyData.tuple [(PyData.str "mend"), x439]) else ((cGt v_x (PyData.int 0)).bind fun x447 => if x447 then ((((dSub v_x (PyData.int 1)).bind fun x441 => dIx v_heights x441).bind fun x442 => dIx x442 v_y).bind fun x444 => ((dIx v_v (PyData.int (-1))).bind fun x443 => m_heft 8 v_kind x443).bind fun x445 => dAdd x444 x445).bind fun x446 => cEq v_here x446 else Tr.ret false).bind fun x450 => if x450 then (dIx v_v (PyData.int (-1))).bind fun x448 => Tr.ret (PyData.tuple [(PyData.str "cut"), x448]) else (dIx v_w (PyData.int (-1))).bind fun x449 => Tr.ret (PyData.tuple [(PyData.str "add"), x449])
end
def m_least (v_kind v_v v_w : PyData) : Tr PyData :=
  (m_check_values v_kind v_v v_w).bind fun _ => (m_least_patch 12 v_kind v_v v_w).noX
def m_bound (v_kind v_v v_w : PyData) : Tr PyData :=
  (m_check_values v_kind v_v v_w).bind fun _ => (m_paper_of 12 v_kind v_v v_w).noX
def m_worth (v_kind v_v v_w v_paper : PyData) : Tr PyData :=
  (m_check_values v_kind v_v v_w).bind fun _ => (m_worth_of 12 v_kind v_v v_w v_paper).noX
def m__law_pick (v_menu : PyData) : Tr PyData :=
  ((dLen v_menu).bind fun x452 => takeT x452).bind fun x453 => dIx v_menu x453
def m__law_weight : Nat → PyData → PyData → Tr PyData
  | 0, _, _ => Tr.bad
  | n + 1, v_kind, v_v => (dIx v_kind (PyData.int 0)).bind fun v_word => (cEq v_word (PyData.str "number")).bind fun x490 => if x490 then Tr.ret (PyData.int 1) else (cEq v_word (PyData.str "record")).bind fun x489 => if x489 then (((dLen v_v).bind fun x457 => (rangeT (.int 0) x457).bind fun x458 => (mapT (fun v_k => ((dIx v_kind (PyData.int 1)).bind fun x454 => dIx x454 v_k).bind fun x455 => (dIx v_v v_k).bind fun x456 => m__law_weight n x455 x456) x458).bind fun x459 => Tr.ret (PyData.list x459)).bind fun x460 => dSum x460).bind fun x461 => dAdd (PyData.int 1) x461 else (cEq v_word (PyData.str "choice")).bind fun x488 => if x488 then (((dIx v_kind (PyData.int 1)).bind fun x462 => (dIx v_v (PyData.int 0)).bind fun x463 => dIx x462 x463).bind fun x464 => (dIx v_v (PyData.int 1)).bind fun x465 => m__law_weight n x464 x465).bind fun x466 => dAdd (PyData.int 1) x466 else (cIn v_word (PyData.tuple [(PyData.str "row"), (PyData.str "set")])).bind fun x487 => if x487 then (((items v_v).bind fun x468 => (mapT (fun v_one => (dIx v_kind (PyData.int 1)).bind fun x467 => m__law_weight n x467 v_one) x468).bind fun x469 => Tr.ret (PyData.list x469)).bind fun x470 => dSum x470).bind fun x471 => dAdd (PyData.int 1) x471 else (cEq v_word (PyData.str "bag")).bind fun x486 => if x486 then (((items v_v).bind fun x474 => (mapT (un2 fun v_one v_count => ((dIx v_kind (PyData.int 1)).bind fun x472 => m__law_weight n x472 v_one).bind fun x473 => dMul v_count x473) x474).bind fun x475 => Tr.ret (PyData.list x475)).bind fun x476 => dSum x476).bind fun x477 => dAdd (PyData.int 1) x477 else (((items v_v).bind fun x482 => (mapT (un2 fun v_key v_entry => ((dIx v_kind (PyData.int 1)).bind fun x478 => m__law_weight n x478 v_key).bind fun x480 => ((dIx v_kind (PyData.int 2)).bind fun x479 => m__law_weight n x479 v_entry).bind fun x481 => dAdd x480 x481) x482).bind fun x483 => Tr.ret (PyData.list x483)).bind fun x484 => dSum x484).bind fun x485 => dAdd (PyData.int 1) x485
mutual
def m__law_made : Nat → PyData → PyData → PyData → Tr PyData
  | 0, _, _, _ => Tr.bad
  | n + 1, v_kind, v_p, v_v => (dIx v_p (PyData.int 0)).bind fun v_word => (cEq v_word (PyData.str "same")).bind fun x527 => if x527 then Tr.ret (PyData.tuple [v_v]) else (cIn v_word (PyData.tuple [(PyData.str "only"), (PyData.str "turn")])).bind fun x526 => if x526 then ((dIx v_p (PyData.int 1)).bind fun x491 => cEq x491 v_v).bind fun x495 => if x495 then (((dLen v_p).bind fun x492 => dSub x492 (PyData.int 1)).bind fun x493 => dIx v_p x493).bind fun x494 => Tr.ret (PyData.tuple [x494]) else Tr.ret PyData.none else (cEq v_word (PyData.str "record")).bind fun x525 => if x525 then ((dLen v_v).bind fun x501 => (rangeT (.int 0) x501).bind fun x502 => (mapT (fun v_k => ((dIx v_kind (PyData.int 1)).bind fun x496 => dIx x496 v_k).bind fun x498 => ((dIx v_p (PyData.int 1)).bind fun x497 => dIx x497 v_k).bind fun x499 => (dIx v_v v_k).bind fun x500 => m__law_made n x498 x499 x500) x502).bind fun x503 => Tr.ret (PyData.list x503)).bind fun v_told => (cIn PyData.none v_told).bind fun x508 => if x508 then Tr.ret PyData.none else (((items v_told).bind fun x504 => (mapT (fun v_one => dIx v_one (PyData.int 0)) x504).bind fun x505 => Tr.ret (PyData.list x505)).bind fun x506 => dTuple x506).bind fun x507 => Tr.ret (PyData.tuple [x507]) else (cEq v_word (PyData.str "choice")).bind fun x524 => if x524 then (((dIx v_v (PyData.int 0)).bind fun x509 => (dIx v_p (PyData.int 1)).bind fun x510 => cEq x509 x510).bind fun x516 => if x516 then ((dIx v_kind (PyData.int 1)).bind fun x511 => (dIx v_p (PyData.int 1)).bind fun x512 => dIx x511 x512).bind fun x513 => (dIx v_p (PyData.int 2)).bind fun x514 => (dIx v_v (PyData.int 1)).bind fun x515 => m__law_made n x513 x514 x515 else Tr.ret PyData.none).bind fun v_told => if (isNon v_told) then Tr.ret PyData.none else ((dIx v_p (PyData.int 1)).bind fun x517 => (dIx v_told (PyData.int 0)).bind fun x518 => Tr.ret (PyData.tuple [x517, x518])).bind fun x519 => Tr.ret (PyData.tuple [x519]) else (cEq v_word (PyData.str "row")).bind fun x523 => if x523 then (dIx v_p (PyData.int 1)).bind fun x520 => m__law_made_row n v_kind x520 v_v else (cEq v_word (PyData.str "set")).bind fun x522 => if x522 then (Tr.bad : Tr PyData) else (cEq v_word (PyData.str "bag")).bind fun x521 => if x521 then (Tr.bad : Tr PyData) else (Tr.bad : Tr PyData)
def m__law_made_row : Nat → PyData → PyData → PyData → Tr PyData
  | 0, _, _, _ => Tr.bad
  | n + 1, v_kind, v_parts, v_v => (Tr.ret (PyData.int 0)).bind fun v_at => (Tr.ret (PyData.list [])).bind fun v_out => (items v_parts).bind fun x567 => forC id (fun (v_part : PyData) (x528 : PyData × PyData) => (((dIx v_part (PyData.int 0)).bind fun x529 => cEq x529 (PyData.str "add")).bind fun x563 => andThen Ct.rt (if x563 then ((dIx v_part (PyData.int 1)).bind fun x531 => (dApp x528.1 x531).bind fun v_out => Tr.ret (Ct.nx (v_out, x528.2)) : Tr (Ct (PyData × PyData))) else ((dIx v_part (PyData.int 0)).bind fun x532 => cEq x532 (PyData.str "keep")).bind fun x562 => andThen Ct.rt (if x562 then ((((dIx v_part (PyData.int 1)).bind fun x534 => dAdd x528.2 x534).bind fun x535 => (dLen v_v).bind fun x536 => cGt x535 x536).bind fun x544 => if x544 then Tr.ret (Ct.rt PyData.none) else (((asI x528.2).bind fun x538 => ((dIx v_part (PyData.int 1)).bind fun x537 => dAdd x528.2 x537).bind fun x539 => (asI x539).bind fun x540 => dSl v_v (some x538) (some x540)).bind fun x541 => dList x541).bind fun x543 => (dCat (PyData.list (unL x528.1)) x543).bind fun v_out => ((dIx v_part (PyData.int 1)).bind fun x542 => dAdd x528.2 x542).bind fun v_at => Tr.ret (Ct.nx (v_out, v_at)) : Tr (Ct (PyData × PyData))) else (((dLen v_v).bind fun x545 => cGe x528.2 x545).bind fun x552 => if x552 then Tr.ret PyData.none else ((dIx v_part (PyData.int 0)).bind fun x546 => cEq x546 (PyData.str "mend")).bind fun x551 => if x551 then (dIx v_kind (PyData.int 1)).bind fun x547 => (dIx v_part (PyData.int 1)).bind fun x548 => (dIx v_v x528.2).bind fun x549 => m__law_made n x547 x548 x549 else (dIx v_v x528.2).bind fun x550 => Tr.ret (PyData.tuple [x550])).bind fun v_told => (if (isNon v_told) then Tr.ret true else ((dIx v_part (PyData.int 0)).bind fun x553 => cEq x553 (PyData.str "cut")).bind fun x556 => if x556 then (dIx v_v x528.2).bind fun x554 => (dIx v_part (PyData.int 1)).bind fun x555 => cNe x554 x555 else Tr.ret false).bind fun x561 => if x561 then Tr.ret (Ct.rt PyData.none) else ((dIx v_part (PyData.int 0)).bind fun x557 => cEq x557 (PyData.str "mend")).bind fun x560 => (if x560 then ((dIx v_told (PyData.int 0)).bind fun x559 => (dApp x528.1 x559).bind fun v_out => Tr.ret v_out : Tr (PyData)) else Tr.ret x528.1).bind fun x558 => (dAdd x528.2 (PyData.int 1)).bind fun v_at => Tr.ret (Ct.nx (x558, v_at))) fun x533 => Tr.ret (Ct.nx (x533.1, x533.2))) fun x530 => Tr.ret (Ct.nx (x530.1, x530.2)) : Tr (Ct (PyData × PyData)))) (fun x528 => ((dLen v_v).bind fun x564 => cEq x528.2 x564).bind fun x566 => if x566 then (dTuple (PyData.list (unL x528.1))).bind fun x565 => Tr.ret (PyData.tuple [x565]) else Tr.ret PyData.none) x567 (v_out, v_at)
end
def m__law_cost : Nat → PyData → PyData → Tr PyData
  | 0, _, _ => Tr.bad
  | n + 1, v_kind, v_p => (dIx v_p (PyData.int 0)).bind fun v_word => (cIn v_word (PyData.tuple [(PyData.str "same"), (PyData.str "only")])).bind fun x632 => if x632 then Tr.ret (PyData.int 0) else (cEq v_word (PyData.str "turn")).bind fun x631 => if x631 then ((dIx v_p (PyData.int 1)).bind fun x568 => m__law_weight 12 v_kind x568).bind fun x570 => ((dIx v_p (PyData.int 2)).bind fun x569 => m__law_weight 12 v_kind x569).bind fun x571 => dAdd x570 x571 else (cEq v_word (PyData.str "record")).bind fun x630 => if x630 then (((dIx v_p (PyData.int 1)).bind fun x576 => dLen x576).bind fun x577 => (rangeT (.int 0) x577).bind fun x578 => (mapT (fun v_k => ((dIx v_kind (PyData.int 1)).bind fun x572 => dIx x572 v_k).bind fun x574 => ((dIx v_p (PyData.int 1)).bind fun x573 => dIx x573 v_k).bind fun x575 => m__law_cost n x574 x575) x578).bind fun x579 => Tr.ret (PyData.list x579)).bind fun x580 => dSum x580 else (cEq v_word (PyData.str "choice")).bind fun x629 => if x629 then ((dIx v_kind (PyData.int 1)).bind fun x581 => (dIx v_p (PyData.int 1)).bind fun x582 => dIx x581 x582).bind fun x583 => (dIx v_p (PyData.int 2)).bind fun x584 => m__law_cost n x583 x584 else (cEq v_word (PyData.str "row")).bind fun x628 => if x628 then ((dIx v_p (PyData.int 1)).bind fun x592 => (items x592).bind fun x593 => (mapIf (fun v_part => (dIx v_part (PyData.int 0)).bind fun x591 => cNe x591 (PyData.str "keep")) (fun v_part => ((dIx v_part (PyData.int 0)).bind fun x585 => cIn x585 (PyData.tuple [(PyData.str "cut"), (PyData.str "add")])).bind fun x590 => if x590 then (dIx v_kind (PyData.int 1)).bind fun x586 => (dIx v_part (PyData.int 1)).bind fun x587 => m__law_weight 12 x586 x587 else (dIx v_kind (PyData.int 1)).bind fun x588 => (dIx v_part (PyData.int 1)).bind fun x589 => m__law_cost n x588 x589) x593).bind fun x594 => Tr.ret (PyData.list x594)).bind fun x595 => dSum x595 else (cEq v_word (PyData.str "set")).bind fun x627 => if x627 then ((dIx v_p (PyData.int 1)).bind fun x597 => (items x597).bind fun x598 => (mapIf (un2 fun v_x v_what => cIn v_what (PyData.tuple [(PyData.str "cut"), (PyData.str "add")])) (un2 fun v_x v_what => (dIx v_kind (PyData.int 1)).bind fun x596 => m__law_weight 12 x596 v_x) x598).bind fun x599 => Tr.ret (PyData.list x599)).bind fun x600 => dSum x600 else (cEq v_word (PyData.str "bag")).bind fun x626 => if x626 then ((dIx v_p (PyData.int 1)).bind fun x604 => (items x604).bind fun x605 => (mapT (un3 fun v_x v_lowest v_d => (dAbs v_d).bind fun x602 => ((dIx v_kind (PyData.int 1)).bind fun x601 => m__law_weight 12 x601 v_x).bind fun x603 => dMul x602 x603) x605).bind fun x606 => Tr.ret (PyData.list x606)).bind fun x607 => dSum x607 else (Tr.ret (PyData.int 0)).bind fun v_told => (dIx v_p (PyData.int 1)).bind fun x624 => (items x624).bind fun x625 => forC id (fun (d : PyData) (x608 : PyData) => un2 (fun v_key v_change => (((dIx v_change (PyData.int 0)).bind fun x609 => cIn x609 (PyData.tuple [(PyData.str "cut"), (PyData.str "add")])).bind fun x623 => (if x623 then (((((dIx v_kind (PyData.int 1)).bind fun x611 => m__law_weight 12 x611 v_key).bind fun x612 => dAdd x608 x612).bind fun x615 => ((dIx v_kind (PyData.int 2)).bind fun x613 => (dIx v_change (PyData.int 1)).bind fun x614 => m__law_weight 12 x613 x614).bind fun x616 => dAdd x615 x616).bind fun v_told => Tr.ret v_told : Tr (PyData)) else Tr.ret x608).bind fun x610 => ((dIx v_change (PyData.int 0)).bind fun x617 => cEq x617 (PyData.str "mend")).bind fun x622 => (if x622 then ((((dIx v_kind (PyData.int 2)).bind fun x619 => (dIx v_change (PyData.int 1)).bind fun x620 => m__law_cost n x619 x620).bind fun x621 => dAdd x610 x621).bind fun v_told => Tr.ret v_told : Tr (PyData)) else Tr.ret x610).bind fun x618 => Tr.ret (Ct.nx x618) : Tr (Ct (PyData)))) d) (fun x608 => Tr.ret x608) x625 v_told
mutual
noncomputable def m__law_distance : Nat → List PyData → PyData → PyData → PyData → Tr PyData
  | 0, _, _, _, _ => Tr.bad
  | n + 1, F, v_kind, v_v, v_w => (cEq v_v v_w).bind fun x633 => if x633 then Tr.ret (PyData.int 0) else guardT (memP F v_kind v_v v_w (m__law_far n F v_kind v_v v_w)) (m__law_far n F v_kind v_v v_w)
noncomputable def m__law_far : Nat → List PyData → PyData → PyData → PyData → Tr PyData
  | 0, _, _, _, _ => Tr.bad
  | n + 1, F, v_kind, v_v, v_w => ((dIx v_kind (PyData.int 0)).bind fun v_word => Tr.ret (Ct.nx v_word) : Tr (Ct (PyData))).bind (nxT fun x634 => ((cEq x634 (PyData.str "number")).bind fun x638 => if x638 then Tr.ret true else (cEq x634 (PyData.str "choice")).bind fun x637 => if x637 then (dIx v_v (PyData.int 0)).bind fun x635 => (dIx v_w (PyData.int 0)).bind fun x636 => cNe x635 x636 else Tr.ret false).bind fun x676 => if x676 then (m__law_weight 12 v_kind v_v).bind fun x639 => (m__law_weight 12 v_kind v_w).bind fun x640 => dAdd x639 x640 else ((cEq x634 (PyData.str "record")).bind fun x674 => if x674 then .bad else (cEq x634 (PyData.str "choice")).bind fun x673 => if x673 then .bad else (cEq x634 (PyData.str "set")).bind fun x672 => if x672 then .bad else (((cNe x634 (PyData.str "row")).bind fun b => if b then .bad else .ret () : Tr Unit)).bind fun _ => (((cNe x634 (PyData.str "row")).bind fun b => if b then .bad else .ret () : Tr Unit)).bind fun _ => (cEq x634 (PyData.str "bag")).bind fun x671 => if x671 then .bad else (cEq x634 (PyData.str "table")).bind fun x670 => if x670 then .bad else (Tr.ret (PyData.list [(PyData.int 0)])).bind fun v_line => (items v_w).bind fun x669 => (forN (fun (v_y : PyData) (x642 : PyData) => ((((dSub (PyData.int (unL x642).length) (PyData.int 1)).bind fun x643 => dIx (.list (unL x642)) x643).bind fun x645 => ((dIx v_kind (PyData.int 1)).bind fun x644 => m__law_weight 12 x644 v_y).bind fun x646 => dAdd x645 x646).bind fun x647 => (dApp x642 x647).bind fun v_line => Tr.ret v_line : Tr (PyData))) x669 v_line).bind (fun x642 => (items v_v).bind fun x668 => forC Ct.rt (fun (v_x : PyData) (x648 : PyData) => (((dIx v_kind (PyData.int 1)).bind fun x649 => m__law_weight 12 x649 v_x).bind fun v_cut => ((dIx x648 (PyData.int 0)).bind fun x650 => dAdd x650 v_cut).bind fun x667 => (Tr.ret (PyData.list [x667])).bind fun v_fresh => (dLen v_w).bind fun x665 => (rangeT (.int 0) x665).bind fun x666 => (forN (fun (v_at : PyData) (x651 : PyData) => (((dIx v_kind (PyData.int 1)).bind fun x652 => (dIx v_w v_at).bind fun x653 => m__law_weight 12 x652 x653).bind fun v_add => ((((dAdd v_at (PyData.int 1)).bind fun x654 => dIx x648 x654).bind fun x655 => dAdd x655 v_cut).bind fun x661 => ((dIx (.list (unL x651)) v_at).bind fun x656 => dAdd x656 v_add).bind fun x662 => ((dIx x648 v_at).bind fun x659 => ((dIx v_kind (PyData.int 1)).bind fun x657 => (dIx v_w v_at).bind fun x658 => m__law_distance n F x657 v_x x658).bind fun x660 => dAdd x659 x660).bind fun x663 => dMin3 x661 x662 x663).bind fun x664 => (dApp x651 x664).bind fun v_fresh => Tr.ret v_fresh : Tr (PyData))) x666 v_fresh).bind (fun x651 => (Tr.ret (PyData.list (unL x651))).bind fun v_line => Tr.ret (Ct.nx v_line)) : Tr (Ct (PyData)))) (fun x648 => Tr.ret (Ct.nx x648)) x668 (PyData.list (unL x642))) : Tr (Ct (PyData))).bind (nxT fun x641 => (dLen v_w).bind fun x675 => dIx x641 x675))
end
def m__law_edited (v_v v_fresh : PyData) : Tr PyData :=
  (dList v_v).bind fun v_w => ((takeT (PyData.int 5)).bind fun x719 => dAdd (PyData.int 1) x719).bind fun x720 => (rangeT (.int 0) x720).bind fun x721 => forC id (fun (v_turn : PyData) (x677 : PyData) => (((dAdd (PyData.int (unL x677).length) (PyData.int 1)).bind fun x678 => takeT x678).bind fun v_at => (((m__law_pick (PyData.list [(PyData.int 6), (PyData.int 6), (PyData.int 70)])).bind fun x679 => takeT x679).bind fun x680 => dAdd (PyData.int 1) x680).bind fun v_many => (takeT (PyData.int 4)).bind fun v_sort => (cEq v_sort (PyData.int 0)).bind fun x718 => andThen Ct.rt (if x718 then (((asI v_at).bind fun x682 => dSl (.list (unL x677)) none (some x682)).bind fun x685 => ((dAdd v_at v_many).bind fun x683 => (asI x683).bind fun x684 => dSl (.list (unL x677)) (some x684) none).bind fun x686 => (dCat x685 x686).bind fun v_w => Tr.ret (Ct.nx v_w) : Tr (Ct (PyData))) else (cEq v_sort (PyData.int 1)).bind fun x717 => andThen Ct.rt (if x717 then ((((asI v_at).bind fun x688 => dSl (.list (unL x677)) none (some x688)).bind fun x691 => ((rangeT (.int 0) v_many).bind fun x689 => (mapT (fun v_k => m__law_pick v_fresh) x689).bind fun x690 => Tr.ret (PyData.list x690)).bind fun x692 => dAdd x691 x692).bind fun x694 => ((asI v_at).bind fun x693 => dSl (.list (unL x677)) (some x693) none).bind fun x695 => (dCat x694 x695).bind fun v_w => Tr.ret (Ct.nx v_w) : Tr (Ct (PyData))) else (cEq v_sort (PyData.int 2)).bind fun x716 => andThen Ct.rt (if x716 then (((asI v_at).bind fun x697 => (dAdd v_at v_many).bind fun x698 => (asI x698).bind fun x699 => dSl (.list (unL x677)) (some x697) (some x699)).bind fun v_stretch => ((asI v_at).bind fun x700 => dSl (.list (unL x677)) none (some x700)).bind fun x709 => ((dAdd v_at v_many).bind fun x701 => (asI x701).bind fun x702 => dSl (.list (unL x677)) (some x702) none).bind fun x710 => (dCat x709 x710).bind fun v_w => ((dAdd (PyData.int (unL v_w).length) (PyData.int 1)).bind fun x703 => takeT x703).bind fun v_to => (((asI v_to).bind fun x704 => dSl (.list (unL v_w)) none (some x704)).bind fun x705 => dAdd x705 v_stretch).bind fun x707 => ((asI v_to).bind fun x706 => dSl (.list (unL v_w)) (some x706) none).bind fun x708 => (dCat x707 x708).bind fun v_w => Tr.ret (Ct.nx v_w) : Tr (Ct (PyData))) else ((dAdd v_at (PyData.int 2)).bind fun x713 => dMin (PyData.int (unL x677).length) x713).bind fun x714 => (rangeT v_at x714).bind fun x715 => forC Ct.rt (fun (v_k : PyData) (x711 : PyData) => ((m__law_pick v_fresh).bind fun x712 => (dSetL x711 v_k x712).bind fun v_w => Tr.ret (Ct.nx v_w) : Tr (Ct (PyData)))) (fun x711 => Tr.ret (Ct.nx x711)) x715 x677) fun x696 => Tr.ret (Ct.nx x696)) fun x687 => Tr.ret (Ct.nx x687)) fun x681 => Tr.ret (Ct.nx x681) : Tr (Ct (PyData)))) (fun x677 => dTuple (PyData.list (unL x677))) x721 v_w
noncomputable def m_law (v_script : PyData) : Tr PyData :=
  (boxT v_script).bind fun x773 => ((takeT (PyData.int 2)).bind fun x722 => cEq x722 (PyData.int 0)).bind fun x772 => (if x772 then ((((takeT (PyData.int 19)).bind fun x724 => dAdd (PyData.int 2) x724).bind fun x725 => Tr.ret (PyData.tuple [(PyData.str "number"), x725])).bind fun v_inner => ((dIx v_inner (PyData.int 1)).bind fun x726 => (rangeT (.int 0) x726).bind fun x727 => Tr.ret (PyData.list x727)).bind fun v_fresh => Tr.ret (v_inner, v_fresh) : Tr (PyData × PyData)) else (Tr.ret (PyData.tuple [(PyData.str "row"), (PyData.tuple [(PyData.str "number"), (PyData.int 3)])])).bind fun v_inner => ((rangeT (.int 0) (PyData.int 6)).bind fun x732 => (mapT (fun v_n => ((takeT (PyData.int 4)).bind fun x728 => (rangeT (.int 0) x728).bind fun x729 => (mapT (fun v_k => takeT (PyData.int 3)) x729).bind fun x730 => Tr.ret (PyData.list x730)).bind fun x731 => dTuple x731) x732).bind fun x733 => Tr.ret (PyData.list x733)).bind fun v_fresh => Tr.ret (v_inner, v_fresh)).bind fun x723 => (Tr.ret (PyData.tuple [(PyData.str "row"), x723.1])).bind fun v_kind => (((((dIx x723.1 (PyData.int 0)).bind fun x734 => cEq x734 (PyData.str "number")).bind fun x735 => if x735 then Tr.ret (PyData.int 90) else Tr.ret (PyData.int 30)).bind fun x736 => takeT x736).bind fun x738 => ((takeT (PyData.int 50)).bind fun x737 => dAdd (PyData.int 1) x737).bind fun x739 => Tr.ret (PyData.tuple [x738, x739])).bind (un2 fun v_many v_step => (((rangeT (.int 0) v_many).bind fun x748 => (mapT (fun v_k => ((((((dMul v_k v_k).bind fun x740 => dMul x740 v_step).bind fun x741 => (dMul (PyData.int 3) v_k).bind fun x742 => dAdd x741 x742).bind fun x743 => dAdd x743 v_step).bind fun x744 => dInt x744).bind fun x745 => (dLen x723.2).bind fun x746 => dMod x745 x746).bind fun x747 => dIx x723.2 x747) x748).bind fun x749 => Tr.ret (PyData.list x749)).bind fun x750 => dTuple x750).bind fun v_v => ((m__law_edited v_v x723.2).bind fun x753 => (((dIx x723.1 (PyData.int 0)).bind fun x751 => cEq x751 (PyData.str "number")).bind fun x752 => if x752 then Tr.ret (PyData.int 110) else Tr.ret (PyData.int 40)).bind fun x754 => (asI x754).bind fun x755 => dSl x753 none (some x755)).bind fun v_w => (if (memF v_kind v_v v_w).length ≤ 1000000 then m__law_distance 12 (memF v_kind v_v v_w) v_kind v_v v_w else Tr.bad).bind fun v_due => ((m_least v_kind v_v v_w).noX).bind fun v_p => ((((m_distance v_kind v_v v_w).noX).bind fun x756 => cNe x756 v_due).bind fun x760 => if x760 then Tr.ret true else ((m__law_made 12 v_kind v_p v_v).bind fun x757 => cNe x757 (PyData.tuple [v_w])).bind fun x759 => if x759 then Tr.ret true else (m__law_cost 12 v_kind v_p).bind fun x758 => cNe x758 v_due).bind fun x771 => if x771 then Tr.ret (PyData.bool false) else (((dLen v_v).bind fun x761 => (dLen v_w).bind fun x762 => dMul x761 x762).bind fun x763 => cGt x763 (PyData.int 1500)).bind fun x770 => if x770 then Tr.ret (PyData.bool true) else ((m_bound v_kind v_v v_w).noX).bind fun v_paper => ((((m_worth v_kind v_v v_w v_paper).noX).bind fun x764 => cEq x764 v_due).bind fun x765 => Tr.ret (PyData.bool x765)).bind fun x768 => (asB x768).bind fun x769 => if x769 then (((m_worth v_kind v_v v_w (PyData.tuple [(PyData.str "none")])).noX).bind fun x766 => cEq x766 (PyData.int 0)).bind fun x767 => Tr.ret (PyData.bool x767) else Tr.ret (PyData.bool false))
section
variable {P : Program} {w : World} {K : PySem.W.Frag} {mg : Str → Option Value} {base : Heap}
theorem sc_is_whole : FnScope ["thing"] ["thing"] (defScope s_is_whole) := ⟨rfl, rfl, rfl, by decide +kernel, rfl, by decide +kernel, by decide +kernel⟩
theorem ok_is_whole (T : Txt w K mg) : FnOk P w K mg base CX0 1 T.d_is_whole.f T.d_is_whole.fd ["thing"] (SpN K 1 (fun ds => match ds with | [v_thing] => m_is_whole v_thing | _ => Tr.bad)) :=
  fn_pure (cl := T.cl) T.d_is_whole.F sc_is_whole (fun cdv A outer s H E hr => ⟨_, (pss_cons (ps_ret (pe_and (pe_callB call_isi (by rfl) T.z_isinstance (by decide +kernel) (pa_cons (pv 0) (pa_cons (pe_bltn (v := V.ty "int") (u := .type "int") (by rfl) T.z_int (by decide +kernel) rfl) pa_nil))) (pe_one (pe_not (pe_callB call_isi (by rfl) T.z_isinstance (by decide +kernel) (pa_cons (pv 0) (pa_cons (pe_bltn (v := V.ty "bool") (u := .type "bool") (by rfl) T.z_bool (by decide +kernel) rfl) pa_nil))))))) pss_nil), fun ds hl => match ds, hl with
      | [v_thing], _ => StG.eq ((st_ret (ev_andV (ev_isi isTy_int (ev_var (i := 0) rfl)) (ev_notV (ev_isi isTy_bool (ev_var (i := 0) rfl)))))) (by simp only [m_is_whole, Tr.ret_bind, Tr.bind_assoc, Tr.bind_ret, asB_bool, asI_int, on1_one, on2g_two, on2_two, on3_three])⟩)
theorem sc_is_within : FnScope ["thing", "low", "high"] ["thing", "low", "high"] (defScope s_is_within) := ⟨rfl, rfl, rfl, by decide +kernel, rfl, by decide +kernel, by decide +kernel⟩
theorem ok_is_within (T : Txt w K mg) : FnOk P w K mg base CX0 2 T.d_is_within.f T.d_is_within.fd ["thing", "low", "high"] (SpN K 3 (fun ds => match ds with | [v_thing, v_low, v_high] => m_is_within v_thing v_low v_high | _ => Tr.bad)) :=
  fn_pure (cl := T.cl) T.d_is_within.F sc_is_within (fun cdv A outer s H E hr => ⟨_, (pss_cons (ps_ret (pe_and (pe_call (ok_is_whole T) (hr.mono (by decide)) (by rfl) T.d_is_whole.g T.d_is_whole.F.kp T.d_is_whole.b .nil pass0 (pa_cons (pv 0) pa_nil)) (pe_one (pe_chain op_le op_le (pv 1) (pv 0) (pv 2))))) pss_nil), fun ds hl => match ds, hl with
      | [v_thing, v_low, v_high], _ => StG.eq ((st_ret (ev_andV (ev_callN (ea_cons (ev_var (i := 0) rfl) ea_nil)) (ev_chain rc_le rc_le (ev_var (i := 1) rfl) (ev_var (i := 0) rfl) (ev_var (i := 2) rfl))))) (by simp only [m_is_within, Tr.ret_bind, Tr.bind_assoc, Tr.bind_ret, asB_bool, asI_int, on1_one, on2g_two, on2_two, on3_three])⟩)
theorem sc_inner_kinds : FnScope ["kind", "word"] ["kind"] (defScope s_inner_kinds) := ⟨rfl, rfl, rfl, by decide +kernel, rfl, by decide +kernel, by decide +kernel⟩
theorem ok_inner_kinds (T : Txt w K mg) : FnOk P w K mg base CX0 3 T.d_inner_kinds.f T.d_inner_kinds.fd ["kind"] (SpN K 1 (fun ds => match ds with | [v_kind] => m_inner_kinds v_kind | _ => Tr.bad)) :=
  fn_pure (cl := T.cl) T.d_inner_kinds.F sc_inner_kinds (fun cdv A outer s H E hr => ⟨_, (pss_cons (ps_if (PW.pt (pw_or (pt_not (pt_val (pe_callB call_isi (by rfl) T.z_isinstance (by decide +kernel) (pa_cons (pv 0) (pa_cons (pe_bltn (v := V.ty "tuple") (u := .type "tuple") (by rfl) T.z_tuple (by decide +kernel) rfl) pa_nil))))) (pw_or1 (pt_cmpR op_lt (pe_callB call_len_seq (by rfl) T.z_len (by decide +kernel) (pa_cons (pv 0) pa_nil)) pe_int (nomark _))))) (pss_cons (ps_ret pe_non) pss_nil) pss_nil) (pss_cons (ps_set (i := 1) sc_inner_kinds.nd rfl (Or.inl rfl) (pe_ix ix_seq (pv 0) pe_int (fun _ _ => rfl))) (pss_cons (ps_if (pt_cmpR (op_eqP (room64 hr)) (pv 1) pe_str (nomark _)) (pss_cons (ps_ret (pe_ifExp (pt_cmpR (op_eqP (room64 hr)) (pe_callB call_len_seq (by rfl) T.z_len (by decide +kernel) (pa_cons (pv 0) pa_nil)) pe_int (nomark _)) (pe_slice sl_P (pv 0) (po_some pe_int) po_none) pe_non)) pss_nil) pss_nil) (pss_cons (ps_if (pt_cmpR op_gt (pe_callB call_len_seq (by rfl) T.z_len (by decide +kernel) (pa_cons (pv 0) pa_nil)) pe_int (nomark _)) (pss_cons (ps_ret pe_non) pss_nil) pss_nil) (pss_cons (ps_if (pt_cmpR (op_eqP (room64 hr)) (pv 1) pe_str (nomark _)) (pss_cons (ps_ret (pe_ifExp (pt_val (pe_call (ok_is_within T) (hr.mono (by decide)) (by rfl) T.d_is_within.g T.d_is_within.F.kp T.d_is_within.b .nil pass0 (pa_cons (pe_ix ix_seq (pv 0) pe_int (fun _ _ => rfl)) (pa_cons pe_int (pa_cons (pe_glob (v := V.int 1000) (by rfl) T.k_MOST_NUMBER ⟨_, rfl⟩) pa_nil))))) (pe_tupF pa_nil) pe_non)) pss_nil) pss_nil) (pss_cons (ps_if (pt_cmpR (op_inP (room65 hr)) (pv 1) (pe_tupF (pa_cons pe_str (pa_cons pe_str (pa_cons pe_str pa_nil)))) rfl) (pss_cons (ps_ret (pe_slice sl_P (pv 0) (po_some pe_int) po_none)) pss_nil) pss_nil) (pss_cons (ps_if (PW.pt (pw_or (pt_cmpR (op_notInP (room65 hr)) (pv 1) (pe_tupF (pa_cons pe_str (pa_cons pe_str pa_nil))) rfl) (pw_or1 (pt_not (pt_val (pe_callB call_isi (by rfl) T.z_isinstance (by decide +kernel) (pa_cons (pe_ix ix_seq (pv 0) pe_int (fun _ _ => rfl)) (pa_cons (pe_bltn (v := V.ty "tuple") (u := .type "tuple") (by rfl) T.z_tuple (by decide +kernel) rfl) pa_nil)))))))) (pss_cons (ps_ret pe_non) pss_nil) pss_nil) (pss_cons (ps_ret (pe_ifExp (pt_chain op_le op_le (pe_ix ix_kdict (pe_glob (v := V.ref T.p_FEWEST_INSIDE) (by rfl) T.g_FEWEST_INSIDE rfl) (pv 1) (fun _ _ => rfl)) (pe_callB call_len_seq (by rfl) T.z_len (by decide +kernel) (pa_cons (pe_ix ix_seq (pv 0) pe_int (fun _ _ => rfl)) pa_nil)) (pe_glob (v := V.int 4) (by rfl) T.k_MOST_INSIDE ⟨_, rfl⟩)) (pe_ix ix_seq (pv 0) pe_int (fun _ _ => rfl)) pe_non)) pss_nil)))))))), fun ds hl => match ds, hl with
      | [v_kind], _ => StG.eq ((st_if (et_or (et_not (et_B (ev_isi isTy_tuple (ev_var (i := 0) rfl)))) (et_cmp rc_lt (ev_cb1 rk_len (ev_var (i := 0) rfl)) ev_int)) (st_ret ev_non) (st_asg (i := 1) (fun _ _ => rfl) (ev_op rr_ix (ev_var (i := 0) rfl) ev_int) (fun v_word => (st_if (et_cmp rc_eq (ev_var (i := 1) rfl) ev_str) (st_ret (ev_if (et_cmp rc_eq (ev_cb1 rk_len (ev_var (i := 0) rfl)) ev_int) (ev_sl rs_P (ev_var (i := 0) rfl) (eo_some ev_int) eo_none) ev_non)) (st_if (et_cmp rc_gt (ev_cb1 rk_len (ev_var (i := 0) rfl)) ev_int) (st_ret ev_non) (st_if (et_cmp rc_eq (ev_var (i := 1) rfl) ev_str) (st_ret (ev_if (et_B (ev_callN (ea_cons (ev_op rr_ix (ev_var (i := 0) rfl) ev_int) (ea_cons ev_int (ea_cons ev_int ea_nil))))) (ev_tup ea_nil) ev_non)) (st_if (et_cmp rc_in (ev_var (i := 1) rfl) (ev_tup (ea_cons ev_str (ea_cons ev_str (ea_cons ev_str ea_nil))))) (st_ret (ev_sl rs_P (ev_var (i := 0) rfl) (eo_some ev_int) eo_none)) (st_if (et_or (et_cmp rc_notIn (ev_var (i := 1) rfl) (ev_tup (ea_cons ev_str (ea_cons ev_str ea_nil)))) (et_not (et_B (ev_isi isTy_tuple (ev_op rr_ix (ev_var (i := 0) rfl) ev_int))))) (st_ret ev_non) (st_ret (ev_if (et_chain rc_le rc_le (ev_kd T.kd_FEWEST_INSIDE (ev_var (i := 1) rfl)) (ev_cb1 rk_len (ev_op rr_ix (ev_var (i := 0) rfl) ev_int)) ev_int) (ev_op rr_ix (ev_var (i := 0) rfl) ev_int) ev_non))))))))))) (by simp only [m_inner_kinds, Tr.ret_bind, Tr.bind_assoc, Tr.bind_ret, asB_bool, asI_int, on1_one, on2g_two, on2_two, on3_three])⟩)
theorem sc_count_kinds : FnScope ["kind", "deep", "inside", "total", "inner", "many"] ["kind", "deep"] (defScope s_count_kinds) := ⟨rfl, rfl, rfl, by decide +kernel, rfl, by decide +kernel, by decide +kernel⟩
theorem rk_count_kinds (T : Txt w K mg) : ∀ n : Nat, (FnOk P w K mg base CX0 (3 + n) T.d_count_kinds.f T.d_count_kinds.fd ["kind", "deep"] (SpN K 2 (fun ds => match ds with | [v_kind, v_deep] => m_count_kinds n v_kind v_deep | _ => Tr.bad)))
  | 0 => fn_never (spN_bad fun ds hl => match ds, hl with | [v_kind, v_deep], _ => by simp only [m_count_kinds])
  | n + 1 => by
    have ih := rk_count_kinds T n
    have ih_count_kinds := ih
    exact fn_pure (cl := T.cl) T.d_count_kinds.F sc_count_kinds (fun cdv A outer s H E hr => ⟨_, (pss_cons (ps_set (i := 2) sc_count_kinds.nd rfl (Or.inl rfl) (pe_call (ok_inner_kinds T) (hr.mono (Nat.le_trans (by decide : 3 ≤ 3) (Nat.le_add_right 3 _))) (by rfl) T.d_inner_kinds.g T.d_inner_kinds.F.kp T.d_inner_kinds.b .nil pass0 (pa_cons (pv 0) pa_nil))) (pss_cons (ps_if (PW.pt (pw_or (pt_cmpR op_isN (pv 2) pe_non (nomark _)) (pw_or1 (pt_cmpR op_lt (pv 1) pe_int (nomark _))))) (pss_cons (ps_ret pe_non) pss_nil) pss_nil) (pss_cons (ps_set (i := 3) sc_count_kinds.nd rfl (Or.inl rfl) pe_int) (pss_cons (ps_for PassesOwn.never rfl (pi_seq (pv 2)) (pg_name (i := 4) sc_count_kinds.nd rfl (Or.inl rfl)) (pss_cons (ps_set (i := 5) sc_count_kinds.nd rfl (Or.inl rfl) (pe_call ih_count_kinds (hr.mono (Nat.le_refl _)) (by rfl) T.d_count_kinds.g T.d_count_kinds.F.kp T.d_count_kinds.b .nil pass0 (pa_cons (pv 4) (pa_cons (pe_op op_sub (pv 1) pe_int) pa_nil)))) (pss_cons (ps_if (pt_cmpR op_isN (pv 5) pe_non (nomark _)) (pss_cons (ps_ret pe_non) pss_nil) pss_nil) (pss_cons (ps_aug (i := 3) sc_count_kinds.nd rfl (Or.inl rfl) (pv 5) ip_add) pss_nil)))) (pss_cons (ps_ret (pv 3)) pss_nil))))), fun ds hl => match ds, hl with
          | [v_kind, v_deep], _ => StG.eq ((st_asg (i := 2) (fun _ _ => rfl) (ev_callN (ea_cons (ev_var (i := 0) rfl) ea_nil)) (fun v_inside => (st_if (et_or (et_isN (ev_var (i := 2) rfl)) (et_cmp rc_lt (ev_var (i := 1) rfl) ev_int)) (st_ret ev_non) (st_asg (i := 3) (fun _ _ => rfl) ev_int (fun v_total => (st_forS1 (S1 := PyData) (ρs := fun (x31 : PyData) => [.dat v_kind, .dat v_deep, .dat v_inside, .dat x31, .any, .any]) (r := id) (i := 4) (s0 := v_total) (fun _ _ => rfl) (fun _ => rfl) (ev_var (i := 2) rfl) (.same _ (.same _ (.same _ (.same _ (.same _ (.same _ .nil)))))) (fun _ => rfl) (fun v_inner x31 => (st_asg (i := 5) (fun _ _ => rfl) (ev_callN (ea_cons (ev_var (i := 4) rfl) (ea_cons (ev_op rr_sub (ev_var (i := 1) rfl) ev_int) ea_nil))) (fun v_many => (st_if (et_isN (ev_var (i := 5) rfl)) (st_rt (r := Ct.rt) (fun _ => rfl) ev_non) (st_aug (i := 3) (op := fun i j => i + j) (fun _ _ => rfl) rfl (ev_var (i := 5) rfl) (fun v_total => (st_nx (b := Ct.nx v_total) (s := v_total) rfl (.same _ (.same _ (.same _ (.same _ (.any rfl (.any rfl .nil))))))))))))) (fun x31 => (st_ret (ev_var (i := 3) rfl)))))))))) (by simp only [m_count_kinds, Tr.ret_bind, Tr.bind_assoc, Tr.bind_ret, asB_bool, asI_int, on1_one, on2g_two, on2_two, on3_three])⟩)
theorem ok_count_kinds (T : Txt w K mg) : FnOk P w K mg base CX0 11 T.d_count_kinds.f T.d_count_kinds.fd ["kind", "deep"] (SpN K 2 (fun ds => match ds with | [v_kind, v_deep] => m_count_kinds 8 v_kind v_deep | _ => Tr.bad)) := (rk_count_kinds T 8)
theorem sc_check_kind : FnScope ["kind", "many"] ["kind"] (defScope s_check_kind) := ⟨rfl, rfl, rfl, by decide +kernel, rfl, by decide +kernel, by decide +kernel⟩
theorem ok_check_kind (T : Txt w K mg) : FnOk P w K mg base (Cgx.CT P w) 12 T.d_check_kind.f T.d_check_kind.fd ["kind"] (SpP K T.cl 1 (fun ds => ((fun ds => match ds with | [v_kind] => b_check_kind v_kind | _ => Tr.bad) ds).bind fun _ => Tr.ret .none)) :=
  fn_raise0 (cl := T.cl) T.d_check_kind.F sc_check_kind (fun cdv A outer s H E hr => ⟨_, (fun _ => [.any, .any]), (pss_cons (ps_set (i := 1) sc_check_kind.nd rfl (Or.inl rfl) (pe_call (ok_count_kinds T) (hr.mono (by decide)) (by rfl) T.d_count_kinds.g T.d_count_kinds.F.kp T.d_count_kinds.b .nil pass0 (pa_cons (pv 0) (pa_cons (pe_glob (v := V.int 5) (by rfl) T.k_MOST_DEEP ⟨_, rfl⟩) pa_nil)))) (pss_cons (ps_if (PW.pt (pw_or (pt_cmpR op_isN (pv 1) pe_non (nomark _)) (pw_or1 (pt_cmpR op_gt (pv 1) (pe_glob (v := V.int 20) (by rfl) T.k_MOST_KINDS ⟨_, rfl⟩) (nomark _))))) (pss_cons (Cgx.ps_raise0 rfl (Cgx.lets_of rfl rfl rfl rfl) T.e_BadKind T.g_BadKind (by rfl)) pss_nil) pss_nil) pss_nil)), fun ds hl => match ds, hl with
      | [v_kind], _ => StG.eq ((st_asg (i := 1) (fun _ _ => rfl) (ev_callX (ea_cons (ev_var (i := 0) rfl) (ea_cons ev_int ea_nil))) (fun v_many => (st_if (et_or (et_isN (ev_var (i := 1) rfl)) (et_cmp rc_gt (ev_var (i := 1) rfl) ev_int)) (st_raise (c := Ek.kind)) (st_nx (b := ()) (s := ()) rfl (.any rfl (.any rfl .nil))))))) (by simp only [b_check_kind, Tr.ret_bind, Tr.bind_assoc, Tr.bind_ret, asB_bool, asI_int, on1_one, on2g_two, on2_two, on3_three])⟩)
theorem sc_is_tuple : FnScope ["thing", "many"] ["thing", "many"] (defScope s_is_tuple) := ⟨rfl, rfl, rfl, by decide +kernel, rfl, by decide +kernel, by decide +kernel⟩
theorem ok_is_tuple (T : Txt w K mg) : FnOk P w K mg base CX0 1 T.d_is_tuple.f T.d_is_tuple.fd ["thing", "many"] (SpN K 2 (fun ds => match ds with | [v_thing, v_many] => m_is_tuple v_thing v_many | _ => Tr.bad)) :=
  fn_pure (cl := T.cl) T.d_is_tuple.F sc_is_tuple (fun cdv A outer s H E hr => ⟨_, (pss_cons (ps_ret (pe_and (pe_callB call_isi (by rfl) T.z_isinstance (by decide +kernel) (pa_cons (pv 0) (pa_cons (pe_bltn (v := V.ty "tuple") (u := .type "tuple") (by rfl) T.z_tuple (by decide +kernel) rfl) pa_nil))) (pe_one (pe_cmpR (op_eqP (room64 hr)) (pe_callB call_len_seq (by rfl) T.z_len (by decide +kernel) (pa_cons (pv 0) pa_nil)) (pv 1) (nomark _))))) pss_nil), fun ds hl => match ds, hl with
      | [v_thing, v_many], _ => StG.eq ((st_ret (ev_andV (ev_isi isTy_tuple (ev_var (i := 0) rfl)) (ev_cmp rc_eq (ev_cb1 rk_len (ev_var (i := 0) rfl)) (ev_var (i := 1) rfl))))) (by simp only [m_is_tuple, Tr.ret_bind, Tr.bind_assoc, Tr.bind_ret, asB_bool, asI_int, on1_one, on2g_two, on2_two, on3_three])⟩)
theorem sc_is_rising : FnScope ["values", "at"] ["values"] (defScope s_is_rising) := ⟨rfl, rfl, rfl, by decide +kernel, rfl, by decide +kernel, by decide +kernel⟩
theorem ok_is_rising (T : Txt w K mg) : FnOk P w K mg base CX0 1 T.d_is_rising.f T.d_is_rising.fd ["values"] (SpN K 1 (fun ds => match ds with | [v_values] => m_is_rising v_values | _ => Tr.bad)) :=
  fn_pure (cl := T.cl) T.d_is_rising.F sc_is_rising (fun cdv A outer s H E hr => ⟨_, (pss_cons (ps_ret (pe_callB (cr_all rfl) (by rfl) T.z_all (by decide +kernel) (pa_cons (pe_lc (own := [("at", 1)]) rfl sc_is_rising.nd (pi_range2 (by rfl) T.z_range (pa_cons pe_int (pa_cons (pe_callB call_len_seq (by rfl) T.z_len (by decide +kernel) (pa_cons (pv 0) pa_nil)) pa_nil))) (blkOk_by (N := ["values", "at"]) (sc := defScope s_is_rising) (by decide +kernel)) (fun _ _ _ _ _ => pg_name (i := 1) sc_is_rising.nd rfl (Or.inl rfl)) (fun _ _ _ _ _ => pts_nil) (fun _ _ _ _ _ => (pe_cmpR (Cgo.op_ltD (room64 hr)) (pe_ix ix_seq (pv 0) (pe_op op_sub (pv 1) pe_int) (fun _ _ => rfl)) (pe_ix ix_seq (pv 0) (pv 1) (fun _ _ => rfl)) (nomark _)))) pa_nil))) pss_nil), fun ds hl => match ds, hl with
      | [v_values], _ => StG.eq ((st_ret (ev_cb1 rk_all (ev_lcR2n (fun _ _ => rfl) ev_int (ev_cb1 rk_len (ev_var (i := 0) rfl)) rfl (fun v_at => (ev_cmp rc_ltD (ev_op rr_ix (ev_var (i := 0) rfl) (ev_op rr_sub (ev_var (i := 1) rfl) ev_int)) (ev_op rr_ix (ev_var (i := 0) rfl) (ev_var (i := 1) rfl)))))))) (by simp only [m_is_rising, Tr.ret_bind, Tr.bind_assoc, Tr.bind_ret, asB_bool, asI_int, on1_one, on2g_two, on2_two, on3_three])⟩)
theorem sc_is_ordered : FnScope ["kind", "value", "pair"] ["kind", "value"] (defScope s_is_ordered) := ⟨rfl, rfl, rfl, by decide +kernel, rfl, by decide +kernel, by decide +kernel⟩
theorem ok_is_ordered (T : Txt w K mg) : FnOk P w K mg base CX0 2 T.d_is_ordered.f T.d_is_ordered.fd ["kind", "value"] (SpN K 2 (fun ds => match ds with | [v_kind, v_value] => m_is_ordered v_kind v_value | _ => Tr.bad)) :=
  fn_pure (cl := T.cl) T.d_is_ordered.F sc_is_ordered (fun cdv A outer s H E hr => ⟨_, (pss_cons (ps_if (pt_cmpR (op_eqP (room64 hr)) (pe_ix ix_seq (pv 0) pe_int (fun _ _ => rfl)) pe_str (nomark _)) (pss_cons (ps_ret (pe_call (ok_is_rising T) (hr.mono (by decide)) (by rfl) T.d_is_rising.g T.d_is_rising.F.kp T.d_is_rising.b .nil pass0 (pa_cons (pv 1) pa_nil))) pss_nil) pss_nil) (pss_cons (ps_if (pt_cmpR (op_inP (room65 hr)) (pe_ix ix_seq (pv 0) pe_int (fun _ _ => rfl)) (pe_tupF (pa_cons pe_str (pa_cons pe_str pa_nil))) rfl) (pss_cons (ps_ret (pe_call (ok_is_rising T) (hr.mono (by decide)) (by rfl) T.d_is_rising.g T.d_is_rising.F.kp T.d_is_rising.b .nil pass0 (pa_cons (pe_lc (own := [("pair", 2)]) rfl sc_is_ordered.nd (pi_seq (pv 1)) (blkOk_by (N := ["kind", "value", "pair"]) (sc := defScope s_is_ordered) (by decide +kernel)) (fun _ _ _ _ _ => pg_name (i := 2) sc_is_ordered.nd rfl (Or.inl rfl)) (fun _ _ _ _ _ => pts_nil) (fun _ _ _ _ _ => (pe_ix ix_seq (pv 2) pe_int (fun _ _ => rfl)))) pa_nil))) pss_nil) pss_nil) (pss_cons (ps_ret pe_bl) pss_nil))), fun ds hl => match ds, hl with
      | [v_kind, v_value], _ => StG.eq ((st_if (et_cmp rc_eq (ev_op rr_ix (ev_var (i := 0) rfl) ev_int) ev_str) (st_ret (ev_callN (ea_cons (ev_var (i := 1) rfl) ea_nil))) (st_if (et_cmp rc_in (ev_op rr_ix (ev_var (i := 0) rfl) ev_int) (ev_tup (ea_cons ev_str (ea_cons ev_str ea_nil)))) (st_ret (ev_callN (ea_cons (ev_lcS1 (fun _ _ => rfl) (ev_var (i := 1) rfl) rfl (fun v_pair => (ev_op rr_ix (ev_var (i := 2) rfl) ev_int))) ea_nil))) (st_ret ev_bl)))) (by simp only [m_is_ordered, Tr.ret_bind, Tr.bind_assoc, Tr.bind_ret, asB_bool, asI_int, on1_one, on2g_two, on2_two, on3_three])⟩)
theorem sc_bag_parts : FnScope ["kind", "value", "pair", "item", "count"] ["kind", "value"] (defScope s_bag_parts) := ⟨rfl, rfl, rfl, by decide +kernel, rfl, by decide +kernel, by decide +kernel⟩
theorem ok_bag_parts (T : Txt w K mg) : FnOk P w K mg base CX0 2 T.d_bag_parts.f T.d_bag_parts.fd ["kind", "value"] (SpN K 2 (fun ds => match ds with | [v_kind, v_value] => m_bag_parts v_kind v_value | _ => Tr.bad)) :=
  fn_pure (cl := T.cl) T.d_bag_parts.F sc_bag_parts (fun cdv A outer s H E hr => ⟨_, (pss_cons (ps_for PassesOwn.never rfl (pi_seq (pv 1)) (pg_name (i := 2) sc_bag_parts.nd rfl (Or.inl rfl)) (pss_cons (ps_if (PW.pt (pw_or (pt_not (pt_val (pe_call (ok_is_tuple T) (hr.mono (by decide)) (by rfl) T.d_is_tuple.g T.d_is_tuple.F.kp T.d_is_tuple.b .nil pass0 (pa_cons (pv 2) (pa_cons pe_int pa_nil))))) (pw_or (pt_not (pt_val (pe_call (ok_is_whole T) (hr.mono (by decide)) (by rfl) T.d_is_whole.g T.d_is_whole.F.kp T.d_is_whole.b .nil pass0 (pa_cons (pe_ix ix_seq (pv 2) pe_int (fun _ _ => rfl)) pa_nil)))) (pw_or1 (pt_cmpR op_lt (pe_ix ix_seq (pv 2) pe_int (fun _ _ => rfl)) pe_int (nomark _)))))) (pss_cons (ps_ret pe_non) pss_nil) pss_nil) pss_nil)) (pss_cons (ps_ret (pe_lc (own := [("item", 3), ("count", 4)]) rfl sc_bag_parts.nd (pi_seq (pv 1)) (blkOk_by (N := ["kind", "value", "pair", "item", "count"]) (sc := defScope s_bag_parts) (by decide +kernel)) (fun _ _ _ _ _ => pg_tup rfl (pgs_cons (pg_name (i := 3) sc_bag_parts.nd rfl (Or.inl rfl)) (pgs_cons (pg_name (i := 4) sc_bag_parts.nd rfl (Or.inl rfl)) pgs_nil))) (fun _ _ _ _ _ => pts_nil) (fun _ _ _ _ _ => (pe_tupF (pa_cons (pe_ix ix_seq (pv 0) pe_int (fun _ _ => rfl)) (pa_cons (pv 3) (pa_cons (pv 4) pa_nil))))))) pss_nil)), fun ds hl => match ds, hl with
      | [v_kind, v_value], _ => StG.eq ((st_forS1 (S1 := Unit) (ρs := fun (x53 : Unit) => [.dat v_kind, .dat v_value, .any, .any, .any]) (r := id) (i := 2) (s0 := ()) (fun _ _ => rfl) (fun _ => rfl) (ev_var (i := 1) rfl) (.same _ (.same _ (.same _ (.same _ (.same _ .nil))))) (fun _ => rfl) (fun v_pair x53 => (st_if (et_or (et_not (et_B (ev_callN (ea_cons (ev_var (i := 2) rfl) (ea_cons ev_int ea_nil))))) (et_or (et_not (et_B (ev_callN (ea_cons (ev_op rr_ix (ev_var (i := 2) rfl) ev_int) ea_nil)))) (et_cmp rc_lt (ev_op rr_ix (ev_var (i := 2) rfl) ev_int) ev_int))) (st_rt (r := Ct.rt) (fun _ => rfl) ev_non) (st_nx (b := Ct.nx ()) (s := ()) rfl (.same _ (.same _ (.any rfl (.same _ (.same _ .nil)))))))) (fun x53 => (st_ret (ev_lcS2 (fun _ _ => rfl) (ev_var (i := 1) rfl) rfl (fun v_item v_count => (ev_tup (ea_cons (ev_op rr_ix (ev_var (i := 0) rfl) ev_int) (ea_cons (ev_var (i := 3) rfl) (ea_cons (ev_var (i := 4) rfl) ea_nil)))))))))) (by simp only [m_bag_parts, Tr.ret_bind, Tr.bind_assoc, Tr.bind_ret, asB_bool, asI_int, on1_one, on2g_two, on2_two, on3_three])⟩)
theorem sc_choice_parts : FnScope ["kind", "value"] ["kind", "value"] (defScope s_choice_parts) := ⟨rfl, rfl, rfl, by decide +kernel, rfl, by decide +kernel, by decide +kernel⟩
theorem ok_choice_parts (T : Txt w K mg) : FnOk P w K mg base CX0 3 T.d_choice_parts.f T.d_choice_parts.fd ["kind", "value"] (SpN K 2 (fun ds => match ds with | [v_kind, v_value] => m_choice_parts v_kind v_value | _ => Tr.bad)) :=
  fn_pure (cl := T.cl) T.d_choice_parts.F sc_choice_parts (fun cdv A outer s H E hr => ⟨_, (pss_cons (ps_if (PW.pt (pw_or (pt_cmpR (op_neP (room64 hr)) (pe_callB call_len_seq (by rfl) T.z_len (by decide +kernel) (pa_cons (pv 1) pa_nil)) pe_int (nomark _)) (pw_or1 (pt_not (pt_val (pe_call (ok_is_within T) (hr.mono (by decide)) (by rfl) T.d_is_within.g T.d_is_within.F.kp T.d_is_within.b .nil pass0 (pa_cons (pe_ix ix_seq (pv 1) pe_int (fun _ _ => rfl)) (pa_cons pe_int (pa_cons (pe_op op_sub (pe_callB call_len_seq (by rfl) T.z_len (by decide +kernel) (pa_cons (pe_ix ix_seq (pv 0) pe_int (fun _ _ => rfl)) pa_nil)) pe_int) pa_nil))))))))) (pss_cons (ps_ret pe_non) pss_nil) pss_nil) (pss_cons (ps_ret (pe_lst (pa_cons (pe_tupF (pa_cons (pe_ix ix_seq (pe_ix ix_seq (pv 0) pe_int (fun _ _ => rfl)) (pe_ix ix_seq (pv 1) pe_int (fun _ _ => rfl)) (fun _ _ => rfl)) (pa_cons (pe_ix ix_seq (pv 1) pe_int (fun _ _ => rfl)) (pa_cons pe_int pa_nil)))) pa_nil))) pss_nil)), fun ds hl => match ds, hl with
      | [v_kind, v_value], _ => StG.eq ((st_if (et_or (et_cmp rc_ne (ev_cb1 rk_len (ev_var (i := 1) rfl)) ev_int) (et_not (et_B (ev_callN (ea_cons (ev_op rr_ix (ev_var (i := 1) rfl) ev_int) (ea_cons ev_int (ea_cons (ev_op rr_sub (ev_cb1 rk_len (ev_op rr_ix (ev_var (i := 0) rfl) ev_int)) ev_int) ea_nil))))))) (st_ret ev_non) (st_ret (ev_lst (ea_cons (ev_tup (ea_cons (ev_op rr_ix (ev_op rr_ix (ev_var (i := 0) rfl) ev_int) (ev_op rr_ix (ev_var (i := 1) rfl) ev_int)) (ea_cons (ev_op rr_ix (ev_var (i := 1) rfl) ev_int) (ea_cons ev_int ea_nil)))) ea_nil))))) (by simp only [m_choice_parts, Tr.ret_bind, Tr.bind_assoc, Tr.bind_ret, asB_bool, asI_int, on1_one, on2g_two, on2_two, on3_three])⟩)
theorem sc_item_parts : FnScope ["kind", "value", "item"] ["kind", "value"] (defScope s_item_parts) := ⟨rfl, rfl, rfl, by decide +kernel, rfl, by decide +kernel, by decide +kernel⟩
theorem ok_item_parts (T : Txt w K mg) : FnOk P w K mg base CX0 1 T.d_item_parts.f T.d_item_parts.fd ["kind", "value"] (SpN K 2 (fun ds => match ds with | [v_kind, v_value] => m_item_parts v_kind v_value | _ => Tr.bad)) :=
  fn_pure (cl := T.cl) T.d_item_parts.F sc_item_parts (fun cdv A outer s H E hr => ⟨_, (pss_cons (ps_ret (pe_lc (own := [("item", 2)]) rfl sc_item_parts.nd (pi_seq (pv 1)) (blkOk_by (N := ["kind", "value", "item"]) (sc := defScope s_item_parts) (by decide +kernel)) (fun _ _ _ _ _ => pg_name (i := 2) sc_item_parts.nd rfl (Or.inl rfl)) (fun _ _ _ _ _ => pts_nil) (fun _ _ _ _ _ => (pe_tupF (pa_cons (pe_ix ix_seq (pv 0) pe_int (fun _ _ => rfl)) (pa_cons (pv 2) (pa_cons pe_int pa_nil))))))) pss_nil), fun ds hl => match ds, hl with
      | [v_kind, v_value], _ => StG.eq ((st_ret (ev_lcS1 (fun _ _ => rfl) (ev_var (i := 1) rfl) rfl (fun v_item => (ev_tup (ea_cons (ev_op rr_ix (ev_var (i := 0) rfl) ev_int) (ea_cons (ev_var (i := 2) rfl) (ea_cons ev_int ea_nil)))))))) (by simp only [m_item_parts, Tr.ret_bind, Tr.bind_assoc, Tr.bind_ret, asB_bool, asI_int, on1_one, on2g_two, on2_two, on3_three])⟩)
theorem sc_record_parts : FnScope ["kind", "value", "inner", "item"] ["kind", "value"] (defScope s_record_parts) := ⟨rfl, rfl, rfl, by decide +kernel, rfl, by decide +kernel, by decide +kernel⟩
theorem ok_record_parts (T : Txt w K mg) : FnOk P w K mg base CX0 1 T.d_record_parts.f T.d_record_parts.fd ["kind", "value"] (SpN K 2 (fun ds => match ds with | [v_kind, v_value] => m_record_parts v_kind v_value | _ => Tr.bad)) :=
  fn_pure (cl := T.cl) T.d_record_parts.F sc_record_parts (fun cdv A outer s H E hr => ⟨_, (pss_cons (ps_if (pt_cmpR (op_neP (room64 hr)) (pe_callB call_len_seq (by rfl) T.z_len (by decide +kernel) (pa_cons (pv 1) pa_nil)) (pe_callB call_len_seq (by rfl) T.z_len (by decide +kernel) (pa_cons (pe_ix ix_seq (pv 0) pe_int (fun _ _ => rfl)) pa_nil)) (nomark _)) (pss_cons (ps_ret pe_non) pss_nil) pss_nil) (pss_cons (ps_ret (pe_lc (own := [("inner", 2), ("item", 3)]) rfl sc_record_parts.nd (RZ.pi_zipA (by rfl) T.z_zip (pa_cons (pe_ix ix_seq (pv 0) pe_int (fun _ _ => rfl)) (pa_cons (pv 1) pa_nil))) (blkOk_by (N := ["kind", "value", "inner", "item"]) (sc := defScope s_record_parts) (by decide +kernel)) (fun _ _ _ _ _ => pg_tup rfl (pgs_cons (pg_name (i := 2) sc_record_parts.nd rfl (Or.inl rfl)) (pgs_cons (pg_name (i := 3) sc_record_parts.nd rfl (Or.inl rfl)) pgs_nil))) (fun _ _ _ _ _ => pts_nil) (fun _ _ _ _ _ => (pe_tupF (pa_cons (pv 2) (pa_cons (pv 3) (pa_cons pe_int pa_nil))))))) pss_nil)), fun ds hl => match ds, hl with
      | [v_kind, v_value], _ => StG.eq ((st_if (et_cmp rc_ne (ev_cb1 rk_len (ev_var (i := 1) rfl)) (ev_cb1 rk_len (ev_op rr_ix (ev_var (i := 0) rfl) ev_int))) (st_ret ev_non) (st_ret (ev_lcZ2 (fun _ _ => rfl) (ev_op rr_ix (ev_var (i := 0) rfl) ev_int) (ev_var (i := 1) rfl) rfl (fun v_inner v_item => (ev_tup (ea_cons (ev_var (i := 2) rfl) (ea_cons (ev_var (i := 3) rfl) (ea_cons ev_int ea_nil))))))))) (by simp only [m_record_parts, Tr.ret_bind, Tr.bind_assoc, Tr.bind_ret, asB_bool, asI_int, on1_one, on2g_two, on2_two, on3_three])⟩)
theorem sc_table_parts : FnScope ["kind", "value", "parts", "pair"] ["kind", "value"] (defScope s_table_parts) := ⟨rfl, rfl, rfl, by decide +kernel, rfl, by decide +kernel, by decide +kernel⟩
theorem ok_table_parts (T : Txt w K mg) : FnOk P w K mg base CX0 2 T.d_table_parts.f T.d_table_parts.fd ["kind", "value"] (SpN K 2 (fun ds => match ds with | [v_kind, v_value] => m_table_parts v_kind v_value | _ => Tr.bad)) :=
  fn_pure (cl := T.cl) T.d_table_parts.F sc_table_parts (fun cdv A outer s H E hr => ⟨_, (pss_cons (ps_set (i := 2) sc_table_parts.nd rfl (Or.inl rfl) (pe_lst pa_nil)) (pss_cons (ps_for PassesOwn.never rfl (pi_seq (pv 1)) (pg_name (i := 3) sc_table_parts.nd rfl (Or.inl rfl)) (pss_cons (ps_if (pt_not (pt_val (pe_call (ok_is_tuple T) (hr.mono (by decide)) (by rfl) T.d_is_tuple.g T.d_is_tuple.F.kp T.d_is_tuple.b .nil pass0 (pa_cons (pv 3) (pa_cons pe_int pa_nil))))) (pss_cons (ps_ret pe_non) pss_nil) pss_nil) (pss_cons (ps_expr (pe_bm PySem.F.plainAttrs_list PySem.F.slot_list_append PySem.F.type_list_append mt_append (pv 2) (pa_cons (pe_tupF (pa_cons (pe_ix ix_seq (pv 0) pe_int (fun _ _ => rfl)) (pa_cons (pe_ix ix_seq (pv 3) pe_int (fun _ _ => rfl)) (pa_cons pe_int pa_nil)))) pa_nil))) (pss_cons (ps_expr (pe_bm PySem.F.plainAttrs_list PySem.F.slot_list_append PySem.F.type_list_append mt_append (pv 2) (pa_cons (pe_tupF (pa_cons (pe_ix ix_seq (pv 0) pe_int (fun _ _ => rfl)) (pa_cons (pe_ix ix_seq (pv 3) pe_int (fun _ _ => rfl)) (pa_cons pe_int pa_nil)))) pa_nil))) pss_nil)))) (pss_cons (ps_ret (pv 2)) pss_nil))), fun ds hl => match ds, hl with
      | [v_kind, v_value], _ => StG.eq ((st_accNew (fun _ _ => rfl) (i := 2) (fun v_parts => (st_forS1 (S1 := PyData) (ρs := fun (x94 : PyData) => [.dat v_kind, .dat v_value, .acc (unL x94), .any]) (r := id) (i := 3) (s0 := v_parts) (fun _ _ => rfl) (fun _ => rfl) (ev_var (i := 1) rfl) (.same _ (.same _ (.same _ (.same _ .nil)))) (fun _ => rfl) (fun v_pair x94 => (st_if (et_not (et_B (ev_callN (ea_cons (ev_var (i := 3) rfl) (ea_cons ev_int ea_nil))))) (st_rt (r := Ct.rt) (fun _ => rfl) ev_non) (st_append (fun _ _ => rfl) (i := 2) (a := x94) rfl (ev_tup (ea_cons (ev_op rr_ix (ev_var (i := 0) rfl) ev_int) (ea_cons (ev_op rr_ix (ev_var (i := 3) rfl) ev_int) (ea_cons ev_int ea_nil)))) (fun v_parts => (st_append (fun _ _ => rfl) (i := 2) (a := v_parts) rfl (ev_tup (ea_cons (ev_op rr_ix (ev_var (i := 0) rfl) ev_int) (ea_cons (ev_op rr_ix (ev_var (i := 3) rfl) ev_int) (ea_cons ev_int ea_nil)))) (fun v_parts => (st_nx (b := Ct.nx v_parts) (s := v_parts) rfl (.same _ (.same _ (.same _ (.any rfl .nil))))))))))) (fun x94 => (st_freeze (fun _ _ => rfl) (i := 2) rfl (st_ret (ev_var (i := 2) rfl)))))))) (by simp only [m_table_parts, Tr.ret_bind, Tr.bind_assoc, Tr.bind_ret, asB_bool, asI_int, on1_one, on2g_two, on2_two, on3_three])⟩)
theorem fr_VALUE_PARTS (T : Txt w K mg) : ∀ q ∈ tab_VALUE_PARTS T, FnR P w K mg base CX0 3 q.2 (fun vs H Q E => SpN K 2 (fm_VALUE_PARTS q.1) (vs ++ []) H Q E) ∧ PySem.W.keepIn K (.ref q.2) = true := by
  intro q hq
  simp only [tab_VALUE_PARTS, List.mem_cons, List.not_mem_nil, or_false] at hq
  rcases hq with rfl | rfl | rfl | rfl | rfl | rfl
  · have e : fm_VALUE_PARTS "record" = (fun ds => match ds with | [a0, a1] => m_record_parts a0 a1 | _ => Tr.bad) := by
      unfold fm_VALUE_PARTS
      rw [if_pos rfl]
    exact ⟨by
      show FnR P w K mg base CX0 3 T.d_record_parts.f (fun vs H Q E => SpN K 2 (fm_VALUE_PARTS "record") (vs ++ []) H Q E)
      rw [e]
      exact FnOk.raw ((ok_record_parts T).mono (by decide)) T.d_record_parts.b .nil, T.d_record_parts.F.kp⟩
  · have e : fm_VALUE_PARTS "choice" = (fun ds => match ds with | [a0, a1] => m_choice_parts a0 a1 | _ => Tr.bad) := by
      unfold fm_VALUE_PARTS
      rw [if_neg (by decide), if_pos rfl]
    exact ⟨by
      show FnR P w K mg base CX0 3 T.d_choice_parts.f (fun vs H Q E => SpN K 2 (fm_VALUE_PARTS "choice") (vs ++ []) H Q E)
      rw [e]
      exact FnOk.raw ((ok_choice_parts T).mono (by decide)) T.d_choice_parts.b .nil, T.d_choice_parts.F.kp⟩
  · have e : fm_VALUE_PARTS "row" = (fun ds => match ds with | [a0, a1] => m_item_parts a0 a1 | _ => Tr.bad) := by
      unfold fm_VALUE_PARTS
      rw [if_neg (by decide), if_neg (by decide), if_pos rfl]
    exact ⟨by
      show FnR P w K mg base CX0 3 T.d_item_parts.f (fun vs H Q E => SpN K 2 (fm_VALUE_PARTS "row") (vs ++ []) H Q E)
      rw [e]
      exact FnOk.raw ((ok_item_parts T).mono (by decide)) T.d_item_parts.b .nil, T.d_item_parts.F.kp⟩
  · have e : fm_VALUE_PARTS "set" = (fun ds => match ds with | [a0, a1] => m_item_parts a0 a1 | _ => Tr.bad) := by
      unfold fm_VALUE_PARTS
      rw [if_neg (by decide), if_neg (by decide), if_neg (by decide), if_pos rfl]
    exact ⟨by
      show FnR P w K mg base CX0 3 T.d_item_parts.f (fun vs H Q E => SpN K 2 (fm_VALUE_PARTS "set") (vs ++ []) H Q E)
      rw [e]
      exact FnOk.raw ((ok_item_parts T).mono (by decide)) T.d_item_parts.b .nil, T.d_item_parts.F.kp⟩
  · have e : fm_VALUE_PARTS "bag" = (fun ds => match ds with | [a0, a1] => m_bag_parts a0 a1 | _ => Tr.bad) := by
      unfold fm_VALUE_PARTS
      rw [if_neg (by decide), if_neg (by decide), if_neg (by decide), if_neg (by decide), if_pos rfl]
    exact ⟨by
      show FnR P w K mg base CX0 3 T.d_bag_parts.f (fun vs H Q E => SpN K 2 (fm_VALUE_PARTS "bag") (vs ++ []) H Q E)
      rw [e]
      exact FnOk.raw ((ok_bag_parts T).mono (by decide)) T.d_bag_parts.b .nil, T.d_bag_parts.F.kp⟩
  · have e : fm_VALUE_PARTS "table" = (fun ds => match ds with | [a0, a1] => m_table_parts a0 a1 | _ => Tr.bad) := by
      unfold fm_VALUE_PARTS
      rw [if_neg (by decide), if_neg (by decide), if_neg (by decide), if_neg (by decide), if_neg (by decide), if_pos rfl]
    exact ⟨by
      show FnR P w K mg base CX0 3 T.d_table_parts.f (fun vs H Q E => SpN K 2 (fm_VALUE_PARTS "table") (vs ++ []) H Q E)
      rw [e]
      exact FnOk.raw ((ok_table_parts T).mono (by decide)) T.d_table_parts.b .nil, T.d_table_parts.F.kp⟩
theorem sc_value_parts : FnScope ["kind", "value", "action"] ["kind", "value"] (defScope s_value_parts) := ⟨rfl, rfl, rfl, by decide +kernel, rfl, by decide +kernel, by decide +kernel⟩
theorem ok_value_parts (T : Txt w K mg) : FnOk P w K mg base CX0 4 T.d_value_parts.f T.d_value_parts.fd ["kind", "value"] (SpN K 2 (fun ds => match ds with | [v_kind, v_value] => m_value_parts v_kind v_value | _ => Tr.bad)) :=
  fn_pure (cl := T.cl) T.d_value_parts.F sc_value_parts (fun cdv A outer s H E hr => ⟨_, (pss_cons (ps_if (pt_cmpR (op_eqP (room64 hr)) (pe_ix ix_seq (pv 0) pe_int (fun _ _ => rfl)) pe_str (nomark _)) (pss_cons (ps_ret (pe_ifExp (pt_val (pe_call (ok_is_within T) (hr.mono (by decide)) (by rfl) T.d_is_within.g T.d_is_within.F.kp T.d_is_within.b .nil pass0 (pa_cons (pv 1) (pa_cons pe_int (pa_cons (pe_op op_sub (pe_ix ix_seq (pv 0) pe_int (fun _ _ => rfl)) pe_int) pa_nil))))) (pe_lst pa_nil) pe_non)) pss_nil) pss_nil) (pss_cons (ps_if (pt_not (pt_val (pe_callB call_isi (by rfl) T.z_isinstance (by decide +kernel) (pa_cons (pv 1) (pa_cons (pe_bltn (v := V.ty "tuple") (u := .type "tuple") (by rfl) T.z_tuple (by decide +kernel) rfl) pa_nil))))) (pss_cons (ps_ret pe_non) pss_nil) pss_nil) (pss_cons (ps_set (i := 2) sc_value_parts.nd rfl (Or.inl rfl) (pe_ix ix_kdict (pe_glob (v := V.ref T.p_VALUE_PARTS) (by rfl) T.g_VALUE_PARTS rfl) (pe_ix ix_seq (pv 0) pe_int (fun _ _ => rfl)) (fun _ _ => rfl))) (pss_cons (ps_ret (pe_alt fun (k : { q : Str × Addr // q ∈ tab_VALUE_PARTS T }) => ItX.pe_callV ((fr_VALUE_PARTS (P := P) (base := base) T k.1 k.2).1.mono (by decide : 3 ≤ 3)) (hr.mono (by decide)) (fr_VALUE_PARTS (P := P) (base := base) T k.1 k.2).2 pass0 rfl (by first | exact Or.inl rfl | exact Or.inr (Or.inl rfl) | exact Or.inr (Or.inr rfl)) (pa_cons (pv 0) (pa_cons (pv 1) pa_nil)))) pss_nil)))), fun ds hl => match ds, hl with
      | [v_kind, v_value], _ => StG.eq ((st_if (et_cmp rc_eq (ev_op rr_ix (ev_var (i := 0) rfl) ev_int) ev_str) (st_ret (ev_if (et_B (ev_callN (ea_cons (ev_var (i := 1) rfl) (ea_cons ev_int (ea_cons (ev_op rr_sub (ev_op rr_ix (ev_var (i := 0) rfl) ev_int) ev_int) ea_nil))))) (ev_lst ea_nil) ev_non)) (st_if (et_not (et_B (ev_isi isTy_tuple (ev_var (i := 1) rfl)))) (st_ret ev_non) (st_asgF2 (i := 2) (names := fn_VALUE_PARTS) (g := fun q_action => fm_VALUE_PARTS q_action [v_kind, v_value]) (fun _ _ => rfl) T.fd_VALUE_PARTS rfl (ev_op rr_ix (ev_var (i := 0) rfl) ev_int) (fun q hq => (st_ret (ev_callF (i := 2) (tab := tab_VALUE_PARTS T) (m := fm_VALUE_PARTS) hq rfl (ea_cons (ev_var (i := 0) rfl) (ea_cons (ev_var (i := 1) rfl) ea_nil))))))))) (by simp only [m_value_parts, Tr.ret_bind, Tr.bind_assoc, Tr.bind_ret, asB_bool, asI_int, on1_one, on2g_two, on2_two, on3_three])⟩)
theorem sc_weigh : FnScope ["kind", "value", "limit", "parts", "total", "inner", "item", "times", "each"] ["kind", "value", "limit"] (defScope s_weigh) := ⟨rfl, rfl, rfl, by decide +kernel, rfl, by decide +kernel, by decide +kernel⟩
theorem rk_weigh (T : Txt w K mg) : ∀ n : Nat, (FnOk P w K mg base CX0 (4 + n) T.d_weigh.f T.d_weigh.fd ["kind", "value", "limit"] (SpN K 3 (fun ds => match ds with | [v_kind, v_value, v_limit] => m_weigh n v_kind v_value v_limit | _ => Tr.bad)))
  | 0 => fn_never (spN_bad fun ds hl => match ds, hl with | [v_kind, v_value, v_limit], _ => by simp only [m_weigh])
  | n + 1 => by
    have ih := rk_weigh T n
    have ih_weigh := ih
    exact fn_pure (cl := T.cl) T.d_weigh.F sc_weigh (fun cdv A outer s H E hr => ⟨_, (pss_cons (ps_set (i := 3) sc_weigh.nd rfl (Or.inl rfl) (pe_call (ok_value_parts T) (hr.mono (Nat.le_trans (by decide : 4 ≤ 4) (Nat.le_add_right 4 _))) (by rfl) T.d_value_parts.g T.d_value_parts.F.kp T.d_value_parts.b .nil pass0 (pa_cons (pv 0) (pa_cons (pv 1) pa_nil)))) (pss_cons (ps_if (PW.pt (pw_or (pt_cmpR op_isN (pv 3) pe_non (nomark _)) (pw_or1 (pt_cmpR op_ge (pe_callB call_len_seq (by rfl) T.z_len (by decide +kernel) (pa_cons (pv 3) pa_nil)) (pv 2) (nomark _))))) (pss_cons (ps_ret pe_non) pss_nil) pss_nil) (pss_cons (ps_set (i := 4) sc_weigh.nd rfl (Or.inl rfl) pe_int) (pss_cons (ps_for PassesOwn.never rfl (pi_seq (pv 3)) (pg_tup rfl (pgs_cons (pg_name (i := 5) sc_weigh.nd rfl (Or.inl rfl)) (pgs_cons (pg_name (i := 6) sc_weigh.nd rfl (Or.inl rfl)) (pgs_cons (pg_name (i := 7) sc_weigh.nd rfl (Or.inl rfl)) pgs_nil)))) (pss_cons (ps_set (i := 8) sc_weigh.nd rfl (Or.inl rfl) (pe_call ih_weigh (hr.mono (Nat.le_refl _)) (by rfl) T.d_weigh.g T.d_weigh.F.kp T.d_weigh.b .nil pass0 (pa_cons (pv 5) (pa_cons (pv 6) (pa_cons (pe_op op_fdiv (pe_op op_sub (pv 2) (pv 4)) (pv 7)) pa_nil))))) (pss_cons (ps_if (pt_cmpR op_isN (pv 8) pe_non (nomark _)) (pss_cons (ps_ret pe_non) pss_nil) pss_nil) (pss_cons (ps_aug (i := 4) sc_weigh.nd rfl (Or.inl rfl) (pe_op op_mulA (pv 7) (pv 8)) ip_add) pss_nil)))) (pss_cons (ps_ret (pe_ifExp (pt_val (pe_call (ok_is_ordered T) (hr.mono (Nat.le_trans (by decide : 2 ≤ 4) (Nat.le_add_right 4 _))) (by rfl) T.d_is_ordered.g T.d_is_ordered.F.kp T.d_is_ordered.b .nil pass0 (pa_cons (pv 0) (pa_cons (pv 1) pa_nil)))) (pv 4) pe_non)) pss_nil))))), fun ds hl => match ds, hl with
          | [v_kind, v_value, v_limit], _ => StG.eq ((st_asg (i := 3) (fun _ _ => rfl) (ev_callN (ea_cons (ev_var (i := 0) rfl) (ea_cons (ev_var (i := 1) rfl) ea_nil))) (fun v_parts => (st_if (et_or (et_isN (ev_var (i := 3) rfl)) (et_cmp rc_ge (ev_cb1 rk_len (ev_var (i := 3) rfl)) (ev_var (i := 2) rfl))) (st_ret ev_non) (st_asg (i := 4) (fun _ _ => rfl) ev_int (fun v_total => (st_forS3 (S1 := PyData) (ρs := fun (x115 : PyData) => [.dat v_kind, .dat v_value, .dat v_limit, .dat v_parts, .dat x115, .any, .any, .any, .any]) (r := id) (i := 5) (j := 6) (l := 7) (s0 := v_total) (fun _ _ => rfl) (fun _ => rfl) (ev_var (i := 3) rfl) (.same _ (.same _ (.same _ (.same _ (.same _ (.same _ (.same _ (.same _ (.same _ .nil))))))))) (fun _ => rfl) (fun v_inner v_item v_times x115 => (st_asg (i := 8) (fun _ _ => rfl) (ev_callN (ea_cons (ev_var (i := 5) rfl) (ea_cons (ev_var (i := 6) rfl) (ea_cons (ev_op rr_div (ev_op rr_sub (ev_var (i := 2) rfl) (ev_var (i := 4) rfl)) (ev_var (i := 7) rfl)) ea_nil)))) (fun v_each => (st_if (et_isN (ev_var (i := 8) rfl)) (st_rt (r := Ct.rt) (fun _ => rfl) ev_non) (st_aug (i := 4) (op := fun i j => i + j) (fun _ _ => rfl) rfl (ev_op rr_mul (ev_var (i := 7) rfl) (ev_var (i := 8) rfl)) (fun v_total => (st_nx (b := Ct.nx v_total) (s := v_total) rfl (.same _ (.same _ (.same _ (.same _ (.same _ (.any rfl (.any rfl (.any rfl (.any rfl .nil)))))))))))))))) (fun x115 => (st_ret (ev_if (et_B (ev_callN (ea_cons (ev_var (i := 0) rfl) (ea_cons (ev_var (i := 1) rfl) ea_nil)))) (ev_var (i := 4) rfl) ev_non)))))))))) (by simp only [m_weigh, Tr.ret_bind, Tr.bind_assoc, Tr.bind_ret, asB_bool, asI_int, on1_one, on2g_two, on2_two, on3_three])⟩)
theorem ok_weigh (T : Txt w K mg) : FnOk P w K mg base CX0 12 T.d_weigh.f T.d_weigh.fd ["kind", "value", "limit"] (SpN K 3 (fun ds => match ds with | [v_kind, v_value, v_limit] => m_weigh 8 v_kind v_value v_limit | _ => Tr.bad)) := (rk_weigh T 8)
theorem sc_is_value : FnScope ["kind", "value"] ["kind", "value"] (defScope s_is_value) := ⟨rfl, rfl, rfl, by decide +kernel, rfl, by decide +kernel, by decide +kernel⟩
theorem ok_is_value (T : Txt w K mg) : FnOk P w K mg base CX0 13 T.d_is_value.f T.d_is_value.fd ["kind", "value"] (SpN K 2 (fun ds => match ds with | [v_kind, v_value] => m_is_value v_kind v_value | _ => Tr.bad)) :=
  fn_pure (cl := T.cl) T.d_is_value.F sc_is_value (fun cdv A outer s H E hr => ⟨_, (pss_cons (ps_ret (pe_cmpR op_notN (pe_call (ok_weigh T) (hr.mono (by decide)) (by rfl) T.d_weigh.g T.d_weigh.F.kp T.d_weigh.b .nil pass0 (pa_cons (pv 0) (pa_cons (pv 1) (pa_cons (pe_glob (v := V.int 400) (by rfl) T.k_MOST_WEIGHT ⟨_, rfl⟩) pa_nil)))) pe_non (nomark _))) pss_nil), fun ds hl => match ds, hl with
      | [v_kind, v_value], _ => StG.eq ((st_ret (ev_notN (ev_callN (ea_cons (ev_var (i := 0) rfl) (ea_cons (ev_var (i := 1) rfl) (ea_cons ev_int ea_nil))))))) (by simp only [m_is_value, Tr.ret_bind, Tr.bind_assoc, Tr.bind_ret, asB_bool, asI_int, on1_one, on2g_two, on2_two, on3_three])⟩)
theorem sc_heft : FnScope ["kind", "value", "inner", "item", "times"] ["kind", "value"] (defScope s_heft) := ⟨rfl, rfl, rfl, by decide +kernel, rfl, by decide +kernel, by decide +kernel⟩
theorem rk_heft (T : Txt w K mg) : ∀ n : Nat, (FnOk P w K mg base CX0 (4 + n) T.d_heft.f T.d_heft.fd ["kind", "value"] (SpN K 2 (fun ds => match ds with | [v_kind, v_value] => m_heft n v_kind v_value | _ => Tr.bad)))
  | 0 => fn_never (spN_bad fun ds hl => match ds, hl with | [v_kind, v_value], _ => by simp only [m_heft])
  | n + 1 => by
    have ih := rk_heft T n
    have ih_heft := ih
    exact fn_pure (cl := T.cl) T.d_heft.F sc_heft (fun cdv A outer s H E hr => ⟨_, (pss_cons (ps_ret (pe_op op_addA pe_int (pe_callB (cr_sum rfl) (by rfl) T.z_sum (by decide +kernel) (pa_cons (pe_lc (own := [("inner", 2), ("item", 3), ("times", 4)]) rfl sc_heft.nd (pi_seq (pe_call (ok_value_parts T) (hr.mono (Nat.le_trans (by decide : 4 ≤ 4) (Nat.le_add_right 4 _))) (by rfl) T.d_value_parts.g T.d_value_parts.F.kp T.d_value_parts.b .nil pass0 (pa_cons (pv 0) (pa_cons (pv 1) pa_nil)))) (blkOk_by (N := ["kind", "value", "inner", "item", "times"]) (sc := defScope s_heft) (by decide +kernel)) (fun _ _ _ _ _ => pg_tup rfl (pgs_cons (pg_name (i := 2) sc_heft.nd rfl (Or.inl rfl)) (pgs_cons (pg_name (i := 3) sc_heft.nd rfl (Or.inl rfl)) (pgs_cons (pg_name (i := 4) sc_heft.nd rfl (Or.inl rfl)) pgs_nil)))) (fun _ _ _ _ _ => pts_nil) (fun _ _ _ _ _ => (pe_op op_mulA (pv 4) (pe_call ih_heft (hr.mono (Nat.le_refl _)) (by rfl) T.d_heft.g T.d_heft.F.kp T.d_heft.b .nil pass0 (pa_cons (pv 2) (pa_cons (pv 3) pa_nil)))))) pa_nil)))) pss_nil), fun ds hl => match ds, hl with
          | [v_kind, v_value], _ => StG.eq ((st_ret (ev_op rr_add ev_int (ev_cb1 rk_sum (ev_lcS3 (fun _ _ => rfl) (ev_callN (ea_cons (ev_var (i := 0) rfl) (ea_cons (ev_var (i := 1) rfl) ea_nil))) rfl (fun v_inner v_item v_times => (ev_op rr_mul (ev_var (i := 4) rfl) (ev_callN (ea_cons (ev_var (i := 2) rfl) (ea_cons (ev_var (i := 3) rfl) ea_nil)))))))))) (by simp only [m_heft, Tr.ret_bind, Tr.bind_assoc, Tr.bind_ret, asB_bool, asI_int, on1_one, on2g_two, on2_two, on3_three])⟩)
theorem ok_heft (T : Txt w K mg) : FnOk P w K mg base CX0 12 T.d_heft.f T.d_heft.fd ["kind", "value"] (SpN K 2 (fun ds => match ds with | [v_kind, v_value] => m_heft 8 v_kind v_value | _ => Tr.bad)) := (rk_heft T 8)
theorem sc_gap : FnScope ["kind", "v", "w", "word", "inside", "item", "d", "inner", "a", "b", "_", "pair"] ["kind", "v", "w"] (defScope s_gap) := ⟨rfl, rfl, rfl, by decide +kernel, rfl, by decide +kernel, by decide +kernel⟩
theorem sc_climb : FnScope ["kind", "v", "w", "lefts", "first", "heavy", "heights", "item"] ["kind", "v", "w"] (defScope s_climb) := ⟨rfl, rfl, rfl, by decide +kernel, rfl, by decide +kernel, by decide +kernel⟩
theorem sc_next_heights : FnScope ["kind", "item", "w", "lefts", "above", "down", "heights", "y", "left", "least"] ["kind", "item", "w", "lefts", "above"] (defScope s_next_heights) := ⟨rfl, rfl, rfl, by decide +kernel, rfl, by decide +kernel, by decide +kernel⟩
theorem rk_gap (T : Txt w K mg) : ∀ n : Nat, (FnOk P w K mg base CX0 (12 + n) T.d_gap.f T.d_gap.fd ["kind", "v", "w"] (SpN K 3 (fun ds => match ds with | [v_kind, v_v, v_w] => m_gap n v_kind v_v v_w | _ => Tr.bad))) ∧ (FnOk P w K mg base CX0 (12 + n) T.d_climb.f T.d_climb.fd ["kind", "v", "w"] (SpN K 3 (fun ds => match ds with | [v_kind, v_v, v_w] => m_climb n v_kind v_v v_w | _ => Tr.bad))) ∧ (FnOk P w K mg base CX0 (12 + n) T.d_next_heights.f T.d_next_heights.fd ["kind", "item", "w", "lefts", "above"] (SpN K 5 (fun ds => match ds with | [v_kind, v_item, v_w, v_lefts, v_above] => m_next_heights n v_kind v_item v_w v_lefts v_above | _ => Tr.bad)))
  | 0 => ⟨fn_never (spN_bad fun ds hl => match ds, hl with | [v_kind, v_v, v_w], _ => by simp only [m_gap]), fn_never (spN_bad fun ds hl => match ds, hl with | [v_kind, v_v, v_w], _ => by simp only [m_climb]), fn_never (spN_bad fun ds hl => match ds, hl with | [v_kind, v_item, v_w, v_lefts, v_above], _ => by simp only [m_next_heights])⟩
  | n + 1 => by
    have ih := rk_gap T n
    have ih_gap := ih.1
    have ih_climb := ih.2.1
    have ih_next_heights := ih.2.2
    refine ⟨?_, ?_, ?_⟩
    · exact fn_pure (cl := T.cl) T.d_gap.F sc_gap (fun cdv A outer s H E hr => ⟨_, (pss_cons (ps_if (pt_cmpR (op_eqP (room64 hr)) (pv 1) (pv 2) (nomark _)) (pss_cons (ps_ret pe_int) pss_nil) pss_nil) (pss_cons (ps_set (i := 3) sc_gap.nd rfl (Or.inl rfl) (pe_ix ix_seq (pv 0) pe_int (fun _ _ => rfl))) (pss_cons (ps_if (pt_cmpR (op_eqP (room64 hr)) (pv 3) pe_str (nomark _)) (pss_cons (ps_ret pe_int) pss_nil) pss_nil) (pss_cons (ps_if (pt_cmpR (op_eqP (room64 hr)) (pv 3) pe_str (nomark _)) (pss_cons (ps_ret (pe_callB (cr_sum rfl) (by rfl) T.z_sum (by decide +kernel) (pa_cons (pe_lc (own := [("inner", 7), ("a", 8), ("b", 9)]) rfl sc_gap.nd (pi_zip3 (by rfl) T.z_zip (pa_cons (pe_ix ix_seq (pv 0) pe_int (fun _ _ => rfl)) (pa_cons (pv 1) (pa_cons (pv 2) pa_nil)))) (blkOk_by (N := ["kind", "v", "w", "word", "inside", "item", "d", "inner", "a", "b", "_", "pair"]) (sc := defScope s_gap) (by decide +kernel)) (fun _ _ _ _ _ => pg_tup rfl (pgs_cons (pg_name (i := 7) sc_gap.nd rfl (Or.inl rfl)) (pgs_cons (pg_name (i := 8) sc_gap.nd rfl (Or.inl rfl)) (pgs_cons (pg_name (i := 9) sc_gap.nd rfl (Or.inl rfl)) pgs_nil)))) (fun _ _ _ _ _ => pts_nil) (fun _ _ _ _ _ => (pe_call ih_gap (hr.mono (Nat.le_refl _)) (by rfl) T.d_gap.g T.d_gap.F.kp T.d_gap.b .nil pass0 (pa_cons (pv 7) (pa_cons (pv 8) (pa_cons (pv 9) pa_nil)))))) pa_nil))) pss_nil) pss_nil) (pss_cons (ps_if (pt_cmpR (op_eqP (room64 hr)) (pv 3) pe_str (nomark _)) (pss_cons (ps_ret (pe_ifExp (pt_cmpR (op_eqP (room64 hr)) (pe_ix ix_seq (pv 1) pe_int (fun _ _ => rfl)) (pe_ix ix_seq (pv 2) pe_int (fun _ _ => rfl)) (nomark _)) (pe_call ih_gap (hr.mono (Nat.le_refl _)) (by rfl) T.d_gap.g T.d_gap.F.kp T.d_gap.b .nil pass0 (pa_cons (pe_ix ix_seq (pe_ix ix_seq (pv 0) pe_int (fun _ _ => rfl)) (pe_ix ix_seq (pv 1) pe_int (fun _ _ => rfl)) (fun _ _ => rfl)) (pa_cons (pe_ix ix_seq (pv 1) pe_int (fun _ _ => rfl)) (pa_cons (pe_ix ix_seq (pv 2) pe_int (fun _ _ => rfl)) pa_nil)))) (pe_op op_addA (pe_call (ok_heft T) (hr.mono (Nat.le_trans (by decide : 12 ≤ 12) (Nat.le_add_right 12 _))) (by rfl) T.d_heft.g T.d_heft.F.kp T.d_heft.b .nil pass0 (pa_cons (pv 0) (pa_cons (pv 1) pa_nil))) (pe_call (ok_heft T) (hr.mono (Nat.le_trans (by decide : 12 ≤ 12) (Nat.le_add_right 12 _))) (by rfl) T.d_heft.g T.d_heft.F.kp T.d_heft.b .nil pass0 (pa_cons (pv 0) (pa_cons (pv 2) pa_nil)))))) pss_nil) pss_nil) (pss_cons (ps_if (pt_cmpR (op_eqP (room64 hr)) (pv 3) pe_str (nomark _)) (pss_cons (ps_ret (pe_ix ix_seq (pe_ix ix_seq (pe_call ih_climb (hr.mono (Nat.le_refl _)) (by rfl) T.d_climb.g T.d_climb.F.kp T.d_climb.b .nil pass0 (pa_cons (pe_ix ix_seq (pv 0) pe_int (fun _ _ => rfl)) (pa_cons (pv 1) (pa_cons (pv 2) pa_nil)))) (pe_un un_neg pe_int) (fun _ _ => rfl)) (pe_un un_neg pe_int) (fun _ _ => rfl))) pss_nil) pss_nil) (pss_cons (ps_if (pt_cmpR (op_eqP (room64 hr)) (pv 3) pe_str (nomark _)) (pss_cons (ps_set (i := 4) sc_gap.nd rfl (Or.inl rfl) (pe_callB (cr_sum rfl) (by rfl) T.z_sum (by decide +kernel) (pa_cons (pe_lc (own := [("_", 10), ("a", 8), ("b", 9)]) rfl sc_gap.nd (pi_seq pe_never) (blkOk_by (N := ["kind", "v", "w", "word", "inside", "item", "d", "inner", "a", "b", "_", "pair"]) (sc := defScope s_gap) (by decide +kernel)) (fun _ _ _ _ _ => pg_tup rfl (pgs_cons (pg_name (i := 10) sc_gap.nd rfl (Or.inl rfl)) (pgs_cons (pg_name (i := 8) sc_gap.nd rfl (Or.inl rfl)) (pgs_cons (pg_name (i := 9) sc_gap.nd rfl (Or.inl rfl)) pgs_nil)))) (fun _ _ _ _ _ => pts_nil) (fun _ _ _ _ _ => (pe_call ih_gap (hr.mono (Nat.le_refl _)) (by rfl) T.d_gap.g T.d_gap.F.kp T.d_gap.b .nil pass0 (pa_cons (pe_ix ix_seq (pv 0) pe_int (fun _ _ => rfl)) (pa_cons (pv 8) (pa_cons (pv 9) pa_nil)))))) pa_nil))) (pss_cons (ps_ret (pe_op op_addA (pv 4) (pe_callB (cr_sum rfl) (by rfl) T.z_sum (by decide +kernel) (pa_cons (pe_lc (own := [("pair", 11)]) rfl sc_gap.nd (pi_seq (pe_op op_addA pe_never pe_never)) (blkOk_by (N := ["kind", "v", "w", "word", "inside", "item", "d", "inner", "a", "b", "_", "pair"]) (sc := defScope s_gap) (by decide +kernel)) (fun _ _ _ _ _ => pg_name (i := 11) sc_gap.nd rfl (Or.inl rfl)) (fun _ _ _ _ _ => pts_nil) (fun _ _ _ _ _ => pe_never)) pa_nil)))) pss_nil)) pss_nil) (pss_cons (ps_ret (pe_callB (cr_sum rfl) (by rfl) T.z_sum (by decide +kernel) (pa_cons (pe_lc (own := [("item", 5), ("d", 6)]) rfl sc_gap.nd (pi_seq pe_never) (blkOk_by (N := ["kind", "v", "w", "word", "inside", "item", "d", "inner", "a", "b", "_", "pair"]) (sc := defScope s_gap) (by decide +kernel)) (fun _ _ _ _ _ => pg_tup rfl (pgs_cons (pg_name (i := 5) sc_gap.nd rfl (Or.inl rfl)) (pgs_cons (pg_name (i := 6) sc_gap.nd rfl (Or.inl rfl)) pgs_nil))) (fun _ _ _ _ _ => pts_nil) (fun _ _ _ _ _ => (pe_op op_mulA (pe_call (ok_heft T) (hr.mono (Nat.le_trans (by decide : 12 ≤ 12) (Nat.le_add_right 12 _))) (by rfl) T.d_heft.g T.d_heft.F.kp T.d_heft.b .nil pass0 (pa_cons (pe_ix ix_seq (pv 0) pe_int (fun _ _ => rfl)) (pa_cons (pv 5) pa_nil))) (pe_callB call_abs (by rfl) T.z_abs (by decide +kernel) (pa_cons (pv 6) pa_nil))))) pa_nil))) pss_nil)))))))), fun ds hl => match ds, hl with
          | [v_kind, v_v, v_w], _ => StG.eq ((st_if (et_cmp rc_eq (ev_var (i := 1) rfl) (ev_var (i := 2) rfl)) (st_ret ev_int) (st_asg (i := 3) (fun _ _ => rfl) (ev_op rr_ix (ev_var (i := 0) rfl) ev_int) (fun v_word => (st_if (et_cmp rc_eq (ev_var (i := 3) rfl) ev_str) (st_ret ev_int) (st_if (et_cmp rc_eq (ev_var (i := 3) rfl) ev_str) (st_ret (ev_cb1 rk_sum (ev_lcZ3 (fun _ _ => rfl) (ev_op rr_ix (ev_var (i := 0) rfl) ev_int) (ev_var (i := 1) rfl) (ev_var (i := 2) rfl) rfl (fun v_inner v_a v_b => (ev_callN (ea_cons (ev_var (i := 7) rfl) (ea_cons (ev_var (i := 8) rfl) (ea_cons (ev_var (i := 9) rfl) ea_nil)))))))) (st_if (et_cmp rc_eq (ev_var (i := 3) rfl) ev_str) (st_ret (ev_if (et_cmp rc_eq (ev_op rr_ix (ev_var (i := 1) rfl) ev_int) (ev_op rr_ix (ev_var (i := 2) rfl) ev_int)) (ev_callN (ea_cons (ev_op rr_ix (ev_op rr_ix (ev_var (i := 0) rfl) ev_int) (ev_op rr_ix (ev_var (i := 1) rfl) ev_int)) (ea_cons (ev_op rr_ix (ev_var (i := 1) rfl) ev_int) (ea_cons (ev_op rr_ix (ev_var (i := 2) rfl) ev_int) ea_nil)))) (ev_op rr_add (ev_callN (ea_cons (ev_var (i := 0) rfl) (ea_cons (ev_var (i := 1) rfl) ea_nil))) (ev_callN (ea_cons (ev_var (i := 0) rfl) (ea_cons (ev_var (i := 2) rfl) ea_nil)))))) (st_if (et_cmp rc_eq (ev_var (i := 3) rfl) ev_str) (st_ret (ev_op rr_ix (ev_op rr_ix (ev_callN (ea_cons (ev_op rr_ix (ev_var (i := 0) rfl) ev_int) (ea_cons (ev_var (i := 1) rfl) (ea_cons (ev_var (i := 2) rfl) ea_nil)))) ev_negc) ev_negc)) (st_if (et_cmp rc_eq (ev_var (i := 3) rfl) ev_str) (st_asg (i := 4) (fun _ _ => rfl) (ev_cb1 rk_sum (ev_lcS3 (fun _ _ => rfl) ev_never rfl (fun v__ v_a v_b => (ev_callN (ea_cons (ev_op rr_ix (ev_var (i := 0) rfl) ev_int) (ea_cons (ev_var (i := 8) rfl) (ea_cons (ev_var (i := 9) rfl) ea_nil))))))) (fun v_inside => (st_ret (ev_op rr_add (ev_var (i := 4) rfl) (ev_cb1 rk_sum (ev_lcS1 (fun _ _ => rfl) (ev_op rr_add ev_never ev_never) rfl (fun v_pair => ev_never))))))) (st_ret (ev_cb1 rk_sum (ev_lcS2 (fun _ _ => rfl) ev_never rfl (fun v_item v_d => (ev_op rr_mul (ev_callN (ea_cons (ev_op rr_ix (ev_var (i := 0) rfl) ev_int) (ea_cons (ev_var (i := 5) rfl) ea_nil))) (ev_cb1 rk_abs (ev_var (i := 6) rfl)))))))))))))))) (by simp only [m_gap, Tr.ret_bind, Tr.bind_assoc, Tr.bind_ret, asB_bool, asI_int, on1_one, on2g_two, on2_two, on3_three])⟩)
    · exact fn_pure (cl := T.cl) T.d_climb.F sc_climb (fun cdv A outer s H E hr => ⟨_, (pss_cons (ps_setLc (i := 3) (own := [("item", 7)]) rfl sc_climb.nd rfl rfl (sw_true rfl rfl rfl (by decide +kernel)) (pi_seq (pv 2)) (blkOk_by (N := ["kind", "v", "w", "lefts", "first", "heavy", "heights", "item"]) (sc := defScope s_climb) (by decide +kernel)) (fun _ _ _ _ _ => pg_name (i := 7) sc_climb.nd rfl (Or.inl rfl)) (fun _ _ _ _ _ => pts_nil) (fun _ _ _ _ _ => (pe_call (ok_heft T) (hr.mono (Nat.le_trans (by decide : 12 ≤ 12) (Nat.le_add_right 12 _))) (by rfl) T.d_heft.g T.d_heft.F.kp T.d_heft.b .nil pass0 (pa_cons (pv 0) (pa_cons (pv 7) pa_nil))))) (pss_cons (ps_set (i := 4) sc_climb.nd rfl (Or.inl rfl) (pe_lst (pa_cons pe_int pa_nil))) (pss_cons (ps_for PassesOwn.never rfl (pi_seq (pv 3)) (pg_name (i := 5) sc_climb.nd rfl (Or.inl rfl)) (pss_cons (ps_expr (pe_bm PySem.F.plainAttrs_list PySem.F.slot_list_append PySem.F.type_list_append mt_append (pv 4) (pa_cons (pe_op op_addA (pe_ix ix_seq (pv 4) (pe_un un_neg pe_int) (fun _ _ => rfl)) (pv 5)) pa_nil))) pss_nil)) (pss_cons (ps_set (i := 6) sc_climb.nd rfl (Or.inl rfl) (pe_lst (pa_cons (pv 4) pa_nil))) (pss_cons (ps_for PassesOwn.never rfl (pi_seq (pv 1)) (pg_name (i := 7) sc_climb.nd rfl (Or.inl rfl)) (pss_cons (ps_expr (pe_bm PySem.F.plainAttrs_list PySem.F.slot_list_append PySem.F.type_list_append mt_append (pv 6) (pa_cons (pe_call ih_next_heights (hr.mono (Nat.le_refl _)) (by rfl) T.d_next_heights.g T.d_next_heights.F.kp T.d_next_heights.b .nil pass0 (pa_cons (pv 0) (pa_cons (pv 7) (pa_cons (pv 2) (pa_cons (pv 3) (pa_cons (pe_ix ix_seq (pv 6) (pe_un un_neg pe_int) (fun _ _ => rfl)) pa_nil)))))) pa_nil))) pss_nil)) (pss_cons (ps_ret (pv 6)) pss_nil)))))), fun ds hl => match ds, hl with
          | [v_kind, v_v, v_w], _ => StG.eq ((st_asg (i := 3) (fun _ _ => rfl) (ev_lcS1 (fun _ _ => rfl) (ev_var (i := 2) rfl) rfl (fun v_item => (ev_callN (ea_cons (ev_var (i := 0) rfl) (ea_cons (ev_var (i := 7) rfl) ea_nil))))) (fun v_lefts => (st_lstOwn (fun _ _ => rfl) (i := 4) (ea_cons ev_int ea_nil) (fun v_first => (st_forS1n (S1 := PyData) (ρs := fun (x175 : PyData) => [.dat v_kind, .dat v_v, .dat v_w, .dat v_lefts, .acc (unL x175), .any, .any, .any]) (r := id) (i := 5) (s0 := v_first) (fun _ _ => rfl) (fun _ => rfl) (ev_var (i := 3) rfl) (.same _ (.same _ (.same _ (.same _ (.same _ (.same _ (.same _ (.same _ .nil)))))))) (fun _ => rfl) (fun v_heavy x175 => (st_append (fun _ _ => rfl) (i := 4) (a := x175) rfl (ev_op rr_add (ev_ixOwn (i := 4) (a := x175) rfl ev_negc) (ev_var (i := 5) rfl)) (fun v_first => (st_nx (b := v_first) (s := v_first) rfl (.same _ (.same _ (.same _ (.same _ (.same _ (.any rfl (.same _ (.same _ .nil)))))))))))) (fun x175 => (st_freeze (fun _ _ => rfl) (i := 4) rfl (st_lstOwn (fun _ _ => rfl) (i := 6) (ea_cons (ev_var (i := 4) rfl) ea_nil) (fun v_heights => (st_forS1n (S1 := PyData) (ρs := fun (x178 : PyData) => [.dat v_kind, .dat v_v, .dat v_w, .dat v_lefts, .dat (PyData.list (unL x175)), .any, .acc (unL x178), .any]) (r := id) (i := 7) (s0 := v_heights) (fun _ _ => rfl) (fun _ => rfl) (ev_var (i := 1) rfl) (.same _ (.same _ (.same _ (.same _ (.same _ (.same _ (.same _ (.same _ .nil)))))))) (fun _ => rfl) (fun v_item x178 => (st_append (fun _ _ => rfl) (i := 6) (a := x178) rfl (ev_callN (ea_cons (ev_var (i := 0) rfl) (ea_cons (ev_var (i := 7) rfl) (ea_cons (ev_var (i := 2) rfl) (ea_cons (ev_var (i := 3) rfl) (ea_cons (ev_ixOwn (i := 6) (a := x178) rfl ev_negc) ea_nil)))))) (fun v_heights => (st_nx (b := v_heights) (s := v_heights) rfl (.same _ (.same _ (.same _ (.same _ (.same _ (.same _ (.same _ (.any rfl .nil)))))))))))) (fun x178 => (st_freeze (fun _ _ => rfl) (i := 6) rfl (st_ret (ev_var (i := 6) rfl))))))))))))))) (by simp only [m_climb, Tr.ret_bind, Tr.bind_assoc, Tr.bind_ret, asB_bool, asI_int, on1_one, on2g_two, on2_two, on3_three])⟩)
    · exact fn_pure (cl := T.cl) T.d_next_heights.F sc_next_heights (fun cdv A outer s H E hr => ⟨_, (pss_cons (ps_set (i := 5) sc_next_heights.nd rfl (Or.inl rfl) (pe_call (ok_heft T) (hr.mono (Nat.le_trans (by decide : 12 ≤ 12) (Nat.le_add_right 12 _))) (by rfl) T.d_heft.g T.d_heft.F.kp T.d_heft.b .nil pass0 (pa_cons (pv 0) (pa_cons (pv 1) pa_nil)))) (pss_cons (ps_set (i := 6) sc_next_heights.nd rfl (Or.inl rfl) (pe_lst (pa_cons (pe_op op_addA (pe_ix ix_seq (pv 4) pe_int (fun _ _ => rfl)) (pv 5)) pa_nil))) (pss_cons (ps_for PassesOwn.never rfl (pi_enum (by rfl) T.z_enumerate (pa_cons (pv 3) pa_nil)) (pg_tup rfl (pgs_cons (pg_name (i := 7) sc_next_heights.nd rfl (Or.inl rfl)) (pgs_cons (pg_name (i := 8) sc_next_heights.nd rfl (Or.inl rfl)) pgs_nil))) (pss_cons (ps_set (i := 9) sc_next_heights.nd rfl (Or.inl rfl) (pe_callB (call_min2 rfl) (by rfl) T.z_min (by decide +kernel) (pa_cons (pe_op op_addA (pe_ix ix_seq (pv 4) (pe_op op_addA (pv 7) pe_int) (fun _ _ => rfl)) (pv 5)) (pa_cons (pe_op op_addA (pe_ix ix_seq (pv 6) (pv 7) (fun _ _ => rfl)) (pv 8)) pa_nil)))) (pss_cons (ps_if (pt_cmpR op_lt (pe_ix ix_seq (pv 4) (pv 7) (fun _ _ => rfl)) (pv 9) (nomark _)) (pss_cons (ps_set (i := 9) sc_next_heights.nd rfl (Or.inl rfl) (pe_callB (call_min2 rfl) (by rfl) T.z_min (by decide +kernel) (pa_cons (pv 9) (pa_cons (pe_op op_addA (pe_ix ix_seq (pv 4) (pv 7) (fun _ _ => rfl)) (pe_call ih_gap (hr.mono (Nat.le_refl _)) (by rfl) T.d_gap.g T.d_gap.F.kp T.d_gap.b .nil pass0 (pa_cons (pv 0) (pa_cons (pv 1) (pa_cons (pe_ix ix_seq (pv 2) (pv 7) (fun _ _ => rfl)) pa_nil))))) pa_nil)))) pss_nil) pss_nil) (pss_cons (ps_expr (pe_bm PySem.F.plainAttrs_list PySem.F.slot_list_append PySem.F.type_list_append mt_append (pv 6) (pa_cons (pv 9) pa_nil))) pss_nil)))) (pss_cons (ps_ret (pv 6)) pss_nil)))), fun ds hl => match ds, hl with
          | [v_kind, v_item, v_w, v_lefts, v_above], _ => StG.eq ((st_asg (i := 5) (fun _ _ => rfl) (ev_callN (ea_cons (ev_var (i := 0) rfl) (ea_cons (ev_var (i := 1) rfl) ea_nil))) (fun v_down => (st_lstOwn (fun _ _ => rfl) (i := 6) (ea_cons (ev_op rr_add (ev_op rr_ix (ev_var (i := 4) rfl) ev_int) (ev_var (i := 5) rfl)) ea_nil) (fun v_heights => (st_forE2 (S1 := PyData) (ρs := fun (x184 : PyData) => [.dat v_kind, .dat v_item, .dat v_w, .dat v_lefts, .dat v_above, .dat v_down, .acc (unL x184), .any, .any, .any]) (r := id) (i := 7) (j := 8) (s0 := v_heights) (fun _ _ => rfl) (fun _ => rfl) (ev_var (i := 3) rfl) (.same _ (.same _ (.same _ (.same _ (.same _ (.same _ (.same _ (.same _ (.same _ (.same _ .nil)))))))))) (fun _ => rfl) (fun v_y v_left x184 => (st_asg (i := 9) (fun _ _ => rfl) (ev_cb rk_min2 (ea_cons (ev_op rr_add (ev_op rr_ix (ev_var (i := 4) rfl) (ev_op rr_add (ev_var (i := 7) rfl) ev_int)) (ev_var (i := 5) rfl)) (ea_cons (ev_op rr_add (ev_ixOwn (i := 6) (a := x184) rfl (ev_var (i := 7) rfl)) (ev_var (i := 8) rfl)) ea_nil))) (fun v_least => (st_ifj (S1 := PyData) (ρs := fun (x191 : PyData) => [.dat v_kind, .dat v_item, .dat v_w, .dat v_lefts, .dat v_above, .dat v_down, .acc (unL x184), .dat v_y, .dat v_left, .dat x191]) (fun _ _ => rfl) (et_cmp rc_lt (ev_op rr_ix (ev_var (i := 4) rfl) (ev_var (i := 7) rfl)) (ev_var (i := 9) rfl)) (st_asg (i := 9) (fun _ _ => rfl) (ev_cb rk_min2 (ea_cons (ev_var (i := 9) rfl) (ea_cons (ev_op rr_add (ev_op rr_ix (ev_var (i := 4) rfl) (ev_var (i := 7) rfl)) (ev_callN (ea_cons (ev_var (i := 0) rfl) (ea_cons (ev_var (i := 1) rfl) (ea_cons (ev_op rr_ix (ev_var (i := 2) rfl) (ev_var (i := 7) rfl)) ea_nil))))) ea_nil))) (fun v_least => (st_nx (b := v_least) (s := v_least) rfl (.same _ (.same _ (.same _ (.same _ (.same _ (.same _ (.same _ (.same _ (.same _ (.same _ .nil))))))))))))) (st_nx (b := v_least) (s := v_least) rfl (.same _ (.same _ (.same _ (.same _ (.same _ (.same _ (.same _ (.same _ (.same _ (.same _ .nil))))))))))) (fun x191 => (st_append (fun _ _ => rfl) (i := 6) (a := x184) rfl (ev_var (i := 9) rfl) (fun v_heights => (st_nx (b := Ct.nx v_heights) (s := v_heights) rfl (.same _ (.same _ (.same _ (.same _ (.same _ (.same _ (.same _ (.any rfl (.any rfl (.any rfl .nil)))))))))))))))))) (fun x184 => (st_freeze (fun _ _ => rfl) (i := 6) rfl (st_ret (ev_var (i := 6) rfl)))))))))) (by simp only [m_next_heights, Tr.ret_bind, Tr.bind_assoc, Tr.bind_ret, asB_bool, asI_int, on1_one, on2g_two, on2_two, on3_three])⟩)
theorem ok_gap (T : Txt w K mg) : FnOk P w K mg base CX0 24 T.d_gap.f T.d_gap.fd ["kind", "v", "w"] (SpN K 3 (fun ds => match ds with | [v_kind, v_v, v_w] => m_gap 12 v_kind v_v v_w | _ => Tr.bad)) := (rk_gap T 12).1
theorem ok_climb (T : Txt w K mg) : FnOk P w K mg base CX0 24 T.d_climb.f T.d_climb.fd ["kind", "v", "w"] (SpN K 3 (fun ds => match ds with | [v_kind, v_v, v_w] => m_climb 12 v_kind v_v v_w | _ => Tr.bad)) := (rk_gap T 12).2.1
theorem sc_has_turn_alone : FnScope ["kind", "v", "w"] ["kind", "v", "w"] (defScope s_has_turn_alone) := ⟨rfl, rfl, rfl, by decide +kernel, rfl, by decide +kernel, by decide +kernel⟩
theorem ok_has_turn_alone (T : Txt w K mg) : FnOk P w K mg base CX0 1 T.d_has_turn_alone.f T.d_has_turn_alone.fd ["kind", "v", "w"] (SpN K 3 (fun ds => match ds with | [v_kind, v_v, v_w] => m_has_turn_alone v_kind v_v v_w | _ => Tr.bad)) :=
  fn_pure (cl := T.cl) T.d_has_turn_alone.F sc_has_turn_alone (fun cdv A outer s H E hr => ⟨_, (pss_cons (ps_ret (pe_or (pe_cmpR (op_eqP (room64 hr)) (pe_ix ix_seq (pv 0) pe_int (fun _ _ => rfl)) pe_str (nomark _)) (pe_one (pe_and (pe_cmpR (op_eqP (room64 hr)) (pe_ix ix_seq (pv 0) pe_int (fun _ _ => rfl)) pe_str (nomark _)) (pe_one (pe_cmpR (op_neP (room64 hr)) (pe_ix ix_seq (pv 1) pe_int (fun _ _ => rfl)) (pe_ix ix_seq (pv 2) pe_int (fun _ _ => rfl)) (nomark _))))))) pss_nil), fun ds hl => match ds, hl with
      | [v_kind, v_v, v_w], _ => StG.eq ((st_ret (ev_orV (ev_cmp rc_eq (ev_op rr_ix (ev_var (i := 0) rfl) ev_int) ev_str) (ev_andV (ev_cmp rc_eq (ev_op rr_ix (ev_var (i := 0) rfl) ev_int) ev_str) (ev_cmp rc_ne (ev_op rr_ix (ev_var (i := 1) rfl) ev_int) (ev_op rr_ix (ev_var (i := 2) rfl) ev_int)))))) (by simp only [m_has_turn_alone, Tr.ret_bind, Tr.bind_assoc, Tr.bind_ret, asB_bool, asI_int, on1_one, on2g_two, on2_two, on3_three])⟩)
theorem sc_paper_of : FnScope ["kind", "v", "w", "word", "heights", "line", "a", "inner", "b", "_"] ["kind", "v", "w"] (defScope s_paper_of) := ⟨rfl, rfl, rfl, by decide +kernel, rfl, by decide +kernel, by decide +kernel⟩
theorem rk_paper_of (T : Txt w K mg) : ∀ n : Nat, (FnOk P w K mg base CX0 (24 + n) T.d_paper_of.f T.d_paper_of.fd ["kind", "v", "w"] (SpN K 3 (fun ds => match ds with | [v_kind, v_v, v_w] => m_paper_of n v_kind v_v v_w | _ => Tr.bad)))
  | 0 => fn_never (spN_bad fun ds hl => match ds, hl with | [v_kind, v_v, v_w], _ => by simp only [m_paper_of])
  | n + 1 => by
    have ih := rk_paper_of T n
    have ih_paper_of := ih
    exact fn_pure (cl := T.cl) T.d_paper_of.F sc_paper_of (fun cdv A outer s H E hr => ⟨_, (pss_cons (ps_set (i := 3) sc_paper_of.nd rfl (Or.inl rfl) (pe_ix ix_seq (pv 0) pe_int (fun _ _ => rfl))) (pss_cons (ps_if (pt_val (pe_call (ok_has_turn_alone T) (hr.mono (Nat.le_trans (by decide : 1 ≤ 24) (Nat.le_add_right 24 _))) (by rfl) T.d_has_turn_alone.g T.d_has_turn_alone.F.kp T.d_has_turn_alone.b .nil pass0 (pa_cons (pv 0) (pa_cons (pv 1) (pa_cons (pv 2) pa_nil))))) (pss_cons (ps_ret (pe_tupF (pa_cons pe_str pa_nil))) pss_nil) pss_nil) (pss_cons (ps_if (pt_cmpR (op_eqP (room64 hr)) (pv 3) pe_str (nomark _)) (pss_cons (ps_ret (pe_tupF (pa_cons pe_str (pa_cons (pe_callTy call_tupleF (by rfl) T.z_tuple (by decide +kernel) (pa_cons (pe_lc (own := [("inner", 7), ("a", 6), ("b", 8)]) rfl sc_paper_of.nd (pi_zip3 (by rfl) T.z_zip (pa_cons (pe_ix ix_seq (pv 0) pe_int (fun _ _ => rfl)) (pa_cons (pv 1) (pa_cons (pv 2) pa_nil)))) (blkOk_by (N := ["kind", "v", "w", "word", "heights", "line", "a", "inner", "b", "_"]) (sc := defScope s_paper_of) (by decide +kernel)) (fun _ _ _ _ _ => pg_tup rfl (pgs_cons (pg_name (i := 7) sc_paper_of.nd rfl (Or.inl rfl)) (pgs_cons (pg_name (i := 6) sc_paper_of.nd rfl (Or.inl rfl)) (pgs_cons (pg_name (i := 8) sc_paper_of.nd rfl (Or.inl rfl)) pgs_nil)))) (fun _ _ _ _ _ => pts_nil) (fun _ _ _ _ _ => (pe_call ih_paper_of (hr.mono (Nat.le_refl _)) (by rfl) T.d_paper_of.g T.d_paper_of.F.kp T.d_paper_of.b .nil pass0 (pa_cons (pv 7) (pa_cons (pv 6) (pa_cons (pv 8) pa_nil)))))) pa_nil)) pa_nil)))) pss_nil) pss_nil) (pss_cons (ps_if (pt_cmpR (op_eqP (room64 hr)) (pv 3) pe_str (nomark _)) (pss_cons (ps_ret (pe_tupF (pa_cons pe_str (pa_cons (pe_call ih_paper_of (hr.mono (Nat.le_refl _)) (by rfl) T.d_paper_of.g T.d_paper_of.F.kp T.d_paper_of.b .nil pass0 (pa_cons (pe_ix ix_seq (pe_ix ix_seq (pv 0) pe_int (fun _ _ => rfl)) (pe_ix ix_seq (pv 1) pe_int (fun _ _ => rfl)) (fun _ _ => rfl)) (pa_cons (pe_ix ix_seq (pv 1) pe_int (fun _ _ => rfl)) (pa_cons (pe_ix ix_seq (pv 2) pe_int (fun _ _ => rfl)) pa_nil)))) pa_nil)))) pss_nil) pss_nil) (pss_cons (ps_if (pt_cmpR (op_eqP (room64 hr)) (pv 3) pe_str (nomark _)) (pss_cons (ps_set (i := 4) sc_paper_of.nd rfl (Or.inl rfl) (pe_callTy call_tupleF (by rfl) T.z_tuple (by decide +kernel) (pa_cons (pe_lc (own := [("line", 5)]) rfl sc_paper_of.nd (pi_seq (pe_call (ok_climb T) (hr.mono (Nat.le_trans (by decide : 24 ≤ 24) (Nat.le_add_right 24 _))) (by rfl) T.d_climb.g T.d_climb.F.kp T.d_climb.b .nil pass0 (pa_cons (pe_ix ix_seq (pv 0) pe_int (fun _ _ => rfl)) (pa_cons (pv 1) (pa_cons (pv 2) pa_nil))))) (blkOk_by (N := ["kind", "v", "w", "word", "heights", "line", "a", "inner", "b", "_"]) (sc := defScope s_paper_of) (by decide +kernel)) (fun _ _ _ _ _ => pg_name (i := 5) sc_paper_of.nd rfl (Or.inl rfl)) (fun _ _ _ _ _ => pts_nil) (fun _ _ _ _ _ => (pe_callTy call_tupleF (by rfl) T.z_tuple (by decide +kernel) (pa_cons (pv 5) pa_nil)))) pa_nil))) (pss_cons (ps_ret (pe_tupF (pa_cons pe_str (pa_cons (pv 4) (pa_cons (pe_callTy call_tupleF (by rfl) T.z_tuple (by decide +kernel) (pa_cons (pe_lc (own := [("a", 6)]) rfl sc_paper_of.nd (pi_seq (pv 1)) (blkOk_by (N := ["kind", "v", "w", "word", "heights", "line", "a", "inner", "b", "_"]) (sc := defScope s_paper_of) (by decide +kernel)) (fun _ _ _ _ _ => pg_name (i := 6) sc_paper_of.nd rfl (Or.inr rfl)) (fun _ _ _ _ _ => pts_nil) (fun _ _ _ _ _ => (pe_callTy call_tupleF (by rfl) T.z_tuple (by decide +kernel) (pa_cons (pe_lc (own := [("b", 8)]) rfl sc_paper_of.nd (pi_seq (pv 2)) (blkOk_by (by first | rfl | decide +kernel)) (fun _ _ _ _ _ => pg_name (i := 8) sc_paper_of.nd rfl (Or.inl rfl)) (fun _ _ _ _ _ => pts_nil) (fun _ _ _ _ _ => (pe_call ih_paper_of (hr.mono (Nat.le_refl _)) (by rfl) T.d_paper_of.g T.d_paper_of.F.kp T.d_paper_of.b .nil pass0 (pa_cons (pe_ix ix_seq (pv 0) pe_int (fun _ _ => rfl)) (pa_cons (pv 6) (pa_cons (pv 8) pa_nil)))))) pa_nil)))) pa_nil)) pa_nil))))) pss_nil)) pss_nil) (pss_cons (ps_if (pt_cmpR (op_eqP (room64 hr)) (pv 3) pe_str (nomark _)) (pss_cons (ps_ret (pe_tupF (pa_cons pe_str (pa_cons (pe_callTy call_tupleF (by rfl) T.z_tuple (by decide +kernel) (pa_cons (pe_lc (own := [("_", 9), ("a", 6), ("b", 8)]) rfl sc_paper_of.nd (pi_seq pe_never) (blkOk_by (N := ["kind", "v", "w", "word", "heights", "line", "a", "inner", "b", "_"]) (sc := defScope s_paper_of) (by decide +kernel)) (fun _ _ _ _ _ => pg_tup rfl (pgs_cons (pg_name (i := 9) sc_paper_of.nd rfl (Or.inl rfl)) (pgs_cons (pg_name (i := 6) sc_paper_of.nd rfl (Or.inl rfl)) (pgs_cons (pg_name (i := 8) sc_paper_of.nd rfl (Or.inl rfl)) pgs_nil)))) (fun _ _ _ _ _ => pts_nil) (fun _ _ _ _ _ => (pe_call ih_paper_of (hr.mono (Nat.le_refl _)) (by rfl) T.d_paper_of.g T.d_paper_of.F.kp T.d_paper_of.b .nil pass0 (pa_cons (pe_ix ix_seq (pv 0) pe_int (fun _ _ => rfl)) (pa_cons (pv 6) (pa_cons (pv 8) pa_nil)))))) pa_nil)) pa_nil)))) pss_nil) pss_nil) (pss_cons (ps_ret (pe_tupF (pa_cons (pv 3) pa_nil))) pss_nil))))))), fun ds hl => match ds, hl with
          | [v_kind, v_v, v_w], _ => StG.eq ((st_asg (i := 3) (fun _ _ => rfl) (ev_op rr_ix (ev_var (i := 0) rfl) ev_int) (fun v_word => (st_if (et_B (ev_callN (ea_cons (ev_var (i := 0) rfl) (ea_cons (ev_var (i := 1) rfl) (ea_cons (ev_var (i := 2) rfl) ea_nil))))) (st_ret (ev_tup (ea_cons ev_str ea_nil))) (st_if (et_cmp rc_eq (ev_var (i := 3) rfl) ev_str) (st_ret (ev_tup (ea_cons ev_str (ea_cons (ev_cb1 rk_tuple (ev_lcZ3 (fun _ _ => rfl) (ev_op rr_ix (ev_var (i := 0) rfl) ev_int) (ev_var (i := 1) rfl) (ev_var (i := 2) rfl) rfl (fun v_inner v_a v_b => (ev_callN (ea_cons (ev_var (i := 7) rfl) (ea_cons (ev_var (i := 6) rfl) (ea_cons (ev_var (i := 8) rfl) ea_nil))))))) ea_nil)))) (st_if (et_cmp rc_eq (ev_var (i := 3) rfl) ev_str) (st_ret (ev_tup (ea_cons ev_str (ea_cons (ev_callN (ea_cons (ev_op rr_ix (ev_op rr_ix (ev_var (i := 0) rfl) ev_int) (ev_op rr_ix (ev_var (i := 1) rfl) ev_int)) (ea_cons (ev_op rr_ix (ev_var (i := 1) rfl) ev_int) (ea_cons (ev_op rr_ix (ev_var (i := 2) rfl) ev_int) ea_nil)))) ea_nil)))) (st_if (et_cmp rc_eq (ev_var (i := 3) rfl) ev_str) (st_asg (i := 4) (fun _ _ => rfl) (ev_cb1 rk_tuple (ev_lcS1 (fun _ _ => rfl) (ev_callN (ea_cons (ev_op rr_ix (ev_var (i := 0) rfl) ev_int) (ea_cons (ev_var (i := 1) rfl) (ea_cons (ev_var (i := 2) rfl) ea_nil)))) rfl (fun v_line => (ev_cb1 rk_tuple (ev_var (i := 5) rfl))))) (fun v_heights => (st_ret (ev_tup (ea_cons ev_str (ea_cons (ev_var (i := 4) rfl) (ea_cons (ev_cb1 rk_tuple (ev_lcS1 (fun _ _ => rfl) (ev_var (i := 1) rfl) rfl (fun v_a => (ev_cb1 rk_tuple (ev_lcS1 (fun _ _ => rfl) (ev_var (i := 2) rfl) rfl (fun v_b => (ev_callN (ea_cons (ev_op rr_ix (ev_var (i := 0) rfl) ev_int) (ea_cons (ev_var (i := 6) rfl) (ea_cons (ev_var (i := 8) rfl) ea_nil)))))))))) ea_nil))))))) (st_if (et_cmp rc_eq (ev_var (i := 3) rfl) ev_str) (st_ret (ev_tup (ea_cons ev_str (ea_cons (ev_cb1 rk_tuple (ev_lcS3 (fun _ _ => rfl) ev_never rfl (fun v__ v_a v_b => (ev_callN (ea_cons (ev_op rr_ix (ev_var (i := 0) rfl) ev_int) (ea_cons (ev_var (i := 6) rfl) (ea_cons (ev_var (i := 8) rfl) ea_nil))))))) ea_nil)))) (st_ret (ev_tup (ea_cons (ev_var (i := 3) rfl) ea_nil))))))))))) (by simp only [m_paper_of, Tr.ret_bind, Tr.bind_assoc, Tr.bind_ret, asB_bool, asI_int, on1_one, on2g_two, on2_two, on3_three])⟩)
theorem ok_paper_of (T : Txt w K mg) : FnOk P w K mg base CX0 36 T.d_paper_of.f T.d_paper_of.fd ["kind", "v", "w"] (SpN K 3 (fun ds => match ds with | [v_kind, v_v, v_w] => m_paper_of 12 v_kind v_v v_w | _ => Tr.bad)) := (rk_paper_of T 12)
theorem ok_choice_worth (T : Txt w K mg) : FnOk P w K mg base CX0 1 T.d_choice_worth.f T.d_choice_worth.fd ["kind", "v", "w", "paper"] (SpN K 4 (fun ds => match ds with | [v_kind, v_v, v_w, v_paper] => m_choice_worth v_kind v_v v_w v_paper | _ => Tr.bad)) := fn_never (spN_bad fun ds hl => match ds, hl with | [v_kind, v_v, v_w, v_paper], _ => rfl)
theorem ok_lot_worth (T : Txt w K mg) : FnOk P w K mg base CX0 1 T.d_lot_worth.f T.d_lot_worth.fd ["kind", "v", "w", "paper"] (SpN K 4 (fun ds => match ds with | [v_kind, v_v, v_w, v_paper] => m_lot_worth v_kind v_v v_w v_paper | _ => Tr.bad)) := fn_never (spN_bad fun ds hl => match ds, hl with | [v_kind, v_v, v_w, v_paper], _ => rfl)
theorem ok_record_worth (T : Txt w K mg) : FnOk P w K mg base CX0 1 T.d_record_worth.f T.d_record_worth.fd ["kind", "v", "w", "paper"] (SpN K 4 (fun ds => match ds with | [v_kind, v_v, v_w, v_paper] => m_record_worth v_kind v_v v_w v_paper | _ => Tr.bad)) := fn_never (spN_bad fun ds hl => match ds, hl with | [v_kind, v_v, v_w, v_paper], _ => rfl)
theorem sc_goes_across : FnScope ["heights", "worths", "above", "line", "inside", "high", "low", "each"] ["heights", "worths"] (defScope s_goes_across) := ⟨rfl, rfl, rfl, by decide +kernel, rfl, by decide +kernel, by decide +kernel⟩
theorem ok_goes_across (T : Txt w K mg) : FnOk P w K mg base CX0 1 T.d_goes_across.f T.d_goes_across.fd ["heights", "worths"] (SpN K 2 (fun ds => match ds with | [v_heights, v_worths] => m_goes_across v_heights v_worths | _ => Tr.bad)) :=
  fn_pure (cl := T.cl) T.d_goes_across.F sc_goes_across (fun cdv A outer s H E hr => ⟨_, (pss_cons (ps_ret (pe_callB (cr_all rfl) (by rfl) T.z_all (by decide +kernel) (pa_cons (pe_lc2 (own := [("above", 2), ("line", 3), ("inside", 4), ("high", 5), ("low", 6), ("each", 7)]) (vs1 := [5, 6, 7]) rfl sc_goes_across.nd (pi_zip3L (by rfl) T.z_zip (pa_cons (pv 0) (pa_cons (pe_slice sl_P (pv 0) (po_some pe_int) po_none) (pa_cons (pv 1) pa_nil)))) (blkOk_by (N := ["heights", "worths", "above", "line", "inside", "high", "low", "each"]) (sc := defScope s_goes_across) (by decide +kernel)) (by decide) (fun _ _ _ _ _ => pg_tup rfl (pgs_cons (pg_name (i := 2) sc_goes_across.nd rfl (Or.inl rfl)) (pgs_cons (pg_name (i := 3) sc_goes_across.nd rfl (Or.inl rfl)) (pgs_cons (pg_name (i := 4) sc_goes_across.nd rfl (Or.inl rfl)) pgs_nil)))) (fun _ _ _ _ _ => pts_nil) (fun _ _ _ _ _ => (pi_zip3L (by rfl) T.z_zip (pa_cons (pv 2) (pa_cons (pe_slice sl_P (pv 3) (po_some pe_int) po_none) (pa_cons (pv 4) pa_nil))))) (fun _ _ _ _ _ => pg_tup rfl (pgs_cons (pg_name (i := 5) sc_goes_across.nd rfl (Or.inl rfl)) (pgs_cons (pg_name (i := 6) sc_goes_across.nd rfl (Or.inl rfl)) (pgs_cons (pg_name (i := 7) sc_goes_across.nd rfl (Or.inl rfl)) pgs_nil)))) (fun _ _ _ _ _ => pts_nil) (fun _ _ _ _ _ => (pe_cmpR op_le (pv 6) (pe_op op_addA (pv 5) (pv 7)) (nomark _)))) pa_nil))) pss_nil), fun ds hl => match ds, hl with
      | [v_heights, v_worths], _ => StG.eq ((st_ret (ev_cb1 rk_all (ev_lcZ33 (fun _ _ => rfl) (i := 2) (j := 3) (l := 4) (m := 5) (n := 6) (o := 7) (ev_var (i := 0) rfl) (ev_sl rs_P (ev_var (i := 0) rfl) (eo_some ev_int) eo_none) (ev_var (i := 1) rfl) (fun v_above v_line v_inside => (ev_var (i := 2) rfl)) (fun v_above v_line v_inside => (ev_sl rs_P (ev_var (i := 3) rfl) (eo_some ev_int) eo_none)) (fun v_above v_line v_inside => (ev_var (i := 4) rfl)) (fun v_above v_line v_inside v_high v_low v_each => (ev_cmp rc_le (ev_var (i := 6) rfl) (ev_op rr_add (ev_var (i := 5) rfl) (ev_var (i := 7) rfl)))))))) (by simp only [m_goes_across, Tr.ret_bind, Tr.bind_assoc, Tr.bind_ret, asB_bool, asI_int, on1_one, on2g_two, on2_two, on3_three])⟩)
theorem sc_goes_down : FnScope ["heights", "downs", "above", "line", "down", "high", "low"] ["heights", "downs"] (defScope s_goes_down) := ⟨rfl, rfl, rfl, by decide +kernel, rfl, by decide +kernel, by decide +kernel⟩
theorem ok_goes_down (T : Txt w K mg) : FnOk P w K mg base CX0 1 T.d_goes_down.f T.d_goes_down.fd ["heights", "downs"] (SpN K 2 (fun ds => match ds with | [v_heights, v_downs] => m_goes_down v_heights v_downs | _ => Tr.bad)) :=
  fn_pure (cl := T.cl) T.d_goes_down.F sc_goes_down (fun cdv A outer s H E hr => ⟨_, (pss_cons (ps_ret (pe_callB (cr_all rfl) (by rfl) T.z_all (by decide +kernel) (pa_cons (pe_lc2 (own := [("above", 2), ("line", 3), ("down", 4), ("high", 5), ("low", 6)]) (vs1 := [5, 6]) rfl sc_goes_down.nd (pi_zip3L (by rfl) T.z_zip (pa_cons (pv 0) (pa_cons (pe_slice sl_P (pv 0) (po_some pe_int) po_none) (pa_cons (pv 1) pa_nil)))) (blkOk_by (N := ["heights", "downs", "above", "line", "down", "high", "low"]) (sc := defScope s_goes_down) (by decide +kernel)) (by decide) (fun _ _ _ _ _ => pg_tup rfl (pgs_cons (pg_name (i := 2) sc_goes_down.nd rfl (Or.inl rfl)) (pgs_cons (pg_name (i := 3) sc_goes_down.nd rfl (Or.inl rfl)) (pgs_cons (pg_name (i := 4) sc_goes_down.nd rfl (Or.inl rfl)) pgs_nil)))) (fun _ _ _ _ _ => pts_nil) (fun _ _ _ _ _ => (RZ.pi_zipA (by rfl) T.z_zip (pa_cons (pv 2) (pa_cons (pv 3) pa_nil)))) (fun _ _ _ _ _ => pg_tup rfl (pgs_cons (pg_name (i := 5) sc_goes_down.nd rfl (Or.inl rfl)) (pgs_cons (pg_name (i := 6) sc_goes_down.nd rfl (Or.inl rfl)) pgs_nil))) (fun _ _ _ _ _ => pts_nil) (fun _ _ _ _ _ => (pe_cmpR op_le (pv 6) (pe_op op_addA (pv 5) (pv 4)) (nomark _)))) pa_nil))) pss_nil), fun ds hl => match ds, hl with
      | [v_heights, v_downs], _ => StG.eq ((st_ret (ev_cb1 rk_all (ev_lcZ32 (fun _ _ => rfl) (i := 2) (j := 3) (l := 4) (m := 5) (n := 6) (ev_var (i := 0) rfl) (ev_sl rs_P (ev_var (i := 0) rfl) (eo_some ev_int) eo_none) (ev_var (i := 1) rfl) (fun v_above v_line v_down => (ev_var (i := 2) rfl)) (fun v_above v_line v_down => (ev_var (i := 3) rfl)) (fun v_above v_line v_down v_high v_low => (ev_cmp rc_le (ev_var (i := 6) rfl) (ev_op rr_add (ev_var (i := 5) rfl) (ev_var (i := 4) rfl)))))))) (by simp only [m_goes_down, Tr.ret_bind, Tr.bind_assoc, Tr.bind_ret, asB_bool, asI_int, on1_one, on2g_two, on2_two, on3_three])⟩)
theorem sc_goes_left : FnScope ["heights", "lefts", "line", "high", "low", "left"] ["heights", "lefts"] (defScope s_goes_left) := ⟨rfl, rfl, rfl, by decide +kernel, rfl, by decide +kernel, by decide +kernel⟩
theorem ok_goes_left (T : Txt w K mg) : FnOk P w K mg base CX0 1 T.d_goes_left.f T.d_goes_left.fd ["heights", "lefts"] (SpN K 2 (fun ds => match ds with | [v_heights, v_lefts] => m_goes_left v_heights v_lefts | _ => Tr.bad)) :=
  fn_pure (cl := T.cl) T.d_goes_left.F sc_goes_left (fun cdv A outer s H E hr => ⟨_, (pss_cons (ps_ret (pe_callB (cr_all rfl) (by rfl) T.z_all (by decide +kernel) (pa_cons (pe_lc2 (own := [("line", 2), ("high", 3), ("low", 4), ("left", 5)]) (vs1 := [3, 4, 5]) rfl sc_goes_left.nd (pi_seq (pv 0)) (blkOk_by (N := ["heights", "lefts", "line", "high", "low", "left"]) (sc := defScope s_goes_left) (by decide +kernel)) (by decide) (fun _ _ _ _ _ => pg_name (i := 2) sc_goes_left.nd rfl (Or.inl rfl)) (fun _ _ _ _ _ => pts_nil) (fun _ _ _ _ _ => (pi_zip3L (by rfl) T.z_zip (pa_cons (pv 2) (pa_cons (pe_slice sl_P (pv 2) (po_some pe_int) po_none) (pa_cons (pv 1) pa_nil))))) (fun _ _ _ _ _ => pg_tup rfl (pgs_cons (pg_name (i := 3) sc_goes_left.nd rfl (Or.inl rfl)) (pgs_cons (pg_name (i := 4) sc_goes_left.nd rfl (Or.inl rfl)) (pgs_cons (pg_name (i := 5) sc_goes_left.nd rfl (Or.inl rfl)) pgs_nil)))) (fun _ _ _ _ _ => pts_nil) (fun _ _ _ _ _ => (pe_cmpR op_le (pv 4) (pe_op op_addA (pv 3) (pv 5)) (nomark _)))) pa_nil))) pss_nil), fun ds hl => match ds, hl with
      | [v_heights, v_lefts], _ => StG.eq ((st_ret (ev_cb1 rk_all (ev_lcSZ (fun _ _ => rfl) (i := 2) (j := 3) (l := 4) (m := 5) (ev_var (i := 0) rfl) (fun v_line => (ev_var (i := 2) rfl)) (fun v_line => (ev_sl rs_P (ev_var (i := 2) rfl) (eo_some ev_int) eo_none)) (fun v_line => (ev_var (i := 1) rfl)) (fun v_line v_high v_low v_left => (ev_cmp rc_le (ev_var (i := 4) rfl) (ev_op rr_add (ev_var (i := 3) rfl) (ev_var (i := 5) rfl)))))))) (by simp only [m_goes_left, Tr.ret_bind, Tr.bind_assoc, Tr.bind_ret, asB_bool, asI_int, on1_one, on2g_two, on2_two, on3_three])⟩)
theorem sc_is_grid : FnScope ["thing", "many", "wide", "line"] ["thing", "many", "wide"] (defScope s_is_grid) := ⟨rfl, rfl, rfl, by decide +kernel, rfl, by decide +kernel, by decide +kernel⟩
theorem ok_is_grid (T : Txt w K mg) : FnOk P w K mg base CX0 2 T.d_is_grid.f T.d_is_grid.fd ["thing", "many", "wide"] (SpN K 3 (fun ds => match ds with | [v_thing, v_many, v_wide] => m_is_grid v_thing v_many v_wide | _ => Tr.bad)) :=
  fn_pure (cl := T.cl) T.d_is_grid.F sc_is_grid (fun cdv A outer s H E hr => ⟨_, (pss_cons (ps_ret (pe_and (pe_call (ok_is_tuple T) (hr.mono (by decide)) (by rfl) T.d_is_tuple.g T.d_is_tuple.F.kp T.d_is_tuple.b .nil pass0 (pa_cons (pv 0) (pa_cons (pv 1) pa_nil))) (pe_one (pe_callB (cr_all rfl) (by rfl) T.z_all (by decide +kernel) (pa_cons (pe_lc (own := [("line", 3)]) rfl sc_is_grid.nd (pi_seq (pv 0)) (blkOk_by (N := ["thing", "many", "wide", "line"]) (sc := defScope s_is_grid) (by decide +kernel)) (fun _ _ _ _ _ => pg_name (i := 3) sc_is_grid.nd rfl (Or.inl rfl)) (fun _ _ _ _ _ => pts_nil) (fun _ _ _ _ _ => (pe_call (ok_is_tuple T) (hr.mono (by decide)) (by rfl) T.d_is_tuple.g T.d_is_tuple.F.kp T.d_is_tuple.b .nil pass0 (pa_cons (pv 3) (pa_cons (pv 2) pa_nil))))) pa_nil))))) pss_nil), fun ds hl => match ds, hl with
      | [v_thing, v_many, v_wide], _ => StG.eq ((st_ret (ev_andV (ev_callN (ea_cons (ev_var (i := 0) rfl) (ea_cons (ev_var (i := 1) rfl) ea_nil))) (ev_cb1 rk_all (ev_lcS1 (fun _ _ => rfl) (ev_var (i := 0) rfl) rfl (fun v_line => (ev_callN (ea_cons (ev_var (i := 3) rfl) (ea_cons (ev_var (i := 2) rfl) ea_nil))))))))) (by simp only [m_is_grid, Tr.ret_bind, Tr.bind_assoc, Tr.bind_ret, asB_bool, asI_int, on1_one, on2g_two, on2_two, on3_three])⟩)
theorem ok_table_worth (T : Txt w K mg) : FnOk P w K mg base CX0 1 T.d_table_worth.f T.d_table_worth.fd ["kind", "v", "w", "paper"] (SpN K 4 (fun ds => match ds with | [v_kind, v_v, v_w, v_paper] => m_table_worth v_kind v_v v_w v_paper | _ => Tr.bad)) := fn_never (spN_bad fun ds hl => match ds, hl with | [v_kind, v_v, v_w, v_paper], _ => rfl)
theorem sc_turn_worth : FnScope ["kind", "v", "w"] ["kind", "v", "w"] (defScope s_turn_worth) := ⟨rfl, rfl, rfl, by decide +kernel, rfl, by decide +kernel, by decide +kernel⟩
theorem ok_turn_worth (T : Txt w K mg) : FnOk P w K mg base CX0 13 T.d_turn_worth.f T.d_turn_worth.fd ["kind", "v", "w"] (SpN K 3 (fun ds => match ds with | [v_kind, v_v, v_w] => m_turn_worth v_kind v_v v_w | _ => Tr.bad)) :=
  fn_pure (cl := T.cl) T.d_turn_worth.F sc_turn_worth (fun cdv A outer s H E hr => ⟨_, (pss_cons (ps_ret (pe_ifExp (pt_cmpR (op_eqP (room64 hr)) (pv 1) (pv 2) (nomark _)) pe_int (pe_op op_addA (pe_call (ok_heft T) (hr.mono (by decide)) (by rfl) T.d_heft.g T.d_heft.F.kp T.d_heft.b .nil pass0 (pa_cons (pv 0) (pa_cons (pv 1) pa_nil))) (pe_call (ok_heft T) (hr.mono (by decide)) (by rfl) T.d_heft.g T.d_heft.F.kp T.d_heft.b .nil pass0 (pa_cons (pv 0) (pa_cons (pv 2) pa_nil)))))) pss_nil), fun ds hl => match ds, hl with
      | [v_kind, v_v, v_w], _ => StG.eq ((st_ret (ev_if (et_cmp rc_eq (ev_var (i := 1) rfl) (ev_var (i := 2) rfl)) ev_int (ev_op rr_add (ev_callN (ea_cons (ev_var (i := 0) rfl) (ea_cons (ev_var (i := 1) rfl) ea_nil))) (ev_callN (ea_cons (ev_var (i := 0) rfl) (ea_cons (ev_var (i := 2) rfl) ea_nil))))))) (by simp only [m_turn_worth, Tr.ret_bind, Tr.bind_assoc, Tr.bind_ret, asB_bool, asI_int, on1_one, on2g_two, on2_two, on3_three])⟩)
theorem sc_worth_of : FnScope ["kind", "v", "w", "paper", "action"] ["kind", "v", "w", "paper"] (defScope s_worth_of) := ⟨rfl, rfl, rfl, by decide +kernel, rfl, by decide +kernel, by decide +kernel⟩
theorem sc_row_worth : FnScope ["kind", "v", "w", "paper", "worths", "downs", "lefts", "_", "heights", "bounds", "item", "a", "line", "b", "each", "height"] ["kind", "v", "w", "paper"] (defScope s_row_worth) := ⟨rfl, rfl, rfl, by decide +kernel, rfl, by decide +kernel, by decide +kernel⟩
theorem rk_worth_of (T : Txt w K mg) : ∀ n : Nat, (FnOk P w K mg base CX0 (13 + n) T.d_worth_of.f T.d_worth_of.fd ["kind", "v", "w", "paper"] (SpN K 4 (fun ds => match ds with | [v_kind, v_v, v_w, v_paper] => m_worth_of n v_kind v_v v_w v_paper | _ => Tr.bad))) ∧ (FnOk P w K mg base CX0 (13 + n) T.d_row_worth.f T.d_row_worth.fd ["kind", "v", "w", "paper"] (SpN K 4 (fun ds => match ds with | [v_kind, v_v, v_w, v_paper] => m_row_worth n v_kind v_v v_w v_paper | _ => Tr.bad)))
  | 0 => ⟨fn_never (spN_bad fun ds hl => match ds, hl with | [v_kind, v_v, v_w, v_paper], _ => by simp only [m_worth_of]), fn_never (spN_bad fun ds hl => match ds, hl with | [v_kind, v_v, v_w, v_paper], _ => by simp only [m_row_worth])⟩
  | n + 1 => by
    have ih := rk_worth_of T n
    have ih_worth_of := ih.1
    have ih_row_worth := ih.2
    have fr_WORTHS : ∀ q ∈ tab_WORTHS T, FnR P w K mg base CX0 (13 + n) q.2 (fun vs H Q E => SpN K 4 (fx_WORTHS m_record_worth m_choice_worth (m_row_worth n) m_lot_worth m_table_worth q.1) (vs ++ []) H Q E) ∧ PySem.W.keepIn K (.ref q.2) = true := by
      intro q hq
      simp only [tab_WORTHS, List.mem_cons, List.not_mem_nil, or_false] at hq
      rcases hq with rfl | rfl | rfl | rfl | rfl | rfl
      · have e : fx_WORTHS m_record_worth m_choice_worth (m_row_worth n) m_lot_worth m_table_worth "record" = (fun ds => match ds with | [a0, a1, a2, a3] => m_record_worth a0 a1 a2 a3 | _ => Tr.bad) := by
          unfold fx_WORTHS
          rw [if_pos rfl]
        exact ⟨by
          show FnR P w K mg base CX0 (13 + n) T.d_record_worth.f (fun vs H Q E => SpN K 4 (fx_WORTHS m_record_worth m_choice_worth (m_row_worth n) m_lot_worth m_table_worth "record") (vs ++ []) H Q E)
          rw [e]
          exact FnOk.raw ((ok_record_worth T).mono (Nat.le_trans (by decide : 1 ≤ 13) (Nat.le_add_right 13 _))) T.d_record_worth.b .nil, T.d_record_worth.F.kp⟩
      · have e : fx_WORTHS m_record_worth m_choice_worth (m_row_worth n) m_lot_worth m_table_worth "choice" = (fun ds => match ds with | [a0, a1, a2, a3] => m_choice_worth a0 a1 a2 a3 | _ => Tr.bad) := by
          unfold fx_WORTHS
          rw [if_neg (by decide), if_pos rfl]
        exact ⟨by
          show FnR P w K mg base CX0 (13 + n) T.d_choice_worth.f (fun vs H Q E => SpN K 4 (fx_WORTHS m_record_worth m_choice_worth (m_row_worth n) m_lot_worth m_table_worth "choice") (vs ++ []) H Q E)
          rw [e]
          exact FnOk.raw ((ok_choice_worth T).mono (Nat.le_trans (by decide : 1 ≤ 13) (Nat.le_add_right 13 _))) T.d_choice_worth.b .nil, T.d_choice_worth.F.kp⟩
      · have e : fx_WORTHS m_record_worth m_choice_worth (m_row_worth n) m_lot_worth m_table_worth "row" = (fun ds => match ds with | [a0, a1, a2, a3] => m_row_worth n a0 a1 a2 a3 | _ => Tr.bad) := by
          unfold fx_WORTHS
          rw [if_neg (by decide), if_neg (by decide), if_pos rfl]
        exact ⟨by
          show FnR P w K mg base CX0 (13 + n) T.d_row_worth.f (fun vs H Q E => SpN K 4 (fx_WORTHS m_record_worth m_choice_worth (m_row_worth n) m_lot_worth m_table_worth "row") (vs ++ []) H Q E)
          rw [e]
          exact FnOk.raw ih_row_worth T.d_row_worth.b .nil, T.d_row_worth.F.kp⟩
      · have e : fx_WORTHS m_record_worth m_choice_worth (m_row_worth n) m_lot_worth m_table_worth "set" = (fun ds => match ds with | [a0, a1, a2, a3] => m_lot_worth a0 a1 a2 a3 | _ => Tr.bad) := by
          unfold fx_WORTHS
          rw [if_neg (by decide), if_neg (by decide), if_neg (by decide), if_pos rfl]
        exact ⟨by
          show FnR P w K mg base CX0 (13 + n) T.d_lot_worth.f (fun vs H Q E => SpN K 4 (fx_WORTHS m_record_worth m_choice_worth (m_row_worth n) m_lot_worth m_table_worth "set") (vs ++ []) H Q E)
          rw [e]
          exact FnOk.raw ((ok_lot_worth T).mono (Nat.le_trans (by decide : 1 ≤ 13) (Nat.le_add_right 13 _))) T.d_lot_worth.b .nil, T.d_lot_worth.F.kp⟩
      · have e : fx_WORTHS m_record_worth m_choice_worth (m_row_worth n) m_lot_worth m_table_worth "bag" = (fun ds => match ds with | [a0, a1, a2, a3] => m_lot_worth a0 a1 a2 a3 | _ => Tr.bad) := by
          unfold fx_WORTHS
          rw [if_neg (by decide), if_neg (by decide), if_neg (by decide), if_neg (by decide), if_pos rfl]
        exact ⟨by
          show FnR P w K mg base CX0 (13 + n) T.d_lot_worth.f (fun vs H Q E => SpN K 4 (fx_WORTHS m_record_worth m_choice_worth (m_row_worth n) m_lot_worth m_table_worth "bag") (vs ++ []) H Q E)
          rw [e]
          exact FnOk.raw ((ok_lot_worth T).mono (Nat.le_trans (by decide : 1 ≤ 13) (Nat.le_add_right 13 _))) T.d_lot_worth.b .nil, T.d_lot_worth.F.kp⟩
      · have e : fx_WORTHS m_record_worth m_choice_worth (m_row_worth n) m_lot_worth m_table_worth "table" = (fun ds => match ds with | [a0, a1, a2, a3] => m_table_worth a0 a1 a2 a3 | _ => Tr.bad) := by
          unfold fx_WORTHS
          rw [if_neg (by decide), if_neg (by decide), if_neg (by decide), if_neg (by decide), if_neg (by decide), if_pos rfl]
        exact ⟨by
          show FnR P w K mg base CX0 (13 + n) T.d_table_worth.f (fun vs H Q E => SpN K 4 (fx_WORTHS m_record_worth m_choice_worth (m_row_worth n) m_lot_worth m_table_worth "table") (vs ++ []) H Q E)
          rw [e]
          exact FnOk.raw ((ok_table_worth T).mono (Nat.le_trans (by decide : 1 ≤ 13) (Nat.le_add_right 13 _))) T.d_table_worth.b .nil, T.d_table_worth.F.kp⟩
    refine ⟨?_, ?_⟩
    · exact fn_pure (cl := T.cl) T.d_worth_of.F sc_worth_of (fun cdv A outer s H E hr => ⟨_, (pss_cons (ps_if (PW.pt (pw_or (pt_not (pt_val (pe_callB call_isi (by rfl) T.z_isinstance (by decide +kernel) (pa_cons (pv 3) (pa_cons (pe_bltn (v := V.ty "tuple") (u := .type "tuple") (by rfl) T.z_tuple (by decide +kernel) rfl) pa_nil))))) (pw_or1 (pt_cmpR (op_eqP (room64 hr)) (pe_callB call_len_seq (by rfl) T.z_len (by decide +kernel) (pa_cons (pv 3) pa_nil)) pe_int (nomark _))))) (pss_cons (ps_ret pe_non) pss_nil) pss_nil) (pss_cons (ps_if (pt_cmpR (op_eqP (room64 hr)) (pe_ix ix_seq (pv 3) pe_int (fun _ _ => rfl)) pe_str (nomark _)) (pss_cons (ps_ret (pe_ifExp (pt_cmpR (op_eqP (room64 hr)) (pe_callB call_len_seq (by rfl) T.z_len (by decide +kernel) (pa_cons (pv 3) pa_nil)) pe_int (nomark _)) pe_int pe_non)) pss_nil) pss_nil) (pss_cons (ps_if (pt_val (pe_call (ok_has_turn_alone T) (hr.mono (Nat.le_trans (by decide : 1 ≤ 13) (Nat.le_add_right 13 _))) (by rfl) T.d_has_turn_alone.g T.d_has_turn_alone.F.kp T.d_has_turn_alone.b .nil pass0 (pa_cons (pv 0) (pa_cons (pv 1) (pa_cons (pv 2) pa_nil))))) (pss_cons (ps_ret (pe_ifExp (pt_cmpR (op_eqP (room64 hr)) (pv 3) (pe_tupF (pa_cons pe_str pa_nil)) (nomark _)) (pe_call (ok_turn_worth T) (hr.mono (Nat.le_trans (by decide : 13 ≤ 13) (Nat.le_add_right 13 _))) (by rfl) T.d_turn_worth.g T.d_turn_worth.F.kp T.d_turn_worth.b .nil pass0 (pa_cons (pv 0) (pa_cons (pv 1) (pa_cons (pv 2) pa_nil)))) pe_non)) pss_nil) pss_nil) (pss_cons (ps_if (pt_cmpR (op_neP (room64 hr)) (pe_ix ix_seq (pv 3) pe_int (fun _ _ => rfl)) (pe_ix ix_seq (pv 0) pe_int (fun _ _ => rfl)) (nomark _)) (pss_cons (ps_ret pe_non) pss_nil) pss_nil) (pss_cons (ps_set (i := 4) sc_worth_of.nd rfl (Or.inl rfl) (pe_ix ix_kdict (pe_glob (v := V.ref T.p_WORTHS) (by rfl) T.g_WORTHS rfl) (pe_ix ix_seq (pv 0) pe_int (fun _ _ => rfl)) (fun _ _ => rfl))) (pss_cons (ps_ret (pe_alt fun (k : { q : Str × Addr // q ∈ tab_WORTHS T }) => ItX.pe_callV (fr_WORTHS k.1 k.2).1 (hr.mono (Nat.le_refl _)) (fr_WORTHS k.1 k.2).2 pass0 rfl (by first | exact Or.inl rfl | exact Or.inr (Or.inl rfl) | exact Or.inr (Or.inr rfl)) (pa_cons (pv 0) (pa_cons (pv 1) (pa_cons (pv 2) (pa_cons (pv 3) pa_nil)))))) pss_nil)))))), fun ds hl => match ds, hl with
          | [v_kind, v_v, v_w, v_paper], _ => StG.eq ((st_if (et_or (et_not (et_B (ev_isi isTy_tuple (ev_var (i := 3) rfl)))) (et_cmp rc_eq (ev_cb1 rk_len (ev_var (i := 3) rfl)) ev_int)) (st_ret ev_non) (st_if (et_cmp rc_eq (ev_op rr_ix (ev_var (i := 3) rfl) ev_int) ev_str) (st_ret (ev_if (et_cmp rc_eq (ev_cb1 rk_len (ev_var (i := 3) rfl)) ev_int) ev_int ev_non)) (st_if (et_B (ev_callN (ea_cons (ev_var (i := 0) rfl) (ea_cons (ev_var (i := 1) rfl) (ea_cons (ev_var (i := 2) rfl) ea_nil))))) (st_ret (ev_if (et_cmp rc_eq (ev_var (i := 3) rfl) (ev_tup (ea_cons ev_str ea_nil))) (ev_callN (ea_cons (ev_var (i := 0) rfl) (ea_cons (ev_var (i := 1) rfl) (ea_cons (ev_var (i := 2) rfl) ea_nil)))) ev_non)) (st_if (et_cmp rc_ne (ev_op rr_ix (ev_var (i := 3) rfl) ev_int) (ev_op rr_ix (ev_var (i := 0) rfl) ev_int)) (st_ret ev_non) (st_asgF2 (i := 4) (names := fn_WORTHS) (g := fun q_action => (fx_WORTHS m_record_worth m_choice_worth (m_row_worth n) m_lot_worth m_table_worth) q_action [v_kind, v_v, v_w, v_paper]) (fun _ _ => rfl) T.fd_WORTHS rfl (ev_op rr_ix (ev_var (i := 0) rfl) ev_int) (fun q hq => (st_ret (ev_callF (i := 4) (tab := tab_WORTHS T) (m := (fx_WORTHS m_record_worth m_choice_worth (m_row_worth n) m_lot_worth m_table_worth)) hq rfl (ea_cons (ev_var (i := 0) rfl) (ea_cons (ev_var (i := 1) rfl) (ea_cons (ev_var (i := 2) rfl) (ea_cons (ev_var (i := 3) rfl) ea_nil))))))))))))) (by simp only [m_worth_of, Tr.ret_bind, Tr.bind_assoc, Tr.bind_ret, asB_bool, asI_int, on1_one, on2g_two, on2_two, on3_three])⟩)
    · exact fn_pure (cl := T.cl) T.d_row_worth.F sc_row_worth (fun cdv A outer s H E hr => ⟨_, (pss_cons (ps_if (PW.pt (pw_or (pt_cmpR (op_neP (room64 hr)) (pe_callB call_len_seq (by rfl) T.z_len (by decide +kernel) (pa_cons (pv 3) pa_nil)) pe_int (nomark _)) (pw_or (pt_not (pt_val (pe_call (ok_is_grid T) (hr.mono (Nat.le_trans (by decide : 2 ≤ 13) (Nat.le_add_right 13 _))) (by rfl) T.d_is_grid.g T.d_is_grid.F.kp T.d_is_grid.b .nil pass0 (pa_cons (pe_ix ix_seq (pv 3) pe_int (fun _ _ => rfl)) (pa_cons (pe_op op_addA (pe_callB call_len_seq (by rfl) T.z_len (by decide +kernel) (pa_cons (pv 1) pa_nil)) pe_int) (pa_cons (pe_op op_addA (pe_callB call_len_seq (by rfl) T.z_len (by decide +kernel) (pa_cons (pv 2) pa_nil)) pe_int) pa_nil)))))) (pw_or1 (pt_not (pt_val (pe_call (ok_is_grid T) (hr.mono (Nat.le_trans (by decide : 2 ≤ 13) (Nat.le_add_right 13 _))) (by rfl) T.d_is_grid.g T.d_is_grid.F.kp T.d_is_grid.b .nil pass0 (pa_cons (pe_ix ix_seq (pv 3) pe_int (fun _ _ => rfl)) (pa_cons (pe_callB call_len_seq (by rfl) T.z_len (by decide +kernel) (pa_cons (pv 1) pa_nil)) (pa_cons (pe_callB call_len_seq (by rfl) T.z_len (by decide +kernel) (pa_cons (pv 2) pa_nil)) pa_nil)))))))))) (pss_cons (ps_ret pe_non) pss_nil) pss_nil) (pss_cons (ps_asg (pv 3) (pg_tup rfl (pgs_cons (pg_name (i := 7) sc_row_worth.nd rfl (Or.inl rfl)) (pgs_cons (pg_name (i := 8) sc_row_worth.nd rfl (Or.inl rfl)) (pgs_cons (pg_name (i := 9) sc_row_worth.nd rfl (Or.inl rfl)) pgs_nil))))) (pss_cons (ps_if (PW.pt (pw_or (pt_not (pt_val (pe_callB (cr_all rfl) (by rfl) T.z_all (by decide +kernel) (pa_cons (pe_lc2 (own := [("line", 12), ("height", 15)]) (vs1 := [15]) rfl sc_row_worth.nd (pi_seq (pv 8)) (blkOk_by (N := ["kind", "v", "w", "paper", "worths", "downs", "lefts", "_", "heights", "bounds", "item", "a", "line", "b", "each", "height"]) (sc := defScope s_row_worth) (by decide +kernel)) (by decide) (fun _ _ _ _ _ => pg_name (i := 12) sc_row_worth.nd rfl (Or.inl rfl)) (fun _ _ _ _ _ => pts_nil) (fun _ _ _ _ _ => (pi_seq (pv 12))) (fun _ _ _ _ _ => pg_name (i := 15) sc_row_worth.nd rfl (Or.inl rfl)) (fun _ _ _ _ _ => pts_nil) (fun _ _ _ _ _ => (pe_and (pe_call (ok_is_whole T) (hr.mono (Nat.le_trans (by decide : 1 ≤ 13) (Nat.le_add_right 13 _))) (by rfl) T.d_is_whole.g T.d_is_whole.F.kp T.d_is_whole.b .nil pass0 (pa_cons (pv 15) pa_nil)) (pe_one (pe_cmpR op_ge (pv 15) pe_int (nomark _)))))) pa_nil)))) (pw_or1 (pt_cmpR (op_neP (room64 hr)) (pe_ix ix_seq (pe_ix ix_seq (pv 8) pe_int (fun _ _ => rfl)) pe_int (fun _ _ => rfl)) pe_int (nomark _))))) (pss_cons (ps_ret pe_non) pss_nil) pss_nil) (pss_cons (ps_setLc (i := 4) (own := [("a", 11), ("line", 12)]) rfl sc_row_worth.nd rfl rfl (sw_true rfl rfl rfl (by decide +kernel)) (RZ.pi_zipA (by rfl) T.z_zip (pa_cons (pv 1) (pa_cons (pv 9) pa_nil))) (blkOk_by (N := ["kind", "v", "w", "paper", "worths", "downs", "lefts", "_", "heights", "bounds", "item", "a", "line", "b", "each", "height"]) (sc := defScope s_row_worth) (by decide +kernel)) (fun _ _ _ _ _ => pg_tup rfl (pgs_cons (pg_name (i := 11) sc_row_worth.nd rfl (Or.inr rfl)) (pgs_cons (pg_name (i := 12) sc_row_worth.nd rfl (Or.inl rfl)) pgs_nil))) (fun _ _ _ _ _ => pts_nil) (fun _ _ _ _ _ => (pe_lc (own := [("b", 13), ("each", 14)]) rfl sc_row_worth.nd (RZ.pi_zipA (by rfl) T.z_zip (pa_cons (pv 2) (pa_cons (pv 12) pa_nil))) (blkOk_by (by first | rfl | decide +kernel)) (fun _ _ _ _ _ => pg_tup rfl (pgs_cons (pg_name (i := 13) sc_row_worth.nd rfl (Or.inl rfl)) (pgs_cons (pg_name (i := 14) sc_row_worth.nd rfl (Or.inl rfl)) pgs_nil))) (fun _ _ _ _ _ => pts_nil) (fun _ _ _ _ _ => (pe_call ih_worth_of (hr.mono (Nat.le_refl _)) (by rfl) T.d_worth_of.g T.d_worth_of.F.kp T.d_worth_of.b .nil pass0 (pa_cons (pe_ix ix_seq (pv 0) pe_int (fun _ _ => rfl)) (pa_cons (pv 11) (pa_cons (pv 13) (pa_cons (pv 14) pa_nil))))))))) (pss_cons (ps_if (pt_val (pe_callB (cr_any rfl) (by rfl) T.z_any (by decide +kernel) (pa_cons (pe_lc (own := [("line", 12)]) rfl sc_row_worth.nd (pi_seq (pv 4)) (blkOk_by (N := ["kind", "v", "w", "paper", "worths", "downs", "lefts", "_", "heights", "bounds", "item", "a", "line", "b", "each", "height"]) (sc := defScope s_row_worth) (by decide +kernel)) (fun _ _ _ _ _ => pg_name (i := 12) sc_row_worth.nd rfl (Or.inl rfl)) (fun _ _ _ _ _ => pts_nil) (fun _ _ _ _ _ => (pe_cmpR (op_inP (room65 hr)) pe_non (pv 12) rfl))) pa_nil))) (pss_cons (ps_ret pe_non) pss_nil) pss_nil) (pss_cons (ps_setLc (i := 5) (own := [("item", 10)]) rfl sc_row_worth.nd rfl rfl (sw_true rfl rfl rfl (by decide +kernel)) (pi_seq (pv 1)) (blkOk_by (N := ["kind", "v", "w", "paper", "worths", "downs", "lefts", "_", "heights", "bounds", "item", "a", "line", "b", "each", "height"]) (sc := defScope s_row_worth) (by decide +kernel)) (fun _ _ _ _ _ => pg_name (i := 10) sc_row_worth.nd rfl (Or.inl rfl)) (fun _ _ _ _ _ => pts_nil) (fun _ _ _ _ _ => (pe_call (ok_heft T) (hr.mono (Nat.le_trans (by decide : 12 ≤ 13) (Nat.le_add_right 13 _))) (by rfl) T.d_heft.g T.d_heft.F.kp T.d_heft.b .nil pass0 (pa_cons (pe_ix ix_seq (pv 0) pe_int (fun _ _ => rfl)) (pa_cons (pv 10) pa_nil))))) (pss_cons (ps_setLc (i := 6) (own := [("item", 10)]) rfl sc_row_worth.nd rfl rfl (sw_true rfl rfl rfl (by decide +kernel)) (pi_seq (pv 2)) (blkOk_by (N := ["kind", "v", "w", "paper", "worths", "downs", "lefts", "_", "heights", "bounds", "item", "a", "line", "b", "each", "height"]) (sc := defScope s_row_worth) (by decide +kernel)) (fun _ _ _ _ _ => pg_name (i := 10) sc_row_worth.nd rfl (Or.inl rfl)) (fun _ _ _ _ _ => pts_nil) (fun _ _ _ _ _ => (pe_call (ok_heft T) (hr.mono (Nat.le_trans (by decide : 12 ≤ 13) (Nat.le_add_right 13 _))) (by rfl) T.d_heft.g T.d_heft.F.kp T.d_heft.b .nil pass0 (pa_cons (pe_ix ix_seq (pv 0) pe_int (fun _ _ => rfl)) (pa_cons (pv 10) pa_nil))))) (pss_cons (ps_if (pt_not (PW.pt (pw_and (pt_val (pe_call (ok_goes_down T) (hr.mono (Nat.le_trans (by decide : 1 ≤ 13) (Nat.le_add_right 13 _))) (by rfl) T.d_goes_down.g T.d_goes_down.F.kp T.d_goes_down.b .nil pass0 (pa_cons (pv 8) (pa_cons (pv 5) pa_nil)))) (pw_and (pt_val (pe_call (ok_goes_left T) (hr.mono (Nat.le_trans (by decide : 1 ≤ 13) (Nat.le_add_right 13 _))) (by rfl) T.d_goes_left.g T.d_goes_left.F.kp T.d_goes_left.b .nil pass0 (pa_cons (pv 8) (pa_cons (pv 6) pa_nil)))) (pw_and1 (pt_val (pe_call (ok_goes_across T) (hr.mono (Nat.le_trans (by decide : 1 ≤ 13) (Nat.le_add_right 13 _))) (by rfl) T.d_goes_across.g T.d_goes_across.F.kp T.d_goes_across.b .nil pass0 (pa_cons (pv 8) (pa_cons (pv 4) pa_nil))))))))) (pss_cons (ps_ret pe_non) pss_nil) pss_nil) (pss_cons (ps_ret (pe_ix ix_seq (pe_ix ix_seq (pv 8) (pe_un un_neg pe_int) (fun _ _ => rfl)) (pe_un un_neg pe_int) (fun _ _ => rfl))) pss_nil))))))))), fun ds hl => match ds, hl with
          | [v_kind, v_v, v_w, v_paper], _ => StG.eq ((st_if (et_or (et_cmp rc_ne (ev_cb1 rk_len (ev_var (i := 3) rfl)) ev_int) (et_or (et_not (et_B (ev_callN (ea_cons (ev_op rr_ix (ev_var (i := 3) rfl) ev_int) (ea_cons (ev_op rr_add (ev_cb1 rk_len (ev_var (i := 1) rfl)) ev_int) (ea_cons (ev_op rr_add (ev_cb1 rk_len (ev_var (i := 2) rfl)) ev_int) ea_nil)))))) (et_not (et_B (ev_callN (ea_cons (ev_op rr_ix (ev_var (i := 3) rfl) ev_int) (ea_cons (ev_cb1 rk_len (ev_var (i := 1) rfl)) (ea_cons (ev_cb1 rk_len (ev_var (i := 2) rfl)) ea_nil)))))))) (st_ret ev_non) (st_unp3 (fun _ _ => rfl) (i := 7) (j := 8) (l := 9) (ev_var (i := 3) rfl) (fun v__ v_heights v_bounds => (st_if (et_or (et_not (et_B (ev_cb1 rk_all (ev_lcSS (fun _ _ => rfl) (i := 12) (j := 15) (ev_var (i := 8) rfl) (fun v_line => (ev_var (i := 12) rfl)) (fun v_line v_height => (ev_andV (ev_callN (ea_cons (ev_var (i := 15) rfl) ea_nil)) (ev_cmp rc_ge (ev_var (i := 15) rfl) ev_int))))))) (et_cmp rc_ne (ev_op rr_ix (ev_op rr_ix (ev_var (i := 8) rfl) ev_int) ev_int) ev_int)) (st_ret ev_non) (st_asg (i := 4) (fun _ _ => rfl) (ev_lcZ2 (fun _ _ => rfl) (ev_var (i := 1) rfl) (ev_var (i := 9) rfl) rfl (fun v_a v_line => (ev_lcZ2 (fun _ _ => rfl) (ev_var (i := 2) rfl) (ev_var (i := 12) rfl) rfl (fun v_b v_each => (ev_callN (ea_cons (ev_op rr_ix (ev_var (i := 0) rfl) ev_int) (ea_cons (ev_var (i := 11) rfl) (ea_cons (ev_var (i := 13) rfl) (ea_cons (ev_var (i := 14) rfl) ea_nil))))))))) (fun v_worths => (st_if (et_B (ev_cb1 rk_any (ev_lcS1 (fun _ _ => rfl) (ev_var (i := 4) rfl) rfl (fun v_line => (ev_cmp rc_in ev_non (ev_var (i := 12) rfl)))))) (st_ret ev_non) (st_asg (i := 5) (fun _ _ => rfl) (ev_lcS1 (fun _ _ => rfl) (ev_var (i := 1) rfl) rfl (fun v_item => (ev_callN (ea_cons (ev_op rr_ix (ev_var (i := 0) rfl) ev_int) (ea_cons (ev_var (i := 10) rfl) ea_nil))))) (fun v_downs => (st_asg (i := 6) (fun _ _ => rfl) (ev_lcS1 (fun _ _ => rfl) (ev_var (i := 2) rfl) rfl (fun v_item => (ev_callN (ea_cons (ev_op rr_ix (ev_var (i := 0) rfl) ev_int) (ea_cons (ev_var (i := 10) rfl) ea_nil))))) (fun v_lefts => (st_if (et_not (et_and (et_B (ev_callN (ea_cons (ev_var (i := 8) rfl) (ea_cons (ev_var (i := 5) rfl) ea_nil)))) (et_and (et_B (ev_callN (ea_cons (ev_var (i := 8) rfl) (ea_cons (ev_var (i := 6) rfl) ea_nil)))) (et_B (ev_callN (ea_cons (ev_var (i := 8) rfl) (ea_cons (ev_var (i := 4) rfl) ea_nil))))))) (st_ret ev_non) (st_ret (ev_op rr_ix (ev_op rr_ix (ev_var (i := 8) rfl) ev_negc) ev_negc))))))))))))))) (by simp only [m_row_worth, Tr.ret_bind, Tr.bind_assoc, Tr.bind_ret, asB_bool, asI_int, on1_one, on2g_two, on2_two, on3_three])⟩)
theorem ok_worth_of (T : Txt w K mg) : FnOk P w K mg base CX0 25 T.d_worth_of.f T.d_worth_of.fd ["kind", "v", "w", "paper"] (SpN K 4 (fun ds => match ds with | [v_kind, v_v, v_w, v_paper] => m_worth_of 12 v_kind v_v v_w v_paper | _ => Tr.bad)) := (rk_worth_of T 12).1
theorem sc_packed : FnScope ["parts", "found", "part"] ["parts"] (defScope s_packed) := ⟨rfl, rfl, rfl, by decide +kernel, rfl, by decide +kernel, by decide +kernel⟩
theorem ok_packed (T : Txt w K mg) : FnOk P w K mg base CX0 1 T.d_packed.f T.d_packed.fd ["parts"] (SpN K 1 (fun ds => match ds with | [v_parts] => m_packed v_parts | _ => Tr.bad)) :=
  fn_pure (cl := T.cl) T.d_packed.F sc_packed (fun cdv A outer s H E hr => ⟨_, (pss_cons (ps_set (i := 1) sc_packed.nd rfl (Or.inl rfl) (pe_lst pa_nil)) (pss_cons (ps_for PassesOwn.never rfl (pi_seq (pv 0)) (pg_name (i := 2) sc_packed.nd rfl (Or.inl rfl)) (pss_cons (ps_if (PW.pt (pw_and (pt_cmpR (op_eqP (room64 hr)) (pe_ix ix_seq (pv 2) pe_int (fun _ _ => rfl)) pe_str (nomark _)) (pw_and (pt_truth (pv 1) (fun _ => rfl)) (pw_and1 (pt_cmpR (op_eqP (room64 hr)) (pe_ix ix_seq (pe_ix ix_seq (pv 1) (pe_un un_neg pe_int) (fun _ _ => rfl)) pe_int (fun _ _ => rfl)) pe_str (nomark _)))))) (pss_cons (ps_asg (pe_tupF (pa_cons pe_str (pa_cons (pe_op op_addA (pe_ix ix_seq (pe_ix ix_seq (pv 1) (pe_un un_neg pe_int) (fun _ _ => rfl)) pe_int (fun _ _ => rfl)) (pe_ix ix_seq (pv 2) pe_int (fun _ _ => rfl))) pa_nil))) (pg_sub (pv 1) (pe_un un_neg pe_int) set_list)) pss_nil) (pss_cons (ps_expr (pe_bm PySem.F.plainAttrs_list PySem.F.slot_list_append PySem.F.type_list_append mt_append (pv 1) (pa_cons (pv 2) pa_nil))) pss_nil)) pss_nil)) (pss_cons (ps_ret (pe_callTy call_tupleF (by rfl) T.z_tuple (by decide +kernel) (pa_cons (pv 1) pa_nil))) pss_nil))), fun ds hl => match ds, hl with
      | [v_parts], _ => StG.eq ((st_accNew (fun _ _ => rfl) (i := 1) (fun v_found => (st_forS1n (S1 := PyData) (ρs := fun (x352 : PyData) => [.dat v_parts, .acc (unL x352), .any]) (r := id) (i := 2) (s0 := v_found) (fun _ _ => rfl) (fun _ => rfl) (ev_var (i := 0) rfl) (.same _ (.same _ (.same _ .nil))) (fun _ => rfl) (fun v_part x352 => (st_ifj (S1 := PyData) (ρs := fun (x357 : PyData) => [.dat v_parts, .acc (unL x357), .dat v_part]) (fun _ _ => rfl) (et_and (et_cmp rc_eq (ev_op rr_ix (ev_var (i := 2) rfl) ev_int) ev_str) (et_and (et_own (i := 1) (a := x352) rfl) (et_cmp rc_eq (ev_op rr_ix (ev_ixOwn (i := 1) (a := x352) rfl ev_negc) ev_int) ev_str))) (st_setI (fun _ _ => rfl) (i := 1) (a := x352) rfl (ev_tup (ea_cons ev_str (ea_cons (ev_op rr_add (ev_op rr_ix (ev_ixOwn (i := 1) (a := x352) rfl ev_negc) ev_int) (ev_op rr_ix (ev_var (i := 2) rfl) ev_int)) ea_nil))) ev_negc (fun v_found => (st_nx (b := v_found) (s := v_found) rfl (.same _ (.same _ (.same _ .nil)))))) (st_append (fun _ _ => rfl) (i := 1) (a := x352) rfl (ev_var (i := 2) rfl) (fun v_found => (st_nx (b := v_found) (s := v_found) rfl (.same _ (.same _ (.same _ .nil)))))) (fun x357 => (st_nx (b := x357) (s := x357) rfl (.same _ (.same _ (.any rfl .nil))))))) (fun x352 => (st_freeze (fun _ _ => rfl) (i := 1) rfl (st_ret (ev_cb1 rk_tuple (ev_var (i := 1) rfl))))))))) (by simp only [m_packed, Tr.ret_bind, Tr.bind_assoc, Tr.bind_ret, asB_bool, asI_int, on1_one, on2g_two, on2_two, on3_three])⟩)
theorem sc_check_values : FnScope ["kind", "v", "w"] ["kind", "v", "w"] (defScope s_check_values) := ⟨rfl, rfl, rfl, by decide +kernel, rfl, by decide +kernel, by decide +kernel⟩
theorem ok_check_values (T : Txt w K mg) : FnOk P w K mg base (Cgx.CT P w) 14 T.d_check_values.f T.d_check_values.fd ["kind", "v", "w"] (SpP K T.cl 3 (fun ds => ((fun ds => match ds with | [v_kind, v_v, v_w] => b_check_values v_kind v_v v_w | _ => Tr.bad) ds).bind fun _ => Tr.ret .none)) :=
  fn_raise0 (cl := T.cl) T.d_check_values.F sc_check_values (fun cdv A outer s H E hr => ⟨_, (fun _ => [.any, .any, .any]), (pss_cons (ps_expr (pe_call (ok_check_kind T) (hr.mono (by decide)) (by rfl) T.d_check_kind.g T.d_check_kind.F.kp T.d_check_kind.b .nil (Cgx.lets_call (Cgx.lets_of rfl rfl rfl rfl) (fun _ _ _ _ h => h)) (pa_cons (pv 0) pa_nil))) (pss_cons (ps_if (PW.pt (pw_or (pt_not (pt_val (pe_call (ok_is_value T) (hr.mono (by decide)) (by rfl) T.d_is_value.g T.d_is_value.F.kp T.d_is_value.b .nil pass0 (pa_cons (pv 0) (pa_cons (pv 1) pa_nil))))) (pw_or1 (pt_not (pt_val (pe_call (ok_is_value T) (hr.mono (by decide)) (by rfl) T.d_is_value.g T.d_is_value.F.kp T.d_is_value.b .nil pass0 (pa_cons (pv 0) (pa_cons (pv 2) pa_nil)))))))) (pss_cons (Cgx.ps_raise0 rfl (Cgx.lets_of rfl rfl rfl rfl) T.e_BadValue T.g_BadValue (by rfl)) pss_nil) pss_nil) pss_nil)), fun ds hl => match ds, hl with
      | [v_kind, v_v, v_w], _ => StG.eq ((st_drop (fun _ _ => rfl) (ev_call (ea_cons (ev_var (i := 0) rfl) ea_nil)) (st_if (et_or (et_not (et_B (ev_callX (ea_cons (ev_var (i := 0) rfl) (ea_cons (ev_var (i := 1) rfl) ea_nil))))) (et_not (et_B (ev_callX (ea_cons (ev_var (i := 0) rfl) (ea_cons (ev_var (i := 2) rfl) ea_nil)))))) (st_raise (c := Ek.value)) (st_nx (b := ()) (s := ()) rfl (.any rfl (.any rfl (.any rfl .nil))))))) (by simp only [b_check_values, Tr.ret_bind, Tr.bind_assoc, Tr.bind_ret, asB_bool, asI_int, on1_one, on2g_two, on2_two, on3_three, m_check_kind])⟩)
theorem sc_distance : FnScope ["kind", "v", "w"] ["kind", "v", "w"] (defScope s_distance) := ⟨rfl, rfl, rfl, by decide +kernel, rfl, by decide +kernel, by decide +kernel⟩
theorem ok_distance (T : Txt w K mg) : FnOk P w K mg base (Cgx.CT P w) 25 T.d_distance.f T.d_distance.fd ["kind", "v", "w"] (SpP K T.cl 3 (fun ds => match ds with | [v_kind, v_v, v_w] => m_distance v_kind v_v v_w | _ => Tr.bad)) :=
  fn_raise (cl := T.cl) T.d_distance.F sc_distance (fun cdv A outer s H E hr => ⟨_, (pss_cons (ps_expr (pe_call (ok_check_values T) (hr.mono (by decide)) (by rfl) T.d_check_values.g T.d_check_values.F.kp T.d_check_values.b .nil (Cgx.lets_call (Cgx.lets_of rfl rfl rfl rfl) (fun _ _ _ _ h => h)) (pa_cons (pv 0) (pa_cons (pv 1) (pa_cons (pv 2) pa_nil))))) (pss_cons (ps_ret (pe_call (ok_gap T) (hr.mono (by decide)) (by rfl) T.d_gap.g T.d_gap.F.kp T.d_gap.b .nil pass0 (pa_cons (pv 0) (pa_cons (pv 1) (pa_cons (pv 2) pa_nil))))) pss_nil)), fun ds hl => match ds, hl with
      | [v_kind, v_v, v_w], _ => StG.eq ((st_drop (fun _ _ => rfl) (ev_call (ea_cons (ev_var (i := 0) rfl) (ea_cons (ev_var (i := 1) rfl) (ea_cons (ev_var (i := 2) rfl) ea_nil)))) (st_ret (ev_callX (ea_cons (ev_var (i := 0) rfl) (ea_cons (ev_var (i := 1) rfl) (ea_cons (ev_var (i := 2) rfl) ea_nil))))))) (by simp only [m_distance, Tr.ret_bind, Tr.bind_assoc, Tr.bind_ret, asB_bool, asI_int, on1_one, on2g_two, on2_two, on3_three, m_check_values])⟩)
theorem sc_least_patch : FnScope ["kind", "v", "w", "word", "inner", "a", "b", "item", "d"] ["kind", "v", "w"] (defScope s_least_patch) := ⟨rfl, rfl, rfl, by decide +kernel, rfl, by decide +kernel, by decide +kernel⟩
theorem sc_least_parts : FnScope ["kind", "v", "w", "heights", "x", "y", "parts", "part"] ["kind", "v", "w"] (defScope s_least_parts) := ⟨rfl, rfl, rfl, by decide +kernel, rfl, by decide +kernel, by decide +kernel⟩
theorem sc_last_part : FnScope ["kind", "v", "w", "heights", "x", "y", "here"] ["kind", "v", "w", "heights"] (defScope s_last_part) := ⟨rfl, rfl, rfl, by decide +kernel, rfl, by decide +kernel, by decide +kernel⟩
theorem rk_least_patch (T : Txt w K mg) : ∀ n : Nat, (FnOk P w K mg base CX0 (24 + n) T.d_least_patch.f T.d_least_patch.fd ["kind", "v", "w"] (SpN K 3 (fun ds => match ds with | [v_kind, v_v, v_w] => m_least_patch n v_kind v_v v_w | _ => Tr.bad))) ∧ (FnOk P w K mg base CX0 (24 + n) T.d_least_parts.f T.d_least_parts.fd ["kind", "v", "w"] (SpN K 3 (fun ds => match ds with | [v_kind, v_v, v_w] => m_least_parts n v_kind v_v v_w | _ => Tr.bad))) ∧ (FnOk P w K mg base CX0 (24 + n) T.d_last_part.f T.d_last_part.fd ["kind", "v", "w", "heights"] (SpN K 4 (fun ds => match ds with | [v_kind, v_v, v_w, v_heights] => m_last_part n v_kind v_v v_w v_heights | _ => Tr.bad)))
  | 0 => ⟨fn_never (spN_bad fun ds hl => match ds, hl with | [v_kind, v_v, v_w], _ => by simp only [m_least_patch]), fn_never (spN_bad fun ds hl => match ds, hl with | [v_kind, v_v, v_w], _ => by simp only [m_least_parts]), fn_never (spN_bad fun ds hl => match ds, hl with | [v_kind, v_v, v_w, v_heights], _ => by simp only [m_last_part])⟩
  | n + 1 => by
    have ih := rk_least_patch T n
    have ih_least_patch := ih.1
    have ih_least_parts := ih.2.1
    have ih_last_part := ih.2.2
    refine ⟨?_, ?_, ?_⟩
    · exact fn_pure (cl := T.cl) T.d_least_patch.F sc_least_patch (fun cdv A outer s H E hr => ⟨_, (pss_cons (ps_if (pt_cmpR (op_eqP (room64 hr)) (pv 1) (pv 2) (nomark _)) (pss_cons (ps_ret (pe_glob (v := V.ref T.p_SAME) (by rfl) T.g_SAME rfl)) pss_nil) pss_nil) (pss_cons (ps_set (i := 3) sc_least_patch.nd rfl (Or.inl rfl) (pe_ix ix_seq (pv 0) pe_int (fun _ _ => rfl))) (pss_cons (ps_if (pt_cmpR (op_eqP (room64 hr)) (pv 3) pe_str (nomark _)) (pss_cons (ps_ret (pe_tupF (pa_cons pe_str (pa_cons (pe_callTy call_tupleF (by rfl) T.z_tuple (by decide +kernel) (pa_cons (pe_lc (own := [("inner", 4), ("a", 5), ("b", 6)]) rfl sc_least_patch.nd (pi_zip3 (by rfl) T.z_zip (pa_cons (pe_ix ix_seq (pv 0) pe_int (fun _ _ => rfl)) (pa_cons (pv 1) (pa_cons (pv 2) pa_nil)))) (blkOk_by (N := ["kind", "v", "w", "word", "inner", "a", "b", "item", "d"]) (sc := defScope s_least_patch) (by decide +kernel)) (fun _ _ _ _ _ => pg_tup rfl (pgs_cons (pg_name (i := 4) sc_least_patch.nd rfl (Or.inl rfl)) (pgs_cons (pg_name (i := 5) sc_least_patch.nd rfl (Or.inl rfl)) (pgs_cons (pg_name (i := 6) sc_least_patch.nd rfl (Or.inl rfl)) pgs_nil)))) (fun _ _ _ _ _ => pts_nil) (fun _ _ _ _ _ => (pe_call ih_least_patch (hr.mono (Nat.le_refl _)) (by rfl) T.d_least_patch.g T.d_least_patch.F.kp T.d_least_patch.b .nil pass0 (pa_cons (pv 4) (pa_cons (pv 5) (pa_cons (pv 6) pa_nil)))))) pa_nil)) pa_nil)))) pss_nil) pss_nil) (pss_cons (ps_if (PW.pt (pw_and (pt_cmpR (op_eqP (room64 hr)) (pv 3) pe_str (nomark _)) (pw_and1 (pt_cmpR (op_eqP (room64 hr)) (pe_ix ix_seq (pv 1) pe_int (fun _ _ => rfl)) (pe_ix ix_seq (pv 2) pe_int (fun _ _ => rfl)) (nomark _))))) (pss_cons (ps_ret (pe_tupF (pa_cons pe_str (pa_cons (pe_ix ix_seq (pv 1) pe_int (fun _ _ => rfl)) (pa_cons (pe_call ih_least_patch (hr.mono (Nat.le_refl _)) (by rfl) T.d_least_patch.g T.d_least_patch.F.kp T.d_least_patch.b .nil pass0 (pa_cons (pe_ix ix_seq (pe_ix ix_seq (pv 0) pe_int (fun _ _ => rfl)) (pe_ix ix_seq (pv 1) pe_int (fun _ _ => rfl)) (fun _ _ => rfl)) (pa_cons (pe_ix ix_seq (pv 1) pe_int (fun _ _ => rfl)) (pa_cons (pe_ix ix_seq (pv 2) pe_int (fun _ _ => rfl)) pa_nil)))) pa_nil))))) pss_nil) pss_nil) (pss_cons (ps_if (pt_cmpR (op_eqP (room64 hr)) (pv 3) pe_str (nomark _)) (pss_cons (ps_ret (pe_tupF (pa_cons pe_str (pa_cons (pe_call ih_least_parts (hr.mono (Nat.le_refl _)) (by rfl) T.d_least_parts.g T.d_least_parts.F.kp T.d_least_parts.b .nil pass0 (pa_cons (pe_ix ix_seq (pv 0) pe_int (fun _ _ => rfl)) (pa_cons (pv 1) (pa_cons (pv 2) pa_nil)))) pa_nil)))) pss_nil) pss_nil) (pss_cons (ps_if (pt_cmpR (op_eqP (room64 hr)) (pv 3) pe_str (nomark _)) (pss_cons (ps_ret (pe_tupF (pa_cons pe_str (pa_cons (pe_callTy call_tupleF (by rfl) T.z_tuple (by decide +kernel) (pa_cons (pe_lc (own := [("item", 7), ("d", 8)]) rfl sc_least_patch.nd (pi_seq pe_never) (blkOk_by (N := ["kind", "v", "w", "word", "inner", "a", "b", "item", "d"]) (sc := defScope s_least_patch) (by decide +kernel)) (fun _ _ _ _ _ => pg_tup rfl (pgs_cons (pg_name (i := 7) sc_least_patch.nd rfl (Or.inl rfl)) (pgs_cons (pg_name (i := 8) sc_least_patch.nd rfl (Or.inl rfl)) pgs_nil))) (fun _ _ _ _ _ => pts_nil) (fun _ _ _ _ _ => (pe_tupF (pa_cons (pv 7) (pa_cons (pe_ifExp (pt_cmpR op_gt (pv 8) pe_int (nomark _)) pe_str pe_str) pa_nil))))) pa_nil)) pa_nil)))) pss_nil) pss_nil) (pss_cons (ps_if (pt_cmpR (op_eqP (room64 hr)) (pv 3) pe_str (nomark _)) (pss_cons (ps_ret (pe_tupF (pa_cons pe_str (pa_cons (pe_callTy call_tupleF (by rfl) T.z_tuple (by decide +kernel) (pa_cons (pe_lc (own := [("item", 7), ("d", 8)]) rfl sc_least_patch.nd (pi_seq pe_never) (blkOk_by (N := ["kind", "v", "w", "word", "inner", "a", "b", "item", "d"]) (sc := defScope s_least_patch) (by decide +kernel)) (fun _ _ _ _ _ => pg_tup rfl (pgs_cons (pg_name (i := 7) sc_least_patch.nd rfl (Or.inl rfl)) (pgs_cons (pg_name (i := 8) sc_least_patch.nd rfl (Or.inl rfl)) pgs_nil))) (fun _ _ _ _ _ => pts_nil) (fun _ _ _ _ _ => (pe_tupF (pa_cons (pv 7) (pa_cons (pe_callB (call_max2 rfl) (by rfl) T.z_max (by decide +kernel) (pa_cons pe_int (pa_cons (pe_un un_neg (pv 8)) pa_nil))) (pa_cons (pv 8) pa_nil)))))) pa_nil)) pa_nil)))) pss_nil) pss_nil) (pss_cons (ps_if (pt_cmpR (op_eqP (room64 hr)) (pv 3) pe_str (nomark _)) (pss_cons (ps_ret (pe_tupF (pa_cons pe_str (pa_cons pe_never pa_nil)))) pss_nil) pss_nil) (pss_cons (ps_ret (pe_tupF (pa_cons pe_str (pa_cons (pv 1) (pa_cons (pv 2) pa_nil))))) pss_nil))))))))), fun ds hl => match ds, hl with
          | [v_kind, v_v, v_w], _ => StG.eq ((st_if (et_cmp rc_eq (ev_var (i := 1) rfl) (ev_var (i := 2) rfl)) (st_ret (ev_gt T.gt_SAME (fun _ => (.cons (.str _) .nil)))) (st_asg (i := 3) (fun _ _ => rfl) (ev_op rr_ix (ev_var (i := 0) rfl) ev_int) (fun v_word => (st_if (et_cmp rc_eq (ev_var (i := 3) rfl) ev_str) (st_ret (ev_tup (ea_cons ev_str (ea_cons (ev_cb1 rk_tuple (ev_lcZ3 (fun _ _ => rfl) (ev_op rr_ix (ev_var (i := 0) rfl) ev_int) (ev_var (i := 1) rfl) (ev_var (i := 2) rfl) rfl (fun v_inner v_a v_b => (ev_callN (ea_cons (ev_var (i := 4) rfl) (ea_cons (ev_var (i := 5) rfl) (ea_cons (ev_var (i := 6) rfl) ea_nil))))))) ea_nil)))) (st_if (et_and (et_cmp rc_eq (ev_var (i := 3) rfl) ev_str) (et_cmp rc_eq (ev_op rr_ix (ev_var (i := 1) rfl) ev_int) (ev_op rr_ix (ev_var (i := 2) rfl) ev_int))) (st_ret (ev_tup (ea_cons ev_str (ea_cons (ev_op rr_ix (ev_var (i := 1) rfl) ev_int) (ea_cons (ev_callN (ea_cons (ev_op rr_ix (ev_op rr_ix (ev_var (i := 0) rfl) ev_int) (ev_op rr_ix (ev_var (i := 1) rfl) ev_int)) (ea_cons (ev_op rr_ix (ev_var (i := 1) rfl) ev_int) (ea_cons (ev_op rr_ix (ev_var (i := 2) rfl) ev_int) ea_nil)))) ea_nil))))) (st_if (et_cmp rc_eq (ev_var (i := 3) rfl) ev_str) (st_ret (ev_tup (ea_cons ev_str (ea_cons (ev_callN (ea_cons (ev_op rr_ix (ev_var (i := 0) rfl) ev_int) (ea_cons (ev_var (i := 1) rfl) (ea_cons (ev_var (i := 2) rfl) ea_nil)))) ea_nil)))) (st_if (et_cmp rc_eq (ev_var (i := 3) rfl) ev_str) (st_ret (ev_tup (ea_cons ev_str (ea_cons (ev_cb1 rk_tuple (ev_lcS2 (fun _ _ => rfl) ev_never rfl (fun v_item v_d => (ev_tup (ea_cons (ev_var (i := 7) rfl) (ea_cons (ev_if (et_cmp rc_gt (ev_var (i := 8) rfl) ev_int) ev_str ev_str) ea_nil)))))) ea_nil)))) (st_if (et_cmp rc_eq (ev_var (i := 3) rfl) ev_str) (st_ret (ev_tup (ea_cons ev_str (ea_cons (ev_cb1 rk_tuple (ev_lcS2 (fun _ _ => rfl) ev_never rfl (fun v_item v_d => (ev_tup (ea_cons (ev_var (i := 7) rfl) (ea_cons (ev_cb rk_max2 (ea_cons ev_int (ea_cons (ev_neg (ev_var (i := 8) rfl)) ea_nil))) (ea_cons (ev_var (i := 8) rfl) ea_nil))))))) ea_nil)))) (st_if (et_cmp rc_eq (ev_var (i := 3) rfl) ev_str) (st_ret (ev_tup (ea_cons ev_str (ea_cons ev_never ea_nil)))) (st_ret (ev_tup (ea_cons ev_str (ea_cons (ev_var (i := 1) rfl) (ea_cons (ev_var (i := 2) rfl) ea_nil))))))))))))))) (by simp only [m_least_patch, Tr.ret_bind, Tr.bind_assoc, Tr.bind_ret, asB_bool, asI_int, on1_one, on2g_two, on2_two, on3_three])⟩)
    · exact fn_pure (cl := T.cl) T.d_least_parts.F sc_least_parts (fun cdv A outer s H E hr => ⟨_, (pss_cons (ps_set (i := 3) sc_least_parts.nd rfl (Or.inl rfl) (pe_call (ok_climb T) (hr.mono (Nat.le_trans (by decide : 24 ≤ 24) (Nat.le_add_right 24 _))) (by rfl) T.d_climb.g T.d_climb.F.kp T.d_climb.b .nil pass0 (pa_cons (pv 0) (pa_cons (pv 1) (pa_cons (pv 2) pa_nil))))) (pss_cons (ps_set (i := 4) sc_least_parts.nd rfl (Or.inl rfl) (pe_callB call_len_seq (by rfl) T.z_len (by decide +kernel) (pa_cons (pv 1) pa_nil))) (pss_cons (ps_set (i := 5) sc_least_parts.nd rfl (Or.inl rfl) (pe_callB call_len_seq (by rfl) T.z_len (by decide +kernel) (pa_cons (pv 2) pa_nil))) (pss_cons (ps_set (i := 6) sc_least_parts.nd rfl (Or.inl rfl) (pe_lst pa_nil)) (pss_cons (ps_while PassesOwn.never (PW.pt (pw_or (pt_cmpR op_gt (pv 4) pe_int (nomark _)) (pw_or1 (pt_cmpR op_gt (pv 5) pe_int (nomark _))))) (pss_cons (ps_set (i := 7) sc_least_parts.nd rfl (Or.inl rfl) (pe_call ih_last_part (hr.mono (Nat.le_refl _)) (by rfl) T.d_last_part.g T.d_last_part.F.kp T.d_last_part.b .nil pass0 (pa_cons (pv 0) (pa_cons (pe_slice sl_P (pv 1) po_none (po_some (pv 4))) (pa_cons (pe_slice sl_P (pv 2) po_none (po_some (pv 5))) (pa_cons (pv 3) pa_nil)))))) (pss_cons (ps_expr (pe_bm PySem.F.plainAttrs_list PySem.F.slot_list_append PySem.F.type_list_append mt_append (pv 6) (pa_cons (pv 7) pa_nil))) (pss_cons (ps_if (pt_cmpR (op_neP (room64 hr)) (pe_ix ix_seq (pv 7) pe_int (fun _ _ => rfl)) pe_str (nomark _)) (pss_cons (ps_aug (i := 4) sc_least_parts.nd rfl (Or.inl rfl) pe_int ip_sub) pss_nil) pss_nil) (pss_cons (ps_if (pt_cmpR (op_neP (room64 hr)) (pe_ix ix_seq (pv 7) pe_int (fun _ _ => rfl)) pe_str (nomark _)) (pss_cons (ps_aug (i := 5) sc_least_parts.nd rfl (Or.inl rfl) pe_int ip_sub) pss_nil) pss_nil) pss_nil))))) (pss_cons (ps_expr (pe_bm0 PySem.F.plainAttrs_list PySem.F.slot_list_reverse PySem.F.type_list_reverse mt_reverse (pv 6))) (pss_cons (ps_ret (pe_call (ok_packed T) (hr.mono (Nat.le_trans (by decide : 1 ≤ 24) (Nat.le_add_right 24 _))) (by rfl) T.d_packed.g T.d_packed.F.kp T.d_packed.b .nil pass0 (pa_cons (pv 6) pa_nil))) pss_nil))))))), fun ds hl => match ds, hl with
          | [v_kind, v_v, v_w], _ => StG.eq ((st_asg (i := 3) (fun _ _ => rfl) (ev_callN (ea_cons (ev_var (i := 0) rfl) (ea_cons (ev_var (i := 1) rfl) (ea_cons (ev_var (i := 2) rfl) ea_nil)))) (fun v_heights => (st_asg (i := 4) (fun _ _ => rfl) (ev_cb1 rk_len (ev_var (i := 1) rfl)) (fun v_x => (st_asg (i := 5) (fun _ _ => rfl) (ev_cb1 rk_len (ev_var (i := 2) rfl)) (fun v_y => (st_accNew (fun _ _ => rfl) (i := 6) (fun v_parts => (st_while (S1 := PyData × PyData × PyData) (ρs := fun (x412 : PyData × PyData × PyData) => [.dat v_kind, .dat v_v, .dat v_w, .dat v_heights, .dat x412.2.1, .dat x412.2.2, .acc (unL x412.1), .any]) (r := id) (s0 := (v_parts, v_x, v_y)) (fun _ _ => rfl) (fun _ => rfl) (.same _ (.same _ (.same _ (.same _ (.same _ (.same _ (.same _ (.same _ .nil)))))))) (fun x412 => (et_or (et_cmp rc_gt (ev_var (i := 4) rfl) ev_int) (et_cmp rc_gt (ev_var (i := 5) rfl) ev_int))) (fun x412 => (st_asg (i := 7) (fun _ _ => rfl) (ev_callN (ea_cons (ev_var (i := 0) rfl) (ea_cons (ev_sl rs_P (ev_var (i := 1) rfl) eo_none (eo_some (ev_var (i := 4) rfl))) (ea_cons (ev_sl rs_P (ev_var (i := 2) rfl) eo_none (eo_some (ev_var (i := 5) rfl))) (ea_cons (ev_var (i := 3) rfl) ea_nil))))) (fun v_part => (st_append (fun _ _ => rfl) (i := 6) (a := x412.1) rfl (ev_var (i := 7) rfl) (fun v_parts => (st_ifj (S1 := PyData) (ρs := fun (x419 : PyData) => [.dat v_kind, .dat v_v, .dat v_w, .dat v_heights, .dat x419, .dat x412.2.2, .acc (unL v_parts), .dat v_part]) (fun _ _ => rfl) (et_cmp rc_ne (ev_op rr_ix (ev_var (i := 7) rfl) ev_int) ev_str) (st_aug (i := 4) (op := fun i j => i - j) (fun _ _ => rfl) rfl ev_int (fun v_x => (st_nx (b := v_x) (s := v_x) rfl (.same _ (.same _ (.same _ (.same _ (.same _ (.same _ (.same _ (.same _ .nil))))))))))) (st_nx (b := x412.2.1) (s := x412.2.1) rfl (.same _ (.same _ (.same _ (.same _ (.same _ (.same _ (.same _ (.same _ .nil))))))))) (fun x419 => (st_ifj (S1 := PyData) (ρs := fun (x421 : PyData) => [.dat v_kind, .dat v_v, .dat v_w, .dat v_heights, .dat x419, .dat x421, .acc (unL v_parts), .dat v_part]) (fun _ _ => rfl) (et_cmp rc_ne (ev_op rr_ix (ev_var (i := 7) rfl) ev_int) ev_str) (st_aug (i := 5) (op := fun i j => i - j) (fun _ _ => rfl) rfl ev_int (fun v_y => (st_nx (b := v_y) (s := v_y) rfl (.same _ (.same _ (.same _ (.same _ (.same _ (.same _ (.same _ (.same _ .nil))))))))))) (st_nx (b := x412.2.2) (s := x412.2.2) rfl (.same _ (.same _ (.same _ (.same _ (.same _ (.same _ (.same _ (.same _ .nil))))))))) (fun x421 => (st_nx (b := Ct.nx (v_parts, x419, x421)) (s := (v_parts, x419, x421)) rfl (.same _ (.same _ (.same _ (.same _ (.same _ (.same _ (.same _ (.any rfl .nil)))))))))))))))))) (fun x412 => (st_reverse (fun _ _ => rfl) (i := 6) (a := x412.1) rfl (fun v_parts => (st_freeze (fun _ _ => rfl) (i := 6) rfl (st_ret (ev_callN (ea_cons (ev_var (i := 6) rfl) ea_nil))))))) 20000)))))))))) (by simp only [m_least_parts, Tr.ret_bind, Tr.bind_assoc, Tr.bind_ret, asB_bool, asI_int, on1_one, on2g_two, on2_two, on3_three])⟩)
    · exact fn_pure (cl := T.cl) T.d_last_part.F sc_last_part (fun cdv A outer s H E hr => ⟨_, (pss_cons (ps_set (i := 4) sc_last_part.nd rfl (Or.inl rfl) (pe_callB call_len_seq (by rfl) T.z_len (by decide +kernel) (pa_cons (pv 1) pa_nil))) (pss_cons (ps_set (i := 5) sc_last_part.nd rfl (Or.inl rfl) (pe_callB call_len_seq (by rfl) T.z_len (by decide +kernel) (pa_cons (pv 2) pa_nil))) (pss_cons (ps_set (i := 6) sc_last_part.nd rfl (Or.inl rfl) (pe_ix ix_seq (pe_ix ix_seq (pv 3) (pv 4) (fun _ _ => rfl)) (pv 5) (fun _ _ => rfl))) (pss_cons (ps_if (PW.pt (pw_and (pt_cmpR op_gt (pv 4) pe_int (nomark _)) (pw_and (pt_cmpR op_gt (pv 5) pe_int (nomark _)) (pw_and1 (pt_cmpR (op_eqP (room64 hr)) (pv 6) (pe_op op_addA (pe_ix ix_seq (pe_ix ix_seq (pv 3) (pe_op op_sub (pv 4) pe_int) (fun _ _ => rfl)) (pe_op op_sub (pv 5) pe_int) (fun _ _ => rfl)) (pe_call (ok_gap T) (hr.mono (Nat.le_trans (by decide : 24 ≤ 24) (Nat.le_add_right 24 _))) (by rfl) T.d_gap.g T.d_gap.F.kp T.d_gap.b .nil pass0 (pa_cons (pv 0) (pa_cons (pe_ix ix_seq (pv 1) (pe_un un_neg pe_int) (fun _ _ => rfl)) (pa_cons (pe_ix ix_seq (pv 2) (pe_un un_neg pe_int) (fun _ _ => rfl)) pa_nil))))) (nomark _)))))) (pss_cons (ps_ret (pe_ifExp (pt_cmpR (op_eqP (room64 hr)) (pe_ix ix_seq (pv 1) (pe_un un_neg pe_int) (fun _ _ => rfl)) (pe_ix ix_seq (pv 2) (pe_un un_neg pe_int) (fun _ _ => rfl)) (nomark _)) (pe_glob (v := V.ref T.p_KEEP) (by rfl) T.g_KEEP rfl) (pe_tupF (pa_cons pe_str (pa_cons (pe_call ih_least_patch (hr.mono (Nat.le_refl _)) (by rfl) T.d_least_patch.g T.d_least_patch.F.kp T.d_least_patch.b .nil pass0 (pa_cons (pv 0) (pa_cons (pe_ix ix_seq (pv 1) (pe_un un_neg pe_int) (fun _ _ => rfl)) (pa_cons (pe_ix ix_seq (pv 2) (pe_un un_neg pe_int) (fun _ _ => rfl)) pa_nil)))) pa_nil))))) pss_nil) pss_nil) (pss_cons (ps_if (PW.pt (pw_and (pt_cmpR op_gt (pv 4) pe_int (nomark _)) (pw_and1 (pt_cmpR (op_eqP (room64 hr)) (pv 6) (pe_op op_addA (pe_ix ix_seq (pe_ix ix_seq (pv 3) (pe_op op_sub (pv 4) pe_int) (fun _ _ => rfl)) (pv 5) (fun _ _ => rfl)) (pe_call (ok_heft T) (hr.mono (Nat.le_trans (by decide : 12 ≤ 24) (Nat.le_add_right 24 _))) (by rfl) T.d_heft.g T.d_heft.F.kp T.d_heft.b .nil pass0 (pa_cons (pv 0) (pa_cons (pe_ix ix_seq (pv 1) (pe_un un_neg pe_int) (fun _ _ => rfl)) pa_nil)))) (nomark _))))) (pss_cons (ps_ret (pe_tupF (pa_cons pe_str (pa_cons (pe_ix ix_seq (pv 1) (pe_un un_neg pe_int) (fun _ _ => rfl)) pa_nil)))) pss_nil) pss_nil) (pss_cons (ps_ret (pe_tupF (pa_cons pe_str (pa_cons (pe_ix ix_seq (pv 2) (pe_un un_neg pe_int) (fun _ _ => rfl)) pa_nil)))) pss_nil)))))), fun ds hl => match ds, hl with
          | [v_kind, v_v, v_w, v_heights], _ => StG.eq ((st_asg (i := 4) (fun _ _ => rfl) (ev_cb1 rk_len (ev_var (i := 1) rfl)) (fun v_x => (st_asg (i := 5) (fun _ _ => rfl) (ev_cb1 rk_len (ev_var (i := 2) rfl)) (fun v_y => (st_asg (i := 6) (fun _ _ => rfl) (ev_op rr_ix (ev_op rr_ix (ev_var (i := 3) rfl) (ev_var (i := 4) rfl)) (ev_var (i := 5) rfl)) (fun v_here => (st_if (et_and (et_cmp rc_gt (ev_var (i := 4) rfl) ev_int) (et_and (et_cmp rc_gt (ev_var (i := 5) rfl) ev_int) (et_cmp rc_eq (ev_var (i := 6) rfl) (ev_op rr_add (ev_op rr_ix (ev_op rr_ix (ev_var (i := 3) rfl) (ev_op rr_sub (ev_var (i := 4) rfl) ev_int)) (ev_op rr_sub (ev_var (i := 5) rfl) ev_int)) (ev_callN (ea_cons (ev_var (i := 0) rfl) (ea_cons (ev_op rr_ix (ev_var (i := 1) rfl) ev_negc) (ea_cons (ev_op rr_ix (ev_var (i := 2) rfl) ev_negc) ea_nil)))))))) (st_ret (ev_if (et_cmp rc_eq (ev_op rr_ix (ev_var (i := 1) rfl) ev_negc) (ev_op rr_ix (ev_var (i := 2) rfl) ev_negc)) (ev_gt T.gt_KEEP (fun _ => (.cons (.str _) (.cons (.int _) .nil)))) (ev_tup (ea_cons ev_str (ea_cons (ev_callN (ea_cons (ev_var (i := 0) rfl) (ea_cons (ev_op rr_ix (ev_var (i := 1) rfl) ev_negc) (ea_cons (ev_op rr_ix (ev_var (i := 2) rfl) ev_negc) ea_nil)))) ea_nil))))) (st_if (et_and (et_cmp rc_gt (ev_var (i := 4) rfl) ev_int) (et_cmp rc_eq (ev_var (i := 6) rfl) (ev_op rr_add (ev_op rr_ix (ev_op rr_ix (ev_var (i := 3) rfl) (ev_op rr_sub (ev_var (i := 4) rfl) ev_int)) (ev_var (i := 5) rfl)) (ev_callN (ea_cons (ev_var (i := 0) rfl) (ea_cons (ev_op rr_ix (ev_var (i := 1) rfl) ev_negc) ea_nil)))))) (st_ret (ev_tup (ea_cons ev_str (ea_cons (ev_op rr_ix (ev_var (i := 1) rfl) ev_negc) ea_nil)))) (st_ret (ev_tup (ea_cons ev_str (ea_cons (ev_op rr_ix (ev_var (i := 2) rfl) ev_negc) ea_nil))))))))))))) (by simp only [m_last_part, Tr.ret_bind, Tr.bind_assoc, Tr.bind_ret, asB_bool, asI_int, on1_one, on2g_two, on2_two, on3_three])⟩)
theorem ok_least_patch (T : Txt w K mg) : FnOk P w K mg base CX0 36 T.d_least_patch.f T.d_least_patch.fd ["kind", "v", "w"] (SpN K 3 (fun ds => match ds with | [v_kind, v_v, v_w] => m_least_patch 12 v_kind v_v v_w | _ => Tr.bad)) := (rk_least_patch T 12).1
theorem sc_least : FnScope ["kind", "v", "w"] ["kind", "v", "w"] (defScope s_least) := ⟨rfl, rfl, rfl, by decide +kernel, rfl, by decide +kernel, by decide +kernel⟩
theorem ok_least (T : Txt w K mg) : FnOk P w K mg base (Cgx.CT P w) 37 T.d_least.f T.d_least.fd ["kind", "v", "w"] (SpP K T.cl 3 (fun ds => match ds with | [v_kind, v_v, v_w] => m_least v_kind v_v v_w | _ => Tr.bad)) :=
  fn_raise (cl := T.cl) T.d_least.F sc_least (fun cdv A outer s H E hr => ⟨_, (pss_cons (ps_expr (pe_call (ok_check_values T) (hr.mono (by decide)) (by rfl) T.d_check_values.g T.d_check_values.F.kp T.d_check_values.b .nil (Cgx.lets_call (Cgx.lets_of rfl rfl rfl rfl) (fun _ _ _ _ h => h)) (pa_cons (pv 0) (pa_cons (pv 1) (pa_cons (pv 2) pa_nil))))) (pss_cons (ps_ret (pe_call (ok_least_patch T) (hr.mono (by decide)) (by rfl) T.d_least_patch.g T.d_least_patch.F.kp T.d_least_patch.b .nil pass0 (pa_cons (pv 0) (pa_cons (pv 1) (pa_cons (pv 2) pa_nil))))) pss_nil)), fun ds hl => match ds, hl with
      | [v_kind, v_v, v_w], _ => StG.eq ((st_drop (fun _ _ => rfl) (ev_call (ea_cons (ev_var (i := 0) rfl) (ea_cons (ev_var (i := 1) rfl) (ea_cons (ev_var (i := 2) rfl) ea_nil)))) (st_ret (ev_callX (ea_cons (ev_var (i := 0) rfl) (ea_cons (ev_var (i := 1) rfl) (ea_cons (ev_var (i := 2) rfl) ea_nil))))))) (by simp only [m_least, Tr.ret_bind, Tr.bind_assoc, Tr.bind_ret, asB_bool, asI_int, on1_one, on2g_two, on2_two, on3_three, m_check_values])⟩)
theorem sc_bound : FnScope ["kind", "v", "w"] ["kind", "v", "w"] (defScope s_bound) := ⟨rfl, rfl, rfl, by decide +kernel, rfl, by decide +kernel, by decide +kernel⟩
theorem ok_bound (T : Txt w K mg) : FnOk P w K mg base (Cgx.CT P w) 37 T.d_bound.f T.d_bound.fd ["kind", "v", "w"] (SpP K T.cl 3 (fun ds => match ds with | [v_kind, v_v, v_w] => m_bound v_kind v_v v_w | _ => Tr.bad)) :=
  fn_raise (cl := T.cl) T.d_bound.F sc_bound (fun cdv A outer s H E hr => ⟨_, (pss_cons (ps_expr (pe_call (ok_check_values T) (hr.mono (by decide)) (by rfl) T.d_check_values.g T.d_check_values.F.kp T.d_check_values.b .nil (Cgx.lets_call (Cgx.lets_of rfl rfl rfl rfl) (fun _ _ _ _ h => h)) (pa_cons (pv 0) (pa_cons (pv 1) (pa_cons (pv 2) pa_nil))))) (pss_cons (ps_ret (pe_call (ok_paper_of T) (hr.mono (by decide)) (by rfl) T.d_paper_of.g T.d_paper_of.F.kp T.d_paper_of.b .nil pass0 (pa_cons (pv 0) (pa_cons (pv 1) (pa_cons (pv 2) pa_nil))))) pss_nil)), fun ds hl => match ds, hl with
      | [v_kind, v_v, v_w], _ => StG.eq ((st_drop (fun _ _ => rfl) (ev_call (ea_cons (ev_var (i := 0) rfl) (ea_cons (ev_var (i := 1) rfl) (ea_cons (ev_var (i := 2) rfl) ea_nil)))) (st_ret (ev_callX (ea_cons (ev_var (i := 0) rfl) (ea_cons (ev_var (i := 1) rfl) (ea_cons (ev_var (i := 2) rfl) ea_nil))))))) (by simp only [m_bound, Tr.ret_bind, Tr.bind_assoc, Tr.bind_ret, asB_bool, asI_int, on1_one, on2g_two, on2_two, on3_three, m_check_values])⟩)
theorem sc_worth : FnScope ["kind", "v", "w", "paper"] ["kind", "v", "w", "paper"] (defScope s_worth) := ⟨rfl, rfl, rfl, by decide +kernel, rfl, by decide +kernel, by decide +kernel⟩
theorem ok_worth (T : Txt w K mg) : FnOk P w K mg base (Cgx.CT P w) 26 T.d_worth.f T.d_worth.fd ["kind", "v", "w", "paper"] (SpP K T.cl 4 (fun ds => match ds with | [v_kind, v_v, v_w, v_paper] => m_worth v_kind v_v v_w v_paper | _ => Tr.bad)) :=
  fn_raise (cl := T.cl) T.d_worth.F sc_worth (fun cdv A outer s H E hr => ⟨_, (pss_cons (ps_expr (pe_call (ok_check_values T) (hr.mono (by decide)) (by rfl) T.d_check_values.g T.d_check_values.F.kp T.d_check_values.b .nil (Cgx.lets_call (Cgx.lets_of rfl rfl rfl rfl) (fun _ _ _ _ h => h)) (pa_cons (pv 0) (pa_cons (pv 1) (pa_cons (pv 2) pa_nil))))) (pss_cons (ps_ret (pe_call (ok_worth_of T) (hr.mono (by decide)) (by rfl) T.d_worth_of.g T.d_worth_of.F.kp T.d_worth_of.b .nil pass0 (pa_cons (pv 0) (pa_cons (pv 1) (pa_cons (pv 2) (pa_cons (pv 3) pa_nil)))))) pss_nil)), fun ds hl => match ds, hl with
      | [v_kind, v_v, v_w, v_paper], _ => StG.eq ((st_drop (fun _ _ => rfl) (ev_call (ea_cons (ev_var (i := 0) rfl) (ea_cons (ev_var (i := 1) rfl) (ea_cons (ev_var (i := 2) rfl) ea_nil)))) (st_ret (ev_callX (ea_cons (ev_var (i := 0) rfl) (ea_cons (ev_var (i := 1) rfl) (ea_cons (ev_var (i := 2) rfl) (ea_cons (ev_var (i := 3) rfl) ea_nil)))))))) (by simp only [m_worth, Tr.ret_bind, Tr.bind_assoc, Tr.bind_ret, asB_bool, asI_int, on1_one, on2g_two, on2_two, on3_three, m_check_values])⟩)
theorem sc_box : FnScope ["script", "x"] ["script"] (defScope s__law_box) := ⟨rfl, rfl, rfl, by decide +kernel, rfl, by decide +kernel, by decide +kernel⟩
theorem ok__law_box (T : Txt w K mg) : FnOk P w K mg base CX0 1 T.d__law_box.f T.d__law_box.fd ["script"] (SpMk K) := by
  refine T.d__law_box.F.ok sc_box (fun vs H Q E h => ?_) fun cdv A outer s H vs Q E hr h => ?_
  · obtain ⟨v, ns, G, rfl, _⟩ := h
    rfl
  · obtain ⟨v, ns, G, rfl, r, e, h⟩ := h
    refine ⟨_, pss_one (ps_ret (pe_lst (pa_cons pe_int (pa_cons pe_int (pa_cons pe_int (pa_cons
      (pe_lc (own := [("x", 1)]) (g := gName 1) (tt := tYes) rfl sc_box.nd (pi_seq (pv 0)) (blkOk_by (N := ["script", "x"]) (sc := defScope s__law_box) (by decide +kernel)) (fun _ _ _ _ _ => pg_name (i := 1) sc_box.nd rfl (Or.inl rfl)) (fun _ _ _ _ _ => pts_nil)
        (fun _ _ _ _ _ => pe_callB call_abs (by rfl) T.z_abs (by decide +kernel) (pa_cons (pe_callTy call_int1 (by rfl) T.z_int (by decide +kernel) (pa_cons (pv 1) pa_nil)) pa_nil)))
      pa_nil)))))), ?_⟩
    have S : Sta K G H [.dat (.list (ns.map PyData.int)), .any] (L2.start ["script", "x"] [v]) := sta_start (N := ["script", "x"]) (ds := [.list (ns.map PyData.int)]) (.cons r .nil) e (by show 1 ≤ 2; decide)
    have ev := ev_lcS1 (K := K) (cl := fun _ => 0) (E := fun _ => none) (ρ := [.dat (.list (ns.map PyData.int)), .any]) (i := 1) (fun _ _ => rfl) (ev_var (i := 0) rfl) rfl (fun d => ev_cb1 rk_abs (ev_cb1 rk_int (ev_var (i := 1) rfl)))
    refine (show tLc (iSeq K (tVar 0)) (gName 1) tYes (tCB _ (tCons (tCB _ (tCons (tVar 1) tNil)) tNil)) [1] (L2.start ["script", "x"] [v]) H (fun x H1 => ([V.int 0, V.int 0, V.int 0, x] : List V).length ≤ sizeLine ∧ ∀ p, H1 p = none → Q (.ref p) (upd H1 p (.lst [V.int 0, V.int 0, V.int 0, x]))) from ?_)
    refine ev G H _ S _ ?_
    have em : mapT (fun d => ((Tr.ret d).bind dInt).bind dAbs) (ns.map PyData.int) = .ret ((ns.map fun i => if i < 0 then -i else i).map PyData.int) := mapT_ints (g := fun i => if i < 0 then -i else i) (fun i => rfl) ns
    show ((mapT (fun d => ((Tr.ret d).bind dInt).bind dAbs) (ns.map PyData.int)).bind fun ys => Tr.ret (PyData.list ys)).wp _ _
    rw [em]
    intro x G1 H1 g1 S1 rx
    have no : ∀ a, Owns [.dat (.list (ns.map PyData.int)), .any] (L2.start ["script", "x"] [v]) a → False := fun a z => owns_start (n := 2) (ds := [.list (ns.map PyData.int)]) z
    have g1' : Gr (fun _ => False) G H G1 H1 := g1.less fun a z => no a z
    cases rx with
    | @lst c xs ds hs hl ha =>
      have exs := ha.ints
      subst exs
      refine ⟨by show 4 ≤ sizeLine; decide, fun p hp => ?_⟩
      have hHp : H p = none := by
        cases q : H p with
        | none => rfl
        | some o =>
          rw [g1'.fr p o id q] at hp
          cases hp
      refine h p G1 _ (g1'.trans' ⟨Ex.refl _, fun _ _ _ h => h, fun a o _ ha => by rw [upd_ne (ne_of_none ha hp)]; exact ha, fun a hn => by rw [upd_ne (fun z => hn (by rw [z]; exact hp))]; exact hn⟩) (fun a o ha => ?_) hHp ⟨S1.sub.back hp, 0, 0, 0, c, _, upd_same, hs, Int.le_refl 0⟩
      rw [upd_ne (ne_of_none (S1.sub a o ha) hp)]
      exact S1.sub a o ha
theorem sc_take : FnScope ["box", "m", "at", "cell", "told"] ["box", "m"] (defScope s__law_take) := ⟨rfl, rfl, rfl, by decide +kernel, rfl, by decide +kernel, by decide +kernel⟩
theorem ok__law_take (T : Txt w K mg) : FnOk P w K mg base CX0 1 T.d__law_take.f T.d__law_take.fd ["box", "m"] (SpB K 1 (on1 takeT)) := by
  refine T.d__law_take.F.ok sc_take (fun vs H Q E h => h.len) fun cdv A outer s H vs Q E hr h => ?_
  obtain ⟨b, ws, ds, G, rfl, ⟨gb, cell, k, at0, c, ns, hb, hc, h0⟩, r, hl, e, h⟩ := h
  match ds, hl with
  | [d], _ =>
  cases r with
  | cons r rt =>
  cases rt
  cases r with
  | int m =>
    have h' : (if 1 ≤ m ∧ m < 1073741824 then Tr.draw m.toNat fun i => Tr.ret (PyData.int (i : Int)) else .bad).wp (fun d => ∀ v G' H', Gr (fun a => a = b) G H G' H' → Ex G' H' → BoxOk K G' H' b → Rp K G' v d → Q v H') (fun _ => False) := h
    split at h'
    · rename_i hm
      have ex : ∀ o, Ex G (upd H b o) := fun o a u ha => by
        rw [upd_ne (fun z => by rw [z, gb] at ha; cases ha)]
        exact e a u ha
      have sq : ∀ o, SqL K (upd H b o) c (ns.map V.int) := fun o => (ex o).l hc
      have fin : ∀ (t x y z : Int), 0 ≤ t → t < m → 0 ≤ z → Q (.int t) (upd H b (.lst [.int x, .int y, .int z, .ref c])) := fun t x y z h1 h2 h3 => by
        have q := h' t.toNat (by omega) (.int t) G (upd H b (.lst [.int x, .int y, .int z, .ref c])) ⟨Ex.refl G, fun _ _ _ h => h, fun a o na ha => by rw [upd_ne na]; exact ha, fun a hn => by
          by_cases ea : a = b
          · rw [ea, upd_same]; exact fun z => nomatch z
          · rw [upd_ne ea]; exact hn⟩ (ex _) ⟨gb, x, y, z, c, ns, upd_same, hc, h3⟩ (by
            have e1 : ((t.toNat : Nat) : Int) = t := by omega
            rw [e1]
            exact .int t)
        exact q
      have modlt : ∀ x : Int, 0 ≤ x % m ∧ x % m < m := fun x => ⟨Int.emod_nonneg x (by omega), Int.emod_lt_of_pos x (by omega)⟩
      -- behind the first if
      obtain ⟨tt, htt, rt⟩ : ∃ tt, PSs (cxOf CX0 P w K mg base ["box", "m", "at", "cell", "told"] "_law_take" (defScope s__law_take) T.d__law_take.f cdv A outer s H E).nox (defBody s__law_take).tail tt ∧
          ∀ (x y z : Int) (s2 s3 s4 : Option V), 0 ≤ z → tt { nx := fun _ H' => Q .non H', rt := Q } [some (.ref b), some (.int m), s2, s3, s4] (upd H b (.lst [.int x, .int y, .int z, .ref c])) := by
        refine ⟨_, pss_cons (ps_if (pt_cmpR op_gt (pe_ix ix_list (pv 0) pe_int (fun _ _ => rfl)) pe_int (nomark _))
            (pss_cons (ps_set (i := 4) sc_take.nd rfl (Or.inl rfl) (pe_op op_mod (pe_callTy call_int1 (by rfl) T.z_int (by decide +kernel) (pa_cons (pe_ix ix_list (pv 0) pe_int (fun _ _ => rfl)) pa_nil)) (pv 1)))
            (pss_cons (ps_asg (pe_op op_fdiv (pe_ix ix_list (pv 0) pe_int (fun _ _ => rfl)) (pv 1)) (pg_sub (pv 0) pe_int set_list))
            (pss_cons (ps_asg (pe_ifExp (pt_cmpR op_gt (pe_ix ix_list (pv 0) pe_int (fun _ _ => rfl)) pe_int (nomark _)) (pe_op op_sub (pe_ix ix_list (pv 0) pe_int (fun _ _ => rfl)) pe_int) pe_int) (pg_sub (pv 0) pe_int set_list))
            (pss_one (ps_ret (pv 4)))))) pss_nil)
          (pss_cons (ps_asg (pe_op op_add (pe_ix ix_list (pv 0) pe_int (fun _ _ => rfl)) pe_int) (pg_sub (pv 0) pe_int set_list))
          (pss_cons (ps_asg (pe_op op_mod (pe_callTy call_int1 (by rfl) T.z_int (by decide +kernel) (pa_cons (pe_op op_add (pe_op op_mul (pe_ix ix_list (pv 0) pe_int (fun _ _ => rfl)) pe_int) (pe_op op_mul pe_int (pe_op op_add (pe_ix ix_list (pv 0) pe_int (fun _ _ => rfl)) pe_int))) pa_nil)) pe_int) (pg_sub (pv 0) pe_int set_list))
          (pss_one (ps_ret (pe_op op_mod (pe_op op_mod (pe_callTy call_int1 (by rfl) T.z_int (by decide +kernel) (pa_cons (pe_op op_add (pe_op op_fdiv (pe_ix ix_list (pv 0) pe_int (fun _ _ => rfl)) pe_int) (pe_ix ix_list (pv 0) pe_int (fun _ _ => rfl))) pa_nil)) pe_int) (pv 1)))))), fun x y z s2 s3 s4 hz => ?_⟩
        refine ⟨.ref b, rfl, b, _, 1, _, rfl, rfl, SqL.of upd_same, rfl, y, 0, rfl, rfl, _, rfl, ite2 (fun c1 => ?_) (fun c1 => ?_)⟩
        · refine ⟨.ref b, rfl, b, _, 0, _, rfl, rfl, SqL.of upd_same, rfl, .inl ⟨x, rfl, .int m, rfl, x, m, rfl, rfl, by show (0 : Int) < m; omega, ?_⟩⟩
          refine ⟨.ref b, rfl, b, _, 0, _, rfl, rfl, SqL.of upd_same, rfl, .int m, rfl, x, m, rfl, rfl, ⟨by omega, by omega⟩, .ref b, rfl, b, _, 0, 0, rfl, rfl, upd_same, rfl, ?_⟩
          rw [upd_upd]
          refine ⟨.ref b, rfl, b, _, 0, _, rfl, rfl, SqL.of upd_same, rfl, x / m, 0, rfl, rfl, _, rfl, ite2 (fun c2 => ?_) (fun c2 => ?_)⟩
          · refine ⟨.ref b, rfl, b, _, 1, _, rfl, rfl, SqL.of upd_same, rfl, y, 1, rfl, rfl, .ref b, rfl, b, _, 1, 1, rfl, rfl, upd_same, rfl, ?_⟩
            rw [upd_upd]
            exact ⟨.int (x % m), rfl, fin _ _ _ _ (modlt x).1 (modlt x).2 hz⟩
          · refine ⟨.ref b, rfl, b, _, 1, 1, rfl, rfl, upd_same, rfl, ?_⟩
            rw [upd_upd]
            exact ⟨.int (x % m), rfl, fin _ _ _ _ (modlt x).1 (modlt x).2 hz⟩
        · refine ⟨.ref b, rfl, b, _, 1, _, rfl, rfl, SqL.of upd_same, rfl, y, 1, rfl, rfl, .ref b, rfl, b, _, 1, 1, rfl, rfl, upd_same, rfl, ?_⟩
          rw [upd_upd]
          refine ⟨.ref b, rfl, b, _, 0, _, rfl, rfl, SqL.of upd_same, rfl, x, 48271, rfl, rfl, .inr ⟨by decide, by decide⟩, .ref b, rfl, b, _, 1, _, rfl, rfl, SqL.of upd_same, rfl, y + 1, 20, rfl, rfl, 69621, _, rfl, rfl, .inl ⟨by decide, by decide⟩, _, _, rfl, rfl, .inl ⟨_, rfl, _, 2147483647, rfl, rfl, by show (0 : Int) < 2147483647; decide, ?_⟩⟩
          refine ⟨.ref b, rfl, b, _, 0, 0, rfl, rfl, upd_same, rfl, ?_⟩
          rw [upd_upd]
          refine ⟨.ref b, rfl, b, _, 0, _, rfl, rfl, SqL.of upd_same, rfl, _, 7, rfl, rfl, ⟨by decide, by decide⟩, .ref b, rfl, b, _, 0, _, rfl, rfl, SqL.of upd_same, rfl, _, _, rfl, rfl, .inl ⟨_, rfl, _, 1000003, rfl, rfl, by show (0 : Int) < 1000003; decide, .int m, rfl, _, m, rfl, rfl, by show (0 : Int) < m; omega, ?_⟩⟩
          exact fin _ _ _ _ (modlt _).1 (modlt _).2 hz
      have hH : upd H b (.lst [.int cell, .int k, .int at0, .ref c]) = H := by
        funext a
        by_cases ea : a = b
        · rw [ea, upd_same, hb]
        · rw [upd_ne ea]
      refine ⟨_, pss_cons (ps_if (pt_cmpR op_eq (pe_ix ix_list (pv 0) pe_int (fun _ _ => rfl)) pe_int (nomark _))
          (pss_cons (ps_set (i := 2) sc_take.nd rfl (Or.inl rfl) (pe_ix ix_list (pv 0) pe_int (fun _ _ => rfl)))
          (pss_cons (ps_set (i := 3) sc_take.nd rfl (Or.inl rfl) pe_int)
          (pss_cons (ps_if (pt_cmpR op_lt (pv 2) (pe_callB call_len_seq (by rfl) T.z_len PySem.boot_len (pa_cons (pe_ix ix_list (pv 0) pe_int (fun _ _ => rfl)) pa_nil)) (nomark _))
              (pss_cons (ps_set (i := 3) sc_take.nd rfl (Or.inl rfl) (pe_ix ix_list (pe_ix ix_list (pv 0) pe_int (fun _ _ => rfl)) (pv 2) (fun _ _ => rfl)))
              (pss_cons (ps_asg (pe_ifExp (pt_cmpR op_ge (pv 3) (pe_op op_pow pe_int pe_int) (nomark _)) pe_int (pe_un un_neg pe_int)) (pg_sub (pv 0) pe_int set_list)) pss_nil)) pss_nil)
          (pss_cons (ps_asg (pe_op op_add (pv 2) pe_int) (pg_sub (pv 0) pe_int set_list))
          (pss_cons (ps_asg (pv 3) (pg_sub (pv 0) pe_int set_list))
          (pss_cons (ps_if (pt_cmpR op_eq (pe_ix ix_list (pv 0) pe_int (fun _ _ => rfl)) pe_int (nomark _)) (pss_one (ps_ret pe_int)) pss_nil) pss_nil)))))) pss_nil) htt, ?_⟩
      refine ⟨.ref b, rfl, b, _, 1, _, rfl, rfl, SqL.of hb, rfl, rfl, _, rfl, ite2 (fun c1 => ?_) (fun c1 => hH ▸ rt cell k at0 none none none h0)⟩
      -- the last three statements of the branch
      have last : ∀ (x y : Int) (cl2 : Int), (tSeq (tAsg (tOp (rI0 fun i j => .int (i + j)) (tVar 2) (tC (.int 1))) (gSub (tVar 0) (tC (.int 2)) rSetL))
          (tSeq (tAsg (tVar 3) (gSub (tVar 0) (tC (.int 0)) rSetL))
          (tSeq (tIfS (tTest (tOp rEq (tOp (rIxL K) (tVar 0) (tC (.int 1))) (tC (.int 0)))) (tRet (tC (.int 0))) tNext) tNext)))
          { nx := tt { nx := fun _ H' => Q .non H', rt := Q }, rt := Q } [some (.ref b), some (.int m), some (.int at0), some (.int cl2), none] (upd H b (.lst [.int x, .int y, .int at0, .ref c])) := fun x y cl2 => by
        refine ⟨.int at0, rfl, at0, 1, rfl, rfl, .ref b, rfl, b, _, 2, 2, rfl, rfl, upd_same, rfl, ?_⟩
        rw [upd_upd]
        refine ⟨.int cl2, rfl, .ref b, rfl, b, _, 0, 0, rfl, rfl, upd_same, rfl, ?_⟩
        rw [upd_upd]
        refine ⟨.ref b, rfl, b, _, 1, _, rfl, rfl, SqL.of upd_same, rfl, rfl, _, rfl, ite2 (fun c3 => ?_) (fun c3 => rt _ _ _ _ _ _ (by omega))⟩
        exact fin 0 _ _ _ (by omega) (by omega) (by omega)
      have sqH : SqL K H c (ns.map V.int) := e.l hc
      refine ⟨.ref b, rfl, b, _, 2, _, rfl, rfl, SqL.of hb, rfl, ?_⟩
      refine ⟨.int at0, rfl, .ref b, rfl, b, _, 3, _, rfl, rfl, SqL.of hb, rfl, c, _, rfl, .inl sqH, at0, _, rfl, rfl, _, rfl, ite2 (fun c2 => ?_) (fun c2 => hH ▸ last cell k 0)⟩
      have c2' : at0 < ((ns.map V.int).length : Int) := of_decide_eq_true c2
      rw [List.length_map] at c2'
      obtain ⟨j, ej⟩ : ∃ j : Nat, at0 = (j : Int) := ⟨at0.toNat, by omega⟩
      have hget : atI (ns.map V.int) at0 = some (.int (ns.getD j 0)) := by
        rw [ej]
        refine atI_nat ?_
        have hj : j < ns.length := by omega
        rw [List.getElem?_map, List.getElem?_eq_getElem hj, List.getD_eq_getElem?_getD, List.getElem?_eq_getElem hj]
        rfl
      refine ⟨.ref b, rfl, b, _, 3, _, rfl, rfl, SqL.of hb, rfl, .int at0, rfl, c, _, at0, _, rfl, rfl, sqH, hget, ?_⟩
      refine ⟨_, rfl, 10, 18, rfl, rfl, ⟨by decide, by decide, by decide⟩, _, _, rfl, rfl, _, rfl, ite2 (fun c3 => ?_) (fun c3 => ?_)⟩
      · exact ⟨.ref b, rfl, b, _, 1, 1, rfl, rfl, hb, rfl, last _ _ _⟩
      · exact ⟨9, rfl, .ref b, rfl, b, _, 1, 1, rfl, rfl, hb, rfl, last _ _ _⟩
    · exact h'.elim
  | _ => exact (h : False).elim
theorem sc__law_pick : FnScope ["box", "menu"] ["box", "menu"] (defScope s__law_pick) := ⟨rfl, rfl, rfl, by decide +kernel, rfl, by decide +kernel, by decide +kernel⟩
theorem ok__law_pick (T : Txt w K mg) : FnOk P w K mg base CX0 2 T.d__law_pick.f T.d__law_pick.fd ["box", "menu"] (SpB K 1 (fun ds => match ds with | [v_menu] => m__law_pick v_menu | _ => Tr.bad)) :=
  fn_box (cl := T.cl) T.d__law_pick.F sc__law_pick rfl (fun cdv A outer s H E hr => ⟨_, (pss_cons (ps_ret (pe_ix ix_seq (pv 1) (pe_call (ok__law_take T) (hr.mono (by decide)) (by rfl) T.d__law_take.g T.d__law_take.F.kp T.d__law_take.b .nil pass0 (pa_cons (pv 0) (pa_cons (pe_callB call_len_seq (by rfl) T.z_len (by decide +kernel) (pa_cons (pv 1) pa_nil)) pa_nil))) (fun _ _ => rfl))) pss_nil), fun ds hl => match ds, hl with
      | [v_menu], _ => StG.eq ((st_ret (ev_op rr_ix (ev_var (i := 1) rfl) (ev_callB (i := 0) rfl (ea_cons (ev_cb1 rk_len (ev_var (i := 1) rfl)) ea_nil))))) (by simp only [m__law_pick, Tr.ret_bind, Tr.bind_assoc, Tr.bind_ret, asB_bool, asI_int, on1_one, on2g_two, on2_two, on3_three])⟩)
theorem sc__law_weight : FnScope ["kind", "v", "word", "k", "one", "key", "entry", "count"] ["kind", "v"] (defScope s__law_weight) := ⟨rfl, rfl, rfl, by decide +kernel, rfl, by decide +kernel, by decide +kernel⟩
theorem rk__law_weight (T : Txt w K mg) : ∀ n : Nat, (FnOk P w K mg base CX0 (0 + n) T.d__law_weight.f T.d__law_weight.fd ["kind", "v"] (SpN K 2 (fun ds => match ds with | [v_kind, v_v] => m__law_weight n v_kind v_v | _ => Tr.bad)))
  | 0 => fn_never (spN_bad fun ds hl => match ds, hl with | [v_kind, v_v], _ => by simp only [m__law_weight])
  | n + 1 => by
    have ih := rk__law_weight T n
    have ih__law_weight := ih
    exact fn_pure (cl := T.cl) T.d__law_weight.F sc__law_weight (fun cdv A outer s H E hr => ⟨_, (pss_cons (ps_set (i := 2) sc__law_weight.nd rfl (Or.inl rfl) (pe_ix ix_seq (pv 0) pe_int (fun _ _ => rfl))) (pss_cons (ps_if (pt_cmpR (op_eqP (room64 hr)) (pv 2) pe_str (nomark _)) (pss_cons (ps_ret pe_int) pss_nil) pss_nil) (pss_cons (ps_if (pt_cmpR (op_eqP (room64 hr)) (pv 2) pe_str (nomark _)) (pss_cons (ps_ret (pe_op op_addA pe_int (pe_callB (cr_sum rfl) (by rfl) T.z_sum (by decide +kernel) (pa_cons (pe_lc (own := [("k", 3)]) rfl sc__law_weight.nd (pi_range1 (by rfl) T.z_range (pa_cons (pe_callB call_len_seq (by rfl) T.z_len (by decide +kernel) (pa_cons (pv 1) pa_nil)) pa_nil)) (blkOk_by (N := ["kind", "v", "word", "k", "one", "key", "entry", "count"]) (sc := defScope s__law_weight) (by decide +kernel)) (fun _ _ _ _ _ => pg_name (i := 3) sc__law_weight.nd rfl (Or.inl rfl)) (fun _ _ _ _ _ => pts_nil) (fun _ _ _ _ _ => (pe_call ih__law_weight (hr.mono (Nat.le_refl _)) (by rfl) T.d__law_weight.g T.d__law_weight.F.kp T.d__law_weight.b .nil pass0 (pa_cons (pe_ix ix_seq (pe_ix ix_seq (pv 0) pe_int (fun _ _ => rfl)) (pv 3) (fun _ _ => rfl)) (pa_cons (pe_ix ix_seq (pv 1) (pv 3) (fun _ _ => rfl)) pa_nil))))) pa_nil)))) pss_nil) pss_nil) (pss_cons (ps_if (pt_cmpR (op_eqP (room64 hr)) (pv 2) pe_str (nomark _)) (pss_cons (ps_ret (pe_op op_addA pe_int (pe_call ih__law_weight (hr.mono (Nat.le_refl _)) (by rfl) T.d__law_weight.g T.d__law_weight.F.kp T.d__law_weight.b .nil pass0 (pa_cons (pe_ix ix_seq (pe_ix ix_seq (pv 0) pe_int (fun _ _ => rfl)) (pe_ix ix_seq (pv 1) pe_int (fun _ _ => rfl)) (fun _ _ => rfl)) (pa_cons (pe_ix ix_seq (pv 1) pe_int (fun _ _ => rfl)) pa_nil))))) pss_nil) pss_nil) (pss_cons (ps_if (pt_cmpR (op_inP (room65 hr)) (pv 2) (pe_tupF (pa_cons pe_str (pa_cons pe_str pa_nil))) rfl) (pss_cons (ps_ret (pe_op op_addA pe_int (pe_callB (cr_sum rfl) (by rfl) T.z_sum (by decide +kernel) (pa_cons (pe_lc (own := [("one", 4)]) rfl sc__law_weight.nd (pi_seq (pv 1)) (blkOk_by (N := ["kind", "v", "word", "k", "one", "key", "entry", "count"]) (sc := defScope s__law_weight) (by decide +kernel)) (fun _ _ _ _ _ => pg_name (i := 4) sc__law_weight.nd rfl (Or.inl rfl)) (fun _ _ _ _ _ => pts_nil) (fun _ _ _ _ _ => (pe_call ih__law_weight (hr.mono (Nat.le_refl _)) (by rfl) T.d__law_weight.g T.d__law_weight.F.kp T.d__law_weight.b .nil pass0 (pa_cons (pe_ix ix_seq (pv 0) pe_int (fun _ _ => rfl)) (pa_cons (pv 4) pa_nil))))) pa_nil)))) pss_nil) pss_nil) (pss_cons (ps_if (pt_cmpR (op_eqP (room64 hr)) (pv 2) pe_str (nomark _)) (pss_cons (ps_ret (pe_op op_addA pe_int (pe_callB (cr_sum rfl) (by rfl) T.z_sum (by decide +kernel) (pa_cons (pe_lc (own := [("one", 4), ("count", 7)]) rfl sc__law_weight.nd (pi_seq (pv 1)) (blkOk_by (N := ["kind", "v", "word", "k", "one", "key", "entry", "count"]) (sc := defScope s__law_weight) (by decide +kernel)) (fun _ _ _ _ _ => pg_tup rfl (pgs_cons (pg_name (i := 4) sc__law_weight.nd rfl (Or.inl rfl)) (pgs_cons (pg_name (i := 7) sc__law_weight.nd rfl (Or.inl rfl)) pgs_nil))) (fun _ _ _ _ _ => pts_nil) (fun _ _ _ _ _ => (pe_op op_mulA (pv 7) (pe_call ih__law_weight (hr.mono (Nat.le_refl _)) (by rfl) T.d__law_weight.g T.d__law_weight.F.kp T.d__law_weight.b .nil pass0 (pa_cons (pe_ix ix_seq (pv 0) pe_int (fun _ _ => rfl)) (pa_cons (pv 4) pa_nil)))))) pa_nil)))) pss_nil) pss_nil) (pss_cons (ps_ret (pe_op op_addA pe_int (pe_callB (cr_sum rfl) (by rfl) T.z_sum (by decide +kernel) (pa_cons (pe_lc (own := [("key", 5), ("entry", 6)]) rfl sc__law_weight.nd (pi_seq (pv 1)) (blkOk_by (N := ["kind", "v", "word", "k", "one", "key", "entry", "count"]) (sc := defScope s__law_weight) (by decide +kernel)) (fun _ _ _ _ _ => pg_tup rfl (pgs_cons (pg_name (i := 5) sc__law_weight.nd rfl (Or.inl rfl)) (pgs_cons (pg_name (i := 6) sc__law_weight.nd rfl (Or.inl rfl)) pgs_nil))) (fun _ _ _ _ _ => pts_nil) (fun _ _ _ _ _ => (pe_op op_addA (pe_call ih__law_weight (hr.mono (Nat.le_refl _)) (by rfl) T.d__law_weight.g T.d__law_weight.F.kp T.d__law_weight.b .nil pass0 (pa_cons (pe_ix ix_seq (pv 0) pe_int (fun _ _ => rfl)) (pa_cons (pv 5) pa_nil))) (pe_call ih__law_weight (hr.mono (Nat.le_refl _)) (by rfl) T.d__law_weight.g T.d__law_weight.F.kp T.d__law_weight.b .nil pass0 (pa_cons (pe_ix ix_seq (pv 0) pe_int (fun _ _ => rfl)) (pa_cons (pv 6) pa_nil)))))) pa_nil)))) pss_nil))))))), fun ds hl => match ds, hl with
          | [v_kind, v_v], _ => StG.eq ((st_asg (i := 2) (fun _ _ => rfl) (ev_op rr_ix (ev_var (i := 0) rfl) ev_int) (fun v_word => (st_if (et_cmp rc_eq (ev_var (i := 2) rfl) ev_str) (st_ret ev_int) (st_if (et_cmp rc_eq (ev_var (i := 2) rfl) ev_str) (st_ret (ev_op rr_add ev_int (ev_cb1 rk_sum (ev_lcR1n (fun _ _ => rfl) (ev_cb1 rk_len (ev_var (i := 1) rfl)) rfl (fun v_k => (ev_callN (ea_cons (ev_op rr_ix (ev_op rr_ix (ev_var (i := 0) rfl) ev_int) (ev_var (i := 3) rfl)) (ea_cons (ev_op rr_ix (ev_var (i := 1) rfl) (ev_var (i := 3) rfl)) ea_nil)))))))) (st_if (et_cmp rc_eq (ev_var (i := 2) rfl) ev_str) (st_ret (ev_op rr_add ev_int (ev_callN (ea_cons (ev_op rr_ix (ev_op rr_ix (ev_var (i := 0) rfl) ev_int) (ev_op rr_ix (ev_var (i := 1) rfl) ev_int)) (ea_cons (ev_op rr_ix (ev_var (i := 1) rfl) ev_int) ea_nil))))) (st_if (et_cmp rc_in (ev_var (i := 2) rfl) (ev_tup (ea_cons ev_str (ea_cons ev_str ea_nil)))) (st_ret (ev_op rr_add ev_int (ev_cb1 rk_sum (ev_lcS1 (fun _ _ => rfl) (ev_var (i := 1) rfl) rfl (fun v_one => (ev_callN (ea_cons (ev_op rr_ix (ev_var (i := 0) rfl) ev_int) (ea_cons (ev_var (i := 4) rfl) ea_nil)))))))) (st_if (et_cmp rc_eq (ev_var (i := 2) rfl) ev_str) (st_ret (ev_op rr_add ev_int (ev_cb1 rk_sum (ev_lcS2 (fun _ _ => rfl) (ev_var (i := 1) rfl) rfl (fun v_one v_count => (ev_op rr_mul (ev_var (i := 7) rfl) (ev_callN (ea_cons (ev_op rr_ix (ev_var (i := 0) rfl) ev_int) (ea_cons (ev_var (i := 4) rfl) ea_nil))))))))) (st_ret (ev_op rr_add ev_int (ev_cb1 rk_sum (ev_lcS2 (fun _ _ => rfl) (ev_var (i := 1) rfl) rfl (fun v_key v_entry => (ev_op rr_add (ev_callN (ea_cons (ev_op rr_ix (ev_var (i := 0) rfl) ev_int) (ea_cons (ev_var (i := 5) rfl) ea_nil))) (ev_callN (ea_cons (ev_op rr_ix (ev_var (i := 0) rfl) ev_int) (ea_cons (ev_var (i := 6) rfl) ea_nil))))))))))))))))) (by simp only [m__law_weight, Tr.ret_bind, Tr.bind_assoc, Tr.bind_ret, asB_bool, asI_int, on1_one, on2g_two, on2_two, on3_three])⟩)
theorem ok__law_weight (T : Txt w K mg) : FnOk P w K mg base CX0 12 T.d__law_weight.f T.d__law_weight.fd ["kind", "v"] (SpN K 2 (fun ds => match ds with | [v_kind, v_v] => m__law_weight 12 v_kind v_v | _ => Tr.bad)) := (rk__law_weight T 12)
theorem sc__law_made : FnScope ["kind", "p", "v", "word", "told", "k", "one"] ["kind", "p", "v"] (defScope s__law_made) := ⟨rfl, rfl, rfl, by decide +kernel, rfl, by decide +kernel, by decide +kernel⟩
theorem sc__law_made_row : FnScope ["kind", "parts", "v", "part", "at", "out", "told"] ["kind", "parts", "v"] (defScope s__law_made_row) := ⟨rfl, rfl, rfl, by decide +kernel, rfl, by decide +kernel, by decide +kernel⟩
theorem rk__law_made (T : Txt w K mg) : ∀ n : Nat, (FnOk P w K mg base CX0 (0 + n) T.d__law_made.f T.d__law_made.fd ["kind", "p", "v"] (SpN K 3 (fun ds => match ds with | [v_kind, v_p, v_v] => m__law_made n v_kind v_p v_v | _ => Tr.bad))) ∧ (FnOk P w K mg base CX0 (0 + n) T.d__law_made_row.f T.d__law_made_row.fd ["kind", "parts", "v"] (SpN K 3 (fun ds => match ds with | [v_kind, v_parts, v_v] => m__law_made_row n v_kind v_parts v_v | _ => Tr.bad)))
  | 0 => ⟨fn_never (spN_bad fun ds hl => match ds, hl with | [v_kind, v_p, v_v], _ => by simp only [m__law_made]), fn_never (spN_bad fun ds hl => match ds, hl with | [v_kind, v_parts, v_v], _ => by simp only [m__law_made_row])⟩
  | n + 1 => by
    have ih := rk__law_made T n
    have ih__law_made := ih.1
    have ih__law_made_row := ih.2
    refine ⟨?_, ?_⟩
    · exact fn_pure (cl := T.cl) T.d__law_made.F sc__law_made (fun cdv A outer s H E hr => ⟨_, (pss_cons (ps_set (i := 3) sc__law_made.nd rfl (Or.inl rfl) (pe_ix ix_seq (pv 1) pe_int (fun _ _ => rfl))) (pss_cons (ps_if (pt_cmpR (op_eqP (room64 hr)) (pv 3) pe_str (nomark _)) (pss_cons (ps_ret (pe_tupF (pa_cons (pv 2) pa_nil))) pss_nil) pss_nil) (pss_cons (ps_if (pt_cmpR (op_inP (room65 hr)) (pv 3) (pe_tupF (pa_cons pe_str (pa_cons pe_str pa_nil))) rfl) (pss_cons (ps_ret (pe_ifExp (pt_cmpR (op_eqP (room64 hr)) (pe_ix ix_seq (pv 1) pe_int (fun _ _ => rfl)) (pv 2) (nomark _)) (pe_tupF (pa_cons (pe_ix ix_seq (pv 1) (pe_op op_sub (pe_callB call_len_seq (by rfl) T.z_len (by decide +kernel) (pa_cons (pv 1) pa_nil)) pe_int) (fun _ _ => rfl)) pa_nil)) pe_non)) pss_nil) pss_nil) (pss_cons (ps_if (pt_cmpR (op_eqP (room64 hr)) (pv 3) pe_str (nomark _)) (pss_cons (ps_setLc (i := 4) (own := [("k", 5)]) rfl sc__law_made.nd rfl rfl (sw_true rfl rfl rfl (by decide +kernel)) (pi_range1 (by rfl) T.z_range (pa_cons (pe_callB call_len_seq (by rfl) T.z_len (by decide +kernel) (pa_cons (pv 2) pa_nil)) pa_nil)) (blkOk_by (N := ["kind", "p", "v", "word", "told", "k", "one"]) (sc := defScope s__law_made) (by decide +kernel)) (fun _ _ _ _ _ => pg_name (i := 5) sc__law_made.nd rfl (Or.inl rfl)) (fun _ _ _ _ _ => pts_nil) (fun _ _ _ _ _ => (pe_call ih__law_made (hr.mono (Nat.le_refl _)) (by rfl) T.d__law_made.g T.d__law_made.F.kp T.d__law_made.b .nil pass0 (pa_cons (pe_ix ix_seq (pe_ix ix_seq (pv 0) pe_int (fun _ _ => rfl)) (pv 5) (fun _ _ => rfl)) (pa_cons (pe_ix ix_seq (pe_ix ix_seq (pv 1) pe_int (fun _ _ => rfl)) (pv 5) (fun _ _ => rfl)) (pa_cons (pe_ix ix_seq (pv 2) (pv 5) (fun _ _ => rfl)) pa_nil)))))) (pss_cons (ps_ret (pe_ifExp (pt_cmpR (op_inP (room65 hr)) pe_non (pv 4) rfl) pe_non (pe_tupF (pa_cons (pe_callTy call_tupleF (by rfl) T.z_tuple (by decide +kernel) (pa_cons (pe_lc (own := [("one", 6)]) rfl sc__law_made.nd (pi_seq (pv 4)) (blkOk_by (N := ["kind", "p", "v", "word", "told", "k", "one"]) (sc := defScope s__law_made) (by decide +kernel)) (fun _ _ _ _ _ => pg_name (i := 6) sc__law_made.nd rfl (Or.inl rfl)) (fun _ _ _ _ _ => pts_nil) (fun _ _ _ _ _ => (pe_ix ix_seq (pv 6) pe_int (fun _ _ => rfl)))) pa_nil)) pa_nil)))) pss_nil)) pss_nil) (pss_cons (ps_if (pt_cmpR (op_eqP (room64 hr)) (pv 3) pe_str (nomark _)) (pss_cons (ps_set (i := 4) sc__law_made.nd rfl (Or.inl rfl) (pe_ifExp (pt_cmpR (op_eqP (room64 hr)) (pe_ix ix_seq (pv 2) pe_int (fun _ _ => rfl)) (pe_ix ix_seq (pv 1) pe_int (fun _ _ => rfl)) (nomark _)) (pe_call ih__law_made (hr.mono (Nat.le_refl _)) (by rfl) T.d__law_made.g T.d__law_made.F.kp T.d__law_made.b .nil pass0 (pa_cons (pe_ix ix_seq (pe_ix ix_seq (pv 0) pe_int (fun _ _ => rfl)) (pe_ix ix_seq (pv 1) pe_int (fun _ _ => rfl)) (fun _ _ => rfl)) (pa_cons (pe_ix ix_seq (pv 1) pe_int (fun _ _ => rfl)) (pa_cons (pe_ix ix_seq (pv 2) pe_int (fun _ _ => rfl)) pa_nil)))) pe_non)) (pss_cons (ps_ret (pe_ifExp (pt_cmpR op_isN (pv 4) pe_non (nomark _)) pe_non (pe_tupF (pa_cons (pe_tupF (pa_cons (pe_ix ix_seq (pv 1) pe_int (fun _ _ => rfl)) (pa_cons (pe_ix ix_seq (pv 4) pe_int (fun _ _ => rfl)) pa_nil))) pa_nil)))) pss_nil)) pss_nil) (pss_cons (ps_if (pt_cmpR (op_eqP (room64 hr)) (pv 3) pe_str (nomark _)) (pss_cons (ps_ret (pe_call ih__law_made_row (hr.mono (Nat.le_refl _)) (by rfl) T.d__law_made_row.g T.d__law_made_row.F.kp T.d__law_made_row.b .nil pass0 (pa_cons (pv 0) (pa_cons (pe_ix ix_seq (pv 1) pe_int (fun _ _ => rfl)) (pa_cons (pv 2) pa_nil))))) pss_nil) pss_nil) (pss_cons (ps_if (pt_cmpR (op_eqP (room64 hr)) (pv 3) pe_str (nomark _)) (pss_cons (ps_ret pe_never) pss_nil) pss_nil) (pss_cons (ps_ret (pe_ifExp (pt_cmpR (op_eqP (room64 hr)) (pv 3) pe_str (nomark _)) pe_never pe_never)) pss_nil)))))))), fun ds hl => match ds, hl with
          | [v_kind, v_p, v_v], _ => StG.eq ((st_asg (i := 3) (fun _ _ => rfl) (ev_op rr_ix (ev_var (i := 1) rfl) ev_int) (fun v_word => (st_if (et_cmp rc_eq (ev_var (i := 3) rfl) ev_str) (st_ret (ev_tup (ea_cons (ev_var (i := 2) rfl) ea_nil))) (st_if (et_cmp rc_in (ev_var (i := 3) rfl) (ev_tup (ea_cons ev_str (ea_cons ev_str ea_nil)))) (st_ret (ev_if (et_cmp rc_eq (ev_op rr_ix (ev_var (i := 1) rfl) ev_int) (ev_var (i := 2) rfl)) (ev_tup (ea_cons (ev_op rr_ix (ev_var (i := 1) rfl) (ev_op rr_sub (ev_cb1 rk_len (ev_var (i := 1) rfl)) ev_int)) ea_nil)) ev_non)) (st_if (et_cmp rc_eq (ev_var (i := 3) rfl) ev_str) (st_asg (i := 4) (fun _ _ => rfl) (ev_lcR1n (fun _ _ => rfl) (ev_cb1 rk_len (ev_var (i := 2) rfl)) rfl (fun v_k => (ev_callN (ea_cons (ev_op rr_ix (ev_op rr_ix (ev_var (i := 0) rfl) ev_int) (ev_var (i := 5) rfl)) (ea_cons (ev_op rr_ix (ev_op rr_ix (ev_var (i := 1) rfl) ev_int) (ev_var (i := 5) rfl)) (ea_cons (ev_op rr_ix (ev_var (i := 2) rfl) (ev_var (i := 5) rfl)) ea_nil)))))) (fun v_told => (st_ret (ev_if (et_cmp rc_in ev_non (ev_var (i := 4) rfl)) ev_non (ev_tup (ea_cons (ev_cb1 rk_tuple (ev_lcS1 (fun _ _ => rfl) (ev_var (i := 4) rfl) rfl (fun v_one => (ev_op rr_ix (ev_var (i := 6) rfl) ev_int)))) ea_nil)))))) (st_if (et_cmp rc_eq (ev_var (i := 3) rfl) ev_str) (st_asg (i := 4) (fun _ _ => rfl) (ev_if (et_cmp rc_eq (ev_op rr_ix (ev_var (i := 2) rfl) ev_int) (ev_op rr_ix (ev_var (i := 1) rfl) ev_int)) (ev_callN (ea_cons (ev_op rr_ix (ev_op rr_ix (ev_var (i := 0) rfl) ev_int) (ev_op rr_ix (ev_var (i := 1) rfl) ev_int)) (ea_cons (ev_op rr_ix (ev_var (i := 1) rfl) ev_int) (ea_cons (ev_op rr_ix (ev_var (i := 2) rfl) ev_int) ea_nil)))) ev_non) (fun v_told => (st_ret (ev_if (et_isN (ev_var (i := 4) rfl)) ev_non (ev_tup (ea_cons (ev_tup (ea_cons (ev_op rr_ix (ev_var (i := 1) rfl) ev_int) (ea_cons (ev_op rr_ix (ev_var (i := 4) rfl) ev_int) ea_nil))) ea_nil)))))) (st_if (et_cmp rc_eq (ev_var (i := 3) rfl) ev_str) (st_ret (ev_callN (ea_cons (ev_var (i := 0) rfl) (ea_cons (ev_op rr_ix (ev_var (i := 1) rfl) ev_int) (ea_cons (ev_var (i := 2) rfl) ea_nil))))) (st_if (et_cmp rc_eq (ev_var (i := 3) rfl) ev_str) (st_ret ev_never) (st_ret (ev_if (et_cmp rc_eq (ev_var (i := 3) rfl) ev_str) ev_never ev_never))))))))))) (by simp only [m__law_made, Tr.ret_bind, Tr.bind_assoc, Tr.bind_ret, asB_bool, asI_int, on1_one, on2g_two, on2_two, on3_three])⟩)
    · exact fn_pure (cl := T.cl) T.d__law_made_row.F sc__law_made_row (fun cdv A outer s H E hr => ⟨_, (pss_cons (ps_par (i := 4) (j := 5) rfl sc__law_made_row.nd rfl rfl (by decide) rfl rfl (pa_cons (pe_int) (pa_cons (pe_lst pa_nil) pa_nil)) rfl) (pss_cons (ps_for PassesOwn.never rfl (pi_seq (pv 1)) (pg_name (i := 3) sc__law_made_row.nd rfl (Or.inl rfl)) (pss_cons (ps_if (pt_cmpR (op_eqP (room64 hr)) (pe_ix ix_seq (pv 3) pe_int (fun _ _ => rfl)) pe_str (nomark _)) (pss_cons (ps_expr (pe_bm PySem.F.plainAttrs_list PySem.F.slot_list_append PySem.F.type_list_append mt_append (pv 5) (pa_cons (pe_ix ix_seq (pv 3) pe_int (fun _ _ => rfl)) pa_nil))) pss_nil) (pss_cons (ps_if (pt_cmpR (op_eqP (room64 hr)) (pe_ix ix_seq (pv 3) pe_int (fun _ _ => rfl)) pe_str (nomark _)) (pss_cons (ps_if (pt_cmpR op_gt (pe_op op_addA (pv 4) (pe_ix ix_seq (pv 3) pe_int (fun _ _ => rfl))) (pe_callB call_len_seq (by rfl) T.z_len (by decide +kernel) (pa_cons (pv 2) pa_nil)) (nomark _)) (pss_cons (ps_ret pe_non) pss_nil) pss_nil) (pss_cons (ps_set (i := 5) sc__law_made_row.nd rfl (Or.inl rfl) (pe_op op_addA (pv 5) (pe_callTy call_list_of (by rfl) T.z_list (by decide +kernel) (pa_cons (pe_slice sl_P (pv 2) (po_some (pv 4)) (po_some (pe_op op_addA (pv 4) (pe_ix ix_seq (pv 3) pe_int (fun _ _ => rfl))))) pa_nil)))) (pss_cons (ps_set (i := 4) sc__law_made_row.nd rfl (Or.inl rfl) (pe_op op_addA (pv 4) (pe_ix ix_seq (pv 3) pe_int (fun _ _ => rfl)))) pss_nil))) (pss_cons (ps_set (i := 6) sc__law_made_row.nd rfl (Or.inl rfl) (pe_ifExp (pt_cmpR op_ge (pv 4) (pe_callB call_len_seq (by rfl) T.z_len (by decide +kernel) (pa_cons (pv 2) pa_nil)) (nomark _)) pe_non (pe_ifExp (pt_cmpR (op_eqP (room64 hr)) (pe_ix ix_seq (pv 3) pe_int (fun _ _ => rfl)) pe_str (nomark _)) (pe_call ih__law_made (hr.mono (Nat.le_refl _)) (by rfl) T.d__law_made.g T.d__law_made.F.kp T.d__law_made.b .nil pass0 (pa_cons (pe_ix ix_seq (pv 0) pe_int (fun _ _ => rfl)) (pa_cons (pe_ix ix_seq (pv 3) pe_int (fun _ _ => rfl)) (pa_cons (pe_ix ix_seq (pv 2) (pv 4) (fun _ _ => rfl)) pa_nil)))) (pe_tupF (pa_cons (pe_ix ix_seq (pv 2) (pv 4) (fun _ _ => rfl)) pa_nil))))) (pss_cons (ps_if (PW.pt (pw_or (pt_cmpR op_isN (pv 6) pe_non (nomark _)) (pw_or1 (PW.pt (pw_and (pt_cmpR (op_eqP (room64 hr)) (pe_ix ix_seq (pv 3) pe_int (fun _ _ => rfl)) pe_str (nomark _)) (pw_and1 (pt_cmpR (op_neP (room64 hr)) (pe_ix ix_seq (pv 2) (pv 4) (fun _ _ => rfl)) (pe_ix ix_seq (pv 3) pe_int (fun _ _ => rfl)) (nomark _)))))))) (pss_cons (ps_ret pe_non) pss_nil) pss_nil) (pss_cons (ps_if (pt_cmpR (op_eqP (room64 hr)) (pe_ix ix_seq (pv 3) pe_int (fun _ _ => rfl)) pe_str (nomark _)) (pss_cons (ps_expr (pe_bm PySem.F.plainAttrs_list PySem.F.slot_list_append PySem.F.type_list_append mt_append (pv 5) (pa_cons (pe_ix ix_seq (pv 6) pe_int (fun _ _ => rfl)) pa_nil))) pss_nil) pss_nil) (pss_cons (ps_set (i := 4) sc__law_made_row.nd rfl (Or.inl rfl) (pe_op op_addA (pv 4) pe_int)) pss_nil))))) pss_nil)) pss_nil)) (pss_cons (ps_ret (pe_ifExp (pt_cmpR (op_eqP (room64 hr)) (pv 4) (pe_callB call_len_seq (by rfl) T.z_len (by decide +kernel) (pa_cons (pv 2) pa_nil)) (nomark _)) (pe_tupF (pa_cons (pe_callTy call_tupleF (by rfl) T.z_tuple (by decide +kernel) (pa_cons (pv 5) pa_nil)) pa_nil)) pe_non)) pss_nil))), fun ds hl => match ds, hl with
          | [v_kind, v_parts, v_v], _ => StG.eq ((st_parDL (fun _ _ => rfl) (i := 4) (j := 5) ev_int (fun v_at v_out => (st_forS1 (S1 := PyData × PyData) (ρs := fun (x528 : PyData × PyData) => [.dat v_kind, .dat v_parts, .dat v_v, .any, .dat x528.2, .acc (unL x528.1), .any]) (r := id) (i := 3) (s0 := (v_out, v_at)) (fun _ _ => rfl) (fun _ => rfl) (ev_var (i := 1) rfl) (.same _ (.same _ (.same _ (.same _ (.same _ (.same _ (.same _ .nil))))))) (fun _ => rfl) (fun v_part x528 => (st_ifc (S1 := PyData × PyData) (ρs := fun (x530 : PyData × PyData) => [.dat v_kind, .dat v_parts, .dat v_v, .dat v_part, .dat x530.2, .acc (unL x530.1), .any]) (r := Ct.rt) (fun _ _ => rfl) (fun _ => rfl) (et_cmp rc_eq (ev_op rr_ix (ev_var (i := 3) rfl) ev_int) ev_str) (st_append (fun _ _ => rfl) (i := 5) (a := x528.1) rfl (ev_op rr_ix (ev_var (i := 3) rfl) ev_int) (fun v_out => (st_nx (b := Ct.nx (v_out, x528.2)) (s := (v_out, x528.2)) rfl (.same _ (.same _ (.same _ (.same _ (.same _ (.same _ (.same _ .nil)))))))))) (st_ifc (S1 := PyData × PyData) (ρs := fun (x533 : PyData × PyData) => [.dat v_kind, .dat v_parts, .dat v_v, .dat v_part, .dat x533.2, .acc (unL x533.1), .any]) (r := Ct.rt) (fun _ _ => rfl) (fun _ => rfl) (et_cmp rc_eq (ev_op rr_ix (ev_var (i := 3) rfl) ev_int) ev_str) (st_if (et_cmp rc_gt (ev_op rr_add (ev_var (i := 4) rfl) (ev_op rr_ix (ev_var (i := 3) rfl) ev_int)) (ev_cb1 rk_len (ev_var (i := 2) rfl))) (st_rt (r := Ct.rt) (fun _ => rfl) ev_non) (st_freeze (fun _ _ => rfl) (i := 5) rfl (st_catOwn (fun _ _ => rfl) (i := 5) (ev_var (i := 5) rfl) (ev_cb1 rk_list (ev_sl rs_P (ev_var (i := 2) rfl) (eo_some (ev_var (i := 4) rfl)) (eo_some (ev_op rr_add (ev_var (i := 4) rfl) (ev_op rr_ix (ev_var (i := 3) rfl) ev_int))))) (fun v_out => (st_asg (i := 4) (fun _ _ => rfl) (ev_op rr_add (ev_var (i := 4) rfl) (ev_op rr_ix (ev_var (i := 3) rfl) ev_int)) (fun v_at => (st_nx (b := Ct.nx (v_out, v_at)) (s := (v_out, v_at)) rfl (.same _ (.same _ (.same _ (.same _ (.same _ (.same _ (.same _ .nil))))))))))) (hi := by first | decide | simp)))) (st_asg (i := 6) (fun _ _ => rfl) (ev_if (et_cmp rc_ge (ev_var (i := 4) rfl) (ev_cb1 rk_len (ev_var (i := 2) rfl))) ev_non (ev_if (et_cmp rc_eq (ev_op rr_ix (ev_var (i := 3) rfl) ev_int) ev_str) (ev_callN (ea_cons (ev_op rr_ix (ev_var (i := 0) rfl) ev_int) (ea_cons (ev_op rr_ix (ev_var (i := 3) rfl) ev_int) (ea_cons (ev_op rr_ix (ev_var (i := 2) rfl) (ev_var (i := 4) rfl)) ea_nil)))) (ev_tup (ea_cons (ev_op rr_ix (ev_var (i := 2) rfl) (ev_var (i := 4) rfl)) ea_nil)))) (fun v_told => (st_if (et_or (et_isN (ev_var (i := 6) rfl)) (et_and (et_cmp rc_eq (ev_op rr_ix (ev_var (i := 3) rfl) ev_int) ev_str) (et_cmp rc_ne (ev_op rr_ix (ev_var (i := 2) rfl) (ev_var (i := 4) rfl)) (ev_op rr_ix (ev_var (i := 3) rfl) ev_int)))) (st_rt (r := Ct.rt) (fun _ => rfl) ev_non) (st_ifj (S1 := PyData) (ρs := fun (x558 : PyData) => [.dat v_kind, .dat v_parts, .dat v_v, .dat v_part, .dat x528.2, .acc (unL x558), .dat v_told]) (fun _ _ => rfl) (et_cmp rc_eq (ev_op rr_ix (ev_var (i := 3) rfl) ev_int) ev_str) (st_append (fun _ _ => rfl) (i := 5) (a := x528.1) rfl (ev_op rr_ix (ev_var (i := 6) rfl) ev_int) (fun v_out => (st_nx (b := v_out) (s := v_out) rfl (.same _ (.same _ (.same _ (.same _ (.same _ (.same _ (.same _ .nil)))))))))) (st_nx (b := x528.1) (s := x528.1) rfl (.same _ (.same _ (.same _ (.same _ (.same _ (.same _ (.same _ .nil)))))))) (fun x558 => (st_asg (i := 4) (fun _ _ => rfl) (ev_op rr_add (ev_var (i := 4) rfl) ev_int) (fun v_at => (st_nx (b := Ct.nx (x558, v_at)) (s := (x558, v_at)) rfl (.same _ (.same _ (.same _ (.same _ (.same _ (.same _ (.any rfl .nil))))))))))))))) (fun x533 => (st_nx (b := Ct.nx (x533.1, x533.2)) (s := (x533.1, x533.2)) rfl (.same _ (.same _ (.same _ (.same _ (.same _ (.same _ (.same _ .nil)))))))))) (fun x530 => (st_nx (b := Ct.nx (x530.1, x530.2)) (s := (x530.1, x530.2)) rfl (.same _ (.same _ (.same _ (.any rfl (.same _ (.same _ (.same _ .nil))))))))))) (fun x528 => (st_freeze (fun _ _ => rfl) (i := 5) rfl (st_ret (ev_if (et_cmp rc_eq (ev_var (i := 4) rfl) (ev_cb1 rk_len (ev_var (i := 2) rfl))) (ev_tup (ea_cons (ev_cb1 rk_tuple (ev_var (i := 5) rfl)) ea_nil)) ev_non)))))))) (by simp only [m__law_made_row, Tr.ret_bind, Tr.bind_assoc, Tr.bind_ret, asB_bool, asI_int, on1_one, on2g_two, on2_two, on3_three])⟩)
theorem ok__law_made (T : Txt w K mg) : FnOk P w K mg base CX0 12 T.d__law_made.f T.d__law_made.fd ["kind", "p", "v"] (SpN K 3 (fun ds => match ds with | [v_kind, v_p, v_v] => m__law_made 12 v_kind v_p v_v | _ => Tr.bad)) := (rk__law_made T 12).1
theorem sc__law_cost : FnScope ["kind", "p", "word", "told", "key", "change", "k", "part", "x", "what", "lowest", "d"] ["kind", "p"] (defScope s__law_cost) := ⟨rfl, rfl, rfl, by decide +kernel, rfl, by decide +kernel, by decide +kernel⟩
theorem rk__law_cost (T : Txt w K mg) : ∀ n : Nat, (FnOk P w K mg base CX0 (12 + n) T.d__law_cost.f T.d__law_cost.fd ["kind", "p"] (SpN K 2 (fun ds => match ds with | [v_kind, v_p] => m__law_cost n v_kind v_p | _ => Tr.bad)))
  | 0 => fn_never (spN_bad fun ds hl => match ds, hl with | [v_kind, v_p], _ => by simp only [m__law_cost])
  | n + 1 => by
    have ih := rk__law_cost T n
    have ih__law_cost := ih
    exact fn_pure (cl := T.cl) T.d__law_cost.F sc__law_cost (fun cdv A outer s H E hr => ⟨_, (pss_cons (ps_set (i := 2) sc__law_cost.nd rfl (Or.inl rfl) (pe_ix ix_seq (pv 1) pe_int (fun _ _ => rfl))) (pss_cons (ps_if (pt_cmpR (op_inP (room65 hr)) (pv 2) (pe_tupF (pa_cons pe_str (pa_cons pe_str pa_nil))) rfl) (pss_cons (ps_ret pe_int) pss_nil) pss_nil) (pss_cons (ps_if (pt_cmpR (op_eqP (room64 hr)) (pv 2) pe_str (nomark _)) (pss_cons (ps_ret (pe_op op_addA (pe_call (ok__law_weight T) (hr.mono (Nat.le_trans (by decide : 12 ≤ 12) (Nat.le_add_right 12 _))) (by rfl) T.d__law_weight.g T.d__law_weight.F.kp T.d__law_weight.b .nil pass0 (pa_cons (pv 0) (pa_cons (pe_ix ix_seq (pv 1) pe_int (fun _ _ => rfl)) pa_nil))) (pe_call (ok__law_weight T) (hr.mono (Nat.le_trans (by decide : 12 ≤ 12) (Nat.le_add_right 12 _))) (by rfl) T.d__law_weight.g T.d__law_weight.F.kp T.d__law_weight.b .nil pass0 (pa_cons (pv 0) (pa_cons (pe_ix ix_seq (pv 1) pe_int (fun _ _ => rfl)) pa_nil))))) pss_nil) pss_nil) (pss_cons (ps_if (pt_cmpR (op_eqP (room64 hr)) (pv 2) pe_str (nomark _)) (pss_cons (ps_ret (pe_callB (cr_sum rfl) (by rfl) T.z_sum (by decide +kernel) (pa_cons (pe_lc (own := [("k", 6)]) rfl sc__law_cost.nd (pi_range1 (by rfl) T.z_range (pa_cons (pe_callB call_len_seq (by rfl) T.z_len (by decide +kernel) (pa_cons (pe_ix ix_seq (pv 1) pe_int (fun _ _ => rfl)) pa_nil)) pa_nil)) (blkOk_by (N := ["kind", "p", "word", "told", "key", "change", "k", "part", "x", "what", "lowest", "d"]) (sc := defScope s__law_cost) (by decide +kernel)) (fun _ _ _ _ _ => pg_name (i := 6) sc__law_cost.nd rfl (Or.inl rfl)) (fun _ _ _ _ _ => pts_nil) (fun _ _ _ _ _ => (pe_call ih__law_cost (hr.mono (Nat.le_refl _)) (by rfl) T.d__law_cost.g T.d__law_cost.F.kp T.d__law_cost.b .nil pass0 (pa_cons (pe_ix ix_seq (pe_ix ix_seq (pv 0) pe_int (fun _ _ => rfl)) (pv 6) (fun _ _ => rfl)) (pa_cons (pe_ix ix_seq (pe_ix ix_seq (pv 1) pe_int (fun _ _ => rfl)) (pv 6) (fun _ _ => rfl)) pa_nil))))) pa_nil))) pss_nil) pss_nil) (pss_cons (ps_if (pt_cmpR (op_eqP (room64 hr)) (pv 2) pe_str (nomark _)) (pss_cons (ps_ret (pe_call ih__law_cost (hr.mono (Nat.le_refl _)) (by rfl) T.d__law_cost.g T.d__law_cost.F.kp T.d__law_cost.b .nil pass0 (pa_cons (pe_ix ix_seq (pe_ix ix_seq (pv 0) pe_int (fun _ _ => rfl)) (pe_ix ix_seq (pv 1) pe_int (fun _ _ => rfl)) (fun _ _ => rfl)) (pa_cons (pe_ix ix_seq (pv 1) pe_int (fun _ _ => rfl)) pa_nil)))) pss_nil) pss_nil) (pss_cons (ps_if (pt_cmpR (op_eqP (room64 hr)) (pv 2) pe_str (nomark _)) (pss_cons (ps_ret (pe_callB (cr_sum rfl) (by rfl) T.z_sum (by decide +kernel) (pa_cons (pe_lc (own := [("part", 7)]) rfl sc__law_cost.nd (pi_seq (pe_ix ix_seq (pv 1) pe_int (fun _ _ => rfl))) (blkOk_by (N := ["kind", "p", "word", "told", "key", "change", "k", "part", "x", "what", "lowest", "d"]) (sc := defScope s__law_cost) (by decide +kernel)) (fun _ _ _ _ _ => pg_name (i := 7) sc__law_cost.nd rfl (Or.inl rfl)) (fun _ _ _ _ _ => pts_one (pt_cmpR (op_neP (room64 hr)) (pe_ix ix_seq (pv 7) pe_int (fun _ _ => rfl)) pe_str (nomark _))) (fun _ _ _ _ _ => (pe_ifExp (pt_cmpR (op_inP (room65 hr)) (pe_ix ix_seq (pv 7) pe_int (fun _ _ => rfl)) (pe_tupF (pa_cons pe_str (pa_cons pe_str pa_nil))) rfl) (pe_call (ok__law_weight T) (hr.mono (Nat.le_trans (by decide : 12 ≤ 12) (Nat.le_add_right 12 _))) (by rfl) T.d__law_weight.g T.d__law_weight.F.kp T.d__law_weight.b .nil pass0 (pa_cons (pe_ix ix_seq (pv 0) pe_int (fun _ _ => rfl)) (pa_cons (pe_ix ix_seq (pv 7) pe_int (fun _ _ => rfl)) pa_nil))) (pe_call ih__law_cost (hr.mono (Nat.le_refl _)) (by rfl) T.d__law_cost.g T.d__law_cost.F.kp T.d__law_cost.b .nil pass0 (pa_cons (pe_ix ix_seq (pv 0) pe_int (fun _ _ => rfl)) (pa_cons (pe_ix ix_seq (pv 7) pe_int (fun _ _ => rfl)) pa_nil)))))) pa_nil))) pss_nil) pss_nil) (pss_cons (ps_if (pt_cmpR (op_eqP (room64 hr)) (pv 2) pe_str (nomark _)) (pss_cons (ps_ret (pe_callB (cr_sum rfl) (by rfl) T.z_sum (by decide +kernel) (pa_cons (pe_lc (own := [("x", 8), ("what", 9)]) rfl sc__law_cost.nd (pi_seq (pe_ix ix_seq (pv 1) pe_int (fun _ _ => rfl))) (blkOk_by (N := ["kind", "p", "word", "told", "key", "change", "k", "part", "x", "what", "lowest", "d"]) (sc := defScope s__law_cost) (by decide +kernel)) (fun _ _ _ _ _ => pg_tup rfl (pgs_cons (pg_name (i := 8) sc__law_cost.nd rfl (Or.inl rfl)) (pgs_cons (pg_name (i := 9) sc__law_cost.nd rfl (Or.inl rfl)) pgs_nil))) (fun _ _ _ _ _ => pts_one (pt_cmpR (op_inP (room65 hr)) (pv 9) (pe_tupF (pa_cons pe_str (pa_cons pe_str pa_nil))) rfl)) (fun _ _ _ _ _ => (pe_call (ok__law_weight T) (hr.mono (Nat.le_trans (by decide : 12 ≤ 12) (Nat.le_add_right 12 _))) (by rfl) T.d__law_weight.g T.d__law_weight.F.kp T.d__law_weight.b .nil pass0 (pa_cons (pe_ix ix_seq (pv 0) pe_int (fun _ _ => rfl)) (pa_cons (pv 8) pa_nil))))) pa_nil))) pss_nil) pss_nil) (pss_cons (ps_if (pt_cmpR (op_eqP (room64 hr)) (pv 2) pe_str (nomark _)) (pss_cons (ps_ret (pe_callB (cr_sum rfl) (by rfl) T.z_sum (by decide +kernel) (pa_cons (pe_lc (own := [("x", 8), ("lowest", 10), ("d", 11)]) rfl sc__law_cost.nd (pi_seq (pe_ix ix_seq (pv 1) pe_int (fun _ _ => rfl))) (blkOk_by (N := ["kind", "p", "word", "told", "key", "change", "k", "part", "x", "what", "lowest", "d"]) (sc := defScope s__law_cost) (by decide +kernel)) (fun _ _ _ _ _ => pg_tup rfl (pgs_cons (pg_name (i := 8) sc__law_cost.nd rfl (Or.inl rfl)) (pgs_cons (pg_name (i := 10) sc__law_cost.nd rfl (Or.inl rfl)) (pgs_cons (pg_name (i := 11) sc__law_cost.nd rfl (Or.inl rfl)) pgs_nil)))) (fun _ _ _ _ _ => pts_nil) (fun _ _ _ _ _ => (pe_op op_mulA (pe_callB call_abs (by rfl) T.z_abs (by decide +kernel) (pa_cons (pv 11) pa_nil)) (pe_call (ok__law_weight T) (hr.mono (Nat.le_trans (by decide : 12 ≤ 12) (Nat.le_add_right 12 _))) (by rfl) T.d__law_weight.g T.d__law_weight.F.kp T.d__law_weight.b .nil pass0 (pa_cons (pe_ix ix_seq (pv 0) pe_int (fun _ _ => rfl)) (pa_cons (pv 8) pa_nil)))))) pa_nil))) pss_nil) pss_nil) (pss_cons (ps_set (i := 3) sc__law_cost.nd rfl (Or.inl rfl) pe_int) (pss_cons (ps_for PassesOwn.never rfl (pi_seq (pe_ix ix_seq (pv 1) pe_int (fun _ _ => rfl))) (pg_tup rfl (pgs_cons (pg_name (i := 4) sc__law_cost.nd rfl (Or.inl rfl)) (pgs_cons (pg_name (i := 5) sc__law_cost.nd rfl (Or.inl rfl)) pgs_nil))) (pss_cons (ps_if (pt_cmpR (op_inP (room65 hr)) (pe_ix ix_seq (pv 5) pe_int (fun _ _ => rfl)) (pe_tupF (pa_cons pe_str (pa_cons pe_str pa_nil))) rfl) (pss_cons (ps_set (i := 3) sc__law_cost.nd rfl (Or.inl rfl) (pe_op op_addA (pe_op op_addA (pv 3) (pe_call (ok__law_weight T) (hr.mono (Nat.le_trans (by decide : 12 ≤ 12) (Nat.le_add_right 12 _))) (by rfl) T.d__law_weight.g T.d__law_weight.F.kp T.d__law_weight.b .nil pass0 (pa_cons (pe_ix ix_seq (pv 0) pe_int (fun _ _ => rfl)) (pa_cons (pv 4) pa_nil)))) (pe_call (ok__law_weight T) (hr.mono (Nat.le_trans (by decide : 12 ≤ 12) (Nat.le_add_right 12 _))) (by rfl) T.d__law_weight.g T.d__law_weight.F.kp T.d__law_weight.b .nil pass0 (pa_cons (pe_ix ix_seq (pv 0) pe_int (fun _ _ => rfl)) (pa_cons (pe_ix ix_seq (pv 5) pe_int (fun _ _ => rfl)) pa_nil))))) pss_nil) pss_nil) (pss_cons (ps_if (pt_cmpR (op_eqP (room64 hr)) (pe_ix ix_seq (pv 5) pe_int (fun _ _ => rfl)) pe_str (nomark _)) (pss_cons (ps_set (i := 3) sc__law_cost.nd rfl (Or.inl rfl) (pe_op op_addA (pv 3) (pe_call ih__law_cost (hr.mono (Nat.le_refl _)) (by rfl) T.d__law_cost.g T.d__law_cost.F.kp T.d__law_cost.b .nil pass0 (pa_cons (pe_ix ix_seq (pv 0) pe_int (fun _ _ => rfl)) (pa_cons (pe_ix ix_seq (pv 5) pe_int (fun _ _ => rfl)) pa_nil))))) pss_nil) pss_nil) pss_nil))) (pss_cons (ps_ret (pv 3)) pss_nil))))))))))), fun ds hl => match ds, hl with
          | [v_kind, v_p], _ => StG.eq ((st_asg (i := 2) (fun _ _ => rfl) (ev_op rr_ix (ev_var (i := 1) rfl) ev_int) (fun v_word => (st_if (et_cmp rc_in (ev_var (i := 2) rfl) (ev_tup (ea_cons ev_str (ea_cons ev_str ea_nil)))) (st_ret ev_int) (st_if (et_cmp rc_eq (ev_var (i := 2) rfl) ev_str) (st_ret (ev_op rr_add (ev_callN (ea_cons (ev_var (i := 0) rfl) (ea_cons (ev_op rr_ix (ev_var (i := 1) rfl) ev_int) ea_nil))) (ev_callN (ea_cons (ev_var (i := 0) rfl) (ea_cons (ev_op rr_ix (ev_var (i := 1) rfl) ev_int) ea_nil))))) (st_if (et_cmp rc_eq (ev_var (i := 2) rfl) ev_str) (st_ret (ev_cb1 rk_sum (ev_lcR1n (fun _ _ => rfl) (ev_cb1 rk_len (ev_op rr_ix (ev_var (i := 1) rfl) ev_int)) rfl (fun v_k => (ev_callN (ea_cons (ev_op rr_ix (ev_op rr_ix (ev_var (i := 0) rfl) ev_int) (ev_var (i := 6) rfl)) (ea_cons (ev_op rr_ix (ev_op rr_ix (ev_var (i := 1) rfl) ev_int) (ev_var (i := 6) rfl)) ea_nil))))))) (st_if (et_cmp rc_eq (ev_var (i := 2) rfl) ev_str) (st_ret (ev_callN (ea_cons (ev_op rr_ix (ev_op rr_ix (ev_var (i := 0) rfl) ev_int) (ev_op rr_ix (ev_var (i := 1) rfl) ev_int)) (ea_cons (ev_op rr_ix (ev_var (i := 1) rfl) ev_int) ea_nil)))) (st_if (et_cmp rc_eq (ev_var (i := 2) rfl) ev_str) (st_ret (ev_cb1 rk_sum (ev_lcS1i (fun _ _ => rfl) (ev_op rr_ix (ev_var (i := 1) rfl) ev_int) rfl (fun v_part => (et_cmp rc_ne (ev_op rr_ix (ev_var (i := 7) rfl) ev_int) ev_str)) (fun v_part => (ev_if (et_cmp rc_in (ev_op rr_ix (ev_var (i := 7) rfl) ev_int) (ev_tup (ea_cons ev_str (ea_cons ev_str ea_nil)))) (ev_callN (ea_cons (ev_op rr_ix (ev_var (i := 0) rfl) ev_int) (ea_cons (ev_op rr_ix (ev_var (i := 7) rfl) ev_int) ea_nil))) (ev_callN (ea_cons (ev_op rr_ix (ev_var (i := 0) rfl) ev_int) (ea_cons (ev_op rr_ix (ev_var (i := 7) rfl) ev_int) ea_nil)))))))) (st_if (et_cmp rc_eq (ev_var (i := 2) rfl) ev_str) (st_ret (ev_cb1 rk_sum (ev_lcS2i (fun _ _ => rfl) (ev_op rr_ix (ev_var (i := 1) rfl) ev_int) rfl (fun v_x v_what => (et_cmp rc_in (ev_var (i := 9) rfl) (ev_tup (ea_cons ev_str (ea_cons ev_str ea_nil))))) (fun v_x v_what => (ev_callN (ea_cons (ev_op rr_ix (ev_var (i := 0) rfl) ev_int) (ea_cons (ev_var (i := 8) rfl) ea_nil))))))) (st_if (et_cmp rc_eq (ev_var (i := 2) rfl) ev_str) (st_ret (ev_cb1 rk_sum (ev_lcS3 (fun _ _ => rfl) (ev_op rr_ix (ev_var (i := 1) rfl) ev_int) rfl (fun v_x v_lowest v_d => (ev_op rr_mul (ev_cb1 rk_abs (ev_var (i := 11) rfl)) (ev_callN (ea_cons (ev_op rr_ix (ev_var (i := 0) rfl) ev_int) (ea_cons (ev_var (i := 8) rfl) ea_nil)))))))) (st_asg (i := 3) (fun _ _ => rfl) ev_int (fun v_told => (st_forS2 (S1 := PyData) (ρs := fun (x608 : PyData) => [.dat v_kind, .dat v_p, .dat v_word, .dat x608, .any, .any, .any, .any, .any, .any, .any, .any]) (r := id) (i := 4) (j := 5) (s0 := v_told) (fun _ _ => rfl) (fun _ => rfl) (ev_op rr_ix (ev_var (i := 1) rfl) ev_int) (.same _ (.same _ (.same _ (.same _ (.same _ (.same _ (.same _ (.same _ (.same _ (.same _ (.same _ (.same _ .nil)))))))))))) (fun _ => rfl) (fun v_key v_change x608 => (st_ifj (S1 := PyData) (ρs := fun (x610 : PyData) => [.dat v_kind, .dat v_p, .dat v_word, .dat x610, .dat v_key, .dat v_change, .any, .any, .any, .any, .any, .any]) (fun _ _ => rfl) (et_cmp rc_in (ev_op rr_ix (ev_var (i := 5) rfl) ev_int) (ev_tup (ea_cons ev_str (ea_cons ev_str ea_nil)))) (st_asg (i := 3) (fun _ _ => rfl) (ev_op rr_add (ev_op rr_add (ev_var (i := 3) rfl) (ev_callN (ea_cons (ev_op rr_ix (ev_var (i := 0) rfl) ev_int) (ea_cons (ev_var (i := 4) rfl) ea_nil)))) (ev_callN (ea_cons (ev_op rr_ix (ev_var (i := 0) rfl) ev_int) (ea_cons (ev_op rr_ix (ev_var (i := 5) rfl) ev_int) ea_nil)))) (fun v_told => (st_nx (b := v_told) (s := v_told) rfl (.same _ (.same _ (.same _ (.same _ (.same _ (.same _ (.same _ (.same _ (.same _ (.same _ (.same _ (.same _ .nil))))))))))))))) (st_nx (b := x608) (s := x608) rfl (.same _ (.same _ (.same _ (.same _ (.same _ (.same _ (.same _ (.same _ (.same _ (.same _ (.same _ (.same _ .nil))))))))))))) (fun x610 => (st_ifj (S1 := PyData) (ρs := fun (x618 : PyData) => [.dat v_kind, .dat v_p, .dat v_word, .dat x618, .dat v_key, .dat v_change, .any, .any, .any, .any, .any, .any]) (fun _ _ => rfl) (et_cmp rc_eq (ev_op rr_ix (ev_var (i := 5) rfl) ev_int) ev_str) (st_asg (i := 3) (fun _ _ => rfl) (ev_op rr_add (ev_var (i := 3) rfl) (ev_callN (ea_cons (ev_op rr_ix (ev_var (i := 0) rfl) ev_int) (ea_cons (ev_op rr_ix (ev_var (i := 5) rfl) ev_int) ea_nil)))) (fun v_told => (st_nx (b := v_told) (s := v_told) rfl (.same _ (.same _ (.same _ (.same _ (.same _ (.same _ (.same _ (.same _ (.same _ (.same _ (.same _ (.same _ .nil))))))))))))))) (st_nx (b := x610) (s := x610) rfl (.same _ (.same _ (.same _ (.same _ (.same _ (.same _ (.same _ (.same _ (.same _ (.same _ (.same _ (.same _ .nil))))))))))))) (fun x618 => (st_nx (b := Ct.nx x618) (s := x618) rfl (.same _ (.same _ (.same _ (.same _ (.any rfl (.any rfl (.same _ (.same _ (.same _ (.same _ (.same _ (.same _ .nil)))))))))))))))))) (fun x608 => (st_ret (ev_var (i := 3) rfl)))))))))))))))) (by simp only [m__law_cost, Tr.ret_bind, Tr.bind_assoc, Tr.bind_ret, asB_bool, asI_int, on1_one, on2g_two, on2_two, on3_three])⟩)
theorem ok__law_cost (T : Txt w K mg) : FnOk P w K mg base CX0 24 T.d__law_cost.f T.d__law_cost.fd ["kind", "p"] (SpN K 2 (fun ds => match ds with | [v_kind, v_p] => m__law_cost 12 v_kind v_p | _ => Tr.bad)) := (rk__law_cost T 12)
theorem sc__law_distance : FnScope ["kind", "v", "w", "known"] ["kind", "v", "w", "known"] (defScope s__law_distance) := ⟨rfl, rfl, rfl, by decide +kernel, rfl, by decide +kernel, by decide +kernel⟩
theorem sc__law_far : FnScope ["kind", "v", "w", "known", "word", "line", "y", "x", "one", "two", "told", "alone", "cut", "fresh", "at", "add", "k", "key", "entry"] ["kind", "v", "w", "known"] (defScope s__law_far) := ⟨rfl, rfl, rfl, by decide +kernel, rfl, by decide +kernel, by decide +kernel⟩
theorem rk__law_distance (T : Txt w K mg) : ∀ n : Nat, (FnOk P w K mg base CX0 (12 + n) T.d__law_distance.f T.d__law_distance.fd ["kind", "v", "w", "known"] (SpM K w memI (fun F ds => match ds with | [a, b, c] => m__law_distance n F a b c | _ => Tr.bad))) ∧ (FnOk P w K mg base CX0 (12 + n) T.d__law_far.f T.d__law_far.fd ["kind", "v", "w", "known"] (SpM K w memI (fun F ds => match ds with | [a, b, c] => m__law_far n F a b c | _ => Tr.bad)))
  | 0 => ⟨fn_never (spM_bad fun F ds hl => match ds, hl with | [a, b, c], _ => by simp only [m__law_distance]), fn_never (spM_bad fun F ds hl => match ds, hl with | [a, b, c], _ => by simp only [m__law_far])⟩
  | n + 1 => by
    have ih := rk__law_distance T n
    have ih__law_distance := ih.1
    have ih__law_far := ih.2
    refine ⟨?_, ?_⟩
    · exact fn_memo (cl := T.cl) T.d__law_distance.F sc__law_distance rfl (fun cdv A outer s H E hr => ⟨_, (pss_cons (ps_if (pt_cmpR (op_eqP (room64 hr)) (pv 1) (pv 2) (nomark _)) (pss_cons (ps_ret pe_int) pss_nil) pss_nil) (pss_cons (ps_if (pt_cmp (Cgu.pc_disno (room16 hr) (pe_tupF (pa_cons (pv 0) (pa_cons (pv 1) (pa_cons (pv 2) pa_nil)))) (pv 3))) (pss_cons (Cgu.ps_dwrite (room16 hr) (pv 3) (pe_tupF (pa_cons (pv 0) (pa_cons (pv 1) (pa_cons (pv 2) pa_nil)))) (pe_call ih__law_far (hr.mono (Nat.le_refl _)) (by rfl) T.d__law_far.g T.d__law_far.F.kp T.d__law_far.b .nil pass0 (pa_cons (pv 0) (pa_cons (pv 1) (pa_cons (pv 2) (pa_cons (pv 3) pa_nil))))) (by rfl)) pss_nil) pss_nil) (pss_cons (ps_ret (Cgu.pe_dread (room16 hr) (pv 3) (pe_tupF (pa_cons (pv 0) (pa_cons (pv 1) (pa_cons (pv 2) pa_nil)))) (fun _ _ => rfl))) pss_nil))), fun F a ds hl => match ds, hl with
      | [v_kind, v_v, v_w], _ => StM.eq ((stm_if (et_cmp rc_eq (ev_var (i := 1) rfl) (ev_var (i := 2) rfl)) (stm_ret (mi := 3) rfl ev_int) (stm_memoG rfl rfl rfl rfl (ev_callM (mi := 3) (m := fun F ds => match ds with | [a, b, c] => m__law_far n F a b c | _ => Tr.bad) rfl (ev_var (i := 0) rfl) (ev_var (i := 1) rfl) (ev_var (i := 2) rfl))))) (by simp only [m__law_distance, Tr.ret_bind, Tr.bind_assoc, Tr.bind_ret, asB_bool, asI_int, on1_one, on2g_two, on2_two, on3_three])⟩)
    · exact fn_memo (cl := T.cl) T.d__law_far.F sc__law_far rfl (fun cdv A outer s H E hr => ⟨_, (pss_cons (ps_set (i := 4) sc__law_far.nd rfl (Or.inl rfl) (pe_ix ix_seq (pv 0) pe_int (fun _ _ => rfl))) (pss_cons (ps_if (PW.pt (pw_or (pt_cmpR (op_eqP (room64 hr)) (pv 4) pe_str (nomark _)) (pw_or1 (PW.pt (pw_and (pt_cmpR (op_eqP (room64 hr)) (pv 4) pe_str (nomark _)) (pw_and1 (pt_cmpR (op_neP (room64 hr)) (pe_ix ix_seq (pv 1) pe_int (fun _ _ => rfl)) (pe_ix ix_seq (pv 2) pe_int (fun _ _ => rfl)) (nomark _)))))))) (pss_cons (ps_ret (pe_op op_addA (pe_call (ok__law_weight T) (hr.mono (Nat.le_trans (by decide : 12 ≤ 12) (Nat.le_add_right 12 _))) (by rfl) T.d__law_weight.g T.d__law_weight.F.kp T.d__law_weight.b .nil pass0 (pa_cons (pv 0) (pa_cons (pv 1) pa_nil))) (pe_call (ok__law_weight T) (hr.mono (Nat.le_trans (by decide : 12 ≤ 12) (Nat.le_add_right 12 _))) (by rfl) T.d__law_weight.g T.d__law_weight.F.kp T.d__law_weight.b .nil pass0 (pa_cons (pv 0) (pa_cons (pv 2) pa_nil))))) pss_nil) pss_nil) (pss_cons (ps_if (pt_cmpR (op_eqP (room64 hr)) (pv 4) pe_str (nomark _)) (pss_cons (ps_ret pe_never) pss_nil) pss_nil) (pss_cons (ps_if (pt_cmpR (op_eqP (room64 hr)) (pv 4) pe_str (nomark _)) (pss_cons (ps_ret pe_never) pss_nil) pss_nil) (pss_cons (ps_if (pt_cmpR (op_eqP (room64 hr)) (pv 4) pe_str (nomark _)) (pss_cons (ps_ret pe_never) pss_nil) pss_nil) (pss_cons (ps_asg (pe_tup (pa_cons (pe_ifExp (pt_cmpR (op_neP (room64 hr)) (pv 4) pe_str (nomark _)) pe_never pe_dnewK) (pa_cons (pe_ifExp (pt_cmpR (op_neP (room64 hr)) (pv 4) pe_str (nomark _)) pe_never pe_dnewK) pa_nil))) (pg_tup rfl (pgs_cons (pg_name (i := 8) sc__law_far.nd rfl (Or.inr rfl)) (pgs_cons (pg_name (i := 9) sc__law_far.nd rfl (Or.inr rfl)) pgs_nil)))) (pss_cons (ps_if (pt_cmpR (op_eqP (room64 hr)) (pv 4) pe_str (nomark _)) (pss_cons (ps_ret pe_never) pss_nil) pss_nil) (pss_cons (ps_if (pt_cmpR (op_eqP (room64 hr)) (pv 4) pe_str (nomark _)) (pss_cons (ps_set (i := 10) sc__law_far.nd rfl (Or.inl rfl) pe_never) (pss_cons (ps_set (i := 11) sc__law_far.nd rfl (Or.inl rfl) pe_never) (pss_cons (ps_ret pe_never) pss_nil))) pss_nil) (pss_cons (ps_set (i := 5) sc__law_far.nd rfl (Or.inl rfl) (pe_lst (pa_cons pe_int pa_nil))) (pss_cons (ps_for PassesOwn.never rfl (pi_seq (pv 2)) (pg_name (i := 6) sc__law_far.nd rfl (Or.inl rfl)) (pss_cons (ps_expr (pe_bm PySem.F.plainAttrs_list PySem.F.slot_list_append PySem.F.type_list_append mt_append (pv 5) (pa_cons (pe_op op_addA (pe_ix ix_seq (pv 5) (pe_op op_sub (pe_callB call_len_seq (by rfl) T.z_len (by decide +kernel) (pa_cons (pv 5) pa_nil)) pe_int) (fun _ _ => rfl)) (pe_call (ok__law_weight T) (hr.mono (Nat.le_trans (by decide : 12 ≤ 12) (Nat.le_add_right 12 _))) (by rfl) T.d__law_weight.g T.d__law_weight.F.kp T.d__law_weight.b .nil pass0 (pa_cons (pe_ix ix_seq (pv 0) pe_int (fun _ _ => rfl)) (pa_cons (pv 6) pa_nil)))) pa_nil))) pss_nil)) (pss_cons (ps_for PassesOwn.never rfl (pi_seq (pv 1)) (pg_name (i := 7) sc__law_far.nd rfl (Or.inl rfl)) (pss_cons (ps_set (i := 12) sc__law_far.nd rfl (Or.inl rfl) (pe_call (ok__law_weight T) (hr.mono (Nat.le_trans (by decide : 12 ≤ 12) (Nat.le_add_right 12 _))) (by rfl) T.d__law_weight.g T.d__law_weight.F.kp T.d__law_weight.b .nil pass0 (pa_cons (pe_ix ix_seq (pv 0) pe_int (fun _ _ => rfl)) (pa_cons (pv 7) pa_nil)))) (pss_cons (ps_set (i := 13) sc__law_far.nd rfl (Or.inl rfl) (pe_lst (pa_cons (pe_op op_addA (pe_ix ix_seq (pv 5) pe_int (fun _ _ => rfl)) (pv 12)) pa_nil))) (pss_cons (ps_for PassesOwn.never rfl (pi_range1 (by rfl) T.z_range (pa_cons (pe_callB call_len_seq (by rfl) T.z_len (by decide +kernel) (pa_cons (pv 2) pa_nil)) pa_nil)) (pg_name (i := 14) sc__law_far.nd rfl (Or.inl rfl)) (pss_cons (ps_set (i := 15) sc__law_far.nd rfl (Or.inl rfl) (pe_call (ok__law_weight T) (hr.mono (Nat.le_trans (by decide : 12 ≤ 12) (Nat.le_add_right 12 _))) (by rfl) T.d__law_weight.g T.d__law_weight.F.kp T.d__law_weight.b .nil pass0 (pa_cons (pe_ix ix_seq (pv 0) pe_int (fun _ _ => rfl)) (pa_cons (pe_ix ix_seq (pv 2) (pv 14) (fun _ _ => rfl)) pa_nil)))) (pss_cons (ps_expr (pe_bm PySem.F.plainAttrs_list PySem.F.slot_list_append PySem.F.type_list_append mt_append (pv 13) (pa_cons (pe_callB (call_min3 rfl) (by rfl) T.z_min (by decide +kernel) (pa_cons (pe_op op_addA (pe_ix ix_seq (pv 5) (pe_op op_addA (pv 14) pe_int) (fun _ _ => rfl)) (pv 12)) (pa_cons (pe_op op_addA (pe_ix ix_seq (pv 13) (pv 14) (fun _ _ => rfl)) (pv 15)) (pa_cons (pe_op op_addA (pe_ix ix_seq (pv 5) (pv 14) (fun _ _ => rfl)) (pe_call ih__law_distance (hr.mono (Nat.le_refl _)) (by rfl) T.d__law_distance.g T.d__law_distance.F.kp T.d__law_distance.b .nil pass0 (pa_cons (pe_ix ix_seq (pv 0) pe_int (fun _ _ => rfl)) (pa_cons (pv 7) (pa_cons (pe_ix ix_seq (pv 2) (pv 14) (fun _ _ => rfl)) (pa_cons (pv 3) pa_nil)))))) pa_nil)))) pa_nil))) pss_nil))) (pss_cons (ps_set (i := 5) sc__law_far.nd rfl (Or.inl rfl) (pv 13)) pss_nil))))) (pss_cons (ps_ret (pe_ix ix_seq (pv 5) (pe_callB call_len_seq (by rfl) T.z_len (by decide +kernel) (pa_cons (pv 2) pa_nil)) (fun _ _ => rfl))) pss_nil)))))))))))), fun F a ds hl => match ds, hl with
      | [v_kind, v_v, v_w], _ => StM.eq ((stm_pre (S1 := PyData) (ρs := fun (x634 : PyData) => [.dat v_kind, .dat v_v, .dat v_w, memS K w (memI F) F a, .dat x634, .any, .any, .any, .any, .any, .any, .any, .any, .any, .any, .any, .any, .any, .any]) (st_asg (i := 4) (fun _ _ => rfl) (ev_op rr_ix (ev_var (i := 0) rfl) ev_int) (fun v_word => (st_nx (b := Ct.nx v_word) (s := v_word) rfl (.same _ (.same _ (.same _ (.same _ (.same _ (.same _ (.same _ (.same _ (.same _ (.same _ (.same _ (.same _ (.same _ (.same _ (.same _ (.same _ (.same _ (.same _ (.same _ .nil)))))))))))))))))))))) (fun x634 => (stm_if (et_or (et_cmp rc_eq (ev_var (i := 4) rfl) ev_str) (et_and (et_cmp rc_eq (ev_var (i := 4) rfl) ev_str) (et_cmp rc_ne (ev_op rr_ix (ev_var (i := 1) rfl) ev_int) (ev_op rr_ix (ev_var (i := 2) rfl) ev_int)))) (stm_ret (mi := 3) rfl (ev_op rr_add (ev_callN (ea_cons (ev_var (i := 0) rfl) (ea_cons (ev_var (i := 1) rfl) ea_nil))) (ev_callN (ea_cons (ev_var (i := 0) rfl) (ea_cons (ev_var (i := 2) rfl) ea_nil))))) (stm_pre (S1 := PyData) (ρs := fun (x641 : PyData) => [.dat v_kind, .dat v_v, .dat v_w, memS K w (memI F) F a, .dat x634, .dat x641, .any, .any, .any, .any, .any, .any, .any, .any, .any, .any, .any, .any, .any]) (st_if (et_cmp rc_eq (ev_var (i := 4) rfl) ev_str) st_dead (st_if (et_cmp rc_eq (ev_var (i := 4) rfl) ev_str) st_dead (st_if (et_cmp rc_eq (ev_var (i := 4) rfl) ev_str) st_dead (st_par2C (fun _ _ => rfl) (i := 8) (j := 9) (ev_noneD (et_cmp rc_ne (ev_var (i := 4) rfl) ev_str)) (ev_noneD (et_cmp rc_ne (ev_var (i := 4) rfl) ev_str)) rfl rfl (st_if (et_cmp rc_eq (ev_var (i := 4) rfl) ev_str) st_dead (st_if (et_cmp rc_eq (ev_var (i := 4) rfl) ev_str) st_dead (st_lstOwn (fun _ _ => rfl) (i := 5) (ea_cons ev_int ea_nil) (fun v_line => (st_forS1n (S1 := PyData) (ρs := fun (x642 : PyData) => [.dat v_kind, .dat v_v, .dat v_w, memS K w (memI F) F a, .dat x634, .acc (unL x642), .any, .any, .any, .any, .any, .any, .any, .any, .any, .any, .any, .any, .any]) (r := Ct.rt) (i := 6) (s0 := v_line) (fun _ _ => rfl) (fun _ => rfl) (ev_var (i := 2) rfl) (.same _ (.same _ (.same _ (.same _ (.same _ (.same _ (.same _ (.same _ (.same _ (.same _ (.same _ (.same _ (.same _ (.same _ (.same _ (.same _ (.same _ (.same _ (.same _ .nil))))))))))))))))))) (fun _ => rfl) (fun v_y x642 => (st_append (fun _ _ => rfl) (i := 5) (a := x642) rfl (ev_op rr_add (ev_ixOwn (i := 5) (a := x642) rfl (ev_op rr_sub (ev_lenOwn (i := 5) (a := x642) rfl) ev_int)) (ev_callN (ea_cons (ev_op rr_ix (ev_var (i := 0) rfl) ev_int) (ea_cons (ev_var (i := 6) rfl) ea_nil)))) (fun v_line => (st_nx (b := v_line) (s := v_line) rfl (.same _ (.same _ (.same _ (.same _ (.same _ (.same _ (.any rfl (.same _ (.same _ (.same _ (.same _ (.same _ (.same _ (.same _ (.same _ (.same _ (.same _ (.same _ (.same _ .nil))))))))))))))))))))))) (fun x642 => (st_freeze (fun _ _ => rfl) (i := 5) rfl (st_forS1 (S1 := PyData) (ρs := fun (x648 : PyData) => [.dat v_kind, .dat v_v, .dat v_w, memS K w (memI F) F a, .dat x634, .dat x648, .any, .any, .any, .any, .any, .any, .any, .any, .any, .any, .any, .any, .any]) (r := Ct.rt) (i := 7) (s0 := (PyData.list (unL x642))) (fun _ _ => rfl) (fun _ => rfl) (ev_var (i := 1) rfl) (.same _ (.same _ (.same _ (.same _ (.same _ (.same _ (.same _ (.same _ (.same _ (.same _ (.same _ (.same _ (.same _ (.same _ (.same _ (.same _ (.same _ (.same _ (.same _ .nil))))))))))))))))))) (fun _ => rfl) (fun v_x x648 => (st_asg (i := 12) (fun _ _ => rfl) (ev_callN (ea_cons (ev_op rr_ix (ev_var (i := 0) rfl) ev_int) (ea_cons (ev_var (i := 7) rfl) ea_nil))) (fun v_cut => (st_lstOwn (fun _ _ => rfl) (i := 13) (ea_cons (ev_op rr_add (ev_op rr_ix (ev_var (i := 5) rfl) ev_int) (ev_var (i := 12) rfl)) ea_nil) (fun v_fresh => (st_forR11n (S1 := PyData) (ρs := fun (x651 : PyData) => [.dat v_kind, .dat v_v, .dat v_w, memS K w (memI F) F a, .dat x634, .dat x648, .any, .dat v_x, .any, .any, .any, .any, .dat v_cut, .acc (unL x651), .any, .any, .any, .any, .any]) (r := Ct.rt) (i := 14) (s0 := v_fresh) (fun _ _ => rfl) (fun _ => rfl) (ev_cb1 rk_len (ev_var (i := 2) rfl)) (.same _ (.same _ (.same _ (.same _ (.same _ (.same _ (.same _ (.same _ (.same _ (.same _ (.same _ (.same _ (.same _ (.same _ (.same _ (.same _ (.same _ (.same _ (.same _ .nil))))))))))))))))))) (fun _ => rfl) (fun v_at x651 => (st_asg (i := 15) (fun _ _ => rfl) (ev_callN (ea_cons (ev_op rr_ix (ev_var (i := 0) rfl) ev_int) (ea_cons (ev_op rr_ix (ev_var (i := 2) rfl) (ev_var (i := 14) rfl)) ea_nil))) (fun v_add => (st_append (fun _ _ => rfl) (i := 13) (a := x651) rfl (ev_cb rk_min3 (ea_cons (ev_op rr_add (ev_op rr_ix (ev_var (i := 5) rfl) (ev_op rr_add (ev_var (i := 14) rfl) ev_int)) (ev_var (i := 12) rfl)) (ea_cons (ev_op rr_add (ev_ixOwn (i := 13) (a := x651) rfl (ev_var (i := 14) rfl)) (ev_var (i := 15) rfl)) (ea_cons (ev_op rr_add (ev_op rr_ix (ev_var (i := 5) rfl) (ev_var (i := 14) rfl)) (ev_callM (mi := 3) (m := fun F ds => match ds with | [a, b, c] => m__law_distance n F a b c | _ => Tr.bad) rfl (ev_op rr_ix (ev_var (i := 0) rfl) ev_int) (ev_var (i := 7) rfl) (ev_op rr_ix (ev_var (i := 2) rfl) (ev_var (i := 14) rfl)))) ea_nil)))) (fun v_fresh => (st_nx (b := v_fresh) (s := v_fresh) rfl (.same _ (.same _ (.same _ (.same _ (.same _ (.same _ (.same _ (.same _ (.same _ (.same _ (.same _ (.same _ (.same _ (.same _ (.any rfl (.any rfl (.same _ (.same _ (.same _ .nil))))))))))))))))))))))))) (fun x651 => (st_freeze (fun _ _ => rfl) (i := 13) rfl (st_asg (i := 5) (fun _ _ => rfl) (ev_var (i := 13) rfl) (fun v_line => (st_nx (b := Ct.nx v_line) (s := v_line) rfl (.same _ (.same _ (.same _ (.same _ (.same _ (.same _ (.same _ (.any rfl (.same _ (.same _ (.same _ (.same _ (.any rfl (.any rfl (.same _ (.same _ (.same _ (.same _ (.same _ .nil)))))))))))))))))))))))))))))) (fun x648 => (st_nx (b := Ct.nx x648) (s := x648) rfl (.same _ (.same _ (.same _ (.same _ (.same _ (.same _ (.same _ (.same _ (.same _ (.same _ (.same _ (.same _ (.same _ (.same _ (.same _ (.same _ (.same _ (.same _ (.same _ .nil))))))))))))))))))))))))))))))))) (fun x641 => (stm_ret (mi := 3) rfl (ev_op rr_ix (ev_var (i := 5) rfl) (ev_cb1 rk_len (ev_var (i := 2) rfl))))) (pre_seq (pre_seq (pre_seq (pre_seq (pre_seq (pre_seq (pre_seq (pre_seq (pre_seq pre_nil)))))))))))) (pre_seq pre_nil))) (by simp only [m__law_far, Tr.ret_bind, Tr.bind_assoc, Tr.bind_ret, asB_bool, asI_int, on1_one, on2g_two, on2_two, on3_three])⟩)
theorem ok__law_distance (T : Txt w K mg) : FnOk P w K mg base CX0 24 T.d__law_distance.f T.d__law_distance.fd ["kind", "v", "w", "known"] (SpM K w memI (fun F ds => match ds with | [a, b, c] => m__law_distance 12 F a b c | _ => Tr.bad)) := (rk__law_distance T 12).1
theorem sc__law_edited : FnScope ["box", "v", "fresh", "w", "turn", "at", "many", "sort", "stretch", "to", "k"] ["box", "v", "fresh"] (defScope s__law_edited) := ⟨rfl, rfl, rfl, by decide +kernel, rfl, by decide +kernel, by decide +kernel⟩
theorem ok__law_edited (T : Txt w K mg) : FnOk P w K mg base CX0 3 T.d__law_edited.f T.d__law_edited.fd ["box", "v", "fresh"] (SpB K 2 (fun ds => match ds with | [v_v, v_fresh] => m__law_edited v_v v_fresh | _ => Tr.bad)) :=
  fn_box (cl := T.cl) T.d__law_edited.F sc__law_edited rfl (fun cdv A outer s H E hr => ⟨_, (pss_cons (ps_set (i := 3) sc__law_edited.nd rfl (Or.inl rfl) (pe_callTy call_list_of (by rfl) T.z_list (by decide +kernel) (pa_cons (pv 1) pa_nil))) (pss_cons (ps_for PassesOwn.never rfl (pi_range1 (by rfl) T.z_range (pa_cons (pe_op op_addA pe_int (pe_call (ok__law_take T) (hr.mono (by decide)) (by rfl) T.d__law_take.g T.d__law_take.F.kp T.d__law_take.b .nil pass0 (pa_cons (pv 0) (pa_cons pe_int pa_nil)))) pa_nil)) (pg_name (i := 4) sc__law_edited.nd rfl (Or.inl rfl)) (pss_cons (ps_set (i := 5) sc__law_edited.nd rfl (Or.inl rfl) (pe_call (ok__law_take T) (hr.mono (by decide)) (by rfl) T.d__law_take.g T.d__law_take.F.kp T.d__law_take.b .nil pass0 (pa_cons (pv 0) (pa_cons (pe_op op_addA (pe_callB call_len_seq (by rfl) T.z_len (by decide +kernel) (pa_cons (pv 3) pa_nil)) pe_int) pa_nil)))) (pss_cons (ps_set (i := 6) sc__law_edited.nd rfl (Or.inl rfl) (pe_op op_addA pe_int (pe_call (ok__law_take T) (hr.mono (by decide)) (by rfl) T.d__law_take.g T.d__law_take.F.kp T.d__law_take.b .nil pass0 (pa_cons (pv 0) (pa_cons (pe_call (ok__law_pick T) (hr.mono (by decide)) (by rfl) T.d__law_pick.g T.d__law_pick.F.kp T.d__law_pick.b .nil pass0 (pa_cons (pv 0) (pa_cons (pe_lst (pa_cons pe_int (pa_cons pe_int (pa_cons pe_int pa_nil)))) pa_nil))) pa_nil))))) (pss_cons (ps_set (i := 7) sc__law_edited.nd rfl (Or.inl rfl) (pe_call (ok__law_take T) (hr.mono (by decide)) (by rfl) T.d__law_take.g T.d__law_take.F.kp T.d__law_take.b .nil pass0 (pa_cons (pv 0) (pa_cons pe_int pa_nil)))) (pss_cons (ps_if (pt_cmpR (op_eqP (room64 hr)) (pv 7) pe_int (nomark _)) (pss_cons (ps_set (i := 3) sc__law_edited.nd rfl (Or.inl rfl) (pe_op op_addA (pe_slice sl_P (pv 3) po_none (po_some (pv 5))) (pe_slice sl_P (pv 3) (po_some (pe_op op_addA (pv 5) (pv 6))) po_none))) pss_nil) (pss_cons (ps_if (pt_cmpR (op_eqP (room64 hr)) (pv 7) pe_int (nomark _)) (pss_cons (ps_set (i := 3) sc__law_edited.nd rfl (Or.inl rfl) (pe_op op_addA (pe_op op_addA (pe_slice sl_P (pv 3) po_none (po_some (pv 5))) (pe_lc (own := [("k", 10)]) rfl sc__law_edited.nd (pi_range1 (by rfl) T.z_range (pa_cons (pv 6) pa_nil)) (blkOk_by (N := ["box", "v", "fresh", "w", "turn", "at", "many", "sort", "stretch", "to", "k"]) (sc := defScope s__law_edited) (by decide +kernel)) (fun _ _ _ _ _ => pg_name (i := 10) sc__law_edited.nd rfl (Or.inl rfl)) (fun _ _ _ _ _ => pts_nil) (fun _ _ _ _ _ => (pe_call (ok__law_pick T) (hr.mono (by decide)) (by rfl) T.d__law_pick.g T.d__law_pick.F.kp T.d__law_pick.b .nil pass0 (pa_cons (pv 0) (pa_cons (pv 2) pa_nil)))))) (pe_slice sl_P (pv 3) (po_some (pv 5)) po_none))) pss_nil) (pss_cons (ps_if (pt_cmpR (op_eqP (room64 hr)) (pv 7) pe_int (nomark _)) (pss_cons (ps_set (i := 8) sc__law_edited.nd rfl (Or.inl rfl) (pe_slice sl_P (pv 3) (po_some (pv 5)) (po_some (pe_op op_addA (pv 5) (pv 6))))) (pss_cons (ps_set (i := 3) sc__law_edited.nd rfl (Or.inl rfl) (pe_op op_addA (pe_slice sl_P (pv 3) po_none (po_some (pv 5))) (pe_slice sl_P (pv 3) (po_some (pe_op op_addA (pv 5) (pv 6))) po_none))) (pss_cons (ps_set (i := 9) sc__law_edited.nd rfl (Or.inl rfl) (pe_call (ok__law_take T) (hr.mono (by decide)) (by rfl) T.d__law_take.g T.d__law_take.F.kp T.d__law_take.b .nil pass0 (pa_cons (pv 0) (pa_cons (pe_op op_addA (pe_callB call_len_seq (by rfl) T.z_len (by decide +kernel) (pa_cons (pv 3) pa_nil)) pe_int) pa_nil)))) (pss_cons (ps_set (i := 3) sc__law_edited.nd rfl (Or.inl rfl) (pe_op op_addA (pe_op op_addA (pe_slice sl_P (pv 3) po_none (po_some (pv 9))) (pv 8)) (pe_slice sl_P (pv 3) (po_some (pv 9)) po_none))) pss_nil)))) (pss_cons (ps_for PassesOwn.never rfl (pi_range2 (by rfl) T.z_range (pa_cons (pv 5) (pa_cons (pe_callB (call_min2 rfl) (by rfl) T.z_min (by decide +kernel) (pa_cons (pe_callB call_len_seq (by rfl) T.z_len (by decide +kernel) (pa_cons (pv 3) pa_nil)) (pa_cons (pe_op op_addA (pv 5) pe_int) pa_nil))) pa_nil))) (pg_name (i := 10) sc__law_edited.nd rfl (Or.inl rfl)) (pss_cons (ps_asg (pe_call (ok__law_pick T) (hr.mono (by decide)) (by rfl) T.d__law_pick.g T.d__law_pick.F.kp T.d__law_pick.b .nil pass0 (pa_cons (pv 0) (pa_cons (pv 2) pa_nil))) (pg_sub (pv 3) (pv 10) set_list)) pss_nil)) pss_nil)) pss_nil)) pss_nil)) pss_nil))))) (pss_cons (ps_ret (pe_callTy call_tupleF (by rfl) T.z_tuple (by decide +kernel) (pa_cons (pv 3) pa_nil))) pss_nil))), fun ds hl => match ds, hl with
      | [v_v, v_fresh], _ => StG.eq ((st_listOwn (fun _ _ => rfl) (i := 3) (ev_var (i := 1) rfl) (fun v_w => (st_forR11 (S1 := PyData) (ρs := fun (x677 : PyData) => [.box, .dat v_v, .dat v_fresh, .acc (unL x677), .any, .any, .any, .any, .any, .any, .any]) (r := id) (i := 4) (s0 := v_w) (fun _ _ => rfl) (fun _ => rfl) (ev_op rr_add ev_int (ev_callB (i := 0) rfl (ea_cons ev_int ea_nil))) (.same _ (.same _ (.same _ (.same _ (.same _ (.same _ (.same _ (.same _ (.same _ (.same _ (.same _ .nil))))))))))) (fun _ => rfl) (fun v_turn x677 => (st_asg (i := 5) (fun _ _ => rfl) (ev_callB (i := 0) rfl (ea_cons (ev_op rr_add (ev_lenOwn (i := 3) (a := x677) rfl) ev_int) ea_nil)) (fun v_at => (st_asg (i := 6) (fun _ _ => rfl) (ev_op rr_add ev_int (ev_callB (i := 0) rfl (ea_cons (ev_callB (i := 0) rfl (ea_cons (ev_lst (ea_cons ev_int (ea_cons ev_int (ea_cons ev_int ea_nil)))) ea_nil)) ea_nil))) (fun v_many => (st_asg (i := 7) (fun _ _ => rfl) (ev_callB (i := 0) rfl (ea_cons ev_int ea_nil)) (fun v_sort => (st_ifc (S1 := PyData) (ρs := fun (x681 : PyData) => [.box, .dat v_v, .dat v_fresh, .acc (unL x681), .dat v_turn, .dat v_at, .dat v_many, .dat v_sort, .any, .any, .any]) (r := Ct.rt) (fun _ _ => rfl) (fun _ => rfl) (et_cmp rc_eq (ev_var (i := 7) rfl) ev_int) (st_catSelf (fun _ _ => rfl) (i := 3) (a := x677) rfl (ev_slOwn (i := 3) (a := x677) rfl eo_none (eo_some (ev_var (i := 5) rfl))) (ev_slOwn (i := 3) (a := x677) rfl (eo_some (ev_op rr_add (ev_var (i := 5) rfl) (ev_var (i := 6) rfl))) eo_none) (fun v_w => (st_nx (b := Ct.nx v_w) (s := v_w) rfl (.same _ (.same _ (.same _ (.same _ (.same _ (.same _ (.same _ (.same _ (.same _ (.same _ (.same _ .nil)))))))))))))) (st_ifc (S1 := PyData) (ρs := fun (x687 : PyData) => [.box, .dat v_v, .dat v_fresh, .acc (unL x687), .dat v_turn, .dat v_at, .dat v_many, .dat v_sort, .any, .any, .any]) (r := Ct.rt) (fun _ _ => rfl) (fun _ => rfl) (et_cmp rc_eq (ev_var (i := 7) rfl) ev_int) (st_catSelf (fun _ _ => rfl) (i := 3) (a := x677) rfl (ev_op rr_add (ev_slOwn (i := 3) (a := x677) rfl eo_none (eo_some (ev_var (i := 5) rfl))) (ev_lcR1n (fun _ _ => rfl) (ev_var (i := 6) rfl) rfl (fun v_k => (ev_callB (i := 0) rfl (ea_cons (ev_var (i := 2) rfl) ea_nil))))) (ev_slOwn (i := 3) (a := x677) rfl (eo_some (ev_var (i := 5) rfl)) eo_none) (fun v_w => (st_nx (b := Ct.nx v_w) (s := v_w) rfl (.same _ (.same _ (.same _ (.same _ (.same _ (.same _ (.same _ (.same _ (.same _ (.same _ (.same _ .nil)))))))))))))) (st_ifc (S1 := PyData) (ρs := fun (x696 : PyData) => [.box, .dat v_v, .dat v_fresh, .acc (unL x696), .dat v_turn, .dat v_at, .dat v_many, .dat v_sort, .any, .any, .any]) (r := Ct.rt) (fun _ _ => rfl) (fun _ => rfl) (et_cmp rc_eq (ev_var (i := 7) rfl) ev_int) (st_asg (i := 8) (fun _ _ => rfl) (ev_slOwn (i := 3) (a := x677) rfl (eo_some (ev_var (i := 5) rfl)) (eo_some (ev_op rr_add (ev_var (i := 5) rfl) (ev_var (i := 6) rfl)))) (fun v_stretch => (st_catSelf (fun _ _ => rfl) (i := 3) (a := x677) rfl (ev_slOwn (i := 3) (a := x677) rfl eo_none (eo_some (ev_var (i := 5) rfl))) (ev_slOwn (i := 3) (a := x677) rfl (eo_some (ev_op rr_add (ev_var (i := 5) rfl) (ev_var (i := 6) rfl))) eo_none) (fun v_w => (st_asg (i := 9) (fun _ _ => rfl) (ev_callB (i := 0) rfl (ea_cons (ev_op rr_add (ev_lenOwn (i := 3) (a := v_w) rfl) ev_int) ea_nil)) (fun v_to => (st_catSelf (fun _ _ => rfl) (i := 3) (a := v_w) rfl (ev_op rr_add (ev_slOwn (i := 3) (a := v_w) rfl eo_none (eo_some (ev_var (i := 9) rfl))) (ev_var (i := 8) rfl)) (ev_slOwn (i := 3) (a := v_w) rfl (eo_some (ev_var (i := 9) rfl)) eo_none) (fun v_w => (st_nx (b := Ct.nx v_w) (s := v_w) rfl (.same _ (.same _ (.same _ (.same _ (.same _ (.same _ (.same _ (.same _ (.any rfl (.any rfl (.same _ .nil)))))))))))))))))))) (st_forR21 (S1 := PyData) (ρs := fun (x711 : PyData) => [.box, .dat v_v, .dat v_fresh, .acc (unL x711), .dat v_turn, .dat v_at, .dat v_many, .dat v_sort, .any, .any, .any]) (r := Ct.rt) (i := 10) (s0 := x677) (fun _ _ => rfl) (fun _ => rfl) (ev_var (i := 5) rfl) (ev_cb rk_min2 (ea_cons (ev_lenOwn (i := 3) (a := x677) rfl) (ea_cons (ev_op rr_add (ev_var (i := 5) rfl) ev_int) ea_nil))) (.same _ (.same _ (.same _ (.same _ (.same _ (.same _ (.same _ (.same _ (.same _ (.same _ (.same _ .nil))))))))))) (fun _ => rfl) (fun v_k x711 => (st_setI (fun _ _ => rfl) (i := 3) (a := x711) rfl (ev_callB (i := 0) rfl (ea_cons (ev_var (i := 2) rfl) ea_nil)) (ev_var (i := 10) rfl) (fun v_w => (st_nx (b := Ct.nx v_w) (s := v_w) rfl (.same _ (.same _ (.same _ (.same _ (.same _ (.same _ (.same _ (.same _ (.same _ (.same _ (.any rfl .nil))))))))))))))) (fun x711 => (st_nx (b := Ct.nx x711) (s := x711) rfl (.same _ (.same _ (.same _ (.same _ (.same _ (.same _ (.same _ (.same _ (.same _ (.same _ (.same _ .nil)))))))))))))) (fun x696 => (st_nx (b := Ct.nx x696) (s := x696) rfl (.same _ (.same _ (.same _ (.same _ (.same _ (.same _ (.same _ (.same _ (.same _ (.same _ (.same _ .nil)))))))))))))) (fun x687 => (st_nx (b := Ct.nx x687) (s := x687) rfl (.same _ (.same _ (.same _ (.same _ (.same _ (.same _ (.same _ (.same _ (.same _ (.same _ (.same _ .nil)))))))))))))) (fun x681 => (st_nx (b := Ct.nx x681) (s := x681) rfl (.same _ (.same _ (.same _ (.same _ (.any rfl (.any rfl (.any rfl (.any rfl (.same _ (.same _ (.same _ .nil))))))))))))))))))))) (fun x677 => (st_freeze (fun _ _ => rfl) (i := 3) rfl (st_ret (ev_cb1 rk_tuple (ev_var (i := 3) rfl))))))))) (by simp only [m__law_edited, Tr.ret_bind, Tr.bind_assoc, Tr.bind_ret, asB_bool, asI_int, on1_one, on2g_two, on2_two, on3_three])⟩)
theorem sc_law : FnScope ["script", "box", "kind", "v", "w", "due", "p", "paper", "inner", "fresh", "many", "step", "n", "k"] ["script"] (defScope s_law) := ⟨rfl, rfl, rfl, by decide +kernel, rfl, by decide +kernel, by decide +kernel⟩
theorem ok_law (T : Txt w K mg) : FnAt callerA P w K mg base T.d_law.f T.d_law.fd ["script"] (SpN K 1 (fun ds => match ds with | [v_script] => m_law v_script | _ => Tr.bad)) :=
  fn_pureAt (cl := T.cl) (k := 37) ⟨rfl, by decide, by decide⟩ T.d_law.F sc_law (fun cdv outer s H E hr => ⟨_, (pss_cons (ps_set (i := 1) sc_law.nd rfl (Or.inr rfl) (pe_call (ok__law_box T) (hr.mono (by decide)) (by rfl) T.d__law_box.g T.d__law_box.F.kp T.d__law_box.b .nil pass0 (pa_cons (pv 0) pa_nil))) (pss_cons (ps_if (pt_cmpR (op_eqP (room64 hr)) (pe_call (ok__law_take T) (hr.mono (by decide)) (by rfl) T.d__law_take.g T.d__law_take.F.kp T.d__law_take.b .nil pass0 (pa_cons (pv 1) (pa_cons pe_int pa_nil))) pe_int (nomark _)) (pss_cons (ps_set (i := 8) sc_law.nd rfl (Or.inl rfl) (pe_tupF (pa_cons pe_str (pa_cons (pe_op op_addA pe_int (pe_call (ok__law_take T) (hr.mono (by decide)) (by rfl) T.d__law_take.g T.d__law_take.F.kp T.d__law_take.b .nil pass0 (pa_cons (pv 1) (pa_cons pe_int pa_nil)))) pa_nil)))) (pss_cons (ps_set (i := 9) sc_law.nd rfl (Or.inr rfl) (pe_listRg rfl (by rfl) T.z_list (prg_1 (by rfl) T.z_range (pe_ix ix_seq (pv 8) pe_int (fun _ _ => rfl))))) pss_nil)) (pss_cons (ps_set (i := 8) sc_law.nd rfl (Or.inl rfl) (pe_tupF (pa_cons pe_str (pa_cons (pe_tupF (pa_cons pe_str (pa_cons pe_int pa_nil))) pa_nil)))) (pss_cons (ps_set (i := 9) sc_law.nd rfl (Or.inr rfl) (pe_lc (own := [("n", 12)]) rfl sc_law.nd (pi_range1 (by rfl) T.z_range (pa_cons pe_int pa_nil)) (blkOk_by (N := ["script", "box", "kind", "v", "w", "due", "p", "paper", "inner", "fresh", "many", "step", "n", "k"]) (sc := defScope s_law) (by decide +kernel)) (fun _ _ _ _ _ => pg_name (i := 12) sc_law.nd rfl (Or.inl rfl)) (fun _ _ _ _ _ => pts_nil) (fun _ _ _ _ _ => (pe_callTy call_tupleF (by rfl) T.z_tuple (by decide +kernel) (pa_cons (pe_lc (own := [("k", 13)]) rfl sc_law.nd (pi_range1 (by rfl) T.z_range (pa_cons (pe_call (ok__law_take T) (hr.mono (by decide)) (by rfl) T.d__law_take.g T.d__law_take.F.kp T.d__law_take.b .nil pass0 (pa_cons (pv 1) (pa_cons pe_int pa_nil))) pa_nil)) (blkOk_by (by first | rfl | decide +kernel)) (fun _ _ _ _ _ => pg_name (i := 13) sc_law.nd rfl (Or.inl rfl)) (fun _ _ _ _ _ => pts_nil) (fun _ _ _ _ _ => (pe_call (ok__law_take T) (hr.mono (by decide)) (by rfl) T.d__law_take.g T.d__law_take.F.kp T.d__law_take.b .nil pass0 (pa_cons (pv 1) (pa_cons pe_int pa_nil))))) pa_nil))))) pss_nil))) (pss_cons (ps_set (i := 2) sc_law.nd rfl (Or.inl rfl) (pe_tupF (pa_cons pe_str (pa_cons (pv 8) pa_nil)))) (pss_cons (ps_asg (pe_tupF (pa_cons (pe_call (ok__law_take T) (hr.mono (by decide)) (by rfl) T.d__law_take.g T.d__law_take.F.kp T.d__law_take.b .nil pass0 (pa_cons (pv 1) (pa_cons (pe_ifExp (pt_cmpR (op_eqP (room64 hr)) (pe_ix ix_seq (pv 8) pe_int (fun _ _ => rfl)) pe_str (nomark _)) pe_int pe_int) pa_nil))) (pa_cons (pe_op op_addA pe_int (pe_call (ok__law_take T) (hr.mono (by decide)) (by rfl) T.d__law_take.g T.d__law_take.F.kp T.d__law_take.b .nil pass0 (pa_cons (pv 1) (pa_cons pe_int pa_nil)))) pa_nil))) (pg_tup rfl (pgs_cons (pg_name (i := 10) sc_law.nd rfl (Or.inl rfl)) (pgs_cons (pg_name (i := 11) sc_law.nd rfl (Or.inr rfl)) pgs_nil)))) (pss_cons (ps_set (i := 3) sc_law.nd rfl (Or.inl rfl) (pe_callTy call_tupleF (by rfl) T.z_tuple (by decide +kernel) (pa_cons (pe_lc (own := [("k", 13)]) rfl sc_law.nd (pi_range1 (by rfl) T.z_range (pa_cons (pv 10) pa_nil)) (blkOk_by (N := ["script", "box", "kind", "v", "w", "due", "p", "paper", "inner", "fresh", "many", "step", "n", "k"]) (sc := defScope s_law) (by decide +kernel)) (fun _ _ _ _ _ => pg_name (i := 13) sc_law.nd rfl (Or.inl rfl)) (fun _ _ _ _ _ => pts_nil) (fun _ _ _ _ _ => (pe_ix ix_seq (pv 9) (pe_op op_mod (pe_callTy call_int1 (by rfl) T.z_int (by decide +kernel) (pa_cons (pe_op op_addA (pe_op op_addA (pe_op op_mulA (pe_op op_mulA (pv 13) (pv 13)) (pv 11)) (pe_op op_mulA pe_int (pv 13))) (pv 11)) pa_nil)) (pe_callB call_len_seq (by rfl) T.z_len (by decide +kernel) (pa_cons (pv 9) pa_nil))) (fun _ _ => rfl)))) pa_nil))) (pss_cons (ps_set (i := 4) sc_law.nd rfl (Or.inl rfl) (pe_slice sl_P (pe_call (ok__law_edited T) (hr.mono (by decide)) (by rfl) T.d__law_edited.g T.d__law_edited.F.kp T.d__law_edited.b .nil pass0 (pa_cons (pv 1) (pa_cons (pv 3) (pa_cons (pv 9) pa_nil)))) po_none (po_some (pe_ifExp (pt_cmpR (op_eqP (room64 hr)) (pe_ix ix_seq (pv 8) pe_int (fun _ _ => rfl)) pe_str (nomark _)) pe_int pe_int)))) (pss_cons (ps_set (i := 5) sc_law.nd rfl (Or.inl rfl) (pe_call (ok__law_distance T) (hr.mono (by decide)) (by rfl) T.d__law_distance.g T.d__law_distance.F.kp T.d__law_distance.b .nil pass0 (pa_cons (pv 2) (pa_cons (pv 3) (pa_cons (pv 4) (pa_cons pe_dnewK pa_nil)))))) (pss_cons (ps_set (i := 6) sc_law.nd rfl (Or.inl rfl) (pe_call (ok_least T) (hr.mono (by decide)) (by rfl) T.d_least.g T.d_least.F.kp T.d_least.b .nil Cgx.pass_none (pa_cons (pv 2) (pa_cons (pv 3) (pa_cons (pv 4) pa_nil))))) (pss_cons (ps_if (PW.pt (pw_or (pt_cmpR (op_neP (room64 hr)) (pe_call (ok_distance T) (hr.mono (by decide)) (by rfl) T.d_distance.g T.d_distance.F.kp T.d_distance.b .nil Cgx.pass_none (pa_cons (pv 2) (pa_cons (pv 3) (pa_cons (pv 4) pa_nil)))) (pv 5) (nomark _)) (pw_or (pt_cmpR (op_neP (room64 hr)) (pe_call (ok__law_made T) (hr.mono (by decide)) (by rfl) T.d__law_made.g T.d__law_made.F.kp T.d__law_made.b .nil pass0 (pa_cons (pv 2) (pa_cons (pv 6) (pa_cons (pv 3) pa_nil)))) (pe_tupF (pa_cons (pv 4) pa_nil)) (nomark _)) (pw_or1 (pt_cmpR (op_neP (room64 hr)) (pe_call (ok__law_cost T) (hr.mono (by decide)) (by rfl) T.d__law_cost.g T.d__law_cost.F.kp T.d__law_cost.b .nil pass0 (pa_cons (pv 2) (pa_cons (pv 6) pa_nil))) (pv 5) (nomark _)))))) (pss_cons (ps_ret pe_bl) pss_nil) pss_nil) (pss_cons (ps_if (pt_cmpR op_gt (pe_op op_mulA (pe_callB call_len_seq (by rfl) T.z_len (by decide +kernel) (pa_cons (pv 3) pa_nil)) (pe_callB call_len_seq (by rfl) T.z_len (by decide +kernel) (pa_cons (pv 4) pa_nil))) pe_int (nomark _)) (pss_cons (ps_ret pe_bl) pss_nil) pss_nil) (pss_cons (ps_set (i := 7) sc_law.nd rfl (Or.inl rfl) (pe_call (ok_bound T) (hr.mono (by decide)) (by rfl) T.d_bound.g T.d_bound.F.kp T.d_bound.b .nil Cgx.pass_none (pa_cons (pv 2) (pa_cons (pv 3) (pa_cons (pv 4) pa_nil))))) (pss_cons (ps_ret (pe_and (pe_cmpR (op_eqP (room64 hr)) (pe_call (ok_worth T) (hr.mono (by decide)) (by rfl) T.d_worth.g T.d_worth.F.kp T.d_worth.b .nil Cgx.pass_none (pa_cons (pv 2) (pa_cons (pv 3) (pa_cons (pv 4) (pa_cons (pv 7) pa_nil))))) (pv 5) (nomark _)) (pe_one (pe_cmpR (op_eqP (room64 hr)) (pe_call (ok_worth T) (hr.mono (by decide)) (by rfl) T.d_worth.g T.d_worth.F.kp T.d_worth.b .nil Cgx.pass_none (pa_cons (pv 2) (pa_cons (pv 3) (pa_cons (pv 4) (pa_cons (pe_tupF (pa_cons pe_str pa_nil)) pa_nil))))) pe_int (nomark _))))) pss_nil)))))))))))), fun ds hl => match ds, hl with
      | [v_script], _ => StG.eq ((st_box (fun _ _ => rfl) (i := 1) (ev_var (i := 0) rfl) (st_ifj (S1 := PyData × PyData) (ρs := fun (x723 : PyData × PyData) => [.dat v_script, .box, .any, .any, .any, .any, .any, .any, .dat x723.1, .dat x723.2, .any, .any, .any, .any]) (fun _ _ => rfl) (et_cmp rc_eq (ev_callB (i := 1) rfl (ea_cons ev_int ea_nil)) ev_int) (st_asg (i := 8) (fun _ _ => rfl) (ev_tup (ea_cons ev_str (ea_cons (ev_op rr_add ev_int (ev_callB (i := 1) rfl (ea_cons ev_int ea_nil))) ea_nil))) (fun v_inner => (st_asg (i := 9) (fun _ _ => rfl) (ev_listRange (ev_op rr_ix (ev_var (i := 8) rfl) ev_int)) (fun v_fresh => (st_nx (b := (v_inner, v_fresh)) (s := (v_inner, v_fresh)) rfl (.same _ (.same _ (.same _ (.same _ (.same _ (.same _ (.same _ (.same _ (.same _ (.same _ (.same _ (.same _ (.same _ (.same _ .nil))))))))))))))))))) (st_asg (i := 8) (fun _ _ => rfl) (ev_tup (ea_cons ev_str (ea_cons (ev_tup (ea_cons ev_str (ea_cons ev_int ea_nil))) ea_nil))) (fun v_inner => (st_asg (i := 9) (fun _ _ => rfl) (ev_lcR1n (fun _ _ => rfl) ev_int rfl (fun v_n => (ev_cb1 rk_tuple (ev_lcR1n (fun _ _ => rfl) (ev_callB (i := 1) rfl (ea_cons ev_int ea_nil)) rfl (fun v_k => (ev_callB (i := 1) rfl (ea_cons ev_int ea_nil))))))) (fun v_fresh => (st_nx (b := (v_inner, v_fresh)) (s := (v_inner, v_fresh)) rfl (.same _ (.same _ (.same _ (.same _ (.same _ (.same _ (.same _ (.same _ (.same _ (.same _ (.same _ (.same _ (.same _ (.same _ .nil))))))))))))))))))) (fun x723 => (st_asg (i := 2) (fun _ _ => rfl) (ev_tup (ea_cons ev_str (ea_cons (ev_var (i := 8) rfl) ea_nil))) (fun v_kind => (st_unp2 (fun _ _ => rfl) (i := 10) (j := 11) (ev_tup (ea_cons (ev_callB (i := 1) rfl (ea_cons (ev_if (et_cmp rc_eq (ev_op rr_ix (ev_var (i := 8) rfl) ev_int) ev_str) ev_int ev_int) ea_nil)) (ea_cons (ev_op rr_add ev_int (ev_callB (i := 1) rfl (ea_cons ev_int ea_nil))) ea_nil))) (fun v_many v_step => (st_asg (i := 3) (fun _ _ => rfl) (ev_cb1 rk_tuple (ev_lcR1n (fun _ _ => rfl) (ev_var (i := 10) rfl) rfl (fun v_k => (ev_op rr_ix (ev_var (i := 9) rfl) (ev_op rr_mod (ev_cb1 rk_int (ev_op rr_add (ev_op rr_add (ev_op rr_mul (ev_op rr_mul (ev_var (i := 13) rfl) (ev_var (i := 13) rfl)) (ev_var (i := 11) rfl)) (ev_op rr_mul ev_int (ev_var (i := 13) rfl))) (ev_var (i := 11) rfl))) (ev_cb1 rk_len (ev_var (i := 9) rfl))))))) (fun v_v => (st_asg (i := 4) (fun _ _ => rfl) (ev_sl rs_P (ev_callB (i := 1) rfl (ea_cons (ev_var (i := 3) rfl) (ea_cons (ev_var (i := 9) rfl) ea_nil))) eo_none (eo_some (ev_if (et_cmp rc_eq (ev_op rr_ix (ev_var (i := 8) rfl) ev_int) ev_str) ev_int ev_int))) (fun v_w => (st_asg (i := 5) (fun _ _ => rfl) (ev_callM0 (m := fun F ds => match ds with | [a, b, c] => m__law_distance 12 F a b c | _ => Tr.bad) (mf := memF) (ev_var (i := 2) rfl) (ev_var (i := 3) rfl) (ev_var (i := 4) rfl)) (fun v_due => (st_asg (i := 6) (fun _ _ => rfl) (ev_callP (ea_cons (ev_var (i := 2) rfl) (ea_cons (ev_var (i := 3) rfl) (ea_cons (ev_var (i := 4) rfl) ea_nil)))) (fun v_p => (st_if (et_or (et_cmp rc_ne (ev_callP (ea_cons (ev_var (i := 2) rfl) (ea_cons (ev_var (i := 3) rfl) (ea_cons (ev_var (i := 4) rfl) ea_nil)))) (ev_var (i := 5) rfl)) (et_or (et_cmp rc_ne (ev_callN (ea_cons (ev_var (i := 2) rfl) (ea_cons (ev_var (i := 6) rfl) (ea_cons (ev_var (i := 3) rfl) ea_nil)))) (ev_tup (ea_cons (ev_var (i := 4) rfl) ea_nil))) (et_cmp rc_ne (ev_callN (ea_cons (ev_var (i := 2) rfl) (ea_cons (ev_var (i := 6) rfl) ea_nil))) (ev_var (i := 5) rfl)))) (st_ret ev_bl) (st_if (et_cmp rc_gt (ev_op rr_mul (ev_cb1 rk_len (ev_var (i := 3) rfl)) (ev_cb1 rk_len (ev_var (i := 4) rfl))) ev_int) (st_ret ev_bl) (st_asg (i := 7) (fun _ _ => rfl) (ev_callP (ea_cons (ev_var (i := 2) rfl) (ea_cons (ev_var (i := 3) rfl) (ea_cons (ev_var (i := 4) rfl) ea_nil)))) (fun v_paper => (st_ret (ev_andV (ev_cmp rc_eq (ev_callP (ea_cons (ev_var (i := 2) rfl) (ea_cons (ev_var (i := 3) rfl) (ea_cons (ev_var (i := 4) rfl) (ea_cons (ev_var (i := 7) rfl) ea_nil))))) (ev_var (i := 5) rfl)) (ev_cmp rc_eq (ev_callP (ea_cons (ev_var (i := 2) rfl) (ea_cons (ev_var (i := 3) rfl) (ea_cons (ev_var (i := 4) rfl) (ea_cons (ev_tup (ea_cons ev_str ea_nil)) ea_nil))))) ev_int))))))))))))))))))))))) (by simp only [m_law, Tr.ret_bind, Tr.bind_assoc, Tr.bind_ret, asB_bool, asI_int, on1_one, on2g_two, on2_two, on3_three])⟩)
end
end K27
namespace K27
open PySem L2 Cg Cgo Km
theorem rb {α β : Type} (a : α) (f : α → Tr β) : (Tr.ret a).bind f = f a := rfl
def rowK (κ : PyData) : PyData := .tuple [.str "row", κ]
def numK (m : Int) : PyData := .tuple [.str "number", .int m]
theorem wRow : (isW (.str "row") "number" = false) ∧ (isW (.str "row") "record" = false) ∧ (isW (.str "row") "choice" = false) ∧ (isW (.str "row") "row" = true) ∧ (isW (.str "row") "set" = false) ∧ (isW (.str "row") "bag" = false) ∧ (isW (.str "row") "table" = false) ∧ (isW (.str "number") "number" = true) := ⟨rfl, rfl, rfl, rfl, rfl, rfl, rfl, rfl⟩
/-- rows of such values -/
def VR (V : PyData → Prop) (N : Nat) (v : PyData) : Prop := ∃ xs, v = .tuple xs ∧ xs.length ≤ N ∧ ∀ x ∈ xs, V x
def wtR (wt : PyData → Int) (v : PyData) : Int := 1 + ((lstD v).map wt).sum
noncomputable def dR (wt : PyData → Int) (d : PyData → PyData → Int) (v w : PyData) : Int := @ite _ (v = w) (Classical.propDecidable _) 0 (edr wt d (lstD v).reverse (lstD w).reverse)
/-- a kind whose values are understood -/
structure Lv (L : Nat) (κ : PyData) (V : PyData → Prop) (wt : PyData → Int) (d : PyData → PyData → Int) : Prop where
  sg : ∀ v, V v → sig v = true ∧ v.depth ≤ L
  w1 : ∀ v, V v → 1 ≤ wt v
  nn : ∀ v w, V v → V w → 0 ≤ d v w
  ds : ∀ v, V v → d v v = 0
  heft : ∀ n, L ≤ n → ∀ v, V v → m_heft n κ v = .ret (.int (wt v))
  gap : ∀ n, 3 * L ≤ n → ∀ v w, V v → V w → m_gap n κ v w = .ret (.int (d v w))
theorem cEq_yes {v : PyData} {D : Nat} (hD : D ≤ 64) (h : sig v = true ∧ v.depth ≤ D) : cEq v v = .ret true := by
  unfold cEq
  rw [if_pos (by omega), (sig_eqv v v h.1 h.1).mpr rfl]
theorem cEq_no {v w : PyData} {D : Nat} (hD : D ≤ 64) (h : sig v = true ∧ v.depth ≤ D) (g : sig w = true) (e : v ≠ w) : cEq v w = .ret false := by
  unfold cEq
  rw [if_pos (by omega)]
  cases z : PyData.eqv v w with
  | false => rfl
  | true => exact absurd ((sig_eqv v w h.1 g).mp z) e
theorem cNe_of {v w : PyData} {b : Bool} (h : cEq v w = .ret b) : cNe v w = .ret (!b) := by
  unfold cEq at h
  unfold cNe
  split at h
  · injection h with h
    rw [h, if_pos (by assumption)]
  · cases h
theorem dMin_int (i j : Int) : dMin (.int i) (.int j) = .ret (.int (min i j)) := by
  show Tr.ret (PyData.int (if j < i then j else i)) = _
  split
  · rw [Int.min_eq_right (by omega)]
  · rw [Int.min_eq_left (by omega)]
/-- a line of heights -/
def lineD (wt : PyData → Int) (d : PyData → PyData → Int) (xs ys : List PyData) (x n : Nat) : List PyData := tabD (fun y => .int (eT wt d xs ys x y)) n
section
variable {L : Nat} {κ : PyData} {V : PyData → Prop} {wt : PyData → Int} {d : PyData → PyData → Int} {xs ys : List PyData}
theorem enum_get {ns : List PyData} (i : Nat) (h : i < (dPairs (natsD ns.length) ns).length) : (dPairs (natsD ns.length) ns)[i] = .tuple [.int (i : Int), ns.getD i .none] := by
  have hl : i < ns.length := by
    rw [pairs_len] at h
    omega
  have e := pairs_get (xs := natsD ns.length) (ys := ns) (i := i) (d := .int (i : Int)) (e := ns[i]) (by
    unfold natsD
    rw [List.getElem?_map, List.getElem?_range hl]
    rfl) (List.getElem?_eq_getElem hl)
  rw [List.getElem?_eq_getElem h] at e
  injection e with e
  rw [e, List.getD_eq_getElem?_getD, List.getElem?_eq_getElem hl]
  rfl
theorem next_eq (hL : L ≤ 8) (W : Lv L κ V wt d) (hx : ∀ a ∈ xs, V a) (hy : ∀ b ∈ ys, V b) (hz : ys.length ≤ 1000) {n x : Nat} (hn : 3 * L + 1 ≤ n) (h : x < xs.length) :
    m_next_heights n κ xs[x] (.tuple ys) (.list (ys.map fun b => .int (wt b))) (.list (lineD wt d xs ys x (ys.length + 1))) = .ret (.list (lineD wt d xs ys (x + 1) (ys.length + 1))) := by
  obtain ⟨n, rfl⟩ : ∃ m, n = m + 1 := ⟨n - 1, by omega⟩
  have vx := hx _ (List.getElem_mem h)
  rw [m_next_heights, W.heft 8 hL _ vx, rb, show dIx (.list (lineD wt d xs ys x (ys.length + 1))) (.int 0) = .ret (.int (eT wt d xs ys x 0)) from tabD_ixL (f := fun y => .int (eT wt d xs ys x y)) (i := 0) (Nat.zero_lt_succ _), rb, dAdd_int, rb, ← eT_s0 h, rb]
  rw [show dEnumL (.list (ys.map fun b => PyData.int (wt b))) = .ret (dPairs (natsD (ys.map fun b => PyData.int (wt b)).length) (ys.map fun b => PyData.int (wt b))) from rfl, rb]
  have e0 : PyData.list [.int (eT wt d xs ys (x + 1) 0)] = .list (lineD wt d xs ys (x + 1) (0 + 1)) := rfl
  rw [e0]
  have hl : (dPairs (natsD (ys.map fun b => PyData.int (wt b)).length) (ys.map fun b => PyData.int (wt b))).length = ys.length := by
    rw [pairs_len]
    unfold natsD
    rw [List.length_map, List.length_range, List.length_map, Nat.min_self]
  refine (forC_at' (fun y => PyData.list (lineD wt d xs ys (x + 1) (y + 1))) _ 0 fun i hi => ?_).trans ?_
  · rw [enum_get]
    rw [hl] at hi
    have vy := hy _ (List.getElem_mem hi)
    have eg : (ys.map fun b => PyData.int (wt b)).getD i .none = .int (wt ys[i]) := by
      rw [List.getD_eq_getElem?_getD, List.getElem?_map, List.getElem?_eq_getElem hi]
      rfl
    rw [eg, Nat.zero_add]
    show ((((((dAdd (.int (i : Int)) (PyData.int 1)).bind _).bind _).bind _).bind _ : Tr (Ct PyData))) = _
    have e1 : ((i : Int) + 1) = ((i + 1 : Nat) : Int) := by omega
    have a1 : dIx (.list (lineD wt d xs ys x (ys.length + 1))) (.int ((i + 1 : Nat) : Int)) = .ret (.int (eT wt d xs ys x (i + 1))) := tabD_ixL (f := fun y => .int (eT wt d xs ys x y)) (by omega)
    have a2 : dIx (.list (lineD wt d xs ys x (ys.length + 1))) (.int (i : Int)) = .ret (.int (eT wt d xs ys x i)) := tabD_ixL (f := fun y => .int (eT wt d xs ys x y)) (by omega)
    have a3 : dIx (.list (unL (.list (lineD wt d xs ys (x + 1) (i + 1))))) (.int (i : Int)) = .ret (.int (eT wt d xs ys (x + 1) i)) := tabD_ixL (f := fun y => .int (eT wt d xs ys (x + 1) y)) (by omega)
    have a4 : dIx (.tuple ys) (.int (i : Int)) = .ret ys[i] := ix_nat (List.getElem?_eq_getElem hi)
    have a5 : dApp (.list (lineD wt d xs ys (x + 1) (i + 1))) (.int (eT wt d xs ys (x + 1) (i + 1))) = .ret (.list (lineD wt d xs ys (x + 1) (i + 1 + 1))) := tabD_app (f := fun y => .int (eT wt d xs ys (x + 1) y)) (by omega)
    have g := W.gap n (by omega) _ _ vx vy
    have es := eT_ss (wt := wt) (d := d) h hi
    have nn := W.nn _ _ vx vy
    simp only [dAdd_int, rb, e1, a1, a2, a3, dMin_int, cLt_int, a4, g]
    by_cases q : eT wt d xs ys x i < min (eT wt d xs ys x (i + 1) + wt xs[x]) (eT wt d xs ys (x + 1) i + wt ys[i])
    · simp only [decide_eq_true q, if_true, ← es, rb, a5]
    · have e2 : min (eT wt d xs ys x (i + 1) + wt xs[x]) (eT wt d xs ys (x + 1) i + wt ys[i]) = eT wt d xs ys (x + 1) (i + 1) := by rw [es]; omega
      rw [e2] at q ⊢
      simp only [decide_eq_false q, Bool.false_eq_true, if_false, rb, a5]
  · rw [hl, Nat.zero_add]
    rfl
/-- all the heights -/
def htsD (wt : PyData → Int) (d : PyData → PyData → Int) (xs ys : List PyData) (m : Nat) : List PyData := tabD (fun x => .list (lineD wt d xs ys x (ys.length + 1))) m
theorem climb_eq (hL : L ≤ 8) (W : Lv L κ V wt d) (hx : ∀ a ∈ xs, V a) (hy : ∀ b ∈ ys, V b) (hz : ys.length ≤ 1000) (hz2 : xs.length ≤ 1000) {n : Nat} (hn : 3 * L + 2 ≤ n) :
    m_climb n κ (.tuple xs) (.tuple ys) = .ret (.list (htsD wt d xs ys (xs.length + 1))) := by
  obtain ⟨n, rfl⟩ : ∃ m, n = m + 1 := ⟨n - 1, by omega⟩
  rw [m_climb, show items (.tuple ys) = .ret ys from rfl, rb, map_ret (g := fun b => .int (wt b)) ys fun b hb => W.heft 8 hL b (hy b hb), rb, rb, rb, show items (.list (ys.map fun b => PyData.int (wt b))) = .ret (ys.map fun b => PyData.int (wt b)) from rfl, rb]
  have e0 : PyData.list [.int 0] = .list (lineD wt d xs ys 0 (0 + 1)) := by
    show _ = PyData.list [.int (eT wt d xs ys 0 0)]
    rw [eT_00]
  rw [e0, forN_at (fun y => PyData.list (lineD wt d xs ys 0 (y + 1))) _ 0 fun i hi => ?_]
  · rw [rb, List.length_map, Nat.zero_add, rb, show items (.tuple xs) = .ret xs from rfl, rb]
    have e1 : PyData.list [.list (unL (.list (lineD wt d xs ys 0 (ys.length + 1))))] = .list (htsD wt d xs ys (0 + 1)) := rfl
    rw [e1, forN_at (fun x => PyData.list (htsD wt d xs ys (x + 1))) _ 0 fun i hi => ?_]
    · rw [rb, Nat.zero_add]
      rfl
    · rw [Nat.zero_add]
      have a1 : dIx (.list (unL (.list (htsD wt d xs ys (i + 1))))) (.int (-1)) = .ret (.list (lineD wt d xs ys i (ys.length + 1))) := tabD_lastL (f := fun x => .list (lineD wt d xs ys x (ys.length + 1)))
      have a2 : dApp (.list (htsD wt d xs ys (i + 1))) (.list (lineD wt d xs ys (i + 1) (ys.length + 1))) = .ret (.list (htsD wt d xs ys (i + 1 + 1))) := tabD_app (f := fun x => .list (lineD wt d xs ys x (ys.length + 1))) (by omega)
      rw [a1, rb, next_eq hL W hx hy hz (by omega) hi, rb, a2, rb]
  · rw [Nat.zero_add]
    have hi' : i < ys.length := by rw [List.length_map] at hi; exact hi
    have a1 : dIx (.list (unL (.list (lineD wt d xs ys 0 (i + 1))))) (.int (-1)) = .ret (.int (eT wt d xs ys 0 i)) := tabD_lastL (f := fun y => .int (eT wt d xs ys 0 y))
    have a2 : dApp (.list (lineD wt d xs ys 0 (i + 1))) (.int (eT wt d xs ys 0 (i + 1))) = .ret (.list (lineD wt d xs ys 0 (i + 1 + 1))) := tabD_app (f := fun y => .int (eT wt d xs ys 0 y)) (by omega)
    rw [a1, rb, List.getElem_map, dAdd_int, ← eT_0s hi', rb, a2, rb]
theorem VR.sg (W : Lv L κ V wt d) {N : Nat} {v : PyData} (h : VR V N v) : sig v = true ∧ v.depth ≤ L + 1 := by
  obtain ⟨xs, rfl, hl, hx⟩ := h
  refine ⟨?_, depth_tup fun x h => (W.sg x (hx x h)).2⟩
  rw [sig]
  clear hl
  induction xs with
  | nil => rfl
  | cons x xs ih =>
    rw [sigs, (W.sg x (hx x List.mem_cons_self)).1, ih fun y hy => hx y (List.mem_cons_of_mem _ hy)]
    rfl
theorem sum_pos : ∀ (xs : List PyData), (∀ x ∈ xs, 0 ≤ wt x) → 0 ≤ (xs.map wt).sum
  | [], _ => by simp
  | x :: xs, h => by
    rw [List.map_cons, List.sum_cons]
    have h1 := h x List.mem_cons_self
    have h2 := sum_pos xs fun y hy => h y (List.mem_cons_of_mem _ hy)
    omega
theorem heft_row (W : Lv L κ V wt d) {N n : Nat} (hn : L + 1 ≤ n) {v : PyData} (h : VR V N v) : m_heft n (rowK κ) v = .ret (.int (wtR wt v)) := by
  obtain ⟨n, rfl⟩ : ∃ m, n = m + 1 := ⟨n - 1, by omega⟩
  obtain ⟨xs, rfl, hl, hx⟩ := h
  have hp : m_value_parts (rowK κ) (.tuple xs) = .ret (.list (xs.map fun x => .tuple [κ, x, .int 1])) := by
    unfold m_value_parts rowK
    have hf : (fdT fn_VALUE_PARTS (PyData.str "row")).bind (fun q_action => fm_VALUE_PARTS q_action [PyData.tuple [PyData.str "row", κ], PyData.tuple xs]) = m_item_parts (.tuple [.str "row", κ]) (.tuple xs) := rfl
    simp only [ix0, rb, cEq_str, wRow, Bool.false_eq_true, if_false, Cg.isTup, Bool.not_true, hf]
    unfold m_item_parts
    rw [show items (.tuple xs) = .ret xs from rfl, rb, map_ret (g := fun x => .tuple [κ, x, .int 1]) xs fun x _ => by rw [ix1, rb], rb]
  rw [m_heft, hp, rb, show items (.list (xs.map fun x => PyData.tuple [κ, x, .int 1])) = .ret (xs.map fun x => .tuple [κ, x, .int 1]) from rfl, rb]
  have hm : mapT (un3 fun v_inner v_item v_times => (m_heft n v_inner v_item).bind fun x125 => dMul v_times x125) (xs.map fun x => .tuple [κ, x, .int 1]) = .ret ((xs.map wt).map PyData.int) := by
    clear hl hp
    induction xs with
    | nil => rfl
    | cons x xs ih =>
      have e : un3 (fun v_inner v_item v_times => (m_heft n v_inner v_item).bind fun x125 => dMul v_times x125) (.tuple [κ, x, .int 1]) = .ret (.int (wt x)) := by
        show (m_heft n κ x).bind _ = _
        rw [W.heft n (by omega) x (hx x List.mem_cons_self), rb]
        show Tr.ret (PyData.int (1 * wt x)) = _
        rw [Int.one_mul]
      rw [List.map_cons, mapT, e, rb, ih fun y hy => hx y (List.mem_cons_of_mem _ hy)]
      rfl
  rw [hm, rb, rb, dSum_map, rb, dAdd_int]
  rfl
theorem dR_no {v w : PyData} (e : v ≠ w) : dR wt d v w = edr wt d (lstD v).reverse (lstD w).reverse := if_neg e
theorem dR_yes {v : PyData} : dR wt d v v = 0 := if_pos rfl
theorem gap_row (hL : L ≤ 8) (W : Lv L κ V wt d) {N : Nat} (hN : N ≤ 1000) {n : Nat} (hn : 3 * (L + 1) ≤ n) {v w : PyData} (hv : VR V N v) (hw : VR V N w) : m_gap n (rowK κ) v w = .ret (.int (dR wt d v w)) := by
  obtain ⟨n, rfl⟩ : ∃ m, n = m + 1 := ⟨n - 1, by omega⟩
  have sv := hv.sg W
  have sw := hw.sg W
  rw [m_gap]
  by_cases e : v = w
  · subst e
    rw [cEq_yes (by omega) sv, rb, if_pos rfl, dR_yes]
  · rw [cEq_no (by omega) sv sw.1 e, rb, dR_no e]
    obtain ⟨xs, rfl, lx, hx⟩ := hv
    obtain ⟨ys, rfl, ly, hy⟩ := hw
    have hc := climb_eq hL W hx hy (by omega) (by omega) (n := n) (by omega)
    have a1 : dIx (.list (htsD wt d xs ys (xs.length + 1))) (.int (-1)) = .ret (.list (lineD wt d xs ys xs.length (ys.length + 1))) := tabD_lastL (f := fun x => .list (lineD wt d xs ys x (ys.length + 1)))
    have a2 : dIx (.list (lineD wt d xs ys xs.length (ys.length + 1))) (.int (-1)) = .ret (.int (eT wt d xs ys xs.length ys.length)) := tabD_lastL (f := fun y => .int (eT wt d xs ys xs.length y))
    unfold rowK
    simp only [Bool.false_eq_true, if_false, ix0, ix1, rb, cEq_str, wRow, if_true, hc, a1, a2, eT_all]
    rfl
theorem dR_nn (W : Lv L κ V wt d) {N : Nat} {v w : PyData} (hv : VR V N v) (hw : VR V N w) : 0 ≤ dR wt d v w := by
  by_cases e : v = w
  · subst e
    rw [dR_yes]
    omega
  · rw [dR_no e]
    obtain ⟨xs, rfl, lx, hx⟩ := hv
    obtain ⟨ys, rfl, ly, hy⟩ := hw
    refine edr_nonneg _ _ (fun a h => ?_) (fun b h => ?_) fun a h b g => W.nn _ _ (hx a (List.mem_reverse.mp h)) (hy b (List.mem_reverse.mp g))
    · have := W.w1 _ (hx a (List.mem_reverse.mp h)); omega
    · have := W.w1 _ (hy b (List.mem_reverse.mp h)); omega
/-- rows of understood values are understood -/
theorem Lv.row (hL : L + 1 ≤ 8) (W : Lv L κ V wt d) {N : Nat} (hN : N ≤ 1000) : Lv (L + 1) (rowK κ) (VR V N) (wtR wt) (dR wt d) :=
  ⟨fun v h => h.sg W, fun v h => by
    obtain ⟨xs, rfl, lx, hx⟩ := h
    have := sum_pos (wt := wt) xs fun x h => by have := W.w1 x (hx x h); omega
    show 1 ≤ 1 + (xs.map wt).sum
    omega, fun v w hv hw => dR_nn W hv hw, fun v _ => dR_yes, fun n hn v h => heft_row W hn h, fun n hn v w hv hw => gap_row (by omega) W hN hn hv hw⟩
/-- numbers below m -/
def VN (m : Int) (v : PyData) : Prop := ∃ i : Int, v = .int i ∧ 0 ≤ i ∧ i < m
def wtN1 (_ : PyData) : Int := 1
noncomputable def dN (v w : PyData) : Int := @ite _ (v = w) (Classical.propDecidable _) 0 2
theorem dN_yes {v : PyData} : dN v v = 0 := if_pos rfl
theorem dN_no {v w : PyData} (e : v ≠ w) : dN v w = 2 := if_neg e
theorem parts_num {m : Int} {v : PyData} (h : VN m v) : m_value_parts (numK m) v = .ret (.list []) := by
  obtain ⟨i, rfl, h0, h1⟩ := h
  unfold m_value_parts numK
  have e1 : decide ((0 : Int) ≤ i) = true := decide_eq_true h0
  have e2 : decide (i ≤ m - 1) = true := decide_eq_true (by omega)
  simp only [ix0, ix1, rb, cEq_str, wRow, if_true, dSub_int, m_is_within, m_is_whole, isInt, isBool, asB_bool, Bool.not_false, cLe_int, e1, e2]
theorem lv_num (m : Int) : Lv 1 (numK m) (VN m) wtN1 dN := by
  refine ⟨fun v h => ?_, fun v _ => Int.le_refl _, fun v w _ _ => ?_, fun v _ => dN_yes, fun n hn v h => ?_, fun n hn v w hv hw => ?_⟩
  · obtain ⟨i, rfl, h0, h1⟩ := h
    exact ⟨by rw [sig], by rw [depth_int]; omega⟩
  · by_cases e : v = w
    · subst e
      rw [dN_yes]
      omega
    · rw [dN_no e]
      omega
  · obtain ⟨n, rfl⟩ : ∃ k, n = k + 1 := ⟨n - 1, by omega⟩
    rw [m_heft, parts_num h, rb]
    rfl
  · obtain ⟨n, rfl⟩ : ∃ k, n = k + 1 := ⟨n - 1, by omega⟩
    obtain ⟨i, rfl, h0, h1⟩ := hv
    obtain ⟨j, rfl, g0, g1⟩ := hw
    rw [m_gap, cEq_int, rb]
    by_cases e : i = j
    · subst e
      rw [decide_eq_true rfl, if_pos rfl, dN_yes]
    · have ne : PyData.int i ≠ PyData.int j := fun z => e (PyData.int.inj z)
      rw [decide_eq_false e, dN_no ne]
      unfold numK
      simp only [Bool.false_eq_true, if_false, ix0, rb, cEq_str, wRow, if_true]
end
end K27
namespace K27
open PySem L2 Cg Cgo Km
/-- .. by the law too -/
structure Lw (L : Nat) (κ : PyData) (V : PyData → Prop) (wt : PyData → Int) (d : PyData → PyData → Int) : Prop where
  wN : ∀ n, L ≤ n → ∀ v, V v → wtN n v = wt v
  dN : ∀ n, L ≤ n → ∀ v w, V v → V w → dstN n κ v w = d v w
  ks : sig κ = true ∧ κ.depth ≤ L
  weight : ∀ n, L ≤ n → ∀ v, V v → m__law_weight n κ v = .ret (.int (wt v))
  dist : ∀ n F M, 2 * L ≤ n → L ≤ M → ∀ v w, V v → V w → (∀ x ∈ keysN M κ v w, x ∈ F) → m__law_distance n F κ v w = .ret (.int (d v w))
section
variable {L : Nat} {κ : PyData} {V : PyData → Prop} {wt wt' : PyData → Int} {d d' : PyData → PyData → Int} {xs ys : List PyData}
theorem edr_congr : ∀ (as bs : List PyData), (∀ a ∈ as, wt a = wt' a) → (∀ b ∈ bs, wt b = wt' b) → (∀ a ∈ as, ∀ b ∈ bs, d a b = d' a b) → edr wt d as bs = edr wt' d' as bs
  | [], [], _, _, _ => by rw [edr_nn, edr_nn]
  | a :: as, [], ha, hb, hd => by
    rw [edr_cn, edr_cn, edr_congr as [] (fun x hx => ha x (List.mem_cons_of_mem _ hx)) hb fun x hx => hd x (List.mem_cons_of_mem _ hx), ha a List.mem_cons_self]
  | [], b :: bs, ha, hb, hd => by
    rw [edr_nc, edr_nc, edr_congr [] bs ha (fun x hx => hb x (List.mem_cons_of_mem _ hx)) (fun x hx => nomatch hx), hb b List.mem_cons_self]
  | a :: as, b :: bs, ha, hb, hd => by
    rw [edr_cc, edr_cc, edr_congr as (b :: bs) (fun x hx => ha x (List.mem_cons_of_mem _ hx)) hb fun x hx => hd x (List.mem_cons_of_mem _ hx),
      edr_congr (a :: as) bs ha (fun x hx => hb x (List.mem_cons_of_mem _ hx)) fun x hx y hy => hd x hx y (List.mem_cons_of_mem _ hy),
      edr_congr as bs (fun x hx => ha x (List.mem_cons_of_mem _ hx)) (fun x hx => hb x (List.mem_cons_of_mem _ hx)) fun x hx y hy => hd x (List.mem_cons_of_mem _ hx) y (List.mem_cons_of_mem _ hy),
      ha a List.mem_cons_self, hb b List.mem_cons_self, hd a List.mem_cons_self b List.mem_cons_self]
termination_by as bs => as.length + bs.length
theorem key_ok {v w : PyData} (hL : L ≤ 6) (hk : sig κ = true ∧ κ.depth ≤ L) (hv : sig v = true ∧ v.depth ≤ L) (hw : sig w = true ∧ w.depth ≤ L) : memKey (.tuple [κ, v, w]) = true := by
  refine memKey_iff.mpr ⟨rfl, by rw [sig, sigs, sigs, sigs, sigs, hk.1, hv.1, hw.1]; rfl, ?_⟩
  have := depth_tup (vs := [κ, v, w]) (d := L) fun x hx => by
    simp only [List.mem_cons, List.not_mem_nil, or_false] at hx
    rcases hx with rfl | rfl | rfl
    · exact hk.2
    · exact hv.2
    · exact hw.2
  omega
/-- the memo lets it through -/
theorem dist_step {n : Nat} {F : List PyData} {M : Nat} {v w : PyData} (hL : L ≤ 4) (W : Lv L κ V wt d) (hk : sig κ = true ∧ κ.depth ≤ L) (hd : dstN 4 κ v w = d v w) (hv : V v) (hw : V w) (hM : 1 ≤ M) (hF : ∀ x ∈ keysN M κ v w, x ∈ F) (hf : v ≠ w → m__law_far n F κ v w = .ret (.int (d v w))) :
    m__law_distance (n + 1) F κ v w = .ret (.int (d v w)) := by
  have sv := W.sg v hv
  have sw := W.sg w hw
  rw [m__law_distance]
  by_cases e : v = w
  · subst e
    rw [cEq_yes (by omega) sv, rb, if_pos rfl, W.ds v hv]
  · rw [cEq_no (by omega) sv sw.1 e, rb, if_neg (by decide), hf e, guardT_pos]
    refine ⟨key_ok (by omega) hk sv sw, hF _ ?_, ?_⟩
    · obtain ⟨M, rfl⟩ : ∃ m, M = m + 1 := ⟨M - 1, by omega⟩
      exact (List.mem_cons_self : PyData.tuple [κ, v, w] ∈ PyData.tuple [κ, v, w] :: _)
    · show _ = Tr.ret (PyData.int (dstN 4 κ v w))
      rw [hd]
theorem weight_row (W : Lw L κ V wt d) {N n : Nat} (hn : L + 1 ≤ n) {v : PyData} (h : VR V N v) : m__law_weight n (rowK κ) v = .ret (.int (wtR wt v)) := by
  obtain ⟨n, rfl⟩ : ∃ m, n = m + 1 := ⟨n - 1, by omega⟩
  obtain ⟨xs, rfl, hl, hx⟩ := h
  have hm : mapT (fun v_one => m__law_weight n κ v_one) xs = .ret ((xs.map wt).map PyData.int) := by
    rw [map_ret (g := fun x => .int (wt x)) xs fun x h => W.weight n (by omega) x (hx x h), List.map_map]
    rfl
  rw [m__law_weight]
  unfold rowK
  simp only [ix0, ix1, rb, cEq_str, wRow, Bool.false_eq_true, if_false, cIn_2, Bool.or_false, if_true, show items (PyData.tuple xs) = .ret xs from rfl, hm, dSum_map, dAdd_int]
  rfl
theorem rng_at {n i : Nat} (h : i < (rng 0 n).length) : (rng 0 n)[i] = .int (i : Int) := by
  have e := rng_get (lo := 0) (n := n) (i := i) (by rw [rng_len] at h; exact h)
  rw [List.getElem?_eq_getElem h, Int.zero_add] at e
  injection e
theorem far_row (hL : L ≤ 8) (W : Lv L κ V wt d) (Z : Lw L κ V wt d) {n : Nat} {F : List PyData} {M : Nat} (hn : 2 * L ≤ n) (hM : L ≤ M) (hx : ∀ a ∈ xs, V a) (hy : ∀ b ∈ ys, V b) (hz : ys.length ≤ 1000) (hz2 : xs.length ≤ 1000) (hF : ∀ a ∈ xs, ∀ b ∈ ys, ∀ x ∈ keysN M κ a b, x ∈ F) :
    m__law_far (n + 1) F (rowK κ) (.tuple xs) (.tuple ys) = .ret (.int (edr wt d xs.reverse ys.reverse)) := by
  rw [m__law_far]
  unfold rowK
  simp only [ix0, ix1, rb, nxT, cEq_str, cNe_str, wRow, Bool.false_eq_true, if_false, Bool.not_true, show items (PyData.tuple ys) = .ret ys from rfl, show items (PyData.tuple xs) = .ret xs from rfl]
  have e0 : PyData.list [.int 0] = .list (lineD wt d xs ys 0 (0 + 1)) := by
    show _ = PyData.list [.int (eT wt d xs ys 0 0)]
    rw [eT_00]
  rw [e0, forN_at (fun y => PyData.list (lineD wt d xs ys 0 (y + 1))) _ 0 fun i hi => ?_]
  · rw [rb, Nat.zero_add]
    rw [show PyData.list (unL (PyData.list (lineD wt d xs ys 0 (ys.length + 1)))) = (fun x => PyData.list (lineD wt d xs ys x (ys.length + 1))) 0 from rfl]
    rw [forC_at' (fun x => PyData.list (lineD wt d xs ys x (ys.length + 1))) _ 0 fun i hi => ?_]
    · rw [rb, Nat.zero_add, nxT_nx, dLen_tup, rb]
      have a2 : dIx (.list (lineD wt d xs ys xs.length (ys.length + 1))) (.int (ys.length : Int)) = .ret (.int (eT wt d xs ys xs.length ys.length)) := tabD_ixL (f := fun y => .int (eT wt d xs ys xs.length y)) (Nat.lt_succ_self _)
      rw [a2, eT_all]
    · rw [Nat.zero_add]
      have vx := hx _ (List.getElem_mem hi)
      have a0 : dIx (.list (lineD wt d xs ys i (ys.length + 1))) (.int 0) = .ret (.int (eT wt d xs ys i 0)) := tabD_ixL (f := fun y => .int (eT wt d xs ys i y)) (i := 0) (Nat.zero_lt_succ _)
      rw [Z.weight 12 (by omega) _ vx, rb, a0, rb, dAdd_int, rb, ← eT_s0 hi, dLen_tup, rb, range_eq (by omega) (by omega), rb, Int.toNat_natCast]
      rw [show PyData.list [.int (eT wt d xs ys (i + 1) 0)] = .list (lineD wt d xs ys (i + 1) (0 + 1)) from rfl]
      rw [forN_at (fun y => PyData.list (lineD wt d xs ys (i + 1) (y + 1))) _ 0 fun j hj => ?_]
      · rw [rb, rng_len, Nat.zero_add]
        rfl
      · rw [rng_at, Nat.zero_add]
        rw [rng_len] at hj
        have vy := hy _ (List.getElem_mem hj)
        have e1 : ((j : Int) + 1) = ((j + 1 : Nat) : Int) := by omega
        have a1 : dIx (.list (lineD wt d xs ys i (ys.length + 1))) (.int ((j + 1 : Nat) : Int)) = .ret (.int (eT wt d xs ys i (j + 1))) := tabD_ixL (f := fun y => .int (eT wt d xs ys i y)) (by omega)
        have a2 : dIx (.list (lineD wt d xs ys i (ys.length + 1))) (.int (j : Int)) = .ret (.int (eT wt d xs ys i j)) := tabD_ixL (f := fun y => .int (eT wt d xs ys i y)) (by omega)
        have a3 : dIx (.list (unL (.list (lineD wt d xs ys (i + 1) (j + 1))))) (.int (j : Int)) = .ret (.int (eT wt d xs ys (i + 1) j)) := tabD_ixL (f := fun y => .int (eT wt d xs ys (i + 1) y)) (by omega)
        have a4 : dIx (.tuple ys) (.int (j : Int)) = .ret ys[j] := ix_nat (List.getElem?_eq_getElem hj)
        have a5 : dApp (.list (lineD wt d xs ys (i + 1) (j + 1))) (.int (eT wt d xs ys (i + 1) (j + 1))) = .ret (.list (lineD wt d xs ys (i + 1) (j + 1 + 1))) := tabD_app (f := fun y => .int (eT wt d xs ys (i + 1) y)) (by omega)
        have g := Z.dist n F M hn hM _ _ vx vy (hF _ (List.getElem_mem hi) _ (List.getElem_mem hj))
        have es := eT_ss (wt := wt) (d := d) hi hj
        simp only [a4, rb, Z.weight 12 (by omega) _ vy, dAdd_int, e1, a1, a2, a3, g, dMin3, ← es, a5]
  · rw [Nat.zero_add]
    have vy := hy _ (List.getElem_mem hi)
    have e1 : (((unL (.list (lineD wt d xs ys 0 (i + 1)))).length : Nat) : Int) - 1 = (i : Int) := by
      show (((tabD _ (i + 1)).length : Nat) : Int) - 1 = _
      rw [tabD_len]
      omega
    have a1 : dIx (.list (unL (.list (lineD wt d xs ys 0 (i + 1))))) (.int (i : Int)) = .ret (.int (eT wt d xs ys 0 i)) := tabD_ixL (f := fun y => .int (eT wt d xs ys 0 y)) (by omega)
    have a2 : dApp (.list (lineD wt d xs ys 0 (i + 1))) (.int (eT wt d xs ys 0 (i + 1))) = .ret (.list (lineD wt d xs ys 0 (i + 1 + 1))) := tabD_app (f := fun y => .int (eT wt d xs ys 0 y)) (by omega)
    rw [dSub_int, rb, e1, a1, rb, Z.weight 12 (by omega) _ vy, rb, dAdd_int, ← eT_0s hi, rb, a2, rb]
theorem keysN_row {M : Nat} {x : PyData} (hκ : ∀ i, κ ≠ .int i) : x ∈ keysN (M + 1) (rowK κ) (.tuple xs) (.tuple ys) ↔ x = .tuple [rowK κ, .tuple xs, .tuple ys] ∨ ∃ a ∈ xs, ∃ b ∈ ys, x ∈ keysN M κ a b := by
  unfold rowK
  rw [keysN]
  rotate_left
  · exact fun w e => hκ _ e
  simp only [List.mem_cons, List.mem_flatMap, lstD]
theorem dstN_row (W : Lv L κ V wt d) (Z : Lw L κ V wt d) (hL : L ≤ 4) (hκ : ∀ i, κ ≠ .int i) {N n : Nat} (hn : L + 1 ≤ n) {v w : PyData} (hv : VR V N v) (hw : VR V N w) : dstN n (rowK κ) v w = dR wt d v w := by
  obtain ⟨n, rfl⟩ : ∃ m, n = m + 1 := ⟨n - 1, by omega⟩
  by_cases e : v = w
  · subst e
    rw [dR_yes]
    exact if_pos rfl
  · rw [dR_no e]
    unfold rowK
    refine Eq.trans (if_neg e : dstN (n + 1) (.tuple [.str "row", κ]) v w = _) ?_
    split
    · rename_i h
      injection h with h
      injection h with _ h
      injection h with h
      exact absurd h (hκ _)
    · rename_i h
      injection h with h
      injection h with _ h
      injection h with h
      subst h
      obtain ⟨xs, rfl, lx, hx⟩ := hv
      obtain ⟨ys, rfl, ly, hy⟩ := hw
      exact edr_congr _ _ (fun a h => Z.wN 4 hL a (hx a (List.mem_reverse.mp h))) (fun a h => Z.wN 4 hL a (hy a (List.mem_reverse.mp h))) fun a h b g => Z.dN n (by omega) a b (hx a (List.mem_reverse.mp h)) (hy b (List.mem_reverse.mp g))
    · rename_i h1 h2
      exact absurd rfl (h2 _ _)
theorem Lw.row (hL : L + 1 ≤ 4) (hκ : ∀ i, κ ≠ .int i) (W : Lv L κ V wt d) (Z : Lw L κ V wt d) {N : Nat} (hN : N ≤ 1000) : Lw (L + 1) (rowK κ) (VR V N) (wtR wt) (dR wt d) := by
  have hk : sig (rowK κ) = true ∧ (rowK κ).depth ≤ L + 1 := ⟨by unfold rowK; rw [sig, sigs, sigs, sigs, sig, Z.ks.1]; rfl, depth_tup fun x hx => by
    simp only [List.mem_cons, List.not_mem_nil, or_false] at hx
    rcases hx with rfl | rfl
    · rw [depth_str]; omega
    · exact Z.ks.2⟩
  refine ⟨fun n hn v h => ?_, fun n hn v w hv hw => dstN_row W Z (by omega) hκ hn hv hw, hk, fun n hn v h => weight_row Z hn h, fun n F M hn hM v w hv hw hF => ?_⟩
  · obtain ⟨n, rfl⟩ : ∃ m, n = m + 1 := ⟨n - 1, by omega⟩
    obtain ⟨xs, rfl, lx, hx⟩ := h
    show 1 + (xs.map (wtN n)).sum = 1 + (xs.map wt).sum
    rw [List.map_congr_left fun x h => Z.wN n (by omega) x (hx x h)]
  · obtain ⟨n, rfl⟩ : ∃ m, n = m + 2 := ⟨n - 2, by omega⟩
    refine dist_step (by omega) (W.row (by omega) hN) hk (dstN_row W Z (by omega) hκ (by omega) hv hw) hv hw (by omega) hF fun e => ?_
    rw [dR_no e]
    obtain ⟨M, rfl⟩ : ∃ m, M = m + 1 := ⟨M - 1, by omega⟩
    obtain ⟨xs, rfl, lx, hx⟩ := hv
    obtain ⟨ys, rfl, ly, hy⟩ := hw
    exact far_row (by omega) W Z (M := M) (by omega) (by omega) hx hy (by omega) (by omega) fun a ha b hb x hx => hF x ((keysN_row hκ).mpr (.inr ⟨a, ha, b, hb, hx⟩))
theorem lw_num (m : Int) : Lw 1 (numK m) (VN m) wtN1 dN := by
  have hk : sig (numK m) = true ∧ (numK m).depth ≤ 1 := ⟨by unfold numK; rw [sig, sigs, sigs, sigs, sig, sig]; rfl, depth_tup fun x hx => by
    simp only [List.mem_cons, List.not_mem_nil, or_false] at hx
    rcases hx with rfl | rfl
    · rw [depth_str]; omega
    · rw [depth_int]; omega⟩
  have hw : ∀ n, 1 ≤ n → ∀ v, m__law_weight n (numK m) v = .ret (.int (wtN1 v)) := fun n hn v => by
    obtain ⟨n, rfl⟩ : ∃ k, n = k + 1 := ⟨n - 1, by omega⟩
    rw [m__law_weight]
    unfold numK
    simp only [ix0, rb, cEq_str, wRow, if_true]
    rfl
  have hd : ∀ n, 1 ≤ n → ∀ v w, dstN n (numK m) v w = K27.dN v w := fun n hn v w => by
    obtain ⟨n, rfl⟩ : ∃ k, n = k + 1 := ⟨n - 1, by omega⟩
    by_cases e : v = w
    · subst e
      rw [dN_yes]
      exact if_pos rfl
    · rw [dN_no e]
      exact if_neg e
  refine ⟨fun n hn v h => ?_, fun n hn v w _ _ => hd n hn v w, hk, fun n hn v _ => hw n hn v, fun n F M hn hM v w hv hw' hF => ?_⟩
  · obtain ⟨i, rfl, h0, h1⟩ := h
    cases n <;> rfl
  · obtain ⟨n, rfl⟩ : ∃ m, n = m + 2 := ⟨n - 2, by omega⟩
    refine dist_step (by omega) (lv_num m) hk (hd 4 (by omega) v w) hv hw' (by omega) hF fun e => ?_
    rw [dN_no e, m__law_far]
    have h1 := hw 12 (by omega) v
    have h2 := hw 12 (by omega) w
    unfold numK at h1 h2 ⊢
    simp only [ix0, rb, nxT_nx, cEq_str, wRow, if_true, h1, h2, dAdd_int]
    rfl
end
end K27
namespace K27
open PySem L2 Cg Cgo Km
/-- .. and its check -/
structure Lc (L : Nat) (κ : PyData) (V : PyData → Prop) (wt : PyData → Int) : Prop where
  cnt : ∀ n D : Nat, L ≤ n → L ≤ D → m_count_kinds n κ (.int (D : Int)) = .ret (.int (L : Int))
  weigh : ∀ n, L ≤ n → ∀ v, V v → ∀ lim : Int, wt v ≤ lim → m_weigh n κ v (.int lim) = .ret (.int (wt v))
section
variable {L : Nat} {κ : PyData} {V : PyData → Prop} {wt : PyData → Int} {d : PyData → PyData → Int} {xs ys : List PyData}
theorem lc_num {m : Int} (h2 : 2 ≤ m) (h3 : m ≤ 1000) : Lc 1 (numK m) (VN m) wtN1 := by
  refine ⟨fun n D hn hD => ?_, fun n hn v hv lim hl => ?_⟩
  · obtain ⟨n, rfl⟩ : ∃ k, n = k + 1 := ⟨n - 1, by omega⟩
    have hi : m_inner_kinds (numK m) = .ret (.tuple []) := by
      unfold m_inner_kinds numK
      have e1 : decide ((2 : Int) ≤ m) = true := decide_eq_true h2
      have e2 : decide (m ≤ 1000) = true := decide_eq_true h3
      have e3 : decide (((([PyData.str "number", PyData.int m].length : Nat) : Int)) < 2) = false := rfl
      have e4 : decide ((2 : Int) < ((([PyData.str "number", PyData.int m].length : Nat) : Int))) = false := rfl
      have w1 : isW (.str "number") "table" = false := rfl
      simp only [Cg.isTup, Bool.not_true, Bool.false_eq_true, if_false, dLen_tup, rb, cLt_int, cGt_int, e3, e4, ix0, ix1, cEq_str, w1, wRow, if_true, m_is_within, m_is_whole, isInt, isBool, asB_bool, Bool.not_false, cLe_int, e1, e2]
    have e5 : decide ((D : Int) < 1) = false := decide_eq_false (by omega)
    rw [m_count_kinds, hi, rb]
    simp only [Cg.isNon, Bool.false_eq_true, if_false, cLt_int, rb, e5, show items (PyData.tuple []) = .ret [] from rfl, forC]
    rfl
  · obtain ⟨n, rfl⟩ : ∃ k, n = k + 1 := ⟨n - 1, by omega⟩
    have hl' : (1 : Int) ≤ lim := hl
    have e5 : decide (lim ≤ ((([] : List PyData).length : Nat) : Int)) = false := decide_eq_false (by show ¬ lim ≤ 0; omega)
    rw [m_weigh, parts_num hv, rb]
    unfold numK m_is_ordered
    have w1 : isW (.str "number") "set" = false := rfl
    have w2 : isW (.str "number") "bag" = false := rfl
    have w3 : isW (.str "number") "table" = false := rfl
    simp only [Cg.isNon, Bool.false_eq_true, if_false, dLen_lst, rb, cGe_int, e5, show items (PyData.list []) = .ret [] from rfl, forC, ix0, cEq_str, cIn_2, w1, w2, w3, Bool.or_false, asB_bool, if_true]
    rfl
theorem Lc.row (C : Lc L κ V wt) (W : Lv L κ V wt d) {N : Nat} : Lc (L + 1) (rowK κ) (VR V N) (wtR wt) := by
  refine ⟨fun n D hn hD => ?_, fun n hn v hv lim hl => ?_⟩
  · obtain ⟨n, rfl⟩ : ∃ k, n = k + 1 := ⟨n - 1, by omega⟩
    have hi : m_inner_kinds (rowK κ) = .ret (.tuple [κ]) := by
      unfold m_inner_kinds rowK
      have e3 : decide (((([PyData.str "row", κ].length : Nat) : Int)) < 2) = false := rfl
      have e4 : decide ((2 : Int) < ((([PyData.str "row", κ].length : Nat) : Int))) = false := rfl
      simp only [Cg.isTup, Bool.not_true, Bool.false_eq_true, if_false, dLen_tup, rb, cLt_int, cGt_int, e3, e4, ix0, cEq_str, wRow, cIn_3, Bool.or_false, if_true, asI_int, sl1]
    have e5 : decide ((D : Int) < 1) = false := decide_eq_false (by omega)
    have e6 : ((D : Int) - 1) = ((D - 1 : Nat) : Int) := by omega
    rw [m_count_kinds, hi, rb]
    simp only [Cg.isNon, Bool.false_eq_true, if_false, cLt_int, rb, e5, show items (PyData.tuple [κ]) = .ret [κ] from rfl, forC, dSub_int, e6, C.cnt n (D - 1) (by omega) (by omega), asI_int]
    show Tr.ret (PyData.int (1 + (L : Int))) = _
    congr 2
    omega
  · obtain ⟨n, rfl⟩ : ∃ k, n = k + 1 := ⟨n - 1, by omega⟩
    obtain ⟨xs, rfl, lx, hx⟩ := hv
    have hp : m_value_parts (rowK κ) (.tuple xs) = .ret (.list (xs.map fun x => .tuple [κ, x, .int 1])) := by
      unfold m_value_parts rowK
      have hf : (fdT fn_VALUE_PARTS (PyData.str "row")).bind (fun q_action => fm_VALUE_PARTS q_action [PyData.tuple [PyData.str "row", κ], PyData.tuple xs]) = m_item_parts (.tuple [.str "row", κ]) (.tuple xs) := rfl
      simp only [ix0, rb, cEq_str, wRow, Bool.false_eq_true, if_false, Cg.isTup, Bool.not_true, hf]
      unfold m_item_parts
      rw [show items (.tuple xs) = .ret xs from rfl, rb, map_ret (g := fun x => .tuple [κ, x, .int 1]) xs fun x _ => by rw [ix1, rb], rb]
    have hs : ∀ (zs : List PyData), (∀ z ∈ zs, V z) → (zs.length : Int) ≤ (zs.map wt).sum := by
      intro zs
      induction zs with
      | nil => exact fun _ => Int.le_refl _
      | cons z zs ih =>
        intro hz
        have h1 := W.w1 z (hz z List.mem_cons_self)
        have h2 := ih fun y hy => hz y (List.mem_cons_of_mem _ hy)
        rw [List.map_cons, List.sum_cons, List.length_cons]
        omega
    have hl' : 1 + (xs.map wt).sum ≤ lim := hl
    have e5 : decide (lim ≤ (((xs.map fun x => PyData.tuple [κ, x, .int 1]).length : Nat) : Int)) = false := decide_eq_false (by
      have := hs xs hx
      rw [List.length_map]
      omega)
    rw [m_weigh, hp, rb]
    simp only [Cg.isNon, Bool.false_eq_true, if_false, dLen_lst, rb, cGe_int, e5, show items (PyData.list (xs.map fun x => PyData.tuple [κ, x, .int 1])) = .ret (xs.map fun x => .tuple [κ, x, .int 1]) from rfl]
    refine (forC_at' (fun i => PyData.int (1 + ((xs.take i).map wt).sum)) _ 0 fun i hi => ?_).trans ?_
    rotate_left
    · rw [Nat.zero_add, List.length_map, List.take_length]
      unfold rowK m_is_ordered
      simp only [ix0, rb, cEq_str, wRow, Bool.false_eq_true, if_false, cIn_2, Bool.or_false, asB_bool, if_true]
      rfl
    · rw [List.length_map] at hi
      rw [Nat.zero_add, List.getElem_map]
      have vx := hx _ (List.getElem_mem hi)
      have et : ((xs.take (i + 1)).map wt).sum = ((xs.take i).map wt).sum + wt xs[i] := by
        rw [List.take_succ_eq_append_getElem hi, List.map_append, List.sum_append]
        simp
      have eb : ((xs.take (i + 1)).map wt).sum ≤ (xs.map wt).sum := by
        have h1 : (xs.map wt).sum = ((xs.take (i + 1)).map wt).sum + ((xs.drop (i + 1)).map wt).sum := by
          rw [← List.sum_append, ← List.map_append, List.take_append_drop]
        have h2 := sum_pos (wt := wt) (xs.drop (i + 1)) fun x h => by have := W.w1 x (hx x (List.mem_of_mem_drop h)); omega
        omega
      have ed : dDiv (.int (lim - (1 + ((xs.take i).map wt).sum))) (PyData.int 1) = .ret (.int (lim - (1 + ((xs.take i).map wt).sum))) := by
        show Tr.ret (PyData.int (_ / 1)) = _
        rw [Int.ediv_one]
      show (((dSub (.int lim) (.int (1 + ((xs.take i).map wt).sum))).bind fun x116 => dDiv x116 (.int 1)).bind fun x117 => m_weigh n κ xs[i] x117).bind _ = _
      rw [dSub_int, rb, ed, rb, C.weigh n (by omega) _ vx _ (by omega), rb]
      simp only [Cg.isNon, Bool.false_eq_true, if_false, asI_int, rb, show dMul (.int 1) (PyData.int (wt xs[i])) = .ret (.int (1 * wt xs[i])) from rfl, Int.one_mul, et]
      congr 3
      omega
theorem check_ok (hL : L ≤ 5) (C : Lc L κ V wt) {v w : PyData} (hv : V v) (hw : V w) (h1 : wt v ≤ 400) (h2 : wt w ≤ 400) : b_check_values κ v w = .ret () := by
  unfold b_check_values m_check_kind b_check_kind m_is_value
  rw [show (PyData.int 5) = PyData.int ((5 : Nat) : Int) from rfl, C.cnt 8 5 (by omega) (by omega), C.weigh 8 (by omega) v hv 400 h1, C.weigh 8 (by omega) w hw 400 h2]
  have e1 : decide ((20 : Int) < (L : Int)) = false := decide_eq_false (by omega)
  simp only [Tr.noX, rb, Cg.isNon, Bool.false_eq_true, if_false, cGt_int, e1, asB_bool, Bool.not_false, Bool.not_true]
theorem distance_eq (hL : L ≤ 4) (C : Lc L κ V wt) (W : Lv L κ V wt d) {v w : PyData} (hv : V v) (hw : V w) (h1 : wt v ≤ 400) (h2 : wt w ≤ 400) : m_distance κ v w = .ret (.int (d v w)) := by
  unfold m_distance m_check_values
  rw [check_ok (by omega) C hv hw h1 h2, rb, rb, W.gap 12 (by omega) v w hv hw]
  rfl
end
end K27
namespace K27
open PySem L2 Cg Cgo Km
/-- parts that make ys of xs, and what they cost -/
inductive Pt (C : PyData → PyData → PyData → Int → Prop) (wt : PyData → Int) : List PyData → List PyData → List PyData → Int → Prop
  | nil : Pt C wt [] [] [] 0
  | add {b : PyData} {L xs ys : List PyData} {c : Int} : Pt C wt L xs ys c → Pt C wt (.tuple [.str "add", b] :: L) xs (b :: ys) (c + wt b)
  | cut {a : PyData} {L xs ys : List PyData} {c : Int} : Pt C wt L xs ys c → Pt C wt (.tuple [.str "cut", a] :: L) (a :: xs) ys (c + wt a)
  | keep {n : Nat} {us L xs ys : List PyData} {c : Int} : us.length = n → 1 ≤ n → Pt C wt L xs ys c → Pt C wt (.tuple [.str "keep", .int (n : Int)] :: L) (us ++ xs) (us ++ ys) c
  | mend {q v y : PyData} {L xs ys : List PyData} {c e : Int} : C q v y e → Pt C wt L xs ys c → Pt C wt (.tuple [.str "mend", q] :: L) (v :: xs) (y :: ys) (c + e)
section
variable {C : PyData → PyData → PyData → Int → Prop} {wt : PyData → Int} {A B L xs ys x1 x2 y1 y2 : List PyData} {c c1 c2 : Int}
theorem Pt.cast (h : Pt C wt L xs ys c) (e : c = c1) : Pt C wt L xs ys c1 := e ▸ h
theorem Pt.app (h : Pt C wt A x1 y1 c1) (g : Pt C wt B x2 y2 c2) : Pt C wt (A ++ B) (x1 ++ x2) (y1 ++ y2) (c1 + c2) := by
  induction h with
  | nil => exact g.cast (by omega)
  | add h ih => exact ih.add.cast (by omega)
  | cut h ih => exact ih.cut.cast (by omega)
  | keep e1 e2 h ih =>
    rw [List.append_assoc, List.append_assoc]
    exact ih.keep e1 e2
  | mend hc h ih => exact (ih.mend hc).cast (by omega)
theorem Pt.split : ∀ {A xs ys : List PyData} {c : Int}, Pt C wt (A ++ B) xs ys c → ∃ x1 x2 y1 y2 c1 c2, xs = x1 ++ x2 ∧ ys = y1 ++ y2 ∧ c = c1 + c2 ∧ Pt C wt A x1 y1 c1 ∧ Pt C wt B x2 y2 c2
  | [], xs, ys, c, h => ⟨[], xs, [], ys, 0, c, rfl, rfl, by omega, .nil, h⟩
  | t :: A, xs, ys, c, h => by
    rw [List.cons_append] at h
    cases h with
    | add h =>
      obtain ⟨x1, x2, y1, y2, c1, c2, rfl, rfl, rfl, h1, h2⟩ := Pt.split h
      exact ⟨_, _, _, _, _, c2, rfl, (List.cons_append ..).symm, by omega, h1.add, h2⟩
    | cut h =>
      obtain ⟨x1, x2, y1, y2, c1, c2, rfl, rfl, rfl, h1, h2⟩ := Pt.split h
      exact ⟨_, _, _, _, _, c2, (List.cons_append ..).symm, rfl, by omega, h1.cut, h2⟩
    | keep e1 e2 h =>
      obtain ⟨x1, x2, y1, y2, c1, c2, rfl, rfl, rfl, h1, h2⟩ := Pt.split h
      exact ⟨_, _, _, _, _, c2, (List.append_assoc ..).symm, (List.append_assoc ..).symm, rfl, h1.keep e1 e2, h2⟩
    | mend hc h =>
      obtain ⟨x1, x2, y1, y2, c1, c2, rfl, rfl, rfl, h1, h2⟩ := Pt.split h
      exact ⟨_, _, _, _, _, c2, (List.cons_append ..).symm, (List.cons_append ..).symm, by omega, h1.mend hc, h2⟩
theorem Pt.len (h : Pt C wt L xs ys c) : L.length ≤ xs.length + ys.length := by
  induction h with
  | nil => exact Nat.zero_le _
  | add h ih => simp only [List.length_cons]; omega
  | cut h ih => simp only [List.length_cons]; omega
  | keep e1 e2 h ih => simp only [List.length_cons, List.length_append]; omega
  | mend hc h ih => simp only [List.length_cons]; omega
def PartD (t : PyData) : Prop := ∃ (s : Str) (b : PyData), t = .tuple [.str s, b] ∧ (s = "keep" → ∃ m : Int, b = .int m)
theorem Pt.parts (h : Pt C wt L xs ys c) : ∀ t ∈ L, PartD t := by
  induction h with
  | nil => exact fun t h => nomatch h
  | add h ih =>
    intro t ht
    rcases List.mem_cons.mp ht with rfl | ht
    · exact ⟨_, _, rfl, fun z => absurd z (by decide)⟩
    · exact ih t ht
  | cut h ih =>
    intro t ht
    rcases List.mem_cons.mp ht with rfl | ht
    · exact ⟨_, _, rfl, fun z => absurd z (by decide)⟩
    · exact ih t ht
  | keep e1 e2 h ih =>
    intro t ht
    rcases List.mem_cons.mp ht with rfl | ht
    · exact ⟨_, _, rfl, fun _ => ⟨_, rfl⟩⟩
    · exact ih t ht
  | mend hc h ih =>
    intro t ht
    rcases List.mem_cons.mp ht with rfl | ht
    · exact ⟨_, _, rfl, fun z => absurd z (by decide)⟩
    · exact ih t ht
theorem keepN_eq {t : PyData} {n : Int} (h : keepN t = some n) : t = .tuple [.str "keep", .int n] := by
  unfold keepN at h
  split at h
  · split at h
    · rename_i e
      subst e
      injection h with h
      rw [h]
    · cases h
  · cases h
/-- one part more, packed -/
theorem Pt.push {t : PyData} (h : Pt C wt A x1 y1 c1) (g : Pt C wt [t] x2 y2 c2) : Pt C wt (pushK A t) (x1 ++ x2) (y1 ++ y2) (c1 + c2) := by
  unfold pushK
  split
  · rename_i n m e1 e2
    have ht : t = .tuple [.str "keep", .int n] := keepN_eq e1
    subst ht
    obtain ⟨l, hl, hk⟩ := Option.bind_eq_some_iff.mp e2
    have hl' : l = .tuple [.str "keep", .int m] := keepN_eq hk
    subst hl'
    obtain ⟨A', rfl⟩ : ∃ A', A = A' ++ [.tuple [.str "keep", .int m]] := by
      obtain ⟨ys', rfl⟩ := List.getLast?_eq_some_iff.mp hl
      exact ⟨ys', rfl⟩
    rw [List.dropLast_concat]
    obtain ⟨u1, u2, w1, w2, d1, d2, rfl, rfl, rfl, h1, h2⟩ := h.split
    cases h2 with
    | @keep i us _ xs1 ys1 _ a1 a2 h2 =>
      cases h2
      cases g with
      | @keep j vs _ xs2 ys2 _ b1 b2 g =>
        cases g
        have k : Pt C wt [.tuple [.str "keep", .int (((i + j : Nat) : Nat) : Int)]] ((us ++ vs) ++ []) ((us ++ vs) ++ []) 0 := Pt.nil.keep (by rw [List.length_append, a1, b1]) (by omega)
        have r := h1.app k
        have ex : ∀ u : List PyData, u ++ (us ++ []) ++ (vs ++ []) = u ++ (us ++ vs ++ []) := fun u => by simp
        rw [ex, ex, ← Int.natCast_add]
        exact r.cast (by omega)
  · exact h.app g
theorem Pt.pack : ∀ {L A x1 y1 x2 y2 : List PyData} {c1 c2 : Int}, Pt C wt A x1 y1 c1 → Pt C wt L x2 y2 c2 → Pt C wt (L.foldl pushK A) (x1 ++ x2) (y1 ++ y2) (c1 + c2)
  | [], A, x1, y1, x2, y2, c1, c2, h, g => by
    cases g
    rw [List.append_nil, List.append_nil]
    exact h.cast (by omega)
  | t :: L, A, x1, y1, x2, y2, c1, c2, h, g => by
    obtain ⟨u1, u2, w1, w2, d1, d2, rfl, rfl, rfl, h1, h2⟩ := Pt.split (A := [t]) (B := L) g
    have r := (h.push h1).pack h2
    rw [List.append_assoc, List.append_assoc] at r
    exact r.cast (by omega)
end
end K27
namespace K27
open PySem L2 Cg Cgo Km
theorem forC_ind {α β S : Type} {r : PyData → β} {f : α → S → Tr (Ct S)} {k : S → Tr β} {R : Tr β} {I : List α → S → Prop} (fin : ∀ s, I [] s → k s = R) (step : ∀ x l s, I (x :: l) s → ∃ s', f x s = .ret (.nx s') ∧ I l s') : ∀ (l : List α) (s : S), I l s → forC r f k l s = R
  | [], s, h => fin s h
  | x :: l, s, h => by
    obtain ⟨s', e, h'⟩ := step x l s h
    rw [forC, e, rb]
    exact forC_ind fin step l s' h'
theorem whileC_ind {β S : Type} {r : PyData → β} {c : S → Tr Bool} {f : S → Tr (Ct S)} {k : S → Tr β} {Q : β → Prop} {I : S → Nat → Prop} (step : ∀ s m, I s m → (c s = .ret false ∧ ∃ d, k s = .ret d ∧ Q d) ∨ (c s = .ret true ∧ ∃ s' m', m' < m ∧ f s = .ret (.nx s') ∧ I s' m')) : ∀ (n : Nat) (s : S) (m : Nat), I s m → m < n → ∃ d, whileC r c f k n s = .ret d ∧ Q d
  | 0, s, m, h, hm => absurd hm (by omega)
  | n + 1, s, m, h, hm => by
    rw [whileC]
    rcases step s m h with ⟨e, d, h1, h2⟩ | ⟨e, s', m', h1, h2, h3⟩
    · rw [e, rb, if_neg (by decide)]
      exact ⟨d, h1, h2⟩
    · rw [e, rb, if_pos rfl, h2, rb]
      exact whileC_ind step n s' m' h3 (by omega)
theorem cPs : (isW (.str "add") "add" = true) ∧ (isW (.str "add") "keep" = false) ∧ (isW (.str "add") "mend" = false) ∧ (isW (.str "add") "cut" = false) ∧ (isW (.str "keep") "add" = false) ∧ (isW (.str "keep") "keep" = true) ∧ (isW (.str "keep") "mend" = false) ∧ (isW (.str "keep") "cut" = false) ∧ (isW (.str "mend") "add" = false) ∧ (isW (.str "mend") "keep" = false) ∧ (isW (.str "mend") "mend" = true) ∧ (isW (.str "mend") "cut" = false) ∧ (isW (.str "cut") "add" = false) ∧ (isW (.str "cut") "keep" = false) ∧ (isW (.str "cut") "mend" = false) ∧ (isW (.str "cut") "cut" = true) := ⟨rfl, rfl, rfl, rfl, rfl, rfl, rfl, rfl, rfl, rfl, rfl, rfl, rfl, rfl, rfl, rfl⟩
theorem wPs : (isW (.str "same") "same" = true) ∧ (isW (.str "same") "only" = false) ∧ (isW (.str "turn") "same" = false) ∧ (isW (.str "turn") "only" = false) ∧ (isW (.str "turn") "turn" = true) ∧ (isW (.str "row") "same" = false) ∧ (isW (.str "row") "only" = false) ∧ (isW (.str "row") "turn" = false) := ⟨rfl, rfl, rfl, rfl, rfl, rfl, rfl, rfl⟩
theorem cutD_nat {xs : List PyData} {a b : Nat} (hb : b ≤ xs.length) (hab : a ≤ b) : cutD xs (some (a : Int)) (some (b : Int)) = (xs.drop a).take (b - a) := by
  unfold cutD
  rw [HT.sIx_nat, HT.sIx_nat, Nat.min_eq_left hb, Nat.min_eq_left (by omega)]
theorem cutD_to {xs : List PyData} {b : Nat} (hb : b ≤ xs.length) : cutD xs none (some (b : Int)) = xs.take b := by
  unfold cutD
  rw [HT.sIx_nat, HT.sIx_none, Nat.min_eq_left hb, List.drop_zero, Nat.sub_zero]
/-- what a patch is good for -/
def Cq (L : Nat) (κ : PyData) (q v y : PyData) (e : Int) : Prop := (∀ n, L ≤ n → m__law_cost n κ q = .ret (.int e)) ∧ ∀ n, 2 * L ≤ n → m__law_made n κ q v = .ret (.tuple [y])
section
variable {L : Nat} {κ : PyData} {V : PyData → Prop} {wt : PyData → Int} {d : PyData → PyData → Int} {xs ys P : List PyData} {c : Int}
theorem cost_list {n : Nat} (hL : L ≤ 12) (hn : L ≤ n) (Z : Lw L κ V wt d) (h : Pt (Cq L κ) wt P xs ys c) (hx : ∀ a ∈ xs, V a) (hy : ∀ b ∈ ys, V b) :
    ∃ ns : List Int, mapIf (fun v_part => (dIx v_part (PyData.int 0)).bind fun x591 => cNe x591 (PyData.str "keep")) (fun v_part => ((dIx v_part (PyData.int 0)).bind fun x585 => cIn x585 (PyData.tuple [(PyData.str "cut"), (PyData.str "add")])).bind fun x590 => if x590 then m__law_weight 12 κ |> fun g => (dIx v_part (PyData.int 1)).bind g else (dIx v_part (PyData.int 1)).bind fun x589 => m__law_cost n κ x589) P = .ret (ns.map PyData.int) ∧ ns.sum = c := by
  induction h with
  | nil => exact ⟨[], rfl, rfl⟩
  | @add b P xs ys c h ih =>
    obtain ⟨ns, e, s⟩ := ih hx fun y h => hy y (List.mem_cons_of_mem _ h)
    refine ⟨wt b :: ns, ?_, by rw [List.sum_cons, s]; omega⟩
    rw [mapIf]
    simp only [ix0, ix1, rb, cNe_str, cIn_2, cPs, Bool.not_false, if_true, Bool.or_true, Bool.or_false, Bool.false_or, Z.weight 12 hL b (hy b List.mem_cons_self)] at e ⊢
    rw [e]
    rfl
  | @cut a P xs ys c h ih =>
    obtain ⟨ns, e, s⟩ := ih (fun x h => hx x (List.mem_cons_of_mem _ h)) hy
    refine ⟨wt a :: ns, ?_, by rw [List.sum_cons, s]; omega⟩
    rw [mapIf]
    simp only [ix0, ix1, rb, cNe_str, cIn_2, cPs, Bool.not_false, if_true, Bool.or_true, Bool.or_false, Bool.true_or, Z.weight 12 hL a (hx a List.mem_cons_self)] at e ⊢
    rw [e]
    rfl
  | @keep i us P xs ys c e1 e2 h ih =>
    obtain ⟨ns, e, s⟩ := ih (fun x h => hx x (List.mem_append_right _ h)) fun y h => hy y (List.mem_append_right _ h)
    refine ⟨ns, ?_, s⟩
    rw [mapIf]
    simp only [ix0, ix1, rb, cNe_str, cPs, Bool.not_true, Bool.false_eq_true, if_false] at e ⊢
    exact e
  | @mend q v y P xs ys c f hq h ih =>
    obtain ⟨ns, e, s⟩ := ih (fun x h => hx x (List.mem_cons_of_mem _ h)) fun y h => hy y (List.mem_cons_of_mem _ h)
    refine ⟨f :: ns, ?_, by rw [List.sum_cons, s]; omega⟩
    rw [mapIf]
    simp only [ix0, ix1, rb, cNe_str, cIn_2, cPs, Bool.not_false, if_true, Bool.or_self, Bool.false_eq_true, if_false, hq.1 n hn] at e ⊢
    rw [e]
    rfl
theorem cost_row {n : Nat} (hL : L ≤ 12) (hn : L + 1 ≤ n) (Z : Lw L κ V wt d) (h : Pt (Cq L κ) wt P xs ys c) (hx : ∀ a ∈ xs, V a) (hy : ∀ b ∈ ys, V b) : m__law_cost n (rowK κ) (.tuple [.str "row", .tuple P]) = .ret (.int c) := by
  obtain ⟨n, rfl⟩ : ∃ m, n = m + 1 := ⟨n - 1, by omega⟩
  obtain ⟨ns, e, s⟩ := cost_list (n := n) hL (by omega) Z h hx hy
  rw [m__law_cost]
  unfold rowK
  simp only [ix0, ix1, rb, cIn_2, cEq_str, wPs, wRow, Bool.or_self, Bool.false_eq_true, if_false, if_true, show items (PyData.tuple P) = .ret P from rfl] at e ⊢
  rw [e, rb, rb, dSum_map, s]
theorem made_list {n : Nat} (hn : 2 * L ≤ n) (W : Lv L κ V wt d) (hL : L ≤ 8) {xs0 ys0 : List PyData} (hz : ys0.length ≤ 1000) (hx0 : ∀ a ∈ xs0, V a) (h0 : Pt (Cq L κ) wt P xs0 ys0 c) :
    m__law_made_row (n + 1) (rowK κ) (.tuple P) (.tuple xs0) = .ret (.tuple [.tuple ys0]) := by
  rw [m__law_made_row, rb, rb, show items (PyData.tuple P) = .ret P from rfl, rb]
  refine forC_ind (I := fun l s => ∃ pre xs out ys c, s = (PyData.list out, PyData.int ((pre.length : Nat) : Int)) ∧ xs0 = pre ++ xs ∧ ys0 = out ++ ys ∧ Pt (Cq L κ) wt l xs ys c) (fun s h => ?_) (fun t l s h => ?_) _ _ ⟨[], xs0, [], ys0, c, rfl, rfl, rfl, h0⟩
  · obtain ⟨pre, xs, out, ys, c, rfl, e1, e2, h⟩ := h
    cases h
    rw [List.append_nil] at e1 e2
    subst e1 e2
    simp only [dLen_tup, rb, cEq_int, decide_true, if_true]
    rfl
  · obtain ⟨pre, xs, out, ys, c, rfl, e1, e2, h⟩ := h
    have ly : out.length + ys.length = ys0.length := by rw [e2, List.length_append]
    have lx : pre.length + xs.length = xs0.length := by rw [e1, List.length_append]
    cases h with
    | @add b _ _ ys c h =>
      refine ⟨(.list (out ++ [b]), .int ((pre.length : Nat) : Int)), ?_, pre, xs, out ++ [b], ys, c, rfl, e1, by rw [e2]; simp, h⟩
      have a1 : dApp (.list out) b = .ret (.list (out ++ [b])) := by
        unfold dApp
        rw [if_pos (by show out.length < 1000000; omega)]
        rfl
      simp only [ix0, ix1, rb, cEq_str, cPs, if_true, a1, andThen]
    | @keep i us _ xs ys c a1 a2 h =>
      refine ⟨(.list (out ++ us), .int (((pre ++ us).length : Nat) : Int)), ?_, pre ++ us, xs, out ++ us, ys, c, rfl, by rw [e1]; simp, by rw [e2]; simp, h⟩
      rw [List.length_append] at lx ly
      have e3 : ((pre.length : Nat) : Int) + ((i : Nat) : Int) = ((pre.length + i : Nat) : Int) := by omega
      have e4 : decide (((xs0.length : Nat) : Int) < ((pre.length + i : Nat) : Int)) = false := decide_eq_false (by omega)
      have e5 : dSl (.tuple xs0) (some ((pre.length : Nat) : Int)) (some ((pre.length + i : Nat) : Int)) = .ret (.tuple us) := by
        show Tr.ret (PyData.tuple (cutD _ _ _)) = _
        rw [cutD_nat (by omega) (by omega), e1, List.drop_left, Nat.add_sub_cancel_left, ← a1, List.take_left]
      have e6 : dCat (.list out) (.list us) = .ret (.list (out ++ us)) := by
        show (if out.length + us.length ≤ 1000000 then _ else _) = _
        rw [if_pos (by omega)]
      have e7 : ((pre.length + i : Nat) : Int) = (((pre ++ us).length : Nat) : Int) := by rw [List.length_append, a1]
      rw [← e7]
      simp only [ix0, ix1, rb, cEq_str, cPs, Bool.false_eq_true, if_false, if_true, dAdd_int, e3, dLen_tup, cGt_int, e4, asI_int, e5, show dList (.tuple us) = .ret (.list us) from rfl, unL_list, e6, andThen]
    | @cut a _ xs ys c h =>
      refine ⟨(.list out, .int (((pre ++ [a]).length : Nat) : Int)), ?_, pre ++ [a], xs, out, ys, c, rfl, by rw [e1]; simp, e2, h⟩
      rw [List.length_cons] at lx
      have e3 : decide (((xs0.length : Nat) : Int) ≤ ((pre.length : Nat) : Int)) = false := decide_eq_false (by omega)
      have e4 : dIx (.tuple xs0) (.int ((pre.length : Nat) : Int)) = .ret a := ix_nat (by rw [e1, List.getElem?_append_right (Nat.le_refl _), Nat.sub_self]; rfl)
      have va := hx0 a (by rw [e1]; simp)
      have e5 : cNe a a = .ret false := cNe_of (cEq_yes (by omega) (W.sg a va))
      have e7 : ((pre.length : Nat) : Int) + 1 = (((pre ++ [a]).length : Nat) : Int) := by rw [List.length_append, List.length_singleton]; omega
      simp only [ix0, ix1, rb, cEq_str, cPs, Bool.false_eq_true, if_false, if_true, dLen_tup, cGe_int, e3, e4, Cg.isNon, e5, dAdd_int, e7, andThen]
    | @mend q v y _ xs ys c f hq h =>
      refine ⟨(.list (out ++ [y]), .int (((pre ++ [v]).length : Nat) : Int)), ?_, pre ++ [v], xs, out ++ [y], ys, c, rfl, by rw [e1]; simp, by rw [e2]; simp, h⟩
      rw [List.length_cons] at lx ly
      have e3 : decide (((xs0.length : Nat) : Int) ≤ ((pre.length : Nat) : Int)) = false := decide_eq_false (by omega)
      have e4 : dIx (.tuple xs0) (.int ((pre.length : Nat) : Int)) = .ret v := ix_nat (by rw [e1, List.getElem?_append_right (Nat.le_refl _), Nat.sub_self]; rfl)
      have a1 : dApp (.list out) y = .ret (.list (out ++ [y])) := by
        unfold dApp
        rw [if_pos (by show out.length < 1000000; omega)]
        rfl
      have e7 : ((pre.length : Nat) : Int) + 1 = (((pre ++ [v]).length : Nat) : Int) := by rw [List.length_append, List.length_singleton]; omega
      unfold rowK
      simp only [ix0, ix1, rb, cEq_str, cPs, Bool.false_eq_true, if_false, if_true, dLen_tup, cGe_int, e3, e4, hq.2 n hn, Cg.isNon, dAdd_int, e7, a1, andThen]
theorem made_row {n : Nat} (hn : 2 * (L + 1) ≤ n) (W : Lv L κ V wt d) (hL : L ≤ 8) {xs0 ys0 : List PyData} (hz : ys0.length ≤ 1000) (hx0 : ∀ a ∈ xs0, V a) (h0 : Pt (Cq L κ) wt P xs0 ys0 c) :
    m__law_made n (rowK κ) (.tuple [.str "row", .tuple P]) (.tuple xs0) = .ret (.tuple [.tuple ys0]) := by
  obtain ⟨n, rfl⟩ : ∃ m, n = m + 2 := ⟨n - 2, by omega⟩
  have h := made_list (n := n) (by omega) W hL hz hx0 h0
  rw [m__law_made]
  simp only [ix0, ix1, rb, cEq_str, cIn_2, wPs, wRow, Bool.or_self, Bool.false_eq_true, if_false, if_true, h]
theorem same_ok {v : PyData} {e : Int} (he : e = 0) (hL : 1 ≤ L) : Cq L κ (.tuple [.str "same"]) v v e := by
  subst he
  refine ⟨fun n hn => ?_, fun n hn => ?_⟩
  · obtain ⟨n, rfl⟩ : ∃ m, n = m + 1 := ⟨n - 1, by omega⟩
    rw [m__law_cost]
    simp only [ix0, rb, cIn_2, wPs, Bool.or_false, if_true]
  · obtain ⟨n, rfl⟩ : ∃ m, n = m + 1 := ⟨n - 1, by omega⟩
    rw [m__law_made]
    simp only [ix0, rb, cEq_str, wPs, if_true]
end
end K27
namespace K27
open PySem L2 Cg Cgo Km
theorem dApp_eq {L : List PyData} {y : PyData} (h : L.length < 1000000) : dApp (.list L) y = .ret (.list (L ++ [y])) := by
  unfold dApp
  rw [if_pos (by show L.length < 1000000; exact h)]
  rfl
theorem cYS : (isW (.str "same") "same" = true) ∧ (isW (.str "same") "only" = false) ∧ (isW (.str "same") "turn" = false) ∧ (isW (.str "same") "record" = false) ∧ (isW (.str "same") "choice" = false) ∧ (isW (.str "same") "row" = false) ∧ (isW (.str "same") "set" = false) ∧ (isW (.str "same") "bag" = false) ∧ (isW (.str "same") "table" = false) ∧ (isW (.str "only") "same" = false) ∧ (isW (.str "only") "only" = true) ∧ (isW (.str "only") "turn" = false) ∧ (isW (.str "only") "record" = false) ∧ (isW (.str "only") "choice" = false) ∧ (isW (.str "only") "row" = false) ∧ (isW (.str "only") "set" = false) ∧ (isW (.str "only") "bag" = false) ∧ (isW (.str "only") "table" = false) ∧ (isW (.str "turn") "same" = false) ∧ (isW (.str "turn") "only" = false) ∧ (isW (.str "turn") "turn" = true) ∧ (isW (.str "turn") "record" = false) ∧ (isW (.str "turn") "choice" = false) ∧ (isW (.str "turn") "row" = false) ∧ (isW (.str "turn") "set" = false) ∧ (isW (.str "turn") "bag" = false) ∧ (isW (.str "turn") "table" = false) ∧ (isW (.str "record") "same" = false) ∧ (isW (.str "record") "only" = false) ∧ (isW (.str "record") "turn" = false) ∧ (isW (.str "record") "record" = true) ∧ (isW (.str "record") "choice" = false) ∧ (isW (.str "record") "row" = false) ∧ (isW (.str "record") "set" = false) ∧ (isW (.str "record") "bag" = false) ∧ (isW (.str "record") "table" = false) ∧ (isW (.str "choice") "same" = false) ∧ (isW (.str "choice") "only" = false) ∧ (isW (.str "choice") "turn" = false) ∧ (isW (.str "choice") "record" = false) ∧ (isW (.str "choice") "choice" = true) ∧ (isW (.str "choice") "row" = false) ∧ (isW (.str "choice") "set" = false) ∧ (isW (.str "choice") "bag" = false) ∧ (isW (.str "choice") "table" = false) ∧ (isW (.str "row") "same" = false) ∧ (isW (.str "row") "only" = false) ∧ (isW (.str "row") "turn" = false) ∧ (isW (.str "row") "record" = false) ∧ (isW (.str "row") "choice" = false) ∧ (isW (.str "row") "row" = true) ∧ (isW (.str "row") "set" = false) ∧ (isW (.str "row") "bag" = false) ∧ (isW (.str "row") "table" = false) ∧ (isW (.str "set") "same" = false) ∧ (isW (.str "set") "only" = false) ∧ (isW (.str "set") "turn" = false) ∧ (isW (.str "set") "record" = false) ∧ (isW (.str "set") "choice" = false) ∧ (isW (.str "set") "row" = false) ∧ (isW (.str "set") "set" = true) ∧ (isW (.str "set") "bag" = false) ∧ (isW (.str "set") "table" = false) ∧ (isW (.str "bag") "same" = false) ∧ (isW (.str "bag") "only" = false) ∧ (isW (.str "bag") "turn" = false) ∧ (isW (.str "bag") "record" = false) ∧ (isW (.str "bag") "choice" = false) ∧ (isW (.str "bag") "row" = false) ∧ (isW (.str "bag") "set" = false) ∧ (isW (.str "bag") "bag" = true) ∧ (isW (.str "bag") "table" = false) ∧ (isW (.str "table") "same" = false) ∧ (isW (.str "table") "only" = false) ∧ (isW (.str "table") "turn" = false) ∧ (isW (.str "table") "record" = false) ∧ (isW (.str "table") "choice" = false) ∧ (isW (.str "table") "row" = false) ∧ (isW (.str "table") "set" = false) ∧ (isW (.str "table") "bag" = false) ∧ (isW (.str "table") "table" = true) ∧ (isW (.str "end") "mend" = false) ∧ (isW (.str "end") "keep" = false) ∧ (isW (.str "end") "cut" = false) ∧ (isW (.str "end") "add" = false) ∧ (isW (.str "mend") "mend" = true) ∧ (isW (.str "mend") "keep" = false) ∧ (isW (.str "mend") "cut" = false) ∧ (isW (.str "mend") "add" = false) ∧ (isW (.str "keep") "mend" = false) ∧ (isW (.str "keep") "keep" = true) ∧ (isW (.str "keep") "cut" = false) ∧ (isW (.str "keep") "add" = false) ∧ (isW (.str "cut") "mend" = false) ∧ (isW (.str "cut") "keep" = false) ∧ (isW (.str "cut") "cut" = true) ∧ (isW (.str "cut") "add" = false) ∧ (isW (.str "add") "mend" = false) ∧ (isW (.str "add") "keep" = false) ∧ (isW (.str "add") "cut" = false) ∧ (isW (.str "add") "add" = true) ∧ (isW (.str "out") "mend" = false) ∧ (isW (.str "out") "keep" = false) ∧ (isW (.str "out") "cut" = false) ∧ (isW (.str "out") "add" = false) ∧ (isW (.str "in") "mend" = false) ∧ (isW (.str "in") "keep" = false) ∧ (isW (.str "in") "cut" = false) ∧ (isW (.str "in") "add" = false) := ⟨rfl, rfl, rfl, rfl, rfl, rfl, rfl, rfl, rfl, rfl, rfl, rfl, rfl, rfl, rfl, rfl, rfl, rfl, rfl, rfl, rfl, rfl, rfl, rfl, rfl, rfl, rfl, rfl, rfl, rfl, rfl, rfl, rfl, rfl, rfl, rfl, rfl, rfl, rfl, rfl, rfl, rfl, rfl, rfl, rfl, rfl, rfl, rfl, rfl, rfl, rfl, rfl, rfl, rfl, rfl, rfl, rfl, rfl, rfl, rfl, rfl, rfl, rfl, rfl, rfl, rfl, rfl, rfl, rfl, rfl, rfl, rfl, rfl, rfl, rfl, rfl, rfl, rfl, rfl, rfl, rfl, rfl, rfl, rfl, rfl, rfl, rfl, rfl, rfl, rfl, rfl, rfl, rfl, rfl, rfl, rfl, rfl, rfl, rfl, rfl, rfl, rfl, rfl, rfl, rfl, rfl, rfl, rfl, rfl⟩
theorem push_keep {o' : List PyData} {m n : Int} : pushK (o' ++ [.tuple [.str "keep", .int m]]) (.tuple [.str "keep", .int n]) = o' ++ [.tuple [.str "keep", .int (m + n)]] := by
  unfold pushK
  rw [keepN_keep, List.getLast?_concat, Option.bind_some, keepN_keep]
  simp only
  rw [List.dropLast_concat]
theorem set_end (o' : List PyData) (x y : PyData) : (o' ++ [x]).set o'.length y = o' ++ [y] := by
  rw [List.set_append_right _ _ (Nat.le_refl _), Nat.sub_self]
  rfl
theorem push_other {o' : List PyData} {t : PyData} {n : Int} (h : keepN t = none) : pushK (o' ++ [t]) (.tuple [.str "keep", .int n]) = o' ++ [t] ++ [.tuple [.str "keep", .int n]] := by
  unfold pushK
  rw [keepN_keep, List.getLast?_concat, Option.bind_some, h]
def OutOk (o : List PyData) : Prop := ∀ t ∈ o, ∃ (s : Str) (b : PyData), t = .tuple [.str s, b] ∧ (s = "keep" → ∃ m : Int, b = .int m)
theorem out_push {o : List PyData} {t : PyData} (h1 : OutOk o) (h2 : ∃ (s : Str) (b : PyData), t = .tuple [.str s, b] ∧ (s = "keep" → ∃ m : Int, b = .int m)) : OutOk (pushK o t) := by
  unfold pushK
  split
  · intro u hu
    rcases List.mem_append.mp hu with h | h
    · exact h1 u ((List.dropLast_sublist _).subset h)
    · exact ⟨"keep", _, List.mem_singleton.mp h, fun _ => ⟨_, rfl⟩⟩
  · intro u hu
    rcases List.mem_append.mp hu with h | h
    · exact h1 u h
    · rw [List.mem_singleton.mp h]
      exact h2
theorem last_or {o : List PyData} (h : OutOk o) : o = [] ∨ (∃ o' m, o = o' ++ [.tuple [.str "keep", .int m]]) ∨ ∃ o' s b, o = o' ++ [.tuple [.str s, b]] ∧ isW (.str s) "keep" = false ∧ keepN (.tuple [.str s, b]) = none := by
  rcases List.eq_nil_or_concat o with rfl | ⟨o', t, rfl⟩
  · exact .inl rfl
  · rw [List.concat_eq_append] at h ⊢
    obtain ⟨s, b, rfl, hk⟩ := h t (by simp)
    by_cases e : s = "keep"
    · subst e
      obtain ⟨m, rfl⟩ := hk rfl
      exact .inr (.inl ⟨o', m, rfl⟩)
    · refine .inr (.inr ⟨o', s, b, rfl, ?_, ?_⟩)
      · cases z : isW (.str s) "keep" with
        | false => rfl
        | true => exact absurd (PyData.str.inj (isW_yes z)) e
      · unfold keepN
        split
        · rename_i e2
          injection e2 with e2
          injection e2 with e2 _
          injection e2 with e2
          rw [← e2]
          exact if_neg e
        · rfl
theorem ixL_last (o : List PyData) (t : PyData) : dIx (.list (o ++ [t])) (.int (-1)) = .ret t := by
  have hl : (o ++ [t]).length = o.length + 1 := by rw [List.length_append, List.length_singleton]
  have e : ((-1 : Int) + (((o.length + 1 : Nat) : Int))).toNat = o.length := by omega
  unfold dIx
  simp only
  unfold atI ixN
  rw [hl, if_neg (by omega), if_pos (by omega), e, Option.bind_some, List.getElem?_append_right (Nat.le_refl _), Nat.sub_self]
  rfl
theorem setL_last (o : List PyData) (t y : PyData) : dSetL (.list (o ++ [t])) (.int (-1)) y = .ret (.list (o ++ [y])) := by
  have e : ((-1 : Int) + ((o ++ [t]).length : Int)).toNat = o.length := by rw [List.length_append, List.length_singleton]; omega
  unfold dSetL
  simp only
  rw [show unL (.list (o ++ [t])) = o ++ [t] from rfl, if_neg (by omega), if_pos (by rw [List.length_append, List.length_singleton]; omega), e, set_end]
theorem packed_eq {L : List PyData} (h : OutOk L) (hl : L.length ≤ 10000) : m_packed (.list L) = .ret (.tuple (L.foldl pushK [])) := by
  have rb : ∀ {α β : Type} (a : α) (f : α → Tr β), (Tr.ret a).bind f = f a := fun _ _ => rfl
  rw [m_packed, rb, show items (.list L) = .ret L from rfl, rb]
  obtain ⟨F, hF⟩ : ∃ F : PyData → PyData → Tr PyData, F = (fun (v_part : PyData) (x95 : PyData) => ((((dIx v_part (PyData.int 0)).bind fun x96 => cEq x96 (PyData.str "keep")).bind fun x99 => if x99 then if (!(unL x95).isEmpty) then ((dIx (.list (unL x95)) (PyData.int (-1))).bind fun x97 => dIx x97 (PyData.int 0)).bind fun x98 => cEq x98 (PyData.str "keep") else Tr.ret false else Tr.ret false).bind fun x106 => (if x106 then (((((dIx (.list (unL x95)) (PyData.int (-1))).bind fun x101 => dIx x101 (PyData.int 1)).bind fun x102 => (dIx v_part (PyData.int 1)).bind fun x103 => dAdd x102 x103).bind fun x104 => Tr.ret (PyData.tuple [(PyData.str "keep"), x104])).bind fun x105 => (dSetL x95 (PyData.int (-1)) x105).bind fun v_found => Tr.ret v_found : Tr (PyData)) else (dApp x95 v_part).bind fun v_found => Tr.ret v_found).bind fun x100 => Tr.ret x100 : Tr (PyData))) := ⟨_, rfl⟩
  rw [← hF]
  have uL : ∀ X : List PyData, unL (.list X) = X := fun _ => rfl
  suffices key : ∀ (M o : List PyData), (∀ x ∈ M, x ∈ L) → OutOk o → o.length + M.length ≤ 10000 → forN F M (.list o) = .ret (.list (M.foldl pushK o)) by
    rw [key L [] (fun _ h => h) (fun t ht => nomatch ht) (by simp only [List.length_nil]; omega), rb]
    rfl
  intro M
  induction M with
  | nil => intro o _ _ _; rfl
  | cons x M ih =>
    intro o hm ho hz
    rw [List.length_cons] at hz
    obtain ⟨s, b, rfl, hk⟩ := h x (hm x List.mem_cons_self)
    have pl : (pushK o (.tuple [.str s, b])).length ≤ o.length + 1 := by
      unfold pushK
      split
      · rw [List.length_append, List.length_singleton, List.length_dropLast]; omega
      · rw [List.length_append, List.length_singleton]; omega
    have next := ih (pushK o (.tuple [.str s, b])) (fun y hy => hm y (List.mem_cons_of_mem _ hy)) (out_push ho ⟨_, _, rfl, hk⟩) (by omega)
    rw [List.foldl_cons, forN]
    have app : dApp (.list o) (.tuple [.str s, b]) = .ret (.list (o ++ [.tuple [.str s, b]])) := dApp_eq (by omega)
    suffices st : F (.tuple [.str s, b]) (.list o) = .ret (.list (pushK o (.tuple [.str s, b]))) by rw [st, rb, next]
    rw [hF]
    by_cases e : s = "keep"
    · subst e
      obtain ⟨n, rfl⟩ := hk rfl
      rcases last_or ho with e | ⟨o', m, e⟩ | ⟨o', s', b', e, hs, hkn⟩
      · rw [e] at app ⊢
        simp only [ix0, rb, cEq_str, cYS, Bool.false_eq_true, if_false, if_true, uL, List.isEmpty_nil, Bool.not_true, app]
        rw [pushK_first]
        rfl
      · rw [e]
        have e1 : (o' ++ [PyData.tuple [.str "keep", .int m]]).isEmpty = false := by cases o' <;> rfl
        simp only [ix0, ix1, rb, cEq_str, cYS, Bool.false_eq_true, if_false, if_true, uL, e1, Bool.not_false, ixL_last, dAdd_int, setL_last]
        rw [push_keep]
      · rw [e] at app ⊢
        have e1 : (o' ++ [PyData.tuple [.str s', b']]).isEmpty = false := by cases o' <;> rfl
        simp only [ix0, ix1, rb, cEq_str, cYS, Bool.false_eq_true, if_false, if_true, uL, e1, Bool.not_false, ixL_last, hs, app]
        rw [push_other hkn]
    · have hs : isW (.str s) "keep" = false := by
        cases z : isW (.str s) "keep" with
        | false => rfl
        | true => exact absurd (PyData.str.inj (isW_yes z)) e
      have kn : keepN (.tuple [.str s, b]) = none := by
        unfold keepN
        split
        · rename_i e2
          injection e2 with e2
          injection e2 with e2 _
          injection e2 with e2
          rw [← e2]
          exact if_neg e
        · rfl
      simp only [ix0, rb, cEq_str, hs, Bool.false_eq_true, if_false, app]
      rw [pushK_not kn]
section
variable {L : Nat} {κ : PyData} {V : PyData → Prop} {wt : PyData → Int} {d : PyData → PyData → Int} {xs ys P : List PyData} {c : Int}
theorem hts_ix {x : Nat} (hx : x ≤ xs.length) : dIx (.list (htsD wt d xs ys (xs.length + 1))) (.int (x : Int)) = .ret (.list (lineD wt d xs ys x (ys.length + 1))) := tabD_ixL (f := fun x => .list (lineD wt d xs ys x (ys.length + 1))) (by omega)
theorem line_ix {x y : Nat} (hy : y ≤ ys.length) : dIx (.list (lineD wt d xs ys x (ys.length + 1))) (.int (y : Int)) = .ret (.int (eT wt d xs ys x y)) := tabD_ixL (f := fun y => .int (eT wt d xs ys x y)) (by omega)
theorem take_last {x : Nat} (h : x < xs.length) : dIx (.tuple (xs.take (x + 1))) (.int (-1)) = .ret xs[x] := by
  rw [List.take_succ_eq_append_getElem h]
  exact ixT_m1 _ _
theorem cNe_str' (s t : Str) (b : PyData) : ((dIx (.tuple [.str s, b]) (.int 0)).bind fun x => cNe x (.str t)) = .ret (!isW (.str s) t) := by
  rw [ix0, rb, cNe_str]
/-- the last part, and where it leads -/
theorem last_eq {n x y : Nat} (hL : L ≤ 4) (W : Lv L κ V wt d) (hp : ∀ v w, V v → V w → ∃ p, m_least_patch n κ v w = .ret p ∧ Cq L κ p v w (d v w)) (hx : ∀ a ∈ xs, V a) (hy : ∀ b ∈ ys, V b) (hxl : x ≤ xs.length) (hyl : y ≤ ys.length) (h0 : 0 < x + y) :
    ∃ s b x' y', m_last_part (n + 1) κ (.tuple (xs.take x)) (.tuple (ys.take y)) (.list (htsD wt d xs ys (xs.length + 1))) = .ret (.tuple [.str s, b]) ∧ ((isW (.str s) "add" = false ∧ x' + 1 = x) ∨ (isW (.str s) "add" = true ∧ x' = x ∧ y' < y)) ∧ ((isW (.str s) "cut" = false ∧ y' + 1 = y) ∨ (isW (.str s) "cut" = true ∧ y' = y ∧ x' < x)) ∧
      ∀ P c, Pt (Cq L κ) wt P (xs.drop x) (ys.drop y) c → Pt (Cq L κ) wt (.tuple [.str s, b] :: P) (xs.drop x') (ys.drop y') (c + (eT wt d xs ys x y - eT wt d xs ys x' y')) := by
  have lx : (xs.take x).length = x := by rw [List.length_take, Nat.min_eq_left hxl]
  have ly : (ys.take y).length = y := by rw [List.length_take, Nat.min_eq_left hyl]
  have cutS : ∀ x1 (h : x1 < xs.length) (P : List PyData) (c e : Int) (zs : List PyData), e = wt xs[x1] → Pt (Cq L κ) wt P (xs.drop (x1 + 1)) zs c → Pt (Cq L κ) wt (.tuple [.str "cut", xs[x1]] :: P) (xs.drop x1) zs (c + e) := fun x1 h P c e zs he g => by
    rw [List.drop_eq_getElem_cons h, he]
    exact g.cut
  have addS : ∀ y1 (h : y1 < ys.length) (P : List PyData) (c e : Int) (zs : List PyData), e = wt ys[y1] → Pt (Cq L κ) wt P zs (ys.drop (y1 + 1)) c → Pt (Cq L κ) wt (.tuple [.str "add", ys[y1]] :: P) zs (ys.drop y1) (c + e) := fun y1 h P c e zs he g => by
    rw [List.drop_eq_getElem_cons h, he]
    exact g.add
  match x, y, hxl, hyl, h0, lx, ly with
  | 0, 0, _, _, h0, _, _ => exact absurd h0 (by omega)
  | 0, y + 1, _, hyl, _, lx, ly =>
    refine ⟨"add", ys[y], 0, y, ?_, .inr ⟨rfl, rfl, by omega⟩, .inl ⟨rfl, rfl⟩, fun P c g => addS y hyl P c _ _ ?_ g⟩
    · have e1 : decide ((0 : Int) < ((0 : Nat) : Int)) = false := rfl
      rw [m_last_part]
      simp only [dLen_tup, lx, ly, rb, hts_ix (Nat.zero_le _), line_ix hyl, cGt_int, e1, Bool.false_eq_true, if_false, take_last hyl]
    · rw [eT_0s hyl]
      omega
  | x + 1, 0, hxl, _, _, lx, ly =>
    refine ⟨"cut", xs[x], x, 0, ?_, .inl ⟨rfl, rfl⟩, .inr ⟨rfl, rfl, by omega⟩, fun P c g => cutS x hxl P c _ _ ?_ g⟩
    · have e1 : decide ((0 : Int) < ((0 : Nat) : Int)) = false := rfl
      have e2 : decide ((0 : Int) < ((x + 1 : Nat) : Int)) = true := decide_eq_true (by omega)
      have e3 : ((x + 1 : Nat) : Int) - 1 = (x : Int) := by omega
      have e4 := eT_s0 (wt := wt) (d := d) (ys := ys) hxl
      rw [m_last_part]
      simp only [dLen_tup, lx, ly, rb, hts_ix hxl, hts_ix (Nat.le_of_lt hxl), line_ix (Nat.zero_le _), cGt_int, e1, e2, Bool.false_eq_true, if_false, if_true, dSub_int, e3, take_last hxl, W.heft 8 (by omega) _ (hx _ (List.getElem_mem hxl)), dAdd_int, cEq_int, e4, decide_true]
    · rw [eT_s0 hxl]
      omega
  | x + 1, y + 1, hxl, hyl, _, lx, ly =>
    have e1 : decide ((0 : Int) < ((y + 1 : Nat) : Int)) = true := decide_eq_true (by omega)
    have e2 : decide ((0 : Int) < ((x + 1 : Nat) : Int)) = true := decide_eq_true (by omega)
    have e3 : ((x + 1 : Nat) : Int) - 1 = (x : Int) := by omega
    have e5 : ((y + 1 : Nat) : Int) - 1 = (y : Int) := by omega
    have vx := hx _ (List.getElem_mem hxl)
    have vy := hy _ (List.getElem_mem hyl)
    have e4 := eT_ss (wt := wt) (d := d) hxl hyl
    have hg := W.gap 12 (by omega) _ _ vx vy
    have hh := W.heft 8 (by omega) _ vx
    by_cases q : eT wt d xs ys (x + 1) (y + 1) = eT wt d xs ys x y + d xs[x] ys[y]
    · by_cases r : xs[x] = ys[y]
      · refine ⟨"keep", .int 1, x, y, ?_, .inl ⟨rfl, rfl⟩, .inl ⟨rfl, rfl⟩, fun P c g => ?_⟩
        · rw [m_last_part]
          have hc : cEq xs[x] ys[y] = .ret true := by rw [← r]; exact cEq_yes (by omega) (W.sg _ vx)
          simp only [dLen_tup, lx, ly, rb, hts_ix hxl, hts_ix (Nat.le_of_lt hxl), line_ix hyl, line_ix (Nat.le_of_lt hyl), cGt_int, e1, e2, if_true, dSub_int, e3, e5, take_last hxl, take_last hyl, hg, dAdd_int, cEq_int, decide_eq_true q, hc]
        · rw [List.drop_eq_getElem_cons (Nat.lt_of_succ_le hxl), List.drop_eq_getElem_cons (Nat.lt_of_succ_le hyl), ← r]
          have k := g.keep (us := [xs[x]]) (n := 1) rfl (Nat.le_refl _)
          refine k.cast ?_
          rw [q, ← r, W.ds _ vx]
          omega
      · obtain ⟨p, hp1, hp2⟩ := hp _ _ vx vy
        refine ⟨"mend", p, x, y, ?_, .inl ⟨rfl, rfl⟩, .inl ⟨rfl, rfl⟩, fun P c g => ?_⟩
        · rw [m_last_part]
          have hc : cEq xs[x] ys[y] = .ret false := cEq_no (by omega) (W.sg _ vx) (W.sg _ vy).1 r
          simp only [dLen_tup, lx, ly, rb, hts_ix hxl, hts_ix (Nat.le_of_lt hxl), line_ix hyl, line_ix (Nat.le_of_lt hyl), cGt_int, e1, e2, if_true, dSub_int, e3, e5, take_last hxl, take_last hyl, hg, dAdd_int, cEq_int, decide_eq_true q, hc, Bool.false_eq_true, if_false, hp1]
        · rw [List.drop_eq_getElem_cons (Nat.lt_of_succ_le hxl), List.drop_eq_getElem_cons (Nat.lt_of_succ_le hyl)]
          refine (g.mend hp2).cast ?_
          rw [q]
          omega
    · by_cases r : eT wt d xs ys (x + 1) (y + 1) = eT wt d xs ys x (y + 1) + wt xs[x]
      · refine ⟨"cut", xs[x], x, y + 1, ?_, .inl ⟨rfl, rfl⟩, .inr ⟨rfl, rfl, by omega⟩, fun P c g => cutS x hxl P c _ _ ?_ g⟩
        · rw [m_last_part]
          simp only [dLen_tup, lx, ly, rb, hts_ix hxl, hts_ix (Nat.le_of_lt hxl), line_ix hyl, line_ix (Nat.le_of_lt hyl), cGt_int, e1, e2, if_true, dSub_int, e3, e5, take_last hxl, take_last hyl, hg, hh, dAdd_int, cEq_int, decide_eq_false q, decide_eq_true r, Bool.false_eq_true, if_false]
        · rw [r]
          omega
      · refine ⟨"add", ys[y], x + 1, y, ?_, .inr ⟨rfl, rfl, by omega⟩, .inl ⟨rfl, rfl⟩, fun P c g => addS y hyl P c _ _ ?_ g⟩
        · rw [m_last_part]
          simp only [dLen_tup, lx, ly, rb, hts_ix hxl, hts_ix (Nat.le_of_lt hxl), line_ix hyl, line_ix (Nat.le_of_lt hyl), cGt_int, e1, e2, if_true, dSub_int, e3, e5, take_last hxl, take_last hyl, hg, hh, dAdd_int, cEq_int, decide_eq_false q, decide_eq_false r, Bool.false_eq_true, if_false]
        · omega
theorem ex_tup {T : Tr PyData} {Q : List PyData → Prop} (h : ∃ r, T = .ret r ∧ ∃ P, r = .tuple P ∧ Q P) : ∃ P, T = .ret (.tuple P) ∧ Q P := by
  obtain ⟨r, e, P, rfl, q⟩ := h
  exact ⟨P, e, q⟩
/-- the parts -/
theorem parts_eq {n : Nat} (hL : L ≤ 3) (W : Lv L κ V wt d) (hp : ∀ v w, V v → V w → ∃ p, m_least_patch n κ v w = .ret p ∧ Cq L κ p v w (d v w)) (hx : ∀ a ∈ xs, V a) (hy : ∀ b ∈ ys, V b) (lx : xs.length ≤ 1000) (ly : ys.length ≤ 1000) :
    ∃ P, m_least_parts (n + 2) κ (.tuple xs) (.tuple ys) = .ret (.tuple P) ∧ Pt (Cq L κ) wt P xs ys (edr wt d xs.reverse ys.reverse) := by
  rw [m_least_parts, climb_eq (by omega) W hx hy ly lx (by omega), rb, dLen_tup, rb, dLen_tup, rb, rb]
  refine ex_tup (whileC_ind (Q := fun (r : PyData) => ∃ P, r = .tuple P ∧ Pt (Cq L κ) wt P xs ys (edr wt d xs.reverse ys.reverse))
    (I := fun (s : PyData × PyData × PyData) (m : Nat) => ∃ ps x y c, s = (.list ps, .int ((x : Nat) : Int), .int ((y : Nat) : Int)) ∧ x ≤ xs.length ∧ y ≤ ys.length ∧ m = x + y ∧ Pt (Cq L κ) wt ps.reverse (xs.drop x) (ys.drop y) c ∧ c + eT wt d xs ys x y = edr wt d xs.reverse ys.reverse)
    ?_ 20000 _ (xs.length + ys.length) ⟨[], xs.length, ys.length, 0, rfl, Nat.le_refl _, Nat.le_refl _, rfl, ?_, ?_⟩ (by omega))
  · rintro s m ⟨ps, x, y, c, rfl, hxl, hyl, rfl, hP, hc⟩
    have hlen := hP.len
    rw [List.length_reverse, List.length_drop, List.length_drop] at hlen
    by_cases h0 : 0 < x + y
    · right
      obtain ⟨s, b, x', y', e, h1, h2, h3⟩ := last_eq (by omega) W hp hx hy hxl hyl h0
      have ct : (((cGt (PyData.int ((x : Nat) : Int)) (.int 0)).bind fun x413 => if x413 then Tr.ret true else cGt (PyData.int ((y : Nat) : Int)) (.int 0))) = Tr.ret true := by
        rw [cGt_int, cGt_int, rb]
        by_cases h : 0 < x
        · rw [decide_eq_true (by omega), if_pos rfl]
        · rw [decide_eq_false (by omega), if_neg (by decide), decide_eq_true (by omega)]
      refine ⟨ct, (.list (ps ++ [.tuple [.str s, b]]), .int ((x' : Nat) : Int), .int ((y' : Nat) : Int)), x' + y', by omega, ?_, ps ++ [.tuple [.str s, b]], x', y', c + (eT wt d xs ys x y - eT wt d xs ys x' y'), rfl, by omega, by omega, rfl, ?_, ?_⟩
      · have a1 : dSl (.tuple xs) none (some ((x : Nat) : Int)) = .ret (.tuple (xs.take x)) := by
          show Tr.ret (PyData.tuple (cutD _ _ _)) = _
          rw [cutD_to hxl]
        have a2 : dSl (.tuple ys) none (some ((y : Nat) : Int)) = .ret (.tuple (ys.take y)) := by
          show Tr.ret (PyData.tuple (cutD _ _ _)) = _
          rw [cutD_to hyl]
        have a3 : dApp (.list ps) (.tuple [.str s, b]) = .ret (.list (ps ++ [.tuple [.str s, b]])) := dApp_eq (by omega)
        have b1 : (if (!isW (.str s) "add") = true then Tr.ret (PyData.int (((x : Nat) : Int) - 1)) else Tr.ret (PyData.int ((x : Nat) : Int))) = .ret (.int ((x' : Nat) : Int)) := by
          rcases h1 with ⟨w, z⟩ | ⟨w, z, _⟩
          · rw [w, if_pos (by decide), show ((x : Nat) : Int) - 1 = ((x' : Nat) : Int) by omega]
          · rw [w, if_neg (by decide), z]
        have b2 : (if (!isW (.str s) "cut") = true then Tr.ret (PyData.int (((y : Nat) : Int) - 1)) else Tr.ret (PyData.int ((y : Nat) : Int))) = .ret (.int ((y' : Nat) : Int)) := by
          rcases h2 with ⟨w, z⟩ | ⟨w, z, _⟩
          · rw [w, if_pos (by decide), show ((y : Nat) : Int) - 1 = ((y' : Nat) : Int) by omega]
          · rw [w, if_neg (by decide), z]
        simp only [asI_int, rb, a1, a2, e, a3, cNe_str', b1, b2]
      · rw [List.reverse_append]
        exact h3 _ _ hP
      · omega
    · left
      obtain ⟨rfl, rfl⟩ : x = 0 ∧ y = 0 := ⟨by omega, by omega⟩
      refine ⟨rfl, _, ?_, ps.reverse.foldl pushK [], rfl, ?_⟩
      · show m_packed (.list ps.reverse) = _
        refine packed_eq (fun t ht => hP.parts t ht) (by rw [List.length_reverse]; omega)
      · rw [List.drop_zero, List.drop_zero] at hP
        have r := Pt.nil.pack hP
        rw [eT_00] at hc
        exact r.cast (by omega)
  · rw [List.drop_length, List.drop_length]
    exact .nil
  · rw [eT_all]
    omega
/-- a least patch, of rows -/
theorem least_row {n : Nat} (hL : L ≤ 3) (W : Lv L κ V wt d) (Z : Lw L κ V wt d) (hp : ∀ v w, V v → V w → ∃ p, m_least_patch n κ v w = .ret p ∧ Cq L κ p v w (d v w)) {N : Nat} (hN : N ≤ 1000) {v w : PyData} (hv : VR V N v) (hw : VR V N w) :
    ∃ p, m_least_patch (n + 3) (rowK κ) v w = .ret p ∧ Cq (L + 1) (rowK κ) p v w (dR wt d v w) := by
  have sv := hv.sg W
  have sw := hw.sg W
  rw [m_least_patch]
  by_cases e : v = w
  · subst e
    rw [cEq_yes (by omega) sv, rb, if_pos rfl]
    exact ⟨_, rfl, same_ok dR_yes (by omega)⟩
  · rw [cEq_no (by omega) sv sw.1 e, rb, dR_no e]
    obtain ⟨xs, rfl, lx, hx⟩ := hv
    obtain ⟨ys, rfl, ly, hy⟩ := hw
    obtain ⟨P, h1, h2⟩ := parts_eq hL W hp hx hy (by omega) (by omega)
    refine ⟨.tuple [.str "row", .tuple P], ?_, fun n hn => cost_row (by omega) hn Z h2 hx hy, fun n hn => made_row hn W (by omega) (by omega) hx h2⟩
    unfold rowK
    simp only [ix0, ix1, rb, cEq_str, wRow, Bool.false_eq_true, if_false, if_true, h1]
theorem least_num {m : Int} {n : Nat} {v w : PyData} (hv : VN m v) (hw : VN m w) : ∃ p, m_least_patch (n + 1) (numK m) v w = .ret p ∧ Cq 1 (numK m) p v w (dN v w) := by
  have sv := (lv_num m).sg v hv
  have sw := (lv_num m).sg w hw
  rw [m_least_patch]
  by_cases e : v = w
  · subst e
    rw [cEq_yes (by omega) sv, rb, if_pos rfl]
    exact ⟨_, rfl, same_ok dN_yes (by omega)⟩
  · rw [cEq_no (by omega) sv sw.1 e, rb, dN_no e]
    have w1 : (isW (.str "number") "record" = false) ∧ (isW (.str "number") "choice" = false) ∧ (isW (.str "number") "row" = false) ∧ (isW (.str "number") "set" = false) ∧ (isW (.str "number") "bag" = false) ∧ (isW (.str "number") "table" = false) := ⟨rfl, rfl, rfl, rfl, rfl, rfl⟩
    refine ⟨.tuple [.str "turn", v, w], ?_, fun n hn => ?_, fun n hn => ?_⟩
    · unfold numK
      simp only [ix0, rb, cEq_str, w1, Bool.false_eq_true, if_false]
    · obtain ⟨n, rfl⟩ : ∃ k, n = k + 1 := ⟨n - 1, by omega⟩
      rw [m__law_cost]
      simp only [ix0, ix1, ix2, rb, cEq_str, cIn_2, wPs, Bool.or_self, Bool.false_eq_true, if_false, if_true, (lw_num m).weight 12 (by omega) v hv, (lw_num m).weight 12 (by omega) w hw, dAdd_int]
      rfl
    · obtain ⟨n, rfl⟩ : ∃ k, n = k + 1 := ⟨n - 1, by omega⟩
      have e3 : dLen (.tuple [.str "turn", v, w]) = .ret (.int 3) := rfl
      have e4 : (3 : Int) - 1 = 2 := rfl
      rw [m__law_made]
      simp only [ix0, ix1, ix2, rb, cEq_str, cIn_2, wPs, Bool.or_true, Bool.false_eq_true, if_false, if_true, cEq_yes (v := v) (D := 1) (by omega) sv, e3, dSub_int, e4]
end
end K27
namespace K27
open PySem L2 Cg Cgo Km
theorem trips_mem : ∀ {xs ys zs : List PyData} {t : PyData}, t ∈ dTrips xs ys zs → ∃ (i : Nat) (a b c : PyData), xs[i]? = some a ∧ ys[i]? = some b ∧ zs[i]? = some c ∧ t = .tuple [a, b, c]
  | [], _, _, t, h => by simp [dTrips] at h
  | _ :: _, [], _, t, h => by simp [dTrips] at h
  | _ :: _, _ :: _, [], t, h => by simp [dTrips] at h
  | x :: xs, y :: ys, z :: zs, t, h => by
    rw [dTrips] at h
    rcases List.mem_cons.mp h with rfl | h
    · exact ⟨0, x, y, z, rfl, rfl, rfl, rfl⟩
    · obtain ⟨i, a, b, c, h1, h2, h3, h4⟩ := trips_mem h
      exact ⟨i + 1, a, b, c, h1, h2, h3, h4⟩
theorem un3_t {α : Type} (f : PyData → PyData → PyData → Tr α) (a b c : PyData) : un3 f (.tuple [a, b, c]) = f a b c := rfl
theorem un2_t {α : Type} (f : PyData → PyData → Tr α) (a b : PyData) : un2 f (.tuple [a, b]) = f a b := rfl
theorem pairs_cons (a b : PyData) (xs ys : List PyData) : dPairs (a :: xs) (b :: ys) = .tuple [a, b] :: dPairs xs ys := rfl
theorem trips_len : ∀ {xs ys zs : List PyData}, (dTrips xs ys zs).length ≤ xs.length
  | [], _, _ => by simp [dTrips]
  | _ :: _, [], _ => by simp [dTrips]
  | _ :: _, _ :: _, [] => by simp [dTrips]
  | x :: xs, y :: ys, z :: zs => by
    rw [dTrips, List.length_cons, List.length_cons]
    exact Nat.succ_le_succ trips_len
theorem pairs_mem {t : PyData} : ∀ {xs ys : List PyData}, t ∈ dPairs xs ys → ∃ (i : Nat) (a b : PyData), xs[i]? = some a ∧ ys[i]? = some b ∧ t = .tuple [a, b]
  | [], _, h => by simp [dPairs] at h
  | _ :: _, [], h => by simp [dPairs] at h
  | x :: xs, y :: ys, h => by
    unfold dPairs at h
    rw [List.zipWith_cons_cons] at h
    rcases List.mem_cons.mp h with rfl | h
    · exact ⟨0, x, y, rfl, rfl, rfl⟩
    · obtain ⟨i, a, b, h1, h2, h3⟩ := pairs_mem (xs := xs) (ys := ys) h
      exact ⟨i + 1, a, b, h1, h2, h3⟩
theorem lcT_true {f : PyData → Tr PyData} : ∀ (l acc : List PyData), (∀ y ∈ l, f y = .ret (.bool true)) → lcT (fun _ => .ret true) f acc l = .ret (acc ++ List.replicate l.length (.bool true))
  | [], acc, _ => by
    show Tr.ret acc = Tr.ret (acc ++ [])
    rw [List.append_nil]
  | y :: l, acc, h => by
    rw [lcT, rb, if_pos rfl, h y List.mem_cons_self, rb, lcT_true l _ fun z hz => h z (List.mem_cons_of_mem _ hz), List.length_cons, List.replicate_succ, List.append_assoc]
    rfl
theorem lc2_true {h : PyData → Tr (List PyData)} {f : PyData → PyData → Tr PyData} {B : Nat} : ∀ (xs acc : List PyData), (∀ x ∈ xs, ∃ l, h x = .ret l ∧ l.length ≤ B ∧ ∀ y ∈ l, f x y = .ret (.bool true)) → acc.length + xs.length * B ≤ 1000000 → ∃ k, lc2T h f acc xs = .ret (acc ++ List.replicate k (.bool true))
  | [], acc, _, _ => ⟨0, by rw [lc2T, List.replicate_zero, List.append_nil]⟩
  | x :: xs, acc, hh, hb => by
    obtain ⟨l, e, hl, hf⟩ := hh x List.mem_cons_self
    rw [List.length_cons, Nat.succ_mul] at hb
    obtain ⟨k, hk⟩ := lc2_true (h := h) (f := f) (B := B) xs (acc ++ List.replicate l.length (.bool true)) (fun y hy => hh y (List.mem_cons_of_mem _ hy)) (by rw [List.length_append, List.length_replicate]; omega)
    refine ⟨l.length + k, ?_⟩
    rw [lc2T, e, rb, if_pos (by omega), lcT_true l acc hf, rb, hk, List.append_assoc, List.replicate_append_replicate]
theorem all_true (k : Nat) : dAll (.list (List.replicate k (.bool true))) = .ret (.bool true) := by
  have h := all_bools (List.replicate k true)
  rw [List.map_replicate] at h
  rw [h]
  congr 2
  rw [List.all_eq_true]
  intro b hb
  exact (List.eq_of_mem_replicate hb)
theorem all2 {h : PyData → Tr (List PyData)} {f : PyData → PyData → Tr PyData} {B : Nat} {xs : List PyData} (hh : ∀ x ∈ xs, ∃ l, h x = .ret l ∧ l.length ≤ B ∧ ∀ y ∈ l, f x y = .ret (.bool true)) (hb : xs.length * B ≤ 1000000) : ((lc2T h f [] xs).bind fun ys => Tr.ret (PyData.list ys)).bind dAll = .ret (.bool true) := by
  obtain ⟨k, e⟩ := lc2_true (h := h) (f := f) (B := B) xs [] hh (by rw [List.length_nil]; omega)
  rw [e, rb, rb, List.nil_append, all_true]
theorem sl_1 (xs : List PyData) : dSl (.tuple xs) (some 1) none = .ret (.tuple (xs.drop 1)) := by
  cases xs with
  | nil => rfl
  | cons x xs => rw [sl1]; rfl
theorem drop1_get {f : Nat → PyData} {n i : Nat} {a : PyData} (h : ((tabD f n).drop 1)[i]? = some a) : i + 1 < n ∧ a = f (i + 1) := by
  rw [List.getElem?_drop, Nat.add_comm] at h
  by_cases hi : i + 1 < n
  · rw [tabD_get hi] at h
    injection h with h
    exact ⟨hi, h.symm⟩
  · rw [List.getElem?_eq_none (by rw [tabD_len]; omega)] at h
    cases h
theorem tab_at {f : Nat → PyData} {n i : Nat} {a : PyData} (h : (tabD f n)[i]? = some a) : i < n ∧ a = f i := by
  by_cases hi : i < n
  · rw [tabD_get hi] at h
    injection h with h
    exact ⟨hi, h.symm⟩
  · rw [List.getElem?_eq_none (by rw [tabD_len]; omega)] at h
    cases h
theorem map_at {α : Type} {g : α → PyData} {xs : List α} {i : Nat} {a : PyData} (h : (xs.map g)[i]? = some a) : ∃ hi : i < xs.length, a = g xs[i] := by
  rw [List.getElem?_map] at h
  obtain ⟨x, hx, e⟩ := Option.map_eq_some_iff.mp h
  obtain ⟨hi, hx⟩ := List.getElem?_eq_some_iff.mp hx
  exact ⟨hi, by rw [← e, hx]⟩
/-- the heights as a tuple of tuples -/
def htsT (wt : PyData → Int) (d : PyData → PyData → Int) (xs ys : List PyData) : List PyData := tabD (fun x => .tuple (lineD wt d xs ys x (ys.length + 1))) (xs.length + 1)
/-- a paper for rows -/
def papR (wt : PyData → Int) (d : PyData → PyData → Int) (pf : PyData → PyData → PyData) (v w : PyData) : PyData :=
  .tuple [.str "row", .tuple (htsT wt d (lstD v) (lstD w)), .tuple ((lstD v).map fun a => .tuple ((lstD w).map fun b => pf a b))]
structure Lb (L : Nat) (κ : PyData) (V : PyData → Prop) (d : PyData → PyData → Int) (pf : PyData → PyData → PyData) : Prop where
  paper : ∀ n, L ≤ n → ∀ v w, V v → V w → m_paper_of n κ v w = .ret (pf v w)
  worth : ∀ n, 2 * L ≤ n → ∀ v w, V v → V w → m_worth_of n κ v w (pf v w) = .ret (.int (d v w))
section
variable {L : Nat} {κ : PyData} {V : PyData → Prop} {wt : PyData → Int} {d : PyData → PyData → Int} {xs ys : List PyData} {pf : PyData → PyData → PyData}
theorem wAll : (isW (.str "all") "none" = false) ∧ (isW (.str "row") "none" = false) ∧ (isW (.str "none") "none" = true) := ⟨rfl, rfl, rfl⟩
theorem turn_row : m_has_turn_alone (rowK κ) (.tuple xs) (.tuple ys) = .ret (.bool false) := by
  unfold m_has_turn_alone rowK
  simp only [ix0, rb, cEq_str, wRow, asB_bool, Bool.false_eq_true, if_false]
theorem paper_row (hL : L ≤ 3) (W : Lv L κ V wt d) (B : Lb L κ V d pf) {n : Nat} (hn : L + 1 ≤ n) (hx : ∀ a ∈ xs, V a) (hy : ∀ b ∈ ys, V b) (lx : xs.length ≤ 900) (ly : ys.length ≤ 900) : m_paper_of n (rowK κ) (.tuple xs) (.tuple ys) = .ret (papR wt d pf (.tuple xs) (.tuple ys)) := by
  obtain ⟨n, rfl⟩ : ∃ m, n = m + 1 := ⟨n - 1, by omega⟩
  have hc := climb_eq (by omega) W hx hy (by omega) (by omega) (n := 12) (by omega)
  have h1 : mapT (fun v_line => dTuple v_line) (htsD wt d xs ys (xs.length + 1)) = .ret (htsT wt d xs ys) := by
    have e : htsT wt d xs ys = (htsD wt d xs ys (xs.length + 1)).map fun l => .tuple (unL l) := by
      unfold htsT htsD tabD
      rw [List.map_map]
      rfl
    rw [e]
    refine map_ret _ fun l hl => ?_
    unfold htsD tabD at hl
    obtain ⟨x, _, rfl⟩ := List.mem_map.mp hl
    rfl
  have h2 : mapT (fun v_a => ((mapT (fun v_b => m_paper_of n κ v_a v_b) ys).bind fun x230 => Tr.ret (PyData.list x230)).bind fun x231 => dTuple x231) xs = .ret (xs.map fun a => .tuple (ys.map fun b => pf a b)) := map_ret _ fun a ha => by
    rw [map_ret (g := fun b => pf a b) ys fun b hb => B.paper n (by omega) a b (hx a ha) (hy b hb), rb, rb]
    rfl
  rw [m_paper_of]
  have ht := turn_row (κ := κ) (xs := xs) (ys := ys)
  unfold rowK at ht ⊢
  simp only [ix0, ix1, rb, ht, asB_bool, cEq_str, wRow, Bool.false_eq_true, if_false, if_true, hc, show items (PyData.list (htsD wt d xs ys (xs.length + 1))) = .ret (htsD wt d xs ys (xs.length + 1)) from rfl, h1, show ∀ l, dTuple (.list l) = .ret (.tuple l) from fun _ => rfl, show items (PyData.tuple xs) = .ret xs from rfl, show items (PyData.tuple ys) = .ret ys from rfl] at h2 ⊢
  rw [h2]
  rfl
theorem eT_down {x y : Nat} (h : x < xs.length) (g : y ≤ ys.length) : eT wt d xs ys (x + 1) y ≤ eT wt d xs ys x y + wt xs[x] := by
  cases y with
  | zero => rw [eT_s0 h]; omega
  | succ y => rw [eT_ss h g]; omega
theorem eT_left {x y : Nat} (h : x ≤ xs.length) (g : y < ys.length) : eT wt d xs ys x (y + 1) ≤ eT wt d xs ys x y + wt ys[y] := by
  cases x with
  | zero => rw [eT_0s g]; omega
  | succ x => rw [eT_ss h g]; omega
theorem eT_across {x y : Nat} (h : x < xs.length) (g : y < ys.length) : eT wt d xs ys (x + 1) (y + 1) ≤ eT wt d xs ys x y + d xs[x] ys[y] := by
  rw [eT_ss h g]; omega
theorem lineD_len {x n : Nat} : (lineD wt d xs ys x n).length = n := tabD_len
theorem down_ok (lx : xs.length ≤ 900) (ly : ys.length ≤ 900) : m_goes_down (.tuple (htsT wt d xs ys)) (.list (xs.map fun a => .int (wt a))) = .ret (.bool true) := by
  unfold m_goes_down
  rw [asI_int, rb, sl_1, rb, show dZip3L (.tuple (htsT wt d xs ys)) (.tuple ((htsT wt d xs ys).drop 1)) (.list (xs.map fun a => PyData.int (wt a))) = .ret (dTrips (htsT wt d xs ys) ((htsT wt d xs ys).drop 1) (xs.map fun a => .int (wt a))) from rfl, rb]
  refine all2 (B := 901) (fun t ht => ?_) ?_
  · obtain ⟨i, a, b, c, h1, h2, h3, rfl⟩ := trips_mem ht
    obtain ⟨_, rfl⟩ := tab_at h1
    obtain ⟨_, rfl⟩ := drop1_get h2
    obtain ⟨hi, rfl⟩ := map_at h3
    refine ⟨dPairs (lineD wt d xs ys i (ys.length + 1)) (lineD wt d xs ys (i + 1) (ys.length + 1)), rfl, by rw [pairs_len, lineD_len, lineD_len]; omega, fun p hp => ?_⟩
    obtain ⟨j, u, w, g1, g2, rfl⟩ := pairs_mem hp
    obtain ⟨hj, rfl⟩ := tab_at g1
    obtain ⟨_, rfl⟩ := tab_at g2
    have e := eT_down (wt := wt) (d := d) (ys := ys) (y := j) hi (by omega)
    rw [un3_t, un2_t, dAdd_int, rb, cLe_int, rb, decide_eq_true e]
  · have := trips_len (xs := htsT wt d xs ys) (ys := (htsT wt d xs ys).drop 1) (zs := xs.map fun a => .int (wt a))
    have e : (htsT wt d xs ys).length = xs.length + 1 := tabD_len
    have : (dTrips (htsT wt d xs ys) ((htsT wt d xs ys).drop 1) (xs.map fun a => .int (wt a))).length ≤ 901 := by omega
    omega
theorem left_ok (lx : xs.length ≤ 900) (ly : ys.length ≤ 900) : m_goes_left (.tuple (htsT wt d xs ys)) (.list (ys.map fun a => .int (wt a))) = .ret (.bool true) := by
  unfold m_goes_left
  rw [show items (.tuple (htsT wt d xs ys)) = .ret (htsT wt d xs ys) from rfl, rb]
  refine all2 (B := 901) (fun t ht => ?_) ?_
  · obtain ⟨i, hi, rfl⟩ := List.mem_map.mp ht
    rw [List.mem_range] at hi
    refine ⟨dTrips (lineD wt d xs ys i (ys.length + 1)) ((lineD wt d xs ys i (ys.length + 1)).drop 1) (ys.map fun a => .int (wt a)), ?_, ?_, fun p hp => ?_⟩
    · rw [asI_int, rb, sl_1, rb]
      rfl
    · have := trips_len (xs := lineD wt d xs ys i (ys.length + 1)) (ys := (lineD wt d xs ys i (ys.length + 1)).drop 1) (zs := ys.map fun a => .int (wt a))
      rw [lineD_len] at this
      omega
    · obtain ⟨j, a, b, c, g1, g2, g3, rfl⟩ := trips_mem hp
      obtain ⟨hj, rfl⟩ := tab_at g1
      obtain ⟨_, rfl⟩ := drop1_get g2
      obtain ⟨hj', rfl⟩ := map_at g3
      have e := eT_left (wt := wt) (d := d) (xs := xs) (x := i) (by omega) hj'
      rw [un3_t, dAdd_int, rb, cLe_int, rb, decide_eq_true e]
  · have e : (htsT wt d xs ys).length = xs.length + 1 := tabD_len
    omega
theorem across_ok (lx : xs.length ≤ 900) (ly : ys.length ≤ 900) : m_goes_across (.tuple (htsT wt d xs ys)) (.list (xs.map fun a => .list (ys.map fun b => .int (d a b)))) = .ret (.bool true) := by
  unfold m_goes_across
  rw [asI_int, rb, sl_1, rb, show dZip3L (.tuple (htsT wt d xs ys)) (.tuple ((htsT wt d xs ys).drop 1)) (.list (xs.map fun a => PyData.list (ys.map fun b => .int (d a b)))) = .ret (dTrips (htsT wt d xs ys) ((htsT wt d xs ys).drop 1) (xs.map fun a => .list (ys.map fun b => .int (d a b)))) from rfl, rb]
  refine all2 (B := 901) (fun t ht => ?_) ?_
  · obtain ⟨i, a, b, c, h1, h2, h3, rfl⟩ := trips_mem ht
    obtain ⟨_, rfl⟩ := tab_at h1
    obtain ⟨_, rfl⟩ := drop1_get h2
    obtain ⟨hi, rfl⟩ := map_at h3
    refine ⟨dTrips (lineD wt d xs ys i (ys.length + 1)) ((lineD wt d xs ys (i + 1) (ys.length + 1)).drop 1) (ys.map fun b => .int (d xs[i] b)), ?_, ?_, fun p hp => ?_⟩
    · rw [un3_t, rb, sl_1, rb]
      rfl
    · have := trips_len (xs := lineD wt d xs ys i (ys.length + 1)) (ys := (lineD wt d xs ys (i + 1) (ys.length + 1)).drop 1) (zs := ys.map fun b => .int (d xs[i] b))
      rw [lineD_len] at this
      omega
    · obtain ⟨j, u, w, z, g1, g2, g3, rfl⟩ := trips_mem hp
      obtain ⟨hj, rfl⟩ := tab_at g1
      obtain ⟨_, rfl⟩ := drop1_get g2
      obtain ⟨hj', rfl⟩ := map_at g3
      have e := eT_across (wt := wt) (d := d) hi hj'
      rw [un3_t, un3_t, dAdd_int, rb, cLe_int, rb, decide_eq_true e]
  · have := trips_len (xs := htsT wt d xs ys) (ys := (htsT wt d xs ys).drop 1) (zs := xs.map fun a => .list (ys.map fun b => .int (d a b)))
    have e : (htsT wt d xs ys).length = xs.length + 1 := tabD_len
    omega
theorem grid_ok {f : Nat → PyData} {n m : Nat} (h : ∀ i, ∃ l, f i = .tuple l ∧ l.length = m) : m_is_grid (.tuple (tabD f n)) (.int (n : Int)) (.int (m : Int)) = .ret (.bool true) := by
  have ht : ∀ (l : List PyData) (k : Nat), l.length = k → m_is_tuple (.tuple l) (.int (k : Int)) = .ret (.bool true) := fun l k e => by
    unfold m_is_tuple
    rw [show Cg.isTup (.tuple l) = true from rfl, if_pos rfl, dLen_tup, rb, e, cEq_int, rb, decide_eq_true rfl]
  have hm : mapT (fun v_line => m_is_tuple v_line (.int (m : Int))) (tabD f n) = .ret (List.replicate n (.bool true)) := by
    rw [map_ret (g := fun _ => .bool true) (tabD f n) fun l hl => ?_]
    · rw [List.map_const', tabD_len]
    · obtain ⟨i, _, rfl⟩ := List.mem_map.mp hl
      obtain ⟨k, e, hk⟩ := h i
      rw [e, ht k m hk]
  unfold m_is_grid
  rw [ht _ n tabD_len, rb, asB_bool, rb, if_pos rfl, show items (.tuple (tabD f n)) = .ret (tabD f n) from rfl, rb, hm, rb, rb, all_true]
theorem map_tab {α : Type} {g : α → PyData} {zs : List α} {w : α} : zs.map g = tabD (fun i => g (zs.getD i w)) zs.length := by
  refine tabD_of (List.length_map ..) fun i hi => ?_
  rw [List.length_map] at hi
  rw [List.getElem_map, List.getD_eq_getElem?_getD, List.getElem?_eq_getElem hi]
  rfl
theorem depth_ints (ns : List Int) : PyData.depthAll (ns.map PyData.int) = 0 := by
  induction ns with
  | nil => simp [PyData.depthAll]
  | cons n ns ih => rw [List.map_cons, PyData.depthAll, ih, depth_int]; rfl
theorem none_in (ns : List Int) : cIn .none (.list (ns.map PyData.int)) = .ret false := by
  show (if min (PyData.depthAll (ns.map PyData.int)) (PyData.none).depth ≤ 64 then Tr.ret (memD .none (ns.map PyData.int)) else .bad) = _
  rw [depth_ints, Nat.zero_min, if_pos (by omega)]
  congr 1
  unfold memD
  rw [List.any_eq_false]
  intro x hx
  obtain ⟨i, _, rfl⟩ := List.mem_map.mp hx
  simp [PyData.eqv]
theorem any_false {ls : List PyData} (h : ∀ l ∈ ls, ∃ ns : List Int, l = .list (ns.map PyData.int)) : ((mapT (fun v_line => (cIn PyData.none v_line).bind fun x326 => Tr.ret (PyData.bool x326)) ls).bind fun x => Tr.ret (PyData.list x)).bind dAny = .ret (.bool false) := by
  rw [map_ret (g := fun _ => .bool false) ls fun l hl => by
    obtain ⟨ns, rfl⟩ := h l hl
    rw [none_in, rb], rb, rb, List.map_const']
  have e : ∀ k : Nat, asBools (List.replicate k (PyData.bool false)) = some (List.replicate k false) := by
    intro k
    induction k with
    | zero => rfl
    | succ k ih =>
      rw [List.replicate_succ, asBools, ih]
      rfl
  unfold dAny
  simp only [e]
  congr 2
  rw [List.any_eq_false]
  intro b hb
  rw [List.eq_of_mem_replicate hb]
  decide
theorem worths_eq {n : Nat} (B : Lb L κ V d pf) (hn : 2 * L ≤ n) (hx : ∀ a ∈ xs, V a) (hy : ∀ b ∈ ys, V b) :
    mapT (un2 fun v_a v_line => (dZip (.tuple ys) v_line).bind fun x322 => (mapT (un2 fun v_b v_each => m_worth_of n κ v_a v_b v_each) x322).bind fun x323 => Tr.ret (PyData.list x323)) (dPairs xs (xs.map fun a => .tuple (ys.map fun b => pf a b))) = .ret (xs.map fun a => .list (ys.map fun b => .int (d a b))) := by
  have inner : ∀ a, V a → mapT (un2 fun v_b v_each => m_worth_of n κ a v_b v_each) (dPairs ys (ys.map fun b => pf a b)) = .ret (ys.map fun b => .int (d a b)) := fun a ha => by
    clear hx
    induction ys with
    | nil => rfl
    | cons b ys ih =>
      rw [List.map_cons, List.map_cons, pairs_cons, mapT, un2_t, B.worth n hn a b ha (hy b List.mem_cons_self), rb, ih fun y h => hy y (List.mem_cons_of_mem _ h), rb]
  induction xs with
  | nil => rfl
  | cons a xs ih =>
    rw [List.map_cons, List.map_cons, pairs_cons, mapT, un2_t, show dZip (.tuple ys) (.tuple (ys.map fun b => pf a b)) = .ret (dPairs ys (ys.map fun b => pf a b)) from rfl, rb, inner a (hx a List.mem_cons_self), rb, rb, ih fun y h => hx y (List.mem_cons_of_mem _ h), rb]
theorem heights_ok (W : Lv L κ V wt d) (hx : ∀ a ∈ xs, V a) (hy : ∀ b ∈ ys, V b) (lx : xs.length ≤ 900) (ly : ys.length ≤ 900) :
    (((lc2T (fun v_line => items v_line) (fun v_line => (fun v_height => ((m_is_whole v_height).bind fun x310 => (asB x310).bind fun x311 => if x311 then (cGe v_height (PyData.int 0)).bind fun x309 => Tr.ret (PyData.bool x309) else Tr.ret (PyData.bool false) : Tr PyData))) [] (htsT wt d xs ys)).bind fun x313 => Tr.ret (PyData.list x313)).bind dAll) = .ret (.bool true) := by
  refine all2 (B := 901) (fun t ht => ?_) ?_
  · obtain ⟨i, hi, rfl⟩ := List.mem_map.mp ht
    refine ⟨lineD wt d xs ys i (ys.length + 1), rfl, by rw [lineD_len]; omega, fun p hp => ?_⟩
    obtain ⟨j, hj, rfl⟩ := List.mem_map.mp hp
    have e : (0 : Int) ≤ eT wt d xs ys i j := eT_nonneg (fun a h => by have := W.w1 a (hx a h); omega) (fun b h => by have := W.w1 b (hy b h); omega) fun a h b g => W.nn a b (hx a h) (hy b g)
    unfold m_is_whole
    simp only [isInt, isBool, if_true, asB_bool, rb, Bool.not_false, cGe_int, decide_eq_true e]
  · have e : (htsT wt d xs ys).length = xs.length + 1 := tabD_len
    omega
theorem worth_row (hL : L ≤ 3) (W : Lv L κ V wt d) (B : Lb L κ V d pf) {n : Nat} (hn : 2 * L ≤ n) (hx : ∀ a ∈ xs, V a) (hy : ∀ b ∈ ys, V b) (lx : xs.length ≤ 900) (ly : ys.length ≤ 900) :
    m_worth_of (n + 2) (rowK κ) (.tuple xs) (.tuple ys) (papR wt d pf (.tuple xs) (.tuple ys)) = .ret (.int (edr wt d xs.reverse ys.reverse)) := by
  have hp : papR wt d pf (.tuple xs) (.tuple ys) = .tuple [.str "row", .tuple (htsT wt d xs ys), .tuple (xs.map fun a => .tuple (ys.map fun b => pf a b))] := rfl
  rw [hp]
  have ht := turn_row (κ := κ) (xs := xs) (ys := ys)
  have e3 : dLen (.tuple [.str "row", .tuple (htsT wt d xs ys), .tuple (xs.map fun a => PyData.tuple (ys.map fun b => pf a b))]) = .ret (.int 3) := rfl
  have e4 : decide ((3 : Int) = 0) = false := rfl
  have e5 : decide ((3 : Int) = 3) = true := rfl
  have g1 : m_is_grid (.tuple (htsT wt d xs ys)) (.int (((xs.length + 1 : Nat) : Nat) : Int)) (.int (((ys.length + 1 : Nat) : Nat) : Int)) = .ret (.bool true) := grid_ok fun i => ⟨_, rfl, lineD_len⟩
  have g2 : m_is_grid (.tuple (xs.map fun a => PyData.tuple (ys.map fun b => pf a b))) (.int ((xs.length : Nat) : Int)) (.int ((ys.length : Nat) : Int)) = .ret (.bool true) := by
    rw [map_tab (w := PyData.none)]
    exact grid_ok fun i => ⟨_, rfl, List.length_map ..⟩
  have c1 : ((xs.length : Nat) : Int) + 1 = ((xs.length + 1 : Nat) : Int) := by omega
  have c2 : ((ys.length : Nat) : Int) + 1 = ((ys.length + 1 : Nat) : Int) := by omega
  have h1 := heights_ok W hx hy lx ly
  have h2 := worths_eq (n := n) B hn hx hy
  have h3 := any_false (ls := xs.map fun a => .list (ys.map fun b => .int (d a b))) fun l hl => by
    obtain ⟨a, _, rfl⟩ := List.mem_map.mp hl
    exact ⟨ys.map fun b => d a b, by rw [List.map_map]; rfl⟩
  have h4 : mapT (fun v_item => m_heft 8 κ v_item) xs = .ret (xs.map fun a => .int (wt a)) := map_ret _ fun a ha => W.heft 8 (by omega) a (hx a ha)
  have h5 : mapT (fun v_item => m_heft 8 κ v_item) ys = .ret (ys.map fun a => .int (wt a)) := map_ret _ fun a ha => W.heft 8 (by omega) a (hy a ha)
  have i0 : dIx (.tuple (htsT wt d xs ys)) (.int 0) = .ret (.tuple (lineD wt d xs ys 0 (ys.length + 1))) := tabD_ixT (f := fun x => .tuple (lineD wt d xs ys x (ys.length + 1))) (i := 0) (Nat.zero_lt_succ _)
  have i1 : dIx (.tuple (lineD wt d xs ys 0 (ys.length + 1))) (.int 0) = .ret (.int (eT wt d xs ys 0 0)) := tabD_ixT (f := fun y => .int (eT wt d xs ys 0 y)) (i := 0) (Nat.zero_lt_succ _)
  have i2 : dIx (.tuple (htsT wt d xs ys)) (.int (-1)) = .ret (.tuple (lineD wt d xs ys xs.length (ys.length + 1))) := tabD_lastT (f := fun x => .tuple (lineD wt d xs ys x (ys.length + 1)))
  have i3 : dIx (.tuple (lineD wt d xs ys xs.length (ys.length + 1))) (.int (-1)) = .ret (.int (eT wt d xs ys xs.length ys.length)) := tabD_lastT (f := fun y => .int (eT wt d xs ys xs.length y))
  have iS : items (.tuple (htsT wt d xs ys)) = .ret (htsT wt d xs ys) := rfl
  have iW : items (.list (xs.map fun a => PyData.list (ys.map fun b => .int (d a b)))) = .ret (xs.map fun a => .list (ys.map fun b => .int (d a b))) := rfl
  have iX : items (.tuple xs) = .ret xs := rfl
  have iY : items (.tuple ys) = .ret ys := rfl
  have iZ : dZip (.tuple xs) (.tuple (xs.map fun a => PyData.tuple (ys.map fun b => pf a b))) = .ret (dPairs xs (xs.map fun a => .tuple (ys.map fun b => pf a b))) := rfl
  have hf : (fdT fn_WORTHS (PyData.str "row")).bind (fun q_action => fx_WORTHS m_record_worth m_choice_worth (m_row_worth (n + 1)) m_lot_worth m_table_worth q_action [PyData.tuple [PyData.str "row", κ], .tuple xs, .tuple ys, .tuple [.str "row", .tuple (htsT wt d xs ys), .tuple (xs.map fun a => PyData.tuple (ys.map fun b => pf a b))]]) = m_row_worth (n + 1) (.tuple [.str "row", κ]) (.tuple xs) (.tuple ys) (.tuple [.str "row", .tuple (htsT wt d xs ys), .tuple (xs.map fun a => PyData.tuple (ys.map fun b => pf a b))]) := rfl
  have u3 : ∀ f : PyData → PyData → PyData → Tr PyData, un3 f (.tuple [.str "row", .tuple (htsT wt d xs ys), .tuple (xs.map fun a => PyData.tuple (ys.map fun b => pf a b))]) = f (.str "row") (.tuple (htsT wt d xs ys)) (.tuple (xs.map fun a => PyData.tuple (ys.map fun b => pf a b))) := fun _ => rfl
  have dn := down_ok (wt := wt) (d := d) lx ly
  have lf := left_ok (wt := wt) (d := d) lx ly
  have ac := across_ok (wt := wt) (d := d) lx ly
  have rw_ : m_row_worth (n + 1) (.tuple [.str "row", κ]) (.tuple xs) (.tuple ys) (.tuple [.str "row", .tuple (htsT wt d xs ys), .tuple (xs.map fun a => PyData.tuple (ys.map fun b => pf a b))]) = .ret (.int (edr wt d xs.reverse ys.reverse)) := by
    rw [m_row_worth]
    simp only [ix1, ix2, rb, e3, cNe_int, e5, Bool.not_true, Bool.false_eq_true, if_false, dLen_tup, dAdd_int, c1, c2, g1, g2, asB_bool, u3, iS, iX, iY, iZ, i0, i1, eT_00, i2, i3, eT_all, iW, h4, h5, dn, lf, ac, if_true, decide_true] at h1 h2 h3 ⊢
    rw [h1]
    simp only [rb, asB_bool, Bool.not_true, Bool.false_eq_true, if_false]
    rw [h2]
    simp only [rb, iW, asB_bool, Bool.not_true, Bool.false_eq_true, if_false, dn, lf, ac, if_true] at h3 ⊢
    rw [h3]
    simp only [rb, asB_bool, Bool.not_true, Bool.false_eq_true, if_false, dn, lf, ac, if_true]
  rw [m_worth_of]
  unfold rowK at ht ⊢
  simp only [show Cg.isTup (.tuple [.str "row", .tuple (htsT wt d xs ys), .tuple (xs.map fun a => PyData.tuple (ys.map fun b => pf a b))]) = true from rfl, Bool.not_true, Bool.false_eq_true, if_false, e3, rb, cEq_int, e4, ix0, cEq_str, wAll, ht, asB_bool, cNe_str, wRow, hf, rw_]
theorem Lb.row (hL : L ≤ 3) (W : Lv L κ V wt d) (B : Lb L κ V d pf) {N : Nat} (hN : N ≤ 900) : Lb (L + 1) (rowK κ) (VR V N) (dR wt d) (papR wt d pf) := by
  refine ⟨fun n hn v w hv hw => ?_, fun n hn v w hv hw => ?_⟩
  · obtain ⟨xs, rfl, lx, hx⟩ := hv
    obtain ⟨ys, rfl, ly, hy⟩ := hw
    exact paper_row hL W B hn hx hy (by omega) (by omega)
  · obtain ⟨n, rfl⟩ : ∃ m, n = m + 2 := ⟨n - 2, by omega⟩
    obtain ⟨xs, rfl, lx, hx⟩ := hv
    obtain ⟨ys, rfl, ly, hy⟩ := hw
    rw [worth_row hL W B (by omega) hx hy (by omega) (by omega)]
    by_cases e : PyData.tuple xs = .tuple ys
    · injection e with e
      subst e
      rw [dR_yes, edr_self]
      · intro a h
        have := W.w1 a (hx a (List.mem_reverse.mp h))
        omega
      · exact fun a h b g => W.nn a b (hx a (List.mem_reverse.mp h)) (hx b (List.mem_reverse.mp g))
      · exact fun a h => W.ds a (hx a (List.mem_reverse.mp h))
    · rw [dR_no e]
      rfl
theorem lb_num (m : Int) : Lb 1 (numK m) (VN m) dN (fun _ _ => .tuple [.str "all"]) := by
  have ht : ∀ v w, m_has_turn_alone (numK m) v w = .ret (.bool true) := fun v w => by
    unfold m_has_turn_alone numK
    simp only [ix0, rb, cEq_str, wRow, asB_bool, if_true]
  refine ⟨fun n hn v w hv hw => ?_, fun n hn v w hv hw => ?_⟩
  · obtain ⟨n, rfl⟩ : ∃ k, n = k + 1 := ⟨n - 1, by omega⟩
    have h := ht v w
    rw [m_paper_of]
    unfold numK at h ⊢
    simp only [ix0, rb, h, asB_bool, if_true]
  · obtain ⟨n, rfl⟩ : ∃ k, n = k + 1 := ⟨n - 1, by omega⟩
    have h := ht v w
    have e3 : dLen (.tuple [.str "all"]) = .ret (.int 1) := rfl
    have e4 : decide ((1 : Int) = 0) = false := rfl
    have ce : cEq (.tuple [.str "all"]) (.tuple [.str "all"]) = .ret true := rfl
    rw [m_worth_of]
    simp only [show Cg.isTup (.tuple [.str "all"]) = true from rfl, Bool.not_true, Bool.false_eq_true, if_false, e3, rb, cEq_int, e4, ix0, cEq_str, wAll, h, asB_bool, if_true, ce]
    unfold m_turn_worth
    by_cases e : v = w
    · subst e
      rw [cEq_yes (by omega) ((lv_num m).sg v hv), rb, if_pos rfl, dN_yes]
    · rw [cEq_no (by omega) ((lv_num m).sg v hv) ((lv_num m).sg w hw).1 e, rb, if_neg (by decide), (lv_num m).heft 8 (by omega) v hv, (lv_num m).heft 8 (by omega) w hw, rb, rb, dN_no e]
      rfl
theorem none_worth {n : Nat} {v w : PyData} : m_worth_of (n + 1) κ v w (.tuple [.str "none"]) = .ret (.int 0) := by
  have e3 : dLen (.tuple [.str "none"]) = .ret (.int 1) := rfl
  have e4 : decide ((1 : Int) = 0) = false := rfl
  rw [m_worth_of]
  simp only [show Cg.isTup (.tuple [.str "none"]) = true from rfl, Bool.not_true, Bool.false_eq_true, if_false, e3, rb, cEq_int, e4, ix0, cEq_str, wAll, if_true, decide_true]
end
end K27
namespace K27
open PySem L2 Cg Cgo Km
theorem forC_wpI {α β S : Type} {r : PyData → β} {f : α → S → Tr (Ct S)} {k : S → Tr β} {Q : β → Prop} {I : Nat → S → Prop} {n : Nat} (hk : ∀ s, I n s → (k s).wp Q F0) : ∀ (l : List α) (i : Nat) (s : S), i + l.length = n → (∀ j x s, x ∈ l → j < n → I j s → (f x s).wp (fun c => ∃ s', c = .nx s' ∧ I (j + 1) s') F0) → I i s → (forC r f k l s).wp Q F0
  | [], i, s, e, _, h => by
    rw [List.length_nil, Nat.add_zero] at e
    subst e
    exact hk s h
  | x :: l, i, s, e, hf, h => by
    rw [List.length_cons] at e
    rw [forC]
    refine Tr.wp_bind.mpr (Tr.wp_mono (fun c hc => ?_) (fun _ z => z) (hf i x s List.mem_cons_self (by omega) h))
    obtain ⟨s', rfl, h'⟩ := hc
    exact forC_wpI hk l (i + 1) s' (by omega) (fun j y s hy => hf j y s (List.mem_cons_of_mem _ hy)) h'
theorem pick_wp {xs : List PyData} {Q : PyData → Prop} (h1 : 1 ≤ xs.length) (h2 : xs.length < 1000000) (h : ∀ y ∈ xs, Q y) : (m__law_pick (.list xs)).wp Q F0 := by
  unfold m__law_pick
  rw [show dLen (.list xs) = .ret (.int xs.length) from rfl, rb]
  refine Tr.wp_bind.mpr (take_wp (by omega) (by omega) fun i hi => ?_)
  have hi' : i < xs.length := by omega
  rw [ixL_nat (List.getElem?_eq_getElem hi')]
  exact h _ (List.getElem_mem hi')
theorem cut_to {xs : List PyData} {b : Nat} : dSl (.list xs) none (some (b : Int)) = .ret (.list (xs.take b)) := by
  show Tr.ret (PyData.list (cutD _ _ _)) = _
  unfold cutD
  rw [HT.sIx_nat, HT.sIx_none, List.drop_zero, Nat.sub_zero]
  by_cases h : b ≤ xs.length
  · rw [Nat.min_eq_left h]
  · rw [Nat.min_eq_right (by omega), List.take_length, List.take_of_length_le (by omega)]
theorem cut_toT {xs : List PyData} {b : Nat} : dSl (.tuple xs) none (some (b : Int)) = .ret (.tuple (xs.take b)) := by
  have h := cut_to (xs := xs) (b := b)
  injection h with h
  injection h with h
  show Tr.ret (PyData.tuple (cutD _ _ _)) = _
  rw [h]
theorem cut_from {xs : List PyData} {b : Nat} : dSl (.list xs) (some (b : Int)) none = .ret (.list (xs.drop b)) := by
  show Tr.ret (PyData.list (cutD _ _ _)) = _
  unfold cutD
  rw [HT.sIx_nat, HT.sIx_none]
  by_cases h : b ≤ xs.length
  · rw [Nat.min_eq_left h, List.take_of_length_le (by rw [List.length_drop]; omega)]
  · rw [Nat.min_eq_right (by omega), Nat.sub_self, List.take_zero, List.drop_of_length_le (by omega)]
theorem cut_mid {xs : List PyData} {a b : Nat} : ∃ zs, dSl (.list xs) (some (a : Int)) (some (b : Int)) = .ret (.list zs) ∧ (∀ z ∈ zs, z ∈ xs) ∧ zs.length ≤ min b xs.length - min a xs.length := by
  refine ⟨_, rfl, fun z hz => ?_, ?_⟩
  · unfold cutD at hz
    exact List.mem_of_mem_drop (List.mem_of_mem_take hz)
  · unfold cutD
    rw [HT.sIx_nat, HT.sIx_nat, List.length_take]
    omega
theorem cat_eq {xs ys : List PyData} (h : xs.length + ys.length ≤ 1000000) : dCat (.list xs) (.list ys) = .ret (.list (xs ++ ys)) := if_pos h
theorem addL_eq {xs ys : List PyData} (h : xs.length + ys.length ≤ 1000000) : dAdd (.list xs) (.list ys) = .ret (.list (xs ++ ys)) := if_pos h
section
variable {V : PyData → Prop} {Fs xs : List PyData}
/-- what stands in the list that is edited -/
def Ed (V : PyData → Prop) (c : Nat) (s : PyData) : Prop := ∃ zs, s = .list zs ∧ (∀ z ∈ zs, V z) ∧ zs.length ≤ c
theorem edited_wp (h1 : 1 ≤ Fs.length) (h2 : Fs.length ≤ 1000) (hF : ∀ y ∈ Fs, V y) (hx : ∀ x ∈ xs, V x) (hl : xs.length ≤ 200) : (m__law_edited (.tuple xs) (.list Fs)).wp (fun r => ∃ ys, r = .tuple ys ∧ ∀ y ∈ ys, V y) F0 := by
  unfold m__law_edited
  rw [show dList (.tuple xs) = .ret (.list xs) from rfl, rb]
  refine Tr.wp_bind.mpr (Tr.wp_bind.mpr (take_wp (by decide) (by decide) fun t ht => ?_))
  rw [dAdd_int]
  show Tr.wp _ _ ((rangeT (.int 0) (.int (1 + (t : Int)))).bind _)
  rw [range_eq (by omega) (by omega), rb]
  have hn : (1 + (t : Int)).toNat = t + 1 := by omega
  rw [hn]
  refine forC_wpI (n := t + 1) (I := fun i s => Ed V (200 + 70 * i) s) (fun s h => ?_) _ 0 _ (by rw [rng_len]; omega) (fun j x s _ hj h => ?_) ⟨xs, rfl, hx, by omega⟩
  · obtain ⟨zs, rfl, hz, _⟩ := h
    exact ⟨zs, rfl, hz⟩
  · obtain ⟨zs, rfl, hz, hc⟩ := h
    have hj5 : j < 5 := by omega
    have done : ∀ {ws : List PyData}, (∀ w ∈ ws, V w) → ws.length ≤ 200 + 70 * (j + 1) → ∃ s', Ct.nx (PyData.list ws) = Ct.nx s' ∧ Ed V (200 + 70 * (j + 1)) s' := fun a b => ⟨_, rfl, _, rfl, a, b⟩
    rw [unL_list]
    refine Tr.wp_bind.mpr ?_
    rw [dAdd_int, rb]
    refine take_wp (by omega) (by omega) fun a ha => ?_
    refine Tr.wp_bind.mpr (Tr.wp_bind.mpr (Tr.wp_bind.mpr (pick_wp (by show 1 ≤ 3; omega) (by show 3 < 1000000; omega) fun y hy => ?_)))
    obtain ⟨q, rfl, q1, q2⟩ : ∃ q : Int, y = .int q ∧ 1 ≤ q ∧ q ≤ 70 := by
      simp only [List.mem_cons, List.not_mem_nil, or_false] at hy
      rcases hy with rfl | rfl | rfl
      · exact ⟨_, rfl, by omega, by omega⟩
      · exact ⟨_, rfl, by omega, by omega⟩
      · exact ⟨_, rfl, by omega, by omega⟩
    refine take_wp q1 (by omega) fun b hb => ?_
    rw [dAdd_int]
    show Tr.wp _ _ ((takeT (.int 4)).bind _)
    refine Tr.wp_bind.mpr (take_wp (by decide) (by decide) fun c hc4 => ?_)
    have e1 : (a : Int) + (1 + (b : Int)) = ((a + 1 + b : Nat) : Int) := by omega
    have e2 : (1 + (b : Int)) = ((1 + b : Nat) : Int) := by omega
    have hbb : b < 70 := by omega
    have tk : ∀ {n : Nat}, ∀ w ∈ zs.take n, V w := fun w hw => hz w (List.mem_of_mem_take hw)
    have dp : ∀ {n : Nat}, ∀ w ∈ zs.drop n, V w := fun w hw => hz w (List.mem_of_mem_drop hw)
    have both : ∀ {as bs : List PyData}, (∀ w ∈ as, V w) → (∀ w ∈ bs, V w) → ∀ w ∈ as ++ bs, V w := fun p q w hw => (List.mem_append.mp hw).elim (p w) (q w)
    match c, hc4 with
    | 0, _ =>
      simp only [show cEq (PyData.int ((0 : Nat) : Int)) (.int 0) = .ret true from rfl, rb, if_true, asI_int, cut_to, dAdd_int, e1, cut_from]
      rw [cat_eq (by rw [List.length_take, List.length_drop]; omega), rb]
      exact done (both tk dp) (by rw [List.length_append, List.length_take, List.length_drop]; omega)
    | 1, _ =>
      simp only [show cEq (PyData.int ((1 : Nat) : Int)) (.int 0) = .ret false from rfl, show cEq (PyData.int ((1 : Nat) : Int)) (.int 1) = .ret true from rfl, rb, if_true, Bool.false_eq_true, if_false, asI_int, cut_to, e2, cut_from]
      rw [range_eq (by omega) (by omega), rb, Int.toNat_natCast]
      show Tr.wp _ _ (((_ : Tr (Ct PyData)).bind _).bind _)
      simp only [Tr.bind_assoc]
      refine Tr.wp_bind.mpr (Tr.wp_mono (fun ws hw => ?_) (fun _ z => z) (map_wp (P := V) (rng 0 (1 + b)) fun x _ => pick_wp h1 (by omega) hF))
      obtain ⟨lw, hw⟩ := hw
      rw [rng_len] at lw
      rw [rb, addL_eq (by rw [List.length_take]; omega), rb, cat_eq (by rw [List.length_append, List.length_take, List.length_drop]; omega), rb]
      exact done (both (both tk hw) dp) (by rw [List.length_append, List.length_append, List.length_take, List.length_drop]; omega)
    | 2, _ =>
      obtain ⟨ms, em, hm, lm⟩ := cut_mid (xs := zs) (a := a) (b := a + 1 + b)
      simp only [show cEq (PyData.int ((2 : Nat) : Int)) (.int 0) = .ret false from rfl, show cEq (PyData.int ((2 : Nat) : Int)) (.int 1) = .ret false from rfl, show cEq (PyData.int ((2 : Nat) : Int)) (.int 2) = .ret true from rfl, rb, if_true, Bool.false_eq_true, if_false, asI_int, dAdd_int, e1, em, cut_to, cut_from]
      rw [cat_eq (by rw [List.length_take, List.length_drop]; omega), rb, unL_list]
      have hr : ∀ w ∈ zs.take a ++ zs.drop (a + 1 + b), V w := both tk dp
      have lr : (zs.take a ++ zs.drop (a + 1 + b)).length = min a zs.length + (zs.length - (a + 1 + b)) := by rw [List.length_append, List.length_take, List.length_drop]
      generalize zs.take a ++ zs.drop (a + 1 + b) = rs at hr lr
      unfold andThen
      simp only [Tr.bind_assoc]
      refine Tr.wp_bind.mpr (take_wp (by omega) (by omega) fun u hu => ?_)
      have tk2 : ∀ {n : Nat}, ∀ w ∈ rs.take n, V w := fun w hw => hr w (List.mem_of_mem_take hw)
      have dp2 : ∀ {n : Nat}, ∀ w ∈ rs.drop n, V w := fun w hw => hr w (List.mem_of_mem_drop hw)
      simp only [rb, asI_int, cut_to, cut_from]
      rw [addL_eq (by rw [List.length_take]; omega), rb, cat_eq (by rw [List.length_append, List.length_take, List.length_drop]; omega), rb]
      exact done (both (both tk2 fun w hw => hz w (hm w hw)) dp2) (by rw [List.length_append, List.length_append, List.length_take, List.length_drop]; omega)
    | 3, _ =>
      simp only [show cEq (PyData.int ((3 : Nat) : Int)) (.int 0) = .ret false from rfl, show cEq (PyData.int ((3 : Nat) : Int)) (.int 1) = .ret false from rfl, show cEq (PyData.int ((3 : Nat) : Int)) (.int 2) = .ret false from rfl, rb, Bool.false_eq_true, if_false, dAdd_int, dMin_int, unL_list]
      have er : rangeT (.int (a : Int)) (.int (min ((zs.length : Nat) : Int) ((a : Int) + 2))) = .ret (rng (a : Int) (min ((zs.length : Nat) : Int) ((a : Int) + 2) - (a : Int)).toNat) := by
        show (if _ then _ else _) = _
        rw [if_pos (by omega)]
      rw [er, rb]
      unfold andThen
      simp only [Tr.bind_assoc]
      refine Tr.wp_bind.mpr ?_
      refine forC_wpI (n := (rng (a : Int) (min ((zs.length : Nat) : Int) ((a : Int) + 2) - (a : Int)).toNat).length) (I := fun i s => ∃ ws, s = PyData.list ws ∧ (∀ w ∈ ws, V w) ∧ ws.length = zs.length) (fun s h => ?_) _ 0 _ (Nat.zero_add _) (fun i x s hxm _ h => ?_) ⟨zs, rfl, hz, rfl⟩
      · obtain ⟨ws, rfl, hw, lw⟩ := h
        exact done hw (by omega)
      · obtain ⟨ws, rfl, hw, lw⟩ := h
        obtain ⟨m, hm, rfl⟩ := List.mem_map.mp hxm
        rw [List.mem_range] at hm
        refine Tr.wp_bind.mpr (pick_wp h1 (by omega) fun y hy => ?_)
        have es : dSetL (.list ws) (.int ((a : Int) + (m : Int))) y = .ret (.list (ws.set ((a : Int) + (m : Int)).toNat y)) := by
          show (if 0 ≤ (a : Int) + (m : Int) ∧ (a : Int) + (m : Int) < (ws.length : Nat) then _ else _) = _
          rw [if_pos (by omega)]
          rfl
        rw [es, rb]
        refine ⟨_, rfl, _, rfl, fun w h => ?_, by rw [List.length_set]; exact lw⟩
        rcases List.mem_or_eq_of_mem_set h with h | h
        · exact hw w h
        · rw [h]; exact hF y hy
    | c + 4, hc4 => exact absurd hc4 (by omega)
end
end K27
namespace K27
open PySem L2 Cg Cgo Km
section
variable {L : Nat} {κ : PyData} {V : PyData → Prop} {wt : PyData → Int} {d : PyData → PyData → Int} {xs ys : List PyData} {pf : PyData → PyData → PyData}
theorem flat_len {f : PyData → List PyData} {B : Nat} : ∀ (l : List PyData), (∀ x ∈ l, (f x).length ≤ B) → (l.flatMap f).length ≤ l.length * B
  | [], _ => by simp
  | x :: l, h => by
    have h1 := h x List.mem_cons_self
    have h2 := flat_len (f := f) (B := B) l fun y hy => h y (List.mem_cons_of_mem _ hy)
    rw [List.flatMap_cons, List.length_append, List.length_cons, Nat.succ_mul]
    omega
theorem keys_len {M B : Nat} (hκ : ∀ i, κ ≠ .int i) (h : ∀ a ∈ xs, ∀ b ∈ ys, (keysN M κ a b).length ≤ B) : (keysN (M + 1) (rowK κ) (.tuple xs) (.tuple ys)).length ≤ 1 + xs.length * (ys.length * B) := by
  unfold rowK
  rw [keysN]
  · have := flat_len (f := fun a => ys.flatMap fun b => keysN M κ a b) (B := ys.length * B) xs fun a ha => flat_len ys fun b hb => h a ha b hb
    rw [List.length_cons]
    simp only [lstD]
    omega
  · exact fun w e => hκ _ e
/-- what the law asks of two values, once they are drawn -/
theorem asked {v w : PyData} (hL : L + 1 ≤ 4) (hL1 : 1 ≤ L) (hκ : ∀ i, κ ≠ .int i) (W : Lv L κ V wt d) (Z : Lw L κ V wt d) (C : Lc L κ V wt) (B : Lb L κ V d pf) (hp : ∀ v w, V v → V w → ∃ p, m_least_patch 9 κ v w = .ret p ∧ Cq L κ p v w (d v w)) {N : Nat} (hN : N ≤ 900) (hv : VR V N v) (hw : VR V N w) (w1 : wtR wt v ≤ 400) (w2 : wtR wt w ≤ 400) (hm : (memF (rowK κ) v w).length ≤ 1000000) :
    ((if (memF (rowK κ) v w).length ≤ 1000000 then m__law_distance 12 (memF (rowK κ) v w) (rowK κ) v w else Tr.bad).bind fun v_due => ((m_least (rowK κ) v w).noX).bind fun v_p => ((((m_distance (rowK κ) v w).noX).bind fun x756 => cNe x756 v_due).bind fun x760 => if x760 then Tr.ret true else ((m__law_made 12 (rowK κ) v_p v).bind fun x757 => cNe x757 (PyData.tuple [w])).bind fun x759 => if x759 then Tr.ret true else (m__law_cost 12 (rowK κ) v_p).bind fun x758 => cNe x758 v_due).bind fun x771 => if x771 then Tr.ret (PyData.bool false) else (((dLen v).bind fun x761 => (dLen w).bind fun x762 => dMul x761 x762).bind fun x763 => cGt x763 (PyData.int 1500)).bind fun x770 => if x770 then Tr.ret (PyData.bool true) else ((m_bound (rowK κ) v w).noX).bind fun v_paper => ((((m_worth (rowK κ) v w v_paper).noX).bind fun x764 => cEq x764 v_due).bind fun x765 => Tr.ret (PyData.bool x765)).bind fun x768 => (asB x768).bind fun x769 => if x769 then (((m_worth (rowK κ) v w (PyData.tuple [(PyData.str "none")])).noX).bind fun x766 => cEq x766 (PyData.int 0)).bind fun x767 => Tr.ret (PyData.bool x767) else Tr.ret (PyData.bool false)) = .ret (.bool true) := by
  have W' := W.row (N := N) (by omega) (by omega)
  have Z' := Z.row (N := N) (by omega) hκ W (by omega)
  have C' := C.row (N := N) W
  have B' := B.row (N := N) (by omega) W hN
  obtain ⟨p, hp1, hp2⟩ := least_row (n := 9) (by omega) W Z hp (N := N) (by omega) hv hw
  have ck := check_ok (L := L + 1) (by omega) C' hv hw w1 w2
  have nx : ∀ {α : Type} (a : α), (Tr.ret a).noX = .ret a := fun _ => rfl
  have a1 : m__law_distance 12 (memF (rowK κ) v w) (rowK κ) v w = .ret (.int (dR wt d v w)) := Z'.dist 12 _ 4 (by omega) hL v w hv hw fun _ h => h
  have a2 : m_least (rowK κ) v w = .ret p := by
    unfold m_least m_check_values
    rw [ck, rb, rb, hp1]
    rfl
  have a3 : m_distance (rowK κ) v w = .ret (.int (dR wt d v w)) := distance_eq (by omega) C' W' hv hw w1 w2
  have a4 : m_bound (rowK κ) v w = .ret (papR wt d pf v w) := by
    unfold m_bound m_check_values
    rw [ck, rb, rb, B'.paper 12 (by omega) v w hv hw]
    rfl
  have a5 : m_worth (rowK κ) v w (papR wt d pf v w) = .ret (.int (dR wt d v w)) := by
    unfold m_worth m_check_values
    rw [ck, rb, rb, B'.worth 12 (by omega) v w hv hw]
    rfl
  have a6 : m_worth (rowK κ) v w (PyData.tuple [(PyData.str "none")]) = .ret (.int 0) := by
    unfold m_worth m_check_values
    rw [ck, rb, rb, none_worth]
    rfl
  have sw := W'.sg w hw
  have ct : cNe (.tuple [w]) (.tuple [w]) = .ret false := cNe_of (cEq_yes (D := L + 2) (by omega) ⟨by rw [sig, sigs, sigs, sw.1]; rfl, depth_tup fun x hx => by
    rw [List.mem_singleton.mp hx]
    exact sw.2⟩)
  obtain ⟨xs, rfl, lx, hx⟩ := hv
  obtain ⟨ys, rfl, ly, hy⟩ := hw
  have em : dMul (.int ((xs.length : Nat) : Int)) (.int ((ys.length : Nat) : Int)) = .ret (.int (((xs.length : Nat) : Int) * ((ys.length : Nat) : Int))) := by
    have hx64 : -(2 ^ 64) < ((xs.length : Nat) : Int) ∧ ((xs.length : Nat) : Int) < 2 ^ 64 := ⟨by omega, by omega⟩
    generalize ((xs.length : Nat) : Int) = i at hx64 ⊢
    unfold dMul
    exact if_pos (.inl hx64)
  have rb' : ∀ {α β : Type} (a : α) (f : α → Tr β), (Tr.ret a).bind f = f a := fun _ _ => rfl
  have l1 : dLen (.tuple xs) = .ret (.int ((xs.length : Nat) : Int)) := rfl
  have l2 : dLen (.tuple ys) = .ret (.int ((ys.length : Nat) : Int)) := rfl
  have g1 : ∀ i j : Int, cGt (.int i) (.int j) = .ret (decide (j < i)) := fun _ _ => rfl
  have b1 : ∀ b : Bool, asB (.bool b) = .ret b := fun _ => rfl
  have h7 := hp2.2 12 (by omega)
  have h8 := hp2.1 12 (by omega)
  rw [if_pos hm, a1, a2, a3, nx, nx]
  clear a1 a2 a3 hm
  generalize m_bound (rowK κ) (.tuple xs) (.tuple ys) = X1 at a4 ⊢
  generalize hX2 : m_worth (rowK κ) (.tuple xs) (.tuple ys) = X2 at a5 a6 ⊢
  generalize dR wt d (.tuple xs) (.tuple ys) = D at a5 h8 ⊢
  rw [rb', rb', rb', cNe_int, rb', decide_eq_true (rfl : D = D)]
  rw [if_neg (by decide), h7, rb', ct, rb', if_neg (by decide), h8, rb', cNe_int, decide_eq_true (rfl : D = D), rb', if_neg (by decide), l1, rb', l2, rb', em, rb', g1, rb', a4, nx, rb', a5, nx, rb', cEq_int, decide_eq_true (rfl : D = D), rb', rb', b1, rb', if_pos rfl, a6, nx, rb', cEq_int, rb']
  split <;> rfl
end
theorem nk_num (m : Int) : ∀ i, numK m ≠ .int i := fun i e => nomatch e
theorem nk_row (κ : PyData) : ∀ i, rowK κ ≠ .int i := fun i e => nomatch e
theorem wtR_num {m : Int} {N : Nat} {v : PyData} (h : VR (VN m) N v) : wtR wtN1 v ≤ 1 + N := by
  obtain ⟨xs, rfl, lx, hx⟩ := h
  show 1 + (xs.map wtN1).sum ≤ _
  have : (xs.map wtN1).sum = xs.length := by
    clear lx hx
    induction xs with
    | nil => rfl
    | cons x xs ih => rw [List.map_cons, List.sum_cons, ih, List.length_cons]; show (1 : Int) + _ = _; omega
  omega
theorem wtR_row {N K : Nat} {v : PyData} (h : VR (VR (VN 3) K) N v) : wtR (wtR wtN1) v ≤ 1 + N * (1 + K) := by
  obtain ⟨xs, rfl, lx, hx⟩ := h
  show 1 + (xs.map (wtR wtN1)).sum ≤ _
  have : (xs.map (wtR wtN1)).sum ≤ (xs.length : Int) * (1 + K) := by
    clear lx
    induction xs with
    | nil => simp
    | cons x xs ih =>
      rw [List.map_cons, List.sum_cons, List.length_cons]
      have h1 := wtR_num (hx x List.mem_cons_self)
      have h2 := ih fun y hy => hx y (List.mem_cons_of_mem _ hy)
      rw [Int.natCast_add, Int.add_mul]
      omega
  have h3 : (xs.length : Int) * (1 + K) ≤ N * (1 + K) := Int.mul_le_mul_of_nonneg_right (by omega) (by omega)
  omega
end K27
namespace K27
open PySem L2 Cg Cgo Km
/-- how long -/
def nOf (b : Bool) : Nat := if b then 110 else 40
/-- a kind of items with some of its values -/
def Kok (κ : PyData) (Fs : List PyData) : Prop := ∃ (L : Nat) (V : PyData → Prop) (wt : PyData → Int) (d : PyData → PyData → Int) (pf : PyData → PyData → PyData) (b : Bool),
  1 ≤ L ∧ L + 1 ≤ 4 ∧ (∀ i, κ ≠ .int i) ∧ Lv L κ V wt d ∧ Lw L κ V wt d ∧ Lc L κ V wt ∧ Lb L κ V d pf ∧ (∀ v w, V v → V w → ∃ p, m_least_patch 9 κ v w = .ret p ∧ Cq L κ p v w (d v w)) ∧
    (∃ s, dIx κ (.int 0) = .ret (.str s) ∧ isW (.str s) "number" = b) ∧ 1 ≤ Fs.length ∧ Fs.length ≤ 1000 ∧ (∀ y ∈ Fs, V y) ∧ (∀ v, VR V (nOf b) v → wtR wt v ≤ 400) ∧ ∀ v w, VR V (nOf b) v → VR V (nOf b) w → (memF (rowK κ) v w).length ≤ 1000000
theorem key_num {m : Int} {a b : PyData} : (keysN 3 (numK m) a b).length ≤ 1 := by
  unfold numK
  rw [keysN]
  exact Nat.le_refl _
theorem kok_num {m : Int} {Fs : List PyData} (h2 : 2 ≤ m) (h3 : m ≤ 20) (l1 : 1 ≤ Fs.length) (l2 : Fs.length ≤ 1000) (hF : ∀ y ∈ Fs, VN m y) : Kok (numK m) Fs := by
  refine ⟨1, VN m, wtN1, dN, fun _ _ => .tuple [.str "all"], true, by omega, by omega, nk_num m, lv_num m, lw_num m, lc_num h2 (by omega), lb_num m, fun v w hv hw => least_num hv hw, ⟨"number", by unfold numK; rw [ix0], rfl⟩, l1, l2, hF, fun v h => ?_, fun v w hv hw => ?_⟩
  · have := wtR_num h
    have e : nOf true = 110 := rfl
    rw [e] at this
    omega
  · obtain ⟨xs, rfl, lx, hx⟩ := hv
    obtain ⟨ys, rfl, ly, hy⟩ := hw
    have e : nOf true = 110 := rfl
    rw [e] at lx ly
    have h := keys_len (xs := xs) (ys := ys) (M := 3) (B := 1) (nk_num m) fun a _ b _ => key_num
    have g : xs.length * (ys.length * 1) ≤ 110 * (110 * 1) := Nat.mul_le_mul lx (Nat.mul_le_mul ly (Nat.le_refl _))
    have k : (memF (rowK (numK m)) (.tuple xs) (.tuple ys)).length ≤ 1 + 110 * (110 * 1) := Nat.le_trans h (Nat.add_le_add_left g 1)
    exact Nat.le_trans k (by decide)
theorem kok_row {Fs : List PyData} (l1 : 1 ≤ Fs.length) (l2 : Fs.length ≤ 1000) (hF : ∀ y ∈ Fs, VR (VN 3) 3 y) : Kok (rowK (numK 3)) Fs := by
  have W := (lv_num 3).row (N := 3) (by omega) (by omega)
  have Z := (lw_num 3).row (N := 3) (by omega) (nk_num 3) (lv_num 3) (by omega)
  have C := (lc_num (m := 3) (by omega) (by omega)).row (N := 3) (lv_num 3)
  have B := (lb_num 3).row (N := 3) (by omega) (lv_num 3) (by omega)
  refine ⟨2, VR (VN 3) 3, _, _, _, false, by omega, by omega, nk_row _, W, Z, C, B, fun v w hv hw => least_row (n := 6) (by omega) (lv_num 3) (lw_num 3) (fun v w hv hw => least_num hv hw) (N := 3) (by omega) hv hw, ⟨"row", by unfold rowK; rw [ix0], rfl⟩, l1, l2, hF, fun v h => ?_, fun v w hv hw => ?_⟩
  · have := wtR_row h
    have e : nOf false = 40 := rfl
    rw [e] at this
    omega
  · obtain ⟨xs, rfl, lx, hx⟩ := hv
    obtain ⟨ys, rfl, ly, hy⟩ := hw
    have e : nOf false = 40 := rfl
    rw [e] at lx ly
    have h := keys_len (xs := xs) (ys := ys) (M := 3) (B := 10) (nk_row (numK 3)) fun a ha b hb => by
      obtain ⟨us, rfl, lu, _⟩ := hx a ha
      obtain ⟨vs, rfl, lv, _⟩ := hy b hb
      have h := keys_len (xs := us) (ys := vs) (M := 2) (B := 1) (nk_num 3) fun a _ b _ => by
        unfold numK
        rw [keysN]
        exact Nat.le_refl _
      have g : us.length * (vs.length * 1) ≤ 3 * (3 * 1) := Nat.mul_le_mul lu (Nat.mul_le_mul lv (Nat.le_refl _))
      exact Nat.le_trans h (Nat.add_le_add_left g 1)
    have g : xs.length * (ys.length * 10) ≤ 40 * (40 * 10) := Nat.mul_le_mul lx (Nat.mul_le_mul ly (Nat.le_refl _))
    have k : (memF (rowK (rowK (numK 3))) (.tuple xs) (.tuple ys)).length ≤ 1 + 40 * (40 * 10) := Nat.le_trans h (Nat.add_le_add_left g 1)
    exact Nat.le_trans k (by decide)
theorem mul_small {i j : Int} (h : -(2 ^ 64) < j ∧ j < 2 ^ 64) : dMul (.int i) (.int j) = .ret (.int (i * j)) := by
  unfold dMul
  exact if_pos (.inr h)
theorem ret_wp {Q : PyData → Prop} {a : PyData} (h : Q a) : (Tr.ret a).wp Q F0 := h
theorem tup_wp {Q : PyData → Prop} {a b : PyData} {f : PyData → PyData → Tr PyData} (h : (f a b).wp Q F0) : (un2 f (.tuple [a, b])).wp Q F0 := h
theorem law_true : ∀ ns : List Int, ns.length ≤ 63 → (m_law (.list (ns.map PyData.int))).wp (fun d => d = .bool true) (fun _ => False) := by
  intro ns _
  unfold m_law
  rw [box_ints, rb]
  refine Tr.wp_bind.mpr (Tr.wp_bind.mpr (take_wp (by decide) (by decide) fun i hi => ?_))
  rw [cEq_int]
  show Tr.wp _ _ (Tr.bind _ _)
  refine Tr.wp_bind.mpr (Tr.wp_mono (Q := fun (x : PyData × PyData) => ∃ κ Fs, x = (κ, .list Fs) ∧ Kok κ Fs) (fun x hx => ?_) (fun _ z => z) ?_)
  · obtain ⟨κ, Fs, rfl, L, V, wt, d, pf, b, L1, L4, hκ, W, Z, C, B, hp, ⟨s, hs, hb⟩, l1, l2, hF, hw, hm⟩ := hx
    have hk : PyData.tuple [.str "row", κ] = rowK κ := rfl
    have nb : nOf b ≤ 110 := by cases b <;> decide
    dsimp only
    rw [rb, hk, hs, rb, cEq_str, hb, rb]
    have e1 : (if b = true then Tr.ret (PyData.int 90) else Tr.ret (PyData.int 30)) = Tr.ret (.int ((if b then 90 else 30 : Nat) : Int)) := by cases b <;> rfl
    rw [e1]
    have m1 : 1 ≤ (if b then 90 else 30 : Nat) ∧ (if b then 90 else 30 : Nat) ≤ nOf b := by cases b <;> decide
    generalize (if b then 90 else 30 : Nat) = M at m1
    rw [rb]
    refine Tr.wp_bind.mpr (Tr.wp_bind.mpr (take_wp (by omega) (by omega) fun k hk' => ?_))
    refine Tr.wp_bind.mpr (Tr.wp_bind.mpr (take_wp (by decide) (by decide) fun st hst => ?_))
    rw [dAdd_int]
    show Tr.wp _ _ (un2 _ (.tuple [_, _]))
    refine tup_wp ?_
    rw [range_eq (by omega) (by omega), rb, Int.toNat_natCast]
    refine Tr.wp_bind.mpr (Tr.wp_bind.mpr (Tr.wp_bind.mpr (Tr.wp_mono (fun vs hvs => ?_) (fun _ z => z) (map_wp (P := V) (rng 0 k) fun x hx => ?_))))
    · obtain ⟨lv, hv⟩ := hvs
      rw [rng_len] at lv
      show Tr.wp _ _ (Tr.bind _ _)
      refine Tr.wp_bind.mpr (Tr.wp_bind.mpr (Tr.wp_mono (fun r hr => ?_) (fun _ z => z) (edited_wp (V := V) l1 l2 hF hv (by omega))))
      obtain ⟨ys, rfl, hy⟩ := hr
      have e2 : (if b = true then Tr.ret (PyData.int 110) else Tr.ret (PyData.int 40)) = Tr.ret (.int ((nOf b : Nat) : Int)) := by cases b <;> rfl
      rw [rb, e2, rb, asI_int, rb, cut_toT]
      have vv : VR V (nOf b) (.tuple vs) := ⟨vs, rfl, by omega, hv⟩
      have vw : VR V (nOf b) (.tuple (ys.take (nOf b))) := ⟨_, rfl, by rw [List.length_take]; omega, fun y h => hy y (List.mem_of_mem_take h)⟩
      refine ret_wp ?_
      exact wp_of_eq (asked L4 L1 hκ W Z C B hp (by omega) vv vw (hw _ vv) (hw _ vw) (hm _ _ vv vw)) rfl
    · obtain ⟨j, hj, rfl⟩ := List.mem_map.mp hx
      rw [List.mem_range] at hj
      have ej : (0 : Int) + (j : Int) = (j : Int) := by omega
      have b1 : -(2 ^ 64) < (j : Int) ∧ (j : Int) < 2 ^ 64 := ⟨by omega, by omega⟩
      have b2 : -(2 ^ 64) < (1 + (st : Int)) ∧ (1 + (st : Int)) < 2 ^ 64 := ⟨by omega, by omega⟩
      rw [ej, mul_small b1, rb, mul_small b2, rb, mul_small b1, rb, dAdd_int, rb, dAdd_int, rb]
      generalize ((j : Int) * (j : Int) * (1 + (st : Int)) + 3 * (j : Int) + (1 + (st : Int))) = z
      have em : dMod (.int z) (.int ((Fs.length : Nat) : Int)) = .ret (.int (((z % (Fs.length : Int)).toNat : Nat) : Int)) := by
        show (if 0 < ((Fs.length : Nat) : Int) then _ else _) = _
        rw [if_pos (by omega), Int.toNat_of_nonneg (Int.emod_nonneg _ (by omega))]
      have hz : (z % (Fs.length : Int)).toNat < Fs.length := by
        have h1 := Int.emod_nonneg z (b := (Fs.length : Int)) (by omega)
        have h2 := Int.emod_lt_of_pos z (b := (Fs.length : Int)) (by omega)
        omega
      rw [show dInt (.int z) = .ret (.int z) from rfl, rb, show dLen (.list Fs) = .ret (.int Fs.length) from rfl, rb, em, rb, ixL_nat (List.getElem?_eq_getElem hz)]
      exact hF _ (List.getElem_mem hz)
  · split
    · refine Tr.wp_bind.mpr (Tr.wp_bind.mpr (Tr.wp_bind.mpr (take_wp (by decide) (by decide) fun q hq => ?_)))
      rw [dAdd_int]
      show Tr.wp _ _ (Tr.bind _ _)
      have hk : PyData.tuple [.str "number", .int (2 + (q : Int))] = numK (2 + (q : Int)) := rfl
      rw [ix1, rb, range_eq (by omega) (by omega), rb, rb, hk]
      refine ⟨_, _, rfl, kok_num (by omega) (by omega) (by rw [rng_len]; omega) (by rw [rng_len]; omega) fun y hy => ?_⟩
      obtain ⟨j, hj, rfl⟩ := List.mem_map.mp hy
      rw [List.mem_range] at hj
      exact ⟨_, rfl, by omega, by omega⟩
    · rw [rb, range_eq (by decide) (by decide), rb]
      refine Tr.wp_bind.mpr (Tr.wp_bind.mpr (Tr.wp_mono (fun fs hfs => ?_) (fun _ z => z) (map_wp (P := VR (VN 3) 3) (rng 0 6) fun x _ => ?_)))
      · obtain ⟨lf, hf⟩ := hfs
        have l6 : fs.length = 6 := lf.trans (rng_len _ _)
        exact ⟨_, _, rfl, kok_row (by omega) (by omega) hf⟩
      · refine Tr.wp_bind.mpr (Tr.wp_bind.mpr (take_wp (by decide) (by decide) fun q hq => ?_))
        rw [range_eq (by omega) (by omega), rb, Int.toNat_natCast]
        refine Tr.wp_bind.mpr (Tr.wp_mono (fun us hus => ?_) (fun _ z => z) (map_wp (P := VN 3) (rng 0 q) fun x _ => take_wp (by decide) (by decide) fun t ht => ⟨_, rfl, by omega, ht⟩))
        obtain ⟨lu, hu⟩ := hus
        rw [rng_len] at lu
        exact ⟨us, rfl, by omega, hu⟩
end K27
namespace K27
open PySem PySem.Spec PyProof.Rows L2 Cg
def spLaw (K : PySem.W.Frag) : Sp := fun vs H Q _ => ∃ (a : Addr) (ns : List Int), vs = [.ref a] ∧ SqL K H a (ns.map V.int) ∧ ns.length ≤ 63 ∧ ∀ H', Q (.bl true) H'
set_option maxHeartbeats 0 in
theorem all_mk {P : Program} {w : World} {K : PySem.W.Frag} {h : Heap} {mg : Str → Option Value} {fa : Addr} (S : Hk.Says cfg w K) (X : K.In h) (N : h.Ns mainGlobals mg) (hfa : mg "law" = some (.ref fa)) :
    ∃ fd : FuncData, (∀ (s : Shared) (u : Value), K.In s.heap → BindsTo s fd ⟨[u], []⟩ [("script", u)]) ∧ ∀ base : Heap, K.In base → base.Ns mainGlobals mg → FnAt callerA P w K mg base fa fd ["script"] (spLaw K) := by
  obtain ⟨d_check_kind⟩ := S.defAt X N 0 (x := "check_kind") (st := s_check_kind) (ps := ["kind"]) rfl fun _ _ _ _ _ _ us hl => match us, hl with | [_], _ => rfl
  obtain ⟨d_is_whole⟩ := S.defAt X N 1 (x := "is_whole") (st := s_is_whole) (ps := ["thing"]) rfl fun _ _ _ _ _ _ us hl => match us, hl with | [_], _ => rfl
  obtain ⟨d_is_within⟩ := S.defAt X N 2 (x := "is_within") (st := s_is_within) (ps := ["thing", "low", "high"]) rfl fun _ _ _ _ _ _ us hl => match us, hl with | [_, _, _], _ => rfl
  obtain ⟨d_is_tuple⟩ := S.defAt X N 3 (x := "is_tuple") (st := s_is_tuple) (ps := ["thing", "many"]) rfl fun _ _ _ _ _ _ us hl => match us, hl with | [_, _], _ => rfl
  obtain ⟨d_inner_kinds⟩ := S.defAt X N 4 (x := "inner_kinds") (st := s_inner_kinds) (ps := ["kind"]) rfl fun _ _ _ _ _ _ us hl => match us, hl with | [_], _ => rfl
  obtain ⟨d_count_kinds⟩ := S.defAt X N 5 (x := "count_kinds") (st := s_count_kinds) (ps := ["kind", "deep"]) rfl fun _ _ _ _ _ _ us hl => match us, hl with | [_, _], _ => rfl
  obtain ⟨d_is_value⟩ := S.defAt X N 6 (x := "is_value") (st := s_is_value) (ps := ["kind", "value"]) rfl fun _ _ _ _ _ _ us hl => match us, hl with | [_, _], _ => rfl
  obtain ⟨d_weigh⟩ := S.defAt X N 7 (x := "weigh") (st := s_weigh) (ps := ["kind", "value", "limit"]) rfl fun _ _ _ _ _ _ us hl => match us, hl with | [_, _, _], _ => rfl
  obtain ⟨d_heft⟩ := S.defAt X N 8 (x := "heft") (st := s_heft) (ps := ["kind", "value"]) rfl fun _ _ _ _ _ _ us hl => match us, hl with | [_, _], _ => rfl
  obtain ⟨d_value_parts⟩ := S.defAt X N 9 (x := "value_parts") (st := s_value_parts) (ps := ["kind", "value"]) rfl fun _ _ _ _ _ _ us hl => match us, hl with | [_, _], _ => rfl
  obtain ⟨d_record_parts⟩ := S.defAt X N 10 (x := "record_parts") (st := s_record_parts) (ps := ["kind", "value"]) rfl fun _ _ _ _ _ _ us hl => match us, hl with | [_, _], _ => rfl
  obtain ⟨d_choice_parts⟩ := S.defAt X N 11 (x := "choice_parts") (st := s_choice_parts) (ps := ["kind", "value"]) rfl fun _ _ _ _ _ _ us hl => match us, hl with | [_, _], _ => rfl
  obtain ⟨d_item_parts⟩ := S.defAt X N 12 (x := "item_parts") (st := s_item_parts) (ps := ["kind", "value"]) rfl fun _ _ _ _ _ _ us hl => match us, hl with | [_, _], _ => rfl
  obtain ⟨d_bag_parts⟩ := S.defAt X N 13 (x := "bag_parts") (st := s_bag_parts) (ps := ["kind", "value"]) rfl fun _ _ _ _ _ _ us hl => match us, hl with | [_, _], _ => rfl
  obtain ⟨d_table_parts⟩ := S.defAt X N 14 (x := "table_parts") (st := s_table_parts) (ps := ["kind", "value"]) rfl fun _ _ _ _ _ _ us hl => match us, hl with | [_, _], _ => rfl
  obtain ⟨d_is_ordered⟩ := S.defAt X N 15 (x := "is_ordered") (st := s_is_ordered) (ps := ["kind", "value"]) rfl fun _ _ _ _ _ _ us hl => match us, hl with | [_, _], _ => rfl
  obtain ⟨d_is_rising⟩ := S.defAt X N 16 (x := "is_rising") (st := s_is_rising) (ps := ["values"]) rfl fun _ _ _ _ _ _ us hl => match us, hl with | [_], _ => rfl
  obtain ⟨d_gap⟩ := S.defAt X N 17 (x := "gap") (st := s_gap) (ps := ["kind", "v", "w"]) rfl fun _ _ _ _ _ _ us hl => match us, hl with | [_, _, _], _ => rfl
  obtain ⟨d_climb⟩ := S.defAt X N 18 (x := "climb") (st := s_climb) (ps := ["kind", "v", "w"]) rfl fun _ _ _ _ _ _ us hl => match us, hl with | [_, _, _], _ => rfl
  obtain ⟨d_next_heights⟩ := S.defAt X N 19 (x := "next_heights") (st := s_next_heights) (ps := ["kind", "item", "w", "lefts", "above"]) rfl fun _ _ _ _ _ _ us hl => match us, hl with | [_, _, _, _, _], _ => rfl
  obtain ⟨d_paper_of⟩ := S.defAt X N 20 (x := "paper_of") (st := s_paper_of) (ps := ["kind", "v", "w"]) rfl fun _ _ _ _ _ _ us hl => match us, hl with | [_, _, _], _ => rfl
  obtain ⟨d_has_turn_alone⟩ := S.defAt X N 21 (x := "has_turn_alone") (st := s_has_turn_alone) (ps := ["kind", "v", "w"]) rfl fun _ _ _ _ _ _ us hl => match us, hl with | [_, _, _], _ => rfl
  obtain ⟨d_worth_of⟩ := S.defAt X N 22 (x := "worth_of") (st := s_worth_of) (ps := ["kind", "v", "w", "paper"]) rfl fun _ _ _ _ _ _ us hl => match us, hl with | [_, _, _, _], _ => rfl
  obtain ⟨d_turn_worth⟩ := S.defAt X N 23 (x := "turn_worth") (st := s_turn_worth) (ps := ["kind", "v", "w"]) rfl fun _ _ _ _ _ _ us hl => match us, hl with | [_, _, _], _ => rfl
  obtain ⟨d_record_worth⟩ := S.defAt X N 24 (x := "record_worth") (st := s_record_worth) (ps := ["kind", "v", "w", "paper"]) rfl fun _ _ _ _ _ _ us hl => match us, hl with | [_, _, _, _], _ => rfl
  obtain ⟨d_choice_worth⟩ := S.defAt X N 25 (x := "choice_worth") (st := s_choice_worth) (ps := ["kind", "v", "w", "paper"]) rfl fun _ _ _ _ _ _ us hl => match us, hl with | [_, _, _, _], _ => rfl
  obtain ⟨d_row_worth⟩ := S.defAt X N 26 (x := "row_worth") (st := s_row_worth) (ps := ["kind", "v", "w", "paper"]) rfl fun _ _ _ _ _ _ us hl => match us, hl with | [_, _, _, _], _ => rfl
  obtain ⟨d_is_grid⟩ := S.defAt X N 27 (x := "is_grid") (st := s_is_grid) (ps := ["thing", "many", "wide"]) rfl fun _ _ _ _ _ _ us hl => match us, hl with | [_, _, _], _ => rfl
  obtain ⟨d_goes_down⟩ := S.defAt X N 28 (x := "goes_down") (st := s_goes_down) (ps := ["heights", "downs"]) rfl fun _ _ _ _ _ _ us hl => match us, hl with | [_, _], _ => rfl
  obtain ⟨d_goes_left⟩ := S.defAt X N 29 (x := "goes_left") (st := s_goes_left) (ps := ["heights", "lefts"]) rfl fun _ _ _ _ _ _ us hl => match us, hl with | [_, _], _ => rfl
  obtain ⟨d_goes_across⟩ := S.defAt X N 30 (x := "goes_across") (st := s_goes_across) (ps := ["heights", "worths"]) rfl fun _ _ _ _ _ _ us hl => match us, hl with | [_, _], _ => rfl
  obtain ⟨d_lot_worth⟩ := S.defAt X N 31 (x := "lot_worth") (st := s_lot_worth) (ps := ["kind", "v", "w", "paper"]) rfl fun _ _ _ _ _ _ us hl => match us, hl with | [_, _, _, _], _ => rfl
  obtain ⟨d_table_worth⟩ := S.defAt X N 32 (x := "table_worth") (st := s_table_worth) (ps := ["kind", "v", "w", "paper"]) rfl fun _ _ _ _ _ _ us hl => match us, hl with | [_, _, _, _], _ => rfl
  obtain ⟨d_packed⟩ := S.defAt X N 33 (x := "packed") (st := s_packed) (ps := ["parts"]) rfl fun _ _ _ _ _ _ us hl => match us, hl with | [_], _ => rfl
  obtain ⟨d_distance⟩ := S.defAt X N 34 (x := "distance") (st := s_distance) (ps := ["kind", "v", "w"]) rfl fun _ _ _ _ _ _ us hl => match us, hl with | [_, _, _], _ => rfl
  obtain ⟨d_least⟩ := S.defAt X N 35 (x := "least") (st := s_least) (ps := ["kind", "v", "w"]) rfl fun _ _ _ _ _ _ us hl => match us, hl with | [_, _, _], _ => rfl
  obtain ⟨d_bound⟩ := S.defAt X N 36 (x := "bound") (st := s_bound) (ps := ["kind", "v", "w"]) rfl fun _ _ _ _ _ _ us hl => match us, hl with | [_, _, _], _ => rfl
  obtain ⟨d_worth⟩ := S.defAt X N 37 (x := "worth") (st := s_worth) (ps := ["kind", "v", "w", "paper"]) rfl fun _ _ _ _ _ _ us hl => match us, hl with | [_, _, _, _], _ => rfl
  obtain ⟨d_check_values⟩ := S.defAt X N 38 (x := "check_values") (st := s_check_values) (ps := ["kind", "v", "w"]) rfl fun _ _ _ _ _ _ us hl => match us, hl with | [_, _, _], _ => rfl
  obtain ⟨d_least_patch⟩ := S.defAt X N 39 (x := "least_patch") (st := s_least_patch) (ps := ["kind", "v", "w"]) rfl fun _ _ _ _ _ _ us hl => match us, hl with | [_, _, _], _ => rfl
  obtain ⟨d_least_parts⟩ := S.defAt X N 40 (x := "least_parts") (st := s_least_parts) (ps := ["kind", "v", "w"]) rfl fun _ _ _ _ _ _ us hl => match us, hl with | [_, _, _], _ => rfl
  obtain ⟨d_last_part⟩ := S.defAt X N 41 (x := "last_part") (st := s_last_part) (ps := ["kind", "v", "w", "heights"]) rfl fun _ _ _ _ _ _ us hl => match us, hl with | [_, _, _, _], _ => rfl
  obtain ⟨d__law_box⟩ := S.defAt X N 42 (x := "_law_box") (st := s__law_box) (ps := ["script"]) rfl fun _ _ _ _ _ _ us hl => match us, hl with | [_], _ => rfl
  obtain ⟨d__law_take⟩ := S.defAt X N 43 (x := "_law_take") (st := s__law_take) (ps := ["box", "m"]) rfl fun _ _ _ _ _ _ us hl => match us, hl with | [_, _], _ => rfl
  obtain ⟨d__law_pick⟩ := S.defAt X N 44 (x := "_law_pick") (st := s__law_pick) (ps := ["box", "menu"]) rfl fun _ _ _ _ _ _ us hl => match us, hl with | [_, _], _ => rfl
  obtain ⟨d__law_weight⟩ := S.defAt X N 45 (x := "_law_weight") (st := s__law_weight) (ps := ["kind", "v"]) rfl fun _ _ _ _ _ _ us hl => match us, hl with | [_, _], _ => rfl
  obtain ⟨d__law_made⟩ := S.defAt X N 46 (x := "_law_made") (st := s__law_made) (ps := ["kind", "p", "v"]) rfl fun _ _ _ _ _ _ us hl => match us, hl with | [_, _, _], _ => rfl
  obtain ⟨d__law_made_row⟩ := S.defAt X N 47 (x := "_law_made_row") (st := s__law_made_row) (ps := ["kind", "parts", "v"]) rfl fun _ _ _ _ _ _ us hl => match us, hl with | [_, _, _], _ => rfl
  obtain ⟨d__law_cost⟩ := S.defAt X N 48 (x := "_law_cost") (st := s__law_cost) (ps := ["kind", "p"]) rfl fun _ _ _ _ _ _ us hl => match us, hl with | [_, _], _ => rfl
  obtain ⟨d__law_distance⟩ := S.defAt X N 49 (x := "_law_distance") (st := s__law_distance) (ps := ["kind", "v", "w", "known"]) rfl fun _ _ _ _ _ _ us hl => match us, hl with | [_, _, _, _], _ => rfl
  obtain ⟨d__law_far⟩ := S.defAt X N 50 (x := "_law_far") (st := s__law_far) (ps := ["kind", "v", "w", "known"]) rfl fun _ _ _ _ _ _ us hl => match us, hl with | [_, _, _, _], _ => rfl
  obtain ⟨d__law_edited⟩ := S.defAt X N 51 (x := "_law_edited") (st := s__law_edited) (ps := ["box", "v", "fresh"]) rfl fun _ _ _ _ _ _ us hl => match us, hl with | [_, _, _], _ => rfl
  obtain ⟨d_law⟩ := S.defAt X N 52 (x := "law") (st := s_law) (ps := ["script"]) rfl fun _ _ _ _ _ _ us hl => match us, hl with | [_], _ => rfl
  obtain ⟨t_MOST_DEEP, k_MOST_DEEP⟩ := S.int X N 0 (x := "MOST_DEEP") (n := 5)
  obtain ⟨t_MOST_INSIDE, k_MOST_INSIDE⟩ := S.int X N 1 (x := "MOST_INSIDE") (n := 4)
  obtain ⟨t_MOST_KINDS, k_MOST_KINDS⟩ := S.int X N 2 (x := "MOST_KINDS") (n := 20)
  obtain ⟨t_MOST_NUMBER, k_MOST_NUMBER⟩ := S.int X N 3 (x := "MOST_NUMBER") (n := 1000)
  obtain ⟨t_MOST_WEIGHT, k_MOST_WEIGHT⟩ := S.int X N 4 (x := "MOST_WEIGHT") (n := 400)
  obtain ⟨p_KEEP, g_KEEP, gt_KEEP⟩ := S.tup X N 0 (x := "KEEP") (vs := [V.str "keep", V.int 1])
  obtain ⟨p_SAME, g_SAME, gt_SAME⟩ := S.tup X N 1 (x := "SAME") (vs := [V.str "same"])
  obtain ⟨C_kind, g_BadKind, e_BadKind⟩ := S.err X N 0 (x := "BadKind")
  obtain ⟨C_value, g_BadValue, e_BadValue⟩ := S.err X N 1 (x := "BadValue")
  obtain ⟨C_base, g_CorrigendaError, e_CorrigendaError⟩ := S.err X N 2 (x := "CorrigendaError")
  obtain ⟨p_FEWEST_INSIDE, g_FEWEST_INSIDE, hx_FEWEST_INSIDE, hq_FEWEST_INSIDE⟩ := S.dic X N 0 (x := "FEWEST_INSIDE")
  obtain ⟨p_VALUE_PARTS, g_VALUE_PARTS, hx_VALUE_PARTS, hq_VALUE_PARTS⟩ := S.dic X N 1 (x := "VALUE_PARTS")
  obtain ⟨p_WORTHS, g_WORTHS, hx_WORTHS, hq_WORTHS⟩ := S.dic X N 2 (x := "WORTHS")
  let T : Txt w K mg := ⟨d_check_kind, d_is_whole, d_is_within, d_is_tuple, d_inner_kinds, d_count_kinds, d_is_value, d_weigh, d_heft, d_value_parts, d_record_parts, d_choice_parts, d_item_parts, d_bag_parts, d_table_parts, d_is_ordered, d_is_rising, d_gap, d_climb, d_next_heights, d_paper_of, d_has_turn_alone, d_worth_of, d_turn_worth, d_record_worth, d_choice_worth, d_row_worth, d_is_grid, d_goes_down, d_goes_left, d_goes_across, d_lot_worth, d_table_worth, d_packed, d_distance, d_least, d_bound, d_worth, d_check_values, d_least_patch, d_least_parts, d_last_part, d__law_box, d__law_take, d__law_pick, d__law_weight, d__law_made, d__law_made_row, d__law_cost, d__law_distance, d__law_far, d__law_edited, d_law, S.free X N 0 (x := "abs"), S.free X N 1 (x := "all"), S.free X N 2 (x := "any"), S.free X N 3 (x := "bool"), S.free X N 4 (x := "enumerate"), S.free X N 5 (x := "int"), S.free X N 6 (x := "isinstance"), S.free X N 7 (x := "len"), S.free X N 8 (x := "list"), S.free X N 9 (x := "max"), S.free X N 10 (x := "min"), S.free X N 11 (x := "range"), S.free X N 12 (x := "sum"), S.free X N 13 (x := "tuple"), S.free X N 14 (x := "zip"), t_MOST_DEEP, k_MOST_DEEP, t_MOST_INSIDE, k_MOST_INSIDE, t_MOST_KINDS, k_MOST_KINDS, t_MOST_NUMBER, k_MOST_NUMBER, t_MOST_WEIGHT, k_MOST_WEIGHT, p_KEEP, g_KEEP, gt_KEEP, p_SAME, g_SAME, gt_SAME, fun c => match c with | .kind => C_kind | .value => C_value | .patch => C_kind | .unfit => C_kind | .base => C_base, e_BadKind, g_BadKind, e_BadValue, g_BadValue, e_CorrigendaError, g_CorrigendaError, p_FEWEST_INSIDE, g_FEWEST_INSIDE, Hk.kdAt_of hx_FEWEST_INSIDE (tab := tab_FEWEST_INSIDE) hq_FEWEST_INSIDE, p_VALUE_PARTS, g_VALUE_PARTS, Hk.fdAt_of hx_VALUE_PARTS hq_VALUE_PARTS (⟨⟨rfl, _, rfl, d_record_parts.g⟩, ⟨⟨rfl, _, rfl, d_choice_parts.g⟩, ⟨⟨rfl, _, rfl, d_item_parts.g⟩, ⟨⟨rfl, _, rfl, d_item_parts.g⟩, ⟨⟨rfl, _, rfl, d_bag_parts.g⟩, ⟨⟨rfl, _, rfl, d_table_parts.g⟩, trivial⟩⟩⟩⟩⟩⟩), p_WORTHS, g_WORTHS, Hk.fdAt_of hx_WORTHS hq_WORTHS (⟨⟨rfl, _, rfl, d_record_worth.g⟩, ⟨⟨rfl, _, rfl, d_choice_worth.g⟩, ⟨⟨rfl, _, rfl, d_row_worth.g⟩, ⟨⟨rfl, _, rfl, d_lot_worth.g⟩, ⟨⟨rfl, _, rfl, d_lot_worth.g⟩, ⟨⟨rfl, _, rfl, d_table_worth.g⟩, trivial⟩⟩⟩⟩⟩⟩)⟩
  obtain rfl : fa = d_law.f := by
    have e := hfa.symm.trans d_law.g
    cases e
    rfl
  refine ⟨d_law.fd, fun s u hK => d_law.b s [u] hK rfl, fun base _ _ => FnAt.imp (ok_law (P := P) (w := w) (base := base) T) fun vs H Q E hs => ?_⟩
  obtain ⟨a, ns, rfl, hS, h63, q⟩ := hs
  refine ⟨[.list (ns.map PyData.int)], H, .cons (.lst hS (by rw [List.length_map, sizeLine_eq]; omega) (RpAll.ofInts ns)) .nil, rfl, Ex.refl H, Tr.wp_mono (fun d hd v G' H' g e rv => ?_) (fun _ z => z) (law_true ns h63)⟩
  subst hd
  cases rv
  exact q H'
end K27
open PySem PySem.W PySem.Calls PyProof.Rows
set_option maxRecDepth 100000 in
set_option maxHeartbeats 0 in
theorem PySem.Challenge.cw_corrigenda_k27_rows_of_many_items_holds : PySem.Challenge.rw_corrigenda_k27_rows_of_many_items.Holds := by
  refine K27.top (Cg.walk_atE (l := PySem.Challenge.rw_corrigenda_k27_rows_of_many_items) (n := 63) (x := "script") K27.most (by decide) K27.dL_dfl fun w mg fa h Y N hmg0 => ?_)
  obtain ⟨K, X, S⟩ := Y
  rw [K27.dL_name] at hmg0
  obtain ⟨fd, hb, hF⟩ := K27.all_mk (P := PySem.Challenge.rw_corrigenda_k27_rows_of_many_items.prog) S X N hmg0
  exact ⟨K, fd, K27.spLaw K, X, hb, fun H a ns hl hS => ⟨a, ns, rfl, hS, hl, fun _ => rfl⟩, hF⟩
