import PyProof.Rows.All
import Wide.All
import OpenK.AllK
import Wide.FinOn
import HandS.Exc
import HandS.Defaults
import HandS.ExcInit
import HandS.Head2
import HandS.HeadEnd
import HandS.HeadNt
import KE.KExcInit
import HandS.ForMost
import HandS.Walk
import HandS.IsInst
import HandS.Star
import HandS.ClsMeth
import HandS.Style
import HandS.OwnEq
import HandS.Strs
import HandS.TupAny
import HandS.Evl
import KE.GoesEnum
import HandS.SlotsOwn
import HandS.More
import HandS.ExcOwn
import HandS.ExcField
import HandS.ExcIs
import HandS.ExcValue
import HandS.MakeKw
import HandS.MakeKwOnly
import KE.KExcIs
import HandS.Dict
import HandS.Ends
import PyProof.ReprRoads
import HandS.WordsExc
import PyProof.StrOps2
import HandS.Rev
import HandS.RevTup
import PyProof.ListStr
import HandS.SetFor
import KE.KEqDeep
import HandS.TryOnly
import PyProof.Rows.RegFStrParts
import PyProof.FitsInt
import HandS.DictComp
import HandS.Deep
import OpenK.KMeth
import HandS.DictEq
import KE.KDictLaw
import HandS.Text
import HandS.Conv
import KE.KEqDict
import KE.DataCmp
import PyProof.P3Eq
import PyProof.ReprLen
import PySem.Challenge.RW_unkeptlines_k07_whole_nets_refused
set_option Elab.async false
set_option linter.all false
set_option maxRecDepth 100000
set_option maxHeartbeats 4200000
section
/-! Hz: the facts of a program's top, told by one look at the state behind it -/
namespace Hz
open PySem PySem.Spec PyProof.Rows L2
def tokO : Option (Option Value) → Tok
  | some (some (.str _ t)) => t
  | some (some (.int _ t)) => t
  | _ => 0
def isInt (o : Option (Option Value)) (i : Int) : Bool := match o with
  | some (some (.int j _)) => decide (j = i)
  | _ => false
def isStr (o : Option (Option Value)) (z : Str) : Bool := match o with
  | some (some (.str y _)) => decide (y = z)
  | _ => false
theorem int_ok {o : Option (Option Value)} {i : Int} (h : isInt o i = true) : o = some (some (.int i (tokO o))) := by
  unfold isInt at h
  split at h
  · rw [of_decide_eq_true h]; rfl
  · cases h
theorem str_ok {o : Option (Option Value)} {z : Str} (h : isStr o z = true) : o = some (some (.str z (tokO o))) := by
  unfold isStr at h
  split at h
  · rw [of_decide_eq_true h]; rfl
  · cases h
theorem int_of {o : Option (Option Value)} {i : Int} {u : Value} (e : o = some (some u)) (r : RelV (.int i) u) : o = some (some (.int i (tokO o))) := by
  obtain ⟨t, rfl⟩ := r
  rw [e]; rfl
/-- a row of values at a -/
def tupA (K : PySem.W.Frag) (a : Addr) (vs : List V) : Bool := match K.lookup a with
  | some ⟨.type c, _, .seq its _, _⟩ => decide (c = "tuple") && (decide (its.size ≤ sizeLine) && He.relAll vs its.toList)
  | _ => false
theorem tup_ok {K : PySem.W.Frag} {a : Addr} {vs : List V} (h : tupA K a vs = true) : ∃ (o : Obj) (its : Array Value) (n : Nat), K.lookup a = some o ∧ o.cls = .type "tuple" ∧ o.data = .seq its n ∧ its.size ≤ sizeLine ∧ Vals vs its.toList := by
  unfold tupA at h
  split at h
  · rename_i c dd its n sl e
    rw [Bool.and_eq_true, Bool.and_eq_true] at h
    obtain ⟨h1, h2, h3⟩ := h
    have e1 := of_decide_eq_true h1
    subst e1
    exact ⟨_, its, n, e, rfl, rfl, of_decide_eq_true h2, He.relAll_ok h3⟩
  · cases h
/-- what a record holds first -/
def recF (K : PySem.W.Frag) (a : Addr) (c : String) : Addr := match PySem.W.recIn K a c with
  | some (.ref f :: _) => f
  | _ => 0
def recB (K : PySem.W.Frag) (a : Addr) (c : String) : Bool := match PySem.W.recIn K a c with
  | some (.ref _ :: _) => true
  | _ => false
theorem rec_ok {K : PySem.W.Frag} {a : Addr} {c : String} (h : recB K a c = true) : ∃ rs, PySem.W.recIn K a c = some (.ref (recF K a c) :: rs) := by
  unfold recB at h
  split at h
  · rename_i f rs e
    exact ⟨rs, by rw [e]; unfold recF; rw [e]⟩
  · cases h
def clsA (K : PySem.W.Frag) (c : Addr) (m : Str) : Addr := match PySem.W.findCls K (.ref c) (.type "type") m with
  | some (.get _ (.ref a) _ _) => a
  | _ => 0
def clsB (K : PySem.W.Frag) (c : Addr) (m : Str) (g : String) : Bool := match PySem.W.findCls K (.ref c) (.type "type") m with
  | some (.get (.builtin b) (.ref _) .none (.ref c')) => decide (b = g) && decide (c' = c)
  | _ => false
theorem cls_ok {K : PySem.W.Frag} {c : Addr} {m : Str} {g : String} (h : clsB K c m g = true) : PySem.W.findCls K (.ref c) (.type "type") m = some (.get (.builtin g) (.ref (clsA K c m)) .none (.ref c)) := by
  unfold clsB at h
  split at h
  · rename_i b a c' e
    rw [Bool.and_eq_true] at h
    have e1 := of_decide_eq_true h.1
    have e2 := of_decide_eq_true h.2
    subst e1 e2
    rw [e]
    unfold clsA
    rw [e]
  · cases h
def excB (K : PySem.W.Frag) (C : Addr) : Bool := match K.lookup C with
  | some ⟨.type "type", _, .cls cd, sl⟩ => (match cd.mro, sl.toList with
    | .ref C' :: bm, [_, _, _, _, some (.builtin n), _] => decide (C' = C) && (decide (n = "ValueError.__new__") && ((!cd.hasDel) && (cd.hasDict && PySem.HandSPX.refsVE bm)))
    | _, _ => false)
  | _ => false
theorem exc_ok {K : PySem.W.Frag} {C : Addr} (h : excB K C = true) : ∃ (nm q : Str) (N : Addr) (bs bm : List Value) (sn : List Str) (sub : List Value) (ab : Bool) (col : Option Bool) (dd : Option Addr) (m0 m1 m2 m3 m5 : Option Value),
    K.lookup C = some (excClassObj nm q C N bs bm true sn sub ab col dd m0 m1 m2 m3 m5 "ValueError.__new__") ∧ PySem.HandSPX.refsVE bm = true := by
  unfold excB at h
  split at h
  · rename_i dd cd sl ho
    split at h
    · rename_i C' bm k0 k1 k2 k3 n k5 hm hs
      simp only [Bool.and_eq_true, Bool.not_eq_true'] at h
      obtain ⟨h1, h2, h3, h4, h5⟩ := h
      have e1 := of_decide_eq_true h1
      have e2 := of_decide_eq_true h2
      obtain ⟨nm, bs, mro, ns, qn, hd, sn, sub, ab, col, del⟩ := cd
      dsimp only at hm h3 h4
      subst hm h3 h4 e1 e2
      obtain ⟨l⟩ := sl
      dsimp only at hs
      subst hs
      exact ⟨nm, qn, ns, bs, bm, sn, sub, ab, col, dd, k0, k1, k2, k3, k5, ho, h5⟩
    · cases h
  · cases h
/-! ### the look -/
abbrev Al : Type := Bool × List He5.FnW
def obsK (ex : PySem.W.Frag → List Bool) (fn : List He5.DefA) (K : PySem.W.Frag) : Al := ((ex K).all id && fn.all fun d => d.ok K, fn.map fun d => He5.fnA K (d.at_ K))
def valK (fn : List He5.DefA) : Al := (true, fn.map He5.DefA.val)
def Says (ex : PySem.W.Frag → List Bool) (fn : List He5.DefA) (K : PySem.W.Frag) : Prop := obsK ex fn K = valK fn
def obsH (as : List Addr) (ex : PySem.W.Frag → List Bool) (fn : List He5.DefA) (g : Addr → Option Obj) : Al := obsK ex fn (He.frG g as)
def hook (as : List Addr) (ex : PySem.W.Frag → List Bool) (fn : List He5.DefA) : PySem.W.Hook where
  α := Al
  obs := fun s => obsH as ex fn s.heap.get?
  val := fun _ => valK fn
  says := fun _ h => ∃ K : PySem.W.Frag, K.In h ∧ Says ex fn K
  of := fun _ _ e => ⟨_, He.frG_in, e⟩
  keeps := fun _ _ _ ⟨K, hK, c⟩ k => ⟨K, PySem.W.Frag.In.keeps hK k, c⟩
theorem obsH_eq {as : List Addr} {ex : PySem.W.Frag → List Bool} {fn : List He5.DefA} {g : Addr → Option Obj} {s : Shared} (h : ∀ a, g a = s.heap.get? a) : obsH as ex fn g = (hook as ex fn).obs s := by
  have e : g = s.heap.get? := funext h
  rw [e] <;> rfl
section
variable {ex : PySem.W.Frag → List Bool} {fn : List He5.DefA} {K : PySem.W.Frag}
theorem Says.parts (c : Says ex fn K) : (∀ b ∈ ex K, b = true) ∧ ∀ d ∈ fn, d.ok K = true := by
  have c1 : ((ex K).all id && fn.all fun d => d.ok K) = true := congrArg (fun z : Al => z.1) c
  rw [Bool.and_eq_true, List.all_eq_true, List.all_eq_true] at c1
  exact c1
theorem Says.fact (c : Says ex fn K) (i : Nat) {b : Bool} (h : (ex K)[i]? = some b) : b = true := c.parts.1 b (List.mem_of_getElem? h)
theorem Says.def_ (c : Says ex fn K) (i : Nat) {d : He5.DefA} (h : fn[i]? = some d) : ∃ fd, FunD K d.name d.qual d.params d.body d.scope (d.dvs K) (d.kws K) (d.at_ K) fd := by
  have e : fn.map (fun d => He5.fnA K (d.at_ K)) = fn.map He5.DefA.val := congrArg (fun z : Al => z.2) c
  have e2 := congrArg (fun l => l[i]?) e
  rw [List.getElem?_map, List.getElem?_map, h] at e2
  exact He5.DefA.funD (Option.some.inj e2) (c.parts.2 d (List.mem_of_getElem? h))
end
end Hz
end
namespace My
open PySem L2
def top (i : Nat) : Stmt := PySem.Challenge.pw_unkeptlines_k07_whole_nets_refused.main.body.getD i (.Pass ⟨0, 0, 0, 0⟩)
abbrev s_NoPart_init : Stmt := inClass (top 3) 0
abbrev s_NoNet_init : Stmt := inClass (top 4) 0
abbrev s_is_integer : Stmt := top 13
abbrev s_is_within : Stmt := top 14
abbrev s_is_name : Stmt := top 15
abbrev s_is_step : Stmt := top 24
abbrev s_is_memory_step : Stmt := top 25
abbrev s_concerns_signal : Stmt := top 26
abbrev s_check_agent : Stmt := top 30
abbrev s_Agent_init : Stmt := inClass (top 31) 2
abbrev s_Agent_made : Stmt := inClass (top 31) 3
abbrev s_Through_init : Stmt := inClass (top 32) 2
abbrev s_Through_made : Stmt := inClass (top 32) 3
abbrev s_Back_init : Stmt := inClass (top 33) 2
abbrev s_Back_made : Stmt := inClass (top 33) 3
abbrev s_Signal_init : Stmt := inClass (top 36) 0
abbrev s_Variable_init : Stmt := inClass (top 41) 0
abbrev s_Variable_made : Stmt := inClass (top 41) 1
abbrev s_check_addresses : Stmt := top 42
abbrev s_check_slots_apart : Stmt := top 43
abbrev s_Net_init : Stmt := inClass (top 49) 1
abbrev s_Net_made : Stmt := inClass (top 49) 2
abbrev s_check_parts : Stmt := top 50
abbrev s_check_many : Stmt := top 51
abbrev s_check_names : Stmt := top 52
abbrev s_check_bytes : Stmt := top 53
abbrev s_check_steps : Stmt := top 54
abbrev s_check_signals : Stmt := top 55
abbrev s_pen : Stmt := top 57
abbrev s_draw : Stmt := top 58
abbrev s_thing : Stmt := top 59
abbrev s_steps : Stmt := top 60
abbrev s_items : Stmt := top 61
abbrev s_shuffled : Stmt := top 62
abbrev s_part : Stmt := top 63
abbrev s_within : Stmt := top 64
abbrev s_free : Stmt := top 65
abbrev s_changed : Stmt := top 66
abbrev s_spoiled : Stmt := top 67
abbrev s_parts_wrong : Stmt := top 68
abbrev s_variables_wrong : Stmt := top 69
abbrev s_steps_wrong : Stmt := top 70
abbrev s_wanted : Stmt := top 71
abbrev s_direct : Stmt := top 72
abbrev s_asked : Stmt := top 73
abbrev s_right : Stmt := top 74
abbrev s_round : Stmt := top 75
abbrev s_law : Stmt := top 76
theorem sc_NoPart_init : FnScope ["self", "reason", "place"] ["self", "reason", "place"] (defScope s_NoPart_init) := ⟨rfl, rfl, rfl, by decide +kernel, rfl, by decide +kernel, by decide +kernel⟩
theorem sc_NoNet_init : FnScope ["self", "reason", "place"] ["self", "reason", "place"] (defScope s_NoNet_init) := ⟨rfl, rfl, rfl, by decide +kernel, rfl, by decide +kernel, by decide +kernel⟩
theorem sc_is_integer : FnScope ["value"] ["value"] (defScope s_is_integer) := ⟨rfl, rfl, rfl, by decide +kernel, rfl, by decide +kernel, by decide +kernel⟩
theorem sc_is_within : FnScope ["value", "low", "high"] ["value", "low", "high"] (defScope s_is_within) := ⟨rfl, rfl, rfl, by decide +kernel, rfl, by decide +kernel, by decide +kernel⟩
theorem sc_is_name : FnScope ["value", "sign"] ["value"] (defScope s_is_name) := ⟨rfl, rfl, rfl, by decide +kernel, rfl, by decide +kernel, by decide +kernel⟩
theorem sc_is_step : FnScope ["value"] ["value"] (defScope s_is_step) := ⟨rfl, rfl, rfl, by decide +kernel, rfl, by decide +kernel, by decide +kernel⟩
theorem sc_is_memory_step : FnScope ["value", "word", "variable", "shift", "first", "last"] ["value"] (defScope s_is_memory_step) := ⟨rfl, rfl, rfl, by decide +kernel, rfl, by decide +kernel, by decide +kernel⟩
theorem sc_concerns_signal : FnScope ["step"] ["step"] (defScope s_concerns_signal) := ⟨rfl, rfl, rfl, by decide +kernel, rfl, by decide +kernel, by decide +kernel⟩
theorem sc_check_agent : FnScope ["name", "steps", "words", "k", "step"] ["name", "steps", "words"] (defScope s_check_agent) := ⟨rfl, rfl, rfl, by decide +kernel, rfl, by decide +kernel, by decide +kernel⟩
theorem sc_Agent_init : FnScope ["self", "name", "steps"] ["self", "name", "steps"] (defScope s_Agent_init) := ⟨rfl, rfl, rfl, by decide +kernel, rfl, by decide +kernel, by decide +kernel⟩
theorem sc_Agent_made : FnScope ["cls", "name", "steps"] ["cls", "name", "steps"] (defScope s_Agent_made) := ⟨rfl, rfl, rfl, by decide +kernel, rfl, by decide +kernel, by decide +kernel⟩
theorem sc_Through_init : FnScope ["self", "name", "steps"] ["self", "name", "steps"] (defScope s_Through_init) := ⟨rfl, rfl, rfl, by decide +kernel, rfl, by decide +kernel, by decide +kernel⟩
theorem sc_Through_made : FnScope ["cls", "name", "steps"] ["cls", "name", "steps"] (defScope s_Through_made) := ⟨rfl, rfl, rfl, by decide +kernel, rfl, by decide +kernel, by decide +kernel⟩
theorem sc_Back_init : FnScope ["self", "name", "steps"] ["self", "name", "steps"] (defScope s_Back_init) := ⟨rfl, rfl, rfl, by decide +kernel, rfl, by decide +kernel, by decide +kernel⟩
theorem sc_Back_made : FnScope ["cls", "name", "steps"] ["cls", "name", "steps"] (defScope s_Back_made) := ⟨rfl, rfl, rfl, by decide +kernel, rfl, by decide +kernel, by decide +kernel⟩
theorem sc_Signal_init : FnScope ["self", "name", "tokens"] ["self", "name", "tokens"] (defScope s_Signal_init) := ⟨rfl, rfl, rfl, by decide +kernel, rfl, by decide +kernel, by decide +kernel⟩
theorem sc_Variable_init : FnScope ["self", "name", "size", "at"] ["self", "name", "size", "at"] (defScope s_Variable_init) := ⟨rfl, rfl, rfl, by decide +kernel, rfl, by decide +kernel, by decide +kernel⟩
theorem sc_Variable_made : FnScope ["cls", "name", "size", "at"] ["cls", "name", "size", "at"] (defScope s_Variable_made) := ⟨rfl, rfl, rfl, by decide +kernel, rfl, by decide +kernel, by decide +kernel⟩
theorem sc_check_addresses : FnScope ["size", "at", "k", "address"] ["size", "at"] (defScope s_check_addresses) := ⟨rfl, rfl, rfl, by decide +kernel, rfl, by decide +kernel, by decide +kernel⟩
theorem sc_check_slots_apart : FnScope ["size", "at", "k", "address", "earlier"] ["size", "at"] (defScope s_check_slots_apart) := ⟨rfl, rfl, rfl, by decide +kernel, rfl, by decide +kernel, by decide +kernel⟩
theorem sc_Net_init : FnScope ["self", "line", "ring", "parts", "part"] ["self", "line", "ring", "parts"] (defScope s_Net_init) := ⟨rfl, rfl, rfl, by decide +kernel, rfl, by decide +kernel, by decide +kernel⟩
theorem sc_Net_made : FnScope ["cls", "parts", "line", "ring"] ["cls", "parts", "line", "ring"] (defScope s_Net_made) := ⟨rfl, rfl, rfl, by decide +kernel, rfl, by decide +kernel, by decide +kernel⟩
theorem sc_check_parts : FnScope ["parts", "ring", "k", "part", "agents"] ["parts", "ring"] (defScope s_check_parts) := ⟨rfl, rfl, rfl, by decide +kernel, rfl, by decide +kernel, by decide +kernel⟩
theorem sc_check_many : FnScope ["parts", "agents", "variables", "signals", "k", "part"] ["parts"] (defScope s_check_many) := ⟨rfl, rfl, rfl, by decide +kernel, rfl, by decide +kernel, by decide +kernel⟩
theorem sc_check_names : FnScope ["parts", "names", "part", "k", "name"] ["parts"] (defScope s_check_names) := ⟨rfl, rfl, rfl, by decide +kernel, rfl, by decide +kernel, by decide +kernel⟩
theorem sc_check_bytes : FnScope ["parts", "taken", "k", "part", "own", "address", "more"] ["parts"] (defScope s_check_bytes) := ⟨rfl, rfl, rfl, by decide +kernel, rfl, by decide +kernel, by decide +kernel⟩
theorem sc_check_steps : FnScope ["parts", "agents", "sizes", "part", "signals", "a", "agent", "s", "step", "name", "fits"] ["parts", "agents"] (defScope s_check_steps) := ⟨rfl, rfl, rfl, by decide +kernel, rfl, by decide +kernel, by decide +kernel⟩
theorem sc_check_signals : FnScope ["parts", "agents", "steps", "agent", "step", "k", "part", "posts", "waits"] ["parts", "agents"] (defScope s_check_signals) := ⟨rfl, rfl, rfl, by decide +kernel, rfl, by decide +kernel, by decide +kernel⟩
theorem sc_pen : FnScope ["_law_script"] ["_law_script"] (defScope s_pen) := ⟨rfl, rfl, rfl, by decide +kernel, rfl, by decide +kernel, by decide +kernel⟩
theorem sc_draw : FnScope ["_law_pen_here", "_law_many", "_law_digit", "_law_begun", "_law_cell", "_law_great", "_law_mixed"] ["_law_pen_here", "_law_many"] (defScope s_draw) := ⟨rfl, rfl, rfl, by decide +kernel, rfl, by decide +kernel, by decide +kernel⟩
theorem sc_thing : FnScope ["_law_pen_here", "_law_some"] ["_law_pen_here"] (defScope s_thing) := ⟨rfl, rfl, rfl, by decide +kernel, rfl, by decide +kernel, by decide +kernel⟩
theorem sc_steps : FnScope ["_law_pen_here", "_law_kind", "_law_variables_here", "_law_signalled", "_law_found", "_law_k", "_law_words", "_law_word", "_law_chosen", "_law_first", "_law_step", "_law_spot"] ["_law_pen_here", "_law_kind", "_law_variables_here", "_law_signalled"] (defScope s_steps) := ⟨rfl, rfl, rfl, by decide +kernel, rfl, by decide +kernel, by decide +kernel⟩
theorem sc_items : FnScope ["_law_pen_here", "_law_slots_here", "_law_items_here", "_law_free_here", "_law_k", "_law_big", "_law_spots", "_law_j", "_law_variables_here", "_law_many", "_law_signalled", "_law_kind"] ["_law_pen_here", "_law_slots_here"] (defScope s_items) := ⟨rfl, rfl, rfl, by decide +kernel, rfl, by decide +kernel, by decide +kernel⟩
theorem sc_shuffled : FnScope ["_law_pen_here", "_law_items_here", "_law_found", "_law_item", "_law_spot"] ["_law_pen_here", "_law_items_here"] (defScope s_shuffled) := ⟨rfl, rfl, rfl, by decide +kernel, rfl, by decide +kernel, by decide +kernel⟩
theorem sc_part : FnScope ["_law_item"] ["_law_item"] (defScope s_part) := ⟨rfl, rfl, rfl, by decide +kernel, rfl, by decide +kernel, by decide +kernel⟩
theorem sc_within : FnScope ["_law_value", "_law_least", "_law_greatest"] ["_law_value", "_law_least", "_law_greatest"] (defScope s_within) := ⟨rfl, rfl, rfl, by decide +kernel, rfl, by decide +kernel, by decide +kernel⟩
theorem sc_free : FnScope ["_law_pen_here", "_law_own", "_law_found", "_law_spot", "_law_one"] ["_law_pen_here", "_law_own"] (defScope s_free) := ⟨rfl, rfl, rfl, by decide +kernel, rfl, by decide +kernel, by decide +kernel⟩
theorem sc_changed : FnScope ["_law_pen_here", "_law_item", "_law_others", "_law_choice", "_law_names_here", "_law_other", "_law_beyond", "_law_spot", "_law_moved_to", "_law_spots", "_law_steps_here", "_law_step"] ["_law_pen_here", "_law_item", "_law_others"] (defScope s_changed) := ⟨rfl, rfl, rfl, by decide +kernel, rfl, by decide +kernel, by decide +kernel⟩
theorem sc_spoiled : FnScope ["_law_pen_here", "_law_items_here", "_law_choice", "_law_spot", "_law_word", "_law_more", "_law_k", "_law_some"] ["_law_pen_here", "_law_items_here"] (defScope s_spoiled) := ⟨rfl, rfl, rfl, by decide +kernel, rfl, by decide +kernel, by decide +kernel⟩
theorem sc_parts_wrong : FnScope ["_law_items_here", "_law_k", "_law_words", "_law_item"] ["_law_items_here"] (defScope s_parts_wrong) := ⟨rfl, rfl, rfl, by decide +kernel, rfl, by decide +kernel, by decide +kernel⟩
theorem sc_variables_wrong : FnScope ["_law_items_here", "_law_slots_here", "_law_k", "_law_taken", "_law_mine", "_law_spot", "_law_j"] ["_law_items_here", "_law_slots_here"] (defScope s_variables_wrong) := ⟨rfl, rfl, rfl, by decide +kernel, rfl, by decide +kernel, by decide +kernel⟩
theorem sc_steps_wrong : FnScope ["_law_items_here", "_law_sizes", "_law_item", "_law_signals_here", "_law_agents_here", "_law_counts", "_law_a", "_law_s", "_law_step", "_law_k"] ["_law_items_here"] (defScope s_steps_wrong) := ⟨rfl, rfl, rfl, by decide +kernel, rfl, by decide +kernel, by decide +kernel⟩
theorem sc_wanted : FnScope ["_law_items_here", "_law_width", "_law_slots_here", "_law_wrong"] ["_law_items_here", "_law_width", "_law_slots_here"] (defScope s_wanted) := ⟨rfl, rfl, rfl, by decide +kernel, rfl, by decide +kernel, by decide +kernel⟩
theorem sc_direct : FnScope ["_law_handed", "_law_width", "_law_slots_here"] ["_law_handed", "_law_width", "_law_slots_here"] (defScope s_direct) := ⟨rfl, rfl, rfl, by decide +kernel, rfl, by decide +kernel, by decide +kernel⟩
theorem sc_asked : FnScope ["_law_handed", "_law_width", "_law_slots_here", "_law_direct_here", "_law_found", "e"] ["_law_handed", "_law_width", "_law_slots_here", "_law_direct_here"] (defScope s_asked) := ⟨rfl, rfl, rfl, by decide +kernel, rfl, by decide +kernel, by decide +kernel⟩
theorem sc_right : FnScope ["_law_found", "_law_wanted_here", "_law_items_here", "_law_handed", "_law_width", "_law_slots_here", "_law_words", "_law_item", "_law_k"] ["_law_found", "_law_wanted_here", "_law_items_here", "_law_handed", "_law_width", "_law_slots_here"] (defScope s_right) := ⟨rfl, rfl, rfl, by decide +kernel, rfl, by decide +kernel, by decide +kernel⟩
theorem sc_round : FnScope ["_law_pen_here", "_law_slots_here", "_law_width", "_law_items_here", "_law_k", "_law_choice", "_law_handed", "_law_item", "_law_kept", "_law_wanted_here", "_law_direct_here", "_law_found"] ["_law_pen_here"] (defScope s_round) := ⟨rfl, rfl, rfl, by decide +kernel, rfl, by decide +kernel, by decide +kernel⟩
theorem sc_law : FnScope ["_law_script", "_law_pen_here", "_law_k"] ["_law_script"] (defScope s_law) := ⟨rfl, rfl, rfl, by decide +kernel, rfl, by decide +kernel, by decide +kernel⟩
end My
namespace My
open PySem PySem.Spec PyProof.Rows L2
def zf_NoPart_init (K : PySem.W.Frag) : Addr := He.ma K (He.ga K "NoPart") "__init__"
def zf_NoNet_init (K : PySem.W.Frag) : Addr := He.ma K (He.ga K "NoNet") "__init__"
def zf_is_integer (K : PySem.W.Frag) : Addr := He.ga K "is_integer"
def zf_is_within (K : PySem.W.Frag) : Addr := He.ga K "is_within"
def zf_is_name (K : PySem.W.Frag) : Addr := He.ga K "is_name"
def zf_is_step (K : PySem.W.Frag) : Addr := He.ga K "is_step"
def zf_is_memory_step (K : PySem.W.Frag) : Addr := He.ga K "_is_memory_step"
def zf_concerns_signal (K : PySem.W.Frag) : Addr := He.ga K "concerns_signal"
def zf_check_agent (K : PySem.W.Frag) : Addr := He.ga K "_check_agent"
def zf_Agent_init (K : PySem.W.Frag) : Addr := He.ma K (He.ga K "Agent") "__init__"
def zf_Agent_made (K : PySem.W.Frag) : Addr := Hz.recF K (Hz.clsA K (He.ga K "Agent") "made") "classmethod"
def zf_Through_init (K : PySem.W.Frag) : Addr := He.ma K (He.ga K "Through") "__init__"
def zf_Through_made (K : PySem.W.Frag) : Addr := Hz.recF K (Hz.clsA K (He.ga K "Through") "made") "classmethod"
def zf_Back_init (K : PySem.W.Frag) : Addr := He.ma K (He.ga K "Back") "__init__"
def zf_Back_made (K : PySem.W.Frag) : Addr := Hz.recF K (Hz.clsA K (He.ga K "Back") "made") "classmethod"
def zf_Signal_init (K : PySem.W.Frag) : Addr := He.ma K (He.ga K "Signal") "__init__"
def zf_Variable_init (K : PySem.W.Frag) : Addr := He.ma K (He.ga K "Variable") "__init__"
def zf_Variable_made (K : PySem.W.Frag) : Addr := Hz.recF K (Hz.clsA K (He.ga K "Variable") "made") "classmethod"
def zf_check_addresses (K : PySem.W.Frag) : Addr := He.ga K "_check_addresses"
def zf_check_slots_apart (K : PySem.W.Frag) : Addr := He.ga K "_check_slots_apart"
def zf_Net_init (K : PySem.W.Frag) : Addr := He.ma K (He.ga K "Net") "__init__"
def zf_Net_made (K : PySem.W.Frag) : Addr := Hz.recF K (Hz.clsA K (He.ga K "Net") "made") "classmethod"
def zf_check_parts (K : PySem.W.Frag) : Addr := He.ga K "_check_parts"
def zf_check_many (K : PySem.W.Frag) : Addr := He.ga K "_check_many"
def zf_check_names (K : PySem.W.Frag) : Addr := He.ga K "_check_names"
def zf_check_bytes (K : PySem.W.Frag) : Addr := He.ga K "_check_bytes"
def zf_check_steps (K : PySem.W.Frag) : Addr := He.ga K "_check_steps"
def zf_check_signals (K : PySem.W.Frag) : Addr := He.ga K "_check_signals"
def zf_pen (K : PySem.W.Frag) : Addr := He.ga K "_law_pen"
def zf_draw (K : PySem.W.Frag) : Addr := He.ga K "_law_draw"
def zf_thing (K : PySem.W.Frag) : Addr := He.ga K "_law_thing"
def zf_steps (K : PySem.W.Frag) : Addr := He.ga K "_law_steps"
def zf_items (K : PySem.W.Frag) : Addr := He.ga K "_law_items"
def zf_shuffled (K : PySem.W.Frag) : Addr := He.ga K "_law_shuffled"
def zf_part (K : PySem.W.Frag) : Addr := He.ga K "_law_part"
def zf_within (K : PySem.W.Frag) : Addr := He.ga K "_law_within"
def zf_free (K : PySem.W.Frag) : Addr := He.ga K "_law_free"
def zf_changed (K : PySem.W.Frag) : Addr := He.ga K "_law_changed"
def zf_spoiled (K : PySem.W.Frag) : Addr := He.ga K "_law_spoiled"
def zf_parts_wrong (K : PySem.W.Frag) : Addr := He.ga K "_law_parts_wrong"
def zf_variables_wrong (K : PySem.W.Frag) : Addr := He.ga K "_law_variables_wrong"
def zf_steps_wrong (K : PySem.W.Frag) : Addr := He.ga K "_law_steps_wrong"
def zf_wanted (K : PySem.W.Frag) : Addr := He.ga K "_law_wanted"
def zf_direct (K : PySem.W.Frag) : Addr := He.ga K "_law_direct"
def zf_asked (K : PySem.W.Frag) : Addr := He.ga K "_law_asked"
def zf_right (K : PySem.W.Frag) : Addr := He.ga K "_law_right"
def zf_round (K : PySem.W.Frag) : Addr := He.ga K "_law_round"
def zf_law (K : PySem.W.Frag) : Addr := He.ga K "law"
def zd_NoPart_init : He5.DefA := ⟨zf_NoPart_init, "__init__", "NoPart.__init__", defArgs s_NoPart_init, defBody s_NoPart_init, defScope s_NoPart_init, [], []⟩
def zd_NoNet_init : He5.DefA := ⟨zf_NoNet_init, "__init__", "NoNet.__init__", defArgs s_NoNet_init, defBody s_NoNet_init, defScope s_NoNet_init, [], []⟩
def zd_is_integer : He5.DefA := ⟨zf_is_integer, "is_integer", "is_integer", defArgs s_is_integer, defBody s_is_integer, defScope s_is_integer, [], []⟩
def zd_is_within : He5.DefA := ⟨zf_is_within, "is_within", "is_within", defArgs s_is_within, defBody s_is_within, defScope s_is_within, [], []⟩
def zd_is_name : He5.DefA := ⟨zf_is_name, "is_name", "is_name", defArgs s_is_name, defBody s_is_name, defScope s_is_name, [], []⟩
def zd_is_step : He5.DefA := ⟨zf_is_step, "is_step", "is_step", defArgs s_is_step, defBody s_is_step, defScope s_is_step, [], []⟩
def zd_is_memory_step : He5.DefA := ⟨zf_is_memory_step, "_is_memory_step", "_is_memory_step", defArgs s_is_memory_step, defBody s_is_memory_step, defScope s_is_memory_step, [], []⟩
def zd_concerns_signal : He5.DefA := ⟨zf_concerns_signal, "concerns_signal", "concerns_signal", defArgs s_concerns_signal, defBody s_concerns_signal, defScope s_concerns_signal, [], []⟩
def zd_check_agent : He5.DefA := ⟨zf_check_agent, "_check_agent", "_check_agent", defArgs s_check_agent, defBody s_check_agent, defScope s_check_agent, [], []⟩
def zd_Agent_init : He5.DefA := ⟨zf_Agent_init, "__init__", "Agent.__init__", defArgs s_Agent_init, defBody s_Agent_init, defScope s_Agent_init, [], []⟩
def zd_Agent_made : He5.DefA := ⟨zf_Agent_made, "made", "Agent.made", defArgs s_Agent_made, defBody s_Agent_made, defScope s_Agent_made, [], []⟩
def zd_Through_init : He5.DefA := ⟨zf_Through_init, "__init__", "Through.__init__", defArgs s_Through_init, defBody s_Through_init, defScope s_Through_init, [], []⟩
def zd_Through_made : He5.DefA := ⟨zf_Through_made, "made", "Through.made", defArgs s_Through_made, defBody s_Through_made, defScope s_Through_made, [], []⟩
def zd_Back_init : He5.DefA := ⟨zf_Back_init, "__init__", "Back.__init__", defArgs s_Back_init, defBody s_Back_init, defScope s_Back_init, [], []⟩
def zd_Back_made : He5.DefA := ⟨zf_Back_made, "made", "Back.made", defArgs s_Back_made, defBody s_Back_made, defScope s_Back_made, [], []⟩
def zd_Signal_init : He5.DefA := ⟨zf_Signal_init, "__init__", "Signal.__init__", defArgs s_Signal_init, defBody s_Signal_init, defScope s_Signal_init, [.int 0], []⟩
def zd_Variable_init : He5.DefA := ⟨zf_Variable_init, "__init__", "Variable.__init__", defArgs s_Variable_init, defBody s_Variable_init, defScope s_Variable_init, [], []⟩
def zd_Variable_made : He5.DefA := ⟨zf_Variable_made, "made", "Variable.made", defArgs s_Variable_made, defBody s_Variable_made, defScope s_Variable_made, [], []⟩
def zd_check_addresses : He5.DefA := ⟨zf_check_addresses, "_check_addresses", "_check_addresses", defArgs s_check_addresses, defBody s_check_addresses, defScope s_check_addresses, [], []⟩
def zd_check_slots_apart : He5.DefA := ⟨zf_check_slots_apart, "_check_slots_apart", "_check_slots_apart", defArgs s_check_slots_apart, defBody s_check_slots_apart, defScope s_check_slots_apart, [], []⟩
def zd_Net_init : He5.DefA := ⟨zf_Net_init, "__init__", "Net.__init__", defArgs s_Net_init, defBody s_Net_init, defScope s_Net_init, [], [("line", .int 8), ("ring", .int 1)]⟩
def zd_Net_made : He5.DefA := ⟨zf_Net_made, "made", "Net.made", defArgs s_Net_made, defBody s_Net_made, defScope s_Net_made, [], [("line", .int 8), ("ring", .int 1)]⟩
def zd_check_parts : He5.DefA := ⟨zf_check_parts, "_check_parts", "_check_parts", defArgs s_check_parts, defBody s_check_parts, defScope s_check_parts, [], []⟩
def zd_check_many : He5.DefA := ⟨zf_check_many, "_check_many", "_check_many", defArgs s_check_many, defBody s_check_many, defScope s_check_many, [], []⟩
def zd_check_names : He5.DefA := ⟨zf_check_names, "_check_names", "_check_names", defArgs s_check_names, defBody s_check_names, defScope s_check_names, [], []⟩
def zd_check_bytes : He5.DefA := ⟨zf_check_bytes, "_check_bytes", "_check_bytes", defArgs s_check_bytes, defBody s_check_bytes, defScope s_check_bytes, [], []⟩
def zd_check_steps : He5.DefA := ⟨zf_check_steps, "_check_steps", "_check_steps", defArgs s_check_steps, defBody s_check_steps, defScope s_check_steps, [], []⟩
def zd_check_signals : He5.DefA := ⟨zf_check_signals, "_check_signals", "_check_signals", defArgs s_check_signals, defBody s_check_signals, defScope s_check_signals, [], []⟩
def zd_pen : He5.DefA := ⟨zf_pen, "_law_pen", "_law_pen", defArgs s_pen, defBody s_pen, defScope s_pen, [], []⟩
def zd_draw : He5.DefA := ⟨zf_draw, "_law_draw", "_law_draw", defArgs s_draw, defBody s_draw, defScope s_draw, [], []⟩
def zd_thing : He5.DefA := ⟨zf_thing, "_law_thing", "_law_thing", defArgs s_thing, defBody s_thing, defScope s_thing, [], []⟩
def zd_steps : He5.DefA := ⟨zf_steps, "_law_steps", "_law_steps", defArgs s_steps, defBody s_steps, defScope s_steps, [], []⟩
def zd_items : He5.DefA := ⟨zf_items, "_law_items", "_law_items", defArgs s_items, defBody s_items, defScope s_items, [], []⟩
def zd_shuffled : He5.DefA := ⟨zf_shuffled, "_law_shuffled", "_law_shuffled", defArgs s_shuffled, defBody s_shuffled, defScope s_shuffled, [], []⟩
def zd_part : He5.DefA := ⟨zf_part, "_law_part", "_law_part", defArgs s_part, defBody s_part, defScope s_part, [], []⟩
def zd_within : He5.DefA := ⟨zf_within, "_law_within", "_law_within", defArgs s_within, defBody s_within, defScope s_within, [], []⟩
def zd_free : He5.DefA := ⟨zf_free, "_law_free", "_law_free", defArgs s_free, defBody s_free, defScope s_free, [], []⟩
def zd_changed : He5.DefA := ⟨zf_changed, "_law_changed", "_law_changed", defArgs s_changed, defBody s_changed, defScope s_changed, [], []⟩
def zd_spoiled : He5.DefA := ⟨zf_spoiled, "_law_spoiled", "_law_spoiled", defArgs s_spoiled, defBody s_spoiled, defScope s_spoiled, [], []⟩
def zd_parts_wrong : He5.DefA := ⟨zf_parts_wrong, "_law_parts_wrong", "_law_parts_wrong", defArgs s_parts_wrong, defBody s_parts_wrong, defScope s_parts_wrong, [], []⟩
def zd_variables_wrong : He5.DefA := ⟨zf_variables_wrong, "_law_variables_wrong", "_law_variables_wrong", defArgs s_variables_wrong, defBody s_variables_wrong, defScope s_variables_wrong, [], []⟩
def zd_steps_wrong : He5.DefA := ⟨zf_steps_wrong, "_law_steps_wrong", "_law_steps_wrong", defArgs s_steps_wrong, defBody s_steps_wrong, defScope s_steps_wrong, [], []⟩
def zd_wanted : He5.DefA := ⟨zf_wanted, "_law_wanted", "_law_wanted", defArgs s_wanted, defBody s_wanted, defScope s_wanted, [], []⟩
def zd_direct : He5.DefA := ⟨zf_direct, "_law_direct", "_law_direct", defArgs s_direct, defBody s_direct, defScope s_direct, [], []⟩
def zd_asked : He5.DefA := ⟨zf_asked, "_law_asked", "_law_asked", defArgs s_asked, defBody s_asked, defScope s_asked, [], []⟩
def zd_right : He5.DefA := ⟨zf_right, "_law_right", "_law_right", defArgs s_right, defBody s_right, defScope s_right, [], []⟩
def zd_round : He5.DefA := ⟨zf_round, "_law_round", "_law_round", defArgs s_round, defBody s_round, defScope s_round, [], []⟩
def zd_law : He5.DefA := ⟨zf_law, "law", "law", defArgs s_law, defBody s_law, defScope s_law, [], []⟩
def zex (K : PySem.W.Frag) : List Bool :=
  [Hz.clsB K (He.ga K "Agent") "made" "classmethod.__get__",
   Hz.recB K (Hz.clsA K (He.ga K "Agent") "made") "classmethod",
   Hz.clsB K (He.ga K "Through") "made" "classmethod.__get__",
   Hz.recB K (Hz.clsA K (He.ga K "Through") "made") "classmethod",
   Hz.clsB K (He.ga K "Back") "made" "classmethod.__get__",
   Hz.recB K (Hz.clsA K (He.ga K "Back") "made") "classmethod",
   Hz.clsB K (He.ga K "Variable") "made" "classmethod.__get__",
   Hz.recB K (Hz.clsA K (He.ga K "Variable") "made") "classmethod",
   Hz.clsB K (He.ga K "Net") "made" "classmethod.__get__",
   Hz.recB K (Hz.clsA K (He.ga K "Net") "made") "classmethod",
   Hz.isStr (PySem.W.nsIn K mainGlobals "LETTERS") "abcdefghijklmnopqrstuvwxyz",
   Hz.isInt (PySem.W.nsIn K mainGlobals "LONGEST_NAME") 8,
   Hz.tupA K (He.ga K "ACCESS_WORDS") [V.str "read", V.str "write", V.str "get", V.str "put"],
   Hz.tupA K (He.ga K "UPKEEP_WORDS") [V.str "clean", V.str "drop", V.str "flush"],
   Hz.tupA K (He.ga K "SIGNAL_WORDS") [V.str "post", V.str "wait"],
   Hz.tupA K (He.ga K "PLAIN_WORDS") [V.str "read", V.str "write", V.str "post", V.str "wait"],
   Hz.tupA K (He.ga K "CACHE_WORDS") [V.str "read", V.str "write", V.str "get", V.str "put", V.str "clean", V.str "drop", V.str "flush", V.str "post", V.str "wait"],
   Hz.isInt (PySem.W.nsIn K mainGlobals "GREATEST_SHIFT") 3,
   Hz.isInt (PySem.W.nsIn K mainGlobals "GREATEST_BYTE") 7,
   Hz.isInt (PySem.W.nsIn K mainGlobals "MOST_STEPS") 24,
   Hz.isInt (PySem.W.nsIn K mainGlobals "MOST_TOKENS") 3,
   Hz.isInt (PySem.W.nsIn K mainGlobals "GREATEST_SIZE") 8,
   Hz.isInt (PySem.W.nsIn K mainGlobals "MOST_SLOTS") 4,
   Hz.isInt (PySem.W.nsIn K mainGlobals "ADDRESSES") 1024,
   Hz.isInt (PySem.W.nsIn K mainGlobals "MOST_AGENTS") 4,
   Hz.isInt (PySem.W.nsIn K mainGlobals "MOST_VARIABLES") 6,
   Hz.isInt (PySem.W.nsIn K mainGlobals "MOST_SIGNALS") 6,
   Hz.isInt (PySem.W.nsIn K mainGlobals "LONGEST_RING") 4,
   Hz.tupA K (He.ma K (He.ga K "Net") "LINES") [.int 1, .int 2, .int 4, .int 8, .int 16],
   decide (PySem.W.nsIn K mainGlobals "UnkeptError" = some (some (.ref (He.ga K "UnkeptError")))),
   decide (PySem.W.nsIn K mainGlobals "NoPart" = some (some (.ref (He.ga K "NoPart")))),
   decide (PySem.W.nsIn K mainGlobals "NoNet" = some (some (.ref (He.ga K "NoNet")))),
   decide (PySem.W.nsIn K mainGlobals "NoName" = some (some (.ref (He.ga K "NoName")))),
   decide (PySem.W.nsIn K mainGlobals "NoStep" = some (some (.ref (He.ga K "NoStep")))),
   decide (PySem.W.nsIn K mainGlobals "NoDeed" = some (some (.ref (He.ga K "NoDeed")))),
   decide (PySem.W.nsIn K mainGlobals "NoText" = some (some (.ref (He.ga K "NoText")))),
   decide (PySem.W.nsIn K mainGlobals "NoRow" = some (some (.ref (He.ga K "NoRow")))),
   decide (PySem.W.nsIn K mainGlobals "Agent" = some (some (.ref (He.ga K "Agent")))),
   PySem.W.plainGet K (He.ga K "Agent") Str.empty,
   PySem.W.hasDictIn K (He.ga K "Agent"),
   PySem.W.plainOver K (He.ga K "Agent"),
   decide (PySem.W.findIn K (.ref (He.ga K "Agent")) "__setattr__" = some (some (.builtin "object.__setattr__"))),
   decide (PySem.W.findIn K (.ref (He.ga K "Agent")) "name" = some none),
   decide (PySem.W.findIn K (.ref (He.ga K "Agent")) "steps" = some none),
   PySem.W.makesIn K (He.ga K "Agent"),
   PySem.W.keepIn K (.ref (He.ga K "Agent")),
   decide (PySem.W.nsIn K mainGlobals "Through" = some (some (.ref (He.ga K "Through")))),
   PySem.W.plainGet K (He.ga K "Through") Str.empty,
   PySem.W.hasDictIn K (He.ga K "Through"),
   PySem.W.plainOver K (He.ga K "Through"),
   decide (PySem.W.findIn K (.ref (He.ga K "Through")) "__setattr__" = some (some (.builtin "object.__setattr__"))),
   decide (PySem.W.findIn K (.ref (He.ga K "Through")) "name" = some none),
   decide (PySem.W.findIn K (.ref (He.ga K "Through")) "steps" = some none),
   PySem.W.makesIn K (He.ga K "Through"),
   PySem.W.keepIn K (.ref (He.ga K "Through")),
   decide (PySem.W.nsIn K mainGlobals "Back" = some (some (.ref (He.ga K "Back")))),
   PySem.W.plainGet K (He.ga K "Back") Str.empty,
   PySem.W.hasDictIn K (He.ga K "Back"),
   PySem.W.plainOver K (He.ga K "Back"),
   decide (PySem.W.findIn K (.ref (He.ga K "Back")) "__setattr__" = some (some (.builtin "object.__setattr__"))),
   decide (PySem.W.findIn K (.ref (He.ga K "Back")) "name" = some none),
   decide (PySem.W.findIn K (.ref (He.ga K "Back")) "steps" = some none),
   PySem.W.makesIn K (He.ga K "Back"),
   PySem.W.keepIn K (.ref (He.ga K "Back")),
   decide (PySem.W.nsIn K mainGlobals "Variable" = some (some (.ref (He.ga K "Variable")))),
   PySem.W.plainGet K (He.ga K "Variable") Str.empty,
   PySem.W.hasDictIn K (He.ga K "Variable"),
   PySem.W.plainOver K (He.ga K "Variable"),
   decide (PySem.W.findIn K (.ref (He.ga K "Variable")) "__setattr__" = some (some (.builtin "object.__setattr__"))),
   decide (PySem.W.findIn K (.ref (He.ga K "Variable")) "name" = some none),
   decide (PySem.W.findIn K (.ref (He.ga K "Variable")) "size" = some none),
   decide (PySem.W.findIn K (.ref (He.ga K "Variable")) "at" = some none),
   PySem.W.makesIn K (He.ga K "Variable"),
   PySem.W.keepIn K (.ref (He.ga K "Variable")),
   decide (PySem.W.nsIn K mainGlobals "Signal" = some (some (.ref (He.ga K "Signal")))),
   PySem.W.plainGet K (He.ga K "Signal") Str.empty,
   PySem.W.hasDictIn K (He.ga K "Signal"),
   PySem.W.plainOver K (He.ga K "Signal"),
   decide (PySem.W.findIn K (.ref (He.ga K "Signal")) "__setattr__" = some (some (.builtin "object.__setattr__"))),
   decide (PySem.W.findIn K (.ref (He.ga K "Signal")) "name" = some none),
   decide (PySem.W.findIn K (.ref (He.ga K "Signal")) "tokens" = some none),
   PySem.W.makesIn K (He.ga K "Signal"),
   PySem.W.keepIn K (.ref (He.ga K "Signal")),
   decide (PySem.W.nsIn K mainGlobals "Net" = some (some (.ref (He.ga K "Net")))),
   PySem.W.plainGet K (He.ga K "Net") Str.empty,
   PySem.W.hasDictIn K (He.ga K "Net"),
   PySem.W.plainOver K (He.ga K "Net"),
   decide (PySem.W.findIn K (.ref (He.ga K "Net")) "__setattr__" = some (some (.builtin "object.__setattr__"))),
   decide (PySem.W.findIn K (.ref (He.ga K "Net")) "line" = some none),
   decide (PySem.W.findIn K (.ref (He.ga K "Net")) "ring" = some none),
   decide (PySem.W.findIn K (.ref (He.ga K "Net")) "variables" = some none),
   decide (PySem.W.findIn K (.ref (He.ga K "Net")) "signals" = some none),
   decide (PySem.W.findIn K (.ref (He.ga K "Net")) "agents" = some none),
   decide (PySem.W.findIn K (.ref (He.ga K "Net")) "_named" = some none),
   PySem.W.makesIn K (He.ga K "Net"),
   PySem.W.keepIn K (.ref (He.ga K "Net")),
   decide (PySem.W.specialIn K (.builtin "object.__class__") "__get__" = some (some (.builtin "getset_descriptor.__get__"))),
   decide (PySem.W.takesIn K (.builtin "object.__class__") = some true),
   decide (PySem.W.subIn K (.ref (He.ga K "UnkeptError")) (.type "BaseException") = some true),
   PySem.W.hasDictIn K (He.ga K "UnkeptError"),
   decide (PySem.W.typeIn K (.ref (He.ga K "UnkeptError")) = some (.type "type")),
   decide (PySem.W.mroIn K (He.ga K "NoPart") (.type "object") = some true),
   decide (PySem.W.typeIn K (.ref (He.ga K "NoPart")) = some (.type "type")),
   decide (PySem.W.subIn K (.ref (He.ga K "NoPart")) (.ref (He.ga K "NoPart")) = some true),
   Hz.excB K (He.ga K "NoPart"),
   decide (PySem.W.findIn K (.ref (He.ga K "NoPart")) "__setattr__" = some (some (.builtin "object.__setattr__"))),
   decide (PySem.W.findIn K (.ref (He.ga K "NoPart")) "__getattribute__" = some (some (.builtin "BaseException.__getattribute__"))),
   decide (PySem.W.findIn K (.ref (He.ga K "NoPart")) "__getattr__" = some none),
   decide (PySem.W.subIn K (.ref (He.ga K "NoPart")) (.type "BaseException") = some true),
   PySem.W.keepIn K (.ref (He.ga K "NoPart")),
   PySem.W.hasDictIn K (He.ga K "NoPart"),
   decide (PySem.W.findIn K (.ref (He.ga K "NoPart")) "__class__" = some (some (.builtin "object.__class__"))),
   decide (PySem.W.findIn K (.ref (He.ga K "NoPart")) "reason" = some none),
   decide (PySem.W.findIn K (.ref (He.ga K "NoPart")) "place" = some none),
   decide (PySem.W.subIn K (.ref (He.ga K "NoPart")) (.ref (He.ga K "UnkeptError")) = some true),
   decide (PySem.W.mroIn K (He.ga K "NoNet") (.type "object") = some true),
   decide (PySem.W.typeIn K (.ref (He.ga K "NoNet")) = some (.type "type")),
   decide (PySem.W.subIn K (.ref (He.ga K "NoNet")) (.ref (He.ga K "NoNet")) = some true),
   decide (PySem.W.mroIn K (He.ga K "NoName") (.type "object") = some true),
   decide (PySem.W.typeIn K (.ref (He.ga K "NoName")) = some (.type "type")),
   decide (PySem.W.subIn K (.ref (He.ga K "NoName")) (.ref (He.ga K "NoName")) = some true),
   decide (PySem.W.mroIn K (He.ga K "NoStep") (.type "object") = some true),
   decide (PySem.W.typeIn K (.ref (He.ga K "NoStep")) = some (.type "type")),
   decide (PySem.W.subIn K (.ref (He.ga K "NoStep")) (.ref (He.ga K "NoStep")) = some true),
   decide (PySem.W.mroIn K (He.ga K "NoDeed") (.type "object") = some true),
   decide (PySem.W.typeIn K (.ref (He.ga K "NoDeed")) = some (.type "type")),
   decide (PySem.W.subIn K (.ref (He.ga K "NoDeed")) (.ref (He.ga K "NoDeed")) = some true),
   decide (PySem.W.mroIn K (He.ga K "NoText") (.type "object") = some true),
   decide (PySem.W.typeIn K (.ref (He.ga K "NoText")) = some (.type "type")),
   decide (PySem.W.subIn K (.ref (He.ga K "NoText")) (.ref (He.ga K "NoText")) = some true),
   decide (PySem.W.mroIn K (He.ga K "NoRow") (.type "object") = some true),
   decide (PySem.W.typeIn K (.ref (He.ga K "NoRow")) = some (.type "type")),
   decide (PySem.W.subIn K (.ref (He.ga K "NoRow")) (.ref (He.ga K "NoRow")) = some true),
   Hz.excB K (He.ga K "NoNet"),
   decide (PySem.W.findIn K (.ref (He.ga K "NoNet")) "__setattr__" = some (some (.builtin "object.__setattr__"))),
   decide (PySem.W.findIn K (.ref (He.ga K "NoNet")) "__getattribute__" = some (some (.builtin "BaseException.__getattribute__"))),
   decide (PySem.W.findIn K (.ref (He.ga K "NoNet")) "__getattr__" = some none),
   decide (PySem.W.subIn K (.ref (He.ga K "NoNet")) (.type "BaseException") = some true),
   PySem.W.keepIn K (.ref (He.ga K "NoNet")),
   PySem.W.hasDictIn K (He.ga K "NoNet"),
   decide (PySem.W.findIn K (.ref (He.ga K "NoNet")) "__class__" = some (some (.builtin "object.__class__"))),
   decide (PySem.W.findIn K (.ref (He.ga K "NoNet")) "reason" = some none),
   decide (PySem.W.findIn K (.ref (He.ga K "NoNet")) "place" = some none),
   decide (PySem.W.subIn K (.ref (He.ga K "NoNet")) (.ref (He.ga K "UnkeptError")) = some true),
   decide (PySem.W.subIn K (.ref (He.ga K "NoNet")) (.ref (He.ga K "NoPart")) = some false),
   decide (PySem.W.subIn K (.ref (He.ga K "NoNet")) (.ref (He.ga K "NoName")) = some false),
   decide (PySem.W.subIn K (.ref (He.ga K "NoNet")) (.ref (He.ga K "NoStep")) = some false),
   decide (PySem.W.subIn K (.ref (He.ga K "NoNet")) (.ref (He.ga K "NoDeed")) = some false),
   decide (PySem.W.subIn K (.ref (He.ga K "NoNet")) (.ref (He.ga K "NoText")) = some false),
   decide (PySem.W.subIn K (.ref (He.ga K "NoNet")) (.ref (He.ga K "NoRow")) = some false),
   decide (PySem.W.subIn K (.ref (He.ga K "NoNet")) (.type "ValueError") = some true),
   decide (PySem.W.mroIn K (He.ga K "Agent") (.type "object") = some true),
   decide (PySem.W.typeIn K (.ref (He.ga K "Agent")) = some (.type "type")),
   decide (PySem.W.subIn K (.ref (He.ga K "Agent")) (.ref (He.ga K "Agent")) = some true),
   decide (PySem.W.findIn K (.ref (He.ga K "Agent")) "__class__" = some (some (.builtin "object.__class__"))),
   PySem.W.readsIn K (He.ga K "Agent") (.type "type"),
   decide (PySem.W.specialIn K (.ref (He.ga K "Agent")) "__getattribute__" = some (some (.builtin "type.__getattribute__"))),
   decide (PySem.W.mroIn K (He.ga K "Through") (.type "object") = some true),
   decide (PySem.W.typeIn K (.ref (He.ga K "Through")) = some (.type "type")),
   decide (PySem.W.subIn K (.ref (He.ga K "Through")) (.ref (He.ga K "Through")) = some true),
   decide (PySem.W.findIn K (.ref (He.ga K "Through")) "__class__" = some (some (.builtin "object.__class__"))),
   PySem.W.readsIn K (He.ga K "Through") (.type "type"),
   decide (PySem.W.specialIn K (.ref (He.ga K "Through")) "__getattribute__" = some (some (.builtin "type.__getattribute__"))),
   decide (PySem.W.mroIn K (He.ga K "Back") (.type "object") = some true),
   decide (PySem.W.typeIn K (.ref (He.ga K "Back")) = some (.type "type")),
   decide (PySem.W.subIn K (.ref (He.ga K "Back")) (.ref (He.ga K "Back")) = some true),
   decide (PySem.W.findIn K (.ref (He.ga K "Back")) "__class__" = some (some (.builtin "object.__class__"))),
   PySem.W.readsIn K (He.ga K "Back") (.type "type"),
   decide (PySem.W.specialIn K (.ref (He.ga K "Back")) "__getattribute__" = some (some (.builtin "type.__getattribute__"))),
   decide (PySem.W.mroIn K (He.ga K "Variable") (.type "object") = some true),
   decide (PySem.W.typeIn K (.ref (He.ga K "Variable")) = some (.type "type")),
   decide (PySem.W.subIn K (.ref (He.ga K "Variable")) (.ref (He.ga K "Variable")) = some true),
   decide (PySem.W.findIn K (.ref (He.ga K "Variable")) "__class__" = some (some (.builtin "object.__class__"))),
   PySem.W.readsIn K (He.ga K "Variable") (.type "type"),
   decide (PySem.W.specialIn K (.ref (He.ga K "Variable")) "__getattribute__" = some (some (.builtin "type.__getattribute__"))),
   decide (PySem.W.mroIn K (He.ga K "Signal") (.type "object") = some true),
   decide (PySem.W.typeIn K (.ref (He.ga K "Signal")) = some (.type "type")),
   decide (PySem.W.subIn K (.ref (He.ga K "Signal")) (.ref (He.ga K "Signal")) = some true),
   decide (PySem.W.findIn K (.ref (He.ga K "Signal")) "__class__" = some (some (.builtin "object.__class__"))),
   decide (PySem.W.mroIn K (He.ga K "Net") (.type "object") = some true),
   decide (PySem.W.typeIn K (.ref (He.ga K "Net")) = some (.type "type")),
   decide (PySem.W.subIn K (.ref (He.ga K "Net")) (.ref (He.ga K "Net")) = some true),
   decide (PySem.W.findIn K (.ref (He.ga K "Net")) "__class__" = some (some (.builtin "object.__class__"))),
   PySem.W.readsIn K (He.ga K "Net") (.type "type"),
   decide (PySem.W.specialIn K (.ref (He.ga K "Net")) "__getattribute__" = some (some (.builtin "type.__getattribute__"))),
   decide (PySem.W.findIn K (.ref (He.ga K "Net")) "LINES" = some (some (.ref (He.ma K (He.ga K "Net") "LINES")))),
   decide (PySem.W.specialIn K (.ref (He.ma K (He.ga K "Net") "LINES")) "__get__" = some none),
   decide (PySem.W.subIn K (.ref (He.ga K "Agent")) (.ref (He.ga K "Variable")) = some false),
   decide (PySem.W.subIn K (.ref (He.ga K "Agent")) (.ref (He.ga K "Signal")) = some false),
   decide (PySem.W.subIn K (.ref (He.ga K "Through")) (.ref (He.ga K "Variable")) = some false),
   decide (PySem.W.subIn K (.ref (He.ga K "Through")) (.ref (He.ga K "Signal")) = some false),
   decide (PySem.W.subIn K (.ref (He.ga K "Through")) (.ref (He.ga K "Agent")) = some true),
   decide (PySem.W.subIn K (.ref (He.ga K "Back")) (.ref (He.ga K "Variable")) = some false),
   decide (PySem.W.subIn K (.ref (He.ga K "Back")) (.ref (He.ga K "Signal")) = some false),
   decide (PySem.W.subIn K (.ref (He.ga K "Back")) (.ref (He.ga K "Agent")) = some true),
   decide (PySem.W.subIn K (.ref (He.ga K "Variable")) (.ref (He.ga K "Signal")) = some false),
   decide (PySem.W.subIn K (.ref (He.ga K "Variable")) (.ref (He.ga K "Agent")) = some false),
   decide (PySem.W.subIn K (.ref (He.ga K "Signal")) (.ref (He.ga K "Variable")) = some false),
   decide (PySem.W.subIn K (.ref (He.ga K "Signal")) (.ref (He.ga K "Agent")) = some false),
   decide (PySem.W.subIn K (.type "NoneType") (.ref (He.ga K "Variable")) = some false),
   decide (PySem.W.subIn K (.type "NoneType") (.ref (He.ga K "Signal")) = some false),
   decide (PySem.W.subIn K (.type "NoneType") (.ref (He.ga K "Agent")) = some false),
   decide (PySem.W.subIn K (.type "bool") (.ref (He.ga K "Variable")) = some false),
   decide (PySem.W.subIn K (.type "bool") (.ref (He.ga K "Signal")) = some false),
   decide (PySem.W.subIn K (.type "bool") (.ref (He.ga K "Agent")) = some false),
   decide (PySem.W.subIn K (.type "int") (.ref (He.ga K "Variable")) = some false),
   decide (PySem.W.subIn K (.type "int") (.ref (He.ga K "Signal")) = some false),
   decide (PySem.W.subIn K (.type "int") (.ref (He.ga K "Agent")) = some false),
   decide (PySem.W.subIn K (.type "str") (.ref (He.ga K "Variable")) = some false),
   decide (PySem.W.subIn K (.type "str") (.ref (He.ga K "Signal")) = some false),
   decide (PySem.W.subIn K (.type "str") (.ref (He.ga K "Agent")) = some false),
   decide (PySem.W.subIn K (.type "tuple") (.ref (He.ga K "Variable")) = some false),
   decide (PySem.W.subIn K (.type "tuple") (.ref (He.ga K "Signal")) = some false),
   decide (PySem.W.subIn K (.type "tuple") (.ref (He.ga K "Agent")) = some false),
   decide (PySem.W.subIn K (.type "list") (.ref (He.ga K "Variable")) = some false),
   decide (PySem.W.subIn K (.type "list") (.ref (He.ga K "Signal")) = some false),
   decide (PySem.W.subIn K (.type "list") (.ref (He.ga K "Agent")) = some false),
   decide (PySem.W.subIn K (.type "dict") (.ref (He.ga K "Variable")) = some false),
   decide (PySem.W.subIn K (.type "dict") (.ref (He.ga K "Signal")) = some false),
   decide (PySem.W.subIn K (.type "dict") (.ref (He.ga K "Agent")) = some false),
   decide (PySem.W.nsIn K mainGlobals "ValueError" = some none),
   decide (PySem.W.nsIn K mainGlobals "max" = some none),
   decide (PySem.W.nsIn K mainGlobals "list" = some none),
   decide (PySem.W.nsIn K mainGlobals "int" = some none),
   decide (PySem.W.nsIn K mainGlobals "len" = some none),
   decide (PySem.W.nsIn K mainGlobals "abs" = some none),
   decide (PySem.W.nsIn K mainGlobals "isinstance" = some none),
   decide (PySem.W.nsIn K mainGlobals "str" = some none),
   decide (PySem.W.nsIn K mainGlobals "bool" = some none),
   decide (PySem.W.nsIn K mainGlobals "tuple" = some none),
   decide (PySem.W.nsIn K mainGlobals "all" = some none),
   decide (PySem.W.nsIn K mainGlobals "any" = some none),
   decide (PySem.W.nsIn K mainGlobals "enumerate" = some none),
   decide (PySem.W.nsIn K mainGlobals "range" = some none),
   decide (PySem.W.nsIn K mainGlobals "reversed" = some none),
   decide (PySem.W.findIn K (.ref (He.ga K "NoPart")) "__init__" = some (some (.ref (zf_NoPart_init K)))),
   PySem.W.isFn K (.ref (zf_NoPart_init K)),
   decide (PySem.W.findIn K (.ref (He.ga K "NoNet")) "__init__" = some (some (.ref (zf_NoNet_init K)))),
   PySem.W.isFn K (.ref (zf_NoNet_init K)),
   decide (PySem.W.nsIn K mainGlobals "is_integer" = some (some (.ref (zf_is_integer K)))),
   decide (PySem.W.nsIn K mainGlobals "is_within" = some (some (.ref (zf_is_within K)))),
   decide (PySem.W.nsIn K mainGlobals "is_name" = some (some (.ref (zf_is_name K)))),
   decide (PySem.W.nsIn K mainGlobals "is_step" = some (some (.ref (zf_is_step K)))),
   decide (PySem.W.nsIn K mainGlobals "_is_memory_step" = some (some (.ref (zf_is_memory_step K)))),
   decide (PySem.W.nsIn K mainGlobals "concerns_signal" = some (some (.ref (zf_concerns_signal K)))),
   decide (PySem.W.nsIn K mainGlobals "_check_agent" = some (some (.ref (zf_check_agent K)))),
   decide (PySem.W.findIn K (.ref (He.ga K "Agent")) "__init__" = some (some (.ref (zf_Agent_init K)))),
   PySem.W.isFn K (.ref (zf_Agent_init K)),
   PySem.W.fnIn K (zf_Agent_made K),
   decide (PySem.W.findIn K (.ref (He.ga K "Through")) "__init__" = some (some (.ref (zf_Through_init K)))),
   PySem.W.isFn K (.ref (zf_Through_init K)),
   PySem.W.fnIn K (zf_Through_made K),
   decide (PySem.W.findIn K (.ref (He.ga K "Back")) "__init__" = some (some (.ref (zf_Back_init K)))),
   PySem.W.isFn K (.ref (zf_Back_init K)),
   PySem.W.fnIn K (zf_Back_made K),
   decide (PySem.W.findIn K (.ref (He.ga K "Signal")) "__init__" = some (some (.ref (zf_Signal_init K)))),
   PySem.W.isFn K (.ref (zf_Signal_init K)),
   decide (PySem.W.findIn K (.ref (He.ga K "Variable")) "__init__" = some (some (.ref (zf_Variable_init K)))),
   PySem.W.isFn K (.ref (zf_Variable_init K)),
   PySem.W.fnIn K (zf_Variable_made K),
   decide (PySem.W.nsIn K mainGlobals "_check_addresses" = some (some (.ref (zf_check_addresses K)))),
   decide (PySem.W.nsIn K mainGlobals "_check_slots_apart" = some (some (.ref (zf_check_slots_apart K)))),
   decide (PySem.W.findIn K (.ref (He.ga K "Net")) "__init__" = some (some (.ref (zf_Net_init K)))),
   PySem.W.isFn K (.ref (zf_Net_init K)),
   PySem.W.fnIn K (zf_Net_made K),
   decide (PySem.W.nsIn K mainGlobals "_check_parts" = some (some (.ref (zf_check_parts K)))),
   decide (PySem.W.nsIn K mainGlobals "_check_many" = some (some (.ref (zf_check_many K)))),
   decide (PySem.W.nsIn K mainGlobals "_check_names" = some (some (.ref (zf_check_names K)))),
   decide (PySem.W.nsIn K mainGlobals "_check_bytes" = some (some (.ref (zf_check_bytes K)))),
   decide (PySem.W.nsIn K mainGlobals "_check_steps" = some (some (.ref (zf_check_steps K)))),
   decide (PySem.W.nsIn K mainGlobals "_check_signals" = some (some (.ref (zf_check_signals K)))),
   decide (PySem.W.nsIn K mainGlobals "_law_pen" = some (some (.ref (zf_pen K)))),
   decide (PySem.W.nsIn K mainGlobals "_law_draw" = some (some (.ref (zf_draw K)))),
   decide (PySem.W.nsIn K mainGlobals "_law_thing" = some (some (.ref (zf_thing K)))),
   decide (PySem.W.nsIn K mainGlobals "_law_steps" = some (some (.ref (zf_steps K)))),
   decide (PySem.W.nsIn K mainGlobals "_law_items" = some (some (.ref (zf_items K)))),
   decide (PySem.W.nsIn K mainGlobals "_law_shuffled" = some (some (.ref (zf_shuffled K)))),
   decide (PySem.W.nsIn K mainGlobals "_law_part" = some (some (.ref (zf_part K)))),
   decide (PySem.W.nsIn K mainGlobals "_law_within" = some (some (.ref (zf_within K)))),
   decide (PySem.W.nsIn K mainGlobals "_law_free" = some (some (.ref (zf_free K)))),
   decide (PySem.W.nsIn K mainGlobals "_law_changed" = some (some (.ref (zf_changed K)))),
   decide (PySem.W.nsIn K mainGlobals "_law_spoiled" = some (some (.ref (zf_spoiled K)))),
   decide (PySem.W.nsIn K mainGlobals "_law_parts_wrong" = some (some (.ref (zf_parts_wrong K)))),
   decide (PySem.W.nsIn K mainGlobals "_law_variables_wrong" = some (some (.ref (zf_variables_wrong K)))),
   decide (PySem.W.nsIn K mainGlobals "_law_steps_wrong" = some (some (.ref (zf_steps_wrong K)))),
   decide (PySem.W.nsIn K mainGlobals "_law_wanted" = some (some (.ref (zf_wanted K)))),
   decide (PySem.W.nsIn K mainGlobals "_law_direct" = some (some (.ref (zf_direct K)))),
   decide (PySem.W.nsIn K mainGlobals "_law_asked" = some (some (.ref (zf_asked K)))),
   decide (PySem.W.nsIn K mainGlobals "_law_right" = some (some (.ref (zf_right K)))),
   decide (PySem.W.nsIn K mainGlobals "_law_round" = some (some (.ref (zf_round K)))),
   decide (PySem.W.nsIn K mainGlobals "law" = some (some (.ref (zf_law K)))),
   decide (PySem.W.nsIn K mainGlobals "ACCESS_WORDS" = some (some (.ref (He.ga K "ACCESS_WORDS")))),
   decide (PySem.W.nsIn K mainGlobals "UPKEEP_WORDS" = some (some (.ref (He.ga K "UPKEEP_WORDS")))),
   decide (PySem.W.nsIn K mainGlobals "SIGNAL_WORDS" = some (some (.ref (He.ga K "SIGNAL_WORDS")))),
   decide (PySem.W.nsIn K mainGlobals "PLAIN_WORDS" = some (some (.ref (He.ga K "PLAIN_WORDS")))),
   decide (PySem.W.nsIn K mainGlobals "CACHE_WORDS" = some (some (.ref (He.ga K "CACHE_WORDS"))))]
def zfn : List He5.DefA := [zd_NoPart_init, zd_NoNet_init, zd_is_integer, zd_is_within, zd_is_name, zd_is_step, zd_is_memory_step, zd_concerns_signal, zd_check_agent, zd_Agent_init, zd_Agent_made, zd_Through_init, zd_Through_made, zd_Back_init, zd_Back_made, zd_Signal_init, zd_Variable_init, zd_Variable_made, zd_check_addresses, zd_check_slots_apart, zd_Net_init, zd_Net_made, zd_check_parts, zd_check_many, zd_check_names, zd_check_bytes, zd_check_steps, zd_check_signals, zd_pen, zd_draw, zd_thing, zd_steps, zd_items, zd_shuffled, zd_part, zd_within, zd_free, zd_changed, zd_spoiled, zd_parts_wrong, zd_variables_wrong, zd_steps_wrong, zd_wanted, zd_direct, zd_asked, zd_right, zd_round, zd_law]
abbrev ZR : PySem.W.OpenRow := PySem.W.OpenLaw.row PySem.Challenge.rw_unkeptlines_k07_whole_nets_refused
def zloose : List PySem.Str := (["_wall", "UnkeptError", "NoPart", "NoNet", "NoName", "NoStep", "NoDeed", "NoText", "NoRow", "LETTERS", "LONGEST_NAME", "is_integer", "is_within", "is_name", "ACCESS_WORDS", "UPKEEP_WORDS", "SIGNAL_WORDS", "PLAIN_WORDS", "CACHE_WORDS", "GREATEST_SHIFT", "GREATEST_BYTE", "is_step", "_is_memory_step", "concerns_signal", "is_access", "MOST_STEPS", "_check_agent", "Agent", "Through", "Back"] : List PySem.Str) ++ (["MOST_TOKENS", "Signal", "GREATEST_SIZE", "MOST_SLOTS", "ADDRESSES", "Variable", "_check_addresses", "_check_slots_apart", "MOST_AGENTS", "MOST_VARIABLES", "MOST_SIGNALS", "LONGEST_RING", "Net", "_check_parts", "_check_many", "_check_names", "_check_bytes", "_check_steps", "_check_signals", "_law_pen", "_law_draw", "_law_thing", "_law_steps", "_law_items", "_law_shuffled", "_law_part", "_law_within", "_law_free", "_law_changed", "_law_spoiled"] : List PySem.Str) ++ (["_law_parts_wrong", "_law_variables_wrong", "_law_steps_wrong", "_law_wanted", "_law_direct", "_law_asked", "_law_right", "_law_round"] : List PySem.Str)
def zas : List Addr := [2, 3, 15, 17, 18, 20, 21, 22, 29, 30, 31, 32, 35, 42, 44, 45, 47, 48, 49, 50, 51, 54, 61, 63, 64, 66, 67, 68, 69, 70, 73, 80, 82, 83, 85, 86, 87, 88, 89, 92, 99, 101, 102, 104, 105, 106, 107, 108, 111, 118, 120, 121, 123, 124, 125, 126, 127, 130, 137, 139, 140, 142, 143, 144, 145, 146, 149, 156, 157, 158, 161, 163, 164, 166, 167, 168, 170, 171, 173, 174, 175, 178, 179, 180, 181, 182, 183, 184, 185, 187, 188, 190, 191, 192, 194, 195, 197, 198, 199, 201, 202, 204, 205, 206, 208, 209, 211, 212, 213, 215, 216, 218, 219, 227, 229, 230, 232, 233, 234, 236, 237, 239, 240, 241, 242, 243, 244, 246, 247, 249, 250, 251, 253, 254, 256, 257, 258, 260, 261, 263, 264, 265, 267, 268, 270, 271, 272, 274, 275, 277, 278, 279, 281, 282, 284, 285, 286, 287, 288, 289, 290, 293, 300, 302, 303, 305, 306, 307, 309, 310, 312, 313, 314, 315, 316, 317, 319, 320, 322, 323, 324, 326, 327, 329, 330, 331, 333, 334, 336, 337, 338, 340, 341, 343, 344, 345, 347, 348, 350, 351, 352, 354, 355, 357, 358, 359, 360, 361, 364, 371, 373, 374, 376, 377, 378, 380, 381, 383, 384, 385, 386, 387, 388, 390, 391, 393, 394, 395, 397, 398, 400, 401, 402, 404, 405, 407, 408, 409, 411, 412, 414, 415, 416, 418, 419, 421, 422, 423, 425, 426, 428, 429, 430, 431, 432, 442, 443, 445, 446, 448, 449, 450, 452, 453, 455, 456, 457, 458, 459, 460, 461, 471, 473, 474, 476, 477, 478, 480, 481, 483, 484, 485, 486, 487, 488, 490, 491, 493, 494, 495, 497, 498, 500, 501, 502, 504, 505, 507, 508, 509, 511, 512, 514, 515, 516, 517, 518, 519, 520, 523, 525, 526, 528, 529, 530, 533, 534, 542, 543, 544, 547, 548, 549, 550, 552, 553, 555, 556, 557, 558, 559, 560, 562, 563, 565, 566, 567, 569, 570, 572, 573, 574, 576, 577, 579, 580, 581, 583, 584, 586, 587, 588, 590, 591, 593, 594, 595, 597, 598, 600, 601, 602, 604, 605, 607, 608, 609, 611, 612, 614, 615, 616, 618, 619, 621, 622, 623, 625, 626, 628, 629, 630, 632, 633, 635, 636, 637, 639, 640, 642, 643, 644, 646, 647, 649, 650, 651, 653, 654, 656, 657, 658, 659, 660, 661, 662, 665, 668, 669, 670, 672, 673, 675, 676, 677, 680, 681, 682, 685, 686, 687, 690, 691, 692, 695, 696, 697, 699, 700, 702, 703, 704, 706, 707, 709, 710, 711, 713, 714, 716, 717, 718, 720, 721, 723, 724, 725, 728, 729, 730, 732, 733, 735, 736, 737, 739, 740, 742, 743, 744, 746, 747, 749, 750, 751, 754, 755, 756, 759, 760, 761, 763, 764, 766, 767, 768, 771, 772, 773, 776, 777, 778, 781, 782, 783, 785, 786, 788, 789, 790, 792, 793, 795, 796, 797, 799, 800, 802, 803, 804, 807, 808, 809, 812, 813, 814, 817, 818]
abbrev zhk : PySem.W.Hook := Hz.hook zas zex zfn
def zob (s : PySem.W.SharedT) : Hz.Al := Hz.obsH zas zex zfn (HandSHeadRun.getT s)
theorem zob_eq (s : PySem.W.SharedT) : zob s = zhk.obs s.abs := Hz.obsH_eq (HandSHeadRun.getT_eq s)
set_option maxHeartbeats 0 in
theorem zrun (w : World) : HandSHeadRun.RunEq ZR (PySem.W.view ZR.prog [76]) zhk zob 12000 zloose w := by
  intro os
  kernel_rfl
end My
section
namespace Lay
open PySem L2
theorem upd_old {H : Hp} {p a : Addr} {o u : HO} (hp : H p = none) (ha : H a = some u) : upd H p o a = some u := by
  rw [upd_ne (ne_of_none ha hp)]; exact ha
/-- all that was tracked but p is as it was -/
def Keep (p : Addr) (H H' : Hp) : Prop := ∀ b o, b ≠ p → H b = some o → H' b = some o
theorem Keep.refl {p : Addr} {H : Hp} : Keep p H H := fun _ _ _ h => h
theorem Keep.trans {p : Addr} {H H1 H2 : Hp} (a : Keep p H H1) (b : Keep p H1 H2) : Keep p H H2 := fun c o n h => b c o n (a c o n h)
theorem Keep.of {p : Addr} {H H1 : Hp} (a : Same H H1) : Keep p H H1 := fun c o _ h => a c o h
theorem Keep.upd {p : Addr} {H : Hp} {o : HO} : Keep p H (upd H p o) := fun c u n h => by rw [upd_ne n]; exact h
theorem Same.upd {H : Hp} {p : Addr} {o : HO} (h : H p = none) : Same H (upd H p o) := fun _ _ e => upd_old h e
theorem Same.upd' {H H1 : Hp} {p : Addr} {o : HO} (s : Same H H1) (h : H1 p = none) : Same H (L2.upd H1 p o) := s.trans (Same.upd h)
/-- the pen: its cells, how many draws were begun (at most n), what is left -/
def PenAt (c : Addr) (H : Hp) (p : Addr) (n : Nat) : Prop := ∃ (ns : List Int) (b l : Int), H p = some (.lst [.ref c, .int b, .int l]) ∧ H c = some (.lst (ns.map V.int)) ∧ ns.length ≤ 63 ∧ 0 ≤ b ∧ b ≤ n ∧ 0 ≤ l
theorem PenAt.mono {c : Addr} {H H' : Hp} {p : Addr} {n : Nat} (s : Same H H') (h : PenAt c H p n) : PenAt c H' p n := by
  obtain ⟨ns, b, l, h1, h2, r⟩ := h
  exact ⟨ns, b, l, s _ _ h1, s _ _ h2, r⟩
theorem PenAt.le {c : Addr} {H : Hp} {p : Addr} {n m : Nat} (h : PenAt c H p n) (e : n ≤ m) : PenAt c H p m := by
  obtain ⟨ns, b, l, h1, h2, h3, h4, h5, h6⟩ := h
  exact ⟨ns, b, l, h1, h2, h3, h4, by omega, h6⟩
/-- a draw -/
def spDraw : Sp := fun vs H Q _ => ∃ (p : Addr) (m : Int) (n : Nat) (c : Addr), vs = [.ref p, .int m] ∧ PenAt c H p n ∧ n < 100000 ∧ 0 < m ∧ m < 1073741824 ∧
  ∀ (d : Int) (H' : Hp), 0 ≤ d → d < m → PenAt c H' p (n + 1) → Keep p H H' → Q (.int d) H'
/-- the pen is made -/
def spPen (K : PySem.W.Frag) : Sp := fun vs H Q _ => ∃ (a : Addr) (ns : List Int), vs = [.ref a] ∧ SqL K H a (ns.map V.int) ∧ ns.length ≤ 63 ∧
  ∀ (c p : Addr) (H' : Hp), H p = none → PenAt c H' p 0 → Same H H' → Q (.ref p) H'
/-! ### readings, a step a rule -/
section
variable {K : PySem.W.Frag} {σ : St} {H : Hp} {Q : VK} {ta tb tc te : TE} {t u : TT} {D : Ends} {ts us : TS} {v x y : V} {i j : Int} {n : Nat} {tA : TA} {QA : List V → Hp → Prop} {QT : Bool → Hp → Prop} {E : XK}
theorem rd_seq (h : ts { D with nx := us D } σ H) : tSeq ts us D σ H := h
theorem rd_asg {g : TG} (h : te σ H fun x H1 => g x σ H1 D.nx) : tAsg te g D σ H := h
theorem rd_ifS (h : t σ H fun b H1 => if b = true then ts D σ H1 else us D σ H1) : tIfS t ts us D σ H := h
theorem rd_ret (h : te σ H D.rt) : tRet te D σ H := h
theorem rd_retN (h : D.rt .non H) : tRetN D σ H := h
theorem rd_next (h : D.nx σ H) : tNext D σ H := h
theorem rd_drop (h : te σ H fun _ H1 => D.nx σ H1) : tDrop te D σ H := h
theorem rd_name (h : R (σ.set n (some v)) H) : gName n v σ H R := h
theorem rd_sub {g : TSet} {R : St → Hp → Prop} (h : ta σ H fun o H1 => tb σ H1 fun i H2 => g o i v H2 fun H3 => R σ H3) : gSub ta tb g v σ H R := h
theorem rd_var (h : σ[n]? = some (some v)) (q : Q v H) : tVar n σ H Q := ⟨v, h, q⟩
theorem rd_c (q : Q v H) : tC v σ H Q := q
theorem rd_op {r : R2} (h : ta σ H fun x H1 => tb σ H1 fun y H2 => r x y H2 Q) : tOp r ta tb σ H Q := h
theorem rd_un {r : V → Hp → VK → Prop} (h : ta σ H fun x H1 => r x H1 Q) : tUn r ta σ H Q := h
theorem rd_I0 {g : Int → Int → V} (q : Q (g i j) H) : rI0 g (.int i) (.int j) H Q := ⟨i, j, rfl, rfl, q⟩
theorem rd_I {C : Int → Int → Prop} {g : Int → Int → V} (hc : C i j) (q : Q (g i j) H) : rI C g (.int i) (.int j) H Q := ⟨i, j, rfl, rfl, hc, q⟩
theorem rd_U {g : Int → V} (q : Q (g i) H) : rU g (.int i) H Q := ⟨i, rfl, q⟩
theorem rd_ixL {p : Addr} {xs : List V} (h : SqL K H p xs) (ha : atI xs i = some v) (q : Q v H) : rIxL K (.ref p) (.int i) H Q := ⟨p, xs, i, v, rfl, rfl, h, ha, q⟩
theorem rd_ixT {p : Addr} {xs : List V} (h : SqT K H p xs) (ha : atI xs i = some v) (q : Q v H) : rIxT K (.ref p) (.int i) H Q := ⟨p, xs, i, v, rfl, rfl, h, ha, q⟩
theorem rd_setL {p : Addr} {xs : List V} {k : Nat} {R : Hp → Prop} (h : H p = some (.lst xs)) (ha : ixN xs.length i = some k) (q : R (upd H p (.lst (xs.set k v)))) : rSetL (.ref p) (.int i) v H R := ⟨p, xs, i, k, rfl, rfl, h, ha, q⟩
theorem rd_tup (h : tA σ H fun xs H1 => xs.length ≤ sizeLine ∧ ∀ p, H1 p = none → Q (.ref p) (upd H1 p (.tup xs))) : tTup tA σ H Q := h
theorem rd_lst (h : tA σ H fun xs H1 => xs.length ≤ sizeLine ∧ ∀ p, H1 p = none → Q (.ref p) (upd H1 p (.lst xs))) : tLst tA σ H Q := h
theorem rd_cons (h : ta σ H fun x H1 => tA σ H1 fun xs H2 => QA (x :: xs) H2) : tCons ta tA σ H QA := h
theorem rd_nil (h : QA [] H) : tNil σ H QA := h
theorem rd_star (h : ta σ H fun x H1 => ∃ p xs, x = V.ref p ∧ (SqT K H1 p xs ∨ SqL K H1 p xs) ∧ tA σ H1 fun ys H2 => QA (xs ++ ys) H2) : StX.tStar K ta tA σ H QA := h
theorem rd_call {sp : Sp} {dvs : List V} (h : tA σ H fun vs H1 => sp (vs ++ dvs) H1 Q E) : tCall sp dvs E tA σ H Q := h
theorem rd_CB {r : List V → Hp → VK → Prop} (h : tA σ H fun vs H1 => r vs H1 Q) : tCB r tA σ H Q := h
theorem rd_test (h : ta σ H fun x H' => ∃ k, x = .bl k ∧ QT k H') : tTest ta σ H QT := h
theorem rd_tB (h : ta σ H fun x H' => ∃ k, x = .bl k ∧ QT k H') : tB ta σ H QT := h
theorem rd_and (h : t σ H fun c H1 => if c = true then u σ H1 QT else QT false H1) : tAnd t u σ H QT := h
theorem rd_or (h : t σ H fun c H1 => if c = true then QT true H1 else u σ H1 QT) : tOr t u σ H QT := h
theorem rd_not (h : t σ H fun c H1 => QT (!c) H1) : tNot t σ H QT := h
theorem rd_andV (h : ta σ H fun x H1 => ∃ c, x = .bl c ∧ if c = true then tb σ H1 Q else Q (.bl false) H1) : tAndV ta tb σ H Q := h
theorem rd_orV (h : ta σ H fun x H1 => ∃ c, x = .bl c ∧ if c = true then Q (.bl true) H1 else tb σ H1 Q) : tOrV ta tb σ H Q := h
theorem rd_notV (h : ta σ H fun x H1 => ∃ c, x = .bl c ∧ Q (.bl (!c)) H1) : tNotV ta σ H Q := h
theorem rd_tIf (h : t σ H fun c H1 => if c = true then ta σ H1 Q else tb σ H1 Q) : tIf t ta tb σ H Q := h
theorem rd_slL {p : Addr} {xs : List V} {lo hi : Option Int} (h : SqL K H p xs) (q : ∀ r, H r = none → Q (.ref r) (upd H r (.lst (cutV xs lo hi)))) : rSlL K (.ref p) lo hi H Q := ⟨p, xs, rfl, h, q⟩
theorem rd_sl {r : V → Option Int → Option Int → Hp → VK → Prop} {tl th : TO} (h : te σ H fun x H1 => tl σ H1 fun l H2 => th σ H2 fun u H3 => r x l u H3 Q) : tSl r te tl th σ H Q := h
theorem rd_noP {QO : Option Int → Hp → Prop} (q : QO none H) : tNoPart σ H QO := q
theorem rd_part {QO : Option Int → Hp → Prop} (q : te σ H fun x H1 => ∃ i, x = .int i ∧ QO (some i) H1) : tPart te σ H QO := q
theorem rd_app {p : Addr} {xs : List V} (h : H p = some (.lst xs)) (hl : xs.length < sizeLine) (q : Q .non (upd H p (.lst (xs ++ [y])))) : rAppend (.ref p) [y] H Q := ⟨p, xs, y, rfl, rfl, h, hl, q⟩
/-! ways -/
theorem ite_d {p : Prop} [Decidable p] {A B : Prop} (h1 : p → A) (h2 : ¬ p → B) : if decide p = true then A else B := by
  by_cases c : p
  · rw [if_pos (by simpa using c)]; exact h1 c
  · rw [if_neg (by simpa using c)]; exact h2 c
theorem ite_n {p : Prop} [Decidable p] {A B : Prop} (h1 : ¬ p → A) (h2 : p → B) : if (!decide p) = true then A else B := by
  by_cases c : p
  · rw [if_neg (by simp [c])]; exact h2 c
  · rw [if_pos (by simp [c])]; exact h1 c
theorem ite_b {b : Bool} {A B : Prop} (h1 : b = true → A) (h2 : b = false → B) : if b = true then A else B := by
  cases b
  · rw [if_neg Bool.false_ne_true]; exact h2 rfl
  · rw [if_pos rfl]; exact h1 rfl
end
/-! ### built-ins by name -/
def rLenS (K : PySem.W.Frag) : List V → Hp → VK → Prop := fun xs H Q => ∃ p ys, xs = [.ref p] ∧ (SqL K H p ys ∨ SqT K H p ys) ∧ Q (.int ys.length) H
theorem call_lenS {X : Cx} : CallR X (.builtin "len") (rLenS X.K) := call_len_seq
theorem rd_lenL {K : PySem.W.Frag} {H : Hp} {Q : VK} {p : Addr} {xs : List V} (h : SqL K H p xs) (q : Q (.int xs.length) H) : rLenS K [.ref p] H Q := ⟨p, xs, rfl, .inl h, q⟩
theorem rd_lenT {K : PySem.W.Frag} {H : Hp} {Q : VK} {p : Addr} {xs : List V} (h : SqT K H p xs) (q : Q (.int xs.length) H) : rLenS K [.ref p] H Q := ⟨p, xs, rfl, .inr h, q⟩
def rInt1 : List V → Hp → VK → Prop := fun xs H Q => (∃ i, xs = [.int i] ∧ Q (.int i) H) ∨ ∃ k, xs = [.bl k] ∧ Q (.int (if k then 1 else 0)) H
theorem call_intI {X : Cx} : CallR X (.type "int") rInt1 := call_int1
theorem rd_int {H : Hp} {Q : VK} {i : Int} (q : Q (.int i) H) : rInt1 [.int i] H Q := .inl ⟨i, rfl, q⟩
theorem rd_intB {H : Hp} {Q : VK} {k : Bool} (q : Q (.int (if k then 1 else 0)) H) : rInt1 [.bl k] H Q := .inr ⟨k, rfl, q⟩
def rAbs : List V → Hp → VK → Prop := fun xs H Q => ∃ i, xs = [.int i] ∧ Q (.int (if i < 0 then -i else i)) H
theorem call_absI {X : Cx} : CallR X (.builtin "abs") rAbs := call_abs
theorem rd_abs {H : Hp} {Q : VK} {i : Int} (q : Q (.int (if i < 0 then -i else i)) H) : rAbs [.int i] H Q := ⟨i, rfl, q⟩
def rListOf (K : PySem.W.Frag) : List V → Hp → VK → Prop := fun xs H Q => ∃ p ys, xs = [.ref p] ∧ (SqL K H p ys ∨ SqT K H p ys) ∧ ∀ l, H l = none → Q (.ref l) (upd H l (.lst ys))
theorem call_listS {X : Cx} : CallR X (.type "list") (rListOf X.K) := call_list_of
theorem rd_listL {K : PySem.W.Frag} {H : Hp} {Q : VK} {p : Addr} {xs : List V} (h : SqL K H p xs) (q : ∀ l, H l = none → Q (.ref l) (upd H l (.lst xs))) : rListOf K [.ref p] H Q := ⟨p, xs, rfl, .inl h, q⟩
def rTupOf (K : PySem.W.Frag) : List V → Hp → VK → Prop := fun xs H Q => ∃ p ys, xs = [.ref p] ∧ ((SqL K H p ys ∧ ∀ l, H l = none → Q (.ref l) (upd H l (.tup ys))) ∨ (SqT K H p ys ∧ Q (.ref p) H))
theorem call_tupS {X : Cx} : CallR X (.type "tuple") (rTupOf X.K) := call_tuple_of
theorem rd_tupL {K : PySem.W.Frag} {H : Hp} {Q : VK} {p : Addr} {xs : List V} (h : SqL K H p xs) (q : ∀ l, H l = none → Q (.ref l) (upd H l (.tup xs))) : rTupOf K [.ref p] H Q := ⟨p, xs, rfl, .inl ⟨h, q⟩⟩
def rLenStr : List V → Hp → VK → Prop := fun xs H Q => ∃ z, xs = [.str z] ∧ z.length ≤ sizeLine ∧ Q (.int z.length) H
theorem call_lenStr {X : Cx} : CallR X (.builtin "len") rLenStr := call_len_str
theorem sqL_of {K : PySem.W.Frag} {H : Hp} {a : Addr} {xs : List V} (h : H a = some (.lst xs)) : SqL K H a xs := .inl (.inl h)
theorem sqT_of {K : PySem.W.Frag} {H : Hp} {a : Addr} {xs : List V} (h : H a = some (.tup xs)) : SqT K H a xs := .inl (.inl h)
theorem sqL_upd {K : PySem.W.Frag} {H : Hp} {a p : Addr} {o : HO} {xs : List V} (hp : H p = none) (h : SqL K H a xs) : SqL K (upd H p o) a xs := (Same.upd hp).seq h
theorem same_sqT {K : PySem.W.Frag} {H H' : Hp} {a : Addr} {xs : List V} (e : Same H H') (h : SqT K H a xs) : SqT K H' a xs := by
  rcases h with (h | ⟨o, h⟩) | h
  · exact .inl (.inl (e _ _ h))
  · exact .inl (.inr ⟨o, e _ _ h⟩)
  · exact .inr h
theorem sqT_upd {K : PySem.W.Frag} {H : Hp} {a p : Addr} {o : HO} {xs : List V} (hp : H p = none) (h : SqT K H a xs) : SqT K (upd H p o) a xs := same_sqT (Same.upd hp) h
/-! ### remainders and quotients by positive numbers, as letters -/
def rModP : R2 := fun x y H Q => ∃ i j, x = .int i ∧ y = .int j ∧ 0 < j ∧ ∀ d : Int, d = i % j → 0 ≤ d → d < j → Q (.int d) H
theorem op_modP {X : Cx} : OpR X (binaryOp .Mod) rModP := fun pins s σ H x y v u Q I rx ry h => by
  obtain ⟨i, j, ex, ey, hj, q⟩ := h
  refine op_mod pins s σ H x y v u Q I rx ry ⟨i, j, ex, ey, hj, q _ rfl (Int.emod_nonneg _ (by omega)) (Int.emod_lt_of_pos _ hj)⟩
def rDivP : R2 := fun x y H Q => ∃ i j, x = .int i ∧ y = .int j ∧ (0 < j ∧ j < 1073741824) ∧ ∀ d : Int, d = i / j → Q (.int d) H
theorem op_divP {X : Cx} : OpR X (binaryOp .FloorDiv) rDivP := fun pins s σ H x y v u Q I rx ry h => by
  obtain ⟨i, j, ex, ey, hj, q⟩ := h
  exact op_fdiv pins s σ H x y v u Q I rx ry ⟨i, j, ex, ey, hj, q _ rfl⟩
theorem rd_modP {i j : Int} {H : Hp} {Q : VK} (hj : 0 < j) (q : ∀ d : Int, d = i % j → 0 ≤ d → d < j → Q (.int d) H) : rModP (.int i) (.int j) H Q := ⟨i, j, rfl, rfl, hj, q⟩
theorem rd_divP {i j : Int} {H : Hp} {Q : VK} (hj : 0 < j ∧ j < 1073741824) (q : ∀ d : Int, d = i / j → Q (.int d) H) : rDivP (.int i) (.int j) H Q := ⟨i, j, rfl, rfl, hj, q⟩
/-- a list of numbers beside an empty one -/
theorem dpAll_ints {K : PySem.W.Frag} {H : Hp} : ∀ ns : List Int, DpAll K H (ns.map V.int) (ns.map PyData.int)
  | [] => .nil
  | n :: r => .cons (.int n) (dpAll_ints r)
theorem rd_ne_nil {K : PySem.W.Frag} {H : Hp} {Q : VK} {c p : Addr} {ns : List Int} (h : SqL K H c (ns.map V.int)) (hp : SqL K H p []) (q1 : ns ≠ [] → Q (.bl true) H) (q2 : ns = [] → Q (.bl false) H) : rNeD K (.ref c) (.ref p) H Q := by
  refine ⟨.list (ns.map PyData.int), .list [], .lst h (dpAll_ints ns), .lst hp .nil, ?_, by decide, ?_⟩
  · exact PySem.W.shaped_ints ns
  · cases ns with
    | nil => exact q2 rfl
    | cons a r => exact q1 (by simp)
theorem pow_ok {a : Int} {k : Int} (hk : 0 ≤ k) (hk2 : k ≤ 1000000) (h0 : 0 ≤ a) (h1 : a < 18446744073709551616) : CPow a k := ⟨hk, hk2, by omega⟩
theorem mix_ok {x b c d e k : Int} (hx : 0 ≤ x) (hx2 : x < 4294967296) (hb : 0 ≤ b) (hb2 : b < 200000) (hc : 0 ≤ c) (hc2 : c < 1000) (hd : 0 ≤ d) (hd2 : d < 1000000) (he : 0 ≤ e) (he2 : e < 1000000) (hk : 0 ≤ k) (hk2 : k ≤ 1000000) :
    CPow (x * (2 * b + c) + d * b * b + e) k := by
  have h1 : x * (2 * b + c) ≤ 4294967296 * (2 * b + c) := Int.mul_le_mul_of_nonneg_right (by omega) (by omega)
  have h0 : 0 ≤ x * (2 * b + c) := Int.mul_nonneg hx (by omega)
  have h2 : 0 ≤ d * b := Int.mul_nonneg hd hb
  have h3 : d * b ≤ 1000000 * b := Int.mul_le_mul_of_nonneg_right (by omega) hb
  have h4 : 0 ≤ d * b * b := Int.mul_nonneg h2 hb
  have h5 : d * b * b ≤ (1000000 * 200000) * b := Int.mul_le_mul_of_nonneg_right (by omega) hb
  exact pow_ok hk hk2 (by omega) (by omega)
theorem rd_exb {b : Bool} {P : Bool → Prop} (q : P b) : ∃ k, V.bl b = V.bl k ∧ P k := ⟨b, rfl, q⟩
theorem rd_exi {b : Int} {P : Int → Prop} (q : P b) : ∃ k, V.int b = V.int k ∧ P k := ⟨b, rfl, q⟩
theorem atI_int {α : Type} {xs : List α} {d : Int} {v : α} (h0 : 0 ≤ d) (h : xs[d.toNat]? = some v) : atI xs d = some v := by
  have q := atI_nat h
  rw [Int.toNat_of_nonneg h0] at q
  exact q
theorem rd_exs {z : Str} {P : Str → Prop} (q : P z) : ∃ k, V.str z = V.str k ∧ P k := ⟨z, rfl, q⟩
theorem rd_exr {a : Addr} {P : Addr → Prop} (q : P a) : ∃ k, V.ref a = V.ref k ∧ P k := ⟨a, rfl, q⟩
theorem rd_eqI {i j : Int} {H : Hp} {Q : VK} (q : Q (.bl (decide (i = j))) H) : rEq (.int i) (.int j) H Q := ⟨rfl, by
  rw [show decide (V.int i = V.int j) = decide (i = j) from by
    by_cases h : i = j
    · rw [decide_eq_true h, h]; exact decide_eq_true rfl
    · rw [decide_eq_false h]; exact decide_eq_false fun z => h (V.int.inj z)]
  exact q⟩
theorem rd_neI {i j : Int} {H : Hp} {Q : VK} (q : Q (.bl (!decide (i = j))) H) : rNe (.int i) (.int j) H Q := ⟨rfl, by
  rw [show decide (V.int i = V.int j) = decide (i = j) from by
    by_cases h : i = j
    · rw [decide_eq_true h, h]; exact decide_eq_true rfl
    · rw [decide_eq_false h]; exact decide_eq_false fun z => h (V.int.inj z)]
  exact q⟩
theorem rd_eqS {i j : Str} {H : Hp} {Q : VK} (q : Q (.bl (decide (i = j))) H) : rEq (.str i) (.str j) H Q := ⟨rfl, by
  rw [show decide (V.str i = V.str j) = decide (i = j) from by
    by_cases h : i = j
    · rw [decide_eq_true h, h]; exact decide_eq_true rfl
    · rw [decide_eq_false h]; exact decide_eq_false fun z => h (V.str.inj z)]
  exact q⟩
theorem rd_neS {i j : Str} {H : Hp} {Q : VK} (q : Q (.bl (!decide (i = j))) H) : rNe (.str i) (.str j) H Q := ⟨rfl, by
  rw [show decide (V.str i = V.str j) = decide (i = j) from by
    by_cases h : i = j
    · rw [decide_eq_true h, h]; exact decide_eq_true rfl
    · rw [decide_eq_false h]; exact decide_eq_false fun z => h (V.str.inj z)]
  exact q⟩
theorem rd_eqB {i j : Bool} {H : Hp} {Q : VK} (q : Q (.bl (i == j)) H) : rEq (.bl i) (.bl j) H Q := ⟨rfl, by
  rw [show decide (V.bl i = V.bl j) = (i == j) from by cases i <;> cases j <;> rfl]
  exact q⟩
theorem rd_neB {i j : Bool} {H : Hp} {Q : VK} (q : Q (.bl (!(i == j))) H) : rNe (.bl i) (.bl j) H Q := ⟨rfl, by
  rw [show decide (V.bl i = V.bl j) = (i == j) from by cases i <;> cases j <;> rfl]
  exact q⟩
end Lay
end
section
namespace PySem
namespace OpsM
/-- enumerate(v) alone, v begun by B -/
theorem meets_enum1 {v : Value} {o : Obj} {Hq : Heap → Prop} (B : Begins v o Hq) :
    Meets (Builtin.«enumerate.__new__» ⟨[.type "enumerate", v], []⟩) (fun _ R s => Hq s.heap ∧
      R (.ok (.ret (.ref (s.heap.push o).objs.size))) { s with heap := (s.heap.push o).push { cls := .type "enumerate", data := .fields #[.none, .bool false, .ref s.heap.objs.size, rawInt 0, .none, .none] } }) := by
  refine .of_wp fun prog w A R s hR => ?_
  obtain ⟨hp, g, d, tk, os⟩ := s
  obtain ⟨hq0, hR⟩ := hR
  have subE := sub_enumerate
  have its : ∀ {A1 : Around} {E1 : Value → Shared → Prop} {Q1 : Value → Shared → Prop}, Q1 (.ref hp.objs.size) ⟨hp.push o, g, d, tk, os⟩ → wpAny (model prog w) A1 (pyIter v) Q1 E1 ⟨hp, g, d, tk, os⟩ :=
    fun z => B.iter prog w _ _ ⟨hp, g, d, tk, os⟩ _ hq0 z
  wp_walk using its
  refine wpAny_stack_any fun stk => wpAny_pure ?_
  split
  · rename_i cl _ _ _ _ _
    cases (cl == Value.type "enumerate")
    all_goals (wp_walk using its; exact ⟨_, rfl, hR⟩)
  · wp_walk using its; exact ⟨_, rfl, hR⟩
theorem call_enum1 {prog : Program} {w : World} {A : Around} {E : Value → Shared → Prop} {s : Shared} {v : Value} {o : Obj} {Hq : Heap → Prop} {Q : Value → Shared → Prop} (B : Begins v o Hq) (h1 : Hq s.heap)
    (h : ∀ h2, IsEnum h2 (s.heap.objs.size + 1) s.heap.objs.size 0 .none → h2.get? s.heap.objs.size = some o → (∀ b u, s.heap.get? b = some u → h2.get? b = some u) → Q (.ref (s.heap.objs.size + 1)) { s with heap := h2 }) :
    wpAny (model prog w) A (call (.type "enumerate") [v]) Q E s := by
  refine callType_new F.called_enumerate (by decide) (F.typeCall_enumerate_1 _) (F.newCall_enumerate_1 _) (fun obj => F.args_object_init_2 obj _) F.entry_enumerate_new (meets_enum1 B) ⟨h1, ?_⟩
  have hz : (s.heap.push o).objs.size = s.heap.objs.size + 1 := Heap.size_push ..
  show _ ∧ _
  rw [hz]
  have he : IsEnum ((s.heap.push o).push { cls := .type "enumerate", data := .fields #[.none, .bool false, .ref s.heap.objs.size, rawInt 0, .none, .none] }) (s.heap.objs.size + 1) s.heap.objs.size 0 .none := by
    have z := Heap.get?_push_size (s.heap.push o) (o := { cls := .type "enumerate", data := .fields #[.none, .bool false, .ref s.heap.objs.size, rawInt 0, .none, .none] }) rfl
    rw [hz] at z
    exact z
  exact ⟨⟨_, he, rfl⟩, h _ he (Heap.get?_push_of_some _ (Heap.get?_push_size _ B.free)) fun b u z => Heap.get?_push_of_some _ (Heap.get?_push_of_some _ z)⟩
end OpsM
end PySem
namespace Lay
open PySem PySem.Spec PyProof.Rows L2
/-! ### enumerate(tuple) -/
def Itet (K : PySem.W.Frag) (a : Addr) : It :=
  ⟨fun i H => ∃ (xs : List V) (x : V), SqT K H a xs ∧ xs[i]? = some x, fun i H v H' => ∃ T x, v = .ref T ∧ H T = none ∧ H' = upd H T (.tup [.int (i : Nat), x]) ∧ ∀ xs, SqT K H a xs → xs[i]? = some x, fun i H => ∃ xs : List V, SqT K H a xs ∧ xs.length ≤ i⟩
theorem tuple_iter_ne {h : Heap} {it a : Addr} {i : Nat} {its : Array Value} (h1 : h.IsTupleIter it a i) (h2 : h.IsTuple a its) : a ≠ it := fun z => by
  obtain ⟨o, e, c, d⟩ := h1
  obtain ⟨u, e2, c2, _⟩ := h2
  rw [z, e] at e2
  cases e2
  rw [c] at c2
  injection c2 with y
  exact absurd y (by decide)
theorem enum_ne {h : Heap} {e it a : Addr} {c : Int} {old : Value} {its : Array Value} (h1 : IsEnum h e it c old) (h2 : h.IsTuple a its) : e ≠ a := fun z => by
  obtain ⟨u, e2, c2, _⟩ := h2
  have h1' : h.get? e = some _ := h1
  rw [← z, h1'] at e2
  cases e2
  injection c2 with y
  exact absurd y (by decide)
theorem turn_enumT {P : Program} {w : World} {K : PySem.W.Frag} {elts : List Expr} {kk : Nat} {tpos : Pos} (a e it : Addr) :
    Turn P w K (.Tuple elts kk tpos) (Itet K a) [e, it] e (fun i h => (∃ old, IsEnum h e it ((i : Nat) : Int) old) ∧ h.IsTupleIter it a i ∧ e ≠ it) where
  mem := List.mem_cons_self ..
  obj := fun i h st b hb => by
    obtain ⟨⟨old, he⟩, ⟨o, ho, hc, hd⟩, _⟩ := st
    rcases List.mem_cons.mp hb with z | z
    · subst z; exact ⟨_, he, fun v q => nomatch q⟩
    · rw [List.mem_singleton.mp z]; exact ⟨o, ho, fun v q => by rw [hd] at q; cases q⟩
  keep := fun i h h2 st k => ⟨let ⟨old, he⟩ := st.1; ⟨old, k e (List.mem_cons_self ..) _ he⟩, st.2.1.at fun o q => k it (by simp) o q, st.2.2⟩
  item := by
    intro X hP hw hK hc i pins s σ H E I hf st hg
    subst hP hw hK
    obtain ⟨⟨old, he⟩, hit, hne⟩ := st
    obtain ⟨xs, x, hq, hx⟩ := hg
    obtain ⟨its, rv, p, hz⟩ := I.tuple hq
    obtain ⟨u, hu, ru⟩ := rv.get hx
    have hT : s.heap.IsTuple a its.toArray := p
    have hel : e < s.heap.objs.size := Heap.lt_size he
    have hil : it < s.heap.objs.size := by obtain ⟨_, q, _⟩ := hit; exact Heap.lt_size q
    have hei : e ∉ [it, a] := by
      intro z
      rcases List.mem_cons.mp z with z | z
      · exact hne z
      · exact enum_ne he hT (List.mem_singleton.mp z)
    have hlt : i < its.toArray.size := by
      have z := (List.getElem?_eq_some_iff.mp hu).1
      simpa using z
    refine wpAny_pyNext_enum_itemC (Draws.tuple (prog := X.prog) (w := X.w) (A := X.A.in1) (I.ok.hd hc) it a (tuple_iter_ne hit hT) its.toArray) he ⟨hit, hT⟩ hlt hne hei fun y h2 tk hy ho hst hTn hsz hk => ?_
    have ey : y = u := by
      have z : its.toArray[i]? = some u := by simpa using hu
      rw [z] at hy
      exact (Option.some.inj hy).symm
    subst ey
    refine ⟨_, rfl, wpAny_letOwnedTupleGo_enum (s := { s with heap := h2, toks := tk + 1 }) ho fun h3 he3 sb => ?_⟩
    have hT3 : h3.get? s.heap.objs.size = some { cls := .type "tuple", data := .seq #[.int i tk, y] } := (sb.2 _ (Nat.ne_of_gt hel)).trans hTn
    have new : ObjOk X.prog X.w (upd H s.heap.objs.size (.tup [.int (i : Nat), x])) h3 s.heap.objs.size (.tup [.int (i : Nat), x]) :=
      ⟨by show 2 ≤ sizeLine; decide, [.int i tk, y], .cons ⟨_, rfl⟩ (.cons ru .nil), ⟨_, hT3, rfl, _, rfl⟩⟩
    have I1 : Inv X pins σ (upd H s.heap.objs.size (.tup [.int (i : Nat), x])) { s with heap := h3, toks := tk + 1 } :=
      I.turnedNew (ch := [e, it]) (fun b ob hb q => (sb.2 b (fun z => hb (by rw [z]; exact List.mem_cons_self ..))).trans (hk b ob (fun z => hb (by rw [z]; exact List.mem_cons_self ..)) (fun z => hb (by simp [z])) q)) hf (Nat.le_refl _) new
    refine ⟨.ref s.heap.objs.size, _, I1, rfl, ⟨_, x, rfl, I.hok.fresh (Nat.le_refl _), rfl, fun ys hy => by rw [I.tuple_inj hy hq]; exact hx⟩, ⟨⟨y, ?_⟩, hst.1.at fun o q => (sb.2 it (Ne.symm hne)).trans q, hne⟩, fun b hb => ?_⟩
    · rw [show ((i + 1 : Nat) : Int) = (i : Int) + 1 from by omega]
      exact he3
    · have hlb : b < s.heap.objs.size := by
        rcases List.mem_cons.mp hb with z | z
        · rw [z]; exact hel
        · rw [List.mem_singleton.mp z]; exact hil
      rw [upd_ne (Nat.ne_of_lt hlb)]
      exact (hf b hb).1
  done := by
    intro X hP hw hK hc i pins s σ H E I hf st hg
    subst hP hw hK
    obtain ⟨⟨old, he⟩, hit, hne⟩ := st
    obtain ⟨xs, hq, hx⟩ := hg
    obtain ⟨its, rv, p, hz⟩ := I.tuple hq
    have hT : s.heap.IsTuple a its.toArray := p
    obtain ⟨f0, f1, f2, f3, f4, f5⟩ := hf it (by simp)
    have hn : its.toArray[i]? = none := by
      have z := rv.length
      simp only [List.getElem?_toArray, List.getElem?_eq_none_iff]
      omega
    have Dn : Draws X.prog X.w X.A.in1 it [it, a] i (fun _ _ => False) (fun j h => j = i ∧ h.IsTupleIter it a i ∧ h.IsTuple a its.toArray) :=
      ⟨fun j h z => let ⟨o, ho, _⟩ := z.2.1; ⟨o, ho⟩, fun j h h2 z k => ⟨z.1, z.2.1.at fun o q => k it (by simp) o q, z.2.2.at fun o q => k a (by simp) o q⟩,
        fun j s1 Q1 E1 hj z _ => absurd hj (by rw [z.1]; exact Nat.lt_irrefl _), fun s1 Q1 E1 z hE => wpAny_nextOf_tuple_end (I.ok.hd hc) z.2.1 z.2.2 hn hE⟩
    exact wpAny_pyNext_enum_endD Dn he ⟨rfl, hit, hT⟩ fun h2 eb => ⟨rfl, I.turned (t' := s.toks) (fun b o hb q => eb b o hb q) f0 f1 f3 f4 f5⟩
  self := fun A i s Q E st h => let ⟨⟨_, he⟩, _⟩ := st; wpAny_pyIter_enum he h
def iEnumT (K : PySem.W.Frag) (ta : TA) : TI := fun σ H R => ta σ H fun vs H1 => ∃ a xs, vs = [.ref a] ∧ SqT K H1 a xs ∧ R (Itet K a) H1
theorem pi_enumT {X : Cx} {e : Expr} {ta : TA} {p pos tpos : Pos} {elts : List Expr} {kk : Nat} (hg : Gl X "enumerate") (hm : X.mg "enumerate" = none) (ha : PA X [e] ta) (hs : starEach [e] X.env = [(false, eval e X.env)] := by rfl) :
    PI X (.Tuple elts kk tpos) (.Call (.Name "enumerate" p) [e] [] pos) (iEnumT X.K ta) := by
  refine ⟨fun pins s σ H R I h => ?_⟩
  refine Call_ (ld_blt I hg hm boot_enumerate (PyProof.Rows.callWith_type1 (thn (ha.run pos pins s σ H _ I h) fun us s1 ⟨vs, H1, I1, r1, a, xs, ex, hq, q⟩ => ?_) hs rfl))
  subst ex
  cases r1 with
  | cons r rr =>
    cases rr
    cases r
    obtain ⟨its, rv, pt, hz⟩ := I1.tuple hq
    have hT : s1.heap.IsTuple a its.toArray := pt
    refine OpsM.call_enum1 (begins_tuple a its.toArray) hT fun h2 he hit hk => wpAny_pyIter_enum he ?_
    have I2 : Inv X pins σ H1 { s1 with heap := h2 } := I1.kept (t' := s1.toks) hk
    refine ⟨s1.heap.objs.size + 1, [s1.heap.objs.size + 1, s1.heap.objs.size], _, _, H1, rfl, I2, turn_enumT a (s1.heap.objs.size + 1) s1.heap.objs.size, ⟨⟨.none, he⟩, ⟨_, hit, rfl, rfl⟩, Nat.succ_ne_self _⟩, fun b hb => ?_, q⟩
    have hle : s1.heap.objs.size ≤ b := by
      rcases List.mem_cons.mp hb with z | z
      · rw [z]; exact Nat.le_add_right _ _
      · rw [List.mem_singleton.mp z]; exact Nat.le_refl _
    exact I1.fpOk hle (I1.hok.fresh hle)
theorem walk_enumT {K : PySem.W.Frag} {a : Addr} {xs : List V} : Walk (Itet K a) xs.length (fun H => SqT K H a xs) (YPair (fun i => some (.int (i : Nat))) (fun i => xs[i]?)) := by
  refine ⟨fun i _ hi q => ⟨xs, xs[i], q, by simp [hi]⟩, fun _ q => ⟨xs, q, Nat.le_refl _⟩, fun i H v H' _ q y => ?_⟩
  obtain ⟨T, x, h1, h2, h3, h4⟩ := y
  exact ⟨T, _, x, h1, h2, h3, rfl, h4 xs q⟩
end Lay
end
section
namespace PySem
namespace OpsM
open SeqAt
open AutoSeq1 (wpAny_loadPart')
theorem str_eq_any (b : Str) (u : Tok) (l : Addr) (c : Value) (dd : Option Addr) (es : Array DictEntry) (ep : Nat) (sl : Array (Option Value)) :
    Meets (Builtin.«str.__eq__» ⟨[.str b u, .ref l], []⟩) (fun _ R s => s.heap.get? l = some { cls := c, dict := dd, data := .dict es ep, slots := sl } ∧ R (.ok (.ret .notImplemented)) s) := by
  refine .of_wp fun prog w A R s h => ?_
  obtain ⟨hp, g, d, tk, os⟩ := s
  obtain ⟨hl, hR⟩ := h
  wp_walk using wpAny_loadPart' hl, wpAny_load hl
  exact ⟨_, rfl, hR⟩
section
variable {prog : Program} {w : World} {A : Around} {E : Value → Shared → Prop} {s : Shared}
theorem dict_eq_str {d : Addr} {b : Str} {u : Tok} {Q : Value → Shared → Prop} (hd : s.TypeIs (.ref d) "dict") (h : Q .notImplemented s) : wpAny (model prog w) A (call (.builtin "dict.__eq__") [.ref d, .str b u]) Q E s := by
  refine wpAny_call_entry PySem.F.slot_dict_eq hd PySem.F.entry_dict_eq ?_ (PySem.F.args_dict_eq_2 _ _)
  show wpAny _ _ (Builtin.Dict.dictSlotArgs "__eq__" ⟨[.ref d, .str b u], []⟩ >>= _) _ _ s
  refine wpAny_bind ?_
  unfold Builtin.Dict.dictSlotArgs
  refine wpAny_bind (wpAny_notOrdered_dict hd ?_)
  show wpAny _ _ (pure (Value.ref d, Value.str b u)) _ _ s
  refine wpAny_pure ?_
  refine wpAny_bind (wpAny_isInstance (T := "str") (typeIs_str s b u) PySem.F.sub_str_dict ?_)
  simp only [Bool.not_false, if_true]
  exact wpAny_bind (wpAny_rule (wpAny_pure ⟨_, rfl, h⟩))
theorem rc_str_dict {d : Addr} {o : Obj} (b : Str) (u : Tok) (ho : s.heap.get? d = some o) (hc : o.cls = .type "dict") (hd : ∃ es ep, o.data = .dict es ep) (hu : A.units < cLine) : RcAt A s (.str b u) (.ref d) false := fun prog w E Q h => by
  obtain ⟨es, ep, hd⟩ := hd
  obtain ⟨c, dd, dt, sl⟩ := o
  simp only at hc hd
  subst hc hd
  have hT : s.TypeIs (.ref d) "dict" := ⟨_, ho, rfl⟩
  exact rc_eq_decline_or (k := false) (typeIs_str s b u) hT (by decide) F.sub_dict_str F.slot_str_eq F.slot_dict_eq_refl
    (fun _ hq => call_meets F.slot_str_eq (typeIs_str s b u) F.entry_str_eq (F.args_str_eq_2 _ _) (str_eq_any b u d _ dd es ep sl) ⟨ho, hq⟩)
    (fun _ hq => dict_eq_str hT hq) (fun _ hq => wpAny_of_eq (rfl : isSame (.str b u) (.ref d) = pure false) hq) (.inr hu) h
theorem eq_str_dict {d : Addr} {o : Obj} (b : Str) (u : Tok) (ho : s.heap.get? d = some o) (hc : o.cls = .type "dict") (hd : ∃ es ep, o.data = .dict es ep) (hu : A.units < cLine) : EqAt A s (.str b u) (.ref d) false := fun prog w E Q h => by
  unfold eqBool
  refine wpAny_holding (wpAny_ite_split (fun z => absurd (eq_of_beq z) nofun) fun _ => ?_)
  exact wpAny_bind (rc_str_dict b u ho hc hd hu prog w E _ (wpAny_truthy_bool h))
end
end OpsM
end PySem
namespace Lay
open PySem PySem.Spec PyProof.Rows L2
/-! ### the kinds of any value -/
inductive Kn where
  | non | bool | int | str | list | tuple | dict
def Kn.name : Kn → String
  | .non => "NoneType"
  | .bool => "bool"
  | .int => "int"
  | .str => "str"
  | .list => "list"
  | .tuple => "tuple"
  | .dict => "dict"
/-- a value of the kind t is an instance of the class n -/
def isTy : Kn → Kn → Bool
  | .non, .non => true
  | .bool, .bool => true
  | .bool, .int => true
  | .int, .int => true
  | .str, .str => true
  | .list, .list => true
  | .tuple, .tuple => true
  | .dict, .dict => true
  | _, _ => false
theorem isTy_ok {K : PySem.W.Frag} (t n : Kn) : PySem.W.kitOne K (.type t.name) (.type n.name) = some (isTy t n) := by
  cases t <;> cases n <;> exact kit_ty (by decide +kernel)
inductive Kd (H : Hp) : V → Kn → Prop
  | non : Kd H .non .non
  | bl (b : Bool) : Kd H (.bl b) .bool
  | int (i : Int) : Kd H (.int i) .int
  | str (z : Str) : Kd H (.str z) .str
  | lst {a : Addr} {xs : List V} (h : H a = some (.lst xs)) : Kd H (.ref a) .list
  | tup {a : Addr} {xs : List V} (h : H a = some (.tup xs)) : Kd H (.ref a) .tuple
  | dK {a : Addr} {kvs : List (Key × V)} (h : H a = some (.dK kvs)) : Kd H (.ref a) .dict
theorem Kd.same {H H' : Hp} {v : V} {t : Kn} (s : ∀ b o, v = .ref b → H b = some o → H' b = some o) (k : Kd H v t) : Kd H' v t := by
  cases k with
  | non => exact .non
  | bl b => exact .bl b
  | int i => exact .int i
  | str z => exact .str z
  | lst h => exact .lst (s _ _ rfl h)
  | tup h => exact .tup (s _ _ rfl h)
  | dK h => exact .dK (s _ _ rfl h)
theorem Kd.mono {H H' : Hp} {v : V} {t : Kn} (s : Same H H') (k : Kd H v t) : Kd H' v t := k.same fun b o _ h => s b o h
theorem Kd.ty {K : PySem.W.Frag} {H : Hp} {v : V} {t : Kn} (k : Kd H v t) : TyX K H v (.type t.name) := by
  cases k with
  | non => exact .base .non
  | bl b => exact .base (.bl b)
  | int i => exact .base (.int i)
  | str z => exact .base (.str z)
  | lst h => exact .base (.lst h)
  | tup h => exact .base (.tup h)
  | dK h => exact .base (.dK h)
theorem rd_isi {K : PySem.W.Frag} {H : Hp} {Q : VK} {x : V} {t : Kn} (n : Kn) (k : Kd H x t) (q : Q (.bl (isTy t n)) H) : rIsi K [x, .ty n.name] H Q :=
  ⟨x, .ty n.name, .type t.name, .type n.name, isTy t n, rfl, .ty n.name, k.ty, isTy_ok t n, q⟩
/-! ### any value in a row of texts -/
def inStrs (x : V) (zs : List Str) : Bool := match x with | .str z => zs.contains z | _ => false
theorem memS {X : Cx} {pins : List (Addr × Obj)} {σ : L2.St} {H : Hp} {s : Shared} {A : Around} (I : Inv X pins σ H s) (hu : A.units < cLine) {x : V} {v : Value} {t : Kn} (rx : RelV x v) (k : Kd H x t) :
    ∀ (zs : List Str) (us : List Value), Vals (zs.map V.str) us → ∃ f : Value → Bool, us.any f = inStrs x zs ∧ ∀ u ∈ us, SeqAt.EqAt A s u v (f u) := by
  by_cases hx : ∃ z, x = .str z
  · obtain ⟨z, rfl⟩ := hx
    intro zs us r
    have fl : (zs.map V.str).all flatV = true := by
      rw [List.all_eq_true]
      intro y hy
      obtain ⟨w, _, rfl⟩ := List.mem_map.mp hy
      rfl
    refine ⟨eqU (.str z), ?_, fun u hu => mem_eqAt rx rfl r fl u hu⟩
    rw [any_eqU r fl]
    show ((zs.map V.str).any fun y => eqV y (.str z)) = zs.contains z
    clear r fl
    induction zs with
    | nil => rfl
    | cons a l ih =>
      rw [List.map_cons, List.any_cons, ih, List.contains_cons]
      congr 1
      show eqV (.str a) (.str z) = (z == a)
      by_cases h : a = z
      · subst h
        simp [eqV]
      · have h2 : ¬ z = a := fun y => h y.symm
        rw [show (z == a) = false from by simpa using h2]
        simp [eqV, h]
  · have no : ∀ zs, inStrs x zs = false := fun zs => by
      cases x with
      | str z => exact absurd ⟨z, rfl⟩ hx
      | _ => rfl
    have one : ∀ (z : Str) (u : Value), RelV (.str z) u → SeqAt.EqAt A s u v false := by
      intro z u ru
      obtain ⟨tk, rfl⟩ := ru
      cases k with
      | non => cases rx; exact SeqAt.EqAt.str_none z tk
      | bl b => cases rx; exact SeqAt.EqAt.str_bool z tk b
      | int i => obtain ⟨t', rfl⟩ := rx; exact SeqAt.EqAt.str_int z tk i t'
      | str y => exact absurd ⟨y, rfl⟩ hx
      | lst h =>
        cases rx
        obtain ⟨_, its, n, _, e⟩ := I.hok _ _ h
        exact SeqAt.EqAt.str_list z tk (items := its.toArray) ⟨_, e, rfl, _, rfl⟩ hu
      | tup h =>
        cases rx
        obtain ⟨_, its, _, e⟩ := I.hok _ _ h
        exact SeqAt.EqAt.str_tuple z tk (items := its.toArray) e hu
      | dK h =>
        cases rx
        obtain ⟨_, _, vs, _, o, es, ep, e, ex, hd, _⟩ := I.hok _ _ h
        exact OpsM.eq_str_dict z tk e ex.1 ⟨_, _, hd⟩ hu
    intro zs us r
    refine ⟨fun _ => false, by rw [no]; simp, ?_⟩
    induction zs generalizing us with
    | nil => cases r; exact fun u hu => nomatch hu
    | cons a l ih =>
      cases r with
      | cons r1 r2 =>
        intro u hm
        rcases List.mem_cons.mp hm with e | hm
        · subst e; exact one a _ r1
        · exact ih _ r2 u hm
def rInS (K : PySem.W.Frag) : R2 := fun x y H Q => ∃ (p : Addr) (zs : List Str) (t : Kn), y = .ref p ∧ (SqT K H p (zs.map V.str) ∨ SqL K H p (zs.map V.str)) ∧ Kd H x t ∧ Q (.bl (inStrs x zs)) H
def rNotInS (K : PySem.W.Frag) : R2 := fun x y H Q => ∃ (p : Addr) (zs : List Str) (t : Kn), y = .ref p ∧ (SqT K H p (zs.map V.str) ∨ SqL K H p (zs.map V.str)) ∧ Kd H x t ∧ Q (.bl (!inStrs x zs)) H
theorem op_inS {X : Cx} (hu : X.A.units + 64 < cLine) : OpR X (compareOp .In) (rInS X.K) := by
  intro pins s σ H x y v u Q I rx ry h
  obtain ⟨p, zs, t, rfl, hq, k, q⟩ := h
  cases ry
  have hu1 : X.A.in1.units < cLine := by show X.A.units + 1 < cLine; omega
  rcases hq with hq | hq
  · obtain ⟨its, r, pl, hz⟩ := I.tuple hq
    obtain ⟨f, e, m⟩ := memS I hu1 rx k _ _ r
    refine SeqAt.in_tupleAt f pl (fun w hw => m w (by simpa using hw)) ⟨.bl _, H, I, rfl, ?_⟩
    rw [show its.toArray.any f = its.any f by simp, e]
    exact q
  · obtain ⟨its, r, pl, hz⟩ := I.list hq
    obtain ⟨f, e, m⟩ := memS I hu1 rx k _ _ r
    refine SeqAt.in_listAt f pl.isList (fun w hw => m w (by simpa using hw)) ⟨.bl _, H, I, rfl, ?_⟩
    rw [show its.toArray.any f = its.any f by simp, e]
    exact q
theorem op_notInS {X : Cx} (hu : X.A.units + 64 < cLine) : OpR X (compareOp .NotIn) (rNotInS X.K) := by
  intro pins s σ H x y v u Q I rx ry h
  obtain ⟨p, zs, t, rfl, hq, k, q⟩ := h
  cases ry
  have hu1 : X.A.in1.units < cLine := by show X.A.units + 1 < cLine; omega
  rcases hq with hq | hq
  · obtain ⟨its, r, pl, hz⟩ := I.tuple hq
    obtain ⟨f, e, m⟩ := memS I hu1 rx k _ _ r
    refine SeqAt.notIn_tupleAt f pl (fun w hw => m w (by simpa using hw)) ⟨.bl _, H, I, rfl, ?_⟩
    rw [show its.toArray.any f = its.any f by simp, e]
    exact q
  · obtain ⟨its, r, pl, hz⟩ := I.list hq
    obtain ⟨f, e, m⟩ := memS I hu1 rx k _ _ r
    refine SeqAt.notIn_listAt f pl.isList (fun w hw => m w (by simpa using hw)) ⟨.bl _, H, I, rfl, ?_⟩
    rw [show its.toArray.any f = its.any f by simp, e]
    exact q
theorem rd_inS {K : PySem.W.Frag} {H : Hp} {Q : VK} {x : V} {p : Addr} {zs : List Str} {t : Kn} (h : SqT K H p (zs.map V.str)) (k : Kd H x t) (q : Q (.bl (inStrs x zs)) H) : rInS K x (.ref p) H Q := ⟨p, zs, t, rfl, .inl h, k, q⟩
theorem rd_inSL {K : PySem.W.Frag} {H : Hp} {Q : VK} {x : V} {p : Addr} {zs : List Str} {t : Kn} (h : SqL K H p (zs.map V.str)) (k : Kd H x t) (q : Q (.bl (inStrs x zs)) H) : rInS K x (.ref p) H Q := ⟨p, zs, t, rfl, .inr h, k, q⟩
theorem rd_notInS {K : PySem.W.Frag} {H : Hp} {Q : VK} {x : V} {p : Addr} {zs : List Str} {t : Kn} (h : SqT K H p (zs.map V.str)) (k : Kd H x t) (q : Q (.bl (!inStrs x zs)) H) : rNotInS K x (.ref p) H Q := ⟨p, zs, t, rfl, .inl h, k, q⟩
theorem rd_notInSL {K : PySem.W.Frag} {H : Hp} {Q : VK} {x : V} {p : Addr} {zs : List Str} {t : Kn} (h : SqL K H p (zs.map V.str)) (k : Kd H x t) (q : Q (.bl (!inStrs x zs)) H) : rNotInS K x (.ref p) H Q := ⟨p, zs, t, rfl, .inr h, k, q⟩
end Lay
end
section
namespace Lay
open PySem PySem.Spec PyProof.Rows L2
/-! ### comprehensions: D the new list, R what holds of what it has so far and of all else -/
def PvL (D : Addr) (R : Nat → List V → Hp → Prop) (i : Nat) (H : Hp) : Prop := ∃ l, H D = some (.lst l) ∧ l.length ≤ i ∧ R i l H
theorem lc_put {D : Addr} {R : Nat → List V → Hp → Prop} {i : Nat} {l : List V} {y : V} {H : Hp} (h : H D = some (.lst l)) (hl : l.length ≤ i) (hi : i < 100000) (r : R (i + 1) (l ++ [y]) (upd H D (.lst (l ++ [y])))) :
    ∃ acc, H D = some (.lst acc) ∧ acc.length < sizeLine ∧ PvL D R (i + 1) (upd H D (.lst (acc ++ [y]))) :=
  ⟨l, h, Nat.lt_of_le_of_lt hl (Nat.lt_of_lt_of_le hi (by decide)), l ++ [y], upd_same, by rw [List.length_append]; exact Nat.add_le_add_right hl 1, r⟩
theorem lc_skip {D : Addr} {R : Nat → List V → Hp → Prop} {i : Nat} {l : List V} {H : Hp} (h : H D = some (.lst l)) (hl : l.length ≤ i) (r : R (i + 1) l H) : PvL D R (i + 1) H := ⟨l, h, Nat.le_succ_of_le hl, r⟩
theorem lc_go {J : It} {n : Nat} {G : Hp → Prop} {Y : Nat → Hp → V → Hp → Prop} (w : Walk J n G Y) {g : TG} {tt : TT} {te : TE} {vs : List Nat} {σ : L2.St} {H1 : Hp} {D : Addr} {Qd : Hp → Prop}
    (R : Nat → List V → Hp → Prop) (h0 : R 0 [] (upd H1 D (.lst []))) (hG : ∀ i l H, i ≤ n → R i l H → G H)
    (hs : ∀ i l x H H', i < n → H D = some (.lst l) → l.length ≤ i → R i l H → Y i H x H' → g x (wipe σ vs) H' fun σ2 H2 => wipe σ2 vs = wipe σ vs ∧ tt σ2 H2 fun b H3 =>
      if b = true then te σ2 H3 fun y H4 => ∃ acc, H4 D = some (.lst acc) ∧ acc.length < sizeLine ∧ PvL D R (i + 1) (upd H4 D (.lst (acc ++ [y]))) else PvL D R (i + 1) H3)
    (hd : ∀ l H, H D = some (.lst l) → l.length ≤ n → R n l H → Qd H) :
    ∃ W : Nat → Nat → Hp → Prop, (∃ m, W 0 m (upd H1 D (.lst []))) ∧ ∀ i m H, W i m H →
      (J.stop i H ∧ Qd H) ∨ (J.go i H ∧ ∃ Nx : Hp → Prop, (∀ H', Nx H' → ∃ m', m' < m ∧ W (i + 1) m' H') ∧ ∀ x H', J.yld i H x H' → g x (wipe σ vs) H' fun σ2 H2 => wipe σ2 vs = wipe σ vs ∧ tt σ2 H2 fun b H3 =>
        if b = true then te σ2 H3 fun y H4 => ∃ acc, H4 D = some (.lst acc) ∧ acc.length < sizeLine ∧ Nx (upd H4 D (.lst (acc ++ [y]))) else Nx H3) :=
  lc_it w (PvL D R) ⟨[], upd_same, Nat.le_refl _, h0⟩ (fun i H hi ⟨l, _, _, r⟩ => hG i l H hi r) (fun i x H H' hi ⟨l, hl, hz, r⟩ y => hs i l x H H' hi hl hz r y) (fun H ⟨l, hl, hz, r⟩ => hd l H hl hz r)
section
variable {K : PySem.W.Frag} {σ : L2.St} {H : Hp} {Q : VK} {tA : TA} {te : TE} {R : It → Hp → Prop}
theorem rd_lc {wi : TI} {g : TG} {tt : TT} {vs : List Nat} (h : wi σ H fun J H1 => ∀ D, H1 D = none → ∃ W : Nat → Nat → Hp → Prop, (∃ m, W 0 m (upd H1 D (.lst []))) ∧ ∀ i m H, W i m H →
    (J.stop i H ∧ Q (.ref D) H) ∨ (J.go i H ∧ ∃ Nx : Hp → Prop, (∀ H', Nx H' → ∃ m', m' < m ∧ W (i + 1) m' H') ∧ ∀ x H', J.yld i H x H' → g x (wipe σ vs) H' fun σ2 H2 => wipe σ2 vs = wipe σ vs ∧ tt σ2 H2 fun b H3 =>
      if b = true then te σ2 H3 fun y H4 => ∃ acc, H4 D = some (.lst acc) ∧ acc.length < sizeLine ∧ Nx (upd H4 D (.lst (acc ++ [y]))) else Nx H3)) : tLc wi g tt te vs σ H Q := h
theorem rd_for {wi : TI} {g : TG} {tb : TS} {D : Ends} (h : wi σ H fun J H1 => ∃ W : Nat → Nat → L2.St → Hp → Prop, (∃ m, W 0 m σ H1) ∧ ∀ i m σ H, W i m σ H →
    (J.stop i H ∧ D.nx σ H) ∨ (J.go i H ∧ ∃ N : L2.St → Hp → Prop, (∀ σ' H', N σ' H' → ∃ m', m' < m ∧ W (i + 1) m' σ' H') ∧ ∀ x H', J.yld i H x H' → g x σ H' fun σ2 H2 => tb { D with nx := N, ct := N, bk := D.nx } σ2 H2)) : tFor wi g tb D σ H := h
theorem rd_iStr (h : te σ H fun x H1 => ∃ z, x = .str z ∧ R (Its z) H1) : iStr te σ H R := h
theorem rd_iList (h : te σ H fun x H1 => ∃ a, x = .ref a ∧ (∃ xs, SqL K H1 a xs) ∧ R (Itl K a) H1) : iList K te σ H R := h
theorem rd_iTup (h : te σ H fun x H1 => ∃ a, x = .ref a ∧ (∃ xs, SqT K H1 a xs) ∧ R (Itt K a) H1) : iTup K te σ H R := h
theorem rd_iRng1 (h : tA σ H fun vs H1 => ∃ j : Int, vs = [.int j] ∧ -(2 ^ 62) ≤ j ∧ j < 2 ^ 62 ∧ R (Itr 0 j.toNat) H1) : iRng1 tA σ H R := h
theorem rd_iEnumT (h : tA σ H fun vs H1 => ∃ a xs, vs = [.ref a] ∧ SqT K H1 a xs ∧ R (Itet K a) H1) : iEnumT K tA σ H R := h
theorem rd_yes {QT : Bool → Hp → Prop} (h : QT true H) : tYes H' H QT := h
def rSign : R2 := fun x y H Q => ∃ (c : Nat) (z : Str), x = .str ⟨#[c]⟩ ∧ y = .str z ∧ Q (.bl (decide (c ∈ z.cps.toList))) H
theorem op_sign {X : Cx} : OpR X (compareOp .In) rSign := op_in_sign
theorem rd_sign {H : Hp} {Q : VK} {c : Nat} {z : Str} (q : Q (.bl (decide (c ∈ z.cps.toList))) H) : rSign (.str ⟨#[c]⟩) (.str z) H Q := ⟨c, z, rfl, rfl, q⟩
theorem rd_lenV {H : Hp} {Q : VK} {z : Str} (h : z.length ≤ 100000) (q : Q (.int z.length) H) : rLenStr [.str z] H Q := ⟨z, rfl, Nat.le_trans h (by decide), q⟩
theorem rd_chain {r r' : R2} {ta tb tc : TE} (h : ta σ H fun x H1 => tb σ H1 fun y H2 => r x y H2 fun z H3 => ∃ k, z = .bl k ∧ (if k = true then tc σ H3 fun w' H4 => r' y w' H4 Q else Q (.bl false) H3)) : tChain r r' ta tb tc σ H Q := h
end
theorem rd_alls {K : PySem.W.Frag} {H : Hp} {Q : VK} {a : Addr} {bs : List Bool} (h : SqL K H a (bs.map V.bl)) (q : Q (.bl (bs.all id)) H) : rAll K [.ref a] H Q := ⟨a, bs, rfl, h, q⟩
theorem rd_anys {K : PySem.W.Frag} {H : Hp} {Q : VK} {a : Addr} {bs : List Bool} (h : SqL K H a (bs.map V.bl)) (q : Q (.bl (bs.any id)) H) : rAny K [.ref a] H Q := ⟨a, bs, rfl, h, q⟩
theorem take_succ {α : Type} {xs : List α} {i : Nat} {x : α} (h : xs[i]? = some x) : xs.take (i + 1) = xs.take i ++ [x] := by
  rw [List.take_add_one, h]; rfl
/-! ### names -/
def nameOk (z : Str) : Bool := decide (1 ≤ z.length) && decide (z.length ≤ 8) && z.cps.toList.all fun c => decide (97 ≤ c) && decide (c ≤ 122)
def isInt : V → Bool
  | .int _ => true
  | _ => false
def within (v : V) (lo hi : Int) : Bool := match v with
  | .int i => decide (lo ≤ i) && decide (i ≤ hi)
  | _ => false
def isName (v : V) : Bool := match v with
  | .str z => nameOk z
  | _ => false
def alphabet : Str := "abcdefghijklmnopqrstuvwxyz"
theorem in_alphabet (c : Nat) : decide (c ∈ alphabet.cps.toList) = (decide (97 ≤ c) && decide (c ≤ 122)) := by
  have e : alphabet.cps.toList = [97, 98, 99, 100, 101, 102, 103, 104, 105, 106, 107, 108, 109, 110, 111, 112, 113, 114, 115, 116, 117, 118, 119, 120, 121, 122] := by decide +kernel
  rw [e]
  by_cases h : 97 ≤ c ∧ c ≤ 122
  · rw [decide_eq_true h.1, decide_eq_true h.2]
    refine decide_eq_true ?_
    simp only [List.mem_cons, List.not_mem_nil, or_false]
    omega
  · have z : (decide (97 ≤ c) && decide (c ≤ 122)) = false := by
      rw [Bool.and_eq_false_iff]
      by_cases h1 : 97 ≤ c
      · right; exact decide_eq_false fun h2 => h ⟨h1, h2⟩
      · left; exact decide_eq_false h1
    rw [z]
    refine decide_eq_false ?_
    simp only [List.mem_cons, List.not_mem_nil, or_false]
    omega
def spIsInteger : Sp := fun vs H Q _ => ∃ v t, vs = [v] ∧ Kd H v t ∧ Q (.bl (isInt v)) H
def spIsWithin : Sp := fun vs H Q _ => ∃ v t lo hi, vs = [v, .int lo, .int hi] ∧ Kd H v t ∧ Q (.bl (within v lo hi)) H
def spIsName : Sp := fun vs H Q _ => ∃ v t, vs = [v] ∧ Kd H v t ∧ (∀ z, v = .str z → z.length ≤ 100000) ∧ ∀ H', Same H H' → Q (.bl (isName v)) H'
theorem rd_forW {J : It} {n : Nat} {G : Hp → Prop} {Y : Nat → Hp → V → Hp → Prop} {wi : TI} {g : TG} {tb : TS} {D : Ends} {σ : L2.St} {H H1 : Hp} (hw : ∀ R : It → Hp → Prop, R J H1 → wi σ H R) (w : Walk J n G Y) (Pv : Nat → L2.St → Hp → Prop) (h0 : Pv 0 σ H1)
    (hG : ∀ i σ H, i ≤ n → Pv i σ H → G H) (hs : ∀ i x σ H H', i < n → Pv i σ H → Y i H x H' → g x σ H' fun σ2 H2 => tb { D with nx := Pv (i + 1), ct := Pv (i + 1), bk := D.nx } σ2 H2) (hd : ∀ σ H, Pv n σ H → D.nx σ H) : tFor wi g tb D σ H :=
  hw _ (for_it w Pv h0 hG hs hd)
end Lay
end
section
namespace Lay
open PySem PySem.Spec PyProof.Rows L2
theorem ite_nb {b : Bool} {A B : Prop} (h1 : b = false → A) (h2 : b = true → B) : if (!b) = true then A else B := by
  cases b
  · exact iteT (h1 rfl)
  · exact iteF (h2 rfl)
theorem rd_gtup {K : PySem.W.Frag} {n : Nat} {t : TGs} {a : Addr} {xs : List V} {σ : L2.St} {H : Hp} {Q : L2.St → Hp → Prop} (h : SqT K H a xs) (hn : xs.length = n) (q : t xs σ H Q) : gTup K n t (.ref a) σ H Q := ⟨a, xs, rfl, h, hn, q⟩
theorem rd_gcons {t : TG} {u : TGs} {v : V} {r : List V} {σ : L2.St} {H : Hp} {Q : L2.St → Hp → Prop} (q : t v σ H fun σ' H' => u r σ' H' Q) : gCons t u (v :: r) σ H Q := ⟨v, r, rfl, q⟩
theorem rd_gnil {σ : L2.St} {H : Hp} {Q : L2.St → Hp → Prop} (q : Q σ H) : gNil [] σ H Q := ⟨rfl, q⟩
/-! ### steps -/
def memWords : List Str := ["read", "write", "get", "put", "clean", "drop", "flush"]
def sigWords : List Str := ["post", "wait"]
def GoodStep (ws : List Str) (l : List V) : Prop :=
  (∃ w n, l = [.str w, .str n] ∧ w ∈ sigWords ∧ w ∈ ws ∧ nameOk n = true) ∨
  (∃ w n s f e, l = [.str w, .str n, .int s, .int f, .int e] ∧ w ∈ memWords ∧ w ∈ ws ∧ nameOk n = true ∧ 0 ≤ s ∧ s ≤ 3 ∧ 0 ≤ f ∧ f ≤ e ∧ e ≤ 7)
def StepAt (H : Hp) (ws : List Str) (v : V) : Prop := ∃ p l, v = .ref p ∧ H p = some (.tup l) ∧ GoodStep ws l
theorem StepAt.mono {H H' : Hp} {ws : List Str} {v : V} (s : Same H H') (h : StepAt H ws v) : StepAt H' ws v := by
  obtain ⟨p, l, e, h, g⟩ := h
  exact ⟨p, l, e, s _ _ h, g⟩
theorem nameOk_len {z : Str} (h : nameOk z = true) : 1 ≤ z.length ∧ z.length ≤ 8 := by
  unfold nameOk at h
  rw [Bool.and_eq_true, Bool.and_eq_true] at h
  exact ⟨of_decide_eq_true h.1.1, of_decide_eq_true h.1.2⟩
def spMemStep : Sp := fun vs H Q _ => ∃ p w n s f e, vs = [.ref p] ∧ H p = some (.tup [.str w, .str n, .int s, .int f, .int e]) ∧ w ∈ memWords ∧ nameOk n = true ∧ 0 ≤ s ∧ s ≤ 3 ∧ 0 ≤ f ∧ f ≤ e ∧ e ≤ 7 ∧ ∀ H', Same H H' → Q (.bl true) H'
def spIsStep : Sp := fun vs H Q _ => ∃ p l ws, vs = [.ref p] ∧ H p = some (.tup l) ∧ GoodStep ws l ∧ ∀ H', Same H H' → Q (.bl true) H'
def spCheckAgent (K : PySem.W.Frag) : Sp := fun vs H Q _ => ∃ z t wt ws steps, vs = [.str z, .ref t, .ref wt] ∧ nameOk z = true ∧ H t = some (.tup steps) ∧ 1 ≤ steps.length ∧ steps.length ≤ 24 ∧ SqT K H wt (ws.map V.str) ∧
  (∀ s ∈ steps, StepAt H ws s) ∧ ∀ H', Same H H' → Q .non H'
theorem inStrs_of {w : Str} {zs : List Str} (h : w ∈ zs) : inStrs (.str w) zs = true := by
  show zs.contains w = true
  rw [List.contains_iff_mem]; exact h
theorem of_inStrs {w : Str} {zs : List Str} (h : inStrs (.str w) zs = false) : w ∉ zs := fun m => by
  rw [inStrs_of m] at h; cases h
end Lay
namespace Lay
open PySem PySem.Spec PyProof.Rows L2
section
variable {K : PySem.W.Frag} {σ : L2.St} {H : Hp} {D : Ends} {ta tv : TE} {f : Str}
theorem rd_sFld (h : tv σ H fun y H1 => ta σ H1 fun x H2 => ∃ a C dx fs, x = .ref a ∧ H2 a = some (.ins C dx fs) ∧ Cls K C ∧ NoAttr K C f ∧ fs.length < 1000 ∧ D.nx σ (upd H2 a (.ins C dx (putF f y fs)))) : sFld K ta tv f D σ H := h
theorem rd_tFld {Q : VK} (h : ta σ H fun x H1 => ∃ a C dx fs v, x = .ref a ∧ H1 a = some (.ins C dx fs) ∧ Cls K C ∧ NoAttr K C f ∧ fs.lookup f = some v ∧ Q v H1) : tFld K ta f σ H Q := h
theorem rd_tCon {Q : VK} (h : ta σ H fun x H1 => ∃ a C dx fs v u, x = .ref a ∧ H1 a = some (.ins C dx fs) ∧ Cls K C ∧ Con K C f v u ∧ fs.lookup f = none ∧ Q v H1) : tCon K ta f σ H Q := h
theorem rd_makeR {C : Addr} {sp : Sp} {E : XK} {t : TA} {Q : VK} (h : t σ H fun vs H1 => ∀ x dx, H1 x = none → H1 dx = none → dx ≠ x →
  sp (V.ref x :: vs) (upd (upd H1 dx (.own x)) x (.ins C dx [])) (fun v H2 => v = .non ∧ Q (.ref x) H2) E) : StX.tMakeR C sp E t σ H Q := h
end
/-- an agent's fields -/
def agentF (z : Str) (t : Addr) : List (Str × V) := [("name", .str z), ("steps", .ref t)]
theorem putF_agent (z : Str) (t : Addr) : putF "steps" (.ref t) (putF "name" (.str z) []) = agentF z t := by
  have h : ¬ (("name" : Str) = "steps") := by decide +kernel
  show (if ("name" : Str) = "steps" then _ else (("name" : Str), V.str z) :: putF "steps" (V.ref t) []) = _
  rw [if_neg h]
  rfl
/-- an agent of the class C, of the name z, with these steps -/
def AgentAt (C : Addr) (H : Hp) (a : Addr) (z : Str) (steps : List V) : Prop := ∃ dx t, H a = some (.ins C dx (agentF z t)) ∧ H t = some (.tup steps)
theorem AgentAt.mono {C : Addr} {H H' : Hp} {a : Addr} {z : Str} {steps : List V} (s : Same H H') (h : AgentAt C H a z steps) : AgentAt C H' a z steps := by
  obtain ⟨dx, t, h1, h2⟩ := h
  exact ⟨dx, t, s _ _ h1, s _ _ h2⟩
/-- __init__(self, name, *steps), the steps good ones -/
def spAgentInit (C : Addr) (ws : List Str) : Sp := fun vs H Q _ => ∃ x dx z t steps, vs = [.ref x, .str z, .ref t] ∧ H x = some (.ins C dx []) ∧ nameOk z = true ∧ H t = some (.tup steps) ∧ 1 ≤ steps.length ∧ steps.length ≤ 24 ∧ (∀ s ∈ steps, StepAt H ws s) ∧
  ∀ H', AgentAt C H' x z steps → Keep x H H' → Q .non H'
def spStar (n : Nat) (sp : Sp) : Sp := fun vs H Q E => ∃ ws rest, vs = ws ++ rest ∧ ws.length = n ∧ rest.length ≤ sizeLine ∧ ∀ p, H p = none → sp (ws ++ [V.ref p]) (upd H p (.tup rest)) Q E
end Lay
end
section
namespace Lay
open PySem PySem.Spec PyProof.Rows L2
theorem PenAt.at_ {c : Addr} {H : Hp} {p : Addr} {n : Nat} (h : PenAt c H p n) : ∃ xs, H p = some (.lst xs) := by
  obtain ⟨ns, b, l, e, _⟩ := h
  exact ⟨_, e⟩
theorem PenAt.cell {c : Addr} {H : Hp} {p : Addr} {n : Nat} (h : PenAt c H p n) : ∃ xs, H c = some (.lst xs) := by
  obtain ⟨ns, b, l, _, e, _⟩ := h
  exact ⟨_, e⟩
theorem PenAt.other {c : Addr} {H : Hp} {p a : Addr} {o : HO} {n : Nat} (h : PenAt c H p n) (h1 : a ≠ p) (h2 : a ≠ c) : PenAt c (upd H a o) p n := by
  obtain ⟨ns, b, l, e1, e2, r⟩ := h
  exact ⟨ns, b, l, by rw [upd_ne h1.symm]; exact e1, by rw [upd_ne h2.symm]; exact e2, r⟩
theorem Same.keep {p : Addr} {H H1 H2 : Hp} (a : Same H H1) (b : Keep p H1 H2) : Keep p H H2 := fun c o n h => b c o n (a c o h)
theorem Keep.frz {p : Addr} {H H1 : Hp} (k : Keep p H H1) {b : Addr} {o : HO} (hb : b ≠ p) (h : H b = some o) : H1 b = some o := k b o hb h
theorem rd_disp {trs : List (TE × TE)} {σ : L2.St} {H : Hp} {Q : VK} (h : ∀ p, H p = none → tPairs trs σ (upd H p (.dK [])) fun ps H2 => H2 p = some (.dK []) ∧ ∃ kvs : List (Key × V), ps = kvs.map (fun kv => (kV kv.1, kv.2)) ∧ kvs.length ≤ 15 ∧ Q (.ref p) (upd H2 p (.dK (mergeK [] kvs)))) : tDisp trs σ H Q := h
theorem rd_dnew {σ : L2.St} {H : Hp} {Q : VK} (h : ∀ p, H p = none → Q (.ref p) (upd H p (.dK []))) : tDNewK σ H Q := h
theorem rd_pcons {tk tv : TE} {r : List (TE × TE)} {σ : L2.St} {H : Hp} {Q : List (V × V) → Hp → Prop} (h : tk σ H fun x H1 => tv σ H1 fun y H2 => tPairs r σ H2 fun ps H3 => Q ((x, y) :: ps) H3) : tPairs ((tk, tv) :: r) σ H Q := h
theorem rd_pnil {σ : L2.St} {H : Hp} {Q : List (V × V) → Hp → Prop} (h : Q [] H) : tPairs [] σ H Q := h
theorem rd_cat {l b : Addr} {xs zs : List V} {H : Hp} {Q : VK} (hl : H l = some (.lst xs)) (hb : H b = some (.lst zs)) (hz : xs.length + zs.length ≤ sizeLine) (q : ∀ p, H p = none → Q (.ref p) (upd H p (.lst (xs ++ zs)))) : rCat (.ref l) (.ref b) H Q := ⟨l, b, xs, zs, rfl, rfl, hl, hb, hz, q⟩
theorem none_of {H H' : Hp} {p : Addr} (s : Same H H') (h : H' p = none) : H p = none := by
  cases e : H p with
  | none => rfl
  | some o => rw [s _ _ e] at h; cases h
theorem cut63 {xs : List V} (h : xs.length ≤ 63) : cutV xs none (some 63) = xs := by
  have e : HT.sIx xs.length xs.length (some 63) = xs.length := by
    unfold HT.sIx
    dsimp only
    split <;> omega
  unfold cutV
  rw [e]
  show List.take (xs.length - 0) (List.drop 0 xs) = xs
  simp
theorem pen_at {H : Hp} {p l : Addr} {ns : List Int} (h1 : H p = some (.lst [.ref l, .int 0, .int 0])) (h2 : H l = some (.lst (ns.map V.int))) (h3 : ns.length ≤ 63) : PenAt l H p 0 := ⟨ns, 0, 0, h1, h2, h3, by decide, by decide, by decide⟩
/-- each value of a row is of some kind -/
def Kds (H : Hp) (xs : List V) : Prop := ∀ v ∈ xs, ∃ t, Kd H v t
theorem Kds.nil {H : Hp} : Kds H [] := fun v h => nomatch h
theorem Kds.cons {H : Hp} {x : V} {t : Kn} {xs : List V} (h : Kd H x t) (r : Kds H xs) : Kds H (x :: xs) := fun v m => by
  rcases List.mem_cons.mp m with e | m
  · subst e; exact ⟨t, h⟩
  · exact r v m
theorem upd2 {H : Hp} {p : Addr} {o u : HO} : upd (upd H p o) p u = upd H p u := by
  funext b
  by_cases e : b = p
  · subst e; rw [upd_same, upd_same]
  · rw [upd_ne e, upd_ne e, upd_ne e]
theorem rd_draw {p c : Addr} {m : Int} {n : Nat} {H0 H : Hp} {Q : VK} {E : XK} (h0 : PenAt c H0 p n) (s : Same H0 H) (hn : n < 100000) (hm : 0 < m) (hm2 : m < 1073741824) (q : ∀ (d : Int) (H' : Hp), 0 ≤ d → d < m → PenAt c H' p (n + 1) → Keep p H H' → Q (.int d) H') : spDraw [.ref p, .int m] H Q E := ⟨p, m, n, c, rfl, h0.mono s, hn, hm, hm2, q⟩
theorem ne_none {H : Hp} {a p : Addr} {o : HO} (h : H a = none) (h' : H p = some o) : a ≠ p := fun e => by
  subst e; rw [h] at h'; cases h'
/-- an agent: a name and steps, at a heap -/
def InsAt (C : Addr) (H : Hp) (a : Addr) : Prop := ∃ dx z t, H a = some (.ins C dx (agentF z t))
theorem InsAt.keep {C p : Addr} {H H' : Hp} {a : Addr} (h : InsAt C H a) (k : Keep p H H') (n : a ≠ p) : InsAt C H' a := by
  obtain ⟨dx, z, t, e⟩ := h
  exact ⟨dx, z, t, k _ _ n e⟩
theorem InsAt.mono {C : Addr} {H H' : Hp} {a : Addr} (h : InsAt C H a) (s : Same H H') : InsAt C H' a := by
  obtain ⟨dx, z, t, e⟩ := h
  exact ⟨dx, z, t, s _ _ e⟩
theorem rd_isiV {K : PySem.W.Frag} {H : Hp} {Q : VK} {x : V} {t : Kn} (n : Kn) (b : Bool) (k : Kd H x t) (e : isTy t n = b) (q : Q (.bl b) H) : rIsi K [x, .ty n.name] H Q := rd_isi n k (by rw [e]; exact q)
theorem kit_own {K : PySem.W.Frag} {C D : Addr} {b : Bool} (h1 : PySem.W.mroIn K D (.type "object") = some true) (h2 : PySem.W.typeIn K (.ref D) = some (.type "type")) (h4 : PySem.W.subIn K (.ref D) (.ref D) = some true) (h3 : PySem.W.subIn K (.ref C) (.ref D) = some b) : PySem.W.kitOne K (.ref C) (.ref D) = some b := by
  unfold PySem.W.kitOne
  by_cases e : C = D
  · subst e
    rw [h4] at h3
    cases h3
    exact if_pos (beq_self_eq_true _)
  · rw [if_neg (fun z => e (by injection eq_of_beq z))]
    unfold PySem.W.kitCls
    have h5 : (PySem.W.clsIn K D).isSome = true := by
      unfold PySem.W.mroIn at h1
      cases hh : PySem.W.clsIn K D with
      | none => rw [hh] at h1; cases h1
      | some _ => rfl
    dsimp only
    rw [h5, h2]
    exact h3
theorem rd_isiC {K : PySem.W.Frag} {H : Hp} {Q : VK} {x : V} {t : Value} {D : Addr} {b : Bool} (hx : TyX K H x t) (h : PySem.W.kitOne K t (.ref D) = some b) (q : Q (.bl b) H) : rIsi K [x, .ref D] H Q :=
  ⟨x, .ref D, t, .ref D, b, rfl, .own D, hx, h, q⟩
end Lay
namespace Lay
open PySem PySem.Spec PyProof.Rows L2
theorem iteNT {A B : Prop} (h : B) : if (!true) = true then A else B := h
theorem iteNF {A B : Prop} (h : A) : if (!false) = true then A else B := h
end Lay
end
section
namespace OwnC
open PySem L2 PySem.Spec PyProof.Rows
/-- the type of a value, as == asks it -/
inductive KTy (K : PySem.W.Frag) (H : Hp) : V → Value → Prop
  | non : KTy K H .non (.type "NoneType")
  | bl (b : Bool) : KTy K H (.bl b) (.type "bool")
  | int (i : Int) : KTy K H (.int i) (.type "int")
  | str (z : Str) : KTy K H (.str z) (.type "str")
  | tup {a : Addr} {xs : List V} (h : SqT K H a xs) : KTy K H (.ref a) (.type "tuple")
  | lst {a : Addr} {xs : List V} (h : SqL K H a xs) : KTy K H (.ref a) (.type "list")
  | ins {a C dx : Addr} {fs : List (Str × V)} (h : H a = some (.ins C dx fs)) : KTy K H (.ref a) (.ref C)
/-! ### != by an own == -/
end OwnC
end
section
namespace OwnC
open PySem L2 PySem.Spec PyProof.Rows
/-! ### a class called with a starred argument -/
section
variable {X : Cx} {CX : CXT} {k : Nat} {f C : Addr} {sp : Sp} {E : XK} {x : Str} {e fe : Expr} {es : List Expr} {tf : TE} {t : TA} {p pos : Pos}
/-- v(e, .., *y), v an expression that gives the class -/
def tMakeV (C : Addr) (sp : Sp) (E : XK) (tf : TE) (t : TA) : TE := fun σ H Q => tf σ H fun y H1 => y = .ref C ∧ StX.tMakeR C sp E t σ H1 Q
theorem pe_makeV (hf : PE X fe tf) (M : Mk X.K C f) (F : FnR X.prog X.w X.K X.mg X.base CX k f sp) (hr : Room (k + 1) X.A) (hx : Passes CX X E) (ha : PA X (e :: es) t)
    (ht : eval (.Call fe (e :: es) [] pos) X.env = (do callWith pos (← eval fe X.env) [] (backTo pos (starEach (e :: es) X.env)) (backToKw pos (keywordEach [] X.env))) := by rfl)
    (he : starEach (e :: es) X.env = (false, eval e X.env) :: starEach es X.env := by rfl) (hst : (backTo pos (starEach es X.env)).any (·.1) = true := by rfl) : PE X (.Call fe (e :: es) [] pos) (tMakeV C sp E tf t) := by
  refine ⟨fun pins s σ H Q I h => Call_ (thn (hf.run pins s σ H _ I h) fun u s1 ⟨y, H1, I1, ry, ey, q⟩ => ?_) ht⟩
  subst ey
  have eu : u = Value.ref C := ry
  subst eu
  exact PySem.W.callWith_S2 (h₀ := X.base) I1.ok.mod.kin M.kp (thn (ha.run pos pins s1 σ H1 _ I1 q) fun us s2 ⟨vs, H2, I2, r, q2⟩ => ⟨I2.kIn, StX.run_makeR M F hr hx I2 r q2⟩) he hst
end
/-! ### o[i] by an own __getitem__ -/
end OwnC
end
section
namespace Lay
open PySem L2 PySem.Spec PyProof.Rows
/-! ### texts and whole numbers in tuples in a tuple or list, as data -/
def flatD : V → PyData
  | .str z => .str z
  | .int i => .int i
  | _ => .none
def isFlat : V → Bool
  | .str z => PyData.strOk z
  | .int _ => true
  | _ => false
def rowD (l : List V) : PyData := .tuple (l.map flatD)
theorem beq_dec {α : Type} [DecidableEq α] [BEq α] [LawfulBEq α] (a b : α) : (a == b) = decide (a = b) := by
  by_cases h : a = b
  · subst h
    simp
  · rw [decide_eq_false h]
    exact beq_eq_false_iff_ne.mpr h
theorem eqv_flat : ∀ x y : V, isFlat x = true → isFlat y = true → PyData.eqv (flatD x) (flatD y) = decide (x = y) := by
  intro x y hx hy
  cases x with
  | str z =>
    cases y with
    | str u => simp [flatD, PyData.eqv]; exact beq_dec _ _
    | int j => simp [flatD, PyData.eqv]
    | _ => cases hy
  | int i =>
    cases y with
    | str u => simp [flatD, PyData.eqv]
    | int j => simp [flatD, PyData.eqv]; exact beq_dec _ _
    | _ => cases hy
  | _ => cases hx
theorem eqvAll_flat : ∀ l l' : List V, l.all isFlat = true → l'.all isFlat = true → PyData.eqvAll (l.map flatD) (l'.map flatD) = decide (l = l')
  | [], [], _, _ => by simp [PyData.eqvAll]
  | [], _ :: _, _, _ => by simp [PyData.eqvAll]
  | _ :: _, [], _, _ => by simp [PyData.eqvAll]
  | x :: l, y :: l', h, h' => by
    rw [List.all_cons, Bool.and_eq_true] at h h'
    rw [List.map_cons, List.map_cons, PyData.eqvAll, eqv_flat x y h.1 h'.1, eqvAll_flat l l' h.2 h'.2]
    by_cases e : x = y <;> by_cases e' : l = l' <;> simp [e, e']
theorem eqv_row {l l' : List V} (h : l.all isFlat = true) (h' : l'.all isFlat = true) : PyData.eqv (rowD l) (rowD l') = decide (l = l') := by
  unfold rowD
  rw [PyData.eqv]
  exact eqvAll_flat l l' h h'
theorem lay_flat (x : V) (h : isFlat x = true) : PyData.canLay0 (flatD x) = true := by
  cases x with
  | str z =>
    show PyData.canLay0 (.str z) = true
    rw [PyData.canLay0]
    exact h
  | int i => simp [flatD, PyData.canLay0]
  | _ => cases h
theorem layAll_flat : ∀ l : List V, l.all isFlat = true → PyData.canLayAll0 (l.map flatD) = true
  | [], _ => by simp [PyData.canLayAll0]
  | x :: l, h => by
    rw [List.all_cons, Bool.and_eq_true] at h
    rw [List.map_cons, PyData.canLayAll0, lay_flat x h.1, layAll_flat l h.2]; rfl
theorem lay_row (l : List V) (h : l.all isFlat = true) : PyData.canLay0 (rowD l) = true := by unfold rowD; rw [PyData.canLay0]; exact layAll_flat l h
theorem layAll_rows : ∀ ls : List (List V), (∀ l ∈ ls, l.all isFlat = true) → PyData.canLayAll0 (ls.map rowD) = true
  | [], _ => by simp [PyData.canLayAll0]
  | x :: l, h => by rw [List.map_cons, PyData.canLayAll0, lay_row x (h x (List.mem_cons_self ..)), layAll_rows l (fun z m => h z (List.mem_cons_of_mem _ m))]; rfl
theorem deep_flat (x : V) : PyData.depth (flatD x) ≤ 1 := by cases x <;> simp [flatD, PyData.depth]
theorem deepAll_flat : ∀ l : List V, PyData.depthAll (l.map flatD) ≤ 1
  | [] => by simp [PyData.depthAll]
  | x :: l => by
    rw [List.map_cons, PyData.depthAll]
    have := deep_flat x
    have := deepAll_flat l
    omega
theorem deep_row (l : List V) : PyData.depth (rowD l) ≤ 2 := by
  unfold rowD
  rw [PyData.depth]
  have := deepAll_flat l
  omega
theorem deepAll_rows : ∀ ls : List (List V), PyData.depthAll (ls.map rowD) ≤ 2
  | [] => by simp [PyData.depthAll]
  | x :: l => by
    rw [List.map_cons, PyData.depthAll]
    have := deep_row x
    have := deepAll_rows l
    omega
theorem shaped_rowsL (ls : List (List V)) (h : ∀ l ∈ ls, l.all isFlat = true) : SeqAt.shaped (.list (ls.map rowD)) = true := by
  have h1 := deepAll_rows ls
  have h2 : PyData.depth (.list (ls.map rowD)) ≤ 64 := by rw [PyData.depth]; omega
  have h3 : PyData.canLay0 (.list (ls.map rowD)) = true := by rw [PyData.canLay0]; exact layAll_rows ls h
  unfold SeqAt.shaped
  rw [h3, decide_eq_true h2]
  rfl
/-- steps at a heap: the tuples and what they hold -/
inductive RowsAt (H : Hp) : List V → List (List V) → Prop
  | nil : RowsAt H [] []
  | cons {p : Addr} {l : List V} {xs : List V} {ls : List (List V)} (h : H p = some (.tup l)) (r : RowsAt H xs ls) : RowsAt H (.ref p :: xs) (l :: ls)
theorem RowsAt.same {H H' : Hp} {xs : List V} {ls : List (List V)} (r : RowsAt H xs ls) (k : ∀ b l, H b = some (.tup l) → H' b = some (.tup l)) : RowsAt H' xs ls := by
  induction r with
  | nil => exact .nil
  | cons h _ ih => exact .cons (k _ _ h) ih
theorem RowsAt.mono {H H' : Hp} {xs : List V} {ls : List (List V)} (r : RowsAt H xs ls) (s : Same H H') : RowsAt H' xs ls := r.same fun b l h => s b _ h
/-- a list is at p, so no tuple is -/
theorem RowsAt.keep {H H' : Hp} {xs : List V} {ls : List (List V)} {p : Addr} {ys : List V} (r : RowsAt H xs ls) (hp : H p = some (.lst ys)) (k : Keep p H H') : RowsAt H' xs ls := r.same fun b l h => k b _ (fun e => by subst e; rw [hp] at h; cases h) h
theorem RowsAt.len {H : Hp} {xs : List V} {ls : List (List V)} (r : RowsAt H xs ls) : xs.length = ls.length := by
  induction r with
  | nil => rfl
  | cons _ _ ih => rw [List.length_cons, List.length_cons, ih]
theorem dp_flat {K : PySem.W.Frag} {H : Hp} : ∀ l : List V, l.all isFlat = true → DpAll K H l (l.map flatD)
  | [], _ => .nil
  | x :: l, h => by
    rw [List.all_cons, Bool.and_eq_true] at h
    refine .cons ?_ (dp_flat l h.2)
    cases x <;> first | cases h.1 | skip
    · exact .int _
    · exact .str _
theorem RowsAt.dp {K : PySem.W.Frag} {H : Hp} {xs : List V} {ls : List (List V)} (r : RowsAt H xs ls) (h : ∀ l ∈ ls, l.all isFlat = true) : DpAll K H xs (ls.map rowD) := by
  induction r with
  | nil => exact .nil
  | cons hp _ ih =>
    refine .cons (.tup (SqT.of hp) (dp_flat _ (h _ (List.mem_cons_self ..)))) (ih fun z m => h z (List.mem_cons_of_mem _ m))
theorem RowsAt.get {H : Hp} {xs : List V} {ls : List (List V)} (r : RowsAt H xs ls) : ∀ {i : Nat} {l : List V}, ls[i]? = some l → ∃ p, xs[i]? = some (.ref p) ∧ H p = some (.tup l) := by
  induction r with
  | nil => intro i l e; simp at e
  | cons h _ ih =>
    intro i l e
    cases i with
    | zero =>
      rw [List.getElem?_cons_zero] at e
      cases e
      exact ⟨_, rfl, h⟩
    | succ i =>
      rw [List.getElem?_cons_succ] at e ⊢
      exact ih e
theorem RowsAt.append {H : Hp} {xs ys : List V} {ls ms : List (List V)} (r : RowsAt H xs ls) (q : RowsAt H ys ms) : RowsAt H (xs ++ ys) (ls ++ ms) := by
  induction r with
  | nil => exact q
  | cons h _ ih => exact .cons h ih
theorem RowsAt.drop {H : Hp} {xs : List V} {ls : List (List V)} (r : RowsAt H xs ls) : ∀ n : Nat, RowsAt H (xs.drop n) (ls.drop n) := by
  induction r with
  | nil => intro n; simp; exact .nil
  | cons h t ih =>
    intro n
    cases n with
    | zero => exact .cons h t
    | succ n => exact ih n
theorem RowsAt.take {H : Hp} {xs : List V} {ls : List (List V)} (r : RowsAt H xs ls) : ∀ n : Nat, RowsAt H (xs.take n) (ls.take n) := by
  induction r with
  | nil => intro n; simp; exact .nil
  | cons h t ih =>
    intro n
    cases n with
    | zero => exact .nil
    | succ n => exact .cons h (ih n)
theorem RowsAt.set {H : Hp} {xs : List V} {ls : List (List V)} {p : Addr} {l : List V} (hp : H p = some (.tup l)) (r : RowsAt H xs ls) : ∀ n : Nat, RowsAt H (xs.set n (.ref p)) (ls.set n l) := by
  induction r with
  | nil => intro n; simp; exact .nil
  | cons h t ih =>
    intro n
    cases n with
    | zero => exact .cons hp t
    | succ n => exact .cons h (ih n)
theorem RowsAt.steps {H : Hp} {ws : List Str} {xs : List V} {ls : List (List V)} (r : RowsAt H xs ls) (g : ∀ l ∈ ls, GoodStep ws l) : ∀ s ∈ xs, StepAt H ws s := by
  induction r with
  | nil => intro s m; cases m
  | cons h _ ih =>
    intro s m
    rcases List.mem_cons.mp m with e | m
    · subst e
      exact ⟨_, _, rfl, h, g _ (List.mem_cons_self ..)⟩
    · exact ih (fun z m => g z (List.mem_cons_of_mem _ m)) s m
theorem name_strOk {z : Str} (h : nameOk z = true) : PyData.strOk z = true := by
  unfold nameOk at h
  rw [Bool.and_eq_true] at h
  unfold PyData.strOk
  rw [← Array.all_toList, List.all_eq_true]
  intro c m
  have := List.all_eq_true.mp h.2 c m
  rw [Bool.and_eq_true] at this
  have h2 := of_decide_eq_true this.2
  exact decide_eq_true (by omega)
theorem words_strOk {ws : List Str} (h : ws.all PyData.strOk = true) {w : Str} (m : w ∈ ws) : PyData.strOk w = true := List.all_eq_true.mp h w m
theorem GoodStep.flat {ws : List Str} {l : List V} (g : GoodStep ws l) : l.all isFlat = true := by
  rcases g with ⟨w, n, rfl, h1, _, h3⟩ | ⟨w, n, s, f, e, rfl, h1, _, h3, _⟩
  · have a := words_strOk (by decide +kernel) h1
    have b := name_strOk h3
    simp [isFlat, a, b]
  · have a := words_strOk (by decide +kernel) h1
    have b := name_strOk h3
    simp [isFlat, a, b]
end Lay
end
section
namespace Lay
open PySem L2 PySem.Spec PyProof.Rows
theorem fnR_of {P : Program} {w : World} {K : PySem.W.Frag} {mg : Str → Option Value} {base : Heap} {CX : CXT} {k : Nat} {f : Addr} {fd : FuncData} {ps : List Str} {sp : Sp} (F : FnOk P w K mg base CX k f fd ps sp) (hb : Binds K fd ps []) : FnR P w K mg base CX k f sp := by
  intro A outer s H us vs Q E hr e0 r hs
  have hl := F.len _ _ _ _ hs
  have hu : us.length = ps.length := by rw [← hl]; exact r.length.symm
  have KX : K.In s.heap := e0.mod.kin.keeps fun b o e => (e0.bs b o e).1
  have b := hb s us KX (by simpa using hu)
  rw [List.append_nil] at b
  exact F.run A outer s H ⟨us, []⟩ us vs Q E hr e0 b r hs
/-- an agent: its class, name, its steps and what they hold -/
def AgAt (C : Addr) (H : Hp) (a : Addr) (z : Str) (ls : List (List V)) : Prop := ∃ dx t xs, H a = some (.ins C dx (agentF z t)) ∧ H t = some (.tup xs) ∧ RowsAt H xs ls
theorem AgAt.mono {C : Addr} {H H' : Hp} {a : Addr} {z : Str} {ls : List (List V)} (h : AgAt C H a z ls) (s : Same H H') : AgAt C H' a z ls := by
  obtain ⟨dx, t, xs, h1, h2, h3⟩ := h
  exact ⟨dx, t, xs, s _ _ h1, s _ _ h2, h3.mono s⟩
theorem AgAt.keep {C p : Addr} {H H' : Hp} {a : Addr} {z : Str} {ls : List (List V)} {ys : List V} (h : AgAt C H a z ls) (hp : H p = some (.lst ys)) (k : Keep p H H') : AgAt C H' a z ls := by
  obtain ⟨dx, t, xs, h1, h2, h3⟩ := h
  exact ⟨dx, t, xs, k _ _ (fun e => by subst e; rw [hp] at h1; cases h1) h1, k _ _ (fun e => by subst e; rw [hp] at h2; cases h2) h2, h3.keep hp k⟩
/-- C.made(name, steps), all good -/
def spMade (K : PySem.W.Frag) (C : Addr) (ws : List Str) : Sp := fun vs H Q _ => ∃ z t xs ls, vs = [.ref C, .str z, .ref t] ∧ nameOk z = true ∧ (SqT K H t xs ∨ SqL K H t xs) ∧ RowsAt H xs ls ∧ 1 ≤ ls.length ∧ ls.length ≤ 24 ∧ (∀ l ∈ ls, GoodStep ws l) ∧
  ∀ x H', H x = none → Same H H' → AgAt C H' x z ls → Q (.ref x) H'
/-- the initialiser is called of a class with these steps -/
theorem mk_ag {C : Addr} {ws : List Str} {H : Hp} {z : Str} {xs : List V} {ls : List (List V)} {Q : Addr → Hp → Prop} {E : XK} (hz : nameOk z = true) (hx : RowsAt H xs ls) (h1 : 1 ≤ ls.length) (h2 : ls.length ≤ 24) (hg : ∀ l ∈ ls, GoodStep ws l)
    (q : ∀ x H', H x = none → Same H H' → AgAt C H' x z ls → Q x H') :
    ∀ x dx, H x = none → H dx = none → dx ≠ x → spStar 2 (spAgentInit C ws) (.ref x :: .str z :: xs) (upd (upd H dx (.own x)) x (.ins C dx [])) (fun v H2 => v = .non ∧ Q x H2) E := by
  intro x dx hx1 hd hne
  have s1 : Same H (upd (upd H dx (.own x)) x (.ins C dx [])) := Lay.Same.upd' (Same.upd hd) (by rw [upd_ne hne.symm]; exact hx1)
  have hl := hx.len
  refine ⟨[.ref x, .str z], xs, rfl, rfl, Nat.le_trans (by omega) (show 24 ≤ sizeLine by decide), fun p hp => ?_⟩
  have s2 := Lay.Same.upd' (o := .tup xs) s1 hp
  refine ⟨x, dx, z, p, xs, rfl, upd_old hp upd_same, hz, upd_same, by omega, by omega, (hx.mono s2).steps hg, ?_⟩
  rintro H' ⟨dx', t, e1, e2⟩ keep
  have s3 : Same H H' := fun b o e => keep b o (fun y => by subst y; rw [hx1] at e; cases e) (s2 _ _ e)
  exact ⟨rfl, q x H' hx1 s3 ⟨dx', t, xs, e1, e2, hx.mono s3⟩⟩
theorem rd_makeV {C : Addr} {sp : Sp} {E : XK} {tf : TE} {t : TA} {σ : L2.St} {H : Hp} {Q : VK} (h : tf σ H fun y H1 => y = .ref C ∧ StX.tMakeR C sp E t σ H1 Q) : OwnC.tMakeV C sp E tf t σ H Q := h
theorem atI_nat {α : Type} {xs : List α} {i : Nat} {v : α} (h : xs[i]? = some v) : atI xs (i : Int) = some v := atI_int (by omega) (by simpa using h)
theorem kit_prim {K : PySem.W.Frag} {p : String} {D : Addr} (h1 : PySem.W.mroIn K D (.type "object") = some true) (h2 : PySem.W.typeIn K (.ref D) = some (.type "type")) (h3 : PySem.W.subIn K (.type p) (.ref D) = some false) : PySem.W.kitOne K (.type p) (.ref D) = some false := by
  unfold PySem.W.kitOne
  rw [if_neg (fun z => by cases eq_of_beq z)]
  unfold PySem.W.kitCls
  have h5 : (PySem.W.clsIn K D).isSome = true := by
    unfold PySem.W.mroIn at h1
    cases hh : PySem.W.clsIn K D with
    | none => rw [hh] at h1; cases h1
    | some _ => rfl
  dsimp only
  rw [h5, h2]
  exact h3
end Lay
namespace Lay
open PySem L2 PySem.Spec PyProof.Rows
def plainWs : List Str := ["read", "write", "post", "wait"]
def cacheWs : List Str := ["read", "write", "get", "put", "clean", "drop", "flush", "post", "wait"]
def wsK (k : Int) : List Str := if k = 0 then plainWs else cacheWs
end Lay
namespace Lay
open PySem L2 PySem.Spec PyProof.Rows
theorem Keep.none {H H' : Hp} {p a : Addr} {o : HO} (k : Keep p H H') (hp : H' p = some o) (h : H' a = none) : H a = none := by
  cases e : H a with
  | none => rfl
  | some u =>
    have n : a ≠ p := fun y => by subst y; rw [hp] at h; cases h
    rw [k a u n e] at h
    cases h
end Lay
namespace Lay
open PySem L2 PySem.Spec PyProof.Rows
theorem rd_cmeth {C : Addr} {sp : Sp} {E : XK} {ta : TE} {t : TA} {σ : L2.St} {H : Hp} {Q : VK} (h : ta σ H fun x H1 => x = .ref C ∧ t σ H1 fun vs H2 => sp (.ref C :: vs) H2 Q E) : ClX.tCMeth C sp E ta t σ H Q := h
end Lay
namespace Lay
open PySem L2 PySem.Spec PyProof.Rows
end Lay
end
section
namespace Lay
open PySem L2 PySem.Spec PyProof.Rows
end Lay
namespace Lay
open PySem L2 PySem.Spec PyProof.Rows
end Lay
namespace Lay
open PySem L2 PySem.Spec PyProof.Rows
theorem ixN_nat {n : Nat} {d : Int} (h0 : 0 ≤ d) (h1 : d < n) : ixN n d = some d.toNat := by
  unfold ixN
  rw [if_pos h0, if_pos h1]
theorem cut_to {xs : List V} (h : 1 ≤ xs.length) : cutV xs none (some 1) = xs.take 1 := by
  have e : HT.sIx xs.length xs.length (some 1) = 1 := by
    unfold HT.sIx
    dsimp only
    split <;> omega
  unfold cutV
  rw [e]
  show List.take (1 - 0) (List.drop 0 xs) = List.take 1 xs
  simp
end Lay
end
section
namespace Lay
open PySem L2 PySem.Spec PyProof.Rows
theorem rd_bm {K : PySem.W.Frag} {T : String} {r : V → List V → Hp → VK → Prop} {to : TE} {t : TA} {σ : L2.St} {H : Hp} {Q : VK} (h : to σ H fun x H1 => tyV K T x H1 ∧ t σ H1 fun xs H2 => r x xs H2 Q) : tBM K T r to t σ H Q := h
theorem tyV_lst {K : PySem.W.Frag} {H : Hp} {a : Addr} {xs : List V} (h : H a = some (.lst xs)) : tyV K "list" (.ref a) H := by
  first
    | exact ⟨xs, SqL.of h⟩
    | exact .inl ⟨rfl, xs, SqL.of h⟩
    | exact ⟨rfl, xs, SqL.of h⟩
    | exact .inl ⟨xs, SqL.of h⟩
theorem good_sig {k : Int} {w n : Str} (h : w = "post" ∨ w = "wait") (hn : nameOk n = true) : GoodStep (wsK k) [.str w, .str n] := by
  refine .inl ⟨w, n, rfl, ?_, ?_, hn⟩
  · rcases h with rfl | rfl <;> decide +kernel
  · unfold wsK
    split <;> (rcases h with rfl | rfl <;> decide +kernel)
end Lay
end
section
namespace PySem.W
open PySem PySem.Spec PySem.Calls PyProof.Rows
/-- an instance of an exception class of the program, with whatever dict -/
theorem exv_kitx {K : Frag} {x D : Addr} {ox : Obj} {od : Option Obj} (hga : findIn K (.ref D) "__getattribute__" = some (some (.builtin "BaseException.__getattribute__"))) (hgt : findIn K (.ref D) "__getattr__" = some none) (hsub : subIn K (.ref D) (.type "BaseException") = some true) (hdct : hasDictIn K D = true) (ha : findIn K (.ref D) "__class__" = some (some (.builtin "object.__class__")))
    (hn : specialIn K (.builtin "object.__class__") "__get__" = some (some (.builtin "getset_descriptor.__get__"))) (htk : takesIn K (.builtin "object.__class__") = some true) (hm : mroIn K D (.type "object") = some true) :
    KitX K (.ref x) (.ref D) (fun h => InstAt h x ox D od) where
  ty := fun _ _ _ I => I.type
  it := fun _ _ X _ => by
    obtain ⟨cdD, hcD, _⟩ := any_some hdct
    unfold clsIn at hcD
    split at hcD
    · rename_i c' d' cd' sl' ho
      intro A' Q' E' s' k q
      unfold isType loadHead
      exact wpAny_bind (wpAny_loadPart (k _ _ (X _ _ ho)) (wpAny_pure q))
    · cases hcD
  ne := fun h tp dd its n sl X htp => by
    obtain ⟨cdD, hcD, _⟩ := any_some hdct
    refine Bool.eq_false_iff.mpr fun q => ?_
    have e : D = tp := Value.ref.inj (beq_iff_eq.mp q)
    subst e
    unfold clsIn at hcD
    split at hcD
    · rename_i c' d' cd' sl' ho
      have z := (X _ _ ho).symm.trans htp
      cases z
    · cases hcD
  ca := fun X I k => kx_classE X I hga hgt hsub (findObj_dataE (by obtain ⟨cd, hc, _⟩ := any_some hdct; rw [hc]; rfl) ha hn htk) hm k
end PySem.W
namespace Exv
open PySem L2 PySem.Spec PyProof.Rows
/-- at a: an exception of the class cls, its own dict d -/
def exv (a : Addr) (cls : Value) (d : Option Addr) : HO := .ext fun h => ∃ (oe : Obj) (vs : Array Value), h.get? a = some oe ∧ Zc cls d oe ∧ oe.data = .fields vs
theorem exv_ok {P : Program} {w : World} {H : Hp} {h : Heap} {a : Addr} {cls : Value} {d : Option Addr} {oe : Obj} {vs : Array Value} (e : h.get? a = some oe) (z : Zc cls d oe) (hd : oe.data = .fields vs) : ObjOk P w H h a (exv a cls d) :=
  ⟨⟨oe, vs, e, z, hd⟩, ⟨oe, e⟩, fun _ _ ⟨o, v, q, r⟩ k => ⟨o, v, k o q, r⟩⟩
section
variable {X : Cx} {pins : List (Addr × Obj)} {σ : L2.St} {H : Hp} {s : Shared}
theorem exv_at {a : Addr} {cls : Value} {d : Option Addr} (I : Inv X pins σ H s) (h : H a = some (exv a cls d)) : ∃ (oe : Obj) (vs : Array Value), s.heap.get? a = some oe ∧ Zc cls d oe ∧ oe.data = .fields vs := by
  have z : ObjOk X.prog X.w H s.heap a (.ext fun h => ∃ (oe : Obj) (vs : Array Value), h.get? a = some oe ∧ Zc cls d oe ∧ oe.data = .fields vs) := I.hok a _ h
  exact z.1
/-- an exception's object that stands there, untracked and ours, is tracked -/
theorem track {a : Addr} {oe : Obj} {vs : Array Value} {cls : Value} {d : Option Addr} (I : Inv X pins σ H s) (na : H a = none) (ha : s.heap.get? a = some oe) (hz : Zc cls d oe) (hd : oe.data = .fields vs)
    (h0 : ∀ o, X.s_0.heap.get? a = some o → a ∈ X.ex) (nL : a ≠ X.env.locals) (np : ∀ p ∈ X.pn ++ pins, p.1 ≠ a) : Inv X pins σ (upd H a (exv a cls d)) s := by
  refine ⟨I.ok, I.os, I.bare, ⟨I.base.keep, I.base.slot, fun b o e n hx => ?_, I.base.there, fun b xs e => ?_, fun b o u e => ?_, fun b ps e => ?_⟩, I.loc, I.cell, ?_, fun x c e => ?_, fun p hp => ?_, fun b u e => ?_, I.len⟩
  · by_cases hb : b = a
    · subst hb; exact absurd (h0 o e) hx
    · rw [upd_ne hb]; exact I.base.free b o e n hx
  · have q := I.base.tups b xs e
    rw [upd_ne (ne_of_none q na)]; exact q
  · have q := I.base.frzs b o u e
    rw [upd_ne (ne_of_none q na)]; exact q
  · obtain ⟨m, q⟩ := I.base.tbls b ps e
    exact ⟨m, by rw [upd_ne (ne_of_none q na)]; exact q⟩
  · rw [upd_ne (Ne.symm nL)]; exact I.free
  · have hc : c ≠ a := fun z => by
      subst z
      obtain ⟨v, o, ho, hv⟩ := I.cell x c e
      rw [ha] at ho
      cases ho
      rw [hd] at hv
      cases hv
    rw [upd_ne hc]; exact I.freeC x c e
  · obtain ⟨e, n, r⟩ := I.pin p hp
    exact ⟨e, by rw [upd_ne (np p hp)]; exact n, r⟩
  · by_cases hb : b = a
    · subst hb
      rw [upd_same] at e
      cases e
      exact exv_ok ha hz hd
    · rw [upd_ne hb] at e
      exact (I.hok b u e).stay (fun _ _ _ q => q) (fun c q => by rw [upd_ne (ne_of_none q na)]; exact q) (fun c xs q => by rw [upd_ne (ne_of_none q na)]; exact q)
end
/-- what 'except x as n' wishes of an exception of the body, where the exception is kept behind the suite -/
def wAsK (K : PySem.W.Frag) (c : Value) (i : Nat) (ts : Addr → Value → Option Addr → TS) (Wout : WX) (D : Ends) : WX := fun cls d σ H =>
  ∃ b, PySem.W.exmOne K cls c = some b ∧ (b = true → ∀ a, H a = none → ts a cls d { nx := fun σ' H' => H' a = none → D.nx (σ'.set i none) (upd H' a (exv a cls d)), rt := fun v H' => H' a = none → D.rt v (upd H' a (exv a cls d)), bk := fun σ' H' => H' a = none → D.bk (σ'.set i none) (upd H' a (exv a cls d)), ct := fun σ' H' => H' a = none → D.ct (σ'.set i none) (upd H' a (exv a cls d)) } (σ.set i (some (.ref a))) H) ∧
    (b = false → Wout cls d σ H)
section
variable {X : Cx} {pins : List (Addr × Obj)} {σ : L2.St} {H : Hp} {s : Shared}
variable {x n : Str} {c : Value} {i : Nat} {body suite : List Stmt} {b₀ : Stmt} {np pos pos' : Pos} {tb : WX → TS} {ts : Addr → Value → Option Addr → TS} {Wout : WX}
theorem ps_try_asK (hs : X.stack = X.env :: X.outer) (hf : X.env.frame = some X.env.locals) (hN : X.N.Nodup) (hi : X.N[i]? = some n) (hln : X.env.kindOf n = some .local) (hc : Names X x c) (tk : Takes X Wout)
    (hb : ∀ (W : WX) (pn : List (Addr × Obj)) (xe : Value → Shared → Prop), Takes (X.tr pn xe) W → PassesOwn (model X.prog X.w) X.A X.env xe → PSs (X.tr pn xe) body (tb W))
    (hsu : ∀ (a : Addr) (oe : Obj) (cls : Value) (d : Option Addr) (pn : List (Addr × Obj)), Zc cls d oe → (∃ vs, oe.data = .fields vs) → PSs (X.suite a ((a, oe) :: pn)) (b₀ :: suite) (ts a cls d)) :
    PS X (.Try body [.ExceptHandler (some (.Name x np)) (some n) (b₀ :: suite) pos'] [] [] pos) (fun D σ H => tb (wAsK X.K c i ts Wout D) D σ H) := by
  refine ⟨fun pins s σ H D I h => ?_⟩
  have ok := I.ok
  have hfr : X.A.frames = some (X.env :: X.outer) := by rw [ok.frames, hs]
  have hloc : Loc X.env.scope n := .inl hln
  refine wpAny_Try_except ?_
  refine wpAny_mono ((hb (wAsK X.K c i ts Wout D) (X.pn ++ pins) (fun e s₁ => wpAny (model X.prog X.w) X.A (noteFrame e X.env) (fun _ s₂ => wpAny (model X.prog X.w) X.A (setFlight e none) (fun _ s₃ =>
    wpAny (model X.prog X.w) X.A (handleBy e X.env [.ExceptHandler (some (.Name x np)) (some n) (b₀ :: suite) pos']) (SP X pins D) X.xe s₃) X.xe s₂) X.xe s₁) (fun u s' xx => ?_) PassesOwn.looking).run [] s σ H D (I.toTry _) h) (fun f s1 hsp => ?_) (fun e s1 he => he)
  · -- the catch
    obtain ⟨a, B, sI, pins', σ', H', cls, d, rfl, J', nb, up, sky, na, os, ag, b, hb1, hyes, hno⟩ := xx
    have J : Inv X pins σ' H' sI := J'.ofTry ok
    have sky' : Sky B (X.env :: X.outer) a (Zc cls d) X.env.locals s'.heap := by rw [← hs]; exact sky
    show wpAny (model X.prog X.w) X.A (noteFrame (.ref a) X.env) _ _ _
    refine Sky.land Zc.steady hfr hf sky' fun h3 fl3 up3 => ?_
    have J3 : Inv X pins σ' H' { s' with heap := h3 } := J.landed nb fl3.1 (up.trans up3) os ag
    obtain ⟨oe3, vs3, he3, hz3, hd3⟩ := fl3.there
    have notFr : ∀ {h : Heap} {o : Obj} {vs : Array Value}, h.FunFrames B (X.env :: X.outer) → h.get? a = some o → o.data = .fields vs → a ∉ frs (X.env :: X.outer) := fun {h o vs} ff e dd hm => by
      obtain ⟨_, o', e', hnf⟩ := ff.mem hm
      rw [e] at e'; cases e'
      exact hnf _ dd
    have nfr := notFr fl3.2.2.1 he3 hd3
    have nL : a ≠ X.env.locals := fun z => nfr (List.mem_filterMap.mpr ⟨X.env, List.mem_cons_self, by rw [hf, z]⟩)
    have nF : a ∉ X.fs := fun hm => by
      obtain ⟨e, he, q⟩ := List.mem_filterMap.mp hm
      exact nfr (List.mem_filterMap.mpr ⟨e, List.mem_cons_of_mem _ he, q⟩)
    have noI : ∀ o, sI.heap.get? a = some o → False := fun o e => by
      have z := nb a o e (by rw [hs]; exact nfr)
      rw [fl3.2.1] at z
      cases z
    have h0 : ∀ o, X.s_0.heap.get? a = some o → a ∈ X.ex := fun o e => Classical.byContradiction fun hx => by
      obtain ⟨o', e'⟩ := J.base.there a o e hx
      exact noI o' e'
    have npp : ∀ p ∈ X.pn ++ pins, p.1 ≠ a := fun p hp z => by
      have e := (J.pin p hp).1
      rw [z] at e
      exact noI _ e
    have S3 := J3.suite he3 hd3 na nL nF
    refine wpAny_handleBy_cons (codeAny_handlers_test ?_) (by intro q; cases q)
    have LT : PySem.W.Looks (model X.prog X.w) h3 (typeOf (.ref a)) cls := fun A Q E s k q => wpAny_typeOf_ref (k _ _ he3) (by rw [hz3.1]; exact q)
    have LM := PySem.W.exm_one (M := model X.prog X.w) (J3.kIn) LT hb1
    have test : ∀ {Q : Value → Shared → Prop} {E : Value → Shared → Prop}, Q c { s' with heap := h3 } → wpAny (model X.prog X.w) (X.A.mark (some (.ref a))) (eval (.Name x np) X.env) Q E { s' with heap := h3 } := fun {Q E} q => by
      obtain ⟨hg, hdbg, hm | ⟨hm, hv, hnn⟩⟩ := hc
      · exact ld_glob (X := X.suite a ((a, oe3) :: (X.pn ++ pins))) S3 hg hm q hdbg
      · exact ld_blt (X := X.suite a ((a, oe3) :: (X.pn ++ pins))) S3 hg hm hv q hnn hdbg
    refine test (LM.here ?_)
    cases b with
    | true =>
      refine codeAny_handlers_suite_as ?_
      refine HandSPX.lands_againZ fl3 fun h4 fl4 up4 => ?_
      have J4 : Inv X pins σ' H' { s' with heap := h4 } := J.landed nb fl4.1 ((up.trans up3).trans up4) os ag
      obtain ⟨oe4, vs4, he4, hz4, hd4⟩ := fl4.there
      have S4 := J4.suite he4 hd4 na nL nF
      refine store_ok (X := X.suite a ((a, oe4) :: (X.pn ++ pins))) (v := .ref a) S4 hN hi hloc rfl (fun s5 S5 => ?_) (.inr hln)
      refine wpAny_mono ((hsu a oe4 cls d (X.pn ++ pins) hz4 ⟨_, hd4⟩).run [] s5 _ H' _ S5 (hyes rfl a na)) (fun f s6 hsp => ?_) (fun _ _ z => False.elim z)
      have end_ : ∀ {σ6 : L2.St} {H6 : Hp} {Q : Shared → Prop}, Inv (X.suite a ((a, oe4) :: (X.pn ++ pins))) [] σ6 H6 s6 → (H6 a = none → ∀ s7, Inv X pins (σ6.set i none) (upd H6 a (exv a cls d)) s7 → Q s7) →
          wpAny (model X.prog X.w) X.A (do bindName X.env n .none; unbindBehindTheSuite X.env n pos') (fun _ s7 => Q s7) X.xe s6 := fun {σ6 H6 Q} S6 hq => by
        obtain ⟨ha6, na6, _⟩ := S6.pin (a, oe4) (List.mem_append_left _ List.mem_cons_self)
        exact gone_ok (track (S6.unsuite ok) na6 ha6 hz4 hd4 h0 nL npp) hN hi hln (hq na6)
      cases f with
      | next =>
        obtain ⟨σ6, H6, S6, q6⟩ := hsp
        exact end_ S6 fun n6 s7 J7 => ⟨_, _, J7, q6 n6⟩
      | brk =>
        obtain ⟨σ6, H6, S6, q6⟩ := hsp
        exact end_ S6 fun n6 s7 J7 => ⟨_, _, J7, q6 n6⟩
      | cont =>
        obtain ⟨σ6, H6, S6, q6⟩ := hsp
        exact end_ S6 fun n6 s7 J7 => ⟨_, _, J7, q6 n6⟩
      | ret u =>
        obtain ⟨v6, σ6, H6, S6, r6, q6⟩ := hsp
        exact end_ S6 fun n6 s7 J7 => ⟨_, _, _, J7, r6, q6 n6⟩
    | false =>
      show wpAny _ X.A (handleBy (.ref a) X.env []) _ _ _
      refine wpAny_handleBy_nil ?_
      obtain ⟨k1, k2, k3, oe, vs, T, oT, ts', he, hz, hd, h1, hr⟩ := id fl3
      unfold PySem.passOn
      refine wpAny_bind (wpAny_field he hd h1 ?_)
      rw [if_neg (show ¬ ((Value.ref T == Value.none) = true) from by simp)]
      have fin : wpAny (model X.prog X.w) X.A (setFlight (.ref a) X.env.frame) (fun _ s4 => wpAny (model X.prog X.w) X.A (throw (.ref a) : Sem Flow) (SP X pins D) X.xe s4) X.xe { s' with heap := h3 } := by
        rw [hf]
        refine HandSPX.setFlight_upZ fl3 fun h4 hh4 up4 => wpAny_throw (tk _ _ ?_)
        exact ⟨a, B, sI, pins, σ', H', cls, d, rfl, J, nb, (up.trans up3).trans up4, .inr (.inr (by rw [hs]; exact hh4)), na, os, ag, hno rfl⟩
      first
        | exact wpAny_bind (wpAny_pure (wpAny_bind fin))
        | exact wpAny_bind fin
  · cases f with
    | next =>
      obtain ⟨σ', H', J', q⟩ := hsp
      exact wpAny_execs_nil ⟨σ', H', J'.ofTry ok, q⟩
    | brk =>
      obtain ⟨σ', H', J', q⟩ := hsp
      exact ⟨σ', H', J'.ofTry ok, q⟩
    | cont =>
      obtain ⟨σ', H', J', q⟩ := hsp
      exact ⟨σ', H', J'.ofTry ok, q⟩
    | ret u =>
      obtain ⟨v, σ', H', J', r, q⟩ := hsp
      exact ⟨v, σ', H', J'.ofTry ok, r, q⟩
end
/-! ### fields, isinstance of a kept exception -/
/-- e.f of a kept exception -/
def tXv (K : PySem.W.Frag) (n : Str) (te : TE) : TE := fun σ H Q => te σ H fun x H1 => ∃ (a C dd : Addr) (fs : List (Str × V)) (v : V), x = .ref a ∧ H1 a = some (exv a (.ref C) (some dd)) ∧ H1 dd = some (.xd fs) ∧ XfC K C ∧ PySem.W.findIn K (.ref C) n = some none ∧ fs.lookup n = some v ∧ Q v H1
theorem inst_at {X : Cx} {pins : List (Addr × Obj)} {σ : L2.St} {H : Hp} {s : Shared} {a C dd : Addr} {fs : List (Str × V)} (I : Inv X pins σ H s) (ha : H a = some (exv a (.ref C) (some dd))) (ed : H dd = some (.xd fs)) :
    ∃ (oe od : Obj) (mA : Str → Option Value), PySem.W.InstAt s.heap a oe C (some od) ∧ (∀ f, RelO (fs.lookup f) (mA f)) ∧ ∀ n, PySem.W.lookIn n od = some (mA n) := by
  obtain ⟨oe, vs, e1, hz, hd⟩ := exv_at I ha
  have hx : ObjOk X.prog X.w H s.heap dd (.xd fs) := I.hok dd _ ed
  obtain ⟨mA, hns, hr⟩ := hx
  obtain ⟨od, ho, hl⟩ := lookIn_ns hns
  exact ⟨oe, od, mA, ⟨e1, hz.1, by unfold PySem.W.notCls; rw [hd] <;> rfl, by rw [hz.2]; exact ho⟩, hr, fun n => hl n⟩
theorem pe_xv {X : Cx} {e : Expr} {te : TE} {pos : Pos} {n : Str} (he : PE X e te) (hb : attributeBase e n X.env (eval e X.env) = eval e X.env := by rfl) : PE X (.Attribute e n pos) (tXv X.K n te) := by
  refine ⟨fun pins s σ H Q I h => ?_⟩
  refine attr_of hb (thn (he.run pins s σ H _ I h) fun u s1 hh => ?_)
  obtain ⟨x, H1, I1, rx, a, C, dd, fs, v, ex, ea, ed, T, hno, l, q⟩ := hh
  subst ex
  obtain rfl : u = Value.ref a := rx
  obtain ⟨oe, od, mA, J, hr, hl⟩ := inst_at I1 ea ed
  obtain ⟨u, hu, ru⟩ := RelO.some_of (v := v) (o := mA n) (by rw [← l]; exact hr n)
  exact HandSPX.exc_get I1.kIn J T.ga T.gg T.exC (PySem.W.findObj_own T.hdC hno rfl (by rw [hl, hu])) (handed_of ru) ⟨v, H1, I1.tok _, ru, q⟩
/-- a value's type, kept exceptions too -/
inductive TyW (K : PySem.W.Frag) (H : Hp) : V → Value → Prop
  | old {x : V} {t : Value} (h : TyX K H x t) : TyW K H x t
  | exc {a C d : Addr} {fs : List (Str × V)} (h : H a = some (exv a (.ref C) (some d))) (hd : H d = some (.xd fs)) (c : ExcC K C) : TyW K H (.ref a) (.ref C)
  | exn {a C : Addr} (h : H a = some (exv a (.ref C) none)) (c : ExcC K C) : TyW K H (.ref a) (.ref C)
theorem kit_ofW {X : Cx} {pins : List (Addr × Obj)} {σ : L2.St} {H : Hp} {s : Shared} {x : V} {u t : Value} (I : Inv X pins σ H s) (rx : RelV x u) (ty : TyW X.K H x t) : ∃ P : Heap → Prop, PySem.W.KitX X.K u t P ∧ P s.heap ∧ u ≠ .builtin "__main__.__loader__#opaque" := by
  cases ty with
  | old h => exact kit_of I rx h
  | @exc a C d fs ha hd c =>
    cases (show u = Value.ref a from rx)
    obtain ⟨oe, od, mA, J, _⟩ := inst_at I ha hd
    exact ⟨_, PySem.W.exv_kitx c.hg c.hk c.hs c.hd c.ha c.hn c.ht c.hm, J, fun z => nomatch z⟩
  | @exn a C ha c =>
    cases (show u = Value.ref a from rx)
    obtain ⟨oe, vs, e1, hz, hd⟩ := exv_at I ha
    have J : PySem.W.InstAt s.heap a oe C none := ⟨e1, hz.1, by unfold PySem.W.notCls; rw [hd] <;> rfl, by rw [hz.2]; exact trivial⟩
    exact ⟨_, PySem.W.exv_kitx c.hg c.hk c.hs c.hd c.ha c.hn c.ht c.hm, J, fun z => nomatch z⟩
def rIsiW (K : PySem.W.Frag) : List V → Hp → VK → Prop := fun xs H Q => ∃ (x c : V) (t u : Value) (b : Bool), xs = [x, c] ∧ ClsV c u ∧ TyW K H x t ∧ PySem.W.kitOne K t u = some b ∧ Q (.bl b) H
def rIsiTW (K : PySem.W.Frag) : List V → Hp → VK → Prop := fun xs H Q => ∃ (x : V) (tp : Addr) (cs : List V) (t : Value) (us : List Value) (b : Bool), xs = [x, .ref tp] ∧ H tp = some (.tup cs) ∧ Paired ClsV cs us ∧ TyW K H x t ∧ PySem.W.kitAny K t us = some b ∧ Q (.bl b) H
theorem rd_isiW {K : PySem.W.Frag} {H : Hp} {Q : VK} {x c : V} {t u : Value} (b : Bool) (hc : ClsV c u) (hx : TyW K H x t) (h : PySem.W.kitOne K t u = some b) (q : Q (.bl b) H) : rIsiW K [x, c] H Q := ⟨x, c, t, u, b, rfl, hc, hx, h, q⟩
theorem rd_isiTW {K : PySem.W.Frag} {H : Hp} {Q : VK} {x : V} {tp : Addr} {cs : List V} {t : Value} {us : List Value} (b : Bool) (ht : H tp = some (.tup cs)) (hc : Paired ClsV cs us) (hx : TyW K H x t) (h : PySem.W.kitAny K t us = some b) (q : Q (.bl b) H) : rIsiTW K [x, .ref tp] H Q := ⟨x, tp, cs, t, us, b, rfl, ht, hc, hx, h, q⟩
section
variable {X : Cx}
theorem call_isiW : CallR X (.builtin "isinstance") (rIsiW X.K) := by
  intro pins s σ H xs us Q I r h
  obtain ⟨x, c, t, u, b, rfl, k, ty, e, q⟩ := h
  obtain ⟨u1, u2, rfl, r1, r2⟩ := vals2 r
  have e2 := k.eq r2
  subst e2
  obtain ⟨P, Z, p, hx⟩ := kit_ofW I r1 ty
  exact PySem.W.kia_one Z I.kIn p e hx fun tk => ⟨.bl b, H, I.tok tk, rfl, q⟩
theorem call_isiTW : CallR X (.builtin "isinstance") (rIsiTW X.K) := by
  intro pins s σ H xs us Q I r h
  obtain ⟨x, tp, cs, t, ws, b, rfl, hT, k, ty, e, q⟩ := h
  obtain ⟨u1, u2, rfl, r1, r2⟩ := vals2 r
  cases (show u2 = Value.ref tp from r2)
  obtain ⟨P, Z, p, hx⟩ := kit_ofW I r1 ty
  obtain ⟨_, its, rv, o, h1, h2, n, h3⟩ := (show ObjOk X.prog X.w H s.heap tp (.tup cs) from I.hok tp _ hT)
  have e3 := ClsV.all k rv
  subst e3
  obtain ⟨oc, od, dt, sl⟩ := o
  simp only at h2 h3
  subst h2 h3
  exact PySem.W.kia_tup Z I.kIn p h1 e hx fun tk => ⟨.bl b, H, I.tok tk, rfl, q⟩
end
/-! ### an exception made, as a value -/
/-! ### an instance made where __init__ may raise: what is raised is wished for at the slots -/
end Exv
end
section
/-! Grd: repr of data; defs that are called where nothing is being shown (guards), their calls, the law's own call. -/
namespace Grd
open PySem PySem.Spec PyProof.Rows L2
open PySem.Sem (wp)
/-- a value without parts -/
def leafD : V → PyData
  | .non => .none
  | .bl b => .bool b
  | .int i => .int i
  | .str z => .str z
  | _ => .none
def isLeaf : V → Bool
  | .non | .bl _ | .int _ | .str _ => true
  | _ => false
/-- data with a dict at most at its head -/
inductive DpX (K : PySem.W.Frag) (H : Hp) : V → PyData → Prop
  | of {v : V} {d : PyData} : Dp K H v d → DpX K H v d
  | dict {a : Addr} {kvs : List (Key × V)} : H a = some (.dK kvs) → (∀ kv ∈ kvs, isLeaf kv.2 = true) → DpX K H (.ref a) (.dict (kvs.map fun kv => (leafD (kV kv.1), leafD kv.2)))
mutual
theorem noDict {K : PySem.W.Frag} {H : Hp} : ∀ (d : PyData) (v : V), Dp K H v d → d.hasDict = false
  | .none, _, _ => by simp only [PyData.hasDict]
  | .bool _, _, _ => by simp only [PyData.hasDict]
  | .int _, _, _ => by simp only [PyData.hasDict]
  | .str _, _, _ => by simp only [PyData.hasDict]
  | .list ds, _, h => by
    cases h with
    | lst hs ha => simp only [PyData.hasDict]; exact noDictAll ds _ ha
  | .tuple ds, _, h => by
    cases h with
    | tup hs ha => simp only [PyData.hasDict]; exact noDictAll ds _ ha
  | .dict _, _, h => by cases h
theorem noDictAll {K : PySem.W.Frag} {H : Hp} : ∀ (ds : List PyData) (vs : List V), DpAll K H vs ds → PyData.hasDictAll ds = false
  | [], _, _ => by simp only [PyData.hasDictAll]
  | d :: ds, _, h => by
    cases h with
    | cons h1 h2 => simp only [PyData.hasDictAll, noDict d _ h1, noDictAll ds _ h2, Bool.or_self]
end
theorem reads_leaf {h : Heap} {v : V} {u : Value} (hl : isLeaf v = true) (r : RelV v u) : Reads h u (leafD v) [] := by
  cases v with
  | non => cases r; exact .none
  | bl b => cases r; exact .bool b
  | int i => obtain ⟨t, rfl⟩ := r; exact .int i t
  | str z => obtain ⟨t, rfl⟩ := r; exact .str z t
  | _ => cases hl
theorem reads_pairs {P : Program} {w : World} {h : Heap} : ∀ {kvs : List (Key × V)} {vs : List (Key × Value)} {es : List DictEntry}, (∀ kv ∈ kvs, isLeaf kv.2 = true) → KV kvs vs → Pairs (mixKind P w) es vs →
    ReadsAll h (es.map (·.key)) ((kvs.map fun kv => (leafD (kV kv.1), leafD kv.2)).map (·.1)) [] ∧ ReadsAll h (es.map (·.val)) ((kvs.map fun kv => (leafD (kV kv.1), leafD kv.2)).map (·.2)) [] := by
  intro kvs
  induction kvs with
  | nil =>
    intro vs es _ r p
    cases r
    cases p
    exact ⟨.nil, .nil⟩
  | cons kv kvs ih =>
    intro vs es hl r p
    cases r with
    | cons r1 r2 =>
      cases p with
      | cons p1 p2 p3 =>
        obtain ⟨i1, i2⟩ := ih (fun x m => hl x (List.mem_cons_of_mem _ m)) r2 p3
        obtain ⟨e1, e2⟩ := r1
        refine ⟨ReadsAll.cons (as := []) (bs := []) ?_ i1, ReadsAll.cons (as := []) (bs := []) ?_ i2⟩
        · dsimp only
          rw [mixKind_is] at p1
          rcases keyIs_shape p1 with ⟨i, t, ek, eu⟩ | ⟨x, t, ek, eu⟩
          · rw [e1, ek, eu]; exact .int i t
          · rw [e1, ek, eu]; exact .str x t
        · dsimp only
          rw [p2]
          exact reads_leaf (hl kv (List.mem_cons_self ..)) e2
/-! ### defs called while nothing is being shown -/
/-! ### the law's own call -/
end Grd
end
section
namespace Lay
open PySem L2 PySem.Spec PyProof.Rows Exv
/-! ### text * number -/
end Lay
end
section
namespace Lay
open PySem L2 PySem.Spec PyProof.Rows Exv
theorem kit_ownB {K : PySem.W.Frag} {C : Addr} {T : String} {b : Bool} (h : PySem.W.subIn K (.ref C) (.type T) = some b) (m : PySem.W.kitMeta T = true := by decide +kernel) : PySem.W.kitOne K (.ref C) (.type T) = some b := by
  unfold PySem.W.kitOne
  rw [if_neg (fun z => by cases eq_of_beq z)]
  unfold PySem.W.kitCls
  dsimp only
  rw [if_pos m]
  exact h
/-- an error of the class C that is kept, with its fields -/
def ErrAt (C : Addr) (H : Hp) (a : Addr) (fs : List (Str × V)) : Prop := ∃ d, H a = some (exv a (.ref C) (some d)) ∧ H d = some (.xd fs)
theorem ErrAt.mono {C : Addr} {H H' : Hp} {a : Addr} {fs : List (Str × V)} (s : Same H H') (h : ErrAt C H a fs) : ErrAt C H' a fs := by
  obtain ⟨d, h1, h2⟩ := h
  exact ⟨d, s _ _ h1, s _ _ h2⟩
theorem ErrAt.keep {C : Addr} {H H' : Hp} {p a : Addr} {fs : List (Str × V)} {xs : List V} (hp : H p = some (.lst xs)) (s : Keep p H H') (h : ErrAt C H a fs) : ErrAt C H' a fs := by
  obtain ⟨d, h1, h2⟩ := h
  refine ⟨d, s _ _ (fun z => ?_) h1, s _ _ (fun z => ?_) h2⟩
  · subst z; rw [h1] at hp; cases hp
  · subst z; rw [h2] at hp; cases hp
theorem ErrAt.ty {K : PySem.W.Frag} {C : Addr} {H : Hp} {a : Addr} {fs : List (Str × V)} (c : ExcC K C) (h : ErrAt C H a fs) : TyW K H (.ref a) (.ref C) := by
  obtain ⟨d, h1, h2⟩ := h
  exact .exc h1 h2 c
theorem rd_xvV {K : PySem.W.Frag} {C : Addr} {n : Str} {i : Nat} {σ : L2.St} {H : Hp} {Q : VK} {a : Addr} {fs : List (Str × V)} {v : V} (h : σ[i]? = some (some (.ref a))) (e : ErrAt C H a fs) (T : XfC K C) (hn : PySem.W.findIn K (.ref C) n = some none) (l : fs.lookup n = some v) (q : Q v H) : tXv K n (tVar i) σ H Q := by
  obtain ⟨d, h1, h2⟩ := e
  exact ⟨.ref a, h, a, C, d, fs, v, rfl, h1, h2, T, hn, l, q⟩
/-! ### __init__ of an error -/
def spErr2 (C : Addr) (f1 f2 : Str) : Sp := fun vs H Q _ => ∃ a v1 v2, vs = [.ref a, v1, v2] ∧ H a = some (exo a C none) ∧
  ∀ d H2, H d = none → d ≠ a → H2 a = some (exo a C (some d)) → H2 d = some (exd d [(f2, v2), (f1, v1)]) → (∀ b o, b ≠ a → H b = some o → H2 b = some o) → Q .non H2
theorem rd_ost {K : PySem.W.Frag} {f : Str} {to te : TE} {D : Ends} {σ : L2.St} {H : Hp} (h : te σ H fun y H1 => to σ H1 fun x H2 => ∃ a C : Addr, x = .ref a ∧ OexC K C ∧ PySem.W.findIn K (.ref C) f = some none ∧
  ((H2 a = some (exo a C none) ∧ ∀ dx, H2 dx = none → dx ≠ a → D.nx σ (upd (upd H2 dx (exd dx [(f, y)])) a (exo a C (some dx)))) ∨
    ∃ (dx : Addr) (fs : List (Str × V)), H2 a = some (exo a C (some dx)) ∧ H2 dx = some (exd dx fs) ∧ fs.length ≤ 900 ∧ D.nx σ (upd H2 dx (exd dx ((f, y) :: fs))))) : tOst K f to te D σ H := h
/-- what a def that raises wishes of the way out: an error of the class C with these fields, all else as it was -/
def ErrW (C : Addr) (E : XK) (H : Hp) (fs : List (Str × V)) : Prop := ∀ d H', H d = none → Same H H' → H' d = some (.xd fs) → E (.ref C) (some d) H'
theorem mk_err2 {C : Addr} {f1 f2 : Str} {v1 v2 : V} {H : Hp} {Q : XK} (q : ∀ d H', H d = none → Same H H' → H' d = some (.xd [(f2, v2), (f1, v1)]) → Q (.ref C) (some d) H') :
    [v1, v2].length ≤ 1000 ∧ ∀ a, H a = none → spErr2 C f1 f2 (.ref a :: ([v1, v2] ++ [])) (upd H a (exo a C none))
      (fun v H2 => v = .non ∧ ∃ (d : Addr) (fs : List (Str × V)), H2 a = some (exo a C (some d)) ∧ H2 d = some (exd d fs) ∧ H d = none ∧ Q (.ref C) (some d) (upd (del H2 a) d (.xd fs))) (fun _ _ _ => False) := by
  refine ⟨(by show 2 ≤ 1000; decide), fun a ha => ⟨a, v1, v2, rfl, upd_same, fun d H2 hd hne e1 e2 k => ?_⟩⟩
  have hd' : H d = none := by rw [upd_ne hne] at hd; exact hd
  refine ⟨rfl, d, _, e1, e2, hd', q d _ hd' (fun b o e => ?_) upd_same⟩
  have hba : b ≠ a := fun z => by subst z; rw [ha] at e; cases e
  have hbd : b ≠ d := fun z => by subst z; rw [hd'] at e; cases e
  rw [upd_ne hbd, del_ne hba]
  exact k b o hba (by rw [upd_ne hba]; exact e)
theorem rd_mkO {C : Addr} {sp : Sp} {dvs : List V} {ta : TA} {σ : L2.St} {H : Hp} {Q : XK} (h : ta σ H fun vs H1 => vs.length ≤ 1000 ∧ ∀ a, H1 a = none → sp (.ref a :: (vs ++ dvs)) (upd H1 a (exo a C none))
  (fun v H2 => v = .non ∧ ∃ (d : Addr) (fs : List (Str × V)), H2 a = some (exo a C (some d)) ∧ H2 d = some (exd d fs) ∧ H1 d = none ∧ Q (.ref C) (some d) (upd (del H2 a) d (.xd fs))) (fun _ _ _ => False)) : tMkO C sp dvs ta σ H Q := h
/-! ### a value of any kind, its texts short -/
def Kz (H : Hp) (v : V) : Prop := ∃ t, Kd H v t ∧ ∀ z, v = .str z → z.length ≤ 100
theorem Kz.same {H H' : Hp} {v : V} (s : ∀ b o, v = .ref b → H b = some o → H' b = some o) (k : Kz H v) : Kz H' v := by
  obtain ⟨t, h, l⟩ := k
  exact ⟨t, h.same s, l⟩
theorem Kz.mono {H H' : Hp} {v : V} (s : Same H H') (k : Kz H v) : Kz H' v := k.same fun b o _ h => s b o h
theorem Kz.str {H : Hp} {z : Str} (h : z.length ≤ 100) : Kz H (.str z) := ⟨_, .str z, fun z' e => by cases e; exact h⟩
theorem Kz.int {H : Hp} (i : Int) : Kz H (.int i) := ⟨_, .int i, fun z' e => by cases e⟩
theorem Kz.non {H : Hp} : Kz H .non := ⟨_, .non, fun z' e => by cases e⟩
theorem Kz.bl {H : Hp} (b : Bool) : Kz H (.bl b) := ⟨_, .bl b, fun z' e => by cases e⟩
theorem Kz.lst {H : Hp} {a : Addr} {xs : List V} (h : H a = some (.lst xs)) : Kz H (.ref a) := ⟨_, .lst h, fun z' e => by cases e⟩
theorem Kz.tup {H : Hp} {a : Addr} {xs : List V} (h : H a = some (.tup xs)) : Kz H (.ref a) := ⟨_, .tup h, fun z' e => by cases e⟩
theorem Kz.dK {H : Hp} {a : Addr} {xs : List (Key × V)} (h : H a = some (.dK xs)) : Kz H (.ref a) := ⟨_, .dK h, fun z' e => by cases e⟩
/-- the same, and not the pen -/
def Kp (p : Addr) (H : Hp) (v : V) : Prop := Kz H v ∧ v ≠ .ref p
theorem Kp.keep {p : Addr} {H H' : Hp} {v : V} (s : Keep p H H') (k : Kp p H v) : Kp p H' v := ⟨k.1.same fun b o e h => s b o (fun z => k.2 (by rw [e, z])) h, k.2⟩
theorem Kp.mono {p : Addr} {H H' : Hp} {v : V} (s : Same H H') (k : Kp p H v) : Kp p H' v := ⟨k.1.mono s, k.2⟩
theorem Kp.str {p : Addr} {H : Hp} {z : Str} (h : z.length ≤ 100) : Kp p H (.str z) := ⟨.str h, fun z => nomatch z⟩
theorem Kp.int {p : Addr} {H : Hp} (i : Int) : Kp p H (.int i) := ⟨.int i, fun z => nomatch z⟩
theorem Kp.non {p : Addr} {H : Hp} : Kp p H .non := ⟨.non, fun z => nomatch z⟩
theorem Kp.bl {p : Addr} {H : Hp} (b : Bool) : Kp p H (.bl b) := ⟨.bl b, fun z => nomatch z⟩
theorem Kp.ref {p : Addr} {H : Hp} {a : Addr} (k : Kz H (.ref a)) (n : a ≠ p) : Kp p H (.ref a) := ⟨k, fun z => n (V.ref.inj z)⟩
def Kps (p : Addr) (H : Hp) (xs : List V) : Prop := ∀ v ∈ xs, Kp p H v
theorem Kps.nil {p : Addr} {H : Hp} : Kps p H [] := fun v h => nomatch h
theorem Kps.cons {p : Addr} {H : Hp} {x : V} {xs : List V} (h : Kp p H x) (r : Kps p H xs) : Kps p H (x :: xs) := fun v m => by
  rcases List.mem_cons.mp m with e | m
  · subst e; exact h
  · exact r v m
theorem rd_ixZ {K : PySem.W.Frag} {H : Hp} {Q : VK} {p a : Addr} {xs : List V} {d : Int} (h : SqL K H a xs) (h0 : 0 ≤ d) (h1 : d < xs.length) (kd : Kps p H xs) (q : ∀ v, Kp p H v → Q v H) : rIxL K (.ref a) (.int d) H Q := by
  have hd : d.toNat < xs.length := by omega
  have k := kd xs[d.toNat] (List.getElem_mem hd)
  exact rd_ixL h (atI_int h0 (List.getElem?_eq_getElem hd)) (q _ k)
def spThing : Sp := fun vs H Q _ => ∃ (p : Addr) (n : Nat) (c : Addr), vs = [.ref p] ∧ PenAt c H p n ∧ n + 1 < 100000 ∧ ∀ v H', Kp p H' v → PenAt c H' p (n + 1) → Keep p H H' → Q v H'
theorem rd_ixStr {z : Str} {i : Int} {c : Nat} {H : Hp} {Q : VK} (hz : z.length ≤ 100000) (h0 : 0 ≤ i) (h : z.cps.toList[i.toNat]? = some c) (q : Q (.str ⟨#[c]⟩) H) : rIxS (.str z) (.int i) H Q :=
  ⟨z, i, c, rfl, rfl, Nat.le_trans hz (by decide), atI_int h0 h, q⟩
/-! ### signals -/
def sigF (v w : V) : List (Str × V) := [("name", v), ("tokens", w)]
theorem putF_sig (v w : V) : putF "tokens" w (putF "name" v []) = sigF v w := by
  have h : ¬ (("name" : Str) = "tokens") := by decide +kernel
  show (if ("name" : Str) = "tokens" then _ else (("name" : Str), v) :: putF "tokens" w []) = _
  rw [if_neg h]
  rfl
def spSigInit (C N : Addr) : Sp := fun vs H Q E => ∃ x dx v w, vs = [.ref x, v, w] ∧ H x = some (.ins C dx []) ∧ Kz H v ∧ Kz H w ∧
  (isName v = false → ErrW N E H [("place", .non), ("reason", .str "name")]) ∧
  (isName v = true → within w 0 3 = false → ErrW N E H [("place", .non), ("reason", .str "tokens")]) ∧
  (isName v = true → within w 0 3 = true → ∀ H', H' x = some (.ins C dx (sigF v w)) → Keep x H H' → Q .non H')
def spLawWithin : Sp := fun vs H Q _ => ∃ v lo hi, vs = [v, .int lo, .int hi] ∧ Kz H v ∧ Q (.bl (within v lo hi)) H
def spNum (m : Nat) : Sp := fun vs H Q _ => ∃ (p : Addr) (n : Nat) (c : Addr), vs = [.ref p] ∧ PenAt c H p n ∧ n + m < 100000 ∧ ∀ H', PenAt c H' p (n + m) → Keep p H H' → Q (.bl true) H'
theorem isName_str {v : V} (h : isName v = true) : ∃ z, v = .str z ∧ nameOk z = true := by
  cases v with
  | str z => exact ⟨z, rfl, h⟩
  | _ => cases h
theorem within_int {v : V} {lo hi : Int} (h : within v lo hi = true) : ∃ i, v = .int i ∧ lo ≤ i ∧ i ≤ hi := by
  cases v with
  | int i =>
    have h' : (decide (lo ≤ i) && decide (i ≤ hi)) = true := h
    rw [Bool.and_eq_true] at h'
    exact ⟨i, rfl, of_decide_eq_true h'.1, of_decide_eq_true h'.2⟩
  | _ => cases h
end Lay
namespace Lay
open PySem L2 PySem.Spec PyProof.Rows Exv
theorem kitAny_no {K : PySem.W.Frag} {t c : Value} {cs : List Value} (h : PySem.W.kitOne K t c = some false) (hr : PySem.W.kitAny K t cs = some false) : PySem.W.kitAny K t (c :: cs) = some false := kitAny_cons h (fun _ => hr) (fun z => nomatch z)
end Lay
namespace Lay
open PySem L2 PySem.Spec PyProof.Rows Exv
theorem rd_make {C : Addr} {sp : Sp} {dvs : List V} {E : XK} {t : TA} {σ : L2.St} {H : Hp} {Q : VK} (h : t σ H fun vs H1 => ∀ x dx, H1 x = none → H1 dx = none → dx ≠ x →
  sp (.ref x :: (vs ++ dvs)) (upd (upd H1 dx (.own x)) x (.ins C dx [])) (fun v H2 => v = .non ∧ Q (.ref x) H2) E) : tMake C sp dvs E t σ H Q := h
/-- a signal stands at x -/
def SigAt (C : Addr) (H : Hp) (x : Addr) (z : Str) (i : Int) : Prop := ∃ dx, H x = some (.ins C dx (sigF (.str z) (.int i)))
theorem SigAt.mono {C : Addr} {H H' : Hp} {x : Addr} {z : Str} {i : Int} (s : Same H H') (h : SigAt C H x z i) : SigAt C H' x z i := by
  obtain ⟨dx, e⟩ := h
  exact ⟨dx, s _ _ e⟩
theorem SigAt.keep {C : Addr} {H H' : Hp} {p x : Addr} {z : Str} {i : Int} {xs : List V} (hp : H p = some (.lst xs)) (s : Keep p H H') (h : SigAt C H x z i) : SigAt C H' x z i := by
  obtain ⟨dx, e⟩ := h
  exact ⟨dx, s _ _ (fun z => by subst z; rw [e] at hp; cases hp) e⟩
/-- a signal of good values is made -/
theorem mk_sig {C N : Addr} {H : Hp} {z : Str} {i : Int} {Q : Addr → Hp → Prop} {E : XK} (hz : nameOk z = true) (i0 : 0 ≤ i) (i3 : i ≤ 3) (q : ∀ x H', Same H H' → SigAt C H' x z i → Q x H') :
    ∀ x dx, H x = none → H dx = none → dx ≠ x → spSigInit C N [.ref x, .str z, .int i] (upd (upd H dx (.own x)) x (.ins C dx [])) (fun v H2 => v = .non ∧ Q x H2) E := by
  intro x dx hx hdx hne
  have s0 : Same H (upd (upd H dx (.own x)) x (.ins C dx [])) := Lay.Same.upd' (Lay.Same.upd hdx) (by rw [upd_ne hne.symm]; exact hx)
  have hn : isName (.str z) = true := hz
  have hw : within (.int i) 0 3 = true := by show (decide (0 ≤ i) && decide (i ≤ 3)) = true; rw [decide_eq_true i0, decide_eq_true i3]; rfl
  refine ⟨x, dx, .str z, .int i, rfl, upd_same, .str (by have := nameOk_len hz; omega), .int _, fun h => ?_, fun _ h => ?_, fun _ _ H' e k => ⟨rfl, q x H' (fun b o hb => ?_) ⟨dx, e⟩⟩⟩
  · rw [hn] at h; cases h
  · rw [hw] at h; cases h
  · have hbx : b ≠ x := fun z => by subst z; rw [hx] at hb; cases hb
    exact k b o hbx (s0 b o hb)
/-- one of two -/
theorem two_at {i j d : Int} (d0 : 0 ≤ d) (d1 : d < 2) : ∃ k, atI [V.int i, V.int j] d = some (.int k) ∧ (k = i ∨ k = j) := by
  obtain rfl | rfl : d = 0 ∨ d = 1 := by omega
  · exact ⟨i, rfl, .inl rfl⟩
  · exact ⟨j, rfl, .inr rfl⟩
end Lay
end
section
namespace PySem
namespace RTL
open RT
section
variable {prog : Program} {w : World} {A : Around} {E : Value → Shared → Prop} {s : Shared}
/-- l.__init__(reversed(list)) -/
theorem extend_rev {R : Result → Shared → Prop} {it l : Addr} {items : Array Value} (hh : A.handled = none) (hit : s.heap.IsRevIter it l ((items.size : Int) - 1)) (hl : s.heap.IsList l items) (hne : l ≠ it) (hn : items.size ≤ sizeLine)
    (S : Addr) (res : Value) (c₀ : Nat) (hS : s.heap.get? S = some { cls := .type "list", data := .seq #[] c₀ }) (hSi : S ≠ it) (hSl : S ≠ l)
    (hR : ∀ h' tk acc' c', (∀ b o, b ≠ S → b ≠ it → s.heap.get? b = some o → h'.get? b = some o) → h'.get? S = some { cls := .type "list", dict := none, data := .seq acc' c', slots := #[] } →
      ItemsOf (fun i v => items[items.size - 1 - i]? = some v) acc' items.size → R (.ok (.ret res)) { s with heap := h', toks := tk }) :
    wpAny (model prog w) A.in1 (Builtin.List.listExtendWith (.ref S) (.ref it) res)
      (fun fin s' => match fin with | .done f => R (.ok f) s' | .again c' => c'.quiet = true ∧ codeAny (model prog w) A c' R s') (fun e s' => R (.error e) s') s := by
  have W := (Walks.listRev (prog := prog) (w := w) (A := A.in1) hh it l hne items).toS
  have hSf : S ∉ [it, l] := by simp only [List.mem_cons, List.not_mem_nil, or_false, not_or]; exact ⟨hSi, hSl⟩
  have hT : s.TypeIs (.ref it) "list_reverseiterator" := hit.typeIs
  have h1 : Builtin.List.listSameRef (.ref S) (.ref it) = false := by simp [Builtin.List.listSameRef, hSi]
  unfold Builtin.List.listExtendWith
  refine wpAny_bind (wpAny_typeOf hT ?_)
  rw [if_neg (by rw [h1]; decide)]
  refine wpAny_bind (wpAny_pyIter_revIter hit ?_)
  refine wpAny_bind (wpAny_holding ?_)
  unfold Builtin.List.listLengthHint
  refine wpAny_bind (wpAny_specialOf hT nolen_lri ?_)
  show wpAny _ A.in1 (specialOf (Value.ref it) (Str.ofString "__length_hint__") >>= _) _ _ _
  refine wpAny_bind (wpAny_specialOf hT hint_lri ?_)
  generalize hid : ("list_reverseiterator.__length_hint__" : String) = id0
  wp_delta
  rw [show splitId id0 = some ("list_reverseiterator", "__length_hint__") from by subst hid; decide +kernel]
  subst hid
  refine wpAny_bind (wpAny_isInstance (b := true) hT (by rw [isSubtype_type]; kernel_rfl) ?_)
  refine wpAny_pure ?_
  rw [if_neg (by decide)]
  have e0 : ((items.size : Nat) : Int) - 1 - ((0 : Nat) : Int) = (items.size : Int) - 1 := by omega
  refine wpAny_pure ⟨plainId_quiet F.plain_extend_loop _, codeAny_extend_loopS W hn _ hSf _ items.size 0 _ _ _ rfl (Nat.zero_le _) ⟨Nat.zero_le _, by rw [e0]; exact hit, hl⟩ hS (ItemsOf.nil _) fun s' acc' c' hm hS' hacc => ?_⟩
  rw [Moved.eq_with hm]
  refine hR s'.heap s'.toks acc' c' (fun b o hb hbi e => hm.heap b o (fun hmem => ?_) e) hS' hacc
  rcases List.mem_cons.mp hmem with e' | hmem
  · exact hb e'
  · exact hbi (List.mem_singleton.mp hmem)
theorem list_init_rev {R : Result → Shared → Prop} {it l : Addr} {items : Array Value} (hh : A.handled = none) (hit : s.heap.IsRevIter it l ((items.size : Int) - 1)) (hl : s.heap.IsList l items) (hne : l ≠ it) (hn : items.size ≤ sizeLine)
    (S : Addr) (hS : s.heap.get? S = some { cls := .type "list", data := .seq #[] }) (hSi : S ≠ it) (hSl : S ≠ l)
    (hR : ∀ h' tk acc' c', (∀ b o, b ≠ S → b ≠ it → s.heap.get? b = some o → h'.get? b = some o) → h'.get? S = some { cls := .type "list", dict := none, data := .seq acc' c', slots := #[] } →
      ItemsOf (fun i v => items[items.size - 1 - i]? = some v) acc' items.size → R (.ok (.ret .none)) { s with heap := h', toks := tk }) :
    wpAny (model prog w) A.in1 (Builtin.«list.__init__» ⟨[.ref S, .ref it], []⟩)
      (fun fin s' => match fin with | .done f => R (.ok f) s' | .again c' => c'.quiet = true ∧ codeAny (model prog w) A c' R s') (fun e s' => R (.error e) s') s := by
  show wpAny _ _ (do let old ← Builtin.List.listItems (.ref S); Builtin.List.listUpdate (.ref S) (fun _ => #[]); letGo old.toList.reverse; Builtin.List.listExtendWith (.ref S) (.ref it) .none) _ _ s
  refine wpAny_bind ?_
  unfold Builtin.List.listItems
  refine wpAny_bind (wpAny_seqItems hS rfl (wpAny_pure ?_))
  show wpAny _ _ (updateSeq S (fun _ => #[]) >>= fun _ => letGo (#[] : Array Value).toList.reverse >>= fun _ => Builtin.List.listExtendWith (.ref S) (.ref it) .none) _ _ s
  refine wpAny_bind (wpAny_updateSeq hS rfl ?_)
  have hS₂ := Heap.get?_update_self (Obj.mapSeq (fun _ => (#[] : Array Value))) hS rfl
  have oth : ∀ b o, b ≠ S → s.heap.get? b = some o → (s.heap.update S (Obj.mapSeq (fun _ => (#[] : Array Value)))).get? b = some o :=
    fun b o hb e => (Heap.get?_update_other _ _ (Ne.symm hb)).trans e
  refine wpAny_bind (wpAny_letGo ?_)
  refine extend_rev (s := { s with heap := s.heap.update S (Obj.mapSeq (fun _ => (#[] : Array Value))) }) hh (hit.at fun o e => oth it o (Ne.symm hSi) e) (hl.at fun o e => oth l o (Ne.symm hSl) e) hne hn S .none _ hS₂ hSi hSl fun h' tk acc' c' hk hS' hacc => ?_
  exact hR h' tk acc' c' (fun b o hb hbi e => hk b o hb hbi (oth b o hb e)) hS' hacc
theorem call_list_rev {it l : Addr} {items : Array Value} {Q : Value → Shared → Prop} (hh : A.handled = none) (hit : s.heap.IsRevIter it l ((items.size : Int) - 1)) (hl : s.heap.IsList l items) (hne : l ≠ it) (hn : items.size ≤ sizeLine)
    (hQ : ∀ h' tk acc' c', (∀ b o, b ≠ it → s.heap.get? b = some o → h'.get? b = some o) →
      h'.get? s.heap.objs.size = some { cls := .type "list", dict := none, data := .seq acc' c', slots := #[] } → ItemsOf (fun i v => items[items.size - 1 - i]? = some v) acc' items.size → Q (.ref s.heap.objs.size) { s with heap := h', toks := tk }) :
    wpAny (model prog w) A (call (.type "list") [.ref it]) Q E s := by
  refine callType_codes (Q₁ := fun obj s₁ => obj = .ref s.heap.objs.size ∧ s₁ = { s with heap := s.heap.push { cls := .type "list", data := .seq #[] } }) F.called_list (F.typeCall_list_1 _) F.entry_list_init
    (code_list_new _ ⟨rfl, rfl⟩) fun obj s₁ h₁ => ?_
  obtain ⟨rfl, rfl⟩ := h₁
  have hS : (s.heap.push { cls := .type "list", data := .seq #[] }).get? s.heap.objs.size = some { cls := .type "list", data := .seq #[] } := Heap.get?_push_size _ rfl
  have hSi : s.heap.objs.size ≠ it := by obtain ⟨o, ho, _⟩ := hit; exact Nat.ne_of_gt (Heap.lt_size ho)
  have hSl : s.heap.objs.size ≠ l := by obtain ⟨o, ho, _⟩ := hl; exact Nat.ne_of_gt (Heap.lt_size ho)
  refine ⟨⟨_, hS, rfl⟩, F.args_list_init_2 _ _, list_init_rev (A := A.in1) hh (hit.at fun o e => Heap.get?_push_of_some _ e) (hl.push _) hne hn _ hS hSi hSl fun h' tk acc' c' hk hS' hacc => ?_⟩
  exact ⟨rfl, hQ h' tk acc' c' (fun b o hb e => hk b o (Nat.ne_of_lt (Heap.lt_size e)) hb (Heap.get?_push_of_some _ e)) hS' hacc⟩
end
end RTL
end PySem
namespace Lay
open PySem PySem.Spec PyProof.Rows L2 RT
/-- list(reversed(x)), x a list: a new list -/
def tListRev (K : PySem.W.Frag) (te : TE) : TE := fun σ H Q => te σ H fun v H1 => ∃ (a : Addr) (xs : List V), v = .ref a ∧ SqL K H1 a xs ∧ ∀ q, H1 q = none → Q (.ref q) (upd H1 q (.lst xs.reverse))
theorem rd_listRev {K : PySem.W.Frag} {te : TE} {σ : L2.St} {H : Hp} {Q : VK} (h : te σ H fun v H1 => ∃ (a : Addr) (xs : List V), v = .ref a ∧ SqL K H1 a xs ∧ ∀ q, H1 q = none → Q (.ref q) (upd H1 q (.lst xs.reverse))) : tListRev K te σ H Q := h
theorem pe_listRev {X : Cx} {e : Expr} {te : TE} {p p2 pos pos2 : Pos} (hc : X.calm = true) (hg : Gl X "list") (hm : X.mg "list" = none) (hg2 : Gl X "reversed") (hm2 : X.mg "reversed" = none) (he : PE X e te)
    (hs : starEach [e] X.env = (false, eval e X.env) :: starEach [] X.env := by rfl)
    (hs2 : starEach [.Call (.Name "reversed" p2) [e] [] pos2] X.env = (false, eval (.Call (.Name "reversed" p2) [e] [] pos2) X.env) :: starEach [] X.env := by rfl) :
    PE X (.Call (.Name "list" p) [.Call (.Name "reversed" p2) [e] [] pos2] [] pos) (tListRev X.K te) := by
  refine ⟨fun pins s σ H Q I h => ?_⟩
  refine Call_ (ld_blt I hg hm boot_list (PyProof.Rows.callWith_type1 (args_cons (Call_ (ld_blt I hg2 hm2 PyProof.Rows.boot_reversed (PyProof.Rows.callWith_type1 (args_cons (thn (he.run pins s σ H _ I h) fun u s1 ⟨v, H1, I1, r1, q1⟩ => args_nil ?_) hs) hs rfl))) hs2) hs2 rfl))
  obtain ⟨a, xs, ev, hq, q⟩ := q1
  subst ev
  obtain rfl : u = Value.ref a := r1
  obtain ⟨its, rv, p', hz⟩ := I1.list hq
  refine call_reversed_list p'.isList (args_nil ?_)
  have k0 : ∀ b o, s1.heap.get? b = some o → (s1.heap.push (revObj a ((its.toArray.size : Int) - 1))).get? b = some o := fun b o e => Heap.get?_push_of_some _ e
  have I2 : Inv X pins σ H1 { s1 with heap := s1.heap.push (revObj a ((its.toArray.size : Int) - 1)) } := I1.kept (t' := s1.toks) k0
  obtain ⟨f0, f1, f2, f3, f4, f5⟩ := I1.fpOk (H' := H1) (b := s1.heap.objs.size) (Nat.le_refl _) (I1.hok.fresh (Nat.le_refl _))
  have hl := p'.isList
  obtain ⟨ol, hol, _⟩ := id hl
  have hne : a ≠ s1.heap.objs.size := Nat.ne_of_lt (Heap.lt_size hol)
  have hn : its.toArray.size ≤ sizeLine := by rw [List.size_toArray, ← rv.length]; exact hz
  refine PySem.RTL.call_list_rev (s := { s1 with heap := s1.heap.push (revObj a ((its.toArray.size : Int) - 1)) }) (I1.ok.hd hc) ⟨_, Heap.get?_push_size _ rfl, rfl, rfl⟩ (hl.push _) hne hn fun h' tk acc c' hk hS hi => ?_
  have I3 : Inv X pins σ H1 { s1 with heap := h', toks := tk } := I2.turned (t' := tk) (fun b o hb e => hk b o hb e) f0 f1 f3 f4 f5
  have hsz : (s1.heap.push (revObj a ((its.toArray.size : Int) - 1))).objs.size = s1.heap.objs.size + 1 := Heap.size_push ..
  have hnone : H1 (s1.heap.push (revObj a ((its.toArray.size : Int) - 1))).objs.size = none := I2.hok.fresh (Nat.le_refl _)
  have ob : ObjOk X.prog X.w (upd H1 (s1.heap.push (revObj a ((its.toArray.size : Int) - 1))).objs.size (.lst xs.reverse)) h' (s1.heap.push (revObj a ((its.toArray.size : Int) - 1))).objs.size (.lst xs.reverse) :=
    ⟨by rw [List.length_reverse]; exact hz, acc.toList, c', vals_rev rv hi, by rw [Array.toArray_toList]; exact hS⟩
  refine ⟨.ref _, upd H1 _ (.lst xs.reverse), ?_, rfl, q _ hnone⟩
  have hbig : s1.heap.objs.size ≤ (s1.heap.push (revObj a ((its.toArray.size : Int) - 1))).objs.size := by rw [hsz]; exact Nat.le_succ _
  refine I1.un (t' := tk) ⟨fun b o e n hf hx => hk b o (Nat.ne_of_lt (Heap.lt_size e)) (k0 b o e), fun b o e n hf hx => ⟨o.slots, hk b o (Nat.ne_of_lt (Heap.lt_size e)) (k0 b o e)⟩, fun b o e n hx => ?_, fun b o e hx => ⟨o, hk b o (Nat.ne_of_lt (Heap.lt_size e)) (k0 b o e)⟩, fun b ys e => ?_, fun b o u e => ?_, fun b ps e => ?_⟩ fun b o e => ?_
  · rw [upd_ne (Nat.ne_of_lt (Nat.lt_of_lt_of_le (Heap.lt_size e) hbig))]; exact n
  · rw [upd_ne (ne_of_none e hnone)]; exact e
  · rw [upd_ne (ne_of_none e hnone)]; exact e
  · exact ⟨#[], by rw [upd_ne (ne_of_none e hnone), e]; simp⟩
  · by_cases hb : b = (s1.heap.push (revObj a ((its.toArray.size : Int) - 1))).objs.size
    · subst hb
      rw [upd_same] at e
      cases e
      exact ob
    · rw [upd_ne hb] at e
      exact (I3.hok b o e).stay (fun _ _ _ z => z) (fun c z => by rw [upd_ne (ne_of_none z hnone)]; exact z) (fun c ys z => by rw [upd_ne (ne_of_none z hnone)]; exact z)
end Lay
end
section
namespace Exv
open PySem PySem.Spec PyProof.Rows L2
def tCMethKS (C : Addr) (m : Nat) (sp : Sp) (gV : List V → List V → List V) (E : L2.St → XK) (ta : TE) (tk : TA) : TE := fun σ H Q => ta σ H fun x H1 => x = .ref C ∧ tk σ H1 fun zs H2 => zs.length = m ∧ sp (gV [.ref C] zs) H2 Q (E σ)
theorem rd_cmethKS {C : Addr} {m : Nat} {sp : Sp} {gV : List V → List V → List V} {E : L2.St → XK} {ta : TE} {tk : TA} {σ : L2.St} {H : Hp} {Q : VK} (h : ta σ H fun x H1 => x = .ref C ∧ tk σ H1 fun zs H2 => zs.length = m ∧ sp (gV [.ref C] zs) H2 Q (E σ)) : tCMethKS C m sp gV E ta tk σ H Q := h
section
variable {X : Cx} {CX : CXT} {k : Nat} {C p g : Addr} {mc : Value} {sp : Sp} {E : L2.St → XK} {o e : Expr} {es : List Expr} {kws : List Keyword} {m : Str} {pos apos : Pos} {ta : TE} {t tk : TA} {pl : Sem Bool} {fd : FuncData} {ps ks : List Str} {gg : List Value → List Value → List Value} {gV : List V → List V → List V}
/-- C.m(k = v, ..) -/
theorem pe_cmethKS (he : PE X o ta) (r : ClX.CRead X.K C mc) (c : ClX.CMet X.K C mc m p g) (F : FnOk X.prog X.w X.K X.mg X.base CX k g fd ps sp) (hr : Room k X.A) (hb : KBn X.K fd ps 1 ks gg gV) (hx : ∀ σ, PassesAt CX X σ (E σ)) (hkw : PK X kws tk)
    (hall : (backToKw pos (keywordEach kws X.env)).all (·.1.isSome) = true := by rfl) (hks : (backToKw pos (keywordEach kws X.env)).filterMap (·.1) = ks := by rfl)
    (hpl : ((backTo pos (starEach [] X.env)).any (·.1) || (backToKw pos (keywordEach kws X.env)).any (·.1.isNone)) = false := by rfl)
    (ht : eval (.Call (.Attribute o m apos) [] kws pos) X.env = (do
      let ov ← eval o X.env
      standAt apos.atName
      let (f, first) ← holding [ov] (getMethod ov m pl)
      callWith pos f first (backTo pos (starEach [] X.env)) (backToKw pos (keywordEach kws X.env))) := by rfl) :
    PE X (.Call (.Attribute o m apos) [] kws pos) (tCMethKS C ks.length sp gV E ta tk) := by
  refine ⟨fun pins s σ H Q I h => ?_⟩
  refine PySem.W.methodCall_KW (pl := pl) (thn (he.run pins s σ H _ I h) fun u s1 ⟨x, H1, I1, rx, ex, q⟩ => ?_) ht
  subst ex
  obtain rfl : u = Value.ref C := rx
  refine ClX.getmethcm_ok I1 r c fun s2 I2 => ?_
  have hq0 : X.base.get? s1.heap.objs.size = none := ClX.base_none I1 (Nat.le_refl _)
  refine PySem.W.callWith_of hpl (PySem.W.keeps_M (K := X.K) (self := .ref C) c.fi) (evalArgs_kw2_nil hall (thn (hkw.run pos _ s2 σ H1 _ I2 q) fun ws s3 ⟨zs, H2, I3, rz, l2, q2⟩ => ⟨⟨ClX.pin_at I3, I3.kIn⟩, ?_⟩))
  rw [hks]
  have e2 : ws.length = ks.length := rz.length.symm.trans l2
  have rC : Vals [V.ref C] [Value.ref C] := .cons rfl .nil
  have z : wpAny (model X.prog X.w) X.A (call (.ref s1.heap.objs.size) ([] ++ []) (ks.zip ws)) (EP X ((s1.heap.objs.size, PySem.W.methodObj (.ref g) (.ref C)) :: pins) σ Q) X.xe s3 := by
    refine wpAny_call (PySem.W.method_call (ClX.pin_at I3) (codeAny_mono (F.run X.A X.stack s3 H2 ⟨[.ref C], ks.zip ws⟩ (gg [.ref C] ws) (gV [.ref C] zs) Q (E σ) hr I3.env0 (hb.to s3 [.ref C] ws I3.kIn rfl e2) (hb.rel rC rz) q2) fun r s' hq => ?_))
    cases r with
    | error e => exact hx σ _ H2 s3 e s' I3 hq
    | ok fl =>
      cases fl with
      | ret u => exact I3.after hq
      | next => exact False.elim hq
      | brk => exact False.elim hq
      | cont => exact False.elim hq
  exact thn z fun _ _ y => ClX.unpinE y
end
end Exv
end
section
namespace Lay
open PySem PySem.Spec PyProof.Rows L2 Exv
/-! ### variables -/
/-- the first number below n of which p holds -/
def fst (p : Nat → Bool) : Nat → Option Nat
  | 0 => none
  | n + 1 => match fst p n with
    | some i => some i
    | none => if p n = true then some n else none
theorem fst_none {p : Nat → Bool} : ∀ {n : Nat}, (∀ j, j < n → p j = false) → fst p n = none
  | 0, _ => rfl
  | n + 1, h => by
    unfold fst
    rw [fst_none fun j hj => h j (Nat.lt_succ_of_lt hj)]
    dsimp only
    rw [h n (Nat.lt_succ_self n), if_neg Bool.false_ne_true]
theorem fst_some {p : Nat → Bool} {i : Nat} (h1 : p i = true) (h0 : ∀ j, j < i → p j = false) : ∀ {n : Nat}, i < n → fst p n = some i
  | 0, h => absurd h (Nat.not_lt_zero _)
  | n + 1, h => by
    unfold fst
    by_cases e : i < n
    · rw [fst_some h1 h0 e]
    · have : i = n := by omega
      subst this
      rw [fst_none h0]
      dsimp only
      rw [if_pos h1]
def near (s : Int) (x y : V) : Bool := match x, y with
  | .int a, .int b => decide ((if a - b < 0 then -(a - b) else a - b) < s)
  | _, _ => false
def aBad (s : Int) (xs : List V) (k : Nat) : Bool := match xs[k]? with
  | some x => !within x 0 (1024 - s)
  | none => false
def bBad (s : Int) (xs : List V) (k : Nat) : Bool := match xs[k]? with
  | some x => (xs.take k).any (near s x)
  | none => false
def er (r : Str) (p : V) : Option (Str × V) := some (r, p)
/-- what is wrong with a name, a size and addresses, the first thing of it -/
def wants (v w : V) (xs : List V) : Option (Str × V) :=
  if isName v = false then er "name" .non else
  match w with
  | .int s => if within (.int s) 1 8 = false then er "size" .non else if (decide (1 ≤ xs.length) && decide (xs.length ≤ 4)) = false then er "slots" .non else
    match fst (aBad s xs) xs.length with
    | some k => er "address" (.int k)
    | none => match fst (bBad s xs) xs.length with
      | some k => er "bytes" (.int k)
      | none => none
  | _ => er "size" .non
theorem wants_name {v w : V} {xs : List V} (h : isName v = false) : wants v w xs = er "name" .non := by unfold wants; rw [h]; rfl
theorem wants_size {v w : V} {xs : List V} (h : isName v = true) (hw : within w 1 8 = false) : wants v w xs = er "size" .non := by
  unfold wants
  rw [h, if_neg (by decide)]
  cases w with
  | int s => dsimp only; rw [hw, if_pos rfl]
  | _ => rfl
theorem wants_slots {v : V} {s : Int} {xs : List V} (h : isName v = true) (hw : within (.int s) 1 8 = true) (hl : (decide (1 ≤ xs.length) && decide (xs.length ≤ 4)) = false) : wants v (.int s) xs = er "slots" .non := by
  unfold wants
  rw [h, if_neg (by decide)]
  dsimp only
  rw [hw, if_neg (by decide), hl, if_pos rfl]
theorem wants_addr {v : V} {s : Int} {xs : List V} {k : Nat} (h : isName v = true) (hw : within (.int s) 1 8 = true) (hl : (decide (1 ≤ xs.length) && decide (xs.length ≤ 4)) = true) (ha : fst (aBad s xs) xs.length = some k) : wants v (.int s) xs = er "address" (.int k) := by
  unfold wants
  rw [h, if_neg (by decide)]
  dsimp only
  rw [hw, if_neg (by decide), hl, if_neg (by decide), ha]
theorem wants_bytes {v : V} {s : Int} {xs : List V} {k : Nat} (h : isName v = true) (hw : within (.int s) 1 8 = true) (hl : (decide (1 ≤ xs.length) && decide (xs.length ≤ 4)) = true) (ha : fst (aBad s xs) xs.length = none) (hb : fst (bBad s xs) xs.length = some k) : wants v (.int s) xs = er "bytes" (.int k) := by
  unfold wants
  rw [h, if_neg (by decide)]
  dsimp only
  rw [hw, if_neg (by decide), hl, if_neg (by decide), ha]
  dsimp only
  rw [hb]
theorem wants_none {v : V} {s : Int} {xs : List V} (h : isName v = true) (hw : within (.int s) 1 8 = true) (hl : (decide (1 ≤ xs.length) && decide (xs.length ≤ 4)) = true) (ha : fst (aBad s xs) xs.length = none) (hb : fst (bBad s xs) xs.length = none) : wants v (.int s) xs = none := by
  unfold wants
  rw [h, if_neg (by decide)]
  dsimp only
  rw [hw, if_neg (by decide), hl, if_neg (by decide), ha]
  dsimp only
  rw [hb]
theorem fst_none_at {p : Nat → Bool} : ∀ {n : Nat}, fst p n = none → ∀ j, j < n → p j = false
  | 0, _, j, h => absurd h (Nat.not_lt_zero _)
  | n + 1, e, j, h => by
    unfold fst at e
    cases hh : fst p n with
    | some i => rw [hh] at e; cases e
    | none =>
      rw [hh] at e
      dsimp only at e
      by_cases hp : p n = true
      · rw [if_pos hp] at e; cases e
      · by_cases e2 : j < n
        · exact fst_none_at hh j e2
        · have : j = n := by omega
          subst this
          exact Bool.eq_false_iff.mpr hp
/-- addresses that are none of them bad are numbers -/
theorem ints_of {s : Int} {xs : List V} (h : ∀ j, j < xs.length → aBad s xs j = false) : ∃ ns : List Int, xs = ns.map V.int ∧ ∀ n ∈ ns, 0 ≤ n ∧ n ≤ 1024 - s := by
  induction xs with
  | nil => exact ⟨[], rfl, fun n hn => nomatch hn⟩
  | cons x xs ih =>
    have h0 := h 0 (by simp)
    have h0' : within x 0 (1024 - s) = true := by
      have : (!within x 0 (1024 - s)) = false := h0
      simpa using this
    obtain ⟨i, rfl, i0, i1⟩ : ∃ i, x = .int i ∧ 0 ≤ i ∧ i ≤ 1024 - s := by
      cases x with
      | int i =>
        have h' : (decide (0 ≤ i) && decide (i ≤ 1024 - s)) = true := h0'
        rw [Bool.and_eq_true] at h'
        exact ⟨i, rfl, of_decide_eq_true h'.1, of_decide_eq_true h'.2⟩
      | _ => cases h0'
    obtain ⟨ns, rfl, hn⟩ := ih fun j hj => by
      have := h (j + 1) (by simpa using hj)
      unfold aBad at this ⊢
      simpa using this
    exact ⟨i :: ns, rfl, fun n m => by
      rcases List.mem_cons.mp m with e | m
      · subst e; exact ⟨i0, i1⟩
      · exact hn n m⟩
/-- a row of values of any kind -/
def KzL (H : Hp) (xs : List V) : Prop := ∀ x ∈ xs, Kz H x
theorem KzL.mono {H H' : Hp} {xs : List V} (s : Same H H') (h : KzL H xs) : KzL H' xs := fun x m => (h x m).mono s
def spChkAddr (N : Addr) : Sp := fun vs H Q E => ∃ (s : Int) (t : Addr) (xs : List V), vs = [.int s, .ref t] ∧ H t = some (.tup xs) ∧ KzL H xs ∧
  (∀ k, fst (aBad s xs) xs.length = some k → ErrW N E H [("place", .int (k : Nat)), ("reason", .str "address")]) ∧ (fst (aBad s xs) xs.length = none → ∀ H', Same H H' → Q .non H')
def spChkApart (N : Addr) : Sp := fun vs H Q E => ∃ (s : Int) (t : Addr) (ns : List Int), vs = [.int s, .ref t] ∧ H t = some (.tup (ns.map V.int)) ∧ ns.length ≤ 4 ∧
  (∀ k, fst (bBad s (ns.map V.int)) ns.length = some k → ErrW N E H [("place", .int (k : Nat)), ("reason", .str "bytes")]) ∧ (fst (bBad s (ns.map V.int)) ns.length = none → ∀ H', Same H H' → Q .non H')
def varF (v w : V) (t : Addr) : List (Str × V) := [("name", v), ("size", w), ("at", .ref t)]
theorem putF_var (v w : V) (t : Addr) : putF "at" (.ref t) (putF "size" w (putF "name" v [])) = varF v w t := by
  have h1 : ¬ (("name" : Str) = "size") := by decide +kernel
  have h2 : ¬ (("name" : Str) = "at") := by decide +kernel
  have h3 : ¬ (("size" : Str) = "at") := by decide +kernel
  have e1 : putF "size" w (putF "name" v []) = [(("name" : Str), v), (("size" : Str), w)] := by
    show (if ("name" : Str) = "size" then _ else (("name" : Str), v) :: putF "size" w []) = _
    rw [if_neg h1]
    rfl
  rw [e1]
  show (if ("name" : Str) = "at" then _ else (("name" : Str), v) :: putF "at" (.ref t) [(("size" : Str), w)]) = _
  rw [if_neg h2]
  show (("name" : Str), v) :: (if ("size" : Str) = "at" then _ else (("size" : Str), w) :: putF "at" (.ref t) []) = _
  rw [if_neg h3]
  rfl
/-- a variable -/
def VarAt (C : Addr) (H : Hp) (x : Addr) (v w : V) (xs : List V) : Prop := ∃ dx t, H x = some (.ins C dx (varF v w t)) ∧ H t = some (.tup xs)
theorem VarAt.mono {C : Addr} {H H' : Hp} {x : Addr} {v w : V} {xs : List V} (s : Same H H') (h : VarAt C H x v w xs) : VarAt C H' x v w xs := by
  obtain ⟨dx, t, e1, e2⟩ := h
  exact ⟨dx, t, s _ _ e1, s _ _ e2⟩
/-- __init__(self, name, size, *at), at laid -/
def spVarInit (C N : Addr) : Sp := fun vs H Q E => ∃ x dx v w t xs, vs = [.ref x, v, w, .ref t] ∧ H x = some (.ins C dx []) ∧ Kz H v ∧ Kz H w ∧ H t = some (.tup xs) ∧ KzL H xs ∧
  (∀ r p, wants v w xs = some (r, p) → ErrW N E H [("place", p), ("reason", .str r)]) ∧ (wants v w xs = none → ∀ H', VarAt C H' x v w xs → Keep x H H' → Q .non H')
/-- a variable is asked for, by a class or by made: what comes of it -/
def AskW (C N : Addr) (v w : V) (xs : List V) (H : Hp) (Q : VK) (E : XK) : Prop :=
  (∀ r p, wants v w xs = some (r, p) → ErrW N E H [("place", p), ("reason", .str r)]) ∧ (wants v w xs = none → ∀ x H', Same H H' → VarAt C H' x v w xs → Q (.ref x) H')
theorem mk_var {C N : Addr} {H : Hp} {v w : V} {xs : List V} {Q : Addr → Hp → Prop} {Q' : VK} {E : XK} (hQ : ∀ x H, Q' (.ref x) H → Q x H) (hv : Kz H v) (hw : Kz H w) (hx : KzL H xs) (hl : xs.length ≤ 100) (a : AskW C N v w xs H Q' E) :
    ∀ x dx, H x = none → H dx = none → dx ≠ x → spStar 3 (spVarInit C N) (.ref x :: v :: w :: xs) (upd (upd H dx (.own x)) x (.ins C dx [])) (fun v H2 => v = .non ∧ Q x H2) E := by
  intro x dx hx' hdx hne
  have s0 : Same H (upd (upd H dx (.own x)) x (.ins C dx [])) := Lay.Same.upd' (Lay.Same.upd hdx) (by rw [upd_ne hne.symm]; exact hx')
  refine ⟨[.ref x, v, w], xs, rfl, rfl, Nat.le_trans hl (by decide), fun t ht => ?_⟩
  have s1 := s0.trans (Lay.Same.upd (o := .tup xs) ht)
  refine ⟨x, dx, v, w, t, xs, rfl, upd_old ht upd_same, hv.mono s1, hw.mono s1, upd_same, hx.mono s1, fun r p e d H' hd s z => a.1 r p e d H' (none_of s1 hd) (s1.trans s) z, fun e H' va k => ⟨rfl, hQ _ _ (a.2 e x H' (fun b o hb => ?_) va)⟩⟩
  have hbx : b ≠ x := fun z => by subst z; rw [hx'] at hb; cases hb
  exact k b o hbx (s1 b o hb)
/-- made(cls, name, size, at) -/
def spVarMade (K : PySem.W.Frag) (C N : Addr) : Sp := fun vs H Q E => ∃ v w a xs, vs = [.ref C, v, w, .ref a] ∧ Kz H v ∧ Kz H w ∧ (SqT K H a xs ∨ SqL K H a xs) ∧ KzL H xs ∧ xs.length ≤ 100 ∧ AskW C N v w xs H Q E
end Lay
namespace Lay
open PySem PySem.Spec PyProof.Rows L2 Exv
theorem six_k {n k : Nat} (h : k ≤ n) : HT.sIx n n (some (k : Int)) = k := by
  unfold HT.sIx
  dsimp only
  split <;> omega
theorem cut_take {xs : List V} {k : Nat} (h : k ≤ xs.length) : cutV xs none (some (k : Int)) = xs.take k := by
  unfold cutV
  rw [six_k h]
  show List.take (k - 0) (List.drop 0 xs) = xs.take k
  simp
theorem rd_slA {K : PySem.W.Frag} {a : Addr} {xs : List V} {k : Nat} {H : Hp} {Q : VK} (h : SqT K H a xs) (hk : k < xs.length) (q : ∀ p, H p = none → Q (.ref p) (upd H p (.tup (xs.take k)))) : rSlA K (.ref a) none (some (k : Int)) H Q := by
  refine ⟨a, xs, rfl, h, fun e => ?_, fun _ p hp => by rw [cut_take (Nat.le_of_lt hk)]; exact q p hp⟩
  rw [six_k (Nat.le_of_lt hk)] at e
  exact absurd e.2 (by omega)
end Lay
namespace Lay
open PySem PySem.Spec PyProof.Rows L2 Exv
theorem bind_star3 {B : List Value → Sem (List (Str × Value))} {p1 p2 p3 pv : Str} (h0 : ∀ a b c, B [a, b, c] = (newTuple [] >>= fun t => pure [(p1, a), (p2, b), (p3, c), (pv, t)])) (h1 : ∀ a b c r rs, B (a :: b :: c :: r :: rs) = (newTuple (r :: rs) >>= fun t => pure [(p1, a), (p2, b), (p3, c), (pv, t)])) :
    ∀ us rest : List Value, us.length = [p1, p2, p3].length → B (us ++ rest) = (newTuple rest >>= fun t => pure ([p1, p2, p3].zip us ++ [(pv, t)]))
  | [a, b, c], [], _ => h0 a b c
  | [a, b, c], r :: rs, _ => h1 a b c r rs
end Lay
namespace Lay
open PySem PySem.Spec PyProof.Rows L2 Exv
end Lay
namespace Lay
open PySem PySem.Spec PyProof.Rows L2 Exv
theorem rd_slLk {K : PySem.W.Frag} {a : Addr} {xs : List V} {k : Nat} {H : Hp} {Q : VK} (h : SqL K H a xs) (hk : k ≤ xs.length) (q : ∀ p, H p = none → Q (.ref p) (upd H p (.lst (xs.take k)))) : rSlL K (.ref a) none (some (k : Int)) H Q :=
  ⟨a, xs, rfl, h, fun p hp => by rw [cut_take hk]; exact q p hp⟩
end Lay
namespace Lay
open PySem PySem.Spec PyProof.Rows L2 Exv
theorem rd_callS {sp : Sp} {E : L2.St → XK} {t : TA} {σ : L2.St} {H : Hp} {Q : VK} (h : t σ H fun vs H1 => sp vs H1 Q (E σ)) : tCallS sp E t σ H Q := h
end Lay
namespace Lay
open PySem PySem.Spec PyProof.Rows L2 Exv
def KpL (p : Addr) (H : Hp) (xs : List V) : Prop := ∀ x ∈ xs, Kp p H x
theorem KpL.mono {p : Addr} {H H' : Hp} {xs : List V} (s : Same H H') (h : KpL p H xs) : KpL p H' xs := fun x m => (h x m).mono s
theorem KpL.keep {p : Addr} {H H' : Hp} {xs : List V} (s : Keep p H H') (h : KpL p H xs) : KpL p H' xs := fun x m => (h x m).keep s
theorem KpL.set {p : Addr} {H : Hp} {xs : List V} {i : Nat} {y : V} (h : KpL p H xs) (hy : Kp p H y) : KpL p H (xs.set i y) := fun x m => by
  rcases List.mem_or_eq_of_mem_set m with e | e
  · exact h x e
  · rw [e]; exact hy
theorem wants_ok {v w : V} {xs : List V} (h : wants v w xs = none) : ∃ (z : Str) (s : Int) (ns : List Int), v = .str z ∧ nameOk z = true ∧ w = .int s ∧ xs = ns.map V.int := by
  by_cases hn : isName v = true
  case neg => rw [wants_name (Bool.eq_false_iff.mpr hn)] at h; cases h
  by_cases hw : within w 1 8 = true
  case neg => rw [wants_size hn (Bool.eq_false_iff.mpr hw)] at h; cases h
  obtain ⟨z, rfl, hz⟩ := isName_str hn
  obtain ⟨s, rfl, _, _⟩ := within_int hw
  by_cases hl : (decide (1 ≤ xs.length) && decide (xs.length ≤ 4)) = true
  case neg => rw [wants_slots hn hw (Bool.eq_false_iff.mpr hl)] at h; cases h
  cases ha : fst (aBad s xs) xs.length with
  | some k => rw [wants_addr hn hw hl ha] at h; cases h
  | none =>
    obtain ⟨ns, rfl, _⟩ := ints_of (fst_none_at ha)
    exact ⟨z, s, ns, rfl, hz, rfl, rfl⟩
end Lay
namespace Lay
open PySem PySem.Spec PyProof.Rows L2 Exv
theorem for_go {J : It} {n : Nat} {G : Hp → Prop} {Y : Nat → Hp → V → Hp → Prop} (w : Walk J n G Y) {g : TG} {tb : TS} {nx : L2.St → Hp → Prop} {rt : VK} {σ : L2.St} {H1 : Hp} (Pv : Nat → L2.St → Hp → Prop) (h0 : Pv 0 σ H1)
    (hG : ∀ i σ H, i ≤ n → Pv i σ H → G H) (hs : ∀ i x σ H H', i < n → Pv i σ H → Y i H x H' → g x σ H' fun σ2 H2 => tb { nx := Pv (i + 1), rt := rt, bk := nx, ct := Pv (i + 1) } σ2 H2) (hd : ∀ σ H, Pv n σ H → nx σ H) :
    ∃ W : Nat → Nat → L2.St → Hp → Prop, (∃ m, W 0 m σ H1) ∧ ∀ i m σ H, W i m σ H →
    (J.stop i H ∧ nx σ H) ∨ (J.go i H ∧ ∃ N : L2.St → Hp → Prop, (∀ σ' H', N σ' H' → ∃ m', m' < m ∧ W (i + 1) m' σ' H') ∧ ∀ x H', J.yld i H x H' → g x σ H' fun σ2 H2 => tb { nx := N, rt := rt, bk := nx, ct := N } σ2 H2) :=
  for_it (D := { nx := nx, rt := rt, bk := nx, ct := nx }) w Pv h0 hG hs hd
end Lay
end
section
namespace Lay
open PySem PySem.Spec PyProof.Rows L2
end Lay
end
section
namespace Lay
open PySem PySem.Spec PyProof.Rows L2 Exv
/-! ### a list or a tuple, gone through -/
/-! ### == of variables -/
/-! ### the lines of addresses -/
/-! ### numbers for a variable -/
def NumAt (H : Hp) (r : Addr) (z : Str) (s : Int) (t : Addr) (ns : List Int) : Prop := H r = some (.lst [.str z, .int s, .ref t]) ∧ H t = some (.lst (ns.map V.int))
theorem NumAt.mono {H H' : Hp} {r : Addr} {z : Str} {s : Int} {t : Addr} {ns : List Int} (k : Same H H') (h : NumAt H r z s t ns) : NumAt H' r z s t ns := ⟨k _ _ h.1, k _ _ h.2⟩
theorem NumAt.keep {H H' : Hp} {p r : Addr} {z : Str} {s : Int} {t : Addr} {ns : List Int} (k : Keep p H H') (hr : r ≠ p) (ht : t ≠ p) (h : NumAt H r z s t ns) : NumAt H' r z s t ns := ⟨k _ _ hr h.1, k _ _ ht h.2⟩
def Apart (ns : List Int) : Prop := ns.Pairwise fun a b => 8 ≤ a - b ∨ 8 ≤ b - a
def Good (ns : List Int) : Prop := 1 ≤ ns.length ∧ ns.length ≤ 4 ∧ (∀ n ∈ ns, 0 ≤ n ∧ n ≤ 1016) ∧ Apart ns
def Tight (ns : List Int) : Prop := 1 ≤ ns.length ∧ ns.length ≤ 4 ∧ (∀ n ∈ ns, 0 ≤ n ∧ n ≤ 180) ∧ Apart ns
theorem Tight.good {ns : List Int} (h : Tight ns) : Good ns := ⟨h.1, h.2.1, fun n m => ⟨(h.2.2.1 n m).1, by have := (h.2.2.1 n m).2; omega⟩, h.2.2.2⟩
end Lay
end
section
namespace Lay
open PySem PySem.Spec PyProof.Rows L2 Exv
def Bnd (ns : List Int) : Prop := ∀ (j : Nat) (v : Int), ns[j]? = some v → 40 * (j : Int) ≤ v ∧ v ≤ 44 * (j : Int) + 19
theorem Bnd.nil : Bnd [] := fun j v h => by cases h
theorem Bnd.app {ns : List Int} {v : Int} {i : Nat} (h : Bnd ns) (hl : ns.length = i) (h1 : 40 * (i : Int) ≤ v) (h2 : v ≤ 44 * (i : Int) + 19) : Bnd (ns ++ [v]) := by
  intro j u e
  by_cases hj : j < ns.length
  · rw [List.getElem?_append_left hj] at e
    exact h j u e
  · rw [List.getElem?_append_right (by omega)] at e
    have : j - ns.length = 0 := by
      by_cases z : j - ns.length = 0
      · exact z
      · rw [List.getElem?_eq_none (by simp; omega)] at e; cases e
    rw [this] at e
    cases e
    have : j = i := by omega
    subst this
    exact ⟨h1, h2⟩
end Lay
namespace Lay
open PySem PySem.Spec PyProof.Rows L2 Exv
theorem cut_drop1 {xs : List V} (h : 1 ≤ xs.length) : cutV xs (some 1) none = xs.drop 1 := by
  have e : HT.sIx xs.length 0 (some (1 : Int)) = 1 := by
    unfold HT.sIx
    dsimp only
    split <;> omega
  have e2 : HT.sIx xs.length xs.length none = xs.length := rfl
  unfold cutV
  rw [e, e2]
  exact List.take_of_length_le (by rw [List.length_drop]; exact Nat.le_refl _)
theorem rd_slD {K : PySem.W.Frag} {a : Addr} {xs : List V} {H : Hp} {Q : VK} (h : SqL K H a xs) (hk : 1 ≤ xs.length) (q : ∀ p, H p = none → Q (.ref p) (upd H p (.lst (xs.drop 1)))) : rSlL K (.ref a) (some 1) none H Q :=
  ⟨a, xs, rfl, h, fun p hp => by rw [cut_drop1 hk]; exact q p hp⟩
end Lay
namespace Lay
open PySem PySem.Spec PyProof.Rows L2 Exv
theorem asc_eq : ∀ {xs ys : List Int}, xs.Pairwise (· < ·) → ys.Pairwise (· < ·) → (∀ k, k ∈ xs ↔ k ∈ ys) → xs = ys
  | [], [], _, _, _ => rfl
  | [], b :: _, _, _, h => absurd ((h b).mpr (List.mem_cons_self ..)) (List.not_mem_nil)
  | a :: _, [], _, _, h => absurd ((h a).mp (List.mem_cons_self ..)) (List.not_mem_nil)
  | a :: r, b :: t, hx, hy, h => by
    obtain ⟨a1, a2⟩ := List.pairwise_cons.mp hx
    obtain ⟨b1, b2⟩ := List.pairwise_cons.mp hy
    have e : a = b := by
      rcases List.mem_cons.mp ((h a).mp (List.mem_cons_self ..)) with e | e
      · exact e
      · rcases List.mem_cons.mp ((h b).mpr (List.mem_cons_self ..)) with e2 | e2
        · exact e2.symm
        · have x1 := b1 a e
          have x2 := a1 b e2
          omega
    subst e
    rw [asc_eq a2 b2 fun k => ⟨fun m => ?_, fun m => ?_⟩]
    · rcases List.mem_cons.mp ((h k).mp (List.mem_cons_of_mem _ m)) with e | e
      · subst e; exact absurd (a1 _ m) (Int.lt_irrefl _)
      · exact e
    · rcases List.mem_cons.mp ((h k).mpr (List.mem_cons_of_mem _ m)) with e | e
      · subst e; exact absurd (b1 _ m) (Int.lt_irrefl _)
      · exact e
theorem line_in {n w : Int} (h : w = 1 ∨ w = 2 ∨ w = 4 ∨ w = 8 ∨ w = 16) (h0 : 0 ≤ n) (h1 : n < 1024) : 0 ≤ n / w ∧ n / w < 1024 / w := by
  rcases h with rfl | rfl | rfl | rfl | rfl <;> omega
def Spots (ns : List Int) : Prop := ns.length ≤ 9 ∧ ∀ n ∈ ns, 0 ≤ n ∧ n < 1024
theorem Spots.nil : Spots [] := ⟨by decide, fun n m => nomatch m⟩
theorem Spots.app {ns : List Int} {v : Int} {i : Nat} (h : Spots ns) (hl : ns.length = i) (hi : i < 9) (h0 : 0 ≤ v) (h1 : v < 1024) : Spots (ns ++ [v]) :=
  ⟨by rw [List.length_append, hl]; exact hi, fun n m => by
    rcases List.mem_append.mp m with e | e
    · exact h.2 n e
    · rw [List.mem_singleton.mp e]; exact ⟨h0, h1⟩⟩
theorem Spots.put {ns : List Int} {v : Int} {i : Nat} (h : Spots ns) (h0 : 0 ≤ v) (h1 : v < 1024) : Spots (ns.set i v) :=
  ⟨by rw [List.length_set]; exact h.1, fun n m => by
    rcases List.mem_or_eq_of_mem_set m with e | e
    · exact h.2 n e
    · rw [e]; exact ⟨h0, h1⟩⟩
/-- the numbers of the lines gone through so far that have one of these addresses -/
def Lines (ns : List Int) (w : Int) (i : Nat) (ws : List Int) : Prop := ws.length ≤ i ∧ ws.Pairwise (· < ·) ∧ ∀ k : Int, k ∈ ws ↔ (0 ≤ k ∧ k < (i : Int) ∧ ∃ n ∈ ns, n / w = k)
theorem Lines.nil {ns : List Int} {w : Int} : Lines ns w 0 [] := ⟨Nat.le_refl _, .nil, fun k => ⟨fun h => (nomatch h), fun h => by have := h.1; have := h.2.1; omega⟩⟩
theorem Lines.no {ns ws : List Int} {w : Int} {i : Nat} (h : Lines ns w i ws) (e : ¬ ∃ n ∈ ns, n / w = (i : Int)) : Lines ns w (i + 1) ws := by
  refine ⟨Nat.le_succ_of_le h.1, h.2.1, fun k => ?_⟩
  rw [h.2.2 k]
  constructor
  · rintro ⟨a, b, c⟩
    exact ⟨a, by omega, c⟩
  · rintro ⟨a, b, c⟩
    by_cases z : k = (i : Int)
    · subst z; exact absurd c e
    · exact ⟨a, by omega, c⟩
theorem Lines.all {ns ws ms : List Int} {w : Int} (hw : w = 1 ∨ w = 2 ∨ w = 4 ∨ w = 8 ∨ w = 16) (hs : Spots ns) (h : Lines ns w (1024 / w).toNat ws) (pw : ms.Pairwise (· < ·)) (mem : ∀ k, k ∈ ms ↔ ∃ n ∈ ns, n / w = k) : ms = ws := by
  refine asc_eq pw h.2.1 fun k => ?_
  rw [mem, h.2.2]
  constructor
  · rintro ⟨n, hn, rfl⟩
    have b := hs.2 n hn
    have l := line_in hw b.1 b.2
    exact ⟨l.1, by omega, n, hn, rfl⟩
  · exact fun x => x.2.2
end Lay
end
section
namespace Lay
open PySem PySem.Spec PyProof.Rows L2 Exv
/-! ### agents of any steps -/
/-- a value that may be a step: its parts, if it is a tuple -/
def SV (H : Hp) (v : V) (o : Option (List V)) : Prop := Kz H v ∧ match o with
  | some xs => (∃ p, v = .ref p ∧ H p = some (.tup xs)) ∧ ∀ x ∈ xs, Kz H x
  | none => ∃ t, Kd H v t ∧ isTy t .tuple = false
theorem SV.mono {H H' : Hp} {v : V} {o : Option (List V)} (s : Same H H') (h : SV H v o) : SV H' v o := by
  cases o with
  | none =>
    obtain ⟨h1, t, h2, h3⟩ := h
    exact ⟨h1.mono s, t, h2.mono s, h3⟩
  | some xs =>
    obtain ⟨h1, ⟨p, e, h2⟩, h3⟩ := h
    exact ⟨h1.mono s, ⟨p, e, s _ _ h2⟩, fun x m => (h3 x m).mono s⟩
theorem SV.tup {H : Hp} {p : Addr} {xs : List V} (h : H p = some (.tup xs)) (k : ∀ x ∈ xs, Kz H x) : SV H (.ref p) (some xs) := ⟨.tup h, ⟨p, rfl, h⟩, k⟩
def SVs (H : Hp) (xs : List V) (os : List (Option (List V))) : Prop := xs.length = os.length ∧ ∀ (i : Nat) (v : V), xs[i]? = some v → ∃ o, os[i]? = some o ∧ SV H v o
theorem SVs.mono {H H' : Hp} {xs : List V} {os : List (Option (List V))} (s : Same H H') (h : SVs H xs os) : SVs H' xs os := ⟨h.1, fun i v e => by
  obtain ⟨o, e1, e2⟩ := h.2 i v e
  exact ⟨o, e1, e2.mono s⟩⟩
/-- the same, with nothing at p -/
def SVp (p : Addr) (H : Hp) (v : V) (o : Option (List V)) : Prop := SV H v o ∧ v ≠ .ref p ∧ ∀ xs, o = some xs → ∀ x ∈ xs, x ≠ .ref p
theorem SVp.keep {p : Addr} {H H' : Hp} {v : V} {o : Option (List V)} (s : Keep p H H') (h : SVp p H v o) : SVp p H' v o := by
  obtain ⟨h1, h2, h3⟩ := h
  refine ⟨?_, h2, h3⟩
  cases o with
  | none =>
    obtain ⟨k1, t, k2, k3⟩ := h1
    exact ⟨(Kp.keep s ⟨k1, h2⟩).1, t, k2.same fun b u e hb => s b u (fun z => h2 (by rw [e, z])) hb, k3⟩
  | some xs =>
    obtain ⟨k1, ⟨q, e, k2⟩, k3⟩ := h1
    refine ⟨(Kp.keep s ⟨k1, h2⟩).1, ⟨q, e, s _ _ (fun z => h2 (by rw [e, z])) k2⟩, fun x m => (Kp.keep s ⟨k3 x m, h3 xs rfl x m⟩).1⟩
theorem SVp.mono {p : Addr} {H H' : Hp} {v : V} {o : Option (List V)} (s : Same H H') (h : SVp p H v o) : SVp p H' v o := ⟨h.1.mono s, h.2⟩
def SVsp (p : Addr) (H : Hp) (xs : List V) (os : List (Option (List V))) : Prop := xs.length = os.length ∧ ∀ (i : Nat) (v : V), xs[i]? = some v → ∃ o, os[i]? = some o ∧ SVp p H v o
theorem SVsp.mono {p : Addr} {H H' : Hp} {xs : List V} {os : List (Option (List V))} (s : Same H H') (h : SVsp p H xs os) : SVsp p H' xs os := ⟨h.1, fun i v e => by
  obtain ⟨o, e1, e2⟩ := h.2 i v e
  exact ⟨o, e1, e2.mono s⟩⟩
theorem SVsp.keep {p : Addr} {H H' : Hp} {xs : List V} {os : List (Option (List V))} (s : Keep p H H') (h : SVsp p H xs os) : SVsp p H' xs os := ⟨h.1, fun i v e => by
  obtain ⟨o, e1, e2⟩ := h.2 i v e
  exact ⟨o, e1, e2.keep s⟩⟩
theorem SVsp.s {p : Addr} {H : Hp} {xs : List V} {os : List (Option (List V))} (h : SVsp p H xs os) : SVs H xs os := ⟨h.1, fun i v e => by
  obtain ⟨o, e1, e2⟩ := h.2 i v e
  exact ⟨o, e1, e2.1⟩⟩
theorem SVsp.nil {p : Addr} {H : Hp} : SVsp p H [] [] := ⟨rfl, fun i v e => by simp at e⟩
theorem SVsp.app {p : Addr} {H : Hp} {xs : List V} {os : List (Option (List V))} {v : V} {o : Option (List V)} (h : SVsp p H xs os) (k : SVp p H v o) : SVsp p H (xs ++ [v]) (os ++ [o]) := by
  refine ⟨by simp [h.1], fun i w e => ?_⟩
  by_cases hi : i < xs.length
  · rw [List.getElem?_append_left hi] at e
    obtain ⟨o', e1, e2⟩ := h.2 i w e
    exact ⟨o', by rw [List.getElem?_append_left (by rw [← h.1]; exact hi)]; exact e1, e2⟩
  · rw [List.getElem?_append_right (by omega)] at e
    have : i - xs.length = 0 := by
      cases hj : i - xs.length with
      | zero => rfl
      | succ j => rw [hj] at e; simp at e
    rw [this] at e
    obtain rfl : v = w := by simpa using e
    exact ⟨o, by rw [List.getElem?_append_right (by rw [← h.1]; omega), ← h.1, this]; rfl, k⟩
theorem SVsp.set {p : Addr} {H : Hp} {xs : List V} {os : List (Option (List V))} {v : V} {o : Option (List V)} (h : SVsp p H xs os) (k : SVp p H v o) (n : Nat) : SVsp p H (xs.set n v) (os.set n o) := by
  refine ⟨by simp [h.1], fun i w e => ?_⟩
  rw [List.getElem?_set] at e ⊢
  by_cases hi : n = i
  · rw [if_pos hi] at e ⊢
    by_cases hl : i < xs.length
    · have e1 : n < xs.length := by omega
      rw [if_pos e1] at e
      have e2 : n < os.length := by rw [← h.1]; exact e1
      rw [if_pos e2]
      cases e
      exact ⟨o, rfl, k⟩
    · have e1 : ¬ n < xs.length := by omega
      rw [if_neg e1] at e; cases e
  · rw [if_neg hi] at e ⊢
    exact h.2 i w e
/-! ### what the check of an agent says -/
def lastOk (f l : V) : Bool := match l with
  | .int k => within f 0 k
  | _ => false
def memOk (w n s f l : V) : Bool := inStrs w memWords && (isName n && (within s 0 3 && (within l 0 7 && lastOk f l)))
def stepOk : Option (List V) → Bool
  | some [w, n] => inStrs w sigWords && isName n
  | some [w, n, s, f, l] => memOk w n s f l
  | _ => false
def headIn (ws : List Str) : Option (List V) → Bool
  | some (w :: _) => inStrs w ws
  | _ => false
def sBad (ws : List Str) (os : List (Option (List V))) (k : Nat) : Bool := match os[k]? with
  | some o => !(stepOk o && headIn ws o)
  | none => false
def refuses (ws : List Str) (nm : V) (os : List (Option (List V))) : Option (Str × V) :=
  if isName nm = false then er "name" .non else
  if (decide (1 ≤ os.length) && decide (os.length ≤ 24)) = false then er "steps" .non else
  match fst (sBad ws os) os.length with
  | some k => er "step" (.int k)
  | none => none
def agX (v : V) (t : Addr) : List (Str × V) := [("name", v), ("steps", .ref t)]
def AgX (C : Addr) (H : Hp) (x : Addr) (v : V) (xs : List V) : Prop := ∃ dx t, H x = some (.ins C dx (agX v t)) ∧ H t = some (.tup xs)
theorem AgX.mono {C : Addr} {H H' : Hp} {x : Addr} {v : V} {xs : List V} (s : Same H H') (h : AgX C H x v xs) : AgX C H' x v xs := by
  obtain ⟨dx, t, e1, e2⟩ := h
  exact ⟨dx, t, s _ _ e1, s _ _ e2⟩
/-- an agent is asked for: what comes of it -/
def AskA (C N : Addr) (ws : List Str) (v : V) (xs : List V) (os : List (Option (List V))) (H : Hp) (Q : VK) (E : XK) : Prop :=
  (∀ r p, refuses ws v os = some (r, p) → ErrW N E H [("place", p), ("reason", .str r)]) ∧ (refuses ws v os = none → ∀ x H', Same H H' → AgX C H' x v xs → Q (.ref x) H')
theorem AskA.mono {C N : Addr} {ws : List Str} {v : V} {xs : List V} {os : List (Option (List V))} {H H1 : Hp} {Q : VK} {E : XK} (s : Same H H1) (a : AskA C N ws v xs os H Q E) : AskA C N ws v xs os H1 Q E :=
  ⟨fun r p e d H' hd s' z => a.1 r p e d H' (none_of s hd) (s.trans s') z, fun e x H' s' z => a.2 e x H' (s.trans s') z⟩
end Lay
end
section
namespace Lay
open PySem PySem.Spec PyProof.Rows L2 Exv
/-! ### tuples put together and cut -/
theorem cut_all {xs : List V} {lo hi : Option Int} (h : HT.sIx xs.length 0 lo = 0 ∧ HT.sIx xs.length xs.length hi = xs.length) : cutV xs lo hi = xs := by
  unfold cutV
  rw [h.1, h.2]
  show List.take (xs.length - 0) (List.drop 0 xs) = xs
  simp
theorem cut_drop {xs : List V} {k : Nat} (h : k ≤ xs.length) : cutV xs (some (k : Int)) none = xs.drop k := by
  have e : HT.sIx xs.length 0 (some (k : Int)) = k := by
    unfold HT.sIx
    dsimp only
    split <;> omega
  unfold cutV
  rw [e]
  show List.take (xs.length - k) (List.drop k xs) = xs.drop k
  rw [List.take_of_length_le (by simp)]
theorem rd_catT {K : PySem.W.Frag} {a b : Addr} {xs ys : List V} {H : Hp} {Q : VK} (ha : H a = some (.tup xs)) (hb : H b = some (.tup ys)) (hl : xs.length + ys.length ≤ 1000)
    (q : ∀ p H', Same H H' → H' p = some (.tup (xs ++ ys)) → (p = a ∨ p = b ∨ H p = none) → Q (.ref p) H') : rCatA K (.ref a) (.ref b) H Q := by
  refine ⟨a, b, xs, ys, rfl, rfl, SqT.of ha, SqT.of hb, Nat.le_trans hl (by decide), fun e => ?_, fun _ e => ?_, fun _ _ p hp => q p _ (Same.upd hp) upd_same (.inr (.inr hp))⟩
  · subst e; exact q b H (L2.Same.refl H) hb (.inr (.inl rfl))
  · subst e; exact q a H (L2.Same.refl H) (by rw [List.append_nil]; exact ha) (.inl rfl)
theorem rd_slT {K : PySem.W.Frag} {a : Addr} {xs ys : List V} {lo hi : Option Int} {H : Hp} {Q : VK} (ha : H a = some (.tup xs)) (e : cutV xs lo hi = ys)
    (q : ∀ p H', Same H H' → H' p = some (.tup ys) → (p = a ∨ H p = none) → Q (.ref p) H') : rSlA K (.ref a) lo hi H Q := by
  refine ⟨a, xs, rfl, SqT.of ha, fun w => ?_, fun _ p hp => ?_⟩
  · rw [cut_all w] at e
    subst e
    exact q a H (L2.Same.refl H) ha (.inl rfl)
  · rw [e]
    exact q p _ (Same.upd hp) upd_same (.inr hp)
theorem rd_notInI {K : PySem.W.Frag} {H : Hp} {Q : VK} {d : Int} {t : Addr} {ns : List Int} (ht : SqT K H t (ns.map V.int)) (q : Q (.bl (!decide (d ∈ ns))) H) : rIn K true (.int d) (.ref t) H Q := by
  refine ⟨t, _, rfl, .inr ht, rfl, by rw [List.all_map]; simp [flatV], ?_⟩
  have e : inV (.int d) (ns.map V.int) = decide (d ∈ ns) := by
    unfold inV
    rw [List.any_map, Bool.eq_iff_iff, List.any_eq_true, decide_eq_true_iff]
    constructor
    · rintro ⟨x, m, h⟩
      have h : (x == d) = true := h
      rw [← beq_iff_eq.mp h]; exact m
    · intro m
      exact ⟨d, m, show (d == d) = true from beq_self_eq_true d⟩
  show Q (.bl (!inV (.int d) (ns.map V.int))) H
  rw [e]
  exact q
theorem SVp.tup {p q : Addr} {H : Hp} {xs : List V} (h : H q = some (.tup xs)) (n : q ≠ p) (k : ∀ x ∈ xs, Kp p H x) : SVp p H (.ref q) (some xs) :=
  ⟨.tup h fun x m => (k x m).1, fun z => n (V.ref.inj z), fun ys e x m => by cases e; exact (k x m).2⟩
theorem SVp.no {p : Addr} {H : Hp} {v : V} {t : Kn} (h : Kz H v) (k : Kd H v t) (nt : isTy t .tuple = false) (n : v ≠ .ref p) : SVp p H v none := ⟨⟨h, t, k, nt⟩, n, fun ys e => nomatch e⟩
/-- any value of a known kind may be a step -/
theorem SVp.any {p : Addr} {H : Hp} {v : V} (h : Kp p H v) (ht : ∀ q xs, v = .ref q → H q = some (.tup xs) → ∀ x ∈ xs, Kp p H x) : ∃ o, SVp p H v o := by
  obtain ⟨⟨t, k, z⟩, n⟩ := h
  cases k with
  | @tup a xs e => exact ⟨_, .tup e (fun q => n (by rw [q])) (ht a xs rfl e)⟩
  | non => exact ⟨_, .no ⟨_, .non, z⟩ .non rfl n⟩
  | bl b => exact ⟨_, .no ⟨_, .bl b, z⟩ (.bl b) rfl n⟩
  | int i => exact ⟨_, .no ⟨_, .int i, z⟩ (.int i) rfl n⟩
  | str x => exact ⟨_, .no ⟨_, .str x, z⟩ (.str x) rfl n⟩
  | lst e => exact ⟨_, .no ⟨_, .lst e, z⟩ (.lst e) rfl n⟩
  | dK e => exact ⟨_, .no ⟨_, .dK e, z⟩ (.dK e) rfl n⟩
def SVL (p : Addr) (H : Hp) (xs : List V) : Prop := ∀ v ∈ xs, ∃ o, SVp p H v o
theorem SVL.nil {p : Addr} {H : Hp} : SVL p H [] := fun v h => nomatch h
theorem SVL.cons {p : Addr} {H : Hp} {x : V} {xs : List V} (h : ∃ o, SVp p H x o) (r : SVL p H xs) : SVL p H (x :: xs) := fun v m => by
  rcases List.mem_cons.mp m with e | m
  · subst e; exact h
  · exact r v m
theorem SVp.non {p : Addr} {H : Hp} : ∃ o, SVp p H .non o := ⟨_, .no .non .non rfl (fun z => nomatch z)⟩
theorem SVp.bl {p : Addr} {H : Hp} (b : Bool) : ∃ o, SVp p H (.bl b) o := ⟨_, .no (.bl b) (.bl b) rfl (fun z => nomatch z)⟩
theorem SVp.int {p : Addr} {H : Hp} (i : Int) : ∃ o, SVp p H (.int i) o := ⟨_, .no (.int i) (.int i) rfl (fun z => nomatch z)⟩
theorem SVp.str {p : Addr} {H : Hp} {z : Str} (h : z.length ≤ 100) : ∃ o, SVp p H (.str z) o := ⟨_, .no (.str h) (.str z) rfl (fun z => nomatch z)⟩
/-! ### the law's own look at a step -/
end Lay
namespace Lay
open PySem PySem.Spec PyProof.Rows L2 Exv
end Lay
end
section
namespace Lay
open PySem PySem.Spec PyProof.Rows L2 Exv
/-! ### equality: anything is equal to itself; lists and tuples by their items -/
/-- x == y answers b, whatever runs, with n to spare -/
def EqW (K : PySem.W.Frag) (H : Hp) (n : Nat) (x y : V) (b : Bool) : Prop :=
  ∀ (X : Cx) (pins : List (Addr × Obj)) (σ : L2.St) (s : Shared) (u v : Value) (A : Around), X.K = K → Inv X pins σ H s → RelV x u → RelV y v → A.units + n < cLine → SeqAt.EqAt A s u v b
def RcW (K : PySem.W.Frag) (H : Hp) (n : Nat) (x y : V) (b : Bool) : Prop :=
  ∀ (X : Cx) (pins : List (Addr × Obj)) (σ : L2.St) (s : Shared) (u v : Value) (A : Around), X.K = K → Inv X pins σ H s → RelV x u → RelV y v → A.units + n < cLine → SeqAt.RcAt A s u v b ∧ SeqAt.RcNeAt A s u v (!b)
section
variable {K : PySem.W.Frag} {H : Hp} {n : Nat}
theorem EqW.flat {x y : V} (hx : flatV x = true) (hy : flatV y = true) : EqW K H n x y (eqV x y) := fun X pins σ s u v A _ I rx ry _ => eqAt_V rx ry hx hy
theorem eqV_self {x : V} (h : flatV x = true) : eqV x x = true := by
  cases x with
  | non => rfl
  | bl b => cases b <;> rfl
  | int i => exact beq_self_eq_true i
  | str z => exact beq_self_eq_true z
  | _ => cases h
theorem EqW.same {x : V} (h : flatV x = true ∨ ∃ a, x = .ref a) : EqW K H n x x true := by
  rcases h with h | ⟨a, rfl⟩
  · have e := EqW.flat (K := K) (H := H) (n := n) h h
    rw [eqV_self h] at e
    exact e
  · intro X pins σ s u v A _ I rx ry _
    cases rx
    cases ry
    exact SeqAt.EqAt.same _
theorem items_at {xs ys : List V} {its its2 : List Value} {e : Nat → Bool} (h : ∀ i x y, xs[i]? = some x → ys[i]? = some y → EqW K H n x y (e i)) {X : Cx} {pins : List (Addr × Obj)} {σ : L2.St} {s : Shared} {A : Around} (eK : X.K = K) (I : Inv X pins σ H s)
    (r : Vals xs its) (r2 : Vals ys its2) (hu : A.units + 1 + n < cLine) : ∀ j (h1 : j < its.toArray.size) (h2 : j < its2.toArray.size), SeqAt.EqAt A.in1 s its.toArray[j] its2.toArray[j] (e j) := by
  intro j h1 h2
  have l1 : j < its.length := by simpa using h1
  have l2 : j < its2.length := by simpa using h2
  have k1 : j < xs.length := by rw [r.length]; exact l1
  have k2 : j < ys.length := by rw [r2.length]; exact l2
  obtain ⟨u, eu, ru⟩ := r.get (List.getElem?_eq_getElem k1)
  obtain ⟨v, ev, rv⟩ := r2.get (List.getElem?_eq_getElem k2)
  have e1 : its.toArray[j] = u := by
    rw [List.getElem?_eq_getElem l1] at eu
    simpa using eu
  have e2 : its2.toArray[j] = v := by
    rw [List.getElem?_eq_getElem l2] at ev
    simpa using ev
  rw [e1, e2]
  exact h j _ _ (List.getElem?_eq_getElem k1) (List.getElem?_eq_getElem k2) X pins σ s u v A.in1 eK I ru rv (by show A.units + 1 + n < cLine; omega)
/-- two lists of one length -/
theorem RcW.lists {a b : Addr} {xs ys : List V} {e : Nat → Bool} (ha : SqL K H a xs) (hb : SqL K H b ys) (hl : xs.length = ys.length) (h : ∀ i x y, xs[i]? = some x → ys[i]? = some y → EqW K H n x y (e i)) : RcW K H (n + 1) (.ref a) (.ref b) ((List.range xs.length).all e) := by
  intro X pins σ s u v A eK I rx ry hu
  subst eK
  cases rx
  cases ry
  obtain ⟨its, r, pl, _⟩ := I.list ha
  obtain ⟨its2, r2, pl2, _⟩ := I.list hb
  have e1 : xs.length = its.toArray.size := by rw [List.size_toArray]; exact r.length
  rw [e1]
  have hs : its.toArray.size = its2.toArray.size := by rw [List.size_toArray, List.size_toArray, ← r.length, ← r2.length]; exact hl
  exact ⟨SeqAt.RcAt.lists pl.isList pl2.isList hs (by omega) (items_at h rfl I r r2 (by omega)), SeqAt.RcNeAt.lists pl.isList pl2.isList hs (by omega) (items_at h rfl I r r2 (by omega))⟩
theorem RcW.tuples {a b : Addr} {xs ys : List V} {e : Nat → Bool} (ha : SqT K H a xs) (hb : SqT K H b ys) (h : ∀ i x y, xs[i]? = some x → ys[i]? = some y → EqW K H n x y (e i)) :
    RcW K H (n + 1) (.ref a) (.ref b) ((List.range (min xs.length ys.length)).all e && (xs.length == ys.length)) := by
  intro X pins σ s u v A eK I rx ry hu
  subst eK
  cases rx
  cases ry
  obtain ⟨its, r, pl, _⟩ := I.tuple ha
  obtain ⟨its2, r2, pl2, _⟩ := I.tuple hb
  have e1 : xs.length = its.toArray.size := by rw [List.size_toArray]; exact r.length
  have e2 : ys.length = its2.toArray.size := by rw [List.size_toArray]; exact r2.length
  obtain ⟨o, h1, h2, n1, h3⟩ := id pl
  obtain ⟨o2, g1, g2, n2, g3⟩ := id pl2
  rw [e1, e2]
  have t1 : s.heap.IsTuple a its.toArray := ⟨o, h1, h2, n1, h3⟩
  have t2 : s.heap.IsTuple b its2.toArray := ⟨o2, g1, g2, n2, g3⟩
  exact ⟨SeqAt.RcAt.tuples t1 t2 (by omega) (items_at h rfl I r r2 (by omega)), SeqAt.RcNeAt.tuples t1 t2 (by omega) (items_at h rfl I r r2 (by omega))⟩
/-- the same items, each an object or a flat value -/
theorem RcW.listsSame {a b : Addr} {xs : List V} (ha : SqL K H a xs) (hb : SqL K H b xs) (h : ∀ x ∈ xs, flatV x = true ∨ ∃ c, x = .ref c) : RcW K H (n + 1) (.ref a) (.ref b) true := by
  have z := RcW.lists (n := n) (e := fun _ => true) ha hb rfl fun i x y ex ey => by
    rw [ex] at ey
    cases ey
    exact EqW.same (h x (List.mem_of_getElem? ex))
  rw [show (List.range xs.length).all (fun _ => true) = true from List.all_eq_true.mpr fun _ _ => rfl] at z
  exact z
theorem RcW.tuplesSame {a b : Addr} {xs : List V} (ha : SqT K H a xs) (hb : SqT K H b xs) (h : ∀ x ∈ xs, flatV x = true ∨ ∃ c, x = .ref c) : RcW K H (n + 1) (.ref a) (.ref b) true := by
  have z := RcW.tuples (n := n) (e := fun _ => true) ha hb fun i x y ex ey => by
    rw [ex] at ey
    cases ey
    exact EqW.same (h x (List.mem_of_getElem? ex))
  rw [show (List.range (min xs.length xs.length)).all (fun _ => true) = true from List.all_eq_true.mpr fun _ _ => rfl, Bool.true_and, beq_self_eq_true] at z
  exact z
end
def rEqW (K : PySem.W.Frag) (neg : Bool) : R2 := fun x y H Q => ∃ b, RcW K H 40 x y b ∧ Q (.bl (if neg then !b else b)) H
theorem op_eqW {X : Cx} (hu : X.A.units + 64 < cLine) : OpR X (compareOp .Eq) (rEqW X.K false) := by
  intro pins s σ H x y v u Q I rx ry h
  obtain ⟨b, hb, q⟩ := h
  exact (hb X pins σ s v u X.A rfl I rx ry (by omega)).1 _ _ _ _ ⟨.bl _, H, I, rfl, q⟩
theorem op_neW {X : Cx} (hu : X.A.units + 64 < cLine) : OpR X (compareOp .NotEq) (rEqW X.K true) := by
  intro pins s σ H x y v u Q I rx ry h
  obtain ⟨b, hb, q⟩ := h
  exact (hb X pins σ s v u X.A rfl I rx ry (by omega)).2 _ _ _ _ ⟨.bl _, H, I, rfl, q⟩
theorem rd_eqW {K : PySem.W.Frag} {H : Hp} {Q : VK} {x y : V} (b : Bool) (h : RcW K H 40 x y b) (q : Q (.bl b) H) : rEqW K false x y H Q := ⟨b, h, q⟩
theorem rd_neW {K : PySem.W.Frag} {H : Hp} {Q : VK} {x y : V} (b : Bool) (h : RcW K H 40 x y b) (q : Q (.bl (!b)) H) : rEqW K true x y H Q := ⟨b, h, q⟩
theorem Kz.fl {H : Hp} {v : V} (k : Kz H v) : flatV v = true ∨ ∃ c, v = .ref c := by
  obtain ⟨t, h, _⟩ := k
  cases h with
  | lst h => exact .inr ⟨_, rfl⟩
  | tup h => exact .inr ⟨_, rfl⟩
  | dK h => exact .inr ⟨_, rfl⟩
  | _ => exact .inl rfl
/-! ### agents asked for in the law -/
/-- what is found: the error or the agent -/
def Found (C N : Addr) (ws : List Str) (v : V) (xs : List V) (os : List (Option (List V))) (H : Hp) (e : Addr) : Prop :=
  (∃ r p, refuses ws v os = some (r, p) ∧ ErrAt N H e [("place", p), ("reason", .str r)]) ∨ (refuses ws v os = none ∧ AgX C H e v xs)
theorem Found.mono {C N : Addr} {ws : List Str} {v : V} {xs : List V} {os : List (Option (List V))} {H H' : Hp} {e : Addr} (s : Same H H') (h : Found C N ws v xs os H e) : Found C N ws v xs os H' e := by
  rcases h with ⟨r, p, h1, h2⟩ | ⟨h1, h2⟩
  · exact .inl ⟨r, p, h1, h2.mono s⟩
  · exact .inr ⟨h1, h2.mono s⟩
end Lay
namespace Lay
open PySem PySem.Spec PyProof.Rows L2 Exv
theorem SVs.one {H : Hp} {p : Addr} {xs : List V} (h : H p = some (.tup xs)) (k : ∀ x ∈ xs, Kz H x) : SVs H [.ref p] [some xs] := ⟨rfl, fun i v e => by
  cases i with
  | zero => obtain rfl : V.ref p = v := by simpa using e
            exact ⟨_, rfl, .tup h k⟩
  | succ j => simp at e⟩
theorem SVs.nil {H : Hp} : SVs H [] [] := ⟨rfl, fun i v e => by simp at e⟩
end Lay
namespace Lay
open PySem PySem.Spec PyProof.Rows L2 Exv
theorem SVs.mem {H : Hp} {xs : List V} {os : List (Option (List V))} (h : SVs H xs os) : ∀ x ∈ xs, Kz H x := fun x m => by
  obtain ⟨i, hi, e⟩ := List.getElem_of_mem m
  obtain ⟨o, _, ho⟩ := h.2 i x (by rw [List.getElem?_eq_getElem hi, e])
  exact ho.1
end Lay
namespace Lay
open PySem PySem.Spec PyProof.Rows L2 Exv
theorem rd_inD {K : PySem.W.Frag} {H : Hp} {Q : VK} {d : Int} {t : Addr} {ns : List Int} (ht : SqT K H t (ns.map V.int)) (q : Q (.bl (decide (d ∈ ns))) H) : rIn K false (.int d) (.ref t) H Q := by
  refine ⟨t, _, rfl, .inr ht, rfl, by rw [List.all_map]; simp [flatV], ?_⟩
  have e : inV (.int d) (ns.map V.int) = decide (d ∈ ns) := by
    unfold inV
    rw [List.any_map, Bool.eq_iff_iff, List.any_eq_true, decide_eq_true_iff]
    constructor
    · rintro ⟨x, m, h⟩
      have h : (x == d) = true := h
      rw [← beq_iff_eq.mp h]; exact m
    · intro m
      exact ⟨d, m, show (d == d) = true from beq_self_eq_true d⟩
  show Q (.bl (inV (.int d) (ns.map V.int))) H
  rw [e]
  exact q
end Lay
end
section
/-! ExK: an own exception with an own __init__, made with keywords. -/
namespace ExK
open PySem PySem.Spec PySem.W PySem.Calls PyProof.Rows PySem.HandSPX Builtin Builtin.ObjectAttr
end ExK
namespace ExK
open PySem PySem.Spec PyProof.Rows L2
end ExK
end
section
namespace Lay
open PySem PySem.Spec PyProof.Rows L2 Exv Grd ExK
/-! ### values that can be shown, with nothing at p -/
def KX (K : PySem.W.Frag) (p : Addr) (H : Hp) (v : V) (d : PyData) : Prop := (∀ H', Keep p H H' → DpX K H' v d) ∧ d.showable = true ∧ d.shown.length ≤ 100000 ∧ d.depth ≤ 60
theorem KX.keep {K : PySem.W.Frag} {p : Addr} {H H' : Hp} {v : V} {d : PyData} (s : Keep p H H') (h : KX K p H v d) : KX K p H' v d := ⟨fun H2 s2 => h.1 H2 (s.trans s2), h.2⟩
theorem KX.mono {K : PySem.W.Frag} {p : Addr} {H H' : Hp} {v : V} {d : PyData} (s : Same H H') (h : KX K p H v d) : KX K p H' v d := h.keep (Keep.of s)
def fits (d : PyData) : Bool := d.showable && decide (d.shown.length ≤ 100000) && decide (d.depth ≤ 60)
theorem fits_of {d : PyData} (h : fits d = true) : d.showable = true ∧ d.shown.length ≤ 100000 ∧ d.depth ≤ 60 := by
  unfold fits at h
  rw [Bool.and_eq_true, Bool.and_eq_true] at h
  exact ⟨h.1.1, of_decide_eq_true h.1.2, of_decide_eq_true h.2⟩
theorem leaf_dp {K : PySem.W.Frag} {H : Hp} {v : V} (h : isLeaf v = true) : Dp K H v (leafD v) := by
  cases v with
  | non => exact .non
  | bl b => exact .bl b
  | int i => exact .int i
  | str z => exact .str z
  | _ => cases h
theorem leaves_dp {K : PySem.W.Frag} {H : Hp} : ∀ {xs : List V}, xs.all isLeaf = true → DpAll K H xs (xs.map leafD)
  | [], _ => .nil
  | x :: xs, h => by
    rw [List.all_cons, Bool.and_eq_true] at h
    exact .cons (leaf_dp h.1) (leaves_dp h.2)
theorem KX.tup {K : PySem.W.Frag} {p a : Addr} {H : Hp} {xs : List V} (e : H a = some (.tup xs)) (n : a ≠ p) (h : xs.all isLeaf = true) (f : fits (.tuple (xs.map leafD)) = true) : ∃ d, KX K p H (.ref a) d :=
  ⟨_, fun _ s => .of (.tup (SqT.of (s _ _ n e)) (leaves_dp h)), fits_of f⟩
theorem KX.lst {K : PySem.W.Frag} {p a : Addr} {H : Hp} {xs : List V} (e : H a = some (.lst xs)) (n : a ≠ p) (h : xs.all isLeaf = true) (f : fits (.list (xs.map leafD)) = true) : ∃ d, KX K p H (.ref a) d :=
  ⟨_, fun _ s => .of (.lst (SqL.of (s _ _ n e)) (leaves_dp h)), fits_of f⟩
theorem KX.dK {K : PySem.W.Frag} {p a : Addr} {H : Hp} {kvs : List (Key × V)} (e : H a = some (.dK kvs)) (n : a ≠ p) (h : kvs.all (fun kv => isLeaf kv.2) = true) (f : fits (.dict (kvs.map fun kv => (leafD (kV kv.1), leafD kv.2))) = true) : ∃ d, KX K p H (.ref a) d :=
  ⟨_, fun _ s => .dict (s _ _ n e) (fun kv m => List.all_eq_true.mp h kv m), fits_of f⟩
def KXs (K : PySem.W.Frag) (p : Addr) (H : Hp) (xs : List V) : Prop := ∀ v ∈ xs, ∃ d, KX K p H v d
theorem KXs.nil {K : PySem.W.Frag} {p : Addr} {H : Hp} : KXs K p H [] := fun v h => nomatch h
theorem KXs.cons {K : PySem.W.Frag} {p : Addr} {H : Hp} {x : V} {xs : List V} (h : ∃ d, KX K p H x d) (r : KXs K p H xs) : KXs K p H (x :: xs) := fun v m => by
  rcases List.mem_cons.mp m with e | m
  · subst e; exact h
  · exact r v m
/-! ### errors as values -/
def ExA (C : Addr) (H : Hp) (a : Addr) : Prop := (∃ fs, ErrAt C H a fs) ∨ H a = some (exv a (.ref C) none)
theorem ExA.mono {C : Addr} {H H' : Hp} {a : Addr} (s : Same H H') (h : ExA C H a) : ExA C H' a := by
  rcases h with ⟨fs, h⟩ | h
  · exact .inl ⟨fs, h.mono s⟩
  · exact .inr (s _ _ h)
theorem ExA.ty {K : PySem.W.Frag} {C : Addr} {H : Hp} {a : Addr} (c : ExcC K C) (h : ExA C H a) : TyW K H (.ref a) (.ref C) := by
  rcases h with ⟨fs, h⟩ | h
  · exact h.ty c
  · exact .exn h c
end Lay
end
section
namespace Lay
open PySem PySem.Spec PyProof.Rows L2 Exv Grd
/-! ### numbers of rounds, or none -/
def Num (m : Int) (v : V) : Prop := v = .non ∨ ∃ i : Int, v = .int i ∧ 0 ≤ i ∧ i ≤ m
theorem Num.le {m n : Int} {v : V} (h : Num m v) (e : m ≤ n) : Num n v := by
  rcases h with rfl | ⟨i, rfl, h0, h1⟩
  · exact .inl rfl
  · exact .inr ⟨i, rfl, h0, by omega⟩
theorem log_num {i : Int} (h0 : 0 ≤ i) (h1 : i ≤ 4000000000) : i.natAbs.log2 < 32 := by
  by_cases e : i.natAbs = 0
  · rw [e]; decide
  · exact (Nat.log2_lt e).mpr (by omega)
theorem Num.lay {v : V} (h : Num 4000000000 v) : (leafD v).canLay0 = true ∧ (leafD v).depth ≤ 1 ∧ (leafD v).weight ≤ 40 := by
  rcases h with rfl | ⟨i, rfl, h0, h1⟩
  · exact ⟨rfl, by decide, by decide⟩
  · refine ⟨rfl, ?_, ?_⟩
    · simp [leafD, PyData.depth]
    · simp [leafD, PyData.weight]
      have := log_num h0 h1
      split <;> omega
def rankI : V → List Int
  | .int i => [0, i]
  | _ => [1, 0]
/-! ### lags -/
def lagF (v w : V) : List (Str × V) := [("rounds", v), ("_rank", w)]
def LagAt (C : Addr) (H : Hp) (x : Addr) (v : V) : Prop := ∃ dx t, H x = some (.ins C dx (lagF v (.ref t))) ∧ H t = some (.tup ((rankI v).map V.int))
theorem LagAt.mono {C : Addr} {H H' : Hp} {x : Addr} {v : V} (s : Same H H') (h : LagAt C H x v) : LagAt C H' x v := by
  obtain ⟨dx, t, e1, e2⟩ := h
  exact ⟨dx, t, s _ _ e1, s _ _ e2⟩
end Lay
end
section
/-! NetL: the parts of a net, as data and at a heap -/
namespace NetL
open PySem PySem.Spec PyProof.Rows L2 Lay
inductive It where
  | vr (z : Str) (s : Int) (ats : List Int)
  | sg (z : Str) (t : Int)
  | ag (z : Str) (k : Int) (ls : List (List V))
def It.nm : It → Str
  | .vr z _ _ => z | .sg z _ => z | .ag z _ _ => z
def It.isV : It → Bool
  | .vr _ _ _ => true | _ => false
def It.isS : It → Bool
  | .sg _ _ => true | _ => false
def It.isA : It → Bool
  | .ag _ _ _ => true | _ => false
def It.ls : It → List (List V)
  | .ag _ _ l => l | _ => []
/-- the bytes of a part, in the order of its slots -/
def It.bytes : It → List Int
  | .vr _ s ats => ats.flatMap fun a => (List.range s.toNat).map fun i => a + ((i : Nat) : Int)
  | _ => []
structure Cs where
  va : Addr
  si : Addr
  a0 : Addr
  a1 : Addr
  a2 : Addr
def Cs.of (C : Cs) : It → Addr
  | .vr _ _ _ => C.va
  | .sg _ _ => C.si
  | .ag _ k _ => if k = 0 then C.a0 else if k = 1 then C.a1 else C.a2
def PartAt (C : Cs) (H : Hp) (v : V) : It → Prop
  | .vr z s ats => ∃ x, v = .ref x ∧ VarAt C.va H x (.str z) (.int s) (ats.map V.int)
  | .sg z t => ∃ x, v = .ref x ∧ SigAt C.si H x z t
  | .ag z k ls => ∃ x, v = .ref x ∧ AgAt (C.of (.ag z k ls)) H x z ls
abbrev PartsAt (C : Cs) (H : Hp) : List V → List It → Prop := Paired (PartAt C H)
theorem PartAt.mono {C : Cs} {H H' : Hp} (s : Same H H') {v : V} : ∀ {it : It}, PartAt C H v it → PartAt C H' v it
  | .vr _ _ _, ⟨x, e, h⟩ => ⟨x, e, h.mono s⟩
  | .sg _ _, ⟨x, e, h⟩ => ⟨x, e, h.mono s⟩
  | .ag _ _ _, ⟨x, e, h⟩ => ⟨x, e, h.mono s⟩
theorem PartsAt.mono {C : Cs} {H H' : Hp} (s : Same H H') {vs : List V} {its : List It} (h : PartsAt C H vs its) : PartsAt C H' vs its := Paired.mono (fun _ _ => PartAt.mono s) h
theorem pget {α β : Type} {F : α → β → Prop} : ∀ {xs : List α} {ys : List β} {i : Nat} {x : α}, Paired F xs ys → xs[i]? = some x → ∃ y, ys[i]? = some y ∧ F x y
  | _, _, _, _, .nil, e => by simp at e
  | _, _, 0, _, .cons r _, e => by simp at e; subst e; exact ⟨_, rfl, r⟩
  | _, _, i + 1, x, .cons _ t, e => by
    obtain ⟨y, h1, h2⟩ := pget (i := i) (x := x) t (by simpa using e)
    exact ⟨y, by simpa using h1, h2⟩
/-- a part is an instance with a name -/
theorem PartAt.ins {C : Cs} {H : Hp} {v : V} : ∀ {it : It}, PartAt C H v it → ∃ x dx fs, v = .ref x ∧ H x = some (.ins (C.of it) dx fs) ∧ fs.lookup ("name" : Str) = some (V.str it.nm)
  | .vr z s ats, ⟨x, e, dx, t, h1, h2⟩ => ⟨x, dx, _, e, h1, by rfl⟩
  | .sg z t, ⟨x, e, dx, h1⟩ => ⟨x, dx, _, e, h1, by rfl⟩
  | .ag z k ls, ⟨x, e, dx, t, xs, h1, h2, h3⟩ => ⟨x, dx, _, e, h1, by rfl⟩
/-- what is asked of the classes -/
structure NetC (K : PySem.W.Frag) (C : Cs) : Prop where
  cl : ∀ it, Cls K (C.of it)
  nn : ∀ it, NoAttr K (C.of it) "name"
  ty : ∀ (H : Hp) (x dx : Addr) (fs : List (Str × V)) (it : It), H x = some (.ins (C.of it) dx fs) → TyX K H (.ref x) (.ref (C.of it))
  kv : ∀ it, PySem.W.kitOne K (.ref (C.of it)) (.ref C.va) = some it.isV
  ks : ∀ it, PySem.W.kitOne K (.ref (C.of it)) (.ref C.si) = some it.isS
  ka : ∀ it, PySem.W.kitOne K (.ref (C.of it)) (.ref C.a0) = some it.isA
  va : NoAttr K C.va "at"
  vs : NoAttr K C.va "size"
  st : NoAttr K C.si "tokens"
  as : ∀ z k ls, NoAttr K (C.of (.ag z k ls)) "steps"
/-- a step of an agent fits to the parts -/
def fits (its : List It) : List V → Prop
  | [.str _, .str n] => ∃ t, It.sg n t ∈ its
  | [.str _, .str n, .int _, .int _, .int e] => ∃ s ats, It.vr n s ats ∈ its ∧ e < s
  | _ => False
def steps (its : List It) : List (List V) := its.flatMap It.ls
structure Good (ring : Int) (its : List It) : Prop where
  ma : (its.filter It.isA).length ≤ 4
  mv : (its.filter It.isV).length ≤ 6
  ms : (its.filter It.isS).length ≤ 6
  nd : (its.map It.nm).Nodup
  ok : ∀ it ∈ its, nameOk it.nm = true
  vr : ∀ z s ats, It.vr z s ats ∈ its → 1 ≤ s ∧ s ≤ 8 ∧ 1 ≤ ats.length ∧ ats.length ≤ 4 ∧ ((ats.length : Int) = 1 ∨ (ats.length : Int) = ring)
  by_ : (its.flatMap It.bytes).Nodup
  gs : ∀ z k ls, It.ag z k ls ∈ its → 0 ≤ k ∧ k ≤ 2 ∧ 1 ≤ ls.length ∧ ls.length ≤ 24 ∧ ∀ l ∈ ls, GoodStep (wsK k) l ∧ fits its l
  sg : ∀ z t, It.sg z t ∈ its → 0 ≤ t ∧ t ≤ 3 ∧ (steps its).count [.str "post", .str z] = 1 ∧ (steps its).count [.str "wait", .str z] = 1
theorem cnt_le {p : It → Bool} (its : List It) (i : Nat) : ((its.take i).filter p).length ≤ (its.filter p).length := ((List.take_sublist i its).filter p).length_le
theorem cnt_succ {p : It → Bool} {its : List It} {i : Nat} {it : It} (h : its[i]? = some it) : ((its.take (i + 1)).filter p).length = ((its.take i).filter p).length + (if p it = true then 1 else 0) := by
  rw [take_succ h, List.filter_append, List.length_append]
  by_cases e : p it = true
  · rw [if_pos e, List.filter_cons_of_pos e]; rfl
  · rw [if_neg e, List.filter_cons_of_neg e]; rfl
theorem rd_aug {i : Nat} {te : TE} {ti : TIp} {D : Ends} {σ : L2.St} {H : Hp} (h : ∃ x, σ[i]? = some (some x) ∧ te σ H fun y H1 => ti x y H1 fun z H2 => D.nx (σ.set i (some z)) H2) : tAug i te ti D σ H := h
end NetL
end
section
namespace NetL
open PySem PySem.Spec PyProof.Rows L2 Lay
section
variable {X : Cx}
theorem sw_dict {kx vx : Expr} {gs : List Comprehension} {scope : Scope} {pos py : Pos} {y : Str} {l : Nat} {env : Env} (isF : env.scope.kind = .function) (loc : env.scope.names.lookup y = some .local) (line : (py.line == pos.line) = true)
    (no : (scope.names.any fun (n, k) => n == y && (k == .local || k == .cell)) = false) : swapsWith (.DictComp kx vx gs scope pos) (some (.Name y py)) l env = pure true := by
  have isL : env.kindOf y = some .local := loc
  have isB : env.blockKind = .function := by
    unfold Env.blockKind
    rw [isF]
    rfl
  unfold swapsWith
  simp only [isB, isL, no, Expr.pos, line]
  rfl
/-- y = {kx: vx for tg in iter if ..} -/
theorem ps_setDc {i : Nat} {y : Str} {py : Pos} {kx vx tg iter : Expr} {ifs : List Expr} {scope : Scope} {own : List (Str × Nat)} {pos spos : Pos} {wi : TI} {g : TG} {tt : TT} {tk tv : TE} (hc : X.calm = true) (hN : X.N.Nodup) (hy : X.N[i]? = some y)
    (hyl : X.env.scope.names.lookup y = some .local) (hsw : swapsWith (.DictComp kx vx [⟨tg, iter, ifs, 0⟩] scope pos) (some (.Name y py)) spos.line X.env = pure true) (hi : PI X tg iter wi) (ok : BlkOk X.N X.env.scope scope own)
    (hg : ∀ (s : Shared) (H : Hp) (C : Addr) (cl : List (Str × Addr)) (fp : List Addr), PG (X.blk s H scope (compEnvC scope cl C X.env) fp) tg g)
    (ht : ∀ (s : Shared) (H : Hp) (C : Addr) (cl : List (Str × Addr)) (fp : List Addr), PTs (X.blk s H scope (compEnvC scope cl C X.env) fp) ifs tt)
    (hk : ∀ (s : Shared) (H : Hp) (C : Addr) (cl : List (Str × Addr)) (fp : List Addr), PE (X.blk s H scope (compEnvC scope cl C X.env) fp) kx tk) (he : ∀ (s : Shared) (H : Hp) (C : Addr) (cl : List (Str × Addr)) (fp : List Addr), PE (X.blk s H scope (compEnvC scope cl C X.env) fp) vx tv)
    (hs : ∀ x, foldedSetIterable iter X.env x = pure x := by intro _; rfl) : PS X (.Assign [.Name y py] (.DictComp kx vx [⟨tg, iter, ifs, 0⟩] scope pos) spos) (tAsg (tDc wi g tt tk tv (own.map (·.2))) (gName i)) := by
  constructor
  intro pins s σ H D I told
  rw [exec_Assign_Name_used _ _ _ _ hsw]
  refine wpAny_bind (wpAny_standAt (wpAny_bind ?_))
  show wpAny _ X.A (do let _ ← comprehension (.DictComp kx vx [⟨tg, iter, ifs, 0⟩] scope pos) scope X.env (firstIterPos [⟨tg, iter, ifs, 0⟩] pos) newDict false (eval iter X.env) (some (assign (.Name y py) X.env))) _ _ s
  have told : tDc wi g tt tk tv (own.map (·.2)) σ H (fun x H1 => gName i x σ H1 D.nx) := told
  refine wpAny_bind (thn (dc_core (Qf := fun _ s' => SP X pins D .next s') hc hN I hi ok hg ht hk he hs told ?_) fun _ s' hq => wpAny_pure (wpAny_pure hq))
  intro L C s' m H' I' q hn fr
  show wpAny _ _ (assign (.Name y py) X.env (.ref L)) _ _ _
  refine wpAny_assign_Name (store_ok2 (v := V.ref L) I' hN hy (.inl hyl) rfl ?_ (.inr hyl))
  rintro s2 I2 ⟨a, sb, ha⟩
  obtain ⟨r0, r1, r2, r3, r4, r5⟩ := fr
  have apart : C ≠ a := by
    rcases ha with z | z
    · rw [z]
      exact r1
    · intro e
      exact r4 y a z e.symm
  refine ⟨m, hn.sameBut sb apart, ?_⟩
  intro h3 sb3
  exact ⟨_, H', I2.turned (t' := s2.toks) (fun b o hb e => (sb3.2 b hb).trans e) r0 r1 r3 r4 r5, q⟩
end
theorem not_take {α : Type} {l : List α} (h : l.Nodup) {i : Nat} {z : α} (e : l[i]? = some z) : z ∉ l.take i := by
  intro m
  obtain ⟨j, hj, ej⟩ := List.mem_iff_getElem.mp m
  rw [List.getElem_take] at ej
  obtain ⟨hi, ei⟩ := List.getElem?_eq_some_iff.mp e
  have hj' : j < i := by
    rw [List.length_take] at hj
    omega
  exact (List.pairwise_iff_getElem.mp h) j i (by omega) hi hj' (by rw [ej, ei])
theorem rd_iEnum {K : PySem.W.Frag} {tA : TA} {σ : L2.St} {H : Hp} {R : L2.It → Hp → Prop} (h : tA σ H fun vs H1 => ∃ a xs, vs = [.ref a] ∧ SqL K H1 a xs ∧ R (Ite K a) H1) : iEnum K tA σ H R := h
/-- a walk's turns, whatever is done in them -/
theorem turns {J : L2.It} {n : Nat} {G : Hp → Prop} {Y : Nat → Hp → V → Hp → Prop} (w : Walk J n G Y) {B : (Hp → Prop) → V → Hp → Prop} {Qd : Hp → Prop} {H1 : Hp} (R : Nat → Hp → Prop) (h0 : R 0 H1) (hG : ∀ i H, i ≤ n → R i H → G H)
    (hs : ∀ i x H H', i < n → R i H → Y i H x H' → B (R (i + 1)) x H') (hd : ∀ H, R n H → Qd H) :
    ∃ W : Nat → Nat → Hp → Prop, (∃ m, W 0 m H1) ∧ ∀ i m H, W i m H → (J.stop i H ∧ Qd H) ∨ (J.go i H ∧ ∃ Nx : Hp → Prop, (∀ H', Nx H' → ∃ m', m' < m ∧ W (i + 1) m' H') ∧ ∀ x H', J.yld i H x H' → B Nx x H') := by
  refine ⟨fun i m H => m = n - i ∧ i ≤ n ∧ R i H, ⟨n, by simp, Nat.zero_le _, h0⟩, ?_⟩
  rintro i m H ⟨rfl, hi, p⟩
  have q := hG i H hi p
  by_cases lt : i < n
  · exact .inr ⟨w.goes i H lt q, R (i + 1), fun H' p' => ⟨n - (i + 1), by omega, rfl, lt, p'⟩, fun x H' y => hs i x H H' lt p (w.yields i H x H' lt q y)⟩
  · obtain rfl : i = n := by omega
    exact .inl ⟨w.stops H q, hd H p⟩
theorem rd_dIn {ty td : TE} {σ : L2.St} {H : Hp} {Q : VK} (h : ty σ H fun y H1 => td σ H1 fun x H2 => ∃ a o, x = .ref a ∧ DGet H2 a y o ∧ Q (.bl o.isSome) H2) : tDIn ty td σ H Q := h
theorem rd_dPut {td ty tv : TE} {D : Ends} {σ : L2.St} {H : Hp} (h : tv σ H fun v H1 => td σ H1 fun x H2 => ty σ H2 fun y H3 => ∃ a H4, x = .ref a ∧ DPut H3 a y v H4 ∧ D.nx σ H4) : sDPut td ty tv D σ H := h
theorem rd_dGet {td ty : TE} {σ : L2.St} {H : Hp} {Q : VK} (h : td σ H fun x H1 => ty σ H1 fun y H2 => ∃ a v, x = .ref a ∧ DGet H2 a y (some v) ∧ Q v H2) : tDGet td ty σ H Q := h
/-- the bytes of a slot -/
def row (s : Nat) (a : Int) : List Int := (List.range s).map fun i => a + ((i : Nat) : Int)
theorem row_succ (s : Nat) (a : Int) : row (s + 1) a = row s a ++ [a + (s : Int)] := by
  unfold row
  rw [List.range_succ, List.map_append]
  rfl
theorem row_len (s : Nat) (a : Int) : (row s a).length = s := by
  unfold row
  rw [List.length_map, List.length_range]
theorem rows_len (s : Nat) : ∀ l : List Int, (l.flatMap (row s)).length = l.length * s
  | [] => by simp
  | a :: l => by rw [List.flatMap_cons, List.length_append, row_len, rows_len s l, List.length_cons, Nat.succ_mul, Nat.add_comm]
theorem rows_succ {s : Nat} {l : List Int} {j : Nat} {a : Int} (h : l[j]? = some a) : (l.take (j + 1)).flatMap (row s) = (l.take j).flatMap (row s) ++ row s a := by
  rw [take_succ h, List.flatMap_append, List.flatMap_cons, List.flatMap_nil, List.append_nil]
theorem bytes_vr (z : Str) (s : Int) (ats : List Int) : (It.vr z s ats).bytes = ats.flatMap (row s.toNat) := rfl
/-! ### the bytes that are taken -/
def marks (ns : List Int) : List (Key × V) := ns.map fun n => ((.inl n : Key), V.bl true)
theorem marks_no {a : Int} : ∀ {ns : List Int}, a ∉ ns → valV (marks ns) (.inl a) = none
  | [], _ => rfl
  | n :: ns, h => by
    have ne : ¬ ((.inl n : Key) = .inl a) := fun e => by
      injection e with e
      exact h (by rw [e]; exact List.mem_cons_self)
    show valV (((.inl n : Key), V.bl true) :: marks ns) (.inl a) = none
    rw [valV_neg (p := ((.inl n : Key), V.bl true)) ne]
    exact marks_no fun m => h (List.mem_cons_of_mem _ m)
theorem marks_put {a : Int} {ns : List Int} (h : a ∉ ns) : putK (marks ns) (.inl a) (V.bl true) = marks (ns ++ [a]) := by
  rw [putK_new _ (marks_no h)]
  unfold marks
  rw [List.map_append]
  rfl
theorem bytes_le {its : List It} (h : ∀ z s ats, It.vr z s ats ∈ its → s ≤ 8 ∧ ats.length ≤ 4) : (its.flatMap It.bytes).length ≤ 32 * its.length := by
  have one : ∀ it ∈ its, it.bytes.length ≤ 32 := by
    intro it m
    cases it with
    | vr z s ats =>
      obtain ⟨h1, h2⟩ := h z s ats m
      have inner : ∀ l : List Int, (l.flatMap fun a => (List.range s.toNat).map fun i => a + ((i : Nat) : Int)).length ≤ 8 * l.length := by
        intro l
        induction l with
        | nil => simp
        | cons a l ih =>
          rw [List.flatMap_cons, List.length_append, List.length_map, List.length_range, List.length_cons]
          omega
      have z2 := inner ats
      show (ats.flatMap fun a => (List.range s.toNat).map fun i => a + ((i : Nat) : Int)).length ≤ 32
      omega
    | _ => simp [It.bytes]
  clear h
  induction its with
  | nil => simp
  | cons it its ih =>
    rw [List.flatMap_cons, List.length_append, List.length_cons]
    have z1 := one it List.mem_cons_self
    have z2 := ih fun x m => one x (List.mem_cons_of_mem _ m)
    omega
theorem take_flat {its : List It} {i : Nat} {it : It} (h : its[i]? = some it) : (its.take (i + 1)).flatMap It.bytes = (its.take i).flatMap It.bytes ++ it.bytes := by
  rw [take_succ h, List.flatMap_append, List.flatMap_cons, List.flatMap_nil, List.append_nil]
/-- a promise with a wish of exceptions, used where none comes -/
theorem calmOf {P : Program} {w : World} {K : PySem.W.Frag} {mg : Str → Option Value} {base : Heap} {k : Nat} {f : Addr} {fd : FuncData} {ps : List Str} {sp : Sp} (F : FnOk P w K mg base (L2.CX P w) k f fd ps sp) : FnOk P w K mg base CX0 k f fd ps (fun vs H Q _ => sp vs H Q E0) := by
  refine ⟨fun vs H Q E h => F.len vs H Q E0 h, fun A outer s H args us vs Q E hr he hb hv h => ?_⟩
  refine codeAny_mono (F.run A outer s H args us vs Q E0 hr he hb hv h) fun r s' z => ?_
  cases r with
  | error e =>
    obtain ⟨a, B, H', cls, d, _, _, _, _, _, _, _, no⟩ := z
    exact no.elim
  | ok fl => cases fl <;> exact z
end NetL
end
section
namespace NetL
open PySem PySem.Spec PyProof.Rows L2 Lay
/-! ### the names of signals, the sizes of variables -/
def sizes : List It → List (Key × V)
  | [] => []
  | .vr z s _ :: r => ((.inr z : Key), V.int s) :: sizes r
  | _ :: r => sizes r
theorem sizes_app : ∀ (l m : List It), sizes (l ++ m) = sizes l ++ sizes m
  | [], _ => rfl
  | .vr z s a :: l, m => by show _ :: sizes (l ++ m) = _ :: (sizes l ++ sizes m); rw [sizes_app l m]
  | .sg z t :: l, m => sizes_app l m
  | .ag z k ls :: l, m => sizes_app l m
theorem sizes_no {n : Str} : ∀ {its : List It}, n ∉ its.map It.nm → valV (sizes its) (.inr n) = none
  | [], _ => rfl
  | .vr z s a :: l, h => by
    have ne : ¬ ((.inr z : Key) = .inr n) := fun e => by
      injection e with e
      exact h (by rw [← e]; exact List.mem_cons_self)
    show valV (((.inr z : Key), V.int s) :: sizes l) (.inr n) = none
    rw [valV_neg (p := ((.inr z : Key), V.int s)) ne]
    exact sizes_no fun m => h (List.mem_cons_of_mem _ m)
  | .sg z t :: l, h => sizes_no (its := l) fun m => h (List.mem_cons_of_mem _ m)
  | .ag z k ls :: l, h => sizes_no (its := l) fun m => h (List.mem_cons_of_mem _ m)
theorem sizes_len : ∀ its : List It, (sizes its).length ≤ its.length
  | [] => Nat.le_refl _
  | .vr z s a :: l => Nat.succ_le_succ (sizes_len l)
  | .sg z t :: l => Nat.le_succ_of_le (sizes_len l)
  | .ag z k ls :: l => Nat.le_succ_of_le (sizes_len l)
theorem sizes_put {z : Str} {s : Int} {ats : List Int} {its : List It} (h : z ∉ its.map It.nm) : putK (sizes its) (.inr z) (V.int s) = sizes (its ++ [.vr z s ats]) := by
  rw [putK_new _ (sizes_no h), sizes_app]
  rfl
def sigs (its : List It) : List Str := (its.filter It.isS).map It.nm
theorem filt_succ {p : It → Bool} {its : List It} {i : Nat} {it : It} (h : its[i]? = some it) : (its.take (i + 1)).filter p = (its.take i).filter p ++ (if p it = true then [it] else []) := by
  rw [take_succ h, List.filter_append]
  by_cases e : p it = true
  · rw [if_pos e, List.filter_cons_of_pos e]; rfl
  · rw [if_neg e, List.filter_cons_of_neg e]; rfl
def spCon : Sp := fun vs H Q _ => ∃ p l, vs = [.ref p] ∧ H p = some (.tup l) ∧ l.length ≤ 5 ∧ Q (.bl (decide (l.length = 2))) H
/-! ### list.count of data -/
def rCntD (K : PySem.W.Frag) : V → List V → Hp → VK → Prop := fun x xs H Q => ∃ (a : Addr) (y : V) (d : PyData) (ds : List PyData), x = V.ref a ∧ xs = [y] ∧ Dp K H (V.ref a) (.list ds) ∧ Dp K H y d ∧
  SeqAt.shaped (.list ds) = true ∧ SeqAt.shaped d = true ∧ Q (.int (ds.countP fun z => PyData.eqv z d : Nat)) H
section
variable {X : Cx}
theorem mt_cntD (hu : X.A.units + 65 < cLine) : MtR X "list.count" (rCntD X.K) := by
  intro pins s σ H x xs v us Q I rx rxs told
  obtain ⟨a, y, d, ds, rfl, rfl, isL, isY, shL, shY, q⟩ := told
  cases rx
  obtain ⟨uy, rfl, ry⟩ := rxs.one
  obtain ⟨bs, readY⟩ := Dp.reads I d y uy isY ry
  have canL : PyData.canLayAll0 ds = true := SeqAt.canLay_of_shaped shL
  have room : X.A.units + 1 + min (PyData.depthAll ds) d.depth < cLine := room_in_shaped shY hu
  cases isL with
  | lst hs ha =>
    obtain ⟨its, rv, ⟨⟨cls, dd, data, sls⟩, n, ho, hc, hdn, hdt⟩, hlen⟩ := I.list hs
    simp only at hc hdt
    subst hc hdt
    obtain ⟨as, readL⟩ := Dp.readsAll I ds _ its ha rv
    have same : its.map (SeqAt.readOf s.heap) = ds := SeqAt.readsAll_map ds its as canL readL
    refine call_meets PySem.F.slot_list_count ⟨_, ho, rfl⟩ PySem.F.entry_list_count (PySem.F.args_list_count_2 _ _) (SeqAt.list_countAt a its.toArray n dd sls uy (fun u => PyData.eqv (SeqAt.readOf s.heap u) d))
      ⟨ho, SeqAt.items_eqAt (vs := its.toArray) (show ReadsAll s.heap its.toArray.toList ds as from readL) readY canL (SeqAt.canLay_of_shaped shY) room, ?_⟩
    have many : its.toArray.toList.countP (fun u => PyData.eqv (SeqAt.readOf s.heap u) d) = ds.countP fun z => PyData.eqv z d := by
      rw [← same, List.countP_map]
      rfl
    refine ⟨.int (ds.countP fun z => PyData.eqv z d : Nat), H, I.tok _, ⟨s.toks, ?_⟩, q⟩
    show Value.int ((its.toArray.toList.countP (fun u => PyData.eqv (SeqAt.readOf s.heap u) d) : Nat) : Int) s.toks = Value.int ((ds.countP fun z => PyData.eqv z d : Nat) : Int) s.toks
    rw [many]
end
theorem shaped_rowsL (ls : List (List V)) (f : ∀ l ∈ ls, l.all isFlat = true) : SeqAt.shaped (.list (ls.map rowD)) = true := by
  have h1 := deepAll_rows ls
  have h2 : PyData.depth (.list (ls.map rowD)) ≤ 64 := by
    simp only [PyData.depth]
    omega
  have h3 : PyData.canLay0 (.list (ls.map rowD)) = true := by
    simp only [PyData.canLay0]
    exact layAll_rows ls f
  unfold SeqAt.shaped
  rw [h3, decide_eq_true h2]
  rfl
theorem shaped_row1 (l : List V) (f : l.all isFlat = true) : SeqAt.shaped (rowD l) = true := by
  have z := shaped_rowsL [l] (fun x m => by rw [List.mem_singleton.mp m]; exact f)
  unfold SeqAt.shaped at z ⊢
  rw [Bool.and_eq_true] at z ⊢
  obtain ⟨z1, z2⟩ := z
  refine ⟨?_, ?_⟩
  · have z3 : PyData.canLayAll0 [rowD l] = true := z1
    simp only [PyData.canLayAll0, Bool.and_true] at z3
    exact z3
  · have z4 := of_decide_eq_true z2
    simp only [List.map_cons, List.map_nil, PyData.depth, PyData.depthAll] at z4
    exact decide_eq_true (by omega)
theorem rd_cnt {K : PySem.W.Frag} {H : Hp} {Q : VK} {a p : Addr} {ks : List V} {ls : List (List V)} {l : List V} (ha : SqL K H a ks) (hr : RowsAt H ks ls) (f : ∀ l ∈ ls, l.all isFlat = true) (hp : H p = some (.tup l)) (fl : l.all isFlat = true)
    (q : Q (.int (ls.count l : Nat)) H) : rCntD K (.ref a) [.ref p] H Q := by
  refine ⟨a, .ref p, rowD l, ls.map rowD, rfl, rfl, .lst ha (hr.dp f), .tup (SqT.of hp) (dp_flat _ fl), shaped_rowsL ls f, shaped_row1 l fl, ?_⟩
  have e : (ls.map rowD).countP (fun z => PyData.eqv z (rowD l)) = ls.count l := by
    rw [List.countP_map]
    unfold List.count
    refine List.countP_congr fun x m => ?_
    show PyData.eqv (rowD x) (rowD l) = true ↔ (x == l) = true
    rw [eqv_row (f x m) fl, decide_eq_true_iff, beq_iff_eq]
  rw [e]
  exact q
theorem u65 {k : Nat} {A : Around} (r : Room k A) : A.units + 65 < cLine := by
  have := r.un
  omega
theorem steps_filt : ∀ its : List It, (its.filter It.isA).flatMap It.ls = steps its
  | [] => rfl
  | .ag z k ls :: l => by
    rw [List.filter_cons_of_pos rfl]
    show ls ++ (l.filter It.isA).flatMap It.ls = ls ++ steps l
    rw [steps_filt l]
  | .vr z s a :: l => by
    rw [List.filter_cons_of_neg (by intro z; cases z)]
    exact steps_filt l
  | .sg z t :: l => by
    rw [List.filter_cons_of_neg (by intro z; cases z)]
    exact steps_filt l
theorem ls_len {l : List It} (h : ∀ it ∈ l, it.ls.length ≤ 24) : (l.flatMap It.ls).length ≤ 24 * l.length := by
  induction l with
  | nil => simp
  | cons it l ih =>
    rw [List.flatMap_cons, List.length_append, List.length_cons]
    have z1 := h it List.mem_cons_self
    have z2 := ih fun x m => h x (List.mem_cons_of_mem _ m)
    omega
theorem rd_cntB {K : PySem.W.Frag} {T : String} {r : V → List V → Hp → VK → Prop} {to : TE} {t : TA} {σ : L2.St} {H : Hp} {Q : VK} (h : to σ H fun x H1 => tyV K T x H1 ∧ t σ H1 fun xs H2 => r x xs H2 Q) : tBM K T r to t σ H Q := h
theorem word_flat {w z : Str} (hw : PyData.strOk w = true) (hz : nameOk z = true) : ([.str w, .str z] : List V).all isFlat = true := by
  show (PyData.strOk w && (PyData.strOk z && true)) = true
  rw [hw, name_strOk hz]
  rfl
end NetL
end
section
namespace NetL
open PySem PySem.Spec PyProof.Rows L2 Lay
theorem rd_isiT {K : PySem.W.Frag} {H : Hp} {Q : VK} {x : V} {tp : Addr} {cs : List V} {t : Value} {us : List Value} (b : Bool) (ht : H tp = some (.tup cs)) (hc : Paired ClsV cs us) (hx : TyX K H x t) (h : PySem.W.kitAny K t us = some b) (q : Q (.bl b) H) : rIsiT K [x, .ref tp] H Q :=
  ⟨x, tp, cs, t, us, b, rfl, ht, hc, hx, h, q⟩
theorem kit3 {K : PySem.W.Frag} {t a b c : Value} {p q r : Bool} (ha : PySem.W.kitOne K t a = some p) (hb : PySem.W.kitOne K t b = some q) (hc : PySem.W.kitOne K t c = some r) (o : (p || q || r) = true) : PySem.W.kitAny K t [a, b, c] = some true := by
  unfold PySem.W.kitAny
  rw [ha]
  cases p with
  | true => rfl
  | false =>
    unfold PySem.W.kitAny
    rw [hb]
    cases q with
    | true => rfl
    | false =>
      unfold PySem.W.kitAny
      rw [hc]
      cases r with
      | true => rfl
      | false => cases o
/-- a list of parts grows -/
theorem parts_snoc {C : Cs} {H : Hp} {vs : List V} {its : List It} {v : V} {it : It} (h : PartsAt C H vs its) (p : PartAt C H v it) : PartsAt C H (vs ++ [v]) (its ++ [it]) := Paired.snoc h p
end NetL
end
section
/-! KwS: defs with *args and keyword-only parameters with defaults; classes and classmethods called so -/
namespace KwS
open PySem PySem.Spec PyProof.Rows L2 StX
/-- a promise for positional values and the values of keywords -/
abbrev Sp2 := List V → List V → Hp → VK → XK → Prop
/-- a def called with positional values and the keywords ks -/
def FnRK (P : Program) (w : World) (K : PySem.W.Frag) (mg : Str → Option Value) (base : Heap) (CX : CXT) (k : Nat) (f : Addr) (ks : List Str) (sp : Sp2) : Prop :=
  ∀ (A : Around) (outer : List Env) (s : Shared) (H : Hp) (us ws : List Value) (vs zs : List V) (Q : VK) (E : XK), Room k A → Env0 P w K mg base A outer s H → Vals vs us → Vals zs ws → zs.length = ks.length → sp vs zs H Q E →
    codeAny (model P w) A (.call (.ref f) ⟨us, ks.zip ws⟩) (CR CX outer P w H s Q E) s
/-- as KwChain, whatever stands at the end -/
def KwEnd {α : Type} (D : Addr) : List (Str × Value) → Sem α → Sem α → Prop
  | [], t, r => t = r
  | q :: l, t, r => ∃ (β γ : Type) (k1 : Option Value → Sem β) (k2 : β → Sem γ) (k3 : γ → Sem α) (a : β), t = ((nsGet D q.1 >>= k1) >>= k2) >>= k3 ∧ k1 (some q.2) = pure a ∧ KwEnd D l (k2 a >>= k3) r
theorem KwEnd.run {α : Type} {K : PySem.W.Frag} {M : Model} {D : Addr} {A : Around} {Ex : Value → Shared → Prop} {Q : α → Shared → Prop} {s : Shared} (X : K.In s.heap) : ∀ {l : List (Str × Value)} {t r : Sem α}, (∀ q ∈ l, PySem.W.nsIn K D q.1 = some (some q.2)) → KwEnd D l t r → wpAny M A r Q Ex s → wpAny M A t Q Ex s
  | [], t, r, _, e, h => by
    have e : t = r := e
    rw [e]
    exact h
  | q :: l, t, r, hl, e, h => by
    obtain ⟨β, γ, k1, k2, k3, a, e1, e2, e3⟩ := e
    have l1 : PySem.W.Looks M s.heap (nsGet D q.1 >>= k1) a := (PySem.W.looks_nsIn X (hl q (List.mem_cons_self ..))).andThen (PySem.W.Looks.of_pure e2)
    have l2 := KwEnd.run X (fun p hp => hl p (List.mem_cons_of_mem _ hp)) e3 h
    rw [e1, bind_assoc]
    exact wpAny_bind (l1 _ _ _ _ (fun _ _ z => z) l2)
section
variable {CX : CXT} {P : Program} {w : World} {K : PySem.W.Frag} {mg : Str → Option Value} {base : Heap} {k n : Nat} {f : Addr} {name qual : Str} {params : Arguments} {body : List Stmt} {scope : Scope} {N ps ks : List Str} {sp : Sp} {kws : List (Str × V)} {fd : FuncData}
/-- def f(a, *v, k = d, ..), called with n positional values and more, and the keywords ks; ms: the keyword-only parameters that lack -/
theorem fn_starK {pv : Str} (F : FunD K name qual params body scope [] kws f fd) (S : FnScope N (ps ++ [pv]) scope) (hCX : CXUp CX) (ms : List (Str × V)) (g : {α : Type} → List α → List α → List α → List α) (hk : kws ≠ []) (hms : ∀ q ∈ ms, q ∈ kws)
    (hrel : ∀ {vs mz zs : List V} {us mv ws : List Value}, Vals vs us → Vals mz mv → Vals zs ws → Vals (g vs mz zs) (g us mv ws))
    (hlen : ∀ us mv ws : List Value, us.length = n → mv.length = ms.length → ws.length = ks.length → (g us mv ws).length = ps.length)
    (hb : ∀ (D : Addr) (doc pm : Value) (an : Option Addr) (cdv ct : Value) (us rest mv ws : List Value), us.length = n → mv.length = ms.length → ws.length = ks.length →
      KwEnd D ((ms.map (·.1)).zip mv) (bindArgs (PySem.W.fnOf name qual params body scope .none (.ref D) doc pm an cdv ct) ⟨us ++ rest, ks.zip ws⟩) (newTuple rest >>= fun t => pure (ps.zip (g us mv ws) ++ [(pv, t)])))
    (hbody : ∀ (cdv : Value) (A : Around) (outer : List Env) (s : Shared) (H : Hp) (vs : List V) (Q : VK) (E : XK), Room k (A.deeper (envOfC qual scope s.heap.objs.size f cdv)) → sp vs H Q E →
      ∃ t, PSs (cxOf CX P w K mg base N qual scope f cdv A outer s H E) body t ∧ t { nx := fun _ H' => Q .non H', rt := Q } (start N vs) H) :
    FnRK P w K mg base CX (k + 1) f ks (fun vs zs H Q E => ∃ us rest, vs = us ++ rest ∧ us.length = n ∧ rest.length ≤ sizeLine ∧ ∀ p, H p = Option.none → sp (g us (ms.map (·.2)) zs ++ [V.ref p]) (upd H p (.tup rest)) Q E) := by
  obtain ⟨oc, od, dV, kV, doc, pm, an, cdv, ct, osl, rfl, lk, hcd, hD, hK⟩ := F.ex
  rcases hD with ⟨_, rfl⟩ | ⟨e, _⟩
  rotate_left
  · exact absurd rfl e
  rcases hK with e | ⟨D, rfl, hq⟩
  · exact absurd e hk
  obtain ⟨mv, hl3, rk, hks⟩ := kwd_vals (ms := ms) fun q hm => hq q (hms q hm)
  intro A outer s H us wz vs zs Q E hr e0 r rz lz hsp
  obtain ⟨ws, rest, ev, hl, hz, hq2⟩ := hsp
  subst ev
  obtain ⟨u1, u2, eu, r1, r2⟩ := vals_split r
  subst eu
  have hn : H s.heap.objs.size = Option.none := e0.hok.fresh (Nat.le_refl _)
  have hl1 : u1.length = n := by rw [← r1.length]; exact hl
  have hl2 : u2.length ≤ sizeLine := by rw [← r2.length]; exact hz
  have hl4 : wz.length = ks.length := by rw [← rz.length]; exact lz
  have KX : K.In s.heap := e0.mod.kin.keeps fun b o e => (e0.bs b o e).1
  refine run_bnd lk hcd S hr e0 (G := fun xs H2 => ∃ p, H p = Option.none ∧ xs = g ws (ms.map (·.2)) zs ++ [V.ref p] ∧ H2 = upd H p (.tup rest)) (fun A' Ex Q' h => ?_) fun s2 H2 xs ⟨p, hp, ex, eH⟩ hr' => ?_
  · refine KwEnd.run KX hks (hb D doc pm an cdv ct u1 u2 mv wz hl1 hl3 hl4) ?_
    refine wpAny_bind (wpAny_newTuple (wpAny_pure ?_) hl2)
    have new : ObjOk P w (upd H s.heap.objs.size (.tup rest)) (s.heap.push ({ cls := .type "tuple", data := .seq u2.toArray } : Obj)) s.heap.objs.size (.tup rest) := ⟨hz, u2, r2, ⟨_, Heap.get?_push_size _ rfl, rfl, _, rfl⟩⟩
    have un := un_laid (fs := frs outer) (s := s) (o := ({ cls := .type "tuple", data := .seq u2.toArray } : Obj)) (u := .tup rest) hn
    have rr : Vals (g ws (ms.map (·.2)) zs) (g u1 mv wz) := hrel r1 rk rz
    have ll : (g u1 mv wz).length = ps.length := hlen u1 mv wz hl1 hl3 hl4
    have z := h _ _ (g ws (ms.map (·.2)) zs ++ [V.ref s.heap.objs.size]) (g u1 mv wz ++ [Value.ref s.heap.objs.size]) (env0_laid e0 new) un rfl (fun e s' => hCX outer s H _ _ E e s' un (fun b o q => Heap.get?_push_of_some _ q) rfl) (rr.append (.cons rfl .nil))
      (by rw [List.length_append, List.length_append, rr.length, ll] <;> rfl) ⟨_, hn, rfl, rfl⟩
    rw [List.zip_append ll.symm] at z
    exact z
  · subst ex eH
    exact hbody cdv A outer s2 _ _ Q E hr' (hq2 p hp)
/-- a plain def with keyword-only parameters, called with keywords -/
theorem fnrk_of (F : FnOk P w K mg base CX k f fd ps sp) {g : List Value → List Value → List Value} {gV : List V → List V → List V} (hb : KBn K fd ps n ks g gV) : FnRK P w K mg base CX k f ks (fun vs zs H Q E => vs.length = n ∧ sp (gV vs zs) H Q E) := by
  intro A outer s H us ws vs zs Q E hr e0 r rz lz ⟨l1, h⟩
  have KX : K.In s.heap := e0.mod.kin.keeps fun b o e => (e0.bs b o e).1
  exact F.run A outer s H ⟨us, ks.zip ws⟩ (g us ws) (gV vs zs) Q E hr e0 (hb.to s us ws KX (r.length.symm.trans l1) (rz.length.symm.trans lz)) (hb.rel r rz) h
end
/-! ### calls -/
section
variable {M : Model} {A : Around} {E : Value → Shared → Prop} {s : Shared}
theorem ks_lone_kw {f : Value} {x : Sem Value} {pos : Pos} {kws : List (Option Str × Sem Value)} {Q : Args → Shared → Prop} (hall : kws.all (·.1.isSome) = true)
    (h : wpAny M A x (fun v s₁ => wpAny M A (evalAll (kws.map (·.2))) (fun ws s₂ => PySem.W.StarOf M A E v (fun vs s₃ => Q ⟨vs, (kws.filterMap (·.1)).zip ws⟩ s₃) s₂) E s₁) E s) :
    wpAny M A (evalArgs f true [(true, (do let v ← x; standAt pos; pure v))] kws) Q E s := by
  unfold evalArgs
  first
    | refine wpAny_bind (wpAny_bind (wpAny_mono h (fun v s₁ h₁ => wpAny_bind (wpAny_standAt (wpAny_pure ?_))) fun _ _ x => x))
    | refine wpAny_bind (wpAny_bind (wpAny_bind (wpAny_mono h (fun v s₁ h₁ => wpAny_bind (wpAny_standAt (wpAny_pure (wpAny_pure ?_)))) fun _ _ x => x)))
  refine wpAny_holding ?_
  rw [hall]
  simp only [if_true]
  refine wpAny_bind (wpAny_mono h₁ (fun ws s₂ h₂ => ?_) fun _ _ x => x)
  unfold PySem.W.StarOf at h₂
  refine wpAny_bind (wpAny_bind (wpAny_mono h₂ (fun b s₃ h₃ => ?_) fun _ _ x => x))
  obtain ⟨rfl, h₃⟩ := h₃
  have z := wpAny_holding (vs := ((kws.filterMap (·.1)).zip ws).map (·.2)) (wpAny_mono h₃ (fun vs s₄ h₄ => (wpAny_pure h₄ : wpAny M A (pure (⟨vs, (kws.filterMap (·.1)).zip ws⟩ : Args)) Q E s₄)) fun _ _ x => x)
  try simp only [Bool.false_eq_true, if_false]
  first
    | exact z
    | exact wpAny_bind (wpAny_pure z)
theorem ks_callk {f : Value} {first : List Value} {pos : Pos} {Q : Value → Shared → Prop} {P : Heap → Prop} {args : List (Bool × Sem Value)} {kws : List (Option Str × Sem Value)} (hst : args.any (·.1) = true)
    (hk : ∀ h, P h → ∃ k, (k = Keeper.frame ∨ k = Keeper.machine ∨ k = Keeper.boundFrame) ∧ PySem.W.Looks M h (keeperOf f) k)
    (h : wpAny M A (evalArgs f true args kws) (fun a s₁ => P s₁.heap ∧ wpAny M A (call f (first ++ a.pos) a.kw) Q E s₁) E s) : wpAny M A (callWith pos f first args kws) Q E s := by
  unfold callWith
  refine wpAny_bind (wpAny_holding (wpAny_mono h (fun a s₁ h₁ => wpAny_bind (wpAny_standAt ?_)) fun _ _ x => x))
  obtain ⟨k, hk', L⟩ := hk _ h₁.1
  simp only [hst, Bool.true_or]
  refine wpAny_bind (L.here ?_)
  have tail : ∀ {t : Sem Value}, wpAny M A t Q E s₁ → wpAny M A (t >>= fun r => holding [r] point >>= fun _ => pure r) Q E s₁ :=
    fun ht => wpAny_bind (wpAny_mono ht (fun r s₂ hr => wpAny_bind (wpAny_holding (wpAny_point (wpAny_pure hr)))) fun _ _ x => x)
  have marked (mk : Value) : wpAny M A (callMarked mk f (first ++ a.pos) a.kw) Q E s₁ := by unfold callMarked; exact Calls.wpAny_keep h₁.2
  rcases hk' with rfl | rfl | rfl <;> dsimp only <;> first | exact tail (marked _) | exact tail (wpAny_operating h₁.2)
end
/-- the class at C made with positional values and keywords -/
def TMade (C : Addr) (sp : Sp2) (E : XK) (vs zs : List V) : Hp → VK → Prop := fun H Q => ∀ x dx, H x = Option.none → H dx = Option.none → dx ≠ x →
  sp (V.ref x :: vs) zs (upd (upd H dx (.own x)) x (.ins C dx [])) (fun v H2 => v = .non ∧ Q (.ref x) H2) E
section
variable {X : Cx} {CX : CXT} {k : Nat} {f C : Addr} {ks : List Str} {sp : Sp2} {E : L2.St → XK} {x m : Str} {e fe o : Expr} {es : List Expr} {kws : List Keyword} {te tf ta : TE} {t tk : TA} {p sp_ pos apos : Pos} {pl : Sem Bool} {mc : Value}
theorem run_makeRK {pins : List (Addr × Obj)} {σ : L2.St} {H : Hp} {s : Shared} {Q : VK} {us ws : List Value} {vs zs : List V} {E : XK} (M : Mk X.K C f) (F : FnRK X.prog X.w X.K X.mg X.base CX k f ks sp) (hr : Room (k + 1) X.A) (hx : PassesAt CX X σ E)
    (I : Inv X pins σ H s) (r : Vals vs us) (rz : Vals zs ws) (lz : zs.length = ks.length) (h : TMade C sp E vs zs H Q) : wpAny (model X.prog X.w) X.A (call (.ref C) us (ks.zip ws)) (EP X pins σ Q) X.xe s := by
  have hq := h (s.heap.objs.size + 1) s.heap.objs.size (I.hok.fresh (Nat.le_succ _)) (I.hok.fresh (Nat.le_refl _)) (Nat.ne_of_lt (Nat.lt_succ_self _))
  have I2 := Inv.made (C := C) I
  have r2 : Vals (V.ref (s.heap.objs.size + 1) :: vs) (Value.ref (s.heap.objs.size + 1) :: us) := .cons rfl r
  refine wpAny_call (make_map (f := f) I.kIn M.makes M.init (beq_iff_eq.mp M.fn) (codeAny_mono (F _ X.stack _ _ (Value.ref (s.heap.objs.size + 1) :: us) ws _ zs _ E (hr.make C us (ks.zip ws)) (I2.env0.make C us (ks.zip ws)) r2 rz lz hq) fun r s' hq' => ?_))
  cases r with
  | error e => exact hx pins _ _ e s' I2 hq'
  | ok fl =>
    cases fl with
    | ret u =>
      obtain ⟨v, H', I3, rv, ev, q3⟩ := I2.after hq'
      subst ev
      exact ⟨rv, ⟨V.ref (s.heap.objs.size + 1), H', I3, rfl, q3⟩⟩
    | next => exact False.elim hq'
    | brk => exact False.elim hq'
    | cont => exact False.elim hq'
/-- v(*y, k = v, ..), v an expression that gives the class -/
def tMakeSK (K : PySem.W.Frag) (C : Addr) (ks : List Str) (sp : Sp2) (E : L2.St → XK) (tf te : TE) (tk : TA) : TE := fun σ H Q => tf σ H fun y H0 => y = .ref C ∧ te σ H0 fun a H1 => ∃ p, a = .ref p ∧ tk σ H1 fun zs H2 => ∃ xs, (SqT K H2 p xs ∨ SqL K H2 p xs) ∧ zs.length = ks.length ∧ TMade C sp (E σ) xs zs H2 Q
theorem callWith_SK {pins : List (Addr × Obj)} {σ : L2.St} {H : Hp} {s : Shared} {Q : VK} (M : Mk X.K C f) (F : FnRK X.prog X.w X.K X.mg X.base CX k f ks sp) (hr : Room (k + 1) X.A) (hx : PassesAt CX X σ (E σ)) (he : PE X e te) (hkw : PK X kws tk)
    (hall : (backToKw pos (keywordEach kws X.env)).all (·.1.isSome) = true) (hks : (backToKw pos (keywordEach kws X.env)).filterMap (·.1) = ks) (hst : starEach [.Starred e sp_] X.env = [(true, eval e X.env)]) (I : Inv X pins σ H s)
    (h : te σ H fun a H1 => ∃ p, a = .ref p ∧ tk σ H1 fun zs H2 => ∃ xs, (SqT X.K H2 p xs ∨ SqL X.K H2 p xs) ∧ zs.length = ks.length ∧ TMade C sp (E σ) xs zs H2 Q) :
    wpAny (model X.prog X.w) X.A (callWith pos (.ref C) [] (backTo pos (starEach [.Starred e sp_] X.env)) (backToKw pos (keywordEach kws X.env))) (EP X pins σ Q) X.xe s := by
  rw [hst]
  refine ks_callk rfl (PySem.W.keeps_K M.kp) (ks_lone_kw hall (thn (he.run pins s σ H _ I h) fun v s1 ⟨y, H1, I1, ry, a, ey, q⟩ => ?_))
  subst ey
  obtain rfl : v = Value.ref a := ry
  refine thn (hkw.run pos pins s1 σ H1 _ I1 q) fun ws s2 ⟨zs, H2, I2, rz, xs, hxs, lz, q2⟩ => ?_
  refine star_any I2 hxs fun us s3 I3 rv => ⟨I3.kIn, ?_⟩
  rw [hks]
  exact run_makeRK (us := us) M F hr hx I3 rv rz lz q2
theorem pe_makeSKV (hf : PE X fe tf) (M : Mk X.K C f) (F : FnRK X.prog X.w X.K X.mg X.base CX k f ks sp) (hr : Room (k + 1) X.A) (hx : ∀ σ, PassesAt CX X σ (E σ)) (he : PE X e te) (hkw : PK X kws tk)
    (hall : (backToKw pos (keywordEach kws X.env)).all (·.1.isSome) = true := by rfl) (hks : (backToKw pos (keywordEach kws X.env)).filterMap (·.1) = ks := by rfl) (hst : starEach [.Starred e sp_] X.env = [(true, eval e X.env)] := by rfl)
    (ht : eval (.Call fe [.Starred e sp_] kws pos) X.env = (do callWith pos (← eval fe X.env) [] (backTo pos (starEach [.Starred e sp_] X.env)) (backToKw pos (keywordEach kws X.env))) := by rfl) :
    PE X (.Call fe [.Starred e sp_] kws pos) (tMakeSK X.K C ks sp E tf te tk) := by
  refine ⟨fun pins s σ H Q I h => ?_⟩
  rw [ht]
  refine wpAny_bind (thn (hf.run pins s σ H _ I h) fun u s1 ⟨y, H1, I1, ry, ey, q⟩ => ?_)
  subst ey
  obtain rfl : u = Value.ref C := ry
  exact callWith_SK M F hr (hx σ) he hkw hall hks hst I1 q
/-- C.m(e, .., k = v, ..), m a classmethod -/
def tCMethNK (C : Addr) (ks : List Str) (sp : Sp2) (E : L2.St → XK) (ta : TE) (t tk : TA) : TE := fun σ H Q => ta σ H fun x H1 => x = .ref C ∧ t σ H1 fun vs H2 => tk σ H2 fun zs H3 => zs.length = ks.length ∧ sp (.ref C :: vs) zs H3 Q (E σ)
theorem pe_cmethNK {pm g : Addr} (he : PE X o ta) (r : ClX.CRead X.K C mc) (c : ClX.CMet X.K C mc m pm g) (F : FnRK X.prog X.w X.K X.mg X.base CX k g ks sp) (hr : Room k X.A) (hx : ∀ σ, PassesAt CX X σ (E σ)) (ha : PA X (e :: es) t) (hkw : PK X kws tk)
    (hall : (backToKw pos (keywordEach kws X.env)).all (·.1.isSome) = true := by rfl) (hks : (backToKw pos (keywordEach kws X.env)).filterMap (·.1) = ks := by rfl)
    (hst : starEach (e :: es) X.env = (false, eval e X.env) :: starEach es X.env := by rfl) (hpl : ((backTo pos (starEach (e :: es) X.env)).any (·.1) || (backToKw pos (keywordEach kws X.env)).any (·.1.isNone)) = false := by rfl)
    (ht : eval (.Call (.Attribute o m apos) (e :: es) kws pos) X.env = (do
      let ov ← eval o X.env
      standAt apos.atName
      let (f, first) ← holding [ov] (getMethod ov m pl)
      callWith pos f first (backTo pos (starEach (e :: es) X.env)) (backToKw pos (keywordEach kws X.env))) := by rfl) :
    PE X (.Call (.Attribute o m apos) (e :: es) kws pos) (tCMethNK C ks sp E ta t tk) := by
  refine ⟨fun pins s σ H Q I h => ?_⟩
  refine PySem.W.methodCall_KW (pl := pl) (thn (he.run pins s σ H _ I h) fun u s1 ⟨x, H1, I1, rx, ex, q⟩ => ?_) ht
  subst ex
  obtain rfl : u = Value.ref C := rx
  refine ClX.getmethcm_ok I1 r c fun s2 I2 => ?_
  refine PySem.W.callWith_of hpl (PySem.W.keeps_M (K := X.K) (self := .ref C) c.fi) (evalArgs_kw2 hall (thn (ha.run pos _ s2 σ H1 _ I2 q) fun us s3 ⟨vs, H2, I3, rv, q2⟩ => ?_) hst)
  refine thn (hkw.run pos _ s3 σ H2 _ I3 q2) fun ws s4 ⟨zs, H3, I4, rz, l2, q3⟩ => ⟨⟨ClX.pin_at I4, I4.kIn⟩, ?_⟩
  rw [hks]
  have rC : Vals (V.ref C :: vs) (Value.ref C :: us) := .cons rfl rv
  have z : wpAny (model X.prog X.w) X.A (call (.ref s1.heap.objs.size) ([] ++ us) (ks.zip ws)) (EP X ((s1.heap.objs.size, PySem.W.methodObj (.ref g) (.ref C)) :: pins) σ Q) X.xe s4 := by
    refine wpAny_call (PySem.W.method_call (ClX.pin_at I4) (codeAny_mono (F X.A X.stack s4 H3 (.ref C :: us) ws (.ref C :: vs) zs Q (E σ) hr I4.env0 rC rz l2 q3) fun r s' hq => ?_))
    cases r with
    | error e => exact hx σ _ H3 s4 e s' I4 hq
    | ok fl =>
      cases fl with
      | ret u => exact I4.after hq
      | next => exact False.elim hq
      | brk => exact False.elim hq
      | cont => exact False.elim hq
  exact thn z fun _ _ y => ClX.unpinE y
end
end KwS
end
section
namespace NetL
open PySem PySem.Spec PyProof.Rows L2 Lay
/-! ### a net -/
def sel (p : It → Bool) (its : List It) (ps : List V) : List V := ((its.zip ps).filter fun q => p q.1).map (·.2)
def named (its : List It) (ps : List V) : List (Key × V) := (its.zip ps).map fun q => ((.inr q.1.nm : Key), q.2)
def netF (l r : Int) (tv ts ta dn : Addr) : List (Str × V) := [("line", .int l), ("ring", .int r), ("variables", .ref tv), ("signals", .ref ts), ("agents", .ref ta), ("_named", .ref dn)]
def NetAt (C : Cs) (N : Addr) (H : Hp) (x : Addr) (l r : Int) (its : List It) (ps : List V) : Prop := ∃ dx tv ts ta dn, H x = some (.ins N dx (netF l r tv ts ta dn)) ∧ H tv = some (.tup (sel It.isV its ps)) ∧ H ts = some (.tup (sel It.isS its ps)) ∧ H ta = some (.tup (sel It.isA its ps)) ∧
  H dn = some (.dK (named its ps)) ∧ PartsAt C H ps its
theorem NetAt.mono {C : Cs} {N : Addr} {H H' : Hp} {x : Addr} {l r : Int} {its : List It} {ps : List V} (s : Same H H') (h : NetAt C N H x l r its ps) : NetAt C N H' x l r its ps := by
  obtain ⟨dx, tv, ts, ta, dn, h1, h2, h3, h4, h5, h6⟩ := h
  exact ⟨dx, tv, ts, ta, dn, s _ _ h1, s _ _ h2, s _ _ h3, s _ _ h4, s _ _ h5, h6.mono s⟩
def lineOk (l : Int) : Prop := l ∈ ([1, 2, 4, 8, 16] : List Int)
theorem zip_succ {α β : Type} {xs : List α} {ys : List β} {i : Nat} {x : α} {y : β} (hx : xs[i]? = some x) (hy : ys[i]? = some y) : (xs.take (i + 1)).zip (ys.take (i + 1)) = (xs.take i).zip (ys.take i) ++ [(x, y)] := by
  have l1 : i < xs.length := (List.getElem?_eq_some_iff.mp hx).1
  have l2 : i < ys.length := (List.getElem?_eq_some_iff.mp hy).1
  rw [take_succ hx, take_succ hy, List.zip_append (by rw [List.length_take, List.length_take]; omega)]
  rfl
theorem sel_succ (p : It → Bool) {its : List It} {ps : List V} {i : Nat} {it : It} {v : V} (hx : its[i]? = some it) (hy : ps[i]? = some v) : sel p (its.take (i + 1)) (ps.take (i + 1)) = sel p (its.take i) (ps.take i) ++ (if p it = true then [v] else []) := by
  unfold sel
  rw [zip_succ hx hy, List.filter_append, List.map_append]
  by_cases e : p it = true
  · rw [List.filter_cons_of_pos (p := fun q : It × V => p q.1) (a := (it, v)) e, if_pos e]; rfl
  · rw [List.filter_cons_of_neg (p := fun q : It × V => p q.1) (a := (it, v)) e, if_neg e]; rfl
theorem sel_parts {C : Cs} {H : Hp} (p : It → Bool) : ∀ {ps : List V} {its : List It}, PartsAt C H ps its → PartsAt C H (sel p its ps) (its.filter p)
  | _, _, .nil => .nil
  | v :: ps, it :: its, .cons r t => by
    have ih := sel_parts p t
    unfold sel at ih ⊢
    rw [List.zip_cons_cons]
    by_cases e : p it = true
    · rw [List.filter_cons_of_pos (by exact e), List.filter_cons_of_pos e]
      exact .cons r ih
    · rw [List.filter_cons_of_neg (by exact e), List.filter_cons_of_neg e]
      exact ih
theorem named_succ {its : List It} {ps : List V} {i : Nat} {it : It} {v : V} (hx : its[i]? = some it) (hy : ps[i]? = some v) : named (its.take (i + 1)) (ps.take (i + 1)) = named (its.take i) (ps.take i) ++ [((.inr it.nm : Key), v)] := by
  unfold named
  rw [zip_succ hx hy, List.map_append]
  rfl
theorem named_no {n : Str} : ∀ {its : List It} {ps : List V}, n ∉ its.map It.nm → valV (named its ps) (.inr n) = none
  | [], _, _ => rfl
  | _ :: _, [], _ => rfl
  | it :: its, v :: ps, h => by
    have ne : ¬ ((.inr it.nm : Key) = .inr n) := fun e => by
      injection e with e
      exact h (by rw [← e]; exact List.mem_cons_self)
    show valV (((.inr it.nm : Key), v) :: named its ps) (.inr n) = none
    rw [valV_neg (p := ((.inr it.nm : Key), v)) ne]
    exact named_no fun m => h (List.mem_cons_of_mem _ m)
theorem named_put {its : List It} {ps : List V} {i : Nat} {it : It} {v : V} (no : it.nm ∉ (its.take i).map It.nm) (hx : its[i]? = some it) (hy : ps[i]? = some v) : putK (named (its.take i) (ps.take i)) (.inr it.nm) v = named (its.take (i + 1)) (ps.take (i + 1)) := by
  rw [putK_new _ (named_no no), named_succ hx hy]
theorem named_len {its : List It} {ps : List V} : (named its ps).length ≤ ps.length := by
  unfold named
  rw [List.length_map, List.length_zip]
  omega
end NetL
end
section
namespace NetL
open PySem PySem.Spec PyProof.Rows L2 Lay Exv
theorem rd_makeSK {K : PySem.W.Frag} {C : Addr} {ks : List Str} {sp : KwS.Sp2} {E : L2.St → XK} {tf te : TE} {tk : TA} {σ : L2.St} {H : Hp} {Q : VK} (h : tf σ H fun y H0 => y = .ref C ∧ te σ H0 fun a H1 => ∃ p, a = .ref p ∧ tk σ H1 fun zs H2 => ∃ xs, (SqT K H2 p xs ∨ SqL K H2 p xs) ∧ zs.length = ks.length ∧ KwS.TMade C sp (E σ) xs zs H2 Q) : KwS.tMakeSK K C ks sp E tf te tk σ H Q := h
theorem rd_cmethNK {C : Addr} {ks : List Str} {sp : KwS.Sp2} {E : L2.St → XK} {ta : TE} {t tk : TA} {σ : L2.St} {H : Hp} {Q : VK} (h : ta σ H fun x H1 => x = .ref C ∧ t σ H1 fun vs H2 => tk σ H2 fun zs H3 => zs.length = ks.length ∧ sp (.ref C :: vs) zs H3 Q (E σ)) : KwS.tCMethNK C ks sp E ta t tk σ H Q := h
end NetL
end
section
/-! NetG: what the laws about nets draw: items, and the nets they tell -/
namespace NetG
open PySem PySem.Spec PyProof.Rows Lay NetL
open L2 hiding It
/-- what stands off S stays -/
def Stay (S : List Addr) (H H' : Hp) : Prop := ∀ b o, b ∉ S → H b = some o → H' b = some o
def Lists (S : List Addr) (H : Hp) : Prop := ∀ a ∈ S, ∃ xs, H a = some (.lst xs)
theorem Stay.refl {S : List Addr} {H : Hp} : Stay S H H := fun _ _ _ e => e
theorem Stay.trans {S : List Addr} {H H' H'' : Hp} (h : Stay S H H') (g : Stay S H' H'') : Stay S H H'' := fun b o n e => g b o n (h b o n e)
theorem Stay.of {S : List Addr} {H H' : Hp} (h : Same H H') : Stay S H H' := fun b o _ e => h b o e
theorem Stay.keep {p : Addr} {S : List Addr} {H H' : Hp} (m : p ∈ S) (h : Keep p H H') : Stay S H H' := fun b o n e => h b o (fun z => n (by rw [z]; exact m)) e
theorem Stay.upd {a : Addr} {S : List Addr} {H : Hp} {o : HO} (m : a ∈ S) : Stay S H (upd H a o) := fun b o' n e => by
  rw [upd_ne (fun z => n (by rw [z]; exact m))]
  exact e
theorem Stay.to_keep {p : Addr} {S : List Addr} {H0 H H' : Hp} (k : Keep p H0 H) (n : ∀ a ∈ S, a ≠ p → H0 a = none) (h : Stay S H H') : Keep p H0 H' := fun b o hb e =>
  h b o (fun m => by have z := n b m hb; rw [z] at e; cases e) (k b o hb e)
theorem lists_tup {S : List Addr} {H : Hp} (h : Lists S H) {b : Addr} {l : List V} (e : H b = some (.tup l)) : b ∉ S := fun m => by
  obtain ⟨xs, z⟩ := h b m
  rw [z] at e
  cases e
theorem rows_stay {S : List Addr} {H H' : Hp} {xs : List V} {ls : List (List V)} (h : Lists S H) (s : Stay S H H') (r : RowsAt H xs ls) : RowsAt H' xs ls := r.same fun b l e => s b _ (lists_tup h e) e
/-- an item of a law: a tuple; its list lies off S -/
def ItemAt (S : List Addr) (H : Hp) (v : V) : It → Prop
  | .vr z s ats => ∃ a b, v = .ref a ∧ H a = some (.tup [.str "var", .str z, .int s, .ref b]) ∧ H b = some (.lst (ats.map V.int)) ∧ b ∉ S
  | .sg z t => ∃ a, v = .ref a ∧ H a = some (.tup [.str "sig", .str z, .int t])
  | .ag z k ls => ∃ a b ys, v = .ref a ∧ H a = some (.tup [.str "agent", .str z, .int k, .ref b]) ∧ H b = some (.lst ys) ∧ b ∉ S ∧ RowsAt H ys ls
theorem ItemAt.stay {S : List Addr} {H H' : Hp} {v : V} (h : Lists S H) (s : Stay S H H') : ∀ {it : It}, ItemAt S H v it → ItemAt S H' v it
  | .vr _ _ _, ⟨a, b, e, h1, h2, n⟩ => ⟨a, b, e, s _ _ (lists_tup h h1) h1, s _ _ n h2, n⟩
  | .sg _ _, ⟨a, e, h1⟩ => ⟨a, e, s _ _ (lists_tup h h1) h1⟩
  | .ag _ _ _, ⟨a, b, ys, e, h1, h2, n, r⟩ => ⟨a, b, ys, e, s _ _ (lists_tup h h1) h1, s _ _ n h2, n, rows_stay h s r⟩
theorem ItemAt.mono {S : List Addr} {H H' : Hp} {v : V} (s : Same H H') : ∀ {it : It}, ItemAt S H v it → ItemAt S H' v it
  | .vr _ _ _, ⟨a, b, e, h1, h2, n⟩ => ⟨a, b, e, s _ _ h1, s _ _ h2, n⟩
  | .sg _ _, ⟨a, e, h1⟩ => ⟨a, e, s _ _ h1⟩
  | .ag _ _ _, ⟨a, b, ys, e, h1, h2, n, r⟩ => ⟨a, b, ys, e, s _ _ h1, s _ _ h2, n, r.mono s⟩
theorem ItemAt.off {S S' : List Addr} {H : Hp} {v : V} (h : ∀ b o, b ∉ S → H b = some o → b ∉ S') : ∀ {it : It}, ItemAt S H v it → ItemAt S' H v it
  | .vr _ _ _, ⟨a, b, e, h1, h2, n⟩ => ⟨a, b, e, h1, h2, h b _ n h2⟩
  | .sg _ _, ⟨a, e, h1⟩ => ⟨a, e, h1⟩
  | .ag _ _ _, ⟨a, b, ys, e, h1, h2, n, r⟩ => ⟨a, b, ys, e, h1, h2, h b _ n h2, r⟩
abbrev ItemsAt (S : List Addr) (H : Hp) : List V → List It → Prop := Paired (ItemAt S H)
theorem ItemsAt.stay {S : List Addr} {H H' : Hp} {vs : List V} {its : List It} (h : Lists S H) (s : Stay S H H') (r : ItemsAt S H vs its) : ItemsAt S H' vs its := Paired.mono (fun _ _ => ItemAt.stay h s) r
theorem ItemsAt.mono {S : List Addr} {H H' : Hp} {vs : List V} {its : List It} (s : Same H H') (r : ItemsAt S H vs its) : ItemsAt S H' vs its := Paired.mono (fun _ _ => ItemAt.mono s) r
theorem ItemsAt.off {S S' : List Addr} {H : Hp} {vs : List V} {its : List It} (h : ∀ b o, b ∉ S → H b = some o → b ∉ S') (r : ItemsAt S H vs its) : ItemsAt S' H vs its := Paired.mono (fun _ _ => ItemAt.off h) r
/-- off a new address, too -/
theorem off_new {S : List Addr} {H : Hp} {q : Addr} (hq : H q = none) : ∀ b o, b ∉ S → H b = some o → b ∉ q :: S := fun b o n e m => by
  rcases List.mem_cons.mp m with z | m
  · rw [z, hq] at e; cases e
  · exact n m
theorem off_sub {S S' : List Addr} {H : Hp} (h : ∀ a ∈ S', a ∈ S) : ∀ b o, b ∉ S → H b = some o → b ∉ S' := fun b o n _ m => n (h b m)
/-! ### steps of memory -/
def AccOk (k : Int) (vits : List It) (l : List V) : Prop := ∃ w n s f e sz ats, l = [.str w, .str n, .int s, .int f, .int e] ∧ It.vr n sz ats ∈ vits ∧ e < sz ∧ GoodStep (wsK k) l
def upWs : List Str := ["read", "write", "clean", "drop", "flush", "get", "put"]
theorem up_word {k d : Int} (h0 : 0 ≤ d) (k0 : 0 ≤ k) (h1 : d < 2 + 5 * (if k > 0 then 1 else 0)) : ∃ w : Str, upWs[d.toNat]? = some w ∧ w ∈ wsK k ∧ w ∈ memWords := by
  by_cases hk : k > 0
  · rw [if_pos hk] at h1
    have e : wsK k = cacheWs := by unfold wsK; rw [if_neg (by omega)]
    rw [e]
    obtain rfl | rfl | rfl | rfl | rfl | rfl | rfl : d = 0 ∨ d = 1 ∨ d = 2 ∨ d = 3 ∨ d = 4 ∨ d = 5 ∨ d = 6 := by omega
    all_goals exact ⟨_, rfl, by decide +kernel, by decide +kernel⟩
  · rw [if_neg hk] at h1
    have e : wsK k = plainWs := by unfold wsK; rw [if_pos (by omega)]
    rw [e]
    obtain rfl | rfl : d = 0 ∨ d = 1 := by omega
    all_goals exact ⟨_, rfl, by decide +kernel, by decide +kernel⟩
def VarsOf (vits : List It) : Prop := ∀ it ∈ vits, ∃ z s ats, it = .vr z s ats ∧ 1 ≤ s ∧ s ≤ 8 ∧ nameOk z = true
/-- steps of an agent -/
def spSteps : Sp := fun vs H Q _ => ∃ (p : Addr) (n : Nat) (c : Addr) (k : Int) (vl sg : Addr) (vvs : List V) (vits : List It) (ys : List V) (ss : List (List V)), vs = [.ref p, .int k, .ref vl, .ref sg] ∧ PenAt c H p n ∧ n + 40 < 100000 ∧ 0 ≤ k ∧ k ≤ 2 ∧
  H vl = some (.lst vvs) ∧ vl ≠ p ∧ ItemsAt [p] H vvs vits ∧ VarsOf vits ∧ 1 ≤ vits.length ∧ vits.length ≤ 6 ∧ H sg = some (.lst ys) ∧ sg ≠ p ∧ RowsAt H ys ss ∧ ss.length ≤ 12 ∧
  ∀ r zs ls acc H', H r = none → H' r = some (.lst zs) → RowsAt H' zs ls → ls.Perm (ss ++ acc) → 1 ≤ acc.length → acc.length ≤ 4 → (∀ l ∈ acc, AccOk k vits l) → PenAt c H' p (n + 40) → Keep p H H' → Q (.ref r) H'
theorem ins_perm {α : Type} (xs ys : List α) (a : α) (n : Nat) (h : xs.Perm ys) : (xs.take n ++ [a] ++ xs.drop n).Perm (ys ++ [a]) := by
  have h1 : (xs.take n ++ [a] ++ xs.drop n).Perm (a :: xs) := by
    rw [List.append_assoc]
    refine List.perm_middle.trans ?_
    show (a :: (xs.take n ++ xs.drop n)).Perm (a :: xs)
    rw [List.take_append_drop]
  refine h1.trans ((List.Perm.cons a h).trans ?_)
  exact (List.perm_append_singleton a ys).symm
end NetG
end
section
namespace NetG
open PySem PySem.Spec PyProof.Rows Lay NetL
open L2 hiding It
def vN (i : Nat) : Str := (["va", "vb", "vc"] : List Str).getD i "va"
def sN (i : Nat) : Str := (["sa", "sb", "sc", "sd", "se", "sf"] : List Str).getD i "sa"
def aN (i : Nat) : Str := (["aa", "ab", "ac", "ad"] : List Str).getD i "aa"
theorem sign_v {i : Nat} (h : i < 3) : ∃ c, ("abc" : Str).cps.toList[i]? = some c ∧ ("v" : Str) ++ (⟨#[c]⟩ : Str) = vN i := by
  obtain rfl | rfl | rfl : i = 0 ∨ i = 1 ∨ i = 2 := by omega
  all_goals exact ⟨_, rfl, by decide +kernel⟩
theorem sign_s {i : Nat} (h : i < 6) : ∃ c, ("abcdef" : Str).cps.toList[i]? = some c ∧ ("s" : Str) ++ (⟨#[c]⟩ : Str) = sN i := by
  obtain rfl | rfl | rfl | rfl | rfl | rfl : i = 0 ∨ i = 1 ∨ i = 2 ∨ i = 3 ∨ i = 4 ∨ i = 5 := by omega
  all_goals exact ⟨_, rfl, by decide +kernel⟩
theorem sign_a {i : Nat} (h : i < 4) : ∃ c, ("abcd" : Str).cps.toList[i]? = some c ∧ ("a" : Str) ++ (⟨#[c]⟩ : Str) = aN i := by
  obtain rfl | rfl | rfl | rfl : i = 0 ∨ i = 1 ∨ i = 2 ∨ i = 3 := by omega
  all_goals exact ⟨_, rfl, by decide +kernel⟩
theorem vN_ok {i : Nat} (h : i < 3) : nameOk (vN i) = true := by
  obtain rfl | rfl | rfl : i = 0 ∨ i = 1 ∨ i = 2 := by omega
  all_goals decide +kernel
theorem sN_ok {i : Nat} (h : i < 6) : nameOk (sN i) = true := by
  obtain rfl | rfl | rfl | rfl | rfl | rfl : i = 0 ∨ i = 1 ∨ i = 2 ∨ i = 3 ∨ i = 4 ∨ i = 5 := by omega
  all_goals decide +kernel
theorem aN_ok {i : Nat} (h : i < 4) : nameOk (aN i) = true := by
  obtain rfl | rfl | rfl | rfl : i = 0 ∨ i = 1 ∨ i = 2 ∨ i = 3 := by omega
  all_goals decide +kernel
theorem range_sub {m n : Nat} (h : m ≤ n) : (List.range m).Sublist (List.range n) := by
  have e : List.range m = (List.range n).take m := by rw [List.take_range, Nat.min_eq_left h]
  rw [e]
  exact List.take_sublist _ _
theorem names_nodup {i j k : Nat} (hi : i ≤ 3) (hj : j ≤ 6) (hk : k ≤ 4) : ((List.range i).map vN ++ (List.range j).map sN ++ (List.range k).map aN).Nodup := by
  have all : ((List.range 3).map vN ++ (List.range 6).map sN ++ (List.range 4).map aN).Nodup := by decide +kernel
  exact List.Nodup.sublist ((((range_sub hi).map _).append ((range_sub hj).map _)).append ((range_sub hk).map _)) all
/-! ### variables -/
def Gap (s : Int) (ns : List Int) : Prop := ns.Pairwise fun a b => s ≤ a - b ∨ s ≤ b - a
def SpotsG (lo s hi : Int) (ns : List Int) : Prop := Gap s ns ∧ ∀ a ∈ ns, lo ≤ a ∧ a + s ≤ hi
theorem SpotsG.nil {lo s hi : Int} : SpotsG lo s hi [] := ⟨.nil, fun _ h => nomatch h⟩
theorem SpotsG.app {lo s hi hi' : Int} {ns : List Int} (h : SpotsG lo s hi ns) (h0 : lo ≤ hi) (h1 : hi + s ≤ hi') (hs : 0 ≤ s) : SpotsG lo s hi' (ns ++ [hi]) := by
  refine ⟨List.pairwise_append.mpr ⟨h.1, List.pairwise_singleton _ _, fun a ha b hb => ?_⟩, fun a ha => ?_⟩
  · rw [List.mem_singleton] at hb
    subst hb
    have := (h.2 a ha).2
    exact .inr (by omega)
  · rcases List.mem_append.mp ha with ha | ha
    · have := h.2 a ha
      exact ⟨this.1, by omega⟩
    · rw [List.mem_singleton] at ha
      subst ha
      exact ⟨h0, h1⟩
theorem SpotsG.perm {lo s hi : Int} {ns ms : List Int} (p : ms.Perm ns) (h : SpotsG lo s hi ns) : SpotsG lo s hi ms :=
  ⟨h.1.perm p.symm (fun {a b} e => e.symm), fun a ha => h.2 a (p.mem_iff.mp ha)⟩
theorem row_mem {s : Nat} {a b : Int} (h : b ∈ row s a) : a ≤ b ∧ b < a + s := by
  unfold row at h
  obtain ⟨i, hi, rfl⟩ := List.mem_map.mp h
  rw [List.mem_range] at hi
  omega
theorem row_nodup (s : Nat) (a : Int) : (row s a).Nodup := by
  unfold row
  refine List.pairwise_map.mpr (List.nodup_range.imp fun {x y} n e => n (by omega))
theorem gap_bytes {s : Int} {ns : List Int} (hs : 0 ≤ s) (h : Gap s ns) : (ns.flatMap (row s.toNat)).Nodup := by
  induction ns with
  | nil => exact .nil
  | cons a ns ih =>
    unfold Gap at h
    rw [List.pairwise_cons] at h
    rw [List.flatMap_cons]
    refine List.nodup_append.mpr ⟨row_nodup _ _, ih h.2, fun x hx y hy e => ?_⟩
    obtain ⟨b, hb, hyb⟩ := List.mem_flatMap.mp hy
    have r1 := row_mem hx
    have r2 := row_mem hyb
    have r3 := h.1 b hb
    omega
structure VarsG (ring : Int) (i : Nat) (free : Int) (its : List It) : Prop where
  len : its.length = i
  nm : its.map It.nm = (List.range i).map vN
  ok : ∀ it ∈ its, ∃ z s ats, it = .vr z s ats ∧ 1 ≤ s ∧ s ≤ 8 ∧ nameOk z = true ∧ 1 ≤ ats.length ∧ ats.length ≤ 4 ∧ ((ats.length : Int) = 1 ∨ (ats.length : Int) = ring) ∧ SpotsG 0 s free ats
  nd : (its.flatMap It.bytes).Nodup
theorem VarsG.nil {ring free : Int} : VarsG ring 0 free [] := ⟨rfl, rfl, (fun _ h => nomatch h), List.Pairwise.nil⟩
theorem VarsG.add {ring free free' s : Int} {i : Nat} {its : List It} {ns : List Int} (h : VarsG ring i free its) (hi : i < 3) (h0 : 0 ≤ free) (hf : free ≤ free') (s1 : 1 ≤ s) (s8 : s ≤ 8) (l1 : 1 ≤ ns.length) (l4 : ns.length ≤ 4) (lr : (ns.length : Int) = 1 ∨ (ns.length : Int) = ring)
    (sp : SpotsG free s free' ns) : VarsG ring (i + 1) free' (its ++ [.vr (vN i) s ns]) where
  len := by rw [List.length_append, h.len]; rfl
  nm := by rw [List.map_append, h.nm, List.range_succ, List.map_append]; rfl
  ok it m := by
    rcases List.mem_append.mp m with m | m
    · obtain ⟨z, s, ats, e, a1, a2, a3, a4, a5, a6, a7⟩ := h.ok it m
      exact ⟨z, s, ats, e, a1, a2, a3, a4, a5, a6, a7.1, fun a ha => ⟨(a7.2 a ha).1, by have := (a7.2 a ha).2; omega⟩⟩
    · rw [List.mem_singleton] at m
      exact ⟨_, _, _, m, s1, s8, vN_ok hi, l1, l4, lr, sp.1, fun a ha => ⟨by have := (sp.2 a ha).1; omega, (sp.2 a ha).2⟩⟩
  nd := by
    rw [List.flatMap_append]
    refine List.nodup_append.mpr ⟨h.nd, ?_, fun x hx y hy e => ?_⟩
    · rw [List.flatMap_cons, List.flatMap_nil, List.append_nil, bytes_vr]
      exact gap_bytes (by omega) sp.1
    · subst e
      obtain ⟨it, im, hx⟩ := List.mem_flatMap.mp hx
      obtain ⟨z, s0, ats, rfl, a1, a2, a3, a4, a5, a6, a7⟩ := h.ok it im
      rw [bytes_vr] at hx
      obtain ⟨a, ha, hx⟩ := List.mem_flatMap.mp hx
      have r1 := row_mem hx
      have r2 := (a7.2 a ha).2
      rw [List.flatMap_cons, List.flatMap_nil, List.append_nil, bytes_vr] at hy
      obtain ⟨b, hb, hy⟩ := List.mem_flatMap.mp hy
      have r3 := row_mem hy
      have r4 := (sp.2 b hb).1
      omega
theorem wants_ok {z : Str} {s : Int} {ns : List Int} (hz : nameOk z = true) (h1 : 1 ≤ s) (h8 : s ≤ 8) (l1 : 1 ≤ ns.length) (l4 : ns.length ≤ 4) (h : ∀ a ∈ ns, 0 ≤ a ∧ a + s ≤ 1024) (gp : Gap s ns) : wants (.str z) (.int s) (ns.map V.int) = none := by
  have hw : within (.int s) 1 8 = true := by
    show (decide (1 ≤ s) && decide (s ≤ 8)) = true
    rw [decide_eq_true h1, decide_eq_true h8]; rfl
  refine wants_none hz hw (by rw [List.length_map, decide_eq_true l1, decide_eq_true l4]; rfl) (fst_none fun j hj => ?_) (fst_none fun j hj => ?_)
  · rw [List.length_map] at hj
    unfold aBad
    rw [List.getElem?_map, List.getElem?_eq_getElem hj]
    have := h _ (List.getElem_mem hj)
    show (!(decide (0 ≤ ns[j]) && decide (ns[j] ≤ 1024 - s))) = false
    rw [decide_eq_true this.1, decide_eq_true (by omega)]; rfl
  · rw [List.length_map] at hj
    unfold bBad
    rw [List.getElem?_map, List.getElem?_eq_getElem hj]
    show ((ns.map V.int).take j).any (near s (.int ns[j])) = false
    rw [← List.map_take, List.any_map, List.any_eq_false]
    intro x hx
    obtain ⟨i, hi, rfl⟩ := List.getElem_of_mem hx
    rw [List.length_take] at hi
    have e := List.pairwise_iff_getElem.mp gp i j (by omega) hj (by omega)
    rw [List.getElem_take]
    show ¬ decide ((if ns[j] - ns[i] < 0 then -(ns[j] - ns[i]) else ns[j] - ns[i]) < s) = true
    rw [decide_eq_true_iff]
    split <;> omega
/-! ### signals -/
def rowsS (j : Nat) : List (List V) := (List.range j).flatMap fun i => [[V.str "post", .str (sN i)], [V.str "wait", .str (sN i)]]
theorem rowsS_succ (j : Nat) : rowsS (j + 1) = rowsS j ++ [[V.str "post", .str (sN j)], [V.str "wait", .str (sN j)]] := by
  unfold rowsS
  rw [List.range_succ, List.flatMap_append, List.flatMap_cons, List.flatMap_nil, List.append_nil]
structure SigsG (j : Nat) (its : List It) : Prop where
  len : its.length = j
  nm : its.map It.nm = (List.range j).map sN
  ok : ∀ it ∈ its, ∃ z t, it = .sg z t ∧ 0 ≤ t ∧ t ≤ 3
theorem SigsG.nil : SigsG 0 [] := ⟨rfl, rfl, fun _ h => nomatch h⟩
theorem SigsG.add {j : Nat} {its : List It} {t : Int} (h : SigsG j its) (t0 : 0 ≤ t) (t3 : t ≤ 3) : SigsG (j + 1) (its ++ [.sg (sN j) t]) where
  len := by rw [List.length_append, h.len]; rfl
  nm := by rw [List.map_append, h.nm, List.range_succ, List.map_append]; rfl
  ok it m := by
    rcases List.mem_append.mp m with m | m
    · exact h.ok it m
    · rw [List.mem_singleton] at m
      exact ⟨_, _, m, t0, t3⟩
/-- lists of steps, each at an address of its own -/
def HeapsAt (H : Hp) (bs : List Addr) (lss : List (List (List V))) : Prop := bs.length = lss.length ∧ bs.Nodup ∧ ∀ (i : Nat) (b : Addr) (ls : List (List V)), bs[i]? = some b → lss[i]? = some ls → ∃ ys, H b = some (.lst ys) ∧ RowsAt H ys ls
theorem HeapsAt.lists {H : Hp} {bs : List Addr} {lss : List (List (List V))} (h : HeapsAt H bs lss) : Lists bs H := fun a m => by
  obtain ⟨i, hi, e⟩ := List.getElem_of_mem m
  obtain ⟨ys, h1, _⟩ := h.2.2 i a (lss[i]'(by rw [← h.1]; exact hi)) (by rw [List.getElem?_eq_getElem hi, e]) (List.getElem?_eq_getElem (by rw [← h.1]; exact hi))
  exact ⟨ys, h1⟩
theorem HeapsAt.stay {S : List Addr} {H H' : Hp} {bs : List Addr} {lss : List (List (List V))} (h : HeapsAt H bs lss) (hS : Lists S H) (n : ∀ b ∈ bs, b ∉ S) (s : Stay S H H') : HeapsAt H' bs lss :=
  ⟨h.1, h.2.1, fun i b ls e1 e2 => by
    obtain ⟨ys, h1, h2⟩ := h.2.2 i b ls e1 e2
    exact ⟨ys, s _ _ (n b (List.mem_of_getElem? e1)) h1, rows_stay hS s h2⟩⟩
theorem HeapsAt.mono {H H' : Hp} {bs : List Addr} {lss : List (List (List V))} (h : HeapsAt H bs lss) (s : Same H H') : HeapsAt H' bs lss :=
  ⟨h.1, h.2.1, fun i b ls e1 e2 => by
    obtain ⟨ys, h1, h2⟩ := h.2.2 i b ls e1 e2
    exact ⟨ys, s _ _ h1, h2.mono s⟩⟩
theorem HeapsAt.put {H : Hp} {bs : List Addr} {lss : List (List (List V))} {d : Nat} {b t : Addr} {ls : List (List V)} {ys : List V} {l : List V} (h : HeapsAt H bs lss) (e1 : bs[d]? = some b) (e2 : lss[d]? = some ls) (hb : H b = some (.lst ys)) (hr : RowsAt H ys ls) (ht : H t = some (.tup l)) :
    HeapsAt (upd H b (.lst (ys ++ [.ref t]))) bs (lss.set d (ls ++ [l])) := by
  have hd : d < lss.length := (List.getElem?_eq_some_iff.mp e2).1
  have tup : ∀ c l', H c = some (.tup l') → (upd H b (.lst (ys ++ [.ref t]))) c = some (.tup l') := fun c l' e => by
    rw [upd_ne (fun z => by subst z; rw [hb] at e; cases e)]
    exact e
  refine ⟨by rw [List.length_set]; exact h.1, h.2.1, fun i b' ls' g1 g2 => ?_⟩
  by_cases e : i = d
  · subst e
    rw [e1] at g1
    cases g1
    rw [List.getElem?_set_self hd] at g2
    cases g2
    exact ⟨_, upd_same, (hr.same tup).append (.cons (tup _ _ ht) .nil)⟩
  · rw [List.getElem?_set_ne (Ne.symm e)] at g2
    obtain ⟨ys', h1, h2⟩ := h.2.2 i b' ls' g1 g2
    have nb : b' ≠ b := fun z => by
      subst z
      have tk : ∀ {i j : Nat} {z : Addr}, bs[i]? = some z → bs[j]? = some z → i < j → False := fun {i j z} a1 a2 lt =>
        not_take h.2.1 a2 (List.mem_of_getElem? (by rw [List.getElem?_take, if_pos lt]; exact a1))
      rcases Nat.lt_or_gt_of_ne e with lt | gt
      · exact tk g1 e1 lt
      · exact tk e1 g1 gt
    exact ⟨ys', by rw [upd_ne nb]; exact h1, h2.same tup⟩
theorem flat_put {α : Type} : ∀ {lss : List (List α)} {d : Nat} {ls : List α} (l : α), lss[d]? = some ls → (lss.set d (ls ++ [l])).flatten.Perm (lss.flatten ++ [l])
  | [], d, ls, l, h => by simp at h
  | x :: r, 0, ls, l, h => by
    obtain rfl : x = ls := by simpa using h
    rw [List.set_cons_zero, List.flatten_cons, List.flatten_cons, List.append_assoc, List.append_assoc]
    exact List.Perm.append_left x List.perm_append_comm
  | x :: r, d + 1, ls, l, h => by
    rw [List.set_cons_succ, List.flatten_cons, List.flatten_cons, List.append_assoc]
    exact List.Perm.append_left x (flat_put l (by simpa using h))
/-! ### agents -/
structure AgsG (vits : List It) (lss : List (List (List V))) (k : Nat) (its : List It) : Prop where
  len : its.length = k
  nm : its.map It.nm = (List.range k).map aN
  ok : ∀ (i : Nat) (it : It), its[i]? = some it → ∃ z kd ls ss acc, it = .ag z kd ls ∧ lss[i]? = some ss ∧ 0 ≤ kd ∧ kd ≤ 2 ∧ nameOk z = true ∧ ls.Perm (ss ++ acc) ∧ 1 ≤ acc.length ∧ acc.length ≤ 4 ∧ ∀ l ∈ acc, AccOk kd vits l
theorem AgsG.nil {vits : List It} {lss : List (List (List V))} : AgsG vits lss 0 [] := ⟨rfl, rfl, fun i it h => by simp at h⟩
theorem AgsG.add {vits : List It} {lss : List (List (List V))} {k : Nat} {its : List It} {kd : Int} {ls ss acc : List (List V)} (h : AgsG vits lss k its) (hk : k < 4) (e : lss[k]? = some ss) (k0 : 0 ≤ kd) (k2 : kd ≤ 2) (p : ls.Perm (ss ++ acc)) (a1 : 1 ≤ acc.length) (a4 : acc.length ≤ 4) (ok : ∀ l ∈ acc, AccOk kd vits l) :
    AgsG vits lss (k + 1) (its ++ [.ag (aN k) kd ls]) where
  len := by rw [List.length_append, h.len]; rfl
  nm := by rw [List.map_append, h.nm, List.range_succ, List.map_append]; rfl
  ok i it m := by
    by_cases hi : i < its.length
    · rw [List.getElem?_append_left hi] at m
      exact h.ok i it m
    · rw [List.getElem?_append_right (by omega)] at m
      have : i - its.length = 0 := by
        cases hh : i - its.length with
        | zero => rfl
        | succ q => rw [hh] at m; simp at m
      rw [this] at m
      have e2 : It.ag (aN k) kd ls = it := by simpa using m
      have e3 : i = k := by have := h.len; omega
      subst e3
      exact ⟨_, _, _, ss, acc, e2.symm, e, k0, k2, aN_ok hk, p, a1, a4, ok⟩
end NetG
end
section
namespace NetG
open PySem PySem.Spec PyProof.Rows Lay NetL
open L2 hiding It
structure GenOk (ring : Int) (its : List It) : Prop where
  good : NetL.Good ring its
  var : ∀ z s ats, It.vr z s ats ∈ its → Gap s ats ∧ ∀ a ∈ ats, 0 ≤ a ∧ a + s ≤ 300
  len : its.length ≤ 13
  ag : ∀ z k ls, It.ag z k ls ∈ its → ls.length ≤ 16
theorem filt_none {p : It → Bool} {l : List It} (h : ∀ it ∈ l, p it = false) : l.filter p = [] := List.filter_eq_nil_iff.mpr fun it m => by rw [h it m]; decide
theorem flat_none {β : Type} {f : It → List β} {l : List It} (h : ∀ it ∈ l, f it = []) : l.flatMap f = [] := List.flatMap_eq_nil_iff.mpr h
theorem cnt_flat {l : List V} : ∀ {xs : List It} {lss : List (List (List V))}, xs.length = lss.length → (∀ (i : Nat) (it : It), xs[i]? = some it → ∃ ss, lss[i]? = some ss ∧ it.ls.count l = ss.count l) → (xs.flatMap It.ls).count l = lss.flatten.count l
  | [], [], _, _ => rfl
  | x :: xs, s :: lss, hl, h => by
    obtain ⟨ss, e, c⟩ := h 0 x rfl
    obtain rfl : s = ss := by simpa using e
    rw [List.flatMap_cons, List.flatten_cons, List.count_append, List.count_append, c, cnt_flat (Nat.succ.inj hl) fun i it e => h (i + 1) it (by simpa using e)]
  | [], _ :: _, hl, _ => by cases hl
  | _ :: _, [], hl, _ => by cases hl
theorem rows_cnt : ∀ j < 7, ∀ i < 6, i < j → (rowsS j).count [V.str "post", .str (sN i)] = 1 ∧ (rowsS j).count [V.str "wait", .str (sN i)] = 1 := by decide +kernel
theorem rows_len (j : Nat) : (rowsS j).length = 2 * j := by
  induction j with
  | zero => rfl
  | succ j ih => rw [rowsS_succ, List.length_append, ih]; show 2 * j + 2 = _; omega
theorem rows_mem {j : Nat} {l : List V} (h : l ∈ rowsS j) : ∃ (i : Nat) (w : Str), i < j ∧ (w = "post" ∨ w = "wait") ∧ l = [V.str w, .str (sN i)] := by
  unfold rowsS at h
  obtain ⟨i, hi, m⟩ := List.mem_flatMap.mp h
  rw [List.mem_range] at hi
  rcases List.mem_cons.mp m with e | m
  · exact ⟨i, "post", hi, .inl rfl, e⟩
  · rw [List.mem_singleton] at m
    exact ⟨i, "wait", hi, .inr rfl, m⟩
theorem SigsG.at_ {j : Nat} {its : List It} (h : SigsG j its) {i : Nat} (hi : i < j) : ∃ t, It.sg (sN i) t ∈ its := by
  have hl := h.len
  have m : its[i]'(by omega) ∈ its := List.getElem_mem _
  obtain ⟨z, t, e, _⟩ := h.ok _ m
  have en : (its.map It.nm)[i]? = some (sN i) := by rw [h.nm, List.getElem?_map, List.getElem?_range hi]; rfl
  rw [List.getElem?_map, List.getElem?_eq_getElem (by omega), e] at en
  have ez : z = sN i := Option.some.inj en
  rw [ez] at e
  exact ⟨t, by rw [← e]; exact m⟩
theorem genOk {ring free : Int} {i j m : Nat} {vits sits agits : List It} {lss : List (List (List V))} (hv : VarsG ring i free vits) (hi : i ≤ 3) (hf : free ≤ 300) (hs : SigsG j sits) (hj : j ≤ 6) (hp : lss.flatten.Perm (rowsS j)) (hm : lss.length = m) (m4 : m ≤ 4) (ha : AgsG vits lss m agits) :
    GenOk ring (vits ++ sits ++ agits) := by
  have isv : ∀ it ∈ vits, it.isV = true ∧ it.isS = false ∧ it.isA = false ∧ it.ls = [] := fun it im => by
    obtain ⟨z, s, ats, rfl, _⟩ := hv.ok it im
    exact ⟨rfl, rfl, rfl, rfl⟩
  have iss : ∀ it ∈ sits, it.isV = false ∧ it.isS = true ∧ it.isA = false ∧ it.ls = [] ∧ it.bytes = [] := fun it im => by
    obtain ⟨z, t, rfl, _⟩ := hs.ok it im
    exact ⟨rfl, rfl, rfl, rfl, rfl⟩
  have aat : ∀ it ∈ agits, ∃ z kd ls ss acc, it = .ag z kd ls ∧ ss ∈ lss ∧ 0 ≤ kd ∧ kd ≤ 2 ∧ nameOk z = true ∧ ls.Perm (ss ++ acc) ∧ 1 ≤ acc.length ∧ acc.length ≤ 4 ∧ ∀ l ∈ acc, AccOk kd vits l := fun it im => by
    obtain ⟨q, hq, e⟩ := List.getElem_of_mem im
    obtain ⟨z, kd, ls, ss, acc, h1, h2, h3⟩ := ha.ok q it (by rw [List.getElem?_eq_getElem hq, e])
    exact ⟨z, kd, ls, ss, acc, h1, List.mem_of_getElem? h2, h3⟩
  have isa : ∀ it ∈ agits, it.isV = false ∧ it.isS = false ∧ it.isA = true ∧ it.bytes = [] := fun it im => by
    obtain ⟨z, kd, ls, ss, acc, rfl, _⟩ := aat it im
    exact ⟨rfl, rfl, rfl, rfl⟩
  have stp : steps (vits ++ sits ++ agits) = agits.flatMap It.ls := by
    unfold steps
    rw [List.flatMap_append, List.flatMap_append, flat_none (f := It.ls) fun it im => (isv it im).2.2.2, flat_none (f := It.ls) fun it im => (iss it im).2.2.2.1]
    rfl
  have flen : lss.flatten.length ≤ 12 := by rw [hp.length_eq, rows_len]; omega
  have hvl := hv.len
  have hsl := hs.len
  have hal := ha.len
  refine ⟨⟨?_, ?_, ?_, ?_, ?_, ?_, ?_, ?_, ?_⟩, ?_, ?_, ?_⟩
  · rw [List.filter_append, List.filter_append, filt_none fun it im => (isv it im).2.2.1, filt_none fun it im => (iss it im).2.2.1]
    exact Nat.le_trans (List.length_filter_le _ _) (by omega)
  · rw [List.filter_append, List.filter_append, filt_none (l := sits) fun it im => (iss it im).1, filt_none (l := agits) fun it im => (isa it im).1, List.append_nil, List.append_nil]
    exact Nat.le_trans (List.length_filter_le _ _) (by omega)
  · rw [List.filter_append, List.filter_append, filt_none (l := vits) fun it im => (isv it im).2.1, filt_none (l := agits) fun it im => (isa it im).2.1, List.append_nil, List.nil_append]
    exact Nat.le_trans (List.length_filter_le _ _) (by omega)
  · rw [List.map_append, List.map_append, hv.nm, hs.nm, ha.nm]
    exact names_nodup hi hj m4
  · intro it im
    rcases List.mem_append.mp im with im | im
    · rcases List.mem_append.mp im with im | im
      · obtain ⟨z, s, ats, rfl, _, _, h, _⟩ := hv.ok it im
        exact h
      · have m1 : it.nm ∈ sits.map It.nm := List.mem_map.mpr ⟨it, im, rfl⟩
        rw [hs.nm] at m1
        obtain ⟨q, hq, e⟩ := List.mem_map.mp m1
        rw [List.mem_range] at hq
        rw [← e]
        exact sN_ok (by omega)
    · obtain ⟨z, kd, ls, ss, acc, rfl, _, _, _, h, _⟩ := aat it im
      exact h
  · intro z s ats im
    rcases List.mem_append.mp im with im | im
    · rcases List.mem_append.mp im with im | im
      · obtain ⟨z', s', ats', e, h⟩ := hv.ok _ im
        cases e
        exact ⟨h.1, h.2.1, h.2.2.2.1, h.2.2.2.2.1, h.2.2.2.2.2.1⟩
      · cases (iss _ im).1
    · cases (isa _ im).1
  · rw [List.flatMap_append, List.flatMap_append, flat_none (f := It.bytes) (l := sits) fun it im => (iss it im).2.2.2.2, flat_none (f := It.bytes) (l := agits) fun it im => (isa it im).2.2.2, List.append_nil, List.append_nil]
    exact hv.nd
  · intro z k ls im
    rcases List.mem_append.mp im with im | im
    · rcases List.mem_append.mp im with im | im
      · cases (isv _ im).2.2.1
      · cases (iss _ im).2.2.1
    · obtain ⟨z', kd, ls', ss, acc, e, sm, k0, k2, _, p, a1, a4, ok⟩ := aat _ im
      cases e
      have sl : ss.length ≤ 12 := Nat.le_trans (List.Sublist.length_le (List.sublist_flatten_of_mem sm)) flen
      have ll := p.length_eq
      rw [List.length_append] at ll
      refine ⟨k0, k2, by omega, by omega, fun l lm => ?_⟩
      rcases List.mem_append.mp (p.mem_iff.mp lm) with lm | lm
      · obtain ⟨q, w, hq, hw, rfl⟩ := rows_mem (hp.mem_iff.mp (List.mem_flatten.mpr ⟨ss, sm, lm⟩))
        obtain ⟨t, ht⟩ := hs.at_ hq
        exact ⟨good_sig hw (sN_ok (by omega)), t, List.mem_append_left _ (List.mem_append_right _ ht)⟩
      · obtain ⟨w, n, s, f, e, sz, ats, rfl, h1, h2, h3⟩ := ok l lm
        exact ⟨h3, sz, ats, List.mem_append_left _ (List.mem_append_left _ h1), h2⟩
  · intro z t im
    rcases List.mem_append.mp im with im | im
    · rcases List.mem_append.mp im with im | im
      · cases (isv _ im).2.1
      · obtain ⟨z', t', e, h0, h3⟩ := hs.ok _ im
        cases e
        have m1 : z ∈ sits.map It.nm := List.mem_map.mpr ⟨_, im, rfl⟩
        rw [hs.nm] at m1
        obtain ⟨q, hq, e⟩ := List.mem_map.mp m1
        rw [List.mem_range] at hq
        have key : ∀ w : Str, (steps (vits ++ sits ++ agits)).count [V.str w, .str z] = (rowsS j).count [V.str w, .str z] := fun w => by
          rw [stp, cnt_flat (lss := lss) (by omega) ?_, hp.count_eq]
          intro i' it e'
          obtain ⟨z', kd, ls, ss, acc, rfl, h1, _, _, _, p, _, _, ok⟩ := ha.ok i' it e'
          refine ⟨ss, h1, ?_⟩
          show ls.count _ = _
          rw [p.count_eq, List.count_append, List.count_eq_zero_of_not_mem (l := acc), Nat.add_zero]
          intro cm
          obtain ⟨w', n, s, f, e, sz, ats, e2, _⟩ := ok _ cm
          cases e2
        obtain ⟨c1, c2⟩ := rows_cnt j (by omega) q (by omega) hq
        rw [e] at c1 c2
        exact ⟨h0, h3, (key _).trans c1, (key _).trans c2⟩
    · cases (isa _ im).2.1
  · intro z s ats im
    rcases List.mem_append.mp im with im | im
    · rcases List.mem_append.mp im with im | im
      · obtain ⟨z', s', ats', e, _, _, _, _, _, _, sp⟩ := hv.ok _ im
        cases e
        exact ⟨sp.1, fun a m => ⟨(sp.2 a m).1, by have := (sp.2 a m).2; omega⟩⟩
      · cases (iss _ im).1
    · cases (isa _ im).1
  · rw [List.length_append, List.length_append]
    omega
  · intro z k ls im
    rcases List.mem_append.mp im with im | im
    · rcases List.mem_append.mp im with im | im
      · cases (isv _ im).2.2.1
      · cases (iss _ im).2.2.1
    · obtain ⟨z', kd, ls', ss, acc, e, sm, k0, k2, _, p, a1, a4, ok⟩ := aat _ im
      cases e
      have sl : ss.length ≤ 12 := Nat.le_trans (List.Sublist.length_le (List.sublist_flatten_of_mem sm)) flen
      have ll := p.length_eq
      rw [List.length_append] at ll
      omega
theorem good_perm {ring : Int} {its its' : List It} (p : its'.Perm its) (h : NetL.Good ring its) : NetL.Good ring its' where
  ma := by rw [(p.filter _).length_eq]; exact h.ma
  mv := by rw [(p.filter _).length_eq]; exact h.mv
  ms := by rw [(p.filter _).length_eq]; exact h.ms
  nd := (p.map It.nm).nodup_iff.mpr h.nd
  ok it m := h.ok it (p.mem_iff.mp m)
  vr z s ats m := h.vr z s ats (p.mem_iff.mp m)
  by_ := (p.flatMap_right It.bytes).nodup_iff.mpr h.by_
  gs z k ls m := by
    obtain ⟨h1, h2, h3, h4, h5⟩ := h.gs z k ls (p.mem_iff.mp m)
    refine ⟨h1, h2, h3, h4, fun l lm => ⟨(h5 l lm).1, ?_⟩⟩
    have f := (h5 l lm).2
    unfold NetL.fits at f ⊢
    split at f
    · obtain ⟨t, ht⟩ := f
      exact ⟨t, p.mem_iff.mpr ht⟩
    · obtain ⟨s, ats, hm, hl⟩ := f
      exact ⟨s, ats, p.mem_iff.mpr hm, hl⟩
    · exact f.elim
  sg z t m := by
    obtain ⟨h1, h2, h3, h4⟩ := h.sg z t (p.mem_iff.mp m)
    have q : (steps its').Perm (steps its) := p.flatMap_right It.ls
    exact ⟨h1, h2, by rw [q.count_eq]; exact h3, by rw [q.count_eq]; exact h4⟩
theorem GenOk.perm {ring : Int} {its its' : List It} (p : its'.Perm its) (h : GenOk ring its) : GenOk ring its' :=
  ⟨good_perm p h.good, fun z s ats m => h.var z s ats (p.mem_iff.mp m), by rw [p.length_eq]; exact h.len, fun z k ls m => h.ag z k ls (p.mem_iff.mp m)⟩
/-- a variable and an agent at least -/
structure Two (its : List It) : Prop where
  two : 2 ≤ its.length
  v : ∃ it ∈ its, it.isV = true
  a : ∃ it ∈ its, it.isA = true
theorem Two.perm {its its' : List It} (p : its'.Perm its) (h : Two its) : Two its' := by
  obtain ⟨x, mx, ex⟩ := h.v
  obtain ⟨y, my, ey⟩ := h.a
  exact ⟨by rw [p.length_eq]; exact h.two, ⟨x, p.mem_iff.mpr mx, ex⟩, ⟨y, p.mem_iff.mpr my, ey⟩⟩
theorem two_of {ring free : Int} {i m : Nat} {vits sits agits : List It} {lss : List (List (List V))} (hv : VarsG ring i free vits) (ha : AgsG vits lss m agits) (i1 : 1 ≤ i) (m1 : 1 ≤ m) : Two (vits ++ sits ++ agits) := by
  have l1 := hv.len
  have l2 := ha.len
  have e1 : vits[0]? = some (vits[0]'(by omega)) := List.getElem?_eq_getElem (by omega)
  have e2 : agits[0]? = some (agits[0]'(by omega)) := List.getElem?_eq_getElem (by omega)
  refine ⟨by rw [List.length_append, List.length_append]; omega, ⟨_, List.mem_append_left _ (List.mem_append_left _ (List.mem_of_getElem? e1)), ?_⟩, ⟨_, List.mem_append_right _ (List.mem_of_getElem? e2), ?_⟩⟩
  · obtain ⟨z, s, ats, e, _⟩ := hv.ok _ (List.mem_of_getElem? e1)
    rw [e]; rfl
  · obtain ⟨z, kd, ls, ss, acc, e, _⟩ := ha.ok 0 _ e2
    rw [e]; rfl
def spItems : Sp := fun vs H Q _ => ∃ (p : Addr) (n : Nat) (c : Addr) (ring : Int), vs = [.ref p, .int ring] ∧ PenAt c H p n ∧ n + 300 < 100000 ∧ 1 ≤ ring ∧ ring ≤ 4 ∧
  ∀ r l its H', H r = none → H' r = some (.lst l) → ItemsAt [p] H' l its → GenOk ring its → Two its → PenAt c H' p (n + 300) → Keep p H H' → Q (.ref r) H'
end NetG
end
section
namespace NetG
open PySem PySem.Spec PyProof.Rows Lay NetL
open L2 hiding It
/-- the heap while items are drawn: the pen p, the list of items D, the lists bs of signals' steps -/
structure Ph (c p D : Addr) (bs : List Addr) (H : Hp) (n : Nat) (lD : List V) (its : List It) (lss : List (List (List V))) : Prop where
  pen : PenAt c H p n
  eD : H D = some (.lst lD)
  items : ItemsAt (p :: D :: bs) H lD its
  hs : HeapsAt H bs lss
  Dp : D ≠ p
  Dc : D ≠ c
  pb : p ∉ bs
  Db : D ∉ bs
  cb : c ∉ bs
section
variable {c p D : Addr} {bs : List Addr} {H H' : Hp} {n : Nat} {lD : List V} {its : List It} {lss : List (List (List V))}
theorem Ph.lists (h : Ph c p D bs H n lD its lss) : Lists (p :: D :: bs) H := fun a m => by
  rcases List.mem_cons.mp m with e | m
  · subst e; exact h.pen.at_
  · rcases List.mem_cons.mp m with e | m
    · subst e; exact ⟨_, h.eD⟩
    · exact h.hs.lists a m
theorem Ph.new (h : Ph c p D bs H n lD its lss) {r : Addr} (hr : H r = none) : r ∉ p :: D :: bs := fun m => by
  obtain ⟨xs, e⟩ := h.lists r m
  rw [hr] at e
  cases e
theorem Ph.mono (h : Ph c p D bs H n lD its lss) (s : Same H H') : Ph c p D bs H' n lD its lss :=
  ⟨h.pen.mono s, s _ _ h.eD, h.items.mono s, h.hs.mono s, h.Dp, h.Dc, h.pb, h.Db, h.cb⟩
theorem Ph.le (h : Ph c p D bs H n lD its lss) {m : Nat} (e : n ≤ m) : Ph c p D bs H m lD its lss := ⟨h.pen.le e, h.eD, h.items, h.hs, h.Dp, h.Dc, h.pb, h.Db, h.cb⟩
theorem Ph.draw (h : Ph c p D bs H n lD its lss) {m : Nat} (pn : PenAt c H' p m) (k : Keep p H H') : Ph c p D bs H' m lD its lss :=
  ⟨pn, k _ _ h.Dp h.eD, h.items.stay h.lists (Stay.keep List.mem_cons_self k), h.hs.stay (S := [p]) (fun a m => by rw [List.mem_singleton] at m; subst m; exact h.pen.at_) (fun b m e => by rw [List.mem_singleton] at e; subst e; exact h.pb m) (Stay.keep List.mem_cons_self k), h.Dp, h.Dc, h.pb, h.Db, h.cb⟩
theorem Ph.app (h : Ph c p D bs H n lD its lss) {v : V} {it : It} (hi : ItemAt (p :: D :: bs) H v it) : Ph c p D bs (upd H D (.lst (lD ++ [v]))) n (lD ++ [v]) (its ++ [it]) lss where
  pen := h.pen.other h.Dp h.Dc
  eD := upd_same
  items := by
    have s : Stay (p :: D :: bs) H (upd H D (.lst (lD ++ [v]))) := Stay.upd (List.mem_cons_of_mem _ List.mem_cons_self)
    exact Paired.snoc (h.items.stay h.lists s) (hi.stay h.lists s)
  hs := h.hs.stay (S := [D]) (fun a m => by rw [List.mem_singleton] at m; subst m; exact ⟨_, h.eD⟩) (fun b m e => by rw [List.mem_singleton] at e; subst e; exact h.Db m) (Stay.upd List.mem_cons_self)
  Dp := h.Dp
  Dc := h.Dc
  pb := h.pb
  Db := h.Db
  cb := h.cb
theorem Ph.put (h : Ph c p D bs H n lD its lss) {d : Nat} {b t : Addr} {ls : List (List V)} {ys : List V} {l : List V} (e1 : bs[d]? = some b) (e2 : lss[d]? = some ls) (hb : H b = some (.lst ys)) (hr : RowsAt H ys ls) (ht : H t = some (.tup l)) :
    Ph c p D bs (upd H b (.lst (ys ++ [.ref t]))) n lD its (lss.set d (ls ++ [l])) := by
  have bm := List.mem_of_getElem? e1
  have nbp : b ≠ p := fun e => h.pb (by rw [← e]; exact bm)
  have nbc : b ≠ c := fun e => h.cb (by rw [← e]; exact bm)
  have nDb : D ≠ b := fun e => h.Db (by rw [e]; exact bm)
  have s : Stay (p :: D :: bs) H (upd H b (.lst (ys ++ [.ref t]))) := Stay.upd (List.mem_cons_of_mem _ (List.mem_cons_of_mem _ bm))
  exact ⟨h.pen.other nbp nbc, by rw [upd_ne nDb]; exact h.eD, h.items.stay h.lists s, h.hs.put e1 e2 hb hr ht, h.Dp, h.Dc, h.pb, h.Db, h.cb⟩
theorem Ph.get (h : Ph c p D bs H n lD its lss) {d : Nat} (hd : d < lss.length) : ∃ b ls ys, bs[d]? = some b ∧ lss[d]? = some ls ∧ H b = some (.lst ys) ∧ RowsAt H ys ls := by
  have h1 : d < bs.length := by rw [h.hs.1]; exact hd
  obtain ⟨ys, e1, e2⟩ := h.hs.2.2 d _ _ (List.getElem?_eq_getElem h1) (List.getElem?_eq_getElem hd)
  exact ⟨_, _, ys, List.getElem?_eq_getElem h1, List.getElem?_eq_getElem hd, e1, e2⟩
theorem HeapsAt.new {q : Addr} (h : HeapsAt H bs lss) (hq : H q = none) : HeapsAt (upd H q (.lst [])) (bs ++ [q]) (lss ++ [[]]) := by
  have s := Lay.Same.upd (o := .lst []) hq
  refine ⟨by rw [List.length_append, List.length_append, h.1]; rfl, List.nodup_append.mpr ⟨h.2.1, List.pairwise_singleton _ _, fun a ha b hb e => ?_⟩, fun i b ls e1 e2 => ?_⟩
  · rw [List.mem_singleton] at hb
    subst hb; subst e
    obtain ⟨xs, z⟩ := h.lists _ ha
    rw [hq] at z
    cases z
  · by_cases hi : i < bs.length
    · rw [List.getElem?_append_left hi] at e1
      rw [List.getElem?_append_left (by rw [← h.1]; exact hi)] at e2
      obtain ⟨ys, h1, h2⟩ := h.2.2 i b ls e1 e2
      exact ⟨ys, s _ _ h1, h2.mono s⟩
    · rw [List.getElem?_append_right (by omega)] at e1
      rw [List.getElem?_append_right (by rw [← h.1]; omega), ← h.1] at e2
      have z : i - bs.length = 0 := by
        cases hh : i - bs.length with
        | zero => rfl
        | succ k => rw [hh] at e1; simp at e1
      rw [z] at e1 e2
      have eb : q = b := by simpa using e1
      have el : ([] : List (List V)) = ls := by simpa using e2
      subst eb; subst el
      exact ⟨[], upd_same, .nil⟩
end
theorem two_le {m : Int} (k : Int) (h : k = 1 ∨ k = m) (h1 : 1 ≤ m) (h4 : m ≤ 4) : 1 ≤ k ∧ k ≤ 4 := by omega
theorem six_at {d : Int} (d0 : 0 ≤ d) (d1 : d < 6) : ∃ j : Nat, j ≤ 6 ∧ atI [V.int 0, V.int 1, V.int 2, V.int 3, V.int 3, V.int 6] d = some (.int (j : Nat)) := by
  obtain rfl | rfl | rfl | rfl | rfl | rfl : d = 0 ∨ d = 1 ∨ d = 2 ∨ d = 3 ∨ d = 4 ∨ d = 5 := by omega
  · exact ⟨0, by omega, rfl⟩
  · exact ⟨1, by omega, rfl⟩
  · exact ⟨2, by omega, rfl⟩
  · exact ⟨3, by omega, rfl⟩
  · exact ⟨3, by omega, rfl⟩
  · exact ⟨6, by omega, rfl⟩
end NetG
end
section
namespace Lay
open PySem PySem.Spec PyProof.Rows L2 Exv
/-! ### a text == any value; any value == itself -/
end Lay
namespace NetG
open PySem PySem.Spec PyProof.Rows Lay NetL Exv
open L2 hiding It
theorem pappend {α β : Type} {F : α → β → Prop} : ∀ {xs ys : List α} {as bs : List β}, Paired F xs as → Paired F ys bs → Paired F (xs ++ ys) (as ++ bs)
  | _, _, _, _, .nil, h => h
  | _, _, _, _, .cons r t, h => .cons r (pappend t h)
theorem ptake {α β : Type} {F : α → β → Prop} : ∀ {xs : List α} {as : List β} (n : Nat), Paired F xs as → Paired F (xs.take n) (as.take n)
  | _, _, 0, _ => by rw [List.take_zero, List.take_zero]; exact .nil
  | _, _, n + 1, .nil => .nil
  | _, _, n + 1, .cons r t => .cons r (ptake n t)
theorem pdrop {α β : Type} {F : α → β → Prop} : ∀ {xs : List α} {as : List β} (n : Nat), Paired F xs as → Paired F (xs.drop n) (as.drop n)
  | _, _, 0, h => h
  | _, _, n + 1, .nil => .nil
  | _, _, n + 1, .cons r t => pdrop n t
theorem name_inj {its : List It} (nd : (its.map It.nm).Nodup) {i j : Nat} {a b : It} (ha : its[i]? = some a) (hb : its[j]? = some b) (e : a.nm = b.nm) : i = j := by
  have h1 : (its.map It.nm)[i]? = some a.nm := by rw [List.getElem?_map, ha]; rfl
  have h2 : (its.map It.nm)[j]? = some a.nm := by rw [List.getElem?_map, hb, e]; rfl
  have tk : ∀ {i j : Nat} {z : Str}, (its.map It.nm)[i]? = some z → (its.map It.nm)[j]? = some z → i < j → False := fun {i j z} a1 a2 lt =>
    not_take nd a2 (List.mem_of_getElem? (by rw [List.getElem?_take, if_pos lt]; exact a1))
  rcases Nat.lt_trichotomy i j with lt | e | gt
  · exact (tk h1 h2 lt).elim
  · exact e
  · exact (tk h2 h1 gt).elim
def spShuf : Sp := fun vs H Q _ => ∃ (p : Addr) (n : Nat) (c a : Addr) (l : List V) (its : List It), vs = [.ref p, .ref a] ∧ PenAt c H p n ∧ n + 20 < 100000 ∧ H a = some (.lst l) ∧ a ≠ p ∧ ItemsAt [p] H l its ∧ its.length ≤ 13 ∧
  ∀ r l' its' H', H r = none → H' r = some (.lst l') → ItemsAt [p] H' l' its' → its'.Perm its → PenAt c H' p (n + 20) → Keep p H H' → Q (.ref r) H'
/-- a part that its class takes -/
def PartOk : It → Prop
  | .vr z s ats => nameOk z = true ∧ 1 ≤ s ∧ s ≤ 8 ∧ 1 ≤ ats.length ∧ ats.length ≤ 4 ∧ Gap s ats ∧ ∀ a ∈ ats, 0 ≤ a ∧ a + s ≤ 1024
  | .sg z t => nameOk z = true ∧ 0 ≤ t ∧ t ≤ 3
  | .ag z k ls => nameOk z = true ∧ 0 ≤ k ∧ k ≤ 2 ∧ 1 ≤ ls.length ∧ ls.length ≤ 24 ∧ ∀ l ∈ ls, GoodStep (wsK k) l
theorem GenOk.part {ring : Int} {its : List It} (h : GenOk ring its) : ∀ it ∈ its, PartOk it := fun it m => by
  have hn := h.good.ok it m
  cases it with
  | vr z s ats =>
    obtain ⟨h1, h2, h3, h4, _⟩ := h.good.vr z s ats m
    obtain ⟨g1, g2⟩ := h.var z s ats m
    exact ⟨hn, h1, h2, h3, h4, g1, fun a m => ⟨(g2 a m).1, by have := (g2 a m).2; omega⟩⟩
  | sg z t =>
    obtain ⟨h1, h2, _⟩ := h.good.sg z t m
    exact ⟨hn, h1, h2⟩
  | ag z k ls =>
    obtain ⟨h1, h2, h3, h4, h5⟩ := h.good.gs z k ls m
    exact ⟨hn, h1, h2, h3, h4, fun l lm => (h5 l lm).1⟩
end NetG
end
section
namespace NetG
open PySem PySem.Spec PyProof.Rows Lay NetL Exv
open L2 hiding It
/-- all but lists stays -/
def NL (H H' : Hp) : Prop := ∀ b o, (∀ xs, o ≠ HO.lst xs) → H b = some o → H' b = some o
theorem NL.refl {H : Hp} : NL H H := fun _ _ _ h => h
theorem NL.trans {H H' H'' : Hp} (h : NL H H') (g : NL H' H'') : NL H H'' := fun b o n e => g b o n (h b o n e)
theorem NL.of {H H' : Hp} (s : Same H H') : NL H H' := fun b o _ e => s b o e
theorem NL.upd {H : Hp} {D : Addr} {xs : List V} {o : HO} (h : H D = some (.lst xs)) : NL H (upd H D o) := fun b o' n e => by
  rw [upd_ne (fun z => by subst z; rw [h] at e; cases e; exact n xs rfl)]
  exact e
theorem NL.keep {H H' : Hp} {p : Addr} {xs : List V} (h : H p = some (.lst xs)) (k : Keep p H H') : NL H H' := fun b o n e => k b o (fun z => by subst z; rw [h] at e; cases e; exact n xs rfl) e
theorem NL.part {C : Cs} {H H' : Hp} (k : NL H H') {v : V} : ∀ {it : It}, PartAt C H v it → PartAt C H' v it
  | .vr _ _ _, ⟨x, e, dx, t, h1, h2⟩ => ⟨x, e, dx, t, k _ _ (fun _ z => nomatch z) h1, k _ _ (fun _ z => nomatch z) h2⟩
  | .sg _ _, ⟨x, e, dx, h1⟩ => ⟨x, e, dx, k _ _ (fun _ z => nomatch z) h1⟩
  | .ag _ _ _, ⟨x, e, dx, t, xs, h1, h2, h3⟩ => ⟨x, e, dx, t, xs, k _ _ (fun _ z => nomatch z) h1, k _ _ (fun _ z => nomatch z) h2, h3.same fun b l e => k _ _ (fun _ z => nomatch z) e⟩
theorem NL.parts {C : Cs} {H H' : Hp} (k : NL H H') {vs : List V} {its : List It} (h : PartsAt C H vs its) : PartsAt C H' vs its := Paired.mono (fun _ _ => NL.part k) h
end NetG
end
section
namespace NetG
open PySem PySem.Spec PyProof.Rows Lay NetL Exv
open L2 hiding It
/-! ### places, steps, bytes of steps -/
/-- the step at a place of good parts -/
def StepOf (its : List It) (a s : Nat) (l : List V) : Prop := ∃ z k ls, (its.filter It.isA)[a]? = some (.ag z k ls) ∧ ls[s]? = some l
/-- the bytes that a step touches -/
def Touch (its : List It) (l : List V) (n : Int) (bs : List Int) : Prop :=
  (l.length = 2 ∧ bs = []) ∨ ∃ w nm sh f e s ats at0, l = [.str w, .str nm, .int sh, .int f, .int e] ∧ It.vr nm s ats ∈ its ∧ 0 ≤ f ∧ f ≤ e ∧ e < s ∧ s ≤ 8 ∧ ats[((n + sh) % (ats.length : Int)).toNat]? = some at0 ∧ bs = row (e - f + 1).toNat (at0 + f)
theorem Touch.len {its : List It} {l : List V} {n : Int} {bs : List Int} (h : Touch its l n bs) : bs.length ≤ 8 := by
  rcases h with ⟨_, rfl⟩ | ⟨w, nm, sh, f, e, s, ats, at0, _, _, h1, h2, h3, h4, _, rfl⟩
  · exact Nat.zero_le _
  · rw [row_len]; omega
theorem StepOf.mem {its : List It} {a s : Nat} {l : List V} (h : StepOf its a s l) : ∃ z k ls, It.ag z k ls ∈ its ∧ l ∈ ls ∧ s < ls.length := by
  obtain ⟨z, k, ls, h1, h2⟩ := h
  exact ⟨z, k, ls, (List.mem_filter.mp (List.mem_of_getElem? h1)).1, List.mem_of_getElem? h2, (List.getElem?_eq_some_iff.mp h2).1⟩
/-- one variable of a name -/
theorem var_one {ring : Int} {its : List It} (g : NetL.Good ring its) {n : Str} {s s' : Int} {ats ats' : List Int} (h : It.vr n s ats ∈ its) (h' : It.vr n s' ats' ∈ its) : s = s' ∧ ats = ats' := by
  obtain ⟨i, hi, ei⟩ := List.getElem_of_mem h
  obtain ⟨j, hj, ej⟩ := List.getElem_of_mem h'
  have e1 : its[i]? = some (.vr n s ats) := by rw [List.getElem?_eq_getElem hi, ei]
  have e2 : its[j]? = some (.vr n s' ats') := by rw [List.getElem?_eq_getElem hj, ej]
  have ij := name_inj g.nd e1 e2 rfl
  subst ij
  rw [e1] at e2
  cases e2
  exact ⟨rfl, rfl⟩
theorem Touch.one {ring : Int} {its : List It} (g : NetL.Good ring its) {l : List V} {n m : Int} {bs bs' : List Int} (h : Touch its l n bs) (h' : Touch its l m bs') (e : ∀ k : Int, k = 1 ∨ k = ring → (n - m) % k = 0) : bs = bs' := by
  rcases h with ⟨l1, rfl⟩ | ⟨w, nm, sh, f, ee, s, ats, at0, rfl, h1, h2, h3, h4, h5, h6, rfl⟩
  · rcases h' with ⟨_, rfl⟩ | ⟨w, nm, sh, f, ee, s, ats, at0, rfl, _⟩
    · rfl
    · cases l1
  · rcases h' with ⟨l1, _⟩ | ⟨w', nm', sh', f', e', s', ats', at1, el, g1, g2, g3, g4, g5, g6, rfl⟩
    · cases l1
    · cases el
      obtain ⟨_, ea⟩ := var_one g h1 g1
      subst ea
      have vl := (g.vr _ _ _ h1).2.2.2.2
      have e0 := e ats.length vl
      have ee : (n + sh) % (ats.length : Int) = (m + sh) % (ats.length : Int) := by
        refine Int.emod_eq_emod_iff_emod_sub_eq_zero.mpr ?_
        rw [show (n + sh) - (m + sh) = n - m by omega]
        exact e0
      rw [ee] at h6
      rw [h6] at g6
      cases g6
      rfl
end NetG
end
section
namespace PySem
end PySem
namespace Lay
open PySem PySem.Spec PyProof.Rows L2 Exv Grd
/-! ### values of fields: data without dicts, or the dict of one text to a number -/
structure OkD (d : PyData) : Prop where
  lay : d.canLay0 = true
  deep : d.depth ≤ 8
  show_ : d.showable = true
  len : d.shown.length ≤ 1000
/-- a field's value at a heap -/
inductive Fv (K : PySem.W.Frag) (H : Hp) : V → PyData → Prop
  | of {v : V} {d : PyData} : Dp K H v d → OkD d → Fv K H v d
  | dct {a : Addr} {i : Int} : H a = some (.dK [(.inr "a", .int i)]) → 0 ≤ i → i ≤ 9 → Fv K H (.ref a) (.dict [(.str "a", .int i)])
def eqX : PyData → PyData → Bool
  | .dict [(_, .int i)], .dict [(_, .int j)] => i == j
  | d, e => PyData.eqv d e
theorem eqX_of {K : PySem.W.Frag} {H : Hp} {v : V} {d e : PyData} (h : Dp K H v d) : eqX d e = PyData.eqv d e := by
  cases h <;> rfl
theorem Fv.self {K : PySem.W.Frag} {H : Hp} {v : V} {d : PyData} (h : Fv K H v d) : eqX d d = true := by
  cases h with
  | of h o => rw [eqX_of h]; exact PySem.SeqAt.eqv_refl d o.lay
  | dct h h0 h1 => exact beq_self_eq_true _
section
variable {X : Cx} {pins : List (Addr × Obj)} {σ : L2.St} {H : Hp} {s : Shared} {A : Around}
/-- rows of such values -/
def Fvs (K : PySem.W.Frag) (H : Hp) (vs : List V) (ds : List PyData) : Prop := Paired (Fv K H) vs ds
theorem Fvs.get {K : PySem.W.Frag} {H : Hp} {vs : List V} {ds : List PyData} (h : Fvs K H vs ds) : ∀ {i : Nat} {v : V}, vs[i]? = some v → ∃ d, ds[i]? = some d ∧ Fv K H v d := by
  induction h with
  | nil => intro i v e; simp at e
  | cons r t ih =>
    intro i v e
    cases i with
    | zero => simp at e; subst e; exact ⟨_, rfl, r⟩
    | succ i => exact ih (by simpa using e)
/-! ### such a list shown -/
theorem dct_ok {i : Int} (h0 : 0 ≤ i) (h1 : i ≤ 9) : (PyData.dict [(.str "a", .int i)]).showable = true ∧ (PyData.dict [(.str "a", .int i)]).shown.length ≤ 1000 ∧ (PyData.dict [(.str "a", .int i)]).depth ≤ 8 := by
  obtain rfl | rfl | rfl | rfl | rfl | rfl | rfl | rfl | rfl | rfl : i = 0 ∨ i = 1 ∨ i = 2 ∨ i = 3 ∨ i = 4 ∨ i = 5 ∨ i = 6 ∨ i = 7 ∨ i = 8 ∨ i = 9 := by omega
  all_goals exact ⟨by decide +kernel, by decide +kernel, by decide +kernel⟩
theorem Fv.ok {K : PySem.W.Frag} {H : Hp} {v : V} {d : PyData} (h : Fv K H v d) : d.showable = true ∧ d.shown.length ≤ 1000 ∧ d.depth ≤ 8 := by
  cases h with
  | of _ o => exact ⟨o.show_, o.len, o.deep⟩
  | dct _ h0 h1 => exact dct_ok h0 h1
theorem Fv.reads {v : V} {u : Value} {d : PyData} (I : Inv X pins σ H s) (r : RelV v u) (h : Fv X.K H v d) : ∃ as, Reads s.heap u d as ∧ (d.hasDict = true → sysModules ∉ as) := by
  cases h with
  | of h o =>
    obtain ⟨as, rd⟩ := Dp.reads I _ _ _ h r
    exact ⟨as, rd, PyData.noDict_hsm (noDict _ _ h)⟩
  | dct h _ _ =>
    cases r
    obtain ⟨_, hsy, vs, rkv, o, es, ep, e1, e2, e3, _, e5, _⟩ := I.hok _ _ h
    obtain ⟨r1, r2⟩ := reads_pairs (h := s.heap) (fun kv m => by rw [List.mem_singleton] at m; subst m; rfl) rkv e5
    refine ⟨_, Reads.dict e1 e2.1 e3 r1 r2, fun _ m => ?_⟩
    rcases List.mem_append.mp m with m | m
    · rcases List.mem_cons.mp m with m | m
      · rw [← m] at hsy; exact absurd hsy (by decide)
      · cases m
    · cases m
end
end Lay
end
section
namespace OwnC
open PySem L2 PySem.Spec PyProof.Rows
/-- the type of a value, dicts too -/
inductive KTy2 (K : PySem.W.Frag) (H : Hp) : V → Value → Prop
  | old {y : V} {T : Value} (h : KTy K H y T) : KTy2 K H y T
  | dk {a : Addr} {kvs : List (Key × V)} (h : H a = some (.dK kvs)) : KTy2 K H (.ref a) (.type "dict")
end OwnC
namespace Lay
open PySem PySem.Spec PyProof.Rows L2 Exv Grd
/-! ### findings -/
def fldF (w : Str) (ns : List Str) (vs : List V) : List (Str × V) := ("word", .str w) :: ns.zip vs
/-- a finding of the class C -/
def Fin (C : Addr) (w : Str) (ns : List Str) (H : Hp) (a : Addr) (vs : List V) : Prop := (∃ dx, H a = some (.ins C dx (fldF w ns vs))) ∧ vs.length = ns.length
theorem Fin.mono {C : Addr} {w : Str} {ns : List Str} {H H' : Hp} {a : Addr} {vs : List V} (s : Same H H') (h : Fin C w ns H a vs) : Fin C w ns H' a vs := ⟨⟨_, s _ _ h.1.choose_spec⟩, h.2⟩
theorem Fin.keep {C p : Addr} {w : Str} {ns : List Str} {H H' : Hp} {a : Addr} {vs : List V} {xs : List V} (hp : H p = some (.lst xs)) (s : Keep p H H') (h : Fin C w ns H a vs) : Fin C w ns H' a vs := by
  obtain ⟨⟨dx, h1⟩, h2⟩ := h
  exact ⟨⟨dx, s _ _ (fun e => by subst e; rw [hp] at h1; cases h1) h1⟩, h2⟩
def c4 (a b c d : Addr) (k : Int) : Addr := if k = 0 then a else if k = 1 then b else if k = 2 then c else d
def manyK (k : Int) : Nat := if k = 0 then 1 else if k = 1 then 3 else if k = 2 then 3 else 4
theorem k4 {k : Int} (h0 : 0 ≤ k) (h1 : k ≤ 3) : k = 0 ∨ k = 1 ∨ k = 2 ∨ k = 3 := by omega
theorem many_le {k : Int} (h0 : 0 ≤ k) (h1 : k ≤ 3) : 1 ≤ manyK k ∧ manyK k ≤ 4 := by
  rcases k4 h0 h1 with rfl | rfl | rfl | rfl <;> decide
/-- a value drawn, with nothing at p -/
def FX (K : PySem.W.Frag) (p : Addr) (H : Hp) (v : V) (d : PyData) : Prop := ∀ H', Keep p H H' → Fv K H' v d
theorem FX.keep {K : PySem.W.Frag} {p : Addr} {H H' : Hp} {v : V} {d : PyData} (s : Keep p H H') (h : FX K p H v d) : FX K p H' v d := fun H2 s2 => h H2 (s.trans s2)
theorem FX.mono {K : PySem.W.Frag} {p : Addr} {H H' : Hp} {v : V} {d : PyData} (s : Same H H') (h : FX K p H v d) : FX K p H' v d := h.keep (Keep.of s)
def FXs (K : PySem.W.Frag) (p : Addr) (H : Hp) (vs : List V) (ds : List PyData) : Prop := Paired (FX K p H) vs ds
theorem FXs.keep {K : PySem.W.Frag} {p : Addr} {H H' : Hp} {vs : List V} {ds : List PyData} (s : Keep p H H') (h : FXs K p H vs ds) : FXs K p H' vs ds := L2.Paired.mapP h fun _ _ x => x.keep s
theorem FXs.mono {K : PySem.W.Frag} {p : Addr} {H H' : Hp} {vs : List V} {ds : List PyData} (s : Same H H') (h : FXs K p H vs ds) : FXs K p H' vs ds := h.keep (Keep.of s)
/-- the same with nothing at p and at D -/
def FY (K : PySem.W.Frag) (p D : Addr) (H : Hp) (v : V) (d : PyData) : Prop := ∀ H'' : Hp, (∀ b o, b ≠ p → b ≠ D → H b = some o → H'' b = some o) → Fv K H'' v d
theorem FY.go {K : PySem.W.Frag} {p D : Addr} {H H' : Hp} {v : V} {d : PyData} (h : FY K p D H v d) (s : ∀ b o, b ≠ p → b ≠ D → H b = some o → H' b = some o) : FY K p D H' v d := fun H2 s2 => h H2 fun b o n1 n2 e => s2 b o n1 n2 (s b o n1 n2 e)
end Lay
end
section
namespace Lay
open PySem PySem.Spec PyProof.Rows L2 Exv Grd
def prims : List String := ["NoneType", "bool", "int", "str", "list", "tuple", "dict"]
theorem sqL_ty {K : PySem.W.Frag} {H : Hp} {a : Addr} {xs : List V} (h : SqL K H a xs) : TyX K H (.ref a) (.type "list") := by
  rcases h with (h | ⟨o, h⟩) | ⟨o, its, n, hk, hc, _⟩
  · exact .base (.lst h)
  · exact .base (.frz h)
  · exact .kList hk hc
theorem sqT_ty {K : PySem.W.Frag} {H : Hp} {a : Addr} {xs : List V} (h : SqT K H a xs) : TyX K H (.ref a) (.type "tuple") := by
  rcases h with (h | ⟨o, h⟩) | ⟨o, its, n, hk, hc, _⟩
  · exact .base (.tup h)
  · exact .fTuple h
  · exact .kTuple hk hc
/-- of which type a value is, as isinstance and as == ask -/
def TyP (K : PySem.W.Frag) (H : Hp) (v : V) : Prop := ∃ p, p ∈ prims ∧ OwnC.KTy2 K H v (.type p) ∧ TyX K H v (.type p)
theorem Fv.ty {K : PySem.W.Frag} {H : Hp} {v : V} {d : PyData} (h : Fv K H v d) : TyP K H v := by
  cases h with
  | of h _ =>
    cases h with
    | non => exact ⟨"NoneType", by decide, .old .non, .base .non⟩
    | bl b => exact ⟨"bool", by decide, .old (.bl b), .base (.bl b)⟩
    | int i => exact ⟨"int", by decide, .old (.int i), .base (.int i)⟩
    | str z => exact ⟨"str", by decide, .old (.str z), .base (.str z)⟩
    | lst hs _ => exact ⟨"list", by decide, .old (.lst hs), sqL_ty hs⟩
    | tup hs _ => exact ⟨"tuple", by decide, .old (.tup hs), sqT_ty hs⟩
  | dct h _ _ => exact ⟨"dict", by decide, .dk h, .base (.dK h)⟩
def normD (d : PyData) : PyData := match d with | .bool b => .int (if b then 1 else 0) | d => d
theorem Fv.same {K : PySem.W.Frag} {H : Hp} {v : V} {d : PyData} (h : Fv K H v d) : eqX d (normD d) = true := by
  have z := h.self
  cases h with
  | of h o =>
    cases h with
    | bl b => cases b <;> (show PyData.eqv _ _ = true; simp [PyData.eqv, normD])
    | _ => exact z
  | dct h h0 h1 => exact z
end Lay
end
section
namespace NetL
open PySem L2 Lay
instance decIt : DecidableEq NetL.It
  | .vr z s a, .vr z' s' a' => decidable_of_iff (z = z' ∧ s = s' ∧ a = a') (by rw [NetL.It.vr.injEq])
  | .sg z t, .sg z' t' => decidable_of_iff (z = z' ∧ t = t') (by rw [NetL.It.sg.injEq])
  | .ag z k l, .ag z' k' l' => decidable_of_iff (z = z' ∧ k = k' ∧ l = l') (by rw [NetL.It.ag.injEq])
  | .vr _ _ _, .sg _ _ => isFalse fun h => by cases h
  | .vr _ _ _, .ag _ _ _ => isFalse fun h => by cases h
  | .sg _ _, .vr _ _ _ => isFalse fun h => by cases h
  | .sg _ _, .ag _ _ _ => isFalse fun h => by cases h
  | .ag _ _ _, .vr _ _ _ => isFalse fun h => by cases h
  | .ag _ _ _, .sg _ _ => isFalse fun h => by cases h
end NetL
namespace NetG
open PySem PySem.Spec PyProof.Rows Lay NetL Exv
open L2 hiding It
/-! ### own == of parts, yes or no -/
end NetG
end
section
namespace NetG
open PySem PySem.Spec PyProof.Rows Lay NetL Exv
open L2 hiding It
end NetG
end
section
namespace NetG
open PySem PySem.Spec PyProof.Rows Lay NetL Exv
open L2 hiding It
/-! ### k08: parts by their words, changed parts -/
def kwf (w : Str) : It → Bool
  | .vr _ _ _ => decide (("var" : Str) = w)
  | .sg _ _ => decide (("sig" : Str) = w)
  | .ag _ _ _ => decide (("agent" : Str) = w)
theorem item_kw {S : List Addr} {H : Hp} {v : V} : ∀ {it : It}, ItemAt S H v it → ∃ (a : Addr) (kk : Str) (rest : List V), v = .ref a ∧ H a = some (.tup (V.str kk :: V.str it.nm :: rest)) ∧ ∀ w, decide (kk = w) = kwf w it
  | .vr _ _ _, ⟨a, b, e, h1, _⟩ => ⟨a, _, _, e, h1, fun _ => rfl⟩
  | .sg _ _, ⟨a, e, h1⟩ => ⟨a, _, _, e, h1, fun _ => rfl⟩
  | .ag _ _ _, ⟨a, b, ys, e, h1, _⟩ => ⟨a, _, _, e, h1, fun _ => rfl⟩
end NetG
end
section
namespace NetG
open PySem PySem.Spec PyProof.Rows Lay NetL Exv
open L2 hiding It
/-! ### what a part tells, as data -/
/-- data that stays while a list at D grows -/
def DK (K : PySem.W.Frag) (D : Addr) (H : Hp) (v : V) (d : PyData) : Prop := ∀ H', Keep D H H' → Dp K H' v d
def DKs (K : PySem.W.Frag) (D : Addr) (H : Hp) (vs : List V) (ds : List PyData) : Prop := ∀ H', Keep D H H' → DpAll K H' vs ds
theorem dp_snoc {K : PySem.W.Frag} {H : Hp} {v : V} {d : PyData} : ∀ {vs : List V} {ds : List PyData}, DpAll K H vs ds → Dp K H v d → DpAll K H (vs ++ [v]) (ds ++ [d])
  | _, _, .nil, h => .cons h .nil
  | _, _, .cons a b, h => .cons a (dp_snoc b h)
theorem DKs.nil {K : PySem.W.Frag} {D : Addr} {H : Hp} : DKs K D H [] [] := fun _ _ => .nil
theorem DKs.snoc {K : PySem.W.Frag} {D : Addr} {H : Hp} {vs : List V} {ds : List PyData} {v : V} {d : PyData} (h : DKs K D H vs ds) (g : DK K D H v d) : DKs K D H (vs ++ [v]) (ds ++ [d]) := fun H' k => dp_snoc (h H' k) (g H' k)
theorem DKs.keep {K : PySem.W.Frag} {D : Addr} {H H' : Hp} {vs : List V} {ds : List PyData} (k : Keep D H H') (h : DKs K D H vs ds) : DKs K D H' vs ds := fun H2 k2 => h H2 (k.trans k2)
end NetG
end
section
namespace NetG
open PySem PySem.Spec PyProof.Rows Lay NetL Exv
open L2 hiding It
/-! ### a good net with one part otherwise -/
end NetG
end
section
namespace NetG
open PySem PySem.Spec PyProof.Rows Lay NetL Exv
open L2 hiding It
end NetG
end
section
namespace NetG
open PySem PySem.Spec PyProof.Rows Lay NetL Exv
open L2 hiding It
end NetG
end
section
namespace NetG
open PySem PySem.Spec PyProof.Rows Lay NetL Exv
open L2 hiding It
end NetG
end
section
namespace NetG
open PySem PySem.Spec PyProof.Rows Lay NetL Exv
open L2 hiding It
/-! ### whole items as data -/
end NetG
end
section
namespace NetG
open PySem PySem.Spec PyProof.Rows Lay NetL Exv
open L2 hiding It
end NetG
namespace NetG
open PySem PySem.Spec PyProof.Rows Lay NetL Exv
open L2 hiding It
end NetG
namespace NetG
open PySem PySem.Spec PyProof.Rows Lay NetL Exv
open L2 hiding It
theorem three_perm : ∀ its : List It, (its.filter It.isA ++ its.filter It.isS ++ its.filter It.isV).Perm its
  | [] => List.Perm.refl _
  | .vr z s a :: l => by
    rw [List.filter_cons_of_neg (by intro z; cases z), List.filter_cons_of_neg (by intro z; cases z), List.filter_cons_of_pos rfl]
    exact List.perm_middle.trans ((three_perm l).cons _)
  | .sg z t :: l => by
    rw [List.filter_cons_of_neg (by intro z; cases z), List.filter_cons_of_pos rfl, List.filter_cons_of_neg (by intro z; cases z), List.append_assoc]
    refine List.perm_middle.trans (List.Perm.cons _ ?_)
    have z := three_perm l
    rw [List.append_assoc] at z
    exact z
  | .ag z k ls :: l => by
    rw [List.filter_cons_of_pos rfl, List.filter_cons_of_neg (by intro z; cases z), List.filter_cons_of_neg (by intro z; cases z)]
    exact (three_perm l).cons _
end NetG
end
section
namespace NetG
open PySem PySem.Spec PyProof.Rows Lay NetL Exv
open L2 hiding It
/-- a list of the parts of one word -/
def kAt (S : List Addr) (its : List It) (H : Hp) (v : V) (w : Str) : Prop := ∃ a ll, v = .ref a ∧ H a = some (.lst ll) ∧ a ∉ S ∧ ItemsAt S H ll (its.filter (kwf w))
theorem kAt.stay {S : List Addr} {its : List It} {H H' : Hp} {v : V} {w : Str} (h : Lists S H) (s : Stay S H H') (k : kAt S its H v w) : kAt S its H' v w := by
  obtain ⟨a, ll, e, ha, hn, it⟩ := k
  exact ⟨a, ll, e, s _ _ hn ha, hn, it.stay h s⟩
theorem kAt.mono {S : List Addr} {its : List It} {H H' : Hp} {v : V} {w : Str} (s : Same H H') (k : kAt S its H v w) : kAt S its H' v w := by
  obtain ⟨a, ll, e, ha, hn, it⟩ := k
  exact ⟨a, ll, e, s _ _ ha, hn, it.mono s⟩
theorem width_at {d : Int} (h0 : 0 ≤ d) (h5 : d < 5) : ∃ w : Int, atI ([1, 2, 4, 8, 16].map V.int) d = some (.int w) ∧ lineOk w := by
  obtain rfl | rfl | rfl | rfl | rfl : d = 0 ∨ d = 1 ∨ d = 2 ∨ d = 3 ∨ d = 4 := by omega
  · exact ⟨1, rfl, by show (1 : Int) ∈ _; decide⟩
  · exact ⟨2, rfl, by show (2 : Int) ∈ _; decide⟩
  · exact ⟨4, rfl, by show (4 : Int) ∈ _; decide⟩
  · exact ⟨8, rfl, by show (8 : Int) ∈ _; decide⟩
  · exact ⟨16, rfl, by show (16 : Int) ∈ _; decide⟩
end NetG
namespace NetG
open PySem PySem.Spec PyProof.Rows Lay NetL Exv
open L2 hiding It
theorem rd_catS {l b : Addr} {xs zs : List V} {H : Hp} {Q : VK} (hl : H l = some (.lst xs)) (hb : H b = some (.lst zs)) (hz : xs.length + zs.length ≤ sizeLine) (q : ∀ p H', Same H H' → H' p = some (.lst (xs ++ zs)) → Q (.ref p) H') : rCat (.ref l) (.ref b) H Q :=
  Lay.rd_cat hl hb hz fun p hp => q p _ (Lay.Same.upd hp) upd_same
theorem rd_slDS {K : PySem.W.Frag} {a : Addr} {xs : List V} {H : Hp} {Q : VK} (h : SqL K H a xs) (hk : 1 ≤ xs.length) (q : ∀ p H', Same H H' → H' p = some (.lst (xs.drop 1)) → Q (.ref p) H') : rSlL K (.ref a) (some 1) none H Q :=
  Lay.rd_slD h hk fun p hp => q p _ (Lay.Same.upd hp) upd_same
end NetG
end
section
/-! Net7: which clause a net breaks first (k07) -/
namespace Net7
open PySem PySem.Spec PyProof.Rows Lay NetL NetG Exv
open L2 hiding It
theorem find_hit {P : Nat → Bool} : ∀ {n i : Nat}, (∀ k < i, P k = false) → P i = true → i < n → (List.range n).find? P = some i
  | 0, i, _, _, hi => absurd hi (Nat.not_lt_zero i)
  | n + 1, i, h, e, hi => by
    rw [List.range_succ, List.find?_append]
    by_cases hn : i = n
    · subst hn
      have z : (List.range i).find? P = none := List.find?_eq_none.mpr fun k m => by rw [h k (List.mem_range.mp m)]; decide
      rw [z]
      simp [e]
    · rw [find_hit (n := n) h e (by omega)]
      rfl
theorem find_no {P : Nat → Bool} {n : Nat} (h : ∀ k < n, P k = false) : (List.range n).find? P = none := List.find?_eq_none.mpr fun k m => by rw [h k (List.mem_range.mp m)]; decide
theorem find_none {P : Nat → Bool} {n : Nat} (h : (List.range n).find? P = none) : ∀ k < n, P k = false := fun k hk => by
  have z := List.find?_eq_none.mp h k (List.mem_range.mpr hk)
  exact Bool.eq_false_iff.mpr z
/-- decent parts -/
structure Dec (its : List It) : Prop where
  ok : ∀ it ∈ its, PartOk it
  len : its.length ≤ 30
theorem part_nm {it : It} (h : PartOk it) : nameOk it.nm = true := by
  cases it with
  | vr z s a => exact h.1
  | sg z t => exact h.1
  | ag z k ls => exact h.1
def hMany (its : List It) (k : Nat) : Bool := decide (4 < ((its.take (k + 1)).filter It.isA).length) || (decide (6 < ((its.take (k + 1)).filter It.isV).length) || decide (6 < ((its.take (k + 1)).filter It.isS).length))
def hName (its : List It) (k : Nat) : Bool := match its[k]? with | some it => decide (it.nm ∈ (its.take k).map It.nm) | none => false
def hSlots (ring : Int) (its : List It) (k : Nat) : Bool := match its[k]? with | some (.vr _ _ ats) => !decide ((ats.length : Int) ∈ ([1, ring] : List Int)) | _ => false
def hBytes (its : List It) (k : Nat) : Bool := match its[k]? with | some (.vr z s ats) => (It.vr z s ats).bytes.any (fun b => decide (b ∈ (its.take k).flatMap It.bytes)) | _ => false
/-- a step fits the variables and signals of the net -/
def fitsB (its : List It) (l : List V) : Bool := match l with
  | [.str _, .str n] => (sigs its).contains n
  | [.str _, .str n, .int _, .int _, .int e] => (match valV (sizes its) (.inr n) with | some (.int sz) => decide (e < sz) | _ => false)
  | _ => true
def hStep (ls : List (List V)) (its : List It) (s : Nat) : Bool := match ls[s]? with | some l => !fitsB its l | none => false
def hAgent (its : List It) (a : Nat) : Option Nat := match (its.filter It.isA)[a]? with | some (.ag _ _ ls) => (List.range ls.length).find? (hStep ls its) | _ => none
def hSig (its : List It) (k : Nat) : Bool := match its[k]? with
  | some (.sg z _) => decide ((steps its).count [V.str "post", .str z] ≠ 1) || decide ((steps its).count [V.str "wait", .str z] ≠ 1)
  | _ => false
def wMany (its : List It) : Option Nat := (List.range its.length).find? (hMany its)
def wName (its : List It) : Option Nat := (List.range its.length).find? (hName its)
def wSlots (ring : Int) (its : List It) : Option Nat := (List.range its.length).find? (hSlots ring its)
def wBytes (its : List It) : Option Nat := (List.range its.length).find? (hBytes its)
def wAgent (its : List It) : Option Nat := (List.range (its.filter It.isA).length).find? fun a => (hAgent its a).isSome
def wSig (its : List It) : Option Nat := (List.range its.length).find? (hSig its)
/-- where -/
inductive Pl where
  | no
  | at (k : Nat)
  | two (a s : Nat)
def wStep (its : List It) : Option Pl := (wAgent its).map fun a => .two a ((hAgent its a).getD 0)
def orE {α : Type} (o : Option α) (f : α → Str × Pl) (r : Option (Str × Pl)) : Option (Str × Pl) := match o with
  | some k => some (f k)
  | none => r
def why (ring : Int) (its : List It) : Option (Str × Pl) :=
  orE (wMany its) (fun k => ("many", .at k)) (orE (wName its) (fun k => ("name", .at k)) (orE (wSlots ring its) (fun k => ("slots", .at k))
    (orE (wBytes its) (fun k => ("bytes", .at k)) (orE (wStep its) (fun p => ("step", p)) (orE (wSig its) (fun k => ("signal", .at k)) none)))))
structure NoWhy (ring : Int) (its : List It) : Prop where
  many : wMany its = none
  name : wName its = none
  slots : wSlots ring its = none
  bytes : wBytes its = none
  step : wAgent its = none
  sig : wSig its = none
theorem noWhy {ring : Int} {its : List It} (h : why ring its = none) : NoWhy ring its := by
  unfold why at h
  cases e1 : wMany its with
  | some k => rw [e1] at h; cases h
  | none =>
  cases e2 : wName its with
  | some k => rw [e1, e2] at h; cases h
  | none =>
  cases e3 : wSlots ring its with
  | some k => rw [e1, e2, e3] at h; cases h
  | none =>
  cases e4 : wBytes its with
  | some k => rw [e1, e2, e3, e4] at h; cases h
  | none =>
  cases e5 : wAgent its with
  | some k => unfold wStep at h; rw [e1, e2, e3, e4, e5] at h; cases h
  | none =>
  cases e6 : wSig its with
  | some k => unfold wStep at h; rw [e1, e2, e3, e4, e5, e6] at h; cases h
  | none => exact ⟨e1, e2, e3, e4, e5, e6⟩
theorem nd_of {its : List It} (h : wName its = none) : (its.map It.nm).Nodup := by
  have z := find_none h
  refine List.pairwise_iff_getElem.mpr fun i j hi hj hij e => ?_
  rw [List.length_map] at hi hj
  have zj := z j hj
  have ej : its[j]? = some its[j] := List.getElem?_eq_getElem hj
  unfold hName at zj
  rw [ej] at zj
  have zj' : its[j].nm ∉ (its.take j).map It.nm := of_decide_eq_false zj
  rw [List.getElem_map, List.getElem_map] at e
  refine zj' ?_
  rw [← e]
  refine List.mem_map.mpr ⟨its[i], ?_, rfl⟩
  exact List.mem_of_getElem? (i := i) (by rw [List.getElem?_take_of_lt hij]; exact List.getElem?_eq_getElem (by omega))
end Net7
end
section
namespace Net7
open PySem PySem.Spec PyProof.Rows Lay NetL NetG Exv
open L2 hiding It
theorem sizes_some {n : Str} {v : V} : ∀ {its : List It}, valV (sizes its) (.inr n) = some v → ∃ s ats, v = .int s ∧ It.vr n s ats ∈ its
  | [], h => by cases h
  | .vr z s a :: l, h => by
    by_cases e : z = n
    · subst e
      have z1 : valV (((.inr z : Key), V.int s) :: sizes l) (.inr z) = some (.int s) := valV_pos (p := ((.inr z : Key), V.int s)) rfl
      have h' : valV (((.inr z : Key), V.int s) :: sizes l) (.inr z) = some v := h
      rw [z1] at h'
      exact ⟨s, a, (Option.some.inj h').symm, List.mem_cons_self⟩
    · have ne : ¬ ((.inr z : Key) = .inr n) := fun y => e (by injection y)
      have h' : valV (((.inr z : Key), V.int s) :: sizes l) (.inr n) = some v := h
      rw [valV_neg (p := ((.inr z : Key), V.int s)) ne] at h'
      obtain ⟨s', ats, e1, m⟩ := sizes_some h'
      exact ⟨s', ats, e1, List.mem_cons_of_mem _ m⟩
  | .sg z t :: l, h => by
    obtain ⟨s', ats, e1, m⟩ := sizes_some (its := l) h
    exact ⟨s', ats, e1, List.mem_cons_of_mem _ m⟩
  | .ag z k ls :: l, h => by
    obtain ⟨s', ats, e1, m⟩ := sizes_some (its := l) h
    exact ⟨s', ats, e1, List.mem_cons_of_mem _ m⟩
theorem sigs_mem {n : Str} {its : List It} (h : n ∈ sigs its) : ∃ t, It.sg n t ∈ its := by
  obtain ⟨it, m, e⟩ := List.mem_map.mp h
  obtain ⟨m1, m2⟩ := List.mem_filter.mp m
  cases it with
  | vr _ _ _ => cases m2
  | ag _ _ _ => cases m2
  | sg z t => cases e; exact ⟨t, m1⟩
theorem fits_of {its : List It} {ws : List Str} {l : List V} (g : GoodStep ws l) (h : fitsB its l = true) : fits its l := by
  rcases g with ⟨w, n, rfl, _⟩ | ⟨w, n, s, f, e, rfl, _⟩
  · exact sigs_mem (List.contains_iff_mem.mp h)
  · have h' : (match valV (sizes its) (.inr n) with | some (.int sz) => decide (e < sz) | _ => false) = true := h
    cases e1 : valV (sizes its) (.inr n) with
    | none => rw [e1] at h'; cases h'
    | some v =>
      obtain ⟨sz, ats, ev, m⟩ := sizes_some e1
      subst ev
      rw [e1] at h'
      exact ⟨sz, ats, m, of_decide_eq_true h'⟩
theorem many_le {p : It → Bool} {its : List It} {c : Nat} (h : ∀ k < its.length, ((its.take (k + 1)).filter p).length ≤ c) : (its.filter p).length ≤ c := by
  cases e : its.length with
  | zero => rw [List.eq_nil_of_length_eq_zero e]; exact Nat.zero_le _
  | succ n =>
    have z := h n (by omega)
    rw [List.take_of_length_le (by omega)] at z
    exact z
theorem bytes_nd {its : List It} (d : Dec its) (h : wBytes its = none) : ∀ n, n ≤ its.length → ((its.take n).flatMap It.bytes).Nodup
  | 0, _ => List.Pairwise.nil
  | n + 1, hn => by
    have ei : its[n]? = some its[n] := List.getElem?_eq_getElem (by omega)
    have z := find_none h n (by omega)
    have ok := d.ok _ (List.mem_of_getElem? ei)
    rw [Lay.take_succ ei, List.flatMap_append, List.flatMap_cons, List.flatMap_nil, List.append_nil]
    unfold hBytes at z
    rw [ei] at z
    generalize its[n] = it at z ok
    cases it with
    | sg _ _ => show (_ ++ []).Nodup; rw [List.append_nil]; exact bytes_nd d h n (by omega)
    | ag _ _ _ => show (_ ++ []).Nodup; rw [List.append_nil]; exact bytes_nd d h n (by omega)
    | vr zz s ats =>
      obtain ⟨_, s1, _, _, _, gp, _⟩ := ok
      rw [List.nodup_append]
      refine ⟨bytes_nd d h n (by omega), gap_bytes (by omega) gp, fun a ha b hb e => ?_⟩
      subst e
      have y := List.any_eq_false.mp z a hb
      exact y (decide_eq_true ha)
theorem good_of {ring : Int} {its : List It} (d : Dec its) (w : NoWhy ring its) : Good ring its where
  ma := many_le fun k hk => by
    have z := find_none w.many k hk
    unfold hMany at z
    rw [Bool.or_eq_false_iff, Bool.or_eq_false_iff] at z
    have := of_decide_eq_false z.1
    omega
  mv := many_le fun k hk => by
    have z := find_none w.many k hk
    unfold hMany at z
    rw [Bool.or_eq_false_iff, Bool.or_eq_false_iff] at z
    have := of_decide_eq_false z.2.1
    omega
  ms := many_le fun k hk => by
    have z := find_none w.many k hk
    unfold hMany at z
    rw [Bool.or_eq_false_iff, Bool.or_eq_false_iff] at z
    have := of_decide_eq_false z.2.2
    omega
  nd := nd_of w.name
  ok it m := part_nm (d.ok it m)
  vr z s ats m := by
    obtain ⟨_, s1, s8, l1, l4, _⟩ := d.ok _ m
    obtain ⟨k, hk, ek⟩ := List.getElem_of_mem m
    have y := find_none w.slots k hk
    unfold hSlots at y
    rw [List.getElem?_eq_getElem hk, ek] at y
    dsimp only at y
    have y' : decide ((ats.length : Int) ∈ ([1, ring] : List Int)) = true := by
      cases e : decide ((ats.length : Int) ∈ ([1, ring] : List Int)) with
      | true => rfl
      | false => rw [e] at y; cases y
    refine ⟨s1, s8, l1, l4, ?_⟩
    have y2 := of_decide_eq_true y'
    simp only [List.mem_cons, List.not_mem_nil, or_false] at y2
    exact y2
  by_ := by
    have z := bytes_nd d w.bytes its.length (Nat.le_refl _)
    rw [List.take_length] at z
    exact z
  gs z k ls m := by
    obtain ⟨_, k0, k2, l1, l24, g⟩ := d.ok _ m
    refine ⟨k0, k2, l1, l24, fun l ml => ⟨g l ml, ?_⟩⟩
    have mf : It.ag z k ls ∈ its.filter It.isA := List.mem_filter.mpr ⟨m, rfl⟩
    obtain ⟨a, ha, ea⟩ := List.getElem_of_mem mf
    have y := find_none w.step a ha
    have y2 : hAgent its a = (List.range ls.length).find? (hStep ls its) := by
      unfold hAgent
      rw [List.getElem?_eq_getElem ha, ea]
    rw [y2] at y
    have y3 : (List.range ls.length).find? (hStep ls its) = none := by
      cases e : (List.range ls.length).find? (hStep ls its) with
      | none => rfl
      | some v => rw [e] at y; cases y
    obtain ⟨i, hi, ei⟩ := List.getElem_of_mem ml
    have y4 := find_none y3 i hi
    unfold hStep at y4
    rw [List.getElem?_eq_getElem hi, ei] at y4
    dsimp only at y4
    refine fits_of (g l ml) ?_
    cases e : fitsB its l with
    | true => rfl
    | false => rw [e] at y4; cases y4
  sg z t m := by
    obtain ⟨_, t0, t3⟩ := d.ok _ m
    obtain ⟨k, hk, ek⟩ := List.getElem_of_mem m
    have y := find_none w.sig k hk
    unfold hSig at y
    rw [List.getElem?_eq_getElem hk, ek] at y
    dsimp only at y
    rw [Bool.or_eq_false_iff] at y
    have y1 := of_decide_eq_false y.1
    have y2 := of_decide_eq_false y.2
    exact ⟨t0, t3, by omega, by omega⟩
end Net7
end
section
namespace Net7
open PySem PySem.Spec PyProof.Rows Lay NetL NetG Exv
open L2 hiding It
/-- a check of parts that may refuse them -/
def spW (C : Cs) (EN : Addr) (W : List It → Option Nat) (pre : List It → Prop) (rs : Str) : Sp := fun vs H Q E => ∃ t ps its, vs = [.ref t] ∧ H t = some (.tup ps) ∧ PartsAt C H ps its ∧ Dec its ∧ pre its ∧
  (∀ k, W its = some k → ErrW EN E H [("place", .int ((k : Nat) : Int)), ("reason", .str rs)]) ∧ (W its = none → ∀ H', Same H H' → Q .non H')
def spWA (C : Cs) (EN : Addr) (W : List It → Option Nat) (pre : List It → Prop) (rs : Str) : Sp := fun vs H Q E => ∃ t a ps as its, vs = [.ref t, .ref a] ∧ H t = some (.tup ps) ∧ H a = some (.lst as) ∧ PartsAt C H ps its ∧ PartsAt C H as (its.filter It.isA) ∧ Dec its ∧ pre its ∧
  (∀ k, W its = some k → ErrW EN E H [("place", .int ((k : Nat) : Int)), ("reason", .str rs)]) ∧ (W its = none → ∀ H', Same H H' → Q .non H')
/-- the check of steps: the place is a tuple -/
def spWS (C : Cs) (EN : Addr) : Sp := fun vs H Q E => ∃ t a ps as its, vs = [.ref t, .ref a] ∧ H t = some (.tup ps) ∧ H a = some (.lst as) ∧ PartsAt C H ps its ∧ PartsAt C H as (its.filter It.isA) ∧ Dec its ∧ (its.map It.nm).Nodup ∧
  (∀ i j : Nat, wStep its = some (.two i j) → ∀ (tp : Addr) (H1 : Hp), Same H H1 → H1 tp = some (.tup [.int ((i : Nat) : Int), .int ((j : Nat) : Int)]) → ErrW EN E H1 [("place", .ref tp), ("reason", .str "step")]) ∧
  (wAgent its = none → ∀ H', Same H H' → Q .non H')
theorem ErrW.at {EN : Addr} {E : XK} {H H1 : Hp} {fs : List (Str × V)} (h : ErrW EN E H fs) (s : Same H H1) : ErrW EN E H1 fs := fun d H' hd s' e => h d H' (Lay.none_of s hd) (s.trans s') e
end Net7
namespace Net7
open PySem PySem.Spec PyProof.Rows Lay NetL NetG Exv
open L2 hiding It
theorem marks_is {a : Int} : ∀ ns : List Int, (valV (marks ns) (.inl a)).isSome = decide (a ∈ ns)
  | [] => rfl
  | n :: ns => by
    by_cases e : n = a
    · subst e
      have z : valV (((.inl n : Key), V.bl true) :: marks ns) (.inl n) = some (V.bl true) := valV_pos (p := ((.inl n : Key), V.bl true)) rfl
      show (valV (((.inl n : Key), V.bl true) :: marks ns) (.inl n)).isSome = _
      rw [z, decide_eq_true List.mem_cons_self]
      rfl
    · have ne : ¬ ((.inl n : Key) = .inl a) := fun z => e (by injection z)
      show (valV (((.inl n : Key), V.bl true) :: marks ns) (.inl a)).isSome = _
      rw [valV_neg (p := ((.inl n : Key), V.bl true)) ne, marks_is ns]
      by_cases m : a ∈ ns
      · rw [decide_eq_true m, decide_eq_true (List.mem_cons_of_mem _ m)]
      · rw [decide_eq_false m, decide_eq_false fun z => (List.mem_cons.mp z).elim (fun y => e y.symm) m]
theorem Dec.vr {its : List It} (d : Dec its) {z : Str} {s : Int} {ats : List Int} (m : It.vr z s ats ∈ its) : 1 ≤ s ∧ s ≤ 8 ∧ 1 ≤ ats.length ∧ ats.length ≤ 4 ∧ (It.vr z s ats).bytes.Nodup := by
  obtain ⟨_, s1, s8, l1, l4, gp, _⟩ := d.ok _ m
  exact ⟨s1, s8, l1, l4, gap_bytes (by omega) gp⟩
theorem not_take {α : Type} [DecidableEq α] {l : List α} (nd : l.Nodup) {j : Nat} {a : α} (h : l[j]? = some a) : a ∉ l.take j := NetL.not_take nd h
end Net7
namespace Net7
open PySem PySem.Spec PyProof.Rows Lay NetL NetG Exv
open L2 hiding It
theorem Dec.flat {its : List It} (d : Dec its) : ∀ l ∈ steps its, l.all isFlat = true := by
  intro l m
  obtain ⟨it, im, lm⟩ := List.mem_flatMap.mp m
  cases it with
  | ag z k ls =>
    obtain ⟨_, _, _, _, _, h⟩ := d.ok _ im
    exact (h l lm).flat
  | vr z s a => cases lm
  | sg z t => cases lm
end Net7
end
section
namespace Net7
open PySem PySem.Spec PyProof.Rows Lay NetL NetG Exv
open L2 hiding It
/-! ### parts and things that are none -/
inductive Jt where
  | it (x : It)
  | th (u : V)
def Jt.isTh : Jt → Bool
  | .th _ => true | _ => false
def PJ (C : Cs) (H : Hp) (v : V) : Jt → Prop
  | .it x => PartAt C H v x
  | .th u => v = u ∧ Kz H u
theorem PJ.mono {C : Cs} {H H' : Hp} (s : Same H H') {v : V} : ∀ {j : Jt}, PJ C H v j → PJ C H' v j
  | .it _, h => PartAt.mono s h
  | .th _, ⟨e, k⟩ => ⟨e, k.mono s⟩
abbrev PJs (C : Cs) (H : Hp) : List V → List Jt → Prop := Paired (PJ C H)
theorem PJs.mono {C : Cs} {H H' : Hp} {vs : List V} {js : List Jt} (s : Same H H') (h : PJs C H vs js) : PJs C H' vs js := Paired.mono (fun _ _ => PJ.mono s) h
def strip (js : List Jt) : List It := js.filterMap fun j => match j with | .it x => some x | .th _ => none
structure DecJ (js : List Jt) : Prop where
  ok : ∀ x, Jt.it x ∈ js → PartOk x
  len : js.length ≤ 30
def hPart (js : List Jt) (k : Nat) : Bool := match js[k]? with | some (.th _) => true | _ => false
def wPart (js : List Jt) : Option Nat := (List.range js.length).find? (hPart js)
def whyJ (ring : Int) (js : List Jt) : Option (Str × Pl) := orE (wPart js) (fun k => ("part", .at k)) (why ring (strip js))
theorem no_part : ∀ {js : List Jt}, (∀ k < js.length, hPart js k = false) → js = (strip js).map .it
  | [], _ => rfl
  | .it x :: l, h => by
    show Jt.it x :: l = Jt.it x :: (strip l).map .it
    rw [← no_part fun k hk => h (k + 1) (Nat.succ_lt_succ hk)]
  | .th u :: l, h => by cases h 0 (Nat.zero_lt_succ _)
theorem pjs_it {C : Cs} {H : Hp} : ∀ {vs : List V} {its : List It}, PJs C H vs (its.map .it) → PartsAt C H vs its
  | _, [], .nil => .nil
  | _, _ :: _, .cons a t => .cons a (pjs_it t)
theorem pget' {R : V → Jt → Prop} : ∀ {vs : List V} {js : List Jt} {i : Nat} {v : V}, Paired R vs js → vs[i]? = some v → ∃ j, js[i]? = some j ∧ R v j
  | _, _, 0, _, .cons a _, e => by cases e; exact ⟨_, rfl, a⟩
  | _, _, i + 1, _, .cons _ t, e => pget' (i := i) t e
theorem strip_dec {js : List Jt} (d : DecJ js) : Dec (strip js) := by
  refine ⟨fun x m => ?_, Nat.le_trans (List.length_filterMap_le _ _) d.len⟩
  obtain ⟨j, mj, e⟩ := List.mem_filterMap.mp m
  cases j with
  | it y => cases e; exact d.ok _ mj
  | th u => cases e
theorem kit3f {K : PySem.W.Frag} {t a b c : Value} (ha : PySem.W.kitOne K t a = some false) (hb : PySem.W.kitOne K t b = some false) (hc : PySem.W.kitOne K t c = some false) : PySem.W.kitAny K t [a, b, c] = some false := by
  unfold PySem.W.kitAny
  rw [ha]
  dsimp only
  unfold PySem.W.kitAny
  rw [hb]
  dsimp only
  unfold PySem.W.kitAny
  rw [hc]
  dsimp only
  unfold PySem.W.kitAny
  rfl
/-- what is wished where a net is refused -/
def RaiseW (EN : Addr) (E : XK) (H : Hp) (r : Str) : Pl → Prop
  | .no => ErrW EN E H [("place", .non), ("reason", .str r)]
  | .at k => ErrW EN E H [("place", .int ((k : Nat) : Int)), ("reason", .str r)]
  | .two i j => ∀ (tp : Addr) (H1 : Hp), Same H H1 → H1 tp = some (.tup [.int ((i : Nat) : Int), .int ((j : Nat) : Int)]) → ErrW EN E H1 [("place", .ref tp), ("reason", .str r)]
theorem RaiseW.mono {EN : Addr} {E : XK} {H H1 : Hp} {r : Str} {p : Pl} (s : Same H H1) (h : RaiseW EN E H r p) : RaiseW EN E H1 r p := by
  cases p with
  | no => exact ErrW.at h s
  | «at» k => exact ErrW.at h s
  | two i j => exact fun tp H2 s2 e => h tp H2 (s.trans s2) e
def spCkParts (C : Cs) (EN : Addr) : Sp := fun vs H Q E => ∃ t ring ps js, vs = [.ref t, .int ring] ∧ H t = some (.tup ps) ∧ PJs C H ps js ∧ DecJ js ∧
  (∀ r p, whyJ ring js = some (r, p) → RaiseW EN E H r p) ∧ (whyJ ring js = none → ∀ H', Same H H' → Q .non H')
/-- how the clauses follow one another -/
theorem orE_some {α : Type} {o : Option α} {f : α → Str × Pl} {r : Option (Str × Pl)} {k : α} (h : o = some k) : orE o f r = some (f k) := by rw [h]; rfl
theorem orE_none {α : Type} {o : Option α} {f : α → Str × Pl} {r : Option (Str × Pl)} (h : o = none) : orE o f r = r := by rw [h]; rfl
end Net7
namespace Net7
open PySem PySem.Spec PyProof.Rows Lay NetL NetG Exv
open L2 hiding It
section
variable {ring : Int} {its : List It} {k : Nat}
theorem why_many (h : wMany its = some k) : why ring its = some (("many" : Str), Pl.at k) := orE_some h
theorem why_name (n1 : wMany its = none) (h : wName its = some k) : why ring its = some (("name" : Str), Pl.at k) := by
  unfold why; rw [orE_none n1]; exact orE_some h
theorem why_slots (n1 : wMany its = none) (n2 : wName its = none) (h : wSlots ring its = some k) : why ring its = some (("slots" : Str), Pl.at k) := by
  unfold why; rw [orE_none n1, orE_none n2]; exact orE_some h
theorem why_bytes (n1 : wMany its = none) (n2 : wName its = none) (n3 : wSlots ring its = none) (h : wBytes its = some k) : why ring its = some (("bytes" : Str), Pl.at k) := by
  unfold why; rw [orE_none n1, orE_none n2, orE_none n3]; exact orE_some h
theorem why_step {p : Pl} (n1 : wMany its = none) (n2 : wName its = none) (n3 : wSlots ring its = none) (n4 : wBytes its = none) (h : wStep its = some p) : why ring its = some (("step" : Str), p) := by
  unfold why; rw [orE_none n1, orE_none n2, orE_none n3, orE_none n4]; exact orE_some h
theorem step_none (h : wAgent its = none) : wStep its = none := by unfold wStep; rw [h]; rfl
theorem why_sig (n1 : wMany its = none) (n2 : wName its = none) (n3 : wSlots ring its = none) (n4 : wBytes its = none) (n5 : wAgent its = none) (h : wSig its = some k) : why ring its = some (("signal" : Str), Pl.at k) := by
  unfold why; rw [orE_none n1, orE_none n2, orE_none n3, orE_none n4, orE_none (step_none n5)]; exact orE_some h
theorem why_no (n1 : wMany its = none) (n2 : wName its = none) (n3 : wSlots ring its = none) (n4 : wBytes its = none) (n5 : wAgent its = none) (n6 : wSig its = none) : why ring its = none := by
  unfold why; rw [orE_none n1, orE_none n2, orE_none n3, orE_none n4, orE_none (step_none n5), orE_none n6]
end
end Net7
end
section
namespace Net7
open PySem PySem.Spec PyProof.Rows Lay NetL NetG Exv
open L2 hiding It
/-! ### Net's __init__ of any parts, with any line and ring -/
def okLine : V → Bool
  | .int i => decide (i ∈ ([1, 2, 4, 8, 16] : List Int))
  | _ => false
def okRing (v : V) : Bool := within v 1 4
def whyN (ln rg : V) (js : List Jt) : Option (Str × Pl) :=
  if okLine ln = true then (match rg with
    | .int r => if okRing (.int r) = true then whyJ r js else some (("ring" : Str), Pl.no)
    | _ => some (("ring" : Str), Pl.no))
  else some (("line" : Str), Pl.no)
theorem isInt_int {v : V} (h : isInt v = true) : ∃ i, v = .int i := by
  cases v with
  | int i => exact ⟨i, rfl⟩
  | _ => cases h
theorem within_int {v : V} (h : within v 1 4 = true) : ∃ r, v = .int r ∧ 1 ≤ r ∧ r ≤ 4 := by
  cases v with
  | int i =>
    have h' : (decide (1 ≤ i) && decide (i ≤ 4)) = true := h
    rw [Bool.and_eq_true] at h'
    exact ⟨i, rfl, of_decide_eq_true h'.1, of_decide_eq_true h'.2⟩
  | _ => cases h
theorem whyN_line {ln rg : V} {js : List Jt} (h : okLine ln = false) : whyN ln rg js = some (("line" : Str), Pl.no) := by
  unfold whyN; rw [h]; rfl
theorem whyN_ring {ln rg : V} {js : List Jt} (h : okLine ln = true) (h2 : okRing rg = false) : whyN ln rg js = some (("ring" : Str), Pl.no) := by
  unfold whyN; rw [if_pos h]
  cases rg with
  | int r => dsimp only; rw [h2]; rfl
  | _ => rfl
theorem whyN_ok {l r : Int} {js : List Jt} (h : okLine (.int l) = true) (h2 : okRing (.int r) = true) : whyN (.int l) (.int r) js = whyJ r js := by
  unfold whyN; rw [if_pos h]; dsimp only; rw [if_pos h2]
/-- a net that is told to be right -/
theorem whyN_none {ln rg : V} {js : List Jt} (d : DecJ js) (h : whyN ln rg js = none) : ∃ l r, ln = .int l ∧ rg = .int r ∧ lineOk l ∧ 1 ≤ r ∧ r ≤ 4 ∧ js = (strip js).map .it ∧ Good r (strip js) := by
  cases h1 : okLine ln with
  | false => rw [whyN_line h1] at h; cases h
  | true =>
  cases h2 : okRing rg with
  | false => rw [whyN_ring h1 h2] at h; cases h
  | true =>
  obtain ⟨r, rfl, r1, r4⟩ := within_int h2
  cases ln with
  | int l =>
    rw [whyN_ok h1 h2] at h
    have lo0 : l ∈ ([1, 2, 4, 8, 16] : List Int) := of_decide_eq_true h1
    have lo : lineOk l := lo0
    cases e : wPart js with
    | some k =>
      unfold whyJ at h
      rw [e] at h
      cases h
    | none =>
      have h3 : why r (strip js) = none := (orE_none e).symm.trans h
      exact ⟨l, r, rfl, rfl, lo, r1, r4, no_part (find_none e), good_of (strip_dec d) (noWhy h3)⟩
  | _ => cases h1
theorem good_len {r : Int} {its : List It} (g : Good r its) : its.length ≤ 16 := by
  have p := (three_perm its).length_eq
  have a := g.ma
  have v := g.mv
  have s := g.ms
  rw [List.length_append, List.length_append] at p
  omega
def spNetI (C : Cs) (N EN : Addr) : Sp := fun vs H Q E => ∃ H0 x dx ln rg t ps js, vs = [.ref x, ln, rg, .ref t] ∧ H0 x = none ∧ Same H0 H ∧ H x = some (.ins N dx []) ∧ Kz H ln ∧ Kz H rg ∧ H t = some (.tup ps) ∧ PJs C H0 ps js ∧ DecJ js ∧
  (∀ r p, whyN ln rg js = some (r, p) → RaiseW EN E H0 r p) ∧
  (∀ (l r : Int) (its : List It), ln = .int l → rg = .int r → js = its.map .it → whyN ln rg js = none → lineOk l → 1 ≤ r → r ≤ 4 → Good r its → ∀ H', NetAt C N H' x l r its ps → Same H0 H' → Q .non H')
def spInitJ (C : Cs) (N EN : Addr) : KwS.Sp2 := fun vs zs H Q E => ∃ us rest, vs = us ++ rest ∧ us.length = 1 ∧ rest.length ≤ sizeLine ∧ ∀ p, H p = Option.none → spNetI C N EN (us ++ zs ++ [V.ref p]) (upd H p (.tup rest)) Q E
/-- what a net asked for with these gives -/
def NetW (C : Cs) (N EN : Addr) (ln rg : V) (ps : List V) (js : List Jt) (H : Hp) (Q : VK) (E : XK) : Prop :=
  (∀ r p, whyN ln rg js = some (r, p) → RaiseW EN E H r p) ∧
  (∀ (l r : Int) (its : List It), ln = .int l → rg = .int r → js = its.map .it → whyN ln rg js = none → lineOk l → 1 ≤ r → r ≤ 4 → Good r its → ∀ x H', H x = none → NetAt C N H' x l r its ps → Same H H' → Q (.ref x) H')
theorem mk_netJ {C : Cs} {N EN : Addr} {H : Hp} {ln rg : V} {ps : List V} {js : List Jt} {Q : VK} {E : XK} (kl : Kz H ln) (kr : Kz H rg) (hp : PJs C H ps js) (d : DecJ js) (w : NetW C N EN ln rg ps js H Q E) : KwS.TMade N (spInitJ C N EN) E ps [ln, rg] H Q := by
  intro x dx hx hdx hne
  have lp := hp.length
  have l30 := d.len
  refine ⟨[.ref x], ps, rfl, rfl, Nat.le_trans (show ps.length ≤ 100 by omega) (by decide), fun p hpn => ?_⟩
  have s0 : Same H (upd (upd H dx (.own x)) x (.ins N dx [])) := Lay.Same.upd' (Lay.Same.upd hdx) (by rw [upd_ne hne.symm]; exact hx)
  have hpx : x ≠ p := fun e => by subst e; rw [upd_same] at hpn; cases hpn
  have s1 := s0.trans (Lay.Same.upd (o := .tup ps) hpn)
  refine ⟨H, x, dx, ln, rg, p, ps, js, rfl, hx, s1, by rw [upd_ne hpx]; exact upd_same, kl.mono s1, kr.mono s1, upd_same, hp, d, w.1, fun l r its e1 e2 e3 e4 lo r1 r4 g H' n s => ⟨rfl, w.2 l r its e1 e2 e3 e4 lo r1 r4 g x H' hx n s⟩⟩
/-- Net.made(x, line=.., ring=..) -/
def spMadeJ (C : Cs) (N EN : Addr) : Sp := fun vs H Q E => ∃ a ln rg ps js, vs = [.ref N, .ref a, ln, rg] ∧ (H a = some (.tup ps) ∨ H a = some (.lst ps)) ∧ Kz H ln ∧ Kz H rg ∧ PJs C H ps js ∧ DecJ js ∧ NetW C N EN ln rg ps js H Q E
theorem passAt_of {X : Cx} {CX : CXT} {E : XK} (h : Passes CX X E) : ∀ σ, PassesAt CX X σ E := fun σ pins H s e s' I q => h pins σ H s e s' I q
end Net7
end
section
namespace Net7
open PySem PySem.Spec PyProof.Rows Lay NetL NetG Exv
open L2 hiding It
/-! ### the law's rows of parts and things -/
def JAt (S : List Addr) (H : Hp) (v : V) : Jt → Prop
  | .it x => ItemAt S H v x
  | .th u => ∃ a, v = .ref a ∧ H a = some (.tup [.str "thing", u]) ∧ Kz H u ∧ ∀ b ∈ S, u ≠ .ref b
theorem JAt.stay {S : List Addr} {H H' : Hp} {v : V} (h : Lists S H) (s : Stay S H H') : ∀ {j : Jt}, JAt S H v j → JAt S H' v j
  | .it _, r => ItemAt.stay h s r
  | .th u, ⟨a, e, h1, k, n⟩ => ⟨a, e, s _ _ (lists_tup h h1) h1, k.same fun b o eb hb => s b o (fun m => n b m eb) hb, n⟩
theorem JAt.mono {S : List Addr} {H H' : Hp} {v : V} (s : Same H H') : ∀ {j : Jt}, JAt S H v j → JAt S H' v j
  | .it _, r => ItemAt.mono s r
  | .th u, ⟨a, e, h1, k, n⟩ => ⟨a, e, s _ _ h1, k.mono s, n⟩
theorem kz_live {H : Hp} {b : Addr} (k : Kz H (.ref b)) : ∃ o, H b = some o := by
  obtain ⟨t, kd, _⟩ := k
  cases kd with
  | lst h => exact ⟨_, h⟩
  | tup h => exact ⟨_, h⟩
  | dK h => exact ⟨_, h⟩
theorem JAt.off {S S' : List Addr} {H : Hp} {v : V} (h : ∀ b o, b ∉ S → H b = some o → b ∉ S') : ∀ {j : Jt}, JAt S H v j → JAt S' H v j
  | .it _, r => ItemAt.off h r
  | .th u, ⟨a, e, h1, k, n⟩ => ⟨a, e, h1, k, fun b m eb => by
    subst eb
    obtain ⟨o, hb⟩ := kz_live k
    exact h b o (fun ms => n b ms rfl) hb m⟩
abbrev JsAt (S : List Addr) (H : Hp) : List V → List Jt → Prop := Paired (JAt S H)
theorem JsAt.stay {S : List Addr} {H H' : Hp} {vs : List V} {js : List Jt} (h : Lists S H) (s : Stay S H H') (r : JsAt S H vs js) : JsAt S H' vs js := Paired.mono (fun _ _ => JAt.stay h s) r
theorem JsAt.mono {S : List Addr} {H H' : Hp} {vs : List V} {js : List Jt} (s : Same H H') (r : JsAt S H vs js) : JsAt S H' vs js := Paired.mono (fun _ _ => JAt.mono s) r
theorem JsAt.off {S S' : List Addr} {H : Hp} {vs : List V} {js : List Jt} (h : ∀ b o, b ∉ S → H b = some o → b ∉ S') (r : JsAt S H vs js) : JsAt S' H vs js := Paired.mono (fun _ _ => JAt.off h) r
theorem it_js {S : List Addr} {H : Hp} : ∀ {vs : List V} {its : List It}, ItemsAt S H vs its → JsAt S H vs (its.map .it)
  | _, _, .nil => .nil
  | _, _, .cons a t => .cons a (it_js t)
theorem js_it {S : List Addr} {H : Hp} : ∀ {vs : List V} {its : List It}, JsAt S H vs (its.map .it) → ItemsAt S H vs its
  | _, [], .nil => .nil
  | _, _ :: _, .cons a t => .cons a (js_it t)
def kwJ (w : Str) : Jt → Bool
  | .it x => kwf w x
  | .th _ => decide (("thing" : Str) = w)
/-- the word in front, and what is behind it -/
theorem row_kw {S : List Addr} {H : Hp} {v : V} : ∀ {j : Jt}, JAt S H v j → ∃ (a : Addr) (kk : Str) (rest : List V), v = .ref a ∧ H a = some (.tup (V.str kk :: rest)) ∧ ∀ w, decide (kk = w) = kwJ w j
  | .it x, h => by
    obtain ⟨a, kk, rest, e, h1, k⟩ := item_kw h
    exact ⟨a, kk, _, e, h1, k⟩
  | .th u, ⟨a, e, h1, _⟩ => ⟨a, _, _, e, h1, fun _ => rfl⟩
theorem kwJ_th : kwJ "thing" = Jt.isTh := funext fun j => by
  cases j with
  | th u => exact show decide (("thing" : Str) = "thing") = true by decide +kernel
  | it x =>
    cases x with
    | vr z s ats => exact show decide (Str.ofString "var" = Str.ofString "thing") = false by decide +kernel
    | sg z t => exact show decide (Str.ofString "sig" = Str.ofString "thing") = false by decide +kernel
    | ag z k ls => exact show decide (Str.ofString "agent" = Str.ofString "thing") = false by decide +kernel
def OkJ : Jt → Prop
  | .it x => PartOk x
  | .th _ => True
def spPartJ (C : Cs) : Sp := fun vs H Q _ => ∃ (S : List Addr) (v : V) (j : Jt), vs = [v] ∧ JAt S H v j ∧ OkJ j ∧ ∀ u H', Same H H' → PJ C H' u j → Q u H'
theorem pgetJ {R : V → Jt → Prop} {vs : List V} {js : List Jt} {i : Nat} {v : V} (h : Paired R vs js) (e : vs[i]? = some v) : ∃ j, js[i]? = some j ∧ R v j := pget' h e
/-- what the law's own look at the parts tells -/
def wvP (H : Hp) (v : V) : Option (Str × Pl) → Prop
  | none => v = .non
  | some (r, .no) => ∃ a, v = .ref a ∧ H a = some (.tup [.str r, .non])
  | some (r, .at k) => ∃ a, v = .ref a ∧ H a = some (.tup [.str r, .int ((k : Nat) : Int)])
  | some (r, .two i j) => ∃ a b, v = .ref a ∧ H a = some (.tup [.str r, .ref b]) ∧ H b = some (.tup [.int ((i : Nat) : Int), .int ((j : Nat) : Int)])
theorem wvP.mono {H H' : Hp} {v : V} (s : Same H H') : ∀ {o : Option (Str × Pl)}, wvP H v o → wvP H' v o
  | none, h => h
  | some (_, .no), ⟨a, e, h⟩ => ⟨a, e, s _ _ h⟩
  | some (_, .at _), ⟨a, e, h⟩ => ⟨a, e, s _ _ h⟩
  | some (_, .two _ _), ⟨a, b, e, h, h2⟩ => ⟨a, b, e, s _ _ h, s _ _ h2⟩
theorem wvP.non {H : Hp} {v : V} {o : Option (Str × Pl)} (h : wvP H v o) : decide (v = .non) = o.isNone := by
  match o, h with
  | none, h => rw [show v = .non from h]; rfl
  | some (_, .no), ⟨a, e, _⟩ => subst e; rfl
  | some (_, .at _), ⟨a, e, _⟩ => subst e; rfl
  | some (_, .two _ _), ⟨a, b, e, _⟩ => subst e; rfl
/-- parts: a thing among them, too many, two of a name -/
def whyP (js : List Jt) : Option (Str × Pl) := orE (wPart js) (fun k => ("part", .at k)) (orE (wMany (strip js)) (fun k => ("many", .at k)) (orE (wName (strip js)) (fun k => ("name", .at k)) none))
def whyV (ring : Int) (its : List It) : Option (Str × Pl) := orE (wSlots ring its) (fun k => ("slots", .at k)) (orE (wBytes its) (fun k => ("bytes", .at k)) none)
def whyS (its : List It) : Option (Str × Pl) := orE (wStep its) (fun p => ("step", p)) (orE (wSig its) (fun k => ("signal", .at k)) none)
def seqO (a b : Option (Str × Pl)) : Option (Str × Pl) := match a with | some x => some x | none => b
theorem whyJ_seq (ring : Int) (js : List Jt) : whyJ ring js = seqO (whyP js) (seqO (whyV ring (strip js)) (whyS (strip js))) := by
  unfold whyJ whyP why whyV whyS
  cases wPart js <;> cases wMany (strip js) <;> cases wName (strip js) <;> cases wSlots ring (strip js) <;> cases wBytes (strip js) <;> cases wStep (strip js) <;> cases wSig (strip js) <;> rfl
theorem whyP_none {js : List Jt} (h : whyP js = none) : js = (strip js).map .it ∧ ((strip js).map It.nm).Nodup := by
  unfold whyP at h
  cases e1 : wPart js with
  | some k => rw [e1] at h; cases h
  | none =>
  cases e2 : wMany (strip js) with
  | some k => rw [e1, e2] at h; cases h
  | none =>
  cases e3 : wName (strip js) with
  | some k => rw [e1, e2, e3] at h; cases h
  | none => exact ⟨no_part (find_none e1), nd_of e3⟩
def spPartsWrong : Sp := fun vs H Q _ => ∃ (S : List Addr) (a : Addr) (l : List V) (js : List Jt), vs = [.ref a] ∧ H a = some (.lst l) ∧ JsAt S H l js ∧ DecJ js ∧ ∀ v H', Same H H' → wvP H' v (whyP js) → Q v H'
def spVarsWrong : Sp := fun vs H Q _ => ∃ (S : List Addr) (a : Addr) (ring : Int) (l : List V) (its : List It), vs = [.ref a, .int ring] ∧ H a = some (.lst l) ∧ ItemsAt S H l its ∧ Dec its ∧ ∀ v H', Same H H' → wvP H' v (whyV ring its) → Q v H'
def spStepsWrong : Sp := fun vs H Q _ => ∃ (S : List Addr) (a : Addr) (l : List V) (its : List It), vs = [.ref a] ∧ H a = some (.lst l) ∧ ItemsAt S H l its ∧ Dec its ∧ (its.map It.nm).Nodup ∧ ∀ v H', Same H H' → wvP H' v (whyS its) → Q v H'
def spWanted7 : Sp := fun vs H Q _ => ∃ (S : List Addr) (a : Addr) (ln rg : V) (l : List V) (js : List Jt), vs = [.ref a, ln, rg] ∧ H a = some (.lst l) ∧ JsAt S H l js ∧ DecJ js ∧ Kz H ln ∧ Kz H rg ∧ ∀ v H', Same H H' → wvP H' v (whyN ln rg js) → Q v H'
end Net7
end
section
namespace Net7
open PySem PySem.Spec PyProof.Rows Lay NetL NetG Exv
open L2 hiding It
def wordOf : It → Str
  | .vr _ _ _ => "var"
  | .sg _ _ => "sig"
  | .ag _ _ _ => "agent"
theorem word_ok (it : It) : PyData.strOk (wordOf it) = true := by
  cases it with
  | vr z s a => exact show PyData.strOk (Str.ofString "var") = true by decide +kernel
  | sg z t => exact show PyData.strOk (Str.ofString "sig") = true by decide +kernel
  | ag z k l => exact show PyData.strOk (Str.ofString "agent") = true by decide +kernel
theorem cnt_word {w : Str} {p : It → Bool} (h : ∀ it, decide (wordOf it = w) = p it) : ∀ its : List It, (its.map wordOf).count w = (its.filter p).length
  | [] => rfl
  | it :: l => by
    have z := h it
    rw [List.map_cons]
    by_cases e : wordOf it = w
    · rw [decide_eq_true e] at z
      rw [e, List.count_cons_self, List.filter_cons_of_pos (by rw [← z]), List.length_cons, cnt_word h l]
    · rw [decide_eq_false e] at z
      rw [List.count_cons_of_ne e, List.filter_cons_of_neg (by rw [← z]; decide), cnt_word h l]
theorem wordA (it : It) : decide (wordOf it = "agent") = it.isA := by
  cases it with
  | vr z s a => exact show decide (Str.ofString "var" = Str.ofString "agent") = false by decide +kernel
  | sg z t => exact show decide (Str.ofString "sig" = Str.ofString "agent") = false by decide +kernel
  | ag z k l => exact show decide (Str.ofString "agent" = Str.ofString "agent") = true by decide +kernel
theorem wordV (it : It) : decide (wordOf it = "var") = it.isV := by
  cases it with
  | vr z s a => exact show decide (Str.ofString "var" = Str.ofString "var") = true by decide +kernel
  | sg z t => exact show decide (Str.ofString "sig" = Str.ofString "var") = false by decide +kernel
  | ag z k l => exact show decide (Str.ofString "agent" = Str.ofString "var") = false by decide +kernel
theorem wordS (it : It) : decide (wordOf it = "sig") = it.isS := by
  cases it with
  | vr z s a => exact show decide (Str.ofString "var" = Str.ofString "sig") = false by decide +kernel
  | sg z t => exact show decide (Str.ofString "sig" = Str.ofString "sig") = true by decide +kernel
  | ag z k l => exact show decide (Str.ofString "agent" = Str.ofString "sig") = false by decide +kernel
theorem lay_strs : ∀ zs : List Str, (∀ z ∈ zs, PyData.strOk z = true) → PyData.canLayAll0 (zs.map PyData.str) = true ∧ PyData.depthAll (zs.map PyData.str) = 0
  | [], _ => by simp [PyData.canLayAll0, PyData.depthAll]
  | z :: l, h => by
    obtain ⟨a, b⟩ := lay_strs l fun x m => h x (List.mem_cons_of_mem _ m)
    have hz := h z List.mem_cons_self
    exact ⟨by rw [List.map_cons, PyData.canLayAll0, a, PyData.canLay0, hz]; rfl, by rw [List.map_cons, PyData.depthAll, b, PyData.depth]; rfl⟩
theorem shaped_strs {zs : List Str} (h : ∀ z ∈ zs, PyData.strOk z = true) : SeqAt.shaped (.list (zs.map PyData.str)) = true := by
  obtain ⟨a, b⟩ := lay_strs zs h
  have c : PyData.canLay0 (.list (zs.map PyData.str)) = true := by rw [PyData.canLay0]; exact a
  unfold SeqAt.shaped
  rw [c, decide_eq_true (by rw [PyData.depth, b]; omega)]
  rfl
theorem shaped_str {z : Str} (h : PyData.strOk z = true) : SeqAt.shaped (.str z) = true := by
  have c : PyData.canLay0 (.str z) = true := by rw [PyData.canLay0]; exact h
  unfold SeqAt.shaped
  rw [c, decide_eq_true (by rw [PyData.depth]; omega)]
  rfl
theorem dp_strs {K : PySem.W.Frag} {H : Hp} : ∀ zs : List Str, DpAll K H (zs.map V.str) (zs.map PyData.str)
  | [] => .nil
  | z :: l => .cons (.str z) (dp_strs l)
/-- list.count of texts -/
theorem rd_cntS {K : PySem.W.Frag} {H : Hp} {Q : VK} {a : Addr} {ws : List Str} {w : Str} (ha : SqL K H a (ws.map V.str)) (h : ∀ z ∈ ws, PyData.strOk z = true) (hw : PyData.strOk w = true) (q : Q (.int (ws.count w : Nat)) H) : rCntD K (.ref a) [.str w] H Q := by
  refine ⟨a, .str w, .str w, ws.map PyData.str, rfl, rfl, .lst ha (dp_strs ws), .str w, shaped_strs h, shaped_str hw, ?_⟩
  have e : (ws.map PyData.str).countP (fun z => PyData.eqv z (.str w)) = ws.count w := by
    rw [List.countP_map]
    unfold List.count
    refine List.countP_congr fun x m => ?_
    show PyData.eqv (.str x) (.str w) = true ↔ (x == w) = true
    rw [PyData.eqv]
  rw [e]
  exact q
theorem item_full3 {S : List Addr} {H : Hp} {v : V} : ∀ {it : It}, ItemAt S H v it → ∃ (a : Addr) (rest : List V), v = .ref a ∧ H a = some (.tup (V.str (wordOf it) :: V.str it.nm :: rest))
  | .vr _ _ _, ⟨a, b, e, h1, _⟩ => ⟨a, _, e, h1⟩
  | .sg _ _, ⟨a, e, h1⟩ => ⟨a, _, e, h1⟩
  | .ag _ _ _, ⟨a, b, ys, e, h1, _⟩ => ⟨a, _, e, h1⟩
end Net7
end
section
namespace Net7
open PySem PySem.Spec PyProof.Rows Lay NetL NetG Exv
open L2 hiding It
/-! ### counts of steps by word and name -/
def hd2 (w n : Str) (l : List V) : Bool := decide (l.take 2 = [V.str w, V.str n])
def ck (w n : Str) : List Key := [.inr w, .inr n]
structure CntI (kvs : List (List Key × V)) (rows : List (List V)) : Prop where
  len : kvs.length ≤ rows.length
  val : ∀ w n, (valV kvs (ck w n)).getD (.int 0) = .int ((rows.countP (hd2 w n) : Nat) : Int)
theorem CntI.nil : CntI [] [] := ⟨Nat.le_refl _, fun _ _ => rfl⟩
theorem putK_le (kvs : List (List Key × V)) (k : List Key) (v : V) : (putK kvs k v).length ≤ kvs.length + 1 := by
  unfold putK
  split
  · rw [List.length_map]; omega
  · rw [List.length_append]; exact Nat.le_refl _
theorem ck_inj {w n w' n' : Str} : ck w n = ck w' n' ↔ w = w' ∧ n = n' := by
  unfold ck
  constructor
  · intro h
    injection h with h1 h2
    injection h2 with h3 _
    injection h1 with h1
    injection h3 with h3
    exact ⟨h1, h3⟩
  · rintro ⟨rfl, rfl⟩
    rfl
theorem CntI.put {kvs : List (List Key × V)} {rows : List (List V)} {l : List V} {w n : Str} {c : Nat} (h : CntI kvs rows) (e : l.take 2 = [V.str w, V.str n]) (hc : c = rows.countP (hd2 w n)) : CntI (putK kvs (ck w n) (.int ((c : Int) + 1))) (rows ++ [l]) := by
  refine ⟨Nat.le_trans (putK_le _ _ _) (by rw [List.length_append]; exact Nat.succ_le_succ h.len), fun w' n' => ?_⟩
  rw [valV_put, List.countP_append, List.countP_cons, List.countP_nil]
  by_cases q : ck w' n' = ck w n
  · obtain ⟨rfl, rfl⟩ := ck_inj.mp q
    rw [if_pos rfl]
    have z : hd2 w' n' l = true := decide_eq_true e
    rw [z, ← hc]
    show V.int _ = V.int _
    congr 1
  · rw [if_neg q, h.val w' n']
    have z : hd2 w' n' l = false := by
      refine decide_eq_false fun y => q ?_
      rw [e] at y
      injection y with y1 y2
      injection y2 with y3 _
      injection y1 with y1
      injection y3 with y3
      exact ck_inj.mpr ⟨y1.symm, y3.symm⟩
    rw [z]
    simp
theorem cnt_good {rows : List (List V)} {w n : Str} (hw : w ∈ sigWords) (h : ∀ l ∈ rows, ∃ ws, GoodStep ws l) : rows.countP (hd2 w n) = rows.count [V.str w, .str n] := by
  unfold List.count
  refine List.countP_congr fun l m => ?_
  obtain ⟨ws, g⟩ := h l m
  rw [beq_iff_eq]
  unfold hd2
  rw [decide_eq_true_iff]
  constructor
  · intro e
    rcases g with ⟨w', n', rfl, _⟩ | ⟨w', n', s, f, e', rfl, hm, _⟩
    · exact e
    · exfalso
      have e2 : [V.str w', V.str n'] = [V.str w, V.str n] := e
      injection e2 with e3 _
      injection e3 with e4
      subst e4
      have dis : ∀ z ∈ sigWords, z ∉ memWords := by decide +kernel
      exact dis w' hw hm
  · rintro rfl
    rfl
theorem rd_dnewT {σ : L2.St} {H : Hp} {Q : VK} (h : ∀ p, H p = none → Q (.ref p) (upd H p (.dT []))) : tDNewT σ H Q := h
theorem rd_dget2 {td ty tx : TE} {σ : L2.St} {H : Hp} {Q : VK} (h : td σ H fun x H1 => ∃ a, x = .ref a ∧ IsD H1 a ∧ ty σ H1 fun y H2 => tx σ H2 fun z H3 => ∃ o, DGet H3 a y o ∧ Q (o.getD z) H3) : tDGet2 td ty tx σ H Q := h
end Net7
namespace Net7
open PySem PySem.Spec PyProof.Rows Lay NetL NetG Exv
open L2 hiding It
theorem rd_dNotIn {ty td : TE} {σ : L2.St} {H : Hp} {Q : VK} (h : ty σ H fun y H1 => td σ H1 fun x H2 => ∃ a o, x = .ref a ∧ DGet H2 a y o ∧ Q (.bl (!o.isSome)) H2) : tDNotIn ty td σ H Q := h
theorem Dec.step {its : List It} (d : Dec its) : ∀ l ∈ steps its, ∃ ws, GoodStep ws l := by
  intro l m
  obtain ⟨it, im, lm⟩ := List.mem_flatMap.mp m
  cases it with
  | ag z k ls =>
    obtain ⟨_, _, _, _, _, h⟩ := d.ok _ im
    exact ⟨_, h l lm⟩
  | vr z s a => cases lm
  | sg z t => cases lm
end Net7
namespace Net7
open PySem PySem.Spec PyProof.Rows Lay NetL NetG Exv
open L2 hiding It
theorem within_any {v : V} {lo hi : Int} (h : within v lo hi = true) : ∃ i, v = .int i := by
  cases v with
  | int i => exact ⟨i, rfl⟩
  | _ => cases h
theorem line_out {v : V} (h : within v 1 16 = false) : okLine v = false := by
  cases v with
  | int i =>
    have h' : (decide (1 ≤ i) && decide (i ≤ 16)) = false := h
    refine decide_eq_false fun m => ?_
    simp only [List.mem_cons, List.not_mem_nil, or_false] at m
    have z : (decide (1 ≤ i) && decide (i ≤ 16)) = true := by rw [decide_eq_true (by omega), decide_eq_true (by omega)]; rfl
    rw [z] at h'
    cases h'
  | _ => rfl
end Net7
end
section
namespace KwS
open PySem PySem.Spec PyProof.Rows L2
/-- C(e, .., k = v, ..), C's initialiser of *args and keyword-only ones -/
def tMakeRKP (C : Addr) (ks : List Str) (sp : Sp2) (E : L2.St → XK) (t tk : TA) : TE := fun σ H Q => t σ H fun vs H1 => tk σ H1 fun zs H2 => zs.length = ks.length ∧ TMade C sp (E σ) vs zs H2 Q
section
variable {X : Cx} {CX : CXT} {k : Nat} {f C : Addr} {ks : List Str} {sp : Sp2} {E : L2.St → XK} {x : Str} {kws : List Keyword} {t tk : TA} {p pos : Pos} {e : Expr} {es : List Expr}
theorem pe_makeRKP (M : Mk X.K C f) (F : FnRK X.prog X.w X.K X.mg X.base CX k f ks sp) (hr : Room (k + 1) X.A) (hg : Gl X x) (hm : X.mg x = some (.ref C)) (hx : ∀ σ, PassesAt CX X σ (E σ)) (ha : PA X (e :: es) t) (hkw : PK X kws tk)
    (hall : (backToKw pos (keywordEach kws X.env)).all (·.1.isSome) = true := by rfl) (hks : (backToKw pos (keywordEach kws X.env)).filterMap (·.1) = ks := by rfl) (hdb : (x == ("__debug__" : Str)) = false := by decide)
    (he : starEach (e :: es) X.env = (false, eval e X.env) :: starEach es X.env := by rfl) (hpl : ((backTo pos (starEach (e :: es) X.env)).any (·.1) || (backToKw pos (keywordEach kws X.env)).any (·.1.isNone)) = false := by rfl) :
    PE X (.Call (.Name x p) (e :: es) kws pos) (tMakeRKP C ks sp E t tk) := by
  refine ⟨fun pins s σ H Q I h => ?_⟩
  refine wpAny_Call_Name_kw (ld_glob I hg hm ?_ hdb)
  refine PySem.W.callWith_KW (h₀ := X.base) I.ok.mod.kin M.kp hall (thn (ha.run pos pins s σ H _ I h) fun us s1 ⟨vs, H1, I1, r, q⟩ => ?_) hpl he
  refine thn (hkw.run pos pins s1 σ H1 _ I1 q) fun ws s2 ⟨zs, H2, I2, rz, lz, q2⟩ => ⟨I2.kIn, ?_⟩
  rw [hks]
  exact run_makeRK M F hr (hx σ) I2 r rz lz q2
theorem rd_makeRKP {σ : L2.St} {H : Hp} {Q : VK} (h : t σ H fun vs H1 => tk σ H1 fun zs H2 => zs.length = ks.length ∧ TMade C sp (E σ) vs zs H2 Q) : tMakeRKP C ks sp E t tk σ H Q := h
end
end KwS
namespace Net7
open PySem PySem.Spec PyProof.Rows Lay NetL NetG Exv
open L2 hiding It
def spInitR (C : Cs) (N EN : Addr) : KwS.Sp2 := fun vs zs => spInitJ C N EN vs zs.reverse
theorem mk_netR {C : Cs} {N EN : Addr} {H : Hp} {ln rg : V} {ps : List V} {js : List Jt} {Q : VK} {E : XK} (kl : Kz H ln) (kr : Kz H rg) (hp : PJs C H ps js) (d : DecJ js) (w : NetW C N EN ln rg ps js H Q E) : KwS.TMade N (spInitR C N EN) E ps [rg, ln] H Q :=
  mk_netJ kl kr hp d w
def spDirect7 (C : Cs) (N EN : Addr) : Sp := fun vs H Q E => ∃ a ln rg ps js, vs = [.ref a, ln, rg] ∧ H a = some (.lst ps) ∧ Kz H ln ∧ Kz H rg ∧ PJs C H ps js ∧ DecJ js ∧ NetW C N EN ln rg ps js H Q E
end Net7
namespace Net7
open PySem PySem.Spec PyProof.Rows L2
theorem vals_rev {vs : List V} {us : List Value} (h : Vals vs us) : Vals vs.reverse us.reverse := by
  induction h with
  | nil => exact .nil
  | cons a t ih => rw [List.reverse_cons, List.reverse_cons]; exact ih.append (.cons a .nil)
end Net7
namespace Net7
open PySem PySem.Spec PyProof.Rows Lay NetL NetG Exv
open L2 hiding It
/-- the error that is kept -/
def ErrP (EN : Addr) (H : Hp) (e : Addr) (r : Str) : Pl → Prop
  | .no => ErrAt EN H e [("place", .non), ("reason", .str r)]
  | .at k => ErrAt EN H e [("place", .int ((k : Nat) : Int)), ("reason", .str r)]
  | .two i j => ∃ tp, H tp = some (.tup [.int ((i : Nat) : Int), .int ((j : Nat) : Int)]) ∧ ErrAt EN H e [("place", .ref tp), ("reason", .str r)]
theorem ErrP.mono {EN : Addr} {H H' : Hp} {e : Addr} {r : Str} {p : Pl} (s : Same H H') (h : ErrP EN H e r p) : ErrP EN H' e r p := by
  cases p with
  | no => exact ErrAt.mono s h
  | «at» k => exact ErrAt.mono s h
  | two i j =>
    obtain ⟨tp, h1, h2⟩ := h
    exact ⟨tp, s _ _ h1, ErrAt.mono s h2⟩
/-- what is found: the error, or the net -/
def FndW (C : Cs) (N EN : Addr) (ln rg : V) (ps : List V) (js : List Jt) (H : Hp) (Q : VK) : Prop :=
  (∀ r p, whyN ln rg js = some (r, p) → ∀ e H', Same H H' → ErrP EN H' e r p → Q (.ref e) H') ∧
  (∀ (l r : Int) (its : List It), ln = .int l → rg = .int r → js = its.map .it → whyN ln rg js = none → lineOk l → 1 ≤ r → r ≤ 4 → Good r its → ∀ x H', NetAt C N H' x l r its ps → Same H H' → Q (.ref x) H')
def spAsked7 (C : Cs) (N EN : Addr) : Sp := fun vs H Q _ => ∃ a ln rg b ps js, vs = [.ref a, ln, rg, .bl b] ∧ (H a = some (.lst ps) ∨ (b = false ∧ H a = some (.tup ps))) ∧ Kz H ln ∧ Kz H rg ∧ PJs C H ps js ∧ DecJ js ∧ FndW C N EN ln rg ps js H Q
end Net7
namespace Net7
open PySem PySem.Spec PyProof.Rows Lay NetL NetG Exv
open L2 hiding It
def spRight7 (C : Cs) (N EN : Addr) : Sp := fun vs H Q _ => ∃ (S : List Addr) (f wv ln rg : V) (a h : Addr) (l ps : List V), vs = [f, wv, .ref a, .ref h, ln, rg] ∧ H a = some (.lst l) ∧ H h = some (.lst ps) ∧ (∀ H', Same H H' → Q (.bl true) H') ∧
  ((∃ r p e, f = .ref e ∧ wvP H wv (some (r, p)) ∧ ErrP EN H e r p ∧ r.length ≤ 100) ∨
   (∃ x lw rw its, f = .ref x ∧ wv = .non ∧ ln = .int lw ∧ rg = .int rw ∧ NetAt C N H x lw rw its ps ∧ ItemsAt S H l its ∧ its.length ≤ 30))
/-- the data of a place -/
def plD : Pl → PyData
  | .no => .none
  | .at k => .int ((k : Nat) : Int)
  | .two i j => .tuple [.int ((i : Nat) : Int), .int ((j : Nat) : Int)]
theorem shaped_pl (p : Pl) : SeqAt.shaped (plD p) = true ∧ PyData.eqv (plD p) (plD p) = true := by
  cases p with
  | no => exact ⟨by decide +kernel, by simp [plD, PyData.eqv]⟩
  | «at» k => exact ⟨by simp [plD, SeqAt.shaped, PyData.canLay0, PyData.depth], by simp [plD, PyData.eqv]⟩
  | two i j => exact ⟨by simp [plD, SeqAt.shaped, PyData.canLay0, PyData.canLayAll0, PyData.depth, PyData.depthAll], by simp [plD, PyData.eqv, PyData.eqvAll]⟩
/-- the law's look at the place -/
theorem wv_at {K : PySem.W.Frag} {H : Hp} {v : V} {r : Str} {p : Pl} (h : wvP H v (some (r, p))) : ∃ a pv, v = .ref a ∧ H a = some (.tup [.str r, pv]) ∧ ∀ H', Same H H' → Dp K H' pv (plD p) := by
  cases p with
  | no =>
    obtain ⟨a, e, h1⟩ := h
    exact ⟨a, .non, e, h1, fun _ _ => .non⟩
  | «at» k =>
    obtain ⟨a, e, h1⟩ := h
    exact ⟨a, _, e, h1, fun _ _ => .int _⟩
  | two i j =>
    obtain ⟨a, b, e, h1, h2⟩ := h
    exact ⟨a, _, e, h1, fun _ s => .tup (SqT.of (s _ _ h2)) (.cons (.int _) (.cons (.int _) .nil))⟩
theorem err_at {K : PySem.W.Frag} {EN : Addr} {H : Hp} {e : Addr} {r : Str} {p : Pl} (h : ErrP EN H e r p) : ∃ pv, ErrAt EN H e [("place", pv), ("reason", .str r)] ∧ (∀ H', Same H H' → Dp K H' pv (plD p)) ∧ ∃ t, Kd H pv t ∧ isTy t .bool = false := by
  cases p with
  | no => exact ⟨.non, h, fun _ _ => .non, _, .non, rfl⟩
  | «at» k => exact ⟨_, h, fun _ _ => .int _, _, .int _, rfl⟩
  | two i j =>
    obtain ⟨tp, h1, h2⟩ := h
    exact ⟨_, h2, fun _ s => .tup (SqT.of (s _ _ h1)) (.cons (.int _) (.cons (.int _) .nil)), _, .tup h1, rfl⟩
end Net7
end
section
namespace Net7
open PySem PySem.Spec PyProof.Rows Lay NetL NetG Exv
open L2 hiding It
/-! ### parts that were changed n times -/
def LvI (n : Nat) : It → Prop
  | .vr z s ats => PartOk (.vr z s ats) ∧ (n = 0 → ∀ a ∈ ats, a ≤ 300) ∧ (n ≤ 1 → (∀ a ∈ ats, a ≤ 900) ∧ ∀ a ∈ ats.drop 1, a ≤ 320)
  | .sg z t => PartOk (.sg z t)
  | .ag z k ls => PartOk (.ag z k ls) ∧ ls.length ≤ 16 + n
theorem LvI.ok {n : Nat} {x : It} (h : LvI n x) : PartOk x := by
  cases x with
  | vr z s a => exact h.1
  | sg z t => exact h
  | ag z k ls => exact h.1
theorem LvI.up {n : Nat} {x : It} (h : LvI n x) : LvI (n + 1) x := by
  cases x with
  | vr z s a =>
    refine ⟨h.1, fun e => by omega, fun e => ?_⟩
    have z0 := h.2.1 (by omega)
    exact ⟨fun y m => by have := z0 y m; omega, fun y m => by have := z0 y (List.mem_of_mem_drop m); omega⟩
  | sg z t => exact h
  | ag z k ls => exact ⟨h.1, by have := h.2; omega⟩
def LvJ (n : Nat) : Jt → Prop
  | .it x => LvI n x
  | .th _ => True
structure LvJs (n : Nat) (js : List Jt) : Prop where
  ok : ∀ j ∈ js, LvJ n j
  len : js.length ≤ 13 + 6 * n
  ne : 1 ≤ js.length
theorem LvJ.up {n : Nat} {j : Jt} (h : LvJ n j) : LvJ (n + 1) j := by
  cases j with
  | it x => exact LvI.up h
  | th u => trivial
theorem lv_gen {ring : Int} {its : List It} (g : GenOk ring its) (t : Two its) : LvJs 0 (its.map .it) where
  ok := fun j m => by
    obtain ⟨x, mx, rfl⟩ := List.mem_map.mp m
    have ok := g.part x mx
    cases x with
    | vr z s ats =>
      have z0 := (g.var z s ats mx).2
      obtain ⟨_, s1, _⟩ := ok
      have z1 : ∀ a ∈ ats, a ≤ 300 := fun a ma => by have := z0 a ma; omega
      exact ⟨g.part _ mx, fun _ => z1, fun _ => ⟨fun a ma => by have := z1 a ma; omega, fun a ma => by have := z1 a (List.mem_of_mem_drop ma); omega⟩⟩
    | sg z t => exact ok
    | ag z k ls => exact ⟨ok, by have := g.ag z k ls mx; omega⟩
  len := by rw [List.length_map]; have := g.len; omega
  ne := by rw [List.length_map]; have := t.two; omega
theorem LvJs.dec {n : Nat} {js : List Jt} (h : LvJs n js) (h2 : n ≤ 2) : DecJ js := ⟨fun x m => LvI.ok (h.ok _ m), by have := h.len; omega⟩
/-- the addresses of a variable, changed in one of three ways -/
def VarCh (ats ys : List Int) : Prop := ∃ M, M ∈ ats ∧ (∀ a ∈ ats, a ≤ M) ∧
  (ys = (ats ++ [M + 20]).take 4 ∨ ys = (ats.drop 1 ++ [M + 20]).take 4 ∨ ∃ v, (v = 900 ∨ (0 ≤ v ∧ v ≤ 140 ∧ ∀ a ∈ ats.drop 1, 8 ≤ a - v ∨ 8 ≤ v - a)) ∧ ys = ([v] ++ ats.drop 1).take 4)
theorem var_ch {n : Nat} {z : Str} {s : Int} {ats ys : List Int} (h : LvI n (.vr z s ats)) (n1 : n ≤ 1) (c : VarCh ats ys) : LvI (n + 1) (.vr z s ys) := by
  obtain ⟨⟨hz, s1, s8, l1, l4, gp, bd⟩, h0, h1⟩ := h
  obtain ⟨b9, b3⟩ := h1 n1
  obtain ⟨M, mM, hM, c⟩ := c
  have M9 := b9 M mM
  have M0 := (bd M mM).1
  have gp2 : Gap s (ats ++ [M + 20]) := by
    unfold Gap at gp ⊢
    rw [List.pairwise_append]
    exact ⟨gp, List.pairwise_singleton _ _, fun a ma b mb => by rw [List.mem_singleton] at mb; subst mb; have := hM a ma; right; omega⟩
  have gp3 : Gap s (ats.drop 1 ++ [M + 20]) := by
    unfold Gap at gp ⊢
    rw [List.pairwise_append]
    exact ⟨gp.sublist (List.drop_sublist _ _), List.pairwise_singleton _ _, fun a ma b mb => by rw [List.mem_singleton] at mb; subst mb; have := hM a (List.mem_of_mem_drop ma); right; omega⟩
  have pos : ∀ {xs : List Int}, 1 ≤ xs.length → 1 ≤ (xs.take 4).length ∧ (xs.take 4).length ≤ 4 := fun {xs} h => by rw [List.length_take]; omega
  have tk : ∀ {xs : List Int} {a : Int}, a ∈ xs.take 4 → a ∈ xs := fun m => List.mem_of_mem_take m
  have td : ∀ {xs : List Int} {a : Int}, a ∈ (xs.take 4).drop 1 → a ∈ xs.drop 1 := fun {xs a} m => by
    rw [List.drop_take] at m
    exact List.mem_of_mem_take m
  rcases c with rfl | rfl | ⟨v, hv, rfl⟩
  · obtain ⟨p1, p4⟩ := pos (xs := ats ++ [M + 20]) (by rw [List.length_append]; omega)
    refine ⟨⟨hz, s1, s8, p1, p4, gp2.sublist (List.take_sublist _ _), fun a m => ?_⟩, fun e => by omega, fun e => ⟨fun a m => ?_, fun a m => ?_⟩⟩
    · rcases List.mem_append.mp (tk m) with m | m
      · have := bd a m; omega
      · rw [List.mem_singleton] at m; omega
    · have z0 := h0 (by omega)
      have zM := z0 M mM
      rcases List.mem_append.mp (tk m) with m | m
      · have := z0 a m; omega
      · rw [List.mem_singleton] at m; omega
    · have z0 := h0 (by omega)
      have zM := z0 M mM
      rcases List.mem_append.mp (List.mem_of_mem_drop (td m)) with m | m
      · have := z0 a m; omega
      · rw [List.mem_singleton] at m; omega
  · obtain ⟨p1, p4⟩ := pos (xs := ats.drop 1 ++ [M + 20]) (by rw [List.length_append]; simp)
    refine ⟨⟨hz, s1, s8, p1, p4, gp3.sublist (List.take_sublist _ _), fun a m => ?_⟩, fun e => by omega, fun e => ⟨fun a m => ?_, fun a m => ?_⟩⟩
    · rcases List.mem_append.mp (tk m) with m | m
      · have := bd a (List.mem_of_mem_drop m); omega
      · rw [List.mem_singleton] at m; omega
    · have z0 := h0 (by omega)
      have zM := z0 M mM
      rcases List.mem_append.mp (tk m) with m | m
      · have := z0 a (List.mem_of_mem_drop m); omega
      · rw [List.mem_singleton] at m; omega
    · have z0 := h0 (by omega)
      have zM := z0 M mM
      rcases List.mem_append.mp (List.mem_of_mem_drop (td m)) with m | m
      · have := z0 a (List.mem_of_mem_drop m); omega
      · rw [List.mem_singleton] at m; omega
  · have gp4 : Gap s ([v] ++ ats.drop 1) := by
      unfold Gap at gp ⊢
      rw [List.pairwise_append]
      refine ⟨List.pairwise_singleton _ _, gp.sublist (List.drop_sublist _ _), fun a ma b mb => ?_⟩
      rw [List.mem_singleton] at ma
      subst ma
      rcases hv with rfl | ⟨_, _, hv⟩
      · left
        have := b3 b mb
        omega
      · rcases hv b mb with q | q
        · right; omega
        · left; omega
    have vb : 0 ≤ v ∧ v ≤ 900 := by rcases hv with rfl | ⟨_, _, _⟩ <;> omega
    obtain ⟨p1, p4⟩ := pos (xs := [v] ++ ats.drop 1) (by rw [List.length_append]; simp)
    refine ⟨⟨hz, s1, s8, p1, p4, gp4.sublist (List.take_sublist _ _), fun a m => ?_⟩, fun e => by omega, fun e => ⟨fun a m => ?_, fun a m => ?_⟩⟩
    · rcases List.mem_append.mp (tk m) with m | m
      · rw [List.mem_singleton] at m; omega
      · have := bd a (List.mem_of_mem_drop m); omega
    · rcases List.mem_append.mp (tk m) with m | m
      · rw [List.mem_singleton] at m; omega
      · have := b3 a m; omega
    · have m2 : a ∈ ([v] ++ ats.drop 1).drop 1 := td m
      have := b3 a m2; omega
def spFree7 : Sp := fun vs H Q _ => ∃ (p : Addr) (n : Nat) (c a : Addr) (ns : List Int), vs = [.ref p, .ref a] ∧ PenAt c H p n ∧ n + 1 < 100000 ∧ a ≠ p ∧ H a = some (.lst (ns.map V.int)) ∧ ns.length ≤ 4 ∧
  ∀ v H', (v = 900 ∨ (0 ≤ v ∧ v ≤ 140 ∧ ∀ o ∈ ns, 8 ≤ o - v ∨ 8 ≤ v - o)) → PenAt c H' p (n + 1) → Keep p H H' → Q (.int v) H'
end Net7
namespace Net7
open PySem PySem.Spec PyProof.Rows Lay NetL NetG Exv
open L2 hiding It
def namesJ (js : List Jt) : List Str := (strip js).map It.nm
theorem namesJ_it {js : List Jt} {i : Nat} {x : It} (h : js[i]? = some (.it x)) : namesJ (js.take (i + 1)) = namesJ (js.take i) ++ [x.nm] := by
  unfold namesJ strip
  rw [Lay.take_succ h, List.filterMap_append, List.map_append]
  rfl
theorem namesJ_th {js : List Jt} {i : Nat} {u : V} (h : js[i]? = some (.th u)) : namesJ (js.take (i + 1)) = namesJ (js.take i) := by
  unfold namesJ strip
  rw [Lay.take_succ h, List.filterMap_append, List.map_append]
  show _ ++ [] = _
  rw [List.append_nil]
theorem namesJ_ok {js : List Jt} (h : ∀ x, Jt.it x ∈ js → nameOk x.nm = true) : ∀ z ∈ namesJ js, nameOk z = true := fun z m => by
  obtain ⟨x, mx, rfl⟩ := List.mem_map.mp m
  obtain ⟨j, mj, e⟩ := List.mem_filterMap.mp mx
  cases j with
  | it y => cases e; exact h _ mj
  | th u => cases e
theorem namesJ_len (js : List Jt) : (namesJ js).length ≤ js.length := by
  unfold namesJ strip
  rw [List.length_map]
  exact List.length_filterMap_le _ _
theorem namesJ_pos {js : List Jt} {x : It} (h : Jt.it x ∈ js) : 0 < (namesJ js).length := by
  refine List.length_pos_of_mem (a := x.nm) (List.mem_map.mpr ⟨x, List.mem_filterMap.mpr ⟨.it x, h, rfl⟩, rfl⟩)
def rename (z : Str) : It → It
  | .vr _ s a => .vr z s a
  | .sg _ t => .sg z t
  | .ag _ k ls => .ag z k ls
theorem LvI.rename {n : Nat} {x : It} {z : Str} (h : LvI n x) (hz : nameOk z = true) : LvI n (rename z x) := by
  cases x with
  | vr y s a => exact ⟨⟨hz, h.1.2⟩, h.2⟩
  | sg y t => exact ⟨hz, h.2⟩
  | ag y k ls => exact ⟨⟨hz, h.1.2⟩, h.2⟩
theorem rows_set {H : Hp} {xs : List V} {ls : List (List V)} (r : RowsAt H xs ls) {k : Nat} {t : Addr} {l : List V} (ht : H t = some (.tup l)) : RowsAt H (xs.set k (.ref t)) (ls.set k l) := by
  induction r generalizing k with
  | nil => exact .nil
  | cons a b ih =>
    cases k with
    | zero => exact .cons ht b
    | succ k => exact .cons a ih
theorem ag_lv {n : Nat} {z : Str} {k : Int} {ls ls' : List (List V)} (h : LvI n (.ag z k ls)) (l1 : 1 ≤ ls'.length) (l2 : ls'.length ≤ ls.length + 1) (n1 : n ≤ 1) (g : ∀ l ∈ ls', GoodStep (wsK k) l) : LvI (n + 1) (.ag z k ls') :=
  ⟨⟨h.1.1, h.1.2.1, h.1.2.2.1, l1, by have := h.2; omega, g⟩, by have := h.2; omega⟩
def spChanged7 : Sp := fun vs H Q _ => ∃ (p : Addr) (m : Nat) (c : Addr) (v : V) (o : Addr) (l : List V) (js : List Jt) (x : It) (n : Nat), vs = [.ref p, v, .ref o] ∧ PenAt c H p m ∧ m + 3 < 100000 ∧ H o = some (.lst l) ∧ o ≠ p ∧ JsAt [p] H l js ∧ js.length ≤ 30 ∧ (∀ y, Jt.it y ∈ js → nameOk y.nm = true) ∧ Jt.it x ∈ js ∧ ItemAt [p] H v x ∧ LvI n x ∧ n ≤ 1 ∧
  ∀ u y H', ItemAt [p] H' u y → LvI (n + 1) y → PenAt c H' p (m + 3) → Keep p H H' → Q u H'
end Net7
namespace Net7
open PySem PySem.Spec PyProof.Rows Lay NetL NetG Exv
open L2 hiding It
theorem cut_take4 (xs : List V) : cutV xs none (some 4) = xs.take 4 := by
  by_cases h : 4 ≤ xs.length
  · exact Lay.cut_take (k := 4) h
  · rw [List.take_of_length_le (by omega)]
    unfold cutV HT.sIx
    dsimp only
    have e : (if (4 : Int) < 0 then max (4 + (xs.length : Int)) 0 else min 4 (xs.length : Int)).toNat = xs.length ∨ True := .inr trivial
    simp only [List.drop_zero, Nat.sub_zero]
    refine List.take_of_length_le ?_
    split <;> omega
theorem step_name {ws : List Str} {w n n' : Str} (g : GoodStep ws [.str w, .str n]) (h : nameOk n' = true) : GoodStep ws [.str w, .str n'] := by
  rcases g with ⟨w1, n1, e, a, b, _⟩ | ⟨w1, n1, s, f, e1, e, _⟩
  · injection e with e2 _
    injection e2 with e2
    subst e2
    exact .inl ⟨w, n', rfl, a, b, h⟩
  · injection e with _ e2
    injection e2 with _ e3
    cases e3
theorem step_byte {ws : List Str} {w n n' : Str} {s f e : Int} (g : GoodStep ws [.str w, .str n, .int s, .int f, .int e]) (h : nameOk n' = true) : GoodStep ws [.str w, .str n', .int s, .int f, .int 7] := by
  rcases g with ⟨w1, n1, e1, _⟩ | ⟨w1, n1, s1, f1, e1, q, a, b, _, c0, c1, c2, c3, c4⟩
  · injection e1 with _ e2
    injection e2 with _ e3
    cases e3
  · injection q with q1 q
    injection q with q2 q
    injection q with q3 q
    injection q with q4 q
    injection q with q5 q
    injection q1 with q1
    injection q3 with q3
    injection q4 with q4
    injection q5 with q5
    subst q1 q3 q4 q5
    exact .inr ⟨w, n', s, f, 7, rfl, a, b, h, c0, c1, c2, by omega, by omega⟩
end Net7
end
section
namespace Net7
open PySem PySem.Spec PyProof.Rows Lay NetL NetG Exv
open L2 hiding It
def spSpoiled7 : Sp := fun vs H Q _ => ∃ (p : Addr) (m : Nat) (c a : Addr) (l : List V) (js : List Jt) (n : Nat), vs = [.ref p, .ref a] ∧ PenAt c H p m ∧ m + 20 < 100000 ∧ H a = some (.lst l) ∧ a ≠ p ∧ JsAt [p] H l js ∧ LvJs n js ∧ n ≤ 1 ∧
  ∀ r l' js' H', H' r = some (.lst l') → r ≠ p → JsAt [p] H' l' js' → LvJs (n + 1) js' → PenAt c H' p (m + 20) → Keep p H H' → Q (.ref r) H'
end Net7
namespace Net7
open PySem PySem.Spec PyProof.Rows Lay NetL NetG Exv
open L2 hiding It
theorem jtake {R : V → Jt → Prop} : ∀ {vs : List V} {xs : List Jt} (n : Nat), Paired R vs xs → Paired R (vs.take n) (xs.take n)
  | _, _, 0, _ => .nil
  | _, _, n + 1, .nil => .nil
  | _, _, n + 1, .cons a t => .cons a (jtake n t)
theorem jdrop {R : V → Jt → Prop} : ∀ {vs : List V} {xs : List Jt} (n : Nat), Paired R vs xs → Paired R (vs.drop n) (xs.drop n)
  | _, _, 0, h => h
  | _, _, n + 1, .nil => .nil
  | _, _, n + 1, .cons a t => jdrop n t
theorem jappend {R : V → Jt → Prop} : ∀ {vs ws : List V} {xs ys : List Jt}, Paired R vs xs → Paired R ws ys → Paired R (vs ++ ws) (xs ++ ys)
  | _, _, _, _, .nil, h => h
  | _, _, _, _, .cons a t, h => .cons a (jappend t h)
theorem lv_ins {n : Nat} {js new : List Jt} {k : Nat} (h : LvJs n js) (hn : ∀ j ∈ new, LvJ (n + 1) j) (l6 : new.length ≤ 6) : LvJs (n + 1) (js.take k ++ new ++ js.drop k) where
  ok := fun j m => by
    rcases List.mem_append.mp m with m | m
    · rcases List.mem_append.mp m with m | m
      · exact (h.ok j (List.mem_of_mem_take m)).up
      · exact hn j m
    · exact (h.ok j (List.mem_of_mem_drop m)).up
  len := by
    have := h.len
    rw [List.length_append, List.length_append, List.length_take, List.length_drop]
    omega
  ne := by
    have := h.ne
    rw [List.length_append, List.length_append, List.length_take, List.length_drop]
    omega
theorem lv_rep {n : Nat} {js : List Jt} {y : Jt} {k : Nat} (h : LvJs n js) (hk : k < js.length) (hn : LvJ (n + 1) y) : LvJs (n + 1) (js.take k ++ [y] ++ js.drop (k + 1)) where
  ok := fun j m => by
    rcases List.mem_append.mp m with m | m
    · rcases List.mem_append.mp m with m | m
      · exact (h.ok j (List.mem_of_mem_take m)).up
      · rw [List.mem_singleton] at m; subst m; exact hn
    · exact (h.ok j (List.mem_of_mem_drop m)).up
  len := by
    have := h.len
    rw [List.length_append, List.length_append, List.length_take, List.length_drop]
    show min k js.length + 1 + _ ≤ _
    omega
  ne := by
    rw [List.length_append, List.length_append]
    show 1 ≤ _ + 1 + _
    omega
theorem lv_up {n : Nat} {js : List Jt} (h : LvJs n js) : LvJs (n + 1) js := ⟨fun j m => (h.ok j m).up, by have := h.len; omega, h.ne⟩
theorem sign6 {i : Nat} (h : i < 6) : ∃ c, ("abcdef" : Str).cps.toList[i]? = some c ∧ nameOk (("w" : Str) ++ (⟨#[c]⟩ : Str)) = true ∧ nameOk (("t" : Str) ++ (⟨#[c]⟩ : Str)) = true ∧ nameOk (("b" : Str) ++ (⟨#[c]⟩ : Str)) = true := by
  obtain rfl | rfl | rfl | rfl | rfl | rfl : i = 0 ∨ i = 1 ∨ i = 2 ∨ i = 3 ∨ i = 4 ∨ i = 5 := by omega
  all_goals exact ⟨_, rfl, by decide +kernel, by decide +kernel, by decide +kernel⟩
theorem lv_w {n : Nat} {z : Str} {k : Nat} (hz : nameOk z = true) (h : k < 6) : LvI (n + 1) (.vr z 1 [600 + (k : Int)]) :=
  ⟨⟨hz, by decide, by decide, Nat.le_refl 1, Nat.le_of_ble_eq_true rfl, List.pairwise_singleton _ _, fun a m => by rw [List.mem_singleton] at m; omega⟩, fun e => by omega, fun _ => ⟨fun a m => by rw [List.mem_singleton] at m; omega, fun a m => by cases m⟩⟩
theorem lv_t {n : Nat} {z : Str} (hz : nameOk z = true) : LvI (n + 1) (.sg z 0) := ⟨hz, by decide, by decide⟩
theorem lv_b {n : Nat} {z : Str} (hz : nameOk z = true) : LvI (n + 1) (.ag z 0 [[.str "read", .str "va", .int 0, .int 0, .int 0]]) :=
  ⟨⟨hz, by decide, by decide, by decide, by decide, fun l m => by
    rw [List.mem_singleton] at m
    subst m
    exact .inr ⟨"read", "va", 0, 0, 0, rfl, by decide +kernel, by decide +kernel, by decide +kernel, by decide, by decide, by decide, by decide, by decide⟩⟩, by simp; omega⟩
end Net7
namespace Net7
open PySem PySem.Spec PyProof.Rows Lay NetL NetG Exv
open L2 hiding It
/-- what is no dict's place stays -/
theorem jat_dict {S : List Addr} {H : Hp} {D : Addr} {M N : List (Key × V)} (hD : H D = some (.dK M)) {t : Addr} : ∀ {j : Jt}, j.isTh = false → JAt S H (.ref t) j → JAt S (upd H D (.dK N)) (.ref t) j := by
  have k : ∀ b o, H b = some o → (∀ M, o ≠ .dK M) → (upd H D (.dK N)) b = some o := fun b o e n => by
    rw [upd_ne (fun z => by subst z; rw [hD] at e; cases e; exact n _ rfl)]
    exact e
  intro j nt h
  cases j with
  | th u => cases nt
  | it x =>
    cases x with
    | vr z s ats =>
      obtain ⟨a, b, e, h1, h2, n⟩ := h
      exact ⟨a, b, e, k _ _ h1 (fun _ z => nomatch z), k _ _ h2 (fun _ z => nomatch z), n⟩
    | sg z t =>
      obtain ⟨a, e, h1⟩ := h
      exact ⟨a, e, k _ _ h1 (fun _ z => nomatch z)⟩
    | ag z kk ls =>
      obtain ⟨a, b, ys, e, h1, h2, n, r⟩ := h
      exact ⟨a, b, ys, e, k _ _ h1 (fun _ z => nomatch z), k _ _ h2 (fun _ z => nomatch z), n, r.same fun b l e => k _ _ e (fun _ z => nomatch z)⟩
end Net7
end
section
namespace Net7
open PySem PySem.Spec PyProof.Rows Lay NetL NetG Exv
open L2 hiding It
theorem orE_len {α : Type} {o : Option α} {f : α → Str × Pl} {b : Option (Str × Pl)} (hf : ∀ k, (f k).1.length ≤ 100) (hb : ∀ x, b = some x → x.1.length ≤ 100) : ∀ x, orE o f b = some x → x.1.length ≤ 100 := by
  cases o with
  | none => exact hb
  | some k =>
    intro x e
    cases e
    exact hf k
/-- a part laid is at no list -/
theorem pj_off {S : List Addr} {C : Cs} {H H' : Hp} {v w : V} {D : Addr} {xs : List V} (hD : H' D = some (.lst xs)) (m : D ∈ S) : ∀ {j : Jt}, JAt S H v j → PJ C H' w j → w ≠ .ref D
  | .th u, ⟨a, e, h1, k, n⟩, ⟨e2, _⟩ => by
    rw [e2]
    exact n D m
  | .it (.vr z s ats), _, h => fun e => by
    subst e
    obtain ⟨x, e, dx, t, h1, _⟩ := h
    cases e
    rw [hD] at h1
    cases h1
  | .it (.sg z t), _, h => fun e => by
    subst e
    obtain ⟨x, e, dx, h1⟩ := h
    cases e
    rw [hD] at h1
    cases h1
  | .it (.ag z k ls), _, h => fun e => by
    subst e
    obtain ⟨x, e, dx, t, _, h1, _⟩ := h
    cases e
    rw [hD] at h1
    cases h1
theorem whyJ_len {ring : Int} {js : List Jt} : ∀ x, whyJ ring js = some x → x.1.length ≤ 100 := by
  unfold whyJ why
  exact orE_len (fun _ => Nat.le_of_ble_eq_true rfl) (orE_len (fun _ => Nat.le_of_ble_eq_true rfl) (orE_len (fun _ => Nat.le_of_ble_eq_true rfl) (orE_len (fun _ => Nat.le_of_ble_eq_true rfl) (orE_len (fun _ => Nat.le_of_ble_eq_true rfl) (orE_len (fun _ => Nat.le_of_ble_eq_true rfl) (orE_len (fun _ => Nat.le_of_ble_eq_true rfl) (fun x z => by cases z)))))))
theorem whyN_len {ln rg : V} {js : List Jt} {r : Str} {p : Pl} (h : whyN ln rg js = some (r, p)) : r.length ≤ 100 := by
  unfold whyN at h
  split at h
  · split at h
    · split at h
      · exact whyJ_len _ h
      · cases h; exact Nat.le_of_ble_eq_true rfl
    · cases h; exact Nat.le_of_ble_eq_true rfl
  · cases h; exact Nat.le_of_ble_eq_true rfl
/-- the rows handed: at no list D -/
def PJD (C : Cs) (D : Addr) (H : Hp) (v : V) (j : Jt) : Prop := PJ C H v j ∧ v ≠ .ref D
theorem PJD.mono {C : Cs} {D : Addr} {H H' : Hp} (s : Same H H') {v : V} {j : Jt} (h : PJD C D H v j) : PJD C D H' v j := ⟨h.1.mono s, h.2⟩
theorem PJD.upd {C : Cs} {D : Addr} {H : Hp} {xs ys : List V} (hD : H D = some (.lst xs)) {v : V} : ∀ {j : Jt}, PJD C D H v j → PJD C D (upd H D (.lst ys)) v j
  | .it x, ⟨h, n⟩ => ⟨(NetG.NL.upd hD).part h, n⟩
  | .th u, ⟨⟨e, k⟩, n⟩ => ⟨⟨e, k.same fun b o eb hb => by rw [upd_ne (fun z => n (by rw [e, eb, z]))]; exact hb⟩, n⟩
theorem pjs_of {C : Cs} {D : Addr} {H : Hp} {vs : List V} {js : List Jt} (h : Paired (PJD C D H) vs js) : PJs C H vs js := Paired.mono (fun _ _ k => k.1) h
theorem pj_fl {C : Cs} {H : Hp} {x : V} : ∀ {j : Jt}, PJ C H x j → flatV x = true ∨ ∃ c, x = .ref c
  | .th u, a => by rw [a.1]; exact Lay.Kz.fl a.2
  | .it (.vr _ _ _), ⟨y, e, _⟩ => .inr ⟨y, e⟩
  | .it (.sg _ _), ⟨y, e, _⟩ => .inr ⟨y, e⟩
  | .it (.ag _ _ _), ⟨y, e, _⟩ => .inr ⟨y, e⟩
theorem pjs_fl {C : Cs} {H : Hp} : ∀ {vs : List V} {js : List Jt}, PJs C H vs js → ∀ x ∈ vs, flatV x = true ∨ ∃ c, x = .ref c
  | _, _, .nil => fun x m => nomatch m
  | _, _, .cons a t => fun x m => by
    rcases List.mem_cons.mp m with rfl | m
    · exact pj_fl a
    · exact pjs_fl t x m
end Net7
end
local macro_rules | `(tactic| walk_at "kd") => `(tactic| repeat first
  | exact Lay.Kds.nil
  | refine Lay.Kds.cons (.int _) ?_
  | refine Lay.Kds.cons (.str _) ?_
  | refine Lay.Kds.cons .non ?_
  | refine Lay.Kds.cons (.bl _) ?_
  | refine Lay.Kds.cons (.lst (by assumption)) ?_
  | refine Lay.Kds.cons (.tup (by assumption)) ?_
  | refine Lay.Kds.cons (.dK (by assumption)) ?_)
local macro_rules | `(tactic| walk_at "sm") => `(tactic| first
  | exact L2.Same.refl _
  | assumption
  | ((with_reducible refine' Lay.Same.upd' ?_ ?_); (focus walk_at "sm"); (focus assumption)))
local macro_rules | `(tactic| walk_at "hp") => `(tactic| first
  | assumption
  | with_reducible exact L2.upd_same
  | ((with_reducible apply Lay.upd_old); (focus assumption); walk_at "hp")
  | ((with_reducible apply Lay.sqL_of); walk_at "hp")
  | ((with_reducible apply Lay.sqT_of); walk_at "hp")
  | ((with_reducible apply Lay.sqL_upd); (focus assumption); walk_at "hp")
  | ((with_reducible apply Lay.sqT_upd); (focus assumption); walk_at "hp"))
local macro_rules | `(tactic| walk_at "ar") => `(tactic| first
  | (show _ ≠ _; omega)
  | (show L2.CDivN _ _; exact ⟨by omega, by omega⟩)
  | (show L2.CMul _ _; exact .inl ⟨by omega, by omega⟩)
  | (show L2.CMul _ _; exact .inr ⟨by omega, by omega⟩)
  | (show L2.CPow _ _; exact ⟨by omega, by omega, by omega⟩))
local macro_rules | `(tactic| walk_at "r1") => `(tactic| first
  | with_reducible refine Lay.rd_seq ?_
  | with_reducible refine Lay.rd_asg ?_
  | with_reducible refine Lay.rd_ifS ?_
  | with_reducible refine Lay.rd_ret ?_
  | with_reducible refine Lay.rd_retN ?_
  | with_reducible refine Lay.rd_next ?_
  | with_reducible refine Lay.rd_drop ?_
  | with_reducible refine Lay.rd_name ?_
  | with_reducible refine Lay.rd_sub ?_
  | ((with_reducible refine' Lay.rd_var ?k1 ?_); (case k1 => rfl))
  | with_reducible refine Lay.rd_c ?_
  | with_reducible refine Lay.rd_op ?_
  | with_reducible refine Lay.rd_un ?_
  | with_reducible refine Lay.rd_I0 ?_
  | with_reducible refine Lay.rd_U ?_
  | with_reducible refine Lay.rd_tup ?_
  | with_reducible refine Lay.rd_lst ?_
  | with_reducible refine Lay.rd_cons ?_
  | with_reducible refine Lay.rd_nil ?_
  | with_reducible refine Lay.rd_star ?_
  | with_reducible refine Lay.rd_call ?_
  | with_reducible refine Lay.rd_CB ?_
  | with_reducible refine Lay.rd_test ?_
  | with_reducible refine Lay.rd_tB ?_
  | with_reducible refine Lay.rd_and ?_
  | with_reducible refine Lay.rd_or ?_
  | with_reducible refine Lay.rd_not ?_
  | with_reducible refine Lay.rd_andV ?_
  | with_reducible refine Lay.rd_orV ?_
  | with_reducible refine Lay.rd_notV ?_
  | with_reducible refine Lay.rd_tIf ?_
  | with_reducible refine Lay.rd_sl ?_
  | with_reducible refine Lay.rd_noP ?_
  | with_reducible refine Lay.rd_part ?_
  | with_reducible refine Lay.rd_int ?_
  | with_reducible refine Lay.rd_intB ?_
  | with_reducible refine Lay.rd_abs ?_
  | ((with_reducible refine' Lay.rd_ixL ?k1 ?k2 ?_); (case k1 => walk_at "hp"); (case k2 => rfl))
  | ((with_reducible refine' Lay.rd_ixT ?k1 ?k2 ?_); (case k1 => walk_at "hp"); (case k2 => rfl))
  | ((with_reducible refine' Lay.rd_setL ?k1 ?k2 ?_); (case k1 => walk_at "hp"); (case k2 => rfl))
  | ((with_reducible refine' Lay.rd_lenL ?k1 ?_); (case k1 => walk_at "hp"))
  | ((with_reducible refine' Lay.rd_lenT ?k1 ?_); (case k1 => walk_at "hp"))
  | ((with_reducible refine' Lay.rd_I ?k1 ?_); (case k1 => walk_at "ar"))
  | with_reducible refine Lay.rd_lc ?_
  | with_reducible refine Lay.rd_iStr ?_
  | with_reducible refine Lay.rd_iList ?_
  | with_reducible refine Lay.rd_iTup ?_
  | with_reducible refine Lay.rd_iRng1 ?_
  | with_reducible refine Lay.rd_iEnumT ?_
  | with_reducible refine Lay.rd_yes ?_
  | with_reducible refine Lay.rd_sign ?_
  | with_reducible refine Lay.rd_chain ?_
  | with_reducible refine Lay.rd_gcons ?_
  | with_reducible refine Lay.rd_gnil ?_
  | ((with_reducible refine' Lay.rd_gtup ?k1 ?k2 ?_); (case k1 => walk_at "hp"); (case k2 => rfl))
  | with_reducible refine Lay.rd_eqI ?_
  | with_reducible refine Lay.rd_neI ?_
  | with_reducible refine Lay.rd_eqS ?_
  | with_reducible refine Lay.rd_neS ?_
  | with_reducible refine Lay.rd_eqB ?_
  | with_reducible refine Lay.rd_neB ?_
  | with_reducible refine Lay.rd_exb ?_
  | with_reducible refine Lay.rd_exi ?_
  | with_reducible refine Lay.rd_exs ?_
  | with_reducible refine Lay.rd_exr ?_)
local macro_rules | `(tactic| walk_at "rd") => `(tactic| ((repeat walk_at "r1"); (try dsimp only [List.set, Int.reduceToNat, List.length_cons, List.length_nil, List.nil_append, List.cons_append, List.append_nil])))
local macro_rules | `(tactic| walk_at "in") => `(tactic| (dsimp only [L2.cxOf, L2.start, List.map, List.length_cons, List.length_nil, Nat.reduceAdd, Nat.reduceSub, List.replicate_succ, List.replicate_zero, List.cons_append, List.nil_append]))
local macro_rules | `(tactic| walk_at "it") => `(tactic| ((repeat first | walk_at "r1" | with_reducible refine L2.iteT ?_ | with_reducible refine L2.iteF ?_ | with_reducible refine Lay.iteNT ?_ | with_reducible refine Lay.iteNF ?_); (try dsimp only [List.set, Int.reduceToNat, List.length_cons, List.length_nil, List.nil_append, List.cons_append, List.append_nil])))
namespace My
open PySem L2
structure Adr where
  a_NoPart_init : Addr
  d_NoPart_init : FuncData
  a_NoNet_init : Addr
  d_NoNet_init : FuncData
  a_is_integer : Addr
  d_is_integer : FuncData
  a_is_within : Addr
  d_is_within : FuncData
  a_is_name : Addr
  d_is_name : FuncData
  a_is_step : Addr
  d_is_step : FuncData
  a_is_memory_step : Addr
  d_is_memory_step : FuncData
  a_concerns_signal : Addr
  d_concerns_signal : FuncData
  a_check_agent : Addr
  d_check_agent : FuncData
  a_Agent_init : Addr
  d_Agent_init : FuncData
  a_Agent_made : Addr
  d_Agent_made : FuncData
  a_Through_init : Addr
  d_Through_init : FuncData
  a_Through_made : Addr
  d_Through_made : FuncData
  a_Back_init : Addr
  d_Back_init : FuncData
  a_Back_made : Addr
  d_Back_made : FuncData
  a_Signal_init : Addr
  d_Signal_init : FuncData
  a_Variable_init : Addr
  d_Variable_init : FuncData
  a_Variable_made : Addr
  d_Variable_made : FuncData
  a_check_addresses : Addr
  d_check_addresses : FuncData
  a_check_slots_apart : Addr
  d_check_slots_apart : FuncData
  a_Net_init : Addr
  d_Net_init : FuncData
  a_Net_made : Addr
  d_Net_made : FuncData
  a_check_parts : Addr
  d_check_parts : FuncData
  a_check_many : Addr
  d_check_many : FuncData
  a_check_names : Addr
  d_check_names : FuncData
  a_check_bytes : Addr
  d_check_bytes : FuncData
  a_check_steps : Addr
  d_check_steps : FuncData
  a_check_signals : Addr
  d_check_signals : FuncData
  a_pen : Addr
  d_pen : FuncData
  a_draw : Addr
  d_draw : FuncData
  a_thing : Addr
  d_thing : FuncData
  a_steps : Addr
  d_steps : FuncData
  a_items : Addr
  d_items : FuncData
  a_shuffled : Addr
  d_shuffled : FuncData
  a_part : Addr
  d_part : FuncData
  a_within : Addr
  d_within : FuncData
  a_free : Addr
  d_free : FuncData
  a_changed : Addr
  d_changed : FuncData
  a_spoiled : Addr
  d_spoiled : FuncData
  a_parts_wrong : Addr
  d_parts_wrong : FuncData
  a_variables_wrong : Addr
  d_variables_wrong : FuncData
  a_steps_wrong : Addr
  d_steps_wrong : FuncData
  a_wanted : Addr
  d_wanted : FuncData
  a_direct : Addr
  d_direct : FuncData
  a_asked : Addr
  d_asked : FuncData
  a_right : Addr
  d_right : FuncData
  a_round : Addr
  d_round : FuncData
  a_law : Addr
  d_law : FuncData
  c_UnkeptError : Addr
  c_NoPart : Addr
  c_NoNet : Addr
  c_NoName : Addr
  c_NoStep : Addr
  c_NoDeed : Addr
  c_NoText : Addr
  c_NoRow : Addr
  c_Agent : Addr
  c_Through : Addr
  c_Back : Addr
  c_Variable : Addr
  c_Signal : Addr
  c_Net : Addr
  t_LETTERS : Tok
  t_LONGEST_NAME : Tok
  t_ACCESS_WORDS : Addr
  t_UPKEEP_WORDS : Addr
  t_SIGNAL_WORDS : Addr
  t_PLAIN_WORDS : Addr
  t_CACHE_WORDS : Addr
  t_GREATEST_SHIFT : Tok
  t_GREATEST_BYTE : Tok
  t_MOST_STEPS : Tok
  t_MOST_TOKENS : Tok
  t_GREATEST_SIZE : Tok
  t_MOST_SLOTS : Tok
  t_ADDRESSES : Tok
  t_MOST_AGENTS : Tok
  t_MOST_VARIABLES : Tok
  t_MOST_SIGNALS : Tok
  t_LONGEST_RING : Tok
  t_LINES : Addr
structure Txt (K : PySem.W.Frag) (mg : Str → Option Value) (A : Adr) : Prop where
  n_ValueError : mg "ValueError" = none
  n_max : mg "max" = none
  n_list : mg "list" = none
  n_int : mg "int" = none
  n_len : mg "len" = none
  n_abs : mg "abs" = none
  n_isinstance : mg "isinstance" = none
  n_str : mg "str" = none
  n_bool : mg "bool" = none
  n_tuple : mg "tuple" = none
  n_all : mg "all" = none
  n_any : mg "any" = none
  n_enumerate : mg "enumerate" = none
  n_range : mg "range" = none
  n_reversed : mg "reversed" = none
  k_LETTERS : mg "LETTERS" = some (.str "abcdefghijklmnopqrstuvwxyz" A.t_LETTERS)
  k_LONGEST_NAME : mg "LONGEST_NAME" = some (.int 8 A.t_LONGEST_NAME)
  k_ACCESS_WORDS : mg "ACCESS_WORDS" = some (.ref A.t_ACCESS_WORDS)
  q_ACCESS_WORDS : ∀ H, SqT K H A.t_ACCESS_WORDS [V.str "read", V.str "write", V.str "get", V.str "put"]
  k_UPKEEP_WORDS : mg "UPKEEP_WORDS" = some (.ref A.t_UPKEEP_WORDS)
  q_UPKEEP_WORDS : ∀ H, SqT K H A.t_UPKEEP_WORDS [V.str "clean", V.str "drop", V.str "flush"]
  k_SIGNAL_WORDS : mg "SIGNAL_WORDS" = some (.ref A.t_SIGNAL_WORDS)
  q_SIGNAL_WORDS : ∀ H, SqT K H A.t_SIGNAL_WORDS [V.str "post", V.str "wait"]
  k_PLAIN_WORDS : mg "PLAIN_WORDS" = some (.ref A.t_PLAIN_WORDS)
  q_PLAIN_WORDS : ∀ H, SqT K H A.t_PLAIN_WORDS [V.str "read", V.str "write", V.str "post", V.str "wait"]
  k_CACHE_WORDS : mg "CACHE_WORDS" = some (.ref A.t_CACHE_WORDS)
  q_CACHE_WORDS : ∀ H, SqT K H A.t_CACHE_WORDS [V.str "read", V.str "write", V.str "get", V.str "put", V.str "clean", V.str "drop", V.str "flush", V.str "post", V.str "wait"]
  k_GREATEST_SHIFT : mg "GREATEST_SHIFT" = some (.int 3 A.t_GREATEST_SHIFT)
  k_GREATEST_BYTE : mg "GREATEST_BYTE" = some (.int 7 A.t_GREATEST_BYTE)
  k_MOST_STEPS : mg "MOST_STEPS" = some (.int 24 A.t_MOST_STEPS)
  k_MOST_TOKENS : mg "MOST_TOKENS" = some (.int 3 A.t_MOST_TOKENS)
  k_GREATEST_SIZE : mg "GREATEST_SIZE" = some (.int 8 A.t_GREATEST_SIZE)
  k_MOST_SLOTS : mg "MOST_SLOTS" = some (.int 4 A.t_MOST_SLOTS)
  k_ADDRESSES : mg "ADDRESSES" = some (.int 1024 A.t_ADDRESSES)
  k_MOST_AGENTS : mg "MOST_AGENTS" = some (.int 4 A.t_MOST_AGENTS)
  k_MOST_VARIABLES : mg "MOST_VARIABLES" = some (.int 6 A.t_MOST_VARIABLES)
  k_MOST_SIGNALS : mg "MOST_SIGNALS" = some (.int 6 A.t_MOST_SIGNALS)
  k_LONGEST_RING : mg "LONGEST_RING" = some (.int 4 A.t_LONGEST_RING)
  F_NoPart_init : Fun K "__init__" "NoPart.__init__" s_NoPart_init A.a_NoPart_init A.d_NoPart_init
  b_NoPart_init : Binds K A.d_NoPart_init ["self", "reason", "place"] []
  F_NoNet_init : Fun K "__init__" "NoNet.__init__" s_NoNet_init A.a_NoNet_init A.d_NoNet_init
  b_NoNet_init : Binds K A.d_NoNet_init ["self", "reason", "place"] []
  F_is_integer : Fun K "is_integer" "is_integer" s_is_integer A.a_is_integer A.d_is_integer
  g_is_integer : mg "is_integer" = some (.ref A.a_is_integer)
  b_is_integer : Binds K A.d_is_integer ["value"] []
  F_is_within : Fun K "is_within" "is_within" s_is_within A.a_is_within A.d_is_within
  g_is_within : mg "is_within" = some (.ref A.a_is_within)
  b_is_within : Binds K A.d_is_within ["value", "low", "high"] []
  F_is_name : Fun K "is_name" "is_name" s_is_name A.a_is_name A.d_is_name
  g_is_name : mg "is_name" = some (.ref A.a_is_name)
  b_is_name : Binds K A.d_is_name ["value"] []
  F_is_step : Fun K "is_step" "is_step" s_is_step A.a_is_step A.d_is_step
  g_is_step : mg "is_step" = some (.ref A.a_is_step)
  b_is_step : Binds K A.d_is_step ["value"] []
  F_is_memory_step : Fun K "_is_memory_step" "_is_memory_step" s_is_memory_step A.a_is_memory_step A.d_is_memory_step
  g_is_memory_step : mg "_is_memory_step" = some (.ref A.a_is_memory_step)
  b_is_memory_step : Binds K A.d_is_memory_step ["value"] []
  F_concerns_signal : Fun K "concerns_signal" "concerns_signal" s_concerns_signal A.a_concerns_signal A.d_concerns_signal
  g_concerns_signal : mg "concerns_signal" = some (.ref A.a_concerns_signal)
  b_concerns_signal : Binds K A.d_concerns_signal ["step"] []
  F_check_agent : Fun K "_check_agent" "_check_agent" s_check_agent A.a_check_agent A.d_check_agent
  g_check_agent : mg "_check_agent" = some (.ref A.a_check_agent)
  b_check_agent : Binds K A.d_check_agent ["name", "steps", "words"] []
  F_Agent_init : Fun K "__init__" "Agent.__init__" s_Agent_init A.a_Agent_init A.d_Agent_init
  F_Agent_made : Fun K "made" "Agent.made" s_Agent_made A.a_Agent_made A.d_Agent_made
  cm_Agent_made : ∃ p, ClX.CMet K A.c_Agent (.type "type") "made" p A.a_Agent_made
  b_Agent_made : Binds K A.d_Agent_made ["cls", "name", "steps"] []
  F_Through_init : Fun K "__init__" "Through.__init__" s_Through_init A.a_Through_init A.d_Through_init
  F_Through_made : Fun K "made" "Through.made" s_Through_made A.a_Through_made A.d_Through_made
  cm_Through_made : ∃ p, ClX.CMet K A.c_Through (.type "type") "made" p A.a_Through_made
  b_Through_made : Binds K A.d_Through_made ["cls", "name", "steps"] []
  F_Back_init : Fun K "__init__" "Back.__init__" s_Back_init A.a_Back_init A.d_Back_init
  F_Back_made : Fun K "made" "Back.made" s_Back_made A.a_Back_made A.d_Back_made
  cm_Back_made : ∃ p, ClX.CMet K A.c_Back (.type "type") "made" p A.a_Back_made
  b_Back_made : Binds K A.d_Back_made ["cls", "name", "steps"] []
  F_Signal_init : FunD K "__init__" "Signal.__init__" (defArgs s_Signal_init) (defBody s_Signal_init) (defScope s_Signal_init) [V.int 0] [] A.a_Signal_init A.d_Signal_init
  F_Variable_init : Fun K "__init__" "Variable.__init__" s_Variable_init A.a_Variable_init A.d_Variable_init
  F_Variable_made : Fun K "made" "Variable.made" s_Variable_made A.a_Variable_made A.d_Variable_made
  cm_Variable_made : ∃ p, ClX.CMet K A.c_Variable (.type "type") "made" p A.a_Variable_made
  b_Variable_made : Binds K A.d_Variable_made ["cls", "name", "size", "at"] []
  F_check_addresses : Fun K "_check_addresses" "_check_addresses" s_check_addresses A.a_check_addresses A.d_check_addresses
  g_check_addresses : mg "_check_addresses" = some (.ref A.a_check_addresses)
  b_check_addresses : Binds K A.d_check_addresses ["size", "at"] []
  F_check_slots_apart : Fun K "_check_slots_apart" "_check_slots_apart" s_check_slots_apart A.a_check_slots_apart A.d_check_slots_apart
  g_check_slots_apart : mg "_check_slots_apart" = some (.ref A.a_check_slots_apart)
  b_check_slots_apart : Binds K A.d_check_slots_apart ["size", "at"] []
  F_Net_init : FunD K "__init__" "Net.__init__" (defArgs s_Net_init) (defBody s_Net_init) (defScope s_Net_init) [] [("line", V.int 8), ("ring", V.int 1)] A.a_Net_init A.d_Net_init
  F_Net_made : FunD K "made" "Net.made" (defArgs s_Net_made) (defBody s_Net_made) (defScope s_Net_made) [] [("line", V.int 8), ("ring", V.int 1)] A.a_Net_made A.d_Net_made
  cm_Net_made : ∃ p, ClX.CMet K A.c_Net (.type "type") "made" p A.a_Net_made
  F_check_parts : Fun K "_check_parts" "_check_parts" s_check_parts A.a_check_parts A.d_check_parts
  g_check_parts : mg "_check_parts" = some (.ref A.a_check_parts)
  b_check_parts : Binds K A.d_check_parts ["parts", "ring"] []
  F_check_many : Fun K "_check_many" "_check_many" s_check_many A.a_check_many A.d_check_many
  g_check_many : mg "_check_many" = some (.ref A.a_check_many)
  b_check_many : Binds K A.d_check_many ["parts"] []
  F_check_names : Fun K "_check_names" "_check_names" s_check_names A.a_check_names A.d_check_names
  g_check_names : mg "_check_names" = some (.ref A.a_check_names)
  b_check_names : Binds K A.d_check_names ["parts"] []
  F_check_bytes : Fun K "_check_bytes" "_check_bytes" s_check_bytes A.a_check_bytes A.d_check_bytes
  g_check_bytes : mg "_check_bytes" = some (.ref A.a_check_bytes)
  b_check_bytes : Binds K A.d_check_bytes ["parts"] []
  F_check_steps : Fun K "_check_steps" "_check_steps" s_check_steps A.a_check_steps A.d_check_steps
  g_check_steps : mg "_check_steps" = some (.ref A.a_check_steps)
  b_check_steps : Binds K A.d_check_steps ["parts", "agents"] []
  F_check_signals : Fun K "_check_signals" "_check_signals" s_check_signals A.a_check_signals A.d_check_signals
  g_check_signals : mg "_check_signals" = some (.ref A.a_check_signals)
  b_check_signals : Binds K A.d_check_signals ["parts", "agents"] []
  F_pen : Fun K "_law_pen" "_law_pen" s_pen A.a_pen A.d_pen
  g_pen : mg "_law_pen" = some (.ref A.a_pen)
  b_pen : Binds K A.d_pen ["_law_script"] []
  F_draw : Fun K "_law_draw" "_law_draw" s_draw A.a_draw A.d_draw
  g_draw : mg "_law_draw" = some (.ref A.a_draw)
  b_draw : Binds K A.d_draw ["_law_pen_here", "_law_many"] []
  F_thing : Fun K "_law_thing" "_law_thing" s_thing A.a_thing A.d_thing
  g_thing : mg "_law_thing" = some (.ref A.a_thing)
  b_thing : Binds K A.d_thing ["_law_pen_here"] []
  F_steps : Fun K "_law_steps" "_law_steps" s_steps A.a_steps A.d_steps
  g_steps : mg "_law_steps" = some (.ref A.a_steps)
  b_steps : Binds K A.d_steps ["_law_pen_here", "_law_kind", "_law_variables_here", "_law_signalled"] []
  F_items : Fun K "_law_items" "_law_items" s_items A.a_items A.d_items
  g_items : mg "_law_items" = some (.ref A.a_items)
  b_items : Binds K A.d_items ["_law_pen_here", "_law_slots_here"] []
  F_shuffled : Fun K "_law_shuffled" "_law_shuffled" s_shuffled A.a_shuffled A.d_shuffled
  g_shuffled : mg "_law_shuffled" = some (.ref A.a_shuffled)
  b_shuffled : Binds K A.d_shuffled ["_law_pen_here", "_law_items_here"] []
  F_part : Fun K "_law_part" "_law_part" s_part A.a_part A.d_part
  g_part : mg "_law_part" = some (.ref A.a_part)
  b_part : Binds K A.d_part ["_law_item"] []
  F_within : Fun K "_law_within" "_law_within" s_within A.a_within A.d_within
  g_within : mg "_law_within" = some (.ref A.a_within)
  b_within : Binds K A.d_within ["_law_value", "_law_least", "_law_greatest"] []
  F_free : Fun K "_law_free" "_law_free" s_free A.a_free A.d_free
  g_free : mg "_law_free" = some (.ref A.a_free)
  b_free : Binds K A.d_free ["_law_pen_here", "_law_own"] []
  F_changed : Fun K "_law_changed" "_law_changed" s_changed A.a_changed A.d_changed
  g_changed : mg "_law_changed" = some (.ref A.a_changed)
  b_changed : Binds K A.d_changed ["_law_pen_here", "_law_item", "_law_others"] []
  F_spoiled : Fun K "_law_spoiled" "_law_spoiled" s_spoiled A.a_spoiled A.d_spoiled
  g_spoiled : mg "_law_spoiled" = some (.ref A.a_spoiled)
  b_spoiled : Binds K A.d_spoiled ["_law_pen_here", "_law_items_here"] []
  F_parts_wrong : Fun K "_law_parts_wrong" "_law_parts_wrong" s_parts_wrong A.a_parts_wrong A.d_parts_wrong
  g_parts_wrong : mg "_law_parts_wrong" = some (.ref A.a_parts_wrong)
  b_parts_wrong : Binds K A.d_parts_wrong ["_law_items_here"] []
  F_variables_wrong : Fun K "_law_variables_wrong" "_law_variables_wrong" s_variables_wrong A.a_variables_wrong A.d_variables_wrong
  g_variables_wrong : mg "_law_variables_wrong" = some (.ref A.a_variables_wrong)
  b_variables_wrong : Binds K A.d_variables_wrong ["_law_items_here", "_law_slots_here"] []
  F_steps_wrong : Fun K "_law_steps_wrong" "_law_steps_wrong" s_steps_wrong A.a_steps_wrong A.d_steps_wrong
  g_steps_wrong : mg "_law_steps_wrong" = some (.ref A.a_steps_wrong)
  b_steps_wrong : Binds K A.d_steps_wrong ["_law_items_here"] []
  F_wanted : Fun K "_law_wanted" "_law_wanted" s_wanted A.a_wanted A.d_wanted
  g_wanted : mg "_law_wanted" = some (.ref A.a_wanted)
  b_wanted : Binds K A.d_wanted ["_law_items_here", "_law_width", "_law_slots_here"] []
  F_direct : Fun K "_law_direct" "_law_direct" s_direct A.a_direct A.d_direct
  g_direct : mg "_law_direct" = some (.ref A.a_direct)
  b_direct : Binds K A.d_direct ["_law_handed", "_law_width", "_law_slots_here"] []
  F_asked : Fun K "_law_asked" "_law_asked" s_asked A.a_asked A.d_asked
  g_asked : mg "_law_asked" = some (.ref A.a_asked)
  b_asked : Binds K A.d_asked ["_law_handed", "_law_width", "_law_slots_here", "_law_direct_here"] []
  F_right : Fun K "_law_right" "_law_right" s_right A.a_right A.d_right
  g_right : mg "_law_right" = some (.ref A.a_right)
  b_right : Binds K A.d_right ["_law_found", "_law_wanted_here", "_law_items_here", "_law_handed", "_law_width", "_law_slots_here"] []
  F_round : Fun K "_law_round" "_law_round" s_round A.a_round A.d_round
  g_round : mg "_law_round" = some (.ref A.a_round)
  b_round : Binds K A.d_round ["_law_pen_here"] []
  F_law : Fun K "law" "law" s_law A.a_law A.d_law
  g_law : mg "law" = some (.ref A.a_law)
  b_law : Binds K A.d_law ["_law_script"] []
  g_UnkeptError : mg "UnkeptError" = some (.ref A.c_UnkeptError)
  g_NoPart : mg "NoPart" = some (.ref A.c_NoPart)
  g_NoNet : mg "NoNet" = some (.ref A.c_NoNet)
  g_NoName : mg "NoName" = some (.ref A.c_NoName)
  g_NoStep : mg "NoStep" = some (.ref A.c_NoStep)
  g_NoDeed : mg "NoDeed" = some (.ref A.c_NoDeed)
  g_NoText : mg "NoText" = some (.ref A.c_NoText)
  g_NoRow : mg "NoRow" = some (.ref A.c_NoRow)
  g_Agent : mg "Agent" = some (.ref A.c_Agent)
  cl_Agent : Cls K A.c_Agent
  na_Agent_name : NoAttr K A.c_Agent "name"
  na_Agent_steps : NoAttr K A.c_Agent "steps"
  mk_Agent : Mk K A.c_Agent A.a_Agent_init
  g_Through : mg "Through" = some (.ref A.c_Through)
  cl_Through : Cls K A.c_Through
  na_Through_name : NoAttr K A.c_Through "name"
  na_Through_steps : NoAttr K A.c_Through "steps"
  mk_Through : Mk K A.c_Through A.a_Through_init
  g_Back : mg "Back" = some (.ref A.c_Back)
  cl_Back : Cls K A.c_Back
  na_Back_name : NoAttr K A.c_Back "name"
  na_Back_steps : NoAttr K A.c_Back "steps"
  mk_Back : Mk K A.c_Back A.a_Back_init
  g_Variable : mg "Variable" = some (.ref A.c_Variable)
  cl_Variable : Cls K A.c_Variable
  na_Variable_name : NoAttr K A.c_Variable "name"
  na_Variable_size : NoAttr K A.c_Variable "size"
  na_Variable_at : NoAttr K A.c_Variable "at"
  mk_Variable : Mk K A.c_Variable A.a_Variable_init
  g_Signal : mg "Signal" = some (.ref A.c_Signal)
  cl_Signal : Cls K A.c_Signal
  na_Signal_name : NoAttr K A.c_Signal "name"
  na_Signal_tokens : NoAttr K A.c_Signal "tokens"
  mk_Signal : Mk K A.c_Signal A.a_Signal_init
  g_Net : mg "Net" = some (.ref A.c_Net)
  cl_Net : Cls K A.c_Net
  na_Net_line : NoAttr K A.c_Net "line"
  na_Net_ring : NoAttr K A.c_Net "ring"
  na_Net_variables : NoAttr K A.c_Net "variables"
  na_Net_signals : NoAttr K A.c_Net "signals"
  na_Net_agents : NoAttr K A.c_Net "agents"
  na_Net__named : NoAttr K A.c_Net "_named"
  mk_Net : Mk K A.c_Net A.a_Net_init
  ox_NoPart : OexC K A.c_NoPart
  xf_NoPart : XfC K A.c_NoPart
  xc_NoPart : ExcC K A.c_NoPart
  ie_NoPart : PySem.W.findIn K (.ref A.c_NoPart) "__init__" = some (some (.ref A.a_NoPart_init))
  it_NoPart : PySem.W.typeIn K (.ref A.a_NoPart_init) = some (.type "function")
  nf_NoPart_reason : PySem.W.findIn K (.ref A.c_NoPart) "reason" = some none
  nf_NoPart_place : PySem.W.findIn K (.ref A.c_NoPart) "place" = some none
  em_NoPart : PySem.W.exmOne K (.ref A.c_NoPart) (.ref A.c_UnkeptError) = some true
  ox_NoNet : OexC K A.c_NoNet
  xf_NoNet : XfC K A.c_NoNet
  xc_NoNet : ExcC K A.c_NoNet
  ie_NoNet : PySem.W.findIn K (.ref A.c_NoNet) "__init__" = some (some (.ref A.a_NoNet_init))
  it_NoNet : PySem.W.typeIn K (.ref A.a_NoNet_init) = some (.type "function")
  nf_NoNet_reason : PySem.W.findIn K (.ref A.c_NoNet) "reason" = some none
  nf_NoNet_place : PySem.W.findIn K (.ref A.c_NoNet) "place" = some none
  em_NoNet : PySem.W.exmOne K (.ref A.c_NoNet) (.ref A.c_UnkeptError) = some true
  ki_NoNet_NoNet : PySem.W.kitOne K (.ref A.c_NoNet) (.ref A.c_NoNet) = some true
  ki_NoNet_NoPart : PySem.W.kitOne K (.ref A.c_NoNet) (.ref A.c_NoPart) = some false
  ki_NoNet_NoName : PySem.W.kitOne K (.ref A.c_NoNet) (.ref A.c_NoName) = some false
  ki_NoNet_NoStep : PySem.W.kitOne K (.ref A.c_NoNet) (.ref A.c_NoStep) = some false
  ki_NoNet_NoDeed : PySem.W.kitOne K (.ref A.c_NoNet) (.ref A.c_NoDeed) = some false
  ki_NoNet_NoText : PySem.W.kitOne K (.ref A.c_NoNet) (.ref A.c_NoText) = some false
  ki_NoNet_NoRow : PySem.W.kitOne K (.ref A.c_NoNet) (.ref A.c_NoRow) = some false
  kt_NoNet_ValueError : PySem.W.kitOne K (.ref A.c_NoNet) (.type "ValueError") = some true
  in_Agent : ∀ (H : Hp) (a dx : Addr) (fs : List (Str × V)), H a = some (.ins A.c_Agent dx fs) → TyX K H (.ref a) (.ref A.c_Agent)
  cr_Agent : ClX.CRead K A.c_Agent (.type "type")
  in_Through : ∀ (H : Hp) (a dx : Addr) (fs : List (Str × V)), H a = some (.ins A.c_Through dx fs) → TyX K H (.ref a) (.ref A.c_Through)
  cr_Through : ClX.CRead K A.c_Through (.type "type")
  in_Back : ∀ (H : Hp) (a dx : Addr) (fs : List (Str × V)), H a = some (.ins A.c_Back dx fs) → TyX K H (.ref a) (.ref A.c_Back)
  cr_Back : ClX.CRead K A.c_Back (.type "type")
  in_Variable : ∀ (H : Hp) (a dx : Addr) (fs : List (Str × V)), H a = some (.ins A.c_Variable dx fs) → TyX K H (.ref a) (.ref A.c_Variable)
  cr_Variable : ClX.CRead K A.c_Variable (.type "type")
  in_Signal : ∀ (H : Hp) (a dx : Addr) (fs : List (Str × V)), H a = some (.ins A.c_Signal dx fs) → TyX K H (.ref a) (.ref A.c_Signal)
  in_Net : ∀ (H : Hp) (a dx : Addr) (fs : List (Str × V)), H a = some (.ins A.c_Net dx fs) → TyX K H (.ref a) (.ref A.c_Net)
  cr_Net : ClX.CRead K A.c_Net (.type "type")
  co_LINES : ∃ u, Con K A.c_Net "LINES" (.ref A.t_LINES) u
  q_LINES : ∀ H, SqT K H A.t_LINES [.int 1, .int 2, .int 4, .int 8, .int 16]
  ki_Agent_Variable : PySem.W.kitOne K (.ref A.c_Agent) (.ref A.c_Variable) = some false
  ki_Agent_Signal : PySem.W.kitOne K (.ref A.c_Agent) (.ref A.c_Signal) = some false
  ki_Agent_Agent : PySem.W.kitOne K (.ref A.c_Agent) (.ref A.c_Agent) = some true
  ki_Through_Variable : PySem.W.kitOne K (.ref A.c_Through) (.ref A.c_Variable) = some false
  ki_Through_Signal : PySem.W.kitOne K (.ref A.c_Through) (.ref A.c_Signal) = some false
  ki_Through_Agent : PySem.W.kitOne K (.ref A.c_Through) (.ref A.c_Agent) = some true
  ki_Back_Variable : PySem.W.kitOne K (.ref A.c_Back) (.ref A.c_Variable) = some false
  ki_Back_Signal : PySem.W.kitOne K (.ref A.c_Back) (.ref A.c_Signal) = some false
  ki_Back_Agent : PySem.W.kitOne K (.ref A.c_Back) (.ref A.c_Agent) = some true
  ki_Variable_Variable : PySem.W.kitOne K (.ref A.c_Variable) (.ref A.c_Variable) = some true
  ki_Variable_Signal : PySem.W.kitOne K (.ref A.c_Variable) (.ref A.c_Signal) = some false
  ki_Variable_Agent : PySem.W.kitOne K (.ref A.c_Variable) (.ref A.c_Agent) = some false
  ki_Signal_Variable : PySem.W.kitOne K (.ref A.c_Signal) (.ref A.c_Variable) = some false
  ki_Signal_Signal : PySem.W.kitOne K (.ref A.c_Signal) (.ref A.c_Signal) = some true
  ki_Signal_Agent : PySem.W.kitOne K (.ref A.c_Signal) (.ref A.c_Agent) = some false
  ki_Net_Net : PySem.W.kitOne K (.ref A.c_Net) (.ref A.c_Net) = some true
  sp_NoneType_Variable : PySem.W.subIn K (.type "NoneType") (.ref A.c_Variable) = some false
  kp_NoneType_Variable : PySem.W.kitOne K (.type "NoneType") (.ref A.c_Variable) = some false
  sp_NoneType_Signal : PySem.W.subIn K (.type "NoneType") (.ref A.c_Signal) = some false
  kp_NoneType_Signal : PySem.W.kitOne K (.type "NoneType") (.ref A.c_Signal) = some false
  sp_NoneType_Agent : PySem.W.subIn K (.type "NoneType") (.ref A.c_Agent) = some false
  kp_NoneType_Agent : PySem.W.kitOne K (.type "NoneType") (.ref A.c_Agent) = some false
  sp_bool_Variable : PySem.W.subIn K (.type "bool") (.ref A.c_Variable) = some false
  kp_bool_Variable : PySem.W.kitOne K (.type "bool") (.ref A.c_Variable) = some false
  sp_bool_Signal : PySem.W.subIn K (.type "bool") (.ref A.c_Signal) = some false
  kp_bool_Signal : PySem.W.kitOne K (.type "bool") (.ref A.c_Signal) = some false
  sp_bool_Agent : PySem.W.subIn K (.type "bool") (.ref A.c_Agent) = some false
  kp_bool_Agent : PySem.W.kitOne K (.type "bool") (.ref A.c_Agent) = some false
  sp_int_Variable : PySem.W.subIn K (.type "int") (.ref A.c_Variable) = some false
  kp_int_Variable : PySem.W.kitOne K (.type "int") (.ref A.c_Variable) = some false
  sp_int_Signal : PySem.W.subIn K (.type "int") (.ref A.c_Signal) = some false
  kp_int_Signal : PySem.W.kitOne K (.type "int") (.ref A.c_Signal) = some false
  sp_int_Agent : PySem.W.subIn K (.type "int") (.ref A.c_Agent) = some false
  kp_int_Agent : PySem.W.kitOne K (.type "int") (.ref A.c_Agent) = some false
  sp_str_Variable : PySem.W.subIn K (.type "str") (.ref A.c_Variable) = some false
  kp_str_Variable : PySem.W.kitOne K (.type "str") (.ref A.c_Variable) = some false
  sp_str_Signal : PySem.W.subIn K (.type "str") (.ref A.c_Signal) = some false
  kp_str_Signal : PySem.W.kitOne K (.type "str") (.ref A.c_Signal) = some false
  sp_str_Agent : PySem.W.subIn K (.type "str") (.ref A.c_Agent) = some false
  kp_str_Agent : PySem.W.kitOne K (.type "str") (.ref A.c_Agent) = some false
  sp_tuple_Variable : PySem.W.subIn K (.type "tuple") (.ref A.c_Variable) = some false
  kp_tuple_Variable : PySem.W.kitOne K (.type "tuple") (.ref A.c_Variable) = some false
  sp_tuple_Signal : PySem.W.subIn K (.type "tuple") (.ref A.c_Signal) = some false
  kp_tuple_Signal : PySem.W.kitOne K (.type "tuple") (.ref A.c_Signal) = some false
  sp_tuple_Agent : PySem.W.subIn K (.type "tuple") (.ref A.c_Agent) = some false
  kp_tuple_Agent : PySem.W.kitOne K (.type "tuple") (.ref A.c_Agent) = some false
  sp_list_Variable : PySem.W.subIn K (.type "list") (.ref A.c_Variable) = some false
  kp_list_Variable : PySem.W.kitOne K (.type "list") (.ref A.c_Variable) = some false
  sp_list_Signal : PySem.W.subIn K (.type "list") (.ref A.c_Signal) = some false
  kp_list_Signal : PySem.W.kitOne K (.type "list") (.ref A.c_Signal) = some false
  sp_list_Agent : PySem.W.subIn K (.type "list") (.ref A.c_Agent) = some false
  kp_list_Agent : PySem.W.kitOne K (.type "list") (.ref A.c_Agent) = some false
  sp_dict_Variable : PySem.W.subIn K (.type "dict") (.ref A.c_Variable) = some false
  kp_dict_Variable : PySem.W.kitOne K (.type "dict") (.ref A.c_Variable) = some false
  sp_dict_Signal : PySem.W.subIn K (.type "dict") (.ref A.c_Signal) = some false
  kp_dict_Signal : PySem.W.kitOne K (.type "dict") (.ref A.c_Signal) = some false
  sp_dict_Agent : PySem.W.subIn K (.type "dict") (.ref A.c_Agent) = some false
  kp_dict_Agent : PySem.W.kitOne K (.type "dict") (.ref A.c_Agent) = some false
theorem all_mk {K : PySem.W.Frag} {h : Heap} {mg : Str → Option Value} (X : K.In h) (G : h.Ns mainGlobals mg)
    {c_UnkeptError : Addr} {c_NoPart : Addr} {c_NoNet : Addr} {c_NoName : Addr} {c_NoStep : Addr} {c_NoDeed : Addr} {c_NoText : Addr} {c_NoRow : Addr} {c_Agent : Addr} {c_Through : Addr} {c_Back : Addr} {c_Variable : Addr} {c_Signal : Addr} {c_Net : Addr} {nm_NoPart q_NoPart : Str} {N_NoPart : Addr} {bs_NoPart bm_NoPart : List Value} {sn_NoPart : List Str} {sub_NoPart : List Value} {ab_NoPart : Bool} {col_NoPart : Option Bool} {dd_NoPart : Option Addr} {m0_NoPart m1_NoPart m2_NoPart m3_NoPart m5_NoPart : Option Value} {nm_NoNet q_NoNet : Str} {N_NoNet : Addr} {bs_NoNet bm_NoNet : List Value} {sn_NoNet : List Str} {sub_NoNet : List Value} {ab_NoNet : Bool} {col_NoNet : Option Bool} {dd_NoNet : Option Addr} {m0_NoNet m1_NoNet m2_NoNet m3_NoNet m5_NoNet : Option Value} {tln : Addr} {oln : Obj} {itn : Array Value} {nln : Nat}
    {f_NoPart_init : Addr} {od_NoPart_init an_NoPart_init : Option Addr} {sl_NoPart_init : Array (Option Value)} {oc_NoPart_init kV_NoPart_init dc_NoPart_init pm_NoPart_init cd_NoPart_init ct_NoPart_init : Value}
    {f_NoNet_init : Addr} {od_NoNet_init an_NoNet_init : Option Addr} {sl_NoNet_init : Array (Option Value)} {oc_NoNet_init kV_NoNet_init dc_NoNet_init pm_NoNet_init cd_NoNet_init ct_NoNet_init : Value}
    {f_is_integer : Addr} {od_is_integer an_is_integer : Option Addr} {sl_is_integer : Array (Option Value)} {oc_is_integer kV_is_integer dc_is_integer pm_is_integer cd_is_integer ct_is_integer : Value}
    {f_is_within : Addr} {od_is_within an_is_within : Option Addr} {sl_is_within : Array (Option Value)} {oc_is_within kV_is_within dc_is_within pm_is_within cd_is_within ct_is_within : Value}
    {f_is_name : Addr} {od_is_name an_is_name : Option Addr} {sl_is_name : Array (Option Value)} {oc_is_name kV_is_name dc_is_name pm_is_name cd_is_name ct_is_name : Value}
    {f_is_step : Addr} {od_is_step an_is_step : Option Addr} {sl_is_step : Array (Option Value)} {oc_is_step kV_is_step dc_is_step pm_is_step cd_is_step ct_is_step : Value}
    {f_is_memory_step : Addr} {od_is_memory_step an_is_memory_step : Option Addr} {sl_is_memory_step : Array (Option Value)} {oc_is_memory_step kV_is_memory_step dc_is_memory_step pm_is_memory_step cd_is_memory_step ct_is_memory_step : Value}
    {f_concerns_signal : Addr} {od_concerns_signal an_concerns_signal : Option Addr} {sl_concerns_signal : Array (Option Value)} {oc_concerns_signal kV_concerns_signal dc_concerns_signal pm_concerns_signal cd_concerns_signal ct_concerns_signal : Value}
    {f_check_agent : Addr} {od_check_agent an_check_agent : Option Addr} {sl_check_agent : Array (Option Value)} {oc_check_agent kV_check_agent dc_check_agent pm_check_agent cd_check_agent ct_check_agent : Value}
    {f_Agent_init : Addr} {od_Agent_init an_Agent_init : Option Addr} {sl_Agent_init : Array (Option Value)} {oc_Agent_init kV_Agent_init dc_Agent_init pm_Agent_init cd_Agent_init ct_Agent_init : Value}
    {f_Agent_made : Addr} {od_Agent_made an_Agent_made : Option Addr} {sl_Agent_made : Array (Option Value)} {oc_Agent_made kV_Agent_made dc_Agent_made pm_Agent_made cd_Agent_made ct_Agent_made : Value}
    {cm_Agent_made : Addr} {rs_Agent_made : List Value}
    {f_Through_init : Addr} {od_Through_init an_Through_init : Option Addr} {sl_Through_init : Array (Option Value)} {oc_Through_init kV_Through_init dc_Through_init pm_Through_init cd_Through_init ct_Through_init : Value}
    {f_Through_made : Addr} {od_Through_made an_Through_made : Option Addr} {sl_Through_made : Array (Option Value)} {oc_Through_made kV_Through_made dc_Through_made pm_Through_made cd_Through_made ct_Through_made : Value}
    {cm_Through_made : Addr} {rs_Through_made : List Value}
    {f_Back_init : Addr} {od_Back_init an_Back_init : Option Addr} {sl_Back_init : Array (Option Value)} {oc_Back_init kV_Back_init dc_Back_init pm_Back_init cd_Back_init ct_Back_init : Value}
    {f_Back_made : Addr} {od_Back_made an_Back_made : Option Addr} {sl_Back_made : Array (Option Value)} {oc_Back_made kV_Back_made dc_Back_made pm_Back_made cd_Back_made ct_Back_made : Value}
    {cm_Back_made : Addr} {rs_Back_made : List Value}
    {f_Signal_init : Addr} {od_Signal_init an_Signal_init : Option Addr} {sl_Signal_init : Array (Option Value)} {oc_Signal_init kV_Signal_init dc_Signal_init pm_Signal_init cd_Signal_init ct_Signal_init : Value}
    {dt_Signal_init : Addr} {do_Signal_init : Obj} {da_Signal_init : Array Value} {dn_Signal_init : Nat}
    {f_Variable_init : Addr} {od_Variable_init an_Variable_init : Option Addr} {sl_Variable_init : Array (Option Value)} {oc_Variable_init kV_Variable_init dc_Variable_init pm_Variable_init cd_Variable_init ct_Variable_init : Value}
    {f_Variable_made : Addr} {od_Variable_made an_Variable_made : Option Addr} {sl_Variable_made : Array (Option Value)} {oc_Variable_made kV_Variable_made dc_Variable_made pm_Variable_made cd_Variable_made ct_Variable_made : Value}
    {cm_Variable_made : Addr} {rs_Variable_made : List Value}
    {f_check_addresses : Addr} {od_check_addresses an_check_addresses : Option Addr} {sl_check_addresses : Array (Option Value)} {oc_check_addresses kV_check_addresses dc_check_addresses pm_check_addresses cd_check_addresses ct_check_addresses : Value}
    {f_check_slots_apart : Addr} {od_check_slots_apart an_check_slots_apart : Option Addr} {sl_check_slots_apart : Array (Option Value)} {oc_check_slots_apart kV_check_slots_apart dc_check_slots_apart pm_check_slots_apart cd_check_slots_apart ct_check_slots_apart : Value}
    {f_Net_init : Addr} {od_Net_init an_Net_init : Option Addr} {sl_Net_init : Array (Option Value)} {oc_Net_init dc_Net_init pm_Net_init cd_Net_init ct_Net_init : Value}
    {kw_Net_init : Addr} {kt_Net_init_line : Tok} {kt_Net_init_ring : Tok}
    {f_Net_made : Addr} {od_Net_made an_Net_made : Option Addr} {sl_Net_made : Array (Option Value)} {oc_Net_made dc_Net_made pm_Net_made cd_Net_made ct_Net_made : Value}
    {cm_Net_made : Addr} {rs_Net_made : List Value}
    {kw_Net_made : Addr} {kt_Net_made_line : Tok} {kt_Net_made_ring : Tok}
    {f_check_parts : Addr} {od_check_parts an_check_parts : Option Addr} {sl_check_parts : Array (Option Value)} {oc_check_parts kV_check_parts dc_check_parts pm_check_parts cd_check_parts ct_check_parts : Value}
    {f_check_many : Addr} {od_check_many an_check_many : Option Addr} {sl_check_many : Array (Option Value)} {oc_check_many kV_check_many dc_check_many pm_check_many cd_check_many ct_check_many : Value}
    {f_check_names : Addr} {od_check_names an_check_names : Option Addr} {sl_check_names : Array (Option Value)} {oc_check_names kV_check_names dc_check_names pm_check_names cd_check_names ct_check_names : Value}
    {f_check_bytes : Addr} {od_check_bytes an_check_bytes : Option Addr} {sl_check_bytes : Array (Option Value)} {oc_check_bytes kV_check_bytes dc_check_bytes pm_check_bytes cd_check_bytes ct_check_bytes : Value}
    {f_check_steps : Addr} {od_check_steps an_check_steps : Option Addr} {sl_check_steps : Array (Option Value)} {oc_check_steps kV_check_steps dc_check_steps pm_check_steps cd_check_steps ct_check_steps : Value}
    {f_check_signals : Addr} {od_check_signals an_check_signals : Option Addr} {sl_check_signals : Array (Option Value)} {oc_check_signals kV_check_signals dc_check_signals pm_check_signals cd_check_signals ct_check_signals : Value}
    {f_pen : Addr} {od_pen an_pen : Option Addr} {sl_pen : Array (Option Value)} {oc_pen kV_pen dc_pen pm_pen cd_pen ct_pen : Value}
    {f_draw : Addr} {od_draw an_draw : Option Addr} {sl_draw : Array (Option Value)} {oc_draw kV_draw dc_draw pm_draw cd_draw ct_draw : Value}
    {f_thing : Addr} {od_thing an_thing : Option Addr} {sl_thing : Array (Option Value)} {oc_thing kV_thing dc_thing pm_thing cd_thing ct_thing : Value}
    {f_steps : Addr} {od_steps an_steps : Option Addr} {sl_steps : Array (Option Value)} {oc_steps kV_steps dc_steps pm_steps cd_steps ct_steps : Value}
    {f_items : Addr} {od_items an_items : Option Addr} {sl_items : Array (Option Value)} {oc_items kV_items dc_items pm_items cd_items ct_items : Value}
    {f_shuffled : Addr} {od_shuffled an_shuffled : Option Addr} {sl_shuffled : Array (Option Value)} {oc_shuffled kV_shuffled dc_shuffled pm_shuffled cd_shuffled ct_shuffled : Value}
    {f_part : Addr} {od_part an_part : Option Addr} {sl_part : Array (Option Value)} {oc_part kV_part dc_part pm_part cd_part ct_part : Value}
    {f_within : Addr} {od_within an_within : Option Addr} {sl_within : Array (Option Value)} {oc_within kV_within dc_within pm_within cd_within ct_within : Value}
    {f_free : Addr} {od_free an_free : Option Addr} {sl_free : Array (Option Value)} {oc_free kV_free dc_free pm_free cd_free ct_free : Value}
    {f_changed : Addr} {od_changed an_changed : Option Addr} {sl_changed : Array (Option Value)} {oc_changed kV_changed dc_changed pm_changed cd_changed ct_changed : Value}
    {f_spoiled : Addr} {od_spoiled an_spoiled : Option Addr} {sl_spoiled : Array (Option Value)} {oc_spoiled kV_spoiled dc_spoiled pm_spoiled cd_spoiled ct_spoiled : Value}
    {f_parts_wrong : Addr} {od_parts_wrong an_parts_wrong : Option Addr} {sl_parts_wrong : Array (Option Value)} {oc_parts_wrong kV_parts_wrong dc_parts_wrong pm_parts_wrong cd_parts_wrong ct_parts_wrong : Value}
    {f_variables_wrong : Addr} {od_variables_wrong an_variables_wrong : Option Addr} {sl_variables_wrong : Array (Option Value)} {oc_variables_wrong kV_variables_wrong dc_variables_wrong pm_variables_wrong cd_variables_wrong ct_variables_wrong : Value}
    {f_steps_wrong : Addr} {od_steps_wrong an_steps_wrong : Option Addr} {sl_steps_wrong : Array (Option Value)} {oc_steps_wrong kV_steps_wrong dc_steps_wrong pm_steps_wrong cd_steps_wrong ct_steps_wrong : Value}
    {f_wanted : Addr} {od_wanted an_wanted : Option Addr} {sl_wanted : Array (Option Value)} {oc_wanted kV_wanted dc_wanted pm_wanted cd_wanted ct_wanted : Value}
    {f_direct : Addr} {od_direct an_direct : Option Addr} {sl_direct : Array (Option Value)} {oc_direct kV_direct dc_direct pm_direct cd_direct ct_direct : Value}
    {f_asked : Addr} {od_asked an_asked : Option Addr} {sl_asked : Array (Option Value)} {oc_asked kV_asked dc_asked pm_asked cd_asked ct_asked : Value}
    {f_right : Addr} {od_right an_right : Option Addr} {sl_right : Array (Option Value)} {oc_right kV_right dc_right pm_right cd_right ct_right : Value}
    {f_round : Addr} {od_round an_round : Option Addr} {sl_round : Array (Option Value)} {oc_round kV_round dc_round pm_round cd_round ct_round : Value}
    {f_law : Addr} {od_law an_law : Option Addr} {sl_law : Array (Option Value)} {oc_law kV_law dc_law pm_law cd_law ct_law : Value}
    {t_LETTERS : Tok}
    {t_LONGEST_NAME : Tok}
    {t_ACCESS_WORDS : Addr} {o_ACCESS_WORDS : Obj} {its_ACCESS_WORDS : Array Value} {n_ACCESS_WORDS : Nat}
    {t_UPKEEP_WORDS : Addr} {o_UPKEEP_WORDS : Obj} {its_UPKEEP_WORDS : Array Value} {n_UPKEEP_WORDS : Nat}
    {t_SIGNAL_WORDS : Addr} {o_SIGNAL_WORDS : Obj} {its_SIGNAL_WORDS : Array Value} {n_SIGNAL_WORDS : Nat}
    {t_PLAIN_WORDS : Addr} {o_PLAIN_WORDS : Obj} {its_PLAIN_WORDS : Array Value} {n_PLAIN_WORDS : Nat}
    {t_CACHE_WORDS : Addr} {o_CACHE_WORDS : Obj} {its_CACHE_WORDS : Array Value} {n_CACHE_WORDS : Nat}
    {t_GREATEST_SHIFT : Tok}
    {t_GREATEST_BYTE : Tok}
    {t_MOST_STEPS : Tok}
    {t_MOST_TOKENS : Tok}
    {t_GREATEST_SIZE : Tok}
    {t_MOST_SLOTS : Tok}
    {t_ADDRESSES : Tok}
    {t_MOST_AGENTS : Tok}
    {t_MOST_VARIABLES : Tok}
    {t_MOST_SIGNALS : Tok}
    {t_LONGEST_RING : Tok}
    (a_UnkeptError : PySem.W.nsIn K mainGlobals "UnkeptError" = some (some (.ref c_UnkeptError)))
    (a_NoPart : PySem.W.nsIn K mainGlobals "NoPart" = some (some (.ref c_NoPart)))
    (a_NoNet : PySem.W.nsIn K mainGlobals "NoNet" = some (some (.ref c_NoNet)))
    (a_NoName : PySem.W.nsIn K mainGlobals "NoName" = some (some (.ref c_NoName)))
    (a_NoStep : PySem.W.nsIn K mainGlobals "NoStep" = some (some (.ref c_NoStep)))
    (a_NoDeed : PySem.W.nsIn K mainGlobals "NoDeed" = some (some (.ref c_NoDeed)))
    (a_NoText : PySem.W.nsIn K mainGlobals "NoText" = some (some (.ref c_NoText)))
    (a_NoRow : PySem.W.nsIn K mainGlobals "NoRow" = some (some (.ref c_NoRow)))
    (a_Agent : PySem.W.nsIn K mainGlobals "Agent" = some (some (.ref c_Agent)))
    (pg_Agent : PySem.W.plainGet K c_Agent Str.empty = true) (hd_Agent : PySem.W.hasDictIn K c_Agent = true) (po_Agent : PySem.W.plainOver K c_Agent = true) (sa_Agent : PySem.W.findIn K (.ref c_Agent) "__setattr__" = some (some (.builtin "object.__setattr__")))
    (na_Agent_name : PySem.W.findIn K (.ref c_Agent) "name" = some none)
    (na_Agent_steps : PySem.W.findIn K (.ref c_Agent) "steps" = some none)
    (mk_Agent : PySem.W.makesIn K c_Agent = true) (kc_Agent : PySem.W.keepIn K (.ref c_Agent) = true)
    (a_Through : PySem.W.nsIn K mainGlobals "Through" = some (some (.ref c_Through)))
    (pg_Through : PySem.W.plainGet K c_Through Str.empty = true) (hd_Through : PySem.W.hasDictIn K c_Through = true) (po_Through : PySem.W.plainOver K c_Through = true) (sa_Through : PySem.W.findIn K (.ref c_Through) "__setattr__" = some (some (.builtin "object.__setattr__")))
    (na_Through_name : PySem.W.findIn K (.ref c_Through) "name" = some none)
    (na_Through_steps : PySem.W.findIn K (.ref c_Through) "steps" = some none)
    (mk_Through : PySem.W.makesIn K c_Through = true) (kc_Through : PySem.W.keepIn K (.ref c_Through) = true)
    (a_Back : PySem.W.nsIn K mainGlobals "Back" = some (some (.ref c_Back)))
    (pg_Back : PySem.W.plainGet K c_Back Str.empty = true) (hd_Back : PySem.W.hasDictIn K c_Back = true) (po_Back : PySem.W.plainOver K c_Back = true) (sa_Back : PySem.W.findIn K (.ref c_Back) "__setattr__" = some (some (.builtin "object.__setattr__")))
    (na_Back_name : PySem.W.findIn K (.ref c_Back) "name" = some none)
    (na_Back_steps : PySem.W.findIn K (.ref c_Back) "steps" = some none)
    (mk_Back : PySem.W.makesIn K c_Back = true) (kc_Back : PySem.W.keepIn K (.ref c_Back) = true)
    (a_Variable : PySem.W.nsIn K mainGlobals "Variable" = some (some (.ref c_Variable)))
    (pg_Variable : PySem.W.plainGet K c_Variable Str.empty = true) (hd_Variable : PySem.W.hasDictIn K c_Variable = true) (po_Variable : PySem.W.plainOver K c_Variable = true) (sa_Variable : PySem.W.findIn K (.ref c_Variable) "__setattr__" = some (some (.builtin "object.__setattr__")))
    (na_Variable_name : PySem.W.findIn K (.ref c_Variable) "name" = some none)
    (na_Variable_size : PySem.W.findIn K (.ref c_Variable) "size" = some none)
    (na_Variable_at : PySem.W.findIn K (.ref c_Variable) "at" = some none)
    (mk_Variable : PySem.W.makesIn K c_Variable = true) (kc_Variable : PySem.W.keepIn K (.ref c_Variable) = true)
    (a_Signal : PySem.W.nsIn K mainGlobals "Signal" = some (some (.ref c_Signal)))
    (pg_Signal : PySem.W.plainGet K c_Signal Str.empty = true) (hd_Signal : PySem.W.hasDictIn K c_Signal = true) (po_Signal : PySem.W.plainOver K c_Signal = true) (sa_Signal : PySem.W.findIn K (.ref c_Signal) "__setattr__" = some (some (.builtin "object.__setattr__")))
    (na_Signal_name : PySem.W.findIn K (.ref c_Signal) "name" = some none)
    (na_Signal_tokens : PySem.W.findIn K (.ref c_Signal) "tokens" = some none)
    (mk_Signal : PySem.W.makesIn K c_Signal = true) (kc_Signal : PySem.W.keepIn K (.ref c_Signal) = true)
    (a_Net : PySem.W.nsIn K mainGlobals "Net" = some (some (.ref c_Net)))
    (pg_Net : PySem.W.plainGet K c_Net Str.empty = true) (hd_Net : PySem.W.hasDictIn K c_Net = true) (po_Net : PySem.W.plainOver K c_Net = true) (sa_Net : PySem.W.findIn K (.ref c_Net) "__setattr__" = some (some (.builtin "object.__setattr__")))
    (na_Net_line : PySem.W.findIn K (.ref c_Net) "line" = some none)
    (na_Net_ring : PySem.W.findIn K (.ref c_Net) "ring" = some none)
    (na_Net_variables : PySem.W.findIn K (.ref c_Net) "variables" = some none)
    (na_Net_signals : PySem.W.findIn K (.ref c_Net) "signals" = some none)
    (na_Net_agents : PySem.W.findIn K (.ref c_Net) "agents" = some none)
    (na_Net__named : PySem.W.findIn K (.ref c_Net) "_named" = some none)
    (mk_Net : PySem.W.makesIn K c_Net = true) (kc_Net : PySem.W.keepIn K (.ref c_Net) = true)
    (gg : PySem.W.specialIn K (.builtin "object.__class__") "__get__" = some (some (.builtin "getset_descriptor.__get__"))) (tk : PySem.W.takesIn K (.builtin "object.__class__") = some true)
    (ec_UnkeptError : PySem.W.subIn K (.ref c_UnkeptError) (.type "BaseException") = some true)
    (hd_UnkeptError : PySem.W.hasDictIn K c_UnkeptError = true)
    (ty_UnkeptError : PySem.W.typeIn K (.ref c_UnkeptError) = some (.type "type"))
    (mo_NoPart : PySem.W.mroIn K c_NoPart (.type "object") = some true)
    (ty_NoPart : PySem.W.typeIn K (.ref c_NoPart) = some (.type "type"))
    (ss_NoPart : PySem.W.subIn K (.ref c_NoPart) (.ref c_NoPart) = some true)
    (xl_NoPart : K.lookup c_NoPart = some (excClassObj nm_NoPart q_NoPart c_NoPart N_NoPart bs_NoPart bm_NoPart true sn_NoPart sub_NoPart ab_NoPart col_NoPart dd_NoPart m0_NoPart m1_NoPart m2_NoPart m3_NoPart m5_NoPart "ValueError.__new__"))
    (xb_NoPart : PySem.HandSPX.refsVE bm_NoPart = true)
    (sa_NoPart : PySem.W.findIn K (.ref c_NoPart) "__setattr__" = some (some (.builtin "object.__setattr__")))
    (ga_NoPart : PySem.W.findIn K (.ref c_NoPart) "__getattribute__" = some (some (.builtin "BaseException.__getattribute__")))
    (gn_NoPart : PySem.W.findIn K (.ref c_NoPart) "__getattr__" = some none)
    (ec_NoPart : PySem.W.subIn K (.ref c_NoPart) (.type "BaseException") = some true)
    (ke_NoPart : PySem.W.keepIn K (.ref c_NoPart) = true)
    (hd_NoPart : PySem.W.hasDictIn K c_NoPart = true)
    (ci_NoPart : PySem.W.findIn K (.ref c_NoPart) "__class__" = some (some (.builtin "object.__class__")))
    (nf_NoPart_reason : PySem.W.findIn K (.ref c_NoPart) "reason" = some none)
    (nf_NoPart_place : PySem.W.findIn K (.ref c_NoPart) "place" = some none)
    (su_NoPart : PySem.W.subIn K (.ref c_NoPart) (.ref c_UnkeptError) = some true)
    (mo_NoNet : PySem.W.mroIn K c_NoNet (.type "object") = some true)
    (ty_NoNet : PySem.W.typeIn K (.ref c_NoNet) = some (.type "type"))
    (ss_NoNet : PySem.W.subIn K (.ref c_NoNet) (.ref c_NoNet) = some true)
    (mo_NoName : PySem.W.mroIn K c_NoName (.type "object") = some true)
    (ty_NoName : PySem.W.typeIn K (.ref c_NoName) = some (.type "type"))
    (ss_NoName : PySem.W.subIn K (.ref c_NoName) (.ref c_NoName) = some true)
    (mo_NoStep : PySem.W.mroIn K c_NoStep (.type "object") = some true)
    (ty_NoStep : PySem.W.typeIn K (.ref c_NoStep) = some (.type "type"))
    (ss_NoStep : PySem.W.subIn K (.ref c_NoStep) (.ref c_NoStep) = some true)
    (mo_NoDeed : PySem.W.mroIn K c_NoDeed (.type "object") = some true)
    (ty_NoDeed : PySem.W.typeIn K (.ref c_NoDeed) = some (.type "type"))
    (ss_NoDeed : PySem.W.subIn K (.ref c_NoDeed) (.ref c_NoDeed) = some true)
    (mo_NoText : PySem.W.mroIn K c_NoText (.type "object") = some true)
    (ty_NoText : PySem.W.typeIn K (.ref c_NoText) = some (.type "type"))
    (ss_NoText : PySem.W.subIn K (.ref c_NoText) (.ref c_NoText) = some true)
    (mo_NoRow : PySem.W.mroIn K c_NoRow (.type "object") = some true)
    (ty_NoRow : PySem.W.typeIn K (.ref c_NoRow) = some (.type "type"))
    (ss_NoRow : PySem.W.subIn K (.ref c_NoRow) (.ref c_NoRow) = some true)
    (xl_NoNet : K.lookup c_NoNet = some (excClassObj nm_NoNet q_NoNet c_NoNet N_NoNet bs_NoNet bm_NoNet true sn_NoNet sub_NoNet ab_NoNet col_NoNet dd_NoNet m0_NoNet m1_NoNet m2_NoNet m3_NoNet m5_NoNet "ValueError.__new__"))
    (xb_NoNet : PySem.HandSPX.refsVE bm_NoNet = true)
    (sa_NoNet : PySem.W.findIn K (.ref c_NoNet) "__setattr__" = some (some (.builtin "object.__setattr__")))
    (ga_NoNet : PySem.W.findIn K (.ref c_NoNet) "__getattribute__" = some (some (.builtin "BaseException.__getattribute__")))
    (gn_NoNet : PySem.W.findIn K (.ref c_NoNet) "__getattr__" = some none)
    (ec_NoNet : PySem.W.subIn K (.ref c_NoNet) (.type "BaseException") = some true)
    (ke_NoNet : PySem.W.keepIn K (.ref c_NoNet) = true)
    (hd_NoNet : PySem.W.hasDictIn K c_NoNet = true)
    (ci_NoNet : PySem.W.findIn K (.ref c_NoNet) "__class__" = some (some (.builtin "object.__class__")))
    (nf_NoNet_reason : PySem.W.findIn K (.ref c_NoNet) "reason" = some none)
    (nf_NoNet_place : PySem.W.findIn K (.ref c_NoNet) "place" = some none)
    (su_NoNet : PySem.W.subIn K (.ref c_NoNet) (.ref c_UnkeptError) = some true)
    (sb_NoNet_NoPart : PySem.W.subIn K (.ref c_NoNet) (.ref c_NoPart) = some false)
    (sb_NoNet_NoName : PySem.W.subIn K (.ref c_NoNet) (.ref c_NoName) = some false)
    (sb_NoNet_NoStep : PySem.W.subIn K (.ref c_NoNet) (.ref c_NoStep) = some false)
    (sb_NoNet_NoDeed : PySem.W.subIn K (.ref c_NoNet) (.ref c_NoDeed) = some false)
    (sb_NoNet_NoText : PySem.W.subIn K (.ref c_NoNet) (.ref c_NoText) = some false)
    (sb_NoNet_NoRow : PySem.W.subIn K (.ref c_NoNet) (.ref c_NoRow) = some false)
    (st_NoNet_ValueError : PySem.W.subIn K (.ref c_NoNet) (.type "ValueError") = some true)
    (mo_Agent : PySem.W.mroIn K c_Agent (.type "object") = some true)
    (ty_Agent : PySem.W.typeIn K (.ref c_Agent) = some (.type "type"))
    (ss_Agent : PySem.W.subIn K (.ref c_Agent) (.ref c_Agent) = some true)
    (ci_Agent : PySem.W.findIn K (.ref c_Agent) "__class__" = some (some (.builtin "object.__class__")))
    (rd_Agent : PySem.W.readsIn K c_Agent (.type "type") = true)
    (gc_Agent : PySem.W.specialIn K (.ref c_Agent) "__getattribute__" = some (some (.builtin "type.__getattribute__")))
    (mo_Through : PySem.W.mroIn K c_Through (.type "object") = some true)
    (ty_Through : PySem.W.typeIn K (.ref c_Through) = some (.type "type"))
    (ss_Through : PySem.W.subIn K (.ref c_Through) (.ref c_Through) = some true)
    (ci_Through : PySem.W.findIn K (.ref c_Through) "__class__" = some (some (.builtin "object.__class__")))
    (rd_Through : PySem.W.readsIn K c_Through (.type "type") = true)
    (gc_Through : PySem.W.specialIn K (.ref c_Through) "__getattribute__" = some (some (.builtin "type.__getattribute__")))
    (mo_Back : PySem.W.mroIn K c_Back (.type "object") = some true)
    (ty_Back : PySem.W.typeIn K (.ref c_Back) = some (.type "type"))
    (ss_Back : PySem.W.subIn K (.ref c_Back) (.ref c_Back) = some true)
    (ci_Back : PySem.W.findIn K (.ref c_Back) "__class__" = some (some (.builtin "object.__class__")))
    (rd_Back : PySem.W.readsIn K c_Back (.type "type") = true)
    (gc_Back : PySem.W.specialIn K (.ref c_Back) "__getattribute__" = some (some (.builtin "type.__getattribute__")))
    (mo_Variable : PySem.W.mroIn K c_Variable (.type "object") = some true)
    (ty_Variable : PySem.W.typeIn K (.ref c_Variable) = some (.type "type"))
    (ss_Variable : PySem.W.subIn K (.ref c_Variable) (.ref c_Variable) = some true)
    (ci_Variable : PySem.W.findIn K (.ref c_Variable) "__class__" = some (some (.builtin "object.__class__")))
    (rd_Variable : PySem.W.readsIn K c_Variable (.type "type") = true)
    (gc_Variable : PySem.W.specialIn K (.ref c_Variable) "__getattribute__" = some (some (.builtin "type.__getattribute__")))
    (mo_Signal : PySem.W.mroIn K c_Signal (.type "object") = some true)
    (ty_Signal : PySem.W.typeIn K (.ref c_Signal) = some (.type "type"))
    (ss_Signal : PySem.W.subIn K (.ref c_Signal) (.ref c_Signal) = some true)
    (ci_Signal : PySem.W.findIn K (.ref c_Signal) "__class__" = some (some (.builtin "object.__class__")))
    (mo_Net : PySem.W.mroIn K c_Net (.type "object") = some true)
    (ty_Net : PySem.W.typeIn K (.ref c_Net) = some (.type "type"))
    (ss_Net : PySem.W.subIn K (.ref c_Net) (.ref c_Net) = some true)
    (ci_Net : PySem.W.findIn K (.ref c_Net) "__class__" = some (some (.builtin "object.__class__")))
    (rd_Net : PySem.W.readsIn K c_Net (.type "type") = true)
    (gc_Net : PySem.W.specialIn K (.ref c_Net) "__getattribute__" = some (some (.builtin "type.__getattribute__")))
    (co_LINES : PySem.W.findIn K (.ref c_Net) "LINES" = some (some (.ref tln)))
    (cg_LINES : PySem.W.specialIn K (.ref tln) "__get__" = some none)
    (lk_LINES : K.lookup tln = some oln)
    (oc_LINES : oln.cls = .type "tuple")
    (od_LINES : oln.data = .seq itn nln)
    (oz_LINES : itn.size ≤ sizeLine)
    (ov_LINES : Vals [.int 1, .int 2, .int 4, .int 8, .int 16] itn.toList)
    (sb_Agent_Variable : PySem.W.subIn K (.ref c_Agent) (.ref c_Variable) = some false)
    (sb_Agent_Signal : PySem.W.subIn K (.ref c_Agent) (.ref c_Signal) = some false)
    (sb_Through_Variable : PySem.W.subIn K (.ref c_Through) (.ref c_Variable) = some false)
    (sb_Through_Signal : PySem.W.subIn K (.ref c_Through) (.ref c_Signal) = some false)
    (sb_Through_Agent : PySem.W.subIn K (.ref c_Through) (.ref c_Agent) = some true)
    (sb_Back_Variable : PySem.W.subIn K (.ref c_Back) (.ref c_Variable) = some false)
    (sb_Back_Signal : PySem.W.subIn K (.ref c_Back) (.ref c_Signal) = some false)
    (sb_Back_Agent : PySem.W.subIn K (.ref c_Back) (.ref c_Agent) = some true)
    (sb_Variable_Signal : PySem.W.subIn K (.ref c_Variable) (.ref c_Signal) = some false)
    (sb_Variable_Agent : PySem.W.subIn K (.ref c_Variable) (.ref c_Agent) = some false)
    (sb_Signal_Variable : PySem.W.subIn K (.ref c_Signal) (.ref c_Variable) = some false)
    (sb_Signal_Agent : PySem.W.subIn K (.ref c_Signal) (.ref c_Agent) = some false)
    (sp_NoneType_Variable : PySem.W.subIn K (.type "NoneType") (.ref c_Variable) = some false)
    (sp_NoneType_Signal : PySem.W.subIn K (.type "NoneType") (.ref c_Signal) = some false)
    (sp_NoneType_Agent : PySem.W.subIn K (.type "NoneType") (.ref c_Agent) = some false)
    (sp_bool_Variable : PySem.W.subIn K (.type "bool") (.ref c_Variable) = some false)
    (sp_bool_Signal : PySem.W.subIn K (.type "bool") (.ref c_Signal) = some false)
    (sp_bool_Agent : PySem.W.subIn K (.type "bool") (.ref c_Agent) = some false)
    (sp_int_Variable : PySem.W.subIn K (.type "int") (.ref c_Variable) = some false)
    (sp_int_Signal : PySem.W.subIn K (.type "int") (.ref c_Signal) = some false)
    (sp_int_Agent : PySem.W.subIn K (.type "int") (.ref c_Agent) = some false)
    (sp_str_Variable : PySem.W.subIn K (.type "str") (.ref c_Variable) = some false)
    (sp_str_Signal : PySem.W.subIn K (.type "str") (.ref c_Signal) = some false)
    (sp_str_Agent : PySem.W.subIn K (.type "str") (.ref c_Agent) = some false)
    (sp_tuple_Variable : PySem.W.subIn K (.type "tuple") (.ref c_Variable) = some false)
    (sp_tuple_Signal : PySem.W.subIn K (.type "tuple") (.ref c_Signal) = some false)
    (sp_tuple_Agent : PySem.W.subIn K (.type "tuple") (.ref c_Agent) = some false)
    (sp_list_Variable : PySem.W.subIn K (.type "list") (.ref c_Variable) = some false)
    (sp_list_Signal : PySem.W.subIn K (.type "list") (.ref c_Signal) = some false)
    (sp_list_Agent : PySem.W.subIn K (.type "list") (.ref c_Agent) = some false)
    (sp_dict_Variable : PySem.W.subIn K (.type "dict") (.ref c_Variable) = some false)
    (sp_dict_Signal : PySem.W.subIn K (.type "dict") (.ref c_Signal) = some false)
    (sp_dict_Agent : PySem.W.subIn K (.type "dict") (.ref c_Agent) = some false)
    (n_ValueError : PySem.W.nsIn K mainGlobals "ValueError" = some none)
    (n_max : PySem.W.nsIn K mainGlobals "max" = some none)
    (n_list : PySem.W.nsIn K mainGlobals "list" = some none)
    (n_int : PySem.W.nsIn K mainGlobals "int" = some none)
    (n_len : PySem.W.nsIn K mainGlobals "len" = some none)
    (n_abs : PySem.W.nsIn K mainGlobals "abs" = some none)
    (n_isinstance : PySem.W.nsIn K mainGlobals "isinstance" = some none)
    (n_str : PySem.W.nsIn K mainGlobals "str" = some none)
    (n_bool : PySem.W.nsIn K mainGlobals "bool" = some none)
    (n_tuple : PySem.W.nsIn K mainGlobals "tuple" = some none)
    (n_all : PySem.W.nsIn K mainGlobals "all" = some none)
    (n_any : PySem.W.nsIn K mainGlobals "any" = some none)
    (n_enumerate : PySem.W.nsIn K mainGlobals "enumerate" = some none)
    (n_range : PySem.W.nsIn K mainGlobals "range" = some none)
    (n_reversed : PySem.W.nsIn K mainGlobals "reversed" = some none)
    (a_NoPart_init : PySem.W.findIn K (.ref c_NoPart) "__init__" = some (some (.ref f_NoPart_init)))
    (i_NoPart_init : PySem.W.isFn K (.ref f_NoPart_init) = true)
    (l_NoPart_init : K.lookup f_NoPart_init = some ⟨oc_NoPart_init, od_NoPart_init, .func (PySem.W.fnOf "__init__" "NoPart.__init__" (defArgs s_NoPart_init) (defBody s_NoPart_init) (defScope s_NoPart_init) .none kV_NoPart_init dc_NoPart_init pm_NoPart_init an_NoPart_init cd_NoPart_init ct_NoPart_init), sl_NoPart_init⟩)
    (e_NoPart_init : PySem.W.codeIn K cd_NoPart_init "NoPart.__init__" = true)
    (p_NoPart_init : PySem.W.keepIn K (.ref f_NoPart_init) = true)
    (a_NoNet_init : PySem.W.findIn K (.ref c_NoNet) "__init__" = some (some (.ref f_NoNet_init)))
    (i_NoNet_init : PySem.W.isFn K (.ref f_NoNet_init) = true)
    (l_NoNet_init : K.lookup f_NoNet_init = some ⟨oc_NoNet_init, od_NoNet_init, .func (PySem.W.fnOf "__init__" "NoNet.__init__" (defArgs s_NoNet_init) (defBody s_NoNet_init) (defScope s_NoNet_init) .none kV_NoNet_init dc_NoNet_init pm_NoNet_init an_NoNet_init cd_NoNet_init ct_NoNet_init), sl_NoNet_init⟩)
    (e_NoNet_init : PySem.W.codeIn K cd_NoNet_init "NoNet.__init__" = true)
    (p_NoNet_init : PySem.W.keepIn K (.ref f_NoNet_init) = true)
    (a_is_integer : PySem.W.nsIn K mainGlobals "is_integer" = some (some (.ref f_is_integer)))
    (l_is_integer : K.lookup f_is_integer = some ⟨oc_is_integer, od_is_integer, .func (PySem.W.fnOf "is_integer" "is_integer" (defArgs s_is_integer) (defBody s_is_integer) (defScope s_is_integer) .none kV_is_integer dc_is_integer pm_is_integer an_is_integer cd_is_integer ct_is_integer), sl_is_integer⟩)
    (e_is_integer : PySem.W.codeIn K cd_is_integer "is_integer" = true)
    (p_is_integer : PySem.W.keepIn K (.ref f_is_integer) = true)
    (a_is_within : PySem.W.nsIn K mainGlobals "is_within" = some (some (.ref f_is_within)))
    (l_is_within : K.lookup f_is_within = some ⟨oc_is_within, od_is_within, .func (PySem.W.fnOf "is_within" "is_within" (defArgs s_is_within) (defBody s_is_within) (defScope s_is_within) .none kV_is_within dc_is_within pm_is_within an_is_within cd_is_within ct_is_within), sl_is_within⟩)
    (e_is_within : PySem.W.codeIn K cd_is_within "is_within" = true)
    (p_is_within : PySem.W.keepIn K (.ref f_is_within) = true)
    (a_is_name : PySem.W.nsIn K mainGlobals "is_name" = some (some (.ref f_is_name)))
    (l_is_name : K.lookup f_is_name = some ⟨oc_is_name, od_is_name, .func (PySem.W.fnOf "is_name" "is_name" (defArgs s_is_name) (defBody s_is_name) (defScope s_is_name) .none kV_is_name dc_is_name pm_is_name an_is_name cd_is_name ct_is_name), sl_is_name⟩)
    (e_is_name : PySem.W.codeIn K cd_is_name "is_name" = true)
    (p_is_name : PySem.W.keepIn K (.ref f_is_name) = true)
    (a_is_step : PySem.W.nsIn K mainGlobals "is_step" = some (some (.ref f_is_step)))
    (l_is_step : K.lookup f_is_step = some ⟨oc_is_step, od_is_step, .func (PySem.W.fnOf "is_step" "is_step" (defArgs s_is_step) (defBody s_is_step) (defScope s_is_step) .none kV_is_step dc_is_step pm_is_step an_is_step cd_is_step ct_is_step), sl_is_step⟩)
    (e_is_step : PySem.W.codeIn K cd_is_step "is_step" = true)
    (p_is_step : PySem.W.keepIn K (.ref f_is_step) = true)
    (a_is_memory_step : PySem.W.nsIn K mainGlobals "_is_memory_step" = some (some (.ref f_is_memory_step)))
    (l_is_memory_step : K.lookup f_is_memory_step = some ⟨oc_is_memory_step, od_is_memory_step, .func (PySem.W.fnOf "_is_memory_step" "_is_memory_step" (defArgs s_is_memory_step) (defBody s_is_memory_step) (defScope s_is_memory_step) .none kV_is_memory_step dc_is_memory_step pm_is_memory_step an_is_memory_step cd_is_memory_step ct_is_memory_step), sl_is_memory_step⟩)
    (e_is_memory_step : PySem.W.codeIn K cd_is_memory_step "_is_memory_step" = true)
    (p_is_memory_step : PySem.W.keepIn K (.ref f_is_memory_step) = true)
    (a_concerns_signal : PySem.W.nsIn K mainGlobals "concerns_signal" = some (some (.ref f_concerns_signal)))
    (l_concerns_signal : K.lookup f_concerns_signal = some ⟨oc_concerns_signal, od_concerns_signal, .func (PySem.W.fnOf "concerns_signal" "concerns_signal" (defArgs s_concerns_signal) (defBody s_concerns_signal) (defScope s_concerns_signal) .none kV_concerns_signal dc_concerns_signal pm_concerns_signal an_concerns_signal cd_concerns_signal ct_concerns_signal), sl_concerns_signal⟩)
    (e_concerns_signal : PySem.W.codeIn K cd_concerns_signal "concerns_signal" = true)
    (p_concerns_signal : PySem.W.keepIn K (.ref f_concerns_signal) = true)
    (a_check_agent : PySem.W.nsIn K mainGlobals "_check_agent" = some (some (.ref f_check_agent)))
    (l_check_agent : K.lookup f_check_agent = some ⟨oc_check_agent, od_check_agent, .func (PySem.W.fnOf "_check_agent" "_check_agent" (defArgs s_check_agent) (defBody s_check_agent) (defScope s_check_agent) .none kV_check_agent dc_check_agent pm_check_agent an_check_agent cd_check_agent ct_check_agent), sl_check_agent⟩)
    (e_check_agent : PySem.W.codeIn K cd_check_agent "_check_agent" = true)
    (p_check_agent : PySem.W.keepIn K (.ref f_check_agent) = true)
    (a_Agent_init : PySem.W.findIn K (.ref c_Agent) "__init__" = some (some (.ref f_Agent_init)))
    (i_Agent_init : PySem.W.isFn K (.ref f_Agent_init) = true)
    (l_Agent_init : K.lookup f_Agent_init = some ⟨oc_Agent_init, od_Agent_init, .func (PySem.W.fnOf "__init__" "Agent.__init__" (defArgs s_Agent_init) (defBody s_Agent_init) (defScope s_Agent_init) .none kV_Agent_init dc_Agent_init pm_Agent_init an_Agent_init cd_Agent_init ct_Agent_init), sl_Agent_init⟩)
    (e_Agent_init : PySem.W.codeIn K cd_Agent_init "Agent.__init__" = true)
    (p_Agent_init : PySem.W.keepIn K (.ref f_Agent_init) = true)
    (a_Agent_made : PySem.W.findCls K (.ref c_Agent) (.type "type") "made" = some (.get (.builtin "classmethod.__get__") (.ref cm_Agent_made) .none (.ref c_Agent)))
    (i_Agent_made : PySem.W.recIn K cm_Agent_made "classmethod" = some (.ref f_Agent_made :: rs_Agent_made))
    (j_Agent_made : PySem.W.fnIn K f_Agent_made = true)
    (l_Agent_made : K.lookup f_Agent_made = some ⟨oc_Agent_made, od_Agent_made, .func (PySem.W.fnOf "made" "Agent.made" (defArgs s_Agent_made) (defBody s_Agent_made) (defScope s_Agent_made) .none kV_Agent_made dc_Agent_made pm_Agent_made an_Agent_made cd_Agent_made ct_Agent_made), sl_Agent_made⟩)
    (e_Agent_made : PySem.W.codeIn K cd_Agent_made "Agent.made" = true)
    (p_Agent_made : PySem.W.keepIn K (.ref f_Agent_made) = true)
    (a_Through_init : PySem.W.findIn K (.ref c_Through) "__init__" = some (some (.ref f_Through_init)))
    (i_Through_init : PySem.W.isFn K (.ref f_Through_init) = true)
    (l_Through_init : K.lookup f_Through_init = some ⟨oc_Through_init, od_Through_init, .func (PySem.W.fnOf "__init__" "Through.__init__" (defArgs s_Through_init) (defBody s_Through_init) (defScope s_Through_init) .none kV_Through_init dc_Through_init pm_Through_init an_Through_init cd_Through_init ct_Through_init), sl_Through_init⟩)
    (e_Through_init : PySem.W.codeIn K cd_Through_init "Through.__init__" = true)
    (p_Through_init : PySem.W.keepIn K (.ref f_Through_init) = true)
    (a_Through_made : PySem.W.findCls K (.ref c_Through) (.type "type") "made" = some (.get (.builtin "classmethod.__get__") (.ref cm_Through_made) .none (.ref c_Through)))
    (i_Through_made : PySem.W.recIn K cm_Through_made "classmethod" = some (.ref f_Through_made :: rs_Through_made))
    (j_Through_made : PySem.W.fnIn K f_Through_made = true)
    (l_Through_made : K.lookup f_Through_made = some ⟨oc_Through_made, od_Through_made, .func (PySem.W.fnOf "made" "Through.made" (defArgs s_Through_made) (defBody s_Through_made) (defScope s_Through_made) .none kV_Through_made dc_Through_made pm_Through_made an_Through_made cd_Through_made ct_Through_made), sl_Through_made⟩)
    (e_Through_made : PySem.W.codeIn K cd_Through_made "Through.made" = true)
    (p_Through_made : PySem.W.keepIn K (.ref f_Through_made) = true)
    (a_Back_init : PySem.W.findIn K (.ref c_Back) "__init__" = some (some (.ref f_Back_init)))
    (i_Back_init : PySem.W.isFn K (.ref f_Back_init) = true)
    (l_Back_init : K.lookup f_Back_init = some ⟨oc_Back_init, od_Back_init, .func (PySem.W.fnOf "__init__" "Back.__init__" (defArgs s_Back_init) (defBody s_Back_init) (defScope s_Back_init) .none kV_Back_init dc_Back_init pm_Back_init an_Back_init cd_Back_init ct_Back_init), sl_Back_init⟩)
    (e_Back_init : PySem.W.codeIn K cd_Back_init "Back.__init__" = true)
    (p_Back_init : PySem.W.keepIn K (.ref f_Back_init) = true)
    (a_Back_made : PySem.W.findCls K (.ref c_Back) (.type "type") "made" = some (.get (.builtin "classmethod.__get__") (.ref cm_Back_made) .none (.ref c_Back)))
    (i_Back_made : PySem.W.recIn K cm_Back_made "classmethod" = some (.ref f_Back_made :: rs_Back_made))
    (j_Back_made : PySem.W.fnIn K f_Back_made = true)
    (l_Back_made : K.lookup f_Back_made = some ⟨oc_Back_made, od_Back_made, .func (PySem.W.fnOf "made" "Back.made" (defArgs s_Back_made) (defBody s_Back_made) (defScope s_Back_made) .none kV_Back_made dc_Back_made pm_Back_made an_Back_made cd_Back_made ct_Back_made), sl_Back_made⟩)
    (e_Back_made : PySem.W.codeIn K cd_Back_made "Back.made" = true)
    (p_Back_made : PySem.W.keepIn K (.ref f_Back_made) = true)
    (a_Signal_init : PySem.W.findIn K (.ref c_Signal) "__init__" = some (some (.ref f_Signal_init)))
    (i_Signal_init : PySem.W.isFn K (.ref f_Signal_init) = true)
    (dl_Signal_init : K.lookup dt_Signal_init = some do_Signal_init) (dd_Signal_init : do_Signal_init.data = .seq da_Signal_init dn_Signal_init) (dv_Signal_init : Vals [V.int 0] da_Signal_init.toList)
    (l_Signal_init : K.lookup f_Signal_init = some ⟨oc_Signal_init, od_Signal_init, .func (PySem.W.fnOf "__init__" "Signal.__init__" (defArgs s_Signal_init) (defBody s_Signal_init) (defScope s_Signal_init) (.ref dt_Signal_init) kV_Signal_init dc_Signal_init pm_Signal_init an_Signal_init cd_Signal_init ct_Signal_init), sl_Signal_init⟩)
    (e_Signal_init : PySem.W.codeIn K cd_Signal_init "Signal.__init__" = true)
    (p_Signal_init : PySem.W.keepIn K (.ref f_Signal_init) = true)
    (a_Variable_init : PySem.W.findIn K (.ref c_Variable) "__init__" = some (some (.ref f_Variable_init)))
    (i_Variable_init : PySem.W.isFn K (.ref f_Variable_init) = true)
    (l_Variable_init : K.lookup f_Variable_init = some ⟨oc_Variable_init, od_Variable_init, .func (PySem.W.fnOf "__init__" "Variable.__init__" (defArgs s_Variable_init) (defBody s_Variable_init) (defScope s_Variable_init) .none kV_Variable_init dc_Variable_init pm_Variable_init an_Variable_init cd_Variable_init ct_Variable_init), sl_Variable_init⟩)
    (e_Variable_init : PySem.W.codeIn K cd_Variable_init "Variable.__init__" = true)
    (p_Variable_init : PySem.W.keepIn K (.ref f_Variable_init) = true)
    (a_Variable_made : PySem.W.findCls K (.ref c_Variable) (.type "type") "made" = some (.get (.builtin "classmethod.__get__") (.ref cm_Variable_made) .none (.ref c_Variable)))
    (i_Variable_made : PySem.W.recIn K cm_Variable_made "classmethod" = some (.ref f_Variable_made :: rs_Variable_made))
    (j_Variable_made : PySem.W.fnIn K f_Variable_made = true)
    (l_Variable_made : K.lookup f_Variable_made = some ⟨oc_Variable_made, od_Variable_made, .func (PySem.W.fnOf "made" "Variable.made" (defArgs s_Variable_made) (defBody s_Variable_made) (defScope s_Variable_made) .none kV_Variable_made dc_Variable_made pm_Variable_made an_Variable_made cd_Variable_made ct_Variable_made), sl_Variable_made⟩)
    (e_Variable_made : PySem.W.codeIn K cd_Variable_made "Variable.made" = true)
    (p_Variable_made : PySem.W.keepIn K (.ref f_Variable_made) = true)
    (a_check_addresses : PySem.W.nsIn K mainGlobals "_check_addresses" = some (some (.ref f_check_addresses)))
    (l_check_addresses : K.lookup f_check_addresses = some ⟨oc_check_addresses, od_check_addresses, .func (PySem.W.fnOf "_check_addresses" "_check_addresses" (defArgs s_check_addresses) (defBody s_check_addresses) (defScope s_check_addresses) .none kV_check_addresses dc_check_addresses pm_check_addresses an_check_addresses cd_check_addresses ct_check_addresses), sl_check_addresses⟩)
    (e_check_addresses : PySem.W.codeIn K cd_check_addresses "_check_addresses" = true)
    (p_check_addresses : PySem.W.keepIn K (.ref f_check_addresses) = true)
    (a_check_slots_apart : PySem.W.nsIn K mainGlobals "_check_slots_apart" = some (some (.ref f_check_slots_apart)))
    (l_check_slots_apart : K.lookup f_check_slots_apart = some ⟨oc_check_slots_apart, od_check_slots_apart, .func (PySem.W.fnOf "_check_slots_apart" "_check_slots_apart" (defArgs s_check_slots_apart) (defBody s_check_slots_apart) (defScope s_check_slots_apart) .none kV_check_slots_apart dc_check_slots_apart pm_check_slots_apart an_check_slots_apart cd_check_slots_apart ct_check_slots_apart), sl_check_slots_apart⟩)
    (e_check_slots_apart : PySem.W.codeIn K cd_check_slots_apart "_check_slots_apart" = true)
    (p_check_slots_apart : PySem.W.keepIn K (.ref f_check_slots_apart) = true)
    (a_Net_init : PySem.W.findIn K (.ref c_Net) "__init__" = some (some (.ref f_Net_init)))
    (i_Net_init : PySem.W.isFn K (.ref f_Net_init) = true)
    (kd_Net_init_line : PySem.W.nsIn K kw_Net_init "line" = some (some (.int 8 kt_Net_init_line)))
    (kd_Net_init_ring : PySem.W.nsIn K kw_Net_init "ring" = some (some (.int 1 kt_Net_init_ring)))
    (l_Net_init : K.lookup f_Net_init = some ⟨oc_Net_init, od_Net_init, .func (PySem.W.fnOf "__init__" "Net.__init__" (defArgs s_Net_init) (defBody s_Net_init) (defScope s_Net_init) .none (.ref kw_Net_init) dc_Net_init pm_Net_init an_Net_init cd_Net_init ct_Net_init), sl_Net_init⟩)
    (e_Net_init : PySem.W.codeIn K cd_Net_init "Net.__init__" = true)
    (p_Net_init : PySem.W.keepIn K (.ref f_Net_init) = true)
    (a_Net_made : PySem.W.findCls K (.ref c_Net) (.type "type") "made" = some (.get (.builtin "classmethod.__get__") (.ref cm_Net_made) .none (.ref c_Net)))
    (i_Net_made : PySem.W.recIn K cm_Net_made "classmethod" = some (.ref f_Net_made :: rs_Net_made))
    (j_Net_made : PySem.W.fnIn K f_Net_made = true)
    (kd_Net_made_line : PySem.W.nsIn K kw_Net_made "line" = some (some (.int 8 kt_Net_made_line)))
    (kd_Net_made_ring : PySem.W.nsIn K kw_Net_made "ring" = some (some (.int 1 kt_Net_made_ring)))
    (l_Net_made : K.lookup f_Net_made = some ⟨oc_Net_made, od_Net_made, .func (PySem.W.fnOf "made" "Net.made" (defArgs s_Net_made) (defBody s_Net_made) (defScope s_Net_made) .none (.ref kw_Net_made) dc_Net_made pm_Net_made an_Net_made cd_Net_made ct_Net_made), sl_Net_made⟩)
    (e_Net_made : PySem.W.codeIn K cd_Net_made "Net.made" = true)
    (p_Net_made : PySem.W.keepIn K (.ref f_Net_made) = true)
    (a_check_parts : PySem.W.nsIn K mainGlobals "_check_parts" = some (some (.ref f_check_parts)))
    (l_check_parts : K.lookup f_check_parts = some ⟨oc_check_parts, od_check_parts, .func (PySem.W.fnOf "_check_parts" "_check_parts" (defArgs s_check_parts) (defBody s_check_parts) (defScope s_check_parts) .none kV_check_parts dc_check_parts pm_check_parts an_check_parts cd_check_parts ct_check_parts), sl_check_parts⟩)
    (e_check_parts : PySem.W.codeIn K cd_check_parts "_check_parts" = true)
    (p_check_parts : PySem.W.keepIn K (.ref f_check_parts) = true)
    (a_check_many : PySem.W.nsIn K mainGlobals "_check_many" = some (some (.ref f_check_many)))
    (l_check_many : K.lookup f_check_many = some ⟨oc_check_many, od_check_many, .func (PySem.W.fnOf "_check_many" "_check_many" (defArgs s_check_many) (defBody s_check_many) (defScope s_check_many) .none kV_check_many dc_check_many pm_check_many an_check_many cd_check_many ct_check_many), sl_check_many⟩)
    (e_check_many : PySem.W.codeIn K cd_check_many "_check_many" = true)
    (p_check_many : PySem.W.keepIn K (.ref f_check_many) = true)
    (a_check_names : PySem.W.nsIn K mainGlobals "_check_names" = some (some (.ref f_check_names)))
    (l_check_names : K.lookup f_check_names = some ⟨oc_check_names, od_check_names, .func (PySem.W.fnOf "_check_names" "_check_names" (defArgs s_check_names) (defBody s_check_names) (defScope s_check_names) .none kV_check_names dc_check_names pm_check_names an_check_names cd_check_names ct_check_names), sl_check_names⟩)
    (e_check_names : PySem.W.codeIn K cd_check_names "_check_names" = true)
    (p_check_names : PySem.W.keepIn K (.ref f_check_names) = true)
    (a_check_bytes : PySem.W.nsIn K mainGlobals "_check_bytes" = some (some (.ref f_check_bytes)))
    (l_check_bytes : K.lookup f_check_bytes = some ⟨oc_check_bytes, od_check_bytes, .func (PySem.W.fnOf "_check_bytes" "_check_bytes" (defArgs s_check_bytes) (defBody s_check_bytes) (defScope s_check_bytes) .none kV_check_bytes dc_check_bytes pm_check_bytes an_check_bytes cd_check_bytes ct_check_bytes), sl_check_bytes⟩)
    (e_check_bytes : PySem.W.codeIn K cd_check_bytes "_check_bytes" = true)
    (p_check_bytes : PySem.W.keepIn K (.ref f_check_bytes) = true)
    (a_check_steps : PySem.W.nsIn K mainGlobals "_check_steps" = some (some (.ref f_check_steps)))
    (l_check_steps : K.lookup f_check_steps = some ⟨oc_check_steps, od_check_steps, .func (PySem.W.fnOf "_check_steps" "_check_steps" (defArgs s_check_steps) (defBody s_check_steps) (defScope s_check_steps) .none kV_check_steps dc_check_steps pm_check_steps an_check_steps cd_check_steps ct_check_steps), sl_check_steps⟩)
    (e_check_steps : PySem.W.codeIn K cd_check_steps "_check_steps" = true)
    (p_check_steps : PySem.W.keepIn K (.ref f_check_steps) = true)
    (a_check_signals : PySem.W.nsIn K mainGlobals "_check_signals" = some (some (.ref f_check_signals)))
    (l_check_signals : K.lookup f_check_signals = some ⟨oc_check_signals, od_check_signals, .func (PySem.W.fnOf "_check_signals" "_check_signals" (defArgs s_check_signals) (defBody s_check_signals) (defScope s_check_signals) .none kV_check_signals dc_check_signals pm_check_signals an_check_signals cd_check_signals ct_check_signals), sl_check_signals⟩)
    (e_check_signals : PySem.W.codeIn K cd_check_signals "_check_signals" = true)
    (p_check_signals : PySem.W.keepIn K (.ref f_check_signals) = true)
    (a_pen : PySem.W.nsIn K mainGlobals "_law_pen" = some (some (.ref f_pen)))
    (l_pen : K.lookup f_pen = some ⟨oc_pen, od_pen, .func (PySem.W.fnOf "_law_pen" "_law_pen" (defArgs s_pen) (defBody s_pen) (defScope s_pen) .none kV_pen dc_pen pm_pen an_pen cd_pen ct_pen), sl_pen⟩)
    (e_pen : PySem.W.codeIn K cd_pen "_law_pen" = true)
    (p_pen : PySem.W.keepIn K (.ref f_pen) = true)
    (a_draw : PySem.W.nsIn K mainGlobals "_law_draw" = some (some (.ref f_draw)))
    (l_draw : K.lookup f_draw = some ⟨oc_draw, od_draw, .func (PySem.W.fnOf "_law_draw" "_law_draw" (defArgs s_draw) (defBody s_draw) (defScope s_draw) .none kV_draw dc_draw pm_draw an_draw cd_draw ct_draw), sl_draw⟩)
    (e_draw : PySem.W.codeIn K cd_draw "_law_draw" = true)
    (p_draw : PySem.W.keepIn K (.ref f_draw) = true)
    (a_thing : PySem.W.nsIn K mainGlobals "_law_thing" = some (some (.ref f_thing)))
    (l_thing : K.lookup f_thing = some ⟨oc_thing, od_thing, .func (PySem.W.fnOf "_law_thing" "_law_thing" (defArgs s_thing) (defBody s_thing) (defScope s_thing) .none kV_thing dc_thing pm_thing an_thing cd_thing ct_thing), sl_thing⟩)
    (e_thing : PySem.W.codeIn K cd_thing "_law_thing" = true)
    (p_thing : PySem.W.keepIn K (.ref f_thing) = true)
    (a_steps : PySem.W.nsIn K mainGlobals "_law_steps" = some (some (.ref f_steps)))
    (l_steps : K.lookup f_steps = some ⟨oc_steps, od_steps, .func (PySem.W.fnOf "_law_steps" "_law_steps" (defArgs s_steps) (defBody s_steps) (defScope s_steps) .none kV_steps dc_steps pm_steps an_steps cd_steps ct_steps), sl_steps⟩)
    (e_steps : PySem.W.codeIn K cd_steps "_law_steps" = true)
    (p_steps : PySem.W.keepIn K (.ref f_steps) = true)
    (a_items : PySem.W.nsIn K mainGlobals "_law_items" = some (some (.ref f_items)))
    (l_items : K.lookup f_items = some ⟨oc_items, od_items, .func (PySem.W.fnOf "_law_items" "_law_items" (defArgs s_items) (defBody s_items) (defScope s_items) .none kV_items dc_items pm_items an_items cd_items ct_items), sl_items⟩)
    (e_items : PySem.W.codeIn K cd_items "_law_items" = true)
    (p_items : PySem.W.keepIn K (.ref f_items) = true)
    (a_shuffled : PySem.W.nsIn K mainGlobals "_law_shuffled" = some (some (.ref f_shuffled)))
    (l_shuffled : K.lookup f_shuffled = some ⟨oc_shuffled, od_shuffled, .func (PySem.W.fnOf "_law_shuffled" "_law_shuffled" (defArgs s_shuffled) (defBody s_shuffled) (defScope s_shuffled) .none kV_shuffled dc_shuffled pm_shuffled an_shuffled cd_shuffled ct_shuffled), sl_shuffled⟩)
    (e_shuffled : PySem.W.codeIn K cd_shuffled "_law_shuffled" = true)
    (p_shuffled : PySem.W.keepIn K (.ref f_shuffled) = true)
    (a_part : PySem.W.nsIn K mainGlobals "_law_part" = some (some (.ref f_part)))
    (l_part : K.lookup f_part = some ⟨oc_part, od_part, .func (PySem.W.fnOf "_law_part" "_law_part" (defArgs s_part) (defBody s_part) (defScope s_part) .none kV_part dc_part pm_part an_part cd_part ct_part), sl_part⟩)
    (e_part : PySem.W.codeIn K cd_part "_law_part" = true)
    (p_part : PySem.W.keepIn K (.ref f_part) = true)
    (a_within : PySem.W.nsIn K mainGlobals "_law_within" = some (some (.ref f_within)))
    (l_within : K.lookup f_within = some ⟨oc_within, od_within, .func (PySem.W.fnOf "_law_within" "_law_within" (defArgs s_within) (defBody s_within) (defScope s_within) .none kV_within dc_within pm_within an_within cd_within ct_within), sl_within⟩)
    (e_within : PySem.W.codeIn K cd_within "_law_within" = true)
    (p_within : PySem.W.keepIn K (.ref f_within) = true)
    (a_free : PySem.W.nsIn K mainGlobals "_law_free" = some (some (.ref f_free)))
    (l_free : K.lookup f_free = some ⟨oc_free, od_free, .func (PySem.W.fnOf "_law_free" "_law_free" (defArgs s_free) (defBody s_free) (defScope s_free) .none kV_free dc_free pm_free an_free cd_free ct_free), sl_free⟩)
    (e_free : PySem.W.codeIn K cd_free "_law_free" = true)
    (p_free : PySem.W.keepIn K (.ref f_free) = true)
    (a_changed : PySem.W.nsIn K mainGlobals "_law_changed" = some (some (.ref f_changed)))
    (l_changed : K.lookup f_changed = some ⟨oc_changed, od_changed, .func (PySem.W.fnOf "_law_changed" "_law_changed" (defArgs s_changed) (defBody s_changed) (defScope s_changed) .none kV_changed dc_changed pm_changed an_changed cd_changed ct_changed), sl_changed⟩)
    (e_changed : PySem.W.codeIn K cd_changed "_law_changed" = true)
    (p_changed : PySem.W.keepIn K (.ref f_changed) = true)
    (a_spoiled : PySem.W.nsIn K mainGlobals "_law_spoiled" = some (some (.ref f_spoiled)))
    (l_spoiled : K.lookup f_spoiled = some ⟨oc_spoiled, od_spoiled, .func (PySem.W.fnOf "_law_spoiled" "_law_spoiled" (defArgs s_spoiled) (defBody s_spoiled) (defScope s_spoiled) .none kV_spoiled dc_spoiled pm_spoiled an_spoiled cd_spoiled ct_spoiled), sl_spoiled⟩)
    (e_spoiled : PySem.W.codeIn K cd_spoiled "_law_spoiled" = true)
    (p_spoiled : PySem.W.keepIn K (.ref f_spoiled) = true)
    (a_parts_wrong : PySem.W.nsIn K mainGlobals "_law_parts_wrong" = some (some (.ref f_parts_wrong)))
    (l_parts_wrong : K.lookup f_parts_wrong = some ⟨oc_parts_wrong, od_parts_wrong, .func (PySem.W.fnOf "_law_parts_wrong" "_law_parts_wrong" (defArgs s_parts_wrong) (defBody s_parts_wrong) (defScope s_parts_wrong) .none kV_parts_wrong dc_parts_wrong pm_parts_wrong an_parts_wrong cd_parts_wrong ct_parts_wrong), sl_parts_wrong⟩)
    (e_parts_wrong : PySem.W.codeIn K cd_parts_wrong "_law_parts_wrong" = true)
    (p_parts_wrong : PySem.W.keepIn K (.ref f_parts_wrong) = true)
    (a_variables_wrong : PySem.W.nsIn K mainGlobals "_law_variables_wrong" = some (some (.ref f_variables_wrong)))
    (l_variables_wrong : K.lookup f_variables_wrong = some ⟨oc_variables_wrong, od_variables_wrong, .func (PySem.W.fnOf "_law_variables_wrong" "_law_variables_wrong" (defArgs s_variables_wrong) (defBody s_variables_wrong) (defScope s_variables_wrong) .none kV_variables_wrong dc_variables_wrong pm_variables_wrong an_variables_wrong cd_variables_wrong ct_variables_wrong), sl_variables_wrong⟩)
    (e_variables_wrong : PySem.W.codeIn K cd_variables_wrong "_law_variables_wrong" = true)
    (p_variables_wrong : PySem.W.keepIn K (.ref f_variables_wrong) = true)
    (a_steps_wrong : PySem.W.nsIn K mainGlobals "_law_steps_wrong" = some (some (.ref f_steps_wrong)))
    (l_steps_wrong : K.lookup f_steps_wrong = some ⟨oc_steps_wrong, od_steps_wrong, .func (PySem.W.fnOf "_law_steps_wrong" "_law_steps_wrong" (defArgs s_steps_wrong) (defBody s_steps_wrong) (defScope s_steps_wrong) .none kV_steps_wrong dc_steps_wrong pm_steps_wrong an_steps_wrong cd_steps_wrong ct_steps_wrong), sl_steps_wrong⟩)
    (e_steps_wrong : PySem.W.codeIn K cd_steps_wrong "_law_steps_wrong" = true)
    (p_steps_wrong : PySem.W.keepIn K (.ref f_steps_wrong) = true)
    (a_wanted : PySem.W.nsIn K mainGlobals "_law_wanted" = some (some (.ref f_wanted)))
    (l_wanted : K.lookup f_wanted = some ⟨oc_wanted, od_wanted, .func (PySem.W.fnOf "_law_wanted" "_law_wanted" (defArgs s_wanted) (defBody s_wanted) (defScope s_wanted) .none kV_wanted dc_wanted pm_wanted an_wanted cd_wanted ct_wanted), sl_wanted⟩)
    (e_wanted : PySem.W.codeIn K cd_wanted "_law_wanted" = true)
    (p_wanted : PySem.W.keepIn K (.ref f_wanted) = true)
    (a_direct : PySem.W.nsIn K mainGlobals "_law_direct" = some (some (.ref f_direct)))
    (l_direct : K.lookup f_direct = some ⟨oc_direct, od_direct, .func (PySem.W.fnOf "_law_direct" "_law_direct" (defArgs s_direct) (defBody s_direct) (defScope s_direct) .none kV_direct dc_direct pm_direct an_direct cd_direct ct_direct), sl_direct⟩)
    (e_direct : PySem.W.codeIn K cd_direct "_law_direct" = true)
    (p_direct : PySem.W.keepIn K (.ref f_direct) = true)
    (a_asked : PySem.W.nsIn K mainGlobals "_law_asked" = some (some (.ref f_asked)))
    (l_asked : K.lookup f_asked = some ⟨oc_asked, od_asked, .func (PySem.W.fnOf "_law_asked" "_law_asked" (defArgs s_asked) (defBody s_asked) (defScope s_asked) .none kV_asked dc_asked pm_asked an_asked cd_asked ct_asked), sl_asked⟩)
    (e_asked : PySem.W.codeIn K cd_asked "_law_asked" = true)
    (p_asked : PySem.W.keepIn K (.ref f_asked) = true)
    (a_right : PySem.W.nsIn K mainGlobals "_law_right" = some (some (.ref f_right)))
    (l_right : K.lookup f_right = some ⟨oc_right, od_right, .func (PySem.W.fnOf "_law_right" "_law_right" (defArgs s_right) (defBody s_right) (defScope s_right) .none kV_right dc_right pm_right an_right cd_right ct_right), sl_right⟩)
    (e_right : PySem.W.codeIn K cd_right "_law_right" = true)
    (p_right : PySem.W.keepIn K (.ref f_right) = true)
    (a_round : PySem.W.nsIn K mainGlobals "_law_round" = some (some (.ref f_round)))
    (l_round : K.lookup f_round = some ⟨oc_round, od_round, .func (PySem.W.fnOf "_law_round" "_law_round" (defArgs s_round) (defBody s_round) (defScope s_round) .none kV_round dc_round pm_round an_round cd_round ct_round), sl_round⟩)
    (e_round : PySem.W.codeIn K cd_round "_law_round" = true)
    (p_round : PySem.W.keepIn K (.ref f_round) = true)
    (a_law : PySem.W.nsIn K mainGlobals "law" = some (some (.ref f_law)))
    (l_law : K.lookup f_law = some ⟨oc_law, od_law, .func (PySem.W.fnOf "law" "law" (defArgs s_law) (defBody s_law) (defScope s_law) .none kV_law dc_law pm_law an_law cd_law ct_law), sl_law⟩)
    (e_law : PySem.W.codeIn K cd_law "law" = true)
    (p_law : PySem.W.keepIn K (.ref f_law) = true)
    (k_LETTERS : PySem.W.nsIn K mainGlobals "LETTERS" = some (some (.str "abcdefghijklmnopqrstuvwxyz" t_LETTERS)))
    (k_LONGEST_NAME : PySem.W.nsIn K mainGlobals "LONGEST_NAME" = some (some (.int 8 t_LONGEST_NAME)))
    (k_ACCESS_WORDS : PySem.W.nsIn K mainGlobals "ACCESS_WORDS" = some (some (.ref t_ACCESS_WORDS)))
    (lk_ACCESS_WORDS : K.lookup t_ACCESS_WORDS = some o_ACCESS_WORDS) (oc_ACCESS_WORDS : o_ACCESS_WORDS.cls = .type "tuple") (od_ACCESS_WORDS : o_ACCESS_WORDS.data = .seq its_ACCESS_WORDS n_ACCESS_WORDS) (oz_ACCESS_WORDS : its_ACCESS_WORDS.size ≤ sizeLine) (ov_ACCESS_WORDS : Vals [V.str "read", V.str "write", V.str "get", V.str "put"] its_ACCESS_WORDS.toList)
    (k_UPKEEP_WORDS : PySem.W.nsIn K mainGlobals "UPKEEP_WORDS" = some (some (.ref t_UPKEEP_WORDS)))
    (lk_UPKEEP_WORDS : K.lookup t_UPKEEP_WORDS = some o_UPKEEP_WORDS) (oc_UPKEEP_WORDS : o_UPKEEP_WORDS.cls = .type "tuple") (od_UPKEEP_WORDS : o_UPKEEP_WORDS.data = .seq its_UPKEEP_WORDS n_UPKEEP_WORDS) (oz_UPKEEP_WORDS : its_UPKEEP_WORDS.size ≤ sizeLine) (ov_UPKEEP_WORDS : Vals [V.str "clean", V.str "drop", V.str "flush"] its_UPKEEP_WORDS.toList)
    (k_SIGNAL_WORDS : PySem.W.nsIn K mainGlobals "SIGNAL_WORDS" = some (some (.ref t_SIGNAL_WORDS)))
    (lk_SIGNAL_WORDS : K.lookup t_SIGNAL_WORDS = some o_SIGNAL_WORDS) (oc_SIGNAL_WORDS : o_SIGNAL_WORDS.cls = .type "tuple") (od_SIGNAL_WORDS : o_SIGNAL_WORDS.data = .seq its_SIGNAL_WORDS n_SIGNAL_WORDS) (oz_SIGNAL_WORDS : its_SIGNAL_WORDS.size ≤ sizeLine) (ov_SIGNAL_WORDS : Vals [V.str "post", V.str "wait"] its_SIGNAL_WORDS.toList)
    (k_PLAIN_WORDS : PySem.W.nsIn K mainGlobals "PLAIN_WORDS" = some (some (.ref t_PLAIN_WORDS)))
    (lk_PLAIN_WORDS : K.lookup t_PLAIN_WORDS = some o_PLAIN_WORDS) (oc_PLAIN_WORDS : o_PLAIN_WORDS.cls = .type "tuple") (od_PLAIN_WORDS : o_PLAIN_WORDS.data = .seq its_PLAIN_WORDS n_PLAIN_WORDS) (oz_PLAIN_WORDS : its_PLAIN_WORDS.size ≤ sizeLine) (ov_PLAIN_WORDS : Vals [V.str "read", V.str "write", V.str "post", V.str "wait"] its_PLAIN_WORDS.toList)
    (k_CACHE_WORDS : PySem.W.nsIn K mainGlobals "CACHE_WORDS" = some (some (.ref t_CACHE_WORDS)))
    (lk_CACHE_WORDS : K.lookup t_CACHE_WORDS = some o_CACHE_WORDS) (oc_CACHE_WORDS : o_CACHE_WORDS.cls = .type "tuple") (od_CACHE_WORDS : o_CACHE_WORDS.data = .seq its_CACHE_WORDS n_CACHE_WORDS) (oz_CACHE_WORDS : its_CACHE_WORDS.size ≤ sizeLine) (ov_CACHE_WORDS : Vals [V.str "read", V.str "write", V.str "get", V.str "put", V.str "clean", V.str "drop", V.str "flush", V.str "post", V.str "wait"] its_CACHE_WORDS.toList)
    (k_GREATEST_SHIFT : PySem.W.nsIn K mainGlobals "GREATEST_SHIFT" = some (some (.int 3 t_GREATEST_SHIFT)))
    (k_GREATEST_BYTE : PySem.W.nsIn K mainGlobals "GREATEST_BYTE" = some (some (.int 7 t_GREATEST_BYTE)))
    (k_MOST_STEPS : PySem.W.nsIn K mainGlobals "MOST_STEPS" = some (some (.int 24 t_MOST_STEPS)))
    (k_MOST_TOKENS : PySem.W.nsIn K mainGlobals "MOST_TOKENS" = some (some (.int 3 t_MOST_TOKENS)))
    (k_GREATEST_SIZE : PySem.W.nsIn K mainGlobals "GREATEST_SIZE" = some (some (.int 8 t_GREATEST_SIZE)))
    (k_MOST_SLOTS : PySem.W.nsIn K mainGlobals "MOST_SLOTS" = some (some (.int 4 t_MOST_SLOTS)))
    (k_ADDRESSES : PySem.W.nsIn K mainGlobals "ADDRESSES" = some (some (.int 1024 t_ADDRESSES)))
    (k_MOST_AGENTS : PySem.W.nsIn K mainGlobals "MOST_AGENTS" = some (some (.int 4 t_MOST_AGENTS)))
    (k_MOST_VARIABLES : PySem.W.nsIn K mainGlobals "MOST_VARIABLES" = some (some (.int 6 t_MOST_VARIABLES)))
    (k_MOST_SIGNALS : PySem.W.nsIn K mainGlobals "MOST_SIGNALS" = some (some (.int 6 t_MOST_SIGNALS)))
    (k_LONGEST_RING : PySem.W.nsIn K mainGlobals "LONGEST_RING" = some (some (.int 4 t_LONGEST_RING))) :
    ∃ A : Adr, Txt K mg A :=
  ⟨{ a_NoPart_init := f_NoPart_init,
     d_NoPart_init := PySem.W.fnOf "__init__" "NoPart.__init__" (defArgs s_NoPart_init) (defBody s_NoPart_init) (defScope s_NoPart_init) .none kV_NoPart_init dc_NoPart_init pm_NoPart_init an_NoPart_init cd_NoPart_init ct_NoPart_init,
     a_NoNet_init := f_NoNet_init,
     d_NoNet_init := PySem.W.fnOf "__init__" "NoNet.__init__" (defArgs s_NoNet_init) (defBody s_NoNet_init) (defScope s_NoNet_init) .none kV_NoNet_init dc_NoNet_init pm_NoNet_init an_NoNet_init cd_NoNet_init ct_NoNet_init,
     a_is_integer := f_is_integer,
     d_is_integer := PySem.W.fnOf "is_integer" "is_integer" (defArgs s_is_integer) (defBody s_is_integer) (defScope s_is_integer) .none kV_is_integer dc_is_integer pm_is_integer an_is_integer cd_is_integer ct_is_integer,
     a_is_within := f_is_within,
     d_is_within := PySem.W.fnOf "is_within" "is_within" (defArgs s_is_within) (defBody s_is_within) (defScope s_is_within) .none kV_is_within dc_is_within pm_is_within an_is_within cd_is_within ct_is_within,
     a_is_name := f_is_name,
     d_is_name := PySem.W.fnOf "is_name" "is_name" (defArgs s_is_name) (defBody s_is_name) (defScope s_is_name) .none kV_is_name dc_is_name pm_is_name an_is_name cd_is_name ct_is_name,
     a_is_step := f_is_step,
     d_is_step := PySem.W.fnOf "is_step" "is_step" (defArgs s_is_step) (defBody s_is_step) (defScope s_is_step) .none kV_is_step dc_is_step pm_is_step an_is_step cd_is_step ct_is_step,
     a_is_memory_step := f_is_memory_step,
     d_is_memory_step := PySem.W.fnOf "_is_memory_step" "_is_memory_step" (defArgs s_is_memory_step) (defBody s_is_memory_step) (defScope s_is_memory_step) .none kV_is_memory_step dc_is_memory_step pm_is_memory_step an_is_memory_step cd_is_memory_step ct_is_memory_step,
     a_concerns_signal := f_concerns_signal,
     d_concerns_signal := PySem.W.fnOf "concerns_signal" "concerns_signal" (defArgs s_concerns_signal) (defBody s_concerns_signal) (defScope s_concerns_signal) .none kV_concerns_signal dc_concerns_signal pm_concerns_signal an_concerns_signal cd_concerns_signal ct_concerns_signal,
     a_check_agent := f_check_agent,
     d_check_agent := PySem.W.fnOf "_check_agent" "_check_agent" (defArgs s_check_agent) (defBody s_check_agent) (defScope s_check_agent) .none kV_check_agent dc_check_agent pm_check_agent an_check_agent cd_check_agent ct_check_agent,
     a_Agent_init := f_Agent_init,
     d_Agent_init := PySem.W.fnOf "__init__" "Agent.__init__" (defArgs s_Agent_init) (defBody s_Agent_init) (defScope s_Agent_init) .none kV_Agent_init dc_Agent_init pm_Agent_init an_Agent_init cd_Agent_init ct_Agent_init,
     a_Agent_made := f_Agent_made,
     d_Agent_made := PySem.W.fnOf "made" "Agent.made" (defArgs s_Agent_made) (defBody s_Agent_made) (defScope s_Agent_made) .none kV_Agent_made dc_Agent_made pm_Agent_made an_Agent_made cd_Agent_made ct_Agent_made,
     a_Through_init := f_Through_init,
     d_Through_init := PySem.W.fnOf "__init__" "Through.__init__" (defArgs s_Through_init) (defBody s_Through_init) (defScope s_Through_init) .none kV_Through_init dc_Through_init pm_Through_init an_Through_init cd_Through_init ct_Through_init,
     a_Through_made := f_Through_made,
     d_Through_made := PySem.W.fnOf "made" "Through.made" (defArgs s_Through_made) (defBody s_Through_made) (defScope s_Through_made) .none kV_Through_made dc_Through_made pm_Through_made an_Through_made cd_Through_made ct_Through_made,
     a_Back_init := f_Back_init,
     d_Back_init := PySem.W.fnOf "__init__" "Back.__init__" (defArgs s_Back_init) (defBody s_Back_init) (defScope s_Back_init) .none kV_Back_init dc_Back_init pm_Back_init an_Back_init cd_Back_init ct_Back_init,
     a_Back_made := f_Back_made,
     d_Back_made := PySem.W.fnOf "made" "Back.made" (defArgs s_Back_made) (defBody s_Back_made) (defScope s_Back_made) .none kV_Back_made dc_Back_made pm_Back_made an_Back_made cd_Back_made ct_Back_made,
     a_Signal_init := f_Signal_init,
     d_Signal_init := PySem.W.fnOf "__init__" "Signal.__init__" (defArgs s_Signal_init) (defBody s_Signal_init) (defScope s_Signal_init) (.ref dt_Signal_init) kV_Signal_init dc_Signal_init pm_Signal_init an_Signal_init cd_Signal_init ct_Signal_init,
     a_Variable_init := f_Variable_init,
     d_Variable_init := PySem.W.fnOf "__init__" "Variable.__init__" (defArgs s_Variable_init) (defBody s_Variable_init) (defScope s_Variable_init) .none kV_Variable_init dc_Variable_init pm_Variable_init an_Variable_init cd_Variable_init ct_Variable_init,
     a_Variable_made := f_Variable_made,
     d_Variable_made := PySem.W.fnOf "made" "Variable.made" (defArgs s_Variable_made) (defBody s_Variable_made) (defScope s_Variable_made) .none kV_Variable_made dc_Variable_made pm_Variable_made an_Variable_made cd_Variable_made ct_Variable_made,
     a_check_addresses := f_check_addresses,
     d_check_addresses := PySem.W.fnOf "_check_addresses" "_check_addresses" (defArgs s_check_addresses) (defBody s_check_addresses) (defScope s_check_addresses) .none kV_check_addresses dc_check_addresses pm_check_addresses an_check_addresses cd_check_addresses ct_check_addresses,
     a_check_slots_apart := f_check_slots_apart,
     d_check_slots_apart := PySem.W.fnOf "_check_slots_apart" "_check_slots_apart" (defArgs s_check_slots_apart) (defBody s_check_slots_apart) (defScope s_check_slots_apart) .none kV_check_slots_apart dc_check_slots_apart pm_check_slots_apart an_check_slots_apart cd_check_slots_apart ct_check_slots_apart,
     a_Net_init := f_Net_init,
     d_Net_init := PySem.W.fnOf "__init__" "Net.__init__" (defArgs s_Net_init) (defBody s_Net_init) (defScope s_Net_init) .none (.ref kw_Net_init) dc_Net_init pm_Net_init an_Net_init cd_Net_init ct_Net_init,
     a_Net_made := f_Net_made,
     d_Net_made := PySem.W.fnOf "made" "Net.made" (defArgs s_Net_made) (defBody s_Net_made) (defScope s_Net_made) .none (.ref kw_Net_made) dc_Net_made pm_Net_made an_Net_made cd_Net_made ct_Net_made,
     a_check_parts := f_check_parts,
     d_check_parts := PySem.W.fnOf "_check_parts" "_check_parts" (defArgs s_check_parts) (defBody s_check_parts) (defScope s_check_parts) .none kV_check_parts dc_check_parts pm_check_parts an_check_parts cd_check_parts ct_check_parts,
     a_check_many := f_check_many,
     d_check_many := PySem.W.fnOf "_check_many" "_check_many" (defArgs s_check_many) (defBody s_check_many) (defScope s_check_many) .none kV_check_many dc_check_many pm_check_many an_check_many cd_check_many ct_check_many,
     a_check_names := f_check_names,
     d_check_names := PySem.W.fnOf "_check_names" "_check_names" (defArgs s_check_names) (defBody s_check_names) (defScope s_check_names) .none kV_check_names dc_check_names pm_check_names an_check_names cd_check_names ct_check_names,
     a_check_bytes := f_check_bytes,
     d_check_bytes := PySem.W.fnOf "_check_bytes" "_check_bytes" (defArgs s_check_bytes) (defBody s_check_bytes) (defScope s_check_bytes) .none kV_check_bytes dc_check_bytes pm_check_bytes an_check_bytes cd_check_bytes ct_check_bytes,
     a_check_steps := f_check_steps,
     d_check_steps := PySem.W.fnOf "_check_steps" "_check_steps" (defArgs s_check_steps) (defBody s_check_steps) (defScope s_check_steps) .none kV_check_steps dc_check_steps pm_check_steps an_check_steps cd_check_steps ct_check_steps,
     a_check_signals := f_check_signals,
     d_check_signals := PySem.W.fnOf "_check_signals" "_check_signals" (defArgs s_check_signals) (defBody s_check_signals) (defScope s_check_signals) .none kV_check_signals dc_check_signals pm_check_signals an_check_signals cd_check_signals ct_check_signals,
     a_pen := f_pen,
     d_pen := PySem.W.fnOf "_law_pen" "_law_pen" (defArgs s_pen) (defBody s_pen) (defScope s_pen) .none kV_pen dc_pen pm_pen an_pen cd_pen ct_pen,
     a_draw := f_draw,
     d_draw := PySem.W.fnOf "_law_draw" "_law_draw" (defArgs s_draw) (defBody s_draw) (defScope s_draw) .none kV_draw dc_draw pm_draw an_draw cd_draw ct_draw,
     a_thing := f_thing,
     d_thing := PySem.W.fnOf "_law_thing" "_law_thing" (defArgs s_thing) (defBody s_thing) (defScope s_thing) .none kV_thing dc_thing pm_thing an_thing cd_thing ct_thing,
     a_steps := f_steps,
     d_steps := PySem.W.fnOf "_law_steps" "_law_steps" (defArgs s_steps) (defBody s_steps) (defScope s_steps) .none kV_steps dc_steps pm_steps an_steps cd_steps ct_steps,
     a_items := f_items,
     d_items := PySem.W.fnOf "_law_items" "_law_items" (defArgs s_items) (defBody s_items) (defScope s_items) .none kV_items dc_items pm_items an_items cd_items ct_items,
     a_shuffled := f_shuffled,
     d_shuffled := PySem.W.fnOf "_law_shuffled" "_law_shuffled" (defArgs s_shuffled) (defBody s_shuffled) (defScope s_shuffled) .none kV_shuffled dc_shuffled pm_shuffled an_shuffled cd_shuffled ct_shuffled,
     a_part := f_part,
     d_part := PySem.W.fnOf "_law_part" "_law_part" (defArgs s_part) (defBody s_part) (defScope s_part) .none kV_part dc_part pm_part an_part cd_part ct_part,
     a_within := f_within,
     d_within := PySem.W.fnOf "_law_within" "_law_within" (defArgs s_within) (defBody s_within) (defScope s_within) .none kV_within dc_within pm_within an_within cd_within ct_within,
     a_free := f_free,
     d_free := PySem.W.fnOf "_law_free" "_law_free" (defArgs s_free) (defBody s_free) (defScope s_free) .none kV_free dc_free pm_free an_free cd_free ct_free,
     a_changed := f_changed,
     d_changed := PySem.W.fnOf "_law_changed" "_law_changed" (defArgs s_changed) (defBody s_changed) (defScope s_changed) .none kV_changed dc_changed pm_changed an_changed cd_changed ct_changed,
     a_spoiled := f_spoiled,
     d_spoiled := PySem.W.fnOf "_law_spoiled" "_law_spoiled" (defArgs s_spoiled) (defBody s_spoiled) (defScope s_spoiled) .none kV_spoiled dc_spoiled pm_spoiled an_spoiled cd_spoiled ct_spoiled,
     a_parts_wrong := f_parts_wrong,
     d_parts_wrong := PySem.W.fnOf "_law_parts_wrong" "_law_parts_wrong" (defArgs s_parts_wrong) (defBody s_parts_wrong) (defScope s_parts_wrong) .none kV_parts_wrong dc_parts_wrong pm_parts_wrong an_parts_wrong cd_parts_wrong ct_parts_wrong,
     a_variables_wrong := f_variables_wrong,
     d_variables_wrong := PySem.W.fnOf "_law_variables_wrong" "_law_variables_wrong" (defArgs s_variables_wrong) (defBody s_variables_wrong) (defScope s_variables_wrong) .none kV_variables_wrong dc_variables_wrong pm_variables_wrong an_variables_wrong cd_variables_wrong ct_variables_wrong,
     a_steps_wrong := f_steps_wrong,
     d_steps_wrong := PySem.W.fnOf "_law_steps_wrong" "_law_steps_wrong" (defArgs s_steps_wrong) (defBody s_steps_wrong) (defScope s_steps_wrong) .none kV_steps_wrong dc_steps_wrong pm_steps_wrong an_steps_wrong cd_steps_wrong ct_steps_wrong,
     a_wanted := f_wanted,
     d_wanted := PySem.W.fnOf "_law_wanted" "_law_wanted" (defArgs s_wanted) (defBody s_wanted) (defScope s_wanted) .none kV_wanted dc_wanted pm_wanted an_wanted cd_wanted ct_wanted,
     a_direct := f_direct,
     d_direct := PySem.W.fnOf "_law_direct" "_law_direct" (defArgs s_direct) (defBody s_direct) (defScope s_direct) .none kV_direct dc_direct pm_direct an_direct cd_direct ct_direct,
     a_asked := f_asked,
     d_asked := PySem.W.fnOf "_law_asked" "_law_asked" (defArgs s_asked) (defBody s_asked) (defScope s_asked) .none kV_asked dc_asked pm_asked an_asked cd_asked ct_asked,
     a_right := f_right,
     d_right := PySem.W.fnOf "_law_right" "_law_right" (defArgs s_right) (defBody s_right) (defScope s_right) .none kV_right dc_right pm_right an_right cd_right ct_right,
     a_round := f_round,
     d_round := PySem.W.fnOf "_law_round" "_law_round" (defArgs s_round) (defBody s_round) (defScope s_round) .none kV_round dc_round pm_round an_round cd_round ct_round,
     a_law := f_law,
     d_law := PySem.W.fnOf "law" "law" (defArgs s_law) (defBody s_law) (defScope s_law) .none kV_law dc_law pm_law an_law cd_law ct_law,
     c_UnkeptError := c_UnkeptError,
     c_NoPart := c_NoPart,
     c_NoNet := c_NoNet,
     c_NoName := c_NoName,
     c_NoStep := c_NoStep,
     c_NoDeed := c_NoDeed,
     c_NoText := c_NoText,
     c_NoRow := c_NoRow,
     c_Agent := c_Agent,
     c_Through := c_Through,
     c_Back := c_Back,
     c_Variable := c_Variable,
     c_Signal := c_Signal,
     c_Net := c_Net,
     t_LETTERS := t_LETTERS,
     t_LONGEST_NAME := t_LONGEST_NAME,
     t_ACCESS_WORDS := t_ACCESS_WORDS,
     t_UPKEEP_WORDS := t_UPKEEP_WORDS,
     t_SIGNAL_WORDS := t_SIGNAL_WORDS,
     t_PLAIN_WORDS := t_PLAIN_WORDS,
     t_CACHE_WORDS := t_CACHE_WORDS,
     t_GREATEST_SHIFT := t_GREATEST_SHIFT,
     t_GREATEST_BYTE := t_GREATEST_BYTE,
     t_MOST_STEPS := t_MOST_STEPS,
     t_MOST_TOKENS := t_MOST_TOKENS,
     t_GREATEST_SIZE := t_GREATEST_SIZE,
     t_MOST_SLOTS := t_MOST_SLOTS,
     t_ADDRESSES := t_ADDRESSES,
     t_MOST_AGENTS := t_MOST_AGENTS,
     t_MOST_VARIABLES := t_MOST_VARIABLES,
     t_MOST_SIGNALS := t_MOST_SIGNALS,
     t_LONGEST_RING := t_LONGEST_RING,
     t_LINES := tln },
   { n_ValueError := PySem.W.mg_none_of X G n_ValueError,
     n_max := PySem.W.mg_none_of X G n_max,
     n_list := PySem.W.mg_none_of X G n_list,
     n_int := PySem.W.mg_none_of X G n_int,
     n_len := PySem.W.mg_none_of X G n_len,
     n_abs := PySem.W.mg_none_of X G n_abs,
     n_isinstance := PySem.W.mg_none_of X G n_isinstance,
     n_str := PySem.W.mg_none_of X G n_str,
     n_bool := PySem.W.mg_none_of X G n_bool,
     n_tuple := PySem.W.mg_none_of X G n_tuple,
     n_all := PySem.W.mg_none_of X G n_all,
     n_any := PySem.W.mg_none_of X G n_any,
     n_enumerate := PySem.W.mg_none_of X G n_enumerate,
     n_range := PySem.W.mg_none_of X G n_range,
     n_reversed := PySem.W.mg_none_of X G n_reversed,
     F_NoPart_init := fun_mk (st := s_NoPart_init) l_NoPart_init e_NoPart_init p_NoPart_init,
     b_NoPart_init := (fun_mk (st := s_NoPart_init) l_NoPart_init e_NoPart_init p_NoPart_init).binds (ps := ["self", "reason", "place"]) fun _ _ _ _ _ _ us hl => match us, hl with | [_, _, _], _ => rfl,
     F_NoNet_init := fun_mk (st := s_NoNet_init) l_NoNet_init e_NoNet_init p_NoNet_init,
     b_NoNet_init := (fun_mk (st := s_NoNet_init) l_NoNet_init e_NoNet_init p_NoNet_init).binds (ps := ["self", "reason", "place"]) fun _ _ _ _ _ _ us hl => match us, hl with | [_, _, _], _ => rfl,
     F_is_integer := fun_mk (st := s_is_integer) l_is_integer e_is_integer p_is_integer,
     g_is_integer := PySem.W.mg_of X G a_is_integer,
     b_is_integer := (fun_mk (st := s_is_integer) l_is_integer e_is_integer p_is_integer).binds (ps := ["value"]) fun _ _ _ _ _ _ us hl => match us, hl with | [_], _ => rfl,
     F_is_within := fun_mk (st := s_is_within) l_is_within e_is_within p_is_within,
     g_is_within := PySem.W.mg_of X G a_is_within,
     b_is_within := (fun_mk (st := s_is_within) l_is_within e_is_within p_is_within).binds (ps := ["value", "low", "high"]) fun _ _ _ _ _ _ us hl => match us, hl with | [_, _, _], _ => rfl,
     F_is_name := fun_mk (st := s_is_name) l_is_name e_is_name p_is_name,
     g_is_name := PySem.W.mg_of X G a_is_name,
     b_is_name := (fun_mk (st := s_is_name) l_is_name e_is_name p_is_name).binds (ps := ["value"]) fun _ _ _ _ _ _ us hl => match us, hl with | [_], _ => rfl,
     F_is_step := fun_mk (st := s_is_step) l_is_step e_is_step p_is_step,
     g_is_step := PySem.W.mg_of X G a_is_step,
     b_is_step := (fun_mk (st := s_is_step) l_is_step e_is_step p_is_step).binds (ps := ["value"]) fun _ _ _ _ _ _ us hl => match us, hl with | [_], _ => rfl,
     F_is_memory_step := fun_mk (st := s_is_memory_step) l_is_memory_step e_is_memory_step p_is_memory_step,
     g_is_memory_step := PySem.W.mg_of X G a_is_memory_step,
     b_is_memory_step := (fun_mk (st := s_is_memory_step) l_is_memory_step e_is_memory_step p_is_memory_step).binds (ps := ["value"]) fun _ _ _ _ _ _ us hl => match us, hl with | [_], _ => rfl,
     F_concerns_signal := fun_mk (st := s_concerns_signal) l_concerns_signal e_concerns_signal p_concerns_signal,
     g_concerns_signal := PySem.W.mg_of X G a_concerns_signal,
     b_concerns_signal := (fun_mk (st := s_concerns_signal) l_concerns_signal e_concerns_signal p_concerns_signal).binds (ps := ["step"]) fun _ _ _ _ _ _ us hl => match us, hl with | [_], _ => rfl,
     F_check_agent := fun_mk (st := s_check_agent) l_check_agent e_check_agent p_check_agent,
     g_check_agent := PySem.W.mg_of X G a_check_agent,
     b_check_agent := (fun_mk (st := s_check_agent) l_check_agent e_check_agent p_check_agent).binds (ps := ["name", "steps", "words"]) fun _ _ _ _ _ _ us hl => match us, hl with | [_, _, _], _ => rfl,
     F_Agent_init := fun_mk (st := s_Agent_init) l_Agent_init e_Agent_init p_Agent_init,
     cm_Agent_made := ⟨cm_Agent_made, a_Agent_made, ⟨_, i_Agent_made⟩, j_Agent_made⟩,
     F_Agent_made := fun_mk (st := s_Agent_made) l_Agent_made e_Agent_made p_Agent_made,
     b_Agent_made := (fun_mk (st := s_Agent_made) l_Agent_made e_Agent_made p_Agent_made).binds (ps := ["cls", "name", "steps"]) fun _ _ _ _ _ _ us hl => match us, hl with | [_, _, _], _ => rfl,
     F_Through_init := fun_mk (st := s_Through_init) l_Through_init e_Through_init p_Through_init,
     cm_Through_made := ⟨cm_Through_made, a_Through_made, ⟨_, i_Through_made⟩, j_Through_made⟩,
     F_Through_made := fun_mk (st := s_Through_made) l_Through_made e_Through_made p_Through_made,
     b_Through_made := (fun_mk (st := s_Through_made) l_Through_made e_Through_made p_Through_made).binds (ps := ["cls", "name", "steps"]) fun _ _ _ _ _ _ us hl => match us, hl with | [_, _, _], _ => rfl,
     F_Back_init := fun_mk (st := s_Back_init) l_Back_init e_Back_init p_Back_init,
     cm_Back_made := ⟨cm_Back_made, a_Back_made, ⟨_, i_Back_made⟩, j_Back_made⟩,
     F_Back_made := fun_mk (st := s_Back_made) l_Back_made e_Back_made p_Back_made,
     b_Back_made := (fun_mk (st := s_Back_made) l_Back_made e_Back_made p_Back_made).binds (ps := ["cls", "name", "steps"]) fun _ _ _ _ _ _ us hl => match us, hl with | [_, _, _], _ => rfl,
     F_Signal_init := ⟨⟨oc_Signal_init, od_Signal_init, .ref dt_Signal_init, kV_Signal_init, dc_Signal_init, pm_Signal_init, an_Signal_init, cd_Signal_init, ct_Signal_init, sl_Signal_init, rfl, l_Signal_init, e_Signal_init, .inr ⟨(fun z => by cases z), dt_Signal_init, do_Signal_init, da_Signal_init.toList, dn_Signal_init, rfl, dl_Signal_init, (by rw [dd_Signal_init]), dv_Signal_init⟩, .inl rfl⟩, p_Signal_init⟩,
     F_Variable_init := fun_mk (st := s_Variable_init) l_Variable_init e_Variable_init p_Variable_init,
     cm_Variable_made := ⟨cm_Variable_made, a_Variable_made, ⟨_, i_Variable_made⟩, j_Variable_made⟩,
     F_Variable_made := fun_mk (st := s_Variable_made) l_Variable_made e_Variable_made p_Variable_made,
     b_Variable_made := (fun_mk (st := s_Variable_made) l_Variable_made e_Variable_made p_Variable_made).binds (ps := ["cls", "name", "size", "at"]) fun _ _ _ _ _ _ us hl => match us, hl with | [_, _, _, _], _ => rfl,
     F_check_addresses := fun_mk (st := s_check_addresses) l_check_addresses e_check_addresses p_check_addresses,
     g_check_addresses := PySem.W.mg_of X G a_check_addresses,
     b_check_addresses := (fun_mk (st := s_check_addresses) l_check_addresses e_check_addresses p_check_addresses).binds (ps := ["size", "at"]) fun _ _ _ _ _ _ us hl => match us, hl with | [_, _], _ => rfl,
     F_check_slots_apart := fun_mk (st := s_check_slots_apart) l_check_slots_apart e_check_slots_apart p_check_slots_apart,
     g_check_slots_apart := PySem.W.mg_of X G a_check_slots_apart,
     b_check_slots_apart := (fun_mk (st := s_check_slots_apart) l_check_slots_apart e_check_slots_apart p_check_slots_apart).binds (ps := ["size", "at"]) fun _ _ _ _ _ _ us hl => match us, hl with | [_, _], _ => rfl,
     F_Net_init := ⟨⟨oc_Net_init, od_Net_init, .none, .ref kw_Net_init, dc_Net_init, pm_Net_init, an_Net_init, cd_Net_init, ct_Net_init, sl_Net_init, rfl, l_Net_init, e_Net_init, .inl ⟨rfl, rfl⟩, .inr ⟨kw_Net_init, rfl, List.forall_mem_cons.mpr ⟨⟨_, kd_Net_init_line, ⟨_, rfl⟩⟩, List.forall_mem_cons.mpr ⟨⟨_, kd_Net_init_ring, ⟨_, rfl⟩⟩, fun _ hq => by cases hq⟩⟩⟩⟩, p_Net_init⟩,
     cm_Net_made := ⟨cm_Net_made, a_Net_made, ⟨_, i_Net_made⟩, j_Net_made⟩,
     F_Net_made := ⟨⟨oc_Net_made, od_Net_made, .none, .ref kw_Net_made, dc_Net_made, pm_Net_made, an_Net_made, cd_Net_made, ct_Net_made, sl_Net_made, rfl, l_Net_made, e_Net_made, .inl ⟨rfl, rfl⟩, .inr ⟨kw_Net_made, rfl, List.forall_mem_cons.mpr ⟨⟨_, kd_Net_made_line, ⟨_, rfl⟩⟩, List.forall_mem_cons.mpr ⟨⟨_, kd_Net_made_ring, ⟨_, rfl⟩⟩, fun _ hq => by cases hq⟩⟩⟩⟩, p_Net_made⟩,
     F_check_parts := fun_mk (st := s_check_parts) l_check_parts e_check_parts p_check_parts,
     g_check_parts := PySem.W.mg_of X G a_check_parts,
     b_check_parts := (fun_mk (st := s_check_parts) l_check_parts e_check_parts p_check_parts).binds (ps := ["parts", "ring"]) fun _ _ _ _ _ _ us hl => match us, hl with | [_, _], _ => rfl,
     F_check_many := fun_mk (st := s_check_many) l_check_many e_check_many p_check_many,
     g_check_many := PySem.W.mg_of X G a_check_many,
     b_check_many := (fun_mk (st := s_check_many) l_check_many e_check_many p_check_many).binds (ps := ["parts"]) fun _ _ _ _ _ _ us hl => match us, hl with | [_], _ => rfl,
     F_check_names := fun_mk (st := s_check_names) l_check_names e_check_names p_check_names,
     g_check_names := PySem.W.mg_of X G a_check_names,
     b_check_names := (fun_mk (st := s_check_names) l_check_names e_check_names p_check_names).binds (ps := ["parts"]) fun _ _ _ _ _ _ us hl => match us, hl with | [_], _ => rfl,
     F_check_bytes := fun_mk (st := s_check_bytes) l_check_bytes e_check_bytes p_check_bytes,
     g_check_bytes := PySem.W.mg_of X G a_check_bytes,
     b_check_bytes := (fun_mk (st := s_check_bytes) l_check_bytes e_check_bytes p_check_bytes).binds (ps := ["parts"]) fun _ _ _ _ _ _ us hl => match us, hl with | [_], _ => rfl,
     F_check_steps := fun_mk (st := s_check_steps) l_check_steps e_check_steps p_check_steps,
     g_check_steps := PySem.W.mg_of X G a_check_steps,
     b_check_steps := (fun_mk (st := s_check_steps) l_check_steps e_check_steps p_check_steps).binds (ps := ["parts", "agents"]) fun _ _ _ _ _ _ us hl => match us, hl with | [_, _], _ => rfl,
     F_check_signals := fun_mk (st := s_check_signals) l_check_signals e_check_signals p_check_signals,
     g_check_signals := PySem.W.mg_of X G a_check_signals,
     b_check_signals := (fun_mk (st := s_check_signals) l_check_signals e_check_signals p_check_signals).binds (ps := ["parts", "agents"]) fun _ _ _ _ _ _ us hl => match us, hl with | [_, _], _ => rfl,
     F_pen := fun_mk (st := s_pen) l_pen e_pen p_pen,
     g_pen := PySem.W.mg_of X G a_pen,
     b_pen := (fun_mk (st := s_pen) l_pen e_pen p_pen).binds (ps := ["_law_script"]) fun _ _ _ _ _ _ us hl => match us, hl with | [_], _ => rfl,
     F_draw := fun_mk (st := s_draw) l_draw e_draw p_draw,
     g_draw := PySem.W.mg_of X G a_draw,
     b_draw := (fun_mk (st := s_draw) l_draw e_draw p_draw).binds (ps := ["_law_pen_here", "_law_many"]) fun _ _ _ _ _ _ us hl => match us, hl with | [_, _], _ => rfl,
     F_thing := fun_mk (st := s_thing) l_thing e_thing p_thing,
     g_thing := PySem.W.mg_of X G a_thing,
     b_thing := (fun_mk (st := s_thing) l_thing e_thing p_thing).binds (ps := ["_law_pen_here"]) fun _ _ _ _ _ _ us hl => match us, hl with | [_], _ => rfl,
     F_steps := fun_mk (st := s_steps) l_steps e_steps p_steps,
     g_steps := PySem.W.mg_of X G a_steps,
     b_steps := (fun_mk (st := s_steps) l_steps e_steps p_steps).binds (ps := ["_law_pen_here", "_law_kind", "_law_variables_here", "_law_signalled"]) fun _ _ _ _ _ _ us hl => match us, hl with | [_, _, _, _], _ => rfl,
     F_items := fun_mk (st := s_items) l_items e_items p_items,
     g_items := PySem.W.mg_of X G a_items,
     b_items := (fun_mk (st := s_items) l_items e_items p_items).binds (ps := ["_law_pen_here", "_law_slots_here"]) fun _ _ _ _ _ _ us hl => match us, hl with | [_, _], _ => rfl,
     F_shuffled := fun_mk (st := s_shuffled) l_shuffled e_shuffled p_shuffled,
     g_shuffled := PySem.W.mg_of X G a_shuffled,
     b_shuffled := (fun_mk (st := s_shuffled) l_shuffled e_shuffled p_shuffled).binds (ps := ["_law_pen_here", "_law_items_here"]) fun _ _ _ _ _ _ us hl => match us, hl with | [_, _], _ => rfl,
     F_part := fun_mk (st := s_part) l_part e_part p_part,
     g_part := PySem.W.mg_of X G a_part,
     b_part := (fun_mk (st := s_part) l_part e_part p_part).binds (ps := ["_law_item"]) fun _ _ _ _ _ _ us hl => match us, hl with | [_], _ => rfl,
     F_within := fun_mk (st := s_within) l_within e_within p_within,
     g_within := PySem.W.mg_of X G a_within,
     b_within := (fun_mk (st := s_within) l_within e_within p_within).binds (ps := ["_law_value", "_law_least", "_law_greatest"]) fun _ _ _ _ _ _ us hl => match us, hl with | [_, _, _], _ => rfl,
     F_free := fun_mk (st := s_free) l_free e_free p_free,
     g_free := PySem.W.mg_of X G a_free,
     b_free := (fun_mk (st := s_free) l_free e_free p_free).binds (ps := ["_law_pen_here", "_law_own"]) fun _ _ _ _ _ _ us hl => match us, hl with | [_, _], _ => rfl,
     F_changed := fun_mk (st := s_changed) l_changed e_changed p_changed,
     g_changed := PySem.W.mg_of X G a_changed,
     b_changed := (fun_mk (st := s_changed) l_changed e_changed p_changed).binds (ps := ["_law_pen_here", "_law_item", "_law_others"]) fun _ _ _ _ _ _ us hl => match us, hl with | [_, _, _], _ => rfl,
     F_spoiled := fun_mk (st := s_spoiled) l_spoiled e_spoiled p_spoiled,
     g_spoiled := PySem.W.mg_of X G a_spoiled,
     b_spoiled := (fun_mk (st := s_spoiled) l_spoiled e_spoiled p_spoiled).binds (ps := ["_law_pen_here", "_law_items_here"]) fun _ _ _ _ _ _ us hl => match us, hl with | [_, _], _ => rfl,
     F_parts_wrong := fun_mk (st := s_parts_wrong) l_parts_wrong e_parts_wrong p_parts_wrong,
     g_parts_wrong := PySem.W.mg_of X G a_parts_wrong,
     b_parts_wrong := (fun_mk (st := s_parts_wrong) l_parts_wrong e_parts_wrong p_parts_wrong).binds (ps := ["_law_items_here"]) fun _ _ _ _ _ _ us hl => match us, hl with | [_], _ => rfl,
     F_variables_wrong := fun_mk (st := s_variables_wrong) l_variables_wrong e_variables_wrong p_variables_wrong,
     g_variables_wrong := PySem.W.mg_of X G a_variables_wrong,
     b_variables_wrong := (fun_mk (st := s_variables_wrong) l_variables_wrong e_variables_wrong p_variables_wrong).binds (ps := ["_law_items_here", "_law_slots_here"]) fun _ _ _ _ _ _ us hl => match us, hl with | [_, _], _ => rfl,
     F_steps_wrong := fun_mk (st := s_steps_wrong) l_steps_wrong e_steps_wrong p_steps_wrong,
     g_steps_wrong := PySem.W.mg_of X G a_steps_wrong,
     b_steps_wrong := (fun_mk (st := s_steps_wrong) l_steps_wrong e_steps_wrong p_steps_wrong).binds (ps := ["_law_items_here"]) fun _ _ _ _ _ _ us hl => match us, hl with | [_], _ => rfl,
     F_wanted := fun_mk (st := s_wanted) l_wanted e_wanted p_wanted,
     g_wanted := PySem.W.mg_of X G a_wanted,
     b_wanted := (fun_mk (st := s_wanted) l_wanted e_wanted p_wanted).binds (ps := ["_law_items_here", "_law_width", "_law_slots_here"]) fun _ _ _ _ _ _ us hl => match us, hl with | [_, _, _], _ => rfl,
     F_direct := fun_mk (st := s_direct) l_direct e_direct p_direct,
     g_direct := PySem.W.mg_of X G a_direct,
     b_direct := (fun_mk (st := s_direct) l_direct e_direct p_direct).binds (ps := ["_law_handed", "_law_width", "_law_slots_here"]) fun _ _ _ _ _ _ us hl => match us, hl with | [_, _, _], _ => rfl,
     F_asked := fun_mk (st := s_asked) l_asked e_asked p_asked,
     g_asked := PySem.W.mg_of X G a_asked,
     b_asked := (fun_mk (st := s_asked) l_asked e_asked p_asked).binds (ps := ["_law_handed", "_law_width", "_law_slots_here", "_law_direct_here"]) fun _ _ _ _ _ _ us hl => match us, hl with | [_, _, _, _], _ => rfl,
     F_right := fun_mk (st := s_right) l_right e_right p_right,
     g_right := PySem.W.mg_of X G a_right,
     b_right := (fun_mk (st := s_right) l_right e_right p_right).binds (ps := ["_law_found", "_law_wanted_here", "_law_items_here", "_law_handed", "_law_width", "_law_slots_here"]) fun _ _ _ _ _ _ us hl => match us, hl with | [_, _, _, _, _, _], _ => rfl,
     F_round := fun_mk (st := s_round) l_round e_round p_round,
     g_round := PySem.W.mg_of X G a_round,
     b_round := (fun_mk (st := s_round) l_round e_round p_round).binds (ps := ["_law_pen_here"]) fun _ _ _ _ _ _ us hl => match us, hl with | [_], _ => rfl,
     F_law := fun_mk (st := s_law) l_law e_law p_law,
     g_law := PySem.W.mg_of X G a_law,
     b_law := (fun_mk (st := s_law) l_law e_law p_law).binds (ps := ["_law_script"]) fun _ _ _ _ _ _ us hl => match us, hl with | [_], _ => rfl,
     g_UnkeptError := PySem.W.mg_of X G a_UnkeptError,
     g_NoPart := PySem.W.mg_of X G a_NoPart,
     g_NoNet := PySem.W.mg_of X G a_NoNet,
     g_NoName := PySem.W.mg_of X G a_NoName,
     g_NoStep := PySem.W.mg_of X G a_NoStep,
     g_NoDeed := PySem.W.mg_of X G a_NoDeed,
     g_NoText := PySem.W.mg_of X G a_NoText,
     g_NoRow := PySem.W.mg_of X G a_NoRow,
     g_Agent := PySem.W.mg_of X G a_Agent,
     cl_Agent := ⟨pg_Agent, hd_Agent, po_Agent, sa_Agent⟩,
     na_Agent_name := na_Agent_name,
     na_Agent_steps := na_Agent_steps,
     mk_Agent := ⟨mk_Agent, a_Agent_init, i_Agent_init, kc_Agent⟩,
     g_Through := PySem.W.mg_of X G a_Through,
     cl_Through := ⟨pg_Through, hd_Through, po_Through, sa_Through⟩,
     na_Through_name := na_Through_name,
     na_Through_steps := na_Through_steps,
     mk_Through := ⟨mk_Through, a_Through_init, i_Through_init, kc_Through⟩,
     g_Back := PySem.W.mg_of X G a_Back,
     cl_Back := ⟨pg_Back, hd_Back, po_Back, sa_Back⟩,
     na_Back_name := na_Back_name,
     na_Back_steps := na_Back_steps,
     mk_Back := ⟨mk_Back, a_Back_init, i_Back_init, kc_Back⟩,
     g_Variable := PySem.W.mg_of X G a_Variable,
     cl_Variable := ⟨pg_Variable, hd_Variable, po_Variable, sa_Variable⟩,
     na_Variable_name := na_Variable_name,
     na_Variable_size := na_Variable_size,
     na_Variable_at := na_Variable_at,
     mk_Variable := ⟨mk_Variable, a_Variable_init, i_Variable_init, kc_Variable⟩,
     g_Signal := PySem.W.mg_of X G a_Signal,
     cl_Signal := ⟨pg_Signal, hd_Signal, po_Signal, sa_Signal⟩,
     na_Signal_name := na_Signal_name,
     na_Signal_tokens := na_Signal_tokens,
     mk_Signal := ⟨mk_Signal, a_Signal_init, i_Signal_init, kc_Signal⟩,
     g_Net := PySem.W.mg_of X G a_Net,
     cl_Net := ⟨pg_Net, hd_Net, po_Net, sa_Net⟩,
     na_Net_line := na_Net_line,
     na_Net_ring := na_Net_ring,
     na_Net_variables := na_Net_variables,
     na_Net_signals := na_Net_signals,
     na_Net_agents := na_Net_agents,
     na_Net__named := na_Net__named,
     mk_Net := ⟨mk_Net, a_Net_init, i_Net_init, kc_Net⟩,
     k_LETTERS := PySem.W.mg_of X G k_LETTERS,
     k_LONGEST_NAME := PySem.W.mg_of X G k_LONGEST_NAME,
     k_ACCESS_WORDS := PySem.W.mg_of X G k_ACCESS_WORDS,
     q_ACCESS_WORDS := fun _ => .inr ⟨o_ACCESS_WORDS, its_ACCESS_WORDS, n_ACCESS_WORDS, lk_ACCESS_WORDS, oc_ACCESS_WORDS, od_ACCESS_WORDS, oz_ACCESS_WORDS, ov_ACCESS_WORDS⟩,
     k_UPKEEP_WORDS := PySem.W.mg_of X G k_UPKEEP_WORDS,
     q_UPKEEP_WORDS := fun _ => .inr ⟨o_UPKEEP_WORDS, its_UPKEEP_WORDS, n_UPKEEP_WORDS, lk_UPKEEP_WORDS, oc_UPKEEP_WORDS, od_UPKEEP_WORDS, oz_UPKEEP_WORDS, ov_UPKEEP_WORDS⟩,
     k_SIGNAL_WORDS := PySem.W.mg_of X G k_SIGNAL_WORDS,
     q_SIGNAL_WORDS := fun _ => .inr ⟨o_SIGNAL_WORDS, its_SIGNAL_WORDS, n_SIGNAL_WORDS, lk_SIGNAL_WORDS, oc_SIGNAL_WORDS, od_SIGNAL_WORDS, oz_SIGNAL_WORDS, ov_SIGNAL_WORDS⟩,
     k_PLAIN_WORDS := PySem.W.mg_of X G k_PLAIN_WORDS,
     q_PLAIN_WORDS := fun _ => .inr ⟨o_PLAIN_WORDS, its_PLAIN_WORDS, n_PLAIN_WORDS, lk_PLAIN_WORDS, oc_PLAIN_WORDS, od_PLAIN_WORDS, oz_PLAIN_WORDS, ov_PLAIN_WORDS⟩,
     k_CACHE_WORDS := PySem.W.mg_of X G k_CACHE_WORDS,
     q_CACHE_WORDS := fun _ => .inr ⟨o_CACHE_WORDS, its_CACHE_WORDS, n_CACHE_WORDS, lk_CACHE_WORDS, oc_CACHE_WORDS, od_CACHE_WORDS, oz_CACHE_WORDS, ov_CACHE_WORDS⟩,
     k_GREATEST_SHIFT := PySem.W.mg_of X G k_GREATEST_SHIFT,
     k_GREATEST_BYTE := PySem.W.mg_of X G k_GREATEST_BYTE,
     k_MOST_STEPS := PySem.W.mg_of X G k_MOST_STEPS,
     k_MOST_TOKENS := PySem.W.mg_of X G k_MOST_TOKENS,
     k_GREATEST_SIZE := PySem.W.mg_of X G k_GREATEST_SIZE,
     k_MOST_SLOTS := PySem.W.mg_of X G k_MOST_SLOTS,
     k_ADDRESSES := PySem.W.mg_of X G k_ADDRESSES,
     k_MOST_AGENTS := PySem.W.mg_of X G k_MOST_AGENTS,
     k_MOST_VARIABLES := PySem.W.mg_of X G k_MOST_VARIABLES,
     k_MOST_SIGNALS := PySem.W.mg_of X G k_MOST_SIGNALS,
     k_LONGEST_RING := PySem.W.mg_of X G k_LONGEST_RING,
     ox_NoPart := ⟨⟨_, _, _, _, _, _, _, _, _, _, _, _, _, _, _, xl_NoPart, xb_NoPart⟩, sa_NoPart, ec_NoPart, ty_NoPart, ke_NoPart⟩,
     xf_NoPart := ⟨ga_NoPart, gn_NoPart, ec_NoPart, hd_NoPart⟩,
     xc_NoPart := ⟨ga_NoPart, gn_NoPart, ec_NoPart, hd_NoPart, ci_NoPart, gg, tk, mo_NoPart⟩,
     ie_NoPart := a_NoPart_init,
     it_NoPart := beq_iff_eq.mp i_NoPart_init,
     nf_NoPart_reason := nf_NoPart_reason,
     nf_NoPart_place := nf_NoPart_place,
     em_NoPart := PySem.W.exm_ref ec_UnkeptError hd_UnkeptError ty_UnkeptError su_NoPart,
     ox_NoNet := ⟨⟨_, _, _, _, _, _, _, _, _, _, _, _, _, _, _, xl_NoNet, xb_NoNet⟩, sa_NoNet, ec_NoNet, ty_NoNet, ke_NoNet⟩,
     xf_NoNet := ⟨ga_NoNet, gn_NoNet, ec_NoNet, hd_NoNet⟩,
     xc_NoNet := ⟨ga_NoNet, gn_NoNet, ec_NoNet, hd_NoNet, ci_NoNet, gg, tk, mo_NoNet⟩,
     ie_NoNet := a_NoNet_init,
     it_NoNet := beq_iff_eq.mp i_NoNet_init,
     nf_NoNet_reason := nf_NoNet_reason,
     nf_NoNet_place := nf_NoNet_place,
     em_NoNet := PySem.W.exm_ref ec_UnkeptError hd_UnkeptError ty_UnkeptError su_NoNet,
     ki_NoNet_NoNet := Lay.kit_own mo_NoNet ty_NoNet ss_NoNet ss_NoNet,
     ki_NoNet_NoPart := Lay.kit_own mo_NoPart ty_NoPart ss_NoPart sb_NoNet_NoPart,
     ki_NoNet_NoName := Lay.kit_own mo_NoName ty_NoName ss_NoName sb_NoNet_NoName,
     ki_NoNet_NoStep := Lay.kit_own mo_NoStep ty_NoStep ss_NoStep sb_NoNet_NoStep,
     ki_NoNet_NoDeed := Lay.kit_own mo_NoDeed ty_NoDeed ss_NoDeed sb_NoNet_NoDeed,
     ki_NoNet_NoText := Lay.kit_own mo_NoText ty_NoText ss_NoText sb_NoNet_NoText,
     ki_NoNet_NoRow := Lay.kit_own mo_NoRow ty_NoRow ss_NoRow sb_NoNet_NoRow,
     kt_NoNet_ValueError := Lay.kit_ownB st_NoNet_ValueError,
     in_Agent := fun H a dx fs h => .base (.ins h ⟨pg_Agent, hd_Agent, po_Agent, sa_Agent⟩ ci_Agent gg tk mo_Agent),
     cr_Agent := ⟨rd_Agent, gc_Agent⟩,
     in_Through := fun H a dx fs h => .base (.ins h ⟨pg_Through, hd_Through, po_Through, sa_Through⟩ ci_Through gg tk mo_Through),
     cr_Through := ⟨rd_Through, gc_Through⟩,
     in_Back := fun H a dx fs h => .base (.ins h ⟨pg_Back, hd_Back, po_Back, sa_Back⟩ ci_Back gg tk mo_Back),
     cr_Back := ⟨rd_Back, gc_Back⟩,
     in_Variable := fun H a dx fs h => .base (.ins h ⟨pg_Variable, hd_Variable, po_Variable, sa_Variable⟩ ci_Variable gg tk mo_Variable),
     cr_Variable := ⟨rd_Variable, gc_Variable⟩,
     in_Signal := fun H a dx fs h => .base (.ins h ⟨pg_Signal, hd_Signal, po_Signal, sa_Signal⟩ ci_Signal gg tk mo_Signal),
     in_Net := fun H a dx fs h => .base (.ins h ⟨pg_Net, hd_Net, po_Net, sa_Net⟩ ci_Net gg tk mo_Net),
     cr_Net := ⟨rd_Net, gc_Net⟩,
     co_LINES := ⟨_, co_LINES, rfl, cg_LINES, by decide⟩,
     q_LINES := fun _ => .inr ⟨oln, itn, nln, lk_LINES, oc_LINES, od_LINES, oz_LINES, ov_LINES⟩,
     ki_Agent_Variable := Lay.kit_own mo_Variable ty_Variable ss_Variable sb_Agent_Variable,
     ki_Agent_Signal := Lay.kit_own mo_Signal ty_Signal ss_Signal sb_Agent_Signal,
     ki_Agent_Agent := Lay.kit_own mo_Agent ty_Agent ss_Agent ss_Agent,
     ki_Through_Variable := Lay.kit_own mo_Variable ty_Variable ss_Variable sb_Through_Variable,
     ki_Through_Signal := Lay.kit_own mo_Signal ty_Signal ss_Signal sb_Through_Signal,
     ki_Through_Agent := Lay.kit_own mo_Agent ty_Agent ss_Agent sb_Through_Agent,
     ki_Back_Variable := Lay.kit_own mo_Variable ty_Variable ss_Variable sb_Back_Variable,
     ki_Back_Signal := Lay.kit_own mo_Signal ty_Signal ss_Signal sb_Back_Signal,
     ki_Back_Agent := Lay.kit_own mo_Agent ty_Agent ss_Agent sb_Back_Agent,
     ki_Variable_Variable := Lay.kit_own mo_Variable ty_Variable ss_Variable ss_Variable,
     ki_Variable_Signal := Lay.kit_own mo_Signal ty_Signal ss_Signal sb_Variable_Signal,
     ki_Variable_Agent := Lay.kit_own mo_Agent ty_Agent ss_Agent sb_Variable_Agent,
     ki_Signal_Variable := Lay.kit_own mo_Variable ty_Variable ss_Variable sb_Signal_Variable,
     ki_Signal_Signal := Lay.kit_own mo_Signal ty_Signal ss_Signal ss_Signal,
     ki_Signal_Agent := Lay.kit_own mo_Agent ty_Agent ss_Agent sb_Signal_Agent,
     ki_Net_Net := Lay.kit_own mo_Net ty_Net ss_Net ss_Net,
     sp_NoneType_Variable := sp_NoneType_Variable,
     kp_NoneType_Variable := Lay.kit_prim mo_Variable ty_Variable sp_NoneType_Variable,
     sp_NoneType_Signal := sp_NoneType_Signal,
     kp_NoneType_Signal := Lay.kit_prim mo_Signal ty_Signal sp_NoneType_Signal,
     sp_NoneType_Agent := sp_NoneType_Agent,
     kp_NoneType_Agent := Lay.kit_prim mo_Agent ty_Agent sp_NoneType_Agent,
     sp_bool_Variable := sp_bool_Variable,
     kp_bool_Variable := Lay.kit_prim mo_Variable ty_Variable sp_bool_Variable,
     sp_bool_Signal := sp_bool_Signal,
     kp_bool_Signal := Lay.kit_prim mo_Signal ty_Signal sp_bool_Signal,
     sp_bool_Agent := sp_bool_Agent,
     kp_bool_Agent := Lay.kit_prim mo_Agent ty_Agent sp_bool_Agent,
     sp_int_Variable := sp_int_Variable,
     kp_int_Variable := Lay.kit_prim mo_Variable ty_Variable sp_int_Variable,
     sp_int_Signal := sp_int_Signal,
     kp_int_Signal := Lay.kit_prim mo_Signal ty_Signal sp_int_Signal,
     sp_int_Agent := sp_int_Agent,
     kp_int_Agent := Lay.kit_prim mo_Agent ty_Agent sp_int_Agent,
     sp_str_Variable := sp_str_Variable,
     kp_str_Variable := Lay.kit_prim mo_Variable ty_Variable sp_str_Variable,
     sp_str_Signal := sp_str_Signal,
     kp_str_Signal := Lay.kit_prim mo_Signal ty_Signal sp_str_Signal,
     sp_str_Agent := sp_str_Agent,
     kp_str_Agent := Lay.kit_prim mo_Agent ty_Agent sp_str_Agent,
     sp_tuple_Variable := sp_tuple_Variable,
     kp_tuple_Variable := Lay.kit_prim mo_Variable ty_Variable sp_tuple_Variable,
     sp_tuple_Signal := sp_tuple_Signal,
     kp_tuple_Signal := Lay.kit_prim mo_Signal ty_Signal sp_tuple_Signal,
     sp_tuple_Agent := sp_tuple_Agent,
     kp_tuple_Agent := Lay.kit_prim mo_Agent ty_Agent sp_tuple_Agent,
     sp_list_Variable := sp_list_Variable,
     kp_list_Variable := Lay.kit_prim mo_Variable ty_Variable sp_list_Variable,
     sp_list_Signal := sp_list_Signal,
     kp_list_Signal := Lay.kit_prim mo_Signal ty_Signal sp_list_Signal,
     sp_list_Agent := sp_list_Agent,
     kp_list_Agent := Lay.kit_prim mo_Agent ty_Agent sp_list_Agent,
     sp_dict_Variable := sp_dict_Variable,
     kp_dict_Variable := Lay.kit_prim mo_Variable ty_Variable sp_dict_Variable,
     sp_dict_Signal := sp_dict_Signal,
     kp_dict_Signal := Lay.kit_prim mo_Signal ty_Signal sp_dict_Signal,
     sp_dict_Agent := sp_dict_Agent,
     kp_dict_Agent := Lay.kit_prim mo_Agent ty_Agent sp_dict_Agent }⟩
def cs (A : Adr) : NetL.Cs := ⟨A.c_Variable, A.c_Signal, A.c_Agent, A.c_Through, A.c_Back⟩
theorem of_ag (A : Adr) (z : Str) (k : Int) (ls : List (List V)) : (cs A).of (.ag z k ls) = A.c_Agent ∨ (cs A).of (.ag z k ls) = A.c_Through ∨ (cs A).of (.ag z k ls) = A.c_Back := by
  unfold NetL.Cs.of cs
  dsimp only
  split
  · exact .inl rfl
  · split
    · exact .inr (.inl rfl)
    · exact .inr (.inr rfl)
theorem nc {K : PySem.W.Frag} {mg : Str → Option Value} {A : Adr} (T : Txt K mg A) : NetL.NetC K (cs A) where
  cl it := by
    cases it with
    | vr z s ats => exact T.cl_Variable
    | sg z t => exact T.cl_Signal
    | ag z k ls => rcases of_ag A z k ls with e | e | e <;> rw [e] <;> first | exact T.cl_Agent | exact T.cl_Through | exact T.cl_Back
  nn it := by
    cases it with
    | vr z s ats => exact T.na_Variable_name
    | sg z t => exact T.na_Signal_name
    | ag z k ls => rcases of_ag A z k ls with e | e | e <;> rw [e] <;> first | exact T.na_Agent_name | exact T.na_Through_name | exact T.na_Back_name
  ty H x dx fs it h := by
    cases it with
    | vr z s ats => exact T.in_Variable H x dx fs h
    | sg z t => exact T.in_Signal H x dx fs h
    | ag z k ls => rcases of_ag A z k ls with e | e | e <;> rw [e] at h ⊢ <;> first | exact T.in_Agent H x dx fs h | exact T.in_Through H x dx fs h | exact T.in_Back H x dx fs h
  kv it := by
    cases it with
    | vr z s ats => exact T.ki_Variable_Variable
    | sg z t => exact T.ki_Signal_Variable
    | ag z k ls => rcases of_ag A z k ls with e | e | e <;> rw [e] <;> first | exact T.ki_Agent_Variable | exact T.ki_Through_Variable | exact T.ki_Back_Variable
  ks it := by
    cases it with
    | vr z s ats => exact T.ki_Variable_Signal
    | sg z t => exact T.ki_Signal_Signal
    | ag z k ls => rcases of_ag A z k ls with e | e | e <;> rw [e] <;> first | exact T.ki_Agent_Signal | exact T.ki_Through_Signal | exact T.ki_Back_Signal
  ka it := by
    cases it with
    | vr z s ats => exact T.ki_Variable_Agent
    | sg z t => exact T.ki_Signal_Agent
    | ag z k ls => rcases of_ag A z k ls with e | e | e <;> rw [e] <;> first | exact T.ki_Agent_Agent | exact T.ki_Through_Agent | exact T.ki_Back_Agent
  va := T.na_Variable_at
  vs := T.na_Variable_size
  st := T.na_Signal_tokens
  as z k ls := by rcases of_ag A z k ls with e | e | e <;> rw [e] <;> first | exact T.na_Agent_steps | exact T.na_Through_steps | exact T.na_Back_steps
end My
namespace My
open PySem PySem.Spec PyProof.Rows L2
theorem txt_z {K : PySem.W.Frag} {h : Heap} {mg : Str → Option Value} (X : K.In h) (G : h.Ns mainGlobals mg) (c : Hz.Says zex zfn K) : ∃ A : Adr, Txt K mg A := by
  obtain ⟨fd_NoPart_init, F_NoPart_init⟩ := c.def_ 0 (d := zd_NoPart_init) rfl
  obtain ⟨⟨oc_NoPart_init, od_NoPart_init, kV_NoPart_init, dc_NoPart_init, pm_NoPart_init, an_NoPart_init, cd_NoPart_init, ct_NoPart_init, sl_NoPart_init, e0_NoPart_init, l_NoPart_init, e_NoPart_init⟩, p_NoPart_init⟩ := He5.fun_of (st := s_NoPart_init) F_NoPart_init
  subst e0_NoPart_init
  obtain ⟨fd_NoNet_init, F_NoNet_init⟩ := c.def_ 1 (d := zd_NoNet_init) rfl
  obtain ⟨⟨oc_NoNet_init, od_NoNet_init, kV_NoNet_init, dc_NoNet_init, pm_NoNet_init, an_NoNet_init, cd_NoNet_init, ct_NoNet_init, sl_NoNet_init, e0_NoNet_init, l_NoNet_init, e_NoNet_init⟩, p_NoNet_init⟩ := He5.fun_of (st := s_NoNet_init) F_NoNet_init
  subst e0_NoNet_init
  obtain ⟨fd_is_integer, F_is_integer⟩ := c.def_ 2 (d := zd_is_integer) rfl
  obtain ⟨⟨oc_is_integer, od_is_integer, kV_is_integer, dc_is_integer, pm_is_integer, an_is_integer, cd_is_integer, ct_is_integer, sl_is_integer, e0_is_integer, l_is_integer, e_is_integer⟩, p_is_integer⟩ := He5.fun_of (st := s_is_integer) F_is_integer
  subst e0_is_integer
  obtain ⟨fd_is_within, F_is_within⟩ := c.def_ 3 (d := zd_is_within) rfl
  obtain ⟨⟨oc_is_within, od_is_within, kV_is_within, dc_is_within, pm_is_within, an_is_within, cd_is_within, ct_is_within, sl_is_within, e0_is_within, l_is_within, e_is_within⟩, p_is_within⟩ := He5.fun_of (st := s_is_within) F_is_within
  subst e0_is_within
  obtain ⟨fd_is_name, F_is_name⟩ := c.def_ 4 (d := zd_is_name) rfl
  obtain ⟨⟨oc_is_name, od_is_name, kV_is_name, dc_is_name, pm_is_name, an_is_name, cd_is_name, ct_is_name, sl_is_name, e0_is_name, l_is_name, e_is_name⟩, p_is_name⟩ := He5.fun_of (st := s_is_name) F_is_name
  subst e0_is_name
  obtain ⟨fd_is_step, F_is_step⟩ := c.def_ 5 (d := zd_is_step) rfl
  obtain ⟨⟨oc_is_step, od_is_step, kV_is_step, dc_is_step, pm_is_step, an_is_step, cd_is_step, ct_is_step, sl_is_step, e0_is_step, l_is_step, e_is_step⟩, p_is_step⟩ := He5.fun_of (st := s_is_step) F_is_step
  subst e0_is_step
  obtain ⟨fd_is_memory_step, F_is_memory_step⟩ := c.def_ 6 (d := zd_is_memory_step) rfl
  obtain ⟨⟨oc_is_memory_step, od_is_memory_step, kV_is_memory_step, dc_is_memory_step, pm_is_memory_step, an_is_memory_step, cd_is_memory_step, ct_is_memory_step, sl_is_memory_step, e0_is_memory_step, l_is_memory_step, e_is_memory_step⟩, p_is_memory_step⟩ := He5.fun_of (st := s_is_memory_step) F_is_memory_step
  subst e0_is_memory_step
  obtain ⟨fd_concerns_signal, F_concerns_signal⟩ := c.def_ 7 (d := zd_concerns_signal) rfl
  obtain ⟨⟨oc_concerns_signal, od_concerns_signal, kV_concerns_signal, dc_concerns_signal, pm_concerns_signal, an_concerns_signal, cd_concerns_signal, ct_concerns_signal, sl_concerns_signal, e0_concerns_signal, l_concerns_signal, e_concerns_signal⟩, p_concerns_signal⟩ := He5.fun_of (st := s_concerns_signal) F_concerns_signal
  subst e0_concerns_signal
  obtain ⟨fd_check_agent, F_check_agent⟩ := c.def_ 8 (d := zd_check_agent) rfl
  obtain ⟨⟨oc_check_agent, od_check_agent, kV_check_agent, dc_check_agent, pm_check_agent, an_check_agent, cd_check_agent, ct_check_agent, sl_check_agent, e0_check_agent, l_check_agent, e_check_agent⟩, p_check_agent⟩ := He5.fun_of (st := s_check_agent) F_check_agent
  subst e0_check_agent
  obtain ⟨fd_Agent_init, F_Agent_init⟩ := c.def_ 9 (d := zd_Agent_init) rfl
  obtain ⟨⟨oc_Agent_init, od_Agent_init, kV_Agent_init, dc_Agent_init, pm_Agent_init, an_Agent_init, cd_Agent_init, ct_Agent_init, sl_Agent_init, e0_Agent_init, l_Agent_init, e_Agent_init⟩, p_Agent_init⟩ := He5.fun_of (st := s_Agent_init) F_Agent_init
  subst e0_Agent_init
  obtain ⟨fd_Agent_made, F_Agent_made⟩ := c.def_ 10 (d := zd_Agent_made) rfl
  obtain ⟨⟨oc_Agent_made, od_Agent_made, kV_Agent_made, dc_Agent_made, pm_Agent_made, an_Agent_made, cd_Agent_made, ct_Agent_made, sl_Agent_made, e0_Agent_made, l_Agent_made, e_Agent_made⟩, p_Agent_made⟩ := He5.fun_of (st := s_Agent_made) F_Agent_made
  subst e0_Agent_made
  obtain ⟨rs_Agent_made, i_Agent_made⟩ := Hz.rec_ok (c.fact 1 rfl)
  obtain ⟨fd_Through_init, F_Through_init⟩ := c.def_ 11 (d := zd_Through_init) rfl
  obtain ⟨⟨oc_Through_init, od_Through_init, kV_Through_init, dc_Through_init, pm_Through_init, an_Through_init, cd_Through_init, ct_Through_init, sl_Through_init, e0_Through_init, l_Through_init, e_Through_init⟩, p_Through_init⟩ := He5.fun_of (st := s_Through_init) F_Through_init
  subst e0_Through_init
  obtain ⟨fd_Through_made, F_Through_made⟩ := c.def_ 12 (d := zd_Through_made) rfl
  obtain ⟨⟨oc_Through_made, od_Through_made, kV_Through_made, dc_Through_made, pm_Through_made, an_Through_made, cd_Through_made, ct_Through_made, sl_Through_made, e0_Through_made, l_Through_made, e_Through_made⟩, p_Through_made⟩ := He5.fun_of (st := s_Through_made) F_Through_made
  subst e0_Through_made
  obtain ⟨rs_Through_made, i_Through_made⟩ := Hz.rec_ok (c.fact 3 rfl)
  obtain ⟨fd_Back_init, F_Back_init⟩ := c.def_ 13 (d := zd_Back_init) rfl
  obtain ⟨⟨oc_Back_init, od_Back_init, kV_Back_init, dc_Back_init, pm_Back_init, an_Back_init, cd_Back_init, ct_Back_init, sl_Back_init, e0_Back_init, l_Back_init, e_Back_init⟩, p_Back_init⟩ := He5.fun_of (st := s_Back_init) F_Back_init
  subst e0_Back_init
  obtain ⟨fd_Back_made, F_Back_made⟩ := c.def_ 14 (d := zd_Back_made) rfl
  obtain ⟨⟨oc_Back_made, od_Back_made, kV_Back_made, dc_Back_made, pm_Back_made, an_Back_made, cd_Back_made, ct_Back_made, sl_Back_made, e0_Back_made, l_Back_made, e_Back_made⟩, p_Back_made⟩ := He5.fun_of (st := s_Back_made) F_Back_made
  subst e0_Back_made
  obtain ⟨rs_Back_made, i_Back_made⟩ := Hz.rec_ok (c.fact 5 rfl)
  obtain ⟨fd_Signal_init, F_Signal_init⟩ := c.def_ 15 (d := zd_Signal_init) rfl
  obtain ⟨⟨oc_Signal_init, od_Signal_init, dV_Signal_init, kV_Signal_init, dc_Signal_init, pm_Signal_init, an_Signal_init, cd_Signal_init, ct_Signal_init, sl_Signal_init, e0_Signal_init, l_Signal_init, e_Signal_init, hd_Signal_init_, hk_Signal_init_⟩, p_Signal_init⟩ := F_Signal_init
  obtain ⟨z_Signal_init, _⟩ | ⟨_, dt_Signal_init, do_Signal_init, di_Signal_init, dn_Signal_init, z_Signal_init, dl_Signal_init, dd0_Signal_init, dv0_Signal_init⟩ := hd_Signal_init_
  · exact absurd z_Signal_init (by simp [He5.DefA.dvs, zd_Signal_init])
  subst z_Signal_init
  have dd_Signal_init : do_Signal_init.data = .seq di_Signal_init.toArray dn_Signal_init := dd0_Signal_init
  have dv_Signal_init : Vals [V.int 0] di_Signal_init.toArray.toList := dv0_Signal_init
  subst e0_Signal_init
  obtain ⟨fd_Variable_init, F_Variable_init⟩ := c.def_ 16 (d := zd_Variable_init) rfl
  obtain ⟨⟨oc_Variable_init, od_Variable_init, kV_Variable_init, dc_Variable_init, pm_Variable_init, an_Variable_init, cd_Variable_init, ct_Variable_init, sl_Variable_init, e0_Variable_init, l_Variable_init, e_Variable_init⟩, p_Variable_init⟩ := He5.fun_of (st := s_Variable_init) F_Variable_init
  subst e0_Variable_init
  obtain ⟨fd_Variable_made, F_Variable_made⟩ := c.def_ 17 (d := zd_Variable_made) rfl
  obtain ⟨⟨oc_Variable_made, od_Variable_made, kV_Variable_made, dc_Variable_made, pm_Variable_made, an_Variable_made, cd_Variable_made, ct_Variable_made, sl_Variable_made, e0_Variable_made, l_Variable_made, e_Variable_made⟩, p_Variable_made⟩ := He5.fun_of (st := s_Variable_made) F_Variable_made
  subst e0_Variable_made
  obtain ⟨rs_Variable_made, i_Variable_made⟩ := Hz.rec_ok (c.fact 7 rfl)
  obtain ⟨fd_check_addresses, F_check_addresses⟩ := c.def_ 18 (d := zd_check_addresses) rfl
  obtain ⟨⟨oc_check_addresses, od_check_addresses, kV_check_addresses, dc_check_addresses, pm_check_addresses, an_check_addresses, cd_check_addresses, ct_check_addresses, sl_check_addresses, e0_check_addresses, l_check_addresses, e_check_addresses⟩, p_check_addresses⟩ := He5.fun_of (st := s_check_addresses) F_check_addresses
  subst e0_check_addresses
  obtain ⟨fd_check_slots_apart, F_check_slots_apart⟩ := c.def_ 19 (d := zd_check_slots_apart) rfl
  obtain ⟨⟨oc_check_slots_apart, od_check_slots_apart, kV_check_slots_apart, dc_check_slots_apart, pm_check_slots_apart, an_check_slots_apart, cd_check_slots_apart, ct_check_slots_apart, sl_check_slots_apart, e0_check_slots_apart, l_check_slots_apart, e_check_slots_apart⟩, p_check_slots_apart⟩ := He5.fun_of (st := s_check_slots_apart) F_check_slots_apart
  subst e0_check_slots_apart
  obtain ⟨fd_Net_init, F_Net_init⟩ := c.def_ 20 (d := zd_Net_init) rfl
  obtain ⟨⟨oc_Net_init, od_Net_init, dV_Net_init, kV_Net_init, dc_Net_init, pm_Net_init, an_Net_init, cd_Net_init, ct_Net_init, sl_Net_init, e0_Net_init, l_Net_init, e_Net_init, hd_Net_init_, hk_Net_init_⟩, p_Net_init⟩ := F_Net_init
  obtain ⟨_, z_Net_init⟩ | ⟨z_Net_init, _⟩ := hd_Net_init_
  rotate_left
  · exact absurd rfl z_Net_init
  subst z_Net_init
  obtain z2_Net_init | ⟨kw_Net_init, z2_Net_init, hq_Net_init⟩ := hk_Net_init_
  · exact absurd z2_Net_init (by simp [He5.DefA.kws, zd_Net_init])
  subst z2_Net_init
  obtain ⟨u_Net_init_line, hu_Net_init_line, ru_Net_init_line⟩ := hq_Net_init ("line", V.int 8) (by simp [He5.DefA.kws, zd_Net_init, He.Dv.v])
  obtain ⟨u_Net_init_ring, hu_Net_init_ring, ru_Net_init_ring⟩ := hq_Net_init ("ring", V.int 1) (by simp [He5.DefA.kws, zd_Net_init, He.Dv.v])
  subst e0_Net_init
  obtain ⟨fd_Net_made, F_Net_made⟩ := c.def_ 21 (d := zd_Net_made) rfl
  obtain ⟨⟨oc_Net_made, od_Net_made, dV_Net_made, kV_Net_made, dc_Net_made, pm_Net_made, an_Net_made, cd_Net_made, ct_Net_made, sl_Net_made, e0_Net_made, l_Net_made, e_Net_made, hd_Net_made_, hk_Net_made_⟩, p_Net_made⟩ := F_Net_made
  obtain ⟨_, z_Net_made⟩ | ⟨z_Net_made, _⟩ := hd_Net_made_
  rotate_left
  · exact absurd rfl z_Net_made
  subst z_Net_made
  obtain z2_Net_made | ⟨kw_Net_made, z2_Net_made, hq_Net_made⟩ := hk_Net_made_
  · exact absurd z2_Net_made (by simp [He5.DefA.kws, zd_Net_made])
  subst z2_Net_made
  obtain ⟨u_Net_made_line, hu_Net_made_line, ru_Net_made_line⟩ := hq_Net_made ("line", V.int 8) (by simp [He5.DefA.kws, zd_Net_made, He.Dv.v])
  obtain ⟨u_Net_made_ring, hu_Net_made_ring, ru_Net_made_ring⟩ := hq_Net_made ("ring", V.int 1) (by simp [He5.DefA.kws, zd_Net_made, He.Dv.v])
  subst e0_Net_made
  obtain ⟨rs_Net_made, i_Net_made⟩ := Hz.rec_ok (c.fact 9 rfl)
  obtain ⟨fd_check_parts, F_check_parts⟩ := c.def_ 22 (d := zd_check_parts) rfl
  obtain ⟨⟨oc_check_parts, od_check_parts, kV_check_parts, dc_check_parts, pm_check_parts, an_check_parts, cd_check_parts, ct_check_parts, sl_check_parts, e0_check_parts, l_check_parts, e_check_parts⟩, p_check_parts⟩ := He5.fun_of (st := s_check_parts) F_check_parts
  subst e0_check_parts
  obtain ⟨fd_check_many, F_check_many⟩ := c.def_ 23 (d := zd_check_many) rfl
  obtain ⟨⟨oc_check_many, od_check_many, kV_check_many, dc_check_many, pm_check_many, an_check_many, cd_check_many, ct_check_many, sl_check_many, e0_check_many, l_check_many, e_check_many⟩, p_check_many⟩ := He5.fun_of (st := s_check_many) F_check_many
  subst e0_check_many
  obtain ⟨fd_check_names, F_check_names⟩ := c.def_ 24 (d := zd_check_names) rfl
  obtain ⟨⟨oc_check_names, od_check_names, kV_check_names, dc_check_names, pm_check_names, an_check_names, cd_check_names, ct_check_names, sl_check_names, e0_check_names, l_check_names, e_check_names⟩, p_check_names⟩ := He5.fun_of (st := s_check_names) F_check_names
  subst e0_check_names
  obtain ⟨fd_check_bytes, F_check_bytes⟩ := c.def_ 25 (d := zd_check_bytes) rfl
  obtain ⟨⟨oc_check_bytes, od_check_bytes, kV_check_bytes, dc_check_bytes, pm_check_bytes, an_check_bytes, cd_check_bytes, ct_check_bytes, sl_check_bytes, e0_check_bytes, l_check_bytes, e_check_bytes⟩, p_check_bytes⟩ := He5.fun_of (st := s_check_bytes) F_check_bytes
  subst e0_check_bytes
  obtain ⟨fd_check_steps, F_check_steps⟩ := c.def_ 26 (d := zd_check_steps) rfl
  obtain ⟨⟨oc_check_steps, od_check_steps, kV_check_steps, dc_check_steps, pm_check_steps, an_check_steps, cd_check_steps, ct_check_steps, sl_check_steps, e0_check_steps, l_check_steps, e_check_steps⟩, p_check_steps⟩ := He5.fun_of (st := s_check_steps) F_check_steps
  subst e0_check_steps
  obtain ⟨fd_check_signals, F_check_signals⟩ := c.def_ 27 (d := zd_check_signals) rfl
  obtain ⟨⟨oc_check_signals, od_check_signals, kV_check_signals, dc_check_signals, pm_check_signals, an_check_signals, cd_check_signals, ct_check_signals, sl_check_signals, e0_check_signals, l_check_signals, e_check_signals⟩, p_check_signals⟩ := He5.fun_of (st := s_check_signals) F_check_signals
  subst e0_check_signals
  obtain ⟨fd_pen, F_pen⟩ := c.def_ 28 (d := zd_pen) rfl
  obtain ⟨⟨oc_pen, od_pen, kV_pen, dc_pen, pm_pen, an_pen, cd_pen, ct_pen, sl_pen, e0_pen, l_pen, e_pen⟩, p_pen⟩ := He5.fun_of (st := s_pen) F_pen
  subst e0_pen
  obtain ⟨fd_draw, F_draw⟩ := c.def_ 29 (d := zd_draw) rfl
  obtain ⟨⟨oc_draw, od_draw, kV_draw, dc_draw, pm_draw, an_draw, cd_draw, ct_draw, sl_draw, e0_draw, l_draw, e_draw⟩, p_draw⟩ := He5.fun_of (st := s_draw) F_draw
  subst e0_draw
  obtain ⟨fd_thing, F_thing⟩ := c.def_ 30 (d := zd_thing) rfl
  obtain ⟨⟨oc_thing, od_thing, kV_thing, dc_thing, pm_thing, an_thing, cd_thing, ct_thing, sl_thing, e0_thing, l_thing, e_thing⟩, p_thing⟩ := He5.fun_of (st := s_thing) F_thing
  subst e0_thing
  obtain ⟨fd_steps, F_steps⟩ := c.def_ 31 (d := zd_steps) rfl
  obtain ⟨⟨oc_steps, od_steps, kV_steps, dc_steps, pm_steps, an_steps, cd_steps, ct_steps, sl_steps, e0_steps, l_steps, e_steps⟩, p_steps⟩ := He5.fun_of (st := s_steps) F_steps
  subst e0_steps
  obtain ⟨fd_items, F_items⟩ := c.def_ 32 (d := zd_items) rfl
  obtain ⟨⟨oc_items, od_items, kV_items, dc_items, pm_items, an_items, cd_items, ct_items, sl_items, e0_items, l_items, e_items⟩, p_items⟩ := He5.fun_of (st := s_items) F_items
  subst e0_items
  obtain ⟨fd_shuffled, F_shuffled⟩ := c.def_ 33 (d := zd_shuffled) rfl
  obtain ⟨⟨oc_shuffled, od_shuffled, kV_shuffled, dc_shuffled, pm_shuffled, an_shuffled, cd_shuffled, ct_shuffled, sl_shuffled, e0_shuffled, l_shuffled, e_shuffled⟩, p_shuffled⟩ := He5.fun_of (st := s_shuffled) F_shuffled
  subst e0_shuffled
  obtain ⟨fd_part, F_part⟩ := c.def_ 34 (d := zd_part) rfl
  obtain ⟨⟨oc_part, od_part, kV_part, dc_part, pm_part, an_part, cd_part, ct_part, sl_part, e0_part, l_part, e_part⟩, p_part⟩ := He5.fun_of (st := s_part) F_part
  subst e0_part
  obtain ⟨fd_within, F_within⟩ := c.def_ 35 (d := zd_within) rfl
  obtain ⟨⟨oc_within, od_within, kV_within, dc_within, pm_within, an_within, cd_within, ct_within, sl_within, e0_within, l_within, e_within⟩, p_within⟩ := He5.fun_of (st := s_within) F_within
  subst e0_within
  obtain ⟨fd_free, F_free⟩ := c.def_ 36 (d := zd_free) rfl
  obtain ⟨⟨oc_free, od_free, kV_free, dc_free, pm_free, an_free, cd_free, ct_free, sl_free, e0_free, l_free, e_free⟩, p_free⟩ := He5.fun_of (st := s_free) F_free
  subst e0_free
  obtain ⟨fd_changed, F_changed⟩ := c.def_ 37 (d := zd_changed) rfl
  obtain ⟨⟨oc_changed, od_changed, kV_changed, dc_changed, pm_changed, an_changed, cd_changed, ct_changed, sl_changed, e0_changed, l_changed, e_changed⟩, p_changed⟩ := He5.fun_of (st := s_changed) F_changed
  subst e0_changed
  obtain ⟨fd_spoiled, F_spoiled⟩ := c.def_ 38 (d := zd_spoiled) rfl
  obtain ⟨⟨oc_spoiled, od_spoiled, kV_spoiled, dc_spoiled, pm_spoiled, an_spoiled, cd_spoiled, ct_spoiled, sl_spoiled, e0_spoiled, l_spoiled, e_spoiled⟩, p_spoiled⟩ := He5.fun_of (st := s_spoiled) F_spoiled
  subst e0_spoiled
  obtain ⟨fd_parts_wrong, F_parts_wrong⟩ := c.def_ 39 (d := zd_parts_wrong) rfl
  obtain ⟨⟨oc_parts_wrong, od_parts_wrong, kV_parts_wrong, dc_parts_wrong, pm_parts_wrong, an_parts_wrong, cd_parts_wrong, ct_parts_wrong, sl_parts_wrong, e0_parts_wrong, l_parts_wrong, e_parts_wrong⟩, p_parts_wrong⟩ := He5.fun_of (st := s_parts_wrong) F_parts_wrong
  subst e0_parts_wrong
  obtain ⟨fd_variables_wrong, F_variables_wrong⟩ := c.def_ 40 (d := zd_variables_wrong) rfl
  obtain ⟨⟨oc_variables_wrong, od_variables_wrong, kV_variables_wrong, dc_variables_wrong, pm_variables_wrong, an_variables_wrong, cd_variables_wrong, ct_variables_wrong, sl_variables_wrong, e0_variables_wrong, l_variables_wrong, e_variables_wrong⟩, p_variables_wrong⟩ := He5.fun_of (st := s_variables_wrong) F_variables_wrong
  subst e0_variables_wrong
  obtain ⟨fd_steps_wrong, F_steps_wrong⟩ := c.def_ 41 (d := zd_steps_wrong) rfl
  obtain ⟨⟨oc_steps_wrong, od_steps_wrong, kV_steps_wrong, dc_steps_wrong, pm_steps_wrong, an_steps_wrong, cd_steps_wrong, ct_steps_wrong, sl_steps_wrong, e0_steps_wrong, l_steps_wrong, e_steps_wrong⟩, p_steps_wrong⟩ := He5.fun_of (st := s_steps_wrong) F_steps_wrong
  subst e0_steps_wrong
  obtain ⟨fd_wanted, F_wanted⟩ := c.def_ 42 (d := zd_wanted) rfl
  obtain ⟨⟨oc_wanted, od_wanted, kV_wanted, dc_wanted, pm_wanted, an_wanted, cd_wanted, ct_wanted, sl_wanted, e0_wanted, l_wanted, e_wanted⟩, p_wanted⟩ := He5.fun_of (st := s_wanted) F_wanted
  subst e0_wanted
  obtain ⟨fd_direct, F_direct⟩ := c.def_ 43 (d := zd_direct) rfl
  obtain ⟨⟨oc_direct, od_direct, kV_direct, dc_direct, pm_direct, an_direct, cd_direct, ct_direct, sl_direct, e0_direct, l_direct, e_direct⟩, p_direct⟩ := He5.fun_of (st := s_direct) F_direct
  subst e0_direct
  obtain ⟨fd_asked, F_asked⟩ := c.def_ 44 (d := zd_asked) rfl
  obtain ⟨⟨oc_asked, od_asked, kV_asked, dc_asked, pm_asked, an_asked, cd_asked, ct_asked, sl_asked, e0_asked, l_asked, e_asked⟩, p_asked⟩ := He5.fun_of (st := s_asked) F_asked
  subst e0_asked
  obtain ⟨fd_right, F_right⟩ := c.def_ 45 (d := zd_right) rfl
  obtain ⟨⟨oc_right, od_right, kV_right, dc_right, pm_right, an_right, cd_right, ct_right, sl_right, e0_right, l_right, e_right⟩, p_right⟩ := He5.fun_of (st := s_right) F_right
  subst e0_right
  obtain ⟨fd_round, F_round⟩ := c.def_ 46 (d := zd_round) rfl
  obtain ⟨⟨oc_round, od_round, kV_round, dc_round, pm_round, an_round, cd_round, ct_round, sl_round, e0_round, l_round, e_round⟩, p_round⟩ := He5.fun_of (st := s_round) F_round
  subst e0_round
  obtain ⟨fd_law, F_law⟩ := c.def_ 47 (d := zd_law) rfl
  obtain ⟨⟨oc_law, od_law, kV_law, dc_law, pm_law, an_law, cd_law, ct_law, sl_law, e0_law, l_law, e_law⟩, p_law⟩ := He5.fun_of (st := s_law) F_law
  subst e0_law
  obtain ⟨o_ACCESS_WORDS, its_ACCESS_WORDS, n_ACCESS_WORDS, lk_ACCESS_WORDS, oc_ACCESS_WORDS, od_ACCESS_WORDS, oz_ACCESS_WORDS, ov_ACCESS_WORDS⟩ := Hz.tup_ok (c.fact 12 rfl)
  obtain ⟨o_UPKEEP_WORDS, its_UPKEEP_WORDS, n_UPKEEP_WORDS, lk_UPKEEP_WORDS, oc_UPKEEP_WORDS, od_UPKEEP_WORDS, oz_UPKEEP_WORDS, ov_UPKEEP_WORDS⟩ := Hz.tup_ok (c.fact 13 rfl)
  obtain ⟨o_SIGNAL_WORDS, its_SIGNAL_WORDS, n_SIGNAL_WORDS, lk_SIGNAL_WORDS, oc_SIGNAL_WORDS, od_SIGNAL_WORDS, oz_SIGNAL_WORDS, ov_SIGNAL_WORDS⟩ := Hz.tup_ok (c.fact 14 rfl)
  obtain ⟨o_PLAIN_WORDS, its_PLAIN_WORDS, n_PLAIN_WORDS, lk_PLAIN_WORDS, oc_PLAIN_WORDS, od_PLAIN_WORDS, oz_PLAIN_WORDS, ov_PLAIN_WORDS⟩ := Hz.tup_ok (c.fact 15 rfl)
  obtain ⟨o_CACHE_WORDS, its_CACHE_WORDS, n_CACHE_WORDS, lk_CACHE_WORDS, oc_CACHE_WORDS, od_CACHE_WORDS, oz_CACHE_WORDS, ov_CACHE_WORDS⟩ := Hz.tup_ok (c.fact 16 rfl)
  obtain ⟨oln, itn, nln, lk_LINES, oc_LINES, od_LINES, oz_LINES, ov_LINES⟩ := Hz.tup_ok (c.fact 28 rfl)
  obtain ⟨nm_NoPart, q_NoPart, N_NoPart, bs_NoPart, bm_NoPart, sn_NoPart, sub_NoPart, ab_NoPart, col_NoPart, dd_NoPart, m0_NoPart, m1_NoPart, m2_NoPart, m3_NoPart, m5_NoPart, xl_NoPart, xb_NoPart⟩ := Hz.exc_ok (c.fact 104 rfl)
  obtain ⟨nm_NoNet, q_NoNet, N_NoNet, bs_NoNet, bm_NoNet, sn_NoNet, sub_NoNet, ab_NoNet, col_NoNet, dd_NoNet, m0_NoNet, m1_NoNet, m2_NoNet, m3_NoNet, m5_NoNet, xl_NoNet, xb_NoNet⟩ := Hz.exc_ok (c.fact 133 rfl)
  exact My.all_mk X G
    (of_decide_eq_true (c.fact 29 rfl))
    (of_decide_eq_true (c.fact 30 rfl))
    (of_decide_eq_true (c.fact 31 rfl))
    (of_decide_eq_true (c.fact 32 rfl))
    (of_decide_eq_true (c.fact 33 rfl))
    (of_decide_eq_true (c.fact 34 rfl))
    (of_decide_eq_true (c.fact 35 rfl))
    (of_decide_eq_true (c.fact 36 rfl))
    (of_decide_eq_true (c.fact 37 rfl))
    (c.fact 38 rfl)
    (c.fact 39 rfl)
    (c.fact 40 rfl)
    (of_decide_eq_true (c.fact 41 rfl))
    (of_decide_eq_true (c.fact 42 rfl))
    (of_decide_eq_true (c.fact 43 rfl))
    (c.fact 44 rfl)
    (c.fact 45 rfl)
    (of_decide_eq_true (c.fact 46 rfl))
    (c.fact 47 rfl)
    (c.fact 48 rfl)
    (c.fact 49 rfl)
    (of_decide_eq_true (c.fact 50 rfl))
    (of_decide_eq_true (c.fact 51 rfl))
    (of_decide_eq_true (c.fact 52 rfl))
    (c.fact 53 rfl)
    (c.fact 54 rfl)
    (of_decide_eq_true (c.fact 55 rfl))
    (c.fact 56 rfl)
    (c.fact 57 rfl)
    (c.fact 58 rfl)
    (of_decide_eq_true (c.fact 59 rfl))
    (of_decide_eq_true (c.fact 60 rfl))
    (of_decide_eq_true (c.fact 61 rfl))
    (c.fact 62 rfl)
    (c.fact 63 rfl)
    (of_decide_eq_true (c.fact 64 rfl))
    (c.fact 65 rfl)
    (c.fact 66 rfl)
    (c.fact 67 rfl)
    (of_decide_eq_true (c.fact 68 rfl))
    (of_decide_eq_true (c.fact 69 rfl))
    (of_decide_eq_true (c.fact 70 rfl))
    (of_decide_eq_true (c.fact 71 rfl))
    (c.fact 72 rfl)
    (c.fact 73 rfl)
    (of_decide_eq_true (c.fact 74 rfl))
    (c.fact 75 rfl)
    (c.fact 76 rfl)
    (c.fact 77 rfl)
    (of_decide_eq_true (c.fact 78 rfl))
    (of_decide_eq_true (c.fact 79 rfl))
    (of_decide_eq_true (c.fact 80 rfl))
    (c.fact 81 rfl)
    (c.fact 82 rfl)
    (of_decide_eq_true (c.fact 83 rfl))
    (c.fact 84 rfl)
    (c.fact 85 rfl)
    (c.fact 86 rfl)
    (of_decide_eq_true (c.fact 87 rfl))
    (of_decide_eq_true (c.fact 88 rfl))
    (of_decide_eq_true (c.fact 89 rfl))
    (of_decide_eq_true (c.fact 90 rfl))
    (of_decide_eq_true (c.fact 91 rfl))
    (of_decide_eq_true (c.fact 92 rfl))
    (of_decide_eq_true (c.fact 93 rfl))
    (c.fact 94 rfl)
    (c.fact 95 rfl)
    (of_decide_eq_true (c.fact 96 rfl))
    (of_decide_eq_true (c.fact 97 rfl))
    (of_decide_eq_true (c.fact 98 rfl))
    (c.fact 99 rfl)
    (of_decide_eq_true (c.fact 100 rfl))
    (of_decide_eq_true (c.fact 101 rfl))
    (of_decide_eq_true (c.fact 102 rfl))
    (of_decide_eq_true (c.fact 103 rfl))
    xl_NoPart
    xb_NoPart
    (of_decide_eq_true (c.fact 105 rfl))
    (of_decide_eq_true (c.fact 106 rfl))
    (of_decide_eq_true (c.fact 107 rfl))
    (of_decide_eq_true (c.fact 108 rfl))
    (c.fact 109 rfl)
    (c.fact 110 rfl)
    (of_decide_eq_true (c.fact 111 rfl))
    (of_decide_eq_true (c.fact 112 rfl))
    (of_decide_eq_true (c.fact 113 rfl))
    (of_decide_eq_true (c.fact 114 rfl))
    (of_decide_eq_true (c.fact 115 rfl))
    (of_decide_eq_true (c.fact 116 rfl))
    (of_decide_eq_true (c.fact 117 rfl))
    (of_decide_eq_true (c.fact 118 rfl))
    (of_decide_eq_true (c.fact 119 rfl))
    (of_decide_eq_true (c.fact 120 rfl))
    (of_decide_eq_true (c.fact 121 rfl))
    (of_decide_eq_true (c.fact 122 rfl))
    (of_decide_eq_true (c.fact 123 rfl))
    (of_decide_eq_true (c.fact 124 rfl))
    (of_decide_eq_true (c.fact 125 rfl))
    (of_decide_eq_true (c.fact 126 rfl))
    (of_decide_eq_true (c.fact 127 rfl))
    (of_decide_eq_true (c.fact 128 rfl))
    (of_decide_eq_true (c.fact 129 rfl))
    (of_decide_eq_true (c.fact 130 rfl))
    (of_decide_eq_true (c.fact 131 rfl))
    (of_decide_eq_true (c.fact 132 rfl))
    xl_NoNet
    xb_NoNet
    (of_decide_eq_true (c.fact 134 rfl))
    (of_decide_eq_true (c.fact 135 rfl))
    (of_decide_eq_true (c.fact 136 rfl))
    (of_decide_eq_true (c.fact 137 rfl))
    (c.fact 138 rfl)
    (c.fact 139 rfl)
    (of_decide_eq_true (c.fact 140 rfl))
    (of_decide_eq_true (c.fact 141 rfl))
    (of_decide_eq_true (c.fact 142 rfl))
    (of_decide_eq_true (c.fact 143 rfl))
    (of_decide_eq_true (c.fact 144 rfl))
    (of_decide_eq_true (c.fact 145 rfl))
    (of_decide_eq_true (c.fact 146 rfl))
    (of_decide_eq_true (c.fact 147 rfl))
    (of_decide_eq_true (c.fact 148 rfl))
    (of_decide_eq_true (c.fact 149 rfl))
    (of_decide_eq_true (c.fact 150 rfl))
    (of_decide_eq_true (c.fact 151 rfl))
    (of_decide_eq_true (c.fact 152 rfl))
    (of_decide_eq_true (c.fact 153 rfl))
    (of_decide_eq_true (c.fact 154 rfl))
    (c.fact 155 rfl)
    (of_decide_eq_true (c.fact 156 rfl))
    (of_decide_eq_true (c.fact 157 rfl))
    (of_decide_eq_true (c.fact 158 rfl))
    (of_decide_eq_true (c.fact 159 rfl))
    (of_decide_eq_true (c.fact 160 rfl))
    (c.fact 161 rfl)
    (of_decide_eq_true (c.fact 162 rfl))
    (of_decide_eq_true (c.fact 163 rfl))
    (of_decide_eq_true (c.fact 164 rfl))
    (of_decide_eq_true (c.fact 165 rfl))
    (of_decide_eq_true (c.fact 166 rfl))
    (c.fact 167 rfl)
    (of_decide_eq_true (c.fact 168 rfl))
    (of_decide_eq_true (c.fact 169 rfl))
    (of_decide_eq_true (c.fact 170 rfl))
    (of_decide_eq_true (c.fact 171 rfl))
    (of_decide_eq_true (c.fact 172 rfl))
    (c.fact 173 rfl)
    (of_decide_eq_true (c.fact 174 rfl))
    (of_decide_eq_true (c.fact 175 rfl))
    (of_decide_eq_true (c.fact 176 rfl))
    (of_decide_eq_true (c.fact 177 rfl))
    (of_decide_eq_true (c.fact 178 rfl))
    (of_decide_eq_true (c.fact 179 rfl))
    (of_decide_eq_true (c.fact 180 rfl))
    (of_decide_eq_true (c.fact 181 rfl))
    (of_decide_eq_true (c.fact 182 rfl))
    (c.fact 183 rfl)
    (of_decide_eq_true (c.fact 184 rfl))
    (of_decide_eq_true (c.fact 185 rfl))
    (of_decide_eq_true (c.fact 186 rfl))
    lk_LINES
    oc_LINES
    od_LINES
    oz_LINES
    ov_LINES
    (of_decide_eq_true (c.fact 187 rfl))
    (of_decide_eq_true (c.fact 188 rfl))
    (of_decide_eq_true (c.fact 189 rfl))
    (of_decide_eq_true (c.fact 190 rfl))
    (of_decide_eq_true (c.fact 191 rfl))
    (of_decide_eq_true (c.fact 192 rfl))
    (of_decide_eq_true (c.fact 193 rfl))
    (of_decide_eq_true (c.fact 194 rfl))
    (of_decide_eq_true (c.fact 195 rfl))
    (of_decide_eq_true (c.fact 196 rfl))
    (of_decide_eq_true (c.fact 197 rfl))
    (of_decide_eq_true (c.fact 198 rfl))
    (of_decide_eq_true (c.fact 199 rfl))
    (of_decide_eq_true (c.fact 200 rfl))
    (of_decide_eq_true (c.fact 201 rfl))
    (of_decide_eq_true (c.fact 202 rfl))
    (of_decide_eq_true (c.fact 203 rfl))
    (of_decide_eq_true (c.fact 204 rfl))
    (of_decide_eq_true (c.fact 205 rfl))
    (of_decide_eq_true (c.fact 206 rfl))
    (of_decide_eq_true (c.fact 207 rfl))
    (of_decide_eq_true (c.fact 208 rfl))
    (of_decide_eq_true (c.fact 209 rfl))
    (of_decide_eq_true (c.fact 210 rfl))
    (of_decide_eq_true (c.fact 211 rfl))
    (of_decide_eq_true (c.fact 212 rfl))
    (of_decide_eq_true (c.fact 213 rfl))
    (of_decide_eq_true (c.fact 214 rfl))
    (of_decide_eq_true (c.fact 215 rfl))
    (of_decide_eq_true (c.fact 216 rfl))
    (of_decide_eq_true (c.fact 217 rfl))
    (of_decide_eq_true (c.fact 218 rfl))
    (of_decide_eq_true (c.fact 219 rfl))
    (of_decide_eq_true (c.fact 220 rfl))
    (of_decide_eq_true (c.fact 221 rfl))
    (of_decide_eq_true (c.fact 222 rfl))
    (of_decide_eq_true (c.fact 223 rfl))
    (of_decide_eq_true (c.fact 224 rfl))
    (of_decide_eq_true (c.fact 225 rfl))
    (of_decide_eq_true (c.fact 226 rfl))
    (of_decide_eq_true (c.fact 227 rfl))
    (of_decide_eq_true (c.fact 228 rfl))
    (of_decide_eq_true (c.fact 229 rfl))
    (of_decide_eq_true (c.fact 230 rfl))
    (of_decide_eq_true (c.fact 231 rfl))
    (of_decide_eq_true (c.fact 232 rfl))
    (of_decide_eq_true (c.fact 233 rfl))
    (of_decide_eq_true (c.fact 234 rfl))
    (of_decide_eq_true (c.fact 235 rfl))
    (c.fact 236 rfl)
    l_NoPart_init
    e_NoPart_init
    p_NoPart_init
    (of_decide_eq_true (c.fact 237 rfl))
    (c.fact 238 rfl)
    l_NoNet_init
    e_NoNet_init
    p_NoNet_init
    (of_decide_eq_true (c.fact 239 rfl))
    l_is_integer
    e_is_integer
    p_is_integer
    (of_decide_eq_true (c.fact 240 rfl))
    l_is_within
    e_is_within
    p_is_within
    (of_decide_eq_true (c.fact 241 rfl))
    l_is_name
    e_is_name
    p_is_name
    (of_decide_eq_true (c.fact 242 rfl))
    l_is_step
    e_is_step
    p_is_step
    (of_decide_eq_true (c.fact 243 rfl))
    l_is_memory_step
    e_is_memory_step
    p_is_memory_step
    (of_decide_eq_true (c.fact 244 rfl))
    l_concerns_signal
    e_concerns_signal
    p_concerns_signal
    (of_decide_eq_true (c.fact 245 rfl))
    l_check_agent
    e_check_agent
    p_check_agent
    (of_decide_eq_true (c.fact 246 rfl))
    (c.fact 247 rfl)
    l_Agent_init
    e_Agent_init
    p_Agent_init
    (Hz.cls_ok (c.fact 0 rfl))
    i_Agent_made
    (c.fact 248 rfl)
    l_Agent_made
    e_Agent_made
    p_Agent_made
    (of_decide_eq_true (c.fact 249 rfl))
    (c.fact 250 rfl)
    l_Through_init
    e_Through_init
    p_Through_init
    (Hz.cls_ok (c.fact 2 rfl))
    i_Through_made
    (c.fact 251 rfl)
    l_Through_made
    e_Through_made
    p_Through_made
    (of_decide_eq_true (c.fact 252 rfl))
    (c.fact 253 rfl)
    l_Back_init
    e_Back_init
    p_Back_init
    (Hz.cls_ok (c.fact 4 rfl))
    i_Back_made
    (c.fact 254 rfl)
    l_Back_made
    e_Back_made
    p_Back_made
    (of_decide_eq_true (c.fact 255 rfl))
    (c.fact 256 rfl)
    dl_Signal_init
    dd_Signal_init
    dv_Signal_init
    l_Signal_init
    e_Signal_init
    p_Signal_init
    (of_decide_eq_true (c.fact 257 rfl))
    (c.fact 258 rfl)
    l_Variable_init
    e_Variable_init
    p_Variable_init
    (Hz.cls_ok (c.fact 6 rfl))
    i_Variable_made
    (c.fact 259 rfl)
    l_Variable_made
    e_Variable_made
    p_Variable_made
    (of_decide_eq_true (c.fact 260 rfl))
    l_check_addresses
    e_check_addresses
    p_check_addresses
    (of_decide_eq_true (c.fact 261 rfl))
    l_check_slots_apart
    e_check_slots_apart
    p_check_slots_apart
    (of_decide_eq_true (c.fact 262 rfl))
    (c.fact 263 rfl)
    (Hz.int_of hu_Net_init_line ru_Net_init_line)
    (Hz.int_of hu_Net_init_ring ru_Net_init_ring)
    l_Net_init
    e_Net_init
    p_Net_init
    (Hz.cls_ok (c.fact 8 rfl))
    i_Net_made
    (c.fact 264 rfl)
    (Hz.int_of hu_Net_made_line ru_Net_made_line)
    (Hz.int_of hu_Net_made_ring ru_Net_made_ring)
    l_Net_made
    e_Net_made
    p_Net_made
    (of_decide_eq_true (c.fact 265 rfl))
    l_check_parts
    e_check_parts
    p_check_parts
    (of_decide_eq_true (c.fact 266 rfl))
    l_check_many
    e_check_many
    p_check_many
    (of_decide_eq_true (c.fact 267 rfl))
    l_check_names
    e_check_names
    p_check_names
    (of_decide_eq_true (c.fact 268 rfl))
    l_check_bytes
    e_check_bytes
    p_check_bytes
    (of_decide_eq_true (c.fact 269 rfl))
    l_check_steps
    e_check_steps
    p_check_steps
    (of_decide_eq_true (c.fact 270 rfl))
    l_check_signals
    e_check_signals
    p_check_signals
    (of_decide_eq_true (c.fact 271 rfl))
    l_pen
    e_pen
    p_pen
    (of_decide_eq_true (c.fact 272 rfl))
    l_draw
    e_draw
    p_draw
    (of_decide_eq_true (c.fact 273 rfl))
    l_thing
    e_thing
    p_thing
    (of_decide_eq_true (c.fact 274 rfl))
    l_steps
    e_steps
    p_steps
    (of_decide_eq_true (c.fact 275 rfl))
    l_items
    e_items
    p_items
    (of_decide_eq_true (c.fact 276 rfl))
    l_shuffled
    e_shuffled
    p_shuffled
    (of_decide_eq_true (c.fact 277 rfl))
    l_part
    e_part
    p_part
    (of_decide_eq_true (c.fact 278 rfl))
    l_within
    e_within
    p_within
    (of_decide_eq_true (c.fact 279 rfl))
    l_free
    e_free
    p_free
    (of_decide_eq_true (c.fact 280 rfl))
    l_changed
    e_changed
    p_changed
    (of_decide_eq_true (c.fact 281 rfl))
    l_spoiled
    e_spoiled
    p_spoiled
    (of_decide_eq_true (c.fact 282 rfl))
    l_parts_wrong
    e_parts_wrong
    p_parts_wrong
    (of_decide_eq_true (c.fact 283 rfl))
    l_variables_wrong
    e_variables_wrong
    p_variables_wrong
    (of_decide_eq_true (c.fact 284 rfl))
    l_steps_wrong
    e_steps_wrong
    p_steps_wrong
    (of_decide_eq_true (c.fact 285 rfl))
    l_wanted
    e_wanted
    p_wanted
    (of_decide_eq_true (c.fact 286 rfl))
    l_direct
    e_direct
    p_direct
    (of_decide_eq_true (c.fact 287 rfl))
    l_asked
    e_asked
    p_asked
    (of_decide_eq_true (c.fact 288 rfl))
    l_right
    e_right
    p_right
    (of_decide_eq_true (c.fact 289 rfl))
    l_round
    e_round
    p_round
    (of_decide_eq_true (c.fact 290 rfl))
    l_law
    e_law
    p_law
    (Hz.str_ok (c.fact 10 rfl))
    (Hz.int_ok (c.fact 11 rfl))
    (of_decide_eq_true (c.fact 291 rfl))
    lk_ACCESS_WORDS
    oc_ACCESS_WORDS
    od_ACCESS_WORDS
    oz_ACCESS_WORDS
    ov_ACCESS_WORDS
    (of_decide_eq_true (c.fact 292 rfl))
    lk_UPKEEP_WORDS
    oc_UPKEEP_WORDS
    od_UPKEEP_WORDS
    oz_UPKEEP_WORDS
    ov_UPKEEP_WORDS
    (of_decide_eq_true (c.fact 293 rfl))
    lk_SIGNAL_WORDS
    oc_SIGNAL_WORDS
    od_SIGNAL_WORDS
    oz_SIGNAL_WORDS
    ov_SIGNAL_WORDS
    (of_decide_eq_true (c.fact 294 rfl))
    lk_PLAIN_WORDS
    oc_PLAIN_WORDS
    od_PLAIN_WORDS
    oz_PLAIN_WORDS
    ov_PLAIN_WORDS
    (of_decide_eq_true (c.fact 295 rfl))
    lk_CACHE_WORDS
    oc_CACHE_WORDS
    od_CACHE_WORDS
    oz_CACHE_WORDS
    ov_CACHE_WORDS
    (Hz.int_ok (c.fact 17 rfl))
    (Hz.int_ok (c.fact 18 rfl))
    (Hz.int_ok (c.fact 19 rfl))
    (Hz.int_ok (c.fact 20 rfl))
    (Hz.int_ok (c.fact 21 rfl))
    (Hz.int_ok (c.fact 22 rfl))
    (Hz.int_ok (c.fact 23 rfl))
    (Hz.int_ok (c.fact 24 rfl))
    (Hz.int_ok (c.fact 25 rfl))
    (Hz.int_ok (c.fact 26 rfl))
    (Hz.int_ok (c.fact 27 rfl))
end My
namespace My
open PySem L2
section
variable {P : Program} {w : World} {K : PySem.W.Frag} {mg : Str → Option Value} {base : Heap} {A : Adr}
theorem ok_is_integer (T : Txt K mg A) : FnOk P w K mg base CX0 1 A.a_is_integer A.d_is_integer ["value"] Lay.spIsInteger := by
  refine T.F_is_integer.ok sc_is_integer (fun vs H Q E h => ?_) (fun cdv A0 outer s H vs Q E hr h => ?_)
  · obtain ⟨v, t, rfl, _⟩ := h
    rfl
  · obtain ⟨v, t, rfl, k, q⟩ := h
    refine ⟨_, (pss_one (ps_ret (pe_and (pe_callB call_isi (by rfl) T.n_isinstance (by decide +kernel) (pa_cons (pv 0) (pa_cons (pe_bltn (v := .ty "int") (by rfl) T.n_int (by decide +kernel) rfl) pa_nil))) (pe_one (pe_not (pe_callB call_isi (by rfl) T.n_isinstance (by decide +kernel) (pa_cons (pv 0) (pa_cons (pe_bltn (v := .ty "bool") (by rfl) T.n_bool (by decide +kernel) rfl) pa_nil)))))))), ?_⟩
    walk_at "in"
    cases k
    all_goals
      walk_at "rd"
      refine Lay.rd_isi .int (by first | exact .non | exact .bl _ | exact .int _ | exact .str _ | exact .lst (by assumption) | exact .tup (by assumption) | exact .dK (by assumption)) ?_
      walk_at "rd"
      first
        | exact iteF q
        | (refine iteT ?_
           walk_at "rd"
           refine Lay.rd_isi .bool (by first | exact .bl _ | exact .int _) ?_
           walk_at "rd"
           exact q)
theorem ok_is_within (T : Txt K mg A) (G_is_integer : FnOk P w K mg base CX0 1 A.a_is_integer A.d_is_integer ["value"] Lay.spIsInteger) : FnOk P w K mg base CX0 2 A.a_is_within A.d_is_within ["value", "low", "high"] Lay.spIsWithin := by
  refine T.F_is_within.ok sc_is_within (fun vs H Q E h => ?_) (fun cdv A0 outer s H vs Q E hr h => ?_)
  · obtain ⟨v, t, lo, hi, rfl, _⟩ := h
    rfl
  · obtain ⟨v, t, lo, hi, rfl, k, q⟩ := h
    refine ⟨_, (pss_one (ps_ret (pe_and (pe_call G_is_integer (hr.mono (by decide)) rfl T.g_is_integer T.F_is_integer.kp T.b_is_integer .nil pass0 (pa_cons (pv 0) pa_nil)) (pe_one (pe_chain op_le op_le (pv 1) (pv 0) (pv 2)))))), ?_⟩
    walk_at "in"
    walk_at "rd"
    refine ⟨v, t, rfl, k, ?_⟩
    walk_at "rd"
    cases k with
    | int i =>
      refine iteT ?_
      walk_at "rd"
      refine Lay.ite_d (fun c => ?_) (fun c => ?_)
      · walk_at "rd"
        have e : Lay.within (.int i) lo hi = decide (i ≤ hi) := by show (decide (lo ≤ i) && decide (i ≤ hi)) = _; rw [decide_eq_true c]; rfl
        rw [e] at q
        exact q
      · have e : Lay.within (.int i) lo hi = false := by show (decide (lo ≤ i) && decide (i ≤ hi)) = _; rw [decide_eq_false c]; rfl
        rw [e] at q
        exact q
    | _ => exact iteF q
theorem ok_is_name (T : Txt K mg A) : FnOk P w K mg base CX0 1 A.a_is_name A.d_is_name ["value"] Lay.spIsName := by
  refine T.F_is_name.ok sc_is_name (fun vs H Q E h => ?_) (fun cdv A0 outer s H vs Q E hr h => ?_)
  · obtain ⟨v, t, rfl, _⟩ := h
    rfl
  · obtain ⟨v, t, rfl, k, hz, q⟩ := h
    refine ⟨_, (pss_cons (ps_if (PW.pt (pw_or (pt_not (pt_val (pe_callB call_isi (by rfl) T.n_isinstance (by decide +kernel) (pa_cons (pv 0) (pa_cons (pe_bltn (v := .ty "str") (by rfl) T.n_str (by decide +kernel) rfl) pa_nil))))) (pw_or1 (pt_not (pt_chain op_le op_le pe_int (pe_callB Lay.call_lenStr (by rfl) T.n_len PySem.boot_len (pa_cons (pv 0) pa_nil)) (pe_glob (v := .int 8) rfl T.k_LONGEST_NAME ⟨_, rfl⟩))))))
      (pss_one (ps_ret pe_bl))
      pss_nil)
    (pss_one (ps_ret (pe_callB (cr_all rfl) (by rfl) T.n_all (by decide +kernel) (pa_cons (pe_lc (own := [("sign", 1)]) (g := gName 1) (tt := tYes) rfl sc_is_name.nd (pi_str (pv 0)) (blkOk_by (own := [("sign", 1)]) (N := ["value", "sign"]) (sc := defScope s_is_name) (by decide +kernel)) (fun _ _ _ _ _ => pg_name (i := 1) sc_is_name.nd rfl (Or.inl rfl)) (fun _ _ _ _ _ => pts_nil) (fun _ _ _ _ _ => (pe_cmpR Lay.op_sign (pv 1) (pe_glob (v := .str "abcdefghijklmnopqrstuvwxyz") rfl T.k_LETTERS ⟨_, rfl⟩) rfl))) pa_nil))))), ?_⟩
    walk_at "in"
    by_cases hs : ∃ z, v = .str z
    · obtain ⟨z, rfl⟩ := hs
      have hl := hz z rfl
      walk_at "rd"
      refine Lay.rd_isi .str (.str z) ?_
      walk_at "rd"
      refine iteF ?_
      walk_at "rd"
      refine Lay.rd_lenV hl ?_
      walk_at "rd"
      refine Lay.ite_d (fun c1 => ?_) (fun c1 => ?_)
      · walk_at "rd"
        refine Lay.ite_n (fun c2 => ?_) (fun c2 => ?_)
        · walk_at "rd"
          have e : Lay.isName (.str z) = false := by
            show Lay.nameOk z = false
            unfold Lay.nameOk
            have : ¬ z.length ≤ 8 := by omega
            rw [decide_eq_false this]
            simp
          rw [e] at q
          exact q H (Same.refl H)
        · walk_at "rd"
          intro D hD
          refine Lay.lc_go walk_str (fun i l H' => Same H H' ∧ l = (z.cps.toList.take i).map fun c => V.bl (decide (97 ≤ c) && decide (c ≤ 122))) ⟨Lay.Same.upd hD, rfl⟩ (fun _ _ _ _ _ => trivial) ?_ ?_
          · rintro i l x H1 H2 hi hl hz' ⟨r1, r2⟩ ⟨rfl, c, hc, rfl⟩
            walk_at "rd"
            refine ⟨rfl, ?_⟩
            walk_at "rd"
            refine iteT ?_
            walk_at "rd"
            refine Lay.lc_put hl hz' (by have : z.cps.size = z.length := rfl; omega) ⟨fun b o hb => ?_, ?_⟩
            · by_cases e : b = D
              · rw [e, hD] at hb; cases hb
              · rw [upd_ne e]; exact r1 b o hb
            · have hc' : z.cps.toList[i]? = some c := by simpa using hc
              rw [r2, Lay.take_succ hc', List.map_append, List.map_cons, List.map_nil, ← Lay.in_alphabet c]
              rfl
          · rintro l H1 hl hz' ⟨r1, rfl⟩
            walk_at "rd"
            have el : (z.cps.toList.take z.cps.size).map (fun c => V.bl (decide (97 ≤ c) && decide (c ≤ 122))) = (z.cps.toList.map fun c => decide (97 ≤ c) && decide (c ≤ 122)).map V.bl := by
              rw [List.take_of_length_le (by simp), List.map_map]
              rfl
            rw [el] at hl
            refine Lay.rd_alls (SqL.of hl) ?_
            have e : Lay.isName (.str z) = (z.cps.toList.map fun c => decide (97 ≤ c) && decide (c ≤ 122)).all id := by
              show Lay.nameOk z = _
              unfold Lay.nameOk
              have c1' : 1 ≤ z.length := by omega
              have c2' : z.length ≤ 8 := by omega
              rw [decide_eq_true c1', decide_eq_true c2', List.all_map]
              rfl
            rw [← e]
            exact q H1 r1
      · walk_at "rd"
        refine iteT ?_
        walk_at "rd"
        have e : Lay.isName (.str z) = false := by
          show Lay.nameOk z = false
          unfold Lay.nameOk
          have : ¬ 1 ≤ z.length := by omega
          rw [decide_eq_false this]
          rfl
        rw [e] at q
        exact q H (Same.refl H)
    · have e : Lay.isName v = false := by
        cases v with
        | str z => exact absurd ⟨z, rfl⟩ hs
        | _ => rfl
      rw [e] at q
      have t1 : Lay.isTy t .str = false := by
        cases k with
        | str z => exact absurd ⟨z, rfl⟩ hs
        | _ => rfl
      walk_at "rd"
      refine Lay.rd_isi .str k ?_
      rw [t1]
      walk_at "rd"
      refine iteT ?_
      refine iteT ?_
      walk_at "rd"
      exact q H (Same.refl H)
theorem ok_is_memory_step (T : Txt K mg A) (G_is_name : FnOk P w K mg base CX0 1 A.a_is_name A.d_is_name ["value"] Lay.spIsName) (G_is_within : FnOk P w K mg base CX0 2 A.a_is_within A.d_is_within ["value", "low", "high"] Lay.spIsWithin) : FnOk P w K mg base CX0 3 A.a_is_memory_step A.d_is_memory_step ["value"] Lay.spMemStep := by
  refine T.F_is_memory_step.ok sc_is_memory_step (fun vs H Q E h => ?_) (fun cdv A0 outer s H vs Q E hr h => ?_)
  · obtain ⟨p, w, n, s, f, e, rfl, _⟩ := h
    rfl
  · obtain ⟨p, wd, n, s0, f, e, rfl, hp, hw, hn, s1, s2, f1, f2, e1, q⟩ := h
    have hl := Lay.nameOk_len hn
    refine ⟨_, (pss_cons (ps_asg (pv 0) (pg_tup (by rfl) (pgs_cons (pg_name (i := 1) sc_is_memory_step.nd rfl (Or.inl rfl)) (pgs_cons (pg_name (i := 2) sc_is_memory_step.nd rfl (Or.inl rfl)) (pgs_cons (pg_name (i := 3) sc_is_memory_step.nd rfl (Or.inl rfl)) (pgs_cons (pg_name (i := 4) sc_is_memory_step.nd rfl (Or.inl rfl)) (pgs_cons (pg_name (i := 5) sc_is_memory_step.nd rfl (Or.inl rfl)) pgs_nil)))))))
    (Evl.pss_cut (ps_if (PW.pt (pw_and (pt_cmpR (Lay.op_notInS hr.units) (pv 1) (pe_glob (v := .ref A.t_ACCESS_WORDS) rfl T.k_ACCESS_WORDS rfl) rfl) (pw_and1 (pt_cmpR (Lay.op_notInS hr.units) (pv 1) (pe_glob (v := .ref A.t_UPKEEP_WORDS) rfl T.k_UPKEEP_WORDS rfl) rfl))))
      (pss_one (ps_ret pe_bl))
      pss_nil)
    (pss_cons (ps_if (PW.pt (pw_or (pt_not (pt_val (pe_call G_is_name (hr.mono (by decide)) rfl T.g_is_name T.F_is_name.kp T.b_is_name .nil pass0 (pa_cons (pv 2) pa_nil)))) (pw_or1 (pt_not (pt_val (pe_call G_is_within (hr.mono (by decide)) rfl T.g_is_within T.F_is_within.kp T.b_is_within .nil pass0 (pa_cons (pv 3) (pa_cons pe_int (pa_cons (pe_glob (v := .int 3) rfl T.k_GREATEST_SHIFT ⟨_, rfl⟩) pa_nil)))))))))
      (pss_one (ps_ret pe_bl))
      pss_nil)
    (pss_one (ps_ret (pe_and (pe_call G_is_within (hr.mono (by decide)) rfl T.g_is_within T.F_is_within.kp T.b_is_within .nil pass0 (pa_cons (pv 5) (pa_cons pe_int (pa_cons (pe_glob (v := .int 7) rfl T.k_GREATEST_BYTE ⟨_, rfl⟩) pa_nil)))) (pe_one (pe_call G_is_within (hr.mono (by decide)) rfl T.g_is_within T.F_is_within.kp T.b_is_within .nil pass0 (pa_cons (pv 4) (pa_cons pe_int (pa_cons (pv 5) pa_nil))))))))))), ?_⟩
    walk_at "in"
    walk_at "rd"
    have name : ∀ Q' : VK, (∀ H1, Same H H1 → Q' (.bl true) H1) → Lay.spIsName [.str n] H Q' E0 := fun Q' q' => ⟨.str n, .str, rfl, .str n, (fun z ez => by cases ez; omega), fun H1 s1 => by
      have en : Lay.isName (.str n) = true := hn
      rw [en]
      exact q' H1 s1⟩
    refine ⟨fun σ' H' => σ' = [some (V.ref p), some (V.str wd), some (V.str n), some (V.int s0), some (V.int f), some (V.int e)] ∧ H' = H, ?_, ?_⟩
    · walk_at "rd"
      refine Lay.rd_notInS (zs := ["read", "write", "get", "put"]) (T.q_ACCESS_WORDS _) (.str wd) ?_
      walk_at "rd"
      refine Lay.ite_nb (fun c1 => ?_) (fun c1 => ?_)
      · walk_at "rd"
        refine Lay.rd_notInS (zs := ["clean", "drop", "flush"]) (T.q_UPKEEP_WORDS _) (.str wd) ?_
        walk_at "rd"
        refine Lay.ite_nb (fun c2 => ?_) (fun c2 => ?_)
        · exfalso
          have n1 := Lay.of_inStrs c1
          have n2 := Lay.of_inStrs c2
          unfold Lay.memWords at hw
          simp only [List.mem_cons, List.not_mem_nil, or_false] at hw n1 n2
          rcases hw with h | h | h | h | h | h | h <;> simp [h] at n1 n2
        · walk_at "rd"
          exact ⟨rfl, rfl⟩
      · refine iteF ?_
        walk_at "rd"
        exact ⟨rfl, rfl⟩
    · rintro σ' H' ⟨rfl, rfl⟩
      walk_at "rd"
      refine name _ fun H1 h1 => ?_
      walk_at "rd"
      refine iteF ?_
      walk_at "rd"
      refine ⟨.int s0, .int, 0, 3, rfl, .int s0, ?_⟩
      walk_at "rd"
      rw [show Lay.within (.int s0) 0 3 = true from by show (decide (0 ≤ s0) && decide (s0 ≤ 3)) = true; rw [decide_eq_true s1, decide_eq_true s2]; rfl]
      walk_at "rd"
      refine iteF ?_
      walk_at "rd"
      refine ⟨.int e, .int, 0, 7, rfl, .int e, ?_⟩
      walk_at "rd"
      rw [show Lay.within (.int e) 0 7 = true from by show (decide (0 ≤ e) && decide (e ≤ 7)) = true; rw [decide_eq_true (show 0 ≤ e by omega), decide_eq_true e1]; rfl]
      refine iteT ?_
      walk_at "rd"
      refine ⟨.int f, .int, 0, e, rfl, .int f, ?_⟩
      rw [show Lay.within (.int f) 0 e = true from by show (decide (0 ≤ f) && decide (f ≤ e)) = true; rw [decide_eq_true f1, decide_eq_true f2]; rfl]
      exact q H1 h1
theorem ok_is_step (T : Txt K mg A) (G_is_memory_step : FnOk P w K mg base CX0 3 A.a_is_memory_step A.d_is_memory_step ["value"] Lay.spMemStep) (G_is_name : FnOk P w K mg base CX0 1 A.a_is_name A.d_is_name ["value"] Lay.spIsName) : FnOk P w K mg base CX0 4 A.a_is_step A.d_is_step ["value"] Lay.spIsStep := by
  refine T.F_is_step.ok sc_is_step (fun vs H Q E h => ?_) (fun cdv A0 outer s H vs Q E hr h => ?_)
  · obtain ⟨p, l, ws, rfl, _⟩ := h
    rfl
  · obtain ⟨p, l, ws, rfl, hp, g, q⟩ := h
    refine ⟨_, (pss_cons (ps_if (pt_not (pt_val (pe_callB call_isi (by rfl) T.n_isinstance (by decide +kernel) (pa_cons (pv 0) (pa_cons (pe_bltn (v := .ty "tuple") (by rfl) T.n_tuple (by decide +kernel) rfl) pa_nil)))))
      (pss_one (ps_ret pe_bl))
      pss_nil)
    (pss_cons (ps_if (pt_cmpR op_eq (pe_callB Lay.call_lenS (by rfl) T.n_len PySem.boot_len (pa_cons (pv 0) pa_nil)) pe_int (nomark _))
      (pss_one (ps_ret (pe_call G_is_memory_step (hr.mono (by decide)) rfl T.g_is_memory_step T.F_is_memory_step.kp T.b_is_memory_step .nil pass0 (pa_cons (pv 0) pa_nil))))
      pss_nil)
    (pss_one (ps_ret (pe_and (pe_cmpR op_eq (pe_callB Lay.call_lenS (by rfl) T.n_len PySem.boot_len (pa_cons (pv 0) pa_nil)) pe_int (nomark _)) (pe_and (pe_cmpR (Lay.op_inS hr.units) (pe_ix ix_tup (pv 0) pe_int (fun _ _ => rfl)) (pe_glob (v := .ref A.t_SIGNAL_WORDS) rfl T.k_SIGNAL_WORDS rfl) rfl) (pe_one (pe_call G_is_name (hr.mono (by decide)) rfl T.g_is_name T.F_is_name.kp T.b_is_name .nil pass0 (pa_cons (pe_ix ix_tup (pv 0) pe_int (fun _ _ => rfl)) pa_nil))))))))), ?_⟩
    walk_at "in"
    walk_at "rd"
    refine Lay.rd_isi .tuple (.tup hp) ?_
    walk_at "rd"
    refine iteF ?_
    walk_at "rd"
    rcases g with ⟨wd, n, rfl, hw, hws, hn⟩ | ⟨wd, n, s0, f, e, rfl, hw, hws, hn, s1, s2, f1, f2, e1⟩
    · walk_at "rd"
      refine iteF ?_
      walk_at "rd"
      refine iteT ?_
      walk_at "rd"
      refine Lay.rd_inS (zs := ["post", "wait"]) (T.q_SIGNAL_WORDS _) (.str wd) ?_
      walk_at "rd"
      rw [Lay.inStrs_of (zs := ["post", "wait"]) hw]
      refine iteT ?_
      walk_at "rd"
      have hl := Lay.nameOk_len hn
      refine ⟨.str n, .str, rfl, .str n, (fun z ez => by cases ez; omega), fun H1 s1 => ?_⟩
      rw [show Lay.isName (.str n) = true from hn]
      exact q H1 s1
    · walk_at "rd"
      refine iteT ?_
      walk_at "rd"
      exact ⟨p, wd, n, s0, f, e, rfl, hp, hw, hn, s1, s2, f1, f2, e1, q⟩
theorem ok_check_agent (T : Txt K mg A) (G_is_name : FnOk P w K mg base CX0 1 A.a_is_name A.d_is_name ["value"] Lay.spIsName) (G_is_step : FnOk P w K mg base CX0 4 A.a_is_step A.d_is_step ["value"] Lay.spIsStep) : FnOk P w K mg base CX0 5 A.a_check_agent A.d_check_agent ["name", "steps", "words"] (Lay.spCheckAgent K) := by
  refine T.F_check_agent.ok sc_check_agent (fun vs H Q E h => ?_) (fun cdv A0 outer s H vs Q E hr h => ?_)
  · obtain ⟨z, t, wt, ws, steps, rfl, _⟩ := h
    rfl
  · obtain ⟨z, t, wt, ws, steps, rfl, hz, ht, l1, l2, hw, hg, q⟩ := h
    have hl := Lay.nameOk_len hz
    refine ⟨_, (pss_cons (ps_if (pt_not (pt_val (pe_call G_is_name (hr.mono (by decide)) rfl T.g_is_name T.F_is_name.kp T.b_is_name .nil pass0 (pa_cons (pv 0) pa_nil))))
      (pss_one ps_never)
      pss_nil)
    (pss_cons (ps_if (pt_not (pt_chain op_le op_le pe_int (pe_callB Lay.call_lenS (by rfl) T.n_len PySem.boot_len (pa_cons (pv 1) pa_nil)) (pe_glob (v := .int 24) rfl T.k_MOST_STEPS ⟨_, rfl⟩)))
      (pss_one ps_never)
      pss_nil)
    (pss_one (ps_for PassesOwn.never rfl (Lay.pi_enumT (by rfl) T.n_enumerate (pa_cons (pv 1) pa_nil)) (pg_tup (by rfl) (pgs_cons (pg_name (i := 3) sc_check_agent.nd rfl (Or.inl rfl)) (pgs_cons (pg_name (i := 4) sc_check_agent.nd rfl (Or.inl rfl)) pgs_nil)))
      (pss_one (ps_if (PW.pt (pw_or (pt_not (pt_val (pe_call G_is_step (hr.mono (by decide)) rfl T.g_is_step T.F_is_step.kp T.b_is_step .nil pass0 (pa_cons (pv 4) pa_nil)))) (pw_or1 (pt_cmpR (Lay.op_notInS hr.units) (pe_ix ix_tup (pv 4) pe_int (fun _ _ => rfl)) (pv 2) rfl))))
        (pss_one ps_never)
        pss_nil)))))), ?_⟩
    walk_at "in"
    walk_at "rd"
    refine ⟨.str z, .str, rfl, .str z, (fun z' ez => by cases ez; omega), fun H1 s1 => ?_⟩
    rw [show Lay.isName (.str z) = true from hz]
    walk_at "rd"
    refine iteF ?_
    walk_at "rd"
    have ht1 := s1 _ _ ht
    refine Lay.rd_lenT (SqT.of ht1) ?_
    walk_at "rd"
    refine Lay.ite_d (fun c1 => ?_) (fun c1 => absurd (by omega) c1)
    walk_at "rd"
    refine Lay.ite_n (fun c2 => absurd (by omega) c2) (fun c2 => ?_)
    walk_at "rd"
    refine Lay.rd_forW (J := Lay.Itet K t) (H1 := H1) (fun R r => ?_) (Lay.walk_enumT (xs := steps)) (fun i σ' H' => ∃ a b, σ' = [some (V.str z), some (V.ref t), some (V.ref wt), a, b] ∧ Same H H') ⟨_, _, rfl, s1⟩ (fun i σ' H' _ ⟨a, b, _, s2⟩ => SqT.of (s2 _ _ ht)) ?_ ?_
    · walk_at "rd"
      exact ⟨t, steps, rfl, SqT.of ht1, r⟩
    · rintro i x σ' H2 H3 hi ⟨a, b, rfl, s2⟩ ⟨T0, x1, y1, rfl, hT, rfl, ex, ey⟩
      cases ex
      have s3 : Same H (upd H2 T0 (.tup [.int (i : Nat), y1])) := s2.trans (Lay.Same.upd hT)
      walk_at "rd"
      obtain ⟨p, l, rfl, hp, gp⟩ := Lay.StepAt.mono s3 (hg y1 (List.mem_of_getElem? ey))
      refine ⟨p, l, ws, rfl, hp, gp, fun H4 s4 => ?_⟩
      walk_at "rd"
      refine iteF ?_
      walk_at "rd"
      have hp4 := s4 _ _ hp
      have s5 := s3.trans s4
      rcases gp with ⟨wd, n, rfl, _, hm, _⟩ | ⟨wd, n, s0, f, e, rfl, _, hm, _⟩
      all_goals
        walk_at "rd"
        refine Lay.rd_notInS (Lay.same_sqT s5 hw) (.str wd) ?_
        walk_at "rd"
        rw [Lay.inStrs_of hm]
        refine iteF ?_
        walk_at "rd"
        exact ⟨_, _, rfl, s5⟩
    · rintro σ' H2 ⟨a, b, rfl, s2⟩
      exact q H2 s2
theorem ok_Agent_init (T : Txt K mg A) (G_check_agent : FnOk P w K mg base CX0 5 A.a_check_agent A.d_check_agent ["name", "steps", "words"] (Lay.spCheckAgent K)) : FnR P w K mg base CX0 6 A.a_Agent_init (Lay.spStar 2 (Lay.spAgentInit A.c_Agent ["read", "write", "post", "wait"])) := by
  obtain ⟨oc, od, kV, doc, pm, an, cdv, ct, osl, hfd, lk, hcd⟩ := T.F_Agent_init.ex
  rw [hfd] at lk
  refine StX.fn_star (ps := ["self", "name"]) (pv := "steps") (sp := Lay.spAgentInit A.c_Agent ["read", "write", "post", "wait"]) lk hcd sc_Agent_init StX.cxUp_none (StX.bind_star2 (B := fun us => bindArgs (PySem.W.fnOf "__init__" "Agent.__init__" (defArgs s_Agent_init) (defBody s_Agent_init) (defScope s_Agent_init) .none kV doc pm an cdv ct) ⟨us, []⟩) (fun a b => by rfl) (fun a b r rs => by rfl)) (fun A0 outer s H vs Q E hr h => ?_)
  obtain ⟨x, dx, z, t, steps, rfl, hx, hz, ht, l1, l2, hg, q⟩ := h
  have D : PSs (cxOf CX0 P w K mg base ["self", "name", "steps"] "Agent.__init__" (defScope s_Agent_init) A.a_Agent_init cdv A0 outer s H E).nox (defBody s_Agent_init) _ := (pss_cons (ps_expr (pe_call G_check_agent (hr.mono (by decide)) rfl T.g_check_agent T.F_check_agent.kp T.b_check_agent .nil pass0 (pa_cons (pv 1) (pa_cons (pv 2) (pa_cons (pe_glob (v := .ref A.t_PLAIN_WORDS) rfl T.k_PLAIN_WORDS rfl) pa_nil)))))
    (pss_cons (ps_fld (pv 0) (pv 1) rfl)
    (pss_one (ps_fld (pv 0) (pv 2) rfl))))
  refine ⟨_, D.nox, ?_⟩
  walk_at "in"
  walk_at "rd"
  refine ⟨z, t, A.t_PLAIN_WORDS, ["read", "write", "post", "wait"], steps, rfl, hz, ht, l1, l2, T.q_PLAIN_WORDS _, hg, fun H1 s1 => ?_⟩
  walk_at "rd"
  refine Lay.rd_sFld ?_
  walk_at "rd"
  refine ⟨x, A.c_Agent, dx, [], rfl, s1 _ _ hx, T.cl_Agent, T.na_Agent_name, by decide, ?_⟩
  walk_at "rd"
  refine Lay.rd_sFld ?_
  walk_at "rd"
  refine ⟨x, A.c_Agent, dx, _, rfl, upd_same, T.cl_Agent, T.na_Agent_steps, (by show 1 < 1000; decide), ?_⟩
  have htx : t ≠ x := ne_of ht hx (by intro y; cases y)
  refine q _ ⟨dx, t, ?_, ?_⟩ (fun b o hb e => ?_)
  · rw [upd_same, Lay.putF_agent]
  · rw [upd_ne htx, upd_ne htx]; exact s1 _ _ ht
  · rw [upd_ne hb, upd_ne hb]; exact s1 _ _ e
theorem ok_Through_init (T : Txt K mg A) (G_check_agent : FnOk P w K mg base CX0 5 A.a_check_agent A.d_check_agent ["name", "steps", "words"] (Lay.spCheckAgent K)) : FnR P w K mg base CX0 6 A.a_Through_init (Lay.spStar 2 (Lay.spAgentInit A.c_Through ["read", "write", "get", "put", "clean", "drop", "flush", "post", "wait"])) := by
  obtain ⟨oc, od, kV, doc, pm, an, cdv, ct, osl, hfd, lk, hcd⟩ := T.F_Through_init.ex
  rw [hfd] at lk
  refine StX.fn_star (ps := ["self", "name"]) (pv := "steps") (sp := Lay.spAgentInit A.c_Through ["read", "write", "get", "put", "clean", "drop", "flush", "post", "wait"]) lk hcd sc_Through_init StX.cxUp_none (StX.bind_star2 (B := fun us => bindArgs (PySem.W.fnOf "__init__" "Through.__init__" (defArgs s_Through_init) (defBody s_Through_init) (defScope s_Through_init) .none kV doc pm an cdv ct) ⟨us, []⟩) (fun a b => by rfl) (fun a b r rs => by rfl)) (fun A0 outer s H vs Q E hr h => ?_)
  obtain ⟨x, dx, z, t, steps, rfl, hx, hz, ht, l1, l2, hg, q⟩ := h
  have D : PSs (cxOf CX0 P w K mg base ["self", "name", "steps"] "Through.__init__" (defScope s_Through_init) A.a_Through_init cdv A0 outer s H E).nox (defBody s_Through_init) _ := (pss_cons (ps_expr (pe_call G_check_agent (hr.mono (by decide)) rfl T.g_check_agent T.F_check_agent.kp T.b_check_agent .nil pass0 (pa_cons (pv 1) (pa_cons (pv 2) (pa_cons (pe_glob (v := .ref A.t_CACHE_WORDS) rfl T.k_CACHE_WORDS rfl) pa_nil)))))
    (pss_cons (ps_fld (pv 0) (pv 1) rfl)
    (pss_one (ps_fld (pv 0) (pv 2) rfl))))
  refine ⟨_, D.nox, ?_⟩
  walk_at "in"
  walk_at "rd"
  refine ⟨z, t, A.t_CACHE_WORDS, ["read", "write", "get", "put", "clean", "drop", "flush", "post", "wait"], steps, rfl, hz, ht, l1, l2, T.q_CACHE_WORDS _, hg, fun H1 s1 => ?_⟩
  walk_at "rd"
  refine Lay.rd_sFld ?_
  walk_at "rd"
  refine ⟨x, A.c_Through, dx, [], rfl, s1 _ _ hx, T.cl_Through, T.na_Through_name, by decide, ?_⟩
  walk_at "rd"
  refine Lay.rd_sFld ?_
  walk_at "rd"
  refine ⟨x, A.c_Through, dx, _, rfl, upd_same, T.cl_Through, T.na_Through_steps, (by show 1 < 1000; decide), ?_⟩
  have htx : t ≠ x := ne_of ht hx (by intro y; cases y)
  refine q _ ⟨dx, t, ?_, ?_⟩ (fun b o hb e => ?_)
  · rw [upd_same, Lay.putF_agent]
  · rw [upd_ne htx, upd_ne htx]; exact s1 _ _ ht
  · rw [upd_ne hb, upd_ne hb]; exact s1 _ _ e
theorem ok_Back_init (T : Txt K mg A) (G_check_agent : FnOk P w K mg base CX0 5 A.a_check_agent A.d_check_agent ["name", "steps", "words"] (Lay.spCheckAgent K)) : FnR P w K mg base CX0 6 A.a_Back_init (Lay.spStar 2 (Lay.spAgentInit A.c_Back ["read", "write", "get", "put", "clean", "drop", "flush", "post", "wait"])) := by
  obtain ⟨oc, od, kV, doc, pm, an, cdv, ct, osl, hfd, lk, hcd⟩ := T.F_Back_init.ex
  rw [hfd] at lk
  refine StX.fn_star (ps := ["self", "name"]) (pv := "steps") (sp := Lay.spAgentInit A.c_Back ["read", "write", "get", "put", "clean", "drop", "flush", "post", "wait"]) lk hcd sc_Back_init StX.cxUp_none (StX.bind_star2 (B := fun us => bindArgs (PySem.W.fnOf "__init__" "Back.__init__" (defArgs s_Back_init) (defBody s_Back_init) (defScope s_Back_init) .none kV doc pm an cdv ct) ⟨us, []⟩) (fun a b => by rfl) (fun a b r rs => by rfl)) (fun A0 outer s H vs Q E hr h => ?_)
  obtain ⟨x, dx, z, t, steps, rfl, hx, hz, ht, l1, l2, hg, q⟩ := h
  have D : PSs (cxOf CX0 P w K mg base ["self", "name", "steps"] "Back.__init__" (defScope s_Back_init) A.a_Back_init cdv A0 outer s H E).nox (defBody s_Back_init) _ := (pss_cons (ps_expr (pe_call G_check_agent (hr.mono (by decide)) rfl T.g_check_agent T.F_check_agent.kp T.b_check_agent .nil pass0 (pa_cons (pv 1) (pa_cons (pv 2) (pa_cons (pe_glob (v := .ref A.t_CACHE_WORDS) rfl T.k_CACHE_WORDS rfl) pa_nil)))))
    (pss_cons (ps_fld (pv 0) (pv 1) rfl)
    (pss_one (ps_fld (pv 0) (pv 2) rfl))))
  refine ⟨_, D.nox, ?_⟩
  walk_at "in"
  walk_at "rd"
  refine ⟨z, t, A.t_CACHE_WORDS, ["read", "write", "get", "put", "clean", "drop", "flush", "post", "wait"], steps, rfl, hz, ht, l1, l2, T.q_CACHE_WORDS _, hg, fun H1 s1 => ?_⟩
  walk_at "rd"
  refine Lay.rd_sFld ?_
  walk_at "rd"
  refine ⟨x, A.c_Back, dx, [], rfl, s1 _ _ hx, T.cl_Back, T.na_Back_name, by decide, ?_⟩
  walk_at "rd"
  refine Lay.rd_sFld ?_
  walk_at "rd"
  refine ⟨x, A.c_Back, dx, _, rfl, upd_same, T.cl_Back, T.na_Back_steps, (by show 1 < 1000; decide), ?_⟩
  have htx : t ≠ x := ne_of ht hx (by intro y; cases y)
  refine q _ ⟨dx, t, ?_, ?_⟩ (fun b o hb e => ?_)
  · rw [upd_same, Lay.putF_agent]
  · rw [upd_ne htx, upd_ne htx]; exact s1 _ _ ht
  · rw [upd_ne hb, upd_ne hb]; exact s1 _ _ e
theorem ok_Agent_made (T : Txt K mg A) (G_Agent_init : FnR P w K mg base CX0 6 A.a_Agent_init (Lay.spStar 2 (Lay.spAgentInit A.c_Agent ["read", "write", "post", "wait"]))) : FnOk P w K mg base CX0 8 A.a_Agent_made A.d_Agent_made ["cls", "name", "steps"] (Lay.spMade K A.c_Agent ["read", "write", "post", "wait"]) := by
  refine T.F_Agent_made.ok sc_Agent_made (fun vs H Q E h => ?_) (fun cdv A0 outer s H vs Q E hr h => ?_)
  · obtain ⟨z, t, xs, ls, rfl, _⟩ := h
    rfl
  · obtain ⟨z, t, xs, ls, rfl, hz, ht, hx, l1, l2, hg, q⟩ := h
    refine ⟨_, (pss_one (ps_ret (OwnC.pe_makeV (pv 0) T.mk_Agent G_Agent_init (hr.mono (by decide)) pass0 (pa_cons (pv 1) (StX.pa_star (pv 2) pa_nil))))), ?_⟩
    walk_at "in"
    walk_at "rd"
    refine Lay.rd_makeV ?_
    walk_at "rd"
    refine ⟨rfl, Lay.rd_makeR ?_⟩
    walk_at "rd"
    refine ⟨t, xs, rfl, ht, ?_⟩
    walk_at "rd"
    simp only [List.append_nil]
    exact Lay.mk_ag (Q := fun x H => Q (.ref x) H) hz hx l1 l2 hg q
theorem ok_Through_made (T : Txt K mg A) (G_Through_init : FnR P w K mg base CX0 6 A.a_Through_init (Lay.spStar 2 (Lay.spAgentInit A.c_Through ["read", "write", "get", "put", "clean", "drop", "flush", "post", "wait"]))) : FnOk P w K mg base CX0 8 A.a_Through_made A.d_Through_made ["cls", "name", "steps"] (Lay.spMade K A.c_Through ["read", "write", "get", "put", "clean", "drop", "flush", "post", "wait"]) := by
  refine T.F_Through_made.ok sc_Through_made (fun vs H Q E h => ?_) (fun cdv A0 outer s H vs Q E hr h => ?_)
  · obtain ⟨z, t, xs, ls, rfl, _⟩ := h
    rfl
  · obtain ⟨z, t, xs, ls, rfl, hz, ht, hx, l1, l2, hg, q⟩ := h
    refine ⟨_, (pss_one (ps_ret (OwnC.pe_makeV (pv 0) T.mk_Through G_Through_init (hr.mono (by decide)) pass0 (pa_cons (pv 1) (StX.pa_star (pv 2) pa_nil))))), ?_⟩
    walk_at "in"
    walk_at "rd"
    refine Lay.rd_makeV ?_
    walk_at "rd"
    refine ⟨rfl, Lay.rd_makeR ?_⟩
    walk_at "rd"
    refine ⟨t, xs, rfl, ht, ?_⟩
    walk_at "rd"
    simp only [List.append_nil]
    exact Lay.mk_ag (Q := fun x H => Q (.ref x) H) hz hx l1 l2 hg q
theorem ok_Back_made (T : Txt K mg A) (G_Back_init : FnR P w K mg base CX0 6 A.a_Back_init (Lay.spStar 2 (Lay.spAgentInit A.c_Back ["read", "write", "get", "put", "clean", "drop", "flush", "post", "wait"]))) : FnOk P w K mg base CX0 8 A.a_Back_made A.d_Back_made ["cls", "name", "steps"] (Lay.spMade K A.c_Back ["read", "write", "get", "put", "clean", "drop", "flush", "post", "wait"]) := by
  refine T.F_Back_made.ok sc_Back_made (fun vs H Q E h => ?_) (fun cdv A0 outer s H vs Q E hr h => ?_)
  · obtain ⟨z, t, xs, ls, rfl, _⟩ := h
    rfl
  · obtain ⟨z, t, xs, ls, rfl, hz, ht, hx, l1, l2, hg, q⟩ := h
    refine ⟨_, (pss_one (ps_ret (OwnC.pe_makeV (pv 0) T.mk_Back G_Back_init (hr.mono (by decide)) pass0 (pa_cons (pv 1) (StX.pa_star (pv 2) pa_nil))))), ?_⟩
    walk_at "in"
    walk_at "rd"
    refine Lay.rd_makeV ?_
    walk_at "rd"
    refine ⟨rfl, Lay.rd_makeR ?_⟩
    walk_at "rd"
    refine ⟨t, xs, rfl, ht, ?_⟩
    walk_at "rd"
    simp only [List.append_nil]
    exact Lay.mk_ag (Q := fun x H => Q (.ref x) H) hz hx l1 l2 hg q
theorem ok_NoPart_init (T : Txt K mg A) : FnOk P w K mg base CX0 1 A.a_NoPart_init A.d_NoPart_init ["self", "reason", "place"] (Lay.spErr2 A.c_NoPart "reason" "place") := by
  refine T.F_NoPart_init.ok sc_NoPart_init (fun vs H Q E h => ?_) (fun cdv A0 outer s H vs Q E hr h => ?_)
  · obtain ⟨a, v1, v2, rfl, _⟩ := h
    rfl
  · obtain ⟨a, v1, v2, rfl, ha, q⟩ := h
    refine ⟨_, (pss_cons (ps_ost (pv 0) (pv 1))
    (pss_one (ps_ost (pv 0) (pv 2)))), ?_⟩
    walk_at "in"
    walk_at "rd"
    refine Lay.rd_ost ?_
    walk_at "rd"
    refine ⟨a, A.c_NoPart, rfl, T.ox_NoPart, T.nf_NoPart_reason, .inl ⟨ha, fun d hd hne => ?_⟩⟩
    walk_at "rd"
    refine Lay.rd_ost ?_
    walk_at "rd"
    refine ⟨a, A.c_NoPart, rfl, T.ox_NoPart, T.nf_NoPart_place, .inr ⟨d, _, upd_same, (by rw [upd_ne hne]; exact upd_same), (by show 1 ≤ 900; decide), ?_⟩⟩
    refine q d _ hd hne (by rw [upd_ne hne.symm]; exact upd_same) upd_same (fun b o hb e => ?_)
    have hbd : b ≠ d := fun z => by subst z; rw [hd] at e; cases e
    rw [upd_ne hbd, upd_ne hb, upd_ne hbd]
    exact e
theorem ok_check_addresses (T : Txt K mg A) (G_NoPart_init : FnOk P w K mg base CX0 1 A.a_NoPart_init A.d_NoPart_init ["self", "reason", "place"] (Lay.spErr2 A.c_NoPart "reason" "place")) (G_is_within : FnOk P w K mg base CX0 2 A.a_is_within A.d_is_within ["value", "low", "high"] Lay.spIsWithin) : FnOk P w K mg base (L2.CX P w) 4 A.a_check_addresses A.d_check_addresses ["size", "at"] (Lay.spChkAddr A.c_NoPart) := by
  refine T.F_check_addresses.okX sc_check_addresses (fun vs H Q E h => ?_) (fun cdv A0 outer s H vs Q E hr h => ?_)
  · obtain ⟨s, t, xs, rfl, _⟩ := h
    rfl
  · obtain ⟨s0, t, xs, rfl, ht, hk, qe, q⟩ := h
    refine ⟨_, (pss_one (ps_for (passes_of rfl) rfl (Lay.pi_enumT (by rfl) T.n_enumerate (pa_cons (pv 1) pa_nil)) (pg_tup (by rfl) (pgs_cons (pg_name (i := 2) sc_check_addresses.nd rfl (Or.inl rfl)) (pgs_cons (pg_name (i := 3) sc_check_addresses.nd rfl (Or.inl rfl)) pgs_nil)))
      (pss_one (ps_if (pt_not (pt_val (pe_call G_is_within (hr.mono (by decide)) rfl T.g_is_within T.F_is_within.kp T.b_is_within .nil pass0 (pa_cons (pv 3) (pa_cons pe_int (pa_cons (pe_op op_sub (pe_glob (v := .int 1024) rfl T.k_ADDRESSES ⟨_, rfl⟩) (pv 0)) pa_nil))))))
        (pss_one (ps_raise rfl (takes_of rfl rfl rfl rfl) (pmk_oex T.ox_NoPart T.ie_NoPart T.it_NoPart G_NoPart_init (hr.mono (by decide)) T.b_NoPart_init .nil pass0 rfl T.g_NoPart (pa_cons pe_str (pa_cons (pv 2) pa_nil)))))
        pss_nil)))), ?_⟩
    walk_at "in"
    walk_at "rd"
    refine Lay.rd_forW (J := Lay.Itet K t) (H1 := H) (fun R r => ?_) (Lay.walk_enumT (xs := xs)) (fun i σ' H' => (∃ a b, σ' = [some (V.int s0), some (V.ref t), a, b]) ∧ L2.Same H H' ∧ ∀ j, j < i → Lay.aBad s0 xs j = false) ⟨⟨_, _, rfl⟩, L2.Same.refl _, fun j hj => absurd hj (Nat.not_lt_zero _)⟩ (fun i σ' H' _ ⟨_, s2, _⟩ => SqT.of (s2 _ _ ht)) ?_ ?_
    · walk_at "rd"
      exact ⟨t, xs, rfl, SqT.of ht, r⟩
    · rintro i x σ' H2 H3 hi ⟨⟨a, b, rfl⟩, s2, hno⟩ ⟨T0, x1, y1, rfl, hT, rfl, ex, ey⟩
      cases ex
      have s3 : L2.Same H (upd H2 T0 (.tup [.int (i : Nat), y1])) := s2.trans (Lay.Same.upd hT)
      walk_at "rd"
      obtain ⟨ty, ky, _⟩ := hk y1 (List.mem_of_getElem? ey)
      refine ⟨y1, ty, 0, 1024 - s0, rfl, ky.mono s3, ?_⟩
      have ey' : xs[i]? = some y1 := ey
      have eb : Lay.aBad s0 xs i = !Lay.within y1 0 (1024 - s0) := by unfold Lay.aBad; rw [ey']
      by_cases hw : Lay.within y1 0 (1024 - s0) = true
      · rw [hw]
        walk_at "it"
        refine ⟨⟨_, _, rfl⟩, s3, fun j hj => ?_⟩
        by_cases e : j = i
        · subst e; rw [eb, hw]; rfl
        · exact hno j (by omega)
      · rw [Bool.eq_false_iff.mpr hw]
        walk_at "it"
        refine Lay.rd_mkO ?_
        walk_at "rd"
        refine Lay.mk_err2 fun d H' hd s e => qe i (Lay.fst_some (by rw [eb, Bool.eq_false_iff.mpr hw]; rfl) hno hi) d H' (Lay.none_of s3 hd) (s3.trans s) e
    · rintro σ' H2 ⟨⟨a, b, rfl⟩, s2, hno⟩
      exact q (Lay.fst_none hno) H2 s2
theorem ok_check_slots_apart (T : Txt K mg A) (G_NoPart_init : FnOk P w K mg base CX0 1 A.a_NoPart_init A.d_NoPart_init ["self", "reason", "place"] (Lay.spErr2 A.c_NoPart "reason" "place")) : FnOk P w K mg base (L2.CX P w) 3 A.a_check_slots_apart A.d_check_slots_apart ["size", "at"] (Lay.spChkApart A.c_NoPart) := by
  refine T.F_check_slots_apart.okX sc_check_slots_apart (fun vs H Q E h => ?_) (fun cdv A0 outer s H vs Q E hr h => ?_)
  · obtain ⟨s, t, ns, rfl, _⟩ := h
    rfl
  · obtain ⟨s0, t, ns, rfl, ht, hl4, qe, q⟩ := h
    refine ⟨_, (pss_one (ps_for (passes_of rfl) rfl (Lay.pi_enumT (by rfl) T.n_enumerate (pa_cons (pv 1) pa_nil)) (pg_tup (by rfl) (pgs_cons (pg_name (i := 2) sc_check_slots_apart.nd rfl (Or.inl rfl)) (pgs_cons (pg_name (i := 3) sc_check_slots_apart.nd rfl (Or.inr rfl)) pgs_nil)))
      (pss_one (ps_if (pt_val (pe_callB (cr_any rfl) (by rfl) T.n_any (by decide +kernel) (pa_cons (pe_lc (own := [("earlier", 4)]) (g := gName 4) (tt := tYes) rfl sc_check_slots_apart.nd (pi_tup (pe_slice sl_tupA (pv 1) po_none (po_some (pv 2)))) (blkOk_by (own := [("earlier", 4)]) (N := ["size", "at", "k", "address", "earlier"]) (sc := defScope s_check_slots_apart) (by decide +kernel)) (fun _ _ _ _ _ => pg_name (i := 4) sc_check_slots_apart.nd rfl (Or.inl rfl)) (fun _ _ _ _ _ => pts_nil) (fun _ _ _ _ _ => (pe_cmpR op_lt (pe_callB Lay.call_absI (by rfl) T.n_abs (by decide +kernel) (pa_cons (pe_op op_sub (pv 3) (pv 4)) pa_nil)) (pv 0) (nomark _)))) pa_nil)))
        (pss_one (ps_raise rfl (takes_of rfl rfl rfl rfl) (pmk_oex T.ox_NoPart T.ie_NoPart T.it_NoPart G_NoPart_init (hr.mono (by decide)) T.b_NoPart_init .nil pass0 rfl T.g_NoPart (pa_cons pe_str (pa_cons (pv 2) pa_nil)))))
        pss_nil)))), ?_⟩
    walk_at "in"
    walk_at "rd"
    refine Lay.rd_forW (J := Lay.Itet K t) (H1 := H) (fun R r => ?_) (Lay.walk_enumT (xs := ns.map V.int)) (fun i σ' H' => (∃ a b, σ' = [some (V.int s0), some (V.ref t), a, b, none]) ∧ L2.Same H H' ∧ ∀ j, j < i → Lay.bBad s0 (ns.map V.int) j = false) ⟨⟨_, _, rfl⟩, L2.Same.refl _, fun j hj => absurd hj (Nat.not_lt_zero _)⟩ (fun i σ' H' _ ⟨_, s2, _⟩ => SqT.of (s2 _ _ ht)) ?_ ?_
    · walk_at "rd"
      exact ⟨t, _, rfl, SqT.of ht, r⟩
    · rintro i x σ' H2 H3 hi ⟨⟨a, b, rfl⟩, s2, hno⟩ ⟨T0, x1, y1, rfl, hT, rfl, ex, ey⟩
      cases ex
      have ey' : (ns.map V.int)[i]? = some y1 := ey
      have hi' : i < ns.length := by simpa using hi
      obtain ⟨n0, en0, rfl⟩ : ∃ n0, ns[i]? = some n0 ∧ y1 = V.int n0 := by
        rw [List.getElem?_map, List.getElem?_eq_getElem hi'] at ey'
        exact ⟨_, List.getElem?_eq_getElem hi', (Option.some.inj ey').symm⟩
      have s3 : L2.Same H (upd H2 T0 (.tup [.int (i : Nat), .int n0])) := s2.trans (Lay.Same.upd hT)
      walk_at "rd"
      refine Lay.rd_slA (SqT.of (s3 _ _ ht)) hi (fun p hp => ?_)
      have s4 := s3.trans (Lay.Same.upd (o := .tup ((ns.map V.int).take i)) hp)
      walk_at "rd"
      refine ⟨⟨_, SqT.of upd_same⟩, ?_⟩
      intro D hD
      have hpD : p ≠ D := fun e => by subst e; rw [upd_same] at hD; cases hD
      refine Lay.lc_go (walk_tup (xs := (ns.map V.int).take i)) (fun j l H' => H' p = some (.tup ((ns.map V.int).take i)) ∧ L2.Same H H' ∧ l = ((ns.take i).take j).map fun m => V.bl (decide ((if n0 - m < 0 then -(n0 - m) else n0 - m) < s0)))
        ⟨Lay.upd_old hD upd_same, Lay.Same.upd' s4 hD, rfl⟩ (fun j l H' _ r => SqT.of r.1) ?_ ?_
      · rintro j l y H4 H5 hj hl' hz' ⟨r0, r1, r2⟩ ⟨rfl, hy⟩
        have hjm : j < (ns.take i).length := by simpa using hj
        obtain ⟨m, em, rfl⟩ : ∃ m, (ns.take i)[j]? = some m ∧ y = V.int m := by
          rw [← List.map_take, List.getElem?_map, List.getElem?_eq_getElem hjm] at hy
          exact ⟨_, List.getElem?_eq_getElem hjm, (Option.some.inj hy).symm⟩
        walk_at "rd"
        refine ⟨rfl, ?_⟩
        walk_at "it"
        refine Lay.lc_put hl' hz' (by have : (ns.take i).length ≤ 4 := by rw [List.length_take]; omega
                                      omega) ⟨?_, fun b o hb => ?_, ?_⟩
        · have : p ≠ D := hpD
          rw [upd_ne this]; exact r0
        · have : b ≠ D := fun e => by
            subst e
            have q1 := (Lay.none_of s4 hD)
            rw [q1] at hb; cases hb
          rw [upd_ne this]; exact r1 b o hb
        · rw [r2, Lay.take_succ em, List.map_append, List.map_cons, List.map_nil]
      · rintro l H4 hl' hz' ⟨r0, r1, rfl⟩
        walk_at "rd"
        have el : (((ns.take i).take ((ns.map V.int).take i).length).map fun m => V.bl (decide ((if n0 - m < 0 then -(n0 - m) else n0 - m) < s0))) = ((ns.take i).map fun m => decide ((if n0 - m < 0 then -(n0 - m) else n0 - m) < s0)).map V.bl := by
          rw [List.take_of_length_le (by simp), List.map_map]
          rfl
        rw [el] at hl'
        refine Lay.rd_anys (SqL.of hl') ?_
        have eb : Lay.bBad s0 (ns.map V.int) i = ((ns.take i).map fun m => decide ((if n0 - m < 0 then -(n0 - m) else n0 - m) < s0)).any id := by
          unfold Lay.bBad
          rw [ey']
          dsimp only
          rw [← List.map_take, List.any_map, List.any_map]
          rfl
        rw [← eb]
        walk_at "rd"
        refine Lay.ite_b (fun hb => ?_) (fun hb => ?_)
        · walk_at "it"
          refine Lay.rd_mkO ?_
          walk_at "rd"
          exact Lay.mk_err2 fun d H' hd s e => qe i (Lay.fst_some hb hno hi') d H' (Lay.none_of r1 hd) (r1.trans s) e
        · walk_at "it"
          refine ⟨⟨_, _, rfl⟩, r1, fun j hj => ?_⟩
          by_cases e : j = i
          · subst e; exact hb
          · exact hno j (by omega)
    · rintro σ' H2 ⟨⟨a, b, rfl⟩, s2, hno⟩
      exact q (Lay.fst_none fun j hj => hno j (by simpa using hj)) H2 s2
theorem ok_Variable_init (T : Txt K mg A) (G_NoPart_init : FnOk P w K mg base CX0 1 A.a_NoPart_init A.d_NoPart_init ["self", "reason", "place"] (Lay.spErr2 A.c_NoPart "reason" "place")) (G_is_name : FnOk P w K mg base CX0 1 A.a_is_name A.d_is_name ["value"] Lay.spIsName) (G_is_within : FnOk P w K mg base CX0 2 A.a_is_within A.d_is_within ["value", "low", "high"] Lay.spIsWithin) (G_check_addresses : FnOk P w K mg base (L2.CX P w) 4 A.a_check_addresses A.d_check_addresses ["size", "at"] (Lay.spChkAddr A.c_NoPart)) (G_check_slots_apart : FnOk P w K mg base (L2.CX P w) 3 A.a_check_slots_apart A.d_check_slots_apart ["size", "at"] (Lay.spChkApart A.c_NoPart)) : FnR P w K mg base (L2.CX P w) 6 A.a_Variable_init (Lay.spStar 3 (Lay.spVarInit A.c_Variable A.c_NoPart)) := by
  obtain ⟨oc, od, kV, doc, pm, an, cdv, ct, osl, hfd, lk, hcd⟩ := T.F_Variable_init.ex
  rw [hfd] at lk
  refine StX.fn_star (ps := ["self", "name", "size"]) (pv := "at") (sp := Lay.spVarInit A.c_Variable A.c_NoPart) lk hcd sc_Variable_init StX.cxUp (Lay.bind_star3 (B := fun us => bindArgs (PySem.W.fnOf "__init__" "Variable.__init__" (defArgs s_Variable_init) (defBody s_Variable_init) (defScope s_Variable_init) .none kV doc pm an cdv ct) ⟨us, []⟩) (fun a b c => by rfl) (fun a b c r rs => by rfl)) (fun A0 outer s H vs Q E hr h => ?_)
  obtain ⟨x, dx, v, wv, t, xs, rfl, hx, ⟨tv, kv, hz⟩, ⟨tw, kw, _⟩, ht, hk, qe, q⟩ := h
  refine ⟨_, (show PSs (cxOf (L2.CX P w) P w K mg base ["self", "name", "size", "at"] "Variable.__init__" (defScope s_Variable_init) A.a_Variable_init cdv A0 outer s H E) (defBody s_Variable_init) _ from (pss_cons (ps_if (pt_not (pt_val (pe_call G_is_name (hr.mono (by decide)) rfl T.g_is_name T.F_is_name.kp T.b_is_name .nil pass0 (pa_cons (pv 1) pa_nil))))
      (pss_one (ps_raise rfl (takes_of rfl rfl rfl rfl) (pmk_oex T.ox_NoPart T.ie_NoPart T.it_NoPart G_NoPart_init (hr.mono (by decide)) T.b_NoPart_init .nil pass0 rfl T.g_NoPart (pa_cons pe_str (pa_cons pe_non pa_nil)))))
      pss_nil)
    (pss_cons (ps_if (pt_not (pt_val (pe_call G_is_within (hr.mono (by decide)) rfl T.g_is_within T.F_is_within.kp T.b_is_within .nil pass0 (pa_cons (pv 2) (pa_cons pe_int (pa_cons (pe_glob (v := .int 8) rfl T.k_GREATEST_SIZE ⟨_, rfl⟩) pa_nil))))))
      (pss_one (ps_raise rfl (takes_of rfl rfl rfl rfl) (pmk_oex T.ox_NoPart T.ie_NoPart T.it_NoPart G_NoPart_init (hr.mono (by decide)) T.b_NoPart_init .nil pass0 rfl T.g_NoPart (pa_cons pe_str (pa_cons pe_non pa_nil)))))
      pss_nil)
    (pss_cons (ps_if (pt_not (pt_chain op_le op_le pe_int (pe_callB Lay.call_lenS (by rfl) T.n_len PySem.boot_len (pa_cons (pv 3) pa_nil)) (pe_glob (v := .int 4) rfl T.k_MOST_SLOTS ⟨_, rfl⟩)))
      (pss_one (ps_raise rfl (takes_of rfl rfl rfl rfl) (pmk_oex T.ox_NoPart T.ie_NoPart T.it_NoPart G_NoPart_init (hr.mono (by decide)) T.b_NoPart_init .nil pass0 rfl T.g_NoPart (pa_cons pe_str (pa_cons pe_non pa_nil)))))
      pss_nil)
    (pss_cons (ps_expr (pe_call (E := E) G_check_addresses (hr.mono (by decide)) rfl T.g_check_addresses T.F_check_addresses.kp T.b_check_addresses .nil (passes_call (takes_of rfl rfl rfl rfl) (fun _ _ _ _ h => h)) (pa_cons (pv 2) (pa_cons (pv 3) pa_nil))))
    (pss_cons (ps_expr (pe_call (E := E) G_check_slots_apart (hr.mono (by decide)) rfl T.g_check_slots_apart T.F_check_slots_apart.kp T.b_check_slots_apart .nil (passes_call (takes_of rfl rfl rfl rfl) (fun _ _ _ _ h => h)) (pa_cons (pv 2) (pa_cons (pv 3) pa_nil))))
    (pss_cons (ps_fld (pv 0) (pv 1) rfl)
    (pss_cons (ps_fld (pv 0) (pv 2) rfl)
    (pss_one (ps_fld (pv 0) (pv 3) rfl)))))))))), ?_⟩
  walk_at "in"
  walk_at "rd"
  refine ⟨v, tv, rfl, kv, (fun z e => Nat.le_trans (hz z e) (by decide)), fun H1 s1 => ?_⟩
  by_cases hn : Lay.isName v = true
  case neg =>
    rw [Bool.eq_false_iff.mpr hn]
    walk_at "it"
    refine Lay.rd_mkO ?_
    walk_at "rd"
    exact Lay.mk_err2 fun d H' hd s e => qe _ _ (Lay.wants_name (Bool.eq_false_iff.mpr hn)) d H' (Lay.none_of s1 hd) (s1.trans s) e
  rw [hn]
  walk_at "it"
  refine ⟨wv, tw, 1, 8, rfl, kw.mono s1, ?_⟩
  by_cases hw : Lay.within wv 1 8 = true
  case neg =>
    rw [Bool.eq_false_iff.mpr hw]
    walk_at "it"
    refine Lay.rd_mkO ?_
    walk_at "rd"
    exact Lay.mk_err2 fun d H' hd s e => qe _ _ (Lay.wants_size hn (Bool.eq_false_iff.mpr hw)) d H' (Lay.none_of s1 hd) (s1.trans s) e
  rw [hw]
  obtain ⟨s0, rfl, s1', s8⟩ := Lay.within_int hw
  have ht1 := s1 _ _ ht
  walk_at "it"
  have slots : (decide (1 ≤ xs.length) && decide (xs.length ≤ 4)) = false → ∀ d H', H1 d = none → L2.Same H1 H' → H' d = some (.xd [("place", .non), ("reason", .str "slots")]) → E (.ref A.c_NoPart) (some d) H' :=
    fun hl d H' hd s e => qe _ _ (Lay.wants_slots hn hw hl) d H' (Lay.none_of s1 hd) (s1.trans s) e
  refine Lay.ite_d (fun c1 => ?_) (fun c1 => ?_)
  case refine_2 =>
    walk_at "it"
    refine Lay.rd_mkO ?_
    walk_at "rd"
    exact Lay.mk_err2 (slots (by rw [decide_eq_false (fun z : 1 ≤ xs.length => c1 (by omega))]; rfl))
  walk_at "rd"
  refine Lay.ite_n (fun c2 => ?_) (fun c2 => ?_)
  · walk_at "it"
    refine Lay.rd_mkO ?_
    walk_at "rd"
    exact Lay.mk_err2 (slots (by rw [decide_eq_false (fun z : xs.length ≤ 4 => c2 (by omega)), Bool.and_false]))
  have hl : (decide (1 ≤ xs.length) && decide (xs.length ≤ 4)) = true := by rw [decide_eq_true (show 1 ≤ xs.length by omega), decide_eq_true (show xs.length ≤ 4 by omega)]; rfl
  walk_at "it"
  refine ⟨s0, t, xs, rfl, ht1, hk.mono s1, fun k hk' d H' hd s e => qe _ _ (Lay.wants_addr hn hw hl hk') d H' (Lay.none_of s1 hd) (s1.trans s) e, fun ha H2 s2 => ?_⟩
  obtain ⟨ns, rfl, hns⟩ := Lay.ints_of (Lay.fst_none_at ha)
  walk_at "rd"
  have s12 := s1.trans s2
  refine ⟨s0, t, ns, rfl, s12 _ _ ht, (by have h4 : (ns.map V.int).length ≤ 4 := by omega
                                          rw [List.length_map] at h4; exact h4), fun k hk' d H' hd s e => qe _ _ (Lay.wants_bytes hn hw hl ha (by rw [List.length_map]; exact hk')) d H' (Lay.none_of s12 hd) (s12.trans s) e, fun hb H3 s3 => ?_⟩
  have hq := q (Lay.wants_none hn hw hl ha (by rw [List.length_map]; exact hb))
  have s13 := s12.trans s3
  walk_at "rd"
  refine Lay.rd_sFld ?_
  walk_at "rd"
  refine ⟨x, A.c_Variable, dx, [], rfl, s13 _ _ hx, T.cl_Variable, T.na_Variable_name, by decide, ?_⟩
  walk_at "rd"
  refine Lay.rd_sFld ?_
  walk_at "rd"
  refine ⟨x, A.c_Variable, dx, _, rfl, upd_same, T.cl_Variable, T.na_Variable_size, (by show 1 < 1000; decide), ?_⟩
  walk_at "rd"
  refine Lay.rd_sFld ?_
  walk_at "rd"
  refine ⟨x, A.c_Variable, dx, _, rfl, upd_same, T.cl_Variable, T.na_Variable_at, (by show 2 < 1000; decide), ?_⟩
  have htx : t ≠ x := ne_of ht hx (by intro y; cases y)
  refine hq _ ⟨dx, t, ?_, ?_⟩ (fun b o hb e => ?_)
  · rw [upd_same, Lay.putF_var]
  · rw [upd_ne htx, upd_ne htx, upd_ne htx]; exact s13 _ _ ht
  · rw [upd_ne hb, upd_ne hb, upd_ne hb]; exact s13 _ _ e
theorem ok_Variable_made (T : Txt K mg A) (G_Variable_init : FnR P w K mg base (L2.CX P w) 6 A.a_Variable_init (Lay.spStar 3 (Lay.spVarInit A.c_Variable A.c_NoPart))) : FnOk P w K mg base (L2.CX P w) 8 A.a_Variable_made A.d_Variable_made ["cls", "name", "size", "at"] (Lay.spVarMade K A.c_Variable A.c_NoPart) := by
  refine T.F_Variable_made.okX sc_Variable_made (fun vs H Q E h => ?_) (fun cdv A0 outer s H vs Q E hr h => ?_)
  · obtain ⟨v, wv, a, xs, rfl, _⟩ := h
    rfl
  · obtain ⟨v, wv, a, xs, rfl, hv, hw, hs, hx, hl, q⟩ := h
    refine ⟨_, (pss_one (ps_ret (OwnC.pe_makeV (E := E) (pv 0) T.mk_Variable G_Variable_init (hr.mono (by decide)) (passes_call (takes_of rfl rfl rfl rfl) (fun _ _ _ _ h => h)) (pa_cons (pv 1) (pa_cons (pv 2) (StX.pa_star (pv 3) pa_nil)))))), ?_⟩
    walk_at "in"
    walk_at "rd"
    refine Lay.rd_makeV ?_
    walk_at "rd"
    refine ⟨rfl, Lay.rd_makeR ?_⟩
    walk_at "rd"
    refine ⟨a, xs, rfl, hs, ?_⟩
    walk_at "rd"
    simp only [List.append_nil]
    exact Lay.mk_var (Q' := Q) (Q := fun x H => Q (.ref x) H) (fun _ _ h => h) hv hw hx hl q
theorem ok_Signal_init (T : Txt K mg A) (G_NoPart_init : FnOk P w K mg base CX0 1 A.a_NoPart_init A.d_NoPart_init ["self", "reason", "place"] (Lay.spErr2 A.c_NoPart "reason" "place")) (G_is_name : FnOk P w K mg base CX0 1 A.a_is_name A.d_is_name ["value"] Lay.spIsName) (G_is_within : FnOk P w K mg base CX0 2 A.a_is_within A.d_is_within ["value", "low", "high"] Lay.spIsWithin) : FnOk P w K mg base (L2.CX P w) 4 A.a_Signal_init A.d_Signal_init ["self", "name", "tokens"] (Lay.spSigInit A.c_Signal A.c_NoPart) := by
  refine T.F_Signal_init.ok sc_Signal_init (fun vs H Q E h => ?_) (fun cdv A0 outer s H vs Q E hr h => ?_)
  · obtain ⟨x, dx, v, w, rfl, _⟩ := h
    rfl
  · obtain ⟨x, dx, v, wv, rfl, hx, ⟨t, kv, hz⟩, ⟨u, kw, _⟩, qn, qt, q⟩ := h
    refine ⟨_, (pss_cons (ps_if (pt_not (pt_val (pe_call G_is_name (hr.mono (by decide)) rfl T.g_is_name T.F_is_name.kp T.b_is_name .nil pass0 (pa_cons (pv 1) pa_nil))))
      (pss_one (ps_raise rfl (takes_of rfl rfl rfl rfl) (pmk_oex T.ox_NoPart T.ie_NoPart T.it_NoPart G_NoPart_init (hr.mono (by decide)) T.b_NoPart_init .nil pass0 rfl T.g_NoPart (pa_cons pe_str (pa_cons pe_non pa_nil)))))
      pss_nil)
    (pss_cons (ps_if (pt_not (pt_val (pe_call G_is_within (hr.mono (by decide)) rfl T.g_is_within T.F_is_within.kp T.b_is_within .nil pass0 (pa_cons (pv 2) (pa_cons pe_int (pa_cons (pe_glob (v := .int 3) rfl T.k_MOST_TOKENS ⟨_, rfl⟩) pa_nil))))))
      (pss_one (ps_raise rfl (takes_of rfl rfl rfl rfl) (pmk_oex T.ox_NoPart T.ie_NoPart T.it_NoPart G_NoPart_init (hr.mono (by decide)) T.b_NoPart_init .nil pass0 rfl T.g_NoPart (pa_cons pe_str (pa_cons pe_non pa_nil)))))
      pss_nil)
    (pss_cons (ps_fld (pv 0) (pv 1) rfl)
    (pss_one (ps_fld (pv 0) (pv 2) rfl))))), ?_⟩
    walk_at "in"
    walk_at "rd"
    refine ⟨v, t, rfl, kv, (fun z e => Nat.le_trans (hz z e) (by decide)), fun H1 s1 => ?_⟩
    by_cases hn : Lay.isName v = true
    · rw [hn]
      walk_at "it"
      refine ⟨wv, u, 0, 3, rfl, kw.mono s1, ?_⟩
      by_cases hw : Lay.within wv 0 3 = true
      · rw [hw]
        walk_at "it"
        refine Lay.rd_sFld ?_
        walk_at "rd"
        refine ⟨x, A.c_Signal, dx, [], rfl, s1 _ _ hx, T.cl_Signal, T.na_Signal_name, by decide, ?_⟩
        walk_at "rd"
        refine Lay.rd_sFld ?_
        walk_at "rd"
        refine ⟨x, A.c_Signal, dx, _, rfl, upd_same, T.cl_Signal, T.na_Signal_tokens, (by show 1 < 1000; decide), ?_⟩
        refine q hn hw _ (by rw [upd_same, Lay.putF_sig]) (fun b o hb e => ?_)
        rw [upd_ne hb, upd_ne hb]; exact s1 _ _ e
      · rw [Bool.eq_false_iff.mpr hw]
        walk_at "it"
        refine Lay.rd_mkO ?_
        walk_at "rd"
        refine Lay.mk_err2 fun d H' hd s' e => qt hn (Bool.eq_false_iff.mpr hw) d H' (Lay.none_of s1 hd) (s1.trans s') e
    · rw [Bool.eq_false_iff.mpr hn]
      walk_at "it"
      refine Lay.rd_mkO ?_
      walk_at "rd"
      refine Lay.mk_err2 fun d H' hd s' e => qn (Bool.eq_false_iff.mpr hn) d H' (Lay.none_of s1 hd) (s1.trans s') e
theorem ok_NoNet_init (T : Txt K mg A) : FnOk P w K mg base CX0 1 A.a_NoNet_init A.d_NoNet_init ["self", "reason", "place"] (Lay.spErr2 A.c_NoNet "reason" "place") := by
  refine T.F_NoNet_init.ok sc_NoNet_init (fun vs H Q E h => ?_) (fun cdv A0 outer s H vs Q E hr h => ?_)
  · obtain ⟨a, v1, v2, rfl, _⟩ := h
    rfl
  · obtain ⟨a, v1, v2, rfl, ha, q⟩ := h
    refine ⟨_, (pss_cons (ps_ost (pv 0) (pv 1))
    (pss_one (ps_ost (pv 0) (pv 2)))), ?_⟩
    walk_at "in"
    walk_at "rd"
    refine Lay.rd_ost ?_
    walk_at "rd"
    refine ⟨a, A.c_NoNet, rfl, T.ox_NoNet, T.nf_NoNet_reason, .inl ⟨ha, fun d hd hne => ?_⟩⟩
    walk_at "rd"
    refine Lay.rd_ost ?_
    walk_at "rd"
    refine ⟨a, A.c_NoNet, rfl, T.ox_NoNet, T.nf_NoNet_place, .inr ⟨d, _, upd_same, (by rw [upd_ne hne]; exact upd_same), (by show 1 ≤ 900; decide), ?_⟩⟩
    refine q d _ hd hne (by rw [upd_ne hne.symm]; exact upd_same) upd_same (fun b o hb e => ?_)
    have hbd : b ≠ d := fun z => by subst z; rw [hd] at e; cases e
    rw [upd_ne hbd, upd_ne hb, upd_ne hbd]
    exact e
theorem ok_check_many (T : Txt K mg A) (G_NoNet_init : FnOk P w K mg base CX0 1 A.a_NoNet_init A.d_NoNet_init ["self", "reason", "place"] (Lay.spErr2 A.c_NoNet "reason" "place")) : FnOk P w K mg base (L2.CX P w) 3 A.a_check_many A.d_check_many ["parts"] (Net7.spW (cs A) A.c_NoNet Net7.wMany (fun _ => True) "many") := by
  refine T.F_check_many.okX sc_check_many (fun vs H Q E h => ?_) (fun cdv A0 outer s H vs Q E hr h => ?_)
  · obtain ⟨t, ps, its, rfl, _⟩ := h
    rfl
  · obtain ⟨t, ps, its, rfl, ht, hp, hd0, _, qe, q⟩ := h
    have C := nc T
    have hlen := hp.length
    have hl30 := hd0.len
    refine ⟨_, (pss_cons (ps_set (i := 1) sc_check_many.nd rfl (Or.inl rfl) pe_int)
    (pss_cons (ps_set (i := 2) sc_check_many.nd rfl (Or.inl rfl) pe_int)
    (pss_cons (ps_set (i := 3) sc_check_many.nd rfl (Or.inl rfl) pe_int)
    (pss_one (ps_for (passes_of rfl) rfl (Lay.pi_enumT (by rfl) T.n_enumerate (pa_cons (pv 0) pa_nil)) (pg_tup (by rfl) (pgs_cons (pg_name (i := 4) sc_check_many.nd rfl (Or.inl rfl)) (pgs_cons (pg_name (i := 5) sc_check_many.nd rfl (Or.inl rfl)) pgs_nil)))
      (pss_cons (ps_if (pt_val (pe_callB call_isi (by rfl) T.n_isinstance (by decide +kernel) (pa_cons (pv 5) (pa_cons (pe_glob (v := .ref A.c_Agent) rfl T.g_Agent rfl) pa_nil))))
        (pss_one (ps_aug (i := 1) sc_check_many.nd rfl (Or.inl rfl) pe_int ip_add))
        (pss_one (ps_if (pt_val (pe_callB call_isi (by rfl) T.n_isinstance (by decide +kernel) (pa_cons (pv 5) (pa_cons (pe_glob (v := .ref A.c_Variable) rfl T.g_Variable rfl) pa_nil))))
          (pss_one (ps_aug (i := 2) sc_check_many.nd rfl (Or.inl rfl) pe_int ip_add))
          (pss_one (ps_aug (i := 3) sc_check_many.nd rfl (Or.inl rfl) pe_int ip_add)))))
      (pss_one (ps_if (PW.pt (pw_or (pt_cmpR op_gt (pv 1) (pe_glob (v := .int 4) rfl T.k_MOST_AGENTS ⟨_, rfl⟩) (nomark _)) (pw_or (pt_cmpR op_gt (pv 2) (pe_glob (v := .int 6) rfl T.k_MOST_VARIABLES ⟨_, rfl⟩) (nomark _)) (pw_or1 (pt_cmpR op_gt (pv 3) (pe_glob (v := .int 6) rfl T.k_MOST_SIGNALS ⟨_, rfl⟩) (nomark _))))))
        (pss_one (ps_raise rfl (takes_of rfl rfl rfl rfl) (pmk_oex T.ox_NoNet T.ie_NoNet T.it_NoNet G_NoNet_init (hr.mono (by decide)) T.b_NoNet_init .nil pass0 rfl T.g_NoNet (pa_cons pe_str (pa_cons (pv 4) pa_nil)))))
        pss_nil)))))))), ?_⟩
    walk_at "in"
    walk_at "rd"
    refine Lay.rd_forW (J := Lay.Itet K t) (H1 := H) (fun R r => ?_) (Lay.walk_enumT (xs := ps)) (fun i σ' H' => (∃ a b, σ' = [some (V.ref t), some (V.int ((its.take i).filter NetL.It.isA).length), some (V.int ((its.take i).filter NetL.It.isV).length), some (V.int ((its.take i).filter NetL.It.isS).length), a, b]) ∧ L2.Same H H' ∧ ∀ k < i, Net7.hMany its k = false) ⟨⟨_, _, rfl⟩, L2.Same.refl _, fun k hk => absurd hk (Nat.not_lt_zero k)⟩ (fun i σ' H' _ z => SqT.of (z.2.1 _ _ ht)) ?_ ?_
    · walk_at "rd"
      exact ⟨t, _, rfl, SqT.of ht, r⟩
    · rintro i x σ' H2 H3 hi ⟨⟨a, b, rfl⟩, s2, noh⟩ ⟨T0, x1, y1, rfl, hT, rfl, ex, ey⟩
      cases ex
      obtain ⟨it, ei, pa⟩ := NetL.pget hp ey
      obtain ⟨x0, dx, fs, rfl, hx, hn⟩ := pa.ins
      have s3 : L2.Same H (upd H2 T0 (.tup [.int (i : Nat), V.ref x0])) := s2.trans (Lay.Same.upd hT)
      have hx3 := s3 _ _ hx
      have b1 := NetL.cnt_le (p := NetL.It.isA) its (i + 1)
      have b2 := NetL.cnt_le (p := NetL.It.isV) its (i + 1)
      have b3 := NetL.cnt_le (p := NetL.It.isS) its (i + 1)
      have e1 := NetL.cnt_succ (p := NetL.It.isA) ei
      have e2 := NetL.cnt_succ (p := NetL.It.isV) ei
      have e3 := NetL.cnt_succ (p := NetL.It.isS) ei
      walk_at "rd"
      refine Lay.rd_isiC (C.ty _ _ dx fs it hx3) (C.ka it) ?_
      cases it with
      | ag z k ls =>
        simp only [NetL.It.isA, NetL.It.isV, NetL.It.isS, if_true, Bool.false_eq_true, if_false] at e1 e2 e3 ⊢
        walk_at "it"
        refine NetL.rd_aug ⟨_, rfl, ?_⟩
        walk_at "rd"
        refine ⟨_, _, rfl, rfl, ?_⟩
        walk_at "rd"
        refine Lay.ite_d (fun c => ?_) (fun c4 => ?_)
        · walk_at "it"
          refine Lay.rd_mkO ?_
          walk_at "rd"
          exact Lay.mk_err2 (fun d H' hd s' e => qe i (Net7.find_hit noh (by unfold Net7.hMany; rw [decide_eq_true (show 4 < ((its.take (i + 1)).filter NetL.It.isA).length by omega), Bool.true_or]) (by omega)) d H' (Lay.none_of s3 hd) (s3.trans s') e)
        walk_at "it"
        refine Lay.ite_d (fun c => ?_) (fun c6 => ?_)
        · walk_at "it"
          refine Lay.rd_mkO ?_
          walk_at "rd"
          exact Lay.mk_err2 (fun d H' hd s' e => qe i (Net7.find_hit noh (by unfold Net7.hMany; rw [decide_eq_true (show 6 < ((its.take (i + 1)).filter NetL.It.isV).length by omega), Bool.true_or, Bool.or_true]) (by omega)) d H' (Lay.none_of s3 hd) (s3.trans s') e)
        walk_at "it"
        refine Lay.ite_d (fun c => ?_) (fun c7 => ?_)
        · walk_at "it"
          refine Lay.rd_mkO ?_
          walk_at "rd"
          exact Lay.mk_err2 (fun d H' hd s' e => qe i (Net7.find_hit noh (by unfold Net7.hMany; rw [decide_eq_true (show 6 < ((its.take (i + 1)).filter NetL.It.isS).length by omega), Bool.or_true, Bool.or_true]) (by omega)) d H' (Lay.none_of s3 hd) (s3.trans s') e)
        walk_at "it"
        refine ⟨⟨some (V.int (i : Nat)), some (V.ref x0), ?_⟩, s3, fun k hk => ?_⟩
        · rw [e1, e2, e3]
          rfl
        · by_cases z : k < i
          · exact noh k z
          · obtain rfl : k = i := by omega
            unfold Net7.hMany
            rw [decide_eq_false (by omega), decide_eq_false (by omega), decide_eq_false (by omega)]
            rfl
      | vr z s0 ats =>
        simp only [NetL.It.isA, NetL.It.isV, NetL.It.isS, if_true, Bool.false_eq_true, if_false] at e1 e2 e3 ⊢
        walk_at "it"
        refine Lay.rd_isiC (C.ty _ _ dx fs (.vr z s0 ats) hx3) (C.kv (.vr z s0 ats)) ?_
        simp only [NetL.It.isV]
        walk_at "it"
        refine NetL.rd_aug ⟨_, rfl, ?_⟩
        walk_at "rd"
        refine ⟨_, _, rfl, rfl, ?_⟩
        walk_at "rd"
        refine Lay.ite_d (fun c => ?_) (fun c4 => ?_)
        · walk_at "it"
          refine Lay.rd_mkO ?_
          walk_at "rd"
          exact Lay.mk_err2 (fun d H' hd s' e => qe i (Net7.find_hit noh (by unfold Net7.hMany; rw [decide_eq_true (show 4 < ((its.take (i + 1)).filter NetL.It.isA).length by omega), Bool.true_or]) (by omega)) d H' (Lay.none_of s3 hd) (s3.trans s') e)
        walk_at "it"
        refine Lay.ite_d (fun c => ?_) (fun c6 => ?_)
        · walk_at "it"
          refine Lay.rd_mkO ?_
          walk_at "rd"
          exact Lay.mk_err2 (fun d H' hd s' e => qe i (Net7.find_hit noh (by unfold Net7.hMany; rw [decide_eq_true (show 6 < ((its.take (i + 1)).filter NetL.It.isV).length by omega), Bool.true_or, Bool.or_true]) (by omega)) d H' (Lay.none_of s3 hd) (s3.trans s') e)
        walk_at "it"
        refine Lay.ite_d (fun c => ?_) (fun c7 => ?_)
        · walk_at "it"
          refine Lay.rd_mkO ?_
          walk_at "rd"
          exact Lay.mk_err2 (fun d H' hd s' e => qe i (Net7.find_hit noh (by unfold Net7.hMany; rw [decide_eq_true (show 6 < ((its.take (i + 1)).filter NetL.It.isS).length by omega), Bool.or_true, Bool.or_true]) (by omega)) d H' (Lay.none_of s3 hd) (s3.trans s') e)
        walk_at "it"
        refine ⟨⟨some (V.int (i : Nat)), some (V.ref x0), ?_⟩, s3, fun k hk => ?_⟩
        · rw [e1, e2, e3]
          rfl
        · by_cases z : k < i
          · exact noh k z
          · obtain rfl : k = i := by omega
            unfold Net7.hMany
            rw [decide_eq_false (by omega), decide_eq_false (by omega), decide_eq_false (by omega)]
            rfl
      | sg z t0 =>
        simp only [NetL.It.isA, NetL.It.isV, NetL.It.isS, if_true, Bool.false_eq_true, if_false] at e1 e2 e3 ⊢
        walk_at "it"
        refine Lay.rd_isiC (C.ty _ _ dx fs (.sg z t0) hx3) (C.kv (.sg z t0)) ?_
        simp only [NetL.It.isV]
        walk_at "it"
        refine NetL.rd_aug ⟨_, rfl, ?_⟩
        walk_at "rd"
        refine ⟨_, _, rfl, rfl, ?_⟩
        walk_at "rd"
        refine Lay.ite_d (fun c => ?_) (fun c4 => ?_)
        · walk_at "it"
          refine Lay.rd_mkO ?_
          walk_at "rd"
          exact Lay.mk_err2 (fun d H' hd s' e => qe i (Net7.find_hit noh (by unfold Net7.hMany; rw [decide_eq_true (show 4 < ((its.take (i + 1)).filter NetL.It.isA).length by omega), Bool.true_or]) (by omega)) d H' (Lay.none_of s3 hd) (s3.trans s') e)
        walk_at "it"
        refine Lay.ite_d (fun c => ?_) (fun c6 => ?_)
        · walk_at "it"
          refine Lay.rd_mkO ?_
          walk_at "rd"
          exact Lay.mk_err2 (fun d H' hd s' e => qe i (Net7.find_hit noh (by unfold Net7.hMany; rw [decide_eq_true (show 6 < ((its.take (i + 1)).filter NetL.It.isV).length by omega), Bool.true_or, Bool.or_true]) (by omega)) d H' (Lay.none_of s3 hd) (s3.trans s') e)
        walk_at "it"
        refine Lay.ite_d (fun c => ?_) (fun c7 => ?_)
        · walk_at "it"
          refine Lay.rd_mkO ?_
          walk_at "rd"
          exact Lay.mk_err2 (fun d H' hd s' e => qe i (Net7.find_hit noh (by unfold Net7.hMany; rw [decide_eq_true (show 6 < ((its.take (i + 1)).filter NetL.It.isS).length by omega), Bool.or_true, Bool.or_true]) (by omega)) d H' (Lay.none_of s3 hd) (s3.trans s') e)
        walk_at "it"
        refine ⟨⟨some (V.int (i : Nat)), some (V.ref x0), ?_⟩, s3, fun k hk => ?_⟩
        · rw [e1, e2, e3]
          rfl
        · by_cases z : k < i
          · exact noh k z
          · obtain rfl : k = i := by omega
            unfold Net7.hMany
            rw [decide_eq_false (by omega), decide_eq_false (by omega), decide_eq_false (by omega)]
            rfl
    · rintro σ' H2 ⟨⟨a, b, rfl⟩, s2, noh⟩
      exact q (Net7.find_no (by rw [← hlen]; exact noh)) H2 s2
theorem ok_check_names (T : Txt K mg A) (G_NoNet_init : FnOk P w K mg base CX0 1 A.a_NoNet_init A.d_NoNet_init ["self", "reason", "place"] (Lay.spErr2 A.c_NoNet "reason" "place")) : FnOk P w K mg base (L2.CX P w) 3 A.a_check_names A.d_check_names ["parts"] (Net7.spW (cs A) A.c_NoNet Net7.wName (fun _ => True) "name") := by
  refine T.F_check_names.okX sc_check_names (fun vs H Q E h => ?_) (fun cdv A0 outer s H vs Q E hr h => ?_)
  · obtain ⟨t, ps, its, rfl, _⟩ := h
    rfl
  · obtain ⟨t, ps, its, rfl, ht, hp, hd0, _, qe, q⟩ := h
    have C := nc T
    have hlen := hp.length
    have hl30 := hd0.len
    refine ⟨_, (pss_cons (ps_setLc (i := 1) (own := [("part", 2)]) (g := gName 2) (tt := tYes) rfl sc_check_names.nd rfl rfl (sw_true rfl rfl rfl (by decide +kernel)) (pi_tup (pv 0)) (blkOk_by (own := [("part", 2)]) (N := ["parts", "names", "part", "k", "name"]) (sc := defScope s_check_names) (by decide +kernel)) (fun _ _ _ _ _ => pg_name (i := 2) sc_check_names.nd rfl (Or.inl rfl)) (fun _ _ _ _ _ => pts_nil) (fun _ _ _ _ _ => by exact (show PE _ _ (tFld K (tVar 2) "name") from pe_fld (pv 2) rfl)))
    (pss_one (ps_for (passes_of rfl) rfl (pi_enum (by rfl) T.n_enumerate (pa_cons (pv 1) pa_nil)) (pg_tup (by rfl) (pgs_cons (pg_name (i := 3) sc_check_names.nd rfl (Or.inl rfl)) (pgs_cons (pg_name (i := 4) sc_check_names.nd rfl (Or.inl rfl)) pgs_nil)))
      (pss_one (ps_if (pt_cmpR (Lay.op_inS hr.units) (pv 4) (pe_slice sl_list (pv 1) po_none (po_some (pv 3))) rfl)
        (pss_one (ps_raise rfl (takes_of rfl rfl rfl rfl) (pmk_oex T.ox_NoNet T.ie_NoNet T.it_NoNet G_NoNet_init (hr.mono (by decide)) T.b_NoNet_init .nil pass0 rfl T.g_NoNet (pa_cons pe_str (pa_cons (pv 3) pa_nil)))))
        pss_nil))))), ?_⟩
    walk_at "in"
    walk_at "rd"
    refine ⟨⟨_, SqT.of ht⟩, ?_⟩
    intro D hD
    refine Lay.lc_go (walk_tup (xs := ps)) (fun i l H' => L2.Same H H' ∧ l = ((its.take i).map NetL.It.nm).map V.str) ⟨Lay.Same.upd hD, rfl⟩ (fun i l H' _ r => SqT.of (r.1 _ _ ht)) ?_ ?_
    · rintro i l x H2 H3 hi hl' hz' ⟨r1, r2⟩ ⟨rfl, ey⟩
      obtain ⟨it, ei, pa⟩ := NetL.pget hp ey
      obtain ⟨x0, dx, fs, rfl, hx, hn⟩ := pa.ins
      walk_at "rd"
      refine ⟨rfl, ?_⟩
      walk_at "it"
      refine Lay.rd_tFld ?_
      walk_at "rd"
      refine ⟨x0, _, dx, fs, .str it.nm, rfl, (r1 _ _ hx), C.cl it, C.nn it, hn, ?_⟩
      walk_at "rd"
      refine Lay.lc_put hl' hz' (by omega) ⟨fun b o hb => ?_, ?_⟩
      · rw [upd_ne (fun y => by subst y; rw [hD] at hb; cases hb)]
        exact r1 b o hb
      · rw [r2, Lay.take_succ ei, List.map_append, List.map_append]
        rfl
    · rintro l H4 hl' hz' ⟨r1, rfl⟩
      rw [List.take_of_length_le (by omega)] at hl'
      walk_at "rd"
      refine Lay.rd_forW (J := Ite K D) (H1 := H4) (fun R r => ?_) (walk_enum (xs := (its.map NetL.It.nm).map V.str)) (fun i σ' H' => (∃ a b, σ' = [some (V.ref t), some (V.ref D), none, a, b]) ∧ L2.Same H4 H' ∧ ∀ k < i, Net7.hName its k = false) ⟨⟨_, _, rfl⟩, L2.Same.refl _, fun k hk => absurd hk (Nat.not_lt_zero k)⟩ (fun i σ' H' _ z => SqL.of (z.2.1 _ _ hl')) ?_ ?_
      · refine NetL.rd_iEnum ?_
        walk_at "rd"
        exact ⟨D, _, rfl, SqL.of hl', r⟩
      · rintro i x σ' H5 H6 hi ⟨⟨a, b, rfl⟩, s5, noh⟩ ⟨T0, x1, y1, rfl, hT, rfl, ex, ey⟩
        cases ex
        have hi' : i < its.length := by simpa using hi
        have ei : its[i]? = some its[i] := List.getElem?_eq_getElem hi'
        generalize its[i] = it at ei
        obtain rfl : y1 = V.str it.nm := by
          have e : ((its.map NetL.It.nm).map V.str)[i]? = some y1 := ey
          rw [List.getElem?_map, List.getElem?_map, ei] at e
          exact (Option.some.inj e).symm
        have s6 : L2.Same H4 (upd H5 T0 (.tup [.int (i : Nat), .str it.nm])) := s5.trans (Lay.Same.upd hT)
        walk_at "rd"
        refine Lay.rd_slL (SqL.of (s6 _ _ hl')) (fun r hr1 => ?_)
        rw [Lay.cut_take (by rw [List.length_map, List.length_map]; omega), ← List.map_take]
        have s7 := s6.trans (Lay.Same.upd (o := .lst (((its.map NetL.It.nm).take i).map V.str)) hr1)
        have S7 := r1.trans s7
        walk_at "rd"
        refine Lay.rd_inSL (SqL.of upd_same) (.str it.nm) ?_
        have val : Lay.inStrs (.str it.nm) ((its.map NetL.It.nm).take i) = Net7.hName its i := by
          unfold Net7.hName
          rw [ei]
          show ((its.map NetL.It.nm).take i).contains it.nm = decide (it.nm ∈ (its.take i).map NetL.It.nm)
          rw [← List.map_take, List.contains_eq_mem]
        rw [val]
        cases hh : Net7.hName its i with
        | true =>
          walk_at "it"
          refine Lay.rd_mkO ?_
          walk_at "rd"
          exact Lay.mk_err2 (fun d H' hd s' e => qe i (Net7.find_hit noh hh (by omega)) d H' (Lay.none_of S7 hd) (S7.trans s') e)
        | false =>
          walk_at "it"
          refine ⟨⟨_, _, rfl⟩, s7, fun k hk => ?_⟩
          by_cases z : k < i
          · exact noh k z
          · obtain rfl : k = i := by omega
            exact hh
      · rintro σ' H5 ⟨⟨a, b, rfl⟩, s5, noh⟩
        refine q (Net7.find_no ?_) H5 (r1.trans s5)
        intro k hk
        exact noh k (by simpa using hk)
theorem ok_check_bytes (T : Txt K mg A) (G_NoNet_init : FnOk P w K mg base CX0 1 A.a_NoNet_init A.d_NoNet_init ["self", "reason", "place"] (Lay.spErr2 A.c_NoNet "reason" "place")) : FnOk P w K mg base (L2.CX P w) 3 A.a_check_bytes A.d_check_bytes ["parts"] (Net7.spW (cs A) A.c_NoNet Net7.wBytes (fun _ => True) "bytes") := by
  refine T.F_check_bytes.okX sc_check_bytes (fun vs H Q E h => ?_) (fun cdv A0 outer s H vs Q E hr h => ?_)
  · obtain ⟨t, ps, its, rfl, _⟩ := h
    rfl
  · obtain ⟨t, ps, its, rfl, ht, hp, hd0, _, qe, q⟩ := h
    have hl := hd0.len
    have C := nc T
    have hlen := hp.length
    have hby := NetL.bytes_le (its := its) (fun z s ats m => ⟨(hd0.vr m).2.1, (hd0.vr m).2.2.2.1⟩)
    refine ⟨_, (pss_cons (ps_set (i := 1) sc_check_bytes.nd rfl (Or.inr rfl) pe_dnewK)
    (pss_one (ps_for (passes_of rfl) rfl (Lay.pi_enumT (by rfl) T.n_enumerate (pa_cons (pv 0) pa_nil)) (pg_tup (by rfl) (pgs_cons (pg_name (i := 2) sc_check_bytes.nd rfl (Or.inl rfl)) (pgs_cons (pg_name (i := 3) sc_check_bytes.nd rfl (Or.inr rfl)) pgs_nil)))
      (pss_one (ps_if (pt_val (pe_callB call_isi (by rfl) T.n_isinstance (by decide +kernel) (pa_cons (pv 3) (pa_cons (pe_glob (v := .ref A.c_Variable) rfl T.g_Variable rfl) pa_nil))))
        (pss_cons (ps_setLc2 (i := 4) (own := [("address", 5), ("more", 6)]) (vs1 := [6]) (g := gName 5) (g1 := gName 6) (tt := tYes) (tt1 := tYes) rfl sc_check_bytes.nd rfl rfl (sw_true rfl rfl rfl (by decide +kernel)) (pi_tup (pe_fld (pv 3) rfl)) (blkOk_by (own := [("address", 5), ("more", 6)]) (N := ["parts", "taken", "k", "part", "own", "address", "more"]) (sc := defScope s_check_bytes) (by decide +kernel)) (by decide) (fun _ _ _ _ _ => pg_name (i := 5) sc_check_bytes.nd rfl (Or.inl rfl)) (fun _ _ _ _ _ => pts_nil) (fun _ _ _ _ _ => (pi_range1 rfl T.n_range (pa_cons (show PE _ _ (tFld K (tVar 3) "size") from pe_fld (pv 3) rfl) pa_nil))) (fun _ _ _ _ _ => pg_name (i := 6) sc_check_bytes.nd rfl (Or.inl rfl)) (fun _ _ _ _ _ => pts_nil) (fun _ _ _ _ _ => (pe_op op_add (pv 5) (pv 6))))
        (pss_cons (ps_if (pt_val (pe_callB (cr_any rfl) (by rfl) T.n_any (by decide +kernel) (pa_cons (pe_lc (own := [("address", 5)]) (g := gName 5) (tt := tYes) rfl sc_check_bytes.nd (pi_list (pv 4)) (blkOk_by (own := [("address", 5)]) (N := ["parts", "taken", "k", "part", "own", "address", "more"]) (sc := defScope s_check_bytes) (by decide +kernel)) (fun _ _ _ _ _ => pg_name (i := 5) sc_check_bytes.nd rfl (Or.inl rfl)) (fun _ _ _ _ _ => pts_nil) (fun _ _ _ _ _ => by exact (pe_cmp (pc_din (Nat.lt_of_le_of_lt (Nat.add_le_add_left (show 1 ≤ 64 by decide) _) hr.units) (pv 5) (pv 1)) (by rfl)))) pa_nil)))
          (pss_one (ps_raise rfl (takes_of rfl rfl rfl rfl) (pmk_oex T.ox_NoNet T.ie_NoNet T.it_NoNet G_NoNet_init (hr.mono (by decide)) T.b_NoNet_init .nil pass0 rfl T.g_NoNet (pa_cons pe_str (pa_cons (pv 2) pa_nil)))))
          pss_nil)
        (pss_one (ps_for (passes_of rfl) rfl (pi_list (pv 4)) (pg_name (i := 5) sc_check_bytes.nd rfl (Or.inl rfl))
          (pss_one (ps_dput (Nat.lt_of_le_of_lt (Nat.add_le_add_left (show 1 ≤ 64 by decide) _) hr.units) (pv 1) (pv 5) pe_bl rfl))))))
        pss_nil))))), ?_⟩
    walk_at "in"
    walk_at "rd"
    refine Lay.rd_dnew (fun D hD => ?_)
    walk_at "rd"
    have keepD : ∀ {H1 : Hp} {o : HO}, L2.Same H H1 → L2.Same H (upd H1 D o) := fun s b o hb => by
      rw [upd_ne (fun y => by subst y; rw [hD] at hb; cases hb)]
      exact s b o hb
    refine Lay.rd_forW (J := Lay.Itet K t) (H1 := upd H D (.dK [])) (fun R r => ?_) (Lay.walk_enumT (xs := ps)) (fun i σ' H' => (∃ a b c d e, σ' = [some (V.ref t), some (V.ref D), a, b, c, d, e]) ∧ L2.Same H H' ∧ H' D = some (.dK (NetL.marks ((its.take i).flatMap NetL.It.bytes))) ∧ ∀ k < i, Net7.hBytes its k = false) ⟨⟨_, _, _, _, _, rfl⟩, keepD (L2.Same.refl _), upd_same, fun k hk => absurd hk (Nat.not_lt_zero k)⟩ (fun i σ' H' _ z => SqT.of (z.2.1 _ _ ht)) ?_ ?_
    · walk_at "rd"
      exact ⟨t, _, rfl, SqT.of (keepD (L2.Same.refl _) _ _ ht), r⟩
    · rintro i x σ' H2 H3 hi ⟨⟨a, b, c, d, e, rfl⟩, s2, hm, noh⟩ ⟨T0, x1, y1, rfl, hT, rfl, ex, ey⟩
      cases ex
      obtain ⟨it, ei, pa⟩ := NetL.pget hp ey
      obtain ⟨x0, dx, fs, rfl, hx, hn⟩ := pa.ins
      have hTD : T0 ≠ D := Lay.ne_none hT hm
      have s3 : L2.Same H (upd H2 T0 (.tup [.int (i : Nat), V.ref x0])) := s2.trans (Lay.Same.upd hT)
      have hm3 : (upd H2 T0 (.tup [.int (i : Nat), V.ref x0])) D = some (.dK (NetL.marks ((its.take i).flatMap NetL.It.bytes))) := Lay.upd_old hT hm
      have hx3 := s3 _ _ hx
      walk_at "rd"
      refine Lay.rd_isiC (C.ty _ _ dx fs it hx3) (C.kv it) ?_
      have rest : it.isV = false → (its.take (i + 1)).flatMap NetL.It.bytes = (its.take i).flatMap NetL.It.bytes := by
        intro hv
        rw [NetL.take_flat ei]
        cases it with
        | vr z s0 ats => cases hv
        | _ => show _ ++ [] = _; rw [List.append_nil]
      have noh2 : Net7.hBytes its i = false → ∀ k < i + 1, Net7.hBytes its k = false := fun hh k hk => by
        by_cases z : k < i
        · exact noh k z
        · obtain rfl : k = i := by omega
          exact hh
      cases it with
      | ag z k ls =>
        refine ⟨false, rfl, ?_⟩
        refine iteF ?_
        walk_at "rd"
        exact ⟨⟨_, _, _, _, _, rfl⟩, s3, by rw [rest rfl]; exact hm3, noh2 (by unfold Net7.hBytes; rw [ei])⟩
      | sg z t0 =>
        refine ⟨false, rfl, ?_⟩
        refine iteF ?_
        walk_at "rd"
        exact ⟨⟨_, _, _, _, _, rfl⟩, s3, by rw [rest rfl]; exact hm3, noh2 (by unfold Net7.hBytes; rw [ei])⟩
      | vr z s0 ats =>
        refine ⟨true, rfl, ?_⟩
        refine iteT ?_
        walk_at "rd"
        obtain ⟨v1, v8, w1, w4, bnd⟩ := hd0.vr (List.mem_of_getElem? ei)
        have hval : Net7.hBytes its i = (NetL.It.vr z s0 ats).bytes.any (fun b => decide (b ∈ (its.take i).flatMap NetL.It.bytes)) := by unfold Net7.hBytes; rw [ei]
        obtain ⟨xx, e0, dv, ta, f1, f2⟩ := pa
        cases e0
        generalize upd H2 T0 (.tup [.int (i : Nat), V.ref x0]) = HH at s3 hm3 hx3
        have f1' := s3 _ _ f1
        have f2' := s3 _ _ f2
        have small : s0.toNat ≤ 8 := by omega
        have prod : ∀ j : Nat, j ≤ ats.length → j * s0.toNat ≤ 32 := fun j hj => Nat.le_trans (Nat.mul_le_mul (Nat.le_trans hj w4) small) (by decide)
        unfold tLc2
        dsimp only
        refine Lay.rd_iTup ?_
        refine Lay.rd_tFld ?_
        walk_at "rd"
        refine ⟨x0, _, dv, _, .ref ta, rfl, f1', T.cl_Variable, T.na_Variable_at, by rfl, ?_⟩
        walk_at "rd"
        refine ⟨⟨_, SqT.of f2'⟩, ?_⟩
        intro L hL
        refine NetL.turns (walk_tup (xs := ats.map V.int)) (fun j H' => H' L = some (.lst (((ats.take j).flatMap (NetL.row s0.toNat)).map V.int)) ∧ L2.Same HH H') ⟨upd_same, Lay.Same.upd hL⟩ (fun j H' _ z => SqT.of (z.2 _ _ f2')) ?_ ?_
        · rintro j y H4 H5 hj ⟨r1, r2⟩ ⟨rfl, ej⟩
          have hj' : j < ats.length := by simpa using hj
          obtain ⟨n0, en, rfl⟩ : ∃ n0, ats[j]? = some n0 ∧ y = V.int n0 := by
            rw [List.getElem?_map, List.getElem?_eq_getElem hj'] at ej
            exact ⟨_, List.getElem?_eq_getElem hj', (Option.some.inj ej).symm⟩
          walk_at "rd"
          refine ⟨rfl, ?_⟩
          walk_at "it"
          refine Lay.rd_tFld ?_
          walk_at "rd"
          refine ⟨x0, _, dv, _, .int s0, rfl, r2 _ _ f1', T.cl_Variable, T.na_Variable_size, by rfl, ?_⟩
          walk_at "rd"
          refine ⟨s0, rfl, by omega, by omega, ?_⟩
          refine NetL.turns (walk_range (lo := 0) (n := s0.toNat)) (fun m H' => H' L = some (.lst (((ats.take j).flatMap (NetL.row s0.toNat) ++ NetL.row m n0).map V.int)) ∧ L2.Same HH H') ⟨by rw [r1]; simp [NetL.row], r2⟩ (fun _ _ _ _ => trivial) ?_ ?_
          · rintro m y H6 H7 hmm ⟨q1, q2⟩ hy
            obtain ⟨rfl, rfl⟩ := hy
            walk_at "rd"
            refine ⟨rfl, ?_⟩
            walk_at "it"
            have b1 := prod j (by omega)
            refine ⟨_, q1, ?_, ?_, ?_⟩
            · rw [List.length_map, List.length_append, NetL.rows_len, NetL.row_len, List.length_take]
              have b2 := prod (min j ats.length) (by omega)
              refine Nat.lt_of_le_of_lt (show _ ≤ 40 by omega) (by decide)
            · rw [upd_same, NetL.row_succ]
              simp only [List.map_append, List.append_assoc, List.map_cons, List.map_nil, Int.zero_add]
            · exact fun b o hb => by
                rw [upd_ne (fun y => by subst y; rw [hL] at hb; cases hb)]
                exact q2 b o hb
          · rintro H6 ⟨q1, q2⟩
            exact ⟨by rw [q1, NetL.rows_succ en], q2⟩
        · rintro H4 ⟨r1, r2⟩
          rw [List.take_of_length_le (by simp), ← NetL.bytes_vr z s0 ats] at r1
          have e32 : (NetL.It.vr z s0 ats).bytes.length ≤ 32 := by rw [NetL.bytes_vr, NetL.rows_len]; exact prod _ (Nat.le_refl _)
          have total : ((its.take i).flatMap NetL.It.bytes ++ (NetL.It.vr z s0 ats).bytes).length ≤ 960 := by
            rw [← NetL.take_flat ei]
            refine Nat.le_trans (List.Sublist.length_le ?_) (show (its.flatMap NetL.It.bytes).length ≤ 960 by omega)
            conv => rhs; rw [← List.take_append_drop (i + 1) its, List.flatMap_append]
            exact List.sublist_append_left _ _
          have atb : ∀ (j : Nat) (y : V), ((NetL.It.vr z s0 ats).bytes.map V.int)[j]? = some y → ∃ a : Int, (NetL.It.vr z s0 ats).bytes[j]? = some a ∧ y = V.int a := by
            intro j y h
            rw [List.getElem?_map] at h
            cases e : (NetL.It.vr z s0 ats).bytes[j]? with
            | none => rw [e] at h; cases h
            | some a => rw [e] at h; cases h; exact ⟨a, rfl, rfl⟩
          have S4 := s3.trans r2
          have hm4 := r2 _ _ hm3
          have hLD : L ≠ D := fun e => by subst e; rw [hm3] at hL; cases hL
          have fin := NetL.take_flat ei
          generalize (NetL.It.vr z s0 ats).bytes = bs at r1 e32 total atb fin bnd hval
          generalize (its.take i).flatMap NetL.It.bytes = pre at hm4 total fin hval
          walk_at "rd"
          refine ⟨⟨_, SqL.of r1⟩, ?_⟩
          intro M hM
          refine Lay.lc_go (walk_list (xs := bs.map V.int)) (fun j l H' => L2.Same H4 H' ∧ l = ((bs.take j).map (fun b => decide (b ∈ pre))).map V.bl) ⟨Lay.Same.upd hM, rfl⟩ (fun j l H' _ r => SqL.of (r.1 _ _ r1)) ?_ ?_
          · rintro j l y H5 H6 hj hl5 hz5 ⟨g1, g2⟩ ⟨rfl, ej⟩
            obtain ⟨a1, ea, rfl⟩ := atb j y ej
            walk_at "rd"
            refine ⟨rfl, ?_⟩
            walk_at "it"
            refine NetL.rd_dIn ?_
            walk_at "rd"
            refine ⟨D, _, rfl, DGet.k (k := .inl a1) (g1 _ _ hm4), ?_⟩
            rw [Net7.marks_is]
            refine Lay.lc_put hl5 hz5 (by have : j < bs.length := by simpa using hj
                                          omega) ⟨fun b o hb => ?_, ?_⟩
            · rw [upd_ne (fun y => by subst y; rw [hM] at hb; cases hb)]
              exact g1 b o hb
            · rw [g2, Lay.take_succ ea, List.map_append, List.map_append]
              rfl
          · rintro l H5 hl5 hz5 ⟨g1, rfl⟩
            walk_at "rd"
            rw [List.take_of_length_le (by rw [List.length_map]; exact Nat.le_refl _)] at hl5
            refine Lay.rd_anys (SqL.of hl5) ?_
            have yes : ((bs.map fun b => decide (b ∈ pre)).any id) = Net7.hBytes its i := by
              rw [hval, List.any_map]
              rfl
            rw [yes]
            have S5 := S4.trans g1
            cases hh : Net7.hBytes its i with
            | true =>
              walk_at "it"
              refine Lay.rd_mkO ?_
              walk_at "rd"
              exact Lay.mk_err2 (fun d H' hd s' e => qe i (Net7.find_hit noh hh (by omega)) d H' (Lay.none_of S5 hd) (S5.trans s') e)
            | false =>
            walk_at "it"
            have new : ∀ (j : Nat) (a : Int), bs[j]? = some a → a ∉ pre ++ bs.take j := fun j a h m => by
              rcases List.mem_append.mp m with m | m
              · rw [hval] at hh
                exact List.any_eq_false.mp hh a (List.mem_of_getElem? h) (decide_eq_true m)
              · exact Net7.not_take bnd h m
            have h5 := g1 _ _ r1
            refine Lay.rd_forW (J := Itl K L) (H1 := H5) (fun R r => ?_) (walk_list (xs := bs.map V.int)) (fun j σ' H' => (∃ b1 b2 b3 b4 b5, σ' = [some (V.ref t), some (V.ref D), b1, b2, b3, b4, b5]) ∧ L2.Same H H' ∧ H' D = some (.dK (NetL.marks (pre ++ bs.take j))) ∧ H' L = some (.lst (bs.map V.int))) ⟨⟨_, _, _, _, _, rfl⟩, S4.trans g1, by rw [List.take_zero, List.append_nil]; exact g1 _ _ hm4, h5⟩ (fun j σ' H' _ z => SqL.of z.2.2.2) ?_ ?_
            · refine Lay.rd_iList ?_
              walk_at "rd"
              exact ⟨⟨_, SqL.of h5⟩, r⟩
            · rintro j y σ' H6 H7 hj ⟨⟨b1, b2, b3, b4, b5, rfl⟩, g3, g4, g5⟩ ⟨rfl, ej⟩
              obtain ⟨a1, ea, rfl⟩ := atb j y ej
              have hj' : j < bs.length := by simpa using hj
              walk_at "rd"
              refine NetL.rd_dPut ?_
              walk_at "rd"
              refine ⟨D, _, rfl, DPut.k (k := .inl a1) g4 ?_, ?_⟩
              · unfold NetL.marks
                rw [List.length_map, List.length_append, List.length_take]
                rw [List.length_append] at total
                exact Nat.lt_of_le_of_lt (show _ ≤ 960 by omega) (by decide)
              · refine ⟨⟨_, _, _, _, _, rfl⟩, keepD g3, ?_, by rw [upd_ne hLD]; exact g5⟩
                rw [upd_same, NetL.marks_put (new j a1 ea), Lay.take_succ ea, List.append_assoc]
            · rintro σ' H6 ⟨⟨b1, b2, b3, b4, b5, rfl⟩, g3, g4, g5⟩
              rw [List.length_map, List.take_length] at g4
              exact ⟨⟨_, _, _, _, _, rfl⟩, g3, by rw [fin]; exact g4, noh2 hh⟩
    · rintro σ' H2 ⟨⟨a, b, c, d, e, rfl⟩, s2, hm, noh⟩
      exact q (Net7.find_no (by rw [← hlen]; exact noh)) H2 s2
theorem ok_concerns_signal (T : Txt K mg A) : FnOk P w K mg base CX0 1 A.a_concerns_signal A.d_concerns_signal ["step"] NetL.spCon := by
  refine T.F_concerns_signal.ok sc_concerns_signal (fun vs H Q E h => ?_) (fun cdv A0 outer s H vs Q E hr h => ?_)
  · obtain ⟨p, l, rfl, _⟩ := h
    rfl
  · obtain ⟨p, l, rfl, hp, hl, q⟩ := h
    refine ⟨_, (pss_one (ps_ret (pe_cmpR op_eq (pe_callB Lay.call_lenS (by rfl) T.n_len PySem.boot_len (pa_cons (pv 0) pa_nil)) pe_int (nomark _)))), ?_⟩
    walk_at "in"
    walk_at "rd"
    have e : decide ((l.length : Int) = 2) = decide (l.length = 2) := by
      by_cases h : l.length = 2
      · rw [decide_eq_true h, decide_eq_true (by omega)]
      · rw [decide_eq_false h, decide_eq_false (by omega)]
    rw [e]
    exact q
theorem ok_check_steps (T : Txt K mg A) (G_concerns_signal : FnOk P w K mg base CX0 1 A.a_concerns_signal A.d_concerns_signal ["step"] NetL.spCon) (G_NoNet_init : FnOk P w K mg base CX0 1 A.a_NoNet_init A.d_NoNet_init ["self", "reason", "place"] (Lay.spErr2 A.c_NoNet "reason" "place")) : FnOk P w K mg base (L2.CX P w) 4 A.a_check_steps A.d_check_steps ["parts", "agents"] (Net7.spWS (cs A) A.c_NoNet) := by
  refine T.F_check_steps.okX sc_check_steps (fun vs H Q E h => ?_) (fun cdv A0 outer s H vs Q E hr h => ?_)
  · obtain ⟨t, a, ps, as, its, rfl, _⟩ := h
    rfl
  · obtain ⟨t, al, ps, as, its, rfl, ht, ha, hp, hpa, hd0, hnd, qe, q⟩ := h
    have hl := hd0.len
    have alen := hpa.length
    have C := nc T
    have hlen := hp.length
    refine ⟨_, (pss_cons (NetL.ps_setDc (i := 2) (own := [("part", 3)]) (g := gName 3) rfl sc_check_steps.nd rfl rfl (NetL.sw_dict rfl rfl rfl (by decide +kernel)) (pi_tup (pv 0)) (blkOk_by (own := [("part", 3)]) (N := ["parts", "agents", "sizes", "part", "signals", "a", "agent", "s", "step", "name", "fits"]) (sc := defScope s_check_steps) (by decide +kernel)) (fun _ _ _ _ _ => pg_name (i := 3) sc_check_steps.nd rfl (Or.inl rfl)) (fun _ _ _ _ _ => pts_one (pt_val (pe_callB (r := rIsi K) call_isi (by rfl) T.n_isinstance (by decide +kernel) (pa_cons (pv 3) (pa_cons (pe_glob (v := .ref A.c_Variable) rfl T.g_Variable rfl) pa_nil))))) (fun _ _ _ _ _ => (show PE _ _ (tFld K (tVar 3) "name") from pe_fld (pv 3) rfl)) (fun _ _ _ _ _ => (show PE _ _ (tFld K (tVar 3) "size") from pe_fld (pv 3) rfl)))
    (pss_cons (ps_setLc (i := 4) (own := [("part", 3)]) (g := gName 3) rfl sc_check_steps.nd rfl rfl (sw_true rfl rfl rfl (by decide +kernel)) (pi_tup (pv 0)) (blkOk_by (own := [("part", 3)]) (N := ["parts", "agents", "sizes", "part", "signals", "a", "agent", "s", "step", "name", "fits"]) (sc := defScope s_check_steps) (by decide +kernel)) (fun _ _ _ _ _ => pg_name (i := 3) sc_check_steps.nd rfl (Or.inl rfl)) (fun _ _ _ _ _ => pts_one (pt_val (pe_callB (r := rIsi K) call_isi (by rfl) T.n_isinstance (by decide +kernel) (pa_cons (pv 3) (pa_cons (pe_glob (v := .ref A.c_Signal) rfl T.g_Signal rfl) pa_nil))))) (fun _ _ _ _ _ => by exact (show PE _ _ (tFld K (tVar 3) "name") from pe_fld (pv 3) rfl)))
    (pss_one (ps_for (passes_of rfl) rfl (pi_enum (by rfl) T.n_enumerate (pa_cons (pv 1) pa_nil)) (pg_tup (by rfl) (pgs_cons (pg_name (i := 5) sc_check_steps.nd rfl (Or.inl rfl)) (pgs_cons (pg_name (i := 6) sc_check_steps.nd rfl (Or.inl rfl)) pgs_nil)))
      (pss_one (ps_for (passes_of rfl) rfl (Lay.pi_enumT (by rfl) T.n_enumerate (pa_cons (pe_fld (pv 6) rfl) pa_nil)) (pg_tup (by rfl) (pgs_cons (pg_name (i := 7) sc_check_steps.nd rfl (Or.inl rfl)) (pgs_cons (pg_name (i := 8) sc_check_steps.nd rfl (Or.inl rfl)) pgs_nil)))
        (pss_cons (ps_set (i := 9) sc_check_steps.nd rfl (Or.inl rfl) (pe_ix ix_tup (pv 8) pe_int (fun _ _ => rfl)))
        (pss_cons (ps_if (pt_val (pe_call G_concerns_signal (hr.mono (by decide)) rfl T.g_concerns_signal T.F_concerns_signal.kp T.b_concerns_signal .nil pass0 (pa_cons (pv 8) pa_nil)))
          (pss_one (ps_set (i := 10) sc_check_steps.nd rfl (Or.inl rfl) (pe_cmpR (Lay.op_inS hr.units) (pv 9) (pv 4) rfl)))
          (pss_one (ps_set (i := 10) sc_check_steps.nd rfl (Or.inl rfl) (pe_and (pe_cmp (pc_din (Nat.lt_of_le_of_lt (Nat.add_le_add_left (show 1 ≤ 64 by decide) _) hr.units) (pv 9) (pv 2)) (by rfl)) (pe_one (pe_cmpR op_lt (pe_ix ix_tup (pv 8) pe_int (fun _ _ => rfl)) (pe_dget (Nat.lt_of_le_of_lt (Nat.add_le_add_left (show 1 ≤ 64 by decide) _) hr.units) (pv 2) (pv 9) (fun _ _ => rfl)) (nomark _)))))))
        (pss_one (ps_if (pt_not (pt_val (pv 10)))
          (pss_one (ps_raise rfl (takes_of rfl rfl rfl rfl) (pmk_oex T.ox_NoNet T.ie_NoNet T.it_NoNet G_NoNet_init (hr.mono (by decide)) T.b_NoNet_init .nil pass0 rfl T.g_NoNet (pa_cons pe_str (pa_cons (pe_tup (pa_cons (pv 5) (pa_cons (pv 7) pa_nil))) pa_nil)))))
          pss_nil)))))))))), ?_⟩
    walk_at "in"
    walk_at "rd"
    unfold tDc
    dsimp only
    walk_at "rd"
    refine ⟨⟨_, SqT.of ht⟩, ?_⟩
    intro D hD
    have keepD : ∀ {H1 : Hp} {o : HO}, L2.Same H H1 → L2.Same H (upd H1 D o) := fun s b o hb => by
      rw [upd_ne (fun y => by subst y; rw [hD] at hb; cases hb)]
      exact s b o hb
    refine NetL.turns (walk_tup (xs := ps)) (fun i H' => L2.Same H H' ∧ H' D = some (.dK (NetL.sizes (its.take i)))) ⟨keepD (L2.Same.refl _), upd_same⟩ (fun i H' _ z => SqT.of (z.1 _ _ ht)) ?_ ?_
    · rintro i x H2 H3 hi ⟨r1, r2⟩ ⟨rfl, ey⟩
      obtain ⟨it, ei, pa⟩ := NetL.pget hp ey
      obtain ⟨x0, dx, fs, rfl, hx, hn⟩ := pa.ins
      have hx2 := r1 _ _ hx
      walk_at "rd"
      refine ⟨rfl, ?_⟩
      walk_at "rd"
      refine Lay.rd_isiC (C.ty _ _ dx fs it hx2) (C.kv it) ?_
      cases it with
      | ag z k ls =>
        refine ⟨false, rfl, ?_⟩
        refine iteF ?_
        refine ⟨r1, ?_⟩
        rw [Lay.take_succ ei, NetL.sizes_app]
        show _ = some (HO.dK (_ ++ []))
        rw [List.append_nil]
        exact r2
      | sg z t0 =>
        refine ⟨false, rfl, ?_⟩
        refine iteF ?_
        refine ⟨r1, ?_⟩
        rw [Lay.take_succ ei, NetL.sizes_app]
        show _ = some (HO.dK (_ ++ []))
        rw [List.append_nil]
        exact r2
      | vr z s0 ats =>
        refine ⟨true, rfl, ?_⟩
        refine iteT ?_
        obtain ⟨xx, e0, dv, ta, f1, f2⟩ := pa
        cases e0
        have f1' := r1 _ _ f1
        refine Lay.rd_tFld ?_
        walk_at "rd"
        refine ⟨x0, _, dv, _, .str z, rfl, f1', T.cl_Variable, T.na_Variable_name, by rfl, ?_⟩
        refine Lay.rd_tFld ?_
        walk_at "rd"
        refine ⟨x0, _, dv, _, .int s0, rfl, f1', T.cl_Variable, T.na_Variable_size, by rfl, ?_⟩
        refine ⟨_, .inr z, rfl, r2, ?_, keepD r1, ?_⟩
        · exact Nat.lt_of_le_of_lt (Nat.le_trans (NetL.sizes_len _) (show _ ≤ 30 by rw [List.length_take]; omega)) (by decide)
        · have no : z ∉ (its.take i).map NetL.It.nm := by
            rw [List.map_take]
            exact NetL.not_take hnd (by rw [List.getElem?_map, ei]; rfl)
          rw [upd_same, NetL.sizes_put (ats := ats) no, Lay.take_succ ei]
    · rintro H2 ⟨r1, r2⟩
      rw [List.take_of_length_le (by omega)] at r2
      walk_at "rd"
      refine ⟨⟨_, SqT.of (r1 _ _ ht)⟩, ?_⟩
      intro M hM
      have hMD : M ≠ D := Lay.ne_none hM r2
      refine Lay.lc_go (walk_tup (xs := ps)) (fun i l H' => L2.Same H2 H' ∧ l = (NetL.sigs (its.take i)).map V.str) ⟨Lay.Same.upd hM, rfl⟩ (fun i l H' _ r => SqT.of (r.1 _ _ (r1 _ _ ht))) ?_ ?_
      · rintro i l x H3 H4 hi hl' hz' ⟨q1, q2⟩ ⟨rfl, ey⟩
        obtain ⟨it, ei, pa⟩ := NetL.pget hp ey
        obtain ⟨x0, dx, fs, rfl, hx, hn⟩ := pa.ins
        have hx3 := q1 _ _ (r1 _ _ hx)
        have fs1 := NetL.filt_succ (p := NetL.It.isS) ei
        walk_at "rd"
        refine ⟨rfl, ?_⟩
        walk_at "rd"
        refine Lay.rd_isiC (C.ty _ _ dx fs it hx3) (C.ks it) ?_
        refine ⟨it.isS, rfl, ?_⟩
        by_cases hs : it.isS = true
        · rw [hs] at fs1 ⊢
          refine iteT ?_
          refine Lay.rd_tFld ?_
          walk_at "rd"
          refine ⟨x0, _, dx, fs, .str it.nm, rfl, hx3, C.cl it, C.nn it, hn, ?_⟩
          refine Lay.lc_put hl' hz' (by omega) ⟨fun b o hb => ?_, ?_⟩
          · rw [upd_ne (fun y => by subst y; rw [hM] at hb; cases hb)]
            exact q1 b o hb
          · rw [q2]
            unfold NetL.sigs
            rw [fs1, if_pos rfl, List.map_append, List.map_append]
            rfl
        · rw [Bool.eq_false_iff.mpr hs] at fs1 ⊢
          refine iteF ?_
          refine Lay.lc_skip hl' hz' ⟨q1, ?_⟩
          rw [q2]
          unfold NetL.sigs
          rw [fs1, if_neg (by decide), List.append_nil]
      · rintro l H3 hl3 hz3 ⟨q1, rfl⟩
        rw [List.take_of_length_le (by omega)] at hl3
        have S3 := r1.trans q1
        have hD3 := q1 _ _ r2
        have ha3 := S3 _ _ ha
        walk_at "rd"
        refine Lay.rd_forW (J := Ite K al) (H1 := H3) (fun R r => ?_) (walk_enum (xs := as)) (fun j σ' H' => (∃ b1 b2 b3 b4 b5 b6, σ' = [some (V.ref t), some (V.ref al), some (V.ref D), none, some (V.ref M), b1, b2, b3, b4, b5, b6]) ∧ L2.Same H3 H' ∧ ∀ a' < j, Net7.hAgent its a' = none) ⟨⟨_, _, _, _, _, _, rfl⟩, L2.Same.refl _, fun k hk => absurd hk (Nat.not_lt_zero k)⟩ (fun j σ' H' _ z => SqL.of (z.2.1 _ _ ha3)) ?_ ?_
        · refine NetL.rd_iEnum ?_
          walk_at "rd"
          exact ⟨al, _, rfl, SqL.of ha3, r⟩
        · rintro j x σ' H5 H6 hj ⟨⟨b1, b2, b3, b4, b5, b6, rfl⟩, s5, noa⟩ ⟨T0, x1, y1, rfl, hT, rfl, ex, ey⟩
          cases ex
          obtain ⟨it, ei, pa⟩ := NetL.pget hpa ey
          obtain ⟨im, ia⟩ := List.mem_filter.mp (List.mem_of_getElem? ei)
          cases it with
          | vr z s0 ats => cases ia
          | sg z t0 => cases ia
          | ag z k ls =>
            obtain ⟨x0, e0, dx, t1, xs1, g1, g2, g3⟩ := pa
            subst e0
            have s6 : L2.Same H3 (upd H5 T0 (.tup [.int (j : Nat), V.ref x0])) := s5.trans (Lay.Same.upd hT)
            have g1' := s6 _ _ (S3 _ _ g1)
            have g2' := s6 _ _ (S3 _ _ g2)
            obtain ⟨_, _, _, _, _, hall⟩ := hd0.ok _ im
            have hag : Net7.hAgent its j = (List.range ls.length).find? (Net7.hStep ls its) := by unfold Net7.hAgent; rw [ei]
            walk_at "rd"
            generalize upd H5 T0 (.tup [.int (j : Nat), V.ref x0]) = H7 at s6 g1' g2'
            refine Lay.rd_forW (J := Lay.Itet K t1) (H1 := H7) (fun R r => ?_) (Lay.walk_enumT (xs := xs1)) (fun m σ' H' => (∃ c1 c2 c3 c4, σ' = [some (V.ref t), some (V.ref al), some (V.ref D), none, some (V.ref M), some (V.int (j : Nat)), some (V.ref x0), c1, c2, c3, c4]) ∧ L2.Same H7 H' ∧ ∀ s' < m, Net7.hStep ls its s' = false) ⟨⟨_, _, _, _, rfl⟩, L2.Same.refl _, fun k hk => absurd hk (Nat.not_lt_zero k)⟩ (fun m σ' H' _ w => SqT.of (w.2.1 _ _ g2')) ?_ ?_
            · walk_at "rd"
              refine Lay.rd_tFld ?_
              walk_at "rd"
              refine ⟨x0, _, dx, _, .ref t1, rfl, g1', C.cl _, C.as z k ls, by rfl, ?_⟩
              walk_at "rd"
              exact ⟨t1, _, rfl, SqT.of g2', r⟩
            · rintro m x σ' H8 H9 hm ⟨⟨c1, c2, c3, c4, rfl⟩, s8, nos⟩ ⟨T1, x2, y2, rfl, hT1, rfl, ex, ey2⟩
              cases ex
              have hm' : m < ls.length := by rw [← g3.len]; exact hm
              obtain ⟨l, el⟩ : ∃ l, ls[m]? = some l := ⟨_, List.getElem?_eq_getElem hm'⟩
              obtain ⟨p, e1, e2⟩ := g3.get el
              have e3 : some y2 = some (V.ref p) := ey2.symm.trans e1
              cases e3
              have gst := hall l (List.mem_of_getElem? el)
              have hst : Net7.hStep ls its m = !Net7.fitsB its l := by unfold Net7.hStep; rw [el]
              have s9 : L2.Same H7 (upd H8 T1 (.tup [.int (m : Nat), V.ref p])) := s8.trans (Lay.Same.upd hT1)
              have S9 := (S3.trans s6).trans s9
              have e2' := S9 _ _ e2
              have hD9 := (s6.trans s9) _ _ hD3
              have hM9 := (s6.trans s9) _ _ hl3
              walk_at "rd"
              generalize upd H8 T1 (.tup [.int (m : Nat), V.ref p]) = HH at s9 e2' hD9 hM9
              rcases gst with ⟨wd, n, rfl, _, _, _⟩ | ⟨wd, n, sh, f, e, rfl, _⟩
              · refine Lay.rd_ixT (SqT.of e2') (v := V.str n) (Lay.atI_int (d := 1) (by decide) rfl) ?_
                walk_at "rd"
                refine ⟨p, _, rfl, e2', (by show 2 ≤ 5; decide), ?_⟩
                refine ⟨true, rfl, ?_⟩
                refine iteT ?_
                walk_at "rd"
                refine Lay.rd_inSL (SqL.of hM9) (.str n) ?_
                rw [show Lay.inStrs (.str n) (NetL.sigs its) = Net7.fitsB its [.str wd, .str n] from rfl]
                walk_at "rd"
                cases hB : Net7.fitsB its [.str wd, .str n] with
                | true =>
                  walk_at "it"
                  refine ⟨⟨_, _, _, _, rfl⟩, s9, fun k hk => ?_⟩
                  by_cases z : k < m
                  · exact nos k z
                  · obtain rfl : k = m := by omega
                    rw [hst, hB]
                    rfl
                | false =>
                  walk_at "it"
                  refine Lay.rd_mkO ?_
                  walk_at "rd"
                  refine ⟨by decide, fun tp htp => ?_⟩
                  walk_at "rd"
                  have hhit : Net7.hAgent its j = some m := hag.trans (Net7.find_hit nos (by rw [hst, hB]; rfl) (by omega))
                  have hws : Net7.wStep its = some (.two j m) := by
                    unfold Net7.wStep
                    have e1 : Net7.wAgent its = some j := Net7.find_hit (fun k hk => by rw [noa k hk]; rfl) (by rw [hhit]; rfl) (by have := (List.getElem?_eq_some_iff.mp ei).1; omega)
                    rw [e1]
                    show some (Net7.Pl.two j ((Net7.hAgent its j).getD 0)) = _
                    rw [hhit]
                    rfl
                  exact Lay.mk_err2 (fun d H' hd s' e => qe j m hws tp _ (((S3.trans s6).trans s9).trans (Lay.Same.upd htp)) upd_same d H' hd s' e)
              · refine Lay.rd_ixT (SqT.of e2') (v := V.str n) (Lay.atI_int (d := 1) (by decide) rfl) ?_
                walk_at "rd"
                refine ⟨p, _, rfl, e2', (by show 5 ≤ 5; decide), ?_⟩
                refine ⟨false, rfl, ?_⟩
                refine iteF ?_
                walk_at "rd"
                refine NetL.rd_dIn ?_
                walk_at "rd"
                refine ⟨D, _, rfl, DGet.k (k := .inr n) hD9, ?_⟩
                cases ev : valV (NetL.sizes its) (.inr n) with
                | none =>
                  have hB0 : Net7.fitsB its [.str wd, .str n, .int sh, .int f, .int e] = false := by
                    show (match valV (NetL.sizes its) (.inr n) with | some (.int sz) => decide (e < sz) | _ => false) = false
                    rw [ev]
                  rw [show (Option.none : Option V).isSome = Net7.fitsB its [.str wd, .str n, .int sh, .int f, .int e] by rw [hB0]; rfl]
                  refine ⟨_, rfl, ?_⟩
                  rw [hB0]
                  refine iteF ?_
                  walk_at "rd"
                  have hB := hB0
                  walk_at "it"
                  refine Lay.rd_mkO ?_
                  walk_at "rd"
                  refine ⟨by decide, fun tp htp => ?_⟩
                  walk_at "rd"
                  have hhit : Net7.hAgent its j = some m := hag.trans (Net7.find_hit nos (by rw [hst, hB]; rfl) (by omega))
                  have hws : Net7.wStep its = some (.two j m) := by
                    unfold Net7.wStep
                    have e1 : Net7.wAgent its = some j := Net7.find_hit (fun k hk => by rw [noa k hk]; rfl) (by rw [hhit]; rfl) (by have := (List.getElem?_eq_some_iff.mp ei).1; omega)
                    rw [e1]
                    show some (Net7.Pl.two j ((Net7.hAgent its j).getD 0)) = _
                    rw [hhit]
                    rfl
                  exact Lay.mk_err2 (fun d H' hd s' e => qe j m hws tp _ (((S3.trans s6).trans s9).trans (Lay.Same.upd htp)) upd_same d H' hd s' e)
                | some v =>
                  obtain ⟨sz, ats, rfl, fm⟩ := Net7.sizes_some ev
                  have hB1 : Net7.fitsB its [.str wd, .str n, .int sh, .int f, .int e] = decide (e < sz) := by
                    show (match valV (NetL.sizes its) (.inr n) with | some (.int sz) => decide (e < sz) | _ => false) = _
                    rw [ev]
                  refine ⟨true, rfl, ?_⟩
                  refine iteT ?_
                  walk_at "rd"
                  refine NetL.rd_dGet ?_
                  walk_at "rd"
                  refine ⟨D, .int sz, rfl, (by have z := DGet.k (k := .inr n) hD9; rwa [ev] at z), ?_⟩
                  walk_at "rd"
                  rw [← hB1]
                  cases hB : Net7.fitsB its [.str wd, .str n, .int sh, .int f, .int e] with
                  | true =>
                    walk_at "it"
                    refine ⟨⟨_, _, _, _, rfl⟩, s9, fun k hk => ?_⟩
                    by_cases z : k < m
                    · exact nos k z
                    · obtain rfl : k = m := by omega
                      rw [hst, hB]
                      rfl
                  | false =>
                    walk_at "it"
                    refine Lay.rd_mkO ?_
                    walk_at "rd"
                    refine ⟨by decide, fun tp htp => ?_⟩
                    walk_at "rd"
                    have hhit : Net7.hAgent its j = some m := hag.trans (Net7.find_hit nos (by rw [hst, hB]; rfl) (by omega))
                    have hws : Net7.wStep its = some (.two j m) := by
                      unfold Net7.wStep
                      have e1 : Net7.wAgent its = some j := Net7.find_hit (fun k hk => by rw [noa k hk]; rfl) (by rw [hhit]; rfl) (by have := (List.getElem?_eq_some_iff.mp ei).1; omega)
                      rw [e1]
                      show some (Net7.Pl.two j ((Net7.hAgent its j).getD 0)) = _
                      rw [hhit]
                      rfl
                    exact Lay.mk_err2 (fun d H' hd s' e => qe j m hws tp _ (((S3.trans s6).trans s9).trans (Lay.Same.upd htp)) upd_same d H' hd s' e)
            · rintro σ' H8 ⟨⟨c1, c2, c3, c4, rfl⟩, s8, nos⟩
              refine ⟨⟨_, _, _, _, _, _, rfl⟩, s6.trans s8, fun k hk => ?_⟩
              by_cases z : k < j
              · exact noa k z
              · obtain rfl : k = j := by omega
                rw [hag]
                exact Net7.find_no (by rw [← g3.len]; exact nos)
        · rintro σ' H5 ⟨⟨b1, b2, b3, b4, b5, b6, rfl⟩, s5, noa⟩
          exact q (Net7.find_no (by rw [← alen]; exact fun k hk => by rw [noa k hk]; rfl)) H5 (S3.trans s5)
theorem ok_check_signals (T : Txt K mg A) (G_NoNet_init : FnOk P w K mg base CX0 1 A.a_NoNet_init A.d_NoNet_init ["self", "reason", "place"] (Lay.spErr2 A.c_NoNet "reason" "place")) : FnOk P w K mg base (L2.CX P w) 3 A.a_check_signals A.d_check_signals ["parts", "agents"] (Net7.spWA (cs A) A.c_NoNet Net7.wSig (fun _ => True) "signal") := by
  refine T.F_check_signals.okX sc_check_signals (fun vs H Q E h => ?_) (fun cdv A0 outer s H vs Q E hr h => ?_)
  · obtain ⟨t, a, ps, as, its, rfl, _⟩ := h
    rfl
  · obtain ⟨t, al, ps, as, its, rfl, ht, ha, hp, hpa, hd0, _, qe, q⟩ := h
    have hl := hd0.len
    have C := nc T
    have hlen := hp.length
    have alen := hpa.length
    have ma := List.length_filter_le NetL.It.isA its
    refine ⟨_, (pss_cons (ps_setLc2 (i := 2) (own := [("agent", 3), ("step", 4)]) (vs1 := [4]) (g := gName 3) (g1 := gName 4) (tt := tYes) (tt1 := tYes) rfl sc_check_signals.nd rfl rfl (sw_true rfl rfl rfl (by decide +kernel)) (pi_list (pv 1)) (blkOk_by (own := [("agent", 3), ("step", 4)]) (N := ["parts", "agents", "steps", "agent", "step", "k", "part", "posts", "waits"]) (sc := defScope s_check_signals) (by decide +kernel)) (by decide) (fun _ _ _ _ _ => pg_name (i := 3) sc_check_signals.nd rfl (Or.inl rfl)) (fun _ _ _ _ _ => pts_nil) (fun _ _ _ _ _ => (show PI _ _ _ (iTup K (tFld K (tVar 3) "steps")) from pi_tup (show PE _ _ (tFld K (tVar 3) "steps") from pe_fld (pv 3) rfl))) (fun _ _ _ _ _ => pg_name (i := 4) sc_check_signals.nd rfl (Or.inl rfl)) (fun _ _ _ _ _ => pts_nil) (fun _ _ _ _ _ => (pv 4)))
    (pss_one (ps_for (passes_of rfl) rfl (Lay.pi_enumT (by rfl) T.n_enumerate (pa_cons (pv 0) pa_nil)) (pg_tup (by rfl) (pgs_cons (pg_name (i := 5) sc_check_signals.nd rfl (Or.inl rfl)) (pgs_cons (pg_name (i := 6) sc_check_signals.nd rfl (Or.inl rfl)) pgs_nil)))
      (pss_one (ps_if (pt_val (pe_callB call_isi (by rfl) T.n_isinstance (by decide +kernel) (pa_cons (pv 6) (pa_cons (pe_glob (v := .ref A.c_Signal) rfl T.g_Signal rfl) pa_nil))))
        (pss_cons (ps_set (i := 7) sc_check_signals.nd rfl (Or.inl rfl) (pe_bm PySem.F.plainAttrs_list PySem.F.slot_list_count PySem.F.type_list_count (NetL.mt_cntD (NetL.u65 hr)) (pv 2) (pa_cons (pe_tup (pa_cons pe_str (pa_cons (pe_fld (pv 6) rfl) pa_nil))) pa_nil)))
        (pss_cons (ps_set (i := 8) sc_check_signals.nd rfl (Or.inl rfl) (pe_bm PySem.F.plainAttrs_list PySem.F.slot_list_count PySem.F.type_list_count (NetL.mt_cntD (NetL.u65 hr)) (pv 2) (pa_cons (pe_tup (pa_cons pe_str (pa_cons (pe_fld (pv 6) rfl) pa_nil))) pa_nil)))
        (pss_one (ps_if (PW.pt (pw_or (pt_cmpR op_ne (pv 7) pe_int (nomark _)) (pw_or1 (pt_cmpR op_ne (pv 8) pe_int (nomark _)))))
          (pss_one (ps_raise rfl (takes_of rfl rfl rfl rfl) (pmk_oex T.ox_NoNet T.ie_NoNet T.it_NoNet G_NoNet_init (hr.mono (by decide)) T.b_NoNet_init .nil pass0 rfl T.g_NoNet (pa_cons pe_str (pa_cons (pv 5) pa_nil)))))
          pss_nil))))
        pss_nil))))), ?_⟩
    walk_at "in"
    walk_at "rd"
    unfold tLc2
    dsimp only
    walk_at "rd"
    refine ⟨⟨_, SqL.of ha⟩, ?_⟩
    intro L hL0
    have bound : ∀ j : Nat, (((its.filter NetL.It.isA).take j).flatMap NetL.It.ls).length ≤ 720 := by
      intro j
      refine Nat.le_trans (NetL.ls_len fun it m => ?_) (show 24 * ((its.filter NetL.It.isA).take j).length ≤ 720 by rw [List.length_take]; omega)
      cases it with
      | ag z k ls => exact (hd0.ok _ (List.mem_filter.mp (List.mem_of_mem_take m)).1).2.2.2.2.1
      | _ => exact Nat.zero_le _
    refine NetL.turns (walk_list (xs := as)) (fun j H' => L2.Same H H' ∧ ∃ xs, H' L = some (.lst xs) ∧ Lay.RowsAt H' xs (((its.filter NetL.It.isA).take j).flatMap NetL.It.ls)) ⟨Lay.Same.upd hL0, [], upd_same, .nil⟩ (fun j H' _ z => SqL.of (z.1 _ _ ha)) ?_ ?_
    · rintro j x H2 H3 hj ⟨r1, xs, r2, r3⟩ ⟨rfl, ey⟩
      obtain ⟨it, ei, pa⟩ := NetL.pget hpa ey
      obtain ⟨im, ia⟩ := List.mem_filter.mp (List.mem_of_getElem? ei)
      cases it with
      | vr z s0 ats => cases ia
      | sg z t0 => cases ia
      | ag z k ls =>
        obtain ⟨x0, e0, dx, t1, xs1, g1, g2, g3⟩ := pa
        subst e0
        have g1' := r1 _ _ g1
        have g2' := r1 _ _ g2
        have more : ((its.filter NetL.It.isA).take (j + 1)).flatMap NetL.It.ls = ((its.filter NetL.It.isA).take j).flatMap NetL.It.ls ++ ls := by
          rw [Lay.take_succ ei, List.flatMap_append, List.flatMap_cons, List.flatMap_nil, List.append_nil]
          rfl
        walk_at "rd"
        refine ⟨rfl, ?_⟩
        walk_at "it"
        refine Lay.rd_tFld ?_
        walk_at "rd"
        refine ⟨x0, _, dx, _, .ref t1, rfl, g1', C.cl _, C.as z k ls, by rfl, ?_⟩
        walk_at "rd"
        refine ⟨⟨_, SqT.of g2'⟩, ?_⟩
        refine NetL.turns (walk_tup (xs := xs1)) (fun m H' => L2.Same H H' ∧ ∃ xs, H' L = some (.lst xs) ∧ Lay.RowsAt H' xs (((its.filter NetL.It.isA).take j).flatMap NetL.It.ls ++ ls.take m)) ⟨r1, xs, r2, by rw [List.take_zero, List.append_nil]; exact r3⟩ (fun m H' _ z => SqT.of (z.1 _ _ g2)) ?_ ?_
        · rintro m y H4 H5 hm ⟨q1, ys, q2, q3⟩ ⟨rfl, ey2⟩
          have hm' : m < ls.length := by rw [← g3.len]; exact hm
          obtain ⟨l, el⟩ : ∃ l, ls[m]? = some l := ⟨_, List.getElem?_eq_getElem hm'⟩
          obtain ⟨p, e1, e2⟩ := g3.get el
          have e3 : some y = some (V.ref p) := ey2.symm.trans e1
          cases e3
          walk_at "rd"
          refine ⟨rfl, ?_⟩
          walk_at "it"
          have keepL : ∀ {o : HO}, L2.Same H (upd H5 L o) := fun b o hb => by
            rw [upd_ne (fun y => by subst y; rw [hL0] at hb; cases hb)]
            exact q1 b o hb
          refine ⟨ys, q2, ?_, keepL, _, upd_same, ?_⟩
          · rw [q3.len]
            refine Nat.lt_of_le_of_lt (show _ ≤ 720 from ?_) (by decide)
            refine Nat.le_trans ?_ (bound (j + 1))
            rw [more, List.length_append, List.length_append, List.length_take]
            omega
          · rw [Lay.take_succ el, ← List.append_assoc]
            have rows5 := q3.keep q2 (Lay.Keep.upd (p := L) (o := .lst (ys ++ [V.ref p])))
            refine rows5.append (.cons ?_ .nil)
            rw [upd_ne (fun y => by subst y; rw [hL0] at e2; cases e2)]
            exact q1 _ _ e2
        · rintro H4 ⟨q1, ys, q2, q3⟩
          refine ⟨q1, ys, q2, ?_⟩
          rw [g3.len, List.take_length] at q3
          rw [more]
          exact q3
    · rintro H2 ⟨r1, xs, hL, hrow⟩
      rw [List.take_of_length_le (by omega), NetL.steps_filt] at hrow
      walk_at "rd"
      refine Lay.rd_forW (J := Lay.Itet K t) (H1 := H2) (fun R r => ?_) (Lay.walk_enumT (xs := ps)) (fun i σ' H' => (∃ b1 b2 b3 b4, σ' = [some (V.ref t), some (V.ref al), some (V.ref L), none, none, b1, b2, b3, b4]) ∧ L2.Same H2 H' ∧ ∀ k < i, Net7.hSig its k = false) ⟨⟨_, _, _, _, rfl⟩, L2.Same.refl _, fun k hk => absurd hk (Nat.not_lt_zero k)⟩ (fun i σ' H' _ z => SqT.of (z.2.1 _ _ (r1 _ _ ht))) ?_ ?_
      · walk_at "rd"
        exact ⟨t, _, rfl, SqT.of (r1 _ _ ht), r⟩
      · rintro i x σ' H3 H4 hi ⟨⟨b1, b2, b3, b4, rfl⟩, s3, noh⟩ ⟨T0, x1, y1, rfl, hT, rfl, ex, ey⟩
        cases ex
        obtain ⟨it, ei, pa⟩ := NetL.pget hp ey
        obtain ⟨x0, dx, fs, rfl, hx, hn⟩ := pa.ins
        have s4 : L2.Same H2 (upd H3 T0 (.tup [.int (i : Nat), V.ref x0])) := s3.trans (Lay.Same.upd hT)
        have hx4 := r1 _ _ hx
        walk_at "rd"
        generalize upd H3 T0 (.tup [.int (i : Nat), V.ref x0]) = HH at s4
        refine Lay.rd_isiC (C.ty _ _ dx fs it (s4 _ _ hx4)) (C.ks it) ?_
        have noh2 : Net7.hSig its i = false → ∀ k < i + 1, Net7.hSig its k = false := fun hh k hk => by
          by_cases z : k < i
          · exact noh k z
          · obtain rfl : k = i := by omega
            exact hh
        cases it with
        | ag z k ls =>
          refine ⟨false, rfl, ?_⟩
          refine iteF ?_
          exact ⟨⟨_, _, _, _, rfl⟩, s4, noh2 (by unfold Net7.hSig; rw [ei])⟩
        | vr z s0 ats =>
          refine ⟨false, rfl, ?_⟩
          refine iteF ?_
          exact ⟨⟨_, _, _, _, rfl⟩, s4, noh2 (by unfold Net7.hSig; rw [ei])⟩
        | sg z tk =>
        refine ⟨true, rfl, ?_⟩
        refine iteT ?_
        have okz : Lay.nameOk z = true := Net7.part_nm (hd0.ok _ (List.mem_of_getElem? ei))
        have hval : Net7.hSig its i = (decide ((NetL.steps its).count [V.str "post", .str z] ≠ 1) || decide ((NetL.steps its).count [V.str "wait", .str z] ≠ 1)) := by unfold Net7.hSig; rw [ei]
        walk_at "rd"
        refine NetL.rd_cntB ?_
        walk_at "rd"
        refine ⟨Lay.tyV_lst (s4 _ _ hL), ?_⟩
        walk_at "rd"
        refine Lay.rd_tFld ?_
        walk_at "rd"
        refine ⟨x0, _, dx, fs, .str z, rfl, s4 _ _ hx4, C.cl (.sg z tk), C.nn (.sg z tk), hn, ?_⟩
        walk_at "rd"
        refine ⟨(by show 2 ≤ sizeLine; decide), fun p1 hp1 => ?_⟩
        have w1 := s4.trans (Lay.Same.upd (o := .tup [V.str "post", V.str z]) hp1)
        walk_at "rd"
        refine NetL.rd_cnt (SqL.of (w1 _ _ hL)) (hrow.mono w1) hd0.flat upd_same (NetL.word_flat (by decide +kernel) okz) ?_
        walk_at "rd"
        refine NetL.rd_cntB ?_
        walk_at "rd"
        refine ⟨Lay.tyV_lst (w1 _ _ hL), ?_⟩
        walk_at "rd"
        refine Lay.rd_tFld ?_
        walk_at "rd"
        refine ⟨x0, _, dx, fs, .str z, rfl, w1 _ _ hx4, C.cl (.sg z tk), C.nn (.sg z tk), hn, ?_⟩
        walk_at "rd"
        refine ⟨(by show 2 ≤ sizeLine; decide), fun p2 hp2 => ?_⟩
        have w2 := w1.trans (Lay.Same.upd (o := .tup [V.str "wait", V.str z]) hp2)
        walk_at "rd"
        refine NetL.rd_cnt (SqL.of (w2 _ _ hL)) (hrow.mono w2) hd0.flat upd_same (NetL.word_flat (by decide +kernel) okz) ?_
        walk_at "rd"
        refine Lay.ite_n (fun c1 => ?_) (fun c1 => ?_)
        · walk_at "it"
          refine Lay.rd_mkO ?_
          walk_at "rd"
          exact Lay.mk_err2 (fun d H' hd s' e => qe i (Net7.find_hit noh (by rw [hval, decide_eq_true (show (NetL.steps its).count [V.str "post", .str z] ≠ 1 by omega), Bool.true_or]) (by omega)) d H' (Lay.none_of (r1.trans w2) hd) ((r1.trans w2).trans s') e)
        walk_at "it"
        refine Lay.ite_n (fun c2 => ?_) (fun c2 => ?_)
        · walk_at "it"
          refine Lay.rd_mkO ?_
          walk_at "rd"
          exact Lay.mk_err2 (fun d H' hd s' e => qe i (Net7.find_hit noh (by rw [hval, decide_eq_true (show (NetL.steps its).count [V.str "wait", .str z] ≠ 1 by omega), Bool.or_true]) (by omega)) d H' (Lay.none_of (r1.trans w2) hd) ((r1.trans w2).trans s') e)
        walk_at "it"
        have c1' : (NetL.steps its).count [V.str "post", .str z] = 1 := by omega
        have c2' : (NetL.steps its).count [V.str "wait", .str z] = 1 := by omega
        exact ⟨⟨_, _, _, _, rfl⟩, w2, noh2 (by rw [hval, decide_eq_false (fun y => y c1'), decide_eq_false (fun y => y c2')]; rfl)⟩
      · rintro σ' H3 ⟨⟨b1, b2, b3, b4, rfl⟩, s3, noh⟩
        exact q (Net7.find_no (by rw [← hlen]; exact noh)) H3 (r1.trans s3)
theorem prim_no (T : Txt K mg A) : ∀ t : Lay.Kn, PySem.W.kitAny K (.type t.name) [.ref A.c_Variable, .ref A.c_Signal, .ref A.c_Agent] = some false
  | .non => Net7.kit3f T.kp_NoneType_Variable T.kp_NoneType_Signal T.kp_NoneType_Agent
  | .bool => Net7.kit3f T.kp_bool_Variable T.kp_bool_Signal T.kp_bool_Agent
  | .int => Net7.kit3f T.kp_int_Variable T.kp_int_Signal T.kp_int_Agent
  | .str => Net7.kit3f T.kp_str_Variable T.kp_str_Signal T.kp_str_Agent
  | .list => Net7.kit3f T.kp_list_Variable T.kp_list_Signal T.kp_list_Agent
  | .tuple => Net7.kit3f T.kp_tuple_Variable T.kp_tuple_Signal T.kp_tuple_Agent
  | .dict => Net7.kit3f T.kp_dict_Variable T.kp_dict_Signal T.kp_dict_Agent
theorem ok_check_parts (T : Txt K mg A) (G_check_many : FnOk P w K mg base (L2.CX P w) 3 A.a_check_many A.d_check_many ["parts"] (Net7.spW (cs A) A.c_NoNet Net7.wMany (fun _ => True) "many")) (G_check_names : FnOk P w K mg base (L2.CX P w) 3 A.a_check_names A.d_check_names ["parts"] (Net7.spW (cs A) A.c_NoNet Net7.wName (fun _ => True) "name")) (G_check_bytes : FnOk P w K mg base (L2.CX P w) 3 A.a_check_bytes A.d_check_bytes ["parts"] (Net7.spW (cs A) A.c_NoNet Net7.wBytes (fun _ => True) "bytes")) (G_check_steps : FnOk P w K mg base (L2.CX P w) 4 A.a_check_steps A.d_check_steps ["parts", "agents"] (Net7.spWS (cs A) A.c_NoNet)) (G_check_signals : FnOk P w K mg base (L2.CX P w) 3 A.a_check_signals A.d_check_signals ["parts", "agents"] (Net7.spWA (cs A) A.c_NoNet Net7.wSig (fun _ => True) "signal")) (G_NoNet_init : FnOk P w K mg base CX0 1 A.a_NoNet_init A.d_NoNet_init ["self", "reason", "place"] (Lay.spErr2 A.c_NoNet "reason" "place")) : FnOk P w K mg base (L2.CX P w) 5 A.a_check_parts A.d_check_parts ["parts", "ring"] (Net7.spCkParts (cs A) A.c_NoNet) := by
  refine T.F_check_parts.okX sc_check_parts (fun vs H Q E h => ?_) (fun cdv A0 outer s H vs Q E hr h => ?_)
  · obtain ⟨t, ring, ps, js, rfl, _⟩ := h
    rfl
  · obtain ⟨t, ring, ps, js, rfl, ht, hpj, hdj, qe0, q0⟩ := h
    have C := nc T
    have hlen0 := hpj.length
    have hl30 := hdj.len
    refine ⟨_, (pss_cons (ps_for (passes_of rfl) rfl (Lay.pi_enumT (by rfl) T.n_enumerate (pa_cons (pv 0) pa_nil)) (pg_tup (by rfl) (pgs_cons (pg_name (i := 2) sc_check_parts.nd rfl (Or.inl rfl)) (pgs_cons (pg_name (i := 3) sc_check_parts.nd rfl (Or.inl rfl)) pgs_nil)))
      (pss_one (ps_if (pt_not (pt_val (pe_callB call_isiT (by rfl) T.n_isinstance (by decide +kernel) (pa_cons (pv 3) (pa_cons (pe_tup (pa_cons (pe_glob (v := .ref A.c_Variable) rfl T.g_Variable rfl) (pa_cons (pe_glob (v := .ref A.c_Signal) rfl T.g_Signal rfl) (pa_cons (pe_glob (v := .ref A.c_Agent) rfl T.g_Agent rfl) pa_nil)))) pa_nil)))))
        (pss_one (ps_raise rfl (takes_of rfl rfl rfl rfl) (pmk_oex T.ox_NoNet T.ie_NoNet T.it_NoNet G_NoNet_init (hr.mono (by decide)) T.b_NoNet_init .nil pass0 rfl T.g_NoNet (pa_cons pe_str (pa_cons (pv 2) pa_nil)))))
        pss_nil)))
    (pss_cons (ps_expr (pe_call (E := E) G_check_many (hr.mono (by decide)) rfl T.g_check_many T.F_check_many.kp T.b_check_many .nil (passes_call (takes_of rfl rfl rfl rfl) (fun _ _ _ _ h => h)) (pa_cons (pv 0) pa_nil)))
    (pss_cons (ps_expr (pe_call (E := E) G_check_names (hr.mono (by decide)) rfl T.g_check_names T.F_check_names.kp T.b_check_names .nil (passes_call (takes_of rfl rfl rfl rfl) (fun _ _ _ _ h => h)) (pa_cons (pv 0) pa_nil)))
    (pss_cons (ps_for (passes_of rfl) rfl (Lay.pi_enumT (by rfl) T.n_enumerate (pa_cons (pv 0) pa_nil)) (pg_tup (by rfl) (pgs_cons (pg_name (i := 2) sc_check_parts.nd rfl (Or.inl rfl)) (pgs_cons (pg_name (i := 3) sc_check_parts.nd rfl (Or.inl rfl)) pgs_nil)))
      (pss_one (ps_if (PW.pt (pw_and (pt_val (pe_callB call_isi (by rfl) T.n_isinstance (by decide +kernel) (pa_cons (pv 3) (pa_cons (pe_glob (v := .ref A.c_Variable) rfl T.g_Variable rfl) pa_nil)))) (pw_and1 (pt_cmpR op_notIn_seq (pe_callB Lay.call_lenS (by rfl) T.n_len PySem.boot_len (pa_cons (pe_fld (pv 3) rfl) pa_nil)) (pe_tup (pa_cons pe_int (pa_cons (pv 1) pa_nil))) rfl))))
        (pss_one (ps_raise rfl (takes_of rfl rfl rfl rfl) (pmk_oex T.ox_NoNet T.ie_NoNet T.it_NoNet G_NoNet_init (hr.mono (by decide)) T.b_NoNet_init .nil pass0 rfl T.g_NoNet (pa_cons pe_str (pa_cons (pv 2) pa_nil)))))
        pss_nil)))
    (pss_cons (ps_expr (pe_call (E := E) G_check_bytes (hr.mono (by decide)) rfl T.g_check_bytes T.F_check_bytes.kp T.b_check_bytes .nil (passes_call (takes_of rfl rfl rfl rfl) (fun _ _ _ _ h => h)) (pa_cons (pv 0) pa_nil)))
    (pss_cons (ps_setLc (i := 4) (own := [("part", 3)]) (g := gName 3) rfl sc_check_parts.nd rfl rfl (sw_true rfl rfl rfl (by decide +kernel)) (pi_tup (pv 0)) (blkOk_by (own := [("part", 3)]) (N := ["parts", "ring", "k", "part", "agents"]) (sc := defScope s_check_parts) (by decide +kernel)) (fun _ _ _ _ _ => pg_name (i := 3) sc_check_parts.nd rfl (Or.inl rfl)) (fun _ _ _ _ _ => pts_one (pt_val (pe_callB (r := rIsi K) call_isi (by rfl) T.n_isinstance (by decide +kernel) (pa_cons (pv 3) (pa_cons (pe_glob (v := .ref A.c_Agent) rfl T.g_Agent rfl) pa_nil))))) (fun _ _ _ _ _ => by exact (pv 3)))
    (pss_cons (ps_expr (pe_call (E := E) G_check_steps (hr.mono (by decide)) rfl T.g_check_steps T.F_check_steps.kp T.b_check_steps .nil (passes_call (takes_of rfl rfl rfl rfl) (fun _ _ _ _ h => h)) (pa_cons (pv 0) (pa_cons (pv 4) pa_nil))))
    (pss_one (ps_expr (pe_call (E := E) G_check_signals (hr.mono (by decide)) rfl T.g_check_signals T.F_check_signals.kp T.b_check_signals .nil (passes_call (takes_of rfl rfl rfl rfl) (fun _ _ _ _ h => h)) (pa_cons (pv 0) (pa_cons (pv 4) pa_nil)))))))))))), ?_⟩
    walk_at "in"
    walk_at "rd"
    refine Lay.rd_forW (J := Lay.Itet K t) (H1 := H) (fun R r => ?_) (Lay.walk_enumT (xs := ps)) (fun i σ' H' => (∃ a b, σ' = [some (V.ref t), some (V.int ring), a, b, none]) ∧ L2.Same H H' ∧ ∀ k < i, Net7.hPart js k = false) ⟨⟨_, _, rfl⟩, L2.Same.refl _, fun k hk => absurd hk (Nat.not_lt_zero k)⟩ (fun i σ' H' _ z => SqT.of (z.2.1 _ _ ht)) ?_ ?_
    · walk_at "rd"
      exact ⟨t, _, rfl, SqT.of ht, r⟩
    · rintro i x σ' H2 H3 hi ⟨⟨a, b, rfl⟩, s2, noh⟩ ⟨T0, x1, y1, rfl, hT, rfl, ex, ey⟩
      cases ex
      obtain ⟨jt, ej, pj⟩ := Net7.pget' hpj ey
      have s3 : L2.Same H (upd H2 T0 (.tup [.int (i : Nat), y1])) := s2.trans (Lay.Same.upd hT)
      walk_at "rd"
      generalize upd H2 T0 (.tup [.int (i : Nat), y1]) = HH at s3
      refine ⟨(by show 3 ≤ sizeLine; decide), fun u hu => ?_⟩
      have s4 := s3.trans (Lay.Same.upd (o := .tup [V.ref A.c_Variable, V.ref A.c_Signal, V.ref A.c_Agent]) hu)
      walk_at "rd"
      cases jt with
      | it it =>
        obtain ⟨x0, dx, fs, rfl, hx, hn⟩ := NetL.PartAt.ins pj
        refine NetL.rd_isiT true upd_same (.cons (.own _) (.cons (.own _) (.cons (.own _) .nil))) (C.ty _ _ dx fs it (s4 _ _ hx)) (NetL.kit3 (C.kv it) (C.ks it) (C.ka it) (by cases it <;> rfl)) ?_
        walk_at "it"
        refine ⟨⟨_, _, rfl⟩, s4, fun k hk => ?_⟩
        by_cases z : k < i
        · exact noh k z
        · obtain rfl : k = i := by omega
          unfold Net7.hPart
          rw [ej]
      | th v =>
        obtain ⟨rfl, kz⟩ := pj
        obtain ⟨tk, kd, _⟩ := kz.mono s4
        refine NetL.rd_isiT false upd_same (.cons (.own _) (.cons (.own _) (.cons (.own _) .nil))) kd.ty (prim_no T tk) ?_
        walk_at "it"
        have hw : Net7.wPart js = some i := Net7.find_hit noh (by unfold Net7.hPart; rw [ej]) (by omega)
        have ze : Lay.ErrW A.c_NoNet E H [("place", .int ((i : Nat) : Int)), ("reason", .str "part")] := qe0 "part" (.at i) (Net7.orE_some hw)
        refine Lay.rd_mkO ?_
        walk_at "rd"
        exact Lay.mk_err2 (fun d H' hd s' e => ze d H' (Lay.none_of s4 hd) (s4.trans s') e)
    · rintro σ' H2 ⟨⟨a, b, rfl⟩, s2, noh⟩
      have w0 : Net7.wPart js = none := Net7.find_no (by rw [← hlen0]; exact noh)
      have hjs : js = (Net7.strip js).map .it := Net7.no_part (by rw [← hlen0]; exact noh)
      have hd0 : Net7.Dec (Net7.strip js) := Net7.strip_dec hdj
      have hp : NetL.PartsAt (cs A) H ps (Net7.strip js) := Net7.pjs_it (by rw [← hjs]; exact hpj)
      have qe : ∀ r p, Net7.why ring (Net7.strip js) = some (r, p) → Net7.RaiseW A.c_NoNet E H r p := fun r p h => qe0 r p ((Net7.orE_none w0).trans h)
      have q : Net7.why ring (Net7.strip js) = none → ∀ H', L2.Same H H' → Q V.non H' := fun h => q0 ((Net7.orE_none w0).trans h)
      clear qe0 q0 noh
      generalize Net7.strip js = its at hd0 hp qe q
      have hlen := hp.length
      have hl := hd0.len
      walk_at "rd"
      refine ⟨t, ps, its, rfl, s2 _ _ ht, hp.mono s2, hd0, trivial, fun k hk => Net7.RaiseW.mono s2 (qe "many" (.at k) (Net7.why_many hk)), fun n1 H3 s3 => ?_⟩
      walk_at "rd"
      have S3 := s2.trans s3
      refine ⟨t, ps, its, rfl, S3 _ _ ht, hp.mono S3, hd0, trivial, fun k hk => Net7.RaiseW.mono S3 (qe "name" (.at k) (Net7.why_name n1 hk)), fun n2 H4 s4 => ?_⟩
      have S4 := S3.trans s4
      walk_at "rd"
      refine Lay.rd_forW (J := Lay.Itet K t) (H1 := H4) (fun R r => ?_) (Lay.walk_enumT (xs := ps)) (fun i σ' H' => (∃ a b, σ' = [some (V.ref t), some (V.int ring), a, b, none]) ∧ L2.Same H4 H' ∧ ∀ k < i, Net7.hSlots ring its k = false) ⟨⟨_, _, rfl⟩, L2.Same.refl _, fun k hk => absurd hk (Nat.not_lt_zero k)⟩ (fun i σ' H' _ z => SqT.of (z.2.1 _ _ (S4 _ _ ht))) ?_ ?_
      · walk_at "rd"
        exact ⟨t, _, rfl, SqT.of (S4 _ _ ht), r⟩
      · rintro i x σ' H5 H6 hi ⟨⟨a, b, rfl⟩, s5, noh⟩ ⟨T0, x1, y1, rfl, hT, rfl, ex, ey⟩
        cases ex
        obtain ⟨it, ei, pa⟩ := NetL.pget hp ey
        obtain ⟨x0, dx, fs, rfl, hx, hn⟩ := pa.ins
        have s6 : L2.Same H4 (upd H5 T0 (.tup [.int (i : Nat), V.ref x0])) := s5.trans (Lay.Same.upd hT)
        walk_at "rd"
        generalize upd H5 T0 (.tup [.int (i : Nat), V.ref x0]) = HH at s6
        have S6 := S4.trans s6
        refine Lay.rd_isiC (C.ty _ _ dx fs it (S6 _ _ hx)) (C.kv it) ?_
        have noh2 : Net7.hSlots ring its i = false → ∀ k < i + 1, Net7.hSlots ring its k = false := fun hh k hk => by
          by_cases z : k < i
          · exact noh k z
          · obtain rfl : k = i := by omega
            exact hh
        cases it with
        | ag z k ls =>
          refine ⟨false, rfl, ?_⟩
          refine iteF ?_
          walk_at "it"
          exact ⟨⟨_, _, rfl⟩, s6, noh2 (by unfold Net7.hSlots; rw [ei])⟩
        | sg z tk =>
          refine ⟨false, rfl, ?_⟩
          refine iteF ?_
          walk_at "it"
          exact ⟨⟨_, _, rfl⟩, s6, noh2 (by unfold Net7.hSlots; rw [ei])⟩
        | vr z s0 ats =>
        refine ⟨true, rfl, ?_⟩
        refine iteT ?_
        obtain ⟨xx, e0, dv, ta, f1, f2⟩ := pa
        cases e0
        have hval : Net7.hSlots ring its i = !decide ((ats.length : Int) ∈ ([1, ring] : List Int)) := by unfold Net7.hSlots; rw [ei]
        walk_at "rd"
        refine Lay.rd_tFld ?_
        walk_at "rd"
        refine ⟨x0, _, dv, _, .ref ta, rfl, S6 _ _ f1, T.cl_Variable, T.na_Variable_at, by rfl, ?_⟩
        walk_at "rd"
        refine Lay.rd_lenT (SqT.of (S6 _ _ f2)) ?_
        walk_at "rd"
        refine ⟨(by show 2 ≤ sizeLine; decide), fun u hu => ?_⟩
        have s7 := s6.trans (Lay.Same.upd (o := .tup [V.int 1, V.int ring]) hu)
        walk_at "rd"
        refine Lay.rd_notInI (ns := [1, ring]) (SqT.of upd_same) ?_
        rw [List.length_map, ← hval]
        cases hh : Net7.hSlots ring its i with
        | true =>
          walk_at "it"
          have hw : Net7.wSlots ring its = some i := Net7.find_hit noh hh (by omega)
          have ze : Lay.ErrW A.c_NoNet E H [("place", .int ((i : Nat) : Int)), ("reason", .str "slots")] := qe "slots" (.at i) (Net7.why_slots n1 n2 hw)
          have S7 := S4.trans s7
          refine Lay.rd_mkO ?_
          walk_at "rd"
          exact Lay.mk_err2 (fun d H' hd s' e => ze d H' (Lay.none_of S7 hd) (S7.trans s') e)
        | false =>
          walk_at "it"
          exact ⟨⟨_, _, rfl⟩, s7, noh2 hh⟩
      · rintro σ' H5 ⟨⟨a, b, rfl⟩, s5, noh⟩
        have n3 : Net7.wSlots ring its = none := Net7.find_no (by rw [← hlen]; exact noh)
        have S5 := S4.trans s5
        walk_at "rd"
        refine ⟨t, ps, its, rfl, S5 _ _ ht, hp.mono S5, hd0, trivial, fun k hk => Net7.RaiseW.mono S5 (qe "bytes" (.at k) (Net7.why_bytes n1 n2 n3 hk)), fun n4 H6 s6 => ?_⟩
        have S6 := S5.trans s6
        walk_at "rd"
        refine ⟨⟨_, SqT.of (S6 _ _ ht)⟩, ?_⟩
        intro M hM
        refine Lay.lc_go (walk_tup (xs := ps)) (fun i l H' => L2.Same H6 H' ∧ NetL.PartsAt (cs A) H6 l ((its.take i).filter NetL.It.isA)) ⟨Lay.Same.upd hM, .nil⟩ (fun i l H' _ r => SqT.of (r.1 _ _ (S6 _ _ ht))) ?_ ?_
        · rintro i l x H7 H8 hi hl' hz' ⟨q1, q2⟩ ⟨rfl, ey⟩
          obtain ⟨it, ei, pa⟩ := NetL.pget hp ey
          obtain ⟨x0, dx, fs, rfl, hx, hn⟩ := pa.ins
          have S8 := S6.trans q1
          have fs1 := NetL.filt_succ (p := NetL.It.isA) ei
          walk_at "rd"
          refine ⟨rfl, ?_⟩
          walk_at "rd"
          refine Lay.rd_isiC (C.ty _ _ dx fs it (S8 _ _ hx)) (C.ka it) ?_
          refine ⟨it.isA, rfl, ?_⟩
          by_cases hs : it.isA = true
          · rw [hs] at fs1 ⊢
            refine iteT ?_
            walk_at "rd"
            have keepM : ∀ {o : HO}, L2.Same H6 (upd H8 M o) := fun b o hb => by
              rw [upd_ne (fun y => by subst y; rw [hM] at hb; cases hb)]
              exact q1 b o hb
            refine Lay.lc_put hl' hz' (by omega) ⟨keepM, ?_⟩
            rw [fs1, if_pos rfl]
            exact NetL.parts_snoc q2 (pa.mono S6)
          · rw [Bool.eq_false_iff.mpr hs] at fs1 ⊢
            refine iteF ?_
            refine Lay.lc_skip hl' hz' ⟨q1, ?_⟩
            rw [fs1, if_neg (by decide), List.append_nil]
            exact q2
        · rintro l H7 hl7 hz7 ⟨q1, q2⟩
          rw [List.take_of_length_le (by omega)] at q2
          have S7 := S6.trans q1
          walk_at "rd"
          refine ⟨t, M, ps, l, its, rfl, S7 _ _ ht, hl7, hp.mono S7, q2.mono q1, hd0, Net7.nd_of n2, fun i j hk => Net7.RaiseW.mono S7 (qe "step" (.two i j) (Net7.why_step n1 n2 n3 n4 hk)), fun n5 H8 s8 => ?_⟩
          have S8 := S7.trans s8
          walk_at "rd"
          refine ⟨t, M, ps, l, its, rfl, S8 _ _ ht, s8 _ _ hl7, hp.mono S8, (q2.mono q1).mono s8, hd0, trivial, fun k hk => Net7.RaiseW.mono S8 (qe "signal" (.at k) (Net7.why_sig n1 n2 n3 n4 n5 hk)), fun n6 H9 s9 => ?_⟩
          exact q (Net7.why_no n1 n2 n3 n4 n5 n6) H9 (S8.trans s9)
theorem body_Net_init (T : Txt K mg A) (G_is_integer : FnOk P w K mg base CX0 1 A.a_is_integer A.d_is_integer ["value"] Lay.spIsInteger) (G_is_within : FnOk P w K mg base CX0 2 A.a_is_within A.d_is_within ["value", "low", "high"] Lay.spIsWithin) (G_check_parts : FnOk P w K mg base (L2.CX P w) 5 A.a_check_parts A.d_check_parts ["parts", "ring"] (Net7.spCkParts (cs A) A.c_NoNet)) (G_NoNet_init : FnOk P w K mg base CX0 1 A.a_NoNet_init A.d_NoNet_init ["self", "reason", "place"] (Lay.spErr2 A.c_NoNet "reason" "place")) : ∀ (cdv : Value) (A0 : Around) (outer : List Env) (s : Shared) (H : Hp) (vs : List V) (Q : VK) (E : XK), Room 6 (A0.deeper (PyProof.Rows.envOfC "Net.__init__" (defScope s_Net_init) s.heap.objs.size A.a_Net_init cdv)) → Net7.spNetI (cs A) A.c_Net A.c_NoNet vs H Q E →
    ∃ t, PSs (cxOf (L2.CX P w) P w K mg base ["self", "line", "ring", "parts", "part"] "Net.__init__" (defScope s_Net_init) A.a_Net_init cdv A0 outer s H E) (defBody s_Net_init) t ∧ t { nx := fun _ H' => Q .non H', rt := Q } (start ["self", "line", "ring", "parts", "part"] vs) H := by
    intro cdv A0 outer s H vs Q E hr h
    obtain ⟨H0, x, dx, lv, rv, t, ps, js, rfl, h0x, sH, hx, kl, kr, ht, hpj, hdj, qe, q0⟩ := h
    have C := nc T
    have htx : t ≠ x := fun e => by subst e; rw [hx] at ht; cases ht
    obtain ⟨tl, kdl, _⟩ := id kl
    obtain ⟨tr, kdr, _⟩ := id kr
    refine ⟨_, (pss_cons (ps_if (PW.pt (pw_or (pt_not (pt_val (pe_call G_is_integer (hr.mono (by decide)) rfl T.g_is_integer T.F_is_integer.kp T.b_is_integer .nil pass0 (pa_cons (pv 1) pa_nil)))) (pw_or1 (pt_cmpR op_notIn_seq (pv 1) (pe_con (pv 0) rfl) rfl))))
      (pss_one (ps_raise rfl (takes_of rfl rfl rfl rfl) (pmk_oex T.ox_NoNet T.ie_NoNet T.it_NoNet G_NoNet_init (hr.mono (by decide)) T.b_NoNet_init .nil pass0 rfl T.g_NoNet (pa_cons pe_str (pa_cons pe_non pa_nil)))))
      pss_nil)
    (pss_cons (ps_if (pt_not (pt_val (pe_call G_is_within (hr.mono (by decide)) rfl T.g_is_within T.F_is_within.kp T.b_is_within .nil pass0 (pa_cons (pv 2) (pa_cons pe_int (pa_cons (pe_glob (v := .int 4) rfl T.k_LONGEST_RING ⟨_, rfl⟩) pa_nil))))))
      (pss_one (ps_raise rfl (takes_of rfl rfl rfl rfl) (pmk_oex T.ox_NoNet T.ie_NoNet T.it_NoNet G_NoNet_init (hr.mono (by decide)) T.b_NoNet_init .nil pass0 rfl T.g_NoNet (pa_cons pe_str (pa_cons pe_non pa_nil)))))
      pss_nil)
    (pss_cons (ps_expr (pe_call (E := E) G_check_parts (hr.mono (by decide)) rfl T.g_check_parts T.F_check_parts.kp T.b_check_parts .nil (passes_call (takes_of rfl rfl rfl rfl) (fun _ _ _ _ h => h)) (pa_cons (pv 3) (pa_cons (pv 2) pa_nil))))
    (pss_cons (ps_fld (pv 0) (pv 1) rfl)
    (pss_cons (ps_fld (pv 0) (pv 2) rfl)
    (pss_cons (ps_fld (pv 0) (pe_callTy Lay.call_tupS (by rfl) T.n_tuple (by decide +kernel) (pa_cons (pe_lc (own := [("part", 4)]) (g := gName 4) rfl sc_Net_init.nd (pi_tup (pv 3)) (blkOk_by (own := [("part", 4)]) (N := ["self", "line", "ring", "parts", "part"]) (sc := defScope s_Net_init) (by decide +kernel)) (fun _ _ _ _ _ => pg_name (i := 4) sc_Net_init.nd rfl (Or.inl rfl)) (fun _ _ _ _ _ => pts_one (pt_val (pe_callB (r := rIsi K) call_isi (by rfl) T.n_isinstance (by decide +kernel) (pa_cons (pv 4) (pa_cons (pe_glob (v := .ref A.c_Variable) rfl T.g_Variable rfl) pa_nil))))) (fun _ _ _ _ _ => by exact (pv 4))) pa_nil)) rfl)
    (pss_cons (ps_fld (pv 0) (pe_callTy Lay.call_tupS (by rfl) T.n_tuple (by decide +kernel) (pa_cons (pe_lc (own := [("part", 4)]) (g := gName 4) rfl sc_Net_init.nd (pi_tup (pv 3)) (blkOk_by (own := [("part", 4)]) (N := ["self", "line", "ring", "parts", "part"]) (sc := defScope s_Net_init) (by decide +kernel)) (fun _ _ _ _ _ => pg_name (i := 4) sc_Net_init.nd rfl (Or.inl rfl)) (fun _ _ _ _ _ => pts_one (pt_val (pe_callB (r := rIsi K) call_isi (by rfl) T.n_isinstance (by decide +kernel) (pa_cons (pv 4) (pa_cons (pe_glob (v := .ref A.c_Signal) rfl T.g_Signal rfl) pa_nil))))) (fun _ _ _ _ _ => by exact (pv 4))) pa_nil)) rfl)
    (pss_cons (ps_fld (pv 0) (pe_callTy Lay.call_tupS (by rfl) T.n_tuple (by decide +kernel) (pa_cons (pe_lc (own := [("part", 4)]) (g := gName 4) rfl sc_Net_init.nd (pi_tup (pv 3)) (blkOk_by (own := [("part", 4)]) (N := ["self", "line", "ring", "parts", "part"]) (sc := defScope s_Net_init) (by decide +kernel)) (fun _ _ _ _ _ => pg_name (i := 4) sc_Net_init.nd rfl (Or.inl rfl)) (fun _ _ _ _ _ => pts_one (pt_val (pe_callB (r := rIsi K) call_isi (by rfl) T.n_isinstance (by decide +kernel) (pa_cons (pv 4) (pa_cons (pe_glob (v := .ref A.c_Agent) rfl T.g_Agent rfl) pa_nil))))) (fun _ _ _ _ _ => by exact (pv 4))) pa_nil)) rfl)
    (pss_one (ps_fld (pv 0) (pe_dc (own := [("part", 4)]) (g := gName 4) (tt := tYes) rfl sc_Net_init.nd (pi_tup (pv 3)) (blkOk_by (own := [("part", 4)]) (N := ["self", "line", "ring", "parts", "part"]) (sc := defScope s_Net_init) (by decide +kernel)) (fun _ _ _ _ _ => pg_name (i := 4) sc_Net_init.nd rfl (Or.inl rfl)) (fun _ _ _ _ _ => pts_nil) (fun _ _ _ _ _ => (show PE _ _ (tFld K (tVar 4) "name") from pe_fld (pv 4) rfl)) (fun _ _ _ _ _ => (pv 4))) rfl)))))))))), ?_⟩
    walk_at "in"
    walk_at "rd"
    refine ⟨lv, tl, rfl, kdl, ?_⟩
    walk_at "rd"
    cases hi : Lay.isInt lv with
    | false =>
      have hol : Net7.okLine lv = false := by
        cases lv with
        | int i => cases hi
        | _ => rfl
      walk_at "it"
      have ze : Lay.ErrW A.c_NoNet E H0 [("place", .non), ("reason", .str "line")] := qe "line" .no (Net7.whyN_line hol)
      refine Lay.rd_mkO ?_
      walk_at "rd"
      exact Lay.mk_err2 (fun d H' hd s' e => ze d H' (Lay.none_of sH hd) ((sH).trans s') e)
    | true =>
    obtain ⟨ln, rfl⟩ := Net7.isInt_int hi
    walk_at "it"
    walk_at "rd"
    refine Lay.rd_tCon ?_
    walk_at "rd"
    obtain ⟨ul, cl⟩ := T.co_LINES
    refine ⟨x, _, dx, [], _, ul, rfl, hx, T.cl_Net, cl, by rfl, ?_⟩
    refine Lay.rd_notInI (ns := [1, 2, 4, 8, 16]) (T.q_LINES _) ?_
    rw [show decide (ln ∈ ([1, 2, 4, 8, 16] : List Int)) = Net7.okLine (.int ln) from rfl]
    cases hol : Net7.okLine (.int ln) with
    | false =>
      walk_at "it"
      have ze : Lay.ErrW A.c_NoNet E H0 [("place", .non), ("reason", .str "line")] := qe "line" .no (Net7.whyN_line hol)
      refine Lay.rd_mkO ?_
      walk_at "rd"
      exact Lay.mk_err2 (fun d H' hd s' e => ze d H' (Lay.none_of sH hd) ((sH).trans s') e)
    | true =>
    walk_at "it"
    refine ⟨rv, tr, 1, 4, rfl, kdr, ?_⟩
    rw [show Lay.within rv 1 4 = Net7.okRing rv from rfl]
    cases hor : Net7.okRing rv with
    | false =>
      walk_at "it"
      have ze : Lay.ErrW A.c_NoNet E H0 [("place", .non), ("reason", .str "ring")] := qe "ring" .no (Net7.whyN_ring hol hor)
      refine Lay.rd_mkO ?_
      walk_at "rd"
      exact Lay.mk_err2 (fun d H' hd s' e => ze d H' (Lay.none_of sH hd) ((sH).trans s') e)
    | true =>
    obtain ⟨rg, rfl, r1, r4⟩ := Net7.within_int hor
    have lok0 : ln ∈ ([1, 2, 4, 8, 16] : List Int) := of_decide_eq_true hol
    have lok : NetL.lineOk ln := lok0
    walk_at "it"
    refine ⟨t, rg, ps, js, rfl, ht, hpj.mono sH, hdj, fun rs pl hk => Net7.RaiseW.mono sH (qe rs pl ((Net7.whyN_ok hol hor).trans hk)), fun hno H1 s1 => ?_⟩
    obtain ⟨_, _, e1, e2, _, _, _, hjs, hg⟩ := Net7.whyN_none hdj ((Net7.whyN_ok hol hor).trans hno)
    cases e1
    cases e2
    have q := fun H' n s => q0 ln rg (Net7.strip js) rfl rfl hjs ((Net7.whyN_ok hol hor).trans hno) lok r1 r4 hg H' n s
    have hp : NetL.PartsAt (cs A) H0 ps (Net7.strip js) := Net7.pjs_it (by rw [← hjs]; exact hpj)
    clear qe q0
    generalize Net7.strip js = its at hg q hp
    have hlen := hp.length
    have hl : ps.length ≤ 16 := by rw [hlen]; exact Net7.good_len hg
    have hx1 := s1 _ _ hx
    have t1 := s1 _ _ ht
    have S1 := sH.trans s1
    have keepH : ∀ {Hx : Hp}, L2.Same H0 Hx → L2.Same H0 Hx := fun s => s
    walk_at "rd"
    refine Lay.rd_sFld ?_
    walk_at "rd"
    refine ⟨x, A.c_Net, dx, [], rfl, hx1, T.cl_Net, T.na_Net_line, (by show 0 < 1000; decide), ?_⟩
    walk_at "rd"
    refine Lay.rd_sFld ?_
    walk_at "rd"
    refine ⟨x, A.c_Net, dx, _, rfl, upd_same, T.cl_Net, T.na_Net_ring, (by show 1 < 1000; decide), ?_⟩
    have keepx : ∀ {Hx : Hp} {o : HO}, L2.Same H0 Hx → L2.Same H0 (upd Hx x o) := fun s b o hb => by
      rw [upd_ne (fun y => by subst y; rw [h0x] at hb; cases hb)]
      exact s b o hb
    have s2 := keepx (o := HO.ins A.c_Net dx (putF "ring" (V.int rg) (putF "line" (V.int ln) []))) (keepx (o := HO.ins A.c_Net dx (putF "line" (V.int ln) [])) S1)
    have t2 : (upd (upd H1 x (HO.ins A.c_Net dx (putF "line" (V.int ln) []))) x (HO.ins A.c_Net dx (putF "ring" (V.int rg) (putF "line" (V.int ln) [])))) t = some (.tup ps) := by
      rw [upd_ne htx, upd_ne htx]; exact t1
    have hx2 : (upd (upd H1 x (HO.ins A.c_Net dx (putF "line" (V.int ln) []))) x (HO.ins A.c_Net dx (putF "ring" (V.int rg) (putF "line" (V.int ln) [])))) x = _ := upd_same
    walk_at "rd"
    generalize upd (upd H1 x (HO.ins A.c_Net dx (putF "line" (V.int ln) []))) x (HO.ins A.c_Net dx (putF "ring" (V.int rg) (putF "line" (V.int ln) []))) = H2 at s2 t2 hx2 ⊢
    refine Lay.rd_sFld ?_
    walk_at "rd"
    refine ⟨⟨_, SqT.of t2⟩, ?_⟩
    intro M2 hM2
    refine Lay.lc_go (walk_tup (xs := ps)) (fun i l H' => L2.Same H2 H' ∧ l = NetL.sel NetL.It.isV (its.take i) (ps.take i)) ⟨Lay.Same.upd hM2, rfl⟩ (fun i l H' _ r => SqT.of (r.1 _ _ t2)) ?_ ?_
    · rintro i l y HA HB hi hl' hz' ⟨q1, q2⟩ ⟨rfl, ey⟩
      obtain ⟨it, ei, pa⟩ := NetL.pget hp ey
      obtain ⟨x0, dx0, fs0, rfl, hx0, hn0⟩ := pa.ins
      have SB := s2.trans q1
      have fs1 := NetL.sel_succ NetL.It.isV ei ey
      walk_at "rd"
      refine ⟨rfl, ?_⟩
      walk_at "rd"
      refine Lay.rd_isiC (C.ty _ _ dx0 fs0 it (SB _ _ hx0)) (C.kv it) ?_
      refine ⟨it.isV, rfl, ?_⟩
      by_cases hs : it.isV = true
      · rw [hs] at fs1 ⊢
        refine iteT ?_
        walk_at "rd"
        have keepM : ∀ {o : HO}, L2.Same H2 (upd HB M2 o) := fun b o hb => by
          rw [upd_ne (fun y => by subst y; rw [hM2] at hb; cases hb)]
          exact q1 b o hb
        refine Lay.lc_put hl' hz' (by omega) ⟨keepM, ?_⟩
        rw [fs1, if_pos rfl, q2]
      · rw [Bool.eq_false_iff.mpr hs] at fs1 ⊢
        refine iteF ?_
        refine Lay.lc_skip hl' hz' ⟨q1, ?_⟩
        rw [fs1, if_neg (by decide), List.append_nil]
        exact q2
    rintro l2 HA2 hl2 hz2 ⟨q2, e2⟩
    rw [List.take_of_length_le (by omega), List.take_of_length_le (by omega)] at e2
    subst e2
    walk_at "rd"
    refine Lay.rd_tupL (SqL.of hl2) (fun u2 hu2 => ?_)
    walk_at "rd"
    have sx2 := s2.trans (q2.trans (Lay.Same.upd (o := .tup (NetL.sel NetL.It.isV its ps)) hu2))
    have ux2 : u2 ≠ x := Lay.ne_none hu2 (q2 _ _ hx2)
    refine ⟨x, A.c_Net, dx, _, rfl, Lay.upd_old hu2 (q2 _ _ hx2), T.cl_Net, T.na_Net_variables, (by show 2 < 1000; decide), ?_⟩
    have hx3 : (upd (upd HA2 u2 (.tup (NetL.sel NetL.It.isV its ps))) x (HO.ins A.c_Net dx (putF "variables" (V.ref u2) (putF "ring" (V.int rg) (putF "line" (V.int ln) []))))) x = _ := upd_same
    have t3 : (upd (upd HA2 u2 (.tup (NetL.sel NetL.It.isV its ps))) x (HO.ins A.c_Net dx (putF "variables" (V.ref u2) (putF "ring" (V.int rg) (putF "line" (V.int ln) []))))) t = some (.tup ps) := by
      rw [upd_ne htx]; exact Lay.upd_old hu2 (q2 _ _ t2)
    have v3 : (upd (upd HA2 u2 (.tup (NetL.sel NetL.It.isV its ps))) x (HO.ins A.c_Net dx (putF "variables" (V.ref u2) (putF "ring" (V.int rg) (putF "line" (V.int ln) []))))) u2 = some (.tup (NetL.sel NetL.It.isV its ps)) := by
      rw [upd_ne ux2]; exact upd_same
    have s3 := keepx (o := HO.ins A.c_Net dx (putF "variables" (V.ref u2) (putF "ring" (V.int rg) (putF "line" (V.int ln) [])))) sx2
    have old3 : ∀ b o, b ≠ x → H2 b = some o → (upd (upd HA2 u2 (.tup (NetL.sel NetL.It.isV its ps))) x (HO.ins A.c_Net dx (putF "variables" (V.ref u2) (putF "ring" (V.int rg) (putF "line" (V.int ln) []))))) b = some o := fun b o nb hb => by
      rw [upd_ne nb]; exact Lay.upd_old hu2 (q2 _ _ hb)
    walk_at "rd"
    generalize upd (upd HA2 u2 (.tup (NetL.sel NetL.It.isV its ps))) x (HO.ins A.c_Net dx (putF "variables" (V.ref u2) (putF "ring" (V.int rg) (putF "line" (V.int ln) [])))) = H3 at s3 t3 hx3 v3 old3 ⊢
    refine Lay.rd_sFld ?_
    walk_at "rd"
    refine ⟨⟨_, SqT.of t3⟩, ?_⟩
    intro M3 hM3
    refine Lay.lc_go (walk_tup (xs := ps)) (fun i l H' => L2.Same H3 H' ∧ l = NetL.sel NetL.It.isS (its.take i) (ps.take i)) ⟨Lay.Same.upd hM3, rfl⟩ (fun i l H' _ r => SqT.of (r.1 _ _ t3)) ?_ ?_
    · rintro i l y HA HB hi hl' hz' ⟨q1, q2⟩ ⟨rfl, ey⟩
      obtain ⟨it, ei, pa⟩ := NetL.pget hp ey
      obtain ⟨x0, dx0, fs0, rfl, hx0, hn0⟩ := pa.ins
      have SB := s3.trans q1
      have fs1 := NetL.sel_succ NetL.It.isS ei ey
      walk_at "rd"
      refine ⟨rfl, ?_⟩
      walk_at "rd"
      refine Lay.rd_isiC (C.ty _ _ dx0 fs0 it (SB _ _ hx0)) (C.ks it) ?_
      refine ⟨it.isS, rfl, ?_⟩
      by_cases hs : it.isS = true
      · rw [hs] at fs1 ⊢
        refine iteT ?_
        walk_at "rd"
        have keepM : ∀ {o : HO}, L2.Same H3 (upd HB M3 o) := fun b o hb => by
          rw [upd_ne (fun y => by subst y; rw [hM3] at hb; cases hb)]
          exact q1 b o hb
        refine Lay.lc_put hl' hz' (by omega) ⟨keepM, ?_⟩
        rw [fs1, if_pos rfl, q2]
      · rw [Bool.eq_false_iff.mpr hs] at fs1 ⊢
        refine iteF ?_
        refine Lay.lc_skip hl' hz' ⟨q1, ?_⟩
        rw [fs1, if_neg (by decide), List.append_nil]
        exact q2
    rintro l3 HA3 hl3 hz3 ⟨q3, e3⟩
    rw [List.take_of_length_le (by omega), List.take_of_length_le (by omega)] at e3
    subst e3
    walk_at "rd"
    refine Lay.rd_tupL (SqL.of hl3) (fun u3 hu3 => ?_)
    walk_at "rd"
    have sx3 := s3.trans (q3.trans (Lay.Same.upd (o := .tup (NetL.sel NetL.It.isS its ps)) hu3))
    have ux3 : u3 ≠ x := Lay.ne_none hu3 (q3 _ _ hx3)
    refine ⟨x, A.c_Net, dx, _, rfl, Lay.upd_old hu3 (q3 _ _ hx3), T.cl_Net, T.na_Net_signals, (by show 3 < 1000; decide), ?_⟩
    have hx4 : (upd (upd HA3 u3 (.tup (NetL.sel NetL.It.isS its ps))) x (HO.ins A.c_Net dx (putF "signals" (V.ref u3) (putF "variables" (V.ref u2) (putF "ring" (V.int rg) (putF "line" (V.int ln) [])))))) x = _ := upd_same
    have t4 : (upd (upd HA3 u3 (.tup (NetL.sel NetL.It.isS its ps))) x (HO.ins A.c_Net dx (putF "signals" (V.ref u3) (putF "variables" (V.ref u2) (putF "ring" (V.int rg) (putF "line" (V.int ln) [])))))) t = some (.tup ps) := by
      rw [upd_ne htx]; exact Lay.upd_old hu3 (q3 _ _ t3)
    have v4 : (upd (upd HA3 u3 (.tup (NetL.sel NetL.It.isS its ps))) x (HO.ins A.c_Net dx (putF "signals" (V.ref u3) (putF "variables" (V.ref u2) (putF "ring" (V.int rg) (putF "line" (V.int ln) [])))))) u3 = some (.tup (NetL.sel NetL.It.isS its ps)) := by
      rw [upd_ne ux3]; exact upd_same
    have s4 := keepx (o := HO.ins A.c_Net dx (putF "signals" (V.ref u3) (putF "variables" (V.ref u2) (putF "ring" (V.int rg) (putF "line" (V.int ln) []))))) sx3
    have old4 : ∀ b o, b ≠ x → H3 b = some o → (upd (upd HA3 u3 (.tup (NetL.sel NetL.It.isS its ps))) x (HO.ins A.c_Net dx (putF "signals" (V.ref u3) (putF "variables" (V.ref u2) (putF "ring" (V.int rg) (putF "line" (V.int ln) [])))))) b = some o := fun b o nb hb => by
      rw [upd_ne nb]; exact Lay.upd_old hu3 (q3 _ _ hb)
    walk_at "rd"
    generalize upd (upd HA3 u3 (.tup (NetL.sel NetL.It.isS its ps))) x (HO.ins A.c_Net dx (putF "signals" (V.ref u3) (putF "variables" (V.ref u2) (putF "ring" (V.int rg) (putF "line" (V.int ln) []))))) = H4 at s4 t4 hx4 v4 old4 ⊢
    refine Lay.rd_sFld ?_
    walk_at "rd"
    refine ⟨⟨_, SqT.of t4⟩, ?_⟩
    intro M4 hM4
    refine Lay.lc_go (walk_tup (xs := ps)) (fun i l H' => L2.Same H4 H' ∧ l = NetL.sel NetL.It.isA (its.take i) (ps.take i)) ⟨Lay.Same.upd hM4, rfl⟩ (fun i l H' _ r => SqT.of (r.1 _ _ t4)) ?_ ?_
    · rintro i l y HA HB hi hl' hz' ⟨q1, q2⟩ ⟨rfl, ey⟩
      obtain ⟨it, ei, pa⟩ := NetL.pget hp ey
      obtain ⟨x0, dx0, fs0, rfl, hx0, hn0⟩ := pa.ins
      have SB := s4.trans q1
      have fs1 := NetL.sel_succ NetL.It.isA ei ey
      walk_at "rd"
      refine ⟨rfl, ?_⟩
      walk_at "rd"
      refine Lay.rd_isiC (C.ty _ _ dx0 fs0 it (SB _ _ hx0)) (C.ka it) ?_
      refine ⟨it.isA, rfl, ?_⟩
      by_cases hs : it.isA = true
      · rw [hs] at fs1 ⊢
        refine iteT ?_
        walk_at "rd"
        have keepM : ∀ {o : HO}, L2.Same H4 (upd HB M4 o) := fun b o hb => by
          rw [upd_ne (fun y => by subst y; rw [hM4] at hb; cases hb)]
          exact q1 b o hb
        refine Lay.lc_put hl' hz' (by omega) ⟨keepM, ?_⟩
        rw [fs1, if_pos rfl, q2]
      · rw [Bool.eq_false_iff.mpr hs] at fs1 ⊢
        refine iteF ?_
        refine Lay.lc_skip hl' hz' ⟨q1, ?_⟩
        rw [fs1, if_neg (by decide), List.append_nil]
        exact q2
    rintro l4 HA4 hl4 hz4 ⟨q4, e4⟩
    rw [List.take_of_length_le (by omega), List.take_of_length_le (by omega)] at e4
    subst e4
    walk_at "rd"
    refine Lay.rd_tupL (SqL.of hl4) (fun u4 hu4 => ?_)
    walk_at "rd"
    have sx4 := s4.trans (q4.trans (Lay.Same.upd (o := .tup (NetL.sel NetL.It.isA its ps)) hu4))
    have ux4 : u4 ≠ x := Lay.ne_none hu4 (q4 _ _ hx4)
    refine ⟨x, A.c_Net, dx, _, rfl, Lay.upd_old hu4 (q4 _ _ hx4), T.cl_Net, T.na_Net_agents, (by show 4 < 1000; decide), ?_⟩
    have hx5 : (upd (upd HA4 u4 (.tup (NetL.sel NetL.It.isA its ps))) x (HO.ins A.c_Net dx (putF "agents" (V.ref u4) (putF "signals" (V.ref u3) (putF "variables" (V.ref u2) (putF "ring" (V.int rg) (putF "line" (V.int ln) []))))))) x = _ := upd_same
    have t5 : (upd (upd HA4 u4 (.tup (NetL.sel NetL.It.isA its ps))) x (HO.ins A.c_Net dx (putF "agents" (V.ref u4) (putF "signals" (V.ref u3) (putF "variables" (V.ref u2) (putF "ring" (V.int rg) (putF "line" (V.int ln) []))))))) t = some (.tup ps) := by
      rw [upd_ne htx]; exact Lay.upd_old hu4 (q4 _ _ t4)
    have v5 : (upd (upd HA4 u4 (.tup (NetL.sel NetL.It.isA its ps))) x (HO.ins A.c_Net dx (putF "agents" (V.ref u4) (putF "signals" (V.ref u3) (putF "variables" (V.ref u2) (putF "ring" (V.int rg) (putF "line" (V.int ln) []))))))) u4 = some (.tup (NetL.sel NetL.It.isA its ps)) := by
      rw [upd_ne ux4]; exact upd_same
    have s5 := keepx (o := HO.ins A.c_Net dx (putF "agents" (V.ref u4) (putF "signals" (V.ref u3) (putF "variables" (V.ref u2) (putF "ring" (V.int rg) (putF "line" (V.int ln) [])))))) sx4
    have old5 : ∀ b o, b ≠ x → H4 b = some o → (upd (upd HA4 u4 (.tup (NetL.sel NetL.It.isA its ps))) x (HO.ins A.c_Net dx (putF "agents" (V.ref u4) (putF "signals" (V.ref u3) (putF "variables" (V.ref u2) (putF "ring" (V.int rg) (putF "line" (V.int ln) []))))))) b = some o := fun b o nb hb => by
      rw [upd_ne nb]; exact Lay.upd_old hu4 (q4 _ _ hb)
    walk_at "rd"
    generalize upd (upd HA4 u4 (.tup (NetL.sel NetL.It.isA its ps))) x (HO.ins A.c_Net dx (putF "agents" (V.ref u4) (putF "signals" (V.ref u3) (putF "variables" (V.ref u2) (putF "ring" (V.int rg) (putF "line" (V.int ln) [])))))) = H5 at s5 t5 hx5 v5 old5 ⊢
    have w3 := old4 _ _ ux2 v3
    have w4 := old5 _ _ ux3 v4
    have w5 := old5 _ _ ux2 w3
    refine Lay.rd_sFld ?_
    unfold tDc
    dsimp only
    walk_at "rd"
    refine ⟨⟨_, SqT.of t5⟩, ?_⟩
    intro D hD
    have keepD : ∀ {H1 : Hp} {o : HO}, L2.Same H5 H1 → L2.Same H5 (upd H1 D o) := fun s b o hb => by
      rw [upd_ne (fun y => by subst y; rw [hD] at hb; cases hb)]
      exact s b o hb
    refine NetL.turns (walk_tup (xs := ps)) (fun i H' => L2.Same H5 H' ∧ H' D = some (.dK (NetL.named (its.take i) (ps.take i)))) ⟨keepD (L2.Same.refl _), upd_same⟩ (fun i H' _ z => SqT.of (z.1 _ _ t5)) ?_ ?_
    · rintro i y HA HB hi ⟨q1, q2⟩ ⟨rfl, ey⟩
      obtain ⟨it, ei, pa⟩ := NetL.pget hp ey
      obtain ⟨x0, dx0, fs0, rfl, hx0, hn0⟩ := pa.ins
      have SB := s5.trans q1
      walk_at "rd"
      refine ⟨rfl, ?_⟩
      walk_at "it"
      refine Lay.rd_tFld ?_
      walk_at "rd"
      refine ⟨x0, _, dx0, fs0, .str it.nm, rfl, SB _ _ hx0, C.cl it, C.nn it, hn0, ?_⟩
      walk_at "rd"
      refine ⟨_, .inr it.nm, rfl, q2, ?_, keepD q1, ?_⟩
      · exact Nat.lt_of_le_of_lt (Nat.le_trans NetL.named_len (show _ ≤ 16 by rw [List.length_take]; omega)) (by decide)
      · have no : it.nm ∉ (its.take i).map NetL.It.nm := by
          rw [List.map_take]
          exact NetL.not_take hg.nd (by rw [List.getElem?_map, ei]; rfl)
        rw [upd_same, NetL.named_put no ei ey]
    rintro H6 ⟨q1, q2⟩
    rw [List.take_of_length_le (by omega), List.take_of_length_le (by omega)] at q2
    walk_at "rd"
    refine ⟨x, A.c_Net, dx, _, rfl, q1 _ _ hx5, T.cl_Net, T.na_Net__named, (by show 5 < 1000; decide), ?_⟩
    have hDx : D ≠ x := fun e => by subst e; rw [hD] at hx5; cases hx5
    refine q _ ⟨dx, u2, u3, u4, D, ?_, ?_, ?_, ?_, ?_, ?_⟩ (keepx (s5.trans q1))
    · exact upd_same
    · rw [upd_ne ux2]; exact q1 _ _ w5
    · rw [upd_ne ux3]; exact q1 _ _ w4
    · rw [upd_ne ux4]; exact q1 _ _ v5
    · rw [upd_ne hDx]; exact q2
    · exact hp.mono (keepx (s5.trans q1))
theorem ok_Net_initK (T : Txt K mg A) (G_is_integer : FnOk P w K mg base CX0 1 A.a_is_integer A.d_is_integer ["value"] Lay.spIsInteger) (G_is_within : FnOk P w K mg base CX0 2 A.a_is_within A.d_is_within ["value", "low", "high"] Lay.spIsWithin) (G_check_parts : FnOk P w K mg base (L2.CX P w) 5 A.a_check_parts A.d_check_parts ["parts", "ring"] (Net7.spCkParts (cs A) A.c_NoNet)) (G_NoNet_init : FnOk P w K mg base CX0 1 A.a_NoNet_init A.d_NoNet_init ["self", "reason", "place"] (Lay.spErr2 A.c_NoNet "reason" "place")) : KwS.FnRK P w K mg base (L2.CX P w) 7 A.a_Net_init ["line", "ring"] (fun vs zs H Q E => ∃ us rest, vs = us ++ rest ∧ us.length = 1 ∧ rest.length ≤ sizeLine ∧ ∀ p, H p = Option.none → Net7.spNetI (cs A) A.c_Net A.c_NoNet (us ++ zs ++ [V.ref p]) (upd H p (.tup rest)) Q E) :=
  KwS.fn_starK (ps := ["self", "line", "ring"]) (pv := "parts") T.F_Net_init sc_Net_init StX.cxUp [] (fun us mz zs => us ++ zs) (fun z => by cases z) (fun q hq => by cases hq) (fun r1 r2 r3 => r1.append r3)
    (fun us mv ws h1 h2 h3 => by rw [List.length_append, h1, h3]; rfl)
    (fun D doc pm an cdv ct us rest mv ws h1 h2 h3 => match us, mv, ws, h1, h2, h3, rest with
      | [a], [], [b, c], _, _, _, [] => (by rfl : _ = _)
      | [a], [], [b, c], _, _, _, r :: rs => (by rfl : _ = _))
    (body_Net_init T G_is_integer G_is_within G_check_parts G_NoNet_init)
theorem ok_Net_made (T : Txt K mg A) (G_Net_initK : KwS.FnRK P w K mg base (L2.CX P w) 7 A.a_Net_init ["line", "ring"] (Net7.spInitJ (cs A) A.c_Net A.c_NoNet)) : FnOk P w K mg base (L2.CX P w) 9 A.a_Net_made A.d_Net_made ["cls", "parts", "line", "ring"] (Net7.spMadeJ (cs A) A.c_Net A.c_NoNet) := by
  refine T.F_Net_made.ok sc_Net_made (fun vs H Q E h => ?_) (fun cdv A0 outer s H vs Q E hr h => ?_)
  · obtain ⟨a, ln, rg, ps, js, rfl, _⟩ := h
    rfl
  · obtain ⟨a, ln, rg, ps, js, rfl, ha, kl, kr, hp, hd, w⟩ := h
    refine ⟨_, (pss_one (ps_ret (KwS.pe_makeSKV (E := fun _ => E) (pv 0) T.mk_Net G_Net_initK (hr.mono (by decide)) (Net7.passAt_of (passes_call (takes_of rfl rfl rfl rfl) (fun _ _ _ _ h => h))) (pv 1) (pk_cons (pv 2) (pk_cons (pv 3) pk_nil))))), ?_⟩
    walk_at "in"
    walk_at "rd"
    refine NetL.rd_makeSK ?_
    walk_at "rd"
    refine ⟨rfl, ?_⟩
    walk_at "rd"
    refine ⟨ps, ha.elim (fun h => .inl (SqT.of h)) (fun h => .inr (SqL.of h)), rfl, ?_⟩
    exact Net7.mk_netJ kl kr hp hd w
theorem ok_pen (T : Txt K mg A) : FnOk P w K mg base CX0 1 A.a_pen A.d_pen ["_law_script"] (Lay.spPen K) := by
  refine T.F_pen.ok sc_pen (fun vs H Q E h => ?_) (fun cdv A0 outer s H vs Q E hr h => ?_)
  · obtain ⟨a, ns, rfl, _⟩ := h
    rfl
  · obtain ⟨a, ns, rfl, hS, hl, q⟩ := h
    refine ⟨_, (pss_one (ps_ret (pe_lst (pa_cons (pe_callTy Lay.call_listS (by rfl) T.n_list (by decide +kernel) (pa_cons (pe_slice sl_list (pv 0) po_none (po_some pe_int)) pa_nil)) (pa_cons pe_int (pa_cons pe_int pa_nil)))))), ?_⟩
    walk_at "in"
    walk_at "rd"
    refine Lay.rd_slL hS (fun r hr1 => ?_)
    rw [Lay.cut63 (by rw [List.length_map]; exact hl)]
    walk_at "rd"
    refine Lay.rd_listL (SqL.of upd_same) (fun l hl1 => ?_)
    walk_at "rd"
    refine ⟨by decide, fun p hp => ?_⟩
    have s1 := (Lay.Same.upd (o := .lst (ns.map V.int)) hr1).trans (Lay.Same.upd (o := .lst (ns.map V.int)) hl1)
    exact q _ p _ (Lay.none_of s1 hp) (Lay.pen_at upd_same (Lay.upd_old hp upd_same) hl) (s1.trans (Lay.Same.upd hp))
theorem ok_draw (T : Txt K mg A) : FnOk P w K mg base CX0 1 A.a_draw A.d_draw ["_law_pen_here", "_law_many"] Lay.spDraw := by
  refine T.F_draw.ok sc_draw (fun vs H Q E h => ?_) (fun cdv A0 outer s H vs Q E hr h => ?_)
  · obtain ⟨p, m, n, c, rfl, _⟩ := h
    rfl
  · obtain ⟨p, m, n, c, rfl, ⟨ns, b, l, h1, h2, h3, h4, h5, h6⟩, hn, hm, hm2, k⟩ := h
    have hc : c ≠ p := ne_of h2 h1 (by intro q; cases ns <;> cases q)
    refine ⟨_, (pss_cons (ps_if (pt_cmpR op_gt (pe_ix ix_list (pv 0) pe_int (fun _ _ => rfl)) pe_int (nomark _))
      (pss_cons (ps_set (i := 2) sc_draw.nd rfl (Or.inl rfl) (pe_op Lay.op_modP (pe_callTy Lay.call_intI (by rfl) T.n_int (by decide +kernel) (pa_cons (pe_ix ix_list (pv 0) pe_int (fun _ _ => rfl)) pa_nil)) (pv 1)))
      (pss_cons (ps_asg (pe_op Lay.op_divP (pe_callTy Lay.call_intI (by rfl) T.n_int (by decide +kernel) (pa_cons (pe_ix ix_list (pv 0) pe_int (fun _ _ => rfl)) pa_nil)) (pv 1)) (pg_sub (pv 0) pe_int set_list))
      (pss_one (ps_ret (pv 2)))))
      pss_nil)
    (pss_cons (ps_set (i := 3) sc_draw.nd rfl (Or.inl rfl) (pe_ix ix_list (pv 0) pe_int (fun _ _ => rfl)))
    (pss_cons (ps_asg (pe_op op_add (pv 3) pe_int) (pg_sub (pv 0) pe_int set_list))
    (pss_cons (ps_set (i := 4) sc_draw.nd rfl (Or.inl rfl) (pe_op op_add (pe_op op_mul pe_int (pv 3)) pe_int))
    (Evl.pss_cut (ps_if (pt_cmpR (op_neD hr.units) (pe_ix ix_list (pv 0) pe_int (fun _ _ => rfl)) (pe_lst pa_nil) (nomark _))
      (pss_one (ps_set (i := 4) sc_draw.nd rfl (Or.inl rfl) (pe_ix ix_list (pe_ix ix_list (pv 0) pe_int (fun _ _ => rfl)) (pe_op Lay.op_modP (pe_callTy Lay.call_intI (by rfl) T.n_int (by decide +kernel) (pa_cons (pv 3) pa_nil)) (pe_callB Lay.call_lenS (by rfl) T.n_len PySem.boot_len (pa_cons (pe_ix ix_list (pv 0) pe_int (fun _ _ => rfl)) pa_nil))) (fun _ _ => rfl))))
      pss_nil)
    (pss_cons (ps_if (PW.pt (pw_and (pt_cmpR op_lt (pv 3) (pe_callB Lay.call_lenS (by rfl) T.n_len PySem.boot_len (pa_cons (pe_ix ix_list (pv 0) pe_int (fun _ _ => rfl)) pa_nil)) (nomark _)) (pw_and1 (pt_cmpR op_ge (pe_callB Lay.call_absI (by rfl) T.n_abs (by decide +kernel) (pa_cons (pv 4) pa_nil)) (pe_op op_pow pe_int pe_int) (nomark _)))))
      (pss_cons (ps_set (i := 5) sc_draw.nd rfl (Or.inl rfl) (pe_op op_add (pe_op op_mul pe_int (pe_op op_sub (pe_callB Lay.call_absI (by rfl) T.n_abs (by decide +kernel) (pa_cons (pv 4) pa_nil)) (pe_op op_pow pe_int pe_int))) (pe_callTy Lay.call_intI (by rfl) T.n_int (by decide +kernel) (pa_cons (pe_cmpR op_lt (pv 4) pe_int (nomark _)) pa_nil))))
      (pss_cons (ps_asg (pe_op Lay.op_divP (pe_callTy Lay.call_intI (by rfl) T.n_int (by decide +kernel) (pa_cons (pv 5) pa_nil)) (pv 1)) (pg_sub (pv 0) pe_int set_list))
      (pss_one (ps_ret (pe_op Lay.op_modP (pe_callTy Lay.call_intI (by rfl) T.n_int (by decide +kernel) (pa_cons (pv 5) pa_nil)) (pv 1))))))
      pss_nil)
    (pss_cons (ps_set (i := 6) sc_draw.nd rfl (Or.inl rfl) (pe_op Lay.op_modP (pe_callTy Lay.call_intI (by rfl) T.n_int (by decide +kernel) (pa_cons (pe_op op_pow (pe_op op_add (pe_op op_add (pe_op Lay.op_modP (pe_callTy Lay.call_intI (by rfl) T.n_int (by decide +kernel) (pa_cons (pv 4) pa_nil)) pe_int) (pe_op op_mul pe_int (pv 3))) pe_int) pe_int) pa_nil)) pe_int))
    (pss_cons (ps_set (i := 6) sc_draw.nd rfl (Or.inl rfl) (pe_op Lay.op_modP (pe_callTy Lay.call_intI (by rfl) T.n_int (by decide +kernel) (pa_cons (pe_op op_pow (pe_op op_add (pe_op op_add (pe_op op_mul (pv 6) (pe_op op_add (pe_op op_mul pe_int (pv 3)) pe_int)) (pe_op op_mul (pe_op op_mul pe_int (pv 3)) (pv 3))) pe_int) pe_int) pa_nil)) pe_int))
    (pss_one (ps_ret (pe_op Lay.op_modP (pe_op Lay.op_divP (pe_callTy Lay.call_intI (by rfl) T.n_int (by decide +kernel) (pa_cons (pv 6) pa_nil)) pe_int) (pv 1)))))))))))), ?_⟩
    have pen : ∀ H' : Hp, ∀ b' l' : Int, H' p = some (.lst [.ref c, .int b', .int l']) → H' c = some (.lst (ns.map V.int)) → 0 ≤ b' → b' ≤ ((n + 1 : Nat) : Int) → 0 ≤ l' → Lay.PenAt c H' p (n + 1) :=
      fun H' b' l' e1 e2 e3 e4 e5 => ⟨ns, b', l', e1, e2, h3, e3, e4, e5⟩
    have keep1 : ∀ o, Lay.Keep p H (upd H p o) := fun o => Lay.Keep.upd
    walk_at "in"
    walk_at "rd"
    refine Lay.ite_d (fun c0 => ?_) (fun c0 => ?_)
    · walk_at "rd"
      refine Lay.rd_modP hm (fun d0 e0 d1 d2 => ?_)
      walk_at "rd"
      refine Lay.rd_divP ⟨hm, hm2⟩ (fun d3 e3 => ?_)
      walk_at "rd"
      exact k _ _ d1 d2 (pen _ _ _ upd_same (by rw [upd_ne hc]; exact h2) h4 (by omega) (by rw [e3]; exact Int.ediv_nonneg h6 (by omega))) (keep1 _)
    · walk_at "rd"
      have hc1 : ∀ o, upd H p o c = some (.lst (ns.map V.int)) := fun o => by rw [upd_ne hc]; exact h2
      refine ⟨fun σ' H' => ∃ v : Int, σ' = [some (V.ref p), some (V.int m), none, some (V.int b), some (V.int v), none, none] ∧ H' p = some (.lst [.ref c, .int (b + 1), .int l]) ∧ H' c = some (.lst (ns.map V.int)) ∧ Lay.Keep p H H', ?_, ?_⟩
      · walk_at "rd"
        refine ⟨by decide, fun q hq => ?_⟩
        have q1 : (upd (upd H p (HO.lst [V.ref c, V.int (b + 1), V.int l])) q (.lst [])) c = some (.lst (ns.map V.int)) := Lay.upd_old hq (hc1 _)
        have q2 : (upd (upd H p (HO.lst [V.ref c, V.int (b + 1), V.int l])) q (.lst [])) p = some (.lst [.ref c, .int (b + 1), .int l]) := Lay.upd_old hq upd_same
        have q3 : Lay.Keep p H (upd (upd H p (HO.lst [V.ref c, V.int (b + 1), V.int l])) q (.lst [])) := (keep1 _).trans (Lay.Keep.of (Lay.Same.upd hq))
        refine Lay.rd_ne_nil (SqL.of q1) (SqL.of upd_same) (fun hne => ?_) (fun hne => ?_)
        · walk_at "rd"
          refine iteT ?_
          walk_at "rd"
          have hl : 0 < (ns.map V.int).length := by
            cases ns with
            | nil => exact absurd rfl hne
            | cons a r => simp
          refine Lay.rd_modP (by omega) (fun d0 e0 d1 d2 => ?_)
          have hd : d0.toNat < ns.length := by rw [List.length_map] at d2; omega
          refine Lay.rd_ixL (SqL.of q1) (v := .int ns[d0.toNat]) ?_ ?_
          · exact Lay.atI_int d1 (by rw [List.getElem?_map, List.getElem?_eq_getElem hd]; rfl)
          walk_at "rd"
          exact ⟨_, rfl, q2, q1, q3⟩
        · walk_at "rd"
          refine iteF ?_
          walk_at "rd"
          exact ⟨_, rfl, q2, q1, q3⟩
      · rintro σ' H' ⟨v, rfl, p1, p2, p3⟩
        have fin : (tSeq
            (tAsg (tOp Lay.rModP (tCB Lay.rInt1 (tCons (tOp (rI CPow fun i j => V.int (i ^ j.toNat)) (tOp (rI0 fun i j => V.int (i + j)) (tOp (rI0 fun i j => V.int (i + j)) (tOp Lay.rModP (tCB Lay.rInt1 (tCons (tVar 4) tNil)) (tC (V.int 2147483579))) (tOp (rI CMul fun i j => V.int (i * j)) (tC (V.int 30013)) (tVar 3))) (tC (V.int 41))) (tC (V.int 5))) tNil)) (tC (V.int 2147483647))) (gName 6))
            (tSeq
            (tAsg (tOp Lay.rModP (tCB Lay.rInt1 (tCons (tOp (rI CPow fun i j => V.int (i ^ j.toNat)) (tOp (rI0 fun i j => V.int (i + j)) (tOp (rI0 fun i j => V.int (i + j)) (tOp (rI CMul fun i j => V.int (i * j)) (tVar 6) (tOp (rI0 fun i j => V.int (i + j)) (tOp (rI CMul fun i j => V.int (i * j)) (tC (V.int 2)) (tVar 3)) (tC (V.int 43)))) (tOp (rI CMul fun i j => V.int (i * j)) (tOp (rI CMul fun i j => V.int (i * j)) (tC (V.int 90163)) (tVar 3)) (tVar 3))) (tC (V.int 13))) (tC (V.int 3))) tNil)) (tC (V.int 2147483563))) (gName 6))
            (tRet (tOp Lay.rModP (tOp Lay.rDivP (tCB Lay.rInt1 (tCons (tVar 6) tNil)) (tC (V.int 32))) (tVar 1))))) { nx := fun x H' => Q V.non H', rt := Q } [some (V.ref p), some (V.int m), none, some (V.int b), some (V.int v), none, none] H' := by
          walk_at "rd"
          refine Lay.rd_modP (by decide) (fun d0 e0 d1 d2 => ?_)
          walk_at "rd"
          refine Lay.rd_modP (by decide) (fun d3 e3 d4 d5 => ?_)
          walk_at "rd"
          refine Lay.rd_I (Lay.mix_ok d4 (by omega) h4 (by omega) (by decide) (by decide) (by decide) (by decide) (by decide) (by decide) (by decide) (by decide)) ?_
          walk_at "rd"
          refine Lay.rd_modP (by decide) (fun d6 e6 d7 d8 => ?_)
          walk_at "rd"
          refine Lay.rd_divP ⟨by decide, by decide⟩ (fun d9 e9 => ?_)
          walk_at "rd"
          refine Lay.rd_modP hm (fun d10 e10 d11 d12 => ?_)
          exact k _ _ d11 d12 (pen _ _ _ p1 p2 (by omega) (by omega) h6) p3
        walk_at "rd"
        refine Lay.ite_d (fun c1 => ?_) (fun c1 => ?_)
        · walk_at "rd"
          refine Lay.ite_d (fun c2 => ?_) (fun c2 => ?_)
          · walk_at "rd"
            refine Lay.rd_divP ⟨hm, hm2⟩ (fun d3 e3 => ?_)
            walk_at "rd"
            refine Lay.rd_modP hm (fun d4 e4 d5 d6 => ?_)
            refine k _ _ d5 d6 (pen _ _ _ upd_same (by rw [upd_ne hc]; exact p2) (by omega) (by omega) ?_) (p3.trans Lay.Keep.upd)
            rw [e3]
            refine Int.ediv_nonneg ?_ (by omega)
            have : (0 : Int) ≤ (if decide (v < 0) = true then 1 else 0) := by split <;> decide
            have c2' : (10 : Int) ^ 18 ≤ (if v < 0 then -v else v) := c2
            have : (0 : Int) ≤ (if v < 0 then -v else v) - 10 ^ 18 := by omega
            show (0 : Int) ≤ 2 * ((if v < 0 then -v else v) - 10 ^ 18) + (if decide (v < 0) = true then 1 else 0)
            omega
          · exact fin
        · exact fin
local macro_rules | `(tactic| walk_at "kz") => `(tactic| repeat first
  | exact Lay.Kps.nil
  | refine Lay.Kps.cons (.int _) ?_
  | refine Lay.Kps.cons (.str (by decide +kernel)) ?_
  | refine Lay.Kps.cons .non ?_
  | refine Lay.Kps.cons (.bl _) ?_
  | refine Lay.Kps.cons (.ref (.lst (by assumption)) (by assumption)) ?_
  | refine Lay.Kps.cons (.ref (.tup (by assumption)) (by assumption)) ?_
  | refine Lay.Kps.cons (.ref (.dK (by assumption)) (by assumption)) ?_)
theorem ok_thing (T : Txt K mg A)  (G_draw : FnOk P w K mg base CX0 1 A.a_draw A.d_draw ["_law_pen_here", "_law_many"] Lay.spDraw) : FnOk P w K mg base CX0 2 A.a_thing A.d_thing ["_law_pen_here"] Lay.spThing := by
  refine T.F_thing.ok sc_thing (fun vs H Q E h => ?_) (fun cdv A0 outer s H vs Q E hr h => ?_)
  · obtain ⟨p, n, c, rfl, _⟩ := h
    rfl
  · obtain ⟨p, n, c, rfl, hp, hn, q⟩ := h
    refine ⟨_, (pss_cons (ps_set (i := 1) sc_thing.nd rfl (Or.inl rfl) (pe_lst (pa_cons pe_non (pa_cons pe_bl (pa_cons pe_bl (pa_cons (pe_un un_neg pe_int) (pa_cons pe_int (pa_cons pe_int (pa_cons pe_int (pa_cons pe_int (pa_cons pe_int (pa_cons pe_int (pa_cons pe_int (pa_cons pe_int (pa_cons pe_int (pa_cons pe_int (pa_cons pe_int (pa_cons pe_int (pa_cons (pe_op op_pow pe_int pe_int) (pa_cons pe_str (pa_cons pe_str (pa_cons pe_str pa_nil))))))))))))))))))))))
    (pss_cons (ps_set (i := 1) sc_thing.nd rfl (Or.inl rfl) (pe_op op_cat (pv 1) (pe_lst (pa_cons pe_str (pa_cons pe_str (pa_cons pe_str (pa_cons pe_str (pa_cons pe_str (pa_cons pe_str (pa_cons pe_str (pa_cons pe_str (pa_cons (pe_tup pa_nil) (pa_cons (pe_lst pa_nil) (pa_cons pe_dnewK pa_nil))))))))))))))
    (pss_cons (ps_set (i := 1) sc_thing.nd rfl (Or.inl rfl) (pe_op op_cat (pv 1) (pe_lst (pa_cons (pe_tup (pa_cons pe_str pa_nil)) (pa_cons (pe_lst (pa_cons pe_int pa_nil)) (pa_cons (pe_disp (pps_cons pe_str pe_int pps_nil) (by rfl) (by rfl) (fun z => by cases z) (by decide)) (pa_cons (pe_tup (pa_cons pe_int (pa_cons pe_int pa_nil))) pa_nil)))))))
    (pss_one (ps_ret (pe_ix ix_list (pv 1) (pe_call G_draw (hr.mono (by decide)) rfl T.g_draw T.F_draw.kp T.b_draw .nil pass0 (pa_cons (pv 0) (pa_cons (pe_callB Lay.call_lenS (by rfl) T.n_len PySem.boot_len (pa_cons (pv 1) pa_nil)) pa_nil))) (fun _ _ => rfl))))))), ?_⟩
    walk_at "in"
    walk_at "rd"
    refine ⟨by decide, fun a1 h1 => ?_⟩
    walk_at "rd"
    refine ⟨by decide, fun a2 h2 => ?_⟩
    walk_at "rd"
    refine ⟨by decide, fun a3 h3 => ?_⟩
    walk_at "rd"
    refine Lay.rd_dnew (fun a4 h4 => ?_)
    walk_at "rd"
    refine ⟨by decide, fun a5 h5 => ?_⟩
    refine Lay.rd_cat (by walk_at "hp") upd_same (by simp only [List.length_cons, List.length_nil, List.length_append]; decide) (fun a6 h6 => ?_)
    walk_at "rd"
    refine ⟨by decide, fun a7 h7 => ?_⟩
    walk_at "rd"
    refine ⟨by decide, fun a8 h8 => ?_⟩
    walk_at "rd"
    refine Lay.rd_disp (fun a9 h9 => ?_)
    refine Lay.rd_pcons ?_
    walk_at "rd"
    refine Lay.rd_pnil ⟨upd_same, [(.inr "a", .int 0)], rfl, by decide, ?_⟩
    rw [Lay.upd2]
    walk_at "rd"
    refine ⟨by decide, fun a10 h10 => ?_⟩
    walk_at "rd"
    refine ⟨by decide, fun a11 h11 => ?_⟩
    refine Lay.rd_cat (by walk_at "hp") upd_same (by simp only [List.length_cons, List.length_nil, List.length_append]; decide) (fun a12 h12 => ?_)
    walk_at "rd"
    obtain ⟨xs0, hP⟩ := hp.at_
    refine Lay.rd_draw hp (by walk_at "sm") (by omega) (by decide) (by decide) (fun d H' d1 d2 hp' k' => ?_)
    refine Lay.rd_ixZ (SqL.of (k' _ _ (Lay.ne_none h12 (by walk_at "hp")) upd_same)) d1 d2 ?_ (fun v kv => q v H' kv hp' (Lay.Same.keep (by walk_at "sm") k'))
    have n2 := Lay.ne_none h2 (show _ = some (.lst xs0) by walk_at "hp")
    have q2 := k' a2 _ (Lay.ne_none h2 (by walk_at "hp")) (by walk_at "hp")
    have n3 := Lay.ne_none h3 (show _ = some (.lst xs0) by walk_at "hp")
    have q3 := k' a3 _ (Lay.ne_none h3 (by walk_at "hp")) (by walk_at "hp")
    have n4 := Lay.ne_none h4 (show _ = some (.lst xs0) by walk_at "hp")
    have q4 := k' a4 _ (Lay.ne_none h4 (by walk_at "hp")) (by walk_at "hp")
    have n7 := Lay.ne_none h7 (show _ = some (.lst xs0) by walk_at "hp")
    have q7 := k' a7 _ (Lay.ne_none h7 (by walk_at "hp")) (by walk_at "hp")
    have n8 := Lay.ne_none h8 (show _ = some (.lst xs0) by walk_at "hp")
    have q8 := k' a8 _ (Lay.ne_none h8 (by walk_at "hp")) (by walk_at "hp")
    have n9 := Lay.ne_none h9 (show _ = some (.lst xs0) by walk_at "hp")
    have q9 := k' a9 _ (Lay.ne_none h9 (by walk_at "hp")) (by walk_at "hp")
    have n10 := Lay.ne_none h10 (show _ = some (.lst xs0) by walk_at "hp")
    have q10 := k' a10 _ (Lay.ne_none h10 (by walk_at "hp")) (by walk_at "hp")
    walk_at "kz"
theorem ok_steps (T : Txt K mg A) (G_draw : FnOk P w K mg base CX0 1 A.a_draw A.d_draw ["_law_pen_here", "_law_many"] Lay.spDraw) : FnOk P w K mg base CX0 2 A.a_steps A.d_steps ["_law_pen_here", "_law_kind", "_law_variables_here", "_law_signalled"] NetG.spSteps := by
  refine T.F_steps.ok sc_steps (fun vs H Q E h => ?_) (fun cdv A0 outer s H vs Q E hr h => ?_)
  · obtain ⟨p, n, c, k, vl, sg, vvs, vits, ys, ss, rfl, _⟩ := h
    rfl
  · obtain ⟨p, n, c, k, vl, sg, vvs, vits, ys, ss, rfl, hp, hn, k0, k2, hvl, vlp, hvs, hvo, v1, v6, hsg, sgp, hss, s12, q⟩ := h
    have vlen := hvs.length
    refine ⟨_, (pss_cons (ps_set (i := 4) sc_steps.nd rfl (Or.inl rfl) (pe_callTy Lay.call_listS (by rfl) T.n_list (by decide +kernel) (pa_cons (pv 3) pa_nil)))
    (pss_cons (ps_for PassesOwn.never rfl (pi_range1 rfl T.n_range (pa_cons (pe_op op_add pe_int (pe_call G_draw (hr.mono (by decide)) rfl T.g_draw T.F_draw.kp T.b_draw .nil pass0 (pa_cons (pv 0) (pa_cons pe_int pa_nil)))) pa_nil)) (pg_name (i := 5) sc_steps.nd rfl (Or.inl rfl))
      (pss_cons (ps_set (i := 6) sc_steps.nd rfl (Or.inl rfl) (pe_lst (pa_cons pe_str (pa_cons pe_str (pa_cons pe_str (pa_cons pe_str (pa_cons pe_str (pa_cons pe_str (pa_cons pe_str pa_nil)))))))))
      (pss_cons (ps_set (i := 7) sc_steps.nd rfl (Or.inl rfl) (pe_ix ix_list (pv 6) (pe_call G_draw (hr.mono (by decide)) rfl T.g_draw T.F_draw.kp T.b_draw .nil pass0 (pa_cons (pv 0) (pa_cons (pe_op op_add pe_int (pe_op op_mul pe_int (pe_callTy Lay.call_intI (by rfl) T.n_int (by decide +kernel) (pa_cons (pe_cmpR op_gt (pv 1) pe_int (nomark _)) pa_nil)))) pa_nil))) (fun _ _ => rfl)))
      (pss_cons (ps_set (i := 8) sc_steps.nd rfl (Or.inl rfl) (pe_ix ix_list (pv 2) (pe_call G_draw (hr.mono (by decide)) rfl T.g_draw T.F_draw.kp T.b_draw .nil pass0 (pa_cons (pv 0) (pa_cons (pe_callB Lay.call_lenS (by rfl) T.n_len PySem.boot_len (pa_cons (pv 2) pa_nil)) pa_nil))) (fun _ _ => rfl)))
      (pss_cons (ps_set (i := 9) sc_steps.nd rfl (Or.inl rfl) (pe_call G_draw (hr.mono (by decide)) rfl T.g_draw T.F_draw.kp T.b_draw .nil pass0 (pa_cons (pv 0) (pa_cons (pe_ix ix_tup (pv 8) pe_int (fun _ _ => rfl)) pa_nil))))
      (pss_cons (ps_set (i := 10) sc_steps.nd rfl (Or.inl rfl) (pe_tup (pa_cons (pv 7) (pa_cons (pe_ix ix_tup (pv 8) pe_int (fun _ _ => rfl)) (pa_cons (pe_call G_draw (hr.mono (by decide)) rfl T.g_draw T.F_draw.kp T.b_draw .nil pass0 (pa_cons (pv 0) (pa_cons pe_int pa_nil))) (pa_cons (pv 9) (pa_cons (pe_op op_add (pv 9) (pe_call G_draw (hr.mono (by decide)) rfl T.g_draw T.F_draw.kp T.b_draw .nil pass0 (pa_cons (pv 0) (pa_cons (pe_op op_sub (pe_ix ix_tup (pv 8) pe_int (fun _ _ => rfl)) (pv 9)) pa_nil)))) pa_nil)))))))
      (pss_cons (ps_set (i := 11) sc_steps.nd rfl (Or.inl rfl) (pe_call G_draw (hr.mono (by decide)) rfl T.g_draw T.F_draw.kp T.b_draw .nil pass0 (pa_cons (pv 0) (pa_cons (pe_op op_add (pe_callB Lay.call_lenS (by rfl) T.n_len PySem.boot_len (pa_cons (pv 4) pa_nil)) pe_int) pa_nil))))
      (pss_one (ps_set (i := 4) sc_steps.nd rfl (Or.inl rfl) (pe_op op_cat (pe_op op_cat (pe_slice sl_list (pv 4) po_none (po_some (pv 11))) (pe_lst (pa_cons (pv 10) pa_nil))) (pe_slice sl_list (pv 4) (po_some (pv 11)) po_none)))))))))))
    (pss_one (ps_ret (pv 4))))), ?_⟩
    walk_at "in"
    walk_at "rd"
    refine Lay.rd_listL (SqL.of hsg) (fun r0 hr0 => ?_)
    have s0 := Lay.Same.upd (o := .lst ys) hr0
    walk_at "rd"
    refine Lay.rd_for ?_
    walk_at "rd"
    refine Lay.rd_draw hp s0 (by omega) (by decide) (by decide) (fun m H1 m0 m1 p1 k1 => ?_)
    obtain ⟨xs0, hP0⟩ := hp.at_
    have K1 := Lay.Same.keep s0 k1
    have e1 : H1 r0 = some (.lst ys) := k1 _ _ (Lay.ne_none hr0 hP0) upd_same
    walk_at "rd"
    refine ⟨_, rfl, by omega, by omega, ?_⟩
    refine Lay.for_go (walk_range (lo := 0) (n := (1 + m).toNat)) (fun i σ' H' => ∃ r zs ls acc o5 o6 o7 o8 o9 o10 o11, σ' = [some (V.ref p), some (V.int k), some (V.ref vl), some (V.ref sg), some (V.ref r), o5, o6, o7, o8, o9, o10, o11] ∧ H r = none ∧ H' r = some (.lst zs) ∧ Lay.RowsAt H' zs ls ∧ ls.Perm (ss ++ acc) ∧ acc.length = i ∧ (∀ l ∈ acc, NetG.AccOk k vits l) ∧ Lay.PenAt c H' p (n + 1 + 7 * i) ∧ Lay.Keep p H H')
      ⟨r0, ys, ss, [], none, none, none, none, none, none, none, rfl, hr0, e1, hss.keep hP0 K1, (by rw [List.append_nil]), rfl, (by intro _ x; cases x), p1, K1⟩ (fun _ _ _ _ _ => trivial) ?_ ?_
    · rintro i x σ' H2 H3 hi ⟨r, zs, ls, acc, o5, o6, o7, o8, o9, o10, o11, rfl, hr, er, hrow, hperm, hacc, haok, p2, K2⟩ hy
      obtain ⟨rfl, rfl⟩ := hy
      have i4 : i < 4 := by omega
      have llen : ls.length ≤ 16 := by rw [hperm.length_eq, List.length_append]; omega
      have zlen := hrow.len
      obtain ⟨xs2, hP2⟩ := p2.at_
      walk_at "rd"
      refine ⟨by decide, fun a1 h1 => ?_⟩
      have s1 := Lay.Same.upd (o := .lst (NetG.upWs.map V.str)) h1
      walk_at "rd"
      have hm : (if decide (k > 0) = true then (1 : Int) else 0) = (if k > 0 then 1 else 0) := by by_cases e : k > 0 <;> simp [e]
      rw [hm]
      have hm1 : (0 : Int) < 2 + 5 * (if k > 0 then 1 else 0) ∧ 2 + 5 * (if k > 0 then 1 else 0) < (1073741824 : Int) := by split <;> omega
      refine Lay.rd_draw p2 s1 (by omega) hm1.1 hm1.2 (fun d H4 d0 d1 p4 k4 => ?_)
      obtain ⟨wd, ew, hw1, hw2⟩ := NetG.up_word d0 k0 d1
      have e4 := k4 a1 _ (Lay.ne_none h1 hP2) upd_same
      have K4 := K2.trans (Lay.Same.keep s1 k4)
      have vl4 : H4 vl = some (.lst vvs) := K4 _ _ vlp hvl
      have k4' := Lay.Same.keep s1 k4
      have hP2' := hP2
      clear p2 K2 k4
      refine Lay.rd_ixL (SqL.of e4) (v := .str wd) (Lay.atI_int d0 (by show (List.map V.str NetG.upWs)[d.toNat]? = _; rw [List.getElem?_map, ew]; rfl)) ?_
      walk_at "rd"
      refine Lay.rd_draw p4 (L2.Same.refl _) (by omega) (by omega) (by omega) (fun d5 H5 b0 b1 p5 k5 => ?_)
      have K5 := K4.trans k5
      have vl5 := k5 _ _ vlp vl4
      have ev : vvs[d5.toNat]? = some (vvs[d5.toNat]'(by omega)) := List.getElem?_eq_getElem (by omega)
      obtain ⟨it, ei, ia⟩ := NetL.pget hvs ev
      have im := List.mem_of_getElem? ei
      obtain ⟨z, s, ats, rfl, z1, z8, hz⟩ := hvo it im
      obtain ⟨a, b, ea, ha1, hb1, nb⟩ := ia
      rw [ea] at ev
      have ap : a ≠ p := fun e => by subst e; rw [hP0] at ha1; cases ha1
      have ha5 := K5 _ _ ap ha1
      refine Lay.rd_ixL (SqL.of vl5) (v := .ref a) (Lay.atI_int b0 ev) ?_
      walk_at "rd"
      refine Lay.rd_draw p5 (L2.Same.refl _) (by omega) (by omega) (by omega) (fun f H6 f0 f1 p6 k6 => ?_)
      have ha6 := k6 _ _ ap ha5
      walk_at "rd"
      refine Lay.rd_draw p6 (L2.Same.refl _) (by omega) (by decide) (by decide) (fun sh H7 sh0 sh1 p7 k7 => ?_)
      have ha7 := k7 _ _ ap ha6
      walk_at "rd"
      refine Lay.rd_draw p7 (L2.Same.refl _) (by omega) (by omega) (by omega) (fun g H8 g0 g1 p8 k8 => ?_)
      have K8 := ((K5.trans k6).trans k7).trans k8
      have rp : r ≠ p := fun e => by subst e; rw [hP0] at hr; cases hr
      have kk8 := (((k4'.trans k5).trans k6).trans k7).trans k8
      have er8 := kk8 r _ rp er
      have row8 := hrow.keep hP2' kk8
      clear p5 p6 p7 K4 K5 k5 k6 k7 k8 vl4 vl5 e4 ha5 ha6 ha7
      walk_at "rd"
      refine ⟨by decide, fun t ht => ?_⟩
      have s9 := Lay.Same.upd (o := .tup [.str wd, .str z, .int sh, .int f, .int (f + g)]) ht
      have er9 := s9 _ _ er8
      have t9 : (upd H8 t (.tup [.str wd, .str z, .int sh, .int f, .int (f + g)])) t = some (.tup [.str wd, .str z, .int sh, .int f, .int (f + g)]) := upd_same
      walk_at "rd"
      refine Lay.rd_draw p8 s9 (by omega) (by omega) (by omega) (fun sp H10 sp0 sp1 p10 k10 => ?_)
      obtain ⟨xs8, hP8⟩ := p8.at_
      have hP9 := s9 _ _ hP8
      have er10 := k10 _ _ rp er9
      have t10 := k10 _ _ (fun e => by subst e; rw [hP8] at ht; cases ht) t9
      have row10 := (row8.mono s9).keep hP9 k10
      have K10 := (K8.trans (Lay.Keep.of s9)).trans k10
      clear s9 er9 t9 k10 hP9 er8 row8 K8 p8
      obtain ⟨sn, rfl⟩ : ∃ sn : Nat, sp = sn := ⟨sp.toNat, by omega⟩
      walk_at "rd"
      refine Lay.rd_slLk (SqL.of er10) (by omega) (fun q1 hq1 => ?_)
      have er11 := Lay.upd_old (o := .lst (zs.take sn)) hq1 er10
      walk_at "rd"
      refine ⟨by decide, fun q2 hq2 => ?_⟩
      walk_at "rd"
      refine Lay.rd_cat (Lay.upd_old hq2 upd_same) upd_same (Nat.le_trans (show _ ≤ 100 by rw [List.length_take]; show min sn zs.length + 1 ≤ 100; omega) (by decide)) (fun q3 hq3 => ?_)
      walk_at "rd"
      refine Lay.rd_slL (SqL.of (Lay.upd_old hq3 (Lay.upd_old hq2 er11))) (fun q4 hq4 => ?_)
      rw [Lay.cut_drop (by omega)]
      refine Lay.rd_cat (Lay.upd_old hq4 upd_same) upd_same (Nat.le_trans (show _ ≤ 100 by rw [List.length_append, List.length_take, List.length_drop]; show min sn zs.length + 1 + (zs.length - sn) ≤ 100; omega) (by decide)) (fun q5 hq5 => ?_)
      have S := Lay.Same.upd' (o := .lst (zs.take sn ++ [V.ref t] ++ zs.drop sn)) (Lay.Same.upd' (o := .lst (zs.drop sn)) (Lay.Same.upd' (o := .lst (zs.take sn ++ [V.ref t])) (Lay.Same.upd' (o := .lst [V.ref t]) (Lay.Same.upd (o := .lst (zs.take sn)) hq1) hq2) hq3) hq4) hq5
      obtain ⟨xsS, hPS⟩ := (p10.mono S).at_
      have rowS := row10.mono S
      have tS := S _ _ t10
      have hq5' : H10 q5 = none := Lay.none_of (Lay.Same.upd' (o := .lst (zs.drop sn)) (Lay.Same.upd' (o := .lst (zs.take sn ++ [V.ref t])) (Lay.Same.upd' (o := .lst [V.ref t]) (Lay.Same.upd (o := .lst (zs.take sn)) hq1) hq2) hq3) hq4) hq5
      obtain ⟨xs10, hP10⟩ := p10.at_
      refine ⟨q5, _, ls.take sn ++ [[.str wd, .str z, .int sh, .int f, .int (f + g)]] ++ ls.drop sn, acc ++ [[.str wd, .str z, .int sh, .int f, .int (f + g)]], _, _, _, _, _, _, _, rfl, K10.none hP10 hq5', upd_same, ((rowS.take sn).append (.cons tS .nil)).append (rowS.drop sn), ?_, by rw [List.length_append, hacc]; rfl, ?_, (p10.mono S).le (by omega), K10.trans (Lay.Keep.of S)⟩
      · rw [← List.append_assoc]
        exact NetG.ins_perm _ _ _ _ hperm
      · intro l hl
        rcases List.mem_append.mp hl with hl | hl
        · exact haok l hl
        · rw [List.mem_singleton] at hl
          subst hl
          exact ⟨wd, z, sh, f, f + g, s, ats, rfl, im, by omega, .inr ⟨wd, z, sh, f, f + g, rfl, hw2, hw1, hz, by omega, by omega, by omega, by omega, by omega⟩⟩
    · rintro σ' H2 ⟨r, zs, ls, acc, o5, o6, o7, o8, o9, o10, o11, rfl, hr, er, hrow, hperm, hacc, haok, p2, K2⟩
      walk_at "rd"
      exact q r zs ls acc H2 hr er hrow hperm (by omega) (by omega) haok (p2.le (by omega)) K2
theorem ok_items (T : Txt K mg A) (G_draw : FnOk P w K mg base CX0 1 A.a_draw A.d_draw ["_law_pen_here", "_law_many"] Lay.spDraw) (G_steps : FnOk P w K mg base CX0 2 A.a_steps A.d_steps ["_law_pen_here", "_law_kind", "_law_variables_here", "_law_signalled"] NetG.spSteps) : FnOk P w K mg base CX0 3 A.a_items A.d_items ["_law_pen_here", "_law_slots_here"] NetG.spItems := by
  refine T.F_items.ok sc_items (fun vs H Q E h => ?_) (fun cdv A0 outer s H vs Q E hr h => ?_)
  · obtain ⟨p, n, c, ring, rfl, _⟩ := h
    rfl
  · obtain ⟨p, n, c, ring, rfl, hp, hn, rg1, rg4, q⟩ := h
    obtain ⟨xs0, hP0⟩ := hp.at_
    obtain ⟨xc0, hC0⟩ := hp.cell
    refine ⟨_, (pss_cons (ps_set (i := 2) sc_items.nd rfl (Or.inl rfl) (pe_lst pa_nil))
    (pss_cons (ps_set (i := 3) sc_items.nd rfl (Or.inl rfl) (pe_call G_draw (hr.mono (by decide)) rfl T.g_draw T.F_draw.kp T.b_draw .nil pass0 (pa_cons (pv 0) (pa_cons pe_int pa_nil))))
    (Evl.pss_cut (ps_for PassesOwn.never rfl (pi_range1 rfl T.n_range (pa_cons (pe_op op_add pe_int (pe_call G_draw (hr.mono (by decide)) rfl T.g_draw T.F_draw.kp T.b_draw .nil pass0 (pa_cons (pv 0) (pa_cons pe_int pa_nil)))) pa_nil)) (pg_name (i := 4) sc_items.nd rfl (Or.inl rfl))
      (pss_cons (ps_set (i := 5) sc_items.nd rfl (Or.inl rfl) (pe_op op_add pe_int (pe_call G_draw (hr.mono (by decide)) rfl T.g_draw T.F_draw.kp T.b_draw .nil pass0 (pa_cons (pv 0) (pa_cons pe_int pa_nil)))))
      (pss_cons (ps_set (i := 6) sc_items.nd rfl (Or.inl rfl) (pe_lst pa_nil))
      (pss_cons (ps_for PassesOwn.never rfl (pi_range1 rfl T.n_range (pa_cons (pe_ix ix_list (pe_lst (pa_cons pe_int (pa_cons (pv 1) pa_nil))) (pe_call G_draw (hr.mono (by decide)) rfl T.g_draw T.F_draw.kp T.b_draw .nil pass0 (pa_cons (pv 0) (pa_cons pe_int pa_nil))) (fun _ _ => rfl)) pa_nil)) (pg_name (i := 7) sc_items.nd rfl (Or.inl rfl))
        (pss_cons (ps_expr (pe_bm PySem.F.plainAttrs_list PySem.F.slot_list_append PySem.F.type_list_append mt_append (pv 6) (pa_cons (pv 3) pa_nil)))
        (pss_one (ps_set (i := 3) sc_items.nd rfl (Or.inl rfl) (pe_op op_add (pe_op op_add (pv 3) (pv 5)) (pe_call G_draw (hr.mono (by decide)) rfl T.g_draw T.F_draw.kp T.b_draw .nil pass0 (pa_cons (pv 0) (pa_cons pe_int pa_nil))))))))
      (Evl.pss_cut (ps_if (pt_cmpR op_eq (pe_call G_draw (hr.mono (by decide)) rfl T.g_draw T.F_draw.kp T.b_draw .nil pass0 (pa_cons (pv 0) (pa_cons pe_int pa_nil))) pe_int (nomark _))
        (pss_one (ps_set (i := 6) sc_items.nd rfl (Or.inl rfl) (pe_op op_cat (pe_slice sl_list (pv 6) (po_some pe_int) po_none) (pe_slice sl_list (pv 6) po_none (po_some pe_int)))))
        pss_nil)
      (Evl.pss_cut (ps_if (pt_cmpR op_eq (pe_call G_draw (hr.mono (by decide)) rfl T.g_draw T.F_draw.kp T.b_draw .nil pass0 (pa_cons (pv 0) (pa_cons pe_int pa_nil))) pe_int (nomark _))
        (pss_one (ps_set (i := 6) sc_items.nd rfl (Or.inl rfl) (Lay.pe_listRev (by rfl) (by rfl) T.n_list (by rfl) T.n_reversed (pe_callTy Lay.call_listS (by rfl) T.n_list (by decide +kernel) (pa_cons (pv 6) pa_nil)))))
        pss_nil)
      (pss_one (ps_expr (pe_bm PySem.F.plainAttrs_list PySem.F.slot_list_append PySem.F.type_list_append mt_append (pv 2) (pa_cons (pe_tup (pa_cons pe_str (pa_cons (pe_op op_add_str pe_str (pe_ix ix_str pe_str (pv 4) (fun _ _ => rfl))) (pa_cons (pv 5) (pa_cons (pv 6) pa_nil))))) pa_nil))))))))))
    (pss_cons (ps_set (i := 8) sc_items.nd rfl (Or.inl rfl) (pe_callTy Lay.call_listS (by rfl) T.n_list (by decide +kernel) (pa_cons (pv 2) pa_nil)))
    (pss_cons (ps_set (i := 9) sc_items.nd rfl (Or.inl rfl) (pe_op op_add pe_int (pe_call G_draw (hr.mono (by decide)) rfl T.g_draw T.F_draw.kp T.b_draw .nil pass0 (pa_cons (pv 0) (pa_cons pe_int pa_nil)))))
    (pss_cons (ps_setLc (i := 10) (own := [("_law_k", 4)]) (g := gName 4) (tt := tYes) rfl sc_items.nd rfl rfl (sw_true rfl rfl rfl (by decide +kernel)) (pi_range1 rfl T.n_range (pa_cons (pv 9) pa_nil)) (blkOk_by (own := [("_law_k", 4)]) (N := ["_law_pen_here", "_law_slots_here", "_law_items_here", "_law_free_here", "_law_k", "_law_big", "_law_spots", "_law_j", "_law_variables_here", "_law_many", "_law_signalled", "_law_kind"]) (sc := defScope s_items) (by decide +kernel)) (fun _ _ _ _ _ => pg_name (i := 4) sc_items.nd rfl (Or.inl rfl)) (fun _ _ _ _ _ => pts_nil) (fun _ _ _ _ _ => (pe_lst pa_nil)))
    (Evl.pss_cut (ps_for PassesOwn.never rfl (pi_range1 rfl T.n_range (pa_cons (pe_ix ix_list (pe_lst (pa_cons pe_int (pa_cons pe_int (pa_cons pe_int (pa_cons pe_int (pa_cons pe_int (pa_cons pe_int pa_nil))))))) (pe_call G_draw (hr.mono (by decide)) rfl T.g_draw T.F_draw.kp T.b_draw .nil pass0 (pa_cons (pv 0) (pa_cons pe_int pa_nil))) (fun _ _ => rfl)) pa_nil)) (pg_name (i := 4) sc_items.nd rfl (Or.inl rfl))
      (pss_cons (ps_expr (pe_bm PySem.F.plainAttrs_list PySem.F.slot_list_append PySem.F.type_list_append mt_append (pv 2) (pa_cons (pe_tup (pa_cons pe_str (pa_cons (pe_op op_add_str pe_str (pe_ix ix_str pe_str (pv 4) (fun _ _ => rfl))) (pa_cons (pe_call G_draw (hr.mono (by decide)) rfl T.g_draw T.F_draw.kp T.b_draw .nil pass0 (pa_cons (pv 0) (pa_cons pe_int pa_nil))) pa_nil)))) pa_nil)))
      (pss_cons (ps_expr (pe_bm PySem.F.plainAttrs_list PySem.F.slot_list_append PySem.F.type_list_append mt_append (pe_ix ix_list (pv 10) (pe_call G_draw (hr.mono (by decide)) rfl T.g_draw T.F_draw.kp T.b_draw .nil pass0 (pa_cons (pv 0) (pa_cons (pv 9) pa_nil))) (fun _ _ => rfl)) (pa_cons (pe_tup (pa_cons pe_str (pa_cons (pe_op op_add_str pe_str (pe_ix ix_str pe_str (pv 4) (fun _ _ => rfl))) pa_nil))) pa_nil)))
      (pss_one (ps_expr (pe_bm PySem.F.plainAttrs_list PySem.F.slot_list_append PySem.F.type_list_append mt_append (pe_ix ix_list (pv 10) (pe_call G_draw (hr.mono (by decide)) rfl T.g_draw T.F_draw.kp T.b_draw .nil pass0 (pa_cons (pv 0) (pa_cons (pv 9) pa_nil))) (fun _ _ => rfl)) (pa_cons (pe_tup (pa_cons pe_str (pa_cons (pe_op op_add_str pe_str (pe_ix ix_str pe_str (pv 4) (fun _ _ => rfl))) pa_nil))) pa_nil)))))))
    (pss_cons (ps_for PassesOwn.never rfl (pi_range1 rfl T.n_range (pa_cons (pv 9) pa_nil)) (pg_name (i := 4) sc_items.nd rfl (Or.inl rfl))
      (pss_cons (ps_set (i := 11) sc_items.nd rfl (Or.inl rfl) (pe_call G_draw (hr.mono (by decide)) rfl T.g_draw T.F_draw.kp T.b_draw .nil pass0 (pa_cons (pv 0) (pa_cons pe_int pa_nil))))
      (pss_one (ps_expr (pe_bm PySem.F.plainAttrs_list PySem.F.slot_list_append PySem.F.type_list_append mt_append (pv 2) (pa_cons (pe_tup (pa_cons pe_str (pa_cons (pe_op op_add_str pe_str (pe_ix ix_str pe_str (pv 4) (fun _ _ => rfl))) (pa_cons (pv 11) (pa_cons (pe_call G_steps (hr.mono (by decide)) rfl T.g_steps T.F_steps.kp T.b_steps .nil pass0 (pa_cons (pv 0) (pa_cons (pv 11) (pa_cons (pv 8) (pa_cons (pe_ix ix_list (pv 10) (pv 4) (fun _ _ => rfl)) pa_nil))))) pa_nil))))) pa_nil))))))
    (pss_one (ps_ret (pv 2))))))))))), ?_⟩
    walk_at "in"
    walk_at "rd"
    refine ⟨by decide, fun D hD => ?_⟩
    have s0 := Lay.Same.upd (o := .lst []) hD
    have Dp : D ≠ p := Lay.ne_none hD hP0
    have Dc : D ≠ c := Lay.ne_none hD hC0
    have ph0 : NetG.Ph c p D [] (upd H D (.lst [])) n [] [] [] := ⟨hp.mono s0, upd_same, .nil, ⟨rfl, List.Pairwise.nil, fun i b ls e => by simp at e⟩, Dp, Dc, (fun h => nomatch h), (fun h => nomatch h), (fun h => nomatch h)⟩
    walk_at "rd"
    refine Lay.rd_draw hp s0 (by omega) (by decide) (by decide) (fun fr H1 f0 f9 p1 k1 => ?_)
    have K1 := Lay.Same.keep s0 k1
    have ph1 := ph0.draw p1 k1
    clear ph0 k1 s0 p1
    walk_at "rd"
    refine ⟨fun σ' H' => ∃ (i : Nat) (fr : Int) (l : List V) (vits : List NetL.It) (o4 o5 o6 o7 : Option V), σ' = [some (V.ref p), some (V.int ring), some (V.ref D), some (V.int fr), o4, o5, o6, o7, none, none, none, none] ∧ 1 ≤ i ∧ i ≤ 3 ∧ 0 ≤ fr ∧ fr ≤ 8 + 55 * (i : Int) ∧ NetG.Ph c p D [] H' (n + 60) l vits [] ∧ NetG.VarsG ring i fr vits ∧ Lay.Keep p H H', ?_, ?_⟩
    · walk_at "rd"
      refine Lay.rd_for ?_
      walk_at "rd"
      refine Lay.rd_draw ph1.pen (L2.Same.refl _) (by omega) (by decide) (by decide) (fun m H2 m0 m1 p2 k2 => ?_)
      have ph2 := ph1.draw p2 k2
      have K2 := K1.trans k2
      clear ph1 K1 k2 p2
      walk_at "rd"
      refine ⟨_, rfl, by omega, by omega, ?_⟩
      refine Lay.for_go (walk_range (lo := 0) (n := (1 + m).toNat)) (fun i σ' H' => ∃ (fr : Int) (l : List V) (vits : List NetL.It) (o4 o5 o6 o7 : Option V), σ' = [some (V.ref p), some (V.int ring), some (V.ref D), some (V.int fr), o4, o5, o6, o7, none, none, none, none] ∧ 0 ≤ fr ∧ fr ≤ 8 + 55 * (i : Int) ∧ NetG.Ph c p D [] H' (n + 2 + 8 * i) l vits [] ∧ NetG.VarsG ring i fr vits ∧ Lay.Keep p H H')
        ⟨fr, [], [], none, none, none, none, rfl, f0, by omega, ph2, NetG.VarsG.nil, K2⟩ (fun _ _ _ _ _ => trivial) ?_ ?_
      · rintro i x σ' H3 H4 hi ⟨fr, l, vits, o4, o5, o6, o7, rfl, fr0, fr1, ph3, vg, K3⟩ hy
        obtain ⟨rfl, rfl⟩ := hy
        have i3 : i < 3 := by omega
        walk_at "rd"
        refine Lay.rd_draw ph3.pen (L2.Same.refl _) (by omega) (by decide) (by decide) (fun b H5 b0 b1 p5 k5 => ?_)
        walk_at "rd"
        refine ⟨by decide, fun W hW => ?_⟩
        obtain ⟨xs5, hP5⟩ := p5.at_
        have s5 := Lay.Same.upd (o := .lst []) hW
        have W4 : H4 W = none := k5.none hP5 hW
        walk_at "rd"
        refine Lay.rd_for ?_
        walk_at "rd"
        refine ⟨by decide, fun L hL => ?_⟩
        have s6 := s5.trans (Lay.Same.upd (o := .lst [V.int 1, V.int ring]) hL)
        have hP6 := s6 _ _ hP5
        walk_at "rd"
        refine Lay.rd_draw p5 s6 (by omega) (by decide) (by decide) (fun d7 H7 d0 d1 p7 k7 => ?_)
        obtain ⟨cnt, ec, hc⟩ := Lay.two_at (i := 1) (j := ring) d0 d1
        have eL7 := k7 L _ (Lay.ne_none hL (s5 _ _ hP5)) upd_same
        have eW7 : H7 W = some (.lst []) := k7 W _ (Lay.ne_none hW hP5) (Lay.upd_old hL upd_same)
        have K7 : Lay.Keep p H4 H7 := (k5.trans (Lay.Keep.of s6)).trans k7
        obtain ⟨c1, c4⟩ := NetG.two_le (m := ring) cnt hc rg1 rg4
        clear hP6 s6 k7 s5 k5 p5 hP5 hW hL
        refine Lay.rd_ixL (SqL.of eL7) ec ?_
        walk_at "rd"
        refine ⟨_, rfl, by omega, by omega, ?_⟩
        have Wp : W ≠ p := fun e => by subst e; obtain ⟨xs4, h4⟩ := ph3.pen.at_; rw [h4] at W4; cases W4
        have Wc : W ≠ c := fun e => by subst e; obtain ⟨xs4, h4⟩ := ph3.pen.cell; rw [h4] at W4; cases W4
        refine Lay.for_go (walk_range (lo := 0) (n := cnt.toNat)) (fun j σ' H' => ∃ (fr' : Int) (ns : List Int) (o7 : Option V), σ' = [some (V.ref p), some (V.int ring), some (V.ref D), some (V.int fr'), some (V.int (0 + (i : Nat))), some (V.int (1 + b)), some (V.ref W), o7, none, none, none, none] ∧ H' W = some (.lst (ns.map V.int)) ∧ ns.length = j ∧ NetG.SpotsG fr (1 + b) fr' ns ∧ fr ≤ fr' ∧ fr' ≤ fr + 11 * (j : Int) ∧ Lay.PenAt c H' p (n + 2 + 8 * i + 2 + j) ∧ Lay.Keep p H4 H')
          ⟨fr, [], _, rfl, eW7, rfl, NetG.SpotsG.nil, by omega, by omega, p7, K7⟩ (fun _ _ _ _ _ => trivial) ?_ ?_
        · rintro j y σ' H8 H9 hj ⟨fr', ns, o7, rfl, eW8, nl, sp, g0, g1, p8, K8⟩ hy
          obtain ⟨rfl, rfl⟩ := hy
          walk_at "rd"
          refine Lay.rd_bm ?_
          walk_at "rd"
          refine ⟨Lay.tyV_lst eW8, ?_⟩
          walk_at "rd"
          refine ⟨W, _, _, rfl, rfl, eW8, Nat.lt_of_le_of_lt (show _ ≤ 100 by rw [List.length_map]; omega) (by decide), ?_⟩
          have p9 := p8.other (o := .lst (ns.map V.int ++ [V.int fr'])) Wp Wc
          walk_at "rd"
          refine Lay.rd_draw p9 (L2.Same.refl _) (by omega) (by decide) (by decide) (fun d H10 e0 e1 p10 k10 => ?_)
          walk_at "rd"
          refine ⟨fr' + (1 + b) + d, ns ++ [fr'], _, rfl, ?_, by rw [List.length_append, nl]; rfl, sp.app g0 (by omega) (by omega), by omega, by omega, p10.le (by omega), ?_⟩
          · rw [k10 W _ Wp upd_same, List.map_append]; rfl
          · intro b' o hb ho
            refine k10 b' o hb ?_
            rw [upd_ne (fun e => by subst e; rw [W4] at ho; cases ho)]
            exact K8 b' o hb ho
        rintro σ' H8 ⟨fr', ns, o7, rfl, eW8, nl, sp, g0, g1, p8, K8⟩
        have l1 : 1 ≤ ns.length := by omega
        have l4 : ns.length ≤ 4 := by omega
        have lr : (ns.length : Int) = 1 ∨ (ns.length : Int) = ring := by omega
        have g2 : fr' ≤ fr + 44 := by omega
        clear K7 p7 eW7 eL7 g1
        walk_at "rd"
        refine ⟨fun σ' H' => ∃ (W : Addr) (ns : List Int), σ' = [some (V.ref p), some (V.int ring), some (V.ref D), some (V.int fr'), some (V.int (0 + (i : Nat))), some (V.int (1 + b)), some (V.ref W), o7, none, none, none, none] ∧ H4 W = none ∧ H' W = some (.lst (ns.map V.int)) ∧ 1 ≤ ns.length ∧ ns.length ≤ 4 ∧ ((ns.length : Int) = 1 ∨ (ns.length : Int) = ring) ∧ NetG.SpotsG fr (1 + b) fr' ns ∧ Lay.PenAt c H' p (n + 2 + 8 * i + 7) ∧ Lay.Keep p H4 H', ?_, ?_⟩
        · walk_at "rd"
          refine Lay.rd_draw p8 (L2.Same.refl _) (by omega) (by decide) (by decide) (fun d9 H9 e0 e1 p9 k9 => ?_)
          have eW9 := k9 W _ Wp eW8
          have K9 := K8.trans k9
          walk_at "rd"
          refine Lay.ite_d (fun _ => ?_) (fun _ => ?_)
          · walk_at "rd"
            refine Lay.rd_slD (SqL.of eW9) (by rw [List.length_map]; omega) (fun q1 hq1 => ?_)
            walk_at "rd"
            refine Lay.rd_slL (SqL.of (Lay.upd_old hq1 eW9)) (fun q2 hq2 => ?_)
            rw [Lay.cut_to (by rw [List.length_map]; omega)]
            refine Lay.rd_cat (Lay.upd_old hq2 upd_same) upd_same (Nat.le_trans (show _ ≤ 100 by rw [List.length_drop, List.length_take, List.length_map]; omega) (by decide)) (fun q3 hq3 => ?_)
            have S2 := Lay.Same.upd' (o := .lst ((ns.map V.int).take 1)) (Lay.Same.upd (o := .lst ((ns.map V.int).drop 1)) hq1) hq2
            have S3 := Lay.Same.upd' (o := .lst ((ns.map V.int).drop 1 ++ (ns.map V.int).take 1)) S2 hq3
            obtain ⟨xs9, hP9⟩ := p9.at_
            walk_at "rd"
            have pm : (ns.drop 1 ++ ns.take 1).Perm ns := List.perm_append_comm.trans (by rw [List.take_append_drop])
            refine ⟨q3, ns.drop 1 ++ ns.take 1, rfl, K9.none hP9 (Lay.none_of S2 hq3), by rw [upd_same, List.map_append, List.map_drop, List.map_take], by rw [pm.length_eq]; exact l1, by rw [pm.length_eq]; exact l4, by rw [pm.length_eq]; exact lr, sp.perm pm, (p9.mono S3).le (by omega), K9.trans (Lay.Keep.of S3)⟩
          · walk_at "it"
            exact ⟨W, ns, rfl, W4, eW9, l1, l4, lr, sp, p9.le (by omega), K9⟩
        clear p8 K8 eW8 sp lr l1 l4 nl W4 Wp Wc
        rintro σ' H9 ⟨W, ns, rfl, W4, eW9, l1, l4, lr, sp, p9, K9⟩
        obtain ⟨xs9, hP9⟩ := p9.at_
        have Wp : W ≠ p := fun e => by subst e; obtain ⟨xs4, h4⟩ := ph3.pen.at_; rw [h4] at W4; cases W4
        walk_at "rd"
        refine ⟨fun σ' H' => ∃ (W : Addr) (ns : List Int), σ' = [some (V.ref p), some (V.int ring), some (V.ref D), some (V.int fr'), some (V.int (0 + (i : Nat))), some (V.int (1 + b)), some (V.ref W), o7, none, none, none, none] ∧ H4 W = none ∧ H' W = some (.lst (ns.map V.int)) ∧ 1 ≤ ns.length ∧ ns.length ≤ 4 ∧ ((ns.length : Int) = 1 ∨ (ns.length : Int) = ring) ∧ NetG.SpotsG fr (1 + b) fr' ns ∧ Lay.PenAt c H' p (n + 2 + 8 * i + 8) ∧ Lay.Keep p H4 H', ?_, ?_⟩
        · walk_at "rd"
          refine Lay.rd_draw p9 (L2.Same.refl _) (by omega) (by decide) (by decide) (fun d10 H10 e0 e1 p10 k10 => ?_)
          have eW10 := k10 W _ Wp eW9
          have K10 := K9.trans k10
          obtain ⟨xs10, hP10⟩ := p10.at_
          walk_at "rd"
          refine Lay.ite_d (fun _ => ?_) (fun _ => ?_)
          · walk_at "rd"
            refine Lay.rd_listRev ?_
            walk_at "rd"
            refine Lay.rd_listL (SqL.of eW10) (fun q1 hq1 => ?_)
            refine ⟨q1, _, rfl, SqL.of upd_same, fun q2 hq2 => ?_⟩
            have S1 := Lay.Same.upd (o := .lst (ns.map V.int)) hq1
            have S2 := Lay.Same.upd' (o := .lst (ns.map V.int).reverse) S1 hq2
            walk_at "rd"
            have pm : ns.reverse.Perm ns := List.reverse_perm ns
            exact ⟨q2, ns.reverse, rfl, K10.none hP10 (Lay.none_of S1 hq2), by rw [upd_same, List.map_reverse], by rw [pm.length_eq]; exact l1, by rw [pm.length_eq]; exact l4, by rw [pm.length_eq]; exact lr, sp.perm pm, (p10.mono S2).le (by omega), K10.trans (Lay.Keep.of S2)⟩
          · walk_at "it"
            exact ⟨W, ns, rfl, W4, eW10, l1, l4, lr, sp, p10.le (by omega), K10⟩
        clear p9 K9 eW9 sp lr l1 l4 W4 Wp hP9
        rintro σ' H10 ⟨W, ns, rfl, W4, eW10, l1, l4, lr, sp, p10, K10⟩
        have ph10 := ph3.draw p10 K10
        obtain ⟨cc, e1, e2⟩ := NetG.sign_v i3
        walk_at "rd"
        refine Lay.rd_bm ?_
        walk_at "rd"
        refine ⟨Lay.tyV_lst ph10.eD, ?_⟩
        walk_at "rd"
        refine Lay.rd_ixStr (by decide) (by omega) (by rw [show ((0 : Int) + ((i : Nat) : Int)).toNat = i by omega]; exact e1) ?_
        refine ⟨_, _, rfl, rfl, (by show 1 + 1 ≤ sizeLine; decide), ?_⟩
        rw [e2]
        walk_at "rd"
        refine ⟨by decide, fun t ht => ?_⟩
        have ph11 := ph10.mono (Lay.Same.upd (o := .tup [.str "var", .str (NetG.vN i), .int (1 + b), .ref W]) ht)
        have eW11 := Lay.upd_old (o := .tup [.str "var", .str (NetG.vN i), .int (1 + b), .ref W]) ht eW10
        have it : NetG.ItemAt (p :: D :: []) (upd H10 t (.tup [.str "var", .str (NetG.vN i), .int (1 + b), .ref W])) (.ref t) (.vr (NetG.vN i) (1 + b) ns) := ⟨t, W, rfl, upd_same, eW11, ph3.new W4⟩
        walk_at "rd"
        refine ⟨D, _, _, rfl, rfl, ph11.eD, Nat.lt_of_le_of_lt (show _ ≤ 100 by rw [ph11.items.length, vg.len]; omega) (by decide), ?_⟩
        have ph12 := ph11.app it
        refine ⟨fr', _, _, _, _, _, _, rfl, by omega, by omega, ph12.le (by omega), vg.add i3 fr0 g0 (by omega) (by omega) l1 l4 lr sp, ?_⟩
        intro b' o hb ho
        have hDn : H D = none := hD
        rw [upd_ne (fun e => by subst e; rw [hDn] at ho; cases ho)]
        exact Lay.upd_old ht (K10 b' o hb (K3 b' o hb ho))
      · rintro σ' H3 ⟨fr, l, vits, o4, o5, o6, o7, rfl, fr0, fr1, ph3, vg, K3⟩
        walk_at "rd"
        exact ⟨_, fr, l, vits, o4, o5, o6, o7, rfl, by omega, by omega, fr0, fr1, ph3.le (by omega), vg, K3⟩
    clear ph1 K1
    rintro σ' H1 ⟨nv, fr, l, vits, o4, o5, o6, o7, rfl, nv1, nv3, fr0, fr1, ph1, vg, K1⟩
    have vlen := vg.len
    have phD := ph1.eD
    walk_at "rd"
    refine Lay.rd_listL (SqL.of phD) (fun VL hVL => ?_)
    have sV := Lay.Same.upd (o := .lst l) hVL
    have ph2 := ph1.mono sV
    have eVL : (upd H1 VL (.lst l)) VL = some (.lst l) := upd_same
    have VLs := ph1.new hVL
    have K2 := K1.trans (Lay.Keep.of sV)
    generalize upd H1 VL (.lst l) = H2 at ph2 eVL K2 ⊢
    clear sV hVL phD ph1 K1
    walk_at "rd"
    refine Lay.rd_draw ph2.pen (L2.Same.refl _) (by omega) (by decide) (by decide) (fun mm H3 m0 m1 p3 k3 => ?_)
    have ph3 := ph2.draw p3 k3
    have K3 := K2.trans k3
    have VLp : VL ≠ p := fun e => VLs (by rw [e]; exact List.mem_cons_self)
    have eVL3 := k3 _ _ VLp eVL
    clear ph2 p3 K2 k3 eVL
    walk_at "rd"
    refine ⟨_, rfl, by omega, by omega, ?_⟩
    intro G hG
    obtain ⟨xs3, hP3⟩ := ph3.pen.at_
    have HG : H G = none := K3.none hP3 hG
    refine Lay.lc_go (walk_range (lo := 0) (n := (1 + mm).toNat)) (fun i l' H' => ∃ bs : List Addr, l' = bs.map V.ref ∧ bs.length = i ∧ NetG.HeapsAt H' bs (List.replicate i []) ∧ L2.Same H3 H' ∧ G ∉ bs ∧ ∀ b ∈ bs, H3 b = none) ⟨[], rfl, rfl, ⟨rfl, List.Pairwise.nil, fun i b ls e => by simp at e⟩, Lay.Same.upd hG, (fun h => nomatch h), (fun _ h => nomatch h)⟩ (fun _ _ _ _ _ => trivial) ?_ ?_
    · rintro i l' x H4 H5 hi hl' hz' ⟨bs, rfl, r2, r3, r4, r5, r6⟩ hy
      obtain ⟨rfl, rfl⟩ := hy
      walk_at "rd"
      refine ⟨rfl, ?_⟩
      walk_at "it"
      refine ⟨by decide, fun b hb => ?_⟩
      have bG : G ≠ b := fun e => by subst e; rw [hl'] at hb; cases hb
      have hl6 := Lay.upd_old (o := .lst []) hb hl'
      have hs6 := r3.new hb
      refine Lay.lc_put hl6 hz' (by omega) ⟨bs ++ [b], by rw [List.map_append]; rfl, by rw [List.length_append, r2]; rfl, ?_, ?_, ?_, ?_⟩
      · rw [List.replicate_succ']
        refine hs6.stay (S := [G]) (fun a m => by rw [List.mem_singleton] at m; subst m; exact ⟨_, hl6⟩) (fun a m e => ?_) (NetG.Stay.upd List.mem_cons_self)
        rw [List.mem_singleton] at e
        subst e
        rcases List.mem_append.mp m with m | m
        · exact r5 m
        · rw [List.mem_singleton] at m
          exact bG m
      · intro b' o ho
        rw [upd_ne (fun e => by subst e; rw [hG] at ho; cases ho)]
        exact Lay.upd_old hb (r4 _ _ ho)
      · intro m
        rcases List.mem_append.mp m with m | m
        · exact r5 m
        · rw [List.mem_singleton] at m
          exact bG m
      · intro a m
        rcases List.mem_append.mp m with m | m
        · exact r6 a m
        · rw [List.mem_singleton] at m
          subst m
          exact Lay.none_of r4 hb
    rintro l' H4 hl4 hz4 ⟨bs, rfl, bl, hs4, s4, Gb, bn⟩
    have lm : (List.replicate (1 + mm).toNat ([] : List (List V))).length = (1 + mm).toNat := List.length_replicate
    have lf : (List.replicate (1 + mm).toNat ([] : List (List V))).flatten = [] := by rw [List.flatten_replicate_nil]
    generalize List.replicate (1 + mm).toNat ([] : List (List V)) = lss0 at hs4 lm lf
    obtain ⟨mn, emn⟩ : ∃ mn : Nat, (1 + mm).toNat = mn := ⟨_, rfl⟩
    have emn' : 1 + mm = (mn : Int) := by omega
    have mn4 : mn ≤ 4 := by omega
    have mn1 : 1 ≤ mn := by omega
    rw [emn] at lm bl
    have ph4 : NetG.Ph c p D bs H4 (n + 61) l vits lss0 := by
      have z := ph3.mono s4
      refine ⟨z.pen, z.eD, ?_, hs4, z.Dp, z.Dc, fun m => ?_, fun m => ?_, fun m => ?_⟩
      · refine (ph3.items.off (fun b o nb hb m => ?_)).mono s4
        rcases List.mem_cons.mp m with e | m
        · exact nb (by rw [e]; exact List.mem_cons_self)
        · rcases List.mem_cons.mp m with e | m
          · exact nb (by rw [e]; exact List.mem_cons_of_mem _ List.mem_cons_self)
          · rw [bn b m] at hb; cases hb
      · rw [bn _ m] at hP3; cases hP3
      · have := ph3.eD; rw [bn _ m] at this; cases this
      · obtain ⟨xc, hc⟩ := ph3.pen.cell; rw [bn _ m] at hc; cases hc
    have eVL4 := s4 _ _ eVL3
    have K4 := K3.trans (Lay.Keep.of s4)
    have VLS : VL ∉ p :: D :: bs := fun m => by
      rcases List.mem_cons.mp m with e | m
      · exact VLp e
      · rcases List.mem_cons.mp m with e | m
        · exact VLs (by rw [e]; exact List.mem_cons_of_mem _ List.mem_cons_self)
        · rw [bn _ m] at eVL3; cases eVL3
    have GS : G ∉ p :: D :: bs := fun m => by
      rcases List.mem_cons.mp m with e | m
      · rw [e, hP3] at hG; cases hG
      · rcases List.mem_cons.mp m with e | m
        · rw [e, ph3.eD] at hG; cases hG
        · exact Gb m
    have HS : ∀ a ∈ p :: D :: bs, a ≠ p → H a = none := fun a m np => by
      rcases List.mem_cons.mp m with e | m
      · exact absurd e np
      · rcases List.mem_cons.mp m with e | m
        · rw [e]; exact hD
        · exact K3.none hP3 (bn a m)
    have vits4 := ph4.items
    have LS4 := ph4.lists
    clear ph3 s4 bn eVL3 hs4 hG hP3 K3 HG Gb hz4 VLs
    walk_at "rd"
    refine ⟨fun σ' H' => ∃ (j : Nat) (lD : List V) (sits : List NetL.It) (lss : List (List (List V))) (o4 : Option V), σ' = [some (V.ref p), some (V.int ring), some (V.ref D), some (V.int fr), o4, o5, o6, o7, some (V.ref VL), some (V.int (1 + mm)), some (V.ref G), none] ∧ j ≤ 6 ∧ NetG.Ph c p D bs H' (n + 90) lD (vits ++ sits) lss ∧ NetG.SigsG j sits ∧ lss.length = mn ∧ lss.flatten.Perm (NetG.rowsS j) ∧ NetG.Stay (p :: D :: bs) H4 H', ?_, ?_⟩
    · walk_at "rd"
      refine Lay.rd_for ?_
      walk_at "rd"
      refine ⟨by decide, fun L hL => ?_⟩
      have sL := Lay.Same.upd (o := .lst [V.int 0, V.int 1, V.int 2, V.int 3, V.int 3, V.int 6]) hL
      walk_at "rd"
      refine Lay.rd_draw ph4.pen sL (by omega) (by decide) (by decide) (fun d H5 d0 d1 p5 k5 => ?_)
      have ph5 := (ph4.mono sL).draw p5 k5
      have S5 : NetG.Stay (p :: D :: bs) H4 H5 := (NetG.Stay.of sL).trans (NetG.Stay.keep List.mem_cons_self k5)
      obtain ⟨xs4, hP4⟩ := ph4.pen.at_
      obtain ⟨j, j6, ej⟩ := NetG.six_at d0 d1
      refine Lay.rd_ixL (SqL.of (k5 L _ (Lay.ne_none hL hP4) upd_same)) ej ?_
      clear k5 p5 sL hL hP4
      walk_at "rd"
      refine ⟨_, rfl, by omega, by omega, ?_⟩
      rw [Int.toNat_natCast]
      refine Lay.for_go (walk_range (lo := 0) (n := j)) (fun i σ' H' => ∃ (lD : List V) (sits : List NetL.It) (lss : List (List (List V))) (o4 : Option V), σ' = [some (V.ref p), some (V.int ring), some (V.ref D), some (V.int fr), o4, o5, o6, o7, some (V.ref VL), some (V.int (1 + mm)), some (V.ref G), none] ∧ NetG.Ph c p D bs H' (n + 62 + 3 * i) lD (vits ++ sits) lss ∧ NetG.SigsG i sits ∧ lss.length = mn ∧ lss.flatten.Perm (NetG.rowsS i) ∧ NetG.Stay (p :: D :: bs) H4 H')
        ⟨l, [], lss0, _, rfl, (by rw [List.append_nil]; exact ph5.le (by omega)), NetG.SigsG.nil, lm, (by rw [lf]; exact List.Perm.nil), S5⟩ (fun _ _ _ _ _ => trivial) ?_ ?_
      · rintro i x σ' H6 H7 hi ⟨lD, sits, lss, o4, rfl, ph6, sg, lml, pm, S6⟩ hy
        obtain ⟨rfl, rfl⟩ := hy
        have i6 : i < 6 := by omega
        have slen := sg.len
        obtain ⟨cc, e1, e2⟩ := NetG.sign_s i6
        walk_at "rd"
        refine Lay.rd_bm ?_
        walk_at "rd"
        refine ⟨Lay.tyV_lst ph6.eD, ?_⟩
        walk_at "rd"
        refine Lay.rd_ixStr (by decide) (by omega) (by rw [show ((0 : Int) + ((i : Nat) : Int)).toNat = i by omega]; exact e1) ?_
        refine ⟨_, _, rfl, rfl, (by show 1 + 1 ≤ sizeLine; decide), ?_⟩
        rw [e2]
        walk_at "rd"
        refine Lay.rd_draw ph6.pen (L2.Same.refl _) (by omega) (by decide) (by decide) (fun tk H8 t0 t1 p8 k8 => ?_)
        have ph8 := ph6.draw p8 k8
        have S8 := S6.trans (NetG.Stay.keep (S := p :: D :: bs) List.mem_cons_self k8)
        walk_at "rd"
        refine ⟨by decide, fun t ht => ?_⟩
        have ph9 := ph8.mono (Lay.Same.upd (o := .tup [.str "sig", .str (NetG.sN i), .int tk]) ht)
        have S9 := S8.trans (NetG.Stay.of (Lay.Same.upd (o := .tup [.str "sig", .str (NetG.sN i), .int tk]) ht))
        have it : NetG.ItemAt (p :: D :: bs) (upd H8 t (.tup [.str "sig", .str (NetG.sN i), .int tk])) (.ref t) (.sg (NetG.sN i) tk) := ⟨t, rfl, upd_same⟩
        walk_at "rd"
        refine ⟨D, _, _, rfl, rfl, ph9.eD, Nat.lt_of_le_of_lt (show _ ≤ 100 by rw [ph9.items.length, List.length_append, slen, vlen]; omega) (by decide), ?_⟩
        have ph10 := ph9.app it
        have S10 := S9.trans (NetG.Stay.upd (a := D) (o := .lst (lD ++ [V.ref t])) (List.mem_cons_of_mem _ List.mem_cons_self))
        rw [List.append_assoc] at ph10
        generalize upd (upd H8 t (.tup [.str "sig", .str (NetG.sN i), .int tk])) D (.lst (lD ++ [V.ref t])) = H10 at ph10 S10 ⊢
        clear ph8 ph9 S8 S9 it ht k8 p8
        walk_at "rd"
        refine Lay.rd_bm ?_
        walk_at "rd"
        refine Lay.rd_draw ph10.pen (L2.Same.refl _) (by omega) (by omega) (by omega) (fun d1 Ha1 da1 db1 pa1 ka1 => ?_)
        have pha1 := ph10.draw pa1 ka1
        have Sa1 := S10.trans (NetG.Stay.keep (S := p :: D :: bs) List.mem_cons_self ka1)
        obtain ⟨b1, ls1, ys1, eb1, el1, hb1, hr1⟩ := pha1.get (d := d1.toNat) (by first | omega | (rw [List.length_set]; omega))
        refine Lay.rd_ixL (SqL.of (Sa1 _ _ GS hl4)) (v := .ref b1) (Lay.atI_int da1 (by rw [List.getElem?_map, eb1]; rfl)) ?_
        refine ⟨Lay.tyV_lst hb1, ?_⟩
        walk_at "rd"
        refine Lay.rd_ixStr (by decide) (by omega) (by rw [show ((0 : Int) + ((i : Nat) : Int)).toNat = i by omega]; exact e1) ?_
        refine ⟨_, _, rfl, rfl, (by show 1 + 1 ≤ sizeLine; decide), ?_⟩
        rw [e2]
        walk_at "rd"
        refine ⟨by decide, fun t1 ht1 => ?_⟩
        have sb1 := Lay.Same.upd (o := .tup [.str "post", .str (NetG.sN i)]) ht1
        have phb1 := pha1.mono sb1
        have Sb1 := Sa1.trans (NetG.Stay.of sb1)
        have lnb1 : ys1.length ≤ 100 := by
          have z1 := hr1.len
          have z2 := List.Sublist.length_le (List.sublist_flatten_of_mem (List.mem_of_getElem? el1))
          rw [pm.length_eq, NetG.rows_len] at z2
          omega
        walk_at "rd"
        refine ⟨b1, _, _, rfl, rfl, sb1 _ _ hb1, Nat.lt_of_le_of_lt lnb1 (by decide), ?_⟩
        have ph1x := phb1.put eb1 el1 (sb1 _ _ hb1) (hr1.mono sb1) (l := [.str "post", .str (NetG.sN i)]) upd_same
        have S1x := Sb1.trans (NetG.Stay.upd (a := b1) (o := .lst (ys1 ++ [V.ref t1])) (List.mem_cons_of_mem _ (List.mem_cons_of_mem _ (List.mem_of_getElem? eb1))))
        generalize upd (upd Ha1 t1 (.tup [.str "post", .str (NetG.sN i)])) b1 (.lst (ys1 ++ [V.ref t1])) = Hx1 at ph1x S1x ⊢
        walk_at "rd"
        refine Lay.rd_bm ?_
        walk_at "rd"
        refine Lay.rd_draw ph1x.pen (L2.Same.refl _) (by omega) (by omega) (by omega) (fun d2 Ha2 da2 db2 pa2 ka2 => ?_)
        have pha2 := ph1x.draw pa2 ka2
        have Sa2 := S1x.trans (NetG.Stay.keep (S := p :: D :: bs) List.mem_cons_self ka2)
        obtain ⟨b2, ls2, ys2, eb2, el2, hb2, hr2⟩ := pha2.get (d := d2.toNat) (by first | omega | (rw [List.length_set]; omega))
        refine Lay.rd_ixL (SqL.of (Sa2 _ _ GS hl4)) (v := .ref b2) (Lay.atI_int da2 (by rw [List.getElem?_map, eb2]; rfl)) ?_
        refine ⟨Lay.tyV_lst hb2, ?_⟩
        walk_at "rd"
        refine Lay.rd_ixStr (by decide) (by omega) (by rw [show ((0 : Int) + ((i : Nat) : Int)).toNat = i by omega]; exact e1) ?_
        refine ⟨_, _, rfl, rfl, (by show 1 + 1 ≤ sizeLine; decide), ?_⟩
        rw [e2]
        walk_at "rd"
        refine ⟨by decide, fun t2 ht2 => ?_⟩
        have sb2 := Lay.Same.upd (o := .tup [.str "wait", .str (NetG.sN i)]) ht2
        have phb2 := pha2.mono sb2
        have Sb2 := Sa2.trans (NetG.Stay.of sb2)
        have lnb2 : ys2.length ≤ 100 := by
          have z1 := hr2.len
          have z2 := List.Sublist.length_le (List.sublist_flatten_of_mem (List.mem_of_getElem? el2))
          rw [(NetG.flat_put [V.str "post", V.str (NetG.sN i)] el1).length_eq, List.length_append, pm.length_eq, NetG.rows_len] at z2; have z3 : ([[V.str "post", V.str (NetG.sN i)]] : List (List V)).length = 1 := rfl; rw [z3] at z2
          omega
        walk_at "rd"
        refine ⟨b2, _, _, rfl, rfl, sb2 _ _ hb2, Nat.lt_of_le_of_lt lnb2 (by decide), ?_⟩
        have ph2x := phb2.put eb2 el2 (sb2 _ _ hb2) (hr2.mono sb2) (l := [.str "wait", .str (NetG.sN i)]) upd_same
        have S2x := Sb2.trans (NetG.Stay.upd (a := b2) (o := .lst (ys2 ++ [V.ref t2])) (List.mem_cons_of_mem _ (List.mem_cons_of_mem _ (List.mem_of_getElem? eb2))))
        generalize upd (upd Ha2 t2 (.tup [.str "wait", .str (NetG.sN i)])) b2 (.lst (ys2 ++ [V.ref t2])) = Hx2 at ph2x S2x ⊢
        walk_at "rd"
        have fl1 := NetG.flat_put [V.str "post", V.str (NetG.sN i)] el1
        have fl2 := NetG.flat_put [V.str "wait", V.str (NetG.sN i)] el2
        refine ⟨_, _, _, _, rfl, ph2x.le (by omega), sg.add t0 (by omega), by rw [List.length_set, List.length_set]; exact lml, ?_, S2x⟩
        rw [NetG.rowsS_succ]
        refine fl2.trans ?_
        refine (List.Perm.append_right _ (fl1.trans (List.Perm.append_right _ pm))).trans ?_
        rw [List.append_assoc]
        exact List.Perm.refl _
      · rintro σ' H6 ⟨lD, sits, lss, o4, rfl, ph6, sg, lml, pm, S6⟩
        walk_at "rd"
        exact ⟨j, lD, sits, lss, o4, rfl, j6, ph6.le (by omega), sg, lml, pm, S6⟩
    clear ph4
    rintro σ' H5 ⟨j, lD, sits, lss, o4, rfl, j6, ph5, sg, lml, pm, S5⟩
    have slen := sg.len
    walk_at "rd"
    refine Lay.rd_for ?_
    walk_at "rd"
    refine ⟨_, rfl, by omega, by omega, ?_⟩
    rw [emn]
    refine Lay.for_go (walk_range (lo := 0) (n := mn)) (fun i σ' H' => ∃ (lD : List V) (ags : List NetL.It) (o4 o11 : Option V), σ' = [some (V.ref p), some (V.int ring), some (V.ref D), some (V.int fr), o4, o5, o6, o7, some (V.ref VL), some (V.int (1 + mm)), some (V.ref G), o11] ∧ NetG.Ph c p D bs H' (n + 90 + 41 * i) lD (vits ++ sits ++ ags) lss ∧ NetG.AgsG vits lss i ags ∧ NetG.Stay (p :: D :: bs) H4 H')
      ⟨lD, [], _, _, rfl, (by rw [List.append_nil]; exact ph5), NetG.AgsG.nil, S5⟩ (fun _ _ _ _ _ => trivial) ?_ ?_
    · rintro i x σ' H6 H7 hi ⟨lD, ags, o4, o11, rfl, ph6, ag, S6⟩ hy
      obtain ⟨rfl, rfl⟩ := hy
      have i4 : i < 4 := by omega
      have alen := ag.len
      obtain ⟨cc, e1, e2⟩ := NetG.sign_a i4
      walk_at "rd"
      refine Lay.rd_draw ph6.pen (L2.Same.refl _) (by omega) (by decide) (by decide) (fun kd H8 k0 k1 p8 k8 => ?_)
      have ph8 := ph6.draw p8 k8
      have S8 := S6.trans (NetG.Stay.keep (S := p :: D :: bs) List.mem_cons_self k8)
      clear k8 p8
      walk_at "rd"
      refine Lay.rd_bm ?_
      walk_at "rd"
      refine ⟨Lay.tyV_lst ph8.eD, ?_⟩
      walk_at "rd"
      refine Lay.rd_ixStr (by decide) (by omega) (by rw [show ((0 : Int) + ((i : Nat) : Int)).toNat = i by omega]; exact e1) ?_
      refine ⟨_, _, rfl, rfl, (by show 1 + 1 ≤ sizeLine; decide), ?_⟩
      rw [e2]
      walk_at "rd"
      obtain ⟨b, ss, ys, eb, el, hb, rw_⟩ := ph8.get (d := i) (by omega)
      have eG8 := S8 _ _ GS hl4
      have bm := List.mem_of_getElem? eb
      refine Lay.rd_ixL (SqL.of eG8) (v := .ref b) (Lay.atI_int (by omega) (by rw [show ((0 : Int) + ((i : Nat) : Int)).toNat = i by omega, List.getElem?_map, eb]; rfl)) ?_
      walk_at "rd"
      have eVL8 := S8 _ _ VLS eVL4
      have fl : ss.length ≤ 12 := by
        refine Nat.le_trans (List.Sublist.length_le (List.sublist_flatten_of_mem (List.mem_of_getElem? el))) ?_
        rw [pm.length_eq, NetG.rows_len]
        omega
      refine ⟨p, _, c, kd, VL, b, l, vits, ys, ss, rfl, ph8.pen, by omega, k0, by omega, eVL8, VLp, ?_, fun it im => ?_, by omega, by omega, hb, fun e => ph8.pb (by rw [← e]; exact bm), rw_, fl, fun r zs ls acc H9 hr er rr pr a1 a4 aok p9 k9 => ?_⟩
      · have v4 := vits4.stay (fun a m => ?_) S8
        · exact v4.off (NetG.off_sub fun a m => by rw [List.mem_singleton] at m; rw [m]; exact List.mem_cons_self)
        · exact LS4 a m
      · obtain ⟨z, s, ats, e, a1, a2, a3, _⟩ := vg.ok it im
        exact ⟨z, s, ats, e, a1, a2, a3⟩
      have ph9 := ph8.draw p9 k9
      have S9 := S8.trans (NetG.Stay.keep (S := p :: D :: bs) List.mem_cons_self k9)
      walk_at "rd"
      refine ⟨by decide, fun t ht => ?_⟩
      have ph10 := ph9.mono (Lay.Same.upd (o := .tup [.str "agent", .str (NetG.aN i), .int kd, .ref r]) ht)
      have S10 := S9.trans (NetG.Stay.of (Lay.Same.upd (o := .tup [.str "agent", .str (NetG.aN i), .int kd, .ref r]) ht))
      have it : NetG.ItemAt (p :: D :: bs) (upd H9 t (.tup [.str "agent", .str (NetG.aN i), .int kd, .ref r])) (.ref t) (.ag (NetG.aN i) kd ls) := ⟨t, r, zs, rfl, upd_same, Lay.upd_old ht er, ph8.new hr, rr.mono (Lay.Same.upd ht)⟩
      walk_at "rd"
      refine ⟨D, _, _, rfl, rfl, ph10.eD, Nat.lt_of_le_of_lt (show _ ≤ 100 by rw [ph10.items.length, List.length_append, List.length_append, slen, vlen, alen]; omega) (by decide), ?_⟩
      have ph11 := ph10.app it
      have S11 := S10.trans (NetG.Stay.upd (a := D) (o := .lst (lD ++ [V.ref t])) (List.mem_cons_of_mem _ List.mem_cons_self))
      rw [List.append_assoc] at ph11
      exact ⟨_, _, _, _, rfl, ph11.le (by omega), ag.add i4 el k0 (by omega) pr a1 a4 aok, S11⟩
    rintro σ' H6 ⟨lD, ags, o4, o11, rfl, ph6, ag, S6⟩
    walk_at "rd"
    have alen := ag.len
    refine q D lD (vits ++ sits ++ ags) H6 hD ph6.eD ?_ (NetG.genOk vg nv3 (by omega) sg j6 pm lml mn4 ag) ?_ (ph6.pen.le (by omega)) (NetG.Stay.to_keep K4 HS S6)
    · exact ph6.items.off (NetG.off_sub fun a m => by rw [List.mem_singleton] at m; rw [m]; exact List.mem_cons_self)
    · exact NetG.two_of vg ag (by omega) (by omega)
theorem ok_shuffled (T : Txt K mg A) (G_draw : FnOk P w K mg base CX0 1 A.a_draw A.d_draw ["_law_pen_here", "_law_many"] Lay.spDraw) : FnOk P w K mg base CX0 2 A.a_shuffled A.d_shuffled ["_law_pen_here", "_law_items_here"] NetG.spShuf := by
  refine T.F_shuffled.ok sc_shuffled (fun vs H Q E h => ?_) (fun cdv A0 outer s H vs Q E hr h => ?_)
  · obtain ⟨p, n, c, a, l, its, rfl, _⟩ := h
    rfl
  · obtain ⟨p, n, c, a, l, its, rfl, hp, hn, ha, nap, hi, l13, q⟩ := h
    have hlen := hi.length
    obtain ⟨xs0, hP0⟩ := hp.at_
    refine ⟨_, (pss_cons (ps_set (i := 2) sc_shuffled.nd rfl (Or.inl rfl) (pe_lst pa_nil))
    (pss_cons (ps_for PassesOwn.never rfl (pi_list (pv 1)) (pg_name (i := 3) sc_shuffled.nd rfl (Or.inl rfl))
      (pss_cons (ps_set (i := 4) sc_shuffled.nd rfl (Or.inl rfl) (pe_call G_draw (hr.mono (by decide)) rfl T.g_draw T.F_draw.kp T.b_draw .nil pass0 (pa_cons (pv 0) (pa_cons (pe_op op_add (pe_callB Lay.call_lenS (by rfl) T.n_len PySem.boot_len (pa_cons (pv 2) pa_nil)) pe_int) pa_nil))))
      (pss_one (ps_set (i := 2) sc_shuffled.nd rfl (Or.inl rfl) (pe_op op_cat (pe_op op_cat (pe_slice sl_list (pv 2) po_none (po_some (pv 4))) (pe_lst (pa_cons (pv 3) pa_nil))) (pe_slice sl_list (pv 2) (po_some (pv 4)) po_none))))))
    (pss_one (ps_ret (pv 2))))), ?_⟩
    walk_at "in"
    walk_at "rd"
    refine ⟨by decide, fun r0 hr0 => ?_⟩
    have s0 := Lay.Same.upd (o := .lst []) hr0
    walk_at "rd"
    refine Lay.rd_forW (J := Itl K a) (H1 := upd H r0 (.lst [])) (fun R r => ?_) (walk_list (xs := l)) (fun i σ' H' => ∃ (r : Addr) (zs : List V) (is : List NetL.It) (o3 o4 : Option V), σ' = [some (V.ref p), some (V.ref a), some (V.ref r), o3, o4] ∧ H r = none ∧ H' r = some (.lst zs) ∧ NetG.ItemsAt [p] H' zs is ∧ is.Perm (its.take i) ∧ Lay.PenAt c H' p (n + i) ∧ Lay.Keep p H H')
      ⟨r0, [], [], none, none, rfl, hr0, upd_same, .nil, List.Perm.nil, hp.mono s0, Lay.Keep.of s0⟩ (fun i σ' H' _ z => ?_) ?_ ?_
    · refine Lay.rd_iList ?_
      walk_at "rd"
      exact ⟨⟨_, SqL.of (s0 _ _ ha)⟩, r⟩
    · obtain ⟨r, zs, is, o3, o4, _, _, _, _, _, _, k⟩ := z
      exact SqL.of (k _ _ nap ha)
    · rintro i x σ' H2 H3 hi' ⟨r, zs, is, o3, o4, rfl, hr, er, it, pm, p2, K2⟩ ⟨rfl, ey⟩
      obtain ⟨ii, ei, ia⟩ := NetL.pget hi ey
      have Ls : NetG.Lists [p] H := fun b m => by rw [List.mem_singleton] at m; subst m; exact hp.at_
      have ilen : is.length ≤ 13 := by rw [pm.length_eq, List.length_take]; omega
      have zlen := it.length
      obtain ⟨xs2, hP2⟩ := p2.at_
      have rp : r ≠ p := fun e => by subst e; rw [hP0] at hr; cases hr
      walk_at "rd"
      refine Lay.rd_draw p2 (L2.Same.refl _) (by omega) (by omega) (by omega) (fun sp H4 sp0 sp1 p4 k4 => ?_)
      have K4 := K2.trans k4
      have er4 := k4 _ _ rp er
      have it4 := it.stay (fun b m => by rw [List.mem_singleton] at m; subst m; exact ⟨_, hP2⟩) (NetG.Stay.keep List.mem_cons_self k4)
      have new4 := ia.stay Ls (NetG.Stay.keep List.mem_cons_self K4)
      obtain ⟨sn, rfl⟩ : ∃ sn : Nat, sp = sn := ⟨sp.toNat, by omega⟩
      walk_at "rd"
      refine Lay.rd_slLk (SqL.of er4) (by omega) (fun q1 hq1 => ?_)
      have er5 := Lay.upd_old (o := .lst (zs.take sn)) hq1 er4
      walk_at "rd"
      refine ⟨by decide, fun q2 hq2 => ?_⟩
      walk_at "rd"
      refine Lay.rd_cat (Lay.upd_old hq2 upd_same) upd_same (Nat.le_trans (show _ ≤ 100 by rw [List.length_take]; show min sn zs.length + 1 ≤ 100; omega) (by decide)) (fun q3 hq3 => ?_)
      walk_at "rd"
      refine Lay.rd_slL (SqL.of (Lay.upd_old hq3 (Lay.upd_old hq2 er5))) (fun q4 hq4 => ?_)
      rw [Lay.cut_drop (by omega)]
      refine Lay.rd_cat (Lay.upd_old hq4 upd_same) upd_same (Nat.le_trans (show _ ≤ 100 by rw [List.length_append, List.length_take, List.length_drop]; show min sn zs.length + 1 + (zs.length - sn) ≤ 100; omega) (by decide)) (fun q5 hq5 => ?_)
      have S4 := Lay.Same.upd' (o := .lst (zs.drop sn)) (Lay.Same.upd' (o := .lst (zs.take sn ++ [x])) (Lay.Same.upd' (o := .lst [x]) (Lay.Same.upd (o := .lst (zs.take sn)) hq1) hq2) hq3) hq4
      have S := Lay.Same.upd' (o := .lst (zs.take sn ++ [x] ++ zs.drop sn)) S4 hq5
      obtain ⟨xs4, hP4⟩ := p4.at_
      refine ⟨q5, _, is.take sn ++ [ii] ++ is.drop sn, _, _, rfl, K4.none hP4 (Lay.none_of S4 hq5), upd_same, ?_, ?_, (p4.mono S).le (by omega), K4.trans (Lay.Keep.of S)⟩
      · exact NetG.pappend (Paired.snoc (NetG.ptake sn (it4.mono S)) (new4.mono S)) (NetG.pdrop sn (it4.mono S))
      · refine (NetG.ins_perm _ _ _ _ pm).trans ?_
        rw [Lay.take_succ ei]
    · rintro σ' H2 ⟨r, zs, is, o3, o4, rfl, hr, er, it, pm, p2, K2⟩
      walk_at "rd"
      rw [List.take_of_length_le (by omega)] at pm
      exact q r zs is H2 hr er it pm (p2.le (by omega)) K2
theorem bind3 (T : Txt K mg A) : ∃ ds, Vals [] ds ∧ Binds K A.d_Signal_init ["self", "name", "tokens"] ds :=
  T.F_Signal_init.binds1 3 1 (fun z => by cases z) rfl (fun _ _ _ _ _ _ _ us its l1 l2 => match us, its, l1, l2 with | [_, _, _], [_], _, _ => ⟨_, rfl, rfl⟩)
theorem ok_part (T : Txt K mg A) (G_Variable_made : FnOk P w K mg base (L2.CX P w) 8 A.a_Variable_made A.d_Variable_made ["cls", "name", "size", "at"] (Lay.spVarMade K A.c_Variable A.c_NoPart)) (G_Signal_init : FnOk P w K mg base (L2.CX P w) 4 A.a_Signal_init A.d_Signal_init ["self", "name", "tokens"] (Lay.spSigInit A.c_Signal A.c_NoPart)) (G_Agent_made : FnOk P w K mg base CX0 8 A.a_Agent_made A.d_Agent_made ["cls", "name", "steps"] (Lay.spMade K A.c_Agent Lay.plainWs)) (G_Through_made : FnOk P w K mg base CX0 8 A.a_Through_made A.d_Through_made ["cls", "name", "steps"] (Lay.spMade K A.c_Through Lay.cacheWs)) (G_Back_made : FnOk P w K mg base CX0 8 A.a_Back_made A.d_Back_made ["cls", "name", "steps"] (Lay.spMade K A.c_Back Lay.cacheWs)) : FnOk P w K mg base CX0 9 A.a_part A.d_part ["_law_item"] (Net7.spPartJ (cs A)) := by
  refine T.F_part.ok sc_part (fun vs H Q E h => ?_) (fun cdv A0 outer s H vs Q E hr h => ?_)
  · obtain ⟨S, v, j, rfl, _⟩ := h
    rfl
  · obtain ⟨S, v, j, rfl, hj, okj, qj⟩ := h
    obtain ⟨ds3, hd3, b3⟩ := bind3 T
    refine ⟨_, (pss_cons (ps_if (pt_cmpR op_eq (pe_ix ix_tup (pv 0) pe_int (fun _ _ => rfl)) pe_str (nomark _))
      (pss_one (ps_ret (ClX.pe_cmeth (pe_glob (v := .ref A.c_Variable) rfl T.g_Variable rfl) T.cr_Variable T.cm_Variable_made.choose_spec (Lay.fnR_of (NetL.calmOf G_Variable_made) T.b_Variable_made) (hr.mono (by decide)) pass0 (pa_cons (pe_ix ix_tup (pv 0) pe_int (fun _ _ => rfl)) (pa_cons (pe_ix ix_tup (pv 0) pe_int (fun _ _ => rfl)) (pa_cons (pe_ix ix_tup (pv 0) pe_int (fun _ _ => rfl)) pa_nil))))))
      pss_nil)
    (pss_cons (ps_if (pt_cmpR op_eq (pe_ix ix_tup (pv 0) pe_int (fun _ _ => rfl)) pe_str (nomark _))
      (pss_one (ps_ret (pe_make T.mk_Signal (NetL.calmOf G_Signal_init) (hr.mono (by decide)) rfl T.g_Signal b3 hd3 pass0 (pa_cons (pe_ix ix_tup (pv 0) pe_int (fun _ _ => rfl)) (pa_cons (pe_ix ix_tup (pv 0) pe_int (fun _ _ => rfl)) pa_nil)))))
      pss_nil)
    (pss_cons (ps_if (PW.pt (pw_and (pt_cmpR op_eq (pe_ix ix_tup (pv 0) pe_int (fun _ _ => rfl)) pe_str (nomark _)) (pw_and1 (pt_cmpR op_eq (pe_ix ix_tup (pv 0) pe_int (fun _ _ => rfl)) pe_int (nomark _)))))
      (pss_one (ps_ret (ClX.pe_cmeth (pe_glob (v := .ref A.c_Agent) rfl T.g_Agent rfl) T.cr_Agent T.cm_Agent_made.choose_spec (Lay.fnR_of G_Agent_made T.b_Agent_made) (hr.mono (by decide)) pass0 (pa_cons (pe_ix ix_tup (pv 0) pe_int (fun _ _ => rfl)) (pa_cons (pe_ix ix_tup (pv 0) pe_int (fun _ _ => rfl)) pa_nil)))))
      pss_nil)
    (pss_cons (ps_if (PW.pt (pw_and (pt_cmpR op_eq (pe_ix ix_tup (pv 0) pe_int (fun _ _ => rfl)) pe_str (nomark _)) (pw_and1 (pt_cmpR op_eq (pe_ix ix_tup (pv 0) pe_int (fun _ _ => rfl)) pe_int (nomark _)))))
      (pss_one (ps_ret (ClX.pe_cmeth (pe_glob (v := .ref A.c_Through) rfl T.g_Through rfl) T.cr_Through T.cm_Through_made.choose_spec (Lay.fnR_of G_Through_made T.b_Through_made) (hr.mono (by decide)) pass0 (pa_cons (pe_ix ix_tup (pv 0) pe_int (fun _ _ => rfl)) (pa_cons (pe_ix ix_tup (pv 0) pe_int (fun _ _ => rfl)) pa_nil)))))
      pss_nil)
    (pss_cons (ps_if (pt_cmpR op_eq (pe_ix ix_tup (pv 0) pe_int (fun _ _ => rfl)) pe_str (nomark _))
      (pss_one (ps_ret (ClX.pe_cmeth (pe_glob (v := .ref A.c_Back) rfl T.g_Back rfl) T.cr_Back T.cm_Back_made.choose_spec (Lay.fnR_of G_Back_made T.b_Back_made) (hr.mono (by decide)) pass0 (pa_cons (pe_ix ix_tup (pv 0) pe_int (fun _ _ => rfl)) (pa_cons (pe_ix ix_tup (pv 0) pe_int (fun _ _ => rfl)) pa_nil)))))
      pss_nil)
    (pss_one (ps_ret (pe_ix ix_tup (pv 0) pe_int (fun _ _ => rfl))))))))), ?_⟩
    walk_at "in"
    cases j with
    | th u =>
      obtain ⟨a, rfl, h1, kz, nb⟩ := hj
      walk_at "rd"
      refine Lay.ite_d (fun c => absurd c (by decide +kernel)) (fun _ => ?_)
      walk_at "it"
      refine Lay.ite_d (fun c => absurd c (by decide +kernel)) (fun _ => ?_)
      walk_at "it"
      refine Lay.ite_d (fun c => absurd c (by decide +kernel)) (fun _ => ?_)
      walk_at "it"
      refine Lay.ite_d (fun c => absurd c (by decide +kernel)) (fun _ => ?_)
      walk_at "it"
      refine Lay.ite_d (fun c => absurd c (by decide +kernel)) (fun _ => ?_)
      walk_at "it"
      exact qj u H (L2.Same.refl H) ⟨rfl, kz⟩
    | it it =>
    have hi : NetG.ItemAt S H v it := hj
    have ok : NetG.PartOk it := okj
    have q : ∀ u H', L2.Same H H' → NetL.PartAt (cs A) H' u it → Q u H' := fun u H' s h => qj u H' s h
    clear hj okj qj
    cases it with
    | vr z s0 ats =>
      obtain ⟨a, b, rfl, h1, h2, nb⟩ := hi
      obtain ⟨hz, s1, s8, l1, l4, gp, bd⟩ := ok
      walk_at "rd"
      refine Lay.ite_d (fun _ => ?_) (fun c => absurd rfl c)
      walk_at "rd"
      refine Lay.rd_cmeth ?_
      walk_at "rd"
      refine ⟨rfl, ?_⟩
      walk_at "rd"
      have w := NetG.wants_ok hz s1 s8 l1 l4 bd gp
      refine ⟨.str z, .int s0, b, ats.map V.int, rfl, .str (by have := Lay.nameOk_len hz; omega), .int _, .inr (SqL.of h2), (fun x m => ?_), (by rw [List.length_map]; omega), (fun r p e => ?_), (fun _ x H' s g => q _ H' s ⟨x, rfl, g⟩)⟩
      · obtain ⟨i, _, rfl⟩ := List.mem_map.mp m
        exact .int i
      · rw [w] at e; cases e
    | sg z t =>
      obtain ⟨a, rfl, h1⟩ := hi
      obtain ⟨hz, t0, t3⟩ := ok
      walk_at "rd"
      refine Lay.ite_d (fun c => absurd c (by decide +kernel)) (fun _ => ?_)
      walk_at "it"
      refine Lay.ite_d (fun _ => ?_) (fun c => absurd rfl c)
      walk_at "rd"
      refine Lay.rd_make ?_
      walk_at "rd"
      exact Lay.mk_sig (Q := fun x H => Q (.ref x) H) hz t0 t3 (fun x H' s g => q _ H' s ⟨x, rfl, g⟩)
    | ag z k ls =>
      obtain ⟨a, b, ys, rfl, h1, h2, nb, hr_⟩ := hi
      obtain ⟨hz, k0, k2, l1, l24, hgs⟩ := ok
      walk_at "rd"
      refine Lay.ite_d (fun c => absurd c (by decide +kernel)) (fun _ => ?_)
      walk_at "it"
      refine Lay.ite_d (fun c => absurd c (by decide +kernel)) (fun _ => ?_)
      walk_at "it"
      refine Lay.ite_d (fun _ => ?_) (fun c => absurd rfl c)
      walk_at "rd"
      refine Lay.ite_d (fun c0 => ?_) (fun c0 => ?_)
      · rw [show Lay.wsK k = Lay.plainWs from if_pos c0] at hgs
        walk_at "rd"
        refine Lay.rd_cmeth ?_
        walk_at "rd"
        refine ⟨rfl, ?_⟩
        walk_at "rd"
        exact ⟨z, b, ys, ls, rfl, hz, .inr (SqL.of h2), hr_, l1, l24, hgs, fun x H' hx s g => q _ H' s ⟨x, rfl, by subst c0; exact g⟩⟩
      · rw [show Lay.wsK k = Lay.cacheWs from if_neg c0] at hgs
        walk_at "rd"
        refine Lay.ite_d (fun _ => ?_) (fun c => absurd rfl c)
        walk_at "rd"
        refine Lay.ite_d (fun c1 => ?_) (fun c1 => ?_)
        · walk_at "rd"
          refine Lay.rd_cmeth ?_
          walk_at "rd"
          refine ⟨rfl, ?_⟩
          walk_at "rd"
          exact ⟨z, b, ys, ls, rfl, hz, .inr (SqL.of h2), hr_, l1, l24, hgs, fun x H' hx s g => q _ H' s ⟨x, rfl, by subst c1; exact g⟩⟩
        · walk_at "it"
          refine Lay.ite_d (fun _ => ?_) (fun c => absurd rfl c)
          walk_at "rd"
          refine Lay.rd_cmeth ?_
          walk_at "rd"
          refine ⟨rfl, ?_⟩
          walk_at "rd"
          exact ⟨z, b, ys, ls, rfl, hz, .inr (SqL.of h2), hr_, l1, l24, hgs, fun x H' hx s g => q _ H' s ⟨x, rfl, by rw [show (cs A).of (.ag z k ls) = A.c_Back from (if_neg c0).trans (if_neg c1)]; exact g⟩⟩
theorem ok_within (T : Txt K mg A) : FnOk P w K mg base CX0 1 A.a_within A.d_within ["_law_value", "_law_least", "_law_greatest"] Lay.spLawWithin := by
  refine T.F_within.ok sc_within (fun vs H Q E h => ?_) (fun cdv A0 outer s H vs Q E hr h => ?_)
  · obtain ⟨v, lo, hi, rfl, _⟩ := h
    rfl
  · obtain ⟨v, lo, hi, rfl, ⟨t, k, hz⟩, q⟩ := h
    clear hz
    refine ⟨_, (pss_one (ps_ret (pe_and (pe_callB call_isi (by rfl) T.n_isinstance (by decide +kernel) (pa_cons (pv 0) (pa_cons (pe_bltn (v := .ty "int") (by rfl) T.n_int (by decide +kernel) rfl) pa_nil))) (pe_and (pe_not (pe_callB call_isi (by rfl) T.n_isinstance (by decide +kernel) (pa_cons (pv 0) (pa_cons (pe_bltn (v := .ty "bool") (by rfl) T.n_bool (by decide +kernel) rfl) pa_nil)))) (pe_one (pe_chain op_le op_le (pv 1) (pv 0) (pv 2))))))), ?_⟩
    walk_at "in"
    cases k
    all_goals
      walk_at "rd"
      refine Lay.rd_isi .int (by first | exact .non | exact .bl _ | exact .int _ | exact .str _ | exact .lst (by assumption) | exact .tup (by assumption) | exact .dK (by assumption)) ?_
      walk_at "rd"
      first
        | exact iteF q
        | (refine iteT ?_
           walk_at "rd"
           refine Lay.rd_isi .bool (by first | exact .bl _ | exact .int _) ?_
           walk_at "rd"
           first
             | exact iteF q
             | (rename_i i
                refine iteT ?_
                walk_at "rd"
                refine Lay.ite_d (fun c => ?_) (fun c => ?_)
                · walk_at "rd"
                  have e : Lay.within (.int i) lo hi = decide (i ≤ hi) := by show (decide (lo ≤ i) && decide (i ≤ hi)) = _; rw [decide_eq_true c]; rfl
                  rw [e] at q
                  exact q
                · have e : Lay.within (.int i) lo hi = false := by show (decide (lo ≤ i) && decide (i ≤ hi)) = _; rw [decide_eq_false c]; rfl
                  rw [e] at q
                  exact q))
theorem ok_parts_wrong (T : Txt K mg A) : FnOk P w K mg base CX0 2 A.a_parts_wrong A.d_parts_wrong ["_law_items_here"] Net7.spPartsWrong := by
  refine T.F_parts_wrong.ok sc_parts_wrong (fun vs H Q E h => ?_) (fun cdv A0 outer s H vs Q E hr h => ?_)
  · obtain ⟨S, a, l, js, rfl, _⟩ := h
    rfl
  · obtain ⟨S, a, l, js, rfl, ha, hj, hd, q⟩ := h
    have lenj := hj.length
    have l30 := hd.len
    refine ⟨_, (pss_cons (ps_for PassesOwn.never rfl (pi_range1 rfl T.n_range (pa_cons (pe_callB Lay.call_lenS (by rfl) T.n_len PySem.boot_len (pa_cons (pv 0) pa_nil)) pa_nil)) (pg_name (i := 1) sc_parts_wrong.nd rfl (Or.inl rfl))
      (pss_one (ps_if (pt_cmpR op_eq (pe_ix ix_tup (pe_ix ix_list (pv 0) (pv 1) (fun _ _ => rfl)) pe_int (fun _ _ => rfl)) pe_str (nomark _))
        (pss_one (ps_ret (pe_tup (pa_cons pe_str (pa_cons (pv 1) pa_nil)))))
        pss_nil)))
    (pss_cons (ps_for PassesOwn.never rfl (pi_range1 rfl T.n_range (pa_cons (pe_callB Lay.call_lenS (by rfl) T.n_len PySem.boot_len (pa_cons (pv 0) pa_nil)) pa_nil)) (pg_name (i := 1) sc_parts_wrong.nd rfl (Or.inl rfl))
      (pss_cons (ps_setLc (i := 2) (own := [("_law_item", 3)]) (g := gName 3) (tt := tYes) rfl sc_parts_wrong.nd rfl rfl (sw_true rfl rfl rfl (by decide +kernel)) (pi_list (pe_slice sl_list (pv 0) po_none (po_some (pe_op op_add (pv 1) pe_int)))) (blkOk_by (own := [("_law_item", 3)]) (N := ["_law_items_here", "_law_k", "_law_words", "_law_item"]) (sc := defScope s_parts_wrong) (by decide +kernel)) (fun _ _ _ _ _ => pg_name (i := 3) sc_parts_wrong.nd rfl (Or.inl rfl)) (fun _ _ _ _ _ => pts_nil) (fun _ _ _ _ _ => by exact (pe_ix (show IxR _ (rIxT K) from ix_tup) (pv 3) pe_int (fun _ _ => rfl))))
      (pss_one (ps_if (PW.pt (pw_or (pt_cmpR op_gt (pe_bm PySem.F.plainAttrs_list PySem.F.slot_list_count PySem.F.type_list_count (NetL.mt_cntD (NetL.u65 hr)) (pv 2) (pa_cons pe_str pa_nil)) pe_int (nomark _)) (pw_or (pt_cmpR op_gt (pe_bm PySem.F.plainAttrs_list PySem.F.slot_list_count PySem.F.type_list_count (NetL.mt_cntD (NetL.u65 hr)) (pv 2) (pa_cons pe_str pa_nil)) pe_int (nomark _)) (pw_or1 (pt_cmpR op_gt (pe_bm PySem.F.plainAttrs_list PySem.F.slot_list_count PySem.F.type_list_count (NetL.mt_cntD (NetL.u65 hr)) (pv 2) (pa_cons pe_str pa_nil)) pe_int (nomark _))))))
        (pss_one (ps_ret (pe_tup (pa_cons pe_str (pa_cons (pv 1) pa_nil)))))
        pss_nil))))
    (pss_cons (ps_for PassesOwn.never rfl (pi_range1 rfl T.n_range (pa_cons (pe_callB Lay.call_lenS (by rfl) T.n_len PySem.boot_len (pa_cons (pv 0) pa_nil)) pa_nil)) (pg_name (i := 1) sc_parts_wrong.nd rfl (Or.inl rfl))
      (pss_one (ps_if (pt_cmpR (Lay.op_inS hr.units) (pe_ix ix_tup (pe_ix ix_list (pv 0) (pv 1) (fun _ _ => rfl)) pe_int (fun _ _ => rfl)) (pe_lc (own := [("_law_item", 3)]) (g := gName 3) (tt := tYes) rfl sc_parts_wrong.nd (pi_list (pe_slice sl_list (pv 0) po_none (po_some (pv 1)))) (blkOk_by (own := [("_law_item", 3)]) (N := ["_law_items_here", "_law_k", "_law_words", "_law_item"]) (sc := defScope s_parts_wrong) (by decide +kernel)) (fun _ _ _ _ _ => pg_name (i := 3) sc_parts_wrong.nd rfl (Or.inl rfl)) (fun _ _ _ _ _ => pts_nil) (fun _ _ _ _ _ => by exact (pe_ix (show IxR _ (rIxT K) from ix_tup) (pv 3) pe_int (fun _ _ => rfl)))) rfl)
        (pss_one (ps_ret (pe_tup (pa_cons pe_str (pa_cons (pv 1) pa_nil)))))
        pss_nil)))
    (pss_one (ps_ret pe_non))))), ?_⟩
    walk_at "in"
    walk_at "rd"
    refine Lay.rd_for ?_
    walk_at "rd"
    refine ⟨_, rfl, by omega, by omega, ?_⟩
    rw [Int.toNat_natCast]
    refine Lay.for_go (walk_range (lo := 0) (n := l.length)) (fun i σ' H' => (∃ o1, σ' = [some (V.ref a), o1, none, none]) ∧ L2.Same H H' ∧ ∀ k < i, Net7.hPart js k = false) ⟨⟨_, rfl⟩, L2.Same.refl _, fun k hk => absurd hk (Nat.not_lt_zero k)⟩ (fun _ _ _ _ _ => trivial) ?_ ?_
    · rintro i x σ' H2 H3 hi ⟨⟨o1, rfl⟩, s2, noh⟩ hy
      obtain ⟨rfl, rfl⟩ := hy
      have ey : l[i]? = some (l[i]'hi) := List.getElem?_eq_getElem hi
      obtain ⟨j, ej, ja⟩ := Net7.pgetJ hj ey
      obtain ⟨b, kk, rest, eb, hb, kv⟩ := Net7.row_kw ja
      rw [eb] at ey
      walk_at "rd"
      rw [Int.zero_add]
      refine Lay.rd_ixL (SqL.of (s2 _ _ ha)) (v := .ref b) (Lay.atI_nat ey) ?_
      walk_at "rd"
      refine Lay.rd_ixT (SqT.of (s2 _ _ hb)) (v := .str kk) (Lay.atI_nat (i := 0) rfl) ?_
      walk_at "rd"
      rw [kv "thing", Net7.kwJ_th]
      cases j with
      | th u =>
        rw [show (Net7.Jt.th u).isTh = true from rfl]
        walk_at "it"
        refine ⟨by decide, fun t ht => ?_⟩
        have hw : Net7.whyP js = some (("part" : Str), Net7.Pl.at i) := Net7.orE_some (Net7.find_hit noh (by unfold Net7.hPart; rw [ej]) (by omega))
        refine q (.ref t) _ (s2.trans (Lay.Same.upd ht)) ?_
        rw [hw]
        exact ⟨t, rfl, upd_same⟩
      | it x =>
        rw [show (Net7.Jt.it x).isTh = false from rfl]
        walk_at "it"
        refine ⟨⟨_, rfl⟩, s2, fun k hk => ?_⟩
        by_cases z : k < i
        · exact noh k z
        · obtain rfl : k = i := by omega
          unfold Net7.hPart
          rw [ej]
    rintro σ' H2 ⟨⟨o1, rfl⟩, s2, noh⟩
    have w0 : Net7.wPart js = none := Net7.find_no (by rw [← lenj]; exact noh)
    have hjs : js = (Net7.strip js).map .it := Net7.no_part (by rw [← lenj]; exact noh)
    have hI : NetG.ItemsAt S H l (Net7.strip js) := Net7.js_it (by rw [← hjs]; exact hj)
    have hn : ∀ k, Net7.wMany (Net7.strip js) = some k → Net7.whyP js = some (("many" : Str), Net7.Pl.at k) := fun k h => by unfold Net7.whyP; rw [Net7.orE_none w0]; exact Net7.orE_some h
    have hm : ∀ k, Net7.wMany (Net7.strip js) = none → Net7.wName (Net7.strip js) = some k → Net7.whyP js = some (("name" : Str), Net7.Pl.at k) := fun k h h2 => by unfold Net7.whyP; rw [Net7.orE_none w0, Net7.orE_none h]; exact Net7.orE_some h2
    have ho : Net7.wMany (Net7.strip js) = none → Net7.wName (Net7.strip js) = none → Net7.whyP js = none := fun h h2 => by unfold Net7.whyP; rw [Net7.orE_none w0, Net7.orE_none h, Net7.orE_none h2]
    have hok : ∀ it ∈ Net7.strip js, NetG.PartOk it := (Net7.strip_dec hd).ok
    generalize Net7.strip js = its at hI hn hm ho hok
    clear noh hjs hj
    have lenI := hI.length
    walk_at "rd"
    refine Lay.rd_for ?_
    walk_at "rd"
    refine Lay.rd_lenL (SqL.of (s2 _ _ ha)) ?_
    walk_at "rd"
    refine ⟨_, rfl, by omega, by omega, ?_⟩
    rw [Int.toNat_natCast]
    refine Lay.for_go (walk_range (lo := 0) (n := l.length)) (fun i σ' H' => (∃ o1 o2, σ' = [some (V.ref a), o1, o2, none]) ∧ L2.Same H H' ∧ ∀ k < i, Net7.hMany its k = false) ⟨⟨_, _, rfl⟩, s2, fun k hk => absurd hk (Nat.not_lt_zero k)⟩ (fun _ _ _ _ _ => trivial) ?_ ?_
    · rintro i x σ' H3 H4 hi ⟨⟨o1, o2, rfl⟩, s3, noh⟩ hy
      obtain ⟨rfl, rfl⟩ := hy
      walk_at "rd"
      rw [Int.zero_add, show ((i : Nat) : Int) + 1 = ((i + 1 : Nat) : Int) from rfl]
      refine Lay.rd_slLk (SqL.of (s3 _ _ ha)) (by omega) (fun q1 hq1 => ?_)
      have s4 := s3.trans (Lay.Same.upd (o := .lst (l.take (i + 1))) hq1)
      have eq1 : (upd H4 q1 (.lst (l.take (i + 1)))) q1 = some (.lst (l.take (i + 1))) := upd_same
      have It : NetG.ItemsAt S H (l.take (i + 1)) (its.take (i + 1)) := NetG.ptake (i + 1) hI
      have lt30 : (l.take (i + 1)).length ≤ 30 := by rw [List.length_take]; omega
      have lenT := It.length
      generalize upd H4 q1 (.lst (l.take (i + 1))) = H5 at s4 eq1
      walk_at "rd"
      refine ⟨⟨_, SqL.of eq1⟩, ?_⟩
      intro D hD
      refine Lay.lc_go (walk_list (xs := l.take (i + 1))) (fun j l' H' => L2.Same H5 H' ∧ l' = (((its.take (i + 1)).take j).map Net7.wordOf).map V.str) ⟨Lay.Same.upd hD, rfl⟩ (fun j l' H' _ r => SqL.of (r.1 _ _ eq1)) ?_ ?_
      · rintro j l' y J2 J3 hjj hl' hz' ⟨r2, el⟩ ⟨rfl, ey⟩
        obtain ⟨it, ei, ia⟩ := NetL.pget It ey
        obtain ⟨b, rest, rfl, hb⟩ := Net7.item_full3 ia
        walk_at "rd"
        refine ⟨rfl, ?_⟩
        walk_at "it"
        refine Lay.rd_ixT (SqT.of (r2 _ _ (s4 _ _ hb))) (v := .str (Net7.wordOf it)) (Lay.atI_nat (i := 0) rfl) ?_
        refine Lay.lc_put hl' hz' (by have : j < (l.take (i + 1)).length := hjj
                                      omega) ⟨fun b o hb => ?_, ?_⟩
        · rw [upd_ne (fun e => by subst e; rw [hD] at hb; cases hb)]
          exact r2 _ _ hb
        · rw [Lay.take_succ ei, List.map_append, List.map_append, el]
          rfl
      rintro lw H6 hlw hzw ⟨r6, elw⟩
      rw [List.take_of_length_le (by omega)] at elw
      subst elw
      have s6 := s4.trans r6
      have wsok : ∀ z ∈ (its.take (i + 1)).map Net7.wordOf, PyData.strOk z = true := fun z m => by
        obtain ⟨it, _, rfl⟩ := List.mem_map.mp m
        exact Net7.word_ok it
      walk_at "rd"
      refine NetL.rd_cntB ?_
      walk_at "rd"
      refine ⟨Lay.tyV_lst hlw, ?_⟩
      walk_at "rd"
      refine Net7.rd_cntS (SqL.of hlw) wsok (by decide +kernel) ?_
      rw [Net7.cnt_word Net7.wordA]
      walk_at "it"
      refine Lay.ite_d (fun c1 => ?_) (fun c1 => ?_)
      · walk_at "it"
        refine ⟨by decide, fun t ht => ?_⟩
        have hw : Net7.whyP js = some (("many" : Str), Net7.Pl.at i) := hn i (Net7.find_hit noh (by unfold Net7.hMany; rw [decide_eq_true (show 4 < ((its.take (i + 1)).filter NetL.It.isA).length by omega), Bool.true_or]) (by omega))
        refine q (.ref t) _ (s6.trans (Lay.Same.upd ht)) ?_
        rw [hw]
        exact ⟨t, rfl, upd_same⟩
      walk_at "it"
      refine NetL.rd_cntB ?_
      walk_at "rd"
      refine ⟨Lay.tyV_lst hlw, ?_⟩
      walk_at "rd"
      refine Net7.rd_cntS (SqL.of hlw) wsok (by decide +kernel) ?_
      rw [Net7.cnt_word Net7.wordV]
      walk_at "it"
      refine Lay.ite_d (fun c2 => ?_) (fun c2 => ?_)
      · walk_at "it"
        refine ⟨by decide, fun t ht => ?_⟩
        have hw : Net7.whyP js = some (("many" : Str), Net7.Pl.at i) := hn i (Net7.find_hit noh (by unfold Net7.hMany; rw [decide_eq_true (show 6 < ((its.take (i + 1)).filter NetL.It.isV).length by omega), Bool.true_or, Bool.or_true]) (by omega))
        refine q (.ref t) _ (s6.trans (Lay.Same.upd ht)) ?_
        rw [hw]
        exact ⟨t, rfl, upd_same⟩
      walk_at "it"
      refine NetL.rd_cntB ?_
      walk_at "rd"
      refine ⟨Lay.tyV_lst hlw, ?_⟩
      walk_at "rd"
      refine Net7.rd_cntS (SqL.of hlw) wsok (by decide +kernel) ?_
      rw [Net7.cnt_word Net7.wordS]
      walk_at "it"
      refine Lay.ite_d (fun c3 => ?_) (fun c3 => ?_)
      · walk_at "it"
        refine ⟨by decide, fun t ht => ?_⟩
        have hw : Net7.whyP js = some (("many" : Str), Net7.Pl.at i) := hn i (Net7.find_hit noh (by unfold Net7.hMany; rw [decide_eq_true (show 6 < ((its.take (i + 1)).filter NetL.It.isS).length by omega), Bool.or_true, Bool.or_true]) (by omega))
        refine q (.ref t) _ (s6.trans (Lay.Same.upd ht)) ?_
        rw [hw]
        exact ⟨t, rfl, upd_same⟩
      walk_at "it"
      refine ⟨⟨_, _, rfl⟩, s6, fun k hk => ?_⟩
      by_cases z : k < i
      · exact noh k z
      · obtain rfl : k = i := by omega
        unfold Net7.hMany
        rw [decide_eq_false (by omega), decide_eq_false (by omega), decide_eq_false (by omega)]
        rfl
    rintro σ' H3 ⟨⟨o1, o2, rfl⟩, s3, noh⟩
    have n1 : Net7.wMany its = none := Net7.find_no (by rw [← lenI]; exact noh)
    clear noh
    walk_at "rd"
    refine Lay.rd_for ?_
    walk_at "rd"
    refine Lay.rd_lenL (SqL.of (s3 _ _ ha)) ?_
    walk_at "rd"
    refine ⟨_, rfl, by omega, by omega, ?_⟩
    rw [Int.toNat_natCast]
    refine Lay.for_go (walk_range (lo := 0) (n := l.length)) (fun i σ' H' => (∃ o1, σ' = [some (V.ref a), o1, o2, none]) ∧ L2.Same H H' ∧ ∀ k < i, Net7.hName its k = false) ⟨⟨_, rfl⟩, s3, fun k hk => absurd hk (Nat.not_lt_zero k)⟩ (fun _ _ _ _ _ => trivial) ?_ ?_
    · rintro i x σ' H4 H5 hi ⟨⟨o1, rfl⟩, s4, noh⟩ hy
      obtain ⟨rfl, rfl⟩ := hy
      have ey : l[i]? = some (l[i]'hi) := List.getElem?_eq_getElem hi
      obtain ⟨it, ei, ia⟩ := NetL.pget hI ey
      obtain ⟨b, rest, eb, hb⟩ := Net7.item_full3 ia
      rw [eb] at ey
      have okz : Lay.nameOk it.nm = true := Net7.part_nm (hok it (List.mem_of_getElem? ei))
      walk_at "rd"
      rw [Int.zero_add]
      refine Lay.rd_ixL (SqL.of (s4 _ _ ha)) (v := .ref b) (Lay.atI_nat ey) ?_
      walk_at "rd"
      refine Lay.rd_ixT (SqT.of (s4 _ _ hb)) (v := .str it.nm) (Lay.atI_nat (i := 1) rfl) ?_
      walk_at "rd"
      refine Lay.rd_slLk (SqL.of (s4 _ _ ha)) (by omega) (fun q1 hq1 => ?_)
      have s5 := s4.trans (Lay.Same.upd (o := .lst (l.take i)) hq1)
      have eq1 : (upd H5 q1 (.lst (l.take i))) q1 = some (.lst (l.take i)) := upd_same
      have It : NetG.ItemsAt S H (l.take i) (its.take i) := NetG.ptake i hI
      have lt30 : (l.take i).length ≤ 30 := by rw [List.length_take]; omega
      have lenT := It.length
      generalize upd H5 q1 (.lst (l.take i)) = H6 at s5 eq1
      walk_at "rd"
      refine ⟨⟨_, SqL.of eq1⟩, ?_⟩
      intro D hD
      refine Lay.lc_go (walk_list (xs := l.take i)) (fun j l' H' => L2.Same H6 H' ∧ l' = (((its.take i).take j).map NetL.It.nm).map V.str) ⟨Lay.Same.upd hD, rfl⟩ (fun j l' H' _ r => SqL.of (r.1 _ _ eq1)) ?_ ?_
      · rintro j l' y J2 J3 hjj hl' hz' ⟨r2, el⟩ ⟨rfl, ey2⟩
        obtain ⟨it2, ei2, ia2⟩ := NetL.pget It ey2
        obtain ⟨b2, rest2, rfl, hb2⟩ := Net7.item_full3 ia2
        walk_at "rd"
        refine ⟨rfl, ?_⟩
        walk_at "it"
        refine Lay.rd_ixT (SqT.of (r2 _ _ (s5 _ _ hb2))) (v := .str it2.nm) (Lay.atI_nat (i := 1) rfl) ?_
        refine Lay.lc_put hl' hz' (by have : j < (l.take i).length := hjj
                                      omega) ⟨fun b o hb => ?_, ?_⟩
        · rw [upd_ne (fun e => by subst e; rw [hD] at hb; cases hb)]
          exact r2 _ _ hb
        · rw [Lay.take_succ ei2, List.map_append, List.map_append, el]
          rfl
      rintro lw H7 hlw hzw ⟨r7, elw⟩
      rw [List.take_of_length_le (by omega)] at elw
      subst elw
      have s7 := s5.trans r7
      walk_at "rd"
      refine Lay.rd_inSL (SqL.of hlw) (.str it.nm) ?_
      have val : Lay.inStrs (.str it.nm) ((its.take i).map NetL.It.nm) = Net7.hName its i := by
        unfold Net7.hName
        rw [ei]
        show ((its.take i).map NetL.It.nm).contains it.nm = _
        rw [List.contains_eq_mem]
      rw [val]
      cases hh : Net7.hName its i with
      | true =>
        walk_at "it"
        refine ⟨by decide, fun t ht => ?_⟩
        have hw : Net7.whyP js = some (("name" : Str), Net7.Pl.at i) := hm i n1 (Net7.find_hit noh hh (by omega))
        refine q (.ref t) _ (s7.trans (Lay.Same.upd ht)) ?_
        rw [hw]
        exact ⟨t, rfl, upd_same⟩
      | false =>
        walk_at "it"
        refine ⟨⟨_, rfl⟩, s7, fun k hk => ?_⟩
        by_cases z : k < i
        · exact noh k z
        · obtain rfl : k = i := by omega
          exact hh
    rintro σ' H4 ⟨⟨o1, rfl⟩, s4, noh⟩
    have n2 : Net7.wName its = none := Net7.find_no (by rw [← lenI]; exact noh)
    walk_at "rd"
    refine q .non H4 s4 ?_
    rw [ho n1 n2]
    rfl
theorem ok_variables_wrong (T : Txt K mg A) : FnOk P w K mg base CX0 2 A.a_variables_wrong A.d_variables_wrong ["_law_items_here", "_law_slots_here"] Net7.spVarsWrong := by
  refine T.F_variables_wrong.ok sc_variables_wrong (fun vs H Q E h => ?_) (fun cdv A0 outer s H vs Q E hr h => ?_)
  · obtain ⟨S, a, ring, l, its, rfl, _⟩ := h
    rfl
  · obtain ⟨S, a, ring, l, its, rfl, ha, hI, hd0, q⟩ := h
    have lenI := hI.length
    have l30 := hd0.len
    have hby := NetL.bytes_le (its := its) (fun z s ats m => ⟨(hd0.vr m).2.1, (hd0.vr m).2.2.2.1⟩)
    refine ⟨_, (pss_cons (ps_for PassesOwn.never rfl (pi_range1 rfl T.n_range (pa_cons (pe_callB Lay.call_lenS (by rfl) T.n_len PySem.boot_len (pa_cons (pv 0) pa_nil)) pa_nil)) (pg_name (i := 2) sc_variables_wrong.nd rfl (Or.inl rfl))
      (pss_one (ps_if (PW.pt (pw_and (pt_cmpR op_eq (pe_ix ix_tup (pe_ix ix_list (pv 0) (pv 2) (fun _ _ => rfl)) pe_int (fun _ _ => rfl)) pe_str (nomark _)) (pw_and1 (pt_cmpR op_notIn_seq (pe_callB Lay.call_lenS (by rfl) T.n_len PySem.boot_len (pa_cons (pe_ix ix_tup (pe_ix ix_list (pv 0) (pv 2) (fun _ _ => rfl)) pe_int (fun _ _ => rfl)) pa_nil)) (pe_tup (pa_cons pe_int (pa_cons (pv 1) pa_nil))) rfl))))
        (pss_one (ps_ret (pe_tup (pa_cons pe_str (pa_cons (pv 2) pa_nil)))))
        pss_nil)))
    (pss_cons (ps_set (i := 3) sc_variables_wrong.nd rfl (Or.inr rfl) pe_dnewK)
    (pss_cons (ps_for PassesOwn.never rfl (pi_range1 rfl T.n_range (pa_cons (pe_callB Lay.call_lenS (by rfl) T.n_len PySem.boot_len (pa_cons (pv 0) pa_nil)) pa_nil)) (pg_name (i := 2) sc_variables_wrong.nd rfl (Or.inl rfl))
      (pss_one (ps_if (pt_cmpR op_eq (pe_ix ix_tup (pe_ix ix_list (pv 0) (pv 2) (fun _ _ => rfl)) pe_int (fun _ _ => rfl)) pe_str (nomark _))
        (pss_cons (ps_set (i := 4) sc_variables_wrong.nd rfl (Or.inl rfl) (pe_lst pa_nil))
        (pss_cons (ps_for PassesOwn.never rfl (pi_list (pe_ix ix_tup (pe_ix ix_list (pv 0) (pv 2) (fun _ _ => rfl)) pe_int (fun _ _ => rfl))) (pg_name (i := 5) sc_variables_wrong.nd rfl (Or.inr rfl))
          (pss_one (ps_set (i := 4) sc_variables_wrong.nd rfl (Or.inl rfl) (pe_op op_cat (pv 4) (pe_lc (own := [("_law_j", 6)]) (g := gName 6) (tt := tYes) rfl sc_variables_wrong.nd (pi_range1 rfl T.n_range (pa_cons (pe_ix ix_tup (pe_ix ix_list (pv 0) (pv 2) (fun _ _ => rfl)) pe_int (fun _ _ => rfl)) pa_nil)) (blkOk_by (own := [("_law_j", 6)]) (N := ["_law_items_here", "_law_slots_here", "_law_k", "_law_taken", "_law_mine", "_law_spot", "_law_j"]) (sc := defScope s_variables_wrong) (by decide +kernel)) (fun _ _ _ _ _ => pg_name (i := 6) sc_variables_wrong.nd rfl (Or.inl rfl)) (fun _ _ _ _ _ => pts_nil) (fun _ _ _ _ _ => by exact (pe_op op_add (pv 5) (pv 6))))))))
        (pss_cons (ps_if (pt_cmpR op_gt (pe_callB Lay.call_lenS (by rfl) T.n_len PySem.boot_len (pa_cons (pe_lc (own := [("_law_spot", 5)]) (g := gName 5) rfl sc_variables_wrong.nd (pi_list (pv 4)) (blkOk_by (own := [("_law_spot", 5)]) (N := ["_law_items_here", "_law_slots_here", "_law_k", "_law_taken", "_law_mine", "_law_spot", "_law_j"]) (sc := defScope s_variables_wrong) (by decide +kernel)) (fun _ _ _ _ _ => pg_name (i := 5) sc_variables_wrong.nd rfl (Or.inl rfl)) (fun _ _ _ _ _ => pts_one (by exact pt_cmp (pc_din (Nat.lt_of_le_of_lt (Nat.add_le_add_left (show 1 ≤ 64 by decide) _) hr.units) (pv 5) (pv 3)) (by rfl))) (fun _ _ _ _ _ => by exact (pv 5))) pa_nil)) pe_int (nomark _))
          (pss_one (ps_ret (pe_tup (pa_cons pe_str (pa_cons (pv 2) pa_nil)))))
          pss_nil)
        (pss_one (ps_for PassesOwn.never rfl (pi_list (pv 4)) (pg_name (i := 5) sc_variables_wrong.nd rfl (Or.inr rfl))
          (pss_one (ps_dput (Nat.lt_of_le_of_lt (Nat.add_le_add_left (show 1 ≤ 64 by decide) _) hr.units) (pv 3) (pv 5) pe_bl rfl)))))))
        pss_nil)))
    (pss_one (ps_ret pe_non))))), ?_⟩
    walk_at "in"
    walk_at "rd"
    refine Lay.rd_for ?_
    walk_at "rd"
    refine ⟨_, rfl, by omega, by omega, ?_⟩
    rw [Int.toNat_natCast]
    refine Lay.for_go (walk_range (lo := 0) (n := l.length)) (fun i σ' H' => (∃ o1, σ' = [some (V.ref a), some (V.int ring), o1, none, none, none, none]) ∧ L2.Same H H' ∧ ∀ k < i, Net7.hSlots ring its k = false) ⟨⟨_, rfl⟩, L2.Same.refl _, fun k hk => absurd hk (Nat.not_lt_zero k)⟩ (fun _ _ _ _ _ => trivial) ?_ ?_
    · rintro i x σ' H2 H3 hi ⟨⟨o1, rfl⟩, s2, noh⟩ hy
      obtain ⟨rfl, rfl⟩ := hy
      have ey : l[i]? = some (l[i]'hi) := List.getElem?_eq_getElem hi
      obtain ⟨it, ei, ia⟩ := NetL.pget hI ey
      generalize l[i]'hi = vi at ey ia
      have noh2 : Net7.hSlots ring its i = false → ∀ k < i + 1, Net7.hSlots ring its k = false := fun hh k hk => by
        by_cases z : k < i
        · exact noh k z
        · obtain rfl : k = i := by omega
          exact hh
      cases it with
      | sg z t0 =>
        obtain ⟨b, rfl, hb⟩ := ia
        walk_at "rd"
        rw [Int.zero_add]
        refine Lay.rd_ixL (SqL.of (s2 _ _ ha)) (v := .ref b) (Lay.atI_nat ey) ?_
        walk_at "rd"
        refine Lay.rd_ixT (SqT.of (s2 _ _ hb)) (v := .str _) (Lay.atI_nat (i := 0) rfl) ?_
        walk_at "rd"
        refine Lay.ite_d (fun c => absurd c (by decide +kernel)) (fun _ => ?_)
        walk_at "it"
        exact ⟨⟨_, rfl⟩, s2, noh2 (by unfold Net7.hSlots; rw [ei])⟩
      | ag z k0 ls =>
        obtain ⟨b, bl, yr, rfl, hb, _⟩ := ia
        walk_at "rd"
        rw [Int.zero_add]
        refine Lay.rd_ixL (SqL.of (s2 _ _ ha)) (v := .ref b) (Lay.atI_nat ey) ?_
        walk_at "rd"
        refine Lay.rd_ixT (SqT.of (s2 _ _ hb)) (v := .str _) (Lay.atI_nat (i := 0) rfl) ?_
        walk_at "rd"
        refine Lay.ite_d (fun c => absurd c (by decide +kernel)) (fun _ => ?_)
        walk_at "it"
        exact ⟨⟨_, rfl⟩, s2, noh2 (by unfold Net7.hSlots; rw [ei])⟩
      | vr z s0 ats =>
        obtain ⟨b, bl, rfl, hb, hbl, nbl⟩ := ia
        have hval : Net7.hSlots ring its i = !decide ((ats.length : Int) ∈ ([1, ring] : List Int)) := by unfold Net7.hSlots; rw [ei]
        walk_at "rd"
        rw [Int.zero_add]
        refine Lay.rd_ixL (SqL.of (s2 _ _ ha)) (v := .ref b) (Lay.atI_nat ey) ?_
        walk_at "rd"
        refine Lay.rd_ixT (SqT.of (s2 _ _ hb)) (v := .str "var") (Lay.atI_nat (i := 0) rfl) ?_
        walk_at "rd"
        refine Lay.ite_d (fun _ => ?_) (fun c => absurd rfl c)
        walk_at "rd"
        refine Lay.rd_ixL (SqL.of (s2 _ _ ha)) (v := .ref b) (Lay.atI_nat ey) ?_
        walk_at "rd"
        refine Lay.rd_ixT (SqT.of (s2 _ _ hb)) (v := .ref bl) (Lay.atI_nat (i := 3) rfl) ?_
        walk_at "rd"
        refine Lay.rd_lenL (SqL.of (s2 _ _ hbl)) ?_
        walk_at "rd"
        refine ⟨by decide, fun u hu => ?_⟩
        have s3 := s2.trans (Lay.Same.upd (o := .tup [V.int 1, V.int ring]) hu)
        refine Lay.rd_notInI (ns := [1, ring]) (SqT.of upd_same) ?_
        rw [List.length_map, ← hval]
        cases hh : Net7.hSlots ring its i with
        | true =>
          walk_at "it"
          refine ⟨by decide, fun t ht => ?_⟩
          have hw : Net7.whyV ring its = some (("slots" : Str), Net7.Pl.at i) := Net7.orE_some (Net7.find_hit noh hh (by omega))
          refine q (.ref t) _ (s3.trans (Lay.Same.upd ht)) ?_
          rw [hw]
          exact ⟨t, rfl, upd_same⟩
        | false =>
          walk_at "it"
          exact ⟨⟨_, rfl⟩, s3, noh2 hh⟩
    rintro σ' H2' ⟨⟨o1, rfl⟩, s2', noh⟩
    have n1 : Net7.wSlots ring its = none := Net7.find_no (by rw [← lenI]; exact noh)
    clear noh
    walk_at "rd"
    refine Lay.rd_dnew (fun D hD => ?_)
    have HD : H D = none := Lay.none_of s2' hD
    have keepD : ∀ {H1 : Hp} {o : HO}, L2.Same H H1 → L2.Same H (upd H1 D o) := fun s b o hb => by
      rw [upd_ne (fun y => by subst y; rw [HD] at hb; cases hb)]
      exact s b o hb
    walk_at "rd"
    refine Lay.rd_for ?_
    walk_at "rd"
    refine Lay.rd_lenL (SqL.of (keepD s2' _ _ ha)) ?_
    walk_at "rd"
    refine ⟨_, rfl, by omega, by omega, ?_⟩
    rw [Int.toNat_natCast]
    refine Lay.for_go (walk_range (lo := 0) (n := l.length)) (fun i σ' H' => (∃ o1 o2 o3, σ' = [some (V.ref a), some (V.int ring), o1, some (V.ref D), o2, o3, none]) ∧ L2.Same H H' ∧ H' D = some (.dK (NetL.marks ((its.take i).flatMap NetL.It.bytes))) ∧ ∀ k < i, Net7.hBytes its k = false) ⟨⟨_, _, _, rfl⟩, keepD s2', upd_same, fun k hk => absurd hk (Nat.not_lt_zero k)⟩ (fun _ _ _ _ _ => trivial) ?_ ?_
    · rintro i x σ' H2 H3 hi ⟨⟨o1, o2, o3, rfl⟩, s2, hm, noh⟩ hy
      obtain ⟨rfl, rfl⟩ := hy
      have ey : l[i]? = some (l[i]'hi) := List.getElem?_eq_getElem hi
      obtain ⟨it, ei, ia⟩ := NetL.pget hI ey
      generalize l[i]'hi = vi at ey ia
      have noh2 : Net7.hBytes its i = false → ∀ k < i + 1, Net7.hBytes its k = false := fun hh k hk => by
        by_cases z : k < i
        · exact noh k z
        · obtain rfl : k = i := by omega
          exact hh
      have fin := NetL.take_flat ei
      cases it with
      | sg z t0 =>
        obtain ⟨b, rfl, hb⟩ := ia
        walk_at "rd"
        rw [Int.zero_add]
        refine Lay.rd_ixL (SqL.of (s2 _ _ ha)) (v := .ref b) (Lay.atI_nat ey) ?_
        walk_at "rd"
        refine Lay.rd_ixT (SqT.of (s2 _ _ hb)) (v := .str _) (Lay.atI_nat (i := 0) rfl) ?_
        walk_at "rd"
        refine Lay.ite_d (fun c => absurd c (by decide +kernel)) (fun _ => ?_)
        walk_at "it"
        exact ⟨⟨_, _, _, rfl⟩, s2, by rw [fin]; show _ = some (HO.dK (NetL.marks (_ ++ []))); rw [List.append_nil]; exact hm, noh2 (by unfold Net7.hBytes; rw [ei])⟩
      | ag z k0 ls =>
        obtain ⟨b, bl, yr, rfl, hb, _⟩ := ia
        walk_at "rd"
        rw [Int.zero_add]
        refine Lay.rd_ixL (SqL.of (s2 _ _ ha)) (v := .ref b) (Lay.atI_nat ey) ?_
        walk_at "rd"
        refine Lay.rd_ixT (SqT.of (s2 _ _ hb)) (v := .str _) (Lay.atI_nat (i := 0) rfl) ?_
        walk_at "rd"
        refine Lay.ite_d (fun c => absurd c (by decide +kernel)) (fun _ => ?_)
        walk_at "it"
        exact ⟨⟨_, _, _, rfl⟩, s2, by rw [fin]; show _ = some (HO.dK (NetL.marks (_ ++ []))); rw [List.append_nil]; exact hm, noh2 (by unfold Net7.hBytes; rw [ei])⟩
      | vr z s0 ats =>
        obtain ⟨b, bl, rfl, hb, hbl, nbl⟩ := ia
        obtain ⟨v1, v8, w1, w4, bnd⟩ := hd0.vr (List.mem_of_getElem? ei)
        have hval : Net7.hBytes its i = (NetL.It.vr z s0 ats).bytes.any (fun b => decide (b ∈ (its.take i).flatMap NetL.It.bytes)) := by unfold Net7.hBytes; rw [ei]
        walk_at "rd"
        rw [Int.zero_add]
        refine Lay.rd_ixL (SqL.of (s2 _ _ ha)) (v := .ref b) (Lay.atI_nat ey) ?_
        walk_at "rd"
        refine Lay.rd_ixT (SqT.of (s2 _ _ hb)) (v := .str "var") (Lay.atI_nat (i := 0) rfl) ?_
        walk_at "rd"
        refine Lay.ite_d (fun _ => ?_) (fun c => absurd rfl c)
        walk_at "rd"
        refine ⟨by decide, fun m0 hm0 => ?_⟩
        have s3 := s2.trans (Lay.Same.upd (o := .lst []) hm0)
        have hm3 := Lay.upd_old (o := .lst []) hm0 hm
        have em0 : (upd H3 m0 (.lst [])) m0 = some (.lst []) := upd_same
        generalize upd H3 m0 (.lst []) = HM at s3 hm3 em0
        have small : s0.toNat ≤ 8 := by omega
        have prod : ∀ j : Nat, j ≤ ats.length → j * s0.toNat ≤ 32 := fun j hj => Nat.le_trans (Nat.mul_le_mul (Nat.le_trans hj w4) small) (by decide)
        walk_at "rd"
        refine Lay.rd_for ?_
        walk_at "rd"
        refine Lay.rd_ixL (SqL.of (s3 _ _ ha)) (v := .ref b) (Lay.atI_nat ey) ?_
        walk_at "rd"
        refine Lay.rd_ixT (SqT.of (s3 _ _ hb)) (v := .ref bl) (Lay.atI_nat (i := 3) rfl) ?_
        walk_at "rd"
        refine ⟨⟨_, SqL.of (s3 _ _ hbl)⟩, ?_⟩
        refine Lay.for_go (walk_list (K := K) (a := bl) (xs := ats.map V.int)) (fun j σ' H' => (∃ m1 o3, σ' = [some (V.ref a), some (V.int ring), some (V.int (i : Nat)), some (V.ref D), some (V.ref m1), o3, none] ∧ H' m1 = some (.lst (((ats.take j).flatMap (NetL.row s0.toNat)).map V.int))) ∧ L2.Same HM H') ⟨⟨m0, _, rfl, em0⟩, L2.Same.refl _⟩ (fun j σ' H' _ z => SqL.of (z.2 _ _ (s3 _ _ hbl))) ?_ ?_
        · rintro j y σ' H4 H5 hj ⟨⟨m1, o3, rfl, em1⟩, s4⟩ ⟨rfl, ej⟩
          have hj' : j < ats.length := by simpa using hj
          obtain ⟨n0, en, rfl⟩ : ∃ n0, ats[j]? = some n0 ∧ y = V.int n0 := by
            rw [List.getElem?_map, List.getElem?_eq_getElem hj'] at ej
            exact ⟨_, List.getElem?_eq_getElem hj', (Option.some.inj ej).symm⟩
          have S4 := s3.trans s4
          walk_at "rd"
          refine Lay.rd_ixL (SqL.of (S4 _ _ ha)) (v := .ref b) (Lay.atI_nat ey) ?_
          walk_at "rd"
          refine Lay.rd_ixT (SqT.of (S4 _ _ hb)) (v := .int s0) (Lay.atI_nat (i := 2) rfl) ?_
          walk_at "rd"
          refine ⟨s0, rfl, by omega, by omega, ?_⟩
          intro L hL
          refine Lay.lc_go (walk_range (lo := 0) (n := s0.toNat)) (fun m l' H' => L2.Same H5 H' ∧ l' = (NetL.row m n0).map V.int) ⟨Lay.Same.upd hL, rfl⟩ (fun _ _ _ _ _ => trivial) ?_ ?_
          · rintro m l' y J2 J3 hmm hl' hz' ⟨r2, el⟩ hy
            obtain ⟨rfl, rfl⟩ := hy
            walk_at "rd"
            refine ⟨rfl, ?_⟩
            walk_at "it"
            refine Lay.lc_put hl' hz' (by omega) ⟨fun b o hb => ?_, ?_⟩
            · rw [upd_ne (fun e => by subst e; rw [hL] at hb; cases hb)]
              exact r2 _ _ hb
            · rw [NetL.row_succ, List.map_append, el, Int.zero_add]
              rfl
          rintro lr H6 hlr hzr ⟨r6, elr⟩
          subst elr
          have b1 := prod j (by omega)
          have b2 := prod (j + 1) (by omega)
          refine NetG.rd_catS (r6 _ _ em1) hlr (Nat.le_trans (show _ ≤ 100 by rw [List.length_map, List.length_map, NetL.rows_len, NetL.row_len, List.length_take]; have b3 := prod (min j ats.length) (by omega); omega) (by decide)) (fun m2 H7 s7 em2 => ?_)
          walk_at "rd"
          refine ⟨⟨m2, _, rfl, ?_⟩, (s4.trans r6).trans s7⟩
          rw [em2, NetL.rows_succ en, List.map_append]
        rintro σ' H4 ⟨⟨m1, o3', rfl, em1⟩, s4⟩
        rw [List.take_of_length_le (by rw [List.length_map]; exact Nat.le_refl _), ← NetL.bytes_vr z s0 ats] at em1
        have e32 : (NetL.It.vr z s0 ats).bytes.length ≤ 32 := by rw [NetL.bytes_vr, NetL.rows_len]; exact prod _ (Nat.le_refl _)
        have total : ((its.take i).flatMap NetL.It.bytes ++ (NetL.It.vr z s0 ats).bytes).length ≤ 960 := by
          rw [← fin]
          refine Nat.le_trans (List.Sublist.length_le ?_) (show (its.flatMap NetL.It.bytes).length ≤ 960 by omega)
          conv => rhs; rw [← List.take_append_drop (i + 1) its, List.flatMap_append]
          exact List.sublist_append_left _ _
        have atb : ∀ (j : Nat) (y : V), ((NetL.It.vr z s0 ats).bytes.map V.int)[j]? = some y → ∃ a : Int, (NetL.It.vr z s0 ats).bytes[j]? = some a ∧ y = V.int a := by
          intro j y h
          rw [List.getElem?_map] at h
          cases e : (NetL.It.vr z s0 ats).bytes[j]? with
          | none => rw [e] at h; cases h
          | some a => rw [e] at h; cases h; exact ⟨a, rfl, rfl⟩
        have S4 := s3.trans s4
        have hm4 := s4 _ _ hm3
        generalize (NetL.It.vr z s0 ats).bytes = bs at em1 e32 total atb fin bnd hval
        generalize (its.take i).flatMap NetL.It.bytes = pre at hm4 total fin hval
        walk_at "rd"
        refine ⟨⟨_, SqL.of em1⟩, ?_⟩
        intro M hM
        refine Lay.lc_go (walk_list (xs := bs.map V.int)) (fun j l' H' => L2.Same H4 H' ∧ l' = ((bs.take j).filter (fun b => decide (b ∈ pre))).map V.int) ⟨Lay.Same.upd hM, rfl⟩ (fun j l' H' _ r => SqL.of (r.1 _ _ em1)) ?_ ?_
        · rintro j l' y H5 H6 hj hl5 hz5 ⟨g1, g2⟩ ⟨rfl, ej⟩
          obtain ⟨a1, ea, rfl⟩ := atb j y ej
          have hj' : j < bs.length := by simpa using hj
          walk_at "rd"
          refine ⟨rfl, ?_⟩
          walk_at "rd"
          refine NetL.rd_dIn ?_
          walk_at "rd"
          refine ⟨D, _, rfl, DGet.k (k := .inl a1) (g1 _ _ hm4), ?_⟩
          rw [Net7.marks_is]
          refine ⟨_, rfl, ?_⟩
          refine Lay.ite_d (fun c => ?_) (fun c => ?_)
          · walk_at "rd"
            refine Lay.lc_put hl5 hz5 (by omega) ⟨fun b o hb => ?_, ?_⟩
            · rw [upd_ne (fun y => by subst y; rw [hM] at hb; cases hb)]
              exact g1 b o hb
            · rw [g2, Lay.take_succ ea, List.filter_append, List.filter_cons_of_pos (by exact decide_eq_true c), List.map_append]
              rfl
          · refine Lay.lc_skip hl5 hz5 ⟨g1, ?_⟩
            rw [g2, Lay.take_succ ea, List.filter_append, List.filter_cons_of_neg (by rw [decide_eq_false c]; decide), List.filter_nil, List.append_nil]
        rintro lf H5 hl5 hz5 ⟨g1, rfl⟩
        rw [List.take_of_length_le (by rw [List.length_map]; exact Nat.le_refl _)] at hl5
        walk_at "rd"
        rw [List.length_map]
        have S5 := S4.trans g1
        have yes : Net7.hBytes its i = decide (0 < (bs.filter (fun b => decide (b ∈ pre))).length) := by
          rw [hval]
          cases e : bs.filter (fun b => decide (b ∈ pre)) with
          | nil =>
            rw [List.any_eq_false.mpr fun x m => by have := List.filter_eq_nil_iff.mp e x m; exact this]
            rfl
          | cons x r =>
            have mx : x ∈ bs.filter (fun b => decide (b ∈ pre)) := by rw [e]; exact List.mem_cons_self
            rw [List.any_eq_true.mpr ⟨x, (List.mem_filter.mp mx).1, (List.mem_filter.mp mx).2⟩]
            rfl
        refine Lay.ite_d (fun c => ?_) (fun c => ?_)
        · have hh : Net7.hBytes its i = true := by rw [yes]; exact decide_eq_true (by omega)
          walk_at "it"
          refine ⟨by decide, fun t ht => ?_⟩
          have hw : Net7.whyV ring its = some (("bytes" : Str), Net7.Pl.at i) := by unfold Net7.whyV; rw [Net7.orE_none n1]; exact Net7.orE_some (Net7.find_hit noh hh (by omega))
          refine q (.ref t) _ (S5.trans (Lay.Same.upd ht)) ?_
          rw [hw]
          exact ⟨t, rfl, upd_same⟩
        have hh : Net7.hBytes its i = false := by rw [yes]; exact decide_eq_false (by omega)
        walk_at "it"
        have new : ∀ (j : Nat) (a : Int), bs[j]? = some a → a ∉ pre ++ bs.take j := fun j a h m => by
          rcases List.mem_append.mp m with m | m
          · rw [hval] at hh
            exact List.any_eq_false.mp hh a (List.mem_of_getElem? h) (decide_eq_true m)
          · exact Net7.not_take bnd h m
        have h5 := g1 _ _ em1
        have m1D : m1 ≠ D := fun e => by subst e; rw [hm4] at em1; cases em1
        refine Lay.rd_for ?_
        walk_at "rd"
        refine ⟨⟨_, SqL.of h5⟩, ?_⟩
        refine Lay.for_go (walk_list (K := K) (a := m1) (xs := bs.map V.int)) (fun j σ' H' => (∃ o3, σ' = [some (V.ref a), some (V.int ring), some (V.int (i : Nat)), some (V.ref D), some (V.ref m1), o3, none]) ∧ L2.Same H H' ∧ H' D = some (.dK (NetL.marks (pre ++ bs.take j))) ∧ H' m1 = some (.lst (bs.map V.int))) ⟨⟨_, rfl⟩, S5, by rw [List.take_zero, List.append_nil]; exact g1 _ _ hm4, h5⟩ (fun j σ' H' _ z => SqL.of z.2.2.2) ?_ ?_
        · rintro j y σ' H6 H7 hj ⟨⟨o3, rfl⟩, g3, g4, g5⟩ ⟨rfl, ej⟩
          obtain ⟨a1, ea, rfl⟩ := atb j y ej
          have hj' : j < bs.length := by simpa using hj
          walk_at "rd"
          refine NetL.rd_dPut ?_
          walk_at "rd"
          refine ⟨D, _, rfl, DPut.k (k := .inl a1) g4 ?_, ?_⟩
          · unfold NetL.marks
            rw [List.length_map, List.length_append, List.length_take]
            rw [List.length_append] at total
            exact Nat.lt_of_le_of_lt (show _ ≤ 960 by omega) (by decide)
          · refine ⟨⟨_, rfl⟩, keepD g3, ?_, by rw [upd_ne m1D]; exact g5⟩
            rw [upd_same, NetL.marks_put (new j a1 ea), Lay.take_succ ea, List.append_assoc]
        · rintro σ' H6 ⟨⟨o3, rfl⟩, g3, g4, g5⟩
          rw [List.length_map, List.take_length] at g4
          exact ⟨⟨_, _, _, rfl⟩, g3, by rw [fin]; exact g4, noh2 hh⟩
    rintro σ' H3 ⟨⟨o1, o2, o3, rfl⟩, s3, hm, noh⟩
    have n2 : Net7.wBytes its = none := Net7.find_no (by rw [← lenI]; exact noh)
    walk_at "rd"
    refine q .non H3 s3 ?_
    unfold Net7.whyV
    rw [Net7.orE_none n1, Net7.orE_none n2]
    rfl
theorem ok_steps_wrong (T : Txt K mg A) : FnOk P w K mg base CX0 2 A.a_steps_wrong A.d_steps_wrong ["_law_items_here"] Net7.spStepsWrong := by
  refine T.F_steps_wrong.ok sc_steps_wrong (fun vs H Q E h => ?_) (fun cdv A0 outer s H vs Q E hr h => ?_)
  · obtain ⟨S, a, l, its, rfl, _⟩ := h
    rfl
  · obtain ⟨S, a, l, its, rfl, ha, hI, hd0, hnd, q⟩ := h
    have lenI := hI.length
    have l30 := hd0.len
    refine ⟨_, (pss_cons (ps_set (i := 1) sc_steps_wrong.nd rfl (Or.inl rfl) pe_dnewK)
    (pss_cons (ps_for PassesOwn.never rfl (pi_list (pv 0)) (pg_name (i := 2) sc_steps_wrong.nd rfl (Or.inl rfl))
      (pss_one (ps_if (pt_cmpR op_eq (pe_ix ix_tup (pv 2) pe_int (fun _ _ => rfl)) pe_str (nomark _))
        (pss_one (ps_dput (Nat.lt_of_le_of_lt (Nat.add_le_add_left (show 1 ≤ 64 by decide) _) hr.units) (pv 1) (pe_ix ix_tup (pv 2) pe_int (fun _ _ => rfl)) (pe_ix ix_tup (pv 2) pe_int (fun _ _ => rfl)) rfl))
        pss_nil)))
    (pss_cons (ps_setLc (i := 3) (own := [("_law_item", 2)]) (g := gName 2) rfl sc_steps_wrong.nd rfl rfl (sw_true rfl rfl rfl (by decide +kernel)) (pi_list (pv 0)) (blkOk_by (own := [("_law_item", 2)]) (N := ["_law_items_here", "_law_sizes", "_law_item", "_law_signals_here", "_law_agents_here", "_law_counts", "_law_a", "_law_s", "_law_step", "_law_k"]) (sc := defScope s_steps_wrong) (by decide +kernel)) (fun _ _ _ _ _ => pg_name (i := 2) sc_steps_wrong.nd rfl (Or.inl rfl)) (fun _ _ _ _ _ => pts_one (pt_cmpR op_eq (pe_ix (show IxR _ (rIxT K) from ix_tup) (pv 2) pe_int (fun _ _ => rfl)) pe_str (nomark _))) (fun _ _ _ _ _ => by exact (pe_ix (show IxR _ (rIxT K) from ix_tup) (pv 2) pe_int (fun _ _ => rfl))))
    (pss_cons (ps_setLc (i := 4) (own := [("_law_item", 2)]) (g := gName 2) rfl sc_steps_wrong.nd rfl rfl (sw_true rfl rfl rfl (by decide +kernel)) (pi_list (pv 0)) (blkOk_by (own := [("_law_item", 2)]) (N := ["_law_items_here", "_law_sizes", "_law_item", "_law_signals_here", "_law_agents_here", "_law_counts", "_law_a", "_law_s", "_law_step", "_law_k"]) (sc := defScope s_steps_wrong) (by decide +kernel)) (fun _ _ _ _ _ => pg_name (i := 2) sc_steps_wrong.nd rfl (Or.inl rfl)) (fun _ _ _ _ _ => pts_one (pt_cmpR op_eq (pe_ix (show IxR _ (rIxT K) from ix_tup) (pv 2) pe_int (fun _ _ => rfl)) pe_str (nomark _))) (fun _ _ _ _ _ => by exact (pv 2)))
    (pss_cons (ps_set (i := 5) sc_steps_wrong.nd rfl (Or.inl rfl) pe_dnewT)
    (pss_cons (ps_for PassesOwn.never rfl (pi_range1 rfl T.n_range (pa_cons (pe_callB Lay.call_lenS (by rfl) T.n_len PySem.boot_len (pa_cons (pv 4) pa_nil)) pa_nil)) (pg_name (i := 6) sc_steps_wrong.nd rfl (Or.inl rfl))
      (pss_one (ps_for PassesOwn.never rfl (pi_range1 rfl T.n_range (pa_cons (pe_callB Lay.call_lenS (by rfl) T.n_len PySem.boot_len (pa_cons (pe_ix ix_tup (pe_ix ix_list (pv 4) (pv 6) (fun _ _ => rfl)) pe_int (fun _ _ => rfl)) pa_nil)) pa_nil)) (pg_name (i := 7) sc_steps_wrong.nd rfl (Or.inl rfl))
        (pss_cons (ps_set (i := 8) sc_steps_wrong.nd rfl (Or.inl rfl) (pe_ix ix_list (pe_ix ix_tup (pe_ix ix_list (pv 4) (pv 6) (fun _ _ => rfl)) pe_int (fun _ _ => rfl)) (pv 7) (fun _ _ => rfl)))
        (pss_cons (ps_if (PW.pt (pw_and (pt_cmpR op_eq (pe_callB Lay.call_lenS (by rfl) T.n_len PySem.boot_len (pa_cons (pv 8) pa_nil)) pe_int (nomark _)) (pw_and1 (pt_cmpR (Lay.op_notInS hr.units) (pe_ix ix_tup (pv 8) pe_int (fun _ _ => rfl)) (pv 3) rfl))))
          (pss_one (ps_ret (pe_tup (pa_cons pe_str (pa_cons (pe_tup (pa_cons (pv 6) (pa_cons (pv 7) pa_nil))) pa_nil)))))
          pss_nil)
        (pss_cons (ps_if (PW.pt (pw_and (pt_cmpR op_eq (pe_callB Lay.call_lenS (by rfl) T.n_len PySem.boot_len (pa_cons (pv 8) pa_nil)) pe_int (nomark _)) (pw_and1 (PW.pt (pw_or (pt_cmp (pc_dnotin (Nat.lt_of_le_of_lt (Nat.add_le_add_left (show 1 ≤ 64 by decide) _) hr.units) (pe_ix ix_tup (pv 8) pe_int (fun _ _ => rfl)) (pv 1)) (by rfl)) (pw_or1 (pt_cmpR op_ge (pe_ix ix_tup (pv 8) pe_int (fun _ _ => rfl)) (pe_dget (Nat.lt_of_le_of_lt (Nat.add_le_add_left (show 1 ≤ 64 by decide) _) hr.units) (pv 1) (pe_ix ix_tup (pv 8) pe_int (fun _ _ => rfl)) (fun _ _ => rfl)) (nomark _))))))))
          (pss_one (ps_ret (pe_tup (pa_cons pe_str (pa_cons (pe_tup (pa_cons (pv 6) (pa_cons (pv 7) pa_nil))) pa_nil)))))
          pss_nil)
        (pss_one (ps_dput (Nat.lt_of_le_of_lt (Nat.add_le_add_left (show 1 ≤ 64 by decide) _) hr.units) (pv 5) (pe_slice sl_tupA (pv 8) po_none (po_some pe_int)) (pe_op op_add (pe_dget2 (Nat.lt_of_le_of_lt (Nat.add_le_add_left (show 1 ≤ 64 by decide) _) hr.units) (pv 5) (pe_slice sl_tupA (pv 8) po_none (po_some pe_int)) pe_int ⟨by rfl, by rfl, by rfl, by rfl⟩) pe_int) rfl))))))))
    (pss_cons (ps_for PassesOwn.never rfl (pi_range1 rfl T.n_range (pa_cons (pe_callB Lay.call_lenS (by rfl) T.n_len PySem.boot_len (pa_cons (pv 0) pa_nil)) pa_nil)) (pg_name (i := 9) sc_steps_wrong.nd rfl (Or.inl rfl))
      (pss_one (ps_if (pt_cmpR op_eq (pe_ix ix_tup (pe_ix ix_list (pv 0) (pv 9) (fun _ _ => rfl)) pe_int (fun _ _ => rfl)) pe_str (nomark _))
        (pss_one (ps_if (PW.pt (pw_or (pt_cmpR op_ne (pe_dget2 (Nat.lt_of_le_of_lt (Nat.add_le_add_left (show 1 ≤ 64 by decide) _) hr.units) (pv 5) (pe_tup (pa_cons pe_str (pa_cons (pe_ix ix_tup (pe_ix ix_list (pv 0) (pv 9) (fun _ _ => rfl)) pe_int (fun _ _ => rfl)) pa_nil))) pe_int ⟨by rfl, by rfl, by rfl, by rfl⟩) pe_int (nomark _)) (pw_or1 (pt_cmpR op_ne (pe_dget2 (Nat.lt_of_le_of_lt (Nat.add_le_add_left (show 1 ≤ 64 by decide) _) hr.units) (pv 5) (pe_tup (pa_cons pe_str (pa_cons (pe_ix ix_tup (pe_ix ix_list (pv 0) (pv 9) (fun _ _ => rfl)) pe_int (fun _ _ => rfl)) pa_nil))) pe_int ⟨by rfl, by rfl, by rfl, by rfl⟩) pe_int (nomark _)))))
          (pss_one (ps_ret (pe_tup (pa_cons pe_str (pa_cons (pv 9) pa_nil)))))
          pss_nil))
        pss_nil)))
    (pss_one (ps_ret pe_non))))))))), ?_⟩
    walk_at "in"
    walk_at "rd"
    refine Lay.rd_dnew (fun D hD => ?_)
    have keepD : ∀ {H1 : Hp} {o : HO}, L2.Same H H1 → L2.Same H (upd H1 D o) := fun s b o hb => by
      rw [upd_ne (fun y => by subst y; rw [hD] at hb; cases hb)]
      exact s b o hb
    walk_at "rd"
    refine Lay.rd_for ?_
    walk_at "rd"
    refine ⟨⟨_, SqL.of (keepD (L2.Same.refl _) _ _ ha)⟩, ?_⟩
    refine Lay.for_go (walk_list (K := K) (a := a) (xs := l)) (fun i σ' H' => (∃ o2, σ' = [some (V.ref a), some (V.ref D), o2, none, none, none, none, none, none, none]) ∧ L2.Same H H' ∧ H' D = some (.dK (NetL.sizes (its.take i)))) ⟨⟨_, rfl⟩, keepD (L2.Same.refl _), upd_same⟩ (fun i σ' H' _ z => SqL.of (z.2.1 _ _ ha)) ?_ ?_
    · rintro i y σ' H2 H3 hi ⟨⟨o2, rfl⟩, s2, hm⟩ ⟨rfl, ey⟩
      obtain ⟨it, ei, ia⟩ := NetL.pget hI ey
      cases it with
      | sg z t0 =>
        obtain ⟨b, rfl, hb⟩ := ia
        walk_at "rd"
        refine Lay.rd_ixT (SqT.of (s2 _ _ hb)) (v := .str _) (Lay.atI_nat (i := 0) rfl) ?_
        walk_at "rd"
        refine Lay.ite_d (fun c => absurd c (by decide +kernel)) (fun _ => ?_)
        walk_at "it"
        exact ⟨⟨_, rfl⟩, s2, by rw [Lay.take_succ ei, NetL.sizes_app]; show _ = some (HO.dK (_ ++ [])); rw [List.append_nil]; exact hm⟩
      | ag z k0 ls =>
        obtain ⟨b, bl, yr, rfl, hb, _⟩ := ia
        walk_at "rd"
        refine Lay.rd_ixT (SqT.of (s2 _ _ hb)) (v := .str _) (Lay.atI_nat (i := 0) rfl) ?_
        walk_at "rd"
        refine Lay.ite_d (fun c => absurd c (by decide +kernel)) (fun _ => ?_)
        walk_at "it"
        exact ⟨⟨_, rfl⟩, s2, by rw [Lay.take_succ ei, NetL.sizes_app]; show _ = some (HO.dK (_ ++ [])); rw [List.append_nil]; exact hm⟩
      | vr z s0 ats =>
        obtain ⟨b, bl, rfl, hb, _⟩ := ia
        walk_at "rd"
        refine Lay.rd_ixT (SqT.of (s2 _ _ hb)) (v := .str "var") (Lay.atI_nat (i := 0) rfl) ?_
        walk_at "rd"
        refine Lay.ite_d (fun _ => ?_) (fun c => absurd rfl c)
        refine NetL.rd_dPut ?_
        walk_at "rd"
        refine Lay.rd_ixT (SqT.of (s2 _ _ hb)) (v := .int s0) (Lay.atI_nat (i := 2) rfl) ?_
        walk_at "rd"
        refine Lay.rd_ixT (SqT.of (s2 _ _ hb)) (v := .str z) (Lay.atI_nat (i := 1) rfl) ?_
        refine ⟨D, _, rfl, DPut.k (k := .inr z) hm (Nat.lt_of_le_of_lt (Nat.le_trans (NetL.sizes_len _) (show _ ≤ 30 by rw [List.length_take]; omega)) (by decide)), ?_⟩
        refine ⟨⟨_, rfl⟩, keepD s2, ?_⟩
        have no : z ∉ (its.take i).map NetL.It.nm := by
          rw [List.map_take]
          exact NetL.not_take hnd (by rw [List.getElem?_map, ei]; rfl)
        rw [upd_same, NetL.sizes_put (ats := ats) no, Lay.take_succ ei]
    rintro σ' H2 ⟨⟨o2, rfl⟩, s1, hm⟩
    rw [List.take_of_length_le (by omega)] at hm
    walk_at "rd"
    refine ⟨⟨_, SqL.of (s1 _ _ ha)⟩, ?_⟩
    intro M hM
    refine Lay.lc_go (walk_list (xs := l)) (fun i l' H' => L2.Same H2 H' ∧ l' = (((its.take i).filter NetL.It.isS).map NetL.It.nm).map V.str) ⟨Lay.Same.upd hM, rfl⟩ (fun i l' H' _ r => SqL.of (r.1 _ _ (s1 _ _ ha))) ?_ ?_
    · rintro i l' y H3 H4 hi hl' hz' ⟨r2, el⟩ ⟨rfl, ey⟩
      obtain ⟨it, ei, ia⟩ := NetL.pget hI ey
      have s2 := s1.trans r2
      have fs1 := NetL.filt_succ (p := NetL.It.isS) ei
      cases it with
      | vr z s0 ats =>
        obtain ⟨b, bl, rfl, hb, _⟩ := ia
        walk_at "rd"
        refine ⟨rfl, ?_⟩
        walk_at "rd"
        refine Lay.rd_ixT (SqT.of (s2 _ _ hb)) (v := .str _) (Lay.atI_nat (i := 0) rfl) ?_
        walk_at "rd"
        refine Lay.ite_d (fun c => absurd c (by decide +kernel)) (fun _ => ?_)
        refine Lay.lc_skip hl' hz' ⟨r2, ?_⟩
        rw [fs1, if_neg (by intro y; cases y), List.append_nil]
        exact el
      | ag z k0 ls =>
        obtain ⟨b, bl, yr, rfl, hb, _⟩ := ia
        walk_at "rd"
        refine ⟨rfl, ?_⟩
        walk_at "rd"
        refine Lay.rd_ixT (SqT.of (s2 _ _ hb)) (v := .str _) (Lay.atI_nat (i := 0) rfl) ?_
        walk_at "rd"
        refine Lay.ite_d (fun c => absurd c (by decide +kernel)) (fun _ => ?_)
        refine Lay.lc_skip hl' hz' ⟨r2, ?_⟩
        rw [fs1, if_neg (by intro y; cases y), List.append_nil]
        exact el
      | sg z t0 =>
        obtain ⟨b, rfl, hb⟩ := ia
        walk_at "rd"
        refine ⟨rfl, ?_⟩
        walk_at "rd"
        refine Lay.rd_ixT (SqT.of (s2 _ _ hb)) (v := .str "sig") (Lay.atI_nat (i := 0) rfl) ?_
        walk_at "rd"
        refine Lay.ite_d (fun _ => ?_) (fun c => absurd rfl c)
        walk_at "rd"
        refine Lay.rd_ixT (SqT.of (s2 _ _ hb)) (v := .str z) (Lay.atI_nat (i := 1) rfl) ?_
        refine Lay.lc_put hl' hz' (by omega) ⟨fun b o hb => ?_, ?_⟩
        · rw [upd_ne (fun e => by subst e; rw [hM] at hb; cases hb)]
          exact r2 _ _ hb
        · rw [fs1, if_pos (show (NetL.It.sg z t0).isS = true from rfl), List.map_append, List.map_append, el]
          rfl
    rintro lM H3 hlM hzM ⟨r3, elM⟩
    rw [List.take_of_length_le (by omega)] at elM
    subst elM
    have s3 := s1.trans r3
    have hm3 := r3 _ _ hm
    walk_at "rd"
    refine ⟨⟨_, SqL.of (s3 _ _ ha)⟩, ?_⟩
    intro G hG
    refine Lay.lc_go (walk_list (xs := l)) (fun i l' H' => L2.Same H3 H' ∧ NetG.ItemsAt S H l' ((its.take i).filter NetL.It.isA)) ⟨Lay.Same.upd hG, .nil⟩ (fun i l' H' _ r => SqL.of (r.1 _ _ (s3 _ _ ha))) ?_ ?_
    · rintro i l' y H4 H5 hi hl' hz' ⟨r2, el⟩ ⟨rfl, ey⟩
      obtain ⟨it, ei, ia⟩ := NetL.pget hI ey
      have s2 := s3.trans r2
      have fs1 := NetL.filt_succ (p := NetL.It.isA) ei
      cases it with
      | vr z s0 ats =>
        obtain ⟨b, bl, rfl, hb, _⟩ := ia
        walk_at "rd"
        refine ⟨rfl, ?_⟩
        walk_at "rd"
        refine Lay.rd_ixT (SqT.of (s2 _ _ hb)) (v := .str _) (Lay.atI_nat (i := 0) rfl) ?_
        walk_at "rd"
        refine Lay.ite_d (fun c => absurd c (by decide +kernel)) (fun _ => ?_)
        refine Lay.lc_skip hl' hz' ⟨r2, ?_⟩
        rw [fs1, if_neg (by intro y; cases y), List.append_nil]
        exact el
      | sg z t0 =>
        obtain ⟨b, rfl, hb⟩ := ia
        walk_at "rd"
        refine ⟨rfl, ?_⟩
        walk_at "rd"
        refine Lay.rd_ixT (SqT.of (s2 _ _ hb)) (v := .str _) (Lay.atI_nat (i := 0) rfl) ?_
        walk_at "rd"
        refine Lay.ite_d (fun c => absurd c (by decide +kernel)) (fun _ => ?_)
        refine Lay.lc_skip hl' hz' ⟨r2, ?_⟩
        rw [fs1, if_neg (by intro y; cases y), List.append_nil]
        exact el
      | ag z k0 ls =>
        obtain ⟨b, bl, yr, rfl, hb, hrest⟩ := ia
        walk_at "rd"
        refine ⟨rfl, ?_⟩
        walk_at "rd"
        refine Lay.rd_ixT (SqT.of (s2 _ _ hb)) (v := .str "agent") (Lay.atI_nat (i := 0) rfl) ?_
        walk_at "rd"
        refine Lay.ite_d (fun _ => ?_) (fun c => absurd rfl c)
        walk_at "rd"
        refine Lay.lc_put hl' hz' (by omega) ⟨fun b o hb => ?_, ?_⟩
        · rw [upd_ne (fun e => by subst e; rw [hG] at hb; cases hb)]
          exact r2 _ _ hb
        · rw [fs1, if_pos (show (NetL.It.ag z k0 ls).isA = true from rfl)]
          exact Paired.snoc el ⟨b, bl, yr, rfl, hb, hrest⟩
    rintro la HB hla hza ⟨r4, hA⟩
    rw [List.take_of_length_le (by omega)] at hA
    have SB := s3.trans r4
    have hmB := r4 _ _ hm3
    have hMB := r4 _ _ hlM
    have haB := SB _ _ ha
    have lenA := hA.length
    have leA := List.length_filter_le NetL.It.isA its
    clear s1 r3 s3 r4 hm hm3 hlM
    walk_at "rd"
    refine Net7.rd_dnewT (fun C hC => ?_)
    have keepC : ∀ {H1 : Hp} {o : HO}, L2.Same HB H1 → L2.Same HB (upd H1 C o) := fun s b o hb => by
      rw [upd_ne (fun y => by subst y; rw [hC] at hb; cases hb)]
      exact s b o hb
    have bound : ∀ j : Nat, (((its.filter NetL.It.isA).take j).flatMap NetL.It.ls).length ≤ 720 := by
      intro j
      refine Nat.le_trans (NetL.ls_len fun it m => ?_) (show 24 * ((its.filter NetL.It.isA).take j).length ≤ 720 by rw [List.length_take]; omega)
      cases it with
      | ag z k ls => exact (hd0.ok _ (List.mem_filter.mp (List.mem_of_mem_take m)).1).2.2.2.2.1
      | _ => exact Nat.zero_le _
    walk_at "rd"
    refine Lay.rd_for ?_
    walk_at "rd"
    refine ⟨_, rfl, by omega, by omega, ?_⟩
    rw [Int.toNat_natCast]
    refine Lay.for_go (walk_range (lo := 0) (n := la.length)) (fun i σ' H' => (∃ o6 o7 o8, σ' = [some (V.ref a), some (V.ref D), o2, some (V.ref M), some (V.ref G), some (V.ref C), o6, o7, o8, none]) ∧ L2.Same HB H' ∧ (∃ kvs, H' C = some (.dT kvs) ∧ Net7.CntI kvs (((its.filter NetL.It.isA).take i).flatMap NetL.It.ls)) ∧ ∀ a' < i, Net7.hAgent its a' = none) ⟨⟨_, _, _, rfl⟩, keepC (L2.Same.refl _), ⟨_, upd_same, .nil⟩, fun k hk => absurd hk (Nat.not_lt_zero k)⟩ (fun _ _ _ _ _ => trivial) ?_ ?_
    · rintro i x σ' H2 H3 hi ⟨⟨o6, o7, o8, rfl⟩, s2, ⟨kvs, hC2, cn2⟩, noa⟩ hy
      obtain ⟨rfl, rfl⟩ := hy
      have ey : la[i]? = some (la[i]'hi) := List.getElem?_eq_getElem hi
      obtain ⟨it, ei, ia⟩ := NetL.pget hA ey
      obtain ⟨im, isa⟩ := List.mem_filter.mp (List.mem_of_getElem? ei)
      generalize la[i]'hi = vi at ey ia
      cases it with
      | vr _ _ _ => cases isa
      | sg _ _ => cases isa
      | ag z k0 ls =>
      obtain ⟨b, bl, yr, rfl, hb, hbl, nbl, hrow⟩ := ia
      have yl := hrow.len
      obtain ⟨_, _, _, _, l24, hall⟩ := hd0.ok _ im
      have hag : Net7.hAgent its i = (List.range ls.length).find? (Net7.hStep ls its) := by unfold Net7.hAgent; rw [ei]
      have hbB := SB _ _ hb
      have hblB := SB _ _ hbl
      have more : ((its.filter NetL.It.isA).take (i + 1)).flatMap NetL.It.ls = ((its.filter NetL.It.isA).take i).flatMap NetL.It.ls ++ ls := by
        rw [Lay.take_succ ei, List.flatMap_append, List.flatMap_cons, List.flatMap_nil, List.append_nil]
        rfl
      walk_at "rd"
      rw [Int.zero_add]
      refine Lay.rd_for ?_
      walk_at "rd"
      refine Lay.rd_ixL (SqL.of (s2 _ _ hla)) (v := .ref b) (Lay.atI_nat ey) ?_
      walk_at "rd"
      refine Lay.rd_ixT (SqT.of (s2 _ _ hbB)) (v := .ref bl) (Lay.atI_nat (i := 3) rfl) ?_
      walk_at "rd"
      refine Lay.rd_lenL (SqL.of (s2 _ _ hblB)) ?_
      walk_at "rd"
      refine ⟨_, rfl, by omega, by omega, ?_⟩
      rw [Int.toNat_natCast]
      refine Lay.for_go (walk_range (lo := 0) (n := yr.length)) (fun m σ' H' => (∃ o7 o8, σ' = [some (V.ref a), some (V.ref D), o2, some (V.ref M), some (V.ref G), some (V.ref C), some (V.int ((i : Nat) : Int)), o7, o8, none]) ∧ L2.Same HB H' ∧ (∃ kvs, H' C = some (.dT kvs) ∧ Net7.CntI kvs (((its.filter NetL.It.isA).take i).flatMap NetL.It.ls ++ ls.take m)) ∧ ∀ s' < m, Net7.hStep ls its s' = false) ⟨⟨_, _, rfl⟩, s2, ⟨kvs, hC2, by rw [List.take_zero, List.append_nil]; exact cn2⟩, fun k hk => absurd hk (Nat.not_lt_zero k)⟩ (fun _ _ _ _ _ => trivial) ?_ ?_
      · rintro m x σ' H4 H5' hmm ⟨⟨o7, o8, rfl⟩, S4, ⟨kvs4, hC4, cn4⟩, nos⟩ hy
        obtain ⟨rfl, rfl⟩ := hy
        have hm' : m < ls.length := by omega
        have el : ls[m]? = some (ls[m]'hm') := List.getElem?_eq_getElem hm'
        obtain ⟨sp, esp, hsp⟩ := hrow.get el
        generalize ls[m]'hm' = lr at el hsp
        have gst := hall lr (List.mem_of_getElem? el)
        have hst : Net7.hStep ls its m = !Net7.fitsB its lr := by unfold Net7.hStep; rw [el]
        have e4 := S4 _ _ (SB _ _ hsp)
        have lenrows : (((its.filter NetL.It.isA).take i).flatMap NetL.It.ls ++ ls.take m).length ≤ 720 := by
          refine Nat.le_trans ?_ (bound (i + 1))
          rw [more, List.length_append, List.length_append, List.length_take]
          omega
        walk_at "rd"
        rw [Int.zero_add]
        refine Lay.rd_ixL (SqL.of (S4 _ _ hla)) (v := .ref b) (Lay.atI_nat ey) ?_
        walk_at "rd"
        refine Lay.rd_ixT (SqT.of (S4 _ _ hbB)) (v := .ref bl) (Lay.atI_nat (i := 3) rfl) ?_
        walk_at "rd"
        refine Lay.rd_ixL (SqL.of (S4 _ _ hblB)) (v := .ref sp) (Lay.atI_nat esp) ?_
        rcases gst with ⟨wd, n, rfl, _⟩ | ⟨wd, n, sh, f, e, rfl, _⟩
        · walk_at "rd"
          refine Lay.ite_d (fun _ => ?_) (fun c => absurd rfl c)
          walk_at "rd"
          refine Lay.rd_notInSL (SqL.of (S4 _ _ hMB)) (.str n) ?_
          rw [show Lay.inStrs (.str n) ((its.filter NetL.It.isS).map NetL.It.nm) = Net7.fitsB its [.str wd, .str n] from rfl]
          cases hB : Net7.fitsB its [.str wd, .str n] with
          | false =>
            walk_at "it"
            refine ⟨by decide, fun tb htb => ?_⟩
            walk_at "rd"
            refine ⟨by decide, fun t ht => ?_⟩
            have hhit : Net7.hAgent its i = some m := hag.trans (Net7.find_hit nos (by rw [hst, hB]; rfl) (by omega))
            have hws : Net7.wStep its = some (.two i m) := by
              unfold Net7.wStep
              have e1 : Net7.wAgent its = some i := Net7.find_hit (fun k hk => by rw [noa k hk]; rfl) (by rw [hhit]; rfl) (by have := (List.getElem?_eq_some_iff.mp ei).1; omega)
              rw [e1]
              show some (Net7.Pl.two i ((Net7.hAgent its i).getD 0)) = _
              rw [hhit]
              rfl
            have hw : Net7.whyS its = some (("step" : Str), Net7.Pl.two i m) := by unfold Net7.whyS; rw [hws]; rfl
            have st := Lay.Same.upd (o := .tup [V.int (i : Nat), V.int (m : Nat)]) htb
            refine q (.ref t) _ (((SB.trans S4).trans st).trans (Lay.Same.upd ht)) ?_
            rw [hw]
            exact ⟨t, tb, rfl, upd_same, Lay.upd_old ht upd_same⟩
          | true =>
            walk_at "it"
            refine Lay.ite_d (fun c => absurd c (by decide)) (fun _ => ?_)
            walk_at "it"
            have hst' : Net7.hStep ls its m = false := by rw [hst, hB]; rfl
            refine NetL.rd_dPut ?_
            walk_at "rd"
            refine Net7.rd_dget2 ?_
            walk_at "rd"
            refine ⟨.inr ⟨_, .inl hC4⟩, ?_⟩
            walk_at "rd"
            refine Lay.rd_slT e4 (ys := [V.str wd, V.str n]) (by rfl) (fun r1 H5 s5 e5 or5 => ?_)
            walk_at "rd"
            refine ⟨_, DGet.t (k := Net7.ck wd n) (s5 _ _ hC4) e5, ?_⟩
            rw [cn4.val wd n]
            walk_at "rd"
            refine Lay.rd_slT (s5 _ _ e4) (ys := [V.str wd, V.str n]) (by rfl) (fun r2 H6 s6 e6 or6 => ?_)
            refine ⟨C, _, rfl, DPut.t (k := Net7.ck wd n) (s6 _ _ (s5 _ _ hC4)) e6 (Nat.lt_of_le_of_lt (Nat.le_trans cn4.len lenrows) (by decide)), ?_⟩
            refine ⟨⟨_, _, rfl⟩, keepC ((S4.trans s5).trans s6), ⟨_, upd_same, ?_⟩, fun k hk => ?_⟩
            · rw [Lay.take_succ el, ← List.append_assoc]
              exact cn4.put (by rfl) rfl
            · by_cases z : k < m
              · exact nos k z
              · obtain rfl : k = m := by omega
                exact hst'
        · walk_at "rd"
          refine Lay.ite_d (fun c => absurd c (by decide)) (fun _ => ?_)
          walk_at "it"
          refine Lay.ite_d (fun _ => ?_) (fun c => absurd rfl c)
          walk_at "rd"
          refine Net7.rd_dNotIn ?_
          walk_at "rd"
          refine ⟨D, _, rfl, DGet.k (k := .inr n) (S4 _ _ hmB), ?_⟩
          cases ev : valV (NetL.sizes its) (.inr n) with
          | none =>
            have hB : Net7.fitsB its [.str wd, .str n, .int sh, .int f, .int e] = false := by
              show (match valV (NetL.sizes its) (.inr n) with | some (.int sz) => decide (e < sz) | _ => false) = false
              rw [ev]
            refine ⟨true, rfl, ?_⟩
            walk_at "it"
            refine ⟨by decide, fun tb htb => ?_⟩
            walk_at "rd"
            refine ⟨by decide, fun t ht => ?_⟩
            have hhit : Net7.hAgent its i = some m := hag.trans (Net7.find_hit nos (by rw [hst, hB]; rfl) (by omega))
            have hws : Net7.wStep its = some (.two i m) := by
              unfold Net7.wStep
              have e1 : Net7.wAgent its = some i := Net7.find_hit (fun k hk => by rw [noa k hk]; rfl) (by rw [hhit]; rfl) (by have := (List.getElem?_eq_some_iff.mp ei).1; omega)
              rw [e1]
              show some (Net7.Pl.two i ((Net7.hAgent its i).getD 0)) = _
              rw [hhit]
              rfl
            have hw : Net7.whyS its = some (("step" : Str), Net7.Pl.two i m) := by unfold Net7.whyS; rw [hws]; rfl
            have st := Lay.Same.upd (o := .tup [V.int (i : Nat), V.int (m : Nat)]) htb
            refine q (.ref t) _ (((SB.trans S4).trans st).trans (Lay.Same.upd ht)) ?_
            rw [hw]
            exact ⟨t, tb, rfl, upd_same, Lay.upd_old ht upd_same⟩
          | some v =>
            obtain ⟨sz, ats, rfl, fm⟩ := Net7.sizes_some ev
            have hB1 : Net7.fitsB its [.str wd, .str n, .int sh, .int f, .int e] = decide (e < sz) := by
              show (match valV (NetL.sizes its) (.inr n) with | some (.int sz) => decide (e < sz) | _ => false) = _
              rw [ev]
            refine ⟨false, rfl, ?_⟩
            walk_at "it"
            refine NetL.rd_dGet ?_
            walk_at "rd"
            refine ⟨D, .int sz, rfl, (by have z := DGet.k (k := .inr n) (S4 _ _ hmB); rwa [ev] at z), ?_⟩
            walk_at "rd"
            refine Lay.ite_d (fun c => ?_) (fun c => ?_)
            · have hB : Net7.fitsB its [.str wd, .str n, .int sh, .int f, .int e] = false := by rw [hB1]; exact decide_eq_false (by omega)
              walk_at "it"
              refine ⟨by decide, fun tb htb => ?_⟩
              walk_at "rd"
              refine ⟨by decide, fun t ht => ?_⟩
              have hhit : Net7.hAgent its i = some m := hag.trans (Net7.find_hit nos (by rw [hst, hB]; rfl) (by omega))
              have hws : Net7.wStep its = some (.two i m) := by
                unfold Net7.wStep
                have e1 : Net7.wAgent its = some i := Net7.find_hit (fun k hk => by rw [noa k hk]; rfl) (by rw [hhit]; rfl) (by have := (List.getElem?_eq_some_iff.mp ei).1; omega)
                rw [e1]
                show some (Net7.Pl.two i ((Net7.hAgent its i).getD 0)) = _
                rw [hhit]
                rfl
              have hw : Net7.whyS its = some (("step" : Str), Net7.Pl.two i m) := by unfold Net7.whyS; rw [hws]; rfl
              have st := Lay.Same.upd (o := .tup [V.int (i : Nat), V.int (m : Nat)]) htb
              refine q (.ref t) _ (((SB.trans S4).trans st).trans (Lay.Same.upd ht)) ?_
              rw [hw]
              exact ⟨t, tb, rfl, upd_same, Lay.upd_old ht upd_same⟩
            · have hB : Net7.fitsB its [.str wd, .str n, .int sh, .int f, .int e] = true := by rw [hB1]; exact decide_eq_true (by omega)
              walk_at "it"
              have hst' : Net7.hStep ls its m = false := by rw [hst, hB]; rfl
              refine NetL.rd_dPut ?_
              walk_at "rd"
              refine Net7.rd_dget2 ?_
              walk_at "rd"
              refine ⟨.inr ⟨_, .inl hC4⟩, ?_⟩
              walk_at "rd"
              refine Lay.rd_slT e4 (ys := [V.str wd, V.str n]) (by rfl) (fun r1 H5 s5 e5 or5 => ?_)
              walk_at "rd"
              refine ⟨_, DGet.t (k := Net7.ck wd n) (s5 _ _ hC4) e5, ?_⟩
              rw [cn4.val wd n]
              walk_at "rd"
              refine Lay.rd_slT (s5 _ _ e4) (ys := [V.str wd, V.str n]) (by rfl) (fun r2 H6 s6 e6 or6 => ?_)
              refine ⟨C, _, rfl, DPut.t (k := Net7.ck wd n) (s6 _ _ (s5 _ _ hC4)) e6 (Nat.lt_of_le_of_lt (Nat.le_trans cn4.len lenrows) (by decide)), ?_⟩
              refine ⟨⟨_, _, rfl⟩, keepC ((S4.trans s5).trans s6), ⟨_, upd_same, ?_⟩, fun k hk => ?_⟩
              · rw [Lay.take_succ el, ← List.append_assoc]
                exact cn4.put (by rfl) rfl
              · by_cases z : k < m
                · exact nos k z
                · obtain rfl : k = m := by omega
                  exact hst'
      · rintro σ' H4 ⟨⟨o7', o8', rfl⟩, S4, ⟨kvs4, hC4, cn4⟩, nos⟩
        rw [show ls.take yr.length = ls from List.take_of_length_le (by omega), ← more] at cn4
        refine ⟨⟨_, _, _, rfl⟩, S4, ⟨_, hC4, cn4⟩, fun k hk => ?_⟩
        by_cases z : k < i
        · exact noa k z
        · obtain rfl : k = i := by omega
          rw [hag]
          exact Net7.find_no (by rw [← yl]; exact nos)
    rintro σ' H4 ⟨⟨o6, o7, o8, rfl⟩, S4, ⟨kvs4, hC4, cn4⟩, noa⟩
    rw [List.take_of_length_le (by omega), NetL.steps_filt] at cn4
    have n1 : Net7.wAgent its = none := Net7.find_no (by rw [← lenA]; exact fun k hk => by rw [noa k hk]; rfl)
    clear noa
    walk_at "rd"
    refine Lay.rd_for ?_
    walk_at "rd"
    refine Lay.rd_lenL (SqL.of (S4 _ _ haB)) ?_
    walk_at "rd"
    refine ⟨_, rfl, by omega, by omega, ?_⟩
    rw [Int.toNat_natCast]
    refine Lay.for_go (walk_range (lo := 0) (n := l.length)) (fun i σ' H' => (∃ o9, σ' = [some (V.ref a), some (V.ref D), o2, some (V.ref M), some (V.ref G), some (V.ref C), o6, o7, o8, o9]) ∧ L2.Same H4 H' ∧ ∀ k < i, Net7.hSig its k = false) ⟨⟨_, rfl⟩, L2.Same.refl _, fun k hk => absurd hk (Nat.not_lt_zero k)⟩ (fun _ _ _ _ _ => trivial) ?_ ?_
    · rintro i x σ' H5 H6 hi ⟨⟨o9, rfl⟩, s5, noh⟩ hy
      obtain ⟨rfl, rfl⟩ := hy
      have ey : l[i]? = some (l[i]'hi) := List.getElem?_eq_getElem hi
      obtain ⟨it, ei, ia⟩ := NetL.pget hI ey
      generalize l[i]'hi = vi at ey ia
      have s2 := (SB.trans S4).trans s5
      have noh2 : Net7.hSig its i = false → ∀ k < i + 1, Net7.hSig its k = false := fun hh k hk => by
        by_cases z : k < i
        · exact noh k z
        · obtain rfl : k = i := by omega
          exact hh
      cases it with
      | vr z s0 ats =>
        obtain ⟨b, bl, rfl, hb, _⟩ := ia
        walk_at "rd"
        rw [Int.zero_add]
        refine Lay.rd_ixL (SqL.of (s2 _ _ ha)) (v := .ref b) (Lay.atI_nat ey) ?_
        walk_at "rd"
        refine Lay.rd_ixT (SqT.of (s2 _ _ hb)) (v := .str _) (Lay.atI_nat (i := 0) rfl) ?_
        walk_at "rd"
        refine Lay.ite_d (fun c => absurd c (by decide +kernel)) (fun _ => ?_)
        walk_at "it"
        exact ⟨⟨_, rfl⟩, s5, noh2 (by unfold Net7.hSig; rw [ei])⟩
      | ag z k0 ls =>
        obtain ⟨b, bl, yr, rfl, hb, _⟩ := ia
        walk_at "rd"
        rw [Int.zero_add]
        refine Lay.rd_ixL (SqL.of (s2 _ _ ha)) (v := .ref b) (Lay.atI_nat ey) ?_
        walk_at "rd"
        refine Lay.rd_ixT (SqT.of (s2 _ _ hb)) (v := .str _) (Lay.atI_nat (i := 0) rfl) ?_
        walk_at "rd"
        refine Lay.ite_d (fun c => absurd c (by decide +kernel)) (fun _ => ?_)
        walk_at "it"
        exact ⟨⟨_, rfl⟩, s5, noh2 (by unfold Net7.hSig; rw [ei])⟩
      | sg z tk =>
        obtain ⟨b, rfl, hb⟩ := ia
        have hval : Net7.hSig its i = (decide ((NetL.steps its).count [V.str "post", .str z] ≠ 1) || decide ((NetL.steps its).count [V.str "wait", .str z] ≠ 1)) := by unfold Net7.hSig; rw [ei]
        have cp := Net7.cnt_good (rows := NetL.steps its) (w := "post") (n := z) (by decide +kernel) hd0.step
        have cw := Net7.cnt_good (rows := NetL.steps its) (w := "wait") (n := z) (by decide +kernel) hd0.step
        walk_at "rd"
        rw [Int.zero_add]
        refine Lay.rd_ixL (SqL.of (s2 _ _ ha)) (v := .ref b) (Lay.atI_nat ey) ?_
        walk_at "rd"
        refine Lay.rd_ixT (SqT.of (s2 _ _ hb)) (v := .str "sig") (Lay.atI_nat (i := 0) rfl) ?_
        walk_at "rd"
        refine Lay.ite_d (fun _ => ?_) (fun c => absurd rfl c)
        walk_at "rd"
        refine Net7.rd_dget2 ?_
        walk_at "rd"
        refine ⟨.inr ⟨_, .inl (s5 _ _ hC4)⟩, ?_⟩
        walk_at "rd"
        refine Lay.rd_ixL (SqL.of (s2 _ _ ha)) (v := .ref b) (Lay.atI_nat ey) ?_
        walk_at "rd"
        refine Lay.rd_ixT (SqT.of (s2 _ _ hb)) (v := .str z) (Lay.atI_nat (i := 1) rfl) ?_
        walk_at "rd"
        refine ⟨by decide, fun p1 hp1 => ?_⟩
        have w1 := Lay.Same.upd (o := .tup [V.str "post", V.str z]) hp1
        walk_at "rd"
        refine ⟨_, DGet.t (k := Net7.ck "post" z) (w1 _ _ (s5 _ _ hC4)) upd_same, ?_⟩
        rw [cn4.val "post" z, cp]
        walk_at "rd"
        refine Lay.ite_n (fun c1 => ?_) (fun c1 => ?_)
        · walk_at "it"
          refine ⟨by decide, fun t ht => ?_⟩
          have hh : Net7.hSig its i = true := by rw [hval]; rw [decide_eq_true (show (NetL.steps its).count [V.str "post", .str z] ≠ 1 by omega), Bool.true_or]
          have hw : Net7.whyS its = some (("signal" : Str), Net7.Pl.at i) := by unfold Net7.whyS; rw [Net7.orE_none (Net7.step_none n1)]; exact Net7.orE_some (Net7.find_hit noh hh (by omega))
          refine q (.ref t) _ ((s2.trans w1).trans (Lay.Same.upd ht)) ?_
          rw [hw]
          exact ⟨t, rfl, upd_same⟩
        walk_at "it"
        refine Net7.rd_dget2 ?_
        walk_at "rd"
        refine ⟨.inr ⟨_, .inl ((s5.trans w1) _ _ hC4)⟩, ?_⟩
        walk_at "rd"
        refine Lay.rd_ixL (SqL.of ((s2.trans w1) _ _ ha)) (v := .ref b) (Lay.atI_nat ey) ?_
        walk_at "rd"
        refine Lay.rd_ixT (SqT.of ((s2.trans w1) _ _ hb)) (v := .str z) (Lay.atI_nat (i := 1) rfl) ?_
        walk_at "rd"
        refine ⟨by decide, fun p2 hp2 => ?_⟩
        have w2 := Lay.Same.upd (o := .tup [V.str "wait", V.str z]) hp2
        walk_at "rd"
        refine ⟨_, DGet.t (k := Net7.ck "wait" z) (w2 _ _ ((s5.trans w1) _ _ hC4)) upd_same, ?_⟩
        rw [cn4.val "wait" z, cw]
        walk_at "rd"
        refine Lay.ite_n (fun c2 => ?_) (fun c2 => ?_)
        · walk_at "it"
          refine ⟨by decide, fun t ht => ?_⟩
          have hh : Net7.hSig its i = true := by rw [hval]; rw [decide_eq_true (show (NetL.steps its).count [V.str "wait", .str z] ≠ 1 by omega), Bool.or_true]
          have hw : Net7.whyS its = some (("signal" : Str), Net7.Pl.at i) := by unfold Net7.whyS; rw [Net7.orE_none (Net7.step_none n1)]; exact Net7.orE_some (Net7.find_hit noh hh (by omega))
          refine q (.ref t) _ (((s2.trans w1).trans w2).trans (Lay.Same.upd ht)) ?_
          rw [hw]
          exact ⟨t, rfl, upd_same⟩
        walk_at "it"
        have c1' : (NetL.steps its).count [V.str "post", .str z] = 1 := by omega
        have c2' : (NetL.steps its).count [V.str "wait", .str z] = 1 := by omega
        exact ⟨⟨_, rfl⟩, (s5.trans w1).trans w2, noh2 (by rw [hval, decide_eq_false (fun y => y c1'), decide_eq_false (fun y => y c2')]; rfl)⟩
    rintro σ' H5 ⟨⟨o9, rfl⟩, s5, noh⟩
    have n2 : Net7.wSig its = none := Net7.find_no (by rw [← lenI]; exact noh)
    walk_at "rd"
    refine q .non H5 ((SB.trans S4).trans s5) ?_
    unfold Net7.whyS
    rw [Net7.orE_none (Net7.step_none n1), Net7.orE_none n2]
    rfl
theorem ok_wanted (T : Txt K mg A) (G_within : FnOk P w K mg base CX0 1 A.a_within A.d_within ["_law_value", "_law_least", "_law_greatest"] Lay.spLawWithin) (G_parts_wrong : FnOk P w K mg base CX0 2 A.a_parts_wrong A.d_parts_wrong ["_law_items_here"] Net7.spPartsWrong) (G_variables_wrong : FnOk P w K mg base CX0 2 A.a_variables_wrong A.d_variables_wrong ["_law_items_here", "_law_slots_here"] Net7.spVarsWrong) (G_steps_wrong : FnOk P w K mg base CX0 2 A.a_steps_wrong A.d_steps_wrong ["_law_items_here"] Net7.spStepsWrong) : FnOk P w K mg base CX0 9 A.a_wanted A.d_wanted ["_law_items_here", "_law_width", "_law_slots_here"] Net7.spWanted7 := by
  refine T.F_wanted.ok sc_wanted (fun vs H Q E h => ?_) (fun cdv A0 outer s H vs Q E hr h => ?_)
  · obtain ⟨S, a, lv, rv, l, js, rfl, _⟩ := h
    rfl
  · obtain ⟨S, a, lv, rv, l, js, rfl, ha, hj, hd, kl, kr, q⟩ := h
    refine ⟨_, (pss_cons (ps_if (PW.pt (pw_or (pt_not (pt_val (pe_call G_within (hr.mono (by decide)) rfl T.g_within T.F_within.kp T.b_within .nil pass0 (pa_cons (pv 1) (pa_cons pe_int (pa_cons pe_int pa_nil)))))) (pw_or1 (pt_cmpR op_notIn_seq (pv 1) (pe_tup (pa_cons pe_int (pa_cons pe_int (pa_cons pe_int (pa_cons pe_int (pa_cons pe_int pa_nil)))))) rfl))))
      (pss_one (ps_ret (pe_tup (pa_cons pe_str (pa_cons pe_non pa_nil)))))
      pss_nil)
    (pss_cons (ps_if (pt_not (pt_val (pe_call G_within (hr.mono (by decide)) rfl T.g_within T.F_within.kp T.b_within .nil pass0 (pa_cons (pv 2) (pa_cons pe_int (pa_cons pe_int pa_nil))))))
      (pss_one (ps_ret (pe_tup (pa_cons pe_str (pa_cons pe_non pa_nil)))))
      pss_nil)
    (pss_cons (ps_set (i := 3) sc_wanted.nd rfl (Or.inl rfl) (pe_call G_parts_wrong (hr.mono (by decide)) rfl T.g_parts_wrong T.F_parts_wrong.kp T.b_parts_wrong .nil pass0 (pa_cons (pv 0) pa_nil)))
    (pss_cons (ps_if (pt_cmpR op_isN (pv 3) pe_non (nomark _))
      (pss_one (ps_set (i := 3) sc_wanted.nd rfl (Or.inl rfl) (pe_call G_variables_wrong (hr.mono (by decide)) rfl T.g_variables_wrong T.F_variables_wrong.kp T.b_variables_wrong .nil pass0 (pa_cons (pv 0) (pa_cons (pv 2) pa_nil)))))
      pss_nil)
    (pss_cons (ps_if (pt_cmpR op_isN (pv 3) pe_non (nomark _))
      (pss_one (ps_set (i := 3) sc_wanted.nd rfl (Or.inl rfl) (pe_call G_steps_wrong (hr.mono (by decide)) rfl T.g_steps_wrong T.F_steps_wrong.kp T.b_steps_wrong .nil pass0 (pa_cons (pv 0) pa_nil))))
      pss_nil)
    (pss_one (ps_ret (pv 3)))))))), ?_⟩
    walk_at "in"
    walk_at "rd"
    refine ⟨lv, 1, 16, rfl, kl, ?_⟩
    walk_at "rd"
    cases hw : Lay.within lv 1 16 with
    | false =>
      walk_at "it"
      refine ⟨by decide, fun t ht => ?_⟩
      refine q (.ref t) _ (Lay.Same.upd ht) ?_
      rw [Net7.whyN_line (Net7.line_out hw)]
      exact ⟨t, rfl, upd_same⟩
    | true =>
    obtain ⟨ln, rfl⟩ := Net7.within_any hw
    walk_at "it"
    refine ⟨by decide, fun u hu => ?_⟩
    have s1 := Lay.Same.upd (o := .tup [V.int 1, V.int 2, V.int 4, V.int 8, V.int 16]) hu
    walk_at "rd"
    refine Lay.rd_notInI (ns := [1, 2, 4, 8, 16]) (SqT.of upd_same) ?_
    rw [show decide (ln ∈ ([1, 2, 4, 8, 16] : List Int)) = Net7.okLine (.int ln) from rfl]
    cases hol : Net7.okLine (.int ln) with
    | false =>
      walk_at "it"
      refine ⟨by decide, fun t ht => ?_⟩
      refine q (.ref t) _ (s1.trans (Lay.Same.upd ht)) ?_
      rw [Net7.whyN_line hol]
      exact ⟨t, rfl, upd_same⟩
    | true =>
    walk_at "it"
    refine ⟨rv, 1, 4, rfl, kr.mono s1, ?_⟩
    walk_at "rd"
    rw [show Lay.within rv 1 4 = Net7.okRing rv from rfl]
    cases hor : Net7.okRing rv with
    | false =>
      walk_at "it"
      refine ⟨by decide, fun t ht => ?_⟩
      refine q (.ref t) _ (s1.trans (Lay.Same.upd ht)) ?_
      rw [Net7.whyN_ring hol hor]
      exact ⟨t, rfl, upd_same⟩
    | true =>
    obtain ⟨rg, rfl, r1, r4⟩ := Net7.within_int hor
    walk_at "it"
    have hN : Net7.whyN (.int ln) (.int rg) js = Net7.seqO (Net7.whyP js) (Net7.seqO (Net7.whyV rg (Net7.strip js)) (Net7.whyS (Net7.strip js))) := (Net7.whyN_ok hol hor).trans (Net7.whyJ_seq rg js)
    refine ⟨S, a, l, js, rfl, s1 _ _ ha, hj.mono s1, hd, fun v H2 s2 wv => ?_⟩
    have S2 := s1.trans s2
    walk_at "rd"
    refine ⟨rfl, ?_⟩
    rw [Net7.wvP.non wv]
    walk_at "rd"
    cases hp : Net7.whyP js with
    | some x =>
      rw [hp] at wv hN
      rw [show (some x).isNone = false from rfl]
      walk_at "it"
      refine ⟨rfl, ?_⟩
      rw [Net7.wvP.non wv, show (some x).isNone = false from rfl]
      walk_at "it"
      exact q v H2 S2 (by rw [hN]; exact wv)
    | none =>
    obtain ⟨hjs, hnd⟩ := Net7.whyP_none hp
    rw [hp] at hN
    have hI : NetG.ItemsAt S H l (Net7.strip js) := Net7.js_it (by rw [← hjs]; exact hj)
    have hdc := Net7.strip_dec hd
    rw [show (none : Option (Str × Net7.Pl)).isNone = true from rfl]
    walk_at "it"
    refine ⟨S, a, rg, l, Net7.strip js, rfl, S2 _ _ ha, NetG.ItemsAt.mono S2 hI, hdc, fun v3 H3 s3 wv3 => ?_⟩
    have S3 := S2.trans s3
    walk_at "rd"
    refine ⟨rfl, ?_⟩
    rw [Net7.wvP.non wv3]
    walk_at "rd"
    cases hv : Net7.whyV rg (Net7.strip js) with
    | some x =>
      rw [hv] at wv3 hN
      rw [show (some x).isNone = false from rfl]
      walk_at "it"
      exact q v3 H3 S3 (by rw [hN]; exact wv3)
    | none =>
    rw [hv] at hN
    rw [show (none : Option (Str × Net7.Pl)).isNone = true from rfl]
    walk_at "it"
    refine ⟨S, a, l, Net7.strip js, rfl, S3 _ _ ha, NetG.ItemsAt.mono S3 hI, hdc, hnd, fun v4 H4 s4 wv4 => ?_⟩
    walk_at "rd"
    exact q v4 H4 (S3.trans s4) (by rw [hN]; exact wv4)
theorem bindK_Net_made (T : Txt K mg A) : ∃ mv : List Value, KBn K A.d_Net_made ["cls", "parts", "line", "ring"] 1 ["parts", "line", "ring"] (fun us ws => us ++ ws) (fun vs zs => vs ++ zs) :=
  T.F_Net_made.kbinds0 1 ["parts", "line", "ring"] [] (fun us mz zs => us ++ zs) (fun z => by cases z) (fun q hq => by cases hq) (fun r1 r2 r3 => r1.append r3)
    (fun D doc pm an cdv ct us mv ws h1 h2 h3 => match us, mv, ws, h1, h2, h3 with
      | [a], [], [b, c, d], _, _, _ => (by rfl : _ = _))
theorem ok_Net_initR (T : Txt K mg A) (G_is_integer : FnOk P w K mg base CX0 1 A.a_is_integer A.d_is_integer ["value"] Lay.spIsInteger) (G_is_within : FnOk P w K mg base CX0 2 A.a_is_within A.d_is_within ["value", "low", "high"] Lay.spIsWithin) (G_check_parts : FnOk P w K mg base (L2.CX P w) 5 A.a_check_parts A.d_check_parts ["parts", "ring"] (Net7.spCkParts (cs A) A.c_NoNet)) (G_NoNet_init : FnOk P w K mg base CX0 1 A.a_NoNet_init A.d_NoNet_init ["self", "reason", "place"] (Lay.spErr2 A.c_NoNet "reason" "place")) : KwS.FnRK P w K mg base (L2.CX P w) 7 A.a_Net_init ["ring", "line"] (fun vs zs H Q E => ∃ us rest, vs = us ++ rest ∧ us.length = 1 ∧ rest.length ≤ sizeLine ∧ ∀ p, H p = Option.none → Net7.spNetI (cs A) A.c_Net A.c_NoNet (us ++ zs.reverse ++ [V.ref p]) (upd H p (.tup rest)) Q E) :=
  KwS.fn_starK (ps := ["self", "line", "ring"]) (pv := "parts") T.F_Net_init sc_Net_init StX.cxUp [] (fun us mz zs => us ++ zs.reverse) (fun z => by cases z) (fun q hq => by cases hq) (fun r1 r2 r3 => r1.append (Net7.vals_rev r3))
    (fun us mv ws h1 h2 h3 => by rw [List.length_append, List.length_reverse, h1, h3]; rfl)
    (fun D doc pm an cdv ct us rest mv ws h1 h2 h3 => match us, mv, ws, h1, h2, h3, rest with
      | [a], [], [b, c], _, _, _, [] => (by rfl : _ = _)
      | [a], [], [b, c], _, _, _, r :: rs => (by rfl : _ = _))
    (body_Net_init T G_is_integer G_is_within G_check_parts G_NoNet_init)
theorem ok_direct (T : Txt K mg A) (G_Net_made : FnOk P w K mg base (L2.CX P w) 9 A.a_Net_made A.d_Net_made ["cls", "parts", "line", "ring"] (Net7.spMadeJ (cs A) A.c_Net A.c_NoNet)) (G_Net_initK : KwS.FnRK P w K mg base (L2.CX P w) 7 A.a_Net_init ["line", "ring"] (Net7.spInitJ (cs A) A.c_Net A.c_NoNet)) (G_Net_initR : KwS.FnRK P w K mg base (L2.CX P w) 7 A.a_Net_init ["ring", "line"] (Net7.spInitR (cs A) A.c_Net A.c_NoNet)) : FnOk P w K mg base (L2.CX P w) 10 A.a_direct A.d_direct ["_law_handed", "_law_width", "_law_slots_here"] (Net7.spDirect7 (cs A) A.c_Net A.c_NoNet) := by
  refine T.F_direct.okX sc_direct (fun vs H Q E h => ?_) (fun cdv A0 outer s H vs Q E hr h => ?_)
  · obtain ⟨a, ln, rg, ps, js, rfl, _⟩ := h
    rfl
  · obtain ⟨a, ln, rg, ps, js, rfl, ha, kl, kr, hp, hd, w⟩ := h
    obtain ⟨mv, hbM⟩ := bindK_Net_made T
    refine ⟨_, (pss_cons (ps_if (pt_cmpR op_eq (pe_callB Lay.call_lenS (by rfl) T.n_len PySem.boot_len (pa_cons (pv 0) pa_nil)) pe_int (nomark _))
      (pss_one (ps_ret (KwS.pe_makeRKP (ks := ["line", "ring"]) (E := (fun _ => E)) T.mk_Net G_Net_initK (hr.mono (by decide)) rfl T.g_Net (Net7.passAt_of (passes_call (takes_of rfl rfl rfl rfl) (fun _ _ _ _ h => h))) (pa_cons (pe_ix ix_list (pv 0) pe_int (fun _ _ => rfl)) pa_nil) (pk_cons (pv 1) (pk_cons (pv 2) pk_nil)))))
      pss_nil)
    (pss_cons (ps_if (pt_cmpR op_eq (pe_callB Lay.call_lenS (by rfl) T.n_len PySem.boot_len (pa_cons (pv 0) pa_nil)) pe_int (nomark _))
      (pss_one (ps_ret (KwS.pe_makeRKP (ks := ["line", "ring"]) (E := (fun _ => E)) T.mk_Net G_Net_initK (hr.mono (by decide)) rfl T.g_Net (Net7.passAt_of (passes_call (takes_of rfl rfl rfl rfl) (fun _ _ _ _ h => h))) (pa_cons (pe_ix ix_list (pv 0) pe_int (fun _ _ => rfl)) (pa_cons (pe_ix ix_list (pv 0) pe_int (fun _ _ => rfl)) pa_nil)) (pk_cons (pv 1) (pk_cons (pv 2) pk_nil)))))
      pss_nil)
    (pss_cons (ps_if (pt_cmpR op_eq (pe_callB Lay.call_lenS (by rfl) T.n_len PySem.boot_len (pa_cons (pv 0) pa_nil)) pe_int (nomark _))
      (pss_one (ps_ret (KwS.pe_makeRKP (ks := ["ring", "line"]) (E := (fun _ => E)) T.mk_Net G_Net_initR (hr.mono (by decide)) rfl T.g_Net (Net7.passAt_of (passes_call (takes_of rfl rfl rfl rfl) (fun _ _ _ _ h => h))) (pa_cons (pe_ix ix_list (pv 0) pe_int (fun _ _ => rfl)) (pa_cons (pe_ix ix_list (pv 0) pe_int (fun _ _ => rfl)) (pa_cons (pe_ix ix_list (pv 0) pe_int (fun _ _ => rfl)) pa_nil))) (pk_cons (pv 2) (pk_cons (pv 1) pk_nil)))))
      pss_nil)
    (pss_cons (ps_if (pt_cmpR op_eq (pe_callB Lay.call_lenS (by rfl) T.n_len PySem.boot_len (pa_cons (pv 0) pa_nil)) pe_int (nomark _))
      (pss_one (ps_ret (KwS.pe_makeRKP (ks := ["line", "ring"]) (E := (fun _ => E)) T.mk_Net G_Net_initK (hr.mono (by decide)) rfl T.g_Net (Net7.passAt_of (passes_call (takes_of rfl rfl rfl rfl) (fun _ _ _ _ h => h))) (pa_cons (pe_ix ix_list (pv 0) pe_int (fun _ _ => rfl)) (pa_cons (pe_ix ix_list (pv 0) pe_int (fun _ _ => rfl)) (pa_cons (pe_ix ix_list (pv 0) pe_int (fun _ _ => rfl)) (pa_cons (pe_ix ix_list (pv 0) pe_int (fun _ _ => rfl)) pa_nil)))) (pk_cons (pv 1) (pk_cons (pv 2) pk_nil)))))
      pss_nil)
    (pss_cons (ps_if (pt_cmpR op_eq (pe_callB Lay.call_lenS (by rfl) T.n_len PySem.boot_len (pa_cons (pv 0) pa_nil)) pe_int (nomark _))
      (pss_one (ps_ret (KwS.pe_makeRKP (ks := ["line", "ring"]) (E := (fun _ => E)) T.mk_Net G_Net_initK (hr.mono (by decide)) rfl T.g_Net (Net7.passAt_of (passes_call (takes_of rfl rfl rfl rfl) (fun _ _ _ _ h => h))) (pa_cons (pe_ix ix_list (pv 0) pe_int (fun _ _ => rfl)) (pa_cons (pe_ix ix_list (pv 0) pe_int (fun _ _ => rfl)) (pa_cons (pe_ix ix_list (pv 0) pe_int (fun _ _ => rfl)) (pa_cons (pe_ix ix_list (pv 0) pe_int (fun _ _ => rfl)) (pa_cons (pe_ix ix_list (pv 0) pe_int (fun _ _ => rfl)) pa_nil))))) (pk_cons (pv 1) (pk_cons (pv 2) pk_nil)))))
      pss_nil)
    (pss_cons (ps_if (pt_cmpR op_eq (pe_callB Lay.call_lenS (by rfl) T.n_len PySem.boot_len (pa_cons (pv 0) pa_nil)) pe_int (nomark _))
      (pss_one (ps_ret (KwS.pe_makeRKP (ks := ["line", "ring"]) (E := (fun _ => E)) T.mk_Net G_Net_initK (hr.mono (by decide)) rfl T.g_Net (Net7.passAt_of (passes_call (takes_of rfl rfl rfl rfl) (fun _ _ _ _ h => h))) (pa_cons (pe_ix ix_list (pv 0) pe_int (fun _ _ => rfl)) (pa_cons (pe_ix ix_list (pv 0) pe_int (fun _ _ => rfl)) (pa_cons (pe_ix ix_list (pv 0) pe_int (fun _ _ => rfl)) (pa_cons (pe_ix ix_list (pv 0) pe_int (fun _ _ => rfl)) (pa_cons (pe_ix ix_list (pv 0) pe_int (fun _ _ => rfl)) (pa_cons (pe_ix ix_list (pv 0) pe_int (fun _ _ => rfl)) pa_nil)))))) (pk_cons (pv 1) (pk_cons (pv 2) pk_nil)))))
      pss_nil)
    (pss_one (ps_ret (Exv.pe_cmethKS (E := (fun _ => E)) (pe_glob (v := .ref A.c_Net) rfl T.g_Net rfl) T.cr_Net T.cm_Net_made.choose_spec G_Net_made (hr.mono (by decide)) hbM (Net7.passAt_of (passes_call (takes_of rfl rfl rfl rfl) (fun _ _ _ _ h => h))) (pk_cons (pv 0) (pk_cons (pv 1) (pk_cons (pv 2) pk_nil)))))))))))), ?_⟩
    walk_at "in"
    rcases ps with _ | ⟨y0, _ | ⟨y1, _ | ⟨y2, _ | ⟨y3, _ | ⟨y4, _ | ⟨y5, _ | ⟨y6, r⟩⟩⟩⟩⟩⟩⟩
    · walk_at "rd"
      refine Lay.ite_d (fun c => absurd c (by omega)) (fun _ => ?_)
      walk_at "it"
      refine Lay.ite_d (fun c => absurd c (by omega)) (fun _ => ?_)
      walk_at "it"
      refine Lay.ite_d (fun c => absurd c (by omega)) (fun _ => ?_)
      walk_at "it"
      refine Lay.ite_d (fun c => absurd c (by omega)) (fun _ => ?_)
      walk_at "it"
      refine Lay.ite_d (fun c => absurd c (by omega)) (fun _ => ?_)
      walk_at "it"
      refine Lay.ite_d (fun c => absurd c (by omega)) (fun _ => ?_)
      walk_at "it"
      refine Exv.rd_cmethKS ?_
      walk_at "rd"
      refine ⟨rfl, ?_⟩
      walk_at "rd"
      refine ⟨rfl, ?_⟩
      exact ⟨a, ln, rg, _, js, rfl, .inr ha, kl, kr, hp, hd, w⟩
    · walk_at "rd"
      refine Lay.ite_d (fun _ => ?_) (fun c => absurd rfl c)
      walk_at "rd"
      refine KwS.rd_makeRKP ?_
      walk_at "rd"
      refine ⟨rfl, ?_⟩
      exact Net7.mk_netJ kl kr hp hd w
    · walk_at "rd"
      refine Lay.ite_d (fun c => absurd c (by omega)) (fun _ => ?_)
      walk_at "it"
      refine Lay.ite_d (fun _ => ?_) (fun c => absurd rfl c)
      walk_at "rd"
      refine KwS.rd_makeRKP ?_
      walk_at "rd"
      refine ⟨rfl, ?_⟩
      exact Net7.mk_netJ kl kr hp hd w
    · walk_at "rd"
      refine Lay.ite_d (fun c => absurd c (by omega)) (fun _ => ?_)
      walk_at "it"
      refine Lay.ite_d (fun c => absurd c (by omega)) (fun _ => ?_)
      walk_at "it"
      refine Lay.ite_d (fun _ => ?_) (fun c => absurd rfl c)
      walk_at "rd"
      refine KwS.rd_makeRKP ?_
      walk_at "rd"
      refine ⟨rfl, ?_⟩
      exact Net7.mk_netR kl kr hp hd w
    · walk_at "rd"
      refine Lay.ite_d (fun c => absurd c (by omega)) (fun _ => ?_)
      walk_at "it"
      refine Lay.ite_d (fun c => absurd c (by omega)) (fun _ => ?_)
      walk_at "it"
      refine Lay.ite_d (fun c => absurd c (by omega)) (fun _ => ?_)
      walk_at "it"
      refine Lay.ite_d (fun _ => ?_) (fun c => absurd rfl c)
      walk_at "rd"
      refine KwS.rd_makeRKP ?_
      walk_at "rd"
      refine ⟨rfl, ?_⟩
      exact Net7.mk_netJ kl kr hp hd w
    · walk_at "rd"
      refine Lay.ite_d (fun c => absurd c (by omega)) (fun _ => ?_)
      walk_at "it"
      refine Lay.ite_d (fun c => absurd c (by omega)) (fun _ => ?_)
      walk_at "it"
      refine Lay.ite_d (fun c => absurd c (by omega)) (fun _ => ?_)
      walk_at "it"
      refine Lay.ite_d (fun c => absurd c (by omega)) (fun _ => ?_)
      walk_at "it"
      refine Lay.ite_d (fun _ => ?_) (fun c => absurd rfl c)
      walk_at "rd"
      refine KwS.rd_makeRKP ?_
      walk_at "rd"
      refine ⟨rfl, ?_⟩
      exact Net7.mk_netJ kl kr hp hd w
    · walk_at "rd"
      refine Lay.ite_d (fun c => absurd c (by omega)) (fun _ => ?_)
      walk_at "it"
      refine Lay.ite_d (fun c => absurd c (by omega)) (fun _ => ?_)
      walk_at "it"
      refine Lay.ite_d (fun c => absurd c (by omega)) (fun _ => ?_)
      walk_at "it"
      refine Lay.ite_d (fun c => absurd c (by omega)) (fun _ => ?_)
      walk_at "it"
      refine Lay.ite_d (fun c => absurd c (by omega)) (fun _ => ?_)
      walk_at "it"
      refine Lay.ite_d (fun _ => ?_) (fun c => absurd rfl c)
      walk_at "rd"
      refine KwS.rd_makeRKP ?_
      walk_at "rd"
      refine ⟨rfl, ?_⟩
      exact Net7.mk_netJ kl kr hp hd w
    · walk_at "rd"
      refine Lay.ite_d (fun c => absurd c (by omega)) (fun _ => ?_)
      walk_at "it"
      refine Lay.ite_d (fun c => absurd c (by omega)) (fun _ => ?_)
      walk_at "it"
      refine Lay.ite_d (fun c => absurd c (by omega)) (fun _ => ?_)
      walk_at "it"
      refine Lay.ite_d (fun c => absurd c (by omega)) (fun _ => ?_)
      walk_at "it"
      refine Lay.ite_d (fun c => absurd c (by omega)) (fun _ => ?_)
      walk_at "it"
      refine Lay.ite_d (fun c => absurd c (by omega)) (fun _ => ?_)
      walk_at "it"
      refine Exv.rd_cmethKS ?_
      walk_at "rd"
      refine ⟨rfl, ?_⟩
      walk_at "rd"
      refine ⟨rfl, ?_⟩
      exact ⟨a, ln, rg, _, js, rfl, .inr ha, kl, kr, hp, hd, w⟩
theorem bind_Net_made (T : Txt K mg A) : ∃ mv : List Value, KBn K A.d_Net_made ["cls", "parts", "line", "ring"] 2 ["line", "ring"] (fun us ws => us ++ ws) (fun vs zs => vs ++ zs) :=
  T.F_Net_made.kbinds0 2 ["line", "ring"] [] (fun us mz zs => us ++ zs) (fun z => by cases z) (fun q hq => by cases hq) (fun r1 r2 r3 => r1.append r3)
    (fun D doc pm an cdv ct us mv ws h1 h2 h3 => match us, mv, ws, h1, h2, h3 with
      | [a, b], [], [c, d], _, _, _ => (by rfl : _ = _))
theorem ok_asked (T : Txt K mg A) (G_direct : FnOk P w K mg base (L2.CX P w) 10 A.a_direct A.d_direct ["_law_handed", "_law_width", "_law_slots_here"] (Net7.spDirect7 (cs A) A.c_Net A.c_NoNet)) (G_Net_made : FnOk P w K mg base (L2.CX P w) 9 A.a_Net_made A.d_Net_made ["cls", "parts", "line", "ring"] (Net7.spMadeJ (cs A) A.c_Net A.c_NoNet)) : FnOk P w K mg base CX0 12 A.a_asked A.d_asked ["_law_handed", "_law_width", "_law_slots_here", "_law_direct_here"] (Net7.spAsked7 (cs A) A.c_Net A.c_NoNet) := by
  refine T.F_asked.ok sc_asked (fun vs H Q E h => ?_) (fun cdv A0 outer s H vs Q E hr h => ?_)
  · obtain ⟨a, ln, rg, b, ps, js, rfl, _⟩ := h
    rfl
  · obtain ⟨a, ln, rg, b, ps, js, rfl, ha, kl, kr, hp, hd, w⟩ := h
    obtain ⟨mv, hbM⟩ := bind_Net_made T
    have GNM := KwS.fnrk_of G_Net_made hbM
    refine ⟨_, (pss_cons (ps_set (i := 4) sc_asked.nd rfl (Or.inl rfl) pe_non)
      (pss_cons (Exv.ps_try_asK (i := 5) (Wout := fun _ _ _ _ => False) rfl rfl sc_asked.nd rfl rfl ⟨rfl, by decide, Or.inl T.g_UnkeptError⟩ takes0
        (fun W pn xe tk _ => pss_one (ps_if (pt_val (pv 3))
          (pss_one (ps_set (i := 4) sc_asked.nd rfl (Or.inl rfl) (pe_callS (E := WE W) G_direct (hr.mono (by decide)) rfl T.g_direct T.F_direct.kp T.b_direct (fun σ => passAt tk σ) (pa_cons (pv 0) (pa_cons (pv 1) (pa_cons (pv 2) pa_nil))))))
          (pss_one (ps_set (i := 4) sc_asked.nd rfl (Or.inl rfl) (by exact (KwS.pe_cmethNK (ks := ["line", "ring"]) (E := WE W) (pe_glob (v := .ref A.c_Net) rfl T.g_Net rfl) T.cr_Net T.cm_Net_made.choose_spec GNM (hr.mono (by decide)) (fun σ => passAt tk σ) (pa_cons (pv 0) pa_nil) (pk_cons (pv 1) (pk_cons (pv 2) pk_nil))))))))
        (fun a oe cls d pn hz hf => pss_one (ps_set (i := 4) sc_asked.nd rfl (Or.inl rfl) (pv 5))))
      (pss_one (ps_ret (pv 4))))), ?_⟩
    walk_at "in"
    walk_at "rd"
    cases b with
    | true =>
      walk_at "it"
      have hl : H a = some (.lst ps) := ha.elim id (fun z => nomatch z.1)
      refine Lay.rd_callS ?_
      walk_at "rd"
      refine ⟨a, ln, rg, ps, js, rfl, hl, kl, kr, hp, hd, ?_, ?_⟩
      · intro r pl hw
        cases pl with
        | no =>
          intro d H' hd' s z
          refine ⟨true, T.em_NoNet, fun _ a' ha' => ?_, fun z => nomatch z⟩
          walk_at "rd"
          intro hn'
          walk_at "rd"
          exact w.1 r _ hw _ _ (Lay.Same.upd' s ha') ⟨d, upd_same, by rw [upd_ne (Lay.ne_none ha' z).symm]; exact z⟩
        | «at» k =>
          intro d H' hd' s z
          refine ⟨true, T.em_NoNet, fun _ a' ha' => ?_, fun z => nomatch z⟩
          walk_at "rd"
          intro hn'
          walk_at "rd"
          exact w.1 r _ hw _ _ (Lay.Same.upd' s ha') ⟨d, upd_same, by rw [upd_ne (Lay.ne_none ha' z).symm]; exact z⟩
        | two i j =>
          intro tp H1 s1 e1 d H' hd' s z
          refine ⟨true, T.em_NoNet, fun _ a' ha' => ?_, fun z => nomatch z⟩
          walk_at "rd"
          intro hn'
          walk_at "rd"
          exact w.1 r _ hw _ _ (Lay.Same.upd' (s1.trans s) ha') ⟨tp, by rw [upd_ne (Lay.ne_none ha' (s _ _ e1)).symm]; exact s _ _ e1, ⟨d, upd_same, by rw [upd_ne (Lay.ne_none ha' z).symm]; exact z⟩⟩
      · intro l r its e1 e2 e3 e4 lo r1 r4 g x H' hx hN s
        walk_at "rd"
        exact w.2 l r its e1 e2 e3 e4 lo r1 r4 g x H' hN s
    | false =>
      walk_at "it"
      refine NetL.rd_cmethNK ?_
      walk_at "rd"
      refine ⟨rfl, ?_⟩
      walk_at "rd"
      refine ⟨rfl, rfl, a, ln, rg, ps, js, rfl, ha.elim .inr (fun z => .inl z.2), kl, kr, hp, hd, ?_, ?_⟩
      · intro r pl hw
        cases pl with
        | no =>
          intro d H' hd' s z
          refine ⟨true, T.em_NoNet, fun _ a' ha' => ?_, fun z => nomatch z⟩
          walk_at "rd"
          intro hn'
          walk_at "rd"
          exact w.1 r _ hw _ _ (Lay.Same.upd' s ha') ⟨d, upd_same, by rw [upd_ne (Lay.ne_none ha' z).symm]; exact z⟩
        | «at» k =>
          intro d H' hd' s z
          refine ⟨true, T.em_NoNet, fun _ a' ha' => ?_, fun z => nomatch z⟩
          walk_at "rd"
          intro hn'
          walk_at "rd"
          exact w.1 r _ hw _ _ (Lay.Same.upd' s ha') ⟨d, upd_same, by rw [upd_ne (Lay.ne_none ha' z).symm]; exact z⟩
        | two i j =>
          intro tp H1 s1 e1 d H' hd' s z
          refine ⟨true, T.em_NoNet, fun _ a' ha' => ?_, fun z => nomatch z⟩
          walk_at "rd"
          intro hn'
          walk_at "rd"
          exact w.1 r _ hw _ _ (Lay.Same.upd' (s1.trans s) ha') ⟨tp, by rw [upd_ne (Lay.ne_none ha' (s _ _ e1)).symm]; exact s _ _ e1, ⟨d, upd_same, by rw [upd_ne (Lay.ne_none ha' z).symm]; exact z⟩⟩
      · intro l r its e1 e2 e3 e4 lo r1 r4 g x H' hx hN s
        walk_at "rd"
        exact w.2 l r its e1 e2 e3 e4 lo r1 r4 g x H' hN s
theorem sel_ref {C : NetL.Cs} {H : Hp} {p : NetL.It → Bool} {its : List NetL.It} {ps : List V} {y : V} (h : NetL.PartsAt C H ps its) (m : y ∈ NetL.sel p its ps) : ∃ c, y = .ref c := by
  obtain ⟨i, hi, e⟩ := List.getElem_of_mem m
  obtain ⟨it, _, pa⟩ := NetL.pget (NetL.sel_parts p h) (show (NetL.sel p its ps)[i]? = some y by rw [List.getElem?_eq_getElem hi, e])
  obtain ⟨x, _, _, ex, _⟩ := pa.ins
  exact ⟨x, ex⟩
theorem ok_right (T : Txt K mg A) : FnOk P w K mg base CX0 2 A.a_right A.d_right ["_law_found", "_law_wanted_here", "_law_items_here", "_law_handed", "_law_width", "_law_slots_here"] (Net7.spRight7 (cs A) A.c_Net A.c_NoNet) := by
  refine T.F_right.ok sc_right (fun vs H Q E h => ?_) (fun cdv A0 outer s H vs Q E hr h => ?_)
  · obtain ⟨S, f, wv, ln, rg, a, h, l, ps, rfl, _⟩ := h
    rfl
  · obtain ⟨S, f, wv, ln, rg, a, hh, l, ps, rfl, ha, hh1, q, hc⟩ := h
    refine ⟨_, (pss_cons (ps_if (pt_cmpR op_notN (pv 1) pe_non (nomark _))
      (pss_cons (ps_if (PW.pt (pw_or (pt_not (pt_val (pe_callB Exv.call_isiW (by rfl) T.n_isinstance (by decide +kernel) (pa_cons (pv 0) (pa_cons (pe_glob (v := .ref A.c_NoNet) rfl T.g_NoNet rfl) pa_nil))))) (pw_or1 (pt_not (pt_val (pe_callB Exv.call_isiW (by rfl) T.n_isinstance (by decide +kernel) (pa_cons (pv 0) (pa_cons (pe_bltn (v := .ty "ValueError") (by rfl) T.n_ValueError (by decide +kernel) rfl) pa_nil))))))))
        (pss_one (ps_ret pe_bl))
        pss_nil)
      (pss_cons (ps_if (pt_val (pe_callB Exv.call_isiTW (by rfl) T.n_isinstance (by decide +kernel) (pa_cons (pv 0) (pa_cons (pe_tup (pa_cons (pe_glob (v := .ref A.c_NoPart) rfl T.g_NoPart rfl) (pa_cons (pe_glob (v := .ref A.c_NoName) rfl T.g_NoName rfl) (pa_cons (pe_glob (v := .ref A.c_NoStep) rfl T.g_NoStep rfl) (pa_cons (pe_glob (v := .ref A.c_NoDeed) rfl T.g_NoDeed rfl) (pa_cons (pe_glob (v := .ref A.c_NoText) rfl T.g_NoText rfl) (pa_cons (pe_glob (v := .ref A.c_NoRow) rfl T.g_NoRow rfl) pa_nil))))))) pa_nil))))
        (pss_one (ps_ret pe_bl))
        pss_nil)
      (pss_one (ps_ret (pe_and (pe_cmpR op_eq (Exv.pe_xv (pv 0)) (pe_ix ix_tup (pv 1) pe_int (fun _ _ => rfl)) (nomark _)) (pe_and (pe_cmpR (op_eqD hr.units) (Exv.pe_xv (pv 0)) (pe_ix ix_tup (pv 1) pe_int (fun _ _ => rfl)) (nomark _)) (pe_one (pe_not (pe_callB call_isi (by rfl) T.n_isinstance (by decide +kernel) (pa_cons (Exv.pe_xv (pv 0)) (pa_cons (pe_bltn (v := .ty "bool") (by rfl) T.n_bool (by decide +kernel) rfl) pa_nil)))))))))))
      pss_nil)
    (pss_cons (ps_if (PW.pt (pw_or (pt_not (pt_val (pe_callB Exv.call_isiW (by rfl) T.n_isinstance (by decide +kernel) (pa_cons (pv 0) (pa_cons (pe_glob (v := .ref A.c_Net) rfl T.g_Net rfl) pa_nil))))) (pw_or (pt_cmpR op_ne (pe_fld (pv 0) rfl) (pv 4) (nomark _)) (pw_or1 (pt_cmpR op_ne (pe_fld (pv 0) rfl) (pv 5) (nomark _))))))
      (pss_one (ps_ret pe_bl))
      pss_nil)
    (pss_cons (ps_set (i := 6) sc_right.nd rfl (Or.inr rfl) (pe_lc (own := [("_law_item", 7)]) (g := gName 7) (tt := tYes) rfl sc_right.nd (pi_list (pv 2)) (blkOk_by (own := [("_law_item", 7)]) (N := ["_law_found", "_law_wanted_here", "_law_items_here", "_law_handed", "_law_width", "_law_slots_here", "_law_words", "_law_item", "_law_k"]) (sc := defScope s_right) (by decide +kernel)) (fun _ _ _ _ _ => pg_name (i := 7) sc_right.nd rfl (Or.inl rfl)) (fun _ _ _ _ _ => pts_nil) (fun _ _ _ _ _ => by exact (pe_ix (show IxR _ (rIxT K) from ix_tup) (pv 7) pe_int (fun _ _ => rfl)))))
    (pss_cons (ps_if (pt_cmpR (Lay.op_neW hr.units) (pe_fld (pv 0) rfl) (pe_callTy Lay.call_tupS (by rfl) T.n_tuple (by decide +kernel) (pa_cons (pe_lc (own := [("_law_k", 8)]) (g := gName 8) rfl sc_right.nd (pi_range1 rfl T.n_range (pa_cons (pe_callB Lay.call_lenS (by rfl) T.n_len PySem.boot_len (pa_cons (pv 2) pa_nil)) pa_nil)) (blkOk_by (own := [("_law_k", 8)]) (N := ["_law_found", "_law_wanted_here", "_law_items_here", "_law_handed", "_law_width", "_law_slots_here", "_law_words", "_law_item", "_law_k"]) (sc := defScope s_right) (by decide +kernel)) (fun _ _ _ _ _ => pg_name (i := 8) sc_right.nd rfl (Or.inl rfl)) (fun _ _ _ _ _ => pts_one (pt_cmpR op_eq (pe_ix (show IxR _ (rIxL K) from ix_list) (pv 6) (pv 8) (fun _ _ => rfl)) pe_str (nomark _))) (fun _ _ _ _ _ => by exact (pe_ix (show IxR _ (rIxL K) from ix_list) (pv 3) (pv 8) (fun _ _ => rfl)))) pa_nil)) (nomark _))
      (pss_one (ps_ret pe_bl))
      pss_nil)
    (pss_cons (ps_if (pt_cmpR (Lay.op_neW hr.units) (pe_fld (pv 0) rfl) (pe_callTy Lay.call_tupS (by rfl) T.n_tuple (by decide +kernel) (pa_cons (pe_lc (own := [("_law_k", 8)]) (g := gName 8) rfl sc_right.nd (pi_range1 rfl T.n_range (pa_cons (pe_callB Lay.call_lenS (by rfl) T.n_len PySem.boot_len (pa_cons (pv 2) pa_nil)) pa_nil)) (blkOk_by (own := [("_law_k", 8)]) (N := ["_law_found", "_law_wanted_here", "_law_items_here", "_law_handed", "_law_width", "_law_slots_here", "_law_words", "_law_item", "_law_k"]) (sc := defScope s_right) (by decide +kernel)) (fun _ _ _ _ _ => pg_name (i := 8) sc_right.nd rfl (Or.inl rfl)) (fun _ _ _ _ _ => pts_one (pt_cmpR op_eq (pe_ix (show IxR _ (rIxL K) from ix_list) (pv 6) (pv 8) (fun _ _ => rfl)) pe_str (nomark _))) (fun _ _ _ _ _ => by exact (pe_ix (show IxR _ (rIxL K) from ix_list) (pv 3) (pv 8) (fun _ _ => rfl)))) pa_nil)) (nomark _))
      (pss_one (ps_ret pe_bl))
      pss_nil)
    (pss_one (ps_ret (pe_cmpR (Lay.op_eqW hr.units) (pe_fld (pv 0) rfl) (pe_callTy Lay.call_tupS (by rfl) T.n_tuple (by decide +kernel) (pa_cons (pe_lc (own := [("_law_k", 8)]) (g := gName 8) rfl sc_right.nd (pi_range1 rfl T.n_range (pa_cons (pe_callB Lay.call_lenS (by rfl) T.n_len PySem.boot_len (pa_cons (pv 2) pa_nil)) pa_nil)) (blkOk_by (own := [("_law_k", 8)]) (N := ["_law_found", "_law_wanted_here", "_law_items_here", "_law_handed", "_law_width", "_law_slots_here", "_law_words", "_law_item", "_law_k"]) (sc := defScope s_right) (by decide +kernel)) (fun _ _ _ _ _ => pg_name (i := 8) sc_right.nd rfl (Or.inl rfl)) (fun _ _ _ _ _ => pts_one (pt_cmpR op_eq (pe_ix (show IxR _ (rIxL K) from ix_list) (pv 6) (pv 8) (fun _ _ => rfl)) pe_str (nomark _))) (fun _ _ _ _ _ => by exact (pe_ix (show IxR _ (rIxL K) from ix_list) (pv 3) (pv 8) (fun _ _ => rfl)))) pa_nil)) (nomark _))))))))), ?_⟩
    walk_at "in"
    walk_at "rd"
    refine ⟨rfl, ?_⟩
    rcases hc with ⟨r, p, e, rfl, hw, he, hr100⟩ | ⟨x, lw, rw_, its, rfl, rfl, rfl, rfl, hN, hI, l30⟩
    · have wn := Net7.wvP.non hw
      obtain ⟨wa, wpv, rfl, hwa, dw⟩ := Net7.wv_at (K := K) hw
      obtain ⟨epv, hea, de, tk, kd, nb⟩ := Net7.err_at (K := K) he
      rw [show decide (V.ref wa = V.non) = false from rfl]
      walk_at "it"
      refine Exv.rd_isiW true (.own _) (hea.ty T.xc_NoNet) T.ki_NoNet_NoNet ?_
      walk_at "it"
      refine Exv.rd_isiW true (.ty _) (hea.ty T.xc_NoNet) T.kt_NoNet_ValueError ?_
      walk_at "it"
      refine ⟨by decide, fun u hu => ?_⟩
      have s1 := Lay.Same.upd (o := .tup [V.ref A.c_NoPart, V.ref A.c_NoName, V.ref A.c_NoStep, V.ref A.c_NoDeed, V.ref A.c_NoText, V.ref A.c_NoRow]) hu
      have hea1 := Lay.ErrAt.mono s1 hea
      walk_at "rd"
      refine Exv.rd_isiTW false upd_same (.cons (.own _) (.cons (.own _) (.cons (.own _) (.cons (.own _) (.cons (.own _) (.cons (.own _) .nil)))))) (hea1.ty T.xc_NoNet) (Lay.kitAny_no T.ki_NoNet_NoPart (Lay.kitAny_no T.ki_NoNet_NoName (Lay.kitAny_no T.ki_NoNet_NoStep (Lay.kitAny_no T.ki_NoNet_NoDeed (Lay.kitAny_no T.ki_NoNet_NoText (Lay.kitAny_no T.ki_NoNet_NoRow kitAny_nil)))))) ?_
      walk_at "it"
      refine Lay.rd_xvV (by rfl) hea1 T.xf_NoNet T.nf_NoNet_reason (by rfl) ?_
      walk_at "rd"
      rw [decide_eq_true (rfl : r = r)]
      walk_at "it"
      refine Lay.rd_xvV (by rfl) hea1 T.xf_NoNet T.nf_NoNet_place (by rfl) ?_
      walk_at "rd"
      refine ⟨_, _, de _ s1, dw _ s1, (Net7.shaped_pl p).1, (Net7.shaped_pl p).1, ?_⟩
      rw [(Net7.shaped_pl p).2]
      walk_at "it"
      refine Lay.rd_xvV (by rfl) hea1 T.xf_NoNet T.nf_NoNet_place (by rfl) ?_
      walk_at "rd"
      refine Lay.rd_isiV .bool false (kd.same fun b o _ h => s1 _ _ h) nb ?_
      walk_at "it"
      exact q _ s1
    · have C := nc T
      have lenI := hI.length
      obtain ⟨dx, tv, ts, tag, dn, n1, n2, n3, n4, n5, n6⟩ := id hN
      have lenP := n6.length
      rw [show decide (V.non = V.non) = true from rfl]
      walk_at "it"
      refine Exv.rd_isiW true (.own _) (.old (T.in_Net _ x dx _ n1)) T.ki_Net_Net ?_
      walk_at "it"
      refine Lay.rd_tFld ?_
      walk_at "rd"
      refine ⟨x, _, dx, _, .int lw, rfl, n1, T.cl_Net, T.na_Net_line, by rfl, ?_⟩
      walk_at "rd"
      refine Lay.ite_n (fun c => absurd rfl c) (fun _ => ?_)
      walk_at "it"
      refine Lay.rd_tFld ?_
      walk_at "rd"
      refine ⟨x, _, dx, _, .int rw_, rfl, n1, T.cl_Net, T.na_Net_ring, by rfl, ?_⟩
      walk_at "rd"
      refine Lay.ite_n (fun c => absurd rfl c) (fun _ => ?_)
      walk_at "it"
      refine ⟨⟨_, SqL.of ha⟩, ?_⟩
      intro W hW
      refine Lay.lc_go (walk_list (xs := l)) (fun j l' H' => L2.Same H H' ∧ l' = ((its.take j).map Net7.wordOf).map V.str) ⟨Lay.Same.upd hW, rfl⟩ (fun j l' H' _ r => SqL.of (r.1 _ _ ha)) ?_ ?_
      · rintro j l' y J2 J3 hjj hl' hz' ⟨r2, el⟩ ⟨rfl, ey⟩
        obtain ⟨it, ei, ia⟩ := NetL.pget hI ey
        obtain ⟨b, rest, rfl, hb⟩ := Net7.item_full3 ia
        walk_at "rd"
        refine ⟨rfl, ?_⟩
        walk_at "it"
        refine Lay.rd_ixT (SqT.of (r2 _ _ hb)) (v := .str (Net7.wordOf it)) (Lay.atI_nat (i := 0) rfl) ?_
        refine Lay.lc_put hl' hz' (by omega) ⟨fun b o hb => ?_, ?_⟩
        · rw [upd_ne (fun e => by subst e; rw [hW] at hb; cases hb)]
          exact r2 _ _ hb
        · rw [Lay.take_succ ei, List.map_append, List.map_append, el]
          rfl
      rintro lw_ Ha hlw hzw ⟨Sa, elw⟩
      rw [List.take_of_length_le (by omega)] at elw
      subst elw
      walk_at "rd"
      refine Lay.rd_tFld ?_
      walk_at "rd"
      refine ⟨x, _, dx, _, .ref tv, rfl, Sa _ _ n1, T.cl_Net, T.na_Net_variables, by rfl, ?_⟩
      walk_at "rd"
      refine Lay.rd_lenL (SqL.of (Sa _ _ ha)) ?_
      walk_at "rd"
      refine ⟨_, rfl, by omega, by omega, ?_⟩
      rw [Int.toNat_natCast]
      intro Da hDa
      refine Lay.lc_go (walk_range (lo := 0) (n := l.length)) (fun i l' H' => L2.Same Ha H' ∧ l' = NetL.sel NetL.It.isV (its.take i) (ps.take i)) ⟨Lay.Same.upd hDa, rfl⟩ (fun _ _ _ _ _ => trivial) ?_ ?_
      · rintro i l' y J2 J3 hi hl' hz' ⟨r2, el⟩ hy
        obtain ⟨rfl, rfl⟩ := hy
        have ei : its[i]? = some (its[i]'(by omega)) := List.getElem?_eq_getElem (by omega)
        have ep : ps[i]? = some (ps[i]'(by omega)) := List.getElem?_eq_getElem (by omega)
        generalize its[i]'(by omega) = it at ei
        generalize ps[i]'(by omega) = pv_ at ep
        have fs1 := NetL.sel_succ NetL.It.isV ei ep
        have ew : ((its.map Net7.wordOf).map V.str)[i]? = some (.str (Net7.wordOf it)) := by rw [List.getElem?_map, List.getElem?_map, ei]; rfl
        walk_at "rd"
        refine ⟨rfl, ?_⟩
        walk_at "rd"
        rw [Int.zero_add]
        refine Lay.rd_ixL (SqL.of (r2 _ _ ((L2.Same.refl Ha) _ _ hlw))) (Lay.atI_nat ew) ?_
        walk_at "rd"
        rw [Net7.wordV]
        have keepD : ∀ {o : HO}, L2.Same Ha (upd J3 Da o) := fun b o hb => by
          rw [upd_ne (fun e => by subst e; rw [hDa] at hb; cases hb)]
          exact r2 _ _ hb
        cases hs : it.isV with
        | true =>
          rw [hs, if_pos rfl] at fs1
          walk_at "it"
          refine Lay.rd_ixL (SqL.of (r2 _ _ (Sa _ _ hh1))) (Lay.atI_nat ep) ?_
          refine Lay.lc_put hl' hz' (by omega) ⟨keepD, ?_⟩
          rw [fs1, el]
        | false =>
          rw [hs, if_neg Bool.false_ne_true, List.append_nil] at fs1
          walk_at "it"
          refine Lay.lc_skip hl' hz' ⟨r2, ?_⟩
          rw [fs1, el]
      rintro lfa Ja hlfa hzfa ⟨ga, elfa⟩
      rw [List.take_of_length_le (by omega), List.take_of_length_le (by omega)] at elfa
      subst elfa
      walk_at "rd"
      refine Lay.rd_tupL (SqL.of hlfa) (fun ta hta => ?_)
      have sta := Lay.Same.upd (o := .tup (NetL.sel NetL.It.isV its ps)) hta
      have San := (Sa.trans ga).trans sta
      have Wa := ((L2.Same.refl Ha).trans ga).trans sta
      have eTa : (upd Ja ta (.tup (NetL.sel NetL.It.isV its ps))) ta = some (.tup (NetL.sel NetL.It.isV its ps)) := upd_same
      generalize upd Ja ta (.tup (NetL.sel NetL.It.isV its ps)) = Han at sta San Wa eTa
      refine Lay.rd_neW true (Lay.RcW.tuplesSame (SqT.of (San _ _ n2)) (SqT.of eTa) (fun y m => .inr (sel_ref n6 m))) ?_
      walk_at "it"
      refine Lay.rd_tFld ?_
      walk_at "rd"
      refine ⟨x, _, dx, _, .ref ts, rfl, San _ _ n1, T.cl_Net, T.na_Net_signals, by rfl, ?_⟩
      walk_at "rd"
      refine Lay.rd_lenL (SqL.of (San _ _ ha)) ?_
      walk_at "rd"
      refine ⟨_, rfl, by omega, by omega, ?_⟩
      rw [Int.toNat_natCast]
      intro Db hDb
      refine Lay.lc_go (walk_range (lo := 0) (n := l.length)) (fun i l' H' => L2.Same Han H' ∧ l' = NetL.sel NetL.It.isS (its.take i) (ps.take i)) ⟨Lay.Same.upd hDb, rfl⟩ (fun _ _ _ _ _ => trivial) ?_ ?_
      · rintro i l' y J2 J3 hi hl' hz' ⟨r2, el⟩ hy
        obtain ⟨rfl, rfl⟩ := hy
        have ei : its[i]? = some (its[i]'(by omega)) := List.getElem?_eq_getElem (by omega)
        have ep : ps[i]? = some (ps[i]'(by omega)) := List.getElem?_eq_getElem (by omega)
        generalize its[i]'(by omega) = it at ei
        generalize ps[i]'(by omega) = pv_ at ep
        have fs1 := NetL.sel_succ NetL.It.isS ei ep
        have ew : ((its.map Net7.wordOf).map V.str)[i]? = some (.str (Net7.wordOf it)) := by rw [List.getElem?_map, List.getElem?_map, ei]; rfl
        walk_at "rd"
        refine ⟨rfl, ?_⟩
        walk_at "rd"
        rw [Int.zero_add]
        refine Lay.rd_ixL (SqL.of (r2 _ _ (Wa _ _ hlw))) (Lay.atI_nat ew) ?_
        walk_at "rd"
        rw [Net7.wordS]
        have keepD : ∀ {o : HO}, L2.Same Han (upd J3 Db o) := fun b o hb => by
          rw [upd_ne (fun e => by subst e; rw [hDb] at hb; cases hb)]
          exact r2 _ _ hb
        cases hs : it.isS with
        | true =>
          rw [hs, if_pos rfl] at fs1
          walk_at "it"
          refine Lay.rd_ixL (SqL.of (r2 _ _ (San _ _ hh1))) (Lay.atI_nat ep) ?_
          refine Lay.lc_put hl' hz' (by omega) ⟨keepD, ?_⟩
          rw [fs1, el]
        | false =>
          rw [hs, if_neg Bool.false_ne_true, List.append_nil] at fs1
          walk_at "it"
          refine Lay.lc_skip hl' hz' ⟨r2, ?_⟩
          rw [fs1, el]
      rintro lfb Jb hlfb hzfb ⟨gb, elfb⟩
      rw [List.take_of_length_le (by omega), List.take_of_length_le (by omega)] at elfb
      subst elfb
      walk_at "rd"
      refine Lay.rd_tupL (SqL.of hlfb) (fun tb htb => ?_)
      have stb := Lay.Same.upd (o := .tup (NetL.sel NetL.It.isS its ps)) htb
      have Sbn := (San.trans gb).trans stb
      have Wb := (Wa.trans gb).trans stb
      have eTb : (upd Jb tb (.tup (NetL.sel NetL.It.isS its ps))) tb = some (.tup (NetL.sel NetL.It.isS its ps)) := upd_same
      generalize upd Jb tb (.tup (NetL.sel NetL.It.isS its ps)) = Hbn at stb Sbn Wb eTb
      refine Lay.rd_neW true (Lay.RcW.tuplesSame (SqT.of (Sbn _ _ n3)) (SqT.of eTb) (fun y m => .inr (sel_ref n6 m))) ?_
      walk_at "it"
      refine Lay.rd_tFld ?_
      walk_at "rd"
      refine ⟨x, _, dx, _, .ref tag, rfl, Sbn _ _ n1, T.cl_Net, T.na_Net_agents, by rfl, ?_⟩
      walk_at "rd"
      refine Lay.rd_lenL (SqL.of (Sbn _ _ ha)) ?_
      walk_at "rd"
      refine ⟨_, rfl, by omega, by omega, ?_⟩
      rw [Int.toNat_natCast]
      intro Dc hDc
      refine Lay.lc_go (walk_range (lo := 0) (n := l.length)) (fun i l' H' => L2.Same Hbn H' ∧ l' = NetL.sel NetL.It.isA (its.take i) (ps.take i)) ⟨Lay.Same.upd hDc, rfl⟩ (fun _ _ _ _ _ => trivial) ?_ ?_
      · rintro i l' y J2 J3 hi hl' hz' ⟨r2, el⟩ hy
        obtain ⟨rfl, rfl⟩ := hy
        have ei : its[i]? = some (its[i]'(by omega)) := List.getElem?_eq_getElem (by omega)
        have ep : ps[i]? = some (ps[i]'(by omega)) := List.getElem?_eq_getElem (by omega)
        generalize its[i]'(by omega) = it at ei
        generalize ps[i]'(by omega) = pv_ at ep
        have fs1 := NetL.sel_succ NetL.It.isA ei ep
        have ew : ((its.map Net7.wordOf).map V.str)[i]? = some (.str (Net7.wordOf it)) := by rw [List.getElem?_map, List.getElem?_map, ei]; rfl
        walk_at "rd"
        refine ⟨rfl, ?_⟩
        walk_at "rd"
        rw [Int.zero_add]
        refine Lay.rd_ixL (SqL.of (r2 _ _ (Wb _ _ hlw))) (Lay.atI_nat ew) ?_
        walk_at "rd"
        rw [Net7.wordA]
        have keepD : ∀ {o : HO}, L2.Same Hbn (upd J3 Dc o) := fun b o hb => by
          rw [upd_ne (fun e => by subst e; rw [hDc] at hb; cases hb)]
          exact r2 _ _ hb
        cases hs : it.isA with
        | true =>
          rw [hs, if_pos rfl] at fs1
          walk_at "it"
          refine Lay.rd_ixL (SqL.of (r2 _ _ (Sbn _ _ hh1))) (Lay.atI_nat ep) ?_
          refine Lay.lc_put hl' hz' (by omega) ⟨keepD, ?_⟩
          rw [fs1, el]
        | false =>
          rw [hs, if_neg Bool.false_ne_true, List.append_nil] at fs1
          walk_at "it"
          refine Lay.lc_skip hl' hz' ⟨r2, ?_⟩
          rw [fs1, el]
      rintro lfc Jc hlfc hzfc ⟨gc, elfc⟩
      rw [List.take_of_length_le (by omega), List.take_of_length_le (by omega)] at elfc
      subst elfc
      walk_at "rd"
      refine Lay.rd_tupL (SqL.of hlfc) (fun tc htc => ?_)
      have stc := Lay.Same.upd (o := .tup (NetL.sel NetL.It.isA its ps)) htc
      have Scn := (Sbn.trans gc).trans stc
      have Wc := (Wb.trans gc).trans stc
      have eTc : (upd Jc tc (.tup (NetL.sel NetL.It.isA its ps))) tc = some (.tup (NetL.sel NetL.It.isA its ps)) := upd_same
      generalize upd Jc tc (.tup (NetL.sel NetL.It.isA its ps)) = Hcn at stc Scn Wc eTc
      refine Lay.rd_eqW true (Lay.RcW.tuplesSame (SqT.of (Scn _ _ n4)) (SqT.of eTc) (fun y m => .inr (sel_ref n6 m))) ?_
      exact q _ Scn
theorem ok_free (T : Txt K mg A) (G_draw : FnOk P w K mg base CX0 1 A.a_draw A.d_draw ["_law_pen_here", "_law_many"] Lay.spDraw) : FnOk P w K mg base CX0 2 A.a_free A.d_free ["_law_pen_here", "_law_own"] Net7.spFree7 := by
  refine T.F_free.ok sc_free (fun vs H Q E h => ?_) (fun cdv A0 outer s H vs Q E hr h => ?_)
  · obtain ⟨p, n, c, a, ns, rfl, _⟩ := h
    rfl
  · obtain ⟨p, n, c, a, ns, rfl, hp, hn, ap, ha, l4, q⟩ := h
    obtain ⟨xs0, hP0⟩ := hp.at_
    refine ⟨_, (pss_cons (ps_set (i := 2) sc_free.nd rfl (Or.inl rfl) (pe_lst (pa_cons pe_int pa_nil)))
    (pss_cons (ps_for PassesOwn.never rfl (pi_range3 rfl T.n_range (pa_cons pe_int (pa_cons pe_int (pa_cons pe_int pa_nil)))) (pg_name (i := 3) sc_free.nd rfl (Or.inr rfl))
      (pss_one (ps_if (pt_cmpR op_eq (pe_callB Lay.call_lenS (by rfl) T.n_len PySem.boot_len (pa_cons (pe_lc (own := [("_law_one", 4)]) (g := gName 4) rfl sc_free.nd (pi_list (pv 1)) (blkOk_by (own := [("_law_one", 4)]) (N := ["_law_pen_here", "_law_own", "_law_found", "_law_spot", "_law_one"]) (sc := defScope s_free) (by decide +kernel)) (fun _ _ _ _ _ => pg_name (i := 4) sc_free.nd rfl (Or.inl rfl)) (fun _ _ _ _ _ => pts_one (pt_cmpR op_lt (pe_callB Lay.call_absI (by rfl) T.n_abs (by decide +kernel) (pa_cons (pe_op op_sub (pv 4) (pv 3)) pa_nil)) pe_int (nomark _))) (fun _ _ _ _ _ => by exact (pv 4))) pa_nil)) pe_int (nomark _))
        (pss_one (ps_expr (pe_bm PySem.F.plainAttrs_list PySem.F.slot_list_append PySem.F.type_list_append mt_append (pv 2) (pa_cons (pv 3) pa_nil))))
        pss_nil)))
    (pss_one (ps_ret (pe_ix ix_list (pv 2) (pe_call G_draw (hr.mono (by decide)) rfl T.g_draw T.F_draw.kp T.b_draw .nil pass0 (pa_cons (pv 0) (pa_cons (pe_callB Lay.call_lenS (by rfl) T.n_len PySem.boot_len (pa_cons (pv 2) pa_nil)) pa_nil))) (fun _ _ => rfl)))))), ?_⟩
    walk_at "in"
    walk_at "rd"
    refine ⟨by decide, fun f0 hf0 => ?_⟩
    have s0 := Lay.Same.upd (o := .lst [V.int 900]) hf0
    walk_at "rd"
    refine Lay.rd_for ?_
    walk_at "rd"
    refine ⟨0, 140, 7, 20, rfl, ⟨by decide, by decide, by decide +kernel, by decide +kernel⟩, ?_⟩
    refine Lay.for_go (walk_rangeC (lo := 0) (c := 7) (n := 20)) (fun i σ' H' => (∃ o3, σ' = [some (V.ref p), some (V.ref a), some (V.ref f0), o3, none]) ∧ L2.Same H H' ∧ ∃ vs : List Int, H' f0 = some (.lst (vs.map V.int)) ∧ 1 ≤ vs.length ∧ vs.length ≤ i + 1 ∧ ∀ v ∈ vs, v = 900 ∨ (0 ≤ v ∧ v ≤ 140 ∧ ∀ o ∈ ns, 8 ≤ o - v ∨ 8 ≤ v - o)) ⟨⟨_, rfl⟩, s0, [900], upd_same, by decide, by decide, fun v m => by rw [List.mem_singleton] at m; exact .inl m⟩ (fun _ _ _ _ _ => trivial) ?_ ?_
    · rintro i x σ' H2 H3 hi ⟨⟨o3, rfl⟩, s2, vs, hv, v1, v2, vok⟩ hy
      obtain ⟨rfl, rfl⟩ := hy
      walk_at "rd"
      generalize hsp : (0 : Int) + ((i : Nat) : Int) * 7 = sp
      refine ⟨⟨_, SqL.of (s2 _ _ ha)⟩, ?_⟩
      intro D hD
      refine Lay.lc_go (walk_list (xs := ns.map V.int)) (fun j l' H' => L2.Same H3 H' ∧ l' = ((ns.take j).filter (fun o => decide ((if o - sp < 0 then -(o - sp) else o - sp) < 8))).map V.int) ⟨Lay.Same.upd hD, rfl⟩ (fun j l' H' _ r => SqL.of (r.1 _ _ (s2 _ _ ha))) ?_ ?_
      · rintro j l' y J2 J3 hj hl' hz' ⟨r2, el⟩ ⟨rfl, ey⟩
        obtain ⟨o, eo, rfl⟩ : ∃ o, ns[j]? = some o ∧ y = V.int o := by
          rw [List.getElem?_map] at ey
          cases e : ns[j]? with
          | none => rw [e] at ey; cases ey
          | some w => rw [e] at ey; cases ey; exact ⟨w, rfl, rfl⟩
        have hj' : j < ns.length := by simpa using hj
        walk_at "rd"
        refine ⟨rfl, ?_⟩
        walk_at "rd"
        refine Lay.ite_d (fun c => ?_) (fun c => ?_)
        · walk_at "rd"
          refine Lay.lc_put hl' hz' (by omega) ⟨fun b o hb => ?_, ?_⟩
          · rw [upd_ne (fun e => by subst e; rw [hD] at hb; cases hb)]
            exact r2 _ _ hb
          · rw [Lay.take_succ eo, List.filter_append, List.filter_cons_of_pos (by exact decide_eq_true c), List.map_append, el]
            rfl
        · refine Lay.lc_skip hl' hz' ⟨r2, ?_⟩
          rw [Lay.take_succ eo, List.filter_append, List.filter_cons_of_neg (by rw [decide_eq_false c]; decide), List.filter_nil, List.append_nil, el]
      rintro lf H4 hlf hzf ⟨r4, elf⟩
      rw [List.take_of_length_le (by rw [List.length_map]; exact Nat.le_refl _)] at elf
      subst elf
      have s4 := s2.trans r4
      have hv4 := r4 _ _ hv
      walk_at "rd"
      refine Lay.ite_d (fun c => ?_) (fun c => ?_)
      · have none_near : ns.filter (fun o => decide ((if o - sp < 0 then -(o - sp) else o - sp) < 8)) = [] := List.eq_nil_of_length_eq_zero (by rw [List.length_map] at c; omega)
        walk_at "rd"
        refine Lay.rd_bm ?_
        walk_at "rd"
        refine ⟨Lay.tyV_lst hv4, ?_⟩
        walk_at "rd"
        refine Lay.rd_app hv4 (Nat.lt_of_le_of_lt (show _ ≤ 100 by rw [List.length_map]; omega) (by decide)) ?_
        refine ⟨⟨_, rfl⟩, fun b o hb => ?_, vs ++ [sp], by rw [upd_same, List.map_append]; rfl, by rw [List.length_append]; omega, by rw [List.length_append]; exact Nat.succ_le_succ v2, fun v m => ?_⟩
        · rw [upd_ne (fun e => by subst e; rw [hf0] at hb; cases hb)]
          exact s4 _ _ hb
        · rcases List.mem_append.mp m with m | m
          · exact vok v m
          · rw [List.mem_singleton] at m
            subst m
            refine .inr ⟨by omega, by omega, fun o mo => ?_⟩
            have z := List.filter_eq_nil_iff.mp none_near o mo
            have z2 : ¬ ((if o - v < 0 then -(o - v) else o - v) < 8) := fun y => z (decide_eq_true y)
            split at z2 <;> omega
      · walk_at "it"
        exact ⟨⟨_, rfl⟩, s4, vs, hv4, v1, by omega, vok⟩
    rintro σ' H2 ⟨⟨o3, rfl⟩, s2, vs, hv, v1, v2, vok⟩
    walk_at "rd"
    refine Lay.rd_draw hp s2 (by omega) (by rw [List.length_map]; omega) (by rw [List.length_map]; omega) (fun d H4 d0 d1 p4 k4 => ?_)
    rw [List.length_map] at d1
    have f0p : f0 ≠ p := fun e => by subst e; rw [hP0] at hf0; cases hf0
    have ed : vs[d.toNat]? = some (vs[d.toNat]'(by omega)) := List.getElem?_eq_getElem (by omega)
    refine Lay.rd_ixL (SqL.of (k4 _ _ f0p hv)) (v := .int (vs[d.toNat]'(by omega))) (Lay.atI_int d0 (by rw [List.getElem?_map, ed]; rfl)) ?_
    exact q _ H4 (vok _ (List.getElem_mem _)) p4 (Lay.Same.keep s2 k4)
theorem ok_changed (T : Txt K mg A) (G_draw : FnOk P w K mg base CX0 1 A.a_draw A.d_draw ["_law_pen_here", "_law_many"] Lay.spDraw) (G_free : FnOk P w K mg base CX0 2 A.a_free A.d_free ["_law_pen_here", "_law_own"] Net7.spFree7) : FnOk P w K mg base CX0 3 A.a_changed A.d_changed ["_law_pen_here", "_law_item", "_law_others"] Net7.spChanged7 := by
  refine T.F_changed.ok sc_changed (fun vs H Q E h => ?_) (fun cdv A0 outer s H vs Q E hr h => ?_)
  · obtain ⟨p, m, c, v, o, l, js, x, n, rfl, _⟩ := h
    rfl
  · obtain ⟨p, m, c, v, o, l, js, x, n, rfl, hp, hm, ho, op, hj, j30, hnm, hxj, hx, lv, n1, q⟩ := h
    obtain ⟨xs0, hP0⟩ := hp.at_
    have lenj := hj.length
    refine ⟨_, (pss_cons (ps_set (i := 3) sc_changed.nd rfl (Or.inl rfl) (pe_call G_draw (hr.mono (by decide)) rfl T.g_draw T.F_draw.kp T.b_draw .nil pass0 (pa_cons (pv 0) (pa_cons pe_int pa_nil))))
    (pss_cons (ps_if (pt_cmpR op_eq (pv 3) pe_int (nomark _))
      (pss_cons (ps_setLc (i := 4) (own := [("_law_other", 5)]) (g := gName 5) rfl sc_changed.nd rfl rfl (sw_true rfl rfl rfl (by decide +kernel)) (pi_list (pv 2)) (blkOk_by (own := [("_law_other", 5)]) (N := ["_law_pen_here", "_law_item", "_law_others", "_law_choice", "_law_names_here", "_law_other", "_law_beyond", "_law_spot", "_law_moved_to", "_law_spots", "_law_steps_here", "_law_step"]) (sc := defScope s_changed) (by decide +kernel)) (fun _ _ _ _ _ => pg_name (i := 5) sc_changed.nd rfl (Or.inl rfl)) (fun _ _ _ _ _ => pts_one (pt_cmpR op_ne (pe_ix (show IxR _ (rIxT K) from ix_tup) (pv 5) pe_int (fun _ _ => rfl)) pe_str (nomark _))) (fun _ _ _ _ _ => by exact (pe_ix (show IxR _ (rIxT K) from ix_tup) (pv 5) pe_int (fun _ _ => rfl))))
      (pss_one (ps_ret (pe_op op_catA (pe_op op_catA (pe_slice sl_tupA (pv 1) po_none (po_some pe_int)) (pe_tup (pa_cons (pe_ix ix_list (pv 4) (pe_call G_draw (hr.mono (by decide)) rfl T.g_draw T.F_draw.kp T.b_draw .nil pass0 (pa_cons (pv 0) (pa_cons (pe_callB Lay.call_lenS (by rfl) T.n_len PySem.boot_len (pa_cons (pv 4) pa_nil)) pa_nil))) (fun _ _ => rfl)) pa_nil))) (pe_slice sl_tupA (pv 1) (po_some pe_int) po_none)))))
      pss_nil)
    (pss_cons (ps_if (pt_cmpR op_eq (pe_ix ix_tup (pv 1) pe_int (fun _ _ => rfl)) pe_str (nomark _))
      (pss_cons (ps_set (i := 6) sc_changed.nd rfl (Or.inl rfl) (pe_op op_add (pe_callB (cr_max rfl) (by rfl) T.n_max (by decide +kernel) (pa_cons (pe_lc (own := [("_law_spot", 7)]) (g := gName 7) (tt := tYes) rfl sc_changed.nd (pi_list (pe_ix ix_tup (pv 1) pe_int (fun _ _ => rfl))) (blkOk_by (own := [("_law_spot", 7)]) (N := ["_law_pen_here", "_law_item", "_law_others", "_law_choice", "_law_names_here", "_law_other", "_law_beyond", "_law_spot", "_law_moved_to", "_law_spots", "_law_steps_here", "_law_step"]) (sc := defScope s_changed) (by decide +kernel)) (fun _ _ _ _ _ => pg_name (i := 7) sc_changed.nd rfl (Or.inl rfl)) (fun _ _ _ _ _ => pts_nil) (fun _ _ _ _ _ => by exact (pe_callTy Lay.call_intI (by rfl) T.n_int (by decide +kernel) (pa_cons (pv 7) pa_nil)))) pa_nil)) pe_int))
      (pss_cons (ps_set (i := 8) sc_changed.nd rfl (Or.inl rfl) (pe_call G_free (hr.mono (by decide)) rfl T.g_free T.F_free.kp T.b_free .nil pass0 (pa_cons (pv 0) (pa_cons (pe_slice sl_list (pe_ix ix_tup (pv 1) pe_int (fun _ _ => rfl)) (po_some pe_int) po_none) pa_nil))))
      (pss_cons (ps_set (i := 9) sc_changed.nd rfl (Or.inl rfl) (pe_ix ix_list (pe_lst (pa_cons (pe_op op_cat (pe_ix ix_tup (pv 1) pe_int (fun _ _ => rfl)) (pe_lst (pa_cons (pv 6) pa_nil))) (pa_cons (pe_op op_cat (pe_slice sl_list (pe_ix ix_tup (pv 1) pe_int (fun _ _ => rfl)) (po_some pe_int) po_none) (pe_lst (pa_cons (pv 6) pa_nil))) (pa_cons (pe_op op_cat (pe_lst (pa_cons (pv 8) pa_nil)) (pe_slice sl_list (pe_ix ix_tup (pv 1) pe_int (fun _ _ => rfl)) (po_some pe_int) po_none)) pa_nil)))) (pe_op op_sub (pv 3) pe_int) (fun _ _ => rfl)))
      (pss_one (ps_ret (pe_op op_catA (pe_slice sl_tupA (pv 1) po_none (po_some pe_int)) (pe_tup (pa_cons (pe_slice sl_list (pv 9) po_none (po_some pe_int)) pa_nil))))))))
      pss_nil)
    (pss_cons (ps_if (pt_cmpR op_eq (pe_ix ix_tup (pv 1) pe_int (fun _ _ => rfl)) pe_str (nomark _))
      (pss_one (ps_ret (pe_op op_catA (pe_op op_catA (pe_slice sl_tupA (pv 1) po_none (po_some pe_int)) (pe_tup (pa_cons pe_str pa_nil))) (pe_slice sl_tupA (pv 1) (po_some pe_int) po_none))))
      pss_nil)
    (pss_cons (ps_set (i := 10) sc_changed.nd rfl (Or.inl rfl) (pe_callTy Lay.call_listS (by rfl) T.n_list (by decide +kernel) (pa_cons (pe_ix ix_tup (pv 1) pe_int (fun _ _ => rfl)) pa_nil)))
    (pss_cons (ps_set (i := 7) sc_changed.nd rfl (Or.inl rfl) (pe_call G_draw (hr.mono (by decide)) rfl T.g_draw T.F_draw.kp T.b_draw .nil pass0 (pa_cons (pv 0) (pa_cons (pe_callB Lay.call_lenS (by rfl) T.n_len PySem.boot_len (pa_cons (pv 10) pa_nil)) pa_nil))))
    (pss_cons (ps_set (i := 11) sc_changed.nd rfl (Or.inl rfl) (pe_ix ix_list (pv 10) (pv 7) (fun _ _ => rfl)))
    (pss_cons (ps_if (PW.pt (pw_and (pt_cmpR op_eq (pv 3) pe_int (nomark _)) (pw_and1 (pt_cmpR op_gt (pe_callB Lay.call_lenS (by rfl) T.n_len PySem.boot_len (pa_cons (pv 10) pa_nil)) pe_int (nomark _)))))
      (pss_one (ps_set (i := 10) sc_changed.nd rfl (Or.inl rfl) (pe_op op_cat (pe_slice sl_list (pv 10) po_none (po_some (pv 7))) (pe_slice sl_list (pv 10) (po_some (pe_op op_add (pv 7) pe_int)) po_none))))
      (pss_one (ps_if (pt_cmpR op_eq (pv 3) pe_int (nomark _))
        (pss_one (ps_expr (pe_bm PySem.F.plainAttrs_list PySem.F.slot_list_append PySem.F.type_list_append mt_append (pv 10) (pa_cons (pv 11) pa_nil))))
        (pss_one (ps_if (pt_cmpR op_eq (pe_callB Lay.call_lenS (by rfl) T.n_len PySem.boot_len (pa_cons (pv 11) pa_nil)) pe_int (nomark _))
          (pss_one (ps_asg (pe_tup (pa_cons (pe_ix ix_tup (pv 11) pe_int (fun _ _ => rfl)) (pa_cons (pe_ix ix_list (pe_lst (pa_cons pe_str (pa_cons pe_str (pa_cons pe_str pa_nil)))) (pe_call G_draw (hr.mono (by decide)) rfl T.g_draw T.F_draw.kp T.b_draw .nil pass0 (pa_cons (pv 0) (pa_cons pe_int pa_nil))) (fun _ _ => rfl)) pa_nil))) (pg_sub (pv 10) (pv 7) set_list)))
          (pss_one (ps_asg (pe_tup (pa_cons (pe_ix ix_tup (pv 11) pe_int (fun _ _ => rfl)) (pa_cons (pe_ix ix_list (pe_lst (pa_cons (pe_ix ix_tup (pv 11) pe_int (fun _ _ => rfl)) (pa_cons pe_str (pa_cons pe_str (pa_cons pe_str pa_nil))))) (pe_call G_draw (hr.mono (by decide)) rfl T.g_draw T.F_draw.kp T.b_draw .nil pass0 (pa_cons (pv 0) (pa_cons pe_int pa_nil))) (fun _ _ => rfl)) (pa_cons (pe_ix ix_tup (pv 11) pe_int (fun _ _ => rfl)) (pa_cons (pe_ix ix_tup (pv 11) pe_int (fun _ _ => rfl)) (pa_cons pe_int pa_nil)))))) (pg_sub (pv 10) (pv 7) set_list))))))))
    (pss_one (ps_ret (pe_op op_catA (pe_slice sl_tupA (pv 1) po_none (po_some pe_int)) (pe_tup (pa_cons (pv 10) pa_nil))))))))))))), ?_⟩
    walk_at "in"
    walk_at "rd"
    refine Lay.rd_draw hp (L2.Same.refl _) (by omega) (by decide) (by decide) (fun ch H1 c0 c1 p1 k1 => ?_)
    have Ls0 : NetG.Lists [p] H := fun b m => by rw [List.mem_singleton] at m; subst m; exact ⟨_, hP0⟩
    have st1 : NetG.Stay [p] H H1 := NetG.Stay.keep List.mem_cons_self k1
    have hx1 := hx.stay Ls0 st1
    have hj1 := Net7.JsAt.stay Ls0 st1 hj
    have ho1 := k1 _ _ op ho
    obtain ⟨xs1, hP1⟩ := p1.at_
    walk_at "rd"
    cases x with
    | vr z s0 ats =>
      obtain ⟨b, bl, rfl, hb, hbl, nbl⟩ := hx1
      obtain ⟨_, s1_, s8_, l1, l4, _⟩ := lv.1
      have bp : b ≠ p := fun e => by subst e; rw [hP1] at hb; cases hb
      have blp : bl ≠ p := fun e => nbl (by rw [e]; exact List.mem_cons_self)
      refine Lay.ite_d (fun z0 => ?_) (fun z0 => ?_)
      · skip
        walk_at "rd"
        refine ⟨⟨_, SqL.of ho1⟩, ?_⟩
        intro D hD
        have Dp : D ≠ p := fun e => by subst e; rw [hP1] at hD; cases hD
        refine Lay.lc_go (walk_list (xs := l)) (fun i l' H' => L2.Same H1 H' ∧ l' = (Net7.namesJ (js.take i)).map V.str) ⟨Lay.Same.upd hD, rfl⟩ (fun i l' H' _ r => SqL.of (r.1 _ _ ho1)) ?_ ?_
        · rintro i l' y J2 J3 hi hl' hz' ⟨r2, el⟩ ⟨rfl, ey⟩
          obtain ⟨j, ej, ja⟩ := Net7.pgetJ hj1 ey
          obtain ⟨b2, kk2, rest2, rfl, hb2, kv2⟩ := Net7.row_kw ja
          walk_at "rd"
          refine ⟨rfl, ?_⟩
          walk_at "rd"
          refine Lay.rd_ixT (SqT.of (r2 _ _ hb2)) (v := .str kk2) (Lay.atI_nat (i := 0) rfl) ?_
          walk_at "rd"
          rw [kv2 "thing", Net7.kwJ_th]
          cases j with
          | th u2 =>
            rw [show (Net7.Jt.th u2).isTh = true from rfl]
            walk_at "it"
            refine Lay.lc_skip hl' hz' ⟨r2, ?_⟩
            rw [Net7.namesJ_th ej]
            exact el
          | it x2 =>
            rw [show (Net7.Jt.it x2).isTh = false from rfl]
            obtain ⟨b3, rest3, eb3, hb3⟩ := Net7.item_full3 ja
            cases eb3
            walk_at "it"
            refine Lay.rd_ixT (SqT.of (r2 _ _ hb3)) (v := .str x2.nm) (Lay.atI_nat (i := 1) rfl) ?_
            refine Lay.lc_put hl' hz' (by omega) ⟨fun b o hb => ?_, ?_⟩
            · rw [upd_ne (fun e => by subst e; rw [hD] at hb; cases hb)]
              exact r2 _ _ hb
            · rw [Net7.namesJ_it ej, List.map_append, el]
              rfl
        rintro lN H2 hlN hzN ⟨s2, elN⟩
        rw [List.take_of_length_le (by omega)] at elN
        subst elN
        have nlen := Net7.namesJ_len js
        have npos := Net7.namesJ_pos hxj
        have p2 := p1.mono s2
        walk_at "rd"
        refine Lay.rd_slT (s2 _ _ hb) (ys := [V.str "var"]) (by rfl) (fun r1 H3 s3 e3 or3 => ?_)
        have hP3 := (s2.trans s3) _ _ hP1
        have r1p : r1 ≠ p := fun e => by subst e; rw [hP3] at e3; cases e3
        walk_at "rd"
        refine Lay.rd_lenL (SqL.of (s3 _ _ hlN)) ?_
        walk_at "rd"
        refine Lay.rd_draw p2 s3 (by omega) (by rw [List.length_map]; omega) (by rw [List.length_map]; omega) (fun d H4 d0 d1 p4 k4 => ?_)
        rw [List.length_map] at d1
        have ed : (Net7.namesJ js)[d.toNat]? = some ((Net7.namesJ js)[d.toNat]'(by omega)) := List.getElem?_eq_getElem (by omega)
        have okn := Net7.namesJ_ok hnm _ (List.mem_of_getElem? ed)
        generalize (Net7.namesJ js)[d.toNat]'(by omega) = zn at ed okn
        refine Lay.rd_ixL (SqL.of (k4 _ _ Dp (s3 _ _ hlN))) (v := .str zn) (Lay.atI_int d0 (by rw [List.getElem?_map, ed]; rfl)) ?_
        have e3' := k4 _ _ r1p e3
        have hb4 := k4 _ _ bp ((s2.trans s3) _ _ hb)
        walk_at "rd"
        refine ⟨by decide, fun t1 ht1 => ?_⟩
        have st1_ := Lay.Same.upd (o := .tup [V.str zn]) ht1
        refine Lay.rd_catT (st1_ _ _ e3') upd_same (Nat.le_of_ble_eq_true rfl) (fun u5 H5 s5 e5 o5 => ?_)
        have s15 := st1_.trans s5
        walk_at "rd"
        refine Lay.rd_slT (s15 _ _ hb4) (ys := [V.int s0, V.ref bl]) (by rfl) (fun r6 H6 s6 e6 o6 => ?_)
        refine Lay.rd_catT (s6 _ _ e5) e6 (Nat.le_of_ble_eq_true rfl) (fun u HF s7 eF o7 => ?_)
        have SF := (s15.trans s6).trans s7
        have KF := ((k1.trans (Lay.Keep.of (s2.trans s3))).trans k4).trans (Lay.Keep.of SF)
        have pF := p4.mono SF
        have hblF := SF _ _ (k4 _ _ blp ((s2.trans s3) _ _ hbl))
        exact q (.ref u) (Net7.rename zn (.vr z s0 ats)) HF ⟨u, bl, rfl, eF, hblF, nbl⟩ (lv.rename okn).up (pF.le (by omega)) KF
      · skip
        walk_at "rd"
        refine Lay.ite_d (fun _ => ?_) (fun c => absurd rfl c)
        walk_at "rd"
        refine ⟨⟨_, SqL.of hbl⟩, ?_⟩
        intro D hD
        refine Lay.lc_go (walk_list (xs := ats.map V.int)) (fun i l' H' => L2.Same H1 H' ∧ l' = (ats.take i).map V.int) ⟨Lay.Same.upd hD, rfl⟩ (fun i l' H' _ r => SqL.of (r.1 _ _ hbl)) ?_ ?_
        · rintro i l' y J2 J3 hi hl' hz' ⟨r2, el⟩ ⟨rfl, ey⟩
          obtain ⟨av, ea, rfl⟩ : ∃ av, ats[i]? = some av ∧ y = V.int av := by
            rw [List.getElem?_map] at ey
            cases e : ats[i]? with
            | none => rw [e] at ey; cases ey
            | some w => rw [e] at ey; cases ey; exact ⟨w, rfl, rfl⟩
          have hi' : i < ats.length := by simpa using hi
          walk_at "rd"
          refine ⟨rfl, ?_⟩
          walk_at "it"
          refine Lay.lc_put hl' hz' (by omega) ⟨fun b o hb => ?_, ?_⟩
          · rw [upd_ne (fun e => by subst e; rw [hD] at hb; cases hb)]
            exact r2 _ _ hb
          · rw [Lay.take_succ ea, List.map_append, el]
            rfl
        rintro lm H2 hlm hzm ⟨s2, elm⟩
        rw [List.take_of_length_le (by rw [List.length_map]; exact Nat.le_refl _)] at elm
        subst elm
        have p2 := p1.mono s2
        walk_at "rd"
        refine ⟨D, ats, rfl, SqL.of hlm, by omega, fun M mM hM => ?_⟩
        walk_at "rd"
        refine Lay.rd_ixT (SqT.of (s2 _ _ hb)) (v := .ref bl) (Lay.atI_nat (i := 3) rfl) ?_
        walk_at "rd"
        refine Lay.rd_slD (SqL.of (s2 _ _ hbl)) (by rw [List.length_map]; omega) (fun q1 hq1 => ?_)
        have s3 := Lay.Same.upd (o := .lst ((ats.map V.int).drop 1)) hq1
        have q1p : q1 ≠ p := fun e => by subst e; rw [s2 _ _ hP1] at hq1; cases hq1
        have eq1 : (upd H2 q1 (.lst ((ats.map V.int).drop 1))) q1 = some (.lst ((ats.drop 1).map V.int)) := by rw [upd_same, List.map_drop]
        generalize upd H2 q1 (.lst ((ats.map V.int).drop 1)) = H3 at s3 eq1 ⊢
        walk_at "rd"
        refine ⟨p, m + 1, c, q1, ats.drop 1, rfl, p2.mono s3, by omega, q1p, eq1, by rw [List.length_drop]; omega, fun fv H4 hfv p4 k4 => ?_⟩
        have S23 := s2.trans s3
        have hb4 := k4 _ _ bp (S23 _ _ hb)
        have hbl4 := k4 _ _ blp (S23 _ _ hbl)
        walk_at "rd"
        refine ⟨by decide, fun w1 hw1 => ?_⟩
        refine NetG.rd_catS (Lay.upd_old hw1 hbl4) upd_same (Nat.le_trans (show _ ≤ 100 by rw [List.length_map]; show ats.length + 1 ≤ 100; omega) (by decide)) (fun a1 H5 s5 ea1 => ?_)
        have S5 := (Lay.Same.upd (o := .lst [V.int (M + 20)]) hw1).trans s5
        walk_at "rd"
        refine Lay.rd_ixT (SqT.of (S5 _ _ hb4)) (v := .ref bl) (Lay.atI_nat (i := 3) rfl) ?_
        walk_at "rd"
        refine NetG.rd_slDS (SqL.of (S5 _ _ hbl4)) (by rw [List.length_map]; omega) (fun q2 H6 s6 eq2 => ?_)
        walk_at "rd"
        refine ⟨by decide, fun w2 hw2 => ?_⟩
        refine NetG.rd_catS (Lay.upd_old hw2 eq2) upd_same (Nat.le_trans (show _ ≤ 100 by rw [List.length_drop, List.length_map]; show ats.length - 1 + 1 ≤ 100; omega) (by decide)) (fun a2 H7 s7 ea2 => ?_)
        have t67 := s6.trans ((Lay.Same.upd (o := .lst [V.int (M + 20)]) hw2).trans s7)
        have S7 := S5.trans t67
        walk_at "rd"
        refine ⟨by decide, fun w3 hw3 => ?_⟩
        have sw3 := Lay.Same.upd (o := .lst [V.int fv]) hw3
        walk_at "rd"
        refine Lay.rd_ixT (SqT.of (sw3 _ _ (S7 _ _ hb4))) (v := .ref bl) (Lay.atI_nat (i := 3) rfl) ?_
        walk_at "rd"
        refine NetG.rd_slDS (SqL.of (sw3 _ _ (S7 _ _ hbl4))) (by rw [List.length_map]; omega) (fun q3 H8 s8 eq3 => ?_)
        refine NetG.rd_catS (s8 _ _ upd_same) eq3 (Nat.le_trans (show _ ≤ 100 by rw [List.length_drop, List.length_map]; show 1 + (ats.length - 1) ≤ 100; omega) (by decide)) (fun a3 H9 s9 ea3 => ?_)
        have t79 := sw3.trans (s8.trans s9)
        have S9 := S7.trans t79
        walk_at "rd"
        refine ⟨by decide, fun L hL => ?_⟩
        have sL := Lay.Same.upd (o := .lst [V.ref a1, V.ref a2, V.ref a3]) hL
        obtain ⟨ai, ys, eai, hai, hvc⟩ : ∃ (ai : Addr) (ys : List Int), atI [V.ref a1, V.ref a2, V.ref a3] (ch - 1) = some (.ref ai) ∧ H9 ai = some (.lst (ys.map V.int)) ∧ Net7.VarCh ats (ys.take 4) := by
          obtain rfl | rfl | rfl : ch = 1 ∨ ch = 2 ∨ ch = 3 := by omega
          · exact ⟨a1, ats ++ [M + 20], rfl, by rw [(t67.trans t79) _ _ ea1, List.map_append]; rfl, M, mM, hM, .inl rfl⟩
          · exact ⟨a2, ats.drop 1 ++ [M + 20], rfl, by rw [t79 _ _ ea2, List.map_append, List.map_drop]; rfl, M, mM, hM, .inr (.inl rfl)⟩
          · exact ⟨a3, [fv] ++ ats.drop 1, rfl, by rw [ea3, List.map_append, List.map_drop]; rfl, M, mM, hM, .inr (.inr ⟨fv, hfv, rfl⟩)⟩
        walk_at "rd"
        refine Lay.rd_ixL (SqL.of upd_same) eai ?_
        walk_at "rd"
        refine Lay.rd_slT (sL _ _ (S9 _ _ hb4)) (ys := [V.str "var", V.str z, V.int s0]) (by rfl) (fun r6 H10 s10 e10 or10 => ?_)
        walk_at "rd"
        refine Lay.rd_slL (SqL.of (s10 _ _ (sL _ _ hai))) (fun NL hNL => ?_)
        rw [Net7.cut_take4, ← List.map_take]
        have sN := Lay.Same.upd (o := .lst ((ys.take 4).map V.int)) hNL
        obtain ⟨xs4, hP4⟩ := p4.at_
        have S10 := S9.trans (sL.trans s10)
        have NLp : NL ≠ p := fun e => by subst e; rw [S10 _ _ hP4] at hNL; cases hNL
        walk_at "rd"
        refine ⟨by decide, fun t1 ht1 => ?_⟩
        refine Lay.rd_catT (Lay.upd_old ht1 (sN _ _ e10)) upd_same (Nat.le_of_ble_eq_true rfl) (fun u HF s7f eF o7 => ?_)
        have SF := S10.trans (sN.trans ((Lay.Same.upd ht1).trans s7f))
        exact q (.ref u) (.vr z s0 (ys.take 4)) HF ⟨u, NL, rfl, eF, s7f _ _ (Lay.upd_old ht1 upd_same), fun mm => NLp (List.mem_singleton.mp mm)⟩ (Net7.var_ch lv n1 hvc) ((p4.mono SF).le (by omega)) (((k1.trans (Lay.Keep.of S23)).trans k4).trans (Lay.Keep.of SF))
    | sg z t0 =>
      obtain ⟨b, rfl, hb⟩ := hx1
      have bp : b ≠ p := fun e => by subst e; rw [hP1] at hb; cases hb
      refine Lay.ite_d (fun z0 => ?_) (fun z0 => ?_)
      · skip
        walk_at "rd"
        refine ⟨⟨_, SqL.of ho1⟩, ?_⟩
        intro D hD
        have Dp : D ≠ p := fun e => by subst e; rw [hP1] at hD; cases hD
        refine Lay.lc_go (walk_list (xs := l)) (fun i l' H' => L2.Same H1 H' ∧ l' = (Net7.namesJ (js.take i)).map V.str) ⟨Lay.Same.upd hD, rfl⟩ (fun i l' H' _ r => SqL.of (r.1 _ _ ho1)) ?_ ?_
        · rintro i l' y J2 J3 hi hl' hz' ⟨r2, el⟩ ⟨rfl, ey⟩
          obtain ⟨j, ej, ja⟩ := Net7.pgetJ hj1 ey
          obtain ⟨b2, kk2, rest2, rfl, hb2, kv2⟩ := Net7.row_kw ja
          walk_at "rd"
          refine ⟨rfl, ?_⟩
          walk_at "rd"
          refine Lay.rd_ixT (SqT.of (r2 _ _ hb2)) (v := .str kk2) (Lay.atI_nat (i := 0) rfl) ?_
          walk_at "rd"
          rw [kv2 "thing", Net7.kwJ_th]
          cases j with
          | th u2 =>
            rw [show (Net7.Jt.th u2).isTh = true from rfl]
            walk_at "it"
            refine Lay.lc_skip hl' hz' ⟨r2, ?_⟩
            rw [Net7.namesJ_th ej]
            exact el
          | it x2 =>
            rw [show (Net7.Jt.it x2).isTh = false from rfl]
            obtain ⟨b3, rest3, eb3, hb3⟩ := Net7.item_full3 ja
            cases eb3
            walk_at "it"
            refine Lay.rd_ixT (SqT.of (r2 _ _ hb3)) (v := .str x2.nm) (Lay.atI_nat (i := 1) rfl) ?_
            refine Lay.lc_put hl' hz' (by omega) ⟨fun b o hb => ?_, ?_⟩
            · rw [upd_ne (fun e => by subst e; rw [hD] at hb; cases hb)]
              exact r2 _ _ hb
            · rw [Net7.namesJ_it ej, List.map_append, el]
              rfl
        rintro lN H2 hlN hzN ⟨s2, elN⟩
        rw [List.take_of_length_le (by omega)] at elN
        subst elN
        have nlen := Net7.namesJ_len js
        have npos := Net7.namesJ_pos hxj
        have p2 := p1.mono s2
        walk_at "rd"
        refine Lay.rd_slT (s2 _ _ hb) (ys := [V.str "sig"]) (by rfl) (fun r1 H3 s3 e3 or3 => ?_)
        have hP3 := (s2.trans s3) _ _ hP1
        have r1p : r1 ≠ p := fun e => by subst e; rw [hP3] at e3; cases e3
        walk_at "rd"
        refine Lay.rd_lenL (SqL.of (s3 _ _ hlN)) ?_
        walk_at "rd"
        refine Lay.rd_draw p2 s3 (by omega) (by rw [List.length_map]; omega) (by rw [List.length_map]; omega) (fun d H4 d0 d1 p4 k4 => ?_)
        rw [List.length_map] at d1
        have ed : (Net7.namesJ js)[d.toNat]? = some ((Net7.namesJ js)[d.toNat]'(by omega)) := List.getElem?_eq_getElem (by omega)
        have okn := Net7.namesJ_ok hnm _ (List.mem_of_getElem? ed)
        generalize (Net7.namesJ js)[d.toNat]'(by omega) = zn at ed okn
        refine Lay.rd_ixL (SqL.of (k4 _ _ Dp (s3 _ _ hlN))) (v := .str zn) (Lay.atI_int d0 (by rw [List.getElem?_map, ed]; rfl)) ?_
        have e3' := k4 _ _ r1p e3
        have hb4 := k4 _ _ bp ((s2.trans s3) _ _ hb)
        walk_at "rd"
        refine ⟨by decide, fun t1 ht1 => ?_⟩
        have st1_ := Lay.Same.upd (o := .tup [V.str zn]) ht1
        refine Lay.rd_catT (st1_ _ _ e3') upd_same (Nat.le_of_ble_eq_true rfl) (fun u5 H5 s5 e5 o5 => ?_)
        have s15 := st1_.trans s5
        walk_at "rd"
        refine Lay.rd_slT (s15 _ _ hb4) (ys := [V.int t0]) (by rfl) (fun r6 H6 s6 e6 o6 => ?_)
        refine Lay.rd_catT (s6 _ _ e5) e6 (Nat.le_of_ble_eq_true rfl) (fun u HF s7 eF o7 => ?_)
        have SF := (s15.trans s6).trans s7
        have KF := ((k1.trans (Lay.Keep.of (s2.trans s3))).trans k4).trans (Lay.Keep.of SF)
        have pF := p4.mono SF
        exact q (.ref u) (Net7.rename zn (.sg z t0)) HF ⟨u, rfl, eF⟩ (lv.rename okn).up (pF.le (by omega)) KF
      · skip
        walk_at "rd"
        refine Lay.ite_d (fun c => absurd c (by decide +kernel)) (fun _ => ?_)
        walk_at "it"
        refine Lay.ite_d (fun _ => ?_) (fun c => absurd rfl c)
        walk_at "rd"
        refine Lay.rd_slT hb (ys := [V.str "sig"]) (by rfl) (fun r1 H3 s3 e3 or3 => ?_)
        walk_at "rd"
        refine ⟨by decide, fun t1 ht1 => ?_⟩
        have st1_ := Lay.Same.upd (o := .tup [V.str "szz"]) ht1
        refine Lay.rd_catT (st1_ _ _ e3) upd_same (Nat.le_of_ble_eq_true rfl) (fun u5 H5 s5 e5 o5 => ?_)
        have s15 := st1_.trans s5
        walk_at "rd"
        refine Lay.rd_slT (s15 _ _ (s3 _ _ hb)) (ys := [V.int t0]) (by rfl) (fun r6 H6 s6 e6 o6 => ?_)
        refine Lay.rd_catT (s6 _ _ e5) e6 (Nat.le_of_ble_eq_true rfl) (fun u HF s7 eF o7 => ?_)
        have SF := (s15.trans s6).trans s7
        have KF := (k1.trans (Lay.Keep.of s3)).trans (Lay.Keep.of SF)
        exact q (.ref u) (.sg "szz" t0) HF ⟨u, rfl, eF⟩ (Net7.LvI.up (n := n) (x := .sg "szz" t0) ⟨by decide +kernel, lv.2⟩) (((p1.mono s3).mono SF).le (by omega)) KF
    | ag z kk ls =>
      obtain ⟨b, bl, yr, rfl, hb, hbl, nbl, hrow⟩ := hx1
      have bp : b ≠ p := fun e => by subst e; rw [hP1] at hb; cases hb
      have blp : bl ≠ p := fun e => nbl (by rw [e]; exact List.mem_cons_self)
      refine Lay.ite_d (fun z0 => ?_) (fun z0 => ?_)
      · skip
        walk_at "rd"
        refine ⟨⟨_, SqL.of ho1⟩, ?_⟩
        intro D hD
        have Dp : D ≠ p := fun e => by subst e; rw [hP1] at hD; cases hD
        refine Lay.lc_go (walk_list (xs := l)) (fun i l' H' => L2.Same H1 H' ∧ l' = (Net7.namesJ (js.take i)).map V.str) ⟨Lay.Same.upd hD, rfl⟩ (fun i l' H' _ r => SqL.of (r.1 _ _ ho1)) ?_ ?_
        · rintro i l' y J2 J3 hi hl' hz' ⟨r2, el⟩ ⟨rfl, ey⟩
          obtain ⟨j, ej, ja⟩ := Net7.pgetJ hj1 ey
          obtain ⟨b2, kk2, rest2, rfl, hb2, kv2⟩ := Net7.row_kw ja
          walk_at "rd"
          refine ⟨rfl, ?_⟩
          walk_at "rd"
          refine Lay.rd_ixT (SqT.of (r2 _ _ hb2)) (v := .str kk2) (Lay.atI_nat (i := 0) rfl) ?_
          walk_at "rd"
          rw [kv2 "thing", Net7.kwJ_th]
          cases j with
          | th u2 =>
            rw [show (Net7.Jt.th u2).isTh = true from rfl]
            walk_at "it"
            refine Lay.lc_skip hl' hz' ⟨r2, ?_⟩
            rw [Net7.namesJ_th ej]
            exact el
          | it x2 =>
            rw [show (Net7.Jt.it x2).isTh = false from rfl]
            obtain ⟨b3, rest3, eb3, hb3⟩ := Net7.item_full3 ja
            cases eb3
            walk_at "it"
            refine Lay.rd_ixT (SqT.of (r2 _ _ hb3)) (v := .str x2.nm) (Lay.atI_nat (i := 1) rfl) ?_
            refine Lay.lc_put hl' hz' (by omega) ⟨fun b o hb => ?_, ?_⟩
            · rw [upd_ne (fun e => by subst e; rw [hD] at hb; cases hb)]
              exact r2 _ _ hb
            · rw [Net7.namesJ_it ej, List.map_append, el]
              rfl
        rintro lN H2 hlN hzN ⟨s2, elN⟩
        rw [List.take_of_length_le (by omega)] at elN
        subst elN
        have nlen := Net7.namesJ_len js
        have npos := Net7.namesJ_pos hxj
        have p2 := p1.mono s2
        walk_at "rd"
        refine Lay.rd_slT (s2 _ _ hb) (ys := [V.str "agent"]) (by rfl) (fun r1 H3 s3 e3 or3 => ?_)
        have hP3 := (s2.trans s3) _ _ hP1
        have r1p : r1 ≠ p := fun e => by subst e; rw [hP3] at e3; cases e3
        walk_at "rd"
        refine Lay.rd_lenL (SqL.of (s3 _ _ hlN)) ?_
        walk_at "rd"
        refine Lay.rd_draw p2 s3 (by omega) (by rw [List.length_map]; omega) (by rw [List.length_map]; omega) (fun d H4 d0 d1 p4 k4 => ?_)
        rw [List.length_map] at d1
        have ed : (Net7.namesJ js)[d.toNat]? = some ((Net7.namesJ js)[d.toNat]'(by omega)) := List.getElem?_eq_getElem (by omega)
        have okn := Net7.namesJ_ok hnm _ (List.mem_of_getElem? ed)
        generalize (Net7.namesJ js)[d.toNat]'(by omega) = zn at ed okn
        refine Lay.rd_ixL (SqL.of (k4 _ _ Dp (s3 _ _ hlN))) (v := .str zn) (Lay.atI_int d0 (by rw [List.getElem?_map, ed]; rfl)) ?_
        have e3' := k4 _ _ r1p e3
        have hb4 := k4 _ _ bp ((s2.trans s3) _ _ hb)
        walk_at "rd"
        refine ⟨by decide, fun t1 ht1 => ?_⟩
        have st1_ := Lay.Same.upd (o := .tup [V.str zn]) ht1
        refine Lay.rd_catT (st1_ _ _ e3') upd_same (Nat.le_of_ble_eq_true rfl) (fun u5 H5 s5 e5 o5 => ?_)
        have s15 := st1_.trans s5
        walk_at "rd"
        refine Lay.rd_slT (s15 _ _ hb4) (ys := [V.int kk, V.ref bl]) (by rfl) (fun r6 H6 s6 e6 o6 => ?_)
        refine Lay.rd_catT (s6 _ _ e5) e6 (Nat.le_of_ble_eq_true rfl) (fun u HF s7 eF o7 => ?_)
        have SF := (s15.trans s6).trans s7
        have KF := ((k1.trans (Lay.Keep.of (s2.trans s3))).trans k4).trans (Lay.Keep.of SF)
        have pF := p4.mono SF
        have hblF := SF _ _ (k4 _ _ blp ((s2.trans s3) _ _ hbl))
        have rowF := ((hrow.mono (s2.trans s3)).keep hP3 k4).mono SF
        exact q (.ref u) (Net7.rename zn (.ag z kk ls)) HF ⟨u, bl, yr, rfl, eF, hblF, nbl, rowF⟩ (lv.rename okn).up (pF.le (by omega)) KF
      · skip
        walk_at "rd"
        refine Lay.ite_d (fun c => absurd c (by decide +kernel)) (fun _ => ?_)
        walk_at "it"
        refine Lay.ite_d (fun c => absurd c (by decide +kernel)) (fun _ => ?_)
        walk_at "it"
        refine Lay.rd_listL (SqL.of hbl) (fun L0 hL0 => ?_)
        have s2 := Lay.Same.upd (o := .lst yr) hL0
        obtain ⟨xc1, hC1⟩ := p1.cell
        have L0p : L0 ≠ p := Lay.ne_none hL0 hP1
        have L0c : L0 ≠ c := Lay.ne_none hL0 hC1
        have HL0 : H L0 = none := k1.none hP1 hL0
        have bL0 : b ≠ L0 := fun e => by subst e; rw [hb] at hL0; cases hL0
        have yl := hrow.len
        obtain ⟨_, _, _, l1, l24, gall⟩ := lv.1
        walk_at "rd"
        refine Lay.rd_draw p1 s2 (by omega) (by omega) (by omega) (fun sp H3 d0 d1 p3 k3 => ?_)
        obtain ⟨k, rfl⟩ : ∃ k : Nat, sp = k := ⟨sp.toNat, by omega⟩
        obtain ⟨xs3, hP3⟩ := p3.at_
        have eL3 := k3 _ _ L0p upd_same
        have row3 := (hrow.mono s2).keep (s2 _ _ hP1) k3
        have hb3 := k3 _ _ bp (s2 _ _ hb)
        have K3 := (k1.trans (Lay.Keep.of s2)).trans k3
        have kl : k < ls.length := by omega
        have el : ls[k]? = some (ls[k]'kl) := List.getElem?_eq_getElem kl
        obtain ⟨t0, et0, ht0⟩ := row3.get el
        have gstep := gall _ (List.mem_of_getElem? el)
        generalize ls[k]'kl = lr at el ht0 gstep
        have t0p : t0 ≠ p := fun e => by subst e; rw [hP3] at ht0; cases ht0
        walk_at "rd"
        refine Lay.rd_ixL (SqL.of eL3) (v := .ref t0) (Lay.atI_nat et0) ?_
        walk_at "rd"
        have gst := id gstep
        refine Lay.ite_d (fun z1 => ?_) (fun z1 => ?_)
        · walk_at "rd"
          refine Lay.ite_d (fun z2 => ?_) (fun z2 => ?_)
          · walk_at "rd"
            refine Lay.rd_slLk (SqL.of eL3) (by omega) (fun q1 hq1 => ?_)
            walk_at "rd"
            refine Lay.rd_slL (SqL.of (Lay.upd_old hq1 eL3)) (fun q2 hq2 => ?_)
            rw [show ((k : Nat) : Int) + 1 = ((k + 1 : Nat) : Int) from rfl, Lay.cut_drop (by omega)]
            have s12 := (Lay.Same.upd (o := .lst (yr.take k)) hq1).trans (Lay.Same.upd (o := .lst (yr.drop (k + 1))) hq2)
            refine Lay.rd_cat (Lay.upd_old hq2 upd_same) upd_same (Nat.le_trans (show _ ≤ 100 by rw [List.length_take, List.length_drop]; omega) (by decide)) (fun X hX => ?_)
            have sX := s12.trans (Lay.Same.upd (o := .lst (yr.take k ++ yr.drop (k + 1))) hX)
            have Xp : X ≠ p := fun e => by subst e; rw [s12 _ _ hP3] at hX; cases hX
            have eX : (upd (upd (upd H3 q1 (.lst (yr.take k))) q2 (.lst (yr.drop (k + 1)))) X (.lst (yr.take k ++ yr.drop (k + 1)))) X = some (.lst (yr.take k ++ yr.drop (k + 1))) := upd_same
            generalize upd (upd (upd H3 q1 (.lst (yr.take k))) q2 (.lst (yr.drop (k + 1)))) X (.lst (yr.take k ++ yr.drop (k + 1))) = HX at sX eX ⊢
            walk_at "rd"
            refine Lay.rd_slT (sX _ _ hb3) (ys := [V.str "agent", V.str z, V.int kk]) (by rfl) (fun r6 H10 s10 e10 o10 => ?_)
            walk_at "rd"
            refine ⟨by decide, fun t1 ht1 => ?_⟩
            refine Lay.rd_catT (Lay.upd_old ht1 e10) upd_same (Nat.le_of_ble_eq_true rfl) (fun u HF sF eF oF => ?_)
            have SF := s10.trans ((Lay.Same.upd ht1).trans sF)
            exact q (.ref u) (.ag z kk (ls.take k ++ ls.drop (k + 1))) HF ⟨u, X, _, rfl, eF, SF _ _ (eX), fun mm => Xp (List.mem_singleton.mp mm), Lay.RowsAt.mono (((row3.take k).append (row3.drop (k + 1))).mono sX) SF⟩ (Net7.ag_lv lv (by rw [List.length_append, List.length_take, List.length_drop]; omega) (by rw [List.length_append, List.length_take, List.length_drop]; omega) n1 (fun w mw => by
              rcases List.mem_append.mp mw with mw | mw
              · exact gall w (List.mem_of_mem_take mw)
              · exact gall w (List.mem_of_mem_drop mw))) ((Lay.PenAt.mono SF (p3.mono sX)).le (by omega)) (Lay.Keep.trans (K3.trans (Lay.Keep.of sX)) (Lay.Keep.of SF))
          · walk_at "it"
            refine Lay.ite_d (fun c => absurd c (by omega)) (fun _ => ?_)
            walk_at "rd"
            rcases gst with ⟨wd, nm0, rfl, hg⟩ | ⟨wd, nm0, sh, f, e, rfl, hg⟩
            · refine Lay.ite_d (fun _ => ?_) (fun c => absurd rfl c)
              walk_at "rd"
              refine ⟨by decide, fun nl hnl => ?_⟩
              have sn := Lay.Same.upd (o := .lst [V.str "va", V.str "sb", V.str "zz"]) hnl
              walk_at "rd"
              refine Lay.rd_draw p3 sn (by omega) (by decide) (by decide) (fun dn H5 e0 e1 p5 k5 => ?_)
              have nlp : nl ≠ p := fun e => by subst e; rw [hP3] at hnl; cases hnl
              obtain ⟨nn, enn, okn⟩ : ∃ nn : Str, atI [V.str "va", V.str "sb", V.str "zz"] dn = some (.str nn) ∧ Lay.nameOk nn = true := by
                obtain rfl | rfl | rfl : dn = 0 ∨ dn = 1 ∨ dn = 2 := by omega
                · exact ⟨"va", rfl, by decide +kernel⟩
                · exact ⟨"sb", rfl, by decide +kernel⟩
                · exact ⟨"zz", rfl, by decide +kernel⟩
              refine Lay.rd_ixL (SqL.of (k5 _ _ nlp upd_same)) enn ?_
              have gnew := Net7.step_name gstep okn
              generalize hrnew : [V.str wd, V.str nn] = rnew at gnew
              walk_at "rd"
              try rw [hrnew]
              refine ⟨(by first | decide | (subst hrnew; exact Nat.le_of_ble_eq_true rfl)), fun tn htn => ?_⟩
              have st := Lay.Same.upd (o := .tup rnew) htn
              have eL5 := st _ _ (k5 _ _ L0p (sn _ _ eL3))
              walk_at "rd"
              refine Lay.rd_setL eL5 (k := k) (by have z := Lay.ixN_nat (n := yr.length) (d := ((k : Nat) : Int)) (by omega) (by omega); simpa using z) ?_
              have hP5 : ∃ xs5, H5 p = some (.lst xs5) := p5.at_
              obtain ⟨xs5, hP5⟩ := hP5
              have Kx : Lay.Keep p H (upd (upd H5 tn (.tup rnew)) L0 (.lst (yr.set k (.ref tn)))) := fun b o hb e => by
                rw [upd_ne (fun z => by subst z; rw [HL0] at e; cases e)]
                exact (((K3.trans (Lay.Keep.of sn)).trans k5).trans (Lay.Keep.of st)) b o hb e
              have row5 : Lay.RowsAt (upd H5 tn (.tup rnew)) yr ls := ((row3.mono sn).keep (sn _ _ hP3) k5).mono st
              have rowX : Lay.RowsAt (upd (upd H5 tn (.tup rnew)) L0 (.lst (yr.set k (.ref tn)))) (yr.set k (.ref tn)) (ls.set k rnew) := Lay.RowsAt.keep (Net7.rows_set row5 upd_same) eL5 (Lay.Keep.upd (p := L0))
              have tnL : tn ≠ L0 := fun e => by subst e; rw [k5 _ _ L0p (sn _ _ eL3)] at htn; cases htn
              have hbX : (upd (upd H5 tn (.tup rnew)) L0 (.lst (yr.set k (.ref tn)))) b = some (.tup [.str "agent", .str z, .int kk, .ref bl]) := by
                rw [upd_ne bL0]
                exact st _ _ (k5 _ _ bp (sn _ _ hb3))
              have pX := (p5.mono st).other L0p L0c (o := .lst (yr.set k (.ref tn)))
              have eX : (upd (upd H5 tn (.tup rnew)) L0 (.lst (yr.set k (.ref tn)))) L0 = some (.lst (yr.set k (.ref tn))) := upd_same
              generalize upd (upd H5 tn (.tup rnew)) L0 (.lst (yr.set k (.ref tn))) = HX at Kx rowX hbX pX eX ⊢
              walk_at "rd"
              refine Lay.rd_slT hbX (ys := [V.str "agent", V.str z, V.int kk]) (by rfl) (fun r6 H10 s10 e10 o10 => ?_)
              walk_at "rd"
              refine ⟨by decide, fun t1 ht1 => ?_⟩
              refine Lay.rd_catT (Lay.upd_old ht1 e10) upd_same (Nat.le_of_ble_eq_true rfl) (fun u HF sF eF oF => ?_)
              have SF := s10.trans ((Lay.Same.upd ht1).trans sF)
              exact q (.ref u) (.ag z kk (ls.set k rnew)) HF ⟨u, L0, _, rfl, eF, SF _ _ (eX), fun mm => L0p (List.mem_singleton.mp mm), Lay.RowsAt.mono (rowX) SF⟩ (Net7.ag_lv lv (by rw [List.length_set]; omega) (by rw [List.length_set]; omega) n1 (fun w mw => by
                rcases List.mem_or_eq_of_mem_set mw with mw | rfl
                · exact gall w mw
                · exact gnew)) ((Lay.PenAt.mono SF (pX)).le (by omega)) (Lay.Keep.trans (Kx) (Lay.Keep.of SF))
            · refine Lay.ite_d (fun c => absurd c (by show ¬ ((5 : Nat) : Int) = 2; omega)) (fun _ => ?_)
              walk_at "rd"
              refine ⟨Nat.le_of_ble_eq_true rfl, fun nl hnl => ?_⟩
              have sn := Lay.Same.upd (o := .lst [V.str nm0, V.str "zz", V.str "sa", V.str "aa"]) hnl
              have ok0 : Lay.nameOk nm0 = true := hg.2.2.1
              walk_at "rd"
              refine Lay.rd_draw p3 sn (by omega) (by decide) (by decide) (fun dn H5 e0 e1 p5 k5 => ?_)
              have nlp : nl ≠ p := fun e => by subst e; rw [hP3] at hnl; cases hnl
              obtain ⟨nn, enn, okn⟩ : ∃ nn : Str, atI [V.str nm0, V.str "zz", V.str "sa", V.str "aa"] dn = some (.str nn) ∧ Lay.nameOk nn = true := by
                obtain rfl | rfl | rfl | rfl : dn = 0 ∨ dn = 1 ∨ dn = 2 ∨ dn = 3 := by omega
                · exact ⟨nm0, rfl, ok0⟩
                · exact ⟨"zz", rfl, by decide +kernel⟩
                · exact ⟨"sa", rfl, by decide +kernel⟩
                · exact ⟨"aa", rfl, by decide +kernel⟩
              refine Lay.rd_ixL (SqL.of (k5 _ _ nlp upd_same)) enn ?_
              walk_at "rd"
              have ht5 := k5 _ _ t0p (sn _ _ ht0)
              refine Lay.rd_ixT (SqT.of ht5) (v := .int sh) (Lay.atI_nat (i := 2) rfl) ?_
              walk_at "rd"
              have gnew := Net7.step_byte gstep okn
              generalize hrnew : [V.str wd, V.str nn, V.int sh, V.int f, V.int 7] = rnew at gnew
              walk_at "rd"
              try rw [hrnew]
              refine ⟨(by first | decide | (subst hrnew; exact Nat.le_of_ble_eq_true rfl)), fun tn htn => ?_⟩
              have st := Lay.Same.upd (o := .tup rnew) htn
              have eL5 := st _ _ (k5 _ _ L0p (sn _ _ eL3))
              walk_at "rd"
              refine Lay.rd_setL eL5 (k := k) (by have z := Lay.ixN_nat (n := yr.length) (d := ((k : Nat) : Int)) (by omega) (by omega); simpa using z) ?_
              have hP5 : ∃ xs5, H5 p = some (.lst xs5) := p5.at_
              obtain ⟨xs5, hP5⟩ := hP5
              have Kx : Lay.Keep p H (upd (upd H5 tn (.tup rnew)) L0 (.lst (yr.set k (.ref tn)))) := fun b o hb e => by
                rw [upd_ne (fun z => by subst z; rw [HL0] at e; cases e)]
                exact (((K3.trans (Lay.Keep.of sn)).trans k5).trans (Lay.Keep.of st)) b o hb e
              have row5 : Lay.RowsAt (upd H5 tn (.tup rnew)) yr ls := ((row3.mono sn).keep (sn _ _ hP3) k5).mono st
              have rowX : Lay.RowsAt (upd (upd H5 tn (.tup rnew)) L0 (.lst (yr.set k (.ref tn)))) (yr.set k (.ref tn)) (ls.set k rnew) := Lay.RowsAt.keep (Net7.rows_set row5 upd_same) eL5 (Lay.Keep.upd (p := L0))
              have tnL : tn ≠ L0 := fun e => by subst e; rw [k5 _ _ L0p (sn _ _ eL3)] at htn; cases htn
              have hbX : (upd (upd H5 tn (.tup rnew)) L0 (.lst (yr.set k (.ref tn)))) b = some (.tup [.str "agent", .str z, .int kk, .ref bl]) := by
                rw [upd_ne bL0]
                exact st _ _ (k5 _ _ bp (sn _ _ hb3))
              have pX := (p5.mono st).other L0p L0c (o := .lst (yr.set k (.ref tn)))
              have eX : (upd (upd H5 tn (.tup rnew)) L0 (.lst (yr.set k (.ref tn)))) L0 = some (.lst (yr.set k (.ref tn))) := upd_same
              generalize upd (upd H5 tn (.tup rnew)) L0 (.lst (yr.set k (.ref tn))) = HX at Kx rowX hbX pX eX ⊢
              walk_at "rd"
              refine Lay.rd_slT hbX (ys := [V.str "agent", V.str z, V.int kk]) (by rfl) (fun r6 H10 s10 e10 o10 => ?_)
              walk_at "rd"
              refine ⟨by decide, fun t1 ht1 => ?_⟩
              refine Lay.rd_catT (Lay.upd_old ht1 e10) upd_same (Nat.le_of_ble_eq_true rfl) (fun u HF sF eF oF => ?_)
              have SF := s10.trans ((Lay.Same.upd ht1).trans sF)
              exact q (.ref u) (.ag z kk (ls.set k rnew)) HF ⟨u, L0, _, rfl, eF, SF _ _ (eX), fun mm => L0p (List.mem_singleton.mp mm), Lay.RowsAt.mono (rowX) SF⟩ (Net7.ag_lv lv (by rw [List.length_set]; omega) (by rw [List.length_set]; omega) n1 (fun w mw => by
                rcases List.mem_or_eq_of_mem_set mw with mw | rfl
                · exact gall w mw
                · exact gnew)) ((Lay.PenAt.mono SF (pX)).le (by omega)) (Lay.Keep.trans (Kx) (Lay.Keep.of SF))
        · walk_at "it"
          refine Lay.ite_d (fun z2 => ?_) (fun z2 => ?_)
          · walk_at "rd"
            refine Lay.rd_bm ?_
            walk_at "rd"
            refine ⟨Lay.tyV_lst eL3, ?_⟩
            walk_at "rd"
            refine Lay.rd_app eL3 (Nat.lt_of_le_of_lt (show _ ≤ 100 by omega) (by decide)) ?_
            have Kx : Lay.Keep p H (upd H3 L0 (.lst (yr ++ [V.ref t0]))) := fun b o hb e => by
              rw [upd_ne (fun z => by subst z; rw [HL0] at e; cases e)]
              exact K3 b o hb e
            have rowX : Lay.RowsAt (upd H3 L0 (.lst (yr ++ [V.ref t0]))) (yr ++ [V.ref t0]) (ls ++ [lr]) := Lay.RowsAt.keep (row3.append (.cons ht0 .nil)) eL3 (Lay.Keep.upd (p := L0))
            have hbX : (upd H3 L0 (.lst (yr ++ [V.ref t0]))) b = some (.tup [.str "agent", .str z, .int kk, .ref bl]) := by rw [upd_ne bL0]; exact hb3
            have pX := p3.other L0p L0c (o := .lst (yr ++ [V.ref t0]))
            have eX : (upd H3 L0 (.lst (yr ++ [V.ref t0]))) L0 = some (.lst (yr ++ [V.ref t0])) := upd_same
            generalize upd H3 L0 (.lst (yr ++ [V.ref t0])) = HX at Kx rowX hbX pX eX ⊢
            walk_at "rd"
            refine Lay.rd_slT hbX (ys := [V.str "agent", V.str z, V.int kk]) (by rfl) (fun r6 H10 s10 e10 o10 => ?_)
            walk_at "rd"
            refine ⟨by decide, fun t1 ht1 => ?_⟩
            refine Lay.rd_catT (Lay.upd_old ht1 e10) upd_same (Nat.le_of_ble_eq_true rfl) (fun u HF sF eF oF => ?_)
            have SF := s10.trans ((Lay.Same.upd ht1).trans sF)
            exact q (.ref u) (.ag z kk (ls ++ [lr])) HF ⟨u, L0, _, rfl, eF, SF _ _ (eX), fun mm => L0p (List.mem_singleton.mp mm), Lay.RowsAt.mono (rowX) SF⟩ (Net7.ag_lv lv (by rw [List.length_append]; omega) (by rw [List.length_append]; exact Nat.le_refl _) n1 (fun w mw => by
              rcases List.mem_append.mp mw with mw | mw
              · exact gall w mw
              · rw [List.mem_singleton] at mw; subst mw; exact gstep)) ((Lay.PenAt.mono SF (pX)).le (by omega)) (Lay.Keep.trans (Kx) (Lay.Keep.of SF))
          · walk_at "rd"
            rcases gst with ⟨wd, nm0, rfl, hg⟩ | ⟨wd, nm0, sh, f, e, rfl, hg⟩
            · refine Lay.ite_d (fun _ => ?_) (fun c => absurd rfl c)
              walk_at "rd"
              refine ⟨by decide, fun nl hnl => ?_⟩
              have sn := Lay.Same.upd (o := .lst [V.str "va", V.str "sb", V.str "zz"]) hnl
              walk_at "rd"
              refine Lay.rd_draw p3 sn (by omega) (by decide) (by decide) (fun dn H5 e0 e1 p5 k5 => ?_)
              have nlp : nl ≠ p := fun e => by subst e; rw [hP3] at hnl; cases hnl
              obtain ⟨nn, enn, okn⟩ : ∃ nn : Str, atI [V.str "va", V.str "sb", V.str "zz"] dn = some (.str nn) ∧ Lay.nameOk nn = true := by
                obtain rfl | rfl | rfl : dn = 0 ∨ dn = 1 ∨ dn = 2 := by omega
                · exact ⟨"va", rfl, by decide +kernel⟩
                · exact ⟨"sb", rfl, by decide +kernel⟩
                · exact ⟨"zz", rfl, by decide +kernel⟩
              refine Lay.rd_ixL (SqL.of (k5 _ _ nlp upd_same)) enn ?_
              have gnew := Net7.step_name gstep okn
              generalize hrnew : [V.str wd, V.str nn] = rnew at gnew
              walk_at "rd"
              try rw [hrnew]
              refine ⟨(by first | decide | (subst hrnew; exact Nat.le_of_ble_eq_true rfl)), fun tn htn => ?_⟩
              have st := Lay.Same.upd (o := .tup rnew) htn
              have eL5 := st _ _ (k5 _ _ L0p (sn _ _ eL3))
              walk_at "rd"
              refine Lay.rd_setL eL5 (k := k) (by have z := Lay.ixN_nat (n := yr.length) (d := ((k : Nat) : Int)) (by omega) (by omega); simpa using z) ?_
              have hP5 : ∃ xs5, H5 p = some (.lst xs5) := p5.at_
              obtain ⟨xs5, hP5⟩ := hP5
              have Kx : Lay.Keep p H (upd (upd H5 tn (.tup rnew)) L0 (.lst (yr.set k (.ref tn)))) := fun b o hb e => by
                rw [upd_ne (fun z => by subst z; rw [HL0] at e; cases e)]
                exact (((K3.trans (Lay.Keep.of sn)).trans k5).trans (Lay.Keep.of st)) b o hb e
              have row5 : Lay.RowsAt (upd H5 tn (.tup rnew)) yr ls := ((row3.mono sn).keep (sn _ _ hP3) k5).mono st
              have rowX : Lay.RowsAt (upd (upd H5 tn (.tup rnew)) L0 (.lst (yr.set k (.ref tn)))) (yr.set k (.ref tn)) (ls.set k rnew) := Lay.RowsAt.keep (Net7.rows_set row5 upd_same) eL5 (Lay.Keep.upd (p := L0))
              have tnL : tn ≠ L0 := fun e => by subst e; rw [k5 _ _ L0p (sn _ _ eL3)] at htn; cases htn
              have hbX : (upd (upd H5 tn (.tup rnew)) L0 (.lst (yr.set k (.ref tn)))) b = some (.tup [.str "agent", .str z, .int kk, .ref bl]) := by
                rw [upd_ne bL0]
                exact st _ _ (k5 _ _ bp (sn _ _ hb3))
              have pX := (p5.mono st).other L0p L0c (o := .lst (yr.set k (.ref tn)))
              have eX : (upd (upd H5 tn (.tup rnew)) L0 (.lst (yr.set k (.ref tn)))) L0 = some (.lst (yr.set k (.ref tn))) := upd_same
              generalize upd (upd H5 tn (.tup rnew)) L0 (.lst (yr.set k (.ref tn))) = HX at Kx rowX hbX pX eX ⊢
              walk_at "rd"
              refine Lay.rd_slT hbX (ys := [V.str "agent", V.str z, V.int kk]) (by rfl) (fun r6 H10 s10 e10 o10 => ?_)
              walk_at "rd"
              refine ⟨by decide, fun t1 ht1 => ?_⟩
              refine Lay.rd_catT (Lay.upd_old ht1 e10) upd_same (Nat.le_of_ble_eq_true rfl) (fun u HF sF eF oF => ?_)
              have SF := s10.trans ((Lay.Same.upd ht1).trans sF)
              exact q (.ref u) (.ag z kk (ls.set k rnew)) HF ⟨u, L0, _, rfl, eF, SF _ _ (eX), fun mm => L0p (List.mem_singleton.mp mm), Lay.RowsAt.mono (rowX) SF⟩ (Net7.ag_lv lv (by rw [List.length_set]; omega) (by rw [List.length_set]; omega) n1 (fun w mw => by
                rcases List.mem_or_eq_of_mem_set mw with mw | rfl
                · exact gall w mw
                · exact gnew)) ((Lay.PenAt.mono SF (pX)).le (by omega)) (Lay.Keep.trans (Kx) (Lay.Keep.of SF))
            · refine Lay.ite_d (fun c => absurd c (by show ¬ ((5 : Nat) : Int) = 2; omega)) (fun _ => ?_)
              walk_at "rd"
              refine ⟨Nat.le_of_ble_eq_true rfl, fun nl hnl => ?_⟩
              have sn := Lay.Same.upd (o := .lst [V.str nm0, V.str "zz", V.str "sa", V.str "aa"]) hnl
              have ok0 : Lay.nameOk nm0 = true := hg.2.2.1
              walk_at "rd"
              refine Lay.rd_draw p3 sn (by omega) (by decide) (by decide) (fun dn H5 e0 e1 p5 k5 => ?_)
              have nlp : nl ≠ p := fun e => by subst e; rw [hP3] at hnl; cases hnl
              obtain ⟨nn, enn, okn⟩ : ∃ nn : Str, atI [V.str nm0, V.str "zz", V.str "sa", V.str "aa"] dn = some (.str nn) ∧ Lay.nameOk nn = true := by
                obtain rfl | rfl | rfl | rfl : dn = 0 ∨ dn = 1 ∨ dn = 2 ∨ dn = 3 := by omega
                · exact ⟨nm0, rfl, ok0⟩
                · exact ⟨"zz", rfl, by decide +kernel⟩
                · exact ⟨"sa", rfl, by decide +kernel⟩
                · exact ⟨"aa", rfl, by decide +kernel⟩
              refine Lay.rd_ixL (SqL.of (k5 _ _ nlp upd_same)) enn ?_
              walk_at "rd"
              have ht5 := k5 _ _ t0p (sn _ _ ht0)
              refine Lay.rd_ixT (SqT.of ht5) (v := .int sh) (Lay.atI_nat (i := 2) rfl) ?_
              walk_at "rd"
              have gnew := Net7.step_byte gstep okn
              generalize hrnew : [V.str wd, V.str nn, V.int sh, V.int f, V.int 7] = rnew at gnew
              walk_at "rd"
              try rw [hrnew]
              refine ⟨(by first | decide | (subst hrnew; exact Nat.le_of_ble_eq_true rfl)), fun tn htn => ?_⟩
              have st := Lay.Same.upd (o := .tup rnew) htn
              have eL5 := st _ _ (k5 _ _ L0p (sn _ _ eL3))
              walk_at "rd"
              refine Lay.rd_setL eL5 (k := k) (by have z := Lay.ixN_nat (n := yr.length) (d := ((k : Nat) : Int)) (by omega) (by omega); simpa using z) ?_
              have hP5 : ∃ xs5, H5 p = some (.lst xs5) := p5.at_
              obtain ⟨xs5, hP5⟩ := hP5
              have Kx : Lay.Keep p H (upd (upd H5 tn (.tup rnew)) L0 (.lst (yr.set k (.ref tn)))) := fun b o hb e => by
                rw [upd_ne (fun z => by subst z; rw [HL0] at e; cases e)]
                exact (((K3.trans (Lay.Keep.of sn)).trans k5).trans (Lay.Keep.of st)) b o hb e
              have row5 : Lay.RowsAt (upd H5 tn (.tup rnew)) yr ls := ((row3.mono sn).keep (sn _ _ hP3) k5).mono st
              have rowX : Lay.RowsAt (upd (upd H5 tn (.tup rnew)) L0 (.lst (yr.set k (.ref tn)))) (yr.set k (.ref tn)) (ls.set k rnew) := Lay.RowsAt.keep (Net7.rows_set row5 upd_same) eL5 (Lay.Keep.upd (p := L0))
              have tnL : tn ≠ L0 := fun e => by subst e; rw [k5 _ _ L0p (sn _ _ eL3)] at htn; cases htn
              have hbX : (upd (upd H5 tn (.tup rnew)) L0 (.lst (yr.set k (.ref tn)))) b = some (.tup [.str "agent", .str z, .int kk, .ref bl]) := by
                rw [upd_ne bL0]
                exact st _ _ (k5 _ _ bp (sn _ _ hb3))
              have pX := (p5.mono st).other L0p L0c (o := .lst (yr.set k (.ref tn)))
              have eX : (upd (upd H5 tn (.tup rnew)) L0 (.lst (yr.set k (.ref tn)))) L0 = some (.lst (yr.set k (.ref tn))) := upd_same
              generalize upd (upd H5 tn (.tup rnew)) L0 (.lst (yr.set k (.ref tn))) = HX at Kx rowX hbX pX eX ⊢
              walk_at "rd"
              refine Lay.rd_slT hbX (ys := [V.str "agent", V.str z, V.int kk]) (by rfl) (fun r6 H10 s10 e10 o10 => ?_)
              walk_at "rd"
              refine ⟨by decide, fun t1 ht1 => ?_⟩
              refine Lay.rd_catT (Lay.upd_old ht1 e10) upd_same (Nat.le_of_ble_eq_true rfl) (fun u HF sF eF oF => ?_)
              have SF := s10.trans ((Lay.Same.upd ht1).trans sF)
              exact q (.ref u) (.ag z kk (ls.set k rnew)) HF ⟨u, L0, _, rfl, eF, SF _ _ (eX), fun mm => L0p (List.mem_singleton.mp mm), Lay.RowsAt.mono (rowX) SF⟩ (Net7.ag_lv lv (by rw [List.length_set]; omega) (by rw [List.length_set]; omega) n1 (fun w mw => by
                rcases List.mem_or_eq_of_mem_set mw with mw | rfl
                · exact gall w mw
                · exact gnew)) ((Lay.PenAt.mono SF (pX)).le (by omega)) (Lay.Keep.trans (Kx) (Lay.Keep.of SF))
theorem ok_spoiled (T : Txt K mg A) (G_draw : FnOk P w K mg base CX0 1 A.a_draw A.d_draw ["_law_pen_here", "_law_many"] Lay.spDraw) (G_thing : FnOk P w K mg base CX0 2 A.a_thing A.d_thing ["_law_pen_here"] Lay.spThing) (G_changed : FnOk P w K mg base CX0 3 A.a_changed A.d_changed ["_law_pen_here", "_law_item", "_law_others"] Net7.spChanged7) : FnOk P w K mg base CX0 4 A.a_spoiled A.d_spoiled ["_law_pen_here", "_law_items_here"] Net7.spSpoiled7 := by
  refine T.F_spoiled.ok sc_spoiled (fun vs H Q E h => ?_) (fun cdv A0 outer s H vs Q E hr h => ?_)
  · obtain ⟨p, m, c, a, l, js, n, rfl, _⟩ := h
    rfl
  · obtain ⟨p, m, c, a, l, js, n, rfl, hp, hm, ha, ap, hj, lv, n1, q⟩ := h
    obtain ⟨xs0, hP0⟩ := hp.at_
    have lenj := hj.length
    have l30 := lv.len
    have lne := lv.ne
    refine ⟨_, (pss_cons (ps_set (i := 2) sc_spoiled.nd rfl (Or.inl rfl) (pe_call G_draw (hr.mono (by decide)) rfl T.g_draw T.F_draw.kp T.b_draw .nil pass0 (pa_cons (pv 0) (pa_cons pe_int pa_nil))))
    (pss_cons (ps_set (i := 3) sc_spoiled.nd rfl (Or.inl rfl) (pe_call G_draw (hr.mono (by decide)) rfl T.g_draw T.F_draw.kp T.b_draw .nil pass0 (pa_cons (pv 0) (pa_cons (pe_callB Lay.call_lenS (by rfl) T.n_len PySem.boot_len (pa_cons (pv 1) pa_nil)) pa_nil))))
    (pss_cons (ps_if (pt_cmpR op_eq (pv 2) pe_int (nomark _))
      (pss_one (ps_ret (pe_op op_cat (pe_op op_cat (pe_slice sl_list (pv 1) po_none (po_some (pv 3))) (pe_lst (pa_cons (pe_tup (pa_cons pe_str (pa_cons (pe_call G_thing (hr.mono (by decide)) rfl T.g_thing T.F_thing.kp T.b_thing .nil pass0 (pa_cons (pv 0) pa_nil)) pa_nil))) pa_nil))) (pe_slice sl_list (pv 1) (po_some (pv 3)) po_none))))
      pss_nil)
    (pss_cons (ps_if (pt_cmpR op_eq (pv 2) pe_int (nomark _))
      (pss_cons (ps_set (i := 4) sc_spoiled.nd rfl (Or.inl rfl) (pe_ix ix_list (pe_lst (pa_cons pe_str (pa_cons pe_str (pa_cons pe_str pa_nil)))) (pe_call G_draw (hr.mono (by decide)) rfl T.g_draw T.F_draw.kp T.b_draw .nil pass0 (pa_cons (pv 0) (pa_cons pe_int pa_nil))) (fun _ _ => rfl)))
      (pss_cons (ps_set (i := 5) sc_spoiled.nd rfl (Or.inl rfl) (pe_lst pa_nil))
      (pss_cons (ps_for PassesOwn.never rfl (pi_range1 rfl T.n_range (pa_cons (pe_op op_add pe_int (pe_call G_draw (hr.mono (by decide)) rfl T.g_draw T.F_draw.kp T.b_draw .nil pass0 (pa_cons (pv 0) (pa_cons pe_int pa_nil)))) pa_nil)) (pg_name (i := 6) sc_spoiled.nd rfl (Or.inl rfl))
        (pss_cons (ps_set (i := 7) sc_spoiled.nd rfl (Or.inl rfl) (pe_disp (pps_cons pe_str (pe_tup (pa_cons pe_str (pa_cons (pe_op op_add_str pe_str (pe_ix ix_str pe_str (pv 6) (fun _ _ => rfl))) (pa_cons pe_int (pa_cons (pe_lst (pa_cons (pe_op op_add pe_int (pv 6)) pa_nil)) pa_nil))))) (pps_cons pe_str (pe_tup (pa_cons pe_str (pa_cons (pe_op op_add_str pe_str (pe_ix ix_str pe_str (pv 6) (fun _ _ => rfl))) (pa_cons pe_int pa_nil)))) (pps_cons pe_str (pe_tup (pa_cons pe_str (pa_cons (pe_op op_add_str pe_str (pe_ix ix_str pe_str (pv 6) (fun _ _ => rfl))) (pa_cons pe_int (pa_cons (pe_lst (pa_cons (pe_tup (pa_cons pe_str (pa_cons pe_str (pa_cons pe_int (pa_cons pe_int (pa_cons pe_int pa_nil)))))) pa_nil)) pa_nil))))) pps_nil))) (by rfl) (by rfl) (fun z => by cases z) (by decide)))
        (pss_one (ps_expr (pe_bm PySem.F.plainAttrs_list PySem.F.slot_list_append PySem.F.type_list_append mt_append (pv 5) (pa_cons (pe_dget (Nat.lt_of_le_of_lt (Nat.add_le_add_left (show 1 ≤ 64 by decide) _) hr.units) (pv 7) (pv 4) (fun _ _ => rfl)) pa_nil))))))
      (pss_one (ps_ret (pe_op op_cat (pe_op op_cat (pe_slice sl_list (pv 1) po_none (po_some (pv 3))) (pv 5)) (pe_slice sl_list (pv 1) (po_some (pv 3)) po_none)))))))
      pss_nil)
    (pss_cons (ps_if (pt_cmpR op_eq (pe_ix ix_tup (pe_ix ix_list (pv 1) (pv 3) (fun _ _ => rfl)) pe_int (fun _ _ => rfl)) pe_str (nomark _))
      (pss_one (ps_ret (pv 1)))
      pss_nil)
    (pss_one (ps_ret (pe_op op_cat (pe_op op_cat (pe_slice sl_list (pv 1) po_none (po_some (pv 3))) (pe_lst (pa_cons (pe_call G_changed (hr.mono (by decide)) rfl T.g_changed T.F_changed.kp T.b_changed .nil pass0 (pa_cons (pv 0) (pa_cons (pe_ix ix_list (pv 1) (pv 3) (fun _ _ => rfl)) (pa_cons (pv 1) pa_nil)))) pa_nil))) (pe_slice sl_list (pv 1) (po_some (pe_op op_add (pv 3) pe_int)) po_none))))))))), ?_⟩
    walk_at "in"
    walk_at "rd"
    refine Lay.rd_draw hp (L2.Same.refl _) (by omega) (by decide) (by decide) (fun ch H1 c0 c1 p1 k1 => ?_)
    have Ls0 : NetG.Lists [p] H := fun b m => by rw [List.mem_singleton] at m; subst m; exact ⟨_, hP0⟩
    have ha1 := k1 _ _ ap ha
    walk_at "rd"
    refine Lay.rd_draw p1 (L2.Same.refl _) (by omega) (by omega) (by omega) (fun sp_ H2 d0 d1 p2 k2 => ?_)
    obtain ⟨sn, rfl⟩ : ∃ sn : Nat, sp_ = sn := ⟨sp_.toNat, by omega⟩
    have K2 := k1.trans k2
    have a2 := k2 _ _ ap ha1
    have j2 := Net7.JsAt.stay Ls0 (NetG.Stay.keep List.mem_cons_self K2) hj
    obtain ⟨xs2, hP2⟩ := p2.at_
    have Ls2 : NetG.Lists [p] H2 := fun b m => by rw [List.mem_singleton] at m; subst m; exact ⟨_, hP2⟩
    clear p1 k1 k2 ha1 hj ha
    walk_at "rd"
    refine Lay.ite_d (fun z0 => ?_) (fun z0 => ?_)
    · walk_at "rd"
      refine Lay.rd_slLk (SqL.of a2) (by omega) (fun q1 hq1 => ?_)
      have s3 := Lay.Same.upd (o := .lst (l.take sn)) hq1
      have q1p : q1 ≠ p := fun e => by subst e; rw [hP2] at hq1; cases hq1
      have eq1 : (upd H2 q1 (.lst (l.take sn))) q1 = some (.lst (l.take sn)) := upd_same
      generalize upd H2 q1 (.lst (l.take sn)) = H3 at s3 eq1 ⊢
      walk_at "rd"
      refine ⟨p, _, c, rfl, p2.mono s3, by omega, fun v H4 kp p4 k4 => ?_⟩
      have K4 := (K2.trans (Lay.Keep.of s3)).trans k4
      have k24 := (Lay.Keep.of s3).trans k4
      have a4 := k24 _ _ ap a2
      have j4 := Net7.JsAt.stay Ls2 (NetG.Stay.keep List.mem_cons_self k24) j2
      have eq4 := k4 _ _ q1p eq1
      obtain ⟨xs4, hP4⟩ := p4.at_
      walk_at "rd"
      refine ⟨by decide, fun t ht => ?_⟩
      have st := Lay.Same.upd (o := .tup [V.str "thing", v]) ht
      walk_at "rd"
      refine ⟨by decide, fun w hw => ?_⟩
      have sw := st.trans (Lay.Same.upd (o := .lst [V.ref t]) hw)
      refine NetG.rd_catS (sw _ _ eq4) upd_same (Nat.le_trans (show _ ≤ 100 by rw [List.length_take]; show min sn l.length + 1 ≤ 100; omega) (by decide)) (fun q3 H5 s5 eq3 => ?_)
      have S5 := sw.trans s5
      walk_at "rd"
      refine Lay.rd_slL (SqL.of (S5 _ _ a4)) (fun q4 hq4 => ?_)
      rw [Lay.cut_drop (by omega)]
      have s6 := Lay.Same.upd (o := .lst (l.drop sn)) hq4
      refine Lay.rd_cat (s6 _ _ eq3) upd_same (Nat.le_trans (show _ ≤ 100 by rw [List.length_append, List.length_take, List.length_drop]; show min sn l.length + 1 + (l.length - sn) ≤ 100; omega) (by decide)) (fun r hr => ?_)
      have S6 := S5.trans s6
      have S7 := S6.trans (Lay.Same.upd (o := .lst (l.take sn ++ [V.ref t] ++ l.drop sn)) hr)
      have rp : r ≠ p := fun e => by subst e; rw [S6 _ _ hP4] at hr; cases hr
      have fth := ((Lay.Same.upd (o := .lst [V.ref t]) hw).trans (s5.trans (s6.trans (Lay.Same.upd (o := .lst (l.take sn ++ [V.ref t] ++ l.drop sn)) hr)))) _ _ (upd_same (H := H4) (a := t) (o := .tup [V.str "thing", v]))
      have er := upd_same (H := upd H5 q4 (.lst (l.drop sn))) (a := r) (o := .lst (l.take sn ++ [V.ref t] ++ l.drop sn))
      generalize upd (upd H5 q4 (.lst (l.drop sn))) r (.lst (l.take sn ++ [V.ref t] ++ l.drop sn)) = HF at S7 fth er ⊢
      have kz := Lay.Kp.mono S7 kp
      have jt : Net7.JAt [p] HF (.ref t) (.th v) := ⟨t, rfl, fth, kz.1, fun b mb e => by rw [List.mem_singleton] at mb; subst mb; exact kz.2 e⟩
      exact q r _ (js.take sn ++ [.th v] ++ js.drop sn) _ er rp (Net7.jappend (Net7.jappend (Net7.jtake sn (j4.mono S7)) (.cons jt .nil)) (Net7.jdrop sn (j4.mono S7))) (Net7.lv_ins lv (fun j mj => by rw [List.mem_singleton] at mj; subst mj; trivial) (Nat.le_of_ble_eq_true rfl)) ((p4.mono S7).le (by omega)) (K4.trans (Lay.Keep.of S7))
    walk_at "it"
    refine Lay.ite_d (fun z1 => ?_) (fun z1 => ?_)
    · walk_at "rd"
      refine ⟨by decide, fun wl hwl => ?_⟩
      have s3 := Lay.Same.upd (o := .lst [V.str "var", V.str "sig", V.str "agent"]) hwl
      walk_at "rd"
      refine Lay.rd_draw p2 s3 (by omega) (by decide) (by decide) (fun dw H4 e0 e1 p4 k4 => ?_)
      have wlp : wl ≠ p := fun e => by subst e; rw [hP2] at hwl; cases hwl
      obtain ⟨wd, ewd, hwd⟩ : ∃ wd : Str, atI [V.str "var", V.str "sig", V.str "agent"] dw = some (.str wd) ∧ (wd = "var" ∨ wd = "sig" ∨ wd = "agent") := by
        obtain rfl | rfl | rfl : dw = 0 ∨ dw = 1 ∨ dw = 2 := by omega
        · exact ⟨"var", rfl, .inl rfl⟩
        · exact ⟨"sig", rfl, .inr (.inl rfl)⟩
        · exact ⟨"agent", rfl, .inr (.inr rfl)⟩
      refine Lay.rd_ixL (SqL.of (k4 _ _ wlp upd_same)) ewd ?_
      have k24 := (Lay.Keep.of s3).trans k4
      obtain ⟨xs4, hP4⟩ := p4.at_
      walk_at "rd"
      refine ⟨by decide, fun mo hmo => ?_⟩
      have sm := Lay.Same.upd (o := .lst []) hmo
      have mop : mo ≠ p := fun e => by subst e; rw [hP4] at hmo; cases hmo
      walk_at "rd"
      refine Lay.rd_for ?_
      walk_at "rd"
      refine Lay.rd_draw p4 sm (by omega) (by decide) (by decide) (fun dm H5 f0 f1 p5 k5 => ?_)
      have k45 := (Lay.Keep.of sm).trans k5
      have emo := k5 _ _ mop upd_same
      have K5 := (K2.trans k24).trans k45
      have k25 := k24.trans k45
      have a5 := k25 _ _ ap a2
      have j5 := Net7.JsAt.stay Ls2 (NetG.Stay.keep List.mem_cons_self k25) j2
      have HM : H mo = none := (K2.trans k24).none hP4 hmo
      have amo : a ≠ mo := fun e => by subst e; rw [k24 _ _ ap a2] at hmo; cases hmo
      obtain ⟨xs5, hP5⟩ := p5.at_
      obtain ⟨xc4, hC4⟩ := p4.cell
      have moc : mo ≠ c := Lay.ne_none hmo hC4
      have offm : ∀ b o, b ∉ [p] → H4 b = some o → b ∉ [mo, p] := NetG.off_new hmo
      have Ls4 : NetG.Lists [p] H4 := fun b m => by rw [List.mem_singleton] at m; subst m; exact ⟨_, hP4⟩
      have j4 := Net7.JsAt.off offm (Net7.JsAt.stay Ls2 (NetG.Stay.keep List.mem_cons_self k24) j2)
      clear j5
      walk_at "rd"
      refine ⟨_, rfl, by omega, by omega, ?_⟩
      obtain ⟨dn, edn⟩ : ∃ dn : Nat, 3 + dm = dn := ⟨(3 + dm).toNat, by omega⟩
      rw [edn, Int.toNat_natCast]
      refine Lay.for_go (walk_range (lo := 0) (n := dn)) (fun i σ' H' => (∃ o6 o7, σ' = [some (V.ref p), some (V.ref a), some (V.int ch), some (V.int (sn : Nat)), some (V.str wd), some (V.ref mo), o6, o7]) ∧ Lay.Keep mo H5 H' ∧ ∃ lm jm, H' mo = some (.lst lm) ∧ Net7.JsAt [mo, p] H' lm jm ∧ jm.length = i ∧ ∀ j ∈ jm, Net7.LvJ (n + 1) j) ⟨⟨_, _, rfl⟩, Lay.Keep.refl, [], [], emo, .nil, rfl, fun j mj => nomatch mj⟩ (fun _ _ _ _ _ => trivial) ?_ ?_
      · rintro i x σ' H6 H7 hi ⟨⟨o6, o7, rfl⟩, k6, lm, jm, em, jat, jl, jlv⟩ hy
        obtain ⟨rfl, rfl⟩ := hy
        have i6 : i < 6 := by omega
        obtain ⟨cc, ec, okw, okt, okb⟩ := Net7.sign6 i6
        have lml := jat.length
        have hP6 := k6 _ _ (fun e => mop e.symm) hP5
        walk_at "rd"
        refine Lay.rd_disp (fun dA hdA => ?_)
        have sA := Lay.Same.upd (o := .dK []) hdA
        refine Lay.rd_pcons ?_
        walk_at "rd"
        refine Lay.rd_ixStr (by decide) (by omega) (by rw [show ((0 : Int) + ((i : Nat) : Int)).toNat = i by omega]; exact ec) ?_
        refine ⟨_, _, rfl, rfl, (by show 1 + 1 ≤ sizeLine; decide), ?_⟩
        walk_at "rd"
        refine ⟨by decide, fun b1 hb1 => ?_⟩
        have sb1 := Lay.Same.upd (o := .lst [V.int (600 + (0 + ((i : Nat) : Int)))]) hb1
        walk_at "rd"
        refine ⟨by decide, fun t1 ht1 => ?_⟩
        have st1 := Lay.Same.upd (o := .tup [V.str "var", V.str (("w" : Str) ++ (⟨#[cc]⟩ : Str)), V.int 1, V.ref b1]) ht1
        refine Lay.rd_pcons ?_
        walk_at "rd"
        refine Lay.rd_ixStr (by decide) (by omega) (by rw [show ((0 : Int) + ((i : Nat) : Int)).toNat = i by omega]; exact ec) ?_
        refine ⟨_, _, rfl, rfl, (by show 1 + 1 ≤ sizeLine; decide), ?_⟩
        walk_at "rd"
        refine ⟨by decide, fun t2 ht2 => ?_⟩
        have st2 := Lay.Same.upd (o := .tup [V.str "sig", V.str (("t" : Str) ++ (⟨#[cc]⟩ : Str)), V.int 0]) ht2
        refine Lay.rd_pcons ?_
        walk_at "rd"
        refine Lay.rd_ixStr (by decide) (by omega) (by rw [show ((0 : Int) + ((i : Nat) : Int)).toNat = i by omega]; exact ec) ?_
        refine ⟨_, _, rfl, rfl, (by show 1 + 1 ≤ sizeLine; decide), ?_⟩
        walk_at "rd"
        refine ⟨by decide, fun t3 ht3 => ?_⟩
        have st3 := Lay.Same.upd (o := .tup [V.str "read", V.str "va", V.int 0, V.int 0, V.int 0]) ht3
        walk_at "rd"
        refine ⟨by decide, fun b4 hb4 => ?_⟩
        have sb4 := Lay.Same.upd (o := .lst [V.ref t3]) hb4
        walk_at "rd"
        refine ⟨by decide, fun t4 ht4 => ?_⟩
        have st4 := Lay.Same.upd (o := .tup [V.str "agent", V.str (("b" : Str) ++ (⟨#[cc]⟩ : Str)), V.int 0, V.ref b4]) ht4
        have sAll := ((((sb1.trans st1).trans st2).trans st3).trans sb4).trans st4
        refine Lay.rd_pnil ⟨sAll _ _ upd_same, [(.inr "var", .ref t1), (.inr "sig", .ref t2), (.inr "agent", .ref t4)], rfl, Nat.le_of_ble_eq_true rfl, ?_⟩
        have f1 := ((st2.trans st3).trans (sb4.trans st4)) _ _ (upd_same (H := _) (a := t1) (o := .tup [V.str "var", V.str (("w" : Str) ++ (⟨#[cc]⟩ : Str)), V.int 1, V.ref b1]))
        have f1b := ((st1.trans st2).trans ((st3.trans sb4).trans st4)) _ _ (upd_same (H := _) (a := b1) (o := .lst [V.int (600 + (0 + ((i : Nat) : Int)))]))
        have f2 := (st3.trans (sb4.trans st4)) _ _ (upd_same (H := _) (a := t2) (o := .tup [V.str "sig", V.str (("t" : Str) ++ (⟨#[cc]⟩ : Str)), V.int 0]))
        have f3 := (sb4.trans st4) _ _ (upd_same (H := _) (a := t3) (o := .tup [V.str "read", V.str "va", V.int 0, V.int 0, V.int 0]))
        have f4b := st4 _ _ (upd_same (H := _) (a := b4) (o := .lst [V.ref t3]))
        have eD0 := sAll _ _ (upd_same (H := H7) (a := dA) (o := .dK []))
        have mo7 : mo ≠ b1 := fun z => by subst z; rw [sA _ _ em] at hb1; cases hb1
        have p7 : p ≠ b1 := fun z => by subst z; rw [sA _ _ hP6] at hb1; cases hb1
        have s04 := sA.trans (((sb1.trans st1).trans st2).trans st3)
        have mo4 : mo ≠ b4 := fun z => by subst z; rw [s04 _ _ em] at hb4; cases hb4
        have p4_ : p ≠ b4 := fun z => by subst z; rw [s04 _ _ hP6] at hb4; cases hb4
        have s7A := sA.trans sAll
        have f4 := upd_same (H := upd (upd (upd (upd (upd (upd H7 dA (.dK [])) b1 (.lst [V.int (600 + (0 + ((i : Nat) : Int)))])) t1 (.tup [V.str "var", V.str (("w" : Str) ++ (⟨#[cc]⟩ : Str)), V.int 1, V.ref b1])) t2 (.tup [V.str "sig", V.str (("t" : Str) ++ (⟨#[cc]⟩ : Str)), V.int 0])) t3 (.tup [V.str "read", V.str "va", V.int 0, V.int 0, V.int 0])) b4 (.lst [V.ref t3])) (a := t4) (o := .tup [V.str "agent", V.str (("b" : Str) ++ (⟨#[cc]⟩ : Str)), V.int 0, V.ref b4])
        generalize upd (upd (upd (upd (upd (upd (upd H7 dA (.dK [])) b1 (.lst [V.int (600 + (0 + ((i : Nat) : Int)))])) t1 (.tup [V.str "var", V.str (("w" : Str) ++ (⟨#[cc]⟩ : Str)), V.int 1, V.ref b1])) t2 (.tup [V.str "sig", V.str (("t" : Str) ++ (⟨#[cc]⟩ : Str)), V.int 0])) t3 (.tup [V.str "read", V.str "va", V.int 0, V.int 0, V.int 0])) b4 (.lst [V.ref t3])) t4 (.tup [V.str "agent", V.str (("b" : Str) ++ (⟨#[cc]⟩ : Str)), V.int 0, V.ref b4]) = G at f4 f1 f1b f2 f3 f4b eD0 s7A ⊢
        obtain ⟨tw, jw, evw, ntw, jatw, lvw⟩ : ∃ (tw : Addr) (jw : Net7.Jt), valV (mergeK [] [(.inr "var", V.ref t1), (.inr "sig", V.ref t2), (.inr "agent", V.ref t4)]) (.inr wd) = some (.ref tw) ∧ jw.isTh = false ∧ Net7.JAt [mo, p] G (.ref tw) jw ∧ Net7.LvJ (n + 1) jw := by
          rcases hwd with rfl | rfl | rfl
          · refine ⟨t1, .it (.vr _ 1 [600 + (0 + ((i : Nat) : Int))]), rfl, rfl, ⟨t1, b1, rfl, f1, f1b, fun z => ?_⟩, ?_⟩
            · rcases List.mem_cons.mp z with z | z
              · exact mo7 z.symm
              · exact p7 (List.mem_singleton.mp z).symm
            · rw [Int.zero_add]
              exact Net7.lv_w okw i6
          · exact ⟨t2, .it (.sg _ 0), rfl, rfl, ⟨t2, rfl, f2⟩, Net7.lv_t (n := n) okt⟩
          · refine ⟨t4, .it (.ag _ 0 [[.str "read", .str "va", .int 0, .int 0, .int 0]]), rfl, rfl, ⟨t4, b4, [V.ref t3], rfl, f4, f4b, fun z => ?_, .cons f3 .nil⟩, Net7.lv_b (n := n) okb⟩
            rcases List.mem_cons.mp z with z | z
            · exact mo4 z.symm
            · exact p4_ (List.mem_singleton.mp z).symm
        generalize mergeK [] [((.inr "var" : Key), V.ref t1), (.inr "sig", V.ref t2), (.inr "agent", V.ref t4)] = M at evw ⊢
        have S9 : L2.Same H7 (upd G dA (.dK M)) := fun b o e => by rw [upd_ne (fun z => by subst z; rw [hdA] at e; cases e)]; exact s7A _ _ e
        have jat9 : Net7.JAt [mo, p] (upd G dA (.dK M)) (.ref tw) jw := Net7.jat_dict eD0 ntw jatw
        have eD9 : (upd G dA (.dK M)) dA = some (.dK M) := upd_same
        generalize upd G dA (.dK M) = H9 at S9 jat9 eD9 ⊢
        have em9 := S9 _ _ em
        have Lm9 : NetG.Lists [mo, p] H9 := fun b m => by
          rcases List.mem_cons.mp m with rfl | m
          · exact ⟨_, em9⟩
          · rw [List.mem_singleton] at m; subst m; exact ⟨_, S9 _ _ hP6⟩
        have Kn : Lay.Keep mo H9 (upd H9 mo (.lst (lm ++ [V.ref tw]))) := Lay.Keep.upd
        have Sn : NetG.Stay [mo, p] H9 (upd H9 mo (.lst (lm ++ [V.ref tw]))) := fun b o nb e => Kn b o (fun z => nb (by rw [z]; exact List.mem_cons_self)) e
        walk_at "rd"
        refine Lay.rd_bm ?_
        walk_at "rd"
        refine ⟨Lay.tyV_lst em9, ?_⟩
        walk_at "rd"
        refine NetL.rd_dGet ?_
        walk_at "rd"
        refine ⟨dA, .ref tw, rfl, by have z := DGet.k (k := .inr wd) eD9; rwa [evw] at z, ?_⟩
        walk_at "rd"
        refine Lay.rd_app em9 (Nat.lt_of_le_of_lt (show _ ≤ 100 by omega) (by decide)) ?_
        walk_at "rd"
        exact ⟨⟨_, _, rfl⟩, (k6.trans (Lay.Keep.of S9)).trans Kn, lm ++ [V.ref tw], jm ++ [jw], upd_same, Net7.jappend (Net7.JsAt.stay Lm9 Sn (jat.mono S9)) (.cons (Net7.JAt.stay Lm9 Sn jat9) .nil), by rw [List.length_append, jl]; rfl, fun j mj => by
          rcases List.mem_append.mp mj with mj | mj
          · exact jlv j mj
          · rw [List.mem_singleton] at mj; subst mj; exact lvw⟩
      · rintro σ' H7 ⟨⟨o6, o7, rfl⟩, k6, lm, jm, em, jat, jl, jlv⟩
        have lml := jat.length
        have a7 := k6 _ _ amo a5
        have hP7 := k6 _ _ (fun e => mop e.symm) hP5
        have p7 : Lay.PenAt c H7 p (m + 1 + 1 + 1 + 1) := by
          obtain ⟨ns, b, l, z1, z2, z3⟩ := p5
          exact ⟨ns, b, l, k6 _ _ (fun e => mop e.symm) z1, k6 _ _ (fun e => moc e.symm) z2, z3⟩
        have K7 : Lay.Keep p H H7 := fun b o nb e => k6 _ _ (fun z => by subst z; rw [HM] at e; cases e) (K5 b o nb e)
        have S47 : NetG.Stay [mo, p] (upd H4 mo (.lst [])) H7 := fun b o nb e => k6 _ _ (fun z => nb (by rw [z]; exact List.mem_cons_self)) (k5 b o (fun z => nb (by rw [z]; exact List.mem_cons_of_mem _ List.mem_cons_self)) e)
        have Lmo : NetG.Lists [mo, p] (upd H4 mo (.lst [])) := fun b mb => by
          rcases List.mem_cons.mp mb with rfl | mb
          · exact ⟨_, upd_same⟩
          · rw [List.mem_singleton] at mb; subst mb; exact ⟨_, sm _ _ hP4⟩
        have j7 := Net7.JsAt.off (NetG.off_sub (S' := [p]) (fun b mb => List.mem_cons_of_mem _ mb)) (Net7.JsAt.stay Lmo S47 (j4.mono sm))
        have jm7 := Net7.JsAt.off (NetG.off_sub (S' := [p]) (fun b mb => List.mem_cons_of_mem _ mb)) jat
        walk_at "rd"
        refine Lay.rd_slLk (SqL.of a7) (by omega) (fun q1 hq1 => ?_)
        have s8 := Lay.Same.upd (o := .lst (l.take sn)) hq1
        walk_at "rd"
        refine NetG.rd_catS upd_same (s8 _ _ em) (Nat.le_trans (show _ ≤ 100 by rw [List.length_take]; show min sn l.length + lm.length ≤ 100; omega) (by decide)) (fun q3 H9 s9 eq3 => ?_)
        have S9 := s8.trans s9
        walk_at "rd"
        refine Lay.rd_slL (SqL.of (S9 _ _ a7)) (fun q4 hq4 => ?_)
        rw [Lay.cut_drop (by omega)]
        have s10 := Lay.Same.upd (o := .lst (l.drop sn)) hq4
        refine Lay.rd_cat (s10 _ _ eq3) upd_same (Nat.le_trans (show _ ≤ 100 by rw [List.length_append, List.length_take, List.length_drop]; show min sn l.length + lm.length + (l.length - sn) ≤ 100; omega) (by decide)) (fun r hr => ?_)
        have S10 := S9.trans s10
        have SF := S10.trans (Lay.Same.upd (o := .lst (l.take sn ++ lm ++ l.drop sn)) hr)
        have rp : r ≠ p := fun e => by subst e; rw [S10 _ _ hP7] at hr; cases hr
        exact q r _ (js.take sn ++ jm ++ js.drop sn) _ upd_same rp (Net7.jappend (Net7.jappend (Net7.jtake sn (j7.mono SF)) (jm7.mono SF)) (Net7.jdrop sn (j7.mono SF))) (Net7.lv_ins lv jlv (by omega)) ((p7.mono SF).le (by omega)) (K7.trans (Lay.Keep.of SF))
    · walk_at "rd"
      obtain ⟨x0, exl⟩ : ∃ v0, l[sn]? = some v0 := ⟨_, List.getElem?_eq_getElem (by omega)⟩
      obtain ⟨j, ej, ja⟩ := Net7.pgetJ j2 exl
      obtain ⟨b2, kk2, rest2, rfl, hb2, kv2⟩ := Net7.row_kw ja
      refine Lay.rd_ixL (SqL.of a2) (Lay.atI_nat (i := sn) exl) ?_
      walk_at "rd"
      refine Lay.rd_ixT (SqT.of hb2) (v := .str kk2) (Lay.atI_nat (i := 0) rfl) ?_
      walk_at "rd"
      rw [kv2 "thing", Net7.kwJ_th]
      cases j with
      | th u2 =>
        rw [show (Net7.Jt.th u2).isTh = true from rfl]
        walk_at "it"
        exact q a l js H2 a2 ap j2 (Net7.lv_up lv) (p2.le (by omega)) K2
      | it x2 =>
        rw [show (Net7.Jt.it x2).isTh = false from rfl]
        walk_at "it"
        refine Lay.rd_slLk (SqL.of a2) (by omega) (fun q1 hq1 => ?_)
        have s3 := Lay.Same.upd (o := .lst (l.take sn)) hq1
        have q1p : q1 ≠ p := fun e => by subst e; rw [hP2] at hq1; cases hq1
        have eq1 : (upd H2 q1 (.lst (l.take sn))) q1 = some (.lst (l.take sn)) := upd_same
        generalize upd H2 q1 (.lst (l.take sn)) = H3 at s3 eq1 ⊢
        walk_at "rd"
        refine Lay.rd_ixL (SqL.of (s3 _ _ a2)) (Lay.atI_nat (i := sn) exl) ?_
        walk_at "rd"
        refine ⟨p, m + 1 + 1, c, .ref b2, a, l, js, x2, n, rfl, p2.mono s3, by omega, s3 _ _ a2, ap, j2.mono s3, by omega, fun y my => Net7.part_nm (Net7.LvI.ok (lv.ok _ my)), List.mem_of_getElem? ej, NetG.ItemAt.mono s3 ja, lv.ok _ (List.mem_of_getElem? ej), n1, fun u y H4 yat ylv p4 k4 => ?_⟩
        have k24 := (Lay.Keep.of s3).trans k4
        have a4 := k24 _ _ ap a2
        have j4 := Net7.JsAt.stay Ls2 (NetG.Stay.keep List.mem_cons_self k24) j2
        have eq4 := k4 _ _ q1p eq1
        obtain ⟨xs4, hP4⟩ := p4.at_
        walk_at "rd"
        refine ⟨by decide, fun w hw => ?_⟩
        have sw := Lay.Same.upd (o := .lst [u]) hw
        refine NetG.rd_catS (sw _ _ eq4) upd_same (Nat.le_trans (show _ ≤ 100 by rw [List.length_take]; show min sn l.length + 1 ≤ 100; omega) (by decide)) (fun q3 H5 s5 eq3 => ?_)
        have S5 := sw.trans s5
        walk_at "rd"
        refine Lay.rd_slL (SqL.of (S5 _ _ a4)) (fun q4 hq4 => ?_)
        rw [show ((sn : Nat) : Int) + 1 = ((sn + 1 : Nat) : Int) from rfl, Lay.cut_drop (by omega)]
        have s6 := Lay.Same.upd (o := .lst (l.drop (sn + 1))) hq4
        refine Lay.rd_cat (s6 _ _ eq3) upd_same (Nat.le_trans (show _ ≤ 100 by rw [List.length_append, List.length_take, List.length_drop]; show min sn l.length + 1 + (l.length - (sn + 1)) ≤ 100; omega) (by decide)) (fun r hr => ?_)
        have S6 := S5.trans s6
        have S7 := S6.trans (Lay.Same.upd (o := .lst (l.take sn ++ [u] ++ l.drop (sn + 1))) hr)
        have rp : r ≠ p := fun e => by subst e; rw [S6 _ _ hP4] at hr; cases hr
        exact q r _ (js.take sn ++ [.it y] ++ js.drop (sn + 1)) _ upd_same rp (Net7.jappend (Net7.jappend (Net7.jtake sn (j4.mono S7)) (.cons (Net7.JAt.mono (j := .it y) S7 yat) .nil)) (Net7.jdrop (sn + 1) (j4.mono S7))) (Net7.lv_rep lv (by omega) ylv) ((p4.mono S7).le (by omega)) ((K2.trans k24).trans (Lay.Keep.of S7))
theorem ok_round (T : Txt K mg A) (G_draw : FnOk P w K mg base CX0 1 A.a_draw A.d_draw ["_law_pen_here", "_law_many"] Lay.spDraw) (G_items : FnOk P w K mg base CX0 3 A.a_items A.d_items ["_law_pen_here", "_law_slots_here"] NetG.spItems) (G_shuffled : FnOk P w K mg base CX0 2 A.a_shuffled A.d_shuffled ["_law_pen_here", "_law_items_here"] NetG.spShuf) (G_thing : FnOk P w K mg base CX0 2 A.a_thing A.d_thing ["_law_pen_here"] Lay.spThing) (G_spoiled : FnOk P w K mg base CX0 4 A.a_spoiled A.d_spoiled ["_law_pen_here", "_law_items_here"] Net7.spSpoiled7) (G_part : FnOk P w K mg base CX0 9 A.a_part A.d_part ["_law_item"] (Net7.spPartJ (cs A))) (G_wanted : FnOk P w K mg base CX0 9 A.a_wanted A.d_wanted ["_law_items_here", "_law_width", "_law_slots_here"] Net7.spWanted7) (G_asked : FnOk P w K mg base CX0 12 A.a_asked A.d_asked ["_law_handed", "_law_width", "_law_slots_here", "_law_direct_here"] (Net7.spAsked7 (cs A) A.c_Net A.c_NoNet)) (G_right : FnOk P w K mg base CX0 2 A.a_right A.d_right ["_law_found", "_law_wanted_here", "_law_items_here", "_law_handed", "_law_width", "_law_slots_here"] (Net7.spRight7 (cs A) A.c_Net A.c_NoNet)) : FnOk P w K mg base CX0 13 A.a_round A.d_round ["_law_pen_here"] (Lay.spNum 1000) := by
  refine T.F_round.ok sc_round (fun vs H Q E h => ?_) (fun cdv A0 outer s H vs Q E hr h => ?_)
  · obtain ⟨p, n, c, rfl, _⟩ := h
    rfl
  · obtain ⟨p, n, c, rfl, hp, hn, q⟩ := h
    refine ⟨_, (pss_cons (ps_set (i := 1) sc_round.nd rfl (Or.inl rfl) (pe_op op_add pe_int (pe_call G_draw (hr.mono (by decide)) rfl T.g_draw T.F_draw.kp T.b_draw .nil pass0 (pa_cons (pv 0) (pa_cons pe_int pa_nil)))))
    (pss_cons (ps_set (i := 2) sc_round.nd rfl (Or.inl rfl) (pe_ix ix_list (pe_lst (pa_cons pe_int (pa_cons pe_int (pa_cons pe_int (pa_cons pe_int (pa_cons pe_int pa_nil)))))) (pe_call G_draw (hr.mono (by decide)) rfl T.g_draw T.F_draw.kp T.b_draw .nil pass0 (pa_cons (pv 0) (pa_cons pe_int pa_nil))) (fun _ _ => rfl)))
    (pss_cons (ps_set (i := 3) sc_round.nd rfl (Or.inl rfl) (pe_call G_shuffled (hr.mono (by decide)) rfl T.g_shuffled T.F_shuffled.kp T.b_shuffled .nil pass0 (pa_cons (pv 0) (pa_cons (pe_call G_items (hr.mono (by decide)) rfl T.g_items T.F_items.kp T.b_items .nil pass0 (pa_cons (pv 0) (pa_cons (pv 1) pa_nil))) pa_nil))))
    (pss_cons (ps_for PassesOwn.never rfl (pi_range1 rfl T.n_range (pa_cons (pe_call G_draw (hr.mono (by decide)) rfl T.g_draw T.F_draw.kp T.b_draw .nil pass0 (pa_cons (pv 0) (pa_cons pe_int pa_nil))) pa_nil)) (pg_name (i := 4) sc_round.nd rfl (Or.inl rfl))
      (pss_one (ps_set (i := 3) sc_round.nd rfl (Or.inl rfl) (pe_call G_spoiled (hr.mono (by decide)) rfl T.g_spoiled T.F_spoiled.kp T.b_spoiled .nil pass0 (pa_cons (pv 0) (pa_cons (pv 3) pa_nil))))))
    (pss_cons (ps_set (i := 5) sc_round.nd rfl (Or.inl rfl) (pe_call G_draw (hr.mono (by decide)) rfl T.g_draw T.F_draw.kp T.b_draw .nil pass0 (pa_cons (pv 0) (pa_cons pe_int pa_nil))))
    (Evl.pss_cut (ps_if (pt_cmpR op_in_seq (pv 5) (pe_tup (pa_cons pe_int (pa_cons pe_int pa_nil))) rfl)
      (pss_one (ps_set (i := 2) sc_round.nd rfl (Or.inl rfl) (pe_call G_thing (hr.mono (by decide)) rfl T.g_thing T.F_thing.kp T.b_thing .nil pass0 (pa_cons (pv 0) pa_nil))))
      pss_nil)
    (Evl.pss_cut (ps_if (pt_cmpR op_in_seq (pv 5) (pe_tup (pa_cons pe_int (pa_cons pe_int pa_nil))) rfl)
      (pss_one (ps_set (i := 1) sc_round.nd rfl (Or.inl rfl) (pe_call G_thing (hr.mono (by decide)) rfl T.g_thing T.F_thing.kp T.b_thing .nil pass0 (pa_cons (pv 0) pa_nil))))
      pss_nil)
    (pss_cons (ps_setLc (i := 6) (own := [("_law_item", 7)]) (g := gName 7) (tt := tYes) rfl sc_round.nd rfl rfl (sw_true rfl rfl rfl (by decide +kernel)) (pi_list (pv 3)) (blkOk_by (own := [("_law_item", 7)]) (N := ["_law_pen_here", "_law_slots_here", "_law_width", "_law_items_here", "_law_k", "_law_choice", "_law_handed", "_law_item", "_law_kept", "_law_wanted_here", "_law_direct_here", "_law_found"]) (sc := defScope s_round) (by decide +kernel)) (fun _ _ _ _ _ => pg_name (i := 7) sc_round.nd rfl (Or.inl rfl)) (fun _ _ _ _ _ => pts_nil) (fun _ _ _ _ _ => by exact (pe_call G_part (hr.mono (by decide)) rfl T.g_part T.F_part.kp T.b_part .nil pass0 (pa_cons (pv 7) pa_nil))))
    (pss_cons (ps_set (i := 8) sc_round.nd rfl (Or.inl rfl) (pe_callTy Lay.call_listS (by rfl) T.n_list (by decide +kernel) (pa_cons (pv 6) pa_nil)))
    (pss_cons (ps_set (i := 9) sc_round.nd rfl (Or.inl rfl) (pe_call G_wanted (hr.mono (by decide)) rfl T.g_wanted T.F_wanted.kp T.b_wanted .nil pass0 (pa_cons (pv 3) (pa_cons (pv 2) (pa_cons (pv 1) pa_nil)))))
    (pss_cons (ps_for PassesOwn.never rfl (pi_list (pe_lst (pa_cons pe_bl (pa_cons pe_bl pa_nil)))) (pg_name (i := 10) sc_round.nd rfl (Or.inl rfl))
      (pss_cons (ps_set (i := 11) sc_round.nd rfl (Or.inl rfl) (pe_call G_asked (hr.mono (by decide)) rfl T.g_asked T.F_asked.kp T.b_asked .nil pass0 (pa_cons (pv 6) (pa_cons (pv 2) (pa_cons (pv 1) (pa_cons (pv 10) pa_nil))))))
      (pss_one (ps_if (pt_not (pt_val (pe_call G_right (hr.mono (by decide)) rfl T.g_right T.F_right.kp T.b_right .nil pass0 (pa_cons (pv 11) (pa_cons (pv 9) (pa_cons (pv 3) (pa_cons (pv 6) (pa_cons (pv 2) (pa_cons (pv 1) pa_nil)))))))))
        (pss_one (ps_ret pe_bl))
        pss_nil))))
    (pss_cons (ps_set (i := 11) sc_round.nd rfl (Or.inl rfl) (pe_call G_asked (hr.mono (by decide)) rfl T.g_asked T.F_asked.kp T.b_asked .nil pass0 (pa_cons (pe_callTy Lay.call_tupS (by rfl) T.n_tuple (by decide +kernel) (pa_cons (pv 6) pa_nil)) (pa_cons (pv 2) (pa_cons (pv 1) (pa_cons pe_bl pa_nil))))))
    (pss_one (ps_ret (pe_and (pe_cmpR (Lay.op_eqW hr.units) (pv 6) (pv 8) (nomark _)) (pe_one (pe_call G_right (hr.mono (by decide)) rfl T.g_right T.F_right.kp T.b_right .nil pass0 (pa_cons (pv 11) (pa_cons (pv 9) (pa_cons (pv 3) (pa_cons (pv 6) (pa_cons (pv 2) (pa_cons (pv 1) pa_nil))))))))))))))))))))))), ?_⟩
    walk_at "in"
    walk_at "rd"
    refine Lay.rd_draw hp (L2.Same.refl _) (by omega) (by decide) (by decide) (fun d HA d0 d1 pA kA => ?_)
    obtain ⟨xsA, hPA⟩ := pA.at_
    walk_at "rd"
    refine ⟨by decide, fun WL hWL => ?_⟩
    have sW := Lay.Same.upd (o := .lst [V.int 1, V.int 2, V.int 4, V.int 8, V.int 16]) hWL
    walk_at "rd"
    refine Lay.rd_draw pA sW (by omega) (by decide) (by decide) (fun dw H1 dw0 dw1 p1 k1 => ?_)
    have eW := k1 WL _ (Lay.ne_none hWL hPA) upd_same
    obtain ⟨wd, ewd, wok⟩ := NetG.width_at dw0 dw1
    refine Lay.rd_ixL (SqL.of eW) ewd ?_
    clear eW ewd
    walk_at "rd"
    refine ⟨p, n + 1 + 1, c, 1 + d, rfl, p1, by omega, by omega, by omega, fun r0 l0 its0 H2 hr0 er0 it0 gok0 l2 p2 k2 => ?_⟩
    obtain ⟨xs1, hP1⟩ := p1.at_
    walk_at "rd"
    refine ⟨p, _, c, r0, l0, its0, rfl, p2, by omega, er0, (fun e => by subst e; rw [hP1] at hr0; cases hr0), it0, gok0.len, fun ri l its H3 hri eri iti pm p3 k3 => ?_⟩
    have gok := gok0.perm pm
    have K3 := ((kA.trans (Lay.Keep.of sW)).trans k1).trans (k2.trans k3)
    have rip : ri ≠ p := fun e => by subst e; obtain ⟨xs2, hP2⟩ := p2.at_; rw [hP2] at hri; cases hri
    clear it0 er0 hr0 gok0 k1 k2 k3 p1 p2 hP1 hp sW hWL pA kA hPA
    have lv0 := Net7.lv_gen gok (l2.perm pm)
    have js0 := Net7.it_js iti
    obtain ⟨xs3, hP3⟩ := p3.at_
    walk_at "rd"
    refine Lay.rd_for ?_
    walk_at "rd"
    refine Lay.rd_draw p3 (L2.Same.refl _) (by omega) (by decide) (by decide) (fun dr H4 dr0 dr1 p4 k4 => ?_)
    have Ls3 : NetG.Lists [p] H3 := fun b m => by rw [List.mem_singleton] at m; subst m; exact ⟨_, hP3⟩
    have js4 := Net7.JsAt.stay Ls3 (NetG.Stay.keep List.mem_cons_self k4) js0
    have er4 := k4 _ _ rip eri
    have K4 := K3.trans k4
    walk_at "rd"
    refine ⟨_, rfl, by omega, by omega, ?_⟩
    obtain ⟨dn, edn⟩ : ∃ dn : Nat, dr = dn := ⟨dr.toNat, by omega⟩
    subst edn
    rw [Int.toNat_natCast]
    refine Lay.for_go (walk_range (lo := 0) (n := dn)) (fun i σ' H' => ∃ (rj : Addr) (l' : List V) (js : List Net7.Jt) (o4 : Option V), σ' = [some (V.ref p), some (V.int (1 + d)), some (V.int wd), some (V.ref rj), o4, none, none, none, none, none, none, none] ∧ H' rj = some (.lst l') ∧ rj ≠ p ∧ Net7.JsAt [p] H' l' js ∧ Net7.LvJs i js ∧ Lay.PenAt c H' p (n + 500 + 20 * i) ∧ Lay.Keep p H H') ⟨ri, l, _, _, rfl, er4, rip, js4, lv0, p4.le (by omega), K4⟩ (fun _ _ _ _ _ => trivial) ?_ ?_
    · rintro i x σ' H5 H6 hi ⟨rj, l', js, o4, rfl, erj, rjp, jsj, lvj, p5, K5⟩ hy
      obtain ⟨rfl, rfl⟩ := hy
      walk_at "rd"
      refine ⟨p, _, c, rj, l', js, i, rfl, p5, by omega, erj, rjp, jsj, lvj, by omega, fun r l2 js2 H7 er rp j2 lv2 p7 k7 => ?_⟩
      walk_at "rd"
      exact ⟨r, l2, js2, _, rfl, er, rp, j2, lv2, p7.le (by omega), K5.trans k7⟩
    rintro σ' H5 ⟨rj, l', js, o4, rfl, erj, rjp, jsj, lvj, p5, K5⟩
    have dec := lvj.dec (by omega)
    have j30 := dec.len
    have lenj := jsj.length
    clear p3 p4 k4 K3 K4 er4 js4 Ls3 hP3 lv0 js0 eri iti rip
    walk_at "rd"
    refine Lay.rd_draw p5 (L2.Same.refl _) (by omega) (by decide) (by decide) (fun ch H6 c0 c1 p6 k6 => ?_)
    obtain ⟨xs5, hP5⟩ := p5.at_
    have Ls5 : NetG.Lists [p] H5 := fun b m => by rw [List.mem_singleton] at m; subst m; exact ⟨_, hP5⟩
    have js6 := Net7.JsAt.stay Ls5 (NetG.Stay.keep List.mem_cons_self k6) jsj
    have er6 := k6 _ _ rjp erj
    have K6 := K5.trans k6
    clear Ls5 jsj erj p5 K5 k6 hP5
    walk_at "rd"
    refine ⟨fun σ' H' => ∃ ln : V, σ' = [some (V.ref p), some (V.int (1 + d)), some ln, some (V.ref rj), o4, some (V.int ch), none, none, none, none, none, none] ∧ Lay.Kp p H' ln ∧ H' rj = some (.lst l') ∧ Net7.JsAt [p] H' l' js ∧ Lay.PenAt c H' p (n + 600) ∧ Lay.Keep p H H', ?_, ?_⟩
    · walk_at "rd"
      refine ⟨by decide, fun t ht => ?_⟩
      have st := Lay.Same.upd (o := .tup [V.int 0, V.int 1]) ht
      refine Lay.rd_inD (ns := [0, 1]) (SqT.of upd_same) ?_
      obtain ⟨xs6, hP6⟩ := p6.at_
      have Ls6 : NetG.Lists [p] H6 := fun b m => by rw [List.mem_singleton] at m; subst m; exact ⟨_, hP6⟩
      walk_at "rd"
      refine Lay.ite_d (fun _ => ?_) (fun _ => ?_)
      · walk_at "rd"
        refine ⟨p, _, c, rfl, p6.mono st, by omega, fun v H7 kp p7 k7 => ?_⟩
        have k67 := (Lay.Keep.of st).trans k7
        walk_at "rd"
        exact ⟨v, rfl, kp, k67 _ _ rjp er6, Net7.JsAt.stay Ls6 (NetG.Stay.keep List.mem_cons_self k67) js6, p7.le (by omega), K6.trans k67⟩
      · walk_at "rd"
        exact ⟨_, rfl, Lay.Kp.int _, st _ _ er6, js6.mono st, (p6.mono st).le (by omega), K6.trans (Lay.Keep.of st)⟩
    rintro σ' H7 ⟨ln, rfl, kln, er7, js7, p7, K7⟩
    clear p6 K6 js6 er6
    obtain ⟨xs7, hP7⟩ := p7.at_
    walk_at "rd"
    refine ⟨fun σ' H' => ∃ rg : V, σ' = [some (V.ref p), some rg, some ln, some (V.ref rj), o4, some (V.int ch), none, none, none, none, none, none] ∧ Lay.Kp p H' ln ∧ Lay.Kp p H' rg ∧ H' rj = some (.lst l') ∧ Net7.JsAt [p] H' l' js ∧ Lay.PenAt c H' p (n + 601) ∧ Lay.Keep p H H', ?_, ?_⟩
    · walk_at "rd"
      refine ⟨by decide, fun t ht => ?_⟩
      have st := Lay.Same.upd (o := .tup [V.int 1, V.int 2]) ht
      refine Lay.rd_inD (ns := [1, 2]) (SqT.of upd_same) ?_
      have Ls7 : NetG.Lists [p] H7 := fun b m => by rw [List.mem_singleton] at m; subst m; exact ⟨_, hP7⟩
      walk_at "rd"
      refine Lay.ite_d (fun _ => ?_) (fun _ => ?_)
      · walk_at "rd"
        refine ⟨p, _, c, rfl, p7.mono st, by omega, fun v H8 kp p8 k8 => ?_⟩
        have k78 := (Lay.Keep.of st).trans k8
        walk_at "rd"
        exact ⟨v, rfl, kln.keep k78, kp, k78 _ _ rjp er7, Net7.JsAt.stay Ls7 (NetG.Stay.keep List.mem_cons_self k78) js7, p8.le (by omega), K7.trans k78⟩
      · walk_at "rd"
        exact ⟨_, rfl, kln.mono st, Lay.Kp.int _, st _ _ er7, js7.mono st, (p7.mono st).le (by omega), K7.trans (Lay.Keep.of st)⟩
    rintro σ' H8 ⟨rg, rfl, kln8, krg, er8, js8, p8, K8⟩
    clear p7 K7 js7 er7 kln hP7
    obtain ⟨xs8, hP8⟩ := p8.at_
    walk_at "rd"
    refine ⟨⟨_, SqL.of er8⟩, ?_⟩
    intro D hD
    have Dp : D ≠ p := Lay.ne_none hD hP8
    have jsD := Net7.JsAt.off (NetG.off_new hD) js8
    refine Lay.lc_go (walk_list (xs := l')) (fun i w' H' => L2.Same H8 H' ∧ Paired (Net7.PJD (cs A) D H') w' (js.take i)) ⟨Lay.Same.upd hD, .nil⟩ (fun i l' H' _ r => SqL.of (r.1 _ _ er8)) ?_ ?_
    · rintro i w' x H9 H10 hi hl' hz' ⟨s4, pa⟩ ⟨rfl, ey⟩
      obtain ⟨j, ej, ja⟩ := Net7.pgetJ jsD ey
      walk_at "rd"
      refine ⟨rfl, ?_⟩
      walk_at "it"
      refine ⟨[D, p], x, j, rfl, ja.mono s4, (by cases j with | it y => exact dec.ok y (List.mem_of_getElem? ej) | th u => trivial), fun u H6 s6 pu => ?_⟩
      have hl6 := s6 _ _ hl'
      refine Lay.lc_put hl6 hz' (by omega) ⟨fun b o hb => ?_, ?_⟩
      · rw [upd_ne (fun e => by subst e; rw [hD] at hb; cases hb)]
        exact s6 _ _ (s4 b o hb)
      rw [Lay.take_succ ej]
      exact Paired.snoc (Paired.mono (fun _ _ h => Net7.PJD.upd hl6 (h.mono s6)) pa) (Net7.PJD.upd hl6 ⟨pu, Net7.pj_off hl6 List.mem_cons_self ja pu⟩)
    rintro ps H9 hl9 hz9 ⟨s9, paD⟩
    rw [List.take_of_length_le (by omega)] at paD
    have pj9 := Net7.pjs_of paD
    have er9 := s9 _ _ er8
    have js9 := js8.mono s9
    have kl9 := (kln8.mono s9).1
    have kr9 := (krg.mono s9).1
    have p9 := p8.mono s9
    have K9 := K8.trans (Lay.Keep.of s9)
    have lenp := pj9.length
    clear p8 K8 js8 er8 kln8 krg hP8 s9 paD jsD hD
    walk_at "rd"
    refine Lay.rd_listL (SqL.of hl9) (fun E hE => ?_)
    have s10 := Lay.Same.upd (o := .lst ps) hE
    have hE10 : (upd H9 E (.lst ps)) E = some (.lst ps) := upd_same
    generalize upd H9 E (.lst ps) = H10 at s10 hE10 ⊢
    walk_at "rd"
    refine ⟨[p], rj, ln, rg, l', js, rfl, s10 _ _ er9, js9.mono s10, dec, kl9.mono s10, kr9.mono s10, fun wv H11 s11 hw => ?_⟩
    have s911 := s10.trans s11
    have er11 := s911 _ _ er9
    have hl11 := s911 _ _ hl9
    have hE11 := s11 _ _ hE10
    have js11 := js9.mono s911
    have pj11 := pj9.mono s911
    have kl11 := kl9.mono s911
    have kr11 := kr9.mono s911
    have p11 := p9.mono s911
    have K11 := K9.trans (Lay.Keep.of s911)
    clear p9 K9 pj9 js9 er9 hl9 hE10 kl9 kr9 s10 s11 s911 hE
    walk_at "rd"
    refine Lay.rd_for ?_
    walk_at "rd"
    refine ⟨by decide, fun BL hBL => ?_⟩
    have sB := Lay.Same.upd (o := .lst [V.bl true, V.bl false]) hBL
    have eB : (upd H11 BL (.lst [V.bl true, V.bl false])) BL = some (.lst ([true, false].map V.bl)) := upd_same
    generalize upd H11 BL (.lst [V.bl true, V.bl false]) = H12 at sB eB ⊢
    walk_at "rd"
    refine ⟨⟨_, SqL.of eB⟩, ?_⟩
    refine Lay.for_go (walk_list (K := K) (a := BL) (xs := [true, false].map V.bl)) (fun i σ' H' => (∃ o10 o11, σ' = [some (V.ref p), some rg, some ln, some (V.ref rj), o4, some (V.int ch), some (V.ref D), none, some (V.ref E), some wv, o10, o11]) ∧ L2.Same H12 H') ⟨⟨_, _, rfl⟩, L2.Same.refl _⟩ (fun i σ' H' _ z => SqL.of (z.2 _ _ eB)) ?_ ?_
    · rintro i y σ' H13 H14 hi ⟨⟨o10, o11, rfl⟩, s13⟩ ⟨rfl, ey⟩
      obtain ⟨b, rfl⟩ : ∃ b, y = V.bl b := by
        rw [List.getElem?_map] at ey
        cases e : ([true, false] : List Bool)[i]? with
        | none => rw [e] at ey; cases ey
        | some w => rw [e] at ey; cases ey; exact ⟨w, rfl⟩
      have sC := sB.trans s13
      walk_at "rd"
      refine ⟨D, ln, rg, b, ps, js, rfl, .inl (sC _ _ hl11), kl11.mono sC, kr11.mono sC, pj11.mono sC, dec, ?_, ?_⟩
      · intro r pl hwy e HE sE ep
        have sA := sC.trans sE
        walk_at "rd"
        refine ⟨[p], .ref e, wv, ln, rg, rj, D, l', ps, rfl, sA _ _ er11, sA _ _ hl11, fun HY sY => ?_, .inl ⟨r, pl, e, rfl, (by rw [hwy] at hw; exact Net7.wvP.mono sA hw), ep, Net7.whyN_len hwy⟩⟩
        walk_at "it"
        exact ⟨⟨_, _, rfl⟩, (s13.trans sE).trans sY⟩
      · intro lw rw_ its e1 e2 e3 e4 lo r1 r4 gd x HE hN sE
        have sA := sC.trans sE
        walk_at "rd"
        refine ⟨[p], .ref x, wv, ln, rg, rj, D, l', ps, rfl, sA _ _ er11, sA _ _ hl11, fun HY sY => ?_, .inr ⟨x, lw, rw_, its, rfl, (by rw [e4] at hw; exact hw), e1, e2, hN, Net7.js_it (by rw [← e3]; exact js11.mono sA), by rw [e3, List.length_map] at j30; exact j30⟩⟩
        walk_at "it"
        exact ⟨⟨_, _, rfl⟩, (s13.trans sE).trans sY⟩
    rintro σ' H13 ⟨⟨o10, o11, rfl⟩, s13⟩
    have sC0 := sB.trans s13
    walk_at "rd"
    refine Lay.rd_tupL (SqL.of (sC0 _ _ hl11)) (fun tp htp => ?_)
    have sT := Lay.Same.upd (o := .tup ps) htp
    have eT : (upd H13 tp (.tup ps)) tp = some (.tup ps) := upd_same
    generalize upd H13 tp (.tup ps) = H14 at sT eT ⊢
    have sC := sC0.trans sT
    walk_at "rd"
    refine ⟨tp, ln, rg, false, ps, js, rfl, .inr ⟨rfl, eT⟩, kl11.mono sC, kr11.mono sC, pj11.mono sC, dec, ?_, ?_⟩
    · intro r pl hwy e HE sE ep
      have sA := sC.trans sE
      walk_at "rd"
      refine Lay.rd_eqW true (Lay.RcW.listsSame (SqL.of (sA _ _ hl11)) (SqL.of (sA _ _ hE11)) (fun x m => Net7.pjs_fl pj11 x m)) ?_
      walk_at "rd"
      rw [if_pos rfl]
      walk_at "rd"
      refine ⟨[p], .ref e, wv, ln, rg, rj, D, l', ps, rfl, sA _ _ er11, sA _ _ hl11, fun HY sY => ?_, .inl ⟨r, pl, e, rfl, (by rw [hwy] at hw; exact Net7.wvP.mono sA hw), ep, Net7.whyN_len hwy⟩⟩
      walk_at "rd"
      have sZ := sA.trans sY
      exact q HY ((p11.mono sZ).le (by omega)) (K11.trans (Lay.Keep.of sZ))
    · intro lw rw_ its e1 e2 e3 e4 lo r1 r4 gd x HE hN sE
      have sA := sC.trans sE
      walk_at "rd"
      refine Lay.rd_eqW true (Lay.RcW.listsSame (SqL.of (sA _ _ hl11)) (SqL.of (sA _ _ hE11)) (fun x m => Net7.pjs_fl pj11 x m)) ?_
      walk_at "rd"
      rw [if_pos rfl]
      walk_at "rd"
      refine ⟨[p], .ref x, wv, ln, rg, rj, D, l', ps, rfl, sA _ _ er11, sA _ _ hl11, fun HY sY => ?_, .inr ⟨x, lw, rw_, its, rfl, (by rw [e4] at hw; exact hw), e1, e2, hN, Net7.js_it (by rw [← e3]; exact js11.mono sA), by rw [e3, List.length_map] at j30; exact j30⟩⟩
      walk_at "rd"
      have sZ := sA.trans sY
      exact q HY ((p11.mono sZ).le (by omega)) (K11.trans (Lay.Keep.of sZ))
def spLaw (K : PySem.W.Frag) : Sp := fun vs H Q _ => ∃ (a : Addr) (ns : List Int), vs = [.ref a] ∧ SqL K H a (ns.map V.int) ∧ ns.length ≤ 63 ∧ ∀ H', Q (.bl true) H'
theorem ok_law (T : Txt K mg A) (G_pen : FnOk P w K mg base CX0 1 A.a_pen A.d_pen ["_law_script"] (Lay.spPen K)) (G_round : FnOk P w K mg base CX0 13 A.a_round A.d_round ["_law_pen_here"] (Lay.spNum 1000)) : FnOk P w K mg base CX0 14 A.a_law A.d_law ["_law_script"] (spLaw K) := by
  refine T.F_law.ok sc_law (fun vs H Q E h => ?_) (fun cdv A0 outer s H vs Q E hr h => ?_)
  · obtain ⟨a, ns, rfl, _⟩ := h
    rfl
  · obtain ⟨a, ns, rfl, hS, hl, q⟩ := h
    refine ⟨_, (pss_cons (ps_set (i := 1) sc_law.nd rfl (Or.inr rfl) (pe_call G_pen (hr.mono (by decide)) rfl T.g_pen T.F_pen.kp T.b_pen .nil pass0 (pa_cons (pv 0) pa_nil)))
    (pss_one (ps_ret (pe_callB (cr_all rfl) (by rfl) T.n_all (by decide +kernel) (pa_cons (pe_lc (own := [("_law_k", 2)]) (g := gName 2) (tt := tYes) rfl sc_law.nd (pi_range1 rfl T.n_range (pa_cons pe_int pa_nil)) (blkOk_by (own := [("_law_k", 2)]) (N := ["_law_script", "_law_pen_here", "_law_k"]) (sc := defScope s_law) (by decide +kernel)) (fun _ _ _ _ _ => pg_name (i := 2) sc_law.nd rfl (Or.inl rfl)) (fun _ _ _ _ _ => pts_nil) (fun _ _ _ _ _ => (pe_call G_round (hr.mono (by decide)) rfl T.g_round T.F_round.kp T.b_round .nil pass0 (pa_cons (pv 1) pa_nil)))) pa_nil))))), ?_⟩
    walk_at "in"
    walk_at "rd"
    refine ⟨a, ns, rfl, hS, hl, fun c p H1 hp pen s1 => ?_⟩
    walk_at "rd"
    refine ⟨_, rfl, by decide, by decide, ?_⟩
    intro D hD
    obtain ⟨x1, hx1⟩ := pen.at_
    obtain ⟨x2, hx2⟩ := pen.cell
    have n1 := Lay.ne_none hD hx1
    have n2 := Lay.ne_none hD hx2
    refine Lay.lc_go (walk_range (lo := 0) (n := 4)) (fun i l H' => Lay.PenAt c H' p (1000 * i) ∧ l = List.replicate i (V.bl true)) ⟨pen.mono (Lay.Same.upd hD), rfl⟩ (fun _ _ _ _ _ => trivial) ?_ ?_
    · rintro i l x H2 H3 hi hl' hz' ⟨r1, r2⟩ hy
      obtain ⟨rfl, rfl⟩ := hy
      walk_at "rd"
      refine ⟨rfl, ?_⟩
      walk_at "it"
      refine ⟨p, 1000 * i, c, rfl, r1, by omega, fun H4 p4 k4 => ?_⟩
      refine Lay.lc_put (k4 _ _ n1 hl') hz' (by omega) ⟨p4.other n1 n2, ?_⟩
      rw [r2, List.replicate_succ']
    · rintro l H4 hl' hz' ⟨r1, rfl⟩
      walk_at "rd"
      exact Lay.rd_alls (bs := [true, true, true, true]) (SqL.of hl') (q H4)
theorem ok_all (T : Txt K mg A) : FnOk P w K mg base CX0 14 A.a_law A.d_law ["_law_script"] (spLaw K) := by
  have O_pen := ok_pen (P := P) (w := w) (base := base) T 
  have O_draw := ok_draw (P := P) (w := w) (base := base) T 
  have O_steps := ok_steps (P := P) (w := w) (base := base) T O_draw
  have O_items := ok_items (P := P) (w := w) (base := base) T O_draw O_steps
  have O_shuffled := ok_shuffled (P := P) (w := w) (base := base) T O_draw
  have O_thing := ok_thing (P := P) (w := w) (base := base) T O_draw
  have O_free := ok_free (P := P) (w := w) (base := base) T O_draw
  have O_changed := ok_changed (P := P) (w := w) (base := base) T O_draw O_free
  have O_spoiled := ok_spoiled (P := P) (w := w) (base := base) T O_draw O_thing O_changed
  have O_NoPart_init := ok_NoPart_init (P := P) (w := w) (base := base) T 
  have O_is_name := ok_is_name (P := P) (w := w) (base := base) T 
  have O_is_integer := ok_is_integer (P := P) (w := w) (base := base) T 
  have O_is_within := ok_is_within (P := P) (w := w) (base := base) T O_is_integer
  have O_check_addresses := ok_check_addresses (P := P) (w := w) (base := base) T O_NoPart_init O_is_within
  have O_check_slots_apart := ok_check_slots_apart (P := P) (w := w) (base := base) T O_NoPart_init
  have O_Variable_init := ok_Variable_init (P := P) (w := w) (base := base) T O_NoPart_init O_is_name O_is_within O_check_addresses O_check_slots_apart
  have O_Variable_made := ok_Variable_made (P := P) (w := w) (base := base) T O_Variable_init
  have O_Signal_init := ok_Signal_init (P := P) (w := w) (base := base) T O_NoPart_init O_is_name O_is_within
  have O_is_memory_step := ok_is_memory_step (P := P) (w := w) (base := base) T O_is_name O_is_within
  have O_is_step := ok_is_step (P := P) (w := w) (base := base) T O_is_memory_step O_is_name
  have O_check_agent := ok_check_agent (P := P) (w := w) (base := base) T O_is_name O_is_step
  have O_Agent_init := ok_Agent_init (P := P) (w := w) (base := base) T O_check_agent
  have O_Agent_made := ok_Agent_made (P := P) (w := w) (base := base) T O_Agent_init
  have O_Through_init := ok_Through_init (P := P) (w := w) (base := base) T O_check_agent
  have O_Through_made := ok_Through_made (P := P) (w := w) (base := base) T O_Through_init
  have O_Back_init := ok_Back_init (P := P) (w := w) (base := base) T O_check_agent
  have O_Back_made := ok_Back_made (P := P) (w := w) (base := base) T O_Back_init
  have O_part := ok_part (P := P) (w := w) (base := base) T O_Variable_made O_Signal_init O_Agent_made O_Through_made O_Back_made
  have O_within := ok_within (P := P) (w := w) (base := base) T 
  have O_parts_wrong := ok_parts_wrong (P := P) (w := w) (base := base) T 
  have O_variables_wrong := ok_variables_wrong (P := P) (w := w) (base := base) T 
  have O_steps_wrong := ok_steps_wrong (P := P) (w := w) (base := base) T 
  have O_wanted := ok_wanted (P := P) (w := w) (base := base) T O_within O_parts_wrong O_variables_wrong O_steps_wrong
  have O_NoNet_init := ok_NoNet_init (P := P) (w := w) (base := base) T 
  have O_check_many := ok_check_many (P := P) (w := w) (base := base) T O_NoNet_init
  have O_check_names := ok_check_names (P := P) (w := w) (base := base) T O_NoNet_init
  have O_check_bytes := ok_check_bytes (P := P) (w := w) (base := base) T O_NoNet_init
  have O_concerns_signal := ok_concerns_signal (P := P) (w := w) (base := base) T 
  have O_check_steps := ok_check_steps (P := P) (w := w) (base := base) T O_concerns_signal O_NoNet_init
  have O_check_signals := ok_check_signals (P := P) (w := w) (base := base) T O_NoNet_init
  have O_check_parts := ok_check_parts (P := P) (w := w) (base := base) T O_check_many O_check_names O_check_bytes O_check_steps O_check_signals O_NoNet_init
  have O_Net_initK := ok_Net_initK (P := P) (w := w) (base := base) T O_is_integer O_is_within O_check_parts O_NoNet_init
  have O_Net_made := ok_Net_made (P := P) (w := w) (base := base) T O_Net_initK
  have O_Net_initR := ok_Net_initR (P := P) (w := w) (base := base) T O_is_integer O_is_within O_check_parts O_NoNet_init
  have O_direct := ok_direct (P := P) (w := w) (base := base) T O_Net_made O_Net_initK O_Net_initR
  have O_asked := ok_asked (P := P) (w := w) (base := base) T O_direct O_Net_made
  have O_right := ok_right (P := P) (w := w) (base := base) T 
  have O_round := ok_round (P := P) (w := w) (base := base) T O_draw O_items O_shuffled O_thing O_spoiled O_part O_wanted O_asked O_right
  have O_law := ok_law (P := P) (w := w) (base := base) T O_pen O_round
  exact O_law
theorem use_z {fa : Addr} (h : ∃ A : Adr, Txt K mg A) (hmg : mg "law" = some (.ref fa)) :
    ∃ fd : FuncData, (∀ (s : Shared) (u : Value), BindsTo s fd ⟨[u], []⟩ [("_law_script", u)]) ∧ ∀ base : Heap, K.In base → base.Ns mainGlobals mg → FnOk P w K mg base CX0 14 fa fd ["_law_script"] (spLaw K) := by
  obtain ⟨A, T⟩ := h
  have e := hmg.symm.trans T.g_law
  cases e
  obtain ⟨oc, od, kV, doc, pm, an, cdv, ct, osl, hfd, lk, hcd⟩ := T.F_law.ex
  refine ⟨A.d_law, fun s u => ?_, fun base _ _ => ok_all T⟩
  rw [hfd]
  exact .of_eq rfl
end
end My
section
open PySem PySem.W PySem.Calls PyProof.Rows L2
set_option maxRecDepth 100000 in
set_option maxHeartbeats 0 in
theorem PySem.Challenge.cw_unkeptlines_k07_whole_nets_refused_holds : PySem.Challenge.rw_unkeptlines_k07_whole_nets_refused.Holds := by
  w_on; o_law
  refine HandSHeadRun.head_any (r := (PySem.W.OpenLaw.row PySem.Challenge.rw_unkeptlines_k07_whole_nets_refused)) (q := PySem.W.view (PySem.W.OpenLaw.row PySem.Challenge.rw_unkeptlines_k07_whole_nets_refused).prog [76]) (H := My.zhk) (ob := My.zob) (M := 12000) (loose := My.zloose) (d := HandSHeadRun.topDef (PySem.W.OpenLaw.row PySem.Challenge.rw_unkeptlines_k07_whole_nets_refused).prog 76) (kwd := []) My.zob_eq
    (by kernel_rfl) (fun s => by kernel_rfl) My.zrun (by kernel_rfl) (by kernel_rfl) (by kernel_rfl) (by rfl) (by first | assumption | decide +kernel) (by decide +kernel) ⟨rfl, rfl, rfl, rfl, rfl, by decide +kernel⟩ ?hw ?hc
  case hw => w_witness2
  case hc =>
    refine L2.walk_ofE (l := PySem.Challenge.rw_unkeptlines_k07_whole_nets_refused) (n := 63) (k := 14) (x := "_law_script") (CX := L2.CX0) rfl (by decide) (by kernel_rfl) ⟨rfl, by decide, by decide⟩ ?F (fun _ _ _ _ z => z)
    intro w mg fa h Y G hmg0
    obtain ⟨K, KX, c⟩ := Y
    have hmg : mg ("law" : PySem.Str) = some (.ref fa) := by
      have e : (HandSHeadRun.topDef (PySem.W.OpenLaw.row PySem.Challenge.rw_unkeptlines_k07_whole_nets_refused).prog 76).name = ("law" : PySem.Str) := by kernel_rfl
      rw [← e]
      exact hmg0
    obtain ⟨fd, hb, hF⟩ := My.use_z (P := PySem.Challenge.rw_unkeptlines_k07_whole_nets_refused.prog) (w := w) (My.txt_z KX G c) hmg
    exact ⟨K, fd, My.spLaw K, KX, hb, fun H a ns hl _ hS => ⟨a, ns, rfl, hS, hl, fun _ => rfl⟩, hF⟩
end
