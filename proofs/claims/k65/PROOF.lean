import PyProof.Rows.All
import Wide.All
import OpenK.AllK
import Wide.FinOn
import HandS.ForMost
import HandS.Exc
import HandS.Walk
import HandS.IsInst
import HandS.Star
import HandS.ClsMeth
import HandS.Style
import HandS.OwnEq
import HandS.Strs
import HandS.TupAny
import HandS.Evl
import KE.GoesEnum
import HandS.SlotsOwn
import HandS.More
import HandS.ExcOwn
import HandS.ExcInit
import HandS.ExcField
import HandS.ExcIs
import HandS.ExcValue
import HandS.MakeKw
import HandS.MakeKwOnly
import KE.KExcIs
import HandS.Dict
import HandS.Ends
import PyProof.ReprRoads
import HandS.WordsExc
import PyProof.StrOps2
import HandS.Rev
import HandS.RevTup
import PyProof.ListStr
import HandS.SetFor
import KE.KEqDeep
import HandS.TryOnly
import PyProof.Rows.RegFStrParts
import PyProof.FitsInt
import HandS.DictComp
import HandS.Deep
import OpenK.KMeth
import HandS.DictEq
import KE.KDictLaw
import KE.KEqDict
import KE.DataCmp
import PyProof.P3Eq
import PyProof.ReprLen
import PySem.Challenge.RW_unkeptlines_k65_findings_as_values
set_option Elab.async false
set_option linter.all false
set_option maxRecDepth 100000
set_option maxHeartbeats 4200000
section
namespace Lay
open PySem L2
theorem upd_old {H : Hp} {p a : Addr} {o u : HO} (hp : H p = none) (ha : H a = some u) : upd H p o a = some u := by
  rw [upd_ne (ne_of_none ha hp)]; exact ha
/-- all that was tracked but p is as it was -/
def Keep (p : Addr) (H H' : Hp) : Prop := ∀ b o, b ≠ p → H b = some o → H' b = some o
theorem Keep.refl {p : Addr} {H : Hp} : Keep p H H := fun _ _ _ h => h
theorem Keep.trans {p : Addr} {H H1 H2 : Hp} (a : Keep p H H1) (b : Keep p H1 H2) : Keep p H H2 := fun c o n h => b c o n (a c o n h)
theorem Keep.of {p : Addr} {H H1 : Hp} (a : Same H H1) : Keep p H H1 := fun c o _ h => a c o h
theorem Keep.upd {p : Addr} {H : Hp} {o : HO} : Keep p H (upd H p o) := fun c u n h => by rw [upd_ne n]; exact h
theorem Same.upd {H : Hp} {p : Addr} {o : HO} (h : H p = none) : Same H (upd H p o) := fun _ _ e => upd_old h e
theorem Same.upd' {H H1 : Hp} {p : Addr} {o : HO} (s : Same H H1) (h : H1 p = none) : Same H (L2.upd H1 p o) := s.trans (Same.upd h)
/-- the pen: its cells, how many draws were begun (at most n), what is left -/
def PenAt (c : Addr) (H : Hp) (p : Addr) (n : Nat) : Prop := ∃ (ns : List Int) (b l : Int), H p = some (.lst [.ref c, .int b, .int l]) ∧ H c = some (.lst (ns.map V.int)) ∧ ns.length ≤ 63 ∧ 0 ≤ b ∧ b ≤ n ∧ 0 ≤ l
theorem PenAt.mono {c : Addr} {H H' : Hp} {p : Addr} {n : Nat} (s : Same H H') (h : PenAt c H p n) : PenAt c H' p n := by
  obtain ⟨ns, b, l, h1, h2, r⟩ := h
  exact ⟨ns, b, l, s _ _ h1, s _ _ h2, r⟩
theorem PenAt.le {c : Addr} {H : Hp} {p : Addr} {n m : Nat} (h : PenAt c H p n) (e : n ≤ m) : PenAt c H p m := by
  obtain ⟨ns, b, l, h1, h2, h3, h4, h5, h6⟩ := h
  exact ⟨ns, b, l, h1, h2, h3, h4, by omega, h6⟩
/-- a draw -/
def spDraw : Sp := fun vs H Q _ => ∃ (p : Addr) (m : Int) (n : Nat) (c : Addr), vs = [.ref p, .int m] ∧ PenAt c H p n ∧ n < 100000 ∧ 0 < m ∧ m < 1073741824 ∧
  ∀ (d : Int) (H' : Hp), 0 ≤ d → d < m → PenAt c H' p (n + 1) → Keep p H H' → Q (.int d) H'
/-- the pen is made -/
def spPen (K : PySem.W.Frag) : Sp := fun vs H Q _ => ∃ (a : Addr) (ns : List Int), vs = [.ref a] ∧ SqL K H a (ns.map V.int) ∧ ns.length ≤ 63 ∧
  ∀ (c p : Addr) (H' : Hp), H p = none → PenAt c H' p 0 → Same H H' → Q (.ref p) H'

/-! ### readings, a step a rule -/
section
variable {K : PySem.W.Frag} {σ : St} {H : Hp} {Q : VK} {ta tb tc te : TE} {t u : TT} {D : Ends} {ts us : TS} {v x y : V} {i j : Int} {n : Nat} {tA : TA} {QA : List V → Hp → Prop} {QT : Bool → Hp → Prop} {E : XK}
theorem rd_seq (h : ts { D with nx := us D } σ H) : tSeq ts us D σ H := h
theorem rd_asg {g : TG} (h : te σ H fun x H1 => g x σ H1 D.nx) : tAsg te g D σ H := h
theorem rd_ifS (h : t σ H fun b H1 => if b = true then ts D σ H1 else us D σ H1) : tIfS t ts us D σ H := h
theorem rd_ret (h : te σ H D.rt) : tRet te D σ H := h
theorem rd_retN (h : D.rt .non H) : tRetN D σ H := h
theorem rd_next (h : D.nx σ H) : tNext D σ H := h
theorem rd_drop (h : te σ H fun _ H1 => D.nx σ H1) : tDrop te D σ H := h
theorem rd_name (h : R (σ.set n (some v)) H) : gName n v σ H R := h
theorem rd_sub {g : TSet} {R : St → Hp → Prop} (h : ta σ H fun o H1 => tb σ H1 fun i H2 => g o i v H2 fun H3 => R σ H3) : gSub ta tb g v σ H R := h
theorem rd_var (h : σ[n]? = some (some v)) (q : Q v H) : tVar n σ H Q := ⟨v, h, q⟩
theorem rd_c (q : Q v H) : tC v σ H Q := q
theorem rd_op {r : R2} (h : ta σ H fun x H1 => tb σ H1 fun y H2 => r x y H2 Q) : tOp r ta tb σ H Q := h
theorem rd_un {r : V → Hp → VK → Prop} (h : ta σ H fun x H1 => r x H1 Q) : tUn r ta σ H Q := h
theorem rd_I0 {g : Int → Int → V} (q : Q (g i j) H) : rI0 g (.int i) (.int j) H Q := ⟨i, j, rfl, rfl, q⟩
theorem rd_I {C : Int → Int → Prop} {g : Int → Int → V} (hc : C i j) (q : Q (g i j) H) : rI C g (.int i) (.int j) H Q := ⟨i, j, rfl, rfl, hc, q⟩
theorem rd_U {g : Int → V} (q : Q (g i) H) : rU g (.int i) H Q := ⟨i, rfl, q⟩
theorem rd_eq (hs : scal x y = true) (q : Q (.bl (decide (x = y))) H) : rEq x y H Q := ⟨hs, q⟩
theorem rd_ne (hs : scal x y = true) (q : Q (.bl (!decide (x = y))) H) : rNe x y H Q := ⟨hs, q⟩
theorem rd_ixL {p : Addr} {xs : List V} (h : SqL K H p xs) (ha : atI xs i = some v) (q : Q v H) : rIxL K (.ref p) (.int i) H Q := ⟨p, xs, i, v, rfl, rfl, h, ha, q⟩
theorem rd_ixT {p : Addr} {xs : List V} (h : SqT K H p xs) (ha : atI xs i = some v) (q : Q v H) : rIxT K (.ref p) (.int i) H Q := ⟨p, xs, i, v, rfl, rfl, h, ha, q⟩
theorem rd_setL {p : Addr} {xs : List V} {k : Nat} {R : Hp → Prop} (h : H p = some (.lst xs)) (ha : ixN xs.length i = some k) (q : R (upd H p (.lst (xs.set k v)))) : rSetL (.ref p) (.int i) v H R := ⟨p, xs, i, k, rfl, rfl, h, ha, q⟩
theorem rd_tup (h : tA σ H fun xs H1 => xs.length ≤ sizeLine ∧ ∀ p, H1 p = none → Q (.ref p) (upd H1 p (.tup xs))) : tTup tA σ H Q := h
theorem rd_lst (h : tA σ H fun xs H1 => xs.length ≤ sizeLine ∧ ∀ p, H1 p = none → Q (.ref p) (upd H1 p (.lst xs))) : tLst tA σ H Q := h
theorem rd_cons (h : ta σ H fun x H1 => tA σ H1 fun xs H2 => QA (x :: xs) H2) : tCons ta tA σ H QA := h
theorem rd_nil (h : QA [] H) : tNil σ H QA := h
theorem rd_star (h : ta σ H fun x H1 => ∃ p xs, x = V.ref p ∧ (SqT K H1 p xs ∨ SqL K H1 p xs) ∧ tA σ H1 fun ys H2 => QA (xs ++ ys) H2) : StX.tStar K ta tA σ H QA := h
theorem rd_call {sp : Sp} {dvs : List V} (h : tA σ H fun vs H1 => sp (vs ++ dvs) H1 Q E) : tCall sp dvs E tA σ H Q := h
theorem rd_CB {r : List V → Hp → VK → Prop} (h : tA σ H fun vs H1 => r vs H1 Q) : tCB r tA σ H Q := h
theorem rd_test (h : ta σ H fun x H' => ∃ k, x = .bl k ∧ QT k H') : tTest ta σ H QT := h
theorem rd_tB (h : ta σ H fun x H' => ∃ k, x = .bl k ∧ QT k H') : tB ta σ H QT := h
theorem rd_and (h : t σ H fun c H1 => if c = true then u σ H1 QT else QT false H1) : tAnd t u σ H QT := h
theorem rd_or (h : t σ H fun c H1 => if c = true then QT true H1 else u σ H1 QT) : tOr t u σ H QT := h
theorem rd_not (h : t σ H fun c H1 => QT (!c) H1) : tNot t σ H QT := h
theorem rd_andV (h : ta σ H fun x H1 => ∃ c, x = .bl c ∧ if c = true then tb σ H1 Q else Q (.bl false) H1) : tAndV ta tb σ H Q := h
theorem rd_orV (h : ta σ H fun x H1 => ∃ c, x = .bl c ∧ if c = true then Q (.bl true) H1 else tb σ H1 Q) : tOrV ta tb σ H Q := h
theorem rd_notV (h : ta σ H fun x H1 => ∃ c, x = .bl c ∧ Q (.bl (!c)) H1) : tNotV ta σ H Q := h
theorem rd_tIf (h : t σ H fun c H1 => if c = true then ta σ H1 Q else tb σ H1 Q) : tIf t ta tb σ H Q := h
theorem rd_fld {a C dx : Addr} {fs : List (Str × V)} {f : Str} (h : ta σ H fun x H1 => ∃ a C dx fs v, x = .ref a ∧ H1 a = some (.ins C dx fs) ∧ Cls K C ∧ NoAttr K C f ∧ fs.lookup f = some v ∧ Q v H1) : tFld K ta f σ H Q := h
theorem rd_slL {p : Addr} {xs : List V} {lo hi : Option Int} (h : SqL K H p xs) (q : ∀ r, H r = none → Q (.ref r) (upd H r (.lst (cutV xs lo hi)))) : rSlL K (.ref p) lo hi H Q := ⟨p, xs, rfl, h, q⟩
theorem rd_sl {r : V → Option Int → Option Int → Hp → VK → Prop} {tl th : TO} (h : te σ H fun x H1 => tl σ H1 fun l H2 => th σ H2 fun u H3 => r x l u H3 Q) : tSl r te tl th σ H Q := h
theorem rd_noP {QO : Option Int → Hp → Prop} (q : QO none H) : tNoPart σ H QO := q
theorem rd_part {QO : Option Int → Hp → Prop} (q : te σ H fun x H1 => ∃ i, x = .int i ∧ QO (some i) H1) : tPart te σ H QO := q
theorem rd_BM {T : String} {r : V → List V → Hp → VK → Prop} (h : ta σ H fun x H1 => tyV K T x H1 ∧ tA σ H1 fun xs H2 => r x xs H2 Q) : tBM K T r ta tA σ H Q := h
theorem rd_app {p : Addr} {xs : List V} (h : H p = some (.lst xs)) (hl : xs.length < sizeLine) (q : Q .non (upd H p (.lst (xs ++ [y])))) : rAppend (.ref p) [y] H Q := ⟨p, xs, y, rfl, rfl, h, hl, q⟩
/-! ways -/
theorem ite_d {p : Prop} [Decidable p] {A B : Prop} (h1 : p → A) (h2 : ¬ p → B) : if decide p = true then A else B := by
  by_cases c : p
  · rw [if_pos (by simpa using c)]; exact h1 c
  · rw [if_neg (by simpa using c)]; exact h2 c
theorem ite_n {p : Prop} [Decidable p] {A B : Prop} (h1 : ¬ p → A) (h2 : p → B) : if (!decide p) = true then A else B := by
  by_cases c : p
  · rw [if_neg (by simp [c])]; exact h2 c
  · rw [if_pos (by simp [c])]; exact h1 c
theorem ite_b {b : Bool} {A B : Prop} (h1 : b = true → A) (h2 : b = false → B) : if b = true then A else B := by
  cases b
  · rw [if_neg Bool.false_ne_true]; exact h2 rfl
  · rw [if_pos rfl]; exact h1 rfl
end
/-! ### built-ins by name -/
def rLenS (K : PySem.W.Frag) : List V → Hp → VK → Prop := fun xs H Q => ∃ p ys, xs = [.ref p] ∧ (SqL K H p ys ∨ SqT K H p ys) ∧ Q (.int ys.length) H
theorem call_lenS {X : Cx} : CallR X (.builtin "len") (rLenS X.K) := call_len_seq
theorem rd_lenL {K : PySem.W.Frag} {H : Hp} {Q : VK} {p : Addr} {xs : List V} (h : SqL K H p xs) (q : Q (.int xs.length) H) : rLenS K [.ref p] H Q := ⟨p, xs, rfl, .inl h, q⟩
theorem rd_lenT {K : PySem.W.Frag} {H : Hp} {Q : VK} {p : Addr} {xs : List V} (h : SqT K H p xs) (q : Q (.int xs.length) H) : rLenS K [.ref p] H Q := ⟨p, xs, rfl, .inr h, q⟩
def rInt1 : List V → Hp → VK → Prop := fun xs H Q => (∃ i, xs = [.int i] ∧ Q (.int i) H) ∨ ∃ k, xs = [.bl k] ∧ Q (.int (if k then 1 else 0)) H
theorem call_intI {X : Cx} : CallR X (.type "int") rInt1 := call_int1
theorem rd_int {H : Hp} {Q : VK} {i : Int} (q : Q (.int i) H) : rInt1 [.int i] H Q := .inl ⟨i, rfl, q⟩
theorem rd_intB {H : Hp} {Q : VK} {k : Bool} (q : Q (.int (if k then 1 else 0)) H) : rInt1 [.bl k] H Q := .inr ⟨k, rfl, q⟩
def rAbs : List V → Hp → VK → Prop := fun xs H Q => ∃ i, xs = [.int i] ∧ Q (.int (if i < 0 then -i else i)) H
theorem call_absI {X : Cx} : CallR X (.builtin "abs") rAbs := call_abs
theorem rd_abs {H : Hp} {Q : VK} {i : Int} (q : Q (.int (if i < 0 then -i else i)) H) : rAbs [.int i] H Q := ⟨i, rfl, q⟩
def rListOf (K : PySem.W.Frag) : List V → Hp → VK → Prop := fun xs H Q => ∃ p ys, xs = [.ref p] ∧ (SqL K H p ys ∨ SqT K H p ys) ∧ ∀ l, H l = none → Q (.ref l) (upd H l (.lst ys))
theorem call_listS {X : Cx} : CallR X (.type "list") (rListOf X.K) := call_list_of
theorem rd_listL {K : PySem.W.Frag} {H : Hp} {Q : VK} {p : Addr} {xs : List V} (h : SqL K H p xs) (q : ∀ l, H l = none → Q (.ref l) (upd H l (.lst xs))) : rListOf K [.ref p] H Q := ⟨p, xs, rfl, .inl h, q⟩
theorem rd_listT {K : PySem.W.Frag} {H : Hp} {Q : VK} {p : Addr} {xs : List V} (h : SqT K H p xs) (q : ∀ l, H l = none → Q (.ref l) (upd H l (.lst xs))) : rListOf K [.ref p] H Q := ⟨p, xs, rfl, .inr h, q⟩
def rTupOf (K : PySem.W.Frag) : List V → Hp → VK → Prop := fun xs H Q => ∃ p ys, xs = [.ref p] ∧ ((SqL K H p ys ∧ ∀ l, H l = none → Q (.ref l) (upd H l (.tup ys))) ∨ (SqT K H p ys ∧ Q (.ref p) H))
theorem call_tupS {X : Cx} : CallR X (.type "tuple") (rTupOf X.K) := call_tuple_of
theorem rd_tupL {K : PySem.W.Frag} {H : Hp} {Q : VK} {p : Addr} {xs : List V} (h : SqL K H p xs) (q : ∀ l, H l = none → Q (.ref l) (upd H l (.tup xs))) : rTupOf K [.ref p] H Q := ⟨p, xs, rfl, .inl ⟨h, q⟩⟩
theorem rd_tupT {K : PySem.W.Frag} {H : Hp} {Q : VK} {p : Addr} {xs : List V} (h : SqT K H p xs) (q : Q (.ref p) H) : rTupOf K [.ref p] H Q := ⟨p, xs, rfl, .inr ⟨h, q⟩⟩
def rLenStr : List V → Hp → VK → Prop := fun xs H Q => ∃ z, xs = [.str z] ∧ z.length ≤ sizeLine ∧ Q (.int z.length) H
theorem call_lenStr {X : Cx} : CallR X (.builtin "len") rLenStr := call_len_str
theorem rd_lenStr {H : Hp} {Q : VK} {z : Str} (h : z.length ≤ sizeLine) (q : Q (.int z.length) H) : rLenStr [.str z] H Q := ⟨z, rfl, h, q⟩
theorem sqL_of {K : PySem.W.Frag} {H : Hp} {a : Addr} {xs : List V} (h : H a = some (.lst xs)) : SqL K H a xs := .inl (.inl h)
theorem sqT_of {K : PySem.W.Frag} {H : Hp} {a : Addr} {xs : List V} (h : H a = some (.tup xs)) : SqT K H a xs := .inl (.inl h)
theorem sqL_upd {K : PySem.W.Frag} {H : Hp} {a p : Addr} {o : HO} {xs : List V} (hp : H p = none) (h : SqL K H a xs) : SqL K (upd H p o) a xs := (Same.upd hp).seq h
theorem same_sqT {K : PySem.W.Frag} {H H' : Hp} {a : Addr} {xs : List V} (e : Same H H') (h : SqT K H a xs) : SqT K H' a xs := by
  rcases h with (h | ⟨o, h⟩) | h
  · exact .inl (.inl (e _ _ h))
  · exact .inl (.inr ⟨o, e _ _ h⟩)
  · exact .inr h
theorem sqT_upd {K : PySem.W.Frag} {H : Hp} {a p : Addr} {o : HO} {xs : List V} (hp : H p = none) (h : SqT K H a xs) : SqT K (upd H p o) a xs := same_sqT (Same.upd hp) h

/-! ### remainders and quotients by positive numbers, as letters -/
def rModP : R2 := fun x y H Q => ∃ i j, x = .int i ∧ y = .int j ∧ 0 < j ∧ ∀ d : Int, d = i % j → 0 ≤ d → d < j → Q (.int d) H
theorem op_modP {X : Cx} : OpR X (binaryOp .Mod) rModP := fun pins s σ H x y v u Q I rx ry h => by
  obtain ⟨i, j, ex, ey, hj, q⟩ := h
  refine op_mod pins s σ H x y v u Q I rx ry ⟨i, j, ex, ey, hj, q _ rfl (Int.emod_nonneg _ (by omega)) (Int.emod_lt_of_pos _ hj)⟩
def rDivP : R2 := fun x y H Q => ∃ i j, x = .int i ∧ y = .int j ∧ (0 < j ∧ j < 1073741824) ∧ ∀ d : Int, d = i / j → Q (.int d) H
theorem op_divP {X : Cx} : OpR X (binaryOp .FloorDiv) rDivP := fun pins s σ H x y v u Q I rx ry h => by
  obtain ⟨i, j, ex, ey, hj, q⟩ := h
  exact op_fdiv pins s σ H x y v u Q I rx ry ⟨i, j, ex, ey, hj, q _ rfl⟩
theorem rd_modP {i j : Int} {H : Hp} {Q : VK} (hj : 0 < j) (q : ∀ d : Int, d = i % j → 0 ≤ d → d < j → Q (.int d) H) : rModP (.int i) (.int j) H Q := ⟨i, j, rfl, rfl, hj, q⟩
theorem rd_divP {i j : Int} {H : Hp} {Q : VK} (hj : 0 < j ∧ j < 1073741824) (q : ∀ d : Int, d = i / j → Q (.int d) H) : rDivP (.int i) (.int j) H Q := ⟨i, j, rfl, rfl, hj, q⟩
/-- a list of numbers beside an empty one -/
theorem dpAll_ints {K : PySem.W.Frag} {H : Hp} : ∀ ns : List Int, DpAll K H (ns.map V.int) (ns.map PyData.int)
  | [] => .nil
  | n :: r => .cons (.int n) (dpAll_ints r)
theorem rd_ne_nil {K : PySem.W.Frag} {H : Hp} {Q : VK} {c p : Addr} {ns : List Int} (h : SqL K H c (ns.map V.int)) (hp : SqL K H p []) (q1 : ns ≠ [] → Q (.bl true) H) (q2 : ns = [] → Q (.bl false) H) : rNeD K (.ref c) (.ref p) H Q := by
  refine ⟨.list (ns.map PyData.int), .list [], .lst h (dpAll_ints ns), .lst hp .nil, ?_, by decide, ?_⟩
  · exact PySem.W.shaped_ints ns
  · cases ns with
    | nil => exact q2 rfl
    | cons a r => exact q1 (by simp)

theorem pow_ok {a : Int} {k : Int} (hk : 0 ≤ k) (hk2 : k ≤ 1000000) (h0 : 0 ≤ a) (h1 : a < 18446744073709551616) : CPow a k := ⟨hk, hk2, by omega⟩
theorem mix_ok {x b c d e k : Int} (hx : 0 ≤ x) (hx2 : x < 4294967296) (hb : 0 ≤ b) (hb2 : b < 200000) (hc : 0 ≤ c) (hc2 : c < 1000) (hd : 0 ≤ d) (hd2 : d < 1000000) (he : 0 ≤ e) (he2 : e < 1000000) (hk : 0 ≤ k) (hk2 : k ≤ 1000000) :
    CPow (x * (2 * b + c) + d * b * b + e) k := by
  have h1 : x * (2 * b + c) ≤ 4294967296 * (2 * b + c) := Int.mul_le_mul_of_nonneg_right (by omega) (by omega)
  have h0 : 0 ≤ x * (2 * b + c) := Int.mul_nonneg hx (by omega)
  have h2 : 0 ≤ d * b := Int.mul_nonneg hd hb
  have h3 : d * b ≤ 1000000 * b := Int.mul_le_mul_of_nonneg_right (by omega) hb
  have h4 : 0 ≤ d * b * b := Int.mul_nonneg h2 hb
  have h5 : d * b * b ≤ (1000000 * 200000) * b := Int.mul_le_mul_of_nonneg_right (by omega) hb
  exact pow_ok hk hk2 (by omega) (by omega)
theorem dbb_ok {d b : Int} (hb : 0 ≤ b) (hb2 : b < 200000) (hd : 0 ≤ d) (hd2 : d < 1000000) : CMul (d * b) b := .inr ⟨by omega, by omega⟩

theorem rd_exb {b : Bool} {P : Bool → Prop} (q : P b) : ∃ k, V.bl b = V.bl k ∧ P k := ⟨b, rfl, q⟩
theorem rd_exi {b : Int} {P : Int → Prop} (q : P b) : ∃ k, V.int b = V.int k ∧ P k := ⟨b, rfl, q⟩

theorem atI_int {α : Type} {xs : List α} {d : Int} {v : α} (h0 : 0 ≤ d) (h : xs[d.toNat]? = some v) : atI xs d = some v := by
  have q := atI_nat h
  rw [Int.toNat_of_nonneg h0] at q
  exact q
theorem rd_exs {z : Str} {P : Str → Prop} (q : P z) : ∃ k, V.str z = V.str k ∧ P k := ⟨z, rfl, q⟩
theorem rd_exr {a : Addr} {P : Addr → Prop} (q : P a) : ∃ k, V.ref a = V.ref k ∧ P k := ⟨a, rfl, q⟩
theorem rd_eqI {i j : Int} {H : Hp} {Q : VK} (q : Q (.bl (decide (i = j))) H) : rEq (.int i) (.int j) H Q := ⟨rfl, by
  rw [show decide (V.int i = V.int j) = decide (i = j) from by
    by_cases h : i = j
    · rw [decide_eq_true h, h]; exact decide_eq_true rfl
    · rw [decide_eq_false h]; exact decide_eq_false fun z => h (V.int.inj z)]
  exact q⟩
theorem rd_neI {i j : Int} {H : Hp} {Q : VK} (q : Q (.bl (!decide (i = j))) H) : rNe (.int i) (.int j) H Q := ⟨rfl, by
  rw [show decide (V.int i = V.int j) = decide (i = j) from by
    by_cases h : i = j
    · rw [decide_eq_true h, h]; exact decide_eq_true rfl
    · rw [decide_eq_false h]; exact decide_eq_false fun z => h (V.int.inj z)]
  exact q⟩
theorem rd_eqS {i j : Str} {H : Hp} {Q : VK} (q : Q (.bl (decide (i = j))) H) : rEq (.str i) (.str j) H Q := ⟨rfl, by
  rw [show decide (V.str i = V.str j) = decide (i = j) from by
    by_cases h : i = j
    · rw [decide_eq_true h, h]; exact decide_eq_true rfl
    · rw [decide_eq_false h]; exact decide_eq_false fun z => h (V.str.inj z)]
  exact q⟩
theorem rd_neS {i j : Str} {H : Hp} {Q : VK} (q : Q (.bl (!decide (i = j))) H) : rNe (.str i) (.str j) H Q := ⟨rfl, by
  rw [show decide (V.str i = V.str j) = decide (i = j) from by
    by_cases h : i = j
    · rw [decide_eq_true h, h]; exact decide_eq_true rfl
    · rw [decide_eq_false h]; exact decide_eq_false fun z => h (V.str.inj z)]
  exact q⟩
theorem rd_eqB {i j : Bool} {H : Hp} {Q : VK} (q : Q (.bl (i == j)) H) : rEq (.bl i) (.bl j) H Q := ⟨rfl, by
  rw [show decide (V.bl i = V.bl j) = (i == j) from by cases i <;> cases j <;> rfl]
  exact q⟩
theorem rd_neB {i j : Bool} {H : Hp} {Q : VK} (q : Q (.bl (!(i == j))) H) : rNe (.bl i) (.bl j) H Q := ⟨rfl, by
  rw [show decide (V.bl i = V.bl j) = (i == j) from by cases i <;> cases j <;> rfl]
  exact q⟩
end Lay

end

section
namespace PySem
namespace OpsM
/-- enumerate(v) alone, v begun by B -/
theorem meets_enum1 {v : Value} {o : Obj} {Hq : Heap → Prop} (B : Begins v o Hq) :
    Meets (Builtin.«enumerate.__new__» ⟨[.type "enumerate", v], []⟩) (fun _ R s => Hq s.heap ∧
      R (.ok (.ret (.ref (s.heap.push o).objs.size))) { s with heap := (s.heap.push o).push { cls := .type "enumerate", data := .fields #[.none, .bool false, .ref s.heap.objs.size, rawInt 0, .none, .none] } }) := by
  refine .of_wp fun prog w A R s hR => ?_
  obtain ⟨hp, g, d, tk, os⟩ := s
  obtain ⟨hq0, hR⟩ := hR
  have subE := sub_enumerate
  have its : ∀ {A1 : Around} {E1 : Value → Shared → Prop} {Q1 : Value → Shared → Prop}, Q1 (.ref hp.objs.size) ⟨hp.push o, g, d, tk, os⟩ → wpAny (model prog w) A1 (pyIter v) Q1 E1 ⟨hp, g, d, tk, os⟩ :=
    fun z => B.iter prog w _ _ ⟨hp, g, d, tk, os⟩ _ hq0 z
  wp_walk using its
  refine wpAny_stack_any fun stk => wpAny_pure ?_
  split
  · rename_i cl _ _ _ _ _
    cases (cl == Value.type "enumerate")
    all_goals (wp_walk using its; exact ⟨_, rfl, hR⟩)
  · wp_walk using its; exact ⟨_, rfl, hR⟩
theorem call_enum1 {prog : Program} {w : World} {A : Around} {E : Value → Shared → Prop} {s : Shared} {v : Value} {o : Obj} {Hq : Heap → Prop} {Q : Value → Shared → Prop} (B : Begins v o Hq) (h1 : Hq s.heap)
    (h : ∀ h2, IsEnum h2 (s.heap.objs.size + 1) s.heap.objs.size 0 .none → h2.get? s.heap.objs.size = some o → (∀ b u, s.heap.get? b = some u → h2.get? b = some u) → Q (.ref (s.heap.objs.size + 1)) { s with heap := h2 }) :
    wpAny (model prog w) A (call (.type "enumerate") [v]) Q E s := by
  refine callType_new F.called_enumerate (by decide) (F.typeCall_enumerate_1 _) (F.newCall_enumerate_1 _) (fun obj => F.args_object_init_2 obj _) F.entry_enumerate_new (meets_enum1 B) ⟨h1, ?_⟩
  have hz : (s.heap.push o).objs.size = s.heap.objs.size + 1 := Heap.size_push ..
  show _ ∧ _
  rw [hz]
  have he : IsEnum ((s.heap.push o).push { cls := .type "enumerate", data := .fields #[.none, .bool false, .ref s.heap.objs.size, rawInt 0, .none, .none] }) (s.heap.objs.size + 1) s.heap.objs.size 0 .none := by
    have z := Heap.get?_push_size (s.heap.push o) (o := { cls := .type "enumerate", data := .fields #[.none, .bool false, .ref s.heap.objs.size, rawInt 0, .none, .none] }) rfl
    rw [hz] at z
    exact z
  exact ⟨⟨_, he, rfl⟩, h _ he (Heap.get?_push_of_some _ (Heap.get?_push_size _ B.free)) fun b u z => Heap.get?_push_of_some _ (Heap.get?_push_of_some _ z)⟩
end OpsM
end PySem
namespace Lay
open PySem PySem.Spec PyProof.Rows L2
/-! ### enumerate(tuple) -/
def Itet (K : PySem.W.Frag) (a : Addr) : It :=
  ⟨fun i H => ∃ (xs : List V) (x : V), SqT K H a xs ∧ xs[i]? = some x, fun i H v H' => ∃ T x, v = .ref T ∧ H T = none ∧ H' = upd H T (.tup [.int (i : Nat), x]) ∧ ∀ xs, SqT K H a xs → xs[i]? = some x, fun i H => ∃ xs : List V, SqT K H a xs ∧ xs.length ≤ i⟩
theorem tuple_iter_ne {h : Heap} {it a : Addr} {i : Nat} {its : Array Value} (h1 : h.IsTupleIter it a i) (h2 : h.IsTuple a its) : a ≠ it := fun z => by
  obtain ⟨o, e, c, d⟩ := h1
  obtain ⟨u, e2, c2, _⟩ := h2
  rw [z, e] at e2
  cases e2
  rw [c] at c2
  injection c2 with y
  exact absurd y (by decide)
theorem enum_ne {h : Heap} {e it a : Addr} {c : Int} {old : Value} {its : Array Value} (h1 : IsEnum h e it c old) (h2 : h.IsTuple a its) : e ≠ a := fun z => by
  obtain ⟨u, e2, c2, _⟩ := h2
  have h1' : h.get? e = some _ := h1
  rw [← z, h1'] at e2
  cases e2
  injection c2 with y
  exact absurd y (by decide)
theorem turn_enumT {P : Program} {w : World} {K : PySem.W.Frag} {elts : List Expr} {kk : Nat} {tpos : Pos} (a e it : Addr) :
    Turn P w K (.Tuple elts kk tpos) (Itet K a) [e, it] e (fun i h => (∃ old, IsEnum h e it ((i : Nat) : Int) old) ∧ h.IsTupleIter it a i ∧ e ≠ it) where
  mem := List.mem_cons_self ..
  obj := fun i h st b hb => by
    obtain ⟨⟨old, he⟩, ⟨o, ho, hc, hd⟩, _⟩ := st
    rcases List.mem_cons.mp hb with z | z
    · subst z; exact ⟨_, he, fun v q => nomatch q⟩
    · rw [List.mem_singleton.mp z]; exact ⟨o, ho, fun v q => by rw [hd] at q; cases q⟩
  keep := fun i h h2 st k => ⟨let ⟨old, he⟩ := st.1; ⟨old, k e (List.mem_cons_self ..) _ he⟩, st.2.1.at fun o q => k it (by simp) o q, st.2.2⟩
  item := by
    intro X hP hw hK hc i pins s σ H E I hf st hg
    subst hP hw hK
    obtain ⟨⟨old, he⟩, hit, hne⟩ := st
    obtain ⟨xs, x, hq, hx⟩ := hg
    obtain ⟨its, rv, p, hz⟩ := I.tuple hq
    obtain ⟨u, hu, ru⟩ := rv.get hx
    have hT : s.heap.IsTuple a its.toArray := p
    have hel : e < s.heap.objs.size := Heap.lt_size he
    have hil : it < s.heap.objs.size := by obtain ⟨_, q, _⟩ := hit; exact Heap.lt_size q
    have hei : e ∉ [it, a] := by
      intro z
      rcases List.mem_cons.mp z with z | z
      · exact hne z
      · exact enum_ne he hT (List.mem_singleton.mp z)
    have hlt : i < its.toArray.size := by
      have z := (List.getElem?_eq_some_iff.mp hu).1
      simpa using z
    refine wpAny_pyNext_enum_itemC (Draws.tuple (prog := X.prog) (w := X.w) (A := X.A.in1) (I.ok.hd hc) it a (tuple_iter_ne hit hT) its.toArray) he ⟨hit, hT⟩ hlt hne hei fun y h2 tk hy ho hst hTn hsz hk => ?_
    have ey : y = u := by
      have z : its.toArray[i]? = some u := by simpa using hu
      rw [z] at hy
      exact (Option.some.inj hy).symm
    subst ey
    refine ⟨_, rfl, wpAny_letOwnedTupleGo_enum (s := { s with heap := h2, toks := tk + 1 }) ho fun h3 he3 sb => ?_⟩
    have hT3 : h3.get? s.heap.objs.size = some { cls := .type "tuple", data := .seq #[.int i tk, y] } := (sb.2 _ (Nat.ne_of_gt hel)).trans hTn
    have new : ObjOk X.prog X.w (upd H s.heap.objs.size (.tup [.int (i : Nat), x])) h3 s.heap.objs.size (.tup [.int (i : Nat), x]) :=
      ⟨by show 2 ≤ sizeLine; decide, [.int i tk, y], .cons ⟨_, rfl⟩ (.cons ru .nil), ⟨_, hT3, rfl, _, rfl⟩⟩
    have I1 : Inv X pins σ (upd H s.heap.objs.size (.tup [.int (i : Nat), x])) { s with heap := h3, toks := tk + 1 } :=
      I.turnedNew (ch := [e, it]) (fun b ob hb q => (sb.2 b (fun z => hb (by rw [z]; exact List.mem_cons_self ..))).trans (hk b ob (fun z => hb (by rw [z]; exact List.mem_cons_self ..)) (fun z => hb (by simp [z])) q)) hf (Nat.le_refl _) new
    refine ⟨.ref s.heap.objs.size, _, I1, rfl, ⟨_, x, rfl, I.hok.fresh (Nat.le_refl _), rfl, fun ys hy => by rw [I.tuple_inj hy hq]; exact hx⟩, ⟨⟨y, ?_⟩, hst.1.at fun o q => (sb.2 it (Ne.symm hne)).trans q, hne⟩, fun b hb => ?_⟩
    · rw [show ((i + 1 : Nat) : Int) = (i : Int) + 1 from by omega]
      exact he3
    · have hlb : b < s.heap.objs.size := by
        rcases List.mem_cons.mp hb with z | z
        · rw [z]; exact hel
        · rw [List.mem_singleton.mp z]; exact hil
      rw [upd_ne (Nat.ne_of_lt hlb)]
      exact (hf b hb).1
  done := by
    intro X hP hw hK hc i pins s σ H E I hf st hg
    subst hP hw hK
    obtain ⟨⟨old, he⟩, hit, hne⟩ := st
    obtain ⟨xs, hq, hx⟩ := hg
    obtain ⟨its, rv, p, hz⟩ := I.tuple hq
    have hT : s.heap.IsTuple a its.toArray := p
    obtain ⟨f0, f1, f2, f3, f4, f5⟩ := hf it (by simp)
    have hn : its.toArray[i]? = none := by
      have z := rv.length
      simp only [List.getElem?_toArray, List.getElem?_eq_none_iff]
      omega
    have Dn : Draws X.prog X.w X.A.in1 it [it, a] i (fun _ _ => False) (fun j h => j = i ∧ h.IsTupleIter it a i ∧ h.IsTuple a its.toArray) :=
      ⟨fun j h z => let ⟨o, ho, _⟩ := z.2.1; ⟨o, ho⟩, fun j h h2 z k => ⟨z.1, z.2.1.at fun o q => k it (by simp) o q, z.2.2.at fun o q => k a (by simp) o q⟩,
        fun j s1 Q1 E1 hj z _ => absurd hj (by rw [z.1]; exact Nat.lt_irrefl _), fun s1 Q1 E1 z hE => wpAny_nextOf_tuple_end (I.ok.hd hc) z.2.1 z.2.2 hn hE⟩
    exact wpAny_pyNext_enum_endD Dn he ⟨rfl, hit, hT⟩ fun h2 eb => ⟨rfl, I.turned (t' := s.toks) (fun b o hb q => eb b o hb q) f0 f1 f3 f4 f5⟩
  self := fun A i s Q E st h => let ⟨⟨_, he⟩, _⟩ := st; wpAny_pyIter_enum he h
def iEnumT (K : PySem.W.Frag) (ta : TA) : TI := fun σ H R => ta σ H fun vs H1 => ∃ a xs, vs = [.ref a] ∧ SqT K H1 a xs ∧ R (Itet K a) H1
theorem pi_enumT {X : Cx} {e : Expr} {ta : TA} {p pos tpos : Pos} {elts : List Expr} {kk : Nat} (hg : Gl X "enumerate") (hm : X.mg "enumerate" = none) (ha : PA X [e] ta) (hs : starEach [e] X.env = [(false, eval e X.env)] := by rfl) :
    PI X (.Tuple elts kk tpos) (.Call (.Name "enumerate" p) [e] [] pos) (iEnumT X.K ta) := by
  refine ⟨fun pins s σ H R I h => ?_⟩
  refine Call_ (ld_blt I hg hm boot_enumerate (PyProof.Rows.callWith_type1 (thn (ha.run pos pins s σ H _ I h) fun us s1 ⟨vs, H1, I1, r1, a, xs, ex, hq, q⟩ => ?_) hs rfl))
  subst ex
  cases r1 with
  | cons r rr =>
    cases rr
    cases r
    obtain ⟨its, rv, pt, hz⟩ := I1.tuple hq
    have hT : s1.heap.IsTuple a its.toArray := pt
    refine OpsM.call_enum1 (begins_tuple a its.toArray) hT fun h2 he hit hk => wpAny_pyIter_enum he ?_
    have I2 : Inv X pins σ H1 { s1 with heap := h2 } := I1.kept (t' := s1.toks) hk
    refine ⟨s1.heap.objs.size + 1, [s1.heap.objs.size + 1, s1.heap.objs.size], _, _, H1, rfl, I2, turn_enumT a (s1.heap.objs.size + 1) s1.heap.objs.size, ⟨⟨.none, he⟩, ⟨_, hit, rfl, rfl⟩, Nat.succ_ne_self _⟩, fun b hb => ?_, q⟩
    have hle : s1.heap.objs.size ≤ b := by
      rcases List.mem_cons.mp hb with z | z
      · rw [z]; exact Nat.le_add_right _ _
      · rw [List.mem_singleton.mp z]; exact Nat.le_refl _
    exact I1.fpOk hle (I1.hok.fresh hle)
theorem walk_enumT {K : PySem.W.Frag} {a : Addr} {xs : List V} : Walk (Itet K a) xs.length (fun H => SqT K H a xs) (YPair (fun i => some (.int (i : Nat))) (fun i => xs[i]?)) := by
  refine ⟨fun i _ hi q => ⟨xs, xs[i], q, by simp [hi]⟩, fun _ q => ⟨xs, q, Nat.le_refl _⟩, fun i H v H' _ q y => ?_⟩
  obtain ⟨T, x, h1, h2, h3, h4⟩ := y
  exact ⟨T, _, x, h1, h2, h3, rfl, h4 xs q⟩
end Lay

end

section
namespace PySem
namespace OpsM
open SeqAt
open AutoSeq1 (wpAny_loadPart')
theorem str_eq_any (b : Str) (u : Tok) (l : Addr) (c : Value) (dd : Option Addr) (es : Array DictEntry) (ep : Nat) (sl : Array (Option Value)) :
    Meets (Builtin.«str.__eq__» ⟨[.str b u, .ref l], []⟩) (fun _ R s => s.heap.get? l = some { cls := c, dict := dd, data := .dict es ep, slots := sl } ∧ R (.ok (.ret .notImplemented)) s) := by
  refine .of_wp fun prog w A R s h => ?_
  obtain ⟨hp, g, d, tk, os⟩ := s
  obtain ⟨hl, hR⟩ := h
  wp_walk using wpAny_loadPart' hl, wpAny_load hl
  exact ⟨_, rfl, hR⟩
section
variable {prog : Program} {w : World} {A : Around} {E : Value → Shared → Prop} {s : Shared}
theorem dict_eq_str {d : Addr} {b : Str} {u : Tok} {Q : Value → Shared → Prop} (hd : s.TypeIs (.ref d) "dict") (h : Q .notImplemented s) : wpAny (model prog w) A (call (.builtin "dict.__eq__") [.ref d, .str b u]) Q E s := by
  refine wpAny_call_entry PySem.F.slot_dict_eq hd PySem.F.entry_dict_eq ?_ (PySem.F.args_dict_eq_2 _ _)
  show wpAny _ _ (Builtin.Dict.dictSlotArgs "__eq__" ⟨[.ref d, .str b u], []⟩ >>= _) _ _ s
  refine wpAny_bind ?_
  unfold Builtin.Dict.dictSlotArgs
  refine wpAny_bind (wpAny_notOrdered_dict hd ?_)
  show wpAny _ _ (pure (Value.ref d, Value.str b u)) _ _ s
  refine wpAny_pure ?_
  refine wpAny_bind (wpAny_isInstance (T := "str") (typeIs_str s b u) PySem.F.sub_str_dict ?_)
  simp only [Bool.not_false, if_true]
  exact wpAny_bind (wpAny_rule (wpAny_pure ⟨_, rfl, h⟩))
theorem rc_str_dict {d : Addr} {o : Obj} (b : Str) (u : Tok) (ho : s.heap.get? d = some o) (hc : o.cls = .type "dict") (hd : ∃ es ep, o.data = .dict es ep) (hu : A.units < cLine) : RcAt A s (.str b u) (.ref d) false := fun prog w E Q h => by
  obtain ⟨es, ep, hd⟩ := hd
  obtain ⟨c, dd, dt, sl⟩ := o
  simp only at hc hd
  subst hc hd
  have hT : s.TypeIs (.ref d) "dict" := ⟨_, ho, rfl⟩
  exact rc_eq_decline_or (k := false) (typeIs_str s b u) hT (by decide) F.sub_dict_str F.slot_str_eq F.slot_dict_eq_refl
    (fun _ hq => call_meets F.slot_str_eq (typeIs_str s b u) F.entry_str_eq (F.args_str_eq_2 _ _) (str_eq_any b u d _ dd es ep sl) ⟨ho, hq⟩)
    (fun _ hq => dict_eq_str hT hq) (fun _ hq => wpAny_of_eq (rfl : isSame (.str b u) (.ref d) = pure false) hq) (.inr hu) h
theorem eq_str_dict {d : Addr} {o : Obj} (b : Str) (u : Tok) (ho : s.heap.get? d = some o) (hc : o.cls = .type "dict") (hd : ∃ es ep, o.data = .dict es ep) (hu : A.units < cLine) : EqAt A s (.str b u) (.ref d) false := fun prog w E Q h => by
  unfold eqBool
  refine wpAny_holding (wpAny_ite_split (fun z => absurd (eq_of_beq z) nofun) fun _ => ?_)
  exact wpAny_bind (rc_str_dict b u ho hc hd hu prog w E _ (wpAny_truthy_bool h))
end
end OpsM
end PySem
namespace Lay
open PySem PySem.Spec PyProof.Rows L2
/-! ### the kinds of any value -/
inductive Kn where
  | non | bool | int | str | list | tuple | dict
def Kn.name : Kn → String
  | .non => "NoneType"
  | .bool => "bool"
  | .int => "int"
  | .str => "str"
  | .list => "list"
  | .tuple => "tuple"
  | .dict => "dict"
/-- a value of the kind t is an instance of the class n -/
def isTy : Kn → Kn → Bool
  | .non, .non => true
  | .bool, .bool => true
  | .bool, .int => true
  | .int, .int => true
  | .str, .str => true
  | .list, .list => true
  | .tuple, .tuple => true
  | .dict, .dict => true
  | _, _ => false
theorem isTy_ok {K : PySem.W.Frag} (t n : Kn) : PySem.W.kitOne K (.type t.name) (.type n.name) = some (isTy t n) := by
  cases t <;> cases n <;> exact kit_ty (by decide +kernel)
inductive Kd (H : Hp) : V → Kn → Prop
  | non : Kd H .non .non
  | bl (b : Bool) : Kd H (.bl b) .bool
  | int (i : Int) : Kd H (.int i) .int
  | str (z : Str) : Kd H (.str z) .str
  | lst {a : Addr} {xs : List V} (h : H a = some (.lst xs)) : Kd H (.ref a) .list
  | tup {a : Addr} {xs : List V} (h : H a = some (.tup xs)) : Kd H (.ref a) .tuple
  | dK {a : Addr} {kvs : List (Key × V)} (h : H a = some (.dK kvs)) : Kd H (.ref a) .dict
theorem Kd.same {H H' : Hp} {v : V} {t : Kn} (s : ∀ b o, v = .ref b → H b = some o → H' b = some o) (k : Kd H v t) : Kd H' v t := by
  cases k with
  | non => exact .non
  | bl b => exact .bl b
  | int i => exact .int i
  | str z => exact .str z
  | lst h => exact .lst (s _ _ rfl h)
  | tup h => exact .tup (s _ _ rfl h)
  | dK h => exact .dK (s _ _ rfl h)
theorem Kd.mono {H H' : Hp} {v : V} {t : Kn} (s : Same H H') (k : Kd H v t) : Kd H' v t := k.same fun b o _ h => s b o h
theorem Kd.ty {K : PySem.W.Frag} {H : Hp} {v : V} {t : Kn} (k : Kd H v t) : TyX K H v (.type t.name) := by
  cases k with
  | non => exact .base .non
  | bl b => exact .base (.bl b)
  | int i => exact .base (.int i)
  | str z => exact .base (.str z)
  | lst h => exact .base (.lst h)
  | tup h => exact .base (.tup h)
  | dK h => exact .base (.dK h)
theorem rd_isi {K : PySem.W.Frag} {H : Hp} {Q : VK} {x : V} {t : Kn} (n : Kn) (k : Kd H x t) (q : Q (.bl (isTy t n)) H) : rIsi K [x, .ty n.name] H Q :=
  ⟨x, .ty n.name, .type t.name, .type n.name, isTy t n, rfl, .ty n.name, k.ty, isTy_ok t n, q⟩
/-! ### any value in a row of texts -/
def inStrs (x : V) (zs : List Str) : Bool := match x with | .str z => zs.contains z | _ => false
theorem memS {X : Cx} {pins : List (Addr × Obj)} {σ : L2.St} {H : Hp} {s : Shared} {A : Around} (I : Inv X pins σ H s) (hu : A.units < cLine) {x : V} {v : Value} {t : Kn} (rx : RelV x v) (k : Kd H x t) :
    ∀ (zs : List Str) (us : List Value), Vals (zs.map V.str) us → ∃ f : Value → Bool, us.any f = inStrs x zs ∧ ∀ u ∈ us, SeqAt.EqAt A s u v (f u) := by
  by_cases hx : ∃ z, x = .str z
  · obtain ⟨z, rfl⟩ := hx
    intro zs us r
    have fl : (zs.map V.str).all flatV = true := by
      rw [List.all_eq_true]
      intro y hy
      obtain ⟨w, _, rfl⟩ := List.mem_map.mp hy
      rfl
    refine ⟨eqU (.str z), ?_, fun u hu => mem_eqAt rx rfl r fl u hu⟩
    rw [any_eqU r fl]
    show ((zs.map V.str).any fun y => eqV y (.str z)) = zs.contains z
    clear r fl
    induction zs with
    | nil => rfl
    | cons a l ih =>
      rw [List.map_cons, List.any_cons, ih, List.contains_cons]
      congr 1
      show eqV (.str a) (.str z) = (z == a)
      by_cases h : a = z
      · subst h
        simp [eqV]
      · have h2 : ¬ z = a := fun y => h y.symm
        rw [show (z == a) = false from by simpa using h2]
        simp [eqV, h]
  · have no : ∀ zs, inStrs x zs = false := fun zs => by
      cases x with
      | str z => exact absurd ⟨z, rfl⟩ hx
      | _ => rfl
    have one : ∀ (z : Str) (u : Value), RelV (.str z) u → SeqAt.EqAt A s u v false := by
      intro z u ru
      obtain ⟨tk, rfl⟩ := ru
      cases k with
      | non => cases rx; exact SeqAt.EqAt.str_none z tk
      | bl b => cases rx; exact SeqAt.EqAt.str_bool z tk b
      | int i => obtain ⟨t', rfl⟩ := rx; exact SeqAt.EqAt.str_int z tk i t'
      | str y => exact absurd ⟨y, rfl⟩ hx
      | lst h =>
        cases rx
        obtain ⟨_, its, n, _, e⟩ := I.hok _ _ h
        exact SeqAt.EqAt.str_list z tk (items := its.toArray) ⟨_, e, rfl, _, rfl⟩ hu
      | tup h =>
        cases rx
        obtain ⟨_, its, _, e⟩ := I.hok _ _ h
        exact SeqAt.EqAt.str_tuple z tk (items := its.toArray) e hu
      | dK h =>
        cases rx
        obtain ⟨_, _, vs, _, o, es, ep, e, ex, hd, _⟩ := I.hok _ _ h
        exact OpsM.eq_str_dict z tk e ex.1 ⟨_, _, hd⟩ hu
    intro zs us r
    refine ⟨fun _ => false, by rw [no]; simp, ?_⟩
    induction zs generalizing us with
    | nil => cases r; exact fun u hu => nomatch hu
    | cons a l ih =>
      cases r with
      | cons r1 r2 =>
        intro u hm
        rcases List.mem_cons.mp hm with e | hm
        · subst e; exact one a _ r1
        · exact ih _ r2 u hm
def rInS (K : PySem.W.Frag) : R2 := fun x y H Q => ∃ (p : Addr) (zs : List Str) (t : Kn), y = .ref p ∧ (SqT K H p (zs.map V.str) ∨ SqL K H p (zs.map V.str)) ∧ Kd H x t ∧ Q (.bl (inStrs x zs)) H
def rNotInS (K : PySem.W.Frag) : R2 := fun x y H Q => ∃ (p : Addr) (zs : List Str) (t : Kn), y = .ref p ∧ (SqT K H p (zs.map V.str) ∨ SqL K H p (zs.map V.str)) ∧ Kd H x t ∧ Q (.bl (!inStrs x zs)) H
theorem op_inS {X : Cx} (hu : X.A.units + 64 < cLine) : OpR X (compareOp .In) (rInS X.K) := by
  intro pins s σ H x y v u Q I rx ry h
  obtain ⟨p, zs, t, rfl, hq, k, q⟩ := h
  cases ry
  have hu1 : X.A.in1.units < cLine := by show X.A.units + 1 < cLine; omega
  rcases hq with hq | hq
  · obtain ⟨its, r, pl, hz⟩ := I.tuple hq
    obtain ⟨f, e, m⟩ := memS I hu1 rx k _ _ r
    refine SeqAt.in_tupleAt f pl (fun w hw => m w (by simpa using hw)) ⟨.bl _, H, I, rfl, ?_⟩
    rw [show its.toArray.any f = its.any f by simp, e]
    exact q
  · obtain ⟨its, r, pl, hz⟩ := I.list hq
    obtain ⟨f, e, m⟩ := memS I hu1 rx k _ _ r
    refine SeqAt.in_listAt f pl.isList (fun w hw => m w (by simpa using hw)) ⟨.bl _, H, I, rfl, ?_⟩
    rw [show its.toArray.any f = its.any f by simp, e]
    exact q
theorem op_notInS {X : Cx} (hu : X.A.units + 64 < cLine) : OpR X (compareOp .NotIn) (rNotInS X.K) := by
  intro pins s σ H x y v u Q I rx ry h
  obtain ⟨p, zs, t, rfl, hq, k, q⟩ := h
  cases ry
  have hu1 : X.A.in1.units < cLine := by show X.A.units + 1 < cLine; omega
  rcases hq with hq | hq
  · obtain ⟨its, r, pl, hz⟩ := I.tuple hq
    obtain ⟨f, e, m⟩ := memS I hu1 rx k _ _ r
    refine SeqAt.notIn_tupleAt f pl (fun w hw => m w (by simpa using hw)) ⟨.bl _, H, I, rfl, ?_⟩
    rw [show its.toArray.any f = its.any f by simp, e]
    exact q
  · obtain ⟨its, r, pl, hz⟩ := I.list hq
    obtain ⟨f, e, m⟩ := memS I hu1 rx k _ _ r
    refine SeqAt.notIn_listAt f pl.isList (fun w hw => m w (by simpa using hw)) ⟨.bl _, H, I, rfl, ?_⟩
    rw [show its.toArray.any f = its.any f by simp, e]
    exact q
theorem rd_inS {K : PySem.W.Frag} {H : Hp} {Q : VK} {x : V} {p : Addr} {zs : List Str} {t : Kn} (h : SqT K H p (zs.map V.str)) (k : Kd H x t) (q : Q (.bl (inStrs x zs)) H) : rInS K x (.ref p) H Q := ⟨p, zs, t, rfl, .inl h, k, q⟩
theorem rd_inSL {K : PySem.W.Frag} {H : Hp} {Q : VK} {x : V} {p : Addr} {zs : List Str} {t : Kn} (h : SqL K H p (zs.map V.str)) (k : Kd H x t) (q : Q (.bl (inStrs x zs)) H) : rInS K x (.ref p) H Q := ⟨p, zs, t, rfl, .inr h, k, q⟩
theorem rd_notInS {K : PySem.W.Frag} {H : Hp} {Q : VK} {x : V} {p : Addr} {zs : List Str} {t : Kn} (h : SqT K H p (zs.map V.str)) (k : Kd H x t) (q : Q (.bl (!inStrs x zs)) H) : rNotInS K x (.ref p) H Q := ⟨p, zs, t, rfl, .inl h, k, q⟩
theorem rd_notInSL {K : PySem.W.Frag} {H : Hp} {Q : VK} {x : V} {p : Addr} {zs : List Str} {t : Kn} (h : SqL K H p (zs.map V.str)) (k : Kd H x t) (q : Q (.bl (!inStrs x zs)) H) : rNotInS K x (.ref p) H Q := ⟨p, zs, t, rfl, .inr h, k, q⟩
end Lay

end

section
namespace Lay
open PySem PySem.Spec PyProof.Rows L2
/-! ### comprehensions: D the new list, R what holds of what it has so far and of all else -/
def PvL (D : Addr) (R : Nat → List V → Hp → Prop) (i : Nat) (H : Hp) : Prop := ∃ l, H D = some (.lst l) ∧ l.length ≤ i ∧ R i l H
theorem lc_put {D : Addr} {R : Nat → List V → Hp → Prop} {i : Nat} {l : List V} {y : V} {H : Hp} (h : H D = some (.lst l)) (hl : l.length ≤ i) (hi : i < 100000) (r : R (i + 1) (l ++ [y]) (upd H D (.lst (l ++ [y])))) :
    ∃ acc, H D = some (.lst acc) ∧ acc.length < sizeLine ∧ PvL D R (i + 1) (upd H D (.lst (acc ++ [y]))) :=
  ⟨l, h, Nat.lt_of_le_of_lt hl (Nat.lt_of_lt_of_le hi (by decide)), l ++ [y], upd_same, by rw [List.length_append]; exact Nat.add_le_add_right hl 1, r⟩
theorem lc_skip {D : Addr} {R : Nat → List V → Hp → Prop} {i : Nat} {l : List V} {H : Hp} (h : H D = some (.lst l)) (hl : l.length ≤ i) (r : R (i + 1) l H) : PvL D R (i + 1) H := ⟨l, h, Nat.le_succ_of_le hl, r⟩
theorem lc_go {J : It} {n : Nat} {G : Hp → Prop} {Y : Nat → Hp → V → Hp → Prop} (w : Walk J n G Y) {g : TG} {tt : TT} {te : TE} {vs : List Nat} {σ : L2.St} {H1 : Hp} {D : Addr} {Qd : Hp → Prop}
    (R : Nat → List V → Hp → Prop) (h0 : R 0 [] (upd H1 D (.lst []))) (hG : ∀ i l H, i ≤ n → R i l H → G H)
    (hs : ∀ i l x H H', i < n → H D = some (.lst l) → l.length ≤ i → R i l H → Y i H x H' → g x (wipe σ vs) H' fun σ2 H2 => wipe σ2 vs = wipe σ vs ∧ tt σ2 H2 fun b H3 =>
      if b = true then te σ2 H3 fun y H4 => ∃ acc, H4 D = some (.lst acc) ∧ acc.length < sizeLine ∧ PvL D R (i + 1) (upd H4 D (.lst (acc ++ [y]))) else PvL D R (i + 1) H3)
    (hd : ∀ l H, H D = some (.lst l) → l.length ≤ n → R n l H → Qd H) :
    ∃ W : Nat → Nat → Hp → Prop, (∃ m, W 0 m (upd H1 D (.lst []))) ∧ ∀ i m H, W i m H →
      (J.stop i H ∧ Qd H) ∨ (J.go i H ∧ ∃ Nx : Hp → Prop, (∀ H', Nx H' → ∃ m', m' < m ∧ W (i + 1) m' H') ∧ ∀ x H', J.yld i H x H' → g x (wipe σ vs) H' fun σ2 H2 => wipe σ2 vs = wipe σ vs ∧ tt σ2 H2 fun b H3 =>
        if b = true then te σ2 H3 fun y H4 => ∃ acc, H4 D = some (.lst acc) ∧ acc.length < sizeLine ∧ Nx (upd H4 D (.lst (acc ++ [y]))) else Nx H3) :=
  lc_it w (PvL D R) ⟨[], upd_same, Nat.le_refl _, h0⟩ (fun i H hi ⟨l, _, _, r⟩ => hG i l H hi r) (fun i x H H' hi ⟨l, hl, hz, r⟩ y => hs i l x H H' hi hl hz r y) (fun H ⟨l, hl, hz, r⟩ => hd l H hl hz r)
section
variable {K : PySem.W.Frag} {σ : L2.St} {H : Hp} {Q : VK} {tA : TA} {te : TE} {R : It → Hp → Prop}
theorem rd_lc {wi : TI} {g : TG} {tt : TT} {vs : List Nat} (h : wi σ H fun J H1 => ∀ D, H1 D = none → ∃ W : Nat → Nat → Hp → Prop, (∃ m, W 0 m (upd H1 D (.lst []))) ∧ ∀ i m H, W i m H →
    (J.stop i H ∧ Q (.ref D) H) ∨ (J.go i H ∧ ∃ Nx : Hp → Prop, (∀ H', Nx H' → ∃ m', m' < m ∧ W (i + 1) m' H') ∧ ∀ x H', J.yld i H x H' → g x (wipe σ vs) H' fun σ2 H2 => wipe σ2 vs = wipe σ vs ∧ tt σ2 H2 fun b H3 =>
      if b = true then te σ2 H3 fun y H4 => ∃ acc, H4 D = some (.lst acc) ∧ acc.length < sizeLine ∧ Nx (upd H4 D (.lst (acc ++ [y]))) else Nx H3)) : tLc wi g tt te vs σ H Q := h
theorem rd_for {wi : TI} {g : TG} {tb : TS} {D : Ends} (h : wi σ H fun J H1 => ∃ W : Nat → Nat → L2.St → Hp → Prop, (∃ m, W 0 m σ H1) ∧ ∀ i m σ H, W i m σ H →
    (J.stop i H ∧ D.nx σ H) ∨ (J.go i H ∧ ∃ N : L2.St → Hp → Prop, (∀ σ' H', N σ' H' → ∃ m', m' < m ∧ W (i + 1) m' σ' H') ∧ ∀ x H', J.yld i H x H' → g x σ H' fun σ2 H2 => tb { D with nx := N, ct := N, bk := D.nx } σ2 H2)) : tFor wi g tb D σ H := h
theorem rd_iStr (h : te σ H fun x H1 => ∃ z, x = .str z ∧ R (Its z) H1) : iStr te σ H R := h
theorem rd_iList (h : te σ H fun x H1 => ∃ a, x = .ref a ∧ (∃ xs, SqL K H1 a xs) ∧ R (Itl K a) H1) : iList K te σ H R := h
theorem rd_iTup (h : te σ H fun x H1 => ∃ a, x = .ref a ∧ (∃ xs, SqT K H1 a xs) ∧ R (Itt K a) H1) : iTup K te σ H R := h
theorem rd_iRng1 (h : tA σ H fun vs H1 => ∃ j : Int, vs = [.int j] ∧ -(2 ^ 62) ≤ j ∧ j < 2 ^ 62 ∧ R (Itr 0 j.toNat) H1) : iRng1 tA σ H R := h
theorem rd_iEnumT (h : tA σ H fun vs H1 => ∃ a xs, vs = [.ref a] ∧ SqT K H1 a xs ∧ R (Itet K a) H1) : iEnumT K tA σ H R := h
theorem rd_yes {QT : Bool → Hp → Prop} (h : QT true H) : tYes H' H QT := h
def rSign : R2 := fun x y H Q => ∃ (c : Nat) (z : Str), x = .str ⟨#[c]⟩ ∧ y = .str z ∧ Q (.bl (decide (c ∈ z.cps.toList))) H
theorem op_sign {X : Cx} : OpR X (compareOp .In) rSign := op_in_sign
theorem rd_sign {H : Hp} {Q : VK} {c : Nat} {z : Str} (q : Q (.bl (decide (c ∈ z.cps.toList))) H) : rSign (.str ⟨#[c]⟩) (.str z) H Q := ⟨c, z, rfl, rfl, q⟩
theorem rd_in_sign {H : Hp} {Q : VK} {c : Nat} {z : Str} (q : Q (.bl (decide (c ∈ z.cps.toList))) H) : ∃ (c' : Nat) (z' : Str), V.str ⟨#[c]⟩ = V.str ⟨#[c']⟩ ∧ V.str z = V.str z' ∧ Q (.bl (decide (c' ∈ z'.cps.toList))) H := ⟨c, z, rfl, rfl, q⟩
theorem rd_lenV {H : Hp} {Q : VK} {z : Str} (h : z.length ≤ 100000) (q : Q (.int z.length) H) : rLenStr [.str z] H Q := ⟨z, rfl, Nat.le_trans h (by decide), q⟩
theorem rd_chain {r r' : R2} {ta tb tc : TE} (h : ta σ H fun x H1 => tb σ H1 fun y H2 => r x y H2 fun z H3 => ∃ k, z = .bl k ∧ (if k = true then tc σ H3 fun w' H4 => r' y w' H4 Q else Q (.bl false) H3)) : tChain r r' ta tb tc σ H Q := h
end

theorem rd_alls {K : PySem.W.Frag} {H : Hp} {Q : VK} {a : Addr} {bs : List Bool} (h : SqL K H a (bs.map V.bl)) (q : Q (.bl (bs.all id)) H) : rAll K [.ref a] H Q := ⟨a, bs, rfl, h, q⟩
theorem rd_anys {K : PySem.W.Frag} {H : Hp} {Q : VK} {a : Addr} {bs : List Bool} (h : SqL K H a (bs.map V.bl)) (q : Q (.bl (bs.any id)) H) : rAny K [.ref a] H Q := ⟨a, bs, rfl, h, q⟩
theorem take_succ {α : Type} {xs : List α} {i : Nat} {x : α} (h : xs[i]? = some x) : xs.take (i + 1) = xs.take i ++ [x] := by
  rw [List.take_add_one, h]; rfl
/-! ### names -/
def nameOk (z : Str) : Bool := decide (1 ≤ z.length) && decide (z.length ≤ 8) && z.cps.toList.all fun c => decide (97 ≤ c) && decide (c ≤ 122)
def isInt : V → Bool
  | .int _ => true
  | _ => false
def within (v : V) (lo hi : Int) : Bool := match v with
  | .int i => decide (lo ≤ i) && decide (i ≤ hi)
  | _ => false
def isName (v : V) : Bool := match v with
  | .str z => nameOk z
  | _ => false
def alphabet : Str := "abcdefghijklmnopqrstuvwxyz"
theorem in_alphabet (c : Nat) : decide (c ∈ alphabet.cps.toList) = (decide (97 ≤ c) && decide (c ≤ 122)) := by
  have e : alphabet.cps.toList = [97, 98, 99, 100, 101, 102, 103, 104, 105, 106, 107, 108, 109, 110, 111, 112, 113, 114, 115, 116, 117, 118, 119, 120, 121, 122] := by decide +kernel
  rw [e]
  by_cases h : 97 ≤ c ∧ c ≤ 122
  · rw [decide_eq_true h.1, decide_eq_true h.2]
    refine decide_eq_true ?_
    simp only [List.mem_cons, List.not_mem_nil, or_false]
    omega
  · have z : (decide (97 ≤ c) && decide (c ≤ 122)) = false := by
      rw [Bool.and_eq_false_iff]
      by_cases h1 : 97 ≤ c
      · right; exact decide_eq_false fun h2 => h ⟨h1, h2⟩
      · left; exact decide_eq_false h1
    rw [z]
    refine decide_eq_false ?_
    simp only [List.mem_cons, List.not_mem_nil, or_false]
    omega
def spIsInteger : Sp := fun vs H Q _ => ∃ v t, vs = [v] ∧ Kd H v t ∧ Q (.bl (isInt v)) H
def spIsWithin : Sp := fun vs H Q _ => ∃ v t lo hi, vs = [v, .int lo, .int hi] ∧ Kd H v t ∧ Q (.bl (within v lo hi)) H
def spIsName : Sp := fun vs H Q _ => ∃ v t, vs = [v] ∧ Kd H v t ∧ (∀ z, v = .str z → z.length ≤ 100000) ∧ ∀ H', Same H H' → Q (.bl (isName v)) H'
theorem rd_forW {J : It} {n : Nat} {G : Hp → Prop} {Y : Nat → Hp → V → Hp → Prop} {wi : TI} {g : TG} {tb : TS} {D : Ends} {σ : L2.St} {H H1 : Hp} (hw : ∀ R : It → Hp → Prop, R J H1 → wi σ H R) (w : Walk J n G Y) (Pv : Nat → L2.St → Hp → Prop) (h0 : Pv 0 σ H1)
    (hG : ∀ i σ H, i ≤ n → Pv i σ H → G H) (hs : ∀ i x σ H H', i < n → Pv i σ H → Y i H x H' → g x σ H' fun σ2 H2 => tb { D with nx := Pv (i + 1), ct := Pv (i + 1), bk := D.nx } σ2 H2) (hd : ∀ σ H, Pv n σ H → D.nx σ H) : tFor wi g tb D σ H :=
  hw _ (for_it w Pv h0 hG hs hd)
end Lay

end

section
namespace Lay
open PySem PySem.Spec PyProof.Rows L2
theorem ite_nb {b : Bool} {A B : Prop} (h1 : b = false → A) (h2 : b = true → B) : if (!b) = true then A else B := by
  cases b
  · exact iteT (h1 rfl)
  · exact iteF (h2 rfl)
theorem rd_gtup {K : PySem.W.Frag} {n : Nat} {t : TGs} {a : Addr} {xs : List V} {σ : L2.St} {H : Hp} {Q : L2.St → Hp → Prop} (h : SqT K H a xs) (hn : xs.length = n) (q : t xs σ H Q) : gTup K n t (.ref a) σ H Q := ⟨a, xs, rfl, h, hn, q⟩
theorem rd_gcons {t : TG} {u : TGs} {v : V} {r : List V} {σ : L2.St} {H : Hp} {Q : L2.St → Hp → Prop} (q : t v σ H fun σ' H' => u r σ' H' Q) : gCons t u (v :: r) σ H Q := ⟨v, r, rfl, q⟩
theorem rd_gnil {σ : L2.St} {H : Hp} {Q : L2.St → Hp → Prop} (q : Q σ H) : gNil [] σ H Q := ⟨rfl, q⟩
/-! ### steps -/
def memWords : List Str := ["read", "write", "get", "put", "clean", "drop", "flush"]
def sigWords : List Str := ["post", "wait"]
def GoodStep (ws : List Str) (l : List V) : Prop :=
  (∃ w n, l = [.str w, .str n] ∧ w ∈ sigWords ∧ w ∈ ws ∧ nameOk n = true) ∨
  (∃ w n s f e, l = [.str w, .str n, .int s, .int f, .int e] ∧ w ∈ memWords ∧ w ∈ ws ∧ nameOk n = true ∧ 0 ≤ s ∧ s ≤ 3 ∧ 0 ≤ f ∧ f ≤ e ∧ e ≤ 7)
def StepAt (H : Hp) (ws : List Str) (v : V) : Prop := ∃ p l, v = .ref p ∧ H p = some (.tup l) ∧ GoodStep ws l
theorem StepAt.mono {H H' : Hp} {ws : List Str} {v : V} (s : Same H H') (h : StepAt H ws v) : StepAt H' ws v := by
  obtain ⟨p, l, e, h, g⟩ := h
  exact ⟨p, l, e, s _ _ h, g⟩
theorem nameOk_len {z : Str} (h : nameOk z = true) : 1 ≤ z.length ∧ z.length ≤ 8 := by
  unfold nameOk at h
  rw [Bool.and_eq_true, Bool.and_eq_true] at h
  exact ⟨of_decide_eq_true h.1.1, of_decide_eq_true h.1.2⟩
def spMemStep : Sp := fun vs H Q _ => ∃ p w n s f e, vs = [.ref p] ∧ H p = some (.tup [.str w, .str n, .int s, .int f, .int e]) ∧ w ∈ memWords ∧ nameOk n = true ∧ 0 ≤ s ∧ s ≤ 3 ∧ 0 ≤ f ∧ f ≤ e ∧ e ≤ 7 ∧ ∀ H', Same H H' → Q (.bl true) H'
def spIsStep : Sp := fun vs H Q _ => ∃ p l ws, vs = [.ref p] ∧ H p = some (.tup l) ∧ GoodStep ws l ∧ ∀ H', Same H H' → Q (.bl true) H'
def spCheckAgent (K : PySem.W.Frag) : Sp := fun vs H Q _ => ∃ z t wt ws steps, vs = [.str z, .ref t, .ref wt] ∧ nameOk z = true ∧ H t = some (.tup steps) ∧ 1 ≤ steps.length ∧ steps.length ≤ 24 ∧ SqT K H wt (ws.map V.str) ∧
  (∀ s ∈ steps, StepAt H ws s) ∧ ∀ H', Same H H' → Q .non H'
theorem inStrs_of {w : Str} {zs : List Str} (h : w ∈ zs) : inStrs (.str w) zs = true := by
  show zs.contains w = true
  rw [List.contains_iff_mem]; exact h
theorem of_inStrs {w : Str} {zs : List Str} (h : inStrs (.str w) zs = false) : w ∉ zs := fun m => by
  rw [inStrs_of m] at h; cases h
end Lay
namespace Lay
open PySem PySem.Spec PyProof.Rows L2
section
variable {K : PySem.W.Frag} {σ : L2.St} {H : Hp} {D : Ends} {ta tv : TE} {f : Str}
theorem rd_sFld (h : tv σ H fun y H1 => ta σ H1 fun x H2 => ∃ a C dx fs, x = .ref a ∧ H2 a = some (.ins C dx fs) ∧ Cls K C ∧ NoAttr K C f ∧ fs.length < 1000 ∧ D.nx σ (upd H2 a (.ins C dx (putF f y fs)))) : sFld K ta tv f D σ H := h
theorem rd_tFld {Q : VK} (h : ta σ H fun x H1 => ∃ a C dx fs v, x = .ref a ∧ H1 a = some (.ins C dx fs) ∧ Cls K C ∧ NoAttr K C f ∧ fs.lookup f = some v ∧ Q v H1) : tFld K ta f σ H Q := h
theorem rd_tCon {Q : VK} (h : ta σ H fun x H1 => ∃ a C dx fs v u, x = .ref a ∧ H1 a = some (.ins C dx fs) ∧ Cls K C ∧ Con K C f v u ∧ fs.lookup f = none ∧ Q v H1) : tCon K ta f σ H Q := h
theorem rd_makeR {C : Addr} {sp : Sp} {E : XK} {t : TA} {Q : VK} (h : t σ H fun vs H1 => ∀ x dx, H1 x = none → H1 dx = none → dx ≠ x →
  sp (V.ref x :: vs) (upd (upd H1 dx (.own x)) x (.ins C dx [])) (fun v H2 => v = .non ∧ Q (.ref x) H2) E) : StX.tMakeR C sp E t σ H Q := h
theorem rd_cval {Q : VK} (h : ta σ H fun x H1 => ∃ C mc v u, x = .ref C ∧ ClX.CRead K C mc ∧ ClX.CVal K C mc f v u ∧ Q v H1) : ClX.tCVal K ta f σ H Q := h
theorem rd_meth {C : Addr} {m : Str} {sp : Sp} {dvs : List V} {E : XK} {t : TA} {Q : VK} (h : ta σ H fun x H1 => ∃ a dx fs, x = .ref a ∧ H1 a = some (.ins C dx fs) ∧ fs.lookup m = none ∧ t σ H1 fun vs H2 => sp (x :: (vs ++ dvs)) H2 Q E) : tMeth C m sp dvs E ta t σ H Q := h
end
/-- an agent's fields -/
def agentF (z : Str) (t : Addr) : List (Str × V) := [("name", .str z), ("steps", .ref t)]
theorem putF_agent (z : Str) (t : Addr) : putF "steps" (.ref t) (putF "name" (.str z) []) = agentF z t := by
  have h : ¬ (("name" : Str) = "steps") := by decide +kernel
  show (if ("name" : Str) = "steps" then _ else (("name" : Str), V.str z) :: putF "steps" (V.ref t) []) = _
  rw [if_neg h]
  rfl
/-- an agent of the class C, of the name z, with these steps -/
def AgentAt (C : Addr) (H : Hp) (a : Addr) (z : Str) (steps : List V) : Prop := ∃ dx t, H a = some (.ins C dx (agentF z t)) ∧ H t = some (.tup steps)
theorem AgentAt.mono {C : Addr} {H H' : Hp} {a : Addr} {z : Str} {steps : List V} (s : Same H H') (h : AgentAt C H a z steps) : AgentAt C H' a z steps := by
  obtain ⟨dx, t, h1, h2⟩ := h
  exact ⟨dx, t, s _ _ h1, s _ _ h2⟩
/-- __init__(self, name, *steps), the steps good ones -/
def spAgentInit (C : Addr) (ws : List Str) : Sp := fun vs H Q _ => ∃ x dx z t steps, vs = [.ref x, .str z, .ref t] ∧ H x = some (.ins C dx []) ∧ nameOk z = true ∧ H t = some (.tup steps) ∧ 1 ≤ steps.length ∧ steps.length ≤ 24 ∧ (∀ s ∈ steps, StepAt H ws s) ∧
  ∀ H', AgentAt C H' x z steps → Keep x H H' → Q .non H'
def spStar (n : Nat) (sp : Sp) : Sp := fun vs H Q E => ∃ ws rest, vs = ws ++ rest ∧ ws.length = n ∧ rest.length ≤ sizeLine ∧ ∀ p, H p = none → sp (ws ++ [V.ref p]) (upd H p (.tup rest)) Q E
end Lay

end

section
namespace Lay
open PySem PySem.Spec PyProof.Rows L2
def spMay (zs : List Str) : Sp := fun vs H Q _ => ∃ x v t, vs = [x, v] ∧ Kd H v t ∧ Q (.bl (inStrs v zs)) H
/-- a value of some kind is drawn from a pen of which at most n cells were begun; m cells are begun by it -/
def spAny (m : Nat) : Sp := fun vs H Q _ => ∃ (p : Addr) (n : Nat) (c : Addr), vs = [.ref p] ∧ PenAt c H p n ∧ n + m < 100000 ∧ ∀ v t H', Kd H' v t → PenAt c H' p (n + m) → Keep p H H' → Q v H'
theorem inStrs_same {v : V} {zs ys : List Str} (h : ∀ z, z ∈ zs ↔ z ∈ ys) : inStrs v zs = inStrs v ys := by
  cases v with
  | str z =>
    show zs.contains z = ys.contains z
    rw [Bool.eq_iff_iff, List.contains_iff_mem, List.contains_iff_mem]
    exact h z
  | _ => rfl
theorem PenAt.at_ {c : Addr} {H : Hp} {p : Addr} {n : Nat} (h : PenAt c H p n) : ∃ xs, H p = some (.lst xs) := by
  obtain ⟨ns, b, l, e, _⟩ := h
  exact ⟨_, e⟩
theorem PenAt.cell {c : Addr} {H : Hp} {p : Addr} {n : Nat} (h : PenAt c H p n) : ∃ xs, H c = some (.lst xs) := by
  obtain ⟨ns, b, l, _, e, _⟩ := h
  exact ⟨_, e⟩
theorem PenAt.other {c : Addr} {H : Hp} {p a : Addr} {o : HO} {n : Nat} (h : PenAt c H p n) (h1 : a ≠ p) (h2 : a ≠ c) : PenAt c (upd H a o) p n := by
  obtain ⟨ns, b, l, e1, e2, r⟩ := h
  exact ⟨ns, b, l, by rw [upd_ne h1.symm]; exact e1, by rw [upd_ne h2.symm]; exact e2, r⟩
theorem Same.keep {p : Addr} {H H1 H2 : Hp} (a : Same H H1) (b : Keep p H1 H2) : Keep p H H2 := fun c o n h => b c o n (a c o h)
theorem Keep.frz {p : Addr} {H H1 : Hp} (k : Keep p H H1) {b : Addr} {o : HO} (hb : b ≠ p) (h : H b = some o) : H1 b = some o := k b o hb h
theorem rd_disp {trs : List (TE × TE)} {σ : L2.St} {H : Hp} {Q : VK} (h : ∀ p, H p = none → tPairs trs σ (upd H p (.dK [])) fun ps H2 => H2 p = some (.dK []) ∧ ∃ kvs : List (Key × V), ps = kvs.map (fun kv => (kV kv.1, kv.2)) ∧ kvs.length ≤ 15 ∧ Q (.ref p) (upd H2 p (.dK (mergeK [] kvs)))) : tDisp trs σ H Q := h
theorem rd_dnew {σ : L2.St} {H : Hp} {Q : VK} (h : ∀ p, H p = none → Q (.ref p) (upd H p (.dK []))) : tDNewK σ H Q := h
theorem rd_pcons {tk tv : TE} {r : List (TE × TE)} {σ : L2.St} {H : Hp} {Q : List (V × V) → Hp → Prop} (h : tk σ H fun x H1 => tv σ H1 fun y H2 => tPairs r σ H2 fun ps H3 => Q ((x, y) :: ps) H3) : tPairs ((tk, tv) :: r) σ H Q := h
theorem rd_pnil {σ : L2.St} {H : Hp} {Q : List (V × V) → Hp → Prop} (h : Q [] H) : tPairs [] σ H Q := h
theorem rd_cat {l b : Addr} {xs zs : List V} {H : Hp} {Q : VK} (hl : H l = some (.lst xs)) (hb : H b = some (.lst zs)) (hz : xs.length + zs.length ≤ sizeLine) (q : ∀ p, H p = none → Q (.ref p) (upd H p (.lst (xs ++ zs)))) : rCat (.ref l) (.ref b) H Q := ⟨l, b, xs, zs, rfl, rfl, hl, hb, hz, q⟩
theorem none_of {H H' : Hp} {p : Addr} (s : Same H H') (h : H' p = none) : H p = none := by
  cases e : H p with
  | none => rfl
  | some o => rw [s _ _ e] at h; cases h
theorem cut63 {xs : List V} (h : xs.length ≤ 63) : cutV xs none (some 63) = xs := by
  have e : HT.sIx xs.length xs.length (some 63) = xs.length := by
    unfold HT.sIx
    dsimp only
    split <;> omega
  unfold cutV
  rw [e]
  show List.take (xs.length - 0) (List.drop 0 xs) = xs
  simp
theorem pen_at {H : Hp} {p l : Addr} {ns : List Int} (h1 : H p = some (.lst [.ref l, .int 0, .int 0])) (h2 : H l = some (.lst (ns.map V.int))) (h3 : ns.length ≤ 63) : PenAt l H p 0 := ⟨ns, 0, 0, h1, h2, h3, by decide, by decide, by decide⟩
/-- each value of a row is of some kind -/
def Kds (H : Hp) (xs : List V) : Prop := ∀ v ∈ xs, ∃ t, Kd H v t
theorem Kds.nil {H : Hp} : Kds H [] := fun v h => nomatch h
theorem Kds.cons {H : Hp} {x : V} {t : Kn} {xs : List V} (h : Kd H x t) (r : Kds H xs) : Kds H (x :: xs) := fun v m => by
  rcases List.mem_cons.mp m with e | m
  · subst e; exact ⟨t, h⟩
  · exact r v m
theorem upd2 {H : Hp} {p : Addr} {o u : HO} : upd (upd H p o) p u = upd H p u := by
  funext b
  by_cases e : b = p
  · subst e; rw [upd_same, upd_same]
  · rw [upd_ne e, upd_ne e, upd_ne e]
theorem rd_draw {p c : Addr} {m : Int} {n : Nat} {H0 H : Hp} {Q : VK} {E : XK} (h0 : PenAt c H0 p n) (s : Same H0 H) (hn : n < 100000) (hm : 0 < m) (hm2 : m < 1073741824) (q : ∀ (d : Int) (H' : Hp), 0 ≤ d → d < m → PenAt c H' p (n + 1) → Keep p H H' → Q (.int d) H') : spDraw [.ref p, .int m] H Q E := ⟨p, m, n, c, rfl, h0.mono s, hn, hm, hm2, q⟩
theorem ne_none {H : Hp} {a p : Addr} {o : HO} (h : H a = none) (h' : H p = some o) : a ≠ p := fun e => by
  subst e; rw [h] at h'; cases h'
theorem rd_ixK {K : PySem.W.Frag} {H : Hp} {Q : VK} {a : Addr} {xs : List V} {d : Int} (h : SqL K H a xs) (h0 : 0 ≤ d) (h1 : d < xs.length) (kd : Kds H xs) (q : ∀ v t, Kd H v t → Q v H) : rIxL K (.ref a) (.int d) H Q := by
  have hd : d.toNat < xs.length := by omega
  obtain ⟨t, k⟩ := kd xs[d.toNat] (List.getElem_mem hd)
  exact rd_ixL h (atI_int h0 (List.getElem?_eq_getElem hd)) (q _ t k)
/-- an agent: a name and steps, at a heap -/
def InsAt (C : Addr) (H : Hp) (a : Addr) : Prop := ∃ dx z t, H a = some (.ins C dx (agentF z t))
theorem InsAt.keep {C p : Addr} {H H' : Hp} {a : Addr} (h : InsAt C H a) (k : Keep p H H') (n : a ≠ p) : InsAt C H' a := by
  obtain ⟨dx, z, t, e⟩ := h
  exact ⟨dx, z, t, k _ _ n e⟩
theorem InsAt.mono {C : Addr} {H H' : Hp} {a : Addr} (h : InsAt C H a) (s : Same H H') : InsAt C H' a := by
  obtain ⟨dx, z, t, e⟩ := h
  exact ⟨dx, z, t, s _ _ e⟩
def spRight (C : Addr) (m : Int) : Sp := fun vs H Q _ => ∃ a v t, vs = [.ref a, .int m, v] ∧ InsAt C H a ∧ Kd H v t ∧ ∀ H', Same H H' → Q (.bl true) H'
def spFamily : Sp := fun vs H Q _ => ∃ (p : Addr) (n : Nat) (c : Addr), vs = [.ref p] ∧ PenAt c H p n ∧ n + 19 < 100000 ∧ ∀ H', PenAt c H' p (n + 19) → Keep p H H' → Q (.bl true) H'
theorem rd_isiV {K : PySem.W.Frag} {H : Hp} {Q : VK} {x : V} {t : Kn} (n : Kn) (b : Bool) (k : Kd H x t) (e : isTy t n = b) (q : Q (.bl b) H) : rIsi K [x, .ty n.name] H Q := rd_isi n k (by rw [e]; exact q)
theorem rd_meth1 {C a dx : Addr} {m : Str} {sp : Sp} {E : XK} {t : TA} {ta : TE} {fs : List (Str × V)} {σ : L2.St} {H H1 : Hp} {Q : VK} (ha : ∀ Q' : VK, Q' (.ref a) H1 → ta σ H Q') (h : H1 a = some (.ins C dx fs)) (hl : fs.lookup m = none) (q : t σ H1 fun vs H2 => sp (.ref a :: vs) H2 Q E) : tMeth C m sp [] E ta t σ H Q :=
  ha _ ⟨a, dx, fs, rfl, h, hl, by simpa using q⟩
theorem q_true {Q : VK} {b : Bool} {H : Hp} (e : b = true) (q : Q (.bl true) H) : Q (.bl b) H := by rw [e]; exact q
theorem same_words (v : V) : (inStrs v ["read", "write", "get", "put", "clean", "drop", "flush", "post", "wait"] == inStrs v ["read", "write", "post", "wait", "clean", "drop", "flush", "get", "put"]) = true := by
  rw [inStrs_same (ys := ["read", "write", "post", "wait", "clean", "drop", "flush", "get", "put"]) (fun z => by
    simp only [List.mem_cons, List.not_mem_nil, or_false]
    constructor
    · rintro (h | h | h | h | h | h | h | h | h) <;> simp [h]
    · rintro (h | h | h | h | h | h | h | h | h) <;> simp [h])]
  exact beq_self_eq_true _
theorem kit_own {K : PySem.W.Frag} {C D : Addr} {b : Bool} (h1 : PySem.W.mroIn K D (.type "object") = some true) (h2 : PySem.W.typeIn K (.ref D) = some (.type "type")) (h4 : PySem.W.subIn K (.ref D) (.ref D) = some true) (h3 : PySem.W.subIn K (.ref C) (.ref D) = some b) : PySem.W.kitOne K (.ref C) (.ref D) = some b := by
  unfold PySem.W.kitOne
  by_cases e : C = D
  · subst e
    rw [h4] at h3
    cases h3
    exact if_pos (beq_self_eq_true _)
  · rw [if_neg (fun z => e (by injection eq_of_beq z))]
    unfold PySem.W.kitCls
    have h5 : (PySem.W.clsIn K D).isSome = true := by
      unfold PySem.W.mroIn at h1
      cases hh : PySem.W.clsIn K D with
      | none => rw [hh] at h1; cases h1
      | some _ => rfl
    dsimp only
    rw [h5, h2]
    exact h3
theorem rd_isiC {K : PySem.W.Frag} {H : Hp} {Q : VK} {x : V} {t : Value} {D : Addr} {b : Bool} (hx : TyX K H x t) (h : PySem.W.kitOne K t (.ref D) = some b) (q : Q (.bl b) H) : rIsi K [x, .ref D] H Q :=
  ⟨x, .ref D, t, .ref D, b, rfl, .own D, hx, h, q⟩
end Lay
namespace Lay
open PySem PySem.Spec PyProof.Rows L2
theorem mk_agent {C : Addr} {ws : List Str} {H : Hp} {z : Str} {t0 : Addr} {Q : Addr → Hp → Prop} {E : XK} (hz : nameOk z = true) (h0 : H t0 = some (.tup [.str "post", .str "s"])) (hw : Str.ofString "post" ∈ ws) (q : ∀ x H', H x = none → Same H H' → InsAt C H' x → Q x H') :
    ∀ x dx, H x = none → H dx = none → dx ≠ x → spStar 2 (spAgentInit C ws) [.ref x, .str z, .ref t0] (upd (upd H dx (.own x)) x (.ins C dx [])) (fun v H2 => v = .non ∧ Q x H2) E := by
  intro x dx hx hd hne
  have s1 : Same H (upd (upd H dx (.own x)) x (.ins C dx [])) := Lay.Same.upd' (Same.upd hd) (by rw [upd_ne hne.symm]; exact hx)
  refine ⟨[.ref x, .str z], [.ref t0], rfl, rfl, (by show 1 ≤ sizeLine; decide), fun p hp => ?_⟩
  have s2 := Lay.Same.upd' (o := .tup [.ref t0]) s1 hp
  refine ⟨x, dx, z, p, [.ref t0], rfl, upd_old hp upd_same, hz, upd_same, (by show 1 ≤ 1; decide), (by show 1 ≤ 24; decide), ?_, ?_⟩
  · intro s m
    rw [List.mem_singleton] at m
    subst m
    exact ⟨t0, _, rfl, s2 _ _ h0, .inl ⟨_, _, rfl, (by decide), hw, (by decide +kernel)⟩⟩
  · rintro H' ⟨dx', t, e1, e2⟩ keep
    refine ⟨rfl, q x H' hx (fun b o e => keep b o (fun y => by subst y; rw [hx] at e; cases e) (s2 _ _ e)) ⟨dx', z, t, e1⟩⟩
theorem iteNT {A B : Prop} (h : B) : if (!true) = true then A else B := h
theorem iteNF {A B : Prop} (h : A) : if (!false) = true then A else B := h
theorem dma_ok {d : Int} (h0 : 0 ≤ d) (h1 : d < 3) : nameOk (cutS "dma" none (some (1 + d))) = true := by
  obtain rfl | rfl | rfl : d = 0 ∨ d = 1 ∨ d = 2 := by omega
  all_goals decide +kernel
theorem dp_ne {K : PySem.W.Frag} {H : Hp} {Q : VK} {x y : V} (d e : PyData) (hx : Dp K H x d) (hy : Dp K H y e) (h1 : SeqAt.shaped d = true) (h2 : SeqAt.shaped e = true) (h3 : PyData.eqv d e = true) (q : Q (.bl false) H) : rNeD K x y H Q := ⟨d, e, hx, hy, h1, h2, by rw [h3]; exact q⟩
end Lay

end

section
namespace OwnC
open PySem L2 PySem.Spec PyProof.Rows
/-- the type of a value, as == asks it -/
inductive KTy (K : PySem.W.Frag) (H : Hp) : V → Value → Prop
  | non : KTy K H .non (.type "NoneType")
  | bl (b : Bool) : KTy K H (.bl b) (.type "bool")
  | int (i : Int) : KTy K H (.int i) (.type "int")
  | str (z : Str) : KTy K H (.str z) (.type "str")
  | tup {a : Addr} {xs : List V} (h : SqT K H a xs) : KTy K H (.ref a) (.type "tuple")
  | lst {a : Addr} {xs : List V} (h : SqL K H a xs) : KTy K H (.ref a) (.type "list")
  | ins {a C dx : Addr} {fs : List (Str × V)} (h : H a = some (.ins C dx fs)) : KTy K H (.ref a) (.ref C)
section
variable {X : Cx} {H : Hp} {s : Shared} {σ : L2.St} {pins : List (Addr × Obj)}
theorem looks_ty {y : V} {v T : Value} (I : Inv X pins σ H s) (r : RelV y v) (k : KTy X.K H y T) {M : Model} : PySem.W.Looks M s.heap (typeOf v) T := by
  cases k with
  | non => cases r; exact PySem.W.Looks.of_pure rfl
  | bl b => cases r; exact PySem.W.Looks.of_pure rfl
  | int i => obtain ⟨t, rfl⟩ := r; exact PySem.W.Looks.of_pure rfl
  | str z => obtain ⟨t, rfl⟩ := r; exact PySem.W.Looks.of_pure rfl
  | tup h =>
    cases r
    obtain ⟨its, _, pl, _⟩ := I.tuple h
    obtain ⟨o, h1, h2, _⟩ := id pl
    exact h2 ▸ (PySem.W.Looks.ld h1).andThen .now
  | lst h =>
    cases r
    obtain ⟨its, _, pl, _⟩ := I.list h
    obtain ⟨o, h1, h2, _⟩ := pl.isList
    exact h2 ▸ (PySem.W.Looks.ld h1).andThen .now
  | ins h =>
    cases r
    obtain ⟨_, J, _⟩ := ins_get I.hok h
    obtain ⟨_, J, _⟩ := J.look
    exact J.type
variable {CX : CXT} {n : Nat} {f C : Addr} {fd : FuncData} {ps : List Str} {sp : Sp} {E : XK}
/-- a def of two parameters is called -/
theorem call_two {A : Around} {Q : VK} {x y : V} {u v : Value} (F : FnOk X.prog X.w X.K X.mg X.base CX n f fd ps sp) (hb : Binds X.K fd ps []) (hx : Passes CX X E) (I : Inv X pins σ H s) (hr : Room n A)
    (e0 : Env0 X.prog X.w X.K X.mg X.base A X.stack s H) (rx : RelV x u) (ry : RelV y v) (q : sp [x, y] H Q E) : wpAny (model X.prog X.w) A (call (.ref f) [u, v]) (EP X pins σ Q) X.xe s := by
  have hl : [x, y].length = ps.length := F.len _ _ _ _ q
  refine wpAny_call (codeAny_mono (F.run A X.stack s H ⟨[u, v], []⟩ [u, v] [x, y] Q E hr e0 ?_ (.cons rx (.cons ry .nil)) q) fun r s2 hq => ?_)
  · have := hb s [u, v] I.kIn (by simpa using hl)
    simpa using this
  · cases r with
    | error e => exact hx pins σ H s e s2 I hq
    | ok fl =>
      cases fl with
      | ret w' => exact I.after hq
      | _ => exact False.elim hq
end
def rOwn (K : PySem.W.Frag) (C : Addr) (sp : Sp) (E : XK) : R2 := fun x y H Q => ∃ a dx fs T, x = .ref a ∧ H a = some (.ins C dx fs) ∧ KTy K H y T ∧ PySem.W.notFirst K C T = true ∧ sp [x, y] H Q E
section
variable {X : Cx} {CX : CXT} {n : Nat} {f C : Addr} {fd : FuncData} {ps : List Str} {sp : Sp} {E : XK}
theorem op_cmp {op : CmpOp} (hop : ∀ a b, compareOp op a b = richCompare op a b) (F : FnOk X.prog X.w X.K X.mg X.base CX n f fd ps sp) (hb : Binds X.K fd ps []) (hs : PySem.W.findIn X.K (.ref C) (cmpInfo op).2.1 = some (some (.ref f))) (hf : PySem.W.isFn X.K (.ref f) = true)
    (hx : Passes CX X E) (hr : Room n X.A) : OpR X (compareOp op) (rOwn X.K C sp E) := by
  intro pn s st H x y v u Q I rx ry told
  obtain ⟨a, dx, fs, T, rfl, ha, k, hn, q⟩ := told
  have ev : v = Value.ref a := rx
  subst ev
  obtain ⟨m1, J, _⟩ := ins_get I.hok ha
  obtain ⟨od, J, _⟩ := J.look
  obtain ⟨m, hF⟩ := I.fr
  rw [hop]
  refine PySem.W.cmp_K (op := op) (tb := T) hr.units0 hF I.ok.mod.kin J (looks_ty I ry k) hn hs hf ?_
  refine wpAny_mono (call_two F hb hx I hr I.env0 rx ry q) (fun r s' z => ?_) fun _ _ e => e
  obtain ⟨z2, H2, I2, rz, qz⟩ := z
  exact SlX.cmpback rz ⟨z2, H2, I2, rz, qz⟩
theorem op_eqI (F : FnOk X.prog X.w X.K X.mg X.base CX n f fd ps sp) (hb : Binds X.K fd ps []) (hs : PySem.W.findIn X.K (.ref C) "__eq__" = some (some (.ref f))) (hf : PySem.W.isFn X.K (.ref f) = true)
    (hr : Room n X.A) (hx : Passes CX X E) : OpR X (compareOp .Eq) (rOwn X.K C sp E) := op_cmp (fun _ _ => rfl) F hb hs hf hx hr
end
/-! ### != by an own == -/
section
variable {prog : Program} {w : World} {A : Around} {E : Value → Shared → Prop} {s : Shared} {K : PySem.W.Frag} {x C L f : Addr} {ox : Obj} {od : Option Obj} {b tb : Value} {h₀ : Heap} {m : Str → Option Value}
theorem entry_ne (hu : A.units < cLine) (X : K.In s.heap) (I : PySem.W.InstAt s.heap x ox C od) (hs : PySem.W.findIn K (.ref C) "__eq__" = some (some (.ref f))) (hf : PySem.W.isFn K (.ref f) = true) {Q : Fin → Shared → Prop}
    (h : wpAny (model prog w) A (call (.ref f) [.ref x, b]) (fun v s' => ∃ r, v = .bool r ∧ Q (.done (.ret (.bool (!r)))) s') E s) : wpAny (model prog w) A (Builtin.«object.__ne__» ⟨[.ref x, b], []⟩) Q E s := by
  delta Builtin.«object.__ne__»; repeat (first
    | (with_reducible refine wpAny_cRoomFor hu ?_)
    | (refine wpAny_bind (m := callSpecialIfBound? (.ref x) (Str.ofString "__eq__") [b]) (PySem.W.ifBound_K X I hs hf (wpAny_mono h (fun r s' hr => ?_) fun _ _ e => e))
       obtain ⟨q, rfl, hq⟩ := hr
       repeat (first | exact hq | exact wpAny_pure hq | exact wpAny_truthy_bool hq | (refine wpAny_bind (m := truthy (.bool _)) (wpAny_truthy_bool ?_)) | wp_step))
    | wp_step)
theorem call_ne {Q : Value → Shared → Prop} (hu : A.units + 1 < cLine) (X : K.In s.heap) (I : PySem.W.InstAt s.heap x ox C od) (hm : PySem.W.mroIn K C (.type "object") = some true) (hs : PySem.W.findIn K (.ref C) "__eq__" = some (some (.ref f))) (hf : PySem.W.isFn K (.ref f) = true)
    (h : wpAny (model prog w) A.in1 (call (.ref f) [.ref x, b]) (fun v s' => ∃ r, v = .bool r ∧ Q (.bool (!r)) s') E s) : wpAny (model prog w) A (call (.builtin "object.__ne__") [.ref x, b]) Q E s := by
  refine wpAny_call (codeAny_call_builtin F.cmp_object.ne.plain F.cmpEntry_ne (PySem.W.check_slot F.cmpKind_ne F.cmpSplit_ne (I.type.andThen (PySem.W.looks_mroIn X hm)) (F.cmpArgs_ne _ _) ?_))
  exact entry_ne (A := A.in1) hu X I hs hf (wpAny_mono h (fun v s' z => z) fun _ _ e => e)
theorem bound_ne {M : Model} {args : List Value} {Q : Option Value → Shared → Prop} (X : K.In s.heap) (I : PySem.W.InstAt s.heap x ox C od) (hs : PySem.W.findIn K (.ref C) "__ne__" = some (some (.builtin "object.__ne__")))
    (h : wpAny M A (call (.builtin "object.__ne__") (.ref x :: args)) (fun v => Q (some v)) E s) : wpAny M A (callSpecialIfBound? (.ref x) "__ne__" args) Q E s := by
  have fin : wpAny M A (call (.builtin "object.__ne__") ([.ref x] ++ args) >>= fun v => pure (some v)) Q E s := wpAny_bind (wpAny_mono h (fun v s' q => wpAny_pure q) fun _ _ q => q)
  simp only [bindSpecialIfBound?, callSpecialIfBound?]
  have see := PySem.W.looks_findIn (M := M) X hs
  refine wpAny_holding (wpAny_bind (wpAny_bind (wpAny_bind (I.type.here (see.here (wpAny_bind (wpAny_askSetting (wpAny_ite ?_))))))))
  split
  · exact wpAny_bind (wpAny_of_eq (F.cmp_object.ne.bind _) (wpAny_pure (by exact fin)))
  · exact wpAny_tryCatch (wpAny_bind (wpAny_of_eq (F.cmp_object.ne.bind _) (wpAny_pure (by exact fin))))
theorem ne_own {Q : Value → Shared → Prop} (hu : A.units + 1 < cLine) (Fr' : PyProof.Rows.Fr h₀ L s.heap m) (X₀ : K.In h₀) (I : PySem.W.InstAt s.heap x ox C od) (hb : PySem.W.Looks (model prog w) s.heap (typeOf b) tb) (hn : PySem.W.notFirst K C tb = true)
    (hm : PySem.W.mroIn K C (.type "object") = some true) (hne : PySem.W.findIn K (.ref C) "__ne__" = some (some (.builtin "object.__ne__"))) (hs : PySem.W.findIn K (.ref C) "__eq__" = some (some (.ref f))) (hf : PySem.W.isFn K (.ref f) = true)
    (h : wpAny (model prog w) A.in1 (call (.ref f) [.ref x, b]) (fun v s' => ∃ r, v = .bool r ∧ Q (.bool (!r)) s') E s) : wpAny (model prog w) A (richCompare .NotEq (.ref x) b) Q E s := by
  have X := X₀.keeps Fr'.keep
  have one : wpAny (model prog w) A (tryCompare (.ref x) "__ne__" b) (fun r s' => ∃ v, r = some (.bool v) ∧ Q (.bool v) s') E s := by
    unfold tryCompare
    refine wpAny_bind (bound_ne X I hne (call_ne hu X I hm hs hf (wpAny_mono h (fun v s' z => ?_) fun _ _ e => e)))
    obtain ⟨r, rfl, q⟩ := z
    exact ⟨r, rfl, wpAny_pure ⟨_, rfl, q⟩⟩
  unfold richCompare
  simp only [oneThing_ref]
  refine wpAny_holding (wpAny_bind (wpAny_cRoomFor (by omega) ?_))
  rw [cmpInfo_NotEq]
  dsimp only
  refine wpAny_bind (I.type.here ?_)
  refine wpAny_bind (hb.here ?_)
  split
  · rename_i uneq
    have below : PySem.W.subIn K tb (.ref C) = some false := by
      have two := Bool.or_eq_true_iff.mp hn
      refine two.elim (fun e => ?_) (fun e => beq_iff_eq.mp e)
      rw [beq_iff_eq.mp e] at uneq
      simp at uneq
    refine wpAny_bind ((PySem.W.looks_subIn X below).here ?_)
    simp only [if_false, Bool.false_eq_true]
    refine wpAny_bind (m := tryCompare (.ref x) _ b) (wpAny_mono one (fun r s' z => ?_) fun _ _ e => e)
    obtain ⟨v, rfl, hq⟩ := z
    exact wpAny_pure hq
  · refine wpAny_bind ?_
    refine wpAny_pure ?_
    simp only [if_false, Bool.false_eq_true]
    refine wpAny_bind (m := tryCompare (.ref x) _ b) (wpAny_mono one (fun r s' z => ?_) fun _ _ e => e)
    obtain ⟨v, rfl, hq⟩ := z
    exact wpAny_pure hq
end
/-- x != y by the own ==: what it tells is turned round -/
def rNeOwn (K : PySem.W.Frag) (C : Addr) (sp : Sp) (E : XK) : R2 := fun x y H Q => ∃ a dx fs T, x = .ref a ∧ H a = some (.ins C dx fs) ∧ KTy K H y T ∧ PySem.W.notFirst K C T = true ∧ sp [x, y] H (fun v H' => ∃ b, v = .bl b ∧ Q (.bl (!b)) H') E
section
variable {X : Cx} {CX : CXT} {n : Nat} {f C : Addr} {fd : FuncData} {ps : List Str} {sp : Sp} {E : XK}
theorem op_neI (F : FnOk X.prog X.w X.K X.mg X.base CX n f fd ps sp) (hb : Binds X.K fd ps []) (hs : PySem.W.findIn X.K (.ref C) "__eq__" = some (some (.ref f))) (hf : PySem.W.isFn X.K (.ref f) = true)
    (hm : PySem.W.mroIn X.K C (.type "object") = some true) (hne : PySem.W.findIn X.K (.ref C) "__ne__" = some (some (.builtin "object.__ne__")))
    (hr : Room (n + 1) X.A) (hx : Passes CX X E) : OpR X (compareOp .NotEq) (rNeOwn X.K C sp E) := by
  intro pn s st H x y v u Q I rx ry told
  obtain ⟨a, dx, fs, T, rfl, ha, k, hn, q⟩ := told
  have ev : v = Value.ref a := rx
  subst ev
  obtain ⟨m1, J, _⟩ := ins_get I.hok ha
  obtain ⟨od, J, _⟩ := J.look
  obtain ⟨m, hF⟩ := I.fr
  show wpAny (model X.prog X.w) X.A (richCompare .NotEq (.ref a) u) (EP X pn st Q) X.xe s
  refine ne_own (tb := T) hr.in1.units0 hF I.ok.mod.kin J (looks_ty I ry k) hn hm hne hs hf ?_
  refine wpAny_mono (call_two F hb hx I hr.in1 I.env0.in1 rx ry q) (fun r s' z => ?_) fun _ _ e => e
  obtain ⟨z', H', I', rz, b, rfl, qz⟩ := z
  cases rz
  exact ⟨b, rfl, ⟨.bl _, H', I', rfl, qz⟩⟩
end
end OwnC

end

section
namespace OwnC
open PySem L2 PySem.Spec PyProof.Rows
/-- the class C has under a name a def that keeps a promise -/
structure OwnM (X : Cx) (CX : CXT) (n : Nat) (C : Addr) (name : Str) (sp : Sp) (E : XK) : Prop where
  ok : ∃ (f : Addr) (fd : FuncData) (ps : List Str), FnOk X.prog X.w X.K X.mg X.base CX n f fd ps sp ∧ Binds X.K fd ps [] ∧ PySem.W.findIn X.K (.ref C) name = some (some (.ref f)) ∧ PySem.W.isFn X.K (.ref f) = true
  out : Passes CX X E
/-- what object gives of != -/
structure NeC (K : PySem.W.Frag) (C : Addr) : Prop where
  mro : PySem.W.mroIn K C (.type "object") = some true
  ne : PySem.W.findIn K (.ref C) "__ne__" = some (some (.builtin "object.__ne__"))
section
variable {X : Cx} {pins : List (Addr × Obj)} {σ : L2.St} {H : Hp} {s : Shared}
theorem call_own2 {CX : CXT} {n : Nat} {C : Addr} {name : Str} {sp : Sp} {E : XK} {A : Around} {Q : VK} {x y : V} {u v : Value} (o : OwnM X CX n C name sp E) (I : Inv X pins σ H s) (hr : Room n A)
    (e0 : Env0 X.prog X.w X.K X.mg X.base A X.stack s H) (rx : RelV x u) (ry : RelV y v) (q : sp [x, y] H Q E) : ∃ f, PySem.W.findIn X.K (.ref C) name = some (some (.ref f)) ∧ PySem.W.isFn X.K (.ref f) = true ∧ wpAny (model X.prog X.w) A (call (.ref f) [u, v]) (EP X pins σ Q) X.xe s := by
  obtain ⟨f, fd, ps, F, hb, hs, hf⟩ := o.ok
  exact ⟨f, hs, hf, call_two F hb o.out I hr e0 rx ry q⟩
theorem call_own1 {CX : CXT} {n : Nat} {C : Addr} {name : Str} {sp : Sp} {E : XK} {A : Around} {Q : VK} {x : V} {u : Value} (o : OwnM X CX n C name sp E) (I : Inv X pins σ H s) (hr : Room n A)
    (e0 : Env0 X.prog X.w X.K X.mg X.base A X.stack s H) (rx : RelV x u) (q : sp [x] H Q E) : ∃ f, PySem.W.findIn X.K (.ref C) name = some (some (.ref f)) ∧ PySem.W.isFn X.K (.ref f) = true ∧ wpAny (model X.prog X.w) A (call (.ref f) [u]) (EP X pins σ Q) X.xe s := by
  obtain ⟨f, fd, ps, F, hb, hs, hf⟩ := o.ok
  have hl : [x].length = ps.length := F.len _ _ _ _ q
  refine ⟨f, hs, hf, wpAny_call (codeAny_mono (F.run A X.stack s H ⟨[u], []⟩ [u] [x] Q E hr e0 ?_ (.cons rx .nil) q) fun r s2 hq => ?_)⟩
  · have := hb s [u] I.kIn (by simpa using hl)
    simpa using this
  · cases r with
    | error e => exact o.out pins σ H s e s2 I hq
    | ok fl =>
      cases fl with
      | ret w' => exact I.after hq
      | _ => exact False.elim hq
end
/-! ### the one of the lower class is asked first -/
section
variable {prog : Program} {w : World} {A : Around} {E : Value → Shared → Prop} {s : Shared} {K : PySem.W.Frag} {x y C D L f : Addr} {ox oy : Obj} {od od2 : Option Obj} {h₀ : Heap} {m : Str → Option Value}
theorem eq_below {Q : Value → Shared → Prop} (hu : A.units < cLine) (Fr' : PyProof.Rows.Fr h₀ L s.heap m) (X₀ : K.In h₀) (I : PySem.W.InstAt s.heap x ox C od) (J : PySem.W.InstAt s.heap y oy D od2) (hCD : D ≠ C) (hb : PySem.W.subIn K (.ref D) (.ref C) = some true)
    (hs : PySem.W.findIn K (.ref D) "__eq__" = some (some (.ref f))) (hf : PySem.W.isFn K (.ref f) = true)
    (h : wpAny (model prog w) A (call (.ref f) [.ref y, .ref x]) (fun v s' => ∃ r, v = .bool r ∧ Q (.bool r) s') E s) : wpAny (model prog w) A (richCompare .Eq (.ref x) (.ref y)) Q E s := by
  have X := X₀.keeps Fr'.keep
  have one : wpAny (model prog w) A (tryCompare (.ref y) "__eq__" (.ref x)) (fun r s' => ∃ v, r = some (.bool v) ∧ Q (.bool v) s') E s := by
    unfold tryCompare
    refine wpAny_bind (PySem.W.ifBound_K X J hs hf (wpAny_mono h (fun v s' z => ?_) fun _ _ e => e))
    obtain ⟨r, rfl, q⟩ := z
    exact wpAny_pure ⟨_, rfl, q⟩
  unfold richCompare
  simp only [oneThing_ref]
  refine wpAny_holding (wpAny_bind (wpAny_cRoomFor hu ?_))
  rw [cmpInfo_Eq]
  dsimp only
  refine wpAny_bind (I.type.here (wpAny_bind (J.type.here ?_)))
  have hne : (Value.ref C != Value.ref D) = true := by
    rw [bne_iff_ne]
    intro z
    injection z with z
    exact hCD z.symm
  rw [hne]
  simp only [if_true]
  refine wpAny_bind ((PySem.W.looks_subIn X hb).here ?_)
  simp only [if_true]
  refine wpAny_bind (m := tryCompare (.ref y) _ (.ref x)) (wpAny_mono one (fun r s' z => ?_) fun _ _ e => e)
  obtain ⟨v, rfl, hq⟩ := z
  exact wpAny_bind (wpAny_rule (wpAny_pure hq))
theorem ne_below {Q : Value → Shared → Prop} (hu : A.units + 1 < cLine) (Fr' : PyProof.Rows.Fr h₀ L s.heap m) (X₀ : K.In h₀) (I : PySem.W.InstAt s.heap x ox C od) (J : PySem.W.InstAt s.heap y oy D od2) (hCD : D ≠ C) (hb : PySem.W.subIn K (.ref D) (.ref C) = some true)
    (hm : NeC K D) (hs : PySem.W.findIn K (.ref D) "__eq__" = some (some (.ref f))) (hf : PySem.W.isFn K (.ref f) = true)
    (h : wpAny (model prog w) A.in1 (call (.ref f) [.ref y, .ref x]) (fun v s' => ∃ r, v = .bool r ∧ Q (.bool (!r)) s') E s) : wpAny (model prog w) A (richCompare .NotEq (.ref x) (.ref y)) Q E s := by
  have X := X₀.keeps Fr'.keep
  have one : wpAny (model prog w) A (tryCompare (.ref y) "__ne__" (.ref x)) (fun r s' => ∃ v, r = some (.bool v) ∧ Q (.bool v) s') E s := by
    unfold tryCompare
    refine wpAny_bind (bound_ne X J hm.ne (call_ne hu X J hm.mro hs hf (wpAny_mono h (fun v s' z => ?_) fun _ _ e => e)))
    obtain ⟨r, rfl, q⟩ := z
    exact ⟨r, rfl, wpAny_pure ⟨_, rfl, q⟩⟩
  unfold richCompare
  simp only [oneThing_ref]
  refine wpAny_holding (wpAny_bind (wpAny_cRoomFor (by omega) ?_))
  rw [cmpInfo_NotEq]
  dsimp only
  refine wpAny_bind (I.type.here (wpAny_bind (J.type.here ?_)))
  have hne : (Value.ref C != Value.ref D) = true := by
    rw [bne_iff_ne]
    intro z
    injection z with z
    exact hCD z.symm
  rw [hne]
  simp only [if_true]
  refine wpAny_bind ((PySem.W.looks_subIn X hb).here ?_)
  simp only [if_true]
  refine wpAny_bind (m := tryCompare (.ref y) _ (.ref x)) (wpAny_mono one (fun r s' z => ?_) fun _ _ e => e)
  obtain ⟨v, rfl, hq⟩ := z
  exact wpAny_bind (wpAny_rule (wpAny_pure hq))
end
/-- x == y, x an instance with an own ==, y of no class below; or y of a class below, with an own == -/
def rEqF (X : Cx) : R2 := fun x y H Q =>
  (∃ a C dx fs T CX n sp E, x = .ref a ∧ H a = some (.ins C dx fs) ∧ KTy X.K H y T ∧ PySem.W.notFirst X.K C T = true ∧ OwnM X CX n C "__eq__" sp E ∧ Room n X.A ∧ sp [x, y] H Q E) ∨
  (∃ a C dx fs b D dy gs CX n sp E, x = .ref a ∧ H a = some (.ins C dx fs) ∧ y = .ref b ∧ H b = some (.ins D dy gs) ∧ D ≠ C ∧ PySem.W.subIn X.K (.ref D) (.ref C) = some true ∧ OwnM X CX n D "__eq__" sp E ∧ Room n X.A ∧ sp [y, x] H (fun v H' => ∃ r, v = .bl r ∧ Q (.bl r) H') E)
theorem op_eqF {X : Cx} : OpR X (compareOp .Eq) (rEqF X) := by
  intro pn s st H x y v u Q I rx ry told
  rcases told with ⟨a, C, dx, fs, T, CX, n, sp, E, rfl, ha, k, hn, o, hr, q⟩ | ⟨a, C, dx, fs, b, D, dy, gs, CX, n, sp, E, rfl, ha, rfl, hb, hCD, hsub, o, hr, q⟩
  · have ev : v = Value.ref a := rx
    subst ev
    obtain ⟨m1, J, _⟩ := ins_get I.hok ha
    obtain ⟨od, J, _⟩ := J.look
    obtain ⟨m, hF⟩ := I.fr
    obtain ⟨f, hs, hf, hcall⟩ := call_own2 o I hr I.env0 rx ry q
    show wpAny (model X.prog X.w) X.A (richCompare .Eq (.ref a) u) (EP X pn st Q) X.xe s
    refine PySem.W.cmp_K (op := .Eq) (tb := T) hr.units0 hF I.ok.mod.kin J (looks_ty I ry k) hn hs hf (wpAny_mono hcall (fun r s' z => ?_) fun _ _ e => e)
    obtain ⟨z2, H2, I2, rz, qz⟩ := z
    exact SlX.cmpback rz ⟨z2, H2, I2, rz, qz⟩
  · have ev : v = Value.ref a := rx
    have eu : u = Value.ref b := ry
    subst ev eu
    obtain ⟨m1, J, _⟩ := ins_get I.hok ha
    obtain ⟨od, J, _⟩ := J.look
    obtain ⟨m2, J2, _⟩ := ins_get I.hok hb
    obtain ⟨od2, J2, _⟩ := J2.look
    obtain ⟨m, hF⟩ := I.fr
    obtain ⟨f, hs, hf, hcall⟩ := call_own2 o I hr I.env0 ry rx q
    show wpAny (model X.prog X.w) X.A (richCompare .Eq (.ref a) (.ref b)) (EP X pn st Q) X.xe s
    refine eq_below hr.units0 hF I.ok.mod.kin J J2 hCD hsub hs hf (wpAny_mono hcall (fun r s' z => ?_) fun _ _ e => e)
    obtain ⟨z2, H2, I2, rz, b2, rfl, qz⟩ := z
    cases rz
    exact ⟨b2, rfl, ⟨.bl _, H2, I2, rfl, qz⟩⟩
def rNeF (X : Cx) : R2 := fun x y H Q =>
  (∃ a C dx fs T CX n sp E, x = .ref a ∧ H a = some (.ins C dx fs) ∧ KTy X.K H y T ∧ PySem.W.notFirst X.K C T = true ∧ OwnM X CX n C "__eq__" sp E ∧ NeC X.K C ∧ Room (n + 1) X.A ∧ sp [x, y] H (fun v H' => ∃ r, v = .bl r ∧ Q (.bl (!r)) H') E) ∨
  (∃ a C dx fs b D dy gs CX n sp E, x = .ref a ∧ H a = some (.ins C dx fs) ∧ y = .ref b ∧ H b = some (.ins D dy gs) ∧ D ≠ C ∧ PySem.W.subIn X.K (.ref D) (.ref C) = some true ∧ OwnM X CX n D "__eq__" sp E ∧ NeC X.K D ∧ Room (n + 1) X.A ∧ sp [y, x] H (fun v H' => ∃ r, v = .bl r ∧ Q (.bl (!r)) H') E)
theorem op_neF {X : Cx} : OpR X (compareOp .NotEq) (rNeF X) := by
  intro pn s st H x y v u Q I rx ry told
  rcases told with ⟨a, C, dx, fs, T, CX, n, sp, E, rfl, ha, k, hn, o, hm, hr, q⟩ | ⟨a, C, dx, fs, b, D, dy, gs, CX, n, sp, E, rfl, ha, rfl, hb, hCD, hsub, o, hm, hr, q⟩
  · have ev : v = Value.ref a := rx
    subst ev
    obtain ⟨m1, J, _⟩ := ins_get I.hok ha
    obtain ⟨od, J, _⟩ := J.look
    obtain ⟨m, hF⟩ := I.fr
    obtain ⟨f, hs, hf, hcall⟩ := call_own2 o I hr.in1 I.env0.in1 rx ry q
    show wpAny (model X.prog X.w) X.A (richCompare .NotEq (.ref a) u) (EP X pn st Q) X.xe s
    refine ne_own (tb := T) hr.in1.units0 hF I.ok.mod.kin J (looks_ty I ry k) hn hm.mro hm.ne hs hf (wpAny_mono hcall (fun r s' z => ?_) fun _ _ e => e)
    obtain ⟨z2, H2, I2, rz, b2, rfl, qz⟩ := z
    cases rz
    exact ⟨b2, rfl, ⟨.bl _, H2, I2, rfl, qz⟩⟩
  · have ev : v = Value.ref a := rx
    have eu : u = Value.ref b := ry
    subst ev eu
    obtain ⟨m1, J, _⟩ := ins_get I.hok ha
    obtain ⟨od, J, _⟩ := J.look
    obtain ⟨m2, J2, _⟩ := ins_get I.hok hb
    obtain ⟨od2, J2, _⟩ := J2.look
    obtain ⟨m, hF⟩ := I.fr
    obtain ⟨f, hs, hf, hcall⟩ := call_own2 o I hr.in1 I.env0.in1 ry rx q
    show wpAny (model X.prog X.w) X.A (richCompare .NotEq (.ref a) (.ref b)) (EP X pn st Q) X.xe s
    refine ne_below hr.in1.units0 hF I.ok.mod.kin J J2 hCD hsub hm hs hf (wpAny_mono hcall (fun r s' z => ?_) fun _ _ e => e)
    obtain ⟨z2, H2, I2, rz, b2, rfl, qz⟩ := z
    cases rz
    exact ⟨b2, rfl, ⟨.bl _, H2, I2, rfl, qz⟩⟩
/-- len of an instance by its own __len__ -/
def rLenF (X : Cx) : List V → Hp → VK → Prop := fun xs H Q => ∃ a C dx fs CX n sp E, xs = [V.ref a] ∧ H a = some (.ins C dx fs) ∧ OwnM X CX n C "__len__" sp E ∧ Room (n + 1) X.A ∧ sp [.ref a] H (fun v H' => ∃ k : Nat, v = .int k ∧ (k : Int) < 2 ^ 62 ∧ Q (.int k) H') E
theorem call_lenF {X : Cx} : CallR X (.builtin "len") (rLenF X) := by
  intro pn s st H xs us Q I r told
  obtain ⟨a, C, dx, fs, CX, n, sp, E, rfl, ha, o, hr, q⟩ := told
  obtain ⟨u, rfl, rx⟩ := vals1 r
  have ev : u = Value.ref a := rx
  subst ev
  obtain ⟨m1, J, _⟩ := ins_get I.hok ha
  obtain ⟨od, J, _⟩ := J.look
  obtain ⟨m, hF⟩ := I.fr
  obtain ⟨f, hs, hf, hcall⟩ := call_own1 o I hr.in1 I.env0.in1 rx q
  refine PySem.W.len_K hF I.ok.mod.kin J hs hf (wpAny_mono hcall (fun v s' z => ?_) fun _ _ e => e)
  obtain ⟨z2, H2, I2, rz, k, rfl, hk, qz⟩ := z
  obtain ⟨t, rfl⟩ := rz
  exact ⟨⟨by omega, by omega⟩, ⟨.int _, H2, I2.tok _, ⟨_, rfl⟩, qz⟩⟩
end OwnC

end

section
namespace OwnC
open PySem L2 PySem.Spec PyProof.Rows
/-! ### a class called with a starred argument -/
section
variable {X : Cx} {CX : CXT} {k : Nat} {f C : Addr} {sp : Sp} {E : XK} {x : Str} {e fe : Expr} {es : List Expr} {tf : TE} {t : TA} {p pos : Pos}
/-- C(e, .., *y), C a class of the module -/
theorem pe_makeG (M : Mk X.K C f) (F : FnR X.prog X.w X.K X.mg X.base CX k f sp) (hr : Room (k + 1) X.A) (hg : Gl X x) (hm : X.mg x = some (.ref C)) (hx : Passes CX X E) (ha : PA X (e :: es) t) (hdb : (x == ("__debug__" : Str)) = false := by decide)
    (he : starEach (e :: es) X.env = (false, eval e X.env) :: starEach es X.env := by rfl) (hst : (backTo pos (starEach es X.env)).any (·.1) = true := by rfl) : PE X (.Call (.Name x p) (e :: es) [] pos) (StX.tMakeR C sp E t) := by
  refine ⟨fun pins s σ H Q I h => wpAny_Call_Name_kw (ld_glob I hg hm ?_ hdb)⟩
  exact PySem.W.callWith_S2 (h₀ := X.base) I.ok.mod.kin M.kp (thn (ha.run pos pins s σ H _ I h) fun us s1 ⟨vs, H1, I1, r, q⟩ => ⟨I1.kIn, StX.run_makeR M F hr hx I1 r q⟩) he hst
/-- v(e, .., *y), v an expression that gives the class -/
def tMakeV (C : Addr) (sp : Sp) (E : XK) (tf : TE) (t : TA) : TE := fun σ H Q => tf σ H fun y H1 => y = .ref C ∧ StX.tMakeR C sp E t σ H1 Q
theorem pe_makeV (hf : PE X fe tf) (M : Mk X.K C f) (F : FnR X.prog X.w X.K X.mg X.base CX k f sp) (hr : Room (k + 1) X.A) (hx : Passes CX X E) (ha : PA X (e :: es) t)
    (ht : eval (.Call fe (e :: es) [] pos) X.env = (do callWith pos (← eval fe X.env) [] (backTo pos (starEach (e :: es) X.env)) (backToKw pos (keywordEach [] X.env))) := by rfl)
    (he : starEach (e :: es) X.env = (false, eval e X.env) :: starEach es X.env := by rfl) (hst : (backTo pos (starEach es X.env)).any (·.1) = true := by rfl) : PE X (.Call fe (e :: es) [] pos) (tMakeV C sp E tf t) := by
  refine ⟨fun pins s σ H Q I h => Call_ (thn (hf.run pins s σ H _ I h) fun u s1 ⟨y, H1, I1, ry, ey, q⟩ => ?_) ht⟩
  subst ey
  have eu : u = Value.ref C := ry
  subst eu
  exact PySem.W.callWith_S2 (h₀ := X.base) I1.ok.mod.kin M.kp (thn (ha.run pos pins s1 σ H1 _ I1 q) fun us s2 ⟨vs, H2, I2, r, q2⟩ => ⟨I2.kIn, StX.run_makeR M F hr hx I2 r q2⟩) he hst
end
/-! ### o[i] by an own __getitem__ -/
def rSubF (P : Program) (w : World) (K : PySem.W.Frag) (mg : Str → Option Value) (base : Heap) (n : Nat) : R2 := fun x y H Q => ∃ a C dx fs f fd ps sp, x = .ref a ∧ H a = some (.ins C dx fs) ∧ FnOk P w K mg base CX0 n f fd ps sp ∧ Binds K fd ps [] ∧ PySem.W.findIn K (.ref C) "__getitem__" = some (some (.ref f)) ∧ PySem.W.isFn K (.ref f) = true ∧ PySem.W.fnIn K f = true ∧ sp [x, y] H Q E0
theorem pe_subF {X : Cx} {n : Nat} (P : Program) (w : World) (K : PySem.W.Frag) (mg : Str → Option Value) (base : Heap) {a b : Expr} {ta tb : TE} {pos : Pos} (hr : Room (n + 1) X.A) (ha : PE X a ta) (hb : PE X b tb)
    (e1 : X.prog = P := by rfl) (e2 : X.w = w := by rfl) (e3 : X.K = K := by rfl) (e4 : X.mg = mg := by rfl) (e5 : X.base = base := by rfl)
    (hsl : ∀ o i, subscripted b true o i = runValue (.builtin "lifetime.subscript" ⟨[o, i], []⟩) := by intro o i; with_unfolding_all rfl) : PE X (.Subscript a b pos) (tOp (rSubF P w K mg base n) ta tb) := by
  subst e1 e2 e3 e4 e5
  refine ⟨fun pins s σ H Q I h => ?_⟩
  refine Subscript_ (binT ha hb I h fun v u s2 x y H2 I2 rx ry q => ?_)
  obtain ⟨p, C, dx, fs, f, fd, ps, sp, rfl, hp, F, hbd, hs, hf, hfn, q⟩ := q
  have ev : v = Value.ref p := rx
  subst ev
  obtain ⟨m1, J, _⟩ := ins_get I2.hok hp
  obtain ⟨od, J, _⟩ := J.look
  obtain ⟨m, hF⟩ := I2.fr
  exact PySem.W.sub_K hF I2.ok.mod.kin J hs hfn hf (call_two F hbd pass0 I2 hr.in1 I2.env0.in1 rx ry q) (hsl _ _)
/-- o.m(e, ..), whatever class o is of -/
def tMethF (X : Cx) (m : Str) (ta : TE) (t : TA) : TE := fun σ H Q => ta σ H fun x H1 => ∃ a C dx fs CX k f sp E, x = .ref a ∧ H1 a = some (.ins C dx fs) ∧ fs.lookup m = none ∧ Cls X.K C ∧ Meth X.K C m f ∧ FnR X.prog X.w X.K X.mg X.base CX k f sp ∧ Room k X.A ∧ Passes CX X E ∧ t σ H1 fun vs H2 => sp (x :: vs) H2 Q E
theorem pe_methF {X : Cx} {m : Str} {o e : Expr} {es : List Expr} {ta : TE} {t : TA} {apos pos : Pos} {pl : Sem Bool} (he : PE X o ta) (ha : PA X (e :: es) t)
    (hst : starEach (e :: es) X.env = (false, eval e X.env) :: starEach es X.env := by rfl) (hpl : (backTo pos (starEach es X.env)).any (·.1) = false := by rfl)
    (ht : eval (.Call (.Attribute o m apos) (e :: es) [] pos) X.env = (do let ov ← eval o X.env; standAt apos.atName; let (f, first) ← holding [ov] (getMethod ov m pl); callWith pos f first (backTo pos (starEach (e :: es) X.env)) (backToKw pos (keywordEach [] X.env))) := by rfl) :
    PE X (.Call (.Attribute o m apos) (e :: es) [] pos) (tMethF X m ta t) := by
  refine ⟨fun pins s σ H Q I h => PySem.W.methodCall_KW (pl := pl) (thn (he.run pins s σ H _ I h) fun u s1 ⟨x, H1, I1, rx, a, C, dx, fs, CX, k, f, sp, E, ex, ea, l, c, hm, F, hr, hx, q⟩ => ?_) ht⟩
  subst ex
  have eu : u = Value.ref a := rx
  subst eu
  refine getmeth_ok I1 ea c hm l (PySem.W.callWith_K (first := [.ref a]) (h₀ := X.base) I.ok.mod.kin hm.kp (thn (ha.run pos pins s1 σ H1 _ I1 q) fun us s2 ⟨vs, H2, I2, r, q2⟩ => ⟨I2.kIn, ?_⟩) hst hpl)
  exact wpAny_call (run_fnR (us := .ref a :: us) (vs := .ref a :: vs) F hr hx I2 (.cons rfl r) q2)
end OwnC

end

section
namespace Lay
open PySem L2 PySem.Spec PyProof.Rows
/-! ### texts and whole numbers in tuples in a tuple or list, as data -/
def flatD : V → PyData
  | .str z => .str z
  | .int i => .int i
  | _ => .none
def isFlat : V → Bool
  | .str z => PyData.strOk z
  | .int _ => true
  | _ => false
def rowD (l : List V) : PyData := .tuple (l.map flatD)
theorem beq_dec {α : Type} [DecidableEq α] [BEq α] [LawfulBEq α] (a b : α) : (a == b) = decide (a = b) := by
  by_cases h : a = b
  · subst h
    simp
  · rw [decide_eq_false h]
    exact beq_eq_false_iff_ne.mpr h
theorem eqv_flat : ∀ x y : V, isFlat x = true → isFlat y = true → PyData.eqv (flatD x) (flatD y) = decide (x = y) := by
  intro x y hx hy
  cases x with
  | str z =>
    cases y with
    | str u => simp [flatD, PyData.eqv]; exact beq_dec _ _
    | int j => simp [flatD, PyData.eqv]
    | _ => cases hy
  | int i =>
    cases y with
    | str u => simp [flatD, PyData.eqv]
    | int j => simp [flatD, PyData.eqv]; exact beq_dec _ _
    | _ => cases hy
  | _ => cases hx
theorem eqvAll_flat : ∀ l l' : List V, l.all isFlat = true → l'.all isFlat = true → PyData.eqvAll (l.map flatD) (l'.map flatD) = decide (l = l')
  | [], [], _, _ => by simp [PyData.eqvAll]
  | [], _ :: _, _, _ => by simp [PyData.eqvAll]
  | _ :: _, [], _, _ => by simp [PyData.eqvAll]
  | x :: l, y :: l', h, h' => by
    rw [List.all_cons, Bool.and_eq_true] at h h'
    rw [List.map_cons, List.map_cons, PyData.eqvAll, eqv_flat x y h.1 h'.1, eqvAll_flat l l' h.2 h'.2]
    by_cases e : x = y <;> by_cases e' : l = l' <;> simp [e, e']
theorem eqv_row {l l' : List V} (h : l.all isFlat = true) (h' : l'.all isFlat = true) : PyData.eqv (rowD l) (rowD l') = decide (l = l') := by
  unfold rowD
  rw [PyData.eqv]
  exact eqvAll_flat l l' h h'
theorem eqvAll_rows : ∀ ls ls' : List (List V), (∀ l ∈ ls, l.all isFlat = true) → (∀ l ∈ ls', l.all isFlat = true) → PyData.eqvAll (ls.map rowD) (ls'.map rowD) = decide (ls = ls')
  | [], [], _, _ => by simp [PyData.eqvAll]
  | [], _ :: _, _, _ => by simp [PyData.eqvAll]
  | _ :: _, [], _, _ => by simp [PyData.eqvAll]
  | x :: l, y :: l', h, h' => by
    rw [List.map_cons, List.map_cons, PyData.eqvAll, eqv_row (h x (List.mem_cons_self ..)) (h' y (List.mem_cons_self ..)), eqvAll_rows l l' (fun z m => h z (List.mem_cons_of_mem _ m)) (fun z m => h' z (List.mem_cons_of_mem _ m))]
    by_cases e : x = y <;> by_cases e' : l = l' <;> simp [e, e']
theorem lay_flat (x : V) (h : isFlat x = true) : PyData.canLay0 (flatD x) = true := by
  cases x with
  | str z =>
    show PyData.canLay0 (.str z) = true
    rw [PyData.canLay0]
    exact h
  | int i => simp [flatD, PyData.canLay0]
  | _ => cases h
theorem layAll_flat : ∀ l : List V, l.all isFlat = true → PyData.canLayAll0 (l.map flatD) = true
  | [], _ => by simp [PyData.canLayAll0]
  | x :: l, h => by
    rw [List.all_cons, Bool.and_eq_true] at h
    rw [List.map_cons, PyData.canLayAll0, lay_flat x h.1, layAll_flat l h.2]; rfl
theorem lay_row (l : List V) (h : l.all isFlat = true) : PyData.canLay0 (rowD l) = true := by unfold rowD; rw [PyData.canLay0]; exact layAll_flat l h
theorem layAll_rows : ∀ ls : List (List V), (∀ l ∈ ls, l.all isFlat = true) → PyData.canLayAll0 (ls.map rowD) = true
  | [], _ => by simp [PyData.canLayAll0]
  | x :: l, h => by rw [List.map_cons, PyData.canLayAll0, lay_row x (h x (List.mem_cons_self ..)), layAll_rows l (fun z m => h z (List.mem_cons_of_mem _ m))]; rfl
theorem deep_flat (x : V) : PyData.depth (flatD x) ≤ 1 := by cases x <;> simp [flatD, PyData.depth]
theorem deepAll_flat : ∀ l : List V, PyData.depthAll (l.map flatD) ≤ 1
  | [] => by simp [PyData.depthAll]
  | x :: l => by
    rw [List.map_cons, PyData.depthAll]
    have := deep_flat x
    have := deepAll_flat l
    omega
theorem deep_row (l : List V) : PyData.depth (rowD l) ≤ 2 := by
  unfold rowD
  rw [PyData.depth]
  have := deepAll_flat l
  omega
theorem deepAll_rows : ∀ ls : List (List V), PyData.depthAll (ls.map rowD) ≤ 2
  | [] => by simp [PyData.depthAll]
  | x :: l => by
    rw [List.map_cons, PyData.depthAll]
    have := deep_row x
    have := deepAll_rows l
    omega
theorem shaped_rowsT (ls : List (List V)) (h : ∀ l ∈ ls, l.all isFlat = true) : SeqAt.shaped (.tuple (ls.map rowD)) = true := by
  have h1 := deepAll_rows ls
  have h2 : PyData.depth (.tuple (ls.map rowD)) ≤ 64 := by rw [PyData.depth]; omega
  have h3 : PyData.canLay0 (.tuple (ls.map rowD)) = true := by rw [PyData.canLay0]; exact layAll_rows ls h
  unfold SeqAt.shaped
  rw [h3, decide_eq_true h2]
  rfl
theorem shaped_rowsL (ls : List (List V)) (h : ∀ l ∈ ls, l.all isFlat = true) : SeqAt.shaped (.list (ls.map rowD)) = true := by
  have h1 := deepAll_rows ls
  have h2 : PyData.depth (.list (ls.map rowD)) ≤ 64 := by rw [PyData.depth]; omega
  have h3 : PyData.canLay0 (.list (ls.map rowD)) = true := by rw [PyData.canLay0]; exact layAll_rows ls h
  unfold SeqAt.shaped
  rw [h3, decide_eq_true h2]
  rfl
/-- steps at a heap: the tuples and what they hold -/
inductive RowsAt (H : Hp) : List V → List (List V) → Prop
  | nil : RowsAt H [] []
  | cons {p : Addr} {l : List V} {xs : List V} {ls : List (List V)} (h : H p = some (.tup l)) (r : RowsAt H xs ls) : RowsAt H (.ref p :: xs) (l :: ls)
theorem RowsAt.same {H H' : Hp} {xs : List V} {ls : List (List V)} (r : RowsAt H xs ls) (k : ∀ b l, H b = some (.tup l) → H' b = some (.tup l)) : RowsAt H' xs ls := by
  induction r with
  | nil => exact .nil
  | cons h _ ih => exact .cons (k _ _ h) ih
theorem RowsAt.mono {H H' : Hp} {xs : List V} {ls : List (List V)} (r : RowsAt H xs ls) (s : Same H H') : RowsAt H' xs ls := r.same fun b l h => s b _ h
/-- a list is at p, so no tuple is -/
theorem RowsAt.keep {H H' : Hp} {xs : List V} {ls : List (List V)} {p : Addr} {ys : List V} (r : RowsAt H xs ls) (hp : H p = some (.lst ys)) (k : Keep p H H') : RowsAt H' xs ls := r.same fun b l h => k b _ (fun e => by subst e; rw [hp] at h; cases h) h
theorem RowsAt.len {H : Hp} {xs : List V} {ls : List (List V)} (r : RowsAt H xs ls) : xs.length = ls.length := by
  induction r with
  | nil => rfl
  | cons _ _ ih => rw [List.length_cons, List.length_cons, ih]
theorem dp_flat {K : PySem.W.Frag} {H : Hp} : ∀ l : List V, l.all isFlat = true → DpAll K H l (l.map flatD)
  | [], _ => .nil
  | x :: l, h => by
    rw [List.all_cons, Bool.and_eq_true] at h
    refine .cons ?_ (dp_flat l h.2)
    cases x <;> first | cases h.1 | skip
    · exact .int _
    · exact .str _
theorem RowsAt.dp {K : PySem.W.Frag} {H : Hp} {xs : List V} {ls : List (List V)} (r : RowsAt H xs ls) (h : ∀ l ∈ ls, l.all isFlat = true) : DpAll K H xs (ls.map rowD) := by
  induction r with
  | nil => exact .nil
  | cons hp _ ih =>
    refine .cons (.tup (SqT.of hp) (dp_flat _ (h _ (List.mem_cons_self ..)))) (ih fun z m => h z (List.mem_cons_of_mem _ m))
theorem RowsAt.get {H : Hp} {xs : List V} {ls : List (List V)} (r : RowsAt H xs ls) : ∀ {i : Nat} {l : List V}, ls[i]? = some l → ∃ p, xs[i]? = some (.ref p) ∧ H p = some (.tup l) := by
  induction r with
  | nil => intro i l e; simp at e
  | cons h _ ih =>
    intro i l e
    cases i with
    | zero =>
      rw [List.getElem?_cons_zero] at e
      cases e
      exact ⟨_, rfl, h⟩
    | succ i =>
      rw [List.getElem?_cons_succ] at e ⊢
      exact ih e
theorem RowsAt.append {H : Hp} {xs ys : List V} {ls ms : List (List V)} (r : RowsAt H xs ls) (q : RowsAt H ys ms) : RowsAt H (xs ++ ys) (ls ++ ms) := by
  induction r with
  | nil => exact q
  | cons h _ ih => exact .cons h ih
theorem RowsAt.drop {H : Hp} {xs : List V} {ls : List (List V)} (r : RowsAt H xs ls) : ∀ n : Nat, RowsAt H (xs.drop n) (ls.drop n) := by
  induction r with
  | nil => intro n; simp; exact .nil
  | cons h t ih =>
    intro n
    cases n with
    | zero => exact .cons h t
    | succ n => exact ih n
theorem RowsAt.take {H : Hp} {xs : List V} {ls : List (List V)} (r : RowsAt H xs ls) : ∀ n : Nat, RowsAt H (xs.take n) (ls.take n) := by
  induction r with
  | nil => intro n; simp; exact .nil
  | cons h t ih =>
    intro n
    cases n with
    | zero => exact .nil
    | succ n => exact .cons h (ih n)
theorem RowsAt.set {H : Hp} {xs : List V} {ls : List (List V)} {p : Addr} {l : List V} (hp : H p = some (.tup l)) (r : RowsAt H xs ls) : ∀ n : Nat, RowsAt H (xs.set n (.ref p)) (ls.set n l) := by
  induction r with
  | nil => intro n; simp; exact .nil
  | cons h t ih =>
    intro n
    cases n with
    | zero => exact .cons hp t
    | succ n => exact .cons h (ih n)
theorem RowsAt.steps {H : Hp} {ws : List Str} {xs : List V} {ls : List (List V)} (r : RowsAt H xs ls) (g : ∀ l ∈ ls, GoodStep ws l) : ∀ s ∈ xs, StepAt H ws s := by
  induction r with
  | nil => intro s m; cases m
  | cons h _ ih =>
    intro s m
    rcases List.mem_cons.mp m with e | m
    · subst e
      exact ⟨_, _, rfl, h, g _ (List.mem_cons_self ..)⟩
    · exact ih (fun z m => g z (List.mem_cons_of_mem _ m)) s m
theorem name_strOk {z : Str} (h : nameOk z = true) : PyData.strOk z = true := by
  unfold nameOk at h
  rw [Bool.and_eq_true] at h
  unfold PyData.strOk
  rw [← Array.all_toList, List.all_eq_true]
  intro c m
  have := List.all_eq_true.mp h.2 c m
  rw [Bool.and_eq_true] at this
  have h2 := of_decide_eq_true this.2
  exact decide_eq_true (by omega)
theorem words_strOk {ws : List Str} (h : ws.all PyData.strOk = true) {w : Str} (m : w ∈ ws) : PyData.strOk w = true := List.all_eq_true.mp h w m
theorem GoodStep.flat {ws : List Str} {l : List V} (g : GoodStep ws l) : l.all isFlat = true := by
  rcases g with ⟨w, n, rfl, h1, _, h3⟩ | ⟨w, n, s, f, e, rfl, h1, _, h3, _⟩
  · have a := words_strOk (by decide +kernel) h1
    have b := name_strOk h3
    simp [isFlat, a, b]
  · have a := words_strOk (by decide +kernel) h1
    have b := name_strOk h3
    simp [isFlat, a, b]
theorem GoodStep.more {ws zs : List Str} {l : List V} (g : GoodStep ws l) (h : ∀ w ∈ ws, w ∈ zs) : GoodStep zs l := by
  rcases g with ⟨w, n, e, h1, h2, h3⟩ | ⟨w, n, s, f, t, e, h1, h2, h3⟩
  · exact .inl ⟨w, n, e, h1, h w h2, h3⟩
  · exact .inr ⟨w, n, s, f, t, e, h1, h w h2, h3⟩
end Lay

end

section
namespace Lay
open PySem L2 PySem.Spec PyProof.Rows
theorem fnR_of {P : Program} {w : World} {K : PySem.W.Frag} {mg : Str → Option Value} {base : Heap} {CX : CXT} {k : Nat} {f : Addr} {fd : FuncData} {ps : List Str} {sp : Sp} (F : FnOk P w K mg base CX k f fd ps sp) (hb : Binds K fd ps []) : FnR P w K mg base CX k f sp := by
  intro A outer s H us vs Q E hr e0 r hs
  have hl := F.len _ _ _ _ hs
  have hu : us.length = ps.length := by rw [← hl]; exact r.length.symm
  have KX : K.In s.heap := e0.mod.kin.keeps fun b o e => (e0.bs b o e).1
  have b := hb s us KX (by simpa using hu)
  rw [List.append_nil] at b
  exact F.run A outer s H ⟨us, []⟩ us vs Q E hr e0 b r hs
/-- an agent: its class, name, its steps and what they hold -/
def AgAt (C : Addr) (H : Hp) (a : Addr) (z : Str) (ls : List (List V)) : Prop := ∃ dx t xs, H a = some (.ins C dx (agentF z t)) ∧ H t = some (.tup xs) ∧ RowsAt H xs ls
theorem AgAt.mono {C : Addr} {H H' : Hp} {a : Addr} {z : Str} {ls : List (List V)} (h : AgAt C H a z ls) (s : Same H H') : AgAt C H' a z ls := by
  obtain ⟨dx, t, xs, h1, h2, h3⟩ := h
  exact ⟨dx, t, xs, s _ _ h1, s _ _ h2, h3.mono s⟩
theorem AgAt.keep {C p : Addr} {H H' : Hp} {a : Addr} {z : Str} {ls : List (List V)} {ys : List V} (h : AgAt C H a z ls) (hp : H p = some (.lst ys)) (k : Keep p H H') : AgAt C H' a z ls := by
  obtain ⟨dx, t, xs, h1, h2, h3⟩ := h
  exact ⟨dx, t, xs, k _ _ (fun e => by subst e; rw [hp] at h1; cases h1) h1, k _ _ (fun e => by subst e; rw [hp] at h2; cases h2) h2, h3.keep hp k⟩
/-- a row of steps: a list or a tuple -/
def SeqAt' (K : PySem.W.Frag) (H : Hp) (t : Addr) (xs : List V) : Prop := SqT K H t xs ∨ SqL K H t xs
/-- C.made(name, steps), all good -/
def spMade (K : PySem.W.Frag) (C : Addr) (ws : List Str) : Sp := fun vs H Q _ => ∃ z t xs ls, vs = [.ref C, .str z, .ref t] ∧ nameOk z = true ∧ (SqT K H t xs ∨ SqL K H t xs) ∧ RowsAt H xs ls ∧ 1 ≤ ls.length ∧ ls.length ≤ 24 ∧ (∀ l ∈ ls, GoodStep ws l) ∧
  ∀ x H', H x = none → Same H H' → AgAt C H' x z ls → Q (.ref x) H'
/-- the initialiser is called of a class with these steps -/
theorem mk_ag {C : Addr} {ws : List Str} {H : Hp} {z : Str} {xs : List V} {ls : List (List V)} {Q : Addr → Hp → Prop} {E : XK} (hz : nameOk z = true) (hx : RowsAt H xs ls) (h1 : 1 ≤ ls.length) (h2 : ls.length ≤ 24) (hg : ∀ l ∈ ls, GoodStep ws l)
    (q : ∀ x H', H x = none → Same H H' → AgAt C H' x z ls → Q x H') :
    ∀ x dx, H x = none → H dx = none → dx ≠ x → spStar 2 (spAgentInit C ws) (.ref x :: .str z :: xs) (upd (upd H dx (.own x)) x (.ins C dx [])) (fun v H2 => v = .non ∧ Q x H2) E := by
  intro x dx hx1 hd hne
  have s1 : Same H (upd (upd H dx (.own x)) x (.ins C dx [])) := Lay.Same.upd' (Same.upd hd) (by rw [upd_ne hne.symm]; exact hx1)
  have hl := hx.len
  refine ⟨[.ref x, .str z], xs, rfl, rfl, Nat.le_trans (by omega) (show 24 ≤ sizeLine by decide), fun p hp => ?_⟩
  have s2 := Lay.Same.upd' (o := .tup xs) s1 hp
  refine ⟨x, dx, z, p, xs, rfl, upd_old hp upd_same, hz, upd_same, by omega, by omega, (hx.mono s2).steps hg, ?_⟩
  rintro H' ⟨dx', t, e1, e2⟩ keep
  have s3 : Same H H' := fun b o e => keep b o (fun y => by subst y; rw [hx1] at e; cases e) (s2 _ _ e)
  exact ⟨rfl, q x H' hx1 s3 ⟨dx', t, xs, e1, e2, hx.mono s3⟩⟩
/-- agent.with_steps(*steps) -/
def spWith (C : Addr) (ws : List Str) : Sp := fun vs H Q _ => ∃ a z ls0 xs ls, vs = .ref a :: xs ∧ AgAt C H a z ls0 ∧ nameOk z = true ∧ RowsAt H xs ls ∧ 1 ≤ ls.length ∧ ls.length ≤ 24 ∧ (∀ l ∈ ls, GoodStep ws l) ∧
  ∀ x H', H x = none → Same H H' → AgAt C H' x z ls → Q (.ref x) H'
def spWithT (C : Addr) (ws : List Str) : Sp := fun vs H Q _ => ∃ a z t ls0 xs ls, vs = [.ref a, .ref t] ∧ AgAt C H a z ls0 ∧ nameOk z = true ∧ H t = some (.tup xs) ∧ RowsAt H xs ls ∧ 1 ≤ ls.length ∧ ls.length ≤ 24 ∧ (∀ l ∈ ls, GoodStep ws l) ∧
  ∀ x H', H x = none → Same H H' → AgAt C H' x z ls → Q (.ref x) H'
def spLen (C : Addr) : Sp := fun vs H Q _ => ∃ a z ls, vs = [.ref a] ∧ AgAt C H a z ls ∧ Q (.int ls.length) H
def spGet (C : Addr) : Sp := fun vs H Q _ => ∃ a z ls i l, vs = [.ref a, .int (i : Nat)] ∧ AgAt C H a z ls ∧ ls[i]? = some l ∧ ∀ p, H p = some (.tup l) → Q (.ref p) H
theorem rd_makeV {C : Addr} {sp : Sp} {E : XK} {tf : TE} {t : TA} {σ : L2.St} {H : Hp} {Q : VK} (h : tf σ H fun y H1 => y = .ref C ∧ StX.tMakeR C sp E t σ H1 Q) : OwnC.tMakeV C sp E tf t σ H Q := h
theorem atI_nat {α : Type} {xs : List α} {i : Nat} {v : α} (h : xs[i]? = some v) : atI xs (i : Int) = some v := atI_int (by omega) (by simpa using h)
theorem kit_prim {K : PySem.W.Frag} {p : String} {D : Addr} (h1 : PySem.W.mroIn K D (.type "object") = some true) (h2 : PySem.W.typeIn K (.ref D) = some (.type "type")) (h3 : PySem.W.subIn K (.type p) (.ref D) = some false) : PySem.W.kitOne K (.type p) (.ref D) = some false := by
  unfold PySem.W.kitOne
  rw [if_neg (fun z => by cases eq_of_beq z)]
  unfold PySem.W.kitCls
  have h5 : (PySem.W.clsIn K D).isSome = true := by
    unfold PySem.W.mroIn at h1
    cases hh : PySem.W.clsIn K D with
    | none => rw [hh] at h1; cases h1
    | some _ => rfl
  dsimp only
  rw [h5, h2]
  exact h3
/-- a class of agents: what reading its instances asks -/
structure AgC (K : PySem.W.Frag) (C : Addr) (kind : Str) : Prop where
  cl : Cls K C
  nm : NoAttr K C "name"
  st : NoAttr K C "steps"
  co : ∃ u, Con K C "KIND" (.str kind) u
  ty : ∀ (H : Hp) (a dx : Addr) (fs : List (Str × V)), H a = some (.ins C dx fs) → TyX K H (.ref a) (.ref C)
/-- a value that == of the class C, which asks for instances of C, is asked about -/
def EqArg (K : PySem.W.Frag) (C : Addr) (kind : Str) (z : Str) (ls : List (List V)) (H : Hp) (v : V) (r : Bool) : Prop :=
  (∃ T, TyX K H v T ∧ PySem.W.kitOne K T (.ref C) = some false ∧ r = false) ∨
  (∃ b D k2 z2 ls2, v = .ref b ∧ AgAt D H b z2 ls2 ∧ (∀ l ∈ ls2, l.all isFlat = true) ∧ AgC K D k2 ∧ PySem.W.kitOne K (.ref D) (.ref C) = some true ∧ r = (decide (kind = k2) && (decide (z = z2) && decide (ls = ls2))))
def spEqA (K : PySem.W.Frag) (C : Addr) (kind : Str) : Sp := fun vs H Q _ => ∃ a v z ls r, vs = [.ref a, v] ∧ AgAt C H a z ls ∧ (∀ l ∈ ls, l.all isFlat = true) ∧ AgC K C kind ∧ EqArg K C kind z ls H v r ∧ Q (.bl r) H
theorem rd_eqT {K : PySem.W.Frag} {H : Hp} {Q : VK} {t u : Addr} {xs ys : List V} {ls ms : List (List V)} (h1 : H t = some (.tup xs)) (r1 : RowsAt H xs ls) (f1 : ∀ l ∈ ls, l.all isFlat = true) (h2 : H u = some (.tup ys)) (r2 : RowsAt H ys ms) (f2 : ∀ l ∈ ms, l.all isFlat = true)
    (q : Q (.bl (decide (ls = ms))) H) : rEqD K (.ref t) (.ref u) H Q :=
  ⟨.tuple (ls.map rowD), .tuple (ms.map rowD), .tup (SqT.of h1) (r1.dp f1), .tup (SqT.of h2) (r2.dp f2), shaped_rowsT ls f1, shaped_rowsT ms f2, by
    have e : PyData.eqv (.tuple (ls.map rowD)) (.tuple (ms.map rowD)) = decide (ls = ms) := by
      rw [PyData.eqv]
      exact eqvAll_rows ls ms f1 f2
    rw [e]
    exact q⟩
end Lay
namespace Lay
open PySem L2 PySem.Spec PyProof.Rows
def plainWs : List Str := ["read", "write", "post", "wait"]
def cacheWs : List Str := ["read", "write", "get", "put", "clean", "drop", "flush", "post", "wait"]
def wsK (k : Int) : List Str := if k = 0 then plainWs else cacheWs
def drawnWs : List Str := ["read", "write", "post", "wait", "read", "write", "clean", "drop", "flush", "get", "put"]
theorem drawn_word {k d : Int} (h0 : 0 ≤ d) (h1 : d < 11 - 5 * (if k = 0 then 1 else 0)) : ∃ w : Str, drawnWs[d.toNat]? = some w ∧ w ∈ wsK k ∧ ((w ∈ sigWords ∧ inStrs (.str w) ["post", "wait"] = true) ∨ (w ∈ memWords ∧ inStrs (.str w) ["post", "wait"] = false)) := by
  by_cases hk : k = 0
  · rw [if_pos hk] at h1
    unfold wsK
    rw [if_pos hk]
    obtain rfl | rfl | rfl | rfl | rfl | rfl : d = 0 ∨ d = 1 ∨ d = 2 ∨ d = 3 ∨ d = 4 ∨ d = 5 := by omega
    all_goals exact ⟨_, rfl, by decide +kernel, by first | exact .inl ⟨by decide +kernel, by decide +kernel⟩ | exact .inr ⟨by decide +kernel, by decide +kernel⟩⟩
  · rw [if_neg hk] at h1
    unfold wsK
    rw [if_neg hk]
    obtain rfl | rfl | rfl | rfl | rfl | rfl | rfl | rfl | rfl | rfl | rfl : d = 0 ∨ d = 1 ∨ d = 2 ∨ d = 3 ∨ d = 4 ∨ d = 5 ∨ d = 6 ∨ d = 7 ∨ d = 8 ∨ d = 9 ∨ d = 10 := by omega
    all_goals exact ⟨_, rfl, by decide +kernel, by first | exact .inl ⟨by decide +kernel, by decide +kernel⟩ | exact .inr ⟨by decide +kernel, by decide +kernel⟩⟩
def spGoodStep : Sp := fun vs H Q _ => ∃ (p : Addr) (k : Int) (n : Nat) (c : Addr), vs = [.ref p, .int k] ∧ PenAt c H p n ∧ n + 5 < 100000 ∧ ∀ a l H', H a = none → H' a = some (.tup l) → GoodStep (wsK k) l → PenAt c H' p (n + 5) → Keep p H H' → Q (.ref a) H'
end Lay
namespace Lay
open PySem L2 PySem.Spec PyProof.Rows
theorem abz_ok {d : Int} (h0 : 0 ≤ d) (h1 : d < 4) : nameOk ("buf" ++ cutS "abz" none (some d)) = true ∧ ("buf" : Str).length + (cutS "abz" none (some d)).length ≤ sizeLine := by
  obtain rfl | rfl | rfl | rfl : d = 0 ∨ d = 1 ∨ d = 2 ∨ d = 3 := by omega
  all_goals exact ⟨by decide +kernel, by decide +kernel⟩
theorem Keep.none {H H' : Hp} {p a : Addr} {o : HO} (k : Keep p H H') (hp : H' p = some o) (h : H' a = none) : H a = none := by
  cases e : H a with
  | none => rfl
  | some u =>
    have n : a ≠ p := fun y => by subst y; rw [hp] at h; cases h
    rw [k a u n e] at h
    cases h
end Lay
namespace Lay
open PySem L2 PySem.Spec PyProof.Rows
theorem rd_cmeth {C : Addr} {sp : Sp} {E : XK} {ta : TE} {t : TA} {σ : L2.St} {H : Hp} {Q : VK} (h : ta σ H fun x H1 => x = .ref C ∧ t σ H1 fun vs H2 => sp (.ref C :: vs) H2 Q E) : ClX.tCMeth C sp E ta t σ H Q := h
end Lay
namespace Lay
open PySem L2 PySem.Spec PyProof.Rows
theorem eqv_rowsT {ls ms : List (List V)} (f1 : ∀ l ∈ ls, l.all isFlat = true) (f2 : ∀ l ∈ ms, l.all isFlat = true) : PyData.eqv (.tuple (ls.map rowD)) (.tuple (ms.map rowD)) = decide (ls = ms) := by
  rw [PyData.eqv]
  exact eqvAll_rows ls ms f1 f2
theorem eqv_rowsL {ls ms : List (List V)} (f1 : ∀ l ∈ ls, l.all isFlat = true) (f2 : ∀ l ∈ ms, l.all isFlat = true) : PyData.eqv (.list (ls.map rowD)) (.list (ms.map rowD)) = decide (ls = ms) := by
  rw [PyData.eqv]
  exact eqvAll_rows ls ms f1 f2
/-- two tuples of the same rows are not unequal -/
theorem rd_neT {K : PySem.W.Frag} {H : Hp} {Q : VK} {t u : Addr} {xs ys : List V} {ls : List (List V)} (h1 : H t = some (.tup xs)) (r1 : RowsAt H xs ls) (f1 : ∀ l ∈ ls, l.all isFlat = true) (h2 : H u = some (.tup ys)) (r2 : RowsAt H ys ls)
    (q : Q (.bl false) H) : rNeD K (.ref t) (.ref u) H Q :=
  ⟨.tuple (ls.map rowD), .tuple (ls.map rowD), .tup (SqT.of h1) (r1.dp f1), .tup (SqT.of h2) (r2.dp f1), shaped_rowsT ls f1, shaped_rowsT ls f1, by
    rw [eqv_rowsT f1 f1, decide_eq_true rfl]
    exact q⟩
theorem rd_eqL {K : PySem.W.Frag} {H : Hp} {Q : VK} {t u : Addr} {xs ys : List V} {ls : List (List V)} (h1 : H t = some (.lst xs)) (r1 : RowsAt H xs ls) (f1 : ∀ l ∈ ls, l.all isFlat = true) (h2 : H u = some (.lst ys)) (r2 : RowsAt H ys ls)
    (q : Q (.bl true) H) : rEqD K (.ref t) (.ref u) H Q :=
  ⟨.list (ls.map rowD), .list (ls.map rowD), .lst (SqL.of h1) (r1.dp f1), .lst (SqL.of h2) (r2.dp f1), shaped_rowsL ls f1, shaped_rowsL ls f1, by
    rw [eqv_rowsL f1 f1, decide_eq_true rfl]
    exact q⟩
theorem rd_neSs {i : Str} {H : Hp} {Q : VK} (q : Q (.bl false) H) : rNe (.str i) (.str i) H Q := rd_neS (by rw [decide_eq_true rfl]; exact q)
theorem rd_neIs {i j : Int} {H : Hp} {Q : VK} (e : i = j) (q : Q (.bl false) H) : rNe (.int i) (.int j) H Q := rd_neI (by rw [decide_eq_true e]; exact q)
/-- what is written into a list leaves the rows -/
theorem RowsAt.updL {H : Hp} {D : Addr} {l l' : List V} {xs : List V} {ls : List (List V)} (r : RowsAt H xs ls) (h : H D = some (.lst l)) : RowsAt (upd H D (.lst l')) xs ls := r.same fun b l2 e => by
  by_cases y : b = D
  · subst y; rw [h] at e; cases e
  · rw [upd_ne y]; exact e
theorem AgAt.updL {C : Addr} {H : Hp} {D a : Addr} {l l' : List V} {z : Str} {ls : List (List V)} (r : AgAt C H a z ls) (h : H D = some (.lst l)) : AgAt C (upd H D (.lst l')) a z ls := by
  obtain ⟨dx, t, xs, h1, h2, h3⟩ := r
  exact ⟨dx, t, xs, by rw [upd_ne (fun y => by subst y; rw [h] at h1; cases h1)]; exact h1, by rw [upd_ne (fun y => by subst y; rw [h] at h2; cases h2)]; exact h2, h3.updL h⟩
end Lay

end

section
namespace Lay
open PySem L2 PySem.Spec PyProof.Rows
/-- the word of a step may stand in an agent without a cache -/
def plainRow (l : List V) : Prop := ∃ w r, l = .str w :: r ∧ w ∈ plainWs
theorem GoodStep.head {ws : List Str} {l : List V} (g : GoodStep ws l) : ∃ w r, l = .str w :: r ∧ w ∈ ws := by
  rcases g with ⟨w, n, rfl, h1, h2, h3⟩ | ⟨w, n, s, f, e, rfl, h1, h2, h3⟩
  · exact ⟨w, _, rfl, h2⟩
  · exact ⟨w, _, rfl, h2⟩
theorem GoodStep.plain {ws : List Str} {l : List V} (g : GoodStep ws l) (h : plainRow l) : GoodStep plainWs l := by
  obtain ⟨u, r, e, hu⟩ := h
  rcases g with ⟨w, n, rfl, h1, h2, h3⟩ | ⟨w, n, s, f, e', rfl, h1, h2, h3⟩
  · cases e
    exact .inl ⟨_, _, rfl, h1, hu, h3⟩
  · cases e
    exact .inr ⟨_, _, _, _, _, rfl, h1, hu, h3⟩
theorem plain_sub : ∀ w ∈ plainWs, w ∈ cacheWs := by decide +kernel
theorem rd_eqL0 {K : PySem.W.Frag} {H : Hp} {Q : VK} {t u : Addr} {xs : List V} {ls : List (List V)} (h1 : H t = some (.lst xs)) (r1 : RowsAt H xs ls) (f1 : ∀ l ∈ ls, l.all isFlat = true) (h2 : H u = some (.lst []))
    (q : Q (.bl (decide (ls = []))) H) : rEqD K (.ref t) (.ref u) H Q :=
  ⟨.list (ls.map rowD), .list (([] : List (List V)).map rowD), .lst (SqL.of h1) (r1.dp f1), .lst (SqL.of h2) .nil, shaped_rowsL ls f1, shaped_rowsL [] (by intro _ m; cases m), by
    rw [eqv_rowsL f1 (by intro _ m; cases m)]
    exact q⟩
def spOther : Sp := fun vs H Q _ => ∃ (k : Int) (t : Addr) (ys : List V) (ls : List (List V)), vs = [.int k, .ref t] ∧ 0 ≤ k ∧ k ≤ 2 ∧ H t = some (.lst ys) ∧ RowsAt H ys ls ∧ ls.length ≤ 24 ∧ (∀ l ∈ ls, GoodStep (wsK k) l) ∧
  ∀ k' H', Same H H' → 0 ≤ k' → k' ≤ 2 → (∀ l ∈ ls, GoodStep (wsK k') l) → Q (.int k') H'
theorem other_good {k : Int} {ls : List (List V)} (k0 : 0 ≤ k) (k2 : k ≤ 2) (hg : ∀ l ∈ ls, GoodStep (wsK k) l) (h : ∀ l ∈ ls, plainRow l) (j : Int) : ∀ l ∈ ls, GoodStep (wsK j) l := by
  intro l m
  have g := (hg l m).plain (h l m)
  unfold wsK
  split
  · exact g
  · exact g.more plain_sub
/-- a list of class, name and steps -/
def TripAt (H : Hp) (r : Addr) (k : Int) (z : Str) (t : Addr) (ys : List V) (ls : List (List V)) : Prop := H r = some (.lst [.int k, .str z, .ref t]) ∧ H t = some (.lst ys) ∧ RowsAt H ys ls
def spBent : Sp := fun vs H Q _ => ∃ (p : Addr) (n : Nat) (c : Addr) (k : Int) (z : Str) (t : Addr) (ys : List V) (ls : List (List V)), vs = [.ref p, .int k, .str z, .ref t] ∧ PenAt c H p n ∧ n + 2 < 100000 ∧ 0 ≤ k ∧ k ≤ 2 ∧ nameOk z = true ∧ nameOk (z ++ "x") = true ∧ H t = some (.lst ys) ∧ RowsAt H ys ls ∧ 1 ≤ ls.length ∧ ls.length ≤ 24 ∧ (∀ l ∈ ls, GoodStep (wsK k) l) ∧
  ∀ r k' z' t' ys' ls' H', PenAt c H' p (n + 2) → Keep p H H' → TripAt H' r k' z' t' ys' ls' → 0 ≤ k' → k' ≤ 2 → nameOk z' = true → ls'.length = ls.length → (∀ l ∈ ls', GoodStep (wsK k') l) → Q (.ref r) H'
theorem good_post (k : Int) : GoodStep (wsK k) [.str "post", .str "other"] := by
  refine .inl ⟨_, _, rfl, by decide +kernel, ?_, by decide +kernel⟩
  unfold wsK
  split <;> decide +kernel
theorem mem_set {α : Type} {xs : List α} {n : Nat} {a x : α} (h : x ∈ xs.set n a) : x = a ∨ x ∈ xs := by
  rcases List.mem_or_eq_of_mem_set h with h | h
  · exact .inr h
  · exact .inl h
end Lay
namespace Lay
open PySem L2 PySem.Spec PyProof.Rows
theorem rows_pen {c : Addr} {H : Hp} {p t : Addr} {n : Nat} {ys : List V} {ls : List (List V)} (hp : PenAt c H p n) (ht : H t = some (.lst ys)) (hx : RowsAt H ys ls) : t ≠ p := by
  rintro rfl
  obtain ⟨ns, b, l, e1, _⟩ := hp
  rw [e1] at ht
  cases ht
  cases hx with
  | cons _ r => cases r
theorem rows_cell {c : Addr} {H : Hp} {p t : Addr} {n : Nat} {ys : List V} {ls : List (List V)} (hp : PenAt c H p n) (ht : H t = some (.lst ys)) (hx : RowsAt H ys ls) (h1 : 1 ≤ ls.length) : t ≠ c := by
  rintro rfl
  obtain ⟨ns, b, l, _, e1, _⟩ := hp
  rw [e1] at ht
  cases ht
  cases ns with
  | nil => cases hx; simp at h1
  | cons i r => cases hx
theorem RowsAt.flatG {ws : List Str} {ls : List (List V)} (g : ∀ l ∈ ls, GoodStep ws l) : ∀ l ∈ ls, l.all isFlat = true := fun l m => (g l m).flat
end Lay
namespace Lay
open PySem L2 PySem.Spec PyProof.Rows
theorem ixN_nat {n : Nat} {d : Int} (h0 : 0 ≤ d) (h1 : d < n) : ixN n d = some d.toNat := by
  unfold ixN
  rw [if_pos h0, if_pos h1]
theorem cut_from {xs : List V} (h : 1 ≤ xs.length) : cutV xs (some 1) none = xs.drop 1 := by
  have e : HT.sIx xs.length 0 (some 1) = 1 := by
    unfold HT.sIx
    dsimp only
    split <;> omega
  unfold cutV
  rw [e]
  show List.take (xs.length - 1) (List.drop 1 xs) = List.drop 1 xs
  rw [List.take_of_length_le (by rw [List.length_drop]; omega)]
theorem cut_to {xs : List V} (h : 1 ≤ xs.length) : cutV xs none (some 1) = xs.take 1 := by
  have e : HT.sIx xs.length xs.length (some 1) = 1 := by
    unfold HT.sIx
    dsimp only
    split <;> omega
  unfold cutV
  rw [e]
  show List.take (1 - 0) (List.drop 0 xs) = List.take 1 xs
  simp
end Lay

end

section
namespace Lay
open PySem L2 PySem.Spec PyProof.Rows
def tripD (k : Int) (z : Str) (ls : List (List V)) : PyData := .list [.int k, .str z, .list (ls.map rowD)]
theorem shaped_trip {k : Int} {z : Str} {ls : List (List V)} (hz : PyData.strOk z = true) (f : ∀ l ∈ ls, l.all isFlat = true) : SeqAt.shaped (tripD k z ls) = true := by
  have h1 := deepAll_rows ls
  have h2 : PyData.depth (tripD k z ls) ≤ 64 := by
    unfold tripD
    simp only [PyData.depth, PyData.depthAll]
    omega
  have h3 : PyData.canLay0 (tripD k z ls) = true := by
    unfold tripD
    simp only [PyData.canLay0, PyData.canLayAll0, hz, layAll_rows ls f, Bool.and_self]
  unfold SeqAt.shaped
  rw [h3, decide_eq_true h2]
  rfl
theorem eqv_trip {k k' : Int} {z z' : Str} {ls ls' : List (List V)} (f : ∀ l ∈ ls, l.all isFlat = true) (f' : ∀ l ∈ ls', l.all isFlat = true) : PyData.eqv (tripD k z ls) (tripD k' z' ls') = (decide (k = k') && (decide (z = z') && decide (ls = ls'))) := by
  unfold tripD
  simp only [PyData.eqv, PyData.eqvAll, eqvAll_rows ls ls' f f', Bool.and_true]
  rw [beq_dec, beq_dec]
theorem rd_eqTrip {K : PySem.W.Frag} {H : Hp} {Q : VK} {r r' t t' : Addr} {k k' : Int} {z z' : Str} {ys ys' : List V} {ls ls' : List (List V)} (h : TripAt H r k z t ys ls) (h' : TripAt H r' k' z' t' ys' ls') (hz : nameOk z = true) (hz' : nameOk z' = true)
    (f : ∀ l ∈ ls, l.all isFlat = true) (f' : ∀ l ∈ ls', l.all isFlat = true) (q : Q (.bl (decide (k = k') && (decide (z = z') && decide (ls = ls')))) H) : rEqD K (.ref r) (.ref r') H Q :=
  ⟨tripD k z ls, tripD k' z' ls', .lst (SqL.of h.1) (.cons (.int _) (.cons (.str _) (.cons (.lst (SqL.of h.2.1) (h.2.2.dp f)) .nil))), .lst (SqL.of h'.1) (.cons (.int _) (.cons (.str _) (.cons (.lst (SqL.of h'.2.1) (h'.2.2.dp f')) .nil))),
    shaped_trip (name_strOk hz) f, shaped_trip (name_strOk hz') f', by rw [eqv_trip f f']; exact q⟩
theorem rd_bm {K : PySem.W.Frag} {T : String} {r : V → List V → Hp → VK → Prop} {to : TE} {t : TA} {σ : L2.St} {H : Hp} {Q : VK} (h : to σ H fun x H1 => tyV K T x H1 ∧ t σ H1 fun xs H2 => r x xs H2 Q) : tBM K T r to t σ H Q := h
theorem tyV_lst {K : PySem.W.Frag} {H : Hp} {a : Addr} {xs : List V} (h : H a = some (.lst xs)) : tyV K "list" (.ref a) H := by
  first
    | exact ⟨xs, SqL.of h⟩
    | exact .inl ⟨rfl, xs, SqL.of h⟩
    | exact ⟨rfl, xs, SqL.of h⟩
    | exact .inl ⟨xs, SqL.of h⟩
theorem rd_methF {X : Cx} {m : Str} {ta : TE} {t : TA} {σ : L2.St} {H : Hp} {Q : VK} (h : ta σ H fun x H1 => ∃ a C dx fs CX k f sp E, x = .ref a ∧ H1 a = some (.ins C dx fs) ∧ fs.lookup m = none ∧ Cls X.K C ∧ Meth X.K C m f ∧ FnR X.prog X.w X.K X.mg X.base CX k f sp ∧ Room k X.A ∧ Passes CX X E ∧ t σ H1 fun vs H2 => sp (x :: vs) H2 Q E) : OwnC.tMethF X m ta t σ H Q := h
/-- with_steps(*steps) of an agent -/
theorem with_ag {C : Addr} {ws : List Str} {H : Hp} {a : Addr} {z : Str} {ls0 : List (List V)} {xs : List V} {ls : List (List V)} {Q : Addr → Hp → Prop} {Q' : VK} {E : XK} (hQ : ∀ x H, Q x H → Q' (.ref x) H) (ha : AgAt C H a z ls0) (hz : nameOk z = true) (hx : RowsAt H xs ls) (h1 : 1 ≤ ls.length) (h2 : ls.length ≤ 24) (hg : ∀ l ∈ ls, GoodStep ws l)
    (q : ∀ x H', Same H H' → AgAt C H' x z ls → Q x H') : spStar 1 (spWithT C ws) (.ref a :: xs) H Q' E := by
  have hl := hx.len
  refine ⟨[.ref a], xs, rfl, rfl, Nat.le_trans (by omega) (show 24 ≤ sizeLine by decide), fun p hp => ?_⟩
  have s := Same.upd (o := .tup xs) hp
  exact ⟨a, z, p, ls0, xs, ls, rfl, ha.mono s, hz, upd_same, hx.mono s, h1, h2, hg, fun x H' _ s' g => hQ _ _ (q x H' (s.trans s') g)⟩
theorem good_sig {k : Int} {w n : Str} (h : w = "post" ∨ w = "wait") (hn : nameOk n = true) : GoodStep (wsK k) [.str w, .str n] := by
  refine .inl ⟨w, n, rfl, ?_, ?_, hn⟩
  · rcases h with rfl | rfl <;> decide +kernel
  · unfold wsK
    split <;> (rcases h with rfl | rfl <;> decide +kernel)
end Lay

end

section
namespace PySem.W
open PySem PySem.Spec PySem.Calls PyProof.Rows
/-- an instance of an exception class of the program, with whatever dict -/
theorem exv_kitx {K : Frag} {x D : Addr} {ox : Obj} {od : Option Obj} (hga : findIn K (.ref D) "__getattribute__" = some (some (.builtin "BaseException.__getattribute__"))) (hgt : findIn K (.ref D) "__getattr__" = some none) (hsub : subIn K (.ref D) (.type "BaseException") = some true) (hdct : hasDictIn K D = true) (ha : findIn K (.ref D) "__class__" = some (some (.builtin "object.__class__")))
    (hn : specialIn K (.builtin "object.__class__") "__get__" = some (some (.builtin "getset_descriptor.__get__"))) (htk : takesIn K (.builtin "object.__class__") = some true) (hm : mroIn K D (.type "object") = some true) :
    KitX K (.ref x) (.ref D) (fun h => InstAt h x ox D od) where
  ty := fun _ _ _ I => I.type
  it := fun _ _ X _ => by
    obtain ⟨cdD, hcD, _⟩ := any_some hdct
    unfold clsIn at hcD
    split at hcD
    · rename_i c' d' cd' sl' ho
      intro A' Q' E' s' k q
      unfold isType loadHead
      exact wpAny_bind (wpAny_loadPart (k _ _ (X _ _ ho)) (wpAny_pure q))
    · cases hcD
  ne := fun h tp dd its n sl X htp => by
    obtain ⟨cdD, hcD, _⟩ := any_some hdct
    refine Bool.eq_false_iff.mpr fun q => ?_
    have e : D = tp := Value.ref.inj (beq_iff_eq.mp q)
    subst e
    unfold clsIn at hcD
    split at hcD
    · rename_i c' d' cd' sl' ho
      have z := (X _ _ ho).symm.trans htp
      cases z
    · cases hcD
  ca := fun X I k => kx_classE X I hga hgt hsub (findObj_dataE (by obtain ⟨cd, hc, _⟩ := any_some hdct; rw [hc]; rfl) ha hn htk) hm k
end PySem.W
namespace Exv
open PySem L2 PySem.Spec PyProof.Rows
/-- at a: an exception of the class cls, its own dict d -/
def exv (a : Addr) (cls : Value) (d : Option Addr) : HO := .ext fun h => ∃ (oe : Obj) (vs : Array Value), h.get? a = some oe ∧ Zc cls d oe ∧ oe.data = .fields vs
theorem exv_ok {P : Program} {w : World} {H : Hp} {h : Heap} {a : Addr} {cls : Value} {d : Option Addr} {oe : Obj} {vs : Array Value} (e : h.get? a = some oe) (z : Zc cls d oe) (hd : oe.data = .fields vs) : ObjOk P w H h a (exv a cls d) :=
  ⟨⟨oe, vs, e, z, hd⟩, ⟨oe, e⟩, fun _ _ ⟨o, v, q, r⟩ k => ⟨o, v, k o q, r⟩⟩
section
variable {X : Cx} {pins : List (Addr × Obj)} {σ : L2.St} {H : Hp} {s : Shared}
theorem exv_at {a : Addr} {cls : Value} {d : Option Addr} (I : Inv X pins σ H s) (h : H a = some (exv a cls d)) : ∃ (oe : Obj) (vs : Array Value), s.heap.get? a = some oe ∧ Zc cls d oe ∧ oe.data = .fields vs := by
  have z : ObjOk X.prog X.w H s.heap a (.ext fun h => ∃ (oe : Obj) (vs : Array Value), h.get? a = some oe ∧ Zc cls d oe ∧ oe.data = .fields vs) := I.hok a _ h
  exact z.1
/-- an exception's object that stands there, untracked and ours, is tracked -/
theorem track {a : Addr} {oe : Obj} {vs : Array Value} {cls : Value} {d : Option Addr} (I : Inv X pins σ H s) (na : H a = none) (ha : s.heap.get? a = some oe) (hz : Zc cls d oe) (hd : oe.data = .fields vs)
    (h0 : ∀ o, X.s_0.heap.get? a = some o → a ∈ X.ex) (nL : a ≠ X.env.locals) (np : ∀ p ∈ X.pn ++ pins, p.1 ≠ a) : Inv X pins σ (upd H a (exv a cls d)) s := by
  refine ⟨I.ok, I.os, I.bare, ⟨I.base.keep, I.base.slot, fun b o e n hx => ?_, I.base.there, fun b xs e => ?_, fun b o u e => ?_, fun b ps e => ?_⟩, I.loc, I.cell, ?_, fun x c e => ?_, fun p hp => ?_, fun b u e => ?_, I.len⟩
  · by_cases hb : b = a
    · subst hb; exact absurd (h0 o e) hx
    · rw [upd_ne hb]; exact I.base.free b o e n hx
  · have q := I.base.tups b xs e
    rw [upd_ne (ne_of_none q na)]; exact q
  · have q := I.base.frzs b o u e
    rw [upd_ne (ne_of_none q na)]; exact q
  · obtain ⟨m, q⟩ := I.base.tbls b ps e
    exact ⟨m, by rw [upd_ne (ne_of_none q na)]; exact q⟩
  · rw [upd_ne (Ne.symm nL)]; exact I.free
  · have hc : c ≠ a := fun z => by
      subst z
      obtain ⟨v, o, ho, hv⟩ := I.cell x c e
      rw [ha] at ho
      cases ho
      rw [hd] at hv
      cases hv
    rw [upd_ne hc]; exact I.freeC x c e
  · obtain ⟨e, n, r⟩ := I.pin p hp
    exact ⟨e, by rw [upd_ne (np p hp)]; exact n, r⟩
  · by_cases hb : b = a
    · subst hb
      rw [upd_same] at e
      cases e
      exact exv_ok ha hz hd
    · rw [upd_ne hb] at e
      exact (I.hok b u e).stay (fun _ _ _ q => q) (fun c q => by rw [upd_ne (ne_of_none q na)]; exact q) (fun c xs q => by rw [upd_ne (ne_of_none q na)]; exact q)
end
/-- what 'except x as n' wishes of an exception of the body, where the exception is kept behind the suite -/
def wAsK (K : PySem.W.Frag) (c : Value) (i : Nat) (ts : Addr → Value → Option Addr → TS) (Wout : WX) (D : Ends) : WX := fun cls d σ H =>
  ∃ b, PySem.W.exmOne K cls c = some b ∧ (b = true → ∀ a, H a = none → ts a cls d { nx := fun σ' H' => H' a = none → D.nx (σ'.set i none) (upd H' a (exv a cls d)), rt := fun v H' => H' a = none → D.rt v (upd H' a (exv a cls d)), bk := fun σ' H' => H' a = none → D.bk (σ'.set i none) (upd H' a (exv a cls d)), ct := fun σ' H' => H' a = none → D.ct (σ'.set i none) (upd H' a (exv a cls d)) } (σ.set i (some (.ref a))) H) ∧
    (b = false → Wout cls d σ H)
section
variable {X : Cx} {pins : List (Addr × Obj)} {σ : L2.St} {H : Hp} {s : Shared}
variable {x n : Str} {c : Value} {i : Nat} {body suite : List Stmt} {b₀ : Stmt} {np pos pos' : Pos} {tb : WX → TS} {ts : Addr → Value → Option Addr → TS} {Wout : WX}
theorem ps_try_asK (hs : X.stack = X.env :: X.outer) (hf : X.env.frame = some X.env.locals) (hN : X.N.Nodup) (hi : X.N[i]? = some n) (hln : X.env.kindOf n = some .local) (hc : Names X x c) (tk : Takes X Wout)
    (hb : ∀ (W : WX) (pn : List (Addr × Obj)) (xe : Value → Shared → Prop), Takes (X.tr pn xe) W → PassesOwn (model X.prog X.w) X.A X.env xe → PSs (X.tr pn xe) body (tb W))
    (hsu : ∀ (a : Addr) (oe : Obj) (cls : Value) (d : Option Addr) (pn : List (Addr × Obj)), Zc cls d oe → (∃ vs, oe.data = .fields vs) → PSs (X.suite a ((a, oe) :: pn)) (b₀ :: suite) (ts a cls d)) :
    PS X (.Try body [.ExceptHandler (some (.Name x np)) (some n) (b₀ :: suite) pos'] [] [] pos) (fun D σ H => tb (wAsK X.K c i ts Wout D) D σ H) := by
  refine ⟨fun pins s σ H D I h => ?_⟩
  have ok := I.ok
  have hfr : X.A.frames = some (X.env :: X.outer) := by rw [ok.frames, hs]
  have hloc : Loc X.env.scope n := .inl hln
  refine wpAny_Try_except ?_
  refine wpAny_mono ((hb (wAsK X.K c i ts Wout D) (X.pn ++ pins) (fun e s₁ => wpAny (model X.prog X.w) X.A (noteFrame e X.env) (fun _ s₂ => wpAny (model X.prog X.w) X.A (setFlight e none) (fun _ s₃ =>
    wpAny (model X.prog X.w) X.A (handleBy e X.env [.ExceptHandler (some (.Name x np)) (some n) (b₀ :: suite) pos']) (SP X pins D) X.xe s₃) X.xe s₂) X.xe s₁) (fun u s' xx => ?_) PassesOwn.looking).run [] s σ H D (I.toTry _) h) (fun f s1 hsp => ?_) (fun e s1 he => he)
  · -- the catch
    obtain ⟨a, B, sI, pins', σ', H', cls, d, rfl, J', nb, up, sky, na, os, ag, b, hb1, hyes, hno⟩ := xx
    have J : Inv X pins σ' H' sI := J'.ofTry ok
    have sky' : Sky B (X.env :: X.outer) a (Zc cls d) X.env.locals s'.heap := by rw [← hs]; exact sky
    show wpAny (model X.prog X.w) X.A (noteFrame (.ref a) X.env) _ _ _
    refine Sky.land Zc.steady hfr hf sky' fun h3 fl3 up3 => ?_
    have J3 : Inv X pins σ' H' { s' with heap := h3 } := J.landed nb fl3.1 (up.trans up3) os ag
    obtain ⟨oe3, vs3, he3, hz3, hd3⟩ := fl3.there
    have notFr : ∀ {h : Heap} {o : Obj} {vs : Array Value}, h.FunFrames B (X.env :: X.outer) → h.get? a = some o → o.data = .fields vs → a ∉ frs (X.env :: X.outer) := fun {h o vs} ff e dd hm => by
      obtain ⟨_, o', e', hnf⟩ := ff.mem hm
      rw [e] at e'; cases e'
      exact hnf _ dd
    have nfr := notFr fl3.2.2.1 he3 hd3
    have nL : a ≠ X.env.locals := fun z => nfr (List.mem_filterMap.mpr ⟨X.env, List.mem_cons_self, by rw [hf, z]⟩)
    have nF : a ∉ X.fs := fun hm => by
      obtain ⟨e, he, q⟩ := List.mem_filterMap.mp hm
      exact nfr (List.mem_filterMap.mpr ⟨e, List.mem_cons_of_mem _ he, q⟩)
    have noI : ∀ o, sI.heap.get? a = some o → False := fun o e => by
      have z := nb a o e (by rw [hs]; exact nfr)
      rw [fl3.2.1] at z
      cases z
    have h0 : ∀ o, X.s_0.heap.get? a = some o → a ∈ X.ex := fun o e => Classical.byContradiction fun hx => by
      obtain ⟨o', e'⟩ := J.base.there a o e hx
      exact noI o' e'
    have npp : ∀ p ∈ X.pn ++ pins, p.1 ≠ a := fun p hp z => by
      have e := (J.pin p hp).1
      rw [z] at e
      exact noI _ e
    have S3 := J3.suite he3 hd3 na nL nF
    refine wpAny_handleBy_cons (codeAny_handlers_test ?_) (by intro q; cases q)
    have LT : PySem.W.Looks (model X.prog X.w) h3 (typeOf (.ref a)) cls := fun A Q E s k q => wpAny_typeOf_ref (k _ _ he3) (by rw [hz3.1]; exact q)
    have LM := PySem.W.exm_one (M := model X.prog X.w) (J3.kIn) LT hb1
    have test : ∀ {Q : Value → Shared → Prop} {E : Value → Shared → Prop}, Q c { s' with heap := h3 } → wpAny (model X.prog X.w) (X.A.mark (some (.ref a))) (eval (.Name x np) X.env) Q E { s' with heap := h3 } := fun {Q E} q => by
      obtain ⟨hg, hdbg, hm | ⟨hm, hv, hnn⟩⟩ := hc
      · exact ld_glob (X := X.suite a ((a, oe3) :: (X.pn ++ pins))) S3 hg hm q hdbg
      · exact ld_blt (X := X.suite a ((a, oe3) :: (X.pn ++ pins))) S3 hg hm hv q hnn hdbg
    refine test (LM.here ?_)
    cases b with
    | true =>
      refine codeAny_handlers_suite_as ?_
      refine HandSPX.lands_againZ fl3 fun h4 fl4 up4 => ?_
      have J4 : Inv X pins σ' H' { s' with heap := h4 } := J.landed nb fl4.1 ((up.trans up3).trans up4) os ag
      obtain ⟨oe4, vs4, he4, hz4, hd4⟩ := fl4.there
      have S4 := J4.suite he4 hd4 na nL nF
      refine store_ok (X := X.suite a ((a, oe4) :: (X.pn ++ pins))) (v := .ref a) S4 hN hi hloc rfl (fun s5 S5 => ?_) (.inr hln)
      refine wpAny_mono ((hsu a oe4 cls d (X.pn ++ pins) hz4 ⟨_, hd4⟩).run [] s5 _ H' _ S5 (hyes rfl a na)) (fun f s6 hsp => ?_) (fun _ _ z => False.elim z)
      have end_ : ∀ {σ6 : L2.St} {H6 : Hp} {Q : Shared → Prop}, Inv (X.suite a ((a, oe4) :: (X.pn ++ pins))) [] σ6 H6 s6 → (H6 a = none → ∀ s7, Inv X pins (σ6.set i none) (upd H6 a (exv a cls d)) s7 → Q s7) →
          wpAny (model X.prog X.w) X.A (do bindName X.env n .none; unbindBehindTheSuite X.env n pos') (fun _ s7 => Q s7) X.xe s6 := fun {σ6 H6 Q} S6 hq => by
        obtain ⟨ha6, na6, _⟩ := S6.pin (a, oe4) (List.mem_append_left _ List.mem_cons_self)
        exact gone_ok (track (S6.unsuite ok) na6 ha6 hz4 hd4 h0 nL npp) hN hi hln (hq na6)
      cases f with
      | next =>
        obtain ⟨σ6, H6, S6, q6⟩ := hsp
        exact end_ S6 fun n6 s7 J7 => ⟨_, _, J7, q6 n6⟩
      | brk =>
        obtain ⟨σ6, H6, S6, q6⟩ := hsp
        exact end_ S6 fun n6 s7 J7 => ⟨_, _, J7, q6 n6⟩
      | cont =>
        obtain ⟨σ6, H6, S6, q6⟩ := hsp
        exact end_ S6 fun n6 s7 J7 => ⟨_, _, J7, q6 n6⟩
      | ret u =>
        obtain ⟨v6, σ6, H6, S6, r6, q6⟩ := hsp
        exact end_ S6 fun n6 s7 J7 => ⟨_, _, _, J7, r6, q6 n6⟩
    | false =>
      show wpAny _ X.A (handleBy (.ref a) X.env []) _ _ _
      refine wpAny_handleBy_nil ?_
      obtain ⟨k1, k2, k3, oe, vs, T, oT, ts', he, hz, hd, h1, hr⟩ := id fl3
      unfold PySem.passOn
      refine wpAny_bind (wpAny_field he hd h1 ?_)
      rw [if_neg (show ¬ ((Value.ref T == Value.none) = true) from by simp)]
      have fin : wpAny (model X.prog X.w) X.A (setFlight (.ref a) X.env.frame) (fun _ s4 => wpAny (model X.prog X.w) X.A (throw (.ref a) : Sem Flow) (SP X pins D) X.xe s4) X.xe { s' with heap := h3 } := by
        rw [hf]
        refine HandSPX.setFlight_upZ fl3 fun h4 hh4 up4 => wpAny_throw (tk _ _ ?_)
        exact ⟨a, B, sI, pins, σ', H', cls, d, rfl, J, nb, (up.trans up3).trans up4, .inr (.inr (by rw [hs]; exact hh4)), na, os, ag, hno rfl⟩
      first
        | exact wpAny_bind (wpAny_pure (wpAny_bind fin))
        | exact wpAny_bind fin
  · cases f with
    | next =>
      obtain ⟨σ', H', J', q⟩ := hsp
      exact wpAny_execs_nil ⟨σ', H', J'.ofTry ok, q⟩
    | brk =>
      obtain ⟨σ', H', J', q⟩ := hsp
      exact ⟨σ', H', J'.ofTry ok, q⟩
    | cont =>
      obtain ⟨σ', H', J', q⟩ := hsp
      exact ⟨σ', H', J'.ofTry ok, q⟩
    | ret u =>
      obtain ⟨v, σ', H', J', r, q⟩ := hsp
      exact ⟨v, σ', H', J'.ofTry ok, r, q⟩
end
/-! ### fields, isinstance of a kept exception -/
/-- e.f of a kept exception -/
def tXv (K : PySem.W.Frag) (n : Str) (te : TE) : TE := fun σ H Q => te σ H fun x H1 => ∃ (a C dd : Addr) (fs : List (Str × V)) (v : V), x = .ref a ∧ H1 a = some (exv a (.ref C) (some dd)) ∧ H1 dd = some (.xd fs) ∧ XfC K C ∧ PySem.W.findIn K (.ref C) n = some none ∧ fs.lookup n = some v ∧ Q v H1
theorem rd_xv {K : PySem.W.Frag} {n : Str} {te : TE} {σ : L2.St} {H : Hp} {Q : VK} (h : te σ H fun x H1 => ∃ (a C dd : Addr) (fs : List (Str × V)) (v : V), x = .ref a ∧ H1 a = some (exv a (.ref C) (some dd)) ∧ H1 dd = some (.xd fs) ∧ XfC K C ∧ PySem.W.findIn K (.ref C) n = some none ∧ fs.lookup n = some v ∧ Q v H1) : tXv K n te σ H Q := h
theorem inst_at {X : Cx} {pins : List (Addr × Obj)} {σ : L2.St} {H : Hp} {s : Shared} {a C dd : Addr} {fs : List (Str × V)} (I : Inv X pins σ H s) (ha : H a = some (exv a (.ref C) (some dd))) (ed : H dd = some (.xd fs)) :
    ∃ (oe od : Obj) (mA : Str → Option Value), PySem.W.InstAt s.heap a oe C (some od) ∧ (∀ f, RelO (fs.lookup f) (mA f)) ∧ ∀ n, PySem.W.lookIn n od = some (mA n) := by
  obtain ⟨oe, vs, e1, hz, hd⟩ := exv_at I ha
  have hx : ObjOk X.prog X.w H s.heap dd (.xd fs) := I.hok dd _ ed
  obtain ⟨mA, hns, hr⟩ := hx
  obtain ⟨od, ho, hl⟩ := lookIn_ns hns
  exact ⟨oe, od, mA, ⟨e1, hz.1, by unfold PySem.W.notCls; rw [hd] <;> rfl, by rw [hz.2]; exact ho⟩, hr, fun n => hl n⟩
theorem pe_xv {X : Cx} {e : Expr} {te : TE} {pos : Pos} {n : Str} (he : PE X e te) (hb : attributeBase e n X.env (eval e X.env) = eval e X.env := by rfl) : PE X (.Attribute e n pos) (tXv X.K n te) := by
  refine ⟨fun pins s σ H Q I h => ?_⟩
  refine attr_of hb (thn (he.run pins s σ H _ I h) fun u s1 hh => ?_)
  obtain ⟨x, H1, I1, rx, a, C, dd, fs, v, ex, ea, ed, T, hno, l, q⟩ := hh
  subst ex
  obtain rfl : u = Value.ref a := rx
  obtain ⟨oe, od, mA, J, hr, hl⟩ := inst_at I1 ea ed
  obtain ⟨u, hu, ru⟩ := RelO.some_of (v := v) (o := mA n) (by rw [← l]; exact hr n)
  exact HandSPX.exc_get I1.kIn J T.ga T.gg T.exC (PySem.W.findObj_own T.hdC hno rfl (by rw [hl, hu])) (handed_of ru) ⟨v, H1, I1.tok _, ru, q⟩
/-- a value's type, kept exceptions too -/
inductive TyW (K : PySem.W.Frag) (H : Hp) : V → Value → Prop
  | old {x : V} {t : Value} (h : TyX K H x t) : TyW K H x t
  | exc {a C d : Addr} {fs : List (Str × V)} (h : H a = some (exv a (.ref C) (some d))) (hd : H d = some (.xd fs)) (c : ExcC K C) : TyW K H (.ref a) (.ref C)
  | exn {a C : Addr} (h : H a = some (exv a (.ref C) none)) (c : ExcC K C) : TyW K H (.ref a) (.ref C)
theorem kit_ofW {X : Cx} {pins : List (Addr × Obj)} {σ : L2.St} {H : Hp} {s : Shared} {x : V} {u t : Value} (I : Inv X pins σ H s) (rx : RelV x u) (ty : TyW X.K H x t) : ∃ P : Heap → Prop, PySem.W.KitX X.K u t P ∧ P s.heap ∧ u ≠ .builtin "__main__.__loader__#opaque" := by
  cases ty with
  | old h => exact kit_of I rx h
  | @exc a C d fs ha hd c =>
    cases (show u = Value.ref a from rx)
    obtain ⟨oe, od, mA, J, _⟩ := inst_at I ha hd
    exact ⟨_, PySem.W.exv_kitx c.hg c.hk c.hs c.hd c.ha c.hn c.ht c.hm, J, fun z => nomatch z⟩
  | @exn a C ha c =>
    cases (show u = Value.ref a from rx)
    obtain ⟨oe, vs, e1, hz, hd⟩ := exv_at I ha
    have J : PySem.W.InstAt s.heap a oe C none := ⟨e1, hz.1, by unfold PySem.W.notCls; rw [hd] <;> rfl, by rw [hz.2]; exact trivial⟩
    exact ⟨_, PySem.W.exv_kitx c.hg c.hk c.hs c.hd c.ha c.hn c.ht c.hm, J, fun z => nomatch z⟩
def rIsiW (K : PySem.W.Frag) : List V → Hp → VK → Prop := fun xs H Q => ∃ (x c : V) (t u : Value) (b : Bool), xs = [x, c] ∧ ClsV c u ∧ TyW K H x t ∧ PySem.W.kitOne K t u = some b ∧ Q (.bl b) H
def rIsiTW (K : PySem.W.Frag) : List V → Hp → VK → Prop := fun xs H Q => ∃ (x : V) (tp : Addr) (cs : List V) (t : Value) (us : List Value) (b : Bool), xs = [x, .ref tp] ∧ H tp = some (.tup cs) ∧ Paired ClsV cs us ∧ TyW K H x t ∧ PySem.W.kitAny K t us = some b ∧ Q (.bl b) H
theorem rd_isiW {K : PySem.W.Frag} {H : Hp} {Q : VK} {x c : V} {t u : Value} (b : Bool) (hc : ClsV c u) (hx : TyW K H x t) (h : PySem.W.kitOne K t u = some b) (q : Q (.bl b) H) : rIsiW K [x, c] H Q := ⟨x, c, t, u, b, rfl, hc, hx, h, q⟩
theorem rd_isiTW {K : PySem.W.Frag} {H : Hp} {Q : VK} {x : V} {tp : Addr} {cs : List V} {t : Value} {us : List Value} (b : Bool) (ht : H tp = some (.tup cs)) (hc : Paired ClsV cs us) (hx : TyW K H x t) (h : PySem.W.kitAny K t us = some b) (q : Q (.bl b) H) : rIsiTW K [x, .ref tp] H Q := ⟨x, tp, cs, t, us, b, rfl, ht, hc, hx, h, q⟩
section
variable {X : Cx}
theorem call_isiW : CallR X (.builtin "isinstance") (rIsiW X.K) := by
  intro pins s σ H xs us Q I r h
  obtain ⟨x, c, t, u, b, rfl, k, ty, e, q⟩ := h
  obtain ⟨u1, u2, rfl, r1, r2⟩ := vals2 r
  have e2 := k.eq r2
  subst e2
  obtain ⟨P, Z, p, hx⟩ := kit_ofW I r1 ty
  exact PySem.W.kia_one Z I.kIn p e hx fun tk => ⟨.bl b, H, I.tok tk, rfl, q⟩
theorem call_isiTW : CallR X (.builtin "isinstance") (rIsiTW X.K) := by
  intro pins s σ H xs us Q I r h
  obtain ⟨x, tp, cs, t, ws, b, rfl, hT, k, ty, e, q⟩ := h
  obtain ⟨u1, u2, rfl, r1, r2⟩ := vals2 r
  cases (show u2 = Value.ref tp from r2)
  obtain ⟨P, Z, p, hx⟩ := kit_ofW I r1 ty
  obtain ⟨_, its, rv, o, h1, h2, n, h3⟩ := (show ObjOk X.prog X.w H s.heap tp (.tup cs) from I.hok tp _ hT)
  have e3 := ClsV.all k rv
  subst e3
  obtain ⟨oc, od, dt, sl⟩ := o
  simp only at h2 h3
  subst h2 h3
  exact PySem.W.kia_tup Z I.kIn p h1 e hx fun tk => ⟨.bl b, H, I.tok tk, rfl, q⟩
end
/-! ### an exception made, as a value -/
theorem pe_of_mk {X : Cx} {e : Expr} {t : L2.St → Hp → XK → Prop} (h : PMk X e t) : PE X e (fun σ H Q => t σ H fun cls d H1 => ∀ a, H1 a = none → Q (.ref a) (upd H1 a (exv a cls d))) := by
  refine ⟨fun pins s σ H Q I q => ?_⟩
  refine wpAny_mono (h pins s σ H _ I q) (fun u s1 hu => ?_) fun _ _ x => x
  obtain ⟨a, oe, vs, sI, H1, cls, d, rfl, J, k, hne, ha, hz, hd, h1, na, os, ag, _, qq⟩ := hu
  refine ⟨.ref a, upd H1 a (exv a cls d), ?_, rfl, qq a na⟩
  exact J.call' (ch := []) os (Un.laidN k hne na) (J.hok.laidN k na (exv_ok ha hz hd)) ag (fun b z => absurd z (by simp))
/-! ### an instance made where __init__ may raise: what is raised is wished for at the slots -/
def tMakeS (C : Addr) (sp : Sp) (dvs : List V) (E : L2.St → XK) (t : TA) : TE := fun σ H Q => t σ H fun vs H1 => ∀ x dx, H1 x = none → H1 dx = none → dx ≠ x →
  sp (.ref x :: (vs ++ dvs)) (upd (upd H1 dx (.own x)) x (.ins C dx [])) (fun v H2 => v = .non ∧ Q (.ref x) H2) (E σ)
theorem rd_makeS {C : Addr} {sp : Sp} {dvs : List V} {E : L2.St → XK} {t : TA} {σ : L2.St} {H : Hp} {Q : VK} (h : t σ H fun vs H1 => ∀ x dx, H1 x = none → H1 dx = none → dx ≠ x →
  sp (.ref x :: (vs ++ dvs)) (upd (upd H1 dx (.own x)) x (.ins C dx [])) (fun v H2 => v = .non ∧ Q (.ref x) H2) (E σ)) : tMakeS C sp dvs E t σ H Q := h
def tMakeKS (C : Addr) (n m : Nat) (sp : Sp) (gV : List V → List V → List V) (E : L2.St → XK) (t tk : TA) : TE := fun σ H Q => t σ H fun vs H1 => tk σ H1 fun zs H2 => vs.length = n ∧ zs.length = m ∧ ∀ x dx, H2 x = none → H2 dx = none → dx ≠ x →
  sp (gV (.ref x :: vs) zs) (upd (upd H2 dx (.own x)) x (.ins C dx [])) (fun v H3 => v = .non ∧ Q (.ref x) H3) (E σ)
theorem rd_makeKS {C : Addr} {n m : Nat} {sp : Sp} {gV : List V → List V → List V} {E : L2.St → XK} {t tk : TA} {σ : L2.St} {H : Hp} {Q : VK} (h : t σ H fun vs H1 => tk σ H1 fun zs H2 => vs.length = n ∧ zs.length = m ∧ ∀ x dx, H2 x = none → H2 dx = none → dx ≠ x →
  sp (gV (.ref x :: vs) zs) (upd (upd H2 dx (.own x)) x (.ins C dx [])) (fun v H3 => v = .non ∧ Q (.ref x) H3) (E σ)) : tMakeKS C n m sp gV E t tk σ H Q := h
section
variable {X : Cx} {CX : CXT} {k n : Nat} {f C : Addr} {fd : FuncData} {ps ks : List Str} {sp : Sp} {E : L2.St → XK} {x : Str} {p pos : Pos} {e : Expr} {es : List Expr} {kws : List Keyword} {t tk : TA} {g : List Value → List Value → List Value} {gV : List V → List V → List V} {ds : List Value} {dvs : List V}
theorem run_makeS {pins : List (Addr × Obj)} {σ : L2.St} {H : Hp} {s : Shared} {Q : VK} {us : List Value} {vs : List V} (M : Mk X.K C f) (F : FnOk X.prog X.w X.K X.mg X.base CX k f fd ps sp) (hr : Room (k + 1) X.A) (hb : Binds X.K fd ps ds) (hd : Vals dvs ds)
    (hx : PassesAt CX X σ (E σ)) (I : Inv X pins σ H s) (r : Vals vs us)
    (h : ∀ x dx, H x = none → H dx = none → dx ≠ x → sp (.ref x :: (vs ++ dvs)) (upd (upd H dx (.own x)) x (.ins C dx [])) (fun v H2 => v = .non ∧ Q (.ref x) H2) (E σ)) :
    wpAny (model X.prog X.w) X.A (call (.ref C) us) (EP X pins σ Q) X.xe s := by
  have hq := h (s.heap.objs.size + 1) s.heap.objs.size (I.hok.fresh (Nat.le_succ _)) (I.hok.fresh (Nat.le_refl _)) (Nat.ne_of_lt (Nat.lt_succ_self _))
  have I2 := Inv.made (C := C) I
  have r2 : Vals (V.ref (s.heap.objs.size + 1) :: (vs ++ dvs)) (Value.ref (s.heap.objs.size + 1) :: (us ++ ds)) := .cons rfl (r.append hd)
  have hl : (Value.ref (s.heap.objs.size + 1) :: us ++ ds).length = ps.length := by
    have e := r2.length
    rw [F.len _ _ _ _ hq] at e
    exact e.symm
  refine wpAny_call (make_map (f := f) I.kIn M.makes M.init (beq_iff_eq.mp M.fn) (codeAny_mono (F.run _ X.stack _ _ ⟨Value.ref (s.heap.objs.size + 1) :: us, []⟩ (Value.ref (s.heap.objs.size + 1) :: (us ++ ds)) _ _ (E σ) (hr.make C us [])
    (I2.env0.make C us []) (hb _ (Value.ref (s.heap.objs.size + 1) :: us) I2.kIn hl) r2 hq) fun r s' hq' => ?_))
  cases r with
  | error e => exact hx pins _ _ e s' I2 hq'
  | ok fl =>
    cases fl with
    | ret u =>
      obtain ⟨v, H', I3, rv, ev, q3⟩ := I2.after hq'
      subst ev
      exact ⟨rv, ⟨V.ref (s.heap.objs.size + 1), H', I3, rfl, q3⟩⟩
    | next => exact False.elim hq'
    | brk => exact False.elim hq'
    | cont => exact False.elim hq'
theorem pe_makeS (M : Mk X.K C f) (F : FnOk X.prog X.w X.K X.mg X.base CX k f fd ps sp) (hr : Room (k + 1) X.A) (hg : Gl X x) (hm : X.mg x = some (.ref C)) (hb : Binds X.K fd ps ds) (hd : Vals dvs ds) (hx : ∀ σ, PassesAt CX X σ (E σ))
    (ha : PA X (e :: es) t) (hdb : (x == ("__debug__" : Str)) = false := by decide) (he : starEach (e :: es) X.env = (false, eval e X.env) :: starEach es X.env := by rfl) (hpl : (backTo pos (starEach es X.env)).any (·.1) = false := by rfl) :
    PE X (.Call (.Name x p) (e :: es) [] pos) (tMakeS C sp dvs E t) := by
  refine ⟨fun pins s σ H Q I h => ?_⟩
  refine wpAny_Call_Name_kw (ld_glob I hg hm ?_ hdb)
  refine PySem.W.callWith_K (h₀ := X.base) I.ok.mod.kin M.kp (thn (ha.run pos pins s σ H _ I h) fun us s1 ⟨vs, H1, I1, r, q⟩ => ⟨I1.kIn, ?_⟩) he hpl
  exact run_makeS M F hr hb hd (hx σ) I1 r q
theorem run_makeKS {pins : List (Addr × Obj)} {σ : L2.St} {H : Hp} {s : Shared} {Q : VK} {us ws : List Value} {vs zs : List V} (M : Mk X.K C f) (F : FnOk X.prog X.w X.K X.mg X.base CX k f fd ps sp) (hr : Room (k + 1) X.A) (hb : KBn X.K fd ps (n + 1) ks g gV) (hx : PassesAt CX X σ (E σ))
    (I : Inv X pins σ H s) (r : Vals vs us) (rz : Vals zs ws) (l1 : vs.length = n) (l2 : zs.length = ks.length)
    (h : ∀ x dx, H x = none → H dx = none → dx ≠ x → sp (gV (.ref x :: vs) zs) (upd (upd H dx (.own x)) x (.ins C dx [])) (fun v H2 => v = .non ∧ Q (.ref x) H2) (E σ)) :
    wpAny (model X.prog X.w) X.A (call (.ref C) us (ks.zip ws)) (EP X pins σ Q) X.xe s := by
  have hq := h (s.heap.objs.size + 1) s.heap.objs.size (I.hok.fresh (Nat.le_succ _)) (I.hok.fresh (Nat.le_refl _)) (Nat.ne_of_lt (Nat.lt_succ_self _))
  have I2 := Inv.made (C := C) I
  have r1 : Vals (V.ref (s.heap.objs.size + 1) :: vs) (Value.ref (s.heap.objs.size + 1) :: us) := .cons rfl r
  have r2 := hb.rel r1 rz
  have n1 : (Value.ref (s.heap.objs.size + 1) :: us).length = n + 1 := by
    rw [List.length_cons, ← r.length, l1]
  refine wpAny_call (make_map (f := f) I.kIn M.makes M.init (beq_iff_eq.mp M.fn) (codeAny_mono (F.run _ X.stack _ _ ⟨Value.ref (s.heap.objs.size + 1) :: us, ks.zip ws⟩ (g (Value.ref (s.heap.objs.size + 1) :: us) ws) _ _ (E σ) (hr.make C us (ks.zip ws))
    (I2.env0.make C us (ks.zip ws)) (hb.to _ (Value.ref (s.heap.objs.size + 1) :: us) ws I2.kIn n1 (rz.length.symm.trans l2)) r2 hq) fun r s' hq' => ?_))
  cases r with
  | error e => exact hx pins _ _ e s' I2 hq'
  | ok fl =>
    cases fl with
    | ret u =>
      obtain ⟨v, H', I3, rv, ev, q3⟩ := I2.after hq'
      subst ev
      exact ⟨rv, ⟨V.ref (s.heap.objs.size + 1), H', I3, rfl, q3⟩⟩
    | next => exact False.elim hq'
    | brk => exact False.elim hq'
    | cont => exact False.elim hq'
/-- C(k = v, ..) -/
theorem pe_makeKS0 (M : Mk X.K C f) (F : FnOk X.prog X.w X.K X.mg X.base CX k f fd ps sp) (hr : Room (k + 1) X.A) (hg : Gl X x) (hm : X.mg x = some (.ref C)) (hb : KBn X.K fd ps 1 ks g gV) (hx : ∀ σ, PassesAt CX X σ (E σ)) (hkw : PK X kws tk)
    (hall : (backToKw pos (keywordEach kws X.env)).all (·.1.isSome) = true := by rfl) (hks : (backToKw pos (keywordEach kws X.env)).filterMap (·.1) = ks := by rfl) (hdb : (x == ("__debug__" : Str)) = false := by decide)
    (hpl : ((backTo pos (starEach [] X.env)).any (·.1) || (backToKw pos (keywordEach kws X.env)).any (·.1.isNone)) = false := by rfl) :
    PE X (.Call (.Name x p) [] kws pos) (tMakeKS C 0 ks.length sp gV E tNil tk) := by
  refine ⟨fun pins s σ H Q I h => ?_⟩
  refine wpAny_Call_Name_kw (ld_glob I hg hm ?_ hdb)
  refine PySem.W.callWith_KW0 (h₀ := X.base) I.ok.mod.kin M.kp hall ?_ hpl
  refine thn (hkw.run pos pins s σ H _ I h) fun ws s2 ⟨zs, H2, I2, rz, l1, l2, q2⟩ => ⟨I2.kIn, ?_⟩
  rw [hks]
  exact run_makeKS (us := []) (vs := []) M F hr hb (hx σ) I2 .nil rz rfl l2 q2
end
end Exv

end

section
/-! Grd: repr of data; defs that are called where nothing is being shown (guards), their calls, the law's own call. -/
namespace Grd
open PySem PySem.Spec PyProof.Rows L2
open PySem.Sem (wp)

/-- a value without parts -/
def leafD : V → PyData
  | .non => .none
  | .bl b => .bool b
  | .int i => .int i
  | .str z => .str z
  | _ => .none
def isLeaf : V → Bool
  | .non | .bl _ | .int _ | .str _ => true
  | _ => false
/-- data with a dict at most at its head -/
inductive DpX (K : PySem.W.Frag) (H : Hp) : V → PyData → Prop
  | of {v : V} {d : PyData} : Dp K H v d → DpX K H v d
  | dict {a : Addr} {kvs : List (Key × V)} : H a = some (.dK kvs) → (∀ kv ∈ kvs, isLeaf kv.2 = true) → DpX K H (.ref a) (.dict (kvs.map fun kv => (leafD (kV kv.1), leafD kv.2)))

mutual
theorem noDict {K : PySem.W.Frag} {H : Hp} : ∀ (d : PyData) (v : V), Dp K H v d → d.hasDict = false
  | .none, _, _ => by simp only [PyData.hasDict]
  | .bool _, _, _ => by simp only [PyData.hasDict]
  | .int _, _, _ => by simp only [PyData.hasDict]
  | .str _, _, _ => by simp only [PyData.hasDict]
  | .list ds, _, h => by
    cases h with
    | lst hs ha => simp only [PyData.hasDict]; exact noDictAll ds _ ha
  | .tuple ds, _, h => by
    cases h with
    | tup hs ha => simp only [PyData.hasDict]; exact noDictAll ds _ ha
  | .dict _, _, h => by cases h
theorem noDictAll {K : PySem.W.Frag} {H : Hp} : ∀ (ds : List PyData) (vs : List V), DpAll K H vs ds → PyData.hasDictAll ds = false
  | [], _, _ => by simp only [PyData.hasDictAll]
  | d :: ds, _, h => by
    cases h with
    | cons h1 h2 => simp only [PyData.hasDictAll, noDict d _ h1, noDictAll ds _ h2, Bool.or_self]
end

theorem reads_leaf {h : Heap} {v : V} {u : Value} (hl : isLeaf v = true) (r : RelV v u) : Reads h u (leafD v) [] := by
  cases v with
  | non => cases r; exact .none
  | bl b => cases r; exact .bool b
  | int i => obtain ⟨t, rfl⟩ := r; exact .int i t
  | str z => obtain ⟨t, rfl⟩ := r; exact .str z t
  | _ => cases hl
theorem reads_pairs {P : Program} {w : World} {h : Heap} : ∀ {kvs : List (Key × V)} {vs : List (Key × Value)} {es : List DictEntry}, (∀ kv ∈ kvs, isLeaf kv.2 = true) → KV kvs vs → Pairs (mixKind P w) es vs →
    ReadsAll h (es.map (·.key)) ((kvs.map fun kv => (leafD (kV kv.1), leafD kv.2)).map (·.1)) [] ∧ ReadsAll h (es.map (·.val)) ((kvs.map fun kv => (leafD (kV kv.1), leafD kv.2)).map (·.2)) [] := by
  intro kvs
  induction kvs with
  | nil =>
    intro vs es _ r p
    cases r
    cases p
    exact ⟨.nil, .nil⟩
  | cons kv kvs ih =>
    intro vs es hl r p
    cases r with
    | cons r1 r2 =>
      cases p with
      | cons p1 p2 p3 =>
        obtain ⟨i1, i2⟩ := ih (fun x m => hl x (List.mem_cons_of_mem _ m)) r2 p3
        obtain ⟨e1, e2⟩ := r1
        refine ⟨ReadsAll.cons (as := []) (bs := []) ?_ i1, ReadsAll.cons (as := []) (bs := []) ?_ i2⟩
        · dsimp only
          rw [mixKind_is] at p1
          rcases keyIs_shape p1 with ⟨i, t, ek, eu⟩ | ⟨x, t, ek, eu⟩
          · rw [e1, ek, eu]; exact .int i t
          · rw [e1, ek, eu]; exact .str x t
        · dsimp only
          rw [p2]
          exact reads_leaf (hl kv (List.mem_cons_self ..)) e2

section
variable {X : Cx}
def rRepr (K : PySem.W.Frag) : List V → Hp → VK → Prop := fun xs H Q => ∃ v d, xs = [v] ∧ DpX K H v d ∧ d.showable = true ∧ d.shown.length ≤ sizeLine ∧ d.depth ≤ 60 ∧ Q (.str d.shown) H
theorem call_reprD (hg : X.A.guards = some []) (hu : X.A.units + 64 < cLine) : CallR X (.builtin "repr") (rRepr X.K) := by
  intro pins s σ H xs us Q I r h
  obtain ⟨v, d, rfl, hd, hs, hz, hk, q⟩ := h
  obtain ⟨u, rfl, rv⟩ := vals1 r
  have fin : ∀ (a : Addr) (as : List Addr), Reads s.heap (.ref a) d as → (d.hasDict = true → sysModules ∉ as) →
      wpAny (model X.prog X.w) X.A (call (.builtin "repr") [.ref a]) (EP X pins σ Q) X.xe s := fun a as rd hsm =>
    repr_of_reads' rd hs hsm hg (by omega) (fun _ _ e => e) (fun h' u tk k => ⟨.str d.shown, H, I.kept k, ⟨_, rfl⟩, q⟩) hz
  cases hd with
  | of hd =>
    cases hd with
    | non => cases rv; exact PySem.P.repr_of_none ⟨.str _, H, I.tok _, ⟨_, rfl⟩, by simpa only [PyData.shown] using q⟩
    | bl b => cases rv; exact PySem.P.repr_of_bool ⟨.str _, H, I.tok _, ⟨_, rfl⟩, by simpa only [PyData.shown] using q⟩
    | int i =>
      obtain ⟨t, rfl⟩ := rv
      exact PySem.P.repr_of_int (by simpa [PyData.showable] using hs) ⟨.str _, H, I.tok _, ⟨_, rfl⟩, by simpa only [PyData.shown] using q⟩
    | str z =>
      obtain ⟨t, rfl⟩ := rv
      exact PySem.P.repr_of_str ⟨.str _, H, I.tok _, ⟨_, rfl⟩, by simpa only [PyData.shown] using q⟩ (by simpa only [PyData.shown] using hz)
    | lst a b =>
      cases rv
      obtain ⟨as, rd⟩ := Dp.reads I _ _ _ (Dp.lst a b) rfl
      exact fin _ as rd (PyData.noDict_hsm (noDict _ _ (Dp.lst a b)))
    | tup a b =>
      cases rv
      obtain ⟨as, rd⟩ := Dp.reads I _ _ _ (Dp.tup a b) rfl
      exact fin _ as rd (PyData.noDict_hsm (noDict _ _ (Dp.tup a b)))
  | dict ha hl =>
    cases rv
    obtain ⟨_, hsy, vs, rkv, o, es, ep, e1, e2, e3, _, e5, _⟩ := I.hok _ _ ha
    obtain ⟨r1, r2⟩ := reads_pairs (h := s.heap) hl rkv e5
    refine fin _ _ (Reads.dict e1 e2.1 e3 r1 r2) (fun _ m => ?_)
    rcases List.mem_append.mp m with m | m
    · rcases List.mem_cons.mp m with m | m
      · rw [← m] at hsy; exact absurd hsy (by decide)
      · cases m
    · cases m
theorem rd_repr {K : PySem.W.Frag} {H : Hp} {Q : VK} {v : V} {d : PyData} (h : DpX K H v d) (hs : d.showable = true) (hz : d.shown.length ≤ sizeLine) (hk : d.depth ≤ 60) (q : Q (.str d.shown) H) : rRepr K [v] H Q := ⟨v, d, rfl, h, hs, hz, hk, q⟩
end

/-! ### defs called while nothing is being shown -/
structure FnG (P : Program) (w : World) (K : PySem.W.Frag) (mg : Str → Option Value) (base : Heap) (CX : CXT) (k : Nat) (f : Addr) (fd : FuncData) (ps : List Str) (sp : Sp) : Prop where
  many : ∀ vs H Q E, sp vs H Q E → vs.length = ps.length
  goes : ∀ (A : Around) (below : List Env) (s : Shared) (H : Hp) (given : Args) (us : List Value) (vs : List V) (Q : VK) (E : XK), A.guards = some [] → Room k A → Env0 P w K mg base A below s H → BindsTo s fd given (ps.zip us) →
    Vals vs us → sp vs H Q E → codeAny (model P w) A (.call (.ref f) given) (CR CX below P w H s Q E) s

section
variable {X : Cx} {CX : CXT} {k : Nat} {f : Addr} {fd : FuncData} {ps : List Str} {sp : Sp} {dvs : List V} {ds : List Value} {E : XK} {x : Str} {p pos : Pos} {e : Expr} {es : List Expr} {t : TA}
theorem run_g {pins : List (Addr × Obj)} {σ : L2.St} {H : Hp} {s : Shared} {Q : VK} {us : List Value} {vs : List V} (hG : X.A.guards = some []) (F : FnG X.prog X.w X.K X.mg X.base CX k f fd ps sp) (room : Room k X.A) (hb : Binds X.K fd ps ds)
    (hd : Vals dvs ds) (hx : Passes CX X E) (I : Inv X pins σ H s) (r : Vals vs us) (h : sp (vs ++ dvs) H Q E) : wpAny (model X.prog X.w) X.A (call (.ref f) us) (EP X pins σ Q) X.xe s := by
  have both : Vals (vs ++ dvs) (us ++ ds) := r.append hd
  have cnt : (us ++ ds).length = ps.length := by
    rw [← both.length]
    exact F.many _ _ _ _ h
  refine wpAny_call (codeAny_mono (F.goes X.A X.stack s H ⟨us, []⟩ _ _ Q E hG room I.env0 (hb s us I.kIn cnt) both h) ?_)
  rintro (e | fl) s' hq
  · exact hx pins σ H s e s' I hq
  · cases fl with
    | ret u => exact I.after hq
    | _ => exact False.elim hq
theorem pe_callG (hG : X.A.guards = some []) (F : FnG X.prog X.w X.K X.mg X.base CX k f fd ps sp) (room : Room k X.A) (hg : Gl X x) (hm : X.mg x = some (.ref f)) (hk : PySem.W.keepIn X.K (.ref f) = true) (hb : Binds X.K fd ps ds) (hd : Vals dvs ds)
    (hx : Passes CX X E) (ha : PA X (e :: es) t) (hdb : (x == ("__debug__" : Str)) = false := by decide) (he : starEach (e :: es) X.env = (false, eval e X.env) :: starEach es X.env := by rfl)
    (hpl : (backTo pos (starEach es X.env)).any (·.1) = false := by rfl) : PE X (.Call (.Name x p) (e :: es) [] pos) (tCall sp dvs E t) := by
  constructor
  intro pins s σ H Q I h
  refine wpAny_Call_Name_kw (ld_glob I hg hm ?_ hdb)
  refine PySem.W.callWith_K (h₀ := X.base) I.ok.mod.kin hk (thn (ha.run pos pins s σ H _ I h) ?_) he hpl
  rintro us s1 ⟨vs, H1, I1, r, q⟩
  exact ⟨I1.kIn, run_g hG F room hb hd hx I1 r q⟩
theorem pe_callG0 (hG : X.A.guards = some []) (F : FnG X.prog X.w X.K X.mg X.base CX k f fd ps sp) (room : Room k X.A) (hg : Gl X x) (hm : X.mg x = some (.ref f)) (hk : PySem.W.keepIn X.K (.ref f) = true) (hb : Binds X.K fd ps ds) (hd : Vals dvs ds)
    (hx : Passes CX X E) (hdb : (x == ("__debug__" : Str)) = false := by decide) : PE X (.Call (.Name x p) [] [] pos) (tCall sp dvs E tNil) := by
  constructor
  intro pins s σ H Q I h
  refine wpAny_Call_Name_kw (ld_glob I hg hm ?_ hdb)
  exact PySem.W.callWith_K0 I.kIn hk (run_g (us := []) hG F room hb hd hx I .nil h)
end

/-- a def by its body -/
theorem g_of {CX : CXT} {P : Program} {w : World} {K : PySem.W.Frag} {mg : Str → Option Value} {base : Heap} {k : Nat} {f : Addr} {name qual : Str} {params : Arguments} {body : List Stmt} {scope : Scope} {dV kV doc pm cdv ct oc : Value} {an od : Option Addr}
    {osl : Array (Option Value)} {N ps : List Str} {sp : Sp} (at_ : K.lookup f = some ⟨oc, od, .func (PySem.W.fnOf name qual params body scope dV kV doc pm an cdv ct), osl⟩) (code : PySem.W.codeIn K cdv qual = true) (S : FnScope N ps scope)
    (many : ∀ vs H Q E, sp vs H Q E → vs.length = ps.length)
    (body_ : ∀ (A : Around) (below : List Env) (s : Shared) (H : Hp) (vs : List V) (Q : VK) (E : XK), A.guards = some [] → Room k (A.deeper (envOfC qual scope s.heap.objs.size f cdv)) → sp vs H Q E →
      ∃ t, PSs (cxOf CX P w K mg base N qual scope f cdv A below s H E) body t ∧ t { nx := fun _ H' => Q .non H', rt := Q } (start N vs) H) :
    FnG P w K mg base CX (k + 1) f (PySem.W.fnOf name qual params body scope dV kV doc pm an cdv ct) ps sp := by
  constructor
  · exact many
  · intro A below s H given us vs Q E hg room e0 hb rel hsp
    have hl := many _ _ _ _ hsp
    have keep : ∀ b o, base.get? b = some o → s.heap.get? b = some o := fun b o e => (e0.bs b o e).1
    have KX : K.In s.heap := e0.mod.kin.keeps keep
    have hpar : ∀ y ∈ ps.zip us, scope.names.lookup y.1 = some .local ∨ (scope.names.lookup y.1 = some .cell ∧ ((cellsFrom (s.heap.objs.size + 1) scope.names []).lookup y.1).isSome = true) := by
      rintro ⟨n, v⟩ hy
      rcases S.par n (List.of_mem_zip hy).1 with q | q
      · exact Or.inl q
      · exact Or.inr ⟨q, PySem.W.cellsFrom_some _ _ _ (.inl q)⟩
    refine codeAny_call_function room.depth (KX _ _ at_) rfl S.co S.gen rfl (PySem.W.codeRec_of KX code) (hb _ _ _ _ ?_)
    refine wpAny_newFunctionEnv_cells S.kind hpar ?_
    rintro env rfl s1 x
    refine ⟨(e0.mod.nolimit.keeps keep).keeps x.toInCall.keep, codeAny_func ?_⟩
    obtain ⟨t, ht, hq⟩ := body_ A below s H vs Q E hg (room.deeper _) hsp
    refine wpAny_mono (ht.run [] s1 (start N vs) H _ (inv_start S room.hd e0 hl rel x) hq) ?_ (fun _ _ hs => hs)
    have fin : ∀ {σ' : L2.St} {H' : Hp} {v : V} {u : Value} {s' : Shared}, Inv (cxOf CX P w K mg base N qual scope f cdv A below s H E) [] σ' H' s' → RelV v u → Q v H' → CE below P w H s Q u s' :=
      fun {σ' H' v u s'} J rv q => ⟨v, H', J.os, J.bare, J.base, J.hok, rv, q⟩
    rintro (_ | _ | _ | u) s' hs
    all_goals first
      | (obtain ⟨σ', H', J, q⟩ := hs; exact fin (v := V.non) (u := Value.none) J rfl q)
      | (obtain ⟨v, σ', H', J, rv, q⟩ := hs; exact fin J rv q)
      | (obtain ⟨_, _, _, q⟩ := hs; exact False.elim q)
section
variable {P : Program} {w : World} {K : PySem.W.Frag} {mg : Str → Option Value} {base : Heap} {x qual : Str} {st : Stmt} {f : Addr} {fd : FuncData} {N ps : List Str} {k : Nat} {sp : Sp}
theorem fun_okG (F : Fun K x qual st f fd) (S : FnScope N ps (defScope st)) (many : ∀ vs H Q E, sp vs H Q E → vs.length = ps.length)
    (body_ : ∀ (cdv : Value) (A : Around) (below : List Env) (s : Shared) (H : Hp) (vs : List V) (Q : VK) (E : XK), A.guards = some [] → Room k (A.deeper (envOfC qual (defScope st) s.heap.objs.size f cdv)) → sp vs H Q E →
      ∃ t, PSs (cxOf CX0 P w K mg base N qual (defScope st) f cdv A below s H E).nox (defBody st) t ∧ t { nx := fun _ H' => Q .non H', rt := Q } (start N vs) H) : FnG P w K mg base CX0 (k + 1) f fd ps sp := by
  obtain ⟨oc, od, kV, doc, pm, an, cdv, ct, osl, rfl, l, c⟩ := F.ex
  refine g_of l c S many ?_
  intro A below s H vs Q E hg room hsp
  obtain ⟨t, h, q⟩ := body_ cdv A below s H vs Q E hg room hsp
  exact ⟨t, h.nox, q⟩
end
/-! ### the law's own call -/
section
variable {P : Program} {w : World} {K : PySem.W.Frag} {mg mb : Str → Option Value} {CX : CXT} {k : Nat} {fa a : Addr} {fd : FuncData} {x : Str} {sp : Sp} {s : Shared} {vs : List Value} {ns : List Int}
/-- with the script tracked by H: nothing else is -/
theorem calls_with (inK : K.In s.heap) (gl : s.heap.Ns mainGlobals mg) (bl : s.heap.Ns builtinsNs mb) (bv : ∀ y : Str, y ≠ "__name__" → mb y = bootBuiltins y) (nl : s.heap.NoLimit) (ng : s.gens = #[])
    (lst : s.heap.get? a = some { cls := .type "list", data := .seq vs.toArray }) (room : Room k callerA) (F : ∀ base : Heap, K.In base → base.Ns mainGlobals mg → FnG P w K mg base CX k fa fd [x] sp)
    (bd : ∀ (s : Shared) (u : Value), BindsTo s fd ⟨[u], []⟩ [(x, u)]) (noX : ∀ H e s', CX [] H s (fun _ _ _ => False) e s' → False)
    (H : Hp) (only : ∀ b u, H b = some u → b = a ∧ K.lookup a = none ∧ ∃ o xs, u = .frz o (.lst xs)) (ok : HOk P w H s.heap) (spH : sp [.ref a] H (fun v _ => v = .bl true) fun _ _ _ => False) :
    codeAny (model P w) callerA (.call (.ref fa) ⟨[.ref a], []⟩) (fun r s' => r = .ok (.ret (.bool true)) ∧ OldK s.heap s'.heap ∧ s'.os = s.os ∧ AllBare s'.gens) s := by
  have apart : ∀ {b : Addr} {o : Obj}, s.heap.get? b = some o → b ≠ a ∨ H a = none → (hidT s.heap H).get? b = some o := by
    intro b o e n
    refine hidT_get e ?_
    cases q : H b with
    | none => rfl
    | some u =>
      have z := (only b u q).1
      subst z
      rcases n with n | n
      · exact absurd rfl n
      · rw [q] at n; cases n
  have ns_ : ∀ {b : Addr} {m : Str → Option Value}, s.heap.Ns b m → (hidT s.heap H).Ns b m := by
    rintro b m ⟨o, es, ep, e, d, r⟩
    refine ⟨o, es, ep, apart e (.inl ?_), d, r⟩
    rintro rfl
    rw [lst] at e
    cases e
    cases d
  have kB : K.In (hidT s.heap H) := by
    intro b o e
    refine apart (inK b o e) ?_
    cases q : H a with
    | none => exact .inr rfl
    | some u =>
      refine .inl ?_
      rintro rfl
      rw [(only _ _ q).2.1] at e
      cases e
  have lim : (hidT s.heap H).NoLimit := by
    obtain ⟨mc, l1, l2⟩ := nl
    exact ⟨mc, ns_ l1, l2⟩
  have env : Env0 P w K mg (hidT s.heap H) callerA [] s H := ⟨rfl, ⟨kB, ns_ gl, ⟨mb, ns_ bl, bv⟩, lim⟩, fun b o e => of_hidT e, Nat.le_of_eq (hidT_size _ _), trivial, (fun _ m => nomatch m), ok, .of_eq ng⟩
  refine codeAny_mono ((F _ kB (ns_ gl)).goes callerA [] s H ⟨[.ref a], []⟩ [.ref a] [.ref a] _ _ rfl room env (bd s (.ref a)) (.cons rfl .nil) spH) ?_
  rintro (e | fl) s' h
  · exact (noX H e s' h).elim
  · cases fl with
    | ret u =>
      obtain ⟨v, H', os, bare, un, ok', rv, q⟩ := h
      have q : v = .bl true := q
      subst q
      cases rv
      refine ⟨rfl, OldK.of_keep ?_, os, bare⟩
      intro b o e
      cases q : H b with
      | none => exact un.keep b o e q (fun z => nomatch z) (fun z => nomatch z)
      | some u =>
        obtain ⟨_, _, ob, xs, rfl⟩ := only b u q
        have e1 := (ok b _ q).1
        have e2 := (ok' b _ (un.frzs b ob _ q)).1
        rw [e] at e1
        cases e1
        exact e2
    | _ => exact False.elim h
theorem law_goes (inK : K.In s.heap) (gl : s.heap.Ns mainGlobals mg) (bl : s.heap.Ns builtinsNs mb) (bv : ∀ y : Str, y ≠ "__name__" → mb y = bootBuiltins y) (nl : s.heap.NoLimit) (ng : s.gens = #[])
    (lst : s.heap.get? a = some { cls := .type "list", data := .seq vs.toArray }) (hints : IntsAre vs ns) (len : ns.length ≤ sizeLine) (room : Room k callerA) (F : ∀ base : Heap, K.In base → base.Ns mainGlobals mg → FnG P w K mg base CX k fa fd [x] sp)
    (bd : ∀ (s : Shared) (u : Value), BindsTo s fd ⟨[u], []⟩ [(x, u)]) (noX : ∀ H e s', CX [] H s (fun _ _ _ => False) e s' → False)
    (spA : ∀ H : Hp, SqL K H a (ns.map V.int) → sp [.ref a] H (fun v _ => v = .bl true) fun _ _ _ => False) :
    codeAny (model P w) callerA (.call (.ref fa) ⟨[.ref a], []⟩) (fun r s' => r = .ok (.ret (.bool true)) ∧ OldK s.heap s'.heap ∧ s'.os = s.os ∧ AllBare s'.gens) s := by
  have rv := vals_ints hints
  have many := hints.length
  cases own : K.lookup a with
  | some o =>
    have e := inK a o own
    rw [lst] at e
    cases e
    refine calls_with inK gl bl bv nl ng lst room F bd noX (fun _ => none) (fun _ _ z => nomatch z) (fun _ _ z => nomatch z) (spA _ ?_)
    exact Or.inr ⟨_, vs.toArray, _, own, rfl, rfl, rfl, by rw [List.size_toArray, many]; exact len, by simpa using rv⟩
  | none =>
    have spot : (upd (fun _ => none) a (.frz { cls := .type "list", data := .seq vs.toArray } (.lst (ns.map V.int)))) a = some (.frz { cls := .type "list", data := .seq vs.toArray } (.lst (ns.map V.int))) := upd_same
    have alone : ∀ (b : Addr) (u : HO), (upd (fun _ => none) a (.frz { cls := .type "list", data := .seq vs.toArray } (.lst (ns.map V.int)))) b = some u → b = a ∧ u = .frz { cls := .type "list", data := .seq vs.toArray } (.lst (ns.map V.int)) := by
      intro b u z
      by_cases hb : b = a
      · subst hb
        rw [spot] at z
        cases z
        exact ⟨rfl, rfl⟩
      · rw [upd_ne hb] at z
        cases z
    refine calls_with inK gl bl bv nl ng lst room F bd noX _ ?_ ?_ (spA _ (.inl (.inr ⟨_, spot⟩)))
    · intro b u z
      obtain ⟨e1, e2⟩ := alone b u z
      exact ⟨e1, own, _, _, e2⟩
    · intro b u z
      obtain ⟨rfl, rfl⟩ := alone b u z
      exact ⟨lst, by rw [List.length_map]; exact len, vs, _, rv, lst⟩
end
theorem walkG {l : PySem.W.OpenLaw} {n k : Nat} {q : Program} {loose : List Str} {XP : (Str → Option Value) → Heap → Prop} {YP : World → Heap → Prop} {d : DefRec} {K : Params → PySem.W.Frag} {sp : PySem.W.Frag → Sp} {x : Str}
    (hn : l.most = some n) (hn2 : n ≤ sizeLine) (hdf : d.params.defaults = []) (room : Room k callerA) (hY : ∀ (w : World) (h : Heap), YP w h → (K w.params).In h)
    (F : ∀ (w : World) (mg : Str → Option Value) (fa : Addr) (h : Heap), (K w.params).In h → h.Ns mainGlobals mg → mg d.name = some (.ref fa) →
      ∃ fd : FuncData, (∀ (s : Shared) (u : Value), BindsTo s fd ⟨[u], []⟩ [(x, u)]) ∧ ∀ base : Heap, (K w.params).In base → base.Ns mainGlobals mg → FnG l.prog w (K w.params) mg base CX0 k fa fd [x] (sp (K w.params)))
    (spA : ∀ (K : PySem.W.Frag) (H : Hp) (a : Addr) (ns : List Int), ns.length ≤ n → SqL K H a (ns.map V.int) → sp K [.ref a] H (fun v _ => v = .bl true) fun _ _ _ => False) :
    PySem.W.WalkO q loose XP YP l.row.toRowW d [] (fun f vs => PySem.call f vs) := by
  refine Att.attach_call hn hdf ?_
  intro w s₀ s₁ mg mb fa o pm cd doc a vs ns G Y ho hd hcd hmg hobj hints hlen hg
  have inK := hY w _ Y
  obtain ⟨fd, bd, hF⟩ := F w mg fa _ inK G.T.g hmg
  exact law_goes inK G.T.g G.T.b G.T.builtins G.T.nolimit hg hobj hints (Nat.le_trans hlen hn2) room hF bd (fun _ _ _ z => z) (fun H hS => spA _ H a ns hlen hS)
end Grd

end

section
namespace Lay
open PySem L2 PySem.Spec PyProof.Rows Exv
/-! ### text * number -/
def repS (z : Str) (n : Nat) : Str := ⟨(List.replicate n z.cps).foldl (· ++ ·) #[]⟩
def rMulS : R2 := fun x y H Q => ∃ z k, x = .str z ∧ y = .int k ∧ 1 ≤ k ∧ z.length * k.toNat ≤ 100000 ∧ k ≤ 100000 ∧ Q (.str (repS z k.toNat)) H
theorem rd_mulS {z : Str} {k : Int} {H : Hp} {Q : VK} (h1 : 1 ≤ k) (h2 : z.length * k.toNat ≤ 100000) (h3 : k ≤ 100000) (q : Q (.str (repS z k.toNat)) H) : rMulS (.str z) (.int k) H Q := ⟨z, k, rfl, rfl, h1, h2, h3, q⟩
theorem repS_len (z : Str) (n : Nat) : (repS z n).length = z.length * n := by
  have key : ∀ (n : Nat) (b : Array Nat), ((List.replicate n z.cps).foldl (· ++ ·) b).size = b.size + z.length * n := by
    intro n
    induction n with
    | zero => intro b; simp
    | succ n ih =>
      intro b
      rw [List.replicate_succ, List.foldl_cons, ih, Array.size_append, Nat.mul_succ]
      have : z.cps.size = z.length := rfl
      omega
  have := key n #[]
  rw [show (#[] : Array Nat).size = 0 from rfl, Nat.zero_add] at this
  exact this
theorem repS_one (z : Str) : repS z 1 = z := by
  unfold repS
  simp
theorem repS_zero {z : Str} (h : z.length = 0) (n : Nat) : repS z n = z := by
  have e : z.cps = #[] := Array.eq_empty_of_size_eq_zero h
  unfold repS
  obtain ⟨c⟩ := z
  cases e
  have : ∀ n : Nat, (List.replicate n (#[] : Array Nat)).foldl (· ++ ·) #[] = #[] := by
    intro n
    induction n with
    | zero => rfl
    | succ n ih => rw [List.replicate_succ, List.foldl_cons]; exact ih
  rw [this]
theorem op_mulS {X : Cx} : OpR X (binaryOp .Mult) rMulS := by
  intro pins s σ H x y v u Q I rx ry h
  obtain ⟨z, k, rfl, rfl, h1, h2, h3, q⟩ := h
  obtain ⟨t, rfl⟩ := rx
  obtain ⟨t', rfl⟩ := ry
  have hr : (decide (k < -(2 ^ 63 : Int)) || decide (k ≥ 2 ^ 63)) = false := by
    rw [decide_eq_false (by omega), decide_eq_false (by omega)]; rfl
  refine PySem.P.mul_str hr (fun _ _ => ?_) (fun _ _ => ?_) ?_
  · have h4 : (z.length : Int) ≤ 100000 := by
      have : z.length * 1 ≤ z.length * k.toNat := Nat.mul_le_mul_left _ (by omega)
      omega
    have : (100000 : Int) ≤ (2 ^ 63 - 1) / k := by
      refine Int.le_ediv_of_mul_le (by omega) ?_
      omega
    omega
  · unfold PySem.Builtin.Str.tooLong
    have := (show (100000 : Nat) ≤ sizeLine by decide)
    simp
    omega
  · rw [if_neg (by omega : ¬ k < 1)]
    split
    · rename_i hh
      have e : repS z k.toNat = z := by
        rcases Bool.or_eq_true_iff.mp hh with e | e
        · have e' := beq_iff_eq.mp e
          subst e'
          exact repS_one z
        · exact repS_zero (beq_iff_eq.mp e) _
      rw [e] at q
      exact ⟨.str z, H, I, ⟨_, rfl⟩, q⟩
    · exact ⟨by have e := repS_len z k.toNat; unfold repS at e; rw [e]; exact Nat.le_trans h2 (by decide), .str _, H, I.tok _, ⟨_, rfl⟩, q⟩
end Lay

end

section
namespace Lay
open PySem L2 PySem.Spec PyProof.Rows Exv
theorem kit_ownB {K : PySem.W.Frag} {C : Addr} {T : String} {b : Bool} (h : PySem.W.subIn K (.ref C) (.type T) = some b) (m : PySem.W.kitMeta T = true := by decide +kernel) : PySem.W.kitOne K (.ref C) (.type T) = some b := by
  unfold PySem.W.kitOne
  rw [if_neg (fun z => by cases eq_of_beq z)]
  unfold PySem.W.kitCls
  dsimp only
  rw [if_pos m]
  exact h
/-- an error of the class C that is kept, with its fields -/
def ErrAt (C : Addr) (H : Hp) (a : Addr) (fs : List (Str × V)) : Prop := ∃ d, H a = some (exv a (.ref C) (some d)) ∧ H d = some (.xd fs)
theorem ErrAt.mono {C : Addr} {H H' : Hp} {a : Addr} {fs : List (Str × V)} (s : Same H H') (h : ErrAt C H a fs) : ErrAt C H' a fs := by
  obtain ⟨d, h1, h2⟩ := h
  exact ⟨d, s _ _ h1, s _ _ h2⟩
theorem ErrAt.keep {C : Addr} {H H' : Hp} {p a : Addr} {fs : List (Str × V)} {xs : List V} (hp : H p = some (.lst xs)) (s : Keep p H H') (h : ErrAt C H a fs) : ErrAt C H' a fs := by
  obtain ⟨d, h1, h2⟩ := h
  refine ⟨d, s _ _ (fun z => ?_) h1, s _ _ (fun z => ?_) h2⟩
  · subst z; rw [h1] at hp; cases hp
  · subst z; rw [h2] at hp; cases hp
theorem ErrAt.ty {K : PySem.W.Frag} {C : Addr} {H : Hp} {a : Addr} {fs : List (Str × V)} (c : ExcC K C) (h : ErrAt C H a fs) : TyW K H (.ref a) (.ref C) := by
  obtain ⟨d, h1, h2⟩ := h
  exact .exc h1 h2 c
theorem rd_err {K : PySem.W.Frag} {C : Addr} {n : Str} {te : TE} {σ : L2.St} {H H1 : Hp} {Q : VK} {a : Addr} {fs : List (Str × V)} {v : V} (T : XfC K C) (hn : PySem.W.findIn K (.ref C) n = some none) (l : fs.lookup n = some v) (h : ErrAt C H1 a fs) (q : Q v H1) :
    ∃ (a' C' dd : Addr) (fs : List (Str × V)) (v : V), V.ref a = .ref a' ∧ H1 a' = some (exv a' (.ref C') (some dd)) ∧ H1 dd = some (.xd fs) ∧ XfC K C' ∧ PySem.W.findIn K (.ref C') n = some none ∧ fs.lookup n = some v ∧ Q v H1 := by
  obtain ⟨d, h1, h2⟩ := h
  exact ⟨a, C, d, fs, v, rfl, h1, h2, T, hn, l, q⟩
theorem rd_xvV {K : PySem.W.Frag} {C : Addr} {n : Str} {i : Nat} {σ : L2.St} {H : Hp} {Q : VK} {a : Addr} {fs : List (Str × V)} {v : V} (h : σ[i]? = some (some (.ref a))) (e : ErrAt C H a fs) (T : XfC K C) (hn : PySem.W.findIn K (.ref C) n = some none) (l : fs.lookup n = some v) (q : Q v H) : tXv K n (tVar i) σ H Q := by
  obtain ⟨d, h1, h2⟩ := e
  exact ⟨.ref a, h, a, C, d, fs, v, rfl, h1, h2, T, hn, l, q⟩
/-! ### __init__ of an error -/
def spErr2 (C : Addr) (f1 f2 : Str) : Sp := fun vs H Q _ => ∃ a v1 v2, vs = [.ref a, v1, v2] ∧ H a = some (exo a C none) ∧
  ∀ d H2, H d = none → d ≠ a → H2 a = some (exo a C (some d)) → H2 d = some (exd d [(f2, v2), (f1, v1)]) → (∀ b o, b ≠ a → H b = some o → H2 b = some o) → Q .non H2
def spErr1 (C : Addr) (f1 : Str) : Sp := fun vs H Q _ => ∃ a v1, vs = [.ref a, v1] ∧ H a = some (exo a C none) ∧
  ∀ d H2, H d = none → d ≠ a → H2 a = some (exo a C (some d)) → H2 d = some (exd d [(f1, v1)]) → (∀ b o, b ≠ a → H b = some o → H2 b = some o) → Q .non H2
theorem rd_ost {K : PySem.W.Frag} {f : Str} {to te : TE} {D : Ends} {σ : L2.St} {H : Hp} (h : te σ H fun y H1 => to σ H1 fun x H2 => ∃ a C : Addr, x = .ref a ∧ OexC K C ∧ PySem.W.findIn K (.ref C) f = some none ∧
  ((H2 a = some (exo a C none) ∧ ∀ dx, H2 dx = none → dx ≠ a → D.nx σ (upd (upd H2 dx (exd dx [(f, y)])) a (exo a C (some dx)))) ∨
    ∃ (dx : Addr) (fs : List (Str × V)), H2 a = some (exo a C (some dx)) ∧ H2 dx = some (exd dx fs) ∧ fs.length ≤ 900 ∧ D.nx σ (upd H2 dx (exd dx ((f, y) :: fs))))) : tOst K f to te D σ H := h
/-- what a def that raises wishes of the way out: an error of the class C with these fields, all else as it was -/
def ErrW (C : Addr) (E : XK) (H : Hp) (fs : List (Str × V)) : Prop := ∀ d H', H d = none → Same H H' → H' d = some (.xd fs) → E (.ref C) (some d) H'
theorem mk_err2 {C : Addr} {f1 f2 : Str} {v1 v2 : V} {H : Hp} {Q : XK} (q : ∀ d H', H d = none → Same H H' → H' d = some (.xd [(f2, v2), (f1, v1)]) → Q (.ref C) (some d) H') :
    [v1, v2].length ≤ 1000 ∧ ∀ a, H a = none → spErr2 C f1 f2 (.ref a :: ([v1, v2] ++ [])) (upd H a (exo a C none))
      (fun v H2 => v = .non ∧ ∃ (d : Addr) (fs : List (Str × V)), H2 a = some (exo a C (some d)) ∧ H2 d = some (exd d fs) ∧ H d = none ∧ Q (.ref C) (some d) (upd (del H2 a) d (.xd fs))) (fun _ _ _ => False) := by
  refine ⟨(by show 2 ≤ 1000; decide), fun a ha => ⟨a, v1, v2, rfl, upd_same, fun d H2 hd hne e1 e2 k => ?_⟩⟩
  have hd' : H d = none := by rw [upd_ne hne] at hd; exact hd
  refine ⟨rfl, d, _, e1, e2, hd', q d _ hd' (fun b o e => ?_) upd_same⟩
  have hba : b ≠ a := fun z => by subst z; rw [ha] at e; cases e
  have hbd : b ≠ d := fun z => by subst z; rw [hd'] at e; cases e
  rw [upd_ne hbd, del_ne hba]
  exact k b o hba (by rw [upd_ne hba]; exact e)
theorem mk_err1 {C : Addr} {f1 : Str} {v1 : V} {H : Hp} {Q : XK} (q : ∀ d H', H d = none → Same H H' → H' d = some (.xd [(f1, v1)]) → Q (.ref C) (some d) H') :
    [v1].length ≤ 1000 ∧ ∀ a, H a = none → spErr1 C f1 (.ref a :: ([v1] ++ [])) (upd H a (exo a C none))
      (fun v H2 => v = .non ∧ ∃ (d : Addr) (fs : List (Str × V)), H2 a = some (exo a C (some d)) ∧ H2 d = some (exd d fs) ∧ H d = none ∧ Q (.ref C) (some d) (upd (del H2 a) d (.xd fs))) (fun _ _ _ => False) := by
  refine ⟨(by show 1 ≤ 1000; decide), fun a ha => ⟨a, v1, rfl, upd_same, fun d H2 hd hne e1 e2 k => ?_⟩⟩
  have hd' : H d = none := by rw [upd_ne hne] at hd; exact hd
  refine ⟨rfl, d, _, e1, e2, hd', q d _ hd' (fun b o e => ?_) upd_same⟩
  have hba : b ≠ a := fun z => by subst z; rw [ha] at e; cases e
  have hbd : b ≠ d := fun z => by subst z; rw [hd'] at e; cases e
  rw [upd_ne hbd, del_ne hba]
  exact k b o hba (by rw [upd_ne hba]; exact e)
theorem rd_mkO {C : Addr} {sp : Sp} {dvs : List V} {ta : TA} {σ : L2.St} {H : Hp} {Q : XK} (h : ta σ H fun vs H1 => vs.length ≤ 1000 ∧ ∀ a, H1 a = none → sp (.ref a :: (vs ++ dvs)) (upd H1 a (exo a C none))
  (fun v H2 => v = .non ∧ ∃ (d : Addr) (fs : List (Str × V)), H2 a = some (exo a C (some d)) ∧ H2 d = some (exd d fs) ∧ H1 d = none ∧ Q (.ref C) (some d) (upd (del H2 a) d (.xd fs))) (fun _ _ _ => False)) : tMkO C sp dvs ta σ H Q := h
/-! ### a value of any kind, its texts short -/
def Kz (H : Hp) (v : V) : Prop := ∃ t, Kd H v t ∧ ∀ z, v = .str z → z.length ≤ 100
theorem Kz.same {H H' : Hp} {v : V} (s : ∀ b o, v = .ref b → H b = some o → H' b = some o) (k : Kz H v) : Kz H' v := by
  obtain ⟨t, h, l⟩ := k
  exact ⟨t, h.same s, l⟩
theorem Kz.mono {H H' : Hp} {v : V} (s : Same H H') (k : Kz H v) : Kz H' v := k.same fun b o _ h => s b o h
theorem Kz.str {H : Hp} {z : Str} (h : z.length ≤ 100) : Kz H (.str z) := ⟨_, .str z, fun z' e => by cases e; exact h⟩
theorem Kz.int {H : Hp} (i : Int) : Kz H (.int i) := ⟨_, .int i, fun z' e => by cases e⟩
theorem Kz.non {H : Hp} : Kz H .non := ⟨_, .non, fun z' e => by cases e⟩
theorem Kz.bl {H : Hp} (b : Bool) : Kz H (.bl b) := ⟨_, .bl b, fun z' e => by cases e⟩
theorem Kz.lst {H : Hp} {a : Addr} {xs : List V} (h : H a = some (.lst xs)) : Kz H (.ref a) := ⟨_, .lst h, fun z' e => by cases e⟩
theorem Kz.tup {H : Hp} {a : Addr} {xs : List V} (h : H a = some (.tup xs)) : Kz H (.ref a) := ⟨_, .tup h, fun z' e => by cases e⟩
theorem Kz.dK {H : Hp} {a : Addr} {xs : List (Key × V)} (h : H a = some (.dK xs)) : Kz H (.ref a) := ⟨_, .dK h, fun z' e => by cases e⟩
/-- the same, and not the pen -/
def Kp (p : Addr) (H : Hp) (v : V) : Prop := Kz H v ∧ v ≠ .ref p
theorem Kp.keep {p : Addr} {H H' : Hp} {v : V} (s : Keep p H H') (k : Kp p H v) : Kp p H' v := ⟨k.1.same fun b o e h => s b o (fun z => k.2 (by rw [e, z])) h, k.2⟩
theorem Kp.mono {p : Addr} {H H' : Hp} {v : V} (s : Same H H') (k : Kp p H v) : Kp p H' v := ⟨k.1.mono s, k.2⟩
theorem Kp.str {p : Addr} {H : Hp} {z : Str} (h : z.length ≤ 100) : Kp p H (.str z) := ⟨.str h, fun z => nomatch z⟩
theorem Kp.int {p : Addr} {H : Hp} (i : Int) : Kp p H (.int i) := ⟨.int i, fun z => nomatch z⟩
theorem Kp.non {p : Addr} {H : Hp} : Kp p H .non := ⟨.non, fun z => nomatch z⟩
theorem Kp.bl {p : Addr} {H : Hp} (b : Bool) : Kp p H (.bl b) := ⟨.bl b, fun z => nomatch z⟩
theorem Kp.ref {p : Addr} {H : Hp} {a : Addr} (k : Kz H (.ref a)) (n : a ≠ p) : Kp p H (.ref a) := ⟨k, fun z => n (V.ref.inj z)⟩
def Kps (p : Addr) (H : Hp) (xs : List V) : Prop := ∀ v ∈ xs, Kp p H v
theorem Kps.nil {p : Addr} {H : Hp} : Kps p H [] := fun v h => nomatch h
theorem Kps.cons {p : Addr} {H : Hp} {x : V} {xs : List V} (h : Kp p H x) (r : Kps p H xs) : Kps p H (x :: xs) := fun v m => by
  rcases List.mem_cons.mp m with e | m
  · subst e; exact h
  · exact r v m
theorem rd_ixZ {K : PySem.W.Frag} {H : Hp} {Q : VK} {p a : Addr} {xs : List V} {d : Int} (h : SqL K H a xs) (h0 : 0 ≤ d) (h1 : d < xs.length) (kd : Kps p H xs) (q : ∀ v, Kp p H v → Q v H) : rIxL K (.ref a) (.int d) H Q := by
  have hd : d.toNat < xs.length := by omega
  have k := kd xs[d.toNat] (List.getElem_mem hd)
  exact rd_ixL h (atI_int h0 (List.getElem?_eq_getElem hd)) (q _ k)
def spThing : Sp := fun vs H Q _ => ∃ (p : Addr) (n : Nat) (c : Addr), vs = [.ref p] ∧ PenAt c H p n ∧ n + 1 < 100000 ∧ ∀ v H', Kp p H' v → PenAt c H' p (n + 1) → Keep p H H' → Q v H'
theorem rd_ixStr {z : Str} {i : Int} {c : Nat} {H : Hp} {Q : VK} (hz : z.length ≤ 100000) (h0 : 0 ≤ i) (h : z.cps.toList[i.toNat]? = some c) (q : Q (.str ⟨#[c]⟩) H) : rIxS (.str z) (.int i) H Q :=
  ⟨z, i, c, rfl, rfl, Nat.le_trans hz (by decide), atI_int h0 h, q⟩
/-- a name of 1 to k signs, all of them one sign of a row of small letters -/
theorem nameOk_rep {c : Nat} {k : Nat} (h0 : 97 ≤ c) (h1 : c ≤ 122) (k0 : 1 ≤ k) (k1 : k ≤ 8) : nameOk (repS ⟨#[c]⟩ k) = true := by
  have key : ∀ (n : Nat) (b : Array Nat), (∀ x ∈ b.toList, 97 ≤ x ∧ x ≤ 122) → ∀ x ∈ ((List.replicate n (#[c] : Array Nat)).foldl (· ++ ·) b).toList, 97 ≤ x ∧ x ≤ 122 := by
    intro n
    induction n with
    | zero => intro b hb; exact hb
    | succ n ih =>
      intro b hb
      rw [List.replicate_succ, List.foldl_cons]
      refine ih _ fun x hx => ?_
      rw [Array.toList_append, List.mem_append] at hx
      rcases hx with hx | hx
      · exact hb x hx
      · rw [List.mem_singleton.mp hx]
        exact ⟨h0, h1⟩
  have el : (repS ⟨#[c]⟩ k).length = k := by
    rw [repS_len]
    show 1 * k = k
    omega
  unfold nameOk
  rw [el, decide_eq_true k0, decide_eq_true k1]
  show (true && true && _) = true
  rw [Bool.true_and, Bool.true_and, List.all_eq_true]
  intro x hx
  have := key k #[] (fun _ h => nomatch h) x hx
  rw [decide_eq_true this.1, decide_eq_true this.2]
  rfl
/-! ### signals -/
def sigF (v w : V) : List (Str × V) := [("name", v), ("tokens", w)]
theorem putF_sig (v w : V) : putF "tokens" w (putF "name" v []) = sigF v w := by
  have h : ¬ (("name" : Str) = "tokens") := by decide +kernel
  show (if ("name" : Str) = "tokens" then _ else (("name" : Str), v) :: putF "tokens" w []) = _
  rw [if_neg h]
  rfl
def spSigInit (C N : Addr) : Sp := fun vs H Q E => ∃ x dx v w, vs = [.ref x, v, w] ∧ H x = some (.ins C dx []) ∧ Kz H v ∧ Kz H w ∧
  (isName v = false → ErrW N E H [("place", .non), ("reason", .str "name")]) ∧
  (isName v = true → within w 0 3 = false → ErrW N E H [("place", .non), ("reason", .str "tokens")]) ∧
  (isName v = true → within w 0 3 = true → ∀ H', H' x = some (.ins C dx (sigF v w)) → Keep x H H' → Q .non H')
/-- signal == y -/
def spSigEq (K : PySem.W.Frag) (C : Addr) : Sp := fun vs H Q _ => ∃ a dx z i y, vs = [.ref a, y] ∧ H a = some (.ins C dx (sigF (.str z) (.int i))) ∧
  ((∃ t, TyX K H y t ∧ PySem.W.kitOne K t (.ref C) = some false ∧ Q (.bl false) H) ∨
   ∃ b dy z' i', y = .ref b ∧ H b = some (.ins C dy (sigF (.str z') (.int i'))) ∧ Q (.bl (decide (z = z') && decide (i = i'))) H)
/-- what asking for a signal gives -/
def spAsked (C N : Addr) : Sp := fun vs H Q _ => ∃ v w b, vs = [v, w, .bl b] ∧ Kz H v ∧ Kz H w ∧
  (isName v = false → ∀ a H', Same H H' → ErrAt N H' a [("place", .non), ("reason", .str "name")] → Q (.ref a) H') ∧
  (isName v = true → within (if b = true then .int 0 else w) 0 3 = false → ∀ a H', Same H H' → ErrAt N H' a [("place", .non), ("reason", .str "tokens")] → Q (.ref a) H') ∧
  (isName v = true → within (if b = true then .int 0 else w) 0 3 = true → ∀ x dx H', Same H H' → H' x = some (.ins C dx (sigF v (if b = true then .int 0 else w))) → Q (.ref x) H')
/-- the law's own words about a value -/
def spLawName : Sp := fun vs H Q _ => ∃ v, vs = [v] ∧ Kz H v ∧ ∀ H', Same H H' → Q (.bl (isName v)) H'
def spLawWithin : Sp := fun vs H Q _ => ∃ v lo hi, vs = [v, .int lo, .int hi] ∧ Kz H v ∧ Q (.bl (within v lo hi)) H
def spRefusal (N : Addr) : Sp := fun vs H Q _ => ∃ a r p, vs = [.ref a, .str r, p] ∧ ErrAt N H a [("place", p), ("reason", .str r)] ∧ (p = .non ∨ ∃ i, p = .int i) ∧ ∀ H', Same H H' → Q (.bl true) H'
def spNum (m : Nat) : Sp := fun vs H Q _ => ∃ (p : Addr) (n : Nat) (c : Addr), vs = [.ref p] ∧ PenAt c H p n ∧ n + m < 100000 ∧ ∀ H', PenAt c H' p (n + m) → Keep p H H' → Q (.bl true) H'
theorem isName_str {v : V} (h : isName v = true) : ∃ z, v = .str z ∧ nameOk z = true := by
  cases v with
  | str z => exact ⟨z, rfl, h⟩
  | _ => cases h
theorem within_int {v : V} {lo hi : Int} (h : within v lo hi = true) : ∃ i, v = .int i ∧ lo ≤ i ∧ i ≤ hi := by
  cases v with
  | int i =>
    have h' : (decide (lo ≤ i) && decide (i ≤ hi)) = true := h
    rw [Bool.and_eq_true] at h'
    exact ⟨i, rfl, of_decide_eq_true h'.1, of_decide_eq_true h'.2⟩
  | _ => cases h
theorem rd_eqV {x y : V} {H : Hp} {Q : VK} (b : Bool) (hs : scal x y = true) (hb : decide (x = y) = b) (q : Q (.bl b) H) : rEq x y H Q := ⟨hs, by rw [hb]; exact q⟩
end Lay
namespace Lay
open PySem L2 PySem.Spec PyProof.Rows Exv
theorem kitAny_no {K : PySem.W.Frag} {t c : Value} {cs : List Value} (h : PySem.W.kitOne K t c = some false) (hr : PySem.W.kitAny K t cs = some false) : PySem.W.kitAny K t (c :: cs) = some false := kitAny_cons h (fun _ => hr) (fun z => nomatch z)
end Lay
namespace Lay
open PySem L2 PySem.Spec PyProof.Rows Exv
theorem rd_make {C : Addr} {sp : Sp} {dvs : List V} {E : XK} {t : TA} {σ : L2.St} {H : Hp} {Q : VK} (h : t σ H fun vs H1 => ∀ x dx, H1 x = none → H1 dx = none → dx ≠ x →
  sp (.ref x :: (vs ++ dvs)) (upd (upd H1 dx (.own x)) x (.ins C dx [])) (fun v H2 => v = .non ∧ Q (.ref x) H2) E) : tMake C sp dvs E t σ H Q := h
theorem rd_inI {K : PySem.W.Frag} {H : Hp} {Q : VK} {d : Int} {t : Addr} {ns : List Int} (ht : SqT K H t (ns.map V.int)) (q : ∀ b, Q (.bl b) H) : rIn K false (.int d) (.ref t) H Q :=
  ⟨t, _, rfl, .inr ht, rfl, by rw [List.all_map]; simp [flatV], q _⟩
theorem row_at (z : Str) (h : z.cps.toList.all (fun c => decide (97 ≤ c) && decide (c ≤ 122)) = true) {d : Int} (h0 : 0 ≤ d) (h1 : d < z.length) : ∃ c, z.cps.toList[d.toNat]? = some c ∧ 97 ≤ c ∧ c ≤ 122 := by
  have hl : d.toNat < z.cps.toList.length := by
    have : z.cps.toList.length = z.length := by show z.cps.toList.length = z.cps.size; simp
    omega
  refine ⟨_, List.getElem?_eq_getElem hl, ?_⟩
  have := List.all_eq_true.mp h _ (List.getElem_mem hl)
  rw [Bool.and_eq_true] at this
  exact ⟨of_decide_eq_true this.1, of_decide_eq_true this.2⟩
theorem name_rep {c : Nat} {d : Int} (h0 : 97 ≤ c) (h1 : c ≤ 122) (d0 : 0 ≤ d) (d1 : d < 8) : nameOk (repS ⟨#[c]⟩ (1 + d).toNat) = true := nameOk_rep h0 h1 (by omega) (by omega)
/-- a signal stands at x -/
def SigAt (C : Addr) (H : Hp) (x : Addr) (z : Str) (i : Int) : Prop := ∃ dx, H x = some (.ins C dx (sigF (.str z) (.int i)))
theorem SigAt.mono {C : Addr} {H H' : Hp} {x : Addr} {z : Str} {i : Int} (s : Same H H') (h : SigAt C H x z i) : SigAt C H' x z i := by
  obtain ⟨dx, e⟩ := h
  exact ⟨dx, s _ _ e⟩
theorem SigAt.keep {C : Addr} {H H' : Hp} {p x : Addr} {z : Str} {i : Int} {xs : List V} (hp : H p = some (.lst xs)) (s : Keep p H H') (h : SigAt C H x z i) : SigAt C H' x z i := by
  obtain ⟨dx, e⟩ := h
  exact ⟨dx, s _ _ (fun z => by subst z; rw [e] at hp; cases hp) e⟩
/-- a signal of good values is made -/
theorem mk_sig {C N : Addr} {H : Hp} {z : Str} {i : Int} {Q : Addr → Hp → Prop} {E : XK} (hz : nameOk z = true) (i0 : 0 ≤ i) (i3 : i ≤ 3) (q : ∀ x H', Same H H' → SigAt C H' x z i → Q x H') :
    ∀ x dx, H x = none → H dx = none → dx ≠ x → spSigInit C N [.ref x, .str z, .int i] (upd (upd H dx (.own x)) x (.ins C dx [])) (fun v H2 => v = .non ∧ Q x H2) E := by
  intro x dx hx hdx hne
  have s0 : Same H (upd (upd H dx (.own x)) x (.ins C dx [])) := Lay.Same.upd' (Lay.Same.upd hdx) (by rw [upd_ne hne.symm]; exact hx)
  have hn : isName (.str z) = true := hz
  have hw : within (.int i) 0 3 = true := by show (decide (0 ≤ i) && decide (i ≤ 3)) = true; rw [decide_eq_true i0, decide_eq_true i3]; rfl
  refine ⟨x, dx, .str z, .int i, rfl, upd_same, .str (by have := nameOk_len hz; omega), .int _, fun h => ?_, fun _ h => ?_, fun _ _ H' e k => ⟨rfl, q x H' (fun b o hb => ?_) ⟨dx, e⟩⟩⟩
  · rw [hn] at h; cases h
  · rw [hw] at h; cases h
  · have hbx : b ≠ x := fun z => by subst z; rw [hx] at hb; cases hb
    exact k b o hbx (s0 b o hb)
/-- one of two -/
theorem two_at {i j d : Int} (d0 : 0 ≤ d) (d1 : d < 2) : ∃ k, atI [V.int i, V.int j] d = some (.int k) ∧ (k = i ∨ k = j) := by
  obtain rfl | rfl : d = 0 ∨ d = 1 := by omega
  · exact ⟨i, rfl, .inl rfl⟩
  · exact ⟨j, rfl, .inr rfl⟩
end Lay

end

section
namespace PySem
namespace RTL
open RT
section
variable {prog : Program} {w : World} {A : Around} {E : Value → Shared → Prop} {s : Shared}
/-- l.__init__(reversed(list)) -/
theorem extend_rev {R : Result → Shared → Prop} {it l : Addr} {items : Array Value} (hh : A.handled = none) (hit : s.heap.IsRevIter it l ((items.size : Int) - 1)) (hl : s.heap.IsList l items) (hne : l ≠ it) (hn : items.size ≤ sizeLine)
    (S : Addr) (res : Value) (c₀ : Nat) (hS : s.heap.get? S = some { cls := .type "list", data := .seq #[] c₀ }) (hSi : S ≠ it) (hSl : S ≠ l)
    (hR : ∀ h' tk acc' c', (∀ b o, b ≠ S → b ≠ it → s.heap.get? b = some o → h'.get? b = some o) → h'.get? S = some { cls := .type "list", dict := none, data := .seq acc' c', slots := #[] } →
      ItemsOf (fun i v => items[items.size - 1 - i]? = some v) acc' items.size → R (.ok (.ret res)) { s with heap := h', toks := tk }) :
    wpAny (model prog w) A.in1 (Builtin.List.listExtendWith (.ref S) (.ref it) res)
      (fun fin s' => match fin with | .done f => R (.ok f) s' | .again c' => c'.quiet = true ∧ codeAny (model prog w) A c' R s') (fun e s' => R (.error e) s') s := by
  have W := (Walks.listRev (prog := prog) (w := w) (A := A.in1) hh it l hne items).toS
  have hSf : S ∉ [it, l] := by simp only [List.mem_cons, List.not_mem_nil, or_false, not_or]; exact ⟨hSi, hSl⟩
  have hT : s.TypeIs (.ref it) "list_reverseiterator" := hit.typeIs
  have h1 : Builtin.List.listSameRef (.ref S) (.ref it) = false := by simp [Builtin.List.listSameRef, hSi]
  unfold Builtin.List.listExtendWith
  refine wpAny_bind (wpAny_typeOf hT ?_)
  rw [if_neg (by rw [h1]; decide)]
  refine wpAny_bind (wpAny_pyIter_revIter hit ?_)
  refine wpAny_bind (wpAny_holding ?_)
  unfold Builtin.List.listLengthHint
  refine wpAny_bind (wpAny_specialOf hT nolen_lri ?_)
  show wpAny _ A.in1 (specialOf (Value.ref it) (Str.ofString "__length_hint__") >>= _) _ _ _
  refine wpAny_bind (wpAny_specialOf hT hint_lri ?_)
  generalize hid : ("list_reverseiterator.__length_hint__" : String) = id0
  wp_delta
  rw [show splitId id0 = some ("list_reverseiterator", "__length_hint__") from by subst hid; decide +kernel]
  subst hid
  refine wpAny_bind (wpAny_isInstance (b := true) hT (by rw [isSubtype_type]; kernel_rfl) ?_)
  refine wpAny_pure ?_
  rw [if_neg (by decide)]
  have e0 : ((items.size : Nat) : Int) - 1 - ((0 : Nat) : Int) = (items.size : Int) - 1 := by omega
  refine wpAny_pure ⟨plainId_quiet F.plain_extend_loop _, codeAny_extend_loopS W hn _ hSf _ items.size 0 _ _ _ rfl (Nat.zero_le _) ⟨Nat.zero_le _, by rw [e0]; exact hit, hl⟩ hS (ItemsOf.nil _) fun s' acc' c' hm hS' hacc => ?_⟩
  rw [Moved.eq_with hm]
  refine hR s'.heap s'.toks acc' c' (fun b o hb hbi e => hm.heap b o (fun hmem => ?_) e) hS' hacc
  rcases List.mem_cons.mp hmem with e' | hmem
  · exact hb e'
  · exact hbi (List.mem_singleton.mp hmem)
theorem list_init_rev {R : Result → Shared → Prop} {it l : Addr} {items : Array Value} (hh : A.handled = none) (hit : s.heap.IsRevIter it l ((items.size : Int) - 1)) (hl : s.heap.IsList l items) (hne : l ≠ it) (hn : items.size ≤ sizeLine)
    (S : Addr) (hS : s.heap.get? S = some { cls := .type "list", data := .seq #[] }) (hSi : S ≠ it) (hSl : S ≠ l)
    (hR : ∀ h' tk acc' c', (∀ b o, b ≠ S → b ≠ it → s.heap.get? b = some o → h'.get? b = some o) → h'.get? S = some { cls := .type "list", dict := none, data := .seq acc' c', slots := #[] } →
      ItemsOf (fun i v => items[items.size - 1 - i]? = some v) acc' items.size → R (.ok (.ret .none)) { s with heap := h', toks := tk }) :
    wpAny (model prog w) A.in1 (Builtin.«list.__init__» ⟨[.ref S, .ref it], []⟩)
      (fun fin s' => match fin with | .done f => R (.ok f) s' | .again c' => c'.quiet = true ∧ codeAny (model prog w) A c' R s') (fun e s' => R (.error e) s') s := by
  show wpAny _ _ (do let old ← Builtin.List.listItems (.ref S); Builtin.List.listUpdate (.ref S) (fun _ => #[]); letGo old.toList.reverse; Builtin.List.listExtendWith (.ref S) (.ref it) .none) _ _ s
  refine wpAny_bind ?_
  unfold Builtin.List.listItems
  refine wpAny_bind (wpAny_seqItems hS rfl (wpAny_pure ?_))
  show wpAny _ _ (updateSeq S (fun _ => #[]) >>= fun _ => letGo (#[] : Array Value).toList.reverse >>= fun _ => Builtin.List.listExtendWith (.ref S) (.ref it) .none) _ _ s
  refine wpAny_bind (wpAny_updateSeq hS rfl ?_)
  have hS₂ := Heap.get?_update_self (Obj.mapSeq (fun _ => (#[] : Array Value))) hS rfl
  have oth : ∀ b o, b ≠ S → s.heap.get? b = some o → (s.heap.update S (Obj.mapSeq (fun _ => (#[] : Array Value)))).get? b = some o :=
    fun b o hb e => (Heap.get?_update_other _ _ (Ne.symm hb)).trans e
  refine wpAny_bind (wpAny_letGo ?_)
  refine extend_rev (s := { s with heap := s.heap.update S (Obj.mapSeq (fun _ => (#[] : Array Value))) }) hh (hit.at fun o e => oth it o (Ne.symm hSi) e) (hl.at fun o e => oth l o (Ne.symm hSl) e) hne hn S .none _ hS₂ hSi hSl fun h' tk acc' c' hk hS' hacc => ?_
  exact hR h' tk acc' c' (fun b o hb hbi e => hk b o hb hbi (oth b o hb e)) hS' hacc
theorem call_list_rev {it l : Addr} {items : Array Value} {Q : Value → Shared → Prop} (hh : A.handled = none) (hit : s.heap.IsRevIter it l ((items.size : Int) - 1)) (hl : s.heap.IsList l items) (hne : l ≠ it) (hn : items.size ≤ sizeLine)
    (hQ : ∀ h' tk acc' c', (∀ b o, b ≠ it → s.heap.get? b = some o → h'.get? b = some o) →
      h'.get? s.heap.objs.size = some { cls := .type "list", dict := none, data := .seq acc' c', slots := #[] } → ItemsOf (fun i v => items[items.size - 1 - i]? = some v) acc' items.size → Q (.ref s.heap.objs.size) { s with heap := h', toks := tk }) :
    wpAny (model prog w) A (call (.type "list") [.ref it]) Q E s := by
  refine callType_codes (Q₁ := fun obj s₁ => obj = .ref s.heap.objs.size ∧ s₁ = { s with heap := s.heap.push { cls := .type "list", data := .seq #[] } }) F.called_list (F.typeCall_list_1 _) F.entry_list_init
    (code_list_new _ ⟨rfl, rfl⟩) fun obj s₁ h₁ => ?_
  obtain ⟨rfl, rfl⟩ := h₁
  have hS : (s.heap.push { cls := .type "list", data := .seq #[] }).get? s.heap.objs.size = some { cls := .type "list", data := .seq #[] } := Heap.get?_push_size _ rfl
  have hSi : s.heap.objs.size ≠ it := by obtain ⟨o, ho, _⟩ := hit; exact Nat.ne_of_gt (Heap.lt_size ho)
  have hSl : s.heap.objs.size ≠ l := by obtain ⟨o, ho, _⟩ := hl; exact Nat.ne_of_gt (Heap.lt_size ho)
  refine ⟨⟨_, hS, rfl⟩, F.args_list_init_2 _ _, list_init_rev (A := A.in1) hh (hit.at fun o e => Heap.get?_push_of_some _ e) (hl.push _) hne hn _ hS hSi hSl fun h' tk acc' c' hk hS' hacc => ?_⟩
  exact ⟨rfl, hQ h' tk acc' c' (fun b o hb e => hk b o (Nat.ne_of_lt (Heap.lt_size e)) hb (Heap.get?_push_of_some _ e)) hS' hacc⟩
end
end RTL
end PySem
namespace Lay
open PySem PySem.Spec PyProof.Rows L2 RT
/-- list(reversed(x)), x a list: a new list -/
def tListRev (K : PySem.W.Frag) (te : TE) : TE := fun σ H Q => te σ H fun v H1 => ∃ (a : Addr) (xs : List V), v = .ref a ∧ SqL K H1 a xs ∧ ∀ q, H1 q = none → Q (.ref q) (upd H1 q (.lst xs.reverse))
theorem rd_listRev {K : PySem.W.Frag} {te : TE} {σ : L2.St} {H : Hp} {Q : VK} (h : te σ H fun v H1 => ∃ (a : Addr) (xs : List V), v = .ref a ∧ SqL K H1 a xs ∧ ∀ q, H1 q = none → Q (.ref q) (upd H1 q (.lst xs.reverse))) : tListRev K te σ H Q := h
theorem pe_listRev {X : Cx} {e : Expr} {te : TE} {p p2 pos pos2 : Pos} (hc : X.calm = true) (hg : Gl X "list") (hm : X.mg "list" = none) (hg2 : Gl X "reversed") (hm2 : X.mg "reversed" = none) (he : PE X e te)
    (hs : starEach [e] X.env = (false, eval e X.env) :: starEach [] X.env := by rfl)
    (hs2 : starEach [.Call (.Name "reversed" p2) [e] [] pos2] X.env = (false, eval (.Call (.Name "reversed" p2) [e] [] pos2) X.env) :: starEach [] X.env := by rfl) :
    PE X (.Call (.Name "list" p) [.Call (.Name "reversed" p2) [e] [] pos2] [] pos) (tListRev X.K te) := by
  refine ⟨fun pins s σ H Q I h => ?_⟩
  refine Call_ (ld_blt I hg hm boot_list (PyProof.Rows.callWith_type1 (args_cons (Call_ (ld_blt I hg2 hm2 PyProof.Rows.boot_reversed (PyProof.Rows.callWith_type1 (args_cons (thn (he.run pins s σ H _ I h) fun u s1 ⟨v, H1, I1, r1, q1⟩ => args_nil ?_) hs) hs rfl))) hs2) hs2 rfl))
  obtain ⟨a, xs, ev, hq, q⟩ := q1
  subst ev
  obtain rfl : u = Value.ref a := r1
  obtain ⟨its, rv, p', hz⟩ := I1.list hq
  refine call_reversed_list p'.isList (args_nil ?_)
  have k0 : ∀ b o, s1.heap.get? b = some o → (s1.heap.push (revObj a ((its.toArray.size : Int) - 1))).get? b = some o := fun b o e => Heap.get?_push_of_some _ e
  have I2 : Inv X pins σ H1 { s1 with heap := s1.heap.push (revObj a ((its.toArray.size : Int) - 1)) } := I1.kept (t' := s1.toks) k0
  obtain ⟨f0, f1, f2, f3, f4, f5⟩ := I1.fpOk (H' := H1) (b := s1.heap.objs.size) (Nat.le_refl _) (I1.hok.fresh (Nat.le_refl _))
  have hl := p'.isList
  obtain ⟨ol, hol, _⟩ := id hl
  have hne : a ≠ s1.heap.objs.size := Nat.ne_of_lt (Heap.lt_size hol)
  have hn : its.toArray.size ≤ sizeLine := by rw [List.size_toArray, ← rv.length]; exact hz
  refine PySem.RTL.call_list_rev (s := { s1 with heap := s1.heap.push (revObj a ((its.toArray.size : Int) - 1)) }) (I1.ok.hd hc) ⟨_, Heap.get?_push_size _ rfl, rfl, rfl⟩ (hl.push _) hne hn fun h' tk acc c' hk hS hi => ?_
  have I3 : Inv X pins σ H1 { s1 with heap := h', toks := tk } := I2.turned (t' := tk) (fun b o hb e => hk b o hb e) f0 f1 f3 f4 f5
  have hsz : (s1.heap.push (revObj a ((its.toArray.size : Int) - 1))).objs.size = s1.heap.objs.size + 1 := Heap.size_push ..
  have hnone : H1 (s1.heap.push (revObj a ((its.toArray.size : Int) - 1))).objs.size = none := I2.hok.fresh (Nat.le_refl _)
  have ob : ObjOk X.prog X.w (upd H1 (s1.heap.push (revObj a ((its.toArray.size : Int) - 1))).objs.size (.lst xs.reverse)) h' (s1.heap.push (revObj a ((its.toArray.size : Int) - 1))).objs.size (.lst xs.reverse) :=
    ⟨by rw [List.length_reverse]; exact hz, acc.toList, c', vals_rev rv hi, by rw [Array.toArray_toList]; exact hS⟩
  refine ⟨.ref _, upd H1 _ (.lst xs.reverse), ?_, rfl, q _ hnone⟩
  have hbig : s1.heap.objs.size ≤ (s1.heap.push (revObj a ((its.toArray.size : Int) - 1))).objs.size := by rw [hsz]; exact Nat.le_succ _
  refine I1.un (t' := tk) ⟨fun b o e n hf hx => hk b o (Nat.ne_of_lt (Heap.lt_size e)) (k0 b o e), fun b o e n hf hx => ⟨o.slots, hk b o (Nat.ne_of_lt (Heap.lt_size e)) (k0 b o e)⟩, fun b o e n hx => ?_, fun b o e hx => ⟨o, hk b o (Nat.ne_of_lt (Heap.lt_size e)) (k0 b o e)⟩, fun b ys e => ?_, fun b o u e => ?_, fun b ps e => ?_⟩ fun b o e => ?_
  · rw [upd_ne (Nat.ne_of_lt (Nat.lt_of_lt_of_le (Heap.lt_size e) hbig))]; exact n
  · rw [upd_ne (ne_of_none e hnone)]; exact e
  · rw [upd_ne (ne_of_none e hnone)]; exact e
  · exact ⟨#[], by rw [upd_ne (ne_of_none e hnone), e]; simp⟩
  · by_cases hb : b = (s1.heap.push (revObj a ((its.toArray.size : Int) - 1))).objs.size
    · subst hb
      rw [upd_same] at e
      cases e
      exact ob
    · rw [upd_ne hb] at e
      exact (I3.hok b o e).stay (fun _ _ _ z => z) (fun c z => by rw [upd_ne (ne_of_none z hnone)]; exact z) (fun c ys z => by rw [upd_ne (ne_of_none z hnone)]; exact z)
end Lay

end

section
namespace Exv
open PySem PySem.Spec PyProof.Rows L2
section
variable {X : Cx} {pins : List (Addr × Obj)} {σ : L2.St} {H : Hp} {s : Shared}
/-- a def by a positional promise, what is raised wished for at the slots -/
theorem run_fnRS {CX : CXT} {k : Nat} {f : Addr} {sp : Sp} {E : XK} {Q : VK} {us : List Value} {vs : List V} (F : FnR X.prog X.w X.K X.mg X.base CX k f sp) (hr : Room k X.A) (hx : PassesAt CX X σ E) (I : Inv X pins σ H s) (r : Vals vs us) (h : sp vs H Q E) :
    codeAny (model X.prog X.w) X.A (.call (.ref f) ⟨us, []⟩) (fun r s' => match r with | .ok (.ret v) => EP X pins σ Q v s' | .ok _ => False | .error e => X.xe e s') s := by
  refine codeAny_mono (F X.A X.stack s H us vs Q E hr I.env0 r h) fun r s' hq => ?_
  cases r with
  | error e => exact hx pins H s e s' I hq
  | ok fl =>
    cases fl with
    | ret u => exact I.after hq
    | next => exact False.elim hq
    | brk => exact False.elim hq
    | cont => exact False.elim hq
theorem run_cmS {CX : CXT} {k : Nat} {C g q : Addr} {sp : Sp} {E : XK} {Q : VK} {us : List Value} {vs : List V} (F : FnR X.prog X.w X.K X.mg X.base CX k g sp) (hr : Room k X.A) (hx : PassesAt CX X σ E) (I : Inv X ((q, PySem.W.methodObj (.ref g) (.ref C)) :: pins) σ H s)
    (r : Vals vs us) (h : sp (.ref C :: vs) H Q E) : wpAny (model X.prog X.w) X.A (call (.ref q) us) (EP X pins σ Q) X.xe s := by
  have z : wpAny (model X.prog X.w) X.A (call (.ref q) us) (EP X ((q, PySem.W.methodObj (.ref g) (.ref C)) :: pins) σ Q) X.xe s :=
    wpAny_call (PySem.W.method_call (ClX.pin_at I) (run_fnRS (us := .ref C :: us) (vs := .ref C :: vs) F hr hx I (.cons rfl r) h))
  exact thn z fun _ _ y => ClX.unpinE y
end
/-- e.m(..), e the class at C, m a classmethod, which may raise -/
def tCMethS (C : Addr) (sp : Sp) (E : L2.St → XK) (ta : TE) (t : TA) : TE := fun σ H Q => ta σ H fun x H1 => x = .ref C ∧ t σ H1 fun vs H2 => sp (.ref C :: vs) H2 Q (E σ)
theorem rd_cmethS {C : Addr} {sp : Sp} {E : L2.St → XK} {ta : TE} {t : TA} {σ : L2.St} {H : Hp} {Q : VK} (h : ta σ H fun x H1 => x = .ref C ∧ t σ H1 fun vs H2 => sp (.ref C :: vs) H2 Q (E σ)) : tCMethS C sp E ta t σ H Q := h
def tCMethKS (C : Addr) (m : Nat) (sp : Sp) (gV : List V → List V → List V) (E : L2.St → XK) (ta : TE) (tk : TA) : TE := fun σ H Q => ta σ H fun x H1 => x = .ref C ∧ tk σ H1 fun zs H2 => zs.length = m ∧ sp (gV [.ref C] zs) H2 Q (E σ)
theorem rd_cmethKS {C : Addr} {m : Nat} {sp : Sp} {gV : List V → List V → List V} {E : L2.St → XK} {ta : TE} {tk : TA} {σ : L2.St} {H : Hp} {Q : VK} (h : ta σ H fun x H1 => x = .ref C ∧ tk σ H1 fun zs H2 => zs.length = m ∧ sp (gV [.ref C] zs) H2 Q (E σ)) : tCMethKS C m sp gV E ta tk σ H Q := h
section
variable {X : Cx} {CX : CXT} {k : Nat} {C p g : Addr} {mc : Value} {sp : Sp} {E : L2.St → XK} {o e : Expr} {es : List Expr} {kws : List Keyword} {m : Str} {pos apos : Pos} {ta : TE} {t tk : TA} {pl : Sem Bool} {fd : FuncData} {ps ks : List Str} {gg : List Value → List Value → List Value} {gV : List V → List V → List V}
theorem pe_cmethS (he : PE X o ta) (r : ClX.CRead X.K C mc) (c : ClX.CMet X.K C mc m p g) (F : FnR X.prog X.w X.K X.mg X.base CX k g sp) (hr : Room k X.A) (hx : ∀ σ, PassesAt CX X σ (E σ)) (ha : PA X (e :: es) t)
    (hst : starEach (e :: es) X.env = (false, eval e X.env) :: starEach es X.env := by rfl) (hpl : (backTo pos (starEach es X.env)).any (·.1) = false := by rfl)
    (ht : eval (.Call (.Attribute o m apos) (e :: es) [] pos) X.env = (do
      let ov ← eval o X.env
      standAt apos.atName
      let (f, first) ← holding [ov] (getMethod ov m pl)
      callWith pos f first (backTo pos (starEach (e :: es) X.env)) (backToKw pos (keywordEach [] X.env))) := by rfl) :
    PE X (.Call (.Attribute o m apos) (e :: es) [] pos) (tCMethS C sp E ta t) := by
  refine ⟨fun pins s σ H Q I h => ?_⟩
  refine PySem.W.methodCall_KW (pl := pl) (thn (he.run pins s σ H _ I h) fun u s1 ⟨x, H1, I1, rx, ex, q⟩ => ?_) ht
  subst ex
  obtain rfl : u = Value.ref C := rx
  refine ClX.getmethcm_ok I1 r c fun s2 I2 => ?_
  refine ClX.callwith_cm I2 (ClX.base_none I1 (Nat.le_refl _)) c.fi (thn (ha.run pos _ s2 σ H1 _ I2 q) fun us s3 ⟨vs, H2, I3, rv, q2⟩ => ⟨⟨ClX.pin_at I3, I3.kIn⟩, ?_⟩) hst hpl
  exact run_cmS F hr (hx σ) I3 rv q2
/-- C.m(k = v, ..) -/
theorem pe_cmethKS (he : PE X o ta) (r : ClX.CRead X.K C mc) (c : ClX.CMet X.K C mc m p g) (F : FnOk X.prog X.w X.K X.mg X.base CX k g fd ps sp) (hr : Room k X.A) (hb : KBn X.K fd ps 1 ks gg gV) (hx : ∀ σ, PassesAt CX X σ (E σ)) (hkw : PK X kws tk)
    (hall : (backToKw pos (keywordEach kws X.env)).all (·.1.isSome) = true := by rfl) (hks : (backToKw pos (keywordEach kws X.env)).filterMap (·.1) = ks := by rfl)
    (hpl : ((backTo pos (starEach [] X.env)).any (·.1) || (backToKw pos (keywordEach kws X.env)).any (·.1.isNone)) = false := by rfl)
    (ht : eval (.Call (.Attribute o m apos) [] kws pos) X.env = (do
      let ov ← eval o X.env
      standAt apos.atName
      let (f, first) ← holding [ov] (getMethod ov m pl)
      callWith pos f first (backTo pos (starEach [] X.env)) (backToKw pos (keywordEach kws X.env))) := by rfl) :
    PE X (.Call (.Attribute o m apos) [] kws pos) (tCMethKS C ks.length sp gV E ta tk) := by
  refine ⟨fun pins s σ H Q I h => ?_⟩
  refine PySem.W.methodCall_KW (pl := pl) (thn (he.run pins s σ H _ I h) fun u s1 ⟨x, H1, I1, rx, ex, q⟩ => ?_) ht
  subst ex
  obtain rfl : u = Value.ref C := rx
  refine ClX.getmethcm_ok I1 r c fun s2 I2 => ?_
  have hq0 : X.base.get? s1.heap.objs.size = none := ClX.base_none I1 (Nat.le_refl _)
  refine PySem.W.callWith_of hpl (PySem.W.keeps_M (K := X.K) (self := .ref C) c.fi) (evalArgs_kw2_nil hall (thn (hkw.run pos _ s2 σ H1 _ I2 q) fun ws s3 ⟨zs, H2, I3, rz, l2, q2⟩ => ⟨⟨ClX.pin_at I3, I3.kIn⟩, ?_⟩))
  rw [hks]
  have e2 : ws.length = ks.length := rz.length.symm.trans l2
  have rC : Vals [V.ref C] [Value.ref C] := .cons rfl .nil
  have z : wpAny (model X.prog X.w) X.A (call (.ref s1.heap.objs.size) ([] ++ []) (ks.zip ws)) (EP X ((s1.heap.objs.size, PySem.W.methodObj (.ref g) (.ref C)) :: pins) σ Q) X.xe s3 := by
    refine wpAny_call (PySem.W.method_call (ClX.pin_at I3) (codeAny_mono (F.run X.A X.stack s3 H2 ⟨[.ref C], ks.zip ws⟩ (gg [.ref C] ws) (gV [.ref C] zs) Q (E σ) hr I3.env0 (hb.to s3 [.ref C] ws I3.kIn rfl e2) (hb.rel rC rz) q2) fun r s' hq => ?_))
    cases r with
    | error e => exact hx σ _ H2 s3 e s' I3 hq
    | ok fl =>
      cases fl with
      | ret u => exact I3.after hq
      | next => exact False.elim hq
      | brk => exact False.elim hq
      | cont => exact False.elim hq
  exact thn z fun _ _ y => ClX.unpinE y
end
end Exv

end

section
namespace Lay
open PySem PySem.Spec PyProof.Rows L2 Exv
/-! ### variables -/
/-- the first number below n of which p holds -/
def fst (p : Nat → Bool) : Nat → Option Nat
  | 0 => none
  | n + 1 => match fst p n with
    | some i => some i
    | none => if p n = true then some n else none
theorem fst_none {p : Nat → Bool} : ∀ {n : Nat}, (∀ j, j < n → p j = false) → fst p n = none
  | 0, _ => rfl
  | n + 1, h => by
    unfold fst
    rw [fst_none fun j hj => h j (Nat.lt_succ_of_lt hj)]
    dsimp only
    rw [h n (Nat.lt_succ_self n), if_neg Bool.false_ne_true]
theorem fst_some {p : Nat → Bool} {i : Nat} (h1 : p i = true) (h0 : ∀ j, j < i → p j = false) : ∀ {n : Nat}, i < n → fst p n = some i
  | 0, h => absurd h (Nat.not_lt_zero _)
  | n + 1, h => by
    unfold fst
    by_cases e : i < n
    · rw [fst_some h1 h0 e]
    · have : i = n := by omega
      subst this
      rw [fst_none h0]
      dsimp only
      rw [if_pos h1]
def near (s : Int) (x y : V) : Bool := match x, y with
  | .int a, .int b => decide ((if a - b < 0 then -(a - b) else a - b) < s)
  | _, _ => false
def aBad (s : Int) (xs : List V) (k : Nat) : Bool := match xs[k]? with
  | some x => !within x 0 (1024 - s)
  | none => false
def bBad (s : Int) (xs : List V) (k : Nat) : Bool := match xs[k]? with
  | some x => (xs.take k).any (near s x)
  | none => false
def er (r : Str) (p : V) : Option (Str × V) := some (r, p)
/-- what is wrong with a name, a size and addresses, the first thing of it -/
def wants (v w : V) (xs : List V) : Option (Str × V) :=
  if isName v = false then er "name" .non else
  match w with
  | .int s => if within (.int s) 1 8 = false then er "size" .non else if (decide (1 ≤ xs.length) && decide (xs.length ≤ 4)) = false then er "slots" .non else
    match fst (aBad s xs) xs.length with
    | some k => er "address" (.int k)
    | none => match fst (bBad s xs) xs.length with
      | some k => er "bytes" (.int k)
      | none => none
  | _ => er "size" .non
theorem wants_name {v w : V} {xs : List V} (h : isName v = false) : wants v w xs = er "name" .non := by unfold wants; rw [h]; rfl
theorem wants_size {v w : V} {xs : List V} (h : isName v = true) (hw : within w 1 8 = false) : wants v w xs = er "size" .non := by
  unfold wants
  rw [h, if_neg (by decide)]
  cases w with
  | int s => dsimp only; rw [hw, if_pos rfl]
  | _ => rfl
theorem wants_slots {v : V} {s : Int} {xs : List V} (h : isName v = true) (hw : within (.int s) 1 8 = true) (hl : (decide (1 ≤ xs.length) && decide (xs.length ≤ 4)) = false) : wants v (.int s) xs = er "slots" .non := by
  unfold wants
  rw [h, if_neg (by decide)]
  dsimp only
  rw [hw, if_neg (by decide), hl, if_pos rfl]
theorem wants_addr {v : V} {s : Int} {xs : List V} {k : Nat} (h : isName v = true) (hw : within (.int s) 1 8 = true) (hl : (decide (1 ≤ xs.length) && decide (xs.length ≤ 4)) = true) (ha : fst (aBad s xs) xs.length = some k) : wants v (.int s) xs = er "address" (.int k) := by
  unfold wants
  rw [h, if_neg (by decide)]
  dsimp only
  rw [hw, if_neg (by decide), hl, if_neg (by decide), ha]
theorem wants_bytes {v : V} {s : Int} {xs : List V} {k : Nat} (h : isName v = true) (hw : within (.int s) 1 8 = true) (hl : (decide (1 ≤ xs.length) && decide (xs.length ≤ 4)) = true) (ha : fst (aBad s xs) xs.length = none) (hb : fst (bBad s xs) xs.length = some k) : wants v (.int s) xs = er "bytes" (.int k) := by
  unfold wants
  rw [h, if_neg (by decide)]
  dsimp only
  rw [hw, if_neg (by decide), hl, if_neg (by decide), ha]
  dsimp only
  rw [hb]
theorem wants_none {v : V} {s : Int} {xs : List V} (h : isName v = true) (hw : within (.int s) 1 8 = true) (hl : (decide (1 ≤ xs.length) && decide (xs.length ≤ 4)) = true) (ha : fst (aBad s xs) xs.length = none) (hb : fst (bBad s xs) xs.length = none) : wants v (.int s) xs = none := by
  unfold wants
  rw [h, if_neg (by decide)]
  dsimp only
  rw [hw, if_neg (by decide), hl, if_neg (by decide), ha]
  dsimp only
  rw [hb]
theorem fst_none_at {p : Nat → Bool} : ∀ {n : Nat}, fst p n = none → ∀ j, j < n → p j = false
  | 0, _, j, h => absurd h (Nat.not_lt_zero _)
  | n + 1, e, j, h => by
    unfold fst at e
    cases hh : fst p n with
    | some i => rw [hh] at e; cases e
    | none =>
      rw [hh] at e
      dsimp only at e
      by_cases hp : p n = true
      · rw [if_pos hp] at e; cases e
      · by_cases e2 : j < n
        · exact fst_none_at hh j e2
        · have : j = n := by omega
          subst this
          exact Bool.eq_false_iff.mpr hp
/-- addresses that are none of them bad are numbers -/
theorem ints_of {s : Int} {xs : List V} (h : ∀ j, j < xs.length → aBad s xs j = false) : ∃ ns : List Int, xs = ns.map V.int ∧ ∀ n ∈ ns, 0 ≤ n ∧ n ≤ 1024 - s := by
  induction xs with
  | nil => exact ⟨[], rfl, fun n hn => nomatch hn⟩
  | cons x xs ih =>
    have h0 := h 0 (by simp)
    have h0' : within x 0 (1024 - s) = true := by
      have : (!within x 0 (1024 - s)) = false := h0
      simpa using this
    obtain ⟨i, rfl, i0, i1⟩ : ∃ i, x = .int i ∧ 0 ≤ i ∧ i ≤ 1024 - s := by
      cases x with
      | int i =>
        have h' : (decide (0 ≤ i) && decide (i ≤ 1024 - s)) = true := h0'
        rw [Bool.and_eq_true] at h'
        exact ⟨i, rfl, of_decide_eq_true h'.1, of_decide_eq_true h'.2⟩
      | _ => cases h0'
    obtain ⟨ns, rfl, hn⟩ := ih fun j hj => by
      have := h (j + 1) (by simpa using hj)
      unfold aBad at this ⊢
      simpa using this
    exact ⟨i :: ns, rfl, fun n m => by
      rcases List.mem_cons.mp m with e | m
      · subst e; exact ⟨i0, i1⟩
      · exact hn n m⟩
/-- a row of values of any kind -/
def KzL (H : Hp) (xs : List V) : Prop := ∀ x ∈ xs, Kz H x
theorem KzL.mono {H H' : Hp} {xs : List V} (s : Same H H') (h : KzL H xs) : KzL H' xs := fun x m => (h x m).mono s
def spChkAddr (N : Addr) : Sp := fun vs H Q E => ∃ (s : Int) (t : Addr) (xs : List V), vs = [.int s, .ref t] ∧ H t = some (.tup xs) ∧ KzL H xs ∧
  (∀ k, fst (aBad s xs) xs.length = some k → ErrW N E H [("place", .int (k : Nat)), ("reason", .str "address")]) ∧ (fst (aBad s xs) xs.length = none → ∀ H', Same H H' → Q .non H')
def spChkApart (N : Addr) : Sp := fun vs H Q E => ∃ (s : Int) (t : Addr) (ns : List Int), vs = [.int s, .ref t] ∧ H t = some (.tup (ns.map V.int)) ∧ ns.length ≤ 4 ∧
  (∀ k, fst (bBad s (ns.map V.int)) ns.length = some k → ErrW N E H [("place", .int (k : Nat)), ("reason", .str "bytes")]) ∧ (fst (bBad s (ns.map V.int)) ns.length = none → ∀ H', Same H H' → Q .non H')
def varF (v w : V) (t : Addr) : List (Str × V) := [("name", v), ("size", w), ("at", .ref t)]
theorem putF_var (v w : V) (t : Addr) : putF "at" (.ref t) (putF "size" w (putF "name" v [])) = varF v w t := by
  have h1 : ¬ (("name" : Str) = "size") := by decide +kernel
  have h2 : ¬ (("name" : Str) = "at") := by decide +kernel
  have h3 : ¬ (("size" : Str) = "at") := by decide +kernel
  have e1 : putF "size" w (putF "name" v []) = [(("name" : Str), v), (("size" : Str), w)] := by
    show (if ("name" : Str) = "size" then _ else (("name" : Str), v) :: putF "size" w []) = _
    rw [if_neg h1]
    rfl
  rw [e1]
  show (if ("name" : Str) = "at" then _ else (("name" : Str), v) :: putF "at" (.ref t) [(("size" : Str), w)]) = _
  rw [if_neg h2]
  show (("name" : Str), v) :: (if ("size" : Str) = "at" then _ else (("size" : Str), w) :: putF "at" (.ref t) []) = _
  rw [if_neg h3]
  rfl
/-- a variable -/
def VarAt (C : Addr) (H : Hp) (x : Addr) (v w : V) (xs : List V) : Prop := ∃ dx t, H x = some (.ins C dx (varF v w t)) ∧ H t = some (.tup xs)
theorem VarAt.mono {C : Addr} {H H' : Hp} {x : Addr} {v w : V} {xs : List V} (s : Same H H') (h : VarAt C H x v w xs) : VarAt C H' x v w xs := by
  obtain ⟨dx, t, e1, e2⟩ := h
  exact ⟨dx, t, s _ _ e1, s _ _ e2⟩
/-- __init__(self, name, size, *at), at laid -/
def spVarInit (C N : Addr) : Sp := fun vs H Q E => ∃ x dx v w t xs, vs = [.ref x, v, w, .ref t] ∧ H x = some (.ins C dx []) ∧ Kz H v ∧ Kz H w ∧ H t = some (.tup xs) ∧ KzL H xs ∧
  (∀ r p, wants v w xs = some (r, p) → ErrW N E H [("place", p), ("reason", .str r)]) ∧ (wants v w xs = none → ∀ H', VarAt C H' x v w xs → Keep x H H' → Q .non H')
/-- a variable is asked for, by a class or by made: what comes of it -/
def AskW (C N : Addr) (v w : V) (xs : List V) (H : Hp) (Q : VK) (E : XK) : Prop :=
  (∀ r p, wants v w xs = some (r, p) → ErrW N E H [("place", p), ("reason", .str r)]) ∧ (wants v w xs = none → ∀ x H', Same H H' → VarAt C H' x v w xs → Q (.ref x) H')
theorem mk_var {C N : Addr} {H : Hp} {v w : V} {xs : List V} {Q : Addr → Hp → Prop} {Q' : VK} {E : XK} (hQ : ∀ x H, Q' (.ref x) H → Q x H) (hv : Kz H v) (hw : Kz H w) (hx : KzL H xs) (hl : xs.length ≤ 100) (a : AskW C N v w xs H Q' E) :
    ∀ x dx, H x = none → H dx = none → dx ≠ x → spStar 3 (spVarInit C N) (.ref x :: v :: w :: xs) (upd (upd H dx (.own x)) x (.ins C dx [])) (fun v H2 => v = .non ∧ Q x H2) E := by
  intro x dx hx' hdx hne
  have s0 : Same H (upd (upd H dx (.own x)) x (.ins C dx [])) := Lay.Same.upd' (Lay.Same.upd hdx) (by rw [upd_ne hne.symm]; exact hx')
  refine ⟨[.ref x, v, w], xs, rfl, rfl, Nat.le_trans hl (by decide), fun t ht => ?_⟩
  have s1 := s0.trans (Lay.Same.upd (o := .tup xs) ht)
  refine ⟨x, dx, v, w, t, xs, rfl, upd_old ht upd_same, hv.mono s1, hw.mono s1, upd_same, hx.mono s1, fun r p e d H' hd s z => a.1 r p e d H' (none_of s1 hd) (s1.trans s) z, fun e H' va k => ⟨rfl, hQ _ _ (a.2 e x H' (fun b o hb => ?_) va)⟩⟩
  have hbx : b ≠ x := fun z => by subst z; rw [hx'] at hb; cases hb
  exact k b o hbx (s1 b o hb)
/-- made(cls, name, size, at) -/
def spVarMade (K : PySem.W.Frag) (C N : Addr) : Sp := fun vs H Q E => ∃ v w a xs, vs = [.ref C, v, w, .ref a] ∧ Kz H v ∧ Kz H w ∧ (SqT K H a xs ∨ SqL K H a xs) ∧ KzL H xs ∧ xs.length ≤ 100 ∧ AskW C N v w xs H Q E
end Lay
namespace Lay
open PySem PySem.Spec PyProof.Rows L2 Exv
theorem six_k {n k : Nat} (h : k ≤ n) : HT.sIx n n (some (k : Int)) = k := by
  unfold HT.sIx
  dsimp only
  split <;> omega
theorem cut_take {xs : List V} {k : Nat} (h : k ≤ xs.length) : cutV xs none (some (k : Int)) = xs.take k := by
  unfold cutV
  rw [six_k h]
  show List.take (k - 0) (List.drop 0 xs) = xs.take k
  simp
theorem rd_slA {K : PySem.W.Frag} {a : Addr} {xs : List V} {k : Nat} {H : Hp} {Q : VK} (h : SqT K H a xs) (hk : k < xs.length) (q : ∀ p, H p = none → Q (.ref p) (upd H p (.tup (xs.take k)))) : rSlA K (.ref a) none (some (k : Int)) H Q := by
  refine ⟨a, xs, rfl, h, fun e => ?_, fun _ p hp => by rw [cut_take (Nat.le_of_lt hk)]; exact q p hp⟩
  rw [six_k (Nat.le_of_lt hk)] at e
  exact absurd e.2 (by omega)
theorem abs_near {a b s : Int} : near s (.int a) (.int b) = decide ((if a - b < 0 then -(a - b) else a - b) < s) := rfl
end Lay
namespace Lay
open PySem PySem.Spec PyProof.Rows L2 Exv
theorem bind_star3 {B : List Value → Sem (List (Str × Value))} {p1 p2 p3 pv : Str} (h0 : ∀ a b c, B [a, b, c] = (newTuple [] >>= fun t => pure [(p1, a), (p2, b), (p3, c), (pv, t)])) (h1 : ∀ a b c r rs, B (a :: b :: c :: r :: rs) = (newTuple (r :: rs) >>= fun t => pure [(p1, a), (p2, b), (p3, c), (pv, t)])) :
    ∀ us rest : List Value, us.length = [p1, p2, p3].length → B (us ++ rest) = (newTuple rest >>= fun t => pure ([p1, p2, p3].zip us ++ [(pv, t)]))
  | [a, b, c], [], _ => h0 a b c
  | [a, b, c], r :: rs, _ => h1 a b c r rs
end Lay
namespace Lay
open PySem PySem.Spec PyProof.Rows L2 Exv
def spVarLen (C : Addr) : Sp := fun vs H Q _ => ∃ a v w xs, vs = [.ref a] ∧ VarAt C H a v w xs ∧ Q (.int xs.length) H
def spVarGet (C : Addr) : Sp := fun vs H Q _ => ∃ (a : Addr) (v w : V) (xs : List V) (i : Nat) (y : V), vs = [.ref a, .int i] ∧ VarAt C H a v w xs ∧ xs[i]? = some y ∧ Q y H
/-- the law's own word of what is wrong -/
def WantAt (H : Hp) (r : V) (o : Option (Str × V)) : Prop := match o with
  | none => r = .non
  | some (z, p) => ∃ t, r = .ref t ∧ H t = some (.tup [.str z, p])
def spWanted (K : PySem.W.Frag) : Sp := fun vs H Q _ => ∃ v w a xs, vs = [v, w, .ref a] ∧ Kz H v ∧ Kz H w ∧ H a = some (.lst xs) ∧ KzL H xs ∧ xs.length ≤ 5 ∧ ∀ r H', Same H H' → WantAt H' r (wants v w xs) → Q r H'
def spDirect (C N : Addr) : Sp := fun vs H Q E => ∃ v w a xs, vs = [v, w, .ref a] ∧ Kz H v ∧ Kz H w ∧ H a = some (.lst xs) ∧ KzL H xs ∧ xs.length ≤ 5 ∧ AskW C N v w xs H Q E
end Lay
namespace Lay
open PySem PySem.Spec PyProof.Rows L2 Exv
theorem rd_slLk {K : PySem.W.Frag} {a : Addr} {xs : List V} {k : Nat} {H : Hp} {Q : VK} (h : SqL K H a xs) (hk : k ≤ xs.length) (q : ∀ p, H p = none → Q (.ref p) (upd H p (.lst (xs.take k)))) : rSlL K (.ref a) none (some (k : Int)) H Q :=
  ⟨a, xs, rfl, h, fun p hp => by rw [cut_take hk]; exact q p hp⟩
theorem near_iff {a b s : Int} : (decide ((if a - b < 0 then -(a - b) else a - b) < s)) = (decide (b - s < a) && decide (a < b + s)) := by
  rw [Bool.eq_iff_iff, Bool.and_eq_true, decide_eq_true_iff, decide_eq_true_iff, decide_eq_true_iff]
  split <;> omega
theorem filt_any {α : Type} {p : α → Bool} : ∀ {l : List α}, decide ((0 : Int) < ((l.filter p).length : Nat)) = l.any p
  | [] => by simp
  | a :: l => by
    rw [List.filter_cons, List.any_cons]
    by_cases h : p a = true
    · rw [if_pos h, h, Bool.true_or]
      exact decide_eq_true (by rw [List.length_cons]; omega)
    · rw [if_neg h, Bool.eq_false_iff.mpr h, Bool.false_or]
      exact filt_any
/-- what asking for a variable gives, errors too -/
def spAskedV (C N : Addr) : Sp := fun vs H Q _ => ∃ (c : Int) (v w : V) (a : Addr) (xs : List V), vs = [.int c, v, w, .ref a] ∧ Kz H v ∧ Kz H w ∧ H a = some (.lst xs) ∧ KzL H xs ∧ xs.length ≤ 5 ∧
  (∀ r p, wants v w xs = some (r, p) → ∀ a' H', Same H H' → ErrAt N H' a' [("place", p), ("reason", .str r)] → Q (.ref a') H') ∧ (wants v w xs = none → ∀ x H', Same H H' → VarAt C H' x v w xs → Q (.ref x) H')
theorem wants_place {v w : V} {xs : List V} {r : Str} {p : V} (h : wants v w xs = some (r, p)) : p = .non ∨ ∃ i, p = .int i := by
  unfold wants at h
  split at h
  · cases h; exact .inl rfl
  · split at h
    · split at h
      · cases h; exact .inl rfl
      · split at h
        · cases h; exact .inl rfl
        · split at h
          · cases h; exact .inr ⟨_, rfl⟩
          · split at h
            · cases h; exact .inr ⟨_, rfl⟩
            · cases h
    · cases h; exact .inl rfl
end Lay
namespace Lay
open PySem PySem.Spec PyProof.Rows L2 Exv
theorem rd_callS {sp : Sp} {E : L2.St → XK} {t : TA} {σ : L2.St} {H : Hp} {Q : VK} (h : t σ H fun vs H1 => sp vs H1 Q (E σ)) : tCallS sp E t σ H Q := h
theorem VarAt.updL {C : Addr} {H : Hp} {x : Addr} {v w : V} {xs : List V} {t : Addr} {l l' : List V} (h : VarAt C H x v w xs) (ht : H t = some (.lst l)) : VarAt C (upd H t (.lst l')) x v w xs := by
  obtain ⟨dx, t2, e1, e2⟩ := h
  refine ⟨dx, t2, ?_, ?_⟩
  · rw [upd_ne (fun y => by subst y; rw [e1] at ht; cases ht)]; exact e1
  · rw [upd_ne (fun y => by subst y; rw [e2] at ht; cases ht)]; exact e2
end Lay
namespace Lay
open PySem PySem.Spec PyProof.Rows L2 Exv
theorem four_at {a b c d lo hi i : Int} (i0 : 0 ≤ i) (i1 : i < 4) (ha : lo ≤ a ∧ a ≤ hi) (hb : lo ≤ b ∧ b ≤ hi) (hc : lo ≤ c ∧ c ≤ hi) (hd : lo ≤ d ∧ d ≤ hi) : ∃ k, atI [V.int a, V.int b, V.int c, V.int d] i = some (.int k) ∧ lo ≤ k ∧ k ≤ hi := by
  obtain rfl | rfl | rfl | rfl : i = 0 ∨ i = 1 ∨ i = 2 ∨ i = 3 := by omega
  · exact ⟨a, rfl, ha⟩
  · exact ⟨b, rfl, hb⟩
  · exact ⟨c, rfl, hc⟩
  · exact ⟨d, rfl, hd⟩
/-- what is written into a list leaves values what they are -/
theorem Kz.updL {H : Hp} {D : Addr} {l l' : List V} {v : V} (hD : H D = some (.lst l)) (k : Kz H v) : Kz (upd H D (.lst l')) v := by
  obtain ⟨t, k, hz⟩ := k
  by_cases e : v = .ref D
  · subst e
    exact .lst upd_same
  · exact ⟨t, k.same fun b o eb h => by rw [upd_ne (fun z => e (by rw [eb, z]))]; exact h, hz⟩
theorem Kp.updL {p : Addr} {H : Hp} {D : Addr} {l l' : List V} {v : V} (hD : H D = some (.lst l)) (k : Kp p H v) : Kp p (upd H D (.lst l')) v := ⟨k.1.updL hD, k.2⟩
def KpL (p : Addr) (H : Hp) (xs : List V) : Prop := ∀ x ∈ xs, Kp p H x
theorem KpL.mono {p : Addr} {H H' : Hp} {xs : List V} (s : Same H H') (h : KpL p H xs) : KpL p H' xs := fun x m => (h x m).mono s
theorem KpL.keep {p : Addr} {H H' : Hp} {xs : List V} (s : Keep p H H') (h : KpL p H xs) : KpL p H' xs := fun x m => (h x m).keep s
theorem KpL.kz {p : Addr} {H : Hp} {xs : List V} (h : KpL p H xs) : KzL H xs := fun x m => (h x m).1
theorem KpL.ints {p : Addr} {H : Hp} (ns : List Int) : KpL p H (ns.map V.int) := fun x m => by
  obtain ⟨n, _, rfl⟩ := List.mem_map.mp m
  exact .int n
theorem KpL.set {p : Addr} {H : Hp} {xs : List V} {i : Nat} {y : V} (h : KpL p H xs) (hy : Kp p H y) : KpL p H (xs.set i y) := fun x m => by
  rcases List.mem_or_eq_of_mem_set m with e | e
  · exact h x e
  · rw [e]; exact hy
theorem wants_ok {v w : V} {xs : List V} (h : wants v w xs = none) : ∃ (z : Str) (s : Int) (ns : List Int), v = .str z ∧ nameOk z = true ∧ w = .int s ∧ xs = ns.map V.int := by
  by_cases hn : isName v = true
  case neg => rw [wants_name (Bool.eq_false_iff.mpr hn)] at h; cases h
  by_cases hw : within w 1 8 = true
  case neg => rw [wants_size hn (Bool.eq_false_iff.mpr hw)] at h; cases h
  obtain ⟨z, rfl, hz⟩ := isName_str hn
  obtain ⟨s, rfl, _, _⟩ := within_int hw
  by_cases hl : (decide (1 ≤ xs.length) && decide (xs.length ≤ 4)) = true
  case neg => rw [wants_slots hn hw (Bool.eq_false_iff.mpr hl)] at h; cases h
  cases ha : fst (aBad s xs) xs.length with
  | some k => rw [wants_addr hn hw hl ha] at h; cases h
  | none =>
    obtain ⟨ns, rfl, _⟩ := ints_of (fst_none_at ha)
    exact ⟨z, s, ns, rfl, hz, rfl, rfl⟩
theorem shaped_tints (ns : List Int) : SeqAt.shaped (.tuple (ns.map PyData.int)) = true := by
  have h := PySem.W.shaped_ints ns
  unfold SeqAt.shaped at h ⊢
  exact h
theorem eqv_self_ints (ns : List Int) : PyData.eqvAll (ns.map PyData.int) (ns.map PyData.int) = true := by
  induction ns with
  | nil => rfl
  | cons a r ih => rw [List.map_cons, PyData.eqvAll, ih, Bool.and_true]; simp [PyData.eqv]
theorem rd_neTI {K : PySem.W.Frag} {H : Hp} {Q : VK} {a b : Addr} {ns : List Int} (ha : SqT K H a (ns.map V.int)) (hb : SqT K H b (ns.map V.int)) (q : Q (.bl false) H) : rNeD K (.ref a) (.ref b) H Q :=
  dp_ne (.tuple (ns.map PyData.int)) (.tuple (ns.map PyData.int)) (.tup ha (dpAll_ints ns)) (.tup hb (dpAll_ints ns)) (shaped_tints ns) (shaped_tints ns) (by rw [PyData.eqv]; exact eqv_self_ints ns) q
theorem rd_neLI {K : PySem.W.Frag} {H : Hp} {Q : VK} {a b : Addr} {ns : List Int} (ha : SqL K H a (ns.map V.int)) (hb : SqL K H b (ns.map V.int)) (q : Q (.bl false) H) : rNeD K (.ref a) (.ref b) H Q :=
  dp_ne (.list (ns.map PyData.int)) (.list (ns.map PyData.int)) (.lst ha (dpAll_ints ns)) (.lst hb (dpAll_ints ns)) (PySem.W.shaped_ints ns) (PySem.W.shaped_ints ns) (by rw [PyData.eqv]; exact eqv_self_ints ns) q
theorem ixN_of {n : Nat} {d : Int} (h0 : 0 ≤ d) (h1 : d < n) : ixN n d = some d.toNat := by
  unfold ixN
  rw [if_pos h0, if_pos h1]
end Lay
namespace Lay
open PySem PySem.Spec PyProof.Rows L2 Exv
theorem for_go {J : It} {n : Nat} {G : Hp → Prop} {Y : Nat → Hp → V → Hp → Prop} (w : Walk J n G Y) {g : TG} {tb : TS} {nx : L2.St → Hp → Prop} {rt : VK} {σ : L2.St} {H1 : Hp} (Pv : Nat → L2.St → Hp → Prop) (h0 : Pv 0 σ H1)
    (hG : ∀ i σ H, i ≤ n → Pv i σ H → G H) (hs : ∀ i x σ H H', i < n → Pv i σ H → Y i H x H' → g x σ H' fun σ2 H2 => tb { nx := Pv (i + 1), rt := rt, bk := nx, ct := Pv (i + 1) } σ2 H2) (hd : ∀ σ H, Pv n σ H → nx σ H) :
    ∃ W : Nat → Nat → L2.St → Hp → Prop, (∃ m, W 0 m σ H1) ∧ ∀ i m σ H, W i m σ H →
    (J.stop i H ∧ nx σ H) ∨ (J.go i H ∧ ∃ N : L2.St → Hp → Prop, (∀ σ' H', N σ' H' → ∃ m', m' < m ∧ W (i + 1) m' σ' H') ∧ ∀ x H', J.yld i H x H' → g x σ H' fun σ2 H2 => tb { nx := N, rt := rt, bk := nx, ct := N } σ2 H2) :=
  for_it (D := { nx := nx, rt := rt, bk := nx, ct := nx }) w Pv h0 hG hs hd
end Lay

end

section
namespace SetL
open PySem PySem.Spec PyProof.Rows L2
section
variable {P : Program} {w : World} {A : Around} {E : Value → Shared → Prop} {s : Shared}
/-- the object of a set that is just made -/
abbrev newO (w : World) : Obj := { cls := .type "set", dict := none, data := .set #[] 0 (.fresh 0 0 (!w.params.followText "set-order")) }
/-- what set.__init__(S, l) leaves, l a list of whole numbers -/
def Filled (w : World) (s : Shared) (ns : List Int) (s2 : Shared) : Prop :=
  ∃ (h' : Heap) (tk c : Nat), s2 = { s with heap := h', toks := tk } ∧ SetR w h' s.heap.objs.size (fun j => decide (j ∈ ns)) c ∧ c ≤ ns.length ∧ ∀ b o, s.heap.get? b = some o → h'.get? b = some o
theorem init_ints {l : Addr} {items : Array Value} (ns : List Int) (hh : A.handled = none) (hl : s.heap.IsList l items) (hit : IntsAre items.toList ns) (hb : ns.length + 1 < scanBound) :
    codeAny (model P w) A (.call (.builtin "set.__init__") ⟨[.ref s.heap.objs.size, .ref l], []⟩) (wants (fun r s2 => r = .none ∧ Filled w s ns s2) E) { s with heap := s.heap.push (newO w) } := by
  have hisz : items.size = ns.length := by
    have q := IntsAre.length hit
    rwa [Array.length_toList] at q
  have hS : (s.heap.push (newO w)).get? s.heap.objs.size = some (newO w) := Heap.get?_push_size _ rfl
  have hT : Shared.TypeIs { s with heap := s.heap.push (newO w) } (.ref s.heap.objs.size) "set" := ⟨_, hS, rfl⟩
  refine codeAny_call_builtin F.called_set.init.plain F.entry_set_init (check_set_init_1 hT ?_)
  obtain ⟨⟨oc, od, odt, os⟩, hol, hcl, nl, hdl⟩ := hl
  simp only at hcl hdl
  subst hcl; subst hdl
  have hol' : (s.heap.push (newO w)).get? l = some { cls := .type "list", dict := od, data := .seq items nl, slots := os } := Heap.get?_push_of_some _ hol
  have f1 := PySem.F.sub_list_set
  have f2 := PySem.F.sub_list_frozenset
  have hne : (Value.type "list" == Value.type "dict") = false := by decide
  have hl1 : (s.heap.push (newO w)).IsList l items := ⟨_, hol', rfl, nl, rfl⟩
  unfold Builtin.«set.__init__» noKeywords Builtin.Frozenset.updateFrom
  generalize hPI : pyIter = PI
  wp_walk
  subst hPI
  refine wpAny_pyIter_list hl1 (wpAny_bind (wpAny_runValue ?_))
  have hlS : l < s.heap.objs.size := Heap.lt_size hol
  have hz : (s.heap.push (newO w)).objs.size = s.heap.objs.size + 1 := Heap.size_push ..
  have hneI : l ≠ (s.heap.push (newO w)).objs.size := by rw [hz]; exact Nat.ne_of_lt (Nat.lt_succ_of_lt hlS)
  have hSf : s.heap.objs.size ∉ [(s.heap.push (newO w)).objs.size, l] := by
    rw [hz]
    intro m
    rcases List.mem_cons.mp m with e | e
    · exact absurd e (Nat.ne_of_lt (Nat.lt_succ_self _))
    · exact absurd (List.mem_singleton.mp e) (Nat.ne_of_gt hlS)
  have hval : ∀ (i : Nat) (v : Value), items[i]? = some v → ∃ k t, ns[i]? = some k ∧ v = .int k t := fun i v hv => by
    have hi : i < ns.length := by rw [← hisz]; exact (Array.getElem?_eq_some_iff.mp hv).1
    obtain ⟨t, e⟩ := PyProof.Rows.IntsAre.int_at hit i v (by rw [Array.getElem?_toList]; exact hv)
    refine ⟨ns[i], t, List.getElem?_eq_getElem hi, ?_⟩
    rw [e, List.getD_eq_getElem?_getD, List.getElem?_eq_getElem hi] <;> rfl
  refine set_update_ints ((Walks.list (by simp [hh]) _ l hneI items).toS) s.heap.objs.size hSf ns hisz hb hval (items.size - 0) 0 _ (by omega) (Nat.zero_le _)
    ⟨⟨_, Heap.get?_push_size _ rfl, rfl, rfl⟩, hl1.push _⟩ ⟨0, Nat.le_refl 0, setR_new_at (Heap.get?_push_of_some _ hS)⟩ fun s' c hm hc hR => ?_
  obtain ⟨h', g', d', tk', os'⟩ := s'
  obtain rfl : g' = s.gens := hm.gens
  obtain rfl : d' = s.drawn := hm.drawn
  obtain rfl : os' = s.os := hm.os
  show wpAny _ _ _ _ _ _
  refine wpAny_pure ?_
  show wpAny _ _ (ret Value.none) _ _ _
  rw [hisz] at hc
  refine wpAny_pure ⟨rfl, h', tk', c, rfl, hR, hc, fun b o e => hm.heap b o (fun m => ?_) (Heap.get?_push_of_some _ (Heap.get?_push_of_some _ e))⟩
  have lt := Heap.lt_size e
  rcases List.mem_cons.mp m with q | q
  · exact absurd q (Nat.ne_of_lt lt)
  · exact absurd (List.mem_singleton.mp q) (by rw [hz]; exact Nat.ne_of_lt (Nat.lt_succ_of_lt lt))
theorem call_set_list {l : Addr} {items : Array Value} (ns : List Int) {Q : Value → Shared → Prop} (hh : A.handled = none) (hl : s.heap.IsList l items) (hit : IntsAre items.toList ns) (hb : ns.length + 1 < scanBound)
    (h : ∀ s2, Filled w s ns s2 → Q (.ref s.heap.objs.size) s2) : wpAny (model P w) A (call (.type "set") [.ref l]) Q E s := by
  obtain ⟨c, tl, hmro⟩ := F.called_set.mro
  have g1 := F.called_set.made
  have g2 := F.called_set.sub
  have g3 := F.called_set.notType
  have g4 := F.called_set.canCreate
  have g5 := F.typeCall_set_1 (.ref l)
  refine wpAny_call (codeAny_of_tree ?_)
  show wpAny _ _ (callAny (.type "set") _) _ _ _
  refine wpAny_pure ⟨Code.quiet_builtin _ (by decide +kernel), codeAny_builtin F.entry_type_call ?_⟩
  rw [Around.under_plain (weight_type_call_type "set" [.ref l] []) rfl]
  repeat (any_goals (first | assumption | wp_step))
  refine codeAny_mono (code_set_led1 (.ref l) (E := E) (Q₁ := fun obj s₁ => obj = .ref s.heap.objs.size ∧ s₁ = { s with heap := s.heap.push (newO w) }) ⟨rfl, rfl⟩) fun r s₁ hr => ?_
  rcases r with e | fl
  · exact hr
  cases fl with
  | ret obj =>
    obtain ⟨rfl, rfl⟩ := hr
    have hT : Shared.TypeIs { s with heap := s.heap.push (newO w) } (.ref s.heap.objs.size) "set" := ⟨_, Heap.get?_push_size _ rfl, rfl⟩
    have k1 := F.called_set.init.lookup
    have k2 := F.called_set.init.bind (.ref s.heap.objs.size)
    repeat (any_goals (first | assumption | wp_step))
    refine codeAny_mono (init_ints (E := E) ns (by simp [hh]) hl hit hb) fun r₂ s₂ hr₂ => ?_
    rcases r₂ with e | fl₂
    · exact hr₂
    cases fl₂ with
    | ret r =>
      obtain ⟨rfl, fl⟩ := hr₂
      repeat (any_goals (first | assumption | wp_step))
      exact h _ fl
    | _ => exact hr₂.elim
  | _ => exact hr.elim
end
end SetL
namespace Lay
open PySem PySem.Spec PyProof.Rows L2
/-- set(l), l a list of whole numbers -/
def rSetOfL (K : PySem.W.Frag) (w : World) : List V → Hp → VK → Prop := fun xs H Q => ∃ (a : Addr) (ns : List Int), xs = [.ref a] ∧ SqL K H a (ns.map V.int) ∧ ns.length ≤ 60 ∧
  ∀ (p : Addr) (n : Nat), H p = none → n ≤ ns.length → Q (.ref p) (upd H p (SetO w p (fun j => decide (j ∈ ns)) n))
theorem call_setL {X : Cx} (hc : X.calm = true) : CallR X (.type "set") (rSetOfL X.K X.w) := by
  intro pins s σ H xs us Q I r h
  obtain ⟨a, ns, rfl, hq, hl, q⟩ := h
  rw [Vals.ref1 r]
  obtain ⟨its, rv, p', hz⟩ := I.list hq
  refine SetL.call_set_list ns (I.ok.hd hc) p'.isList (by rw [List.toList_toArray]; exact ints_of_vals rv) (by unfold scanBound; omega) fun s2 f => ?_
  obtain ⟨h', tk, n, rfl, R, hn, k⟩ := f
  have hN : H s.heap.objs.size = none := I.hok.fresh (Nat.le_refl _)
  exact ⟨.ref _, _, I.laid (t' := tk) k (Nat.le_refl _) (setO_new R), rfl, q _ n hN hn⟩
theorem rd_setOfL {K : PySem.W.Frag} {w : World} {H : Hp} {Q : VK} {a : Addr} {ns : List Int} (h : SqL K H a (ns.map V.int)) (hl : ns.length ≤ 60) (q : ∀ (p : Addr) (n : Nat), H p = none → n ≤ ns.length → Q (.ref p) (upd H p (SetO w p (fun j => decide (j ∈ ns)) n))) : rSetOfL K w [.ref a] H Q := ⟨a, ns, rfl, h, hl, q⟩
end Lay

end

section
namespace Lay
open PySem PySem.Spec PyProof.Rows L2 Exv
/-! ### a list or a tuple, gone through -/
def iSeq (K : PySem.W.Frag) (tl : TE) : TI := fun σ H R => tl σ H fun x H1 => ∃ a, x = .ref a ∧ ((∃ xs, SqL K H1 a xs) ∧ R (Itl K a) H1 ∨ (∃ xs, SqT K H1 a xs) ∧ R (Itt K a) H1)
theorem pi_seq {X : Cx} {tg l : Expr} {tl : TE} (hl : PE X l tl) : PI X tg l (iSeq X.K tl) := by
  refine ⟨fun pins s σ H R I h => ?_⟩
  refine thn (hl.run pins s σ H _ I h) fun v s1 ⟨x, H1, I1, r1, q1⟩ => ?_
  obtain ⟨a, e, q⟩ := q1
  subst e
  have pos {b : Addr} {o : Obj} (hb : b ∈ [s1.heap.objs.size]) : b = s1.heap.objs.size := by simpa using hb
  rcases q with ⟨⟨xs, hq⟩, q⟩ | ⟨⟨xs, hq⟩, q⟩
  · cases r1
    obtain ⟨its, rv, p, hz⟩ := I1.list hq
    refine wpAny_pyIter_list p.isList ⟨s1.heap.objs.size, [s1.heap.objs.size], _, _, H1, rfl, I1.kept (t' := s1.toks) fun b o e => Heap.get?_push_of_some _ e, turn_list a _, ⟨_, Heap.get?_push_size _ rfl, rfl, rfl⟩, fun b hb => ?_, q⟩
    have e : b = s1.heap.objs.size := by simpa using hb
    rw [e]
    exact I1.fpOk (Nat.le_refl _) (I1.hok.fresh (Nat.le_refl _))
  · cases r1
    obtain ⟨its, rv, p, hz⟩ := I1.tuple hq
    refine wpAny_pyIter_tuple (show s1.heap.IsTuple a its.toArray from p) ⟨s1.heap.objs.size, [s1.heap.objs.size], _, _, H1, rfl, I1.kept (t' := s1.toks) fun b o e => Heap.get?_push_of_some _ e, turn_tuple a _, ⟨_, Heap.get?_push_size _ rfl, rfl, rfl⟩, fun b hb => ?_, q⟩
    have e : b = s1.heap.objs.size := by simpa using hb
    rw [e]
    exact I1.fpOk (Nat.le_refl _) (I1.hok.fresh (Nat.le_refl _))
theorem rd_iSeq {K : PySem.W.Frag} {tl : TE} {σ : L2.St} {H : Hp} {R : It → Hp → Prop} (h : tl σ H fun x H1 => ∃ a, x = .ref a ∧ ((∃ xs, SqL K H1 a xs) ∧ R (Itl K a) H1 ∨ (∃ xs, SqT K H1 a xs) ∧ R (Itt K a) H1)) : iSeq K tl σ H R := h
theorem rd_seqV {K : PySem.W.Frag} {tl : TE} {σ : L2.St} {a : Addr} {xs : List V} {H : Hp} {R : It → Hp → Prop} (ht : ∀ Q : VK, Q (.ref a) H → tl σ H Q) (h : H a = some (.lst xs) ∨ H a = some (.tup xs)) (q : ∀ J G, Walk J xs.length G (YAt xs) → (∀ H', Same H H' → G H') → R J H) : iSeq K tl σ H R := by
  refine ht _ ?_
  rcases h with h | h
  · exact ⟨a, rfl, .inl ⟨⟨xs, SqL.of h⟩, q _ _ (walk_list (K := K) (a := a) (xs := xs)) fun H' s => SqL.of (s _ _ h)⟩⟩
  · exact ⟨a, rfl, .inr ⟨⟨xs, SqT.of h⟩, q _ _ (walk_tup (K := K) (a := a) (xs := xs)) fun H' s => SqT.of (s _ _ h)⟩⟩
/-! ### == of variables -/
def VArg (K : PySem.W.Frag) (C : Addr) (z : Str) (s : Int) (ns : List Int) (H : Hp) (v : V) (r : Bool) : Prop :=
  (∃ T, TyX K H v T ∧ PySem.W.kitOne K T (.ref C) = some false ∧ r = false) ∨
  (∃ b z2 s2 ns2, v = .ref b ∧ VarAt C H b (.str z2) (.int s2) (ns2.map V.int) ∧ r = (decide (z = z2) && (decide (s = s2) && decide (ns = ns2))))
def spEqV (K : PySem.W.Frag) (C : Addr) : Sp := fun vs H Q _ => ∃ a v z s ns r, vs = [.ref a, v] ∧ VarAt C H a (.str z) (.int s) (ns.map V.int) ∧ VArg K C z s ns H v r ∧ Q (.bl r) H
theorem rd_eqTI {K : PySem.W.Frag} {H : Hp} {Q : VK} {a b : Addr} {ns ms : List Int} (ha : SqT K H a (ns.map V.int)) (hb : SqT K H b (ms.map V.int)) (q : Q (.bl (decide (ns = ms))) H) : rEqD K (.ref a) (.ref b) H Q :=
  ⟨.tuple (ns.map PyData.int), .tuple (ms.map PyData.int), .tup ha (dpAll_ints ns), .tup hb (dpAll_ints ms), shaped_tints ns, shaped_tints ms, by rw [PyData.eqv, PySem.W.ked_eqvAll]; exact q⟩
theorem rd_eqLI {K : PySem.W.Frag} {H : Hp} {Q : VK} {a b : Addr} {ns ms : List Int} (ha : SqL K H a (ns.map V.int)) (hb : SqL K H b (ms.map V.int)) (q : Q (.bl (decide (ns = ms))) H) : rEqD K (.ref a) (.ref b) H Q :=
  ⟨.list (ns.map PyData.int), .list (ms.map PyData.int), .lst ha (dpAll_ints ns), .lst hb (dpAll_ints ms), PySem.W.shaped_ints ns, PySem.W.shaped_ints ms, by rw [PyData.eqv, PySem.W.ked_eqvAll]; exact q⟩
/-! ### the lines of addresses -/
def spLinesOf (K : PySem.W.Frag) : Sp := fun vs H Q _ => ∃ (a : Addr) (ns : List Int) (m : Int), vs = [.ref a, .int m] ∧ (H a = some (.lst (ns.map V.int)) ∨ H a = some (.tup (ns.map V.int))) ∧ ns.length ≤ 20 ∧ 1 ≤ m ∧ m < 1000 ∧
  ∀ (p : Addr) (ms : List Int) (H' : Hp), Same H H' → H' p = some (.tup (ms.map V.int)) → ms.Pairwise (· < ·) → (∀ k, k ∈ ms ↔ ∃ n ∈ ns, n / m = k) → Q (.ref p) H'
/-! ### numbers for a variable -/
def NumAt (H : Hp) (r : Addr) (z : Str) (s : Int) (t : Addr) (ns : List Int) : Prop := H r = some (.lst [.str z, .int s, .ref t]) ∧ H t = some (.lst (ns.map V.int))
theorem NumAt.mono {H H' : Hp} {r : Addr} {z : Str} {s : Int} {t : Addr} {ns : List Int} (k : Same H H') (h : NumAt H r z s t ns) : NumAt H' r z s t ns := ⟨k _ _ h.1, k _ _ h.2⟩
theorem NumAt.keep {H H' : Hp} {p r : Addr} {z : Str} {s : Int} {t : Addr} {ns : List Int} (k : Keep p H H') (hr : r ≠ p) (ht : t ≠ p) (h : NumAt H r z s t ns) : NumAt H' r z s t ns := ⟨k _ _ hr h.1, k _ _ ht h.2⟩
def numD (z : Str) (s : Int) (ns : List Int) : PyData := .list [.str z, .int s, .list (ns.map PyData.int)]
theorem shaped_num {z : Str} {s : Int} {ns : List Int} (hz : PyData.strOk z = true) : SeqAt.shaped (numD z s ns) = true := by
  have h := PySem.W.shaped_ints ns
  unfold SeqAt.shaped at h ⊢
  obtain ⟨h1, h2⟩ := Bool.and_eq_true_iff.mp h
  simp only [PyData.canLay0] at h1
  have h3 : PyData.depthAll (ns.map PyData.int) = 0 := by
    clear h h1 h2
    induction ns with
    | nil => rfl
    | cons a r ih => rw [List.map_cons, PyData.depthAll, ih, PyData.depth]; rfl
  have e1 : PyData.canLay0 (numD z s ns) = true := by
    unfold numD
    simp only [PyData.canLay0, PyData.canLayAll0, hz, h1, Bool.and_self]
  have e2 : PyData.depth (numD z s ns) ≤ 64 := by
    unfold numD
    simp only [PyData.depth, PyData.depthAll, h3]
    omega
  rw [e1, decide_eq_true e2]
  rfl
theorem eqv_num {z z2 : Str} {s s2 : Int} {ns ns2 : List Int} : PyData.eqv (numD z s ns) (numD z2 s2 ns2) = (decide (z = z2) && (decide (s = s2) && decide (ns = ns2))) := by
  unfold numD
  simp only [PyData.eqv, PyData.eqvAll, PySem.W.ked_eqvAll, Bool.and_true]
  rw [beq_dec, beq_dec]
theorem rd_eqNum {K : PySem.W.Frag} {H : Hp} {Q : VK} {r r2 t t2 : Addr} {z z2 : Str} {s s2 : Int} {ns ns2 : List Int} (h : NumAt H r z s t ns) (h2 : NumAt H r2 z2 s2 t2 ns2) (hz : nameOk z = true) (hz2 : nameOk z2 = true)
    (q : Q (.bl (decide (z = z2) && (decide (s = s2) && decide (ns = ns2)))) H) : rEqD K (.ref r) (.ref r2) H Q :=
  ⟨numD z s ns, numD z2 s2 ns2, .lst (SqL.of h.1) (.cons (.str _) (.cons (.int _) (.cons (.lst (SqL.of h.2) (dpAll_ints ns)) .nil))), .lst (SqL.of h2.1) (.cons (.str _) (.cons (.int _) (.cons (.lst (SqL.of h2.2) (dpAll_ints ns2)) .nil))),
    shaped_num (name_strOk hz), shaped_num (name_strOk hz2), by rw [eqv_num]; exact q⟩
def Apart (ns : List Int) : Prop := ns.Pairwise fun a b => 8 ≤ a - b ∨ 8 ≤ b - a
def Good (ns : List Int) : Prop := 1 ≤ ns.length ∧ ns.length ≤ 4 ∧ (∀ n ∈ ns, 0 ≤ n ∧ n ≤ 1016) ∧ Apart ns
def Tight (ns : List Int) : Prop := 1 ≤ ns.length ∧ ns.length ≤ 4 ∧ (∀ n ∈ ns, 0 ≤ n ∧ n ≤ 180) ∧ Apart ns
theorem Tight.good {ns : List Int} (h : Tight ns) : Good ns := ⟨h.1, h.2.1, fun n m => ⟨(h.2.2.1 n m).1, by have := (h.2.2.1 n m).2; omega⟩, h.2.2.2⟩
theorem Good.rev {ns : List Int} (h : Good ns) : Good ns.reverse :=
  ⟨by rw [List.length_reverse]; exact h.1, by rw [List.length_reverse]; exact h.2.1, fun n m => h.2.2.1 n (List.mem_reverse.mp m), List.pairwise_reverse.mpr (h.2.2.2.imp fun e => e.symm)⟩
theorem Good.tail {ns : List Int} (h : Good ns) (h2 : 1 < ns.length) : Good (ns.drop 1) :=
  ⟨by rw [List.length_drop]; omega, by rw [List.length_drop]; have := h.2.1; omega, fun n m => h.2.2.1 n (List.mem_of_mem_drop m), h.2.2.2.sublist (List.drop_sublist _ _)⟩
/-- one of the numbers moved far away -/
def moved (ns : List Int) (c : Int) (k : Nat) : List Int := ((List.range ns.length).take k).map fun i => ns.getD i 0 + 200 * (if (i : Int) = c then 1 else 0)
theorem moved_len (ns : List Int) (c : Int) {k : Nat} (h : k ≤ ns.length) : (moved ns c k).length = k := by unfold moved; simp [h]
theorem moved_succ (ns : List Int) (c : Int) {k : Nat} (h : k < ns.length) : moved ns c (k + 1) = moved ns c k ++ [ns[k] + 200 * (if (k : Int) = c then 1 else 0)] := by
  unfold moved
  rw [List.take_add_one, List.map_append]
  simp [h, List.getElem?_range]
theorem Tight.moved {ns : List Int} (h : Tight ns) (c : Int) : Good (moved ns c ns.length) := by
  have hl := moved_len ns c (Nat.le_refl _)
  have hg : ∀ (i : Nat) (hi : i < (Lay.moved ns c ns.length).length), (Lay.moved ns c ns.length)[i] = ns[i]'(by omega) + 200 * (if (i : Int) = c then 1 else 0) := by
    intro i hi
    have hi' : i < ns.length := by omega
    unfold Lay.moved
    simp [hi']
  refine ⟨by rw [hl]; exact h.1, by rw [hl]; exact h.2.1, fun n hn => ?_, ?_⟩
  · obtain ⟨i, hi, rfl⟩ := List.getElem_of_mem hn
    rw [hg]
    have := h.2.2.1 _ (List.getElem_mem (show i < ns.length by omega))
    split <;> omega
  · refine List.pairwise_iff_getElem.mpr fun i j hi hj hij => ?_
    rw [hg, hg]
    have hi' : i < ns.length := by omega
    have hj' : j < ns.length := by omega
    have e := List.pairwise_iff_getElem.mp h.2.2.2 i j hi' hj' hij
    have a1 := h.2.2.1 _ (List.getElem_mem hi')
    have a2 := h.2.2.1 _ (List.getElem_mem hj')
    split <;> split <;> omega
theorem Good.wants {z : Str} {s : Int} {ns : List Int} (hz : nameOk z = true) (h1 : 1 ≤ s) (h8 : s ≤ 8) (h : Good ns) : wants (.str z) (.int s) (ns.map V.int) = none := by
  have hw : within (.int s) 1 8 = true := by
    show (decide (1 ≤ s) && decide (s ≤ 8)) = true
    rw [decide_eq_true h1, decide_eq_true h8]; rfl
  refine wants_none hz hw (by rw [List.length_map, decide_eq_true h.1, decide_eq_true h.2.1]; rfl) (fst_none fun j hj => ?_) (fst_none fun j hj => ?_)
  · rw [List.length_map] at hj
    unfold aBad
    rw [List.getElem?_map, List.getElem?_eq_getElem hj]
    have := h.2.2.1 _ (List.getElem_mem hj)
    show (!(decide (0 ≤ ns[j]) && decide (ns[j] ≤ 1024 - s))) = false
    rw [decide_eq_true this.1, decide_eq_true (by omega)]; rfl
  · rw [List.length_map] at hj
    unfold bBad
    rw [List.getElem?_map, List.getElem?_eq_getElem hj]
    show ((ns.map V.int).take j).any (near s (.int ns[j])) = false
    rw [← List.map_take, List.any_map, List.any_eq_false]
    intro x hx
    obtain ⟨i, hi, rfl⟩ := List.getElem_of_mem hx
    rw [List.length_take] at hi
    have e := List.pairwise_iff_getElem.mp h.2.2.2 i j (by omega) hj (by omega)
    rw [List.getElem_take]
    show ¬ decide ((if ns[j] - ns[i] < 0 then -(ns[j] - ns[i]) else ns[j] - ns[i]) < s) = true
    rw [decide_eq_true_iff]
    split <;> omega
theorem nameOk_q {z : Str} (h : nameOk z = true) (hl : z.length ≤ 7) : nameOk (z ++ ("q" : Str)) = true := by
  unfold nameOk at h ⊢
  obtain ⟨h1, h2⟩ := Bool.and_eq_true_iff.mp h
  have e : (z ++ ("q" : Str)).cps = z.cps ++ #[113] := rfl
  have e2 : (z ++ ("q" : Str)).length = z.length + 1 := by
    show (z ++ ("q" : Str)).cps.size = _
    rw [e, Array.size_append]; rfl
  rw [e2, e, Array.toList_append, List.all_append, h2, decide_eq_true (by omega), decide_eq_true (by omega)]
  rfl
def spNumbers : Sp := fun vs H Q _ => ∃ (p : Addr) (n : Nat) (c : Addr), vs = [.ref p] ∧ PenAt c H p n ∧ n + 20 < 100000 ∧
  ∀ (r t : Addr) (z : Str) (s : Int) (ns : List Int) (H' : Hp), NumAt H' r z s t ns → r ≠ p → t ≠ p → nameOk z = true → z.length ≤ 7 → 1 ≤ s → s ≤ 8 → Tight ns → PenAt c H' p (n + 12) → Keep p H H' → Q (.ref r) H'
def spOtherV : Sp := fun vs H Q _ => ∃ (p : Addr) (n : Nat) (c : Addr) (ch : Int) (r t : Addr) (z : Str) (s : Int) (ns : List Int), vs = [.ref p, .int ch, .ref r] ∧ PenAt c H p n ∧ n + 20 < 100000 ∧ NumAt H r z s t ns ∧ r ≠ p ∧ t ≠ p ∧ nameOk z = true ∧ z.length ≤ 7 ∧ 1 ≤ s ∧ s ≤ 8 ∧ Tight ns ∧
  ∀ (r2 t2 : Addr) (z2 : Str) (s2 : Int) (ns2 : List Int) (H' : Hp), NumAt H' r2 z2 s2 t2 ns2 → r2 ≠ p → t2 ≠ p → nameOk z2 = true → 1 ≤ s2 → s2 ≤ 8 → Good ns2 → PenAt c H' p (n + 1) → Keep p H H' → Q (.ref r2) H'
end Lay

end

section
namespace Lay
open PySem PySem.Spec PyProof.Rows L2 Exv
def Bnd (ns : List Int) : Prop := ∀ (j : Nat) (v : Int), ns[j]? = some v → 40 * (j : Int) ≤ v ∧ v ≤ 44 * (j : Int) + 19
theorem Bnd.nil : Bnd [] := fun j v h => by cases h
theorem Bnd.app {ns : List Int} {v : Int} {i : Nat} (h : Bnd ns) (hl : ns.length = i) (h1 : 40 * (i : Int) ≤ v) (h2 : v ≤ 44 * (i : Int) + 19) : Bnd (ns ++ [v]) := by
  intro j u e
  by_cases hj : j < ns.length
  · rw [List.getElem?_append_left hj] at e
    exact h j u e
  · rw [List.getElem?_append_right (by omega)] at e
    have : j - ns.length = 0 := by
      by_cases z : j - ns.length = 0
      · exact z
      · rw [List.getElem?_eq_none (by simp; omega)] at e; cases e
    rw [this] at e
    cases e
    have : j = i := by omega
    subst this
    exact ⟨h1, h2⟩
theorem Bnd.tight {ns : List Int} (h : Bnd ns) (h1 : 1 ≤ ns.length) (h4 : ns.length ≤ 4) : Tight ns := by
  refine ⟨h1, h4, fun n m => ?_, List.pairwise_iff_getElem.mpr fun i j hi hj hij => ?_⟩
  · obtain ⟨i, hi, rfl⟩ := List.getElem_of_mem m
    have := h i _ (List.getElem?_eq_getElem hi)
    omega
  · have a := h i _ (List.getElem?_eq_getElem hi)
    have b := h j _ (List.getElem?_eq_getElem hj)
    omega
theorem spot_ok {i : Nat} {d e : Int} (hi : i < 4) (d0 : 0 ≤ d) (d1 : d < 5) (e0 : 0 ≤ e) (e1 : e < 20) : 40 * (i : Int) ≤ (40 + d) * (0 + (i : Int)) + e ∧ (40 + d) * (0 + (i : Int)) + e ≤ 44 * (i : Int) + 19 := by
  obtain rfl | rfl | rfl | rfl : i = 0 ∨ i = 1 ∨ i = 2 ∨ i = 3 := by omega
  all_goals omega
end Lay
namespace Lay
open PySem PySem.Spec PyProof.Rows L2 Exv
theorem cut_drop1 {xs : List V} (h : 1 ≤ xs.length) : cutV xs (some 1) none = xs.drop 1 := by
  have e : HT.sIx xs.length 0 (some (1 : Int)) = 1 := by
    unfold HT.sIx
    dsimp only
    split <;> omega
  have e2 : HT.sIx xs.length xs.length none = xs.length := rfl
  unfold cutV
  rw [e, e2]
  exact List.take_of_length_le (by rw [List.length_drop]; exact Nat.le_refl _)
theorem rd_slD {K : PySem.W.Frag} {a : Addr} {xs : List V} {H : Hp} {Q : VK} (h : SqL K H a xs) (hk : 1 ≤ xs.length) (q : ∀ p, H p = none → Q (.ref p) (upd H p (.lst (xs.drop 1)))) : rSlL K (.ref a) (some 1) none H Q :=
  ⟨a, xs, rfl, h, fun p hp => by rw [cut_drop1 hk]; exact q p hp⟩
end Lay
namespace Lay
open PySem PySem.Spec PyProof.Rows L2 Exv
theorem asc_eq : ∀ {xs ys : List Int}, xs.Pairwise (· < ·) → ys.Pairwise (· < ·) → (∀ k, k ∈ xs ↔ k ∈ ys) → xs = ys
  | [], [], _, _, _ => rfl
  | [], b :: _, _, _, h => absurd ((h b).mpr (List.mem_cons_self ..)) (List.not_mem_nil)
  | a :: _, [], _, _, h => absurd ((h a).mp (List.mem_cons_self ..)) (List.not_mem_nil)
  | a :: r, b :: t, hx, hy, h => by
    obtain ⟨a1, a2⟩ := List.pairwise_cons.mp hx
    obtain ⟨b1, b2⟩ := List.pairwise_cons.mp hy
    have e : a = b := by
      rcases List.mem_cons.mp ((h a).mp (List.mem_cons_self ..)) with e | e
      · exact e
      · rcases List.mem_cons.mp ((h b).mpr (List.mem_cons_self ..)) with e2 | e2
        · exact e2.symm
        · have x1 := b1 a e
          have x2 := a1 b e2
          omega
    subst e
    rw [asc_eq a2 b2 fun k => ⟨fun m => ?_, fun m => ?_⟩]
    · rcases List.mem_cons.mp ((h k).mp (List.mem_cons_of_mem _ m)) with e | e
      · subst e; exact absurd (a1 _ m) (Int.lt_irrefl _)
      · exact e
    · rcases List.mem_cons.mp ((h k).mpr (List.mem_cons_of_mem _ m)) with e | e
      · subst e; exact absurd (b1 _ m) (Int.lt_irrefl _)
      · exact e
theorem on_line {k w n : Int} (hw : 0 < w) : (decide (k * w ≤ n) && decide (n < k * w + w)) = decide (n / w = k) := by
  have h1 := Int.le_ediv_iff_mul_le (a := k) (b := n) hw
  have h2 := Int.ediv_lt_iff_lt_mul (a := n) (b := k + 1) hw
  have h3 : (k + 1) * w = k * w + w := by rw [Int.add_mul, Int.one_mul]
  rw [h3] at h2
  rw [Bool.eq_iff_iff, Bool.and_eq_true, decide_eq_true_iff, decide_eq_true_iff, decide_eq_true_iff, ← h1, ← h2]
  omega
theorem line_in {n w : Int} (h : w = 1 ∨ w = 2 ∨ w = 4 ∨ w = 8 ∨ w = 16) (h0 : 0 ≤ n) (h1 : n < 1024) : 0 ≤ n / w ∧ n / w < 1024 / w := by
  rcases h with rfl | rfl | rfl | rfl | rfl <;> omega
def Spots (ns : List Int) : Prop := ns.length ≤ 9 ∧ ∀ n ∈ ns, 0 ≤ n ∧ n < 1024
theorem Spots.nil : Spots [] := ⟨by decide, fun n m => nomatch m⟩
theorem Spots.app {ns : List Int} {v : Int} {i : Nat} (h : Spots ns) (hl : ns.length = i) (hi : i < 9) (h0 : 0 ≤ v) (h1 : v < 1024) : Spots (ns ++ [v]) :=
  ⟨by rw [List.length_append, hl]; exact hi, fun n m => by
    rcases List.mem_append.mp m with e | e
    · exact h.2 n e
    · rw [List.mem_singleton.mp e]; exact ⟨h0, h1⟩⟩
theorem Spots.put {ns : List Int} {v : Int} {i : Nat} (h : Spots ns) (h0 : 0 ≤ v) (h1 : v < 1024) : Spots (ns.set i v) :=
  ⟨by rw [List.length_set]; exact h.1, fun n m => by
    rcases List.mem_or_eq_of_mem_set m with e | e
    · exact h.2 n e
    · rw [e]; exact ⟨h0, h1⟩⟩
/-- the numbers of the lines gone through so far that have one of these addresses -/
def Lines (ns : List Int) (w : Int) (i : Nat) (ws : List Int) : Prop := ws.length ≤ i ∧ ws.Pairwise (· < ·) ∧ ∀ k : Int, k ∈ ws ↔ (0 ≤ k ∧ k < (i : Int) ∧ ∃ n ∈ ns, n / w = k)
theorem Lines.nil {ns : List Int} {w : Int} : Lines ns w 0 [] := ⟨Nat.le_refl _, .nil, fun k => ⟨fun h => (nomatch h), fun h => by have := h.1; have := h.2.1; omega⟩⟩
theorem Lines.yes {ns ws : List Int} {w : Int} {i : Nat} (h : Lines ns w i ws) (e : ∃ n ∈ ns, n / w = (i : Int)) : Lines ns w (i + 1) (ws ++ [(i : Int)]) := by
  refine ⟨by rw [List.length_append]; exact Nat.succ_le_succ h.1, List.pairwise_append.mpr ⟨h.2.1, List.pairwise_singleton .., fun a ha b hb => ?_⟩, fun k => ?_⟩
  · rw [List.mem_singleton.mp hb]
    exact ((h.2.2 a).mp ha).2.1
  · rw [List.mem_append, List.mem_singleton, h.2.2 k]
    constructor
    · rintro (⟨a, b, c⟩ | rfl)
      · exact ⟨a, by omega, c⟩
      · exact ⟨by omega, by omega, e⟩
    · rintro ⟨a, b, c⟩
      by_cases z : k = (i : Int)
      · exact .inr z
      · exact .inl ⟨a, by omega, c⟩
theorem Lines.no {ns ws : List Int} {w : Int} {i : Nat} (h : Lines ns w i ws) (e : ¬ ∃ n ∈ ns, n / w = (i : Int)) : Lines ns w (i + 1) ws := by
  refine ⟨Nat.le_succ_of_le h.1, h.2.1, fun k => ?_⟩
  rw [h.2.2 k]
  constructor
  · rintro ⟨a, b, c⟩
    exact ⟨a, by omega, c⟩
  · rintro ⟨a, b, c⟩
    by_cases z : k = (i : Int)
    · subst z; exact absurd c e
    · exact ⟨a, by omega, c⟩
theorem Lines.all {ns ws ms : List Int} {w : Int} (hw : w = 1 ∨ w = 2 ∨ w = 4 ∨ w = 8 ∨ w = 16) (hs : Spots ns) (h : Lines ns w (1024 / w).toNat ws) (pw : ms.Pairwise (· < ·)) (mem : ∀ k, k ∈ ms ↔ ∃ n ∈ ns, n / w = k) : ms = ws := by
  refine asc_eq pw h.2.1 fun k => ?_
  rw [mem, h.2.2]
  constructor
  · rintro ⟨n, hn, rfl⟩
    have b := hs.2 n hn
    have l := line_in hw b.1 b.2
    exact ⟨l.1, by omega, n, hn, rfl⟩
  · exact fun x => x.2.2
end Lay

end

section
namespace Lay
open PySem PySem.Spec PyProof.Rows L2 Exv
/-! ### agents of any steps -/
theorem Kd.updL {H : Hp} {D : Addr} {l l' : List V} {v : V} {t : Kn} (hD : H D = some (.lst l)) (k : Kd H v t) : Kd (upd H D (.lst l')) v t := by
  cases k with
  | non => exact .non
  | bl b => exact .bl b
  | int i => exact .int i
  | str z => exact .str z
  | @lst a xs h =>
    by_cases e : a = D
    · subst e; exact .lst upd_same
    · exact .lst (by rw [upd_ne e]; exact h)
  | @tup a xs h => exact .tup (by rw [upd_ne (fun e => by subst e; rw [hD] at h; cases h)]; exact h)
  | @dK a xs h => exact .dK (by rw [upd_ne (fun e => by subst e; rw [hD] at h; cases h)]; exact h)
/-- a value that may be a step: its parts, if it is a tuple -/
def SV (H : Hp) (v : V) (o : Option (List V)) : Prop := Kz H v ∧ match o with
  | some xs => (∃ p, v = .ref p ∧ H p = some (.tup xs)) ∧ ∀ x ∈ xs, Kz H x
  | none => ∃ t, Kd H v t ∧ isTy t .tuple = false
theorem SV.mono {H H' : Hp} {v : V} {o : Option (List V)} (s : Same H H') (h : SV H v o) : SV H' v o := by
  cases o with
  | none =>
    obtain ⟨h1, t, h2, h3⟩ := h
    exact ⟨h1.mono s, t, h2.mono s, h3⟩
  | some xs =>
    obtain ⟨h1, ⟨p, e, h2⟩, h3⟩ := h
    exact ⟨h1.mono s, ⟨p, e, s _ _ h2⟩, fun x m => (h3 x m).mono s⟩
theorem SV.tup {H : Hp} {p : Addr} {xs : List V} (h : H p = some (.tup xs)) (k : ∀ x ∈ xs, Kz H x) : SV H (.ref p) (some xs) := ⟨.tup h, ⟨p, rfl, h⟩, k⟩
def SVs (H : Hp) (xs : List V) (os : List (Option (List V))) : Prop := xs.length = os.length ∧ ∀ (i : Nat) (v : V), xs[i]? = some v → ∃ o, os[i]? = some o ∧ SV H v o
theorem SVs.mono {H H' : Hp} {xs : List V} {os : List (Option (List V))} (s : Same H H') (h : SVs H xs os) : SVs H' xs os := ⟨h.1, fun i v e => by
  obtain ⟨o, e1, e2⟩ := h.2 i v e
  exact ⟨o, e1, e2.mono s⟩⟩
/-- the same, with nothing at p -/
def SVp (p : Addr) (H : Hp) (v : V) (o : Option (List V)) : Prop := SV H v o ∧ v ≠ .ref p ∧ ∀ xs, o = some xs → ∀ x ∈ xs, x ≠ .ref p
theorem SVp.keep {p : Addr} {H H' : Hp} {v : V} {o : Option (List V)} (s : Keep p H H') (h : SVp p H v o) : SVp p H' v o := by
  obtain ⟨h1, h2, h3⟩ := h
  refine ⟨?_, h2, h3⟩
  cases o with
  | none =>
    obtain ⟨k1, t, k2, k3⟩ := h1
    exact ⟨(Kp.keep s ⟨k1, h2⟩).1, t, k2.same fun b u e hb => s b u (fun z => h2 (by rw [e, z])) hb, k3⟩
  | some xs =>
    obtain ⟨k1, ⟨q, e, k2⟩, k3⟩ := h1
    refine ⟨(Kp.keep s ⟨k1, h2⟩).1, ⟨q, e, s _ _ (fun z => h2 (by rw [e, z])) k2⟩, fun x m => (Kp.keep s ⟨k3 x m, h3 xs rfl x m⟩).1⟩
theorem SVp.mono {p : Addr} {H H' : Hp} {v : V} {o : Option (List V)} (s : Same H H') (h : SVp p H v o) : SVp p H' v o := ⟨h.1.mono s, h.2⟩
theorem SV.updL {H : Hp} {D : Addr} {l l' : List V} {v : V} {o : Option (List V)} (hD : H D = some (.lst l)) (h : SV H v o) : SV (upd H D (.lst l')) v o := by
  cases o with
  | none =>
    obtain ⟨h1, t, h2, h3⟩ := h
    exact ⟨h1.updL hD, t, h2.updL hD, h3⟩
  | some xs =>
    obtain ⟨h1, ⟨p, e, h2⟩, h3⟩ := h
    exact ⟨h1.updL hD, ⟨p, e, by rw [upd_ne (fun z => by subst z; rw [hD] at h2; cases h2)]; exact h2⟩, fun x m => (h3 x m).updL hD⟩
theorem SVp.updL {p : Addr} {H : Hp} {D : Addr} {l l' : List V} {v : V} {o : Option (List V)} (hD : H D = some (.lst l)) (h : SVp p H v o) : SVp p (upd H D (.lst l')) v o := ⟨h.1.updL hD, h.2⟩
def SVsp (p : Addr) (H : Hp) (xs : List V) (os : List (Option (List V))) : Prop := xs.length = os.length ∧ ∀ (i : Nat) (v : V), xs[i]? = some v → ∃ o, os[i]? = some o ∧ SVp p H v o
theorem SVsp.mono {p : Addr} {H H' : Hp} {xs : List V} {os : List (Option (List V))} (s : Same H H') (h : SVsp p H xs os) : SVsp p H' xs os := ⟨h.1, fun i v e => by
  obtain ⟨o, e1, e2⟩ := h.2 i v e
  exact ⟨o, e1, e2.mono s⟩⟩
theorem SVsp.keep {p : Addr} {H H' : Hp} {xs : List V} {os : List (Option (List V))} (s : Keep p H H') (h : SVsp p H xs os) : SVsp p H' xs os := ⟨h.1, fun i v e => by
  obtain ⟨o, e1, e2⟩ := h.2 i v e
  exact ⟨o, e1, e2.keep s⟩⟩
theorem SVsp.updL {p : Addr} {H : Hp} {D : Addr} {l l' : List V} {xs : List V} {os : List (Option (List V))} (hD : H D = some (.lst l)) (h : SVsp p H xs os) : SVsp p (upd H D (.lst l')) xs os := ⟨h.1, fun i v e => by
  obtain ⟨o, e1, e2⟩ := h.2 i v e
  exact ⟨o, e1, e2.updL hD⟩⟩
theorem SVsp.s {p : Addr} {H : Hp} {xs : List V} {os : List (Option (List V))} (h : SVsp p H xs os) : SVs H xs os := ⟨h.1, fun i v e => by
  obtain ⟨o, e1, e2⟩ := h.2 i v e
  exact ⟨o, e1, e2.1⟩⟩
theorem SVsp.nil {p : Addr} {H : Hp} : SVsp p H [] [] := ⟨rfl, fun i v e => by simp at e⟩
theorem SVsp.app {p : Addr} {H : Hp} {xs : List V} {os : List (Option (List V))} {v : V} {o : Option (List V)} (h : SVsp p H xs os) (k : SVp p H v o) : SVsp p H (xs ++ [v]) (os ++ [o]) := by
  refine ⟨by simp [h.1], fun i w e => ?_⟩
  by_cases hi : i < xs.length
  · rw [List.getElem?_append_left hi] at e
    obtain ⟨o', e1, e2⟩ := h.2 i w e
    exact ⟨o', by rw [List.getElem?_append_left (by rw [← h.1]; exact hi)]; exact e1, e2⟩
  · rw [List.getElem?_append_right (by omega)] at e
    have : i - xs.length = 0 := by
      cases hj : i - xs.length with
      | zero => rfl
      | succ j => rw [hj] at e; simp at e
    rw [this] at e
    obtain rfl : v = w := by simpa using e
    exact ⟨o, by rw [List.getElem?_append_right (by rw [← h.1]; omega), ← h.1, this]; rfl, k⟩
theorem SVsp.set {p : Addr} {H : Hp} {xs : List V} {os : List (Option (List V))} {v : V} {o : Option (List V)} (h : SVsp p H xs os) (k : SVp p H v o) (n : Nat) : SVsp p H (xs.set n v) (os.set n o) := by
  refine ⟨by simp [h.1], fun i w e => ?_⟩
  rw [List.getElem?_set] at e ⊢
  by_cases hi : n = i
  · rw [if_pos hi] at e ⊢
    by_cases hl : i < xs.length
    · have e1 : n < xs.length := by omega
      rw [if_pos e1] at e
      have e2 : n < os.length := by rw [← h.1]; exact e1
      rw [if_pos e2]
      cases e
      exact ⟨o, rfl, k⟩
    · have e1 : ¬ n < xs.length := by omega
      rw [if_neg e1] at e; cases e
  · rw [if_neg hi] at e ⊢
    exact h.2 i w e
theorem SVsp.rep {p : Addr} {H : Hp} {v : V} {o : Option (List V)} (k : SVp p H v o) (n : Nat) : SVsp p H (List.replicate n v) (List.replicate n o) := by
  refine ⟨by simp, fun i w e => ?_⟩
  rw [List.getElem?_replicate] at e ⊢
  by_cases hi : i < n
  · rw [if_pos hi] at e ⊢
    cases e
    exact ⟨o, rfl, k⟩
  · rw [if_neg hi] at e; cases e
/-! ### what the check of an agent says -/
def lastOk (f l : V) : Bool := match l with
  | .int k => within f 0 k
  | _ => false
def memOk (w n s f l : V) : Bool := inStrs w memWords && (isName n && (within s 0 3 && (within l 0 7 && lastOk f l)))
def stepOk : Option (List V) → Bool
  | some [w, n] => inStrs w sigWords && isName n
  | some [w, n, s, f, l] => memOk w n s f l
  | _ => false
def headIn (ws : List Str) : Option (List V) → Bool
  | some (w :: _) => inStrs w ws
  | _ => false
def sBad (ws : List Str) (os : List (Option (List V))) (k : Nat) : Bool := match os[k]? with
  | some o => !(stepOk o && headIn ws o)
  | none => false
def refuses (ws : List Str) (nm : V) (os : List (Option (List V))) : Option (Str × V) :=
  if isName nm = false then er "name" .non else
  if (decide (1 ≤ os.length) && decide (os.length ≤ 24)) = false then er "steps" .non else
  match fst (sBad ws os) os.length with
  | some k => er "step" (.int k)
  | none => none
theorem refuses_name {ws : List Str} {nm : V} {os : List (Option (List V))} (h : isName nm = false) : refuses ws nm os = er "name" .non := by unfold refuses; rw [h]; rfl
theorem refuses_steps {ws : List Str} {nm : V} {os : List (Option (List V))} (h : isName nm = true) (hl : (decide (1 ≤ os.length) && decide (os.length ≤ 24)) = false) : refuses ws nm os = er "steps" .non := by
  unfold refuses
  rw [h, if_neg (by decide), hl, if_pos rfl]
theorem refuses_step {ws : List Str} {nm : V} {os : List (Option (List V))} {k : Nat} (h : isName nm = true) (hl : (decide (1 ≤ os.length) && decide (os.length ≤ 24)) = true) (hk : fst (sBad ws os) os.length = some k) : refuses ws nm os = er "step" (.int k) := by
  unfold refuses
  rw [h, if_neg (by decide), hl, if_neg (by decide), hk]
theorem refuses_none {ws : List Str} {nm : V} {os : List (Option (List V))} (h : isName nm = true) (hl : (decide (1 ≤ os.length) && decide (os.length ≤ 24)) = true) (hk : fst (sBad ws os) os.length = none) : refuses ws nm os = none := by
  unfold refuses
  rw [h, if_neg (by decide), hl, if_neg (by decide), hk]
theorem mem_words (w : V) : inStrs w memWords = (inStrs w ["read", "write", "get", "put"] || inStrs w ["clean", "drop", "flush"]) := by
  cases w with
  | str z =>
    show memWords.contains z = (List.contains _ z || List.contains _ z)
    rw [Bool.eq_iff_iff, Bool.or_eq_true, List.contains_iff_mem, List.contains_iff_mem, List.contains_iff_mem]
    unfold memWords
    simp only [List.mem_cons, List.not_mem_nil, or_false]
    constructor
    · rintro (h | h | h | h | h | h | h) <;> simp [h]
    · rintro ((h | h | h | h) | (h | h | h)) <;> simp [h]
  | _ => rfl
def spMemX : Sp := fun vs H Q _ => ∃ p w n s f e, vs = [.ref p] ∧ H p = some (.tup [w, n, s, f, e]) ∧ Kz H w ∧ Kz H n ∧ Kz H s ∧ Kz H f ∧ Kz H e ∧ ∀ H', Same H H' → Q (.bl (memOk w n s f e)) H'
def spStepX : Sp := fun vs H Q _ => ∃ v o, vs = [v] ∧ SV H v o ∧ ∀ H', Same H H' → Q (.bl (stepOk o)) H'
def spChkAgX (K : PySem.W.Frag) (N : Addr) : Sp := fun vs H Q E => ∃ nm t wt ws xs os, vs = [nm, .ref t, .ref wt] ∧ Kz H nm ∧ H t = some (.tup xs) ∧ SVs H xs os ∧ SqT K H wt (ws.map V.str) ∧
  (∀ r p, refuses ws nm os = some (r, p) → ErrW N E H [("place", p), ("reason", .str r)]) ∧ (refuses ws nm os = none → ∀ H', Same H H' → Q .non H')
def agX (v : V) (t : Addr) : List (Str × V) := [("name", v), ("steps", .ref t)]
theorem putF_agX (v : V) (t : Addr) : putF "steps" (.ref t) (putF "name" v []) = agX v t := by
  have h1 : ¬ (("name" : Str) = "steps") := by decide +kernel
  show (if ("name" : Str) = "steps" then _ else (("name" : Str), v) :: putF "steps" (.ref t) []) = _
  rw [if_neg h1]
  rfl
def AgX (C : Addr) (H : Hp) (x : Addr) (v : V) (xs : List V) : Prop := ∃ dx t, H x = some (.ins C dx (agX v t)) ∧ H t = some (.tup xs)
theorem AgX.mono {C : Addr} {H H' : Hp} {x : Addr} {v : V} {xs : List V} (s : Same H H') (h : AgX C H x v xs) : AgX C H' x v xs := by
  obtain ⟨dx, t, e1, e2⟩ := h
  exact ⟨dx, t, s _ _ e1, s _ _ e2⟩
def spAgInitX (C N : Addr) (ws : List Str) : Sp := fun vs H Q E => ∃ x dx v t xs os, vs = [.ref x, v, .ref t] ∧ H x = some (.ins C dx []) ∧ Kz H v ∧ H t = some (.tup xs) ∧ SVs H xs os ∧
  (∀ r p, refuses ws v os = some (r, p) → ErrW N E H [("place", p), ("reason", .str r)]) ∧ (refuses ws v os = none → ∀ H', AgX C H' x v xs → Keep x H H' → Q .non H')
/-- an agent is asked for: what comes of it -/
def AskA (C N : Addr) (ws : List Str) (v : V) (xs : List V) (os : List (Option (List V))) (H : Hp) (Q : VK) (E : XK) : Prop :=
  (∀ r p, refuses ws v os = some (r, p) → ErrW N E H [("place", p), ("reason", .str r)]) ∧ (refuses ws v os = none → ∀ x H', Same H H' → AgX C H' x v xs → Q (.ref x) H')
theorem AskA.mono {C N : Addr} {ws : List Str} {v : V} {xs : List V} {os : List (Option (List V))} {H H1 : Hp} {Q : VK} {E : XK} (s : Same H H1) (a : AskA C N ws v xs os H Q E) : AskA C N ws v xs os H1 Q E :=
  ⟨fun r p e d H' hd s' z => a.1 r p e d H' (none_of s hd) (s.trans s') z, fun e x H' s' z => a.2 e x H' (s.trans s') z⟩
theorem mk_agX {C N : Addr} {ws : List Str} {H : Hp} {v : V} {xs : List V} {os : List (Option (List V))} {Q : Addr → Hp → Prop} {Q' : VK} {E : XK} (hQ : ∀ x H, Q' (.ref x) H → Q x H) (hv : Kz H v) (hx : SVs H xs os) (hl : xs.length ≤ 1000) (a : AskA C N ws v xs os H Q' E) :
    ∀ x dx, H x = none → H dx = none → dx ≠ x → spStar 2 (spAgInitX C N ws) (.ref x :: v :: xs) (upd (upd H dx (.own x)) x (.ins C dx [])) (fun v H2 => v = .non ∧ Q x H2) E := by
  intro x dx hx' hdx hne
  have s0 : Same H (upd (upd H dx (.own x)) x (.ins C dx [])) := Lay.Same.upd' (Lay.Same.upd hdx) (by rw [upd_ne hne.symm]; exact hx')
  refine ⟨[.ref x, v], xs, rfl, rfl, Nat.le_trans hl (by decide), fun t ht => ?_⟩
  have s1 := s0.trans (Lay.Same.upd (o := .tup xs) ht)
  refine ⟨x, dx, v, t, xs, os, rfl, upd_old ht upd_same, hv.mono s1, upd_same, hx.mono s1, fun r p e d H' hd s z => a.1 r p e d H' (none_of s1 hd) (s1.trans s) z, fun e H' va k => ⟨rfl, hQ _ _ (a.2 e x H' (fun b o hb => ?_) va)⟩⟩
  have hbx : b ≠ x := fun z => by subst z; rw [hx'] at hb; cases hb
  exact k b o hbx (s1 b o hb)
def spAgMadeX (K : PySem.W.Frag) (C N : Addr) (ws : List Str) : Sp := fun vs H Q E => ∃ v a xs os, vs = [.ref C, v, .ref a] ∧ Kz H v ∧ (SqT K H a xs ∨ SqL K H a xs) ∧ SVs H xs os ∧ xs.length ≤ 1000 ∧ AskA C N ws v xs os H Q E
def spAgWithX (C N : Addr) (ws : List Str) : Sp := fun vs H Q E => ∃ a v t xs0 xs os, vs = [.ref a, .ref t] ∧ AgX C H a v xs0 ∧ Kz H v ∧ H t = some (.tup xs) ∧ SVs H xs os ∧ xs.length ≤ 1000 ∧ AskA C N ws v xs os H Q E
end Lay

end

section
namespace Lay
open PySem PySem.Spec PyProof.Rows L2 Exv
/-! ### tuples put together and cut -/
theorem cut_all {xs : List V} {lo hi : Option Int} (h : HT.sIx xs.length 0 lo = 0 ∧ HT.sIx xs.length xs.length hi = xs.length) : cutV xs lo hi = xs := by
  unfold cutV
  rw [h.1, h.2]
  show List.take (xs.length - 0) (List.drop 0 xs) = xs
  simp
theorem cut_drop {xs : List V} {k : Nat} (h : k ≤ xs.length) : cutV xs (some (k : Int)) none = xs.drop k := by
  have e : HT.sIx xs.length 0 (some (k : Int)) = k := by
    unfold HT.sIx
    dsimp only
    split <;> omega
  unfold cutV
  rw [e]
  show List.take (xs.length - k) (List.drop k xs) = xs.drop k
  rw [List.take_of_length_le (by simp)]
theorem rd_catT {K : PySem.W.Frag} {a b : Addr} {xs ys : List V} {H : Hp} {Q : VK} (ha : H a = some (.tup xs)) (hb : H b = some (.tup ys)) (hl : xs.length + ys.length ≤ 1000)
    (q : ∀ p H', Same H H' → H' p = some (.tup (xs ++ ys)) → (p = a ∨ p = b ∨ H p = none) → Q (.ref p) H') : rCatA K (.ref a) (.ref b) H Q := by
  refine ⟨a, b, xs, ys, rfl, rfl, SqT.of ha, SqT.of hb, Nat.le_trans hl (by decide), fun e => ?_, fun _ e => ?_, fun _ _ p hp => q p _ (Same.upd hp) upd_same (.inr (.inr hp))⟩
  · subst e; exact q b H (L2.Same.refl H) hb (.inr (.inl rfl))
  · subst e; exact q a H (L2.Same.refl H) (by rw [List.append_nil]; exact ha) (.inl rfl)
theorem rd_slT {K : PySem.W.Frag} {a : Addr} {xs ys : List V} {lo hi : Option Int} {H : Hp} {Q : VK} (ha : H a = some (.tup xs)) (e : cutV xs lo hi = ys)
    (q : ∀ p H', Same H H' → H' p = some (.tup ys) → (p = a ∨ H p = none) → Q (.ref p) H') : rSlA K (.ref a) lo hi H Q := by
  refine ⟨a, xs, rfl, SqT.of ha, fun w => ?_, fun _ p hp => ?_⟩
  · rw [cut_all w] at e
    subst e
    exact q a H (L2.Same.refl H) ha (.inl rfl)
  · rw [e]
    exact q p _ (Same.upd hp) upd_same (.inr hp)
theorem rd_notInI {K : PySem.W.Frag} {H : Hp} {Q : VK} {d : Int} {t : Addr} {ns : List Int} (ht : SqT K H t (ns.map V.int)) (q : Q (.bl (!decide (d ∈ ns))) H) : rIn K true (.int d) (.ref t) H Q := by
  refine ⟨t, _, rfl, .inr ht, rfl, by rw [List.all_map]; simp [flatV], ?_⟩
  have e : inV (.int d) (ns.map V.int) = decide (d ∈ ns) := by
    unfold inV
    rw [List.any_map, Bool.eq_iff_iff, List.any_eq_true, decide_eq_true_iff]
    constructor
    · rintro ⟨x, m, h⟩
      have h : (x == d) = true := h
      rw [← beq_iff_eq.mp h]; exact m
    · intro m
      exact ⟨d, m, show (d == d) = true from beq_self_eq_true d⟩
  show Q (.bl (!inV (.int d) (ns.map V.int))) H
  rw [e]
  exact q
theorem SVp.tup {p q : Addr} {H : Hp} {xs : List V} (h : H q = some (.tup xs)) (n : q ≠ p) (k : ∀ x ∈ xs, Kp p H x) : SVp p H (.ref q) (some xs) :=
  ⟨.tup h fun x m => (k x m).1, fun z => n (V.ref.inj z), fun ys e x m => by cases e; exact (k x m).2⟩
theorem SVp.no {p : Addr} {H : Hp} {v : V} {t : Kn} (h : Kz H v) (k : Kd H v t) (nt : isTy t .tuple = false) (n : v ≠ .ref p) : SVp p H v none := ⟨⟨h, t, k, nt⟩, n, fun ys e => nomatch e⟩
/-- any value of a known kind may be a step -/
theorem SVp.any {p : Addr} {H : Hp} {v : V} (h : Kp p H v) (ht : ∀ q xs, v = .ref q → H q = some (.tup xs) → ∀ x ∈ xs, Kp p H x) : ∃ o, SVp p H v o := by
  obtain ⟨⟨t, k, z⟩, n⟩ := h
  cases k with
  | @tup a xs e => exact ⟨_, .tup e (fun q => n (by rw [q])) (ht a xs rfl e)⟩
  | non => exact ⟨_, .no ⟨_, .non, z⟩ .non rfl n⟩
  | bl b => exact ⟨_, .no ⟨_, .bl b, z⟩ (.bl b) rfl n⟩
  | int i => exact ⟨_, .no ⟨_, .int i, z⟩ (.int i) rfl n⟩
  | str x => exact ⟨_, .no ⟨_, .str x, z⟩ (.str x) rfl n⟩
  | lst e => exact ⟨_, .no ⟨_, .lst e, z⟩ (.lst e) rfl n⟩
  | dK e => exact ⟨_, .no ⟨_, .dK e, z⟩ (.dK e) rfl n⟩
def SVL (p : Addr) (H : Hp) (xs : List V) : Prop := ∀ v ∈ xs, ∃ o, SVp p H v o
theorem SVL.nil {p : Addr} {H : Hp} : SVL p H [] := fun v h => nomatch h
theorem SVL.cons {p : Addr} {H : Hp} {x : V} {xs : List V} (h : ∃ o, SVp p H x o) (r : SVL p H xs) : SVL p H (x :: xs) := fun v m => by
  rcases List.mem_cons.mp m with e | m
  · subst e; exact h
  · exact r v m
theorem SVp.non {p : Addr} {H : Hp} : ∃ o, SVp p H .non o := ⟨_, .no .non .non rfl (fun z => nomatch z)⟩
theorem SVp.bl {p : Addr} {H : Hp} (b : Bool) : ∃ o, SVp p H (.bl b) o := ⟨_, .no (.bl b) (.bl b) rfl (fun z => nomatch z)⟩
theorem SVp.int {p : Addr} {H : Hp} (i : Int) : ∃ o, SVp p H (.int i) o := ⟨_, .no (.int i) (.int i) rfl (fun z => nomatch z)⟩
theorem SVp.str {p : Addr} {H : Hp} {z : Str} (h : z.length ≤ 100) : ∃ o, SVp p H (.str z) o := ⟨_, .no (.str h) (.str z) rfl (fun z => nomatch z)⟩
theorem rd_ixS {K : PySem.W.Frag} {H : Hp} {Q : VK} {p a : Addr} {xs : List V} {d : Int} (h : SqL K H a xs) (h0 : 0 ≤ d) (h1 : d < xs.length) (kd : SVL p H xs) (q : ∀ v o, SVp p H v o → Q v H) : rIxL K (.ref a) (.int d) H Q := by
  have hd : d.toNat < xs.length := by omega
  obtain ⟨o, ho⟩ := kd xs[d.toNat] (List.getElem_mem hd)
  exact rd_ixL h (atI_int h0 (List.getElem?_eq_getElem hd)) (q _ o ho)
theorem good_kp {p : Addr} {H : Hp} {ws : List Str} {l : List V} (g : GoodStep ws l) : ∀ x ∈ l, Kp p H x := by
  have hs : ∀ w ∈ sigWords, w.length ≤ 100 := by decide +kernel
  have hm : ∀ w ∈ memWords, w.length ≤ 100 := by decide +kernel
  rcases g with ⟨w, n, rfl, h1, _, h2⟩ | ⟨w, n, s, f, e, rfl, h1, _, h2, _⟩
  · have := (nameOk_len h2).2
    intro x m
    simp only [List.mem_cons, List.not_mem_nil, or_false] at m
    rcases m with rfl | rfl
    · exact .str (hs w h1)
    · exact .str (by omega)
  · have := (nameOk_len h2).2
    intro x m
    simp only [List.mem_cons, List.not_mem_nil, or_false] at m
    rcases m with rfl | rfl | rfl | rfl | rfl
    · exact .str (hm w h1)
    · exact .str (by omega)
    · exact .int _
    · exact .int _
    · exact .int _
theorem good_many {ws : List Str} {l : List V} (g : GoodStep ws l) : 2 ≤ l.length ∧ l.length ≤ 5 := by
  rcases g with ⟨w, n, rfl, _⟩ | ⟨w, n, s, f, e, rfl, _⟩ <;> simp
def spBentX : Sp := fun vs H Q _ => ∃ (p : Addr) (k : Int) (n : Nat) (c : Addr), vs = [.ref p, .int k] ∧ PenAt c H p n ∧ n + 10 < 100000 ∧ ∀ v o H', SVp p H' v o → PenAt c H' p (n + 10) → Keep p H H' → Q v H'
def spThingX : Sp := fun vs H Q _ => ∃ (p : Addr) (n : Nat) (c : Addr), vs = [.ref p] ∧ PenAt c H p n ∧ n + 1 < 100000 ∧ ∀ v o H', SVp p H' v o → PenAt c H' p (n + 1) → Keep p H H' → Q v H'
/-! ### the law's own look at a step -/
def stepK (k : Int) (o : Option (List V)) : Bool := stepOk o && headIn (wsK k) o
def spLawStep : Sp := fun vs H Q _ => ∃ v o k, vs = [v, .int k] ∧ SV H v o ∧ ∀ H', Same H H' → Q (.bl (stepK k o)) H'
theorem inStrs_of_str {v : V} {zs : List Str} (h : inStrs v zs = true) : ∃ z, v = .str z ∧ z ∈ zs := by
  cases v with
  | str z => exact ⟨z, rfl, by rw [← List.contains_iff_mem]; exact h⟩
  | _ => cases h
def lastIn (f l : V) : Bool := match f with
  | .int i => within l i 7
  | _ => false
theorem lastOk_eq (f l : V) : (within l 0 7 && lastOk f l) = (within f 0 7 && lastIn f l) := by
  have w1 : ∀ (v : V) (a b : Int), within v a b = match v with | .int i => decide (a ≤ i) && decide (i ≤ b) | _ => false := fun v a b => by cases v <;> rfl
  cases l with
  | int j =>
    cases f with
    | int i =>
      show ((decide (0 ≤ j) && decide (j ≤ 7)) && (decide (0 ≤ i) && decide (i ≤ j))) = ((decide (0 ≤ i) && decide (i ≤ 7)) && (decide (i ≤ j) && decide (j ≤ 7)))
      rw [Bool.eq_iff_iff]
      simp only [Bool.and_eq_true, decide_eq_true_iff]
      omega
    | _ => simp [lastOk, lastIn, w1]
  | _ =>
    cases f with
    | int i => simp [lastOk, lastIn, w1]
    | _ => simp [lastOk, lastIn, w1]
end Lay
namespace Lay
open PySem PySem.Spec PyProof.Rows L2 Exv
theorem sig_in (k : Int) {w : V} (h : inStrs w ["post", "wait"] = true) : inStrs w (wsK k) = true := by
  obtain ⟨z, rfl, m⟩ := inStrs_of_str h
  refine inStrs_of ?_
  unfold wsK
  simp only [List.mem_cons, List.not_mem_nil, or_false] at m
  rcases m with rfl | rfl <;> split <;> simp [plainWs, cacheWs]
theorem mem_in (k : Int) {w : V} (h : inStrs w memWords = true) : inStrs w (wsK k) = (if k = 0 then inStrs w ["read", "write"] else true) := by
  obtain ⟨z, rfl, m⟩ := inStrs_of_str h
  unfold wsK
  by_cases e : k = 0
  · rw [if_pos e, if_pos e]
    have no : ∀ z : Str, z ∈ memWords → plainWs.contains z = List.contains (["read", "write"] : List Str) z := by decide +kernel
    exact no z m
  · rw [if_neg e, if_neg e]
    refine inStrs_of ?_
    have no : ∀ z : Str, z ∈ memWords → z ∈ cacheWs := by decide +kernel
    exact no z m
theorem stepK_two {k : Int} {w n : V} (hn : isName n = true) : stepK k (some [w, n]) = inStrs w ["post", "wait"] := by
  show (inStrs w sigWords && isName n && inStrs w (wsK k)) = _
  rw [hn, Bool.and_true]
  cases e : inStrs w ["post", "wait"] with
  | true => rw [sig_in k e]; show (inStrs w sigWords && true) = true; rw [Bool.and_true]; exact e
  | false => show (inStrs w sigWords && _) = false; rw [show inStrs w sigWords = false from e]; rfl
theorem stepK_five {k : Int} {w n s f l : V} (hn : isName n = true) (hm : inStrs w memWords = true) : stepK k (some [w, n, s, f, l]) = ((if k = 0 then inStrs w ["read", "write"] else true) && (within s 0 3 && (within f 0 7 && lastIn f l))) := by
  show (memOk w n s f l && inStrs w (wsK k)) = _
  rw [mem_in k hm, ← lastOk_eq]
  unfold memOk
  rw [hn, hm, Bool.true_and, Bool.true_and, Bool.and_comm]
theorem stepK_no {k : Int} {o : Option (List V)} (h : stepOk o = false) : stepK k o = false := by unfold stepK; rw [h]; rfl
theorem stepOk_name {xs : List V} {n : V} (h : xs[1]? = some n) (hn : isName n = false) : stepOk (some xs) = false := by
  match xs, h with
  | [_, m], h =>
    obtain rfl : m = n := by simpa using h
    show (_ && isName m) = false
    rw [hn, Bool.and_false]
  | [_, m, _, _, _], h =>
    obtain rfl : m = n := by simpa using h
    show memOk _ m _ _ _ = false
    unfold memOk
    rw [hn, Bool.false_and, Bool.and_false]
  | [_, _, _], _ => rfl
  | [_, _, _, _], _ => rfl
  | _ :: _ :: _ :: _ :: _ :: _ :: _, _ => rfl
theorem stepOk_head {xs : List V} {w : V} (h : xs[0]? = some w) (hw : ∀ zs, inStrs w zs = false) : stepOk (some xs) = false := by
  match xs, h with
  | [_], _ => rfl
  | [m, _], h =>
    obtain rfl : m = w := by simpa using h
    show (inStrs m _ && _) = false
    rw [hw, Bool.false_and]
  | [m, _, _, _, _], h =>
    obtain rfl : m = w := by simpa using h
    show memOk m _ _ _ _ = false
    unfold memOk
    rw [hw, Bool.false_and]
  | [_, _, _], _ => rfl
  | [_, _, _, _], _ => rfl
  | _ :: _ :: _ :: _ :: _ :: _ :: _, _ => rfl
theorem stepOk_many {xs : List V} (h2 : xs.length ≠ 2) (h5 : xs.length ≠ 5) : stepOk (some xs) = false := by
  match xs, h2, h5 with
  | [], _, _ => rfl
  | [_], _, _ => rfl
  | [_, _], c, _ => exact absurd rfl c
  | [_, _, _], _, _ => rfl
  | [_, _, _, _], _, _ => rfl
  | [_, _, _, _, _], _, c => exact absurd rfl c
  | _ :: _ :: _ :: _ :: _ :: _ :: _, _, _ => rfl
end Lay

end

section
namespace OwnC
open PySem L2 PySem.Spec PyProof.Rows
/-- o.m(e, ..) of an instance of whatever class, by a positional promise; what is raised is wished for at the slots -/
def tMethW (P : Program) (w : World) (K : PySem.W.Frag) (mg : Str → Option Value) (base : Heap) (CX : CXT) (n : Nat) (m : Str) (E : L2.St → XK) (ta : TE) (t : TA) : TE := fun σ H Q => ta σ H fun x H1 => ∃ a C dx fs f sp, x = .ref a ∧ H1 a = some (.ins C dx fs) ∧
  fs.lookup m = none ∧ Cls K C ∧ Meth K C m f ∧ FnR P w K mg base CX n f sp ∧ t σ H1 fun vs H2 => sp (x :: vs) H2 Q (E σ)
theorem rd_methW {P : Program} {w : World} {K : PySem.W.Frag} {mg : Str → Option Value} {base : Heap} {CX : CXT} {n : Nat} {m : Str} {E : L2.St → XK} {ta : TE} {t : TA} {σ : L2.St} {H : Hp} {Q : VK}
    (h : ta σ H fun x H1 => ∃ a C dx fs f sp, x = .ref a ∧ H1 a = some (.ins C dx fs) ∧ fs.lookup m = none ∧ Cls K C ∧ Meth K C m f ∧ FnR P w K mg base CX n f sp ∧ t σ H1 fun vs H2 => sp (x :: vs) H2 Q (E σ)) :
    tMethW P w K mg base CX n m E ta t σ H Q := h
section
variable {X : Cx} {CX : CXT} {n : Nat} {m : Str} {o e : Expr} {es : List Expr} {ta : TE} {t : TA} {apos pos : Pos} {pl : Sem Bool} {E : L2.St → XK}
theorem pe_methW (P : Program) (w : World) (K : PySem.W.Frag) (mg : Str → Option Value) (base : Heap) (he : PE X o ta) (hr : Room n X.A) (hx : ∀ σ, PassesAt CX X σ (E σ)) (ha : PA X (e :: es) t)
    (e1 : X.prog = P := by rfl) (e2 : X.w = w := by rfl) (e3 : X.K = K := by rfl) (e4 : X.mg = mg := by rfl) (e5 : X.base = base := by rfl)
    (hst : starEach (e :: es) X.env = (false, eval e X.env) :: starEach es X.env := by rfl) (hpl : (backTo pos (starEach es X.env)).any (·.1) = false := by rfl)
    (ht : eval (.Call (.Attribute o m apos) (e :: es) [] pos) X.env = (do let ov ← eval o X.env; standAt apos.atName; let (f, first) ← holding [ov] (getMethod ov m pl); callWith pos f first (backTo pos (starEach (e :: es) X.env)) (backToKw pos (keywordEach [] X.env))) := by rfl) :
    PE X (.Call (.Attribute o m apos) (e :: es) [] pos) (tMethW P w K mg base CX n m E ta t) := by
  subst e1 e2 e3 e4 e5
  constructor
  intro pins s σ H Q I h
  refine PySem.W.methodCall_KW (pl := pl) (thn (he.run pins s σ H _ I h) ?_) ht
  rintro u s1 ⟨x, H1, I1, rx, a, C, dx, fs, f, sp, rfl, ea, l, c, hm, F, q⟩
  cases rx
  refine getmeth_ok I1 ea c hm l (PySem.W.callWith_K (first := [.ref a]) (h₀ := X.base) I.ok.mod.kin hm.kp (thn (ha.run pos pins s1 σ H1 _ I1 q) ?_) hst hpl)
  rintro us s2 ⟨vs, H2, I2, r, q2⟩
  exact ⟨I2.kIn, wpAny_call (Exv.run_fnRS (us := .ref a :: us) (vs := .ref a :: vs) F hr (hx σ) I2 (.cons rfl r) q2)⟩
theorem pe_methW0 (P : Program) (w : World) (K : PySem.W.Frag) (mg : Str → Option Value) (base : Heap) (he : PE X o ta) (hr : Room n X.A) (hx : ∀ σ, PassesAt CX X σ (E σ))
    (e1 : X.prog = P := by rfl) (e2 : X.w = w := by rfl) (e3 : X.K = K := by rfl) (e4 : X.mg = mg := by rfl) (e5 : X.base = base := by rfl)
    (ht : eval (.Call (.Attribute o m apos) [] [] pos) X.env = (do let ov ← eval o X.env; standAt apos.atName; let (f, first) ← holding [ov] (getMethod ov m pl); callWith pos f first (backTo pos (starEach [] X.env)) (backToKw pos (keywordEach [] X.env))) := by rfl) :
    PE X (.Call (.Attribute o m apos) [] [] pos) (tMethW P w K mg base CX n m E ta tNil) := by
  subst e1 e2 e3 e4 e5
  constructor
  intro pins s σ H Q I h
  refine PySem.W.methodCall_KW (pl := pl) (thn (he.run pins s σ H _ I h) ?_) ht
  rintro u s1 ⟨x, H1, I1, rx, a, C, dx, fs, f, sp, rfl, ea, l, c, hm, F, q⟩
  cases rx
  exact getmeth_ok I1 ea c hm l (PySem.W.callWith_K0 (first := [.ref a]) I1.kIn hm.kp (wpAny_call (Exv.run_fnRS (us := [.ref a]) (vs := [.ref a]) F hr (hx σ) I1 (.cons rfl .nil) q)))
end
end OwnC
namespace Lay
open PySem PySem.Spec PyProof.Rows L2 Exv
/-! ### equality: anything is equal to itself; lists and tuples by their items -/
/-- x == y answers b, whatever runs, with n to spare -/
def EqW (K : PySem.W.Frag) (H : Hp) (n : Nat) (x y : V) (b : Bool) : Prop :=
  ∀ (X : Cx) (pins : List (Addr × Obj)) (σ : L2.St) (s : Shared) (u v : Value) (A : Around), X.K = K → Inv X pins σ H s → RelV x u → RelV y v → A.units + n < cLine → SeqAt.EqAt A s u v b
def RcW (K : PySem.W.Frag) (H : Hp) (n : Nat) (x y : V) (b : Bool) : Prop :=
  ∀ (X : Cx) (pins : List (Addr × Obj)) (σ : L2.St) (s : Shared) (u v : Value) (A : Around), X.K = K → Inv X pins σ H s → RelV x u → RelV y v → A.units + n < cLine → SeqAt.RcAt A s u v b ∧ SeqAt.RcNeAt A s u v (!b)
section
variable {K : PySem.W.Frag} {H : Hp} {n : Nat}
theorem EqW.flat {x y : V} (hx : flatV x = true) (hy : flatV y = true) : EqW K H n x y (eqV x y) := fun X pins σ s u v A _ I rx ry _ => eqAt_V rx ry hx hy
theorem eqV_self {x : V} (h : flatV x = true) : eqV x x = true := by
  cases x with
  | non => rfl
  | bl b => cases b <;> rfl
  | int i => exact beq_self_eq_true i
  | str z => exact beq_self_eq_true z
  | _ => cases h
theorem EqW.same {x : V} (h : flatV x = true ∨ ∃ a, x = .ref a) : EqW K H n x x true := by
  rcases h with h | ⟨a, rfl⟩
  · have e := EqW.flat (K := K) (H := H) (n := n) h h
    rw [eqV_self h] at e
    exact e
  · intro X pins σ s u v A _ I rx ry _
    cases rx
    cases ry
    exact SeqAt.EqAt.same _
theorem items_at {xs ys : List V} {its its2 : List Value} {e : Nat → Bool} (h : ∀ i x y, xs[i]? = some x → ys[i]? = some y → EqW K H n x y (e i)) {X : Cx} {pins : List (Addr × Obj)} {σ : L2.St} {s : Shared} {A : Around} (eK : X.K = K) (I : Inv X pins σ H s)
    (r : Vals xs its) (r2 : Vals ys its2) (hu : A.units + 1 + n < cLine) : ∀ j (h1 : j < its.toArray.size) (h2 : j < its2.toArray.size), SeqAt.EqAt A.in1 s its.toArray[j] its2.toArray[j] (e j) := by
  intro j h1 h2
  have l1 : j < its.length := by simpa using h1
  have l2 : j < its2.length := by simpa using h2
  have k1 : j < xs.length := by rw [r.length]; exact l1
  have k2 : j < ys.length := by rw [r2.length]; exact l2
  obtain ⟨u, eu, ru⟩ := r.get (List.getElem?_eq_getElem k1)
  obtain ⟨v, ev, rv⟩ := r2.get (List.getElem?_eq_getElem k2)
  have e1 : its.toArray[j] = u := by
    rw [List.getElem?_eq_getElem l1] at eu
    simpa using eu
  have e2 : its2.toArray[j] = v := by
    rw [List.getElem?_eq_getElem l2] at ev
    simpa using ev
  rw [e1, e2]
  exact h j _ _ (List.getElem?_eq_getElem k1) (List.getElem?_eq_getElem k2) X pins σ s u v A.in1 eK I ru rv (by show A.units + 1 + n < cLine; omega)
/-- two lists of one length -/
theorem RcW.lists {a b : Addr} {xs ys : List V} {e : Nat → Bool} (ha : SqL K H a xs) (hb : SqL K H b ys) (hl : xs.length = ys.length) (h : ∀ i x y, xs[i]? = some x → ys[i]? = some y → EqW K H n x y (e i)) : RcW K H (n + 1) (.ref a) (.ref b) ((List.range xs.length).all e) := by
  intro X pins σ s u v A eK I rx ry hu
  subst eK
  cases rx
  cases ry
  obtain ⟨its, r, pl, _⟩ := I.list ha
  obtain ⟨its2, r2, pl2, _⟩ := I.list hb
  have e1 : xs.length = its.toArray.size := by rw [List.size_toArray]; exact r.length
  rw [e1]
  have hs : its.toArray.size = its2.toArray.size := by rw [List.size_toArray, List.size_toArray, ← r.length, ← r2.length]; exact hl
  exact ⟨SeqAt.RcAt.lists pl.isList pl2.isList hs (by omega) (items_at h rfl I r r2 (by omega)), SeqAt.RcNeAt.lists pl.isList pl2.isList hs (by omega) (items_at h rfl I r r2 (by omega))⟩
theorem RcW.tuples {a b : Addr} {xs ys : List V} {e : Nat → Bool} (ha : SqT K H a xs) (hb : SqT K H b ys) (h : ∀ i x y, xs[i]? = some x → ys[i]? = some y → EqW K H n x y (e i)) :
    RcW K H (n + 1) (.ref a) (.ref b) ((List.range (min xs.length ys.length)).all e && (xs.length == ys.length)) := by
  intro X pins σ s u v A eK I rx ry hu
  subst eK
  cases rx
  cases ry
  obtain ⟨its, r, pl, _⟩ := I.tuple ha
  obtain ⟨its2, r2, pl2, _⟩ := I.tuple hb
  have e1 : xs.length = its.toArray.size := by rw [List.size_toArray]; exact r.length
  have e2 : ys.length = its2.toArray.size := by rw [List.size_toArray]; exact r2.length
  obtain ⟨o, h1, h2, n1, h3⟩ := id pl
  obtain ⟨o2, g1, g2, n2, g3⟩ := id pl2
  rw [e1, e2]
  have t1 : s.heap.IsTuple a its.toArray := ⟨o, h1, h2, n1, h3⟩
  have t2 : s.heap.IsTuple b its2.toArray := ⟨o2, g1, g2, n2, g3⟩
  exact ⟨SeqAt.RcAt.tuples t1 t2 (by omega) (items_at h rfl I r r2 (by omega)), SeqAt.RcNeAt.tuples t1 t2 (by omega) (items_at h rfl I r r2 (by omega))⟩
/-- the same items, each an object or a flat value -/
theorem RcW.listsSame {a b : Addr} {xs : List V} (ha : SqL K H a xs) (hb : SqL K H b xs) (h : ∀ x ∈ xs, flatV x = true ∨ ∃ c, x = .ref c) : RcW K H (n + 1) (.ref a) (.ref b) true := by
  have z := RcW.lists (n := n) (e := fun _ => true) ha hb rfl fun i x y ex ey => by
    rw [ex] at ey
    cases ey
    exact EqW.same (h x (List.mem_of_getElem? ex))
  rw [show (List.range xs.length).all (fun _ => true) = true from List.all_eq_true.mpr fun _ _ => rfl] at z
  exact z
theorem RcW.tuplesSame {a b : Addr} {xs : List V} (ha : SqT K H a xs) (hb : SqT K H b xs) (h : ∀ x ∈ xs, flatV x = true ∨ ∃ c, x = .ref c) : RcW K H (n + 1) (.ref a) (.ref b) true := by
  have z := RcW.tuples (n := n) (e := fun _ => true) ha hb fun i x y ex ey => by
    rw [ex] at ey
    cases ey
    exact EqW.same (h x (List.mem_of_getElem? ex))
  rw [show (List.range (min xs.length xs.length)).all (fun _ => true) = true from List.all_eq_true.mpr fun _ _ => rfl, Bool.true_and, beq_self_eq_true] at z
  exact z
end
def rEqW (K : PySem.W.Frag) (neg : Bool) : R2 := fun x y H Q => ∃ b, RcW K H 40 x y b ∧ Q (.bl (if neg then !b else b)) H
theorem op_eqW {X : Cx} (hu : X.A.units + 64 < cLine) : OpR X (compareOp .Eq) (rEqW X.K false) := by
  intro pins s σ H x y v u Q I rx ry h
  obtain ⟨b, hb, q⟩ := h
  exact (hb X pins σ s v u X.A rfl I rx ry (by omega)).1 _ _ _ _ ⟨.bl _, H, I, rfl, q⟩
theorem op_neW {X : Cx} (hu : X.A.units + 64 < cLine) : OpR X (compareOp .NotEq) (rEqW X.K true) := by
  intro pins s σ H x y v u Q I rx ry h
  obtain ⟨b, hb, q⟩ := h
  exact (hb X pins σ s v u X.A rfl I rx ry (by omega)).2 _ _ _ _ ⟨.bl _, H, I, rfl, q⟩
theorem rd_eqW {K : PySem.W.Frag} {H : Hp} {Q : VK} {x y : V} (b : Bool) (h : RcW K H 40 x y b) (q : Q (.bl b) H) : rEqW K false x y H Q := ⟨b, h, q⟩
theorem rd_neW {K : PySem.W.Frag} {H : Hp} {Q : VK} {x y : V} (b : Bool) (h : RcW K H 40 x y b) (q : Q (.bl (!b)) H) : rEqW K true x y H Q := ⟨b, h, q⟩
theorem Kz.fl {H : Hp} {v : V} (k : Kz H v) : flatV v = true ∨ ∃ c, v = .ref c := by
  obtain ⟨t, h, _⟩ := k
  cases h with
  | lst h => exact .inr ⟨_, rfl⟩
  | tup h => exact .inr ⟨_, rfl⟩
  | dK h => exact .inr ⟨_, rfl⟩
  | _ => exact .inl rfl
/-! ### agents asked for in the law -/
def kAg {α : Type} (a b c : α) (k : Int) : α := if k = 0 then a else if k = 1 then b else c
def spDirectX (C : Int → Addr) (N : Addr) : Sp := fun vs H Q E => ∃ k v a xs os, vs = [.int k, v, .ref a] ∧ 0 ≤ k ∧ k ≤ 2 ∧ Kz H v ∧ H a = some (.lst xs) ∧ SVs H xs os ∧ 1 ≤ xs.length ∧ xs.length ≤ 2 ∧ AskA (C k) N (wsK k) v xs os H Q E
def spLawMade (C : Int → Addr) (N : Addr) : Sp := fun vs H Q E => ∃ k v a xs os, vs = [.int k, v, .ref a] ∧ 0 ≤ k ∧ k ≤ 2 ∧ Kz H v ∧ H a = some (.lst xs) ∧ SVs H xs os ∧ xs.length ≤ 1000 ∧ AskA (C k) N (wsK k) v xs os H Q E
/-- what is found: the error or the agent -/
def Found (C N : Addr) (ws : List Str) (v : V) (xs : List V) (os : List (Option (List V))) (H : Hp) (e : Addr) : Prop :=
  (∃ r p, refuses ws v os = some (r, p) ∧ ErrAt N H e [("place", p), ("reason", .str r)]) ∨ (refuses ws v os = none ∧ AgX C H e v xs)
theorem Found.mono {C N : Addr} {ws : List Str} {v : V} {xs : List V} {os : List (Option (List V))} {H H' : Hp} {e : Addr} (s : Same H H') (h : Found C N ws v xs os H e) : Found C N ws v xs os H' e := by
  rcases h with ⟨r, p, h1, h2⟩ | ⟨h1, h2⟩
  · exact .inl ⟨r, p, h1, h2.mono s⟩
  · exact .inr ⟨h1, h2.mono s⟩
def spAskedX (C : Int → Addr) (N : Addr) : Sp := fun vs H Q _ => ∃ k v a xs os b, vs = [.int k, v, .ref a, .bl b] ∧ 0 ≤ k ∧ k ≤ 2 ∧ Kz H v ∧ H a = some (.lst xs) ∧ SVs H xs os ∧ xs.length ≤ 1000 ∧ (b = true → 1 ≤ xs.length ∧ xs.length ≤ 2) ∧
  ∀ e H', Same H H' → Found (C k) N (wsK k) v xs os H' e → Q (.ref e) H'
def spAgainX (C : Int → Addr) (N : Addr) : Sp := fun vs H Q _ => ∃ k a xs os, vs = [.int k, .ref a] ∧ 0 ≤ k ∧ k ≤ 2 ∧ H a = some (.lst xs) ∧ SVs H xs os ∧ xs.length = 2 ∧ ∀ e H', Same H H' → Found (C k) N (wsK k) (.str "good") xs os H' e → Q (.ref e) H'
def spNoStepsX (N : Addr) : Sp := fun vs H Q _ => ∃ k, vs = [.int k] ∧ 0 ≤ k ∧ k ≤ 2 ∧ ∀ e H', Same H H' → ErrAt N H' e [("place", .non), ("reason", .str "steps")] → Q (.ref e) H'
def spRightX (C : Int → Addr) (N : Addr) : Sp := fun vs H Q _ => ∃ e k v a xs os, vs = [.ref e, .int k, v, .ref a] ∧ 0 ≤ k ∧ k ≤ 2 ∧ Kz H v ∧ H a = some (.lst xs) ∧ SVs H xs os ∧ xs.length ≤ 1000 ∧ Found (C k) N (wsK k) v xs os H e ∧ ∀ H', Same H H' → Q (.bl true) H'
end Lay
namespace Lay
open PySem PySem.Spec PyProof.Rows L2 Exv
theorem good_one (k : Int) {w : Str} (h : w = "post" ∨ w = "wait") : refuses (wsK k) (.str "good") [some [.str w, .str "s"]] = none := by
  refine refuses_none (by decide +kernel) rfl ?_
  have e : inStrs (.str w) ["post", "wait"] = true := by rcases h with rfl | rfl <;> decide +kernel
  refine fst_none fun j hj => ?_
  obtain rfl : j = 0 := by simpa using hj
  show (!(inStrs (.str w) sigWords && isName (.str "s") && inStrs (.str w) (wsK k))) = false
  rw [sig_in k e, show inStrs (.str w) sigWords = true from e, show isName (.str "s") = true by decide +kernel]
  rfl
theorem good_none (k : Int) : refuses (wsK k) (.str "good") [] = er "steps" .non := refuses_steps (by decide +kernel) (by decide)
theorem SVs.one {H : Hp} {p : Addr} {xs : List V} (h : H p = some (.tup xs)) (k : ∀ x ∈ xs, Kz H x) : SVs H [.ref p] [some xs] := ⟨rfl, fun i v e => by
  cases i with
  | zero => obtain rfl : V.ref p = v := by simpa using e
            exact ⟨_, rfl, .tup h k⟩
  | succ j => simp at e⟩
theorem SVs.nil {H : Hp} : SVs H [] [] := ⟨rfl, fun i v e => by simp at e⟩
end Lay
namespace Lay
open PySem PySem.Spec PyProof.Rows L2 Exv
theorem SVs.mem {H : Hp} {xs : List V} {os : List (Option (List V))} (h : SVs H xs os) : ∀ x ∈ xs, Kz H x := fun x m => by
  obtain ⟨i, hi, e⟩ := List.getElem_of_mem m
  obtain ⟨o, _, ho⟩ := h.2 i x (by rw [List.getElem?_eq_getElem hi, e])
  exact ho.1
theorem sBad_eq {k : Int} {os : List (Option (List V))} {i : Nat} {o : Option (List V)} (h : os[i]? = some o) : sBad (wsK k) os i = !stepK k o := by unfold sBad stepK; rw [h]
end Lay
namespace Lay
open PySem PySem.Spec PyProof.Rows L2 Exv
theorem RcW.lens {K : PySem.W.Frag} {H : Hp} {n : Nat} {a b : Addr} {xs ys : List V} (ha : SqL K H a xs) (hb : SqL K H b ys) (hl : xs.length ≠ ys.length) : RcW K H (n + 1) (.ref a) (.ref b) false := by
  intro X pins σ s u v A eK I rx ry hu
  subst eK
  cases rx
  cases ry
  obtain ⟨its, r, pl, _⟩ := I.list ha
  obtain ⟨its2, r2, pl2, _⟩ := I.list hb
  have hs : (its.toArray.size != its2.toArray.size) = true := by
    rw [List.size_toArray, List.size_toArray, ← r.length, ← r2.length]
    exact bne_iff_ne.mpr hl
  exact ⟨SeqAt.RcAt.lists_lengths pl.isList pl2.isList hs (by omega), SeqAt.RcNeAt.lists_lengths pl.isList pl2.isList hs (by omega)⟩
theorem rd_inD {K : PySem.W.Frag} {H : Hp} {Q : VK} {d : Int} {t : Addr} {ns : List Int} (ht : SqT K H t (ns.map V.int)) (q : Q (.bl (decide (d ∈ ns))) H) : rIn K false (.int d) (.ref t) H Q := by
  refine ⟨t, _, rfl, .inr ht, rfl, by rw [List.all_map]; simp [flatV], ?_⟩
  have e : inV (.int d) (ns.map V.int) = decide (d ∈ ns) := by
    unfold inV
    rw [List.any_map, Bool.eq_iff_iff, List.any_eq_true, decide_eq_true_iff]
    constructor
    · rintro ⟨x, m, h⟩
      have h : (x == d) = true := h
      rw [← beq_iff_eq.mp h]; exact m
    · intro m
      exact ⟨d, m, show (d == d) = true from beq_self_eq_true d⟩
  show Q (.bl (inV (.int d) (ns.map V.int))) H
  rw [e]
  exact q
theorem rd_rep {H : Hp} {Q : VK} {l : Addr} {x : V} {k : Int} (h : H l = some (.lst [x])) (h0 : 0 ≤ k) (h1 : k ≤ 1000) (q : ∀ p, H p = none → Q (.ref p) (upd H p (.lst (List.replicate k.toNat x)))) : rRep (.ref l) (.int k) H Q := by
  refine ⟨l, k, [x], rfl, rfl, h, by omega, by omega, ?_, fun p hp => ?_⟩
  · have : [x].length * k.toNat ≤ 1000 := by show 1 * _ ≤ _; omega
    exact Nat.le_trans this (by decide)
  · rw [List.flatten_replicate_singleton]
    exact q p hp
end Lay

end

section
/-! ExK: an own exception with an own __init__, made with keywords. -/
namespace ExK
open PySem PySem.Spec PySem.W PySem.Calls PyProof.Rows PySem.HandSPX Builtin Builtin.ObjectAttr
section
variable {M : Model} {prog : Program} {w : World} {A : Around} {E : Value → Shared → Prop} {R : Result → Shared → Prop} {h : Heap} {g : Array GenState} {d : Drawn} {t : Nat} {os : OsState}
variable {nm q : Str} {C N : Addr} {bs bm bmB : List Value} {hdct : Bool} {sn : List Str} {sub : List Value} {ab : Bool} {col : Option Bool} {dd : Option Addr} {k0 k1 k2 k3 k5 : Option Value} {B newId initId : String} {kw : List (Str × Value)}
theorem kw_checked (F : ExcBaseFacts B newId initId bmB) (hT : ∀ X : String, bm.contains (.type X) = bmB.contains (.type X)) {Q : Unit → Shared → Prop}
    (hC : h.get? C = some (excClassObj nm q C N bs bm hdct sn sub ab col dd k0 k1 k2 k3 k5 newId)) (hq : Q () ⟨h, g, d, t, os⟩) : wpAny M A (checkBuiltinCall newId ⟨[.ref C], kw⟩) Q E ⟨h, g, d, t, os⟩ := by
  have has : (Value.ref C :: bm).contains (.type B) = true := by rw [List.contains_cons, hT, F.hasB, Bool.or_true]
  have star := F.noStar
  simp only [checkBuiltinCall, F.newKind, F.newSplit, F.newRow]
  repeat (first
    | refine wpAny_loadPart_at hC ?_
    | (refine wpAny_isSubtype_exc hC ?_; rw [has])
    | refine wpAny_staticBase_exc hC ?_
    | refine wpAny_madeBy_exc hC ?_
    | simp only [bne_self_eq_false, Bool.false_eq_true, if_false]
    | wp_step)
  exact hq
theorem kw_new (F : ExcBaseFacts B newId initId bmB) (hT : ∀ X : String, bm.contains (.type X) = bmB.contains (.type X))
    (hC : h.get? C = some (excClassObj nm q C N bs bm hdct sn sub ab col dd k0 k1 k2 k3 k5 newId))
    (hq : R (.ok (.ret (.ref (h.objs.size + 1)))) ⟨(h.push (kdv_tup [])).push (excO C h.objs.size), g, d, t, os⟩) : codeAny (model prog w) A (.builtin newId ⟨[.ref C], kw⟩) R ⟨h, g, d, t, os⟩ := by
  have ends := F.ends
  have has : (Value.ref C :: bm).contains (.type B) = true := by rw [List.contains_cons, hT, F.hasB, Bool.or_true]
  have noA : (Value.ref C :: bm).contains (.type "AttributeError") = false := by
    rw [List.contains_cons, hT, F.noAttr]
    rfl
  have noN : (Value.ref C :: bm).contains (.type "NameError") = false := by
    rw [List.contains_cons, hT, F.noName]
    rfl
  refine codeAny_builtinAt F.entry ?_
  unfold Builtin.«BaseException.__new__»
  refine PySem.wpAt_bind ?_
  show PySem.wpAt _ _ _ (stack >>= _) _ _ _
  refine PySem.wpAt_bind (PySem.wpAt_stack fun p below => PySem.wpAt_of_wpAny ?_)
  wp_walk
  refine PySem.wpAt_of_wpAny ?_
  rw [F.owner]
  repeat (first
    | with_reducible refine wpAny_madeHere_exc F.canon hC ?_
    | with_reducible refine wpAny_loadPart_at hC ?_
    | (with_reducible refine wpAny_isSubtype_exc hC ?_; first | rw [has] | rw [noA] | rw [noN])
    | wp_step)
  show R _ _
  rw [Heap.size_push]
  exact hq
theorem kw_typed (F : ExcBaseFacts B newId initId bmB) (hT : ∀ X : String, bm.contains (.type X) = bmB.contains (.type X)) {fI : Addr} {Q : Fin → Shared → Prop}
    (hC : h.get? C = some (excClassObj nm q C N bs bm hdct sn sub ab col dd k0 k1 k2 k3 k5 newId))
    (hi : W.Looks (model prog w) h (typeLookup (.ref C) "__init__") (some (.ref fI))) (hb : ∀ self, W.Looks (model prog w) h (bindSpecial (.ref fI) self) (.ref fI, [self]))
    (hq : codeAny (model prog w) A (.call (.ref fI) ⟨[.ref (h.objs.size + 1)], kw⟩)
      (fun r s' => match r with | .ok (.ret v) => v = .none ∧ Q (.done (.ret (.ref (h.objs.size + 1)))) s' | .ok _ => False | .error e => E e s')
      ⟨(h.push (kdv_tup [])).push (excO C h.objs.size), g, d, t, os⟩) :
    wpAny (model prog w) A (Builtin.«type.__call__» ⟨[.ref C], kw⟩) Q E ⟨h, g, d, t, os⟩ := by
  repeat (first
    | with_reducible refine wpAny_loadPart_at hC ?_
    | with_reducible refine wpAny_madeBy_exc hC ?_
    | wp_step)
  refine codeAny_call_builtin_code (Code.quiet_builtin _ F.quiet) (kw_checked F hT hC ?_)
  refine kw_new F hT hC ?_
  show wpAny _ _ _ _ _ _
  have old : ∀ b o, h.get? b = some o → ((h.push (kdv_tup [])).push (excO C h.objs.size)).get? b = some o := fun b o e => Heap.get?_push_of_some _ (Heap.get?_push_of_some _ e)
  have there : ((h.push (kdv_tup [])).push (excO C h.objs.size)).get? (h.objs.size + 1) = some (excO C h.objs.size) := by heap_get
  have own : (Value.ref C :: bm).contains (.ref C) = true := by simp
  have hC' := old _ _ hC
  unfold isInstance
  repeat (first
    | with_reducible refine wpAny_loadPart_at there ?_
    | (with_reducible refine wpAny_isSubtype_exc hC' ?_; rw [own])
    | wp_step)
  show wpAny _ _ (typeLookup (.ref C) _) _ _ _
  refine (hi.keeps old).at ?_
  refine wpAny_holding (wpAny_bind (((hb (.ref (h.objs.size + 1))).keeps old).at ?_))
  refine wpAny_bind (wpAny_call (codeAny_mono hq ?_))
  rintro (e | fl) s' z
  · exact z
  · cases fl with
    | ret v =>
      obtain ⟨rfl, z⟩ := z
      first
        | exact wpAny_pure (wpAny_pure z)
        | (wp_walk; exact z)
    | _ => exact z.elim
theorem kw_called (F : ExcBaseFacts B newId initId bmB) (hT : ∀ X : String, bm.contains (.type X) = bmB.contains (.type X)) {fI : Addr}
    (hC : h.get? C = some (excClassObj nm q C N bs bm hdct sn sub ab col dd k0 k1 k2 k3 k5 newId))
    (hi : W.Looks (model prog w) h (typeLookup (.ref C) "__init__") (some (.ref fI))) (hb : ∀ self, W.Looks (model prog w) h (bindSpecial (.ref fI) self) (.ref fI, [self]))
    (hq : codeAny (model prog w) (A.under (.builtin "type.__call__" ⟨[.ref C], kw⟩)) (.call (.ref fI) ⟨[.ref (h.objs.size + 1)], kw⟩) (InitBack (h.objs.size + 1) R)
      ⟨(h.push (kdv_tup [])).push (excO C h.objs.size), g, d, t, os⟩) :
    codeAny (model prog w) A (.call (.ref C) ⟨[], kw⟩) R ⟨h, g, d, t, os⟩ := by
  have f1 := tc_lookup
  have f2 := tc_bind (.ref C)
  have ty : (⟨h, g, d, t, os⟩ : Shared).TypeIs (.ref C) "type" := ⟨_, hC, rfl⟩
  refine codeAny_of_tree ?_
  show wpAny _ _ (callAny (.ref C) _) _ _ _
  repeat (any_goals (first
    | assumption
    | with_reducible refine wpAny_loadPart_at hC ?_
    | wp_step))
  refine ⟨rfl, ?_⟩
  refine codeAny_call_builtin_at (Code.quiet_builtin _ (by decide +kernel)) entry_typeCall (wpAny_check_type_call_sub hC (kw_typed F hT hC hi hb ?_))
  refine codeAny_mono hq ?_
  rintro (e | fl) s' z
  · exact z
  · cases fl <;> exact z
end
end ExK
namespace ExK
open PySem PySem.Spec PyProof.Rows L2
/-- C(k = v, ..), C's own __init__ keeping sp -/
def tMkK (C : Addr) (m : Nat) (sp : Sp) (gV : List V → List V → List V) (tk : TA) : L2.St → Hp → XK → Prop := fun σ H Q => tk σ H fun zs H1 => zs.length = m ∧ ∀ a, H1 a = none → sp (gV [.ref a] zs) (upd H1 a (exo a C none))
  (fun v H2 => v = .non ∧ ∃ (d : Addr) (fs : List (Str × V)), H2 a = some (exo a C (some d)) ∧ H2 d = some (exd d fs) ∧ H1 d = none ∧ Q (.ref C) (some d) (upd (del H2 a) d (.xd fs))) (fun _ _ _ => False)
theorem rd_mkK {C : Addr} {m : Nat} {sp : Sp} {gV : List V → List V → List V} {tk : TA} {σ : L2.St} {H : Hp} {Q : XK} (h : tk σ H fun zs H1 => zs.length = m ∧ ∀ a, H1 a = none → sp (gV [.ref a] zs) (upd H1 a (exo a C none))
  (fun v H2 => v = .non ∧ ∃ (d : Addr) (fs : List (Str × V)), H2 a = some (exo a C (some d)) ∧ H2 d = some (exd d fs) ∧ H1 d = none ∧ Q (.ref C) (some d) (upd (del H2 a) d (.xd fs))) (fun _ _ _ => False)) : tMkK C m sp gV tk σ H Q := h
section
variable {X : Cx} {CX : CXT} {x : Str} {C fI : Addr} {k : Nat} {fd : FuncData} {ps ks : List Str} {sp : Sp} {p pos : Pos} {kws : List Keyword} {tk : TA} {g : List Value → List Value → List Value} {gV : List V → List V → List V}
theorem pmk_kw (T : OexC X.K C) (iC : PySem.W.findIn X.K (.ref C) "__init__" = some (some (.ref fI))) (tI : PySem.W.typeIn X.K (.ref fI) = some (.type "function")) (F1 : FnOk X.prog X.w X.K X.mg X.base CX k fI fd ps sp) (room : Room (k + 1) X.A)
    (hb : KBn X.K fd ps 1 ks g gV) (hx : Passes CX X (fun _ _ _ => False)) (hg : Gl X x) (hm : X.mg x = some (.ref C)) (hkw : PK X kws tk)
    (hall : (backToKw pos (keywordEach kws X.env)).all (·.1.isSome) = true := by rfl) (hks : (backToKw pos (keywordEach kws X.env)).filterMap (·.1) = ks := by rfl) (hdb : (x == ("__debug__" : Str)) = false := by decide)
    (hpl : ((backTo pos (starEach [] X.env)).any (·.1) || (backToKw pos (keywordEach kws X.env)).any (·.1.isNone)) = false := by rfl) : PMk X (.Call (.Name x p) [] kws pos) (tMkK C ks.length sp gV tk) := by
  intro pins s σ H Q I h
  obtain ⟨nm, q, N, bs, bm, sn, sub, ab, col, dd, k0, k1, k2, k3, k5, hC, hbm⟩ := T.cls
  refine wpAny_Call_Name_kw (ld_glob I hg hm ?_ hdb)
  refine PySem.W.callWith_KW0 (h₀ := X.base) I.ok.mod.kin T.kC hall (thn (hkw.run pos pins s σ H _ I h) ?_) hpl
  rintro ws s1 ⟨zs, H1, I1, rz, l1, q1⟩
  refine ⟨I1.kIn, ?_⟩
  rw [hks]
  show wpAny _ _ (call (.ref C) [] (ks.zip ws)) _ _ _
  obtain ⟨hp, gg, dr, tk', os⟩ := s1
  have big : hp.objs.size ≤ hp.objs.size + 1 := Nat.le_succ _
  have hq := q1 (hp.objs.size + 1) (I1.hok.fresh big)
  have old : ∀ b o, hp.get? b = some o → ((hp.push (PySem.W.kdv_tup [])).push (PySem.HandSPX.excO C hp.objs.size)).get? b = some o := fun b o e => Heap.get?_push_of_some _ (Heap.get?_push_of_some _ e)
  have there : ((hp.push (PySem.W.kdv_tup [])).push (PySem.HandSPX.excO C hp.objs.size)).get? (hp.objs.size + 1) = some (PySem.HandSPX.excO C hp.objs.size) := by heap_get
  have I2 : Inv X pins σ (upd H1 (hp.objs.size + 1) (exo (hp.objs.size + 1) C none)) ⟨(hp.push (PySem.W.kdv_tup [])).push (PySem.HandSPX.excO C hp.objs.size), gg, dr, tk', os⟩ :=
    I1.laid (t' := tk') (a := hp.objs.size + 1) (o := exo (hp.objs.size + 1) C none) (h' := (hp.push (PySem.W.kdv_tup [])).push (PySem.HandSPX.excO C hp.objs.size)) old big (exo_ok there)
  have rs : Vals [V.ref (hp.objs.size + 1)] [Value.ref (hp.objs.size + 1)] := .cons rfl .nil
  have e2 : ws.length = ks.length := rz.length.symm.trans l1
  refine wpAny_call (kw_called PySem.F.excBase_ValueError (fun Y => PySem.HandSPX.refsVE_contains Y bm hbm) (I1.kIn _ _ hC) (PySem.W.looks_findIn I1.kIn iC) (fun self => PySem.W.bind_fn I1.kIn self tI)
    (codeAny_mono (F1.run _ X.stack _ _ ⟨[Value.ref (hp.objs.size + 1)], ks.zip ws⟩ (g [Value.ref (hp.objs.size + 1)] ws) _ _ (fun _ _ _ => False) (room.make C [] (ks.zip ws)) (I2.env0.make C [] (ks.zip ws)) (hb.to _ [Value.ref (hp.objs.size + 1)] ws I2.kIn rfl e2) (hb.rel rs rz) hq) ?_))
  rintro (er | fl) s' hq'
  · exact hx pins σ _ _ er s' I2 hq'
  · cases fl with
    | ret u =>
      obtain ⟨v, H2, os2, bare2, un2, hok2, rv, ev, d, fs, ea, ed, hd1, q2⟩ := hq'
      subst ev
      obtain ⟨h2, g2, d2, t2, os'⟩ := s'
      exact ⟨rv, mk_end (raises_own T.exC T.tyC) I1 big old un2 hok2 os2 bare2 ea ed hd1 q2⟩
    | _ => exact False.elim hq'
end
end ExK

end

section
namespace Lay
open PySem PySem.Spec PyProof.Rows L2 Exv Grd ExK
/-! ### values that can be shown, with nothing at p -/
def KX (K : PySem.W.Frag) (p : Addr) (H : Hp) (v : V) (d : PyData) : Prop := (∀ H', Keep p H H' → DpX K H' v d) ∧ d.showable = true ∧ d.shown.length ≤ 100000 ∧ d.depth ≤ 60
theorem KX.keep {K : PySem.W.Frag} {p : Addr} {H H' : Hp} {v : V} {d : PyData} (s : Keep p H H') (h : KX K p H v d) : KX K p H' v d := ⟨fun H2 s2 => h.1 H2 (s.trans s2), h.2⟩
theorem KX.mono {K : PySem.W.Frag} {p : Addr} {H H' : Hp} {v : V} {d : PyData} (s : Same H H') (h : KX K p H v d) : KX K p H' v d := h.keep (Keep.of s)
theorem KX.repr {K : PySem.W.Frag} {p : Addr} {H : Hp} {v : V} {d : PyData} {Q : VK} (h : KX K p H v d) (q : Q (.str d.shown) H) : rRepr K [v] H Q := rd_repr (h.1 H Keep.refl) h.2.1 (Nat.le_trans h.2.2.1 (by decide)) h.2.2.2 q
def fits (d : PyData) : Bool := d.showable && decide (d.shown.length ≤ 100000) && decide (d.depth ≤ 60)
theorem fits_of {d : PyData} (h : fits d = true) : d.showable = true ∧ d.shown.length ≤ 100000 ∧ d.depth ≤ 60 := by
  unfold fits at h
  rw [Bool.and_eq_true, Bool.and_eq_true] at h
  exact ⟨h.1.1, of_decide_eq_true h.1.2, of_decide_eq_true h.2⟩
theorem leaf_dp {K : PySem.W.Frag} {H : Hp} {v : V} (h : isLeaf v = true) : Dp K H v (leafD v) := by
  cases v with
  | non => exact .non
  | bl b => exact .bl b
  | int i => exact .int i
  | str z => exact .str z
  | _ => cases h
theorem leaves_dp {K : PySem.W.Frag} {H : Hp} : ∀ {xs : List V}, xs.all isLeaf = true → DpAll K H xs (xs.map leafD)
  | [], _ => .nil
  | x :: xs, h => by
    rw [List.all_cons, Bool.and_eq_true] at h
    exact .cons (leaf_dp h.1) (leaves_dp h.2)
theorem KX.leaf {K : PySem.W.Frag} {p : Addr} {H : Hp} {v : V} (h : isLeaf v = true) (f : fits (leafD v) = true) : ∃ d, KX K p H v d := ⟨_, fun _ _ => .of (leaf_dp h), fits_of f⟩
theorem KX.tup {K : PySem.W.Frag} {p a : Addr} {H : Hp} {xs : List V} (e : H a = some (.tup xs)) (n : a ≠ p) (h : xs.all isLeaf = true) (f : fits (.tuple (xs.map leafD)) = true) : ∃ d, KX K p H (.ref a) d :=
  ⟨_, fun _ s => .of (.tup (SqT.of (s _ _ n e)) (leaves_dp h)), fits_of f⟩
theorem KX.lst {K : PySem.W.Frag} {p a : Addr} {H : Hp} {xs : List V} (e : H a = some (.lst xs)) (n : a ≠ p) (h : xs.all isLeaf = true) (f : fits (.list (xs.map leafD)) = true) : ∃ d, KX K p H (.ref a) d :=
  ⟨_, fun _ s => .of (.lst (SqL.of (s _ _ n e)) (leaves_dp h)), fits_of f⟩
theorem KX.dK {K : PySem.W.Frag} {p a : Addr} {H : Hp} {kvs : List (Key × V)} (e : H a = some (.dK kvs)) (n : a ≠ p) (h : kvs.all (fun kv => isLeaf kv.2) = true) (f : fits (.dict (kvs.map fun kv => (leafD (kV kv.1), leafD kv.2))) = true) : ∃ d, KX K p H (.ref a) d :=
  ⟨_, fun _ s => .dict (s _ _ n e) (fun kv m => List.all_eq_true.mp h kv m), fits_of f⟩
def KXs (K : PySem.W.Frag) (p : Addr) (H : Hp) (xs : List V) : Prop := ∀ v ∈ xs, ∃ d, KX K p H v d
theorem KXs.nil {K : PySem.W.Frag} {p : Addr} {H : Hp} : KXs K p H [] := fun v h => nomatch h
theorem KXs.cons {K : PySem.W.Frag} {p : Addr} {H : Hp} {x : V} {xs : List V} (h : ∃ d, KX K p H x d) (r : KXs K p H xs) : KXs K p H (x :: xs) := fun v m => by
  rcases List.mem_cons.mp m with e | m
  · subst e; exact h
  · exact r v m
theorem rd_ixX {K : PySem.W.Frag} {H : Hp} {Q : VK} {p a : Addr} {xs : List V} {d : Int} (h : SqL K H a xs) (h0 : 0 ≤ d) (h1 : d < xs.length) (kd : KXs K p H xs) (q : ∀ v e, KX K p H v e → Q v H) : rIxL K (.ref a) (.int d) H Q := by
  have hd : d.toNat < xs.length := by omega
  obtain ⟨e, he⟩ := kd xs[d.toNat] (List.getElem_mem hd)
  exact rd_ixL h (atI_int h0 (List.getElem?_eq_getElem hd)) (q _ e he)
def spThingD (K : PySem.W.Frag) : Sp := fun vs H Q _ => ∃ (p : Addr) (n : Nat) (c : Addr), vs = [.ref p] ∧ PenAt c H p n ∧ n + 1 < 100000 ∧ ∀ v d H', KX K p H' v d → PenAt c H' p (n + 1) → Keep p H H' → Q v H'
/-! ### errors as values -/
def ExA (C : Addr) (H : Hp) (a : Addr) : Prop := (∃ fs, ErrAt C H a fs) ∨ H a = some (exv a (.ref C) none)
theorem ExA.mono {C : Addr} {H H' : Hp} {a : Addr} (s : Same H H') (h : ExA C H a) : ExA C H' a := by
  rcases h with ⟨fs, h⟩ | h
  · exact .inl ⟨fs, h.mono s⟩
  · exact .inr (s _ _ h)
theorem ExA.ty {K : PySem.W.Frag} {C : Addr} {H : Hp} {a : Addr} (c : ExcC K C) (h : ExA C H a) : TyW K H (.ref a) (.ref C) := by
  rcases h with ⟨fs, h⟩ | h
  · exact h.ty c
  · exact .exn h c
def tNew (t : L2.St → Hp → XK → Prop) : TE := fun σ H Q => t σ H fun cls d H1 => ∀ a, H1 a = none → Q (.ref a) (upd H1 a (exv a cls d))
theorem pe_new {X : Cx} {e : Expr} {t : L2.St → Hp → XK → Prop} (h : PMk X e t) : PE X e (tNew t) := pe_of_mk h
theorem new_at {C : Addr} {H : Hp} {fs : List (Str × V)} {Q : VK} (q : ∀ e H', Same H H' → ErrAt C H' e fs → Q (.ref e) H') : ∀ d H', H d = none → Same H H' → H' d = some (.xd fs) → ∀ a, H' a = none → Q (.ref a) (upd H' a (exv a (.ref C) (some d))) :=
  fun d H' hd s e a ha => q a _ (s.trans (Same.upd ha)) ⟨d, upd_same, by rw [upd_ne (fun z => by subst z; rw [ha] at e; cases e)]; exact e⟩
theorem rd_new2 {C : Addr} {f1 f2 : Str} {i j : Nat} {v1 v2 : V} {σ : L2.St} {H : Hp} {Q : VK} (h1 : σ[i]? = some (some v1)) (h2 : σ[j]? = some (some v2)) (q : ∀ e H', Same H H' → ErrAt C H' e [(f2, v2), (f1, v1)] → Q (.ref e) H') :
    tNew (tMkO C (spErr2 C f1 f2) [] (tCons (tVar i) (tCons (tVar j) tNil))) σ H Q := ⟨v1, h1, v2, h2, mk_err2 (Q := fun cls d H1 => ∀ a, H1 a = none → Q (.ref a) (upd H1 a (exv a cls d))) (new_at q)⟩
theorem rd_new1 {C : Addr} {f1 : Str} {i : Nat} {v1 : V} {σ : L2.St} {H : Hp} {Q : VK} (h1 : σ[i]? = some (some v1)) (q : ∀ e H', Same H H' → ErrAt C H' e [(f1, v1)] → Q (.ref e) H') :
    tNew (tMkO C (spErr1 C f1) [] (tCons (tVar i) tNil)) σ H Q := ⟨v1, h1, mk_err1 (Q := fun cls d H1 => ∀ a, H1 a = none → Q (.ref a) (upd H1 a (exv a cls d))) (new_at q)⟩
theorem rd_newK2 {C : Addr} {f1 f2 : Str} {i j : Nat} {v1 v2 : V} {σ : L2.St} {H : Hp} {Q : VK} (h1 : σ[i]? = some (some v1)) (h2 : σ[j]? = some (some v2)) (q : ∀ e H', Same H H' → ErrAt C H' e [(f2, v2), (f1, v1)] → Q (.ref e) H') :
    tNew (tMkK C 2 (spErr2 C f1 f2) (fun us zs => us ++ zs) (tCons (tVar i) (tCons (tVar j) tNil))) σ H Q := by
  refine ⟨v1, h1, v2, h2, rfl, ?_⟩
  have z := (mk_err2 (C := C) (f1 := f1) (f2 := f2) (v1 := v1) (v2 := v2) (H := H) (Q := fun cls d H1 => ∀ a, H1 a = none → Q (.ref a) (upd H1 a (exv a cls d))) (new_at q)).2
  exact z
theorem rd_newK1 {C : Addr} {f1 : Str} {i : Nat} {v1 : V} {σ : L2.St} {H : Hp} {Q : VK} (h1 : σ[i]? = some (some v1)) (q : ∀ e H', Same H H' → ErrAt C H' e [(f1, v1)] → Q (.ref e) H') :
    tNew (tMkK C 1 (spErr1 C f1) (fun us zs => us ++ zs) (tCons (tVar i) tNil)) σ H Q := by
  refine ⟨v1, h1, rfl, ?_⟩
  have z := (mk_err1 (C := C) (f1 := f1) (v1 := v1) (H := H) (Q := fun cls d H1 => ∀ a, H1 a = none → Q (.ref a) (upd H1 a (exv a cls d))) (new_at q)).2
  exact z
/-- X(), X an own exception class without own __init__ -/
theorem pmk_own0 {X : Cx} {C : Addr} {bmB : List Value} {B newId initId : String} {x : Str} {p pos : Pos} (F : ExcBaseFacts B newId initId bmB) (q : PySem.W.excIn X.K C bmB newId = true) (gC : X.mg x = some (.ref C))
    (kC : PySem.W.keepIn X.K (.ref C) = true) (r : Raises X (.ref C)) (hg : Gl X x) (hdb : (x == ("__debug__" : Str)) = false := by decide) : PMk X (.Call (.Name x p) [] [] pos) (fun σ H Q => Q (.ref C) none H) := by
  intro pins s σ H Q I h
  refine wpAny_Call_Name_kw (ld_glob I hg gC ?_ hdb)
  obtain ⟨bm, N, nm, qn, bs, hdct, sn, sub, ab, col, dd, k0, k1, k2, k3, k5, mN, hC, hN, hni, T⟩ := exc_obj I.kIn q
  refine PySem.W.callWith_K0 I.kIn kC (wpAny_call_exc_subT (rest := []) F T hC hN hni (fun h' e hm => ?_) (by decide))
  exact mk_of I hm r h (I.hok.gone hm.new)
theorem rd_new0 {C : Addr} {σ : L2.St} {H : Hp} {Q : VK} (q : ∀ e H', Same H H' → H' e = some (exv e (.ref C) none) → Q (.ref e) H') : tNew (fun σ H Q => Q (.ref C) none H) σ H Q := fun a ha => q a _ (Same.upd ha) upd_same
theorem rd_tXv {K : PySem.W.Frag} {C : Addr} {n : Str} {te : TE} {σ : L2.St} {H : Hp} {Q : VK} {fs : List (Str × V)} {v : V} (T : XfC K C) (hn : PySem.W.findIn K (.ref C) n = some none) (l : fs.lookup n = some v)
    (h : ∀ R : VK, (∀ e H', Same H H' → ErrAt C H' e fs → R (.ref e) H') → te σ H R) (q : ∀ H', Same H H' → Q v H') : tXv K n te σ H Q :=
  h _ fun e H' s er => rd_err (te := te) (σ := σ) (H := H) T hn l er (q H' s)
end Lay

end

section
namespace OwnC
open PySem L2 PySem.Spec PyProof.Rows PySem.SeqAt
/-! ### what is no instance declines to be compared with an instance -/
section
variable {prog : Program} {w : World} {A : Around} {E : Value → Shared → Prop} {s : Shared} {K : PySem.W.Frag} {x C dx : Addr}
def instO (C dx : Addr) : Obj := PySem.W.instObj C dx
theorem int_eq_inst (i : Int) (t : Tok) : Meets (Builtin.«int.__eq__» ⟨[.int i t, .ref x], []⟩) (fun _ R s => s.heap.get? x = some (PySem.W.instObj C dx) ∧ R (.ok (.ret .notImplemented)) s) :=
  .of_wp fun prog w A R s h => by obtain ⟨hp, g, d, tk, os⟩ := s; obtain ⟨hl, h⟩ := h; wp_walk using wpAny_loadPart' hl, wpAny_load hl; exact ⟨_, rfl, h⟩
theorem int_ne_inst (i : Int) (t : Tok) : Meets (Builtin.«int.__ne__» ⟨[.int i t, .ref x], []⟩) (fun _ R s => s.heap.get? x = some (PySem.W.instObj C dx) ∧ R (.ok (.ret .notImplemented)) s) :=
  .of_wp fun prog w A R s h => by obtain ⟨hp, g, d, tk, os⟩ := s; obtain ⟨hl, h⟩ := h; wp_walk using wpAny_loadPart' hl, wpAny_load hl; exact ⟨_, rfl, h⟩
theorem bool_eq_inst (i : Bool) : Meets (Builtin.«int.__eq__» ⟨[.bool i, .ref x], []⟩) (fun _ R s => s.heap.get? x = some (PySem.W.instObj C dx) ∧ R (.ok (.ret .notImplemented)) s) :=
  .of_wp fun prog w A R s h => by obtain ⟨hp, g, d, tk, os⟩ := s; obtain ⟨hl, h⟩ := h; wp_walk using wpAny_loadPart' hl, wpAny_load hl; exact ⟨_, rfl, h⟩
theorem bool_ne_inst (i : Bool) : Meets (Builtin.«int.__ne__» ⟨[.bool i, .ref x], []⟩) (fun _ R s => s.heap.get? x = some (PySem.W.instObj C dx) ∧ R (.ok (.ret .notImplemented)) s) :=
  .of_wp fun prog w A R s h => by obtain ⟨hp, g, d, tk, os⟩ := s; obtain ⟨hl, h⟩ := h; wp_walk using wpAny_loadPart' hl, wpAny_load hl; exact ⟨_, rfl, h⟩
theorem str_eq_inst (i : Str) (t : Tok) : Meets (Builtin.«str.__eq__» ⟨[.str i t, .ref x], []⟩) (fun _ R s => s.heap.get? x = some (PySem.W.instObj C dx) ∧ R (.ok (.ret .notImplemented)) s) :=
  .of_wp fun prog w A R s h => by obtain ⟨hp, g, d, tk, os⟩ := s; obtain ⟨hl, h⟩ := h; wp_walk using wpAny_loadPart' hl, wpAny_load hl; exact ⟨_, rfl, h⟩
theorem str_ne_inst (i : Str) (t : Tok) : Meets (Builtin.«str.__ne__» ⟨[.str i t, .ref x], []⟩) (fun _ R s => s.heap.get? x = some (PySem.W.instObj C dx) ∧ R (.ok (.ret .notImplemented)) s) :=
  .of_wp fun prog w A R s h => by obtain ⟨hp, g, d, tk, os⟩ := s; obtain ⟨hl, h⟩ := h; wp_walk using wpAny_loadPart' hl, wpAny_load hl; exact ⟨_, rfl, h⟩
theorem isi_no {M : Model} {T : String} {ox : Obj} {od : Option Obj} {Q : Bool → Shared → Prop} (X : K.In s.heap) (I : PySem.W.InstAt s.heap x ox C od) (hm : PySem.W.mroIn K C (.type T) = some false) (h : Q false s) : wpAny M A (isInstance (.ref x) (.type T)) Q E s := by
  simp only [isInstance]
  exact wpAny_bind (I.type.here ((PySem.W.looks_mroIn X hm).here h))
theorem list_eq_inst {ox : Obj} {od : Option Obj} (l : Addr) : Meets (Builtin.«list.__eq__» ⟨[.ref l, .ref x], []⟩) (fun _ R s => K.In s.heap ∧ PySem.W.InstAt s.heap x ox C od ∧ PySem.W.mroIn K C (.type "list") = some false ∧ R (.ok (.ret .notImplemented)) s) :=
  .of_wp fun prog w A R s h => by
    obtain ⟨X, I, hm, h⟩ := h
    delta Builtin.«list.__eq__»
    repeat (first | (with_reducible refine wpAny_bind (isi_no X I hm ?_)) | (with_reducible refine isi_no X I hm ?_) | wp_step)
    exact ⟨_, rfl, h⟩
theorem list_ne_inst {ox : Obj} {od : Option Obj} (l : Addr) : Meets (Builtin.«list.__ne__» ⟨[.ref l, .ref x], []⟩) (fun _ R s => K.In s.heap ∧ PySem.W.InstAt s.heap x ox C od ∧ PySem.W.mroIn K C (.type "list") = some false ∧ R (.ok (.ret .notImplemented)) s) :=
  .of_wp fun prog w A R s h => by
    obtain ⟨X, I, hm, h⟩ := h
    delta Builtin.«list.__ne__»
    repeat (first | (with_reducible refine wpAny_bind (isi_no X I hm ?_)) | (with_reducible refine isi_no X I hm ?_) | wp_step)
    exact ⟨_, rfl, h⟩
theorem tuple_eq_inst {ox : Obj} {od : Option Obj} (l : Addr) : Meets (Builtin.«tuple.__eq__» ⟨[.ref l, .ref x], []⟩) (fun _ R s => K.In s.heap ∧ PySem.W.InstAt s.heap x ox C od ∧ PySem.W.mroIn K C (.type "tuple") = some false ∧ R (.ok (.ret .notImplemented)) s) :=
  .of_wp fun prog w A R s h => by
    obtain ⟨X, I, hm, h⟩ := h
    delta Builtin.«tuple.__eq__»
    repeat (first | (with_reducible refine wpAny_bind (isi_no X I hm ?_)) | (with_reducible refine isi_no X I hm ?_) | wp_step)
    exact ⟨_, rfl, h⟩
theorem tuple_ne_inst {ox : Obj} {od : Option Obj} (l : Addr) : Meets (Builtin.«tuple.__ne__» ⟨[.ref l, .ref x], []⟩) (fun _ R s => K.In s.heap ∧ PySem.W.InstAt s.heap x ox C od ∧ PySem.W.mroIn K C (.type "tuple") = some false ∧ R (.ok (.ret .notImplemented)) s) :=
  .of_wp fun prog w A R s h => by
    obtain ⟨X, I, hm, h⟩ := h
    delta Builtin.«tuple.__ne__»
    repeat (first | (with_reducible refine wpAny_bind (isi_no X I hm ?_)) | (with_reducible refine isi_no X I hm ?_) | wp_step)
    exact ⟨_, rfl, h⟩
end
/-- what == and != of a class's instances need of the class beside its own == -/
structure NoSeq (K : PySem.W.Frag) (C : Addr) : Prop where
  lst : PySem.W.mroIn K C (.type "list") = some false
  tup : PySem.W.mroIn K C (.type "tuple") = some false
/-- a value that is no instance -/
inductive NIns (K : PySem.W.Frag) (H : Hp) : V → Value → Prop
  | non : NIns K H .non (.type "NoneType")
  | bl (b : Bool) : NIns K H (.bl b) (.type "bool")
  | int (i : Int) : NIns K H (.int i) (.type "int")
  | str (z : Str) : NIns K H (.str z) (.type "str")
  | tup {a : Addr} {xs : List V} (h : SqT K H a xs) : NIns K H (.ref a) (.type "tuple")
  | lst {a : Addr} {xs : List V} (h : SqL K H a xs) : NIns K H (.ref a) (.type "list")
theorem NIns.kty {K : PySem.W.Frag} {H : Hp} {y : V} {T : Value} (k : NIns K H y T) : KTy K H y T := by
  cases k with
  | non => exact .non
  | bl b => exact .bl b
  | int i => exact .int i
  | str z => exact .str z
  | tup h => exact .tup h
  | lst h => exact .lst h
section
variable {X : Cx} {H : Hp} {s : Shared} {σ : L2.St} {pins : List (Addr × Obj)} {A : Around} {E : Value → Shared → Prop}
theorem back_eq {y : V} {v T : Value} {a C dx : Addr} {fs : List (Str × V)} (I : Inv X pins σ H s) (r : RelV y v) (k : NIns X.K H y T) (ha : H a = some (.ins C dx fs)) (n : NoSeq X.K C) :
    wpAny (model X.prog X.w) A (tryCompare v "__eq__" (.ref a)) (fun r s' => r = none ∧ s' = s) E s := by
  obtain ⟨m1, J, _⟩ := ins_get I.hok ha
  obtain ⟨od, J, _⟩ := J.look
  cases k with
  | non => cases r; exact wpAny_tryCompare_declines (show s.TypeIs .none "NoneType" from rfl) F.slot_NoneType_eq_refl (call_gives F.slot_NoneType_eq_refl rfl F.entry_NoneType_eq (F.args_NoneType_eq_2 _ _) (NoneType___eq___none_ref_0 a) ⟨rfl, rfl, rfl⟩)
  | bl b => cases r; exact wpAny_tryCompare_declines (T := "bool") rfl F.slot_bool_eq_refl (call_meets F.slot_bool_eq_refl rfl F.entry_int_eq (F.args_int_eq_2 _ _) (bool_eq_inst b) ⟨J.at_, rfl, rfl, rfl⟩)
  | int i => obtain ⟨t, rfl⟩ := r; exact wpAny_tryCompare_declines (typeIs_int s i t) F.slot_int_eq_refl (call_meets F.slot_int_eq_refl (typeIs_int s i t) F.entry_int_eq (F.args_int_eq_2 _ _) (int_eq_inst i t) ⟨J.at_, rfl, rfl, rfl⟩)
  | str z => obtain ⟨t, rfl⟩ := r; exact wpAny_tryCompare_declines (typeIs_str s z t) F.slot_str_eq_refl (call_meets F.slot_str_eq_refl (typeIs_str s z t) F.entry_str_eq (F.args_str_eq_2 _ _) (str_eq_inst z t) ⟨J.at_, rfl, rfl, rfl⟩)
  | tup h =>
    cases r
    obtain ⟨its, _, pl, _⟩ := I.tuple h
    obtain ⟨o, h1, h2, _⟩ := id pl
    exact wpAny_tryCompare_declines ⟨o, h1, h2⟩ F.slot_tuple_eq_refl (call_meets F.slot_tuple_eq_refl ⟨o, h1, h2⟩ F.entry_tuple_eq (F.args_tuple_eq_2 _ _) (tuple_eq_inst _) ⟨I.kIn, J, n.tup, rfl, rfl, rfl⟩)
  | lst h =>
    cases r
    obtain ⟨its, _, pl, _⟩ := I.list h
    obtain ⟨o, h1, h2, _⟩ := pl.isList
    exact wpAny_tryCompare_declines ⟨o, h1, h2⟩ F.slot_list_eq_refl (call_meets F.slot_list_eq_refl ⟨o, h1, h2⟩ F.entry_list_eq (F.args_list_eq_2 _ _) (list_eq_inst _) ⟨I.kIn, J, n.lst, rfl, rfl, rfl⟩)
theorem back_ne {y : V} {v T : Value} {a C dx : Addr} {fs : List (Str × V)} (I : Inv X pins σ H s) (r : RelV y v) (k : NIns X.K H y T) (ha : H a = some (.ins C dx fs)) (n : NoSeq X.K C) :
    wpAny (model X.prog X.w) A (tryCompare v "__ne__" (.ref a)) (fun r s' => r = none ∧ s' = s) E s := by
  obtain ⟨m1, J, _⟩ := ins_get I.hok ha
  obtain ⟨od, J, _⟩ := J.look
  cases k with
  | non => cases r; exact wpAny_tryCompare_declines (show s.TypeIs .none "NoneType" from rfl) F.slot_NoneType_ne_refl (call_gives F.slot_NoneType_ne_refl rfl F.entry_NoneType_ne (F.args_NoneType_ne_2 _ _) (NoneType___ne___none_ref_0 a) ⟨rfl, rfl, rfl⟩)
  | bl b => cases r; exact wpAny_tryCompare_declines (T := "bool") rfl F.slot_bool_ne_refl (call_meets F.slot_bool_ne_refl rfl F.entry_int_ne (F.args_int_ne_2 _ _) (bool_ne_inst b) ⟨J.at_, rfl, rfl, rfl⟩)
  | int i => obtain ⟨t, rfl⟩ := r; exact wpAny_tryCompare_declines (typeIs_int s i t) F.slot_int_ne_refl (call_meets F.slot_int_ne_refl (typeIs_int s i t) F.entry_int_ne (F.args_int_ne_2 _ _) (int_ne_inst i t) ⟨J.at_, rfl, rfl, rfl⟩)
  | str z => obtain ⟨t, rfl⟩ := r; exact wpAny_tryCompare_declines (typeIs_str s z t) F.slot_str_ne_refl (call_meets F.slot_str_ne_refl (typeIs_str s z t) F.entry_str_ne (F.args_str_ne_2 _ _) (str_ne_inst z t) ⟨J.at_, rfl, rfl, rfl⟩)
  | tup h =>
    cases r
    obtain ⟨its, _, pl, _⟩ := I.tuple h
    obtain ⟨o, h1, h2, _⟩ := id pl
    exact wpAny_tryCompare_declines ⟨o, h1, h2⟩ F.slot_tuple_ne_refl (call_meets F.slot_tuple_ne_refl ⟨o, h1, h2⟩ F.entry_tuple_ne (F.args_tuple_ne_2 _ _) (tuple_ne_inst _) ⟨I.kIn, J, n.tup, rfl, rfl, rfl⟩)
  | lst h =>
    cases r
    obtain ⟨its, _, pl, _⟩ := I.list h
    obtain ⟨o, h1, h2, _⟩ := pl.isList
    exact wpAny_tryCompare_declines ⟨o, h1, h2⟩ F.slot_list_ne_refl (call_meets F.slot_list_ne_refl ⟨o, h1, h2⟩ F.entry_list_ne (F.args_list_ne_2 _ _) (list_ne_inst _) ⟨I.kIn, J, n.lst, rfl, rfl, rfl⟩)
end
end OwnC

end

section
namespace OwnC
open PySem L2 PySem.Spec PyProof.Rows PySem.SeqAt
/-! ### a def that answers NotImplemented -/
/-- what is told behind such a call: nothing has changed -/
def NoE (outer : List Env) (P : Program) (w : World) (H : Hp) (s : Shared) (r : Result) (s' : Shared) : Prop :=
  r = .ok (.ret .notImplemented) ∧ s'.os = s.os ∧ AllBare s'.gens ∧ Un (frs outer) [] H H s.heap s'.heap ∧ HOk P w H s'.heap
structure FnNo (P : Program) (w : World) (K : PySem.W.Frag) (mg : Str → Option Value) (base : Heap) (k : Nat) (f : Addr) (fd : FuncData) (ps : List Str) (pre : List V → Hp → Prop) : Prop where
  len : ∀ vs H, pre vs H → vs.length = ps.length
  run : ∀ (A : Around) (outer : List Env) (s : Shared) (H : Hp) (args : Args) (us : List Value) (vs : List V), Room k A → Env0 P w K mg base A outer s H → BindsTo s fd args (ps.zip us) → Vals vs us → pre vs H →
    codeAny (model P w) A (.call (.ref f) args) (NoE outer P w H s) s
/-- the body ends in NotImplemented -/
def NoB (X : Cx) (body : List Stmt) (σ : L2.St) (H : Hp) : Prop := ∀ s, Inv X [] σ H s → wpAny (model X.prog X.w) X.A (execs body X.env) (fun fl s' => fl = .ret .notImplemented ∧ ∃ σ', Inv X [] σ' H s') X.xe s
theorem fnNo_of {P : Program} {w : World} {K : PySem.W.Frag} {mg : Str → Option Value} {base : Heap} {k : Nat} {f : Addr} {name qual : Str} {params : Arguments} {body : List Stmt} {scope : Scope} {dV kV doc pm cdv ct oc : Value} {an od : Option Addr}
    {osl : Array (Option Value)} {N ps : List Str} {pre : List V → Hp → Prop} (lk : K.lookup f = some ⟨oc, od, .func (PySem.W.fnOf name qual params body scope dV kV doc pm an cdv ct), osl⟩) (hcd : PySem.W.codeIn K cdv qual = true) (S : FnScope N ps scope)
    (len : ∀ vs H, pre vs H → vs.length = ps.length)
    (hbody : ∀ (A : Around) (outer : List Env) (s : Shared) (H : Hp) (vs : List V), Room k (A.deeper (envOfC qual scope s.heap.objs.size f cdv)) → pre vs H →
      NoB (cxOf (fun _ _ _ _ _ _ => False) P w K mg base N qual scope f cdv A outer s H (fun _ _ _ => False)) body (start N vs) H) :
    FnNo P w K mg base (k + 1) f (PySem.W.fnOf name qual params body scope dV kV doc pm an cdv ct) ps pre := by
  refine ⟨len, fun A outer s H args us vs hr e0 hb r hpre => ?_⟩
  have hl := len _ _ hpre
  have inK : K.In s.heap := e0.mod.kin.keeps fun b o e => (e0.bs b o e).1
  have noLim : s.heap.NoLimit := e0.mod.nolimit.keeps fun b o e => (e0.bs b o e).1
  have kinds : ∀ y ∈ ps.zip us, scope.names.lookup y.1 = some .local ∨ (scope.names.lookup y.1 = some .cell ∧ ((cellsFrom (s.heap.objs.size + 1) scope.names []).lookup y.1).isSome = true) := by
    rintro ⟨n, v⟩ hy
    exact (S.par n (List.of_mem_zip hy).1).elim .inl fun q => .inr ⟨q, PySem.W.cellsFrom_some _ _ _ (.inl q)⟩
  refine codeAny_call_function hr.depth (inK _ _ lk) rfl S.co S.gen rfl (PySem.W.codeRec_of inK hcd) (hb _ _ _ _ ?_)
  refine wpAny_newFunctionEnv_cells S.kind kinds fun env he s1 x => ?_
  subst he
  refine ⟨noLim.keeps x.toInCall.keep, codeAny_func ?_⟩
  have I : Inv (cxOf (fun _ _ _ _ _ _ => False) P w K mg base N qual scope f cdv A outer s H (fun _ _ _ => False)) [] (start N vs) H s1 := inv_start S hr.hd e0 hl r x
  refine wpAny_mono (hbody A outer s H vs (hr.deeper _) hpre s1 I) (fun fl s' hs => ?_) fun e s' hs => wpAny_mono hs (fun _ _ z => z.elim) fun _ _ z => z.elim
  obtain ⟨rfl, σ', J⟩ := hs
  exact ⟨rfl, J.os, J.bare, J.base, J.hok⟩
/-- if c: return NotImplemented, where c is so -/
theorem noB_if {X : Cx} {c : Expr} {rest b : List Stmt} {pos rp np : Pos} {tc : TT} {σ : L2.St} {H : Hp} (hc : PT X c tc) (hg : Gl X "NotImplemented") (hm : X.mg "NotImplemented" = none) (h : tc σ H fun b H' => b = true ∧ H' = H) :
    NoB X (.If c [.Return (some (.Name "NotImplemented" np)) rp] b pos :: rest) σ H := fun s I => by
  refine wpAny_execs_cons (thn (Q := fun fl s' => fl = .ret .notImplemented ∧ ∃ σ', Inv X [] σ' H s') ?_ fun fl s1 q => ?_)
  · refine wpAny_If (thn (hc.run [] s σ H _ I h) fun d s1 ⟨H1, I1, q1⟩ => ?_)
    obtain ⟨rfl, rfl⟩ := q1
    refine wpAny_execs_cons (thn (Q := fun fl s' => fl = .ret .notImplemented ∧ ∃ σ', Inv X [] σ' H1 s') ?_ fun fl s2 q => ?_)
    · exact wpAny_Return_some (ld_blt I1 hg hm (by rfl) ⟨rfl, σ, I1⟩ (by decide) (by decide))
    · obtain ⟨rfl, q⟩ := q
      exact ⟨rfl, q⟩
  · obtain ⟨rfl, q⟩ := q
    exact ⟨rfl, q⟩

/-! ### == and != where the own == answers NotImplemented to what is no instance -/
/-- the class C has an own == that answers NotImplemented where pre is so -/
structure OwnNo (X : Cx) (n : Nat) (C : Addr) (name : Str) (pre : List V → Hp → Prop) : Prop where
  ok : ∃ (f : Addr) (fd : FuncData) (ps : List Str), FnNo X.prog X.w X.K X.mg X.base n f fd ps pre ∧ Binds X.K fd ps [] ∧ PySem.W.findIn X.K (.ref C) name = some (some (.ref f)) ∧ PySem.W.isFn X.K (.ref f) = true
section
variable {X : Cx} {pins : List (Addr × Obj)} {σ : L2.St} {H : Hp} {s : Shared}
theorem call_no {n : Nat} {C : Addr} {name : Str} {pre : List V → Hp → Prop} {A : Around} {x y : V} {u v : Value} {E : Value → Shared → Prop} (o : OwnNo X n C name pre) (I : Inv X pins σ H s) (hr : Room n A)
    (e0 : Env0 X.prog X.w X.K X.mg X.base A X.stack s H) (rx : RelV x u) (ry : RelV y v) (q : pre [x, y] H) :
    ∃ f, PySem.W.findIn X.K (.ref C) name = some (some (.ref f)) ∧ PySem.W.isFn X.K (.ref f) = true ∧ wpAny (model X.prog X.w) A (call (.ref f) [u, v]) (fun r s' => r = .notImplemented ∧ Inv X pins σ H s') E s := by
  obtain ⟨f, fd, ps, F, hb, hs, hf⟩ := o.ok
  have hl : [x, y].length = ps.length := F.len _ _ q
  refine ⟨f, hs, hf, wpAny_call (codeAny_mono (F.run A X.stack s H ⟨[u, v], []⟩ [u, v] [x, y] hr e0 ?_ (.cons rx (.cons ry .nil)) q) fun r s2 hq => ?_)⟩
  · have := hb s [u, v] I.kIn (by simpa using hl)
    simpa using this
  · obtain ⟨rfl, os, bare, un, hok⟩ := hq
    obtain ⟨hh, g, d, t, os'⟩ := s2
    obtain rfl : os' = s.os := os
    exact ⟨rfl, I.call (h' := hh) (g' := g) (d' := d) (t' := t) (ch := []) un hok bare (fun b z => absurd z (by simp))⟩
theorem same_ins {y : V} {v T : Value} {a C dx : Addr} {fs : List (Str × V)} {A : Around} {M : Model} {E : Value → Shared → Prop} {R : Bool → Shared → Prop} (I : Inv X pins σ H s) (r : RelV y v) (k : NIns X.K H y T) (ha : H a = some (.ins C dx fs)) (h : R false s) :
    wpAny M A (isSame (.ref a) v) R E s := by
  obtain ⟨m1, J, _⟩ := ins_get I.hok ha
  obtain ⟨od, J, _⟩ := J.look
  have hnt : (PySem.W.instObj C dx).cls ≠ .type "tuple" := fun z => nomatch z
  have ne : ∀ {b : Addr} {o : Obj} {T : String}, s.heap.get? b = some o → o.cls = .type T → a ≠ b := fun {b o T} e1 e2 z => by
    subst z
    have e3 := J.at_.symm.trans e1
    injection e3 with e3
    subst e3
    cases e2
  cases k with
  | non => cases r; exact wpAny_of_eq (rfl : isSame (.ref a) .none = pure false) h
  | bl b => cases r; exact wpAny_of_eq (rfl : isSame (.ref a) (.bool b) = pure false) h
  | int i => obtain ⟨t, rfl⟩ := r; exact wpAny_of_eq (rfl : isSame (.ref a) (.int i t) = pure false) h
  | str z => obtain ⟨t, rfl⟩ := r; exact wpAny_of_eq (rfl : isSame (.ref a) (.str z t) = pure false) h
  | tup q =>
    cases r
    obtain ⟨its, _, pl, _⟩ := I.tuple q
    obtain ⟨o, h1, h2, _⟩ := id pl
    exact wpAny_isSame_ref_other (ne h1 h2) J.at_ h1 hnt h
  | lst q =>
    cases r
    obtain ⟨its, _, pl, _⟩ := I.list q
    obtain ⟨o, h1, h2, _⟩ := pl.isList
    exact wpAny_isSame_ref_other (ne h1 h2) J.at_ h1 hnt h
/-- an instance against what is none -/
def rEqNo (X : Cx) (neg : Bool) : R2 := fun x y H Q => ∃ a C dx fs T n pre, x = .ref a ∧ H a = some (.ins C dx fs) ∧ NIns X.K H y T ∧ PySem.W.notFirst X.K C T = true ∧ NoSeq X.K C ∧ OwnNo X n C "__eq__" pre ∧ Room (n + 1) X.A ∧ (neg = true → NeC X.K C) ∧ pre [x, y] H ∧ Q (.bl neg) H
theorem rfst {K : PySem.W.Frag} {C : Addr} {T : Value} (hn : PySem.W.notFirst K C T = true) (uneq : (Value.ref C != T) = true) : PySem.W.subIn K T (.ref C) = some false := by
  have two := Bool.or_eq_true_iff.mp hn
  refine two.elim (fun e => ?_) (fun e => beq_iff_eq.mp e)
  rw [beq_iff_eq.mp e] at uneq
  simp at uneq
theorem op_eqNo : OpR X (compareOp .Eq) (rEqNo X false) := by
  intro pn st s H x y v u Q I rx ry told
  obtain ⟨a, C, dx, fs, T, n, pre, rfl, ha, k, hn, ns, o, hr, _, hp, q⟩ := told
  have ev : v = Value.ref a := rx
  subst ev
  obtain ⟨m1, J, _⟩ := ins_get I.hok ha
  obtain ⟨od, J, _⟩ := J.look
  obtain ⟨f, hs, hf, hcall⟩ := call_no (E := X.xe) o I (hr.mono (Nat.le_succ n)) I.env0 rx ry hp
  have one : wpAny (model X.prog X.w) X.A (tryCompare (.ref a) "__eq__" u) (fun r s' => r = none ∧ Inv X pn s H s') X.xe st := by
    unfold tryCompare
    refine wpAny_bind (PySem.W.ifBound_K I.kIn J hs hf (wpAny_mono hcall (fun r s' z => ?_) fun _ _ e => e))
    obtain ⟨rfl, z⟩ := z
    exact wpAny_pure ⟨rfl, z⟩
  have fin : ∀ s', Inv X pn s H s' → wpAny (model X.prog X.w) X.A (isSame (.ref a) u >>= fun b => pure (Value.bool b)) (EP X pn s Q) X.xe s' := fun s' I' =>
    wpAny_bind (same_ins I' ry k ha (wpAny_pure ⟨.bl false, H, I', rfl, q⟩))
  have rest : wpAny (model X.prog X.w) X.A (tryCompare (.ref a) "__eq__" u) (fun r s' => r = none ∧ wpAny (model X.prog X.w) X.A (tryCompare u "__eq__" (.ref a)) (fun r s' => r = none ∧ Inv X pn s H s') X.xe s') X.xe st :=
    thn one fun r s' ⟨e, I'⟩ => ⟨e, thn (back_eq I' ry k ha ns) fun r2 s2 ⟨e2, e3⟩ => ⟨e2, e3 ▸ I'⟩⟩
  show wpAny _ X.A (richCompare .Eq (.ref a) u) (EP X pn s Q) X.xe st
  unfold richCompare
  simp only [oneThing_ref]
  refine wpAny_holding (wpAny_bind (wpAny_cRoomFor (hr.units0) ?_))
  rw [cmpInfo_Eq]
  dsimp only
  refine wpAny_bind (J.type.here (wpAny_bind ((looks_ty I ry k.kty).here ?_)))
  split
  · rename_i uneq
    refine wpAny_bind ((PySem.W.looks_subIn I.kIn (rfst hn uneq)).here ?_)
    simp only [Bool.false_eq_true, if_false, Bool.not_false, if_true]
    refine wpAny_bind (m := tryCompare (.ref a) _ u) (thn rest fun r s1 z => ?_)
    obtain ⟨rfl, z⟩ := z
    refine wpAny_bind (m := tryCompare u _ (.ref a)) (thn z fun r s2 z2 => ?_)
    obtain ⟨rfl, I2⟩ := z2
    exact wpAny_bind (wpAny_rule (fin _ I2))
  · refine wpAny_bind (wpAny_pure ?_)
    simp only [Bool.false_eq_true, if_false, Bool.not_false, if_true]
    refine wpAny_bind (m := tryCompare (.ref a) _ u) (thn rest fun r s1 z => ?_)
    obtain ⟨rfl, z⟩ := z
    refine wpAny_bind (m := tryCompare u _ (.ref a)) (thn z fun r s2 z2 => ?_)
    obtain ⟨rfl, I2⟩ := z2
    exact wpAny_bind (wpAny_rule (fin _ I2))

theorem entry_neNo {A : Around} {C x : Addr} {ox : Obj} {od : Option Obj} {f : Addr} {b : Value} {E : Value → Shared → Prop} {W : Shared → Prop} (hu : A.units < cLine) (J : PySem.W.InstAt s.heap x ox C od) (kx : X.K.In s.heap)
    (hs : PySem.W.findIn X.K (.ref C) "__eq__" = some (some (.ref f))) (hf : PySem.W.isFn X.K (.ref f) = true)
    (h : wpAny (model X.prog X.w) A (call (.ref f) [.ref x, b]) (fun v s' => v = .notImplemented ∧ W s') E s) : wpAny (model X.prog X.w) A (Builtin.«object.__ne__» ⟨[.ref x, b], []⟩) (fun fin s' => fin = .done (.ret .notImplemented) ∧ W s') E s := by
  delta Builtin.«object.__ne__»; repeat (first
    | (with_reducible refine wpAny_cRoomFor hu ?_)
    | (refine wpAny_bind (m := callSpecialIfBound? (.ref x) (Str.ofString "__eq__") [b]) (PySem.W.ifBound_K kx J hs hf (wpAny_mono h (fun r s' hr => ?_) fun _ _ e => e))
       obtain ⟨rfl, hq⟩ := hr
       repeat (first | exact ⟨rfl, hq⟩ | exact wpAny_pure ⟨rfl, hq⟩ | wp_step))
    | wp_step)
theorem call_neNo {A : Around} {C x : Addr} {ox : Obj} {od : Option Obj} {f : Addr} {b : Value} {E : Value → Shared → Prop} {W : Shared → Prop} (hu : A.units + 1 < cLine) (J : PySem.W.InstAt s.heap x ox C od) (kx : X.K.In s.heap) (hm : PySem.W.mroIn X.K C (.type "object") = some true)
    (hs : PySem.W.findIn X.K (.ref C) "__eq__" = some (some (.ref f))) (hf : PySem.W.isFn X.K (.ref f) = true)
    (h : wpAny (model X.prog X.w) A.in1 (call (.ref f) [.ref x, b]) (fun v s' => v = .notImplemented ∧ W s') E s) : wpAny (model X.prog X.w) A (call (.builtin "object.__ne__") [.ref x, b]) (fun r s' => r = .notImplemented ∧ W s') E s := by
  refine wpAny_call (codeAny_call_builtin F.cmp_object.ne.plain F.cmpEntry_ne (PySem.W.check_slot F.cmpKind_ne F.cmpSplit_ne (J.type.andThen (PySem.W.looks_mroIn kx hm)) (F.cmpArgs_ne _ _) ?_))
  refine thn (entry_neNo (A := A.in1) hu J kx hs hf h) fun fin s' z => ?_
  obtain ⟨rfl, z⟩ := z
  exact ⟨rfl, z⟩
theorem op_neNo : OpR X (compareOp .NotEq) (rEqNo X true) := by
  intro pn st s H x y v u Q I rx ry told
  obtain ⟨a, C, dx, fs, T, n, pre, rfl, ha, k, hn, ns, o, hr, hne, hp, q⟩ := told
  have hne := hne rfl
  have ev : v = Value.ref a := rx
  subst ev
  obtain ⟨m1, J, _⟩ := ins_get I.hok ha
  obtain ⟨od, J, _⟩ := J.look
  obtain ⟨f, hs, hf, hcall⟩ := call_no (E := X.xe) o I hr.in1 I.env0.in1 rx ry hp
  have hu : X.A.units + 1 < cLine := hr.in1.units0
  have one : wpAny (model X.prog X.w) X.A (tryCompare (.ref a) "__ne__" u) (fun r s' => r = none ∧ Inv X pn s H s') X.xe st := by
    unfold tryCompare
    refine wpAny_bind (bound_ne I.kIn J hne.ne (thn (call_neNo hu J I.kIn hne.mro hs hf hcall) fun r s' z => ?_))
    obtain ⟨rfl, z⟩ := z
    exact wpAny_pure ⟨rfl, z⟩
  have fin : ∀ s', Inv X pn s H s' → wpAny (model X.prog X.w) X.A (isSame (.ref a) u >>= fun b => pure (Value.bool (!b))) (EP X pn s Q) X.xe s' := fun s' I' =>
    wpAny_bind (same_ins I' ry k ha (wpAny_pure ⟨.bl true, H, I', rfl, q⟩))
  have rest : wpAny (model X.prog X.w) X.A (tryCompare (.ref a) "__ne__" u) (fun r s' => r = none ∧ wpAny (model X.prog X.w) X.A (tryCompare u "__ne__" (.ref a)) (fun r s' => r = none ∧ Inv X pn s H s') X.xe s') X.xe st :=
    thn one fun r s' ⟨e, I'⟩ => ⟨e, thn (back_ne I' ry k ha ns) fun r2 s2 ⟨e2, e3⟩ => ⟨e2, e3 ▸ I'⟩⟩
  show wpAny _ X.A (richCompare .NotEq (.ref a) u) (EP X pn s Q) X.xe st
  unfold richCompare
  simp only [oneThing_ref]
  refine wpAny_holding (wpAny_bind (wpAny_cRoomFor (hr.units0) ?_))
  rw [cmpInfo_NotEq]
  dsimp only
  refine wpAny_bind (J.type.here (wpAny_bind ((looks_ty I ry k.kty).here ?_)))
  split
  · rename_i uneq
    refine wpAny_bind ((PySem.W.looks_subIn I.kIn (rfst hn uneq)).here ?_)
    simp only [Bool.false_eq_true, if_false, Bool.not_false, if_true]
    refine wpAny_bind (m := tryCompare (.ref a) _ u) (thn rest fun r s1 z => ?_)
    obtain ⟨rfl, z⟩ := z
    refine wpAny_bind (m := tryCompare u _ (.ref a)) (thn z fun r s2 z2 => ?_)
    obtain ⟨rfl, I2⟩ := z2
    exact wpAny_bind (wpAny_rule (fin _ I2))
  · refine wpAny_bind (wpAny_pure ?_)
    simp only [Bool.false_eq_true, if_false, Bool.not_false, if_true]
    refine wpAny_bind (m := tryCompare (.ref a) _ u) (thn rest fun r s1 z => ?_)
    obtain ⟨rfl, z⟩ := z
    refine wpAny_bind (m := tryCompare u _ (.ref a)) (thn z fun r s2 z2 => ?_)
    obtain ⟨rfl, I2⟩ := z2
    exact wpAny_bind (wpAny_rule (fin _ I2))
/-! ### +, < and the truth, by own defs -/
/-- x + y, both of the class at C -/
def rAddO (X : Cx) : R2 := fun x y H Q => ∃ a b C dx fs dy gs CX n sp E, x = .ref a ∧ H a = some (.ins C dx fs) ∧ y = .ref b ∧ H b = some (.ins C dy gs) ∧ PySem.W.selfFirst X.K C = true ∧ OwnM X CX n C "__add__" sp E ∧ Room n X.A ∧ sp [x, y] H Q E
theorem op_addO : OpR X (binaryOp .Add) (rAddO X) := by
  intro pn st s H x y v u Q I rx ry told
  obtain ⟨a, b, C, dx, fs, dy, gs, CX, n, sp, E, rfl, ha, rfl, hb, hc, o, hr, q⟩ := told
  have ev : v = Value.ref a := rx
  have eu : u = Value.ref b := ry
  subst ev eu
  obtain ⟨m1, J, _⟩ := ins_get I.hok ha
  obtain ⟨od, J, _⟩ := J.look
  obtain ⟨m2, J2, _⟩ := ins_get I.hok hb
  obtain ⟨od2, J2, _⟩ := J2.look
  obtain ⟨m, hF⟩ := I.fr
  obtain ⟨f, hs, hf, hcall⟩ := call_own2 o I hr I.env0 rx ry q
  refine PySem.W.binop_K (op := .Add) hF I.ok.mod.kin J J2.type hc hs hf (thn hcall fun r s' z => ?_)
  obtain ⟨z2, H2, I2, rz, qz⟩ := z
  exact SlX.cmpback rz ⟨z2, H2, I2, rz, qz⟩
/-- x < y, y of no class below -/
def rLtO (X : Cx) : R2 := fun x y H Q => ∃ a C dx fs T CX n sp E, x = .ref a ∧ H a = some (.ins C dx fs) ∧ KTy X.K H y T ∧ PySem.W.notFirst X.K C T = true ∧ OwnM X CX n C "__lt__" sp E ∧ Room n X.A ∧ sp [x, y] H Q E
theorem op_ltO : OpR X (compareOp .Lt) (rLtO X) := by
  intro pn st s H x y v u Q I rx ry told
  obtain ⟨a, C, dx, fs, T, CX, n, sp, E, rfl, ha, k, hn, o, hr, q⟩ := told
  have ev : v = Value.ref a := rx
  subst ev
  obtain ⟨m1, J, _⟩ := ins_get I.hok ha
  obtain ⟨od, J, _⟩ := J.look
  obtain ⟨m, hF⟩ := I.fr
  obtain ⟨f, hs, hf, hcall⟩ := call_own2 o I hr I.env0 rx ry q
  show wpAny (model X.prog X.w) X.A (richCompare .Lt (.ref a) u) (EP X pn s Q) X.xe st
  refine PySem.W.cmp_K (op := .Lt) (tb := T) hr.units0 hF I.ok.mod.kin J (looks_ty I ry k) hn hs hf (thn hcall fun r s' z => ?_)
  obtain ⟨z2, H2, I2, rz, qz⟩ := z
  exact SlX.cmpback rz ⟨z2, H2, I2, rz, qz⟩
/-- the truth of an instance by its own __bool__ -/
def truO (X : Cx) (x : V) (H : Hp) (Q : Bool → Hp → Prop) : Prop := ∃ a C dx fs CX n sp E, x = .ref a ∧ H a = some (.ins C dx fs) ∧ OwnM X CX n C "__bool__" sp E ∧ Room (n + 2) X.A ∧ sp [x] H (fun v H' => ∃ b, v = .bl b ∧ Q b H') E
theorem truthy_O {A : Around} {v : Value} {Q : Bool → Shared → Prop} {a C dx : Addr} {fs : List (Str × V)} {CX : CXT} {n : Nat} {sp : Sp} {E : XK} (I : Inv X pins σ H s) (rx : RelV (.ref a) v) (ha : H a = some (.ins C dx fs)) (o : OwnM X CX n C "__bool__" sp E) (hr : Room n A)
    (e0 : Env0 X.prog X.w X.K X.mg X.base A X.stack s H) {Qb : Bool → Hp → Prop} (q : sp [.ref a] H (fun v H' => ∃ b, v = .bl b ∧ Qb b H') E) (hq : ∀ b H' s', Inv X pins σ H' s' → Qb b H' → Q b s') : wpAny (model X.prog X.w) A (truthy v) Q X.xe s := by
  have ev : v = Value.ref a := rx
  subst ev
  obtain ⟨m1, J, _⟩ := ins_get I.hok ha
  obtain ⟨od, J, _⟩ := J.look
  obtain ⟨m, hF⟩ := I.fr
  obtain ⟨f, hs, hf, hcall⟩ := call_own1 o I hr e0 rx q
  refine PySem.W.truthy_K hF I.ok.mod.kin J hs hf (thn hcall fun r s' z => ?_)
  obtain ⟨z2, H2, I2, rz, b, rfl, qz⟩ := z
  cases rz
  exact hq _ _ _ I2 qz
theorem pt_truO {a : Expr} {ta : TE} (ha : PE X a ta) (he : ∀ whole, isTrue a X.env whole = (do let v ← whole; standAt a.pos; holding [v] (truthy v))) :
    PT X a (fun σ H Q => ta σ H fun x H' => truO X x H' Q) := by
  refine ⟨fun pins s σ H Q I h => ?_⟩
  rw [he]
  refine wpAny_bind (thn (ha.run pins s σ H _ I h) fun v s1 ⟨x, H1, I1, r1, q1⟩ => ?_)
  refine wpAny_bind (wpAny_standAt (wpAny_holding ?_))
  obtain ⟨a, C, dx, fs, CX, n, sp, E, rfl, ha, o, hr, q⟩ := q1
  exact truthy_O I1 r1 ha o (hr.mono (Nat.le_add_right n 2)) I1.env0 q fun b H' s' I' z => ⟨H', I', z⟩

theorem new_boolO {A : Around} {x : Addr} {W : Bool → Shared → Prop} {E : Value → Shared → Prop} (h : wpAny (model X.prog X.w) A (truthy (.ref x)) W E s) :
    wpAny (model X.prog X.w) A (Builtin.«bool.__new__» ⟨[.type "bool", .ref x], []⟩) (fun fin s' => ∃ b, fin = .done (.ret (.bool b)) ∧ W b s') E s := by
  obtain ⟨hp, g, d, tk, os⟩ := s
  have f1 := F.conv_sub_bool
  have h' : wpAny (model X.prog X.w) A (truthy (.ref x)) (fun b s' => wpAny (model X.prog X.w) A (ret (.bool b)) (fun fin s' => ∃ b, fin = .done (.ret (.bool b)) ∧ W b s') E s') E ⟨hp, g, d, tk, os⟩ :=
    thn h fun b s' z => wpAny_pure ⟨b, rfl, z⟩
  repeat (any_goals (first | exact wpAny_bind h' | assumption | wp_step))
/-- bool(x) of an instance, by its own __bool__ -/
theorem call_boolO : CallR X (.type "bool") (fun xs H Q => ∃ x, xs = [x] ∧ truO X x H (fun b H' => Q (.bl b) H')) := by
  intro pn st s H xs us Q I r told
  obtain ⟨x, rfl, a, C, dx, fs, CX, n, sp, E, rfl, ha, o, hr, q⟩ := told
  obtain ⟨u, rfl, ru⟩ := vals1 r
  cases ru
  have tr : wpAny (model X.prog X.w) X.A.in1.in1 (truthy (.ref a)) (fun b s' => EP X pn s Q (.bool b) s') X.xe st :=
    truthy_O I rfl ha o hr.in1.in1 I.env0.in1.in1 q fun b H' s' I' z => ⟨.bl b, H', I', rfl, z⟩
  have two := new_boolO tr
  obtain ⟨c, tl, hmro⟩ := F.called_bool.mro
  have hmade := F.called_bool.made
  have hsub := F.called_bool.sub
  have h1 := F.called_bool.notType
  have h2 := F.called_bool.canCreate
  refine wpAny_call (codeAny_of_tree ?_)
  show wpAny _ _ (callAny (.type "bool") _) _ _ _
  refine wpAny_pure ⟨Code.quiet_builtin _ (by decide +kernel), codeAny_builtin F.entry_type_call ?_⟩
  rw [Around.under_plain (weight_type_call_type "bool" _ []) (units_type_call_type "bool" _ [])]
  repeat (any_goals (first | assumption | wp_step))
  have mid : codeAny (model X.prog X.w) X.A.in1 (.call (.builtin "bool.__new__") ⟨[.type "bool", .ref a], []⟩) (fun r s' => match r with | .ok (.ret v) => (∃ b, v = .bool b) ∧ EP X pn s Q v s' | .ok _ => False | .error e => X.xe e s') st := by
    refine codeAny_call_builtin F.called_bool.plain F.entry_bool_new (wpAny_of_eq (F.newCall_bool_1 _) (thn two fun fin s' z => ?_))
    obtain ⟨b, rfl, z⟩ := z
    exact ⟨⟨b, rfl⟩, z⟩
  refine codeAny_mono mid fun r2 s1 z => ?_
  cases r2 with
  | error e => exact z
  | ok fl =>
    cases fl with
    | ret ob =>
      obtain ⟨⟨b, rfl⟩, z⟩ := z
      have hT : s1.TypeIs (.bool b) "bool" := rfl
      have hli := F.called_bool.init.lookup
      have hbi := F.called_bool.init.bind (.bool b)
      repeat (any_goals (first | assumption | wp_step))
      refine codeAny_mono (codeAny_call_builtin F.called_bool.init.plain F.entry_object_init (F.called_bool.init.check _ _ _ _ _ _ _ _ hT (F.args_object_init_2 _ _) (object_init_meets F.called_bool.init.lookup F.called_bool.made F.newNe_bool X.prog X.w _ (wants (fun r s₂ => r = .none ∧ EP X pn s Q (.bool b) s₂) X.xe) s1 ⟨hT, rfl, z⟩))) fun r₂ s₂ hr₂ => ?_
      cases r₂ with
      | error e => exact hr₂
      | ok fl2 =>
        cases fl2 with
        | ret r =>
          obtain ⟨rfl, z2⟩ := hr₂
          repeat (any_goals (first | assumption | wp_step))
        | _ => exact hr₂.elim
    | _ => exact z.elim
end
end OwnC

end

section
namespace OwnC
open PySem L2 PySem.Spec PyProof.Rows
/-! ### a staticmethod, called by its class -/
structure SMet (K : PySem.W.Frag) (C : Addr) (mc : Value) (m : Str) (p g : Addr) : Prop where
  at_ : PySem.W.findCls K (.ref C) mc m = some (.get (.builtin "staticmethod.__get__") (.ref p) .none (.ref C))
  rc : ∃ rest, PySem.W.recIn K p "staticmethod" = some (.ref g :: rest)
  kp : PySem.W.keepIn K (.ref g) = true
def tSM (C : Addr) (sp : Sp) (E : XK) (ta : TE) : TE := fun σ H Q => ta σ H fun x H1 => x = .ref C ∧ sp [] H1 Q E
theorem rd_sm {C : Addr} {sp : Sp} {E : XK} {ta : TE} {σ : L2.St} {H : Hp} {Q : VK} (h : ta σ H fun x H1 => x = .ref C ∧ sp [] H1 Q E) : tSM C sp E ta σ H Q := h
section
variable {X : Cx} {CX : CXT} {k : Nat} {C p g : Addr} {mc : Value} {sp : Sp} {E : XK} {o : Expr} {m : Str} {pos apos : Pos} {ta : TE} {pl : Sem Bool} {fd : FuncData}
theorem pe_sm0 (he : PE X o ta) (r : ClX.CRead X.K C mc) (c : SMet X.K C mc m p g) (F : FnOk X.prog X.w X.K X.mg X.base CX k g fd [] sp) (hb : Binds X.K fd [] []) (hr : Room k X.A) (hx : Passes CX X E)
    (ht : eval (.Call (.Attribute o m apos) [] [] pos) X.env = (do
      let ov ← eval o X.env
      standAt apos.atName
      let (f, first) ← holding [ov] (getMethod ov m pl)
      callWith pos f first (backTo pos (starEach [] X.env)) (backToKw pos (keywordEach [] X.env))) := by rfl) :
    PE X (.Call (.Attribute o m apos) [] [] pos) (tSM C sp E ta) := by
  refine ⟨fun pins s σ H Q I h => ?_⟩
  refine PySem.W.methodCall_KW (pl := pl) (thn (he.run pins s σ H _ I h) fun u s1 ⟨x, H1, I1, rx, ex, q⟩ => ?_) ht
  subst ex
  obtain rfl : u = Value.ref C := rx
  obtain ⟨rest, hp⟩ := c.rc
  refine PySem.W.method_cls I1.kIn r.ga (PySem.W.cls_bind I1.kIn r.rd c.at_ (wpAny_call (PySem.W.sm_get (s := { s1 with toks := s1.toks + 1 }) I1.kIn hp (PySem.W.handed_on rfl ?_))))
  have I2 : Inv X pins σ H1 { s1 with toks := s1.toks + 1 } := I1.tok _
  exact PySem.W.callWith_K0 I2.kIn c.kp (run_fn (us := []) (ds := []) (dvs := []) F hr hb .nil hx I2 .nil q)
end
end OwnC

end

section
namespace OwnC
open PySem L2 PySem.Spec PyProof.Rows
section
variable {X : Cx} {a : Expr} {ta : TE} {pos : Pos}
def tNotO (X : Cx) (ta : TE) : TE := fun σ H Q => ta σ H fun x H' => truO X x H' fun b H2 => Q (.bl (!b)) H2
theorem pe_notO (ha : PE X a ta) : PE X (.UnaryOp .Not a pos) (tNotO X ta) := by
  refine ⟨fun pins s σ H Q I h => ?_⟩
  refine UnaryOp_ (thn (ha.run pins s σ H _ I h) fun v s1 ⟨x, H1, I1, r1, q1⟩ => ?_)
  obtain ⟨a, C, dx, fs, CX, n, sp, E, rfl, ha, o, hr, q⟩ := q1
  exact not_of (truthy_O I1 r1 ha o (hr.mono (Nat.le_add_right n 2)) I1.env0 q fun b H' s' I' z => ⟨.bl (!b), H', I', rfl, z⟩)
end
theorem rd_notO {X : Cx} {ta : TE} {σ : L2.St} {H : Hp} {Q : VK} (h : ta σ H fun x H' => truO X x H' fun b H2 => Q (.bl (!b)) H2) : tNotO X ta σ H Q := h
end OwnC
namespace Lay
open PySem PySem.Spec PyProof.Rows L2 Exv Grd
/-! ### numbers of rounds, or none -/
def Num (m : Int) (v : V) : Prop := v = .non ∨ ∃ i : Int, v = .int i ∧ 0 ≤ i ∧ i ≤ m
theorem Num.le {m n : Int} {v : V} (h : Num m v) (e : m ≤ n) : Num n v := by
  rcases h with rfl | ⟨i, rfl, h0, h1⟩
  · exact .inl rfl
  · exact .inr ⟨i, rfl, h0, by omega⟩
theorem num_non : Num 0 .non := .inl rfl
theorem num_zero : Num 0 (.int 0) := .inr ⟨0, rfl, by decide, by decide⟩
theorem Num.leaf {m : Int} {v : V} (h : Num m v) : isLeaf v = true := by
  rcases h with rfl | ⟨i, rfl, _⟩ <;> rfl
theorem log_num {i : Int} (h0 : 0 ≤ i) (h1 : i ≤ 4000000000) : i.natAbs.log2 < 32 := by
  by_cases e : i.natAbs = 0
  · rw [e]; decide
  · exact (Nat.log2_lt e).mpr (by omega)
theorem Num.show {v : V} (h : Num 4000000000 v) : (leafD v).showable = true := by
  rcases h with rfl | ⟨i, rfl, h0, h1⟩
  · rfl
  · show decide (i.natAbs.log2 < 1920) = true
    exact decide_eq_true (Nat.lt_trans (log_num h0 h1) (by decide))
theorem Num.short {v : V} (h : Num 4000000000 v) : (leafD v).intsShort 13 = true := by
  rcases h with rfl | ⟨i, rfl, h0, h1⟩
  · rfl
  · show decide (((Str.ofString (toString i)) : Str).length ≤ 13) = true
    refine decide_eq_true ?_
    rw [PySem.ofString_length]
    have := int_text_length_le10 (a := i) (k := 10) (by decide) (by omega)
    omega
theorem Num.lay {v : V} (h : Num 4000000000 v) : (leafD v).canLay0 = true ∧ (leafD v).depth ≤ 1 ∧ (leafD v).weight ≤ 40 := by
  rcases h with rfl | ⟨i, rfl, h0, h1⟩
  · exact ⟨rfl, by decide, by decide⟩
  · refine ⟨rfl, ?_, ?_⟩
    · simp [leafD, PyData.depth]
    · simp [leafD, PyData.weight]
      have := log_num h0 h1
      split <;> omega
theorem shown_num {v : V} (h : Num 4000000000 v) : (leafD v).shown.length ≤ sizeLine := by
  refine Nat.le_trans (PyProof.Rows.shown_le13 ?_ h.short) (by rw [sizeLine_eq]; decide)
  obtain ⟨h1, h2, h3⟩ := h.lay
  unfold PyData.layable0
  rw [h1, decide_eq_true (by omega : PyData.depth (leafD v) ≤ 64), decide_eq_true (by omega : PyData.weight (leafD v) ≤ 2 ^ 20)]
  rfl
theorem rd_reprN {K : PySem.W.Frag} {H : Hp} {Q : VK} {v : V} (h : Num 4000000000 v) (q : Q (.str (leafD v).shown) H) : rRepr K [v] H Q :=
  rd_repr (.of (leaf_dp h.leaf)) h.show (shown_num h) (by have := h.lay.2.1; omega) q
theorem rd_reprNN {K : PySem.W.Frag} {H : Hp} {Q : VK} {a : Addr} {v u : V} (e : SqL K H a [v, u]) (h : Num 4000000000 v) (h' : Num 4000000000 u) (q : Q (.str (PyData.list [leafD v, leafD u]).shown) H) : rRepr K [.ref a] H Q := by
  obtain ⟨h1, h2, h3⟩ := h.lay
  obtain ⟨g1, g2, g3⟩ := h'.lay
  have dd : (PyData.list [leafD v, leafD u]).depth ≤ 3 := by simp only [PyData.depth, PyData.depthAll]; omega
  have ww : (PyData.list [leafD v, leafD u]).weight ≤ 200 := by simp only [PyData.weight, PyData.weightAll]; omega
  refine rd_repr (d := .list [leafD v, leafD u]) (.of (.lst e (.cons (leaf_dp h.leaf) (.cons (leaf_dp h'.leaf) .nil)))) ?_ ?_ (by omega) q
  · show ((leafD v).showable && ((leafD u).showable && true)) = true
    rw [h.show, h'.show]; rfl
  · refine Nat.le_trans (PyProof.Rows.shown_le13 ?_ ?_) (by rw [sizeLine_eq]; decide)
    · have c : (PyData.list [leafD v, leafD u]).canLay0 = true := by simp only [PyData.canLay0, PyData.canLayAll0, h1, g1, Bool.and_self]
      unfold PyData.layable0
      rw [c, decide_eq_true (by omega : PyData.depth (.list [leafD v, leafD u]) ≤ 64), decide_eq_true (by omega : PyData.weight (.list [leafD v, leafD u]) ≤ 2 ^ 20)]
      rfl
    · show ((leafD v).intsShort 13 && ((leafD u).intsShort 13 && true)) = true
      rw [h.short, h'.short]; rfl
def sumV : V → V → V
  | .int i, .int j => .int (i + j)
  | _, _ => .non
def rankI : V → List Int
  | .int i => [0, i]
  | _ => [1, 0]
def lessV : V → V → Bool
  | .int _, .non => true
  | .int i, .int j => decide (i < j)
  | _, _ => false
theorem less_rank {m n : Int} {v u : V} (h : Num m v) (g : Num n u) : HT.lexLt (rankI v) (rankI u) = lessV v u := by
  rcases h with rfl | ⟨i, rfl, _⟩ <;> rcases g with rfl | ⟨j, rfl, _⟩
  · rfl
  · rfl
  · rfl
  · show (if (0 : Int) = 0 then (if i = j then HT.lexLt [] [] else decide (i < j)) else decide ((0 : Int) < 0)) = decide (i < j)
    rw [if_pos rfl]
    by_cases e : i = j
    · rw [if_pos e, e]
      show false = _
      rw [decide_eq_false (by omega)]
    · rw [if_neg e]
theorem eq_rank {m n : Int} {v u : V} (h : Num m v) (g : Num n u) : decide (rankI v = rankI u) = decide (v = u) := by
  rcases h with rfl | ⟨i, rfl, _⟩ <;> rcases g with rfl | ⟨j, rfl, _⟩
  · rw [decide_eq_true rfl, decide_eq_true rfl]
  · rw [decide_eq_false (by intro z; cases z), decide_eq_false (by intro z; cases z)]
  · rw [decide_eq_false (by intro z; cases z), decide_eq_false (by intro z; cases z)]
  · by_cases e : i = j
    · subst e
      rw [decide_eq_true rfl, decide_eq_true rfl]
    · rw [decide_eq_false (fun z => e (by injection z with _ z; injection z)), decide_eq_false (fun z => e (by injection z))]
theorem Num.sum {m n : Int} {v u : V} (h : Num m v) (g : Num n u) : Num (m + n) (sumV v u) := by
  rcases h with rfl | ⟨i, rfl, h0, h1⟩ <;> rcases g with rfl | ⟨j, rfl, g0, g1⟩
  · exact .inl rfl
  · exact .inl rfl
  · exact .inl rfl
  · exact .inr ⟨i + j, rfl, by omega, by omega⟩
theorem scal_num {m n : Int} {v u : V} (h : Num m v) (g : Num n u) : scal v u = true := by
  rcases h with rfl | ⟨i, rfl, _⟩ <;> rcases g with rfl | ⟨j, rfl, _⟩ <;> rfl
theorem nf_self {K : PySem.W.Frag} {C : Addr} : PySem.W.notFirst K C (.ref C) = true := by
  unfold PySem.W.notFirst
  simp
theorem nf_sub {K : PySem.W.Frag} {C : Addr} {T : Value} (h : PySem.W.subIn K T (.ref C) = some false) : PySem.W.notFirst K C T = true := by
  unfold PySem.W.notFirst
  rw [h]
  simp
theorem sum_zero {m : Int} {v : V} (h : Num m v) : sumV v (.int 0) = v := by
  rcases h with rfl | ⟨i, rfl, _⟩
  · rfl
  · show V.int (i + 0) = _
    rw [Int.add_zero]
/-! ### lags -/
def lagF (v w : V) : List (Str × V) := [("rounds", v), ("_rank", w)]
theorem putF_lag (v w : V) : putF "_rank" w (putF "rounds" v []) = lagF v w := by
  have h : ¬ (("rounds" : Str) = "_rank") := by decide +kernel
  show (if ("rounds" : Str) = "_rank" then _ else (("rounds" : Str), v) :: putF "_rank" w []) = _
  rw [if_neg h]
  rfl
def LagAt (C : Addr) (H : Hp) (x : Addr) (v : V) : Prop := ∃ dx t, H x = some (.ins C dx (lagF v (.ref t))) ∧ H t = some (.tup ((rankI v).map V.int))
theorem LagAt.mono {C : Addr} {H H' : Hp} {x : Addr} {v : V} (s : Same H H') (h : LagAt C H x v) : LagAt C H' x v := by
  obtain ⟨dx, t, e1, e2⟩ := h
  exact ⟨dx, t, s _ _ e1, s _ _ e2⟩
theorem rd_par {i j : Nat} {ta : TA} {D : Ends} {σ : L2.St} {H : Hp} (h : ta σ H fun vs H1 => ∃ v w, vs = [v, w] ∧ D.nx ((σ.set i (some v)).set j (some w)) H1) : tPar i j ta D σ H := h
def spLagInit (C : Addr) : Sp := fun vs H Q _ => ∃ x dx v m, vs = [.ref x, v] ∧ H x = some (.ins C dx []) ∧ Num m v ∧ ∀ H', LagAt C H' x v → Keep x H H' → Q .non H'
/-- a lag comes of it -/
def GetLag (C : Addr) (v : V) (H : Hp) (Q : VK) : Prop := ∀ x H', Same H H' → LagAt C H' x v → Q (.ref x) H'
def spLagNone (C : Addr) : Sp := fun vs H Q _ => vs = [] ∧ GetLag C .non H Q
def spLagAdd (C : Addr) : Sp := fun vs H Q _ => ∃ a b v u m n, vs = [.ref a, .ref b] ∧ LagAt C H a v ∧ LagAt C H b u ∧ Num m v ∧ Num n u ∧ GetLag C (sumV v u) H Q
def spLagEq (C : Addr) : Sp := fun vs H Q _ => ∃ a b v u m n, vs = [.ref a, .ref b] ∧ LagAt C H a v ∧ LagAt C H b u ∧ Num m v ∧ Num n u ∧ Q (.bl (decide (v = u))) H
def spLagLt (C : Addr) : Sp := fun vs H Q _ => ∃ a b v u m n, vs = [.ref a, .ref b] ∧ LagAt C H a v ∧ LagAt C H b u ∧ Num m v ∧ Num n u ∧ Q (.bl (lessV v u)) H
def spLagBool (C : Addr) : Sp := fun vs H Q _ => ∃ a v m, vs = [.ref a] ∧ LagAt C H a v ∧ Num m v ∧ Q (.bl (!decide (v = .non))) H
def preNo (K : PySem.W.Frag) (C : Addr) : List V → Hp → Prop := fun vs H => ∃ a y T, vs = [.ref a, y] ∧ TyX K H y T ∧ PySem.W.kitOne K T (.ref C) = some false
def spNumber : Sp := fun vs H Q _ => ∃ (p : Addr) (n : Nat) (c : Addr), vs = [.ref p] ∧ PenAt c H p n ∧ n + 4 < 100000 ∧ ∀ v H', Num 1000000010 v → PenAt c H' p (n + 4) → Keep p H H' → Q v H'
def spSumV : Sp := fun vs H Q _ => ∃ v u m n, vs = [v, u] ∧ Num m v ∧ Num n u ∧ Q (sumV v u) H
def spLessV : Sp := fun vs H Q _ => ∃ v u m n, vs = [v, u] ∧ Num m v ∧ Num n u ∧ Q (.bl (lessV v u)) H
theorem mk_lag {C : Addr} {H : Hp} {v : V} {m : Int} {Q : Addr → Hp → Prop} {E : XK} (hv : Num m v) (q : ∀ x H', Same H H' → LagAt C H' x v → Q x H') : ∀ x dx, H x = none → H dx = none → dx ≠ x →
    spLagInit C [V.ref x, v] (upd (upd H dx (.own x)) x (.ins C dx [])) (fun z H2 => z = .non ∧ Q x H2) E := by
  intro x dx hx hd hne
  have s : Same H (upd (upd H dx (.own x)) x (.ins C dx [])) := fun b o e => by
    rw [upd_ne (fun z => by subst z; rw [hx] at e; cases e), upd_ne (fun z => by subst z; rw [hd] at e; cases e)]
    exact e
  refine ⟨x, dx, v, m, rfl, upd_same, hv, fun H' g k => ⟨rfl, q x H' (fun b o e => ?_) g⟩⟩
  exact k b o (fun z => by subst z; rw [hx] at e; cases e) (s b o e)
end Lay

namespace OwnC
open PySem PySem.Spec PyProof.Rows L2
theorem toR {P : Program} {w : World} {K : PySem.W.Frag} {mg : Str → Option Value} {base : Heap} {CX : CXT} {k : Nat} {f : Addr} {fd : FuncData} {ps : List Str} {sp : Sp} (F : FnOk P w K mg base CX k f fd ps sp) (hb : Binds K fd ps []) : FnR P w K mg base CX k f sp := by
  intro A outer s H us vs Q E hr e0 r h
  refine F.run A outer s H ⟨us, []⟩ us vs Q E hr e0 ?_ r h
  have l : us.length = ps.length := r.length.symm.trans (F.len _ _ _ _ h)
  have z := hb s us (e0.mod.kin.keeps fun b o e => (e0.bs b o e).1) (by simpa using l)
  simpa using z
end OwnC

end

section
/-! NetL: the parts of a net, as data and at a heap -/
namespace NetL
open PySem PySem.Spec PyProof.Rows L2 Lay
inductive It where
  | vr (z : Str) (s : Int) (ats : List Int)
  | sg (z : Str) (t : Int)
  | ag (z : Str) (k : Int) (ls : List (List V))
def It.nm : It → Str
  | .vr z _ _ => z | .sg z _ => z | .ag z _ _ => z
def It.isV : It → Bool
  | .vr _ _ _ => true | _ => false
def It.isS : It → Bool
  | .sg _ _ => true | _ => false
def It.isA : It → Bool
  | .ag _ _ _ => true | _ => false
def It.ls : It → List (List V)
  | .ag _ _ l => l | _ => []
/-- the bytes of a part, in the order of its slots -/
def It.bytes : It → List Int
  | .vr _ s ats => ats.flatMap fun a => (List.range s.toNat).map fun i => a + ((i : Nat) : Int)
  | _ => []
structure Cs where
  va : Addr
  si : Addr
  a0 : Addr
  a1 : Addr
  a2 : Addr
def Cs.of (C : Cs) : It → Addr
  | .vr _ _ _ => C.va
  | .sg _ _ => C.si
  | .ag _ k _ => if k = 0 then C.a0 else if k = 1 then C.a1 else C.a2
def PartAt (C : Cs) (H : Hp) (v : V) : It → Prop
  | .vr z s ats => ∃ x, v = .ref x ∧ VarAt C.va H x (.str z) (.int s) (ats.map V.int)
  | .sg z t => ∃ x, v = .ref x ∧ SigAt C.si H x z t
  | .ag z k ls => ∃ x, v = .ref x ∧ AgAt (C.of (.ag z k ls)) H x z ls
abbrev PartsAt (C : Cs) (H : Hp) : List V → List It → Prop := Paired (PartAt C H)
theorem PartAt.mono {C : Cs} {H H' : Hp} (s : Same H H') {v : V} : ∀ {it : It}, PartAt C H v it → PartAt C H' v it
  | .vr _ _ _, ⟨x, e, h⟩ => ⟨x, e, h.mono s⟩
  | .sg _ _, ⟨x, e, h⟩ => ⟨x, e, h.mono s⟩
  | .ag _ _ _, ⟨x, e, h⟩ => ⟨x, e, h.mono s⟩
theorem PartsAt.mono {C : Cs} {H H' : Hp} (s : Same H H') {vs : List V} {its : List It} (h : PartsAt C H vs its) : PartsAt C H' vs its := Paired.mono (fun _ _ => PartAt.mono s) h
theorem pget {α β : Type} {F : α → β → Prop} : ∀ {xs : List α} {ys : List β} {i : Nat} {x : α}, Paired F xs ys → xs[i]? = some x → ∃ y, ys[i]? = some y ∧ F x y
  | _, _, _, _, .nil, e => by simp at e
  | _, _, 0, _, .cons r _, e => by simp at e; subst e; exact ⟨_, rfl, r⟩
  | _, _, i + 1, x, .cons _ t, e => by
    obtain ⟨y, h1, h2⟩ := pget (i := i) (x := x) t (by simpa using e)
    exact ⟨y, by simpa using h1, h2⟩
/-- a part is an instance with a name -/
theorem PartAt.ins {C : Cs} {H : Hp} {v : V} : ∀ {it : It}, PartAt C H v it → ∃ x dx fs, v = .ref x ∧ H x = some (.ins (C.of it) dx fs) ∧ fs.lookup ("name" : Str) = some (V.str it.nm)
  | .vr z s ats, ⟨x, e, dx, t, h1, h2⟩ => ⟨x, dx, _, e, h1, by rfl⟩
  | .sg z t, ⟨x, e, dx, h1⟩ => ⟨x, dx, _, e, h1, by rfl⟩
  | .ag z k ls, ⟨x, e, dx, t, xs, h1, h2, h3⟩ => ⟨x, dx, _, e, h1, by rfl⟩
/-- what is asked of the classes -/
structure NetC (K : PySem.W.Frag) (C : Cs) : Prop where
  cl : ∀ it, Cls K (C.of it)
  nn : ∀ it, NoAttr K (C.of it) "name"
  ty : ∀ (H : Hp) (x dx : Addr) (fs : List (Str × V)) (it : It), H x = some (.ins (C.of it) dx fs) → TyX K H (.ref x) (.ref (C.of it))
  kv : ∀ it, PySem.W.kitOne K (.ref (C.of it)) (.ref C.va) = some it.isV
  ks : ∀ it, PySem.W.kitOne K (.ref (C.of it)) (.ref C.si) = some it.isS
  ka : ∀ it, PySem.W.kitOne K (.ref (C.of it)) (.ref C.a0) = some it.isA
  va : NoAttr K C.va "at"
  vs : NoAttr K C.va "size"
  st : NoAttr K C.si "tokens"
  as : ∀ z k ls, NoAttr K (C.of (.ag z k ls)) "steps"
/-- a step of an agent fits to the parts -/
def fits (its : List It) : List V → Prop
  | [.str _, .str n] => ∃ t, It.sg n t ∈ its
  | [.str _, .str n, .int _, .int _, .int e] => ∃ s ats, It.vr n s ats ∈ its ∧ e < s
  | _ => False
def steps (its : List It) : List (List V) := its.flatMap It.ls
structure Good (ring : Int) (its : List It) : Prop where
  ma : (its.filter It.isA).length ≤ 4
  mv : (its.filter It.isV).length ≤ 6
  ms : (its.filter It.isS).length ≤ 6
  nd : (its.map It.nm).Nodup
  ok : ∀ it ∈ its, nameOk it.nm = true
  vr : ∀ z s ats, It.vr z s ats ∈ its → 1 ≤ s ∧ s ≤ 8 ∧ 1 ≤ ats.length ∧ ats.length ≤ 4 ∧ ((ats.length : Int) = 1 ∨ (ats.length : Int) = ring)
  by_ : (its.flatMap It.bytes).Nodup
  gs : ∀ z k ls, It.ag z k ls ∈ its → 0 ≤ k ∧ k ≤ 2 ∧ 1 ≤ ls.length ∧ ls.length ≤ 24 ∧ ∀ l ∈ ls, GoodStep (wsK k) l ∧ fits its l
  sg : ∀ z t, It.sg z t ∈ its → 0 ≤ t ∧ t ≤ 3 ∧ (steps its).count [.str "post", .str z] = 1 ∧ (steps its).count [.str "wait", .str z] = 1
theorem cnt_le {p : It → Bool} (its : List It) (i : Nat) : ((its.take i).filter p).length ≤ (its.filter p).length := ((List.take_sublist i its).filter p).length_le
theorem cnt_succ {p : It → Bool} {its : List It} {i : Nat} {it : It} (h : its[i]? = some it) : ((its.take (i + 1)).filter p).length = ((its.take i).filter p).length + (if p it = true then 1 else 0) := by
  rw [take_succ h, List.filter_append, List.length_append]
  by_cases e : p it = true
  · rw [if_pos e, List.filter_cons_of_pos e]; rfl
  · rw [if_neg e, List.filter_cons_of_neg e]; rfl
/-- Net's checks, passed -/
def spChk (K : PySem.W.Frag) (C : Cs) : Sp := fun vs H Q _ => ∃ t ps its ring, vs = [.ref t] ∧ H t = some (.tup ps) ∧ PartsAt C H ps its ∧ Good ring its ∧ ps.length ≤ 16 ∧ ∀ H', Same H H' → Q .non H'
def spChkR (K : PySem.W.Frag) (C : Cs) : Sp := fun vs H Q _ => ∃ t ps its ring, vs = [.ref t, .int ring] ∧ H t = some (.tup ps) ∧ PartsAt C H ps its ∧ Good ring its ∧ ps.length ≤ 16 ∧ ∀ H', Same H H' → Q .non H'
/-- with the list of the agents -/
def spChkA (K : PySem.W.Frag) (C : Cs) : Sp := fun vs H Q _ => ∃ t a ps as its ring, vs = [.ref t, .ref a] ∧ H t = some (.tup ps) ∧ H a = some (.lst as) ∧ PartsAt C H ps its ∧ PartsAt C H as (its.filter It.isA) ∧ Good ring its ∧ ps.length ≤ 16 ∧ ∀ H', Same H H' → Q .non H'
theorem rd_aug {i : Nat} {te : TE} {ti : TIp} {D : Ends} {σ : L2.St} {H : Hp} (h : ∃ x, σ[i]? = some (some x) ∧ te σ H fun y H1 => ti x y H1 fun z H2 => D.nx (σ.set i (some z)) H2) : tAug i te ti D σ H := h
end NetL

end

section
namespace NetL
open PySem PySem.Spec PyProof.Rows L2 Lay
section
variable {X : Cx}
theorem sw_dict {kx vx : Expr} {gs : List Comprehension} {scope : Scope} {pos py : Pos} {y : Str} {l : Nat} {env : Env} (isF : env.scope.kind = .function) (loc : env.scope.names.lookup y = some .local) (line : (py.line == pos.line) = true)
    (no : (scope.names.any fun (n, k) => n == y && (k == .local || k == .cell)) = false) : swapsWith (.DictComp kx vx gs scope pos) (some (.Name y py)) l env = pure true := by
  have isL : env.kindOf y = some .local := loc
  have isB : env.blockKind = .function := by
    unfold Env.blockKind
    rw [isF]
    rfl
  unfold swapsWith
  simp only [isB, isL, no, Expr.pos, line]
  rfl
/-- y = {kx: vx for tg in iter if ..} -/
theorem ps_setDc {i : Nat} {y : Str} {py : Pos} {kx vx tg iter : Expr} {ifs : List Expr} {scope : Scope} {own : List (Str × Nat)} {pos spos : Pos} {wi : TI} {g : TG} {tt : TT} {tk tv : TE} (hc : X.calm = true) (hN : X.N.Nodup) (hy : X.N[i]? = some y)
    (hyl : X.env.scope.names.lookup y = some .local) (hsw : swapsWith (.DictComp kx vx [⟨tg, iter, ifs, 0⟩] scope pos) (some (.Name y py)) spos.line X.env = pure true) (hi : PI X tg iter wi) (ok : BlkOk X.N X.env.scope scope own)
    (hg : ∀ (s : Shared) (H : Hp) (C : Addr) (cl : List (Str × Addr)) (fp : List Addr), PG (X.blk s H scope (compEnvC scope cl C X.env) fp) tg g)
    (ht : ∀ (s : Shared) (H : Hp) (C : Addr) (cl : List (Str × Addr)) (fp : List Addr), PTs (X.blk s H scope (compEnvC scope cl C X.env) fp) ifs tt)
    (hk : ∀ (s : Shared) (H : Hp) (C : Addr) (cl : List (Str × Addr)) (fp : List Addr), PE (X.blk s H scope (compEnvC scope cl C X.env) fp) kx tk) (he : ∀ (s : Shared) (H : Hp) (C : Addr) (cl : List (Str × Addr)) (fp : List Addr), PE (X.blk s H scope (compEnvC scope cl C X.env) fp) vx tv)
    (hs : ∀ x, foldedSetIterable iter X.env x = pure x := by intro _; rfl) : PS X (.Assign [.Name y py] (.DictComp kx vx [⟨tg, iter, ifs, 0⟩] scope pos) spos) (tAsg (tDc wi g tt tk tv (own.map (·.2))) (gName i)) := by
  constructor
  intro pins s σ H D I told
  rw [exec_Assign_Name_used _ _ _ _ hsw]
  refine wpAny_bind (wpAny_standAt (wpAny_bind ?_))
  show wpAny _ X.A (do let _ ← comprehension (.DictComp kx vx [⟨tg, iter, ifs, 0⟩] scope pos) scope X.env (firstIterPos [⟨tg, iter, ifs, 0⟩] pos) newDict false (eval iter X.env) (some (assign (.Name y py) X.env))) _ _ s
  have told : tDc wi g tt tk tv (own.map (·.2)) σ H (fun x H1 => gName i x σ H1 D.nx) := told
  refine wpAny_bind (thn (dc_core (Qf := fun _ s' => SP X pins D .next s') hc hN I hi ok hg ht hk he hs told ?_) fun _ s' hq => wpAny_pure (wpAny_pure hq))
  intro L C s' m H' I' q hn fr
  show wpAny _ _ (assign (.Name y py) X.env (.ref L)) _ _ _
  refine wpAny_assign_Name (store_ok2 (v := V.ref L) I' hN hy (.inl hyl) rfl ?_ (.inr hyl))
  rintro s2 I2 ⟨a, sb, ha⟩
  obtain ⟨r0, r1, r2, r3, r4, r5⟩ := fr
  have apart : C ≠ a := by
    rcases ha with z | z
    · rw [z]
      exact r1
    · intro e
      exact r4 y a z e.symm
  refine ⟨m, hn.sameBut sb apart, ?_⟩
  intro h3 sb3
  exact ⟨_, H', I2.turned (t' := s2.toks) (fun b o hb e => (sb3.2 b hb).trans e) r0 r1 r3 r4 r5, q⟩
end
theorem not_take {α : Type} {l : List α} (h : l.Nodup) {i : Nat} {z : α} (e : l[i]? = some z) : z ∉ l.take i := by
  intro m
  obtain ⟨j, hj, ej⟩ := List.mem_iff_getElem.mp m
  rw [List.getElem_take] at ej
  obtain ⟨hi, ei⟩ := List.getElem?_eq_some_iff.mp e
  have hj' : j < i := by
    rw [List.length_take] at hj
    omega
  exact (List.pairwise_iff_getElem.mp h) j i (by omega) hi hj' (by rw [ej, ei])
theorem rd_iEnum {K : PySem.W.Frag} {tA : TA} {σ : L2.St} {H : Hp} {R : L2.It → Hp → Prop} (h : tA σ H fun vs H1 => ∃ a xs, vs = [.ref a] ∧ SqL K H1 a xs ∧ R (Ite K a) H1) : iEnum K tA σ H R := h
/-- a walk's turns, whatever is done in them -/
theorem turns {J : L2.It} {n : Nat} {G : Hp → Prop} {Y : Nat → Hp → V → Hp → Prop} (w : Walk J n G Y) {B : (Hp → Prop) → V → Hp → Prop} {Qd : Hp → Prop} {H1 : Hp} (R : Nat → Hp → Prop) (h0 : R 0 H1) (hG : ∀ i H, i ≤ n → R i H → G H)
    (hs : ∀ i x H H', i < n → R i H → Y i H x H' → B (R (i + 1)) x H') (hd : ∀ H, R n H → Qd H) :
    ∃ W : Nat → Nat → Hp → Prop, (∃ m, W 0 m H1) ∧ ∀ i m H, W i m H → (J.stop i H ∧ Qd H) ∨ (J.go i H ∧ ∃ Nx : Hp → Prop, (∀ H', Nx H' → ∃ m', m' < m ∧ W (i + 1) m' H') ∧ ∀ x H', J.yld i H x H' → B Nx x H') := by
  refine ⟨fun i m H => m = n - i ∧ i ≤ n ∧ R i H, ⟨n, by simp, Nat.zero_le _, h0⟩, ?_⟩
  rintro i m H ⟨rfl, hi, p⟩
  have q := hG i H hi p
  by_cases lt : i < n
  · exact .inr ⟨w.goes i H lt q, R (i + 1), fun H' p' => ⟨n - (i + 1), by omega, rfl, lt, p'⟩, fun x H' y => hs i x H H' lt p (w.yields i H x H' lt q y)⟩
  · obtain rfl : i = n := by omega
    exact .inl ⟨w.stops H q, hd H p⟩
theorem rd_dIn {ty td : TE} {σ : L2.St} {H : Hp} {Q : VK} (h : ty σ H fun y H1 => td σ H1 fun x H2 => ∃ a o, x = .ref a ∧ DGet H2 a y o ∧ Q (.bl o.isSome) H2) : tDIn ty td σ H Q := h
theorem rd_dPut {td ty tv : TE} {D : Ends} {σ : L2.St} {H : Hp} (h : tv σ H fun v H1 => td σ H1 fun x H2 => ty σ H2 fun y H3 => ∃ a H4, x = .ref a ∧ DPut H3 a y v H4 ∧ D.nx σ H4) : sDPut td ty tv D σ H := h
theorem rd_dGet {td ty : TE} {σ : L2.St} {H : Hp} {Q : VK} (h : td σ H fun x H1 => ty σ H1 fun y H2 => ∃ a v, x = .ref a ∧ DGet H2 a y (some v) ∧ Q v H2) : tDGet td ty σ H Q := h
/-- the bytes of a slot -/
def row (s : Nat) (a : Int) : List Int := (List.range s).map fun i => a + ((i : Nat) : Int)
theorem row_succ (s : Nat) (a : Int) : row (s + 1) a = row s a ++ [a + (s : Int)] := by
  unfold row
  rw [List.range_succ, List.map_append]
  rfl
theorem row_len (s : Nat) (a : Int) : (row s a).length = s := by
  unfold row
  rw [List.length_map, List.length_range]
theorem rows_len (s : Nat) : ∀ l : List Int, (l.flatMap (row s)).length = l.length * s
  | [] => by simp
  | a :: l => by rw [List.flatMap_cons, List.length_append, row_len, rows_len s l, List.length_cons, Nat.succ_mul, Nat.add_comm]
theorem rows_succ {s : Nat} {l : List Int} {j : Nat} {a : Int} (h : l[j]? = some a) : (l.take (j + 1)).flatMap (row s) = (l.take j).flatMap (row s) ++ row s a := by
  rw [take_succ h, List.flatMap_append, List.flatMap_cons, List.flatMap_nil, List.append_nil]
theorem bytes_vr (z : Str) (s : Int) (ats : List Int) : (It.vr z s ats).bytes = ats.flatMap (row s.toNat) := rfl
/-! ### the bytes that are taken -/
def marks (ns : List Int) : List (Key × V) := ns.map fun n => ((.inl n : Key), V.bl true)
theorem marks_no {a : Int} : ∀ {ns : List Int}, a ∉ ns → valV (marks ns) (.inl a) = none
  | [], _ => rfl
  | n :: ns, h => by
    have ne : ¬ ((.inl n : Key) = .inl a) := fun e => by
      injection e with e
      exact h (by rw [e]; exact List.mem_cons_self)
    show valV (((.inl n : Key), V.bl true) :: marks ns) (.inl a) = none
    rw [valV_neg (p := ((.inl n : Key), V.bl true)) ne]
    exact marks_no fun m => h (List.mem_cons_of_mem _ m)
theorem marks_put {a : Int} {ns : List Int} (h : a ∉ ns) : putK (marks ns) (.inl a) (V.bl true) = marks (ns ++ [a]) := by
  rw [putK_new _ (marks_no h)]
  unfold marks
  rw [List.map_append]
  rfl
theorem bytes_le {its : List It} (h : ∀ z s ats, It.vr z s ats ∈ its → s ≤ 8 ∧ ats.length ≤ 4) : (its.flatMap It.bytes).length ≤ 32 * its.length := by
  have one : ∀ it ∈ its, it.bytes.length ≤ 32 := by
    intro it m
    cases it with
    | vr z s ats =>
      obtain ⟨h1, h2⟩ := h z s ats m
      have inner : ∀ l : List Int, (l.flatMap fun a => (List.range s.toNat).map fun i => a + ((i : Nat) : Int)).length ≤ 8 * l.length := by
        intro l
        induction l with
        | nil => simp
        | cons a l ih =>
          rw [List.flatMap_cons, List.length_append, List.length_map, List.length_range, List.length_cons]
          omega
      have z2 := inner ats
      show (ats.flatMap fun a => (List.range s.toNat).map fun i => a + ((i : Nat) : Int)).length ≤ 32
      omega
    | _ => simp [It.bytes]
  clear h
  induction its with
  | nil => simp
  | cons it its ih =>
    rw [List.flatMap_cons, List.length_append, List.length_cons]
    have z1 := one it List.mem_cons_self
    have z2 := ih fun x m => one x (List.mem_cons_of_mem _ m)
    omega
theorem take_flat {its : List It} {i : Nat} {it : It} (h : its[i]? = some it) : (its.take (i + 1)).flatMap It.bytes = (its.take i).flatMap It.bytes ++ it.bytes := by
  rw [take_succ h, List.flatMap_append, List.flatMap_cons, List.flatMap_nil, List.append_nil]
/-- the j-th byte of the i-th part is none of those ahead -/
theorem byte_new {its : List It} {i j : Nat} {it : It} {a : Int} (nd : (its.flatMap It.bytes).Nodup) (h : its[i]? = some it) (hj : it.bytes[j]? = some a) : a ∉ (its.take i).flatMap It.bytes ++ it.bytes.take j := by
  have sub : ((its.take (i + 1)).flatMap It.bytes).Nodup := by
    refine List.Nodup.sublist ?_ nd
    conv => rhs; rw [← List.take_append_drop (i + 1) its, List.flatMap_append]
    exact List.sublist_append_left _ _
  rw [take_flat h] at sub
  have e : ((its.take i).flatMap It.bytes ++ it.bytes)[((its.take i).flatMap It.bytes).length + j]? = some a := by
    rw [List.getElem?_append_right (Nat.le_add_right _ _), Nat.add_sub_cancel_left]
    exact hj
  have z := not_take sub e
  rwa [List.take_length_add_append] at z
/-- a promise with a wish of exceptions, used where none comes -/
theorem calmOf {P : Program} {w : World} {K : PySem.W.Frag} {mg : Str → Option Value} {base : Heap} {k : Nat} {f : Addr} {fd : FuncData} {ps : List Str} {sp : Sp} (F : FnOk P w K mg base (L2.CX P w) k f fd ps sp) : FnOk P w K mg base CX0 k f fd ps (fun vs H Q _ => sp vs H Q E0) := by
  refine ⟨fun vs H Q E h => F.len vs H Q E0 h, fun A outer s H args us vs Q E hr he hb hv h => ?_⟩
  refine codeAny_mono (F.run A outer s H args us vs Q E0 hr he hb hv h) fun r s' z => ?_
  cases r with
  | error e =>
    obtain ⟨a, B, H', cls, d, _, _, _, _, _, _, _, no⟩ := z
    exact no.elim
  | ok fl => cases fl <;> exact z
end NetL

end

section
namespace NetL
open PySem PySem.Spec PyProof.Rows L2 Lay
/-! ### the names of signals, the sizes of variables -/
def sizes : List It → List (Key × V)
  | [] => []
  | .vr z s _ :: r => ((.inr z : Key), V.int s) :: sizes r
  | _ :: r => sizes r
theorem sizes_app : ∀ (l m : List It), sizes (l ++ m) = sizes l ++ sizes m
  | [], _ => rfl
  | .vr z s a :: l, m => by show _ :: sizes (l ++ m) = _ :: (sizes l ++ sizes m); rw [sizes_app l m]
  | .sg z t :: l, m => sizes_app l m
  | .ag z k ls :: l, m => sizes_app l m
theorem sizes_no {n : Str} : ∀ {its : List It}, n ∉ its.map It.nm → valV (sizes its) (.inr n) = none
  | [], _ => rfl
  | .vr z s a :: l, h => by
    have ne : ¬ ((.inr z : Key) = .inr n) := fun e => by
      injection e with e
      exact h (by rw [← e]; exact List.mem_cons_self)
    show valV (((.inr z : Key), V.int s) :: sizes l) (.inr n) = none
    rw [valV_neg (p := ((.inr z : Key), V.int s)) ne]
    exact sizes_no fun m => h (List.mem_cons_of_mem _ m)
  | .sg z t :: l, h => sizes_no (its := l) fun m => h (List.mem_cons_of_mem _ m)
  | .ag z k ls :: l, h => sizes_no (its := l) fun m => h (List.mem_cons_of_mem _ m)
theorem sizes_at {n : Str} {s : Int} {ats : List Int} : ∀ {its : List It}, (its.map It.nm).Nodup → It.vr n s ats ∈ its → valV (sizes its) (.inr n) = some (.int s)
  | [], _, h => nomatch h
  | it :: l, nd, h => by
    rw [List.map_cons, List.nodup_cons] at nd
    rcases List.mem_cons.mp h with e | h
    · subst e
      exact valV_pos (p := ((.inr n : Key), V.int s)) rfl
    · have hn : n ∈ l.map It.nm := List.mem_map.mpr ⟨_, h, rfl⟩
      have ih := sizes_at nd.2 h
      cases it with
      | vr z s2 a2 =>
        have ne : ¬ ((.inr z : Key) = .inr n) := fun e => by
          injection e with e
          exact nd.1 (by show z ∈ _; rw [e]; exact hn)
        show valV (((.inr z : Key), V.int s2) :: sizes l) (.inr n) = _
        rw [valV_neg (p := ((.inr z : Key), V.int s2)) ne]
        exact ih
      | sg z t => exact ih
      | ag z k ls => exact ih
theorem sizes_len : ∀ its : List It, (sizes its).length ≤ its.length
  | [] => Nat.le_refl _
  | .vr z s a :: l => Nat.succ_le_succ (sizes_len l)
  | .sg z t :: l => Nat.le_succ_of_le (sizes_len l)
  | .ag z k ls :: l => Nat.le_succ_of_le (sizes_len l)
theorem sizes_put {z : Str} {s : Int} {ats : List Int} {its : List It} (h : z ∉ its.map It.nm) : putK (sizes its) (.inr z) (V.int s) = sizes (its ++ [.vr z s ats]) := by
  rw [putK_new _ (sizes_no h), sizes_app]
  rfl
def sigs (its : List It) : List Str := (its.filter It.isS).map It.nm
theorem sigs_at {n : Str} {t : Int} {its : List It} (h : It.sg n t ∈ its) : n ∈ sigs its := List.mem_map.mpr ⟨.sg n t, List.mem_filter.mpr ⟨h, rfl⟩, rfl⟩
theorem filt_succ {p : It → Bool} {its : List It} {i : Nat} {it : It} (h : its[i]? = some it) : (its.take (i + 1)).filter p = (its.take i).filter p ++ (if p it = true then [it] else []) := by
  rw [take_succ h, List.filter_append]
  by_cases e : p it = true
  · rw [if_pos e, List.filter_cons_of_pos e]; rfl
  · rw [if_neg e, List.filter_cons_of_neg e]; rfl
def spCon : Sp := fun vs H Q _ => ∃ p l, vs = [.ref p] ∧ H p = some (.tup l) ∧ l.length ≤ 5 ∧ Q (.bl (decide (l.length = 2))) H
/-! ### list.count of data -/
def rCntD (K : PySem.W.Frag) : V → List V → Hp → VK → Prop := fun x xs H Q => ∃ (a : Addr) (y : V) (d : PyData) (ds : List PyData), x = V.ref a ∧ xs = [y] ∧ Dp K H (V.ref a) (.list ds) ∧ Dp K H y d ∧
  SeqAt.shaped (.list ds) = true ∧ SeqAt.shaped d = true ∧ Q (.int (ds.countP fun z => PyData.eqv z d : Nat)) H
section
variable {X : Cx}
theorem mt_cntD (hu : X.A.units + 65 < cLine) : MtR X "list.count" (rCntD X.K) := by
  intro pins s σ H x xs v us Q I rx rxs told
  obtain ⟨a, y, d, ds, rfl, rfl, isL, isY, shL, shY, q⟩ := told
  cases rx
  obtain ⟨uy, rfl, ry⟩ := rxs.one
  obtain ⟨bs, readY⟩ := Dp.reads I d y uy isY ry
  have canL : PyData.canLayAll0 ds = true := SeqAt.canLay_of_shaped shL
  have room : X.A.units + 1 + min (PyData.depthAll ds) d.depth < cLine := room_in_shaped shY hu
  cases isL with
  | lst hs ha =>
    obtain ⟨its, rv, ⟨⟨cls, dd, data, sls⟩, n, ho, hc, hdn, hdt⟩, hlen⟩ := I.list hs
    simp only at hc hdt
    subst hc hdt
    obtain ⟨as, readL⟩ := Dp.readsAll I ds _ its ha rv
    have same : its.map (SeqAt.readOf s.heap) = ds := SeqAt.readsAll_map ds its as canL readL
    refine call_meets PySem.F.slot_list_count ⟨_, ho, rfl⟩ PySem.F.entry_list_count (PySem.F.args_list_count_2 _ _) (SeqAt.list_countAt a its.toArray n dd sls uy (fun u => PyData.eqv (SeqAt.readOf s.heap u) d))
      ⟨ho, SeqAt.items_eqAt (vs := its.toArray) (show ReadsAll s.heap its.toArray.toList ds as from readL) readY canL (SeqAt.canLay_of_shaped shY) room, ?_⟩
    have many : its.toArray.toList.countP (fun u => PyData.eqv (SeqAt.readOf s.heap u) d) = ds.countP fun z => PyData.eqv z d := by
      rw [← same, List.countP_map]
      rfl
    refine ⟨.int (ds.countP fun z => PyData.eqv z d : Nat), H, I.tok _, ⟨s.toks, ?_⟩, q⟩
    show Value.int ((its.toArray.toList.countP (fun u => PyData.eqv (SeqAt.readOf s.heap u) d) : Nat) : Int) s.toks = Value.int ((ds.countP fun z => PyData.eqv z d : Nat) : Int) s.toks
    rw [many]
end
theorem shaped_rowsL (ls : List (List V)) (f : ∀ l ∈ ls, l.all isFlat = true) : SeqAt.shaped (.list (ls.map rowD)) = true := by
  have h1 := deepAll_rows ls
  have h2 : PyData.depth (.list (ls.map rowD)) ≤ 64 := by
    simp only [PyData.depth]
    omega
  have h3 : PyData.canLay0 (.list (ls.map rowD)) = true := by
    simp only [PyData.canLay0]
    exact layAll_rows ls f
  unfold SeqAt.shaped
  rw [h3, decide_eq_true h2]
  rfl
theorem shaped_row1 (l : List V) (f : l.all isFlat = true) : SeqAt.shaped (rowD l) = true := by
  have z := shaped_rowsL [l] (fun x m => by rw [List.mem_singleton.mp m]; exact f)
  unfold SeqAt.shaped at z ⊢
  rw [Bool.and_eq_true] at z ⊢
  obtain ⟨z1, z2⟩ := z
  refine ⟨?_, ?_⟩
  · have z3 : PyData.canLayAll0 [rowD l] = true := z1
    simp only [PyData.canLayAll0, Bool.and_true] at z3
    exact z3
  · have z4 := of_decide_eq_true z2
    simp only [List.map_cons, List.map_nil, PyData.depth, PyData.depthAll] at z4
    exact decide_eq_true (by omega)
theorem rd_cnt {K : PySem.W.Frag} {H : Hp} {Q : VK} {a p : Addr} {ks : List V} {ls : List (List V)} {l : List V} (ha : SqL K H a ks) (hr : RowsAt H ks ls) (f : ∀ l ∈ ls, l.all isFlat = true) (hp : H p = some (.tup l)) (fl : l.all isFlat = true)
    (q : Q (.int (ls.count l : Nat)) H) : rCntD K (.ref a) [.ref p] H Q := by
  refine ⟨a, .ref p, rowD l, ls.map rowD, rfl, rfl, .lst ha (hr.dp f), .tup (SqT.of hp) (dp_flat _ fl), shaped_rowsL ls f, shaped_row1 l fl, ?_⟩
  have e : (ls.map rowD).countP (fun z => PyData.eqv z (rowD l)) = ls.count l := by
    rw [List.countP_map]
    unfold List.count
    refine List.countP_congr fun x m => ?_
    show PyData.eqv (rowD x) (rowD l) = true ↔ (x == l) = true
    rw [eqv_row (f x m) fl, decide_eq_true_iff, beq_iff_eq]
  rw [e]
  exact q
theorem u65 {k : Nat} {A : Around} (r : Room k A) : A.units + 65 < cLine := by
  have := r.un
  omega
theorem steps_filt : ∀ its : List It, (its.filter It.isA).flatMap It.ls = steps its
  | [] => rfl
  | .ag z k ls :: l => by
    rw [List.filter_cons_of_pos rfl]
    show ls ++ (l.filter It.isA).flatMap It.ls = ls ++ steps l
    rw [steps_filt l]
  | .vr z s a :: l => by
    rw [List.filter_cons_of_neg (by intro z; cases z)]
    exact steps_filt l
  | .sg z t :: l => by
    rw [List.filter_cons_of_neg (by intro z; cases z)]
    exact steps_filt l
theorem ls_len {l : List It} (h : ∀ it ∈ l, it.ls.length ≤ 24) : (l.flatMap It.ls).length ≤ 24 * l.length := by
  induction l with
  | nil => simp
  | cons it l ih =>
    rw [List.flatMap_cons, List.length_append, List.length_cons]
    have z1 := h it List.mem_cons_self
    have z2 := ih fun x m => h x (List.mem_cons_of_mem _ m)
    omega
theorem steps_flat {ring : Int} {its : List It} (g : Good ring its) : ∀ l ∈ steps its, l.all isFlat = true := by
  intro l m
  obtain ⟨it, im, lm⟩ := List.mem_flatMap.mp m
  cases it with
  | ag z k ls =>
    obtain ⟨_, _, _, _, h⟩ := g.gs z k ls im
    exact (h l lm).1.flat
  | vr z s a => cases lm
  | sg z t => cases lm
theorem rd_cntB {K : PySem.W.Frag} {T : String} {r : V → List V → Hp → VK → Prop} {to : TE} {t : TA} {σ : L2.St} {H : Hp} {Q : VK} (h : to σ H fun x H1 => tyV K T x H1 ∧ t σ H1 fun xs H2 => r x xs H2 Q) : tBM K T r to t σ H Q := h
theorem word_flat {w z : Str} (hw : PyData.strOk w = true) (hz : nameOk z = true) : ([.str w, .str z] : List V).all isFlat = true := by
  show (PyData.strOk w && (PyData.strOk z && true)) = true
  rw [hw, name_strOk hz]
  rfl
end NetL

end

section
namespace NetL
open PySem PySem.Spec PyProof.Rows L2 Lay
theorem rd_isiT {K : PySem.W.Frag} {H : Hp} {Q : VK} {x : V} {tp : Addr} {cs : List V} {t : Value} {us : List Value} (b : Bool) (ht : H tp = some (.tup cs)) (hc : Paired ClsV cs us) (hx : TyX K H x t) (h : PySem.W.kitAny K t us = some b) (q : Q (.bl b) H) : rIsiT K [x, .ref tp] H Q :=
  ⟨x, tp, cs, t, us, b, rfl, ht, hc, hx, h, q⟩
theorem kit3 {K : PySem.W.Frag} {t a b c : Value} {p q r : Bool} (ha : PySem.W.kitOne K t a = some p) (hb : PySem.W.kitOne K t b = some q) (hc : PySem.W.kitOne K t c = some r) (o : (p || q || r) = true) : PySem.W.kitAny K t [a, b, c] = some true := by
  unfold PySem.W.kitAny
  rw [ha]
  cases p with
  | true => rfl
  | false =>
    unfold PySem.W.kitAny
    rw [hb]
    cases q with
    | true => rfl
    | false =>
      unfold PySem.W.kitAny
      rw [hc]
      cases r with
      | true => rfl
      | false => cases o
/-- a list of parts grows -/
theorem parts_snoc {C : Cs} {H : Hp} {vs : List V} {its : List It} {v : V} {it : It} (h : PartsAt C H vs its) (p : PartAt C H v it) : PartsAt C H (vs ++ [v]) (its ++ [it]) := Paired.snoc h p
end NetL

end

section
/-! KwS: defs with *args and keyword-only parameters with defaults; classes and classmethods called so -/
namespace KwS
open PySem PySem.Spec PyProof.Rows L2 StX
/-- a promise for positional values and the values of keywords -/
abbrev Sp2 := List V → List V → Hp → VK → XK → Prop
/-- a def called with positional values and the keywords ks -/
def FnRK (P : Program) (w : World) (K : PySem.W.Frag) (mg : Str → Option Value) (base : Heap) (CX : CXT) (k : Nat) (f : Addr) (ks : List Str) (sp : Sp2) : Prop :=
  ∀ (A : Around) (outer : List Env) (s : Shared) (H : Hp) (us ws : List Value) (vs zs : List V) (Q : VK) (E : XK), Room k A → Env0 P w K mg base A outer s H → Vals vs us → Vals zs ws → zs.length = ks.length → sp vs zs H Q E →
    codeAny (model P w) A (.call (.ref f) ⟨us, ks.zip ws⟩) (CR CX outer P w H s Q E) s
/-- as KwChain, whatever stands at the end -/
def KwEnd {α : Type} (D : Addr) : List (Str × Value) → Sem α → Sem α → Prop
  | [], t, r => t = r
  | q :: l, t, r => ∃ (β γ : Type) (k1 : Option Value → Sem β) (k2 : β → Sem γ) (k3 : γ → Sem α) (a : β), t = ((nsGet D q.1 >>= k1) >>= k2) >>= k3 ∧ k1 (some q.2) = pure a ∧ KwEnd D l (k2 a >>= k3) r
theorem KwEnd.run {α : Type} {K : PySem.W.Frag} {M : Model} {D : Addr} {A : Around} {Ex : Value → Shared → Prop} {Q : α → Shared → Prop} {s : Shared} (X : K.In s.heap) : ∀ {l : List (Str × Value)} {t r : Sem α}, (∀ q ∈ l, PySem.W.nsIn K D q.1 = some (some q.2)) → KwEnd D l t r → wpAny M A r Q Ex s → wpAny M A t Q Ex s
  | [], t, r, _, e, h => by
    have e : t = r := e
    rw [e]
    exact h
  | q :: l, t, r, hl, e, h => by
    obtain ⟨β, γ, k1, k2, k3, a, e1, e2, e3⟩ := e
    have l1 : PySem.W.Looks M s.heap (nsGet D q.1 >>= k1) a := (PySem.W.looks_nsIn X (hl q (List.mem_cons_self ..))).andThen (PySem.W.Looks.of_pure e2)
    have l2 := KwEnd.run X (fun p hp => hl p (List.mem_cons_of_mem _ hp)) e3 h
    rw [e1, bind_assoc]
    exact wpAny_bind (l1 _ _ _ _ (fun _ _ z => z) l2)
section
variable {CX : CXT} {P : Program} {w : World} {K : PySem.W.Frag} {mg : Str → Option Value} {base : Heap} {k n : Nat} {f : Addr} {name qual : Str} {params : Arguments} {body : List Stmt} {scope : Scope} {N ps ks : List Str} {sp : Sp} {kws : List (Str × V)} {fd : FuncData}
/-- def f(a, *v, k = d, ..), called with n positional values and more, and the keywords ks; ms: the keyword-only parameters that lack -/
theorem fn_starK {pv : Str} (F : FunD K name qual params body scope [] kws f fd) (S : FnScope N (ps ++ [pv]) scope) (hCX : CXUp CX) (ms : List (Str × V)) (g : {α : Type} → List α → List α → List α → List α) (hk : kws ≠ []) (hms : ∀ q ∈ ms, q ∈ kws)
    (hrel : ∀ {vs mz zs : List V} {us mv ws : List Value}, Vals vs us → Vals mz mv → Vals zs ws → Vals (g vs mz zs) (g us mv ws))
    (hlen : ∀ us mv ws : List Value, us.length = n → mv.length = ms.length → ws.length = ks.length → (g us mv ws).length = ps.length)
    (hb : ∀ (D : Addr) (doc pm : Value) (an : Option Addr) (cdv ct : Value) (us rest mv ws : List Value), us.length = n → mv.length = ms.length → ws.length = ks.length →
      KwEnd D ((ms.map (·.1)).zip mv) (bindArgs (PySem.W.fnOf name qual params body scope .none (.ref D) doc pm an cdv ct) ⟨us ++ rest, ks.zip ws⟩) (newTuple rest >>= fun t => pure (ps.zip (g us mv ws) ++ [(pv, t)])))
    (hbody : ∀ (cdv : Value) (A : Around) (outer : List Env) (s : Shared) (H : Hp) (vs : List V) (Q : VK) (E : XK), Room k (A.deeper (envOfC qual scope s.heap.objs.size f cdv)) → sp vs H Q E →
      ∃ t, PSs (cxOf CX P w K mg base N qual scope f cdv A outer s H E) body t ∧ t { nx := fun _ H' => Q .non H', rt := Q } (start N vs) H) :
    FnRK P w K mg base CX (k + 1) f ks (fun vs zs H Q E => ∃ us rest, vs = us ++ rest ∧ us.length = n ∧ rest.length ≤ sizeLine ∧ ∀ p, H p = Option.none → sp (g us (ms.map (·.2)) zs ++ [V.ref p]) (upd H p (.tup rest)) Q E) := by
  obtain ⟨oc, od, dV, kV, doc, pm, an, cdv, ct, osl, rfl, lk, hcd, hD, hK⟩ := F.ex
  rcases hD with ⟨_, rfl⟩ | ⟨e, _⟩
  rotate_left
  · exact absurd rfl e
  rcases hK with e | ⟨D, rfl, hq⟩
  · exact absurd e hk
  obtain ⟨mv, hl3, rk, hks⟩ := kwd_vals (ms := ms) fun q hm => hq q (hms q hm)
  intro A outer s H us wz vs zs Q E hr e0 r rz lz hsp
  obtain ⟨ws, rest, ev, hl, hz, hq2⟩ := hsp
  subst ev
  obtain ⟨u1, u2, eu, r1, r2⟩ := vals_split r
  subst eu
  have hn : H s.heap.objs.size = Option.none := e0.hok.fresh (Nat.le_refl _)
  have hl1 : u1.length = n := by rw [← r1.length]; exact hl
  have hl2 : u2.length ≤ sizeLine := by rw [← r2.length]; exact hz
  have hl4 : wz.length = ks.length := by rw [← rz.length]; exact lz
  have KX : K.In s.heap := e0.mod.kin.keeps fun b o e => (e0.bs b o e).1
  refine run_bnd lk hcd S hr e0 (G := fun xs H2 => ∃ p, H p = Option.none ∧ xs = g ws (ms.map (·.2)) zs ++ [V.ref p] ∧ H2 = upd H p (.tup rest)) (fun A' Ex Q' h => ?_) fun s2 H2 xs ⟨p, hp, ex, eH⟩ hr' => ?_
  · refine KwEnd.run KX hks (hb D doc pm an cdv ct u1 u2 mv wz hl1 hl3 hl4) ?_
    refine wpAny_bind (wpAny_newTuple (wpAny_pure ?_) hl2)
    have new : ObjOk P w (upd H s.heap.objs.size (.tup rest)) (s.heap.push ({ cls := .type "tuple", data := .seq u2.toArray } : Obj)) s.heap.objs.size (.tup rest) := ⟨hz, u2, r2, ⟨_, Heap.get?_push_size _ rfl, rfl, _, rfl⟩⟩
    have un := un_laid (fs := frs outer) (s := s) (o := ({ cls := .type "tuple", data := .seq u2.toArray } : Obj)) (u := .tup rest) hn
    have rr : Vals (g ws (ms.map (·.2)) zs) (g u1 mv wz) := hrel r1 rk rz
    have ll : (g u1 mv wz).length = ps.length := hlen u1 mv wz hl1 hl3 hl4
    have z := h _ _ (g ws (ms.map (·.2)) zs ++ [V.ref s.heap.objs.size]) (g u1 mv wz ++ [Value.ref s.heap.objs.size]) (env0_laid e0 new) un rfl (fun e s' => hCX outer s H _ _ E e s' un (fun b o q => Heap.get?_push_of_some _ q) rfl) (rr.append (.cons rfl .nil))
      (by rw [List.length_append, List.length_append, rr.length, ll] <;> rfl) ⟨_, hn, rfl, rfl⟩
    rw [List.zip_append ll.symm] at z
    exact z
  · subst ex eH
    exact hbody cdv A outer s2 _ _ Q E hr' (hq2 p hp)
/-- a plain def with keyword-only parameters, called with keywords -/
theorem fnrk_of (F : FnOk P w K mg base CX k f fd ps sp) {g : List Value → List Value → List Value} {gV : List V → List V → List V} (hb : KBn K fd ps n ks g gV) : FnRK P w K mg base CX k f ks (fun vs zs H Q E => vs.length = n ∧ sp (gV vs zs) H Q E) := by
  intro A outer s H us ws vs zs Q E hr e0 r rz lz ⟨l1, h⟩
  have KX : K.In s.heap := e0.mod.kin.keeps fun b o e => (e0.bs b o e).1
  exact F.run A outer s H ⟨us, ks.zip ws⟩ (g us ws) (gV vs zs) Q E hr e0 (hb.to s us ws KX (r.length.symm.trans l1) (rz.length.symm.trans lz)) (hb.rel r rz) h
end
/-! ### calls -/
section
variable {M : Model} {A : Around} {E : Value → Shared → Prop} {s : Shared}
theorem ks_lone_kw {f : Value} {x : Sem Value} {pos : Pos} {kws : List (Option Str × Sem Value)} {Q : Args → Shared → Prop} (hall : kws.all (·.1.isSome) = true)
    (h : wpAny M A x (fun v s₁ => wpAny M A (evalAll (kws.map (·.2))) (fun ws s₂ => PySem.W.StarOf M A E v (fun vs s₃ => Q ⟨vs, (kws.filterMap (·.1)).zip ws⟩ s₃) s₂) E s₁) E s) :
    wpAny M A (evalArgs f true [(true, (do let v ← x; standAt pos; pure v))] kws) Q E s := by
  unfold evalArgs
  first
    | refine wpAny_bind (wpAny_bind (wpAny_mono h (fun v s₁ h₁ => wpAny_bind (wpAny_standAt (wpAny_pure ?_))) fun _ _ x => x))
    | refine wpAny_bind (wpAny_bind (wpAny_bind (wpAny_mono h (fun v s₁ h₁ => wpAny_bind (wpAny_standAt (wpAny_pure (wpAny_pure ?_)))) fun _ _ x => x)))
  refine wpAny_holding ?_
  rw [hall]
  simp only [if_true]
  refine wpAny_bind (wpAny_mono h₁ (fun ws s₂ h₂ => ?_) fun _ _ x => x)
  unfold PySem.W.StarOf at h₂
  refine wpAny_bind (wpAny_bind (wpAny_mono h₂ (fun b s₃ h₃ => ?_) fun _ _ x => x))
  obtain ⟨rfl, h₃⟩ := h₃
  have z := wpAny_holding (vs := ((kws.filterMap (·.1)).zip ws).map (·.2)) (wpAny_mono h₃ (fun vs s₄ h₄ => (wpAny_pure h₄ : wpAny M A (pure (⟨vs, (kws.filterMap (·.1)).zip ws⟩ : Args)) Q E s₄)) fun _ _ x => x)
  try simp only [Bool.false_eq_true, if_false]
  first
    | exact z
    | exact wpAny_bind (wpAny_pure z)
theorem ks_callk {f : Value} {first : List Value} {pos : Pos} {Q : Value → Shared → Prop} {P : Heap → Prop} {args : List (Bool × Sem Value)} {kws : List (Option Str × Sem Value)} (hst : args.any (·.1) = true)
    (hk : ∀ h, P h → ∃ k, (k = Keeper.frame ∨ k = Keeper.machine ∨ k = Keeper.boundFrame) ∧ PySem.W.Looks M h (keeperOf f) k)
    (h : wpAny M A (evalArgs f true args kws) (fun a s₁ => P s₁.heap ∧ wpAny M A (call f (first ++ a.pos) a.kw) Q E s₁) E s) : wpAny M A (callWith pos f first args kws) Q E s := by
  unfold callWith
  refine wpAny_bind (wpAny_holding (wpAny_mono h (fun a s₁ h₁ => wpAny_bind (wpAny_standAt ?_)) fun _ _ x => x))
  obtain ⟨k, hk', L⟩ := hk _ h₁.1
  simp only [hst, Bool.true_or]
  refine wpAny_bind (L.here ?_)
  have tail : ∀ {t : Sem Value}, wpAny M A t Q E s₁ → wpAny M A (t >>= fun r => holding [r] point >>= fun _ => pure r) Q E s₁ :=
    fun ht => wpAny_bind (wpAny_mono ht (fun r s₂ hr => wpAny_bind (wpAny_holding (wpAny_point (wpAny_pure hr)))) fun _ _ x => x)
  have marked (mk : Value) : wpAny M A (callMarked mk f (first ++ a.pos) a.kw) Q E s₁ := by unfold callMarked; exact Calls.wpAny_keep h₁.2
  rcases hk' with rfl | rfl | rfl <;> dsimp only <;> first | exact tail (marked _) | exact tail (wpAny_operating h₁.2)
end
/-- the class at C made with positional values and keywords -/
def TMade (C : Addr) (sp : Sp2) (E : XK) (vs zs : List V) : Hp → VK → Prop := fun H Q => ∀ x dx, H x = Option.none → H dx = Option.none → dx ≠ x →
  sp (V.ref x :: vs) zs (upd (upd H dx (.own x)) x (.ins C dx [])) (fun v H2 => v = .non ∧ Q (.ref x) H2) E
section
variable {X : Cx} {CX : CXT} {k : Nat} {f C : Addr} {ks : List Str} {sp : Sp2} {E : L2.St → XK} {x m : Str} {e fe o : Expr} {es : List Expr} {kws : List Keyword} {te tf ta : TE} {t tk : TA} {p sp_ pos apos : Pos} {pl : Sem Bool} {mc : Value}
theorem run_makeRK {pins : List (Addr × Obj)} {σ : L2.St} {H : Hp} {s : Shared} {Q : VK} {us ws : List Value} {vs zs : List V} {E : XK} (M : Mk X.K C f) (F : FnRK X.prog X.w X.K X.mg X.base CX k f ks sp) (hr : Room (k + 1) X.A) (hx : PassesAt CX X σ E)
    (I : Inv X pins σ H s) (r : Vals vs us) (rz : Vals zs ws) (lz : zs.length = ks.length) (h : TMade C sp E vs zs H Q) : wpAny (model X.prog X.w) X.A (call (.ref C) us (ks.zip ws)) (EP X pins σ Q) X.xe s := by
  have hq := h (s.heap.objs.size + 1) s.heap.objs.size (I.hok.fresh (Nat.le_succ _)) (I.hok.fresh (Nat.le_refl _)) (Nat.ne_of_lt (Nat.lt_succ_self _))
  have I2 := Inv.made (C := C) I
  have r2 : Vals (V.ref (s.heap.objs.size + 1) :: vs) (Value.ref (s.heap.objs.size + 1) :: us) := .cons rfl r
  refine wpAny_call (make_map (f := f) I.kIn M.makes M.init (beq_iff_eq.mp M.fn) (codeAny_mono (F _ X.stack _ _ (Value.ref (s.heap.objs.size + 1) :: us) ws _ zs _ E (hr.make C us (ks.zip ws)) (I2.env0.make C us (ks.zip ws)) r2 rz lz hq) fun r s' hq' => ?_))
  cases r with
  | error e => exact hx pins _ _ e s' I2 hq'
  | ok fl =>
    cases fl with
    | ret u =>
      obtain ⟨v, H', I3, rv, ev, q3⟩ := I2.after hq'
      subst ev
      exact ⟨rv, ⟨V.ref (s.heap.objs.size + 1), H', I3, rfl, q3⟩⟩
    | next => exact False.elim hq'
    | brk => exact False.elim hq'
    | cont => exact False.elim hq'
/-- v(*y, k = v, ..), v an expression that gives the class -/
def tMakeSK (K : PySem.W.Frag) (C : Addr) (ks : List Str) (sp : Sp2) (E : L2.St → XK) (tf te : TE) (tk : TA) : TE := fun σ H Q => tf σ H fun y H0 => y = .ref C ∧ te σ H0 fun a H1 => ∃ p, a = .ref p ∧ tk σ H1 fun zs H2 => ∃ xs, (SqT K H2 p xs ∨ SqL K H2 p xs) ∧ zs.length = ks.length ∧ TMade C sp (E σ) xs zs H2 Q
theorem callWith_SK {pins : List (Addr × Obj)} {σ : L2.St} {H : Hp} {s : Shared} {Q : VK} (M : Mk X.K C f) (F : FnRK X.prog X.w X.K X.mg X.base CX k f ks sp) (hr : Room (k + 1) X.A) (hx : PassesAt CX X σ (E σ)) (he : PE X e te) (hkw : PK X kws tk)
    (hall : (backToKw pos (keywordEach kws X.env)).all (·.1.isSome) = true) (hks : (backToKw pos (keywordEach kws X.env)).filterMap (·.1) = ks) (hst : starEach [.Starred e sp_] X.env = [(true, eval e X.env)]) (I : Inv X pins σ H s)
    (h : te σ H fun a H1 => ∃ p, a = .ref p ∧ tk σ H1 fun zs H2 => ∃ xs, (SqT X.K H2 p xs ∨ SqL X.K H2 p xs) ∧ zs.length = ks.length ∧ TMade C sp (E σ) xs zs H2 Q) :
    wpAny (model X.prog X.w) X.A (callWith pos (.ref C) [] (backTo pos (starEach [.Starred e sp_] X.env)) (backToKw pos (keywordEach kws X.env))) (EP X pins σ Q) X.xe s := by
  rw [hst]
  refine ks_callk rfl (PySem.W.keeps_K M.kp) (ks_lone_kw hall (thn (he.run pins s σ H _ I h) fun v s1 ⟨y, H1, I1, ry, a, ey, q⟩ => ?_))
  subst ey
  obtain rfl : v = Value.ref a := ry
  refine thn (hkw.run pos pins s1 σ H1 _ I1 q) fun ws s2 ⟨zs, H2, I2, rz, xs, hxs, lz, q2⟩ => ?_
  refine star_any I2 hxs fun us s3 I3 rv => ⟨I3.kIn, ?_⟩
  rw [hks]
  exact run_makeRK (us := us) M F hr hx I3 rv rz lz q2
theorem pe_makeSKV (hf : PE X fe tf) (M : Mk X.K C f) (F : FnRK X.prog X.w X.K X.mg X.base CX k f ks sp) (hr : Room (k + 1) X.A) (hx : ∀ σ, PassesAt CX X σ (E σ)) (he : PE X e te) (hkw : PK X kws tk)
    (hall : (backToKw pos (keywordEach kws X.env)).all (·.1.isSome) = true := by rfl) (hks : (backToKw pos (keywordEach kws X.env)).filterMap (·.1) = ks := by rfl) (hst : starEach [.Starred e sp_] X.env = [(true, eval e X.env)] := by rfl)
    (ht : eval (.Call fe [.Starred e sp_] kws pos) X.env = (do callWith pos (← eval fe X.env) [] (backTo pos (starEach [.Starred e sp_] X.env)) (backToKw pos (keywordEach kws X.env))) := by rfl) :
    PE X (.Call fe [.Starred e sp_] kws pos) (tMakeSK X.K C ks sp E tf te tk) := by
  refine ⟨fun pins s σ H Q I h => ?_⟩
  rw [ht]
  refine wpAny_bind (thn (hf.run pins s σ H _ I h) fun u s1 ⟨y, H1, I1, ry, ey, q⟩ => ?_)
  subst ey
  obtain rfl : u = Value.ref C := ry
  exact callWith_SK M F hr (hx σ) he hkw hall hks hst I1 q
/-- C(*y, k = v, ..), C a class of the module -/
theorem pe_makeSK (M : Mk X.K C f) (F : FnRK X.prog X.w X.K X.mg X.base CX k f ks sp) (hr : Room (k + 1) X.A) (hg : Gl X x) (hm : X.mg x = some (.ref C)) (hx : ∀ σ, PassesAt CX X σ (E σ)) (he : PE X e te) (hkw : PK X kws tk)
    (hall : (backToKw pos (keywordEach kws X.env)).all (·.1.isSome) = true := by rfl) (hks : (backToKw pos (keywordEach kws X.env)).filterMap (·.1) = ks := by rfl) (hst : starEach [.Starred e sp_] X.env = [(true, eval e X.env)] := by rfl) (hdb : (x == ("__debug__" : Str)) = false := by decide) :
    PE X (.Call (.Name x p) [.Starred e sp_] kws pos) (tMakeSK X.K C ks sp E (fun _ H Q => Q (.ref C) H) te tk) := by
  refine ⟨fun pins s σ H Q I h => ?_⟩
  obtain ⟨_, h⟩ := h
  refine wpAny_Call_Name_kw (ld_glob I hg hm ?_ hdb)
  exact callWith_SK M F hr (hx σ) he hkw hall hks hst I h
/-- C() -/
theorem pe_makeRK0 (M : Mk X.K C f) (F : FnRK X.prog X.w X.K X.mg X.base CX k f [] sp) (hr : Room (k + 1) X.A) (hg : Gl X x) (hm : X.mg x = some (.ref C)) (hx : ∀ σ, PassesAt CX X σ (E σ)) (hdb : (x == ("__debug__" : Str)) = false := by decide) :
    PE X (.Call (.Name x p) [] [] pos) (fun σ H Q => TMade C sp (E σ) [] [] H Q) := by
  refine ⟨fun pins s σ H Q I h => ?_⟩
  refine wpAny_Call_Name_kw (ld_glob I hg hm ?_ hdb)
  exact PySem.W.callWith_K0 I.kIn M.kp (run_makeRK (us := []) (ws := []) M F hr (hx σ) I .nil .nil rfl h)
/-- C.m(e, .., k = v, ..), m a classmethod -/
def tCMethNK (C : Addr) (ks : List Str) (sp : Sp2) (E : L2.St → XK) (ta : TE) (t tk : TA) : TE := fun σ H Q => ta σ H fun x H1 => x = .ref C ∧ t σ H1 fun vs H2 => tk σ H2 fun zs H3 => zs.length = ks.length ∧ sp (.ref C :: vs) zs H3 Q (E σ)
theorem pe_cmethNK {pm g : Addr} (he : PE X o ta) (r : ClX.CRead X.K C mc) (c : ClX.CMet X.K C mc m pm g) (F : FnRK X.prog X.w X.K X.mg X.base CX k g ks sp) (hr : Room k X.A) (hx : ∀ σ, PassesAt CX X σ (E σ)) (ha : PA X (e :: es) t) (hkw : PK X kws tk)
    (hall : (backToKw pos (keywordEach kws X.env)).all (·.1.isSome) = true := by rfl) (hks : (backToKw pos (keywordEach kws X.env)).filterMap (·.1) = ks := by rfl)
    (hst : starEach (e :: es) X.env = (false, eval e X.env) :: starEach es X.env := by rfl) (hpl : ((backTo pos (starEach (e :: es) X.env)).any (·.1) || (backToKw pos (keywordEach kws X.env)).any (·.1.isNone)) = false := by rfl)
    (ht : eval (.Call (.Attribute o m apos) (e :: es) kws pos) X.env = (do
      let ov ← eval o X.env
      standAt apos.atName
      let (f, first) ← holding [ov] (getMethod ov m pl)
      callWith pos f first (backTo pos (starEach (e :: es) X.env)) (backToKw pos (keywordEach kws X.env))) := by rfl) :
    PE X (.Call (.Attribute o m apos) (e :: es) kws pos) (tCMethNK C ks sp E ta t tk) := by
  refine ⟨fun pins s σ H Q I h => ?_⟩
  refine PySem.W.methodCall_KW (pl := pl) (thn (he.run pins s σ H _ I h) fun u s1 ⟨x, H1, I1, rx, ex, q⟩ => ?_) ht
  subst ex
  obtain rfl : u = Value.ref C := rx
  refine ClX.getmethcm_ok I1 r c fun s2 I2 => ?_
  refine PySem.W.callWith_of hpl (PySem.W.keeps_M (K := X.K) (self := .ref C) c.fi) (evalArgs_kw2 hall (thn (ha.run pos _ s2 σ H1 _ I2 q) fun us s3 ⟨vs, H2, I3, rv, q2⟩ => ?_) hst)
  refine thn (hkw.run pos _ s3 σ H2 _ I3 q2) fun ws s4 ⟨zs, H3, I4, rz, l2, q3⟩ => ⟨⟨ClX.pin_at I4, I4.kIn⟩, ?_⟩
  rw [hks]
  have rC : Vals (V.ref C :: vs) (Value.ref C :: us) := .cons rfl rv
  have z : wpAny (model X.prog X.w) X.A (call (.ref s1.heap.objs.size) ([] ++ us) (ks.zip ws)) (EP X ((s1.heap.objs.size, PySem.W.methodObj (.ref g) (.ref C)) :: pins) σ Q) X.xe s4 := by
    refine wpAny_call (PySem.W.method_call (ClX.pin_at I4) (codeAny_mono (F X.A X.stack s4 H3 (.ref C :: us) ws (.ref C :: vs) zs Q (E σ) hr I4.env0 rC rz l2 q3) fun r s' hq => ?_))
    cases r with
    | error e => exact hx σ _ H3 s4 e s' I4 hq
    | ok fl =>
      cases fl with
      | ret u => exact I4.after hq
      | next => exact False.elim hq
      | brk => exact False.elim hq
      | cont => exact False.elim hq
  exact thn z fun _ _ y => ClX.unpinE y
end
end KwS

end

section
namespace OwnC
open PySem L2 PySem.Spec PyProof.Rows
/-! ### x in o, x not in o by an own __contains__; o[i] by an own __getitem__ that may raise -/
def rInF (X : Cx) (neg : Bool) : R2 := fun x y H Q => ∃ a C dx fs CX n sp E, y = .ref a ∧ H a = some (.ins C dx fs) ∧ OwnM X CX n C "__contains__" sp E ∧ Room n X.A ∧ sp [.ref a, x] H (fun v H' => ∃ r, v = .bl r ∧ Q (.bl (if neg = true then !r else r)) H') E
theorem op_inF {X : Cx} : OpR X (compareOp .In) (rInF X false) := by
  intro pn s st H x y v u Q I rx ry told
  obtain ⟨a, C, dx, fs, CX, n, sp, E, rfl, ha, o, hr, q⟩ := told
  have eu : u = Value.ref a := ry
  subst eu
  obtain ⟨m1, J, _⟩ := ins_get I.hok ha
  obtain ⟨od, J, _⟩ := J.look
  obtain ⟨m, hF⟩ := I.fr
  obtain ⟨f, hs, hf, hcall⟩ := call_own2 o I hr I.env0 (show RelV (V.ref a) (Value.ref a) from rfl) rx q
  refine PySem.W.in_K hF I.ok.mod.kin J hs hf (wpAny_mono hcall (fun r s' z => ?_) fun _ _ e => e)
  obtain ⟨z2, H2, I2, rz, b2, rfl, qz⟩ := z
  cases rz
  exact wpAny_truthy_bool ⟨.bl _, H2, I2, rfl, qz⟩
theorem op_notInF {X : Cx} : OpR X (compareOp .NotIn) (rInF X true) := by
  intro pn s st H x y v u Q I rx ry told
  obtain ⟨a, C, dx, fs, CX, n, sp, E, rfl, ha, o, hr, q⟩ := told
  have eu : u = Value.ref a := ry
  subst eu
  obtain ⟨m1, J, _⟩ := ins_get I.hok ha
  obtain ⟨od, J, _⟩ := J.look
  obtain ⟨m, hF⟩ := I.fr
  obtain ⟨f, hs, hf, hcall⟩ := call_own2 o I hr I.env0 (show RelV (V.ref a) (Value.ref a) from rfl) rx q
  refine PySem.W.notIn_K hF I.ok.mod.kin J hs hf (wpAny_mono hcall (fun r s' z => ?_) fun _ _ e => e)
  obtain ⟨z2, H2, I2, rz, b2, rfl, qz⟩ := z
  cases rz
  exact wpAny_truthy_bool ⟨.bl _, H2, I2, rfl, qz⟩
theorem rd_inF {X : Cx} {x y : V} {H : Hp} {Q : VK} (h : ∃ a C dx fs CX n sp E, y = .ref a ∧ H a = some (.ins C dx fs) ∧ OwnM X CX n C "__contains__" sp E ∧ Room n X.A ∧ sp [.ref a, x] H (fun v H' => ∃ r, v = .bl r ∧ Q (.bl r) H') E) : rInF X false x y H Q := h
theorem rd_notInF {X : Cx} {x y : V} {H : Hp} {Q : VK} (h : ∃ a C dx fs CX n sp E, y = .ref a ∧ H a = some (.ins C dx fs) ∧ OwnM X CX n C "__contains__" sp E ∧ Room n X.A ∧ sp [.ref a, x] H (fun v H' => ∃ r, v = .bl r ∧ Q (.bl (!r)) H') E) : rInF X true x y H Q := h
section
variable {X : Cx} {pins : List (Addr × Obj)} {σ : L2.St} {H : Hp} {s : Shared}
theorem call_twoS {CX : CXT} {n : Nat} {f : Addr} {fd : FuncData} {ps : List Str} {sp : Sp} {E : XK} {A : Around} {Q : VK} {x y : V} {u v : Value} (F : FnOk X.prog X.w X.K X.mg X.base CX n f fd ps sp) (hb : Binds X.K fd ps []) (hx : PassesAt CX X σ E) (I : Inv X pins σ H s) (hr : Room n A)
    (e0 : Env0 X.prog X.w X.K X.mg X.base A X.stack s H) (rx : RelV x u) (ry : RelV y v) (q : sp [x, y] H Q E) : wpAny (model X.prog X.w) A (call (.ref f) [u, v]) (EP X pins σ Q) X.xe s := by
  have hl : [x, y].length = ps.length := F.len _ _ _ _ q
  refine wpAny_call (codeAny_mono (F.run A X.stack s H ⟨[u, v], []⟩ [u, v] [x, y] Q E hr e0 ?_ (.cons rx (.cons ry .nil)) q) fun r s2 hq => ?_)
  · have := hb s [u, v] I.kIn (by simpa using hl)
    simpa using this
  · cases r with
    | error e => exact hx pins H s e s2 I hq
    | ok fl =>
      cases fl with
      | ret w' => exact I.after hq
      | _ => exact False.elim hq
end
def tSubX (P : Program) (w : World) (K : PySem.W.Frag) (mg : Str → Option Value) (base : Heap) (CX : CXT) (n : Nat) (E : L2.St → XK) (ta tb : TE) : TE := fun σ H Q => ta σ H fun x H1 => tb σ H1 fun y H2 =>
  ∃ a C dx fs f fd ps sp, x = .ref a ∧ H2 a = some (.ins C dx fs) ∧ FnOk P w K mg base CX n f fd ps sp ∧ Binds K fd ps [] ∧ PySem.W.findIn K (.ref C) "__getitem__" = some (some (.ref f)) ∧ PySem.W.isFn K (.ref f) = true ∧ PySem.W.fnIn K f = true ∧ sp [x, y] H2 Q (E σ)
theorem rd_subX {P : Program} {w : World} {K : PySem.W.Frag} {mg : Str → Option Value} {base : Heap} {CX : CXT} {n : Nat} {E : L2.St → XK} {ta tb : TE} {σ : L2.St} {H : Hp} {Q : VK} (h : ta σ H fun x H1 => tb σ H1 fun y H2 =>
  ∃ a C dx fs f fd ps sp, x = .ref a ∧ H2 a = some (.ins C dx fs) ∧ FnOk P w K mg base CX n f fd ps sp ∧ Binds K fd ps [] ∧ PySem.W.findIn K (.ref C) "__getitem__" = some (some (.ref f)) ∧ PySem.W.isFn K (.ref f) = true ∧ PySem.W.fnIn K f = true ∧ sp [x, y] H2 Q (E σ)) : tSubX P w K mg base CX n E ta tb σ H Q := h
theorem pe_subX {X : Cx} {CX : CXT} {n : Nat} (P : Program) (w : World) (K : PySem.W.Frag) (mg : Str → Option Value) (base : Heap) {E : L2.St → XK} {a b : Expr} {ta tb : TE} {pos : Pos} (hr : Room (n + 1) X.A) (hx : ∀ σ, PassesAt CX X σ (E σ)) (ha : PE X a ta) (hb : PE X b tb)
    (e1 : X.prog = P := by rfl) (e2 : X.w = w := by rfl) (e3 : X.K = K := by rfl) (e4 : X.mg = mg := by rfl) (e5 : X.base = base := by rfl)
    (hsl : ∀ o i, subscripted b true o i = runValue (.builtin "lifetime.subscript" ⟨[o, i], []⟩) := by intro o i; with_unfolding_all rfl) : PE X (.Subscript a b pos) (tSubX P w K mg base CX n E ta tb) := by
  subst e1 e2 e3 e4 e5
  refine ⟨fun pins s σ H Q I h => ?_⟩
  refine Subscript_ (binT ha hb I h fun v u s2 x y H2 I2 rx ry q => ?_)
  obtain ⟨p, C, dx, fs, f, fd, ps, sp, rfl, hp, F, hbd, hs, hf, hfn, q⟩ := q
  have ev : v = Value.ref p := rx
  subst ev
  obtain ⟨m1, J, _⟩ := ins_get I2.hok hp
  obtain ⟨od, J, _⟩ := J.look
  obtain ⟨m, hF⟩ := I2.fr
  exact PySem.W.sub_K hF I2.ok.mod.kin J hs hfn hf (call_twoS F hbd (hx σ) I2 hr.in1 I2.env0.in1 rx ry q) (hsl _ _)
end OwnC
namespace NetL
open PySem PySem.Spec PyProof.Rows L2 Lay
/-! ### a net -/
def sel (p : It → Bool) (its : List It) (ps : List V) : List V := ((its.zip ps).filter fun q => p q.1).map (·.2)
def named (its : List It) (ps : List V) : List (Key × V) := (its.zip ps).map fun q => ((.inr q.1.nm : Key), q.2)
def netF (l r : Int) (tv ts ta dn : Addr) : List (Str × V) := [("line", .int l), ("ring", .int r), ("variables", .ref tv), ("signals", .ref ts), ("agents", .ref ta), ("_named", .ref dn)]
def NetAt (C : Cs) (N : Addr) (H : Hp) (x : Addr) (l r : Int) (its : List It) (ps : List V) : Prop := ∃ dx tv ts ta dn, H x = some (.ins N dx (netF l r tv ts ta dn)) ∧ H tv = some (.tup (sel It.isV its ps)) ∧ H ts = some (.tup (sel It.isS its ps)) ∧ H ta = some (.tup (sel It.isA its ps)) ∧
  H dn = some (.dK (named its ps)) ∧ PartsAt C H ps its
theorem NetAt.mono {C : Cs} {N : Addr} {H H' : Hp} {x : Addr} {l r : Int} {its : List It} {ps : List V} (s : Same H H') (h : NetAt C N H x l r its ps) : NetAt C N H' x l r its ps := by
  obtain ⟨dx, tv, ts, ta, dn, h1, h2, h3, h4, h5, h6⟩ := h
  exact ⟨dx, tv, ts, ta, dn, s _ _ h1, s _ _ h2, s _ _ h3, s _ _ h4, s _ _ h5, h6.mono s⟩
def lineOk (l : Int) : Prop := l ∈ ([1, 2, 4, 8, 16] : List Int)
/-- Net's __init__ with good parts; H0: ahead of the instance -/
def spNetInit (C : Cs) (N : Addr) : Sp := fun vs H Q _ => ∃ H0 x dx l r t ps its, vs = [.ref x, .int l, .int r, .ref t] ∧ H0 x = none ∧ Same H0 H ∧ H x = some (.ins N dx []) ∧ lineOk l ∧ 1 ≤ r ∧ r ≤ 4 ∧ H t = some (.tup ps) ∧ PartsAt C H0 ps its ∧ Good r its ∧ ps.length ≤ 16 ∧
  ∀ H', NetAt C N H' x l r its ps → Same H0 H' → Q .non H'
theorem sel_len (p : It → Bool) {its : List It} {ps : List V} : (sel p its ps).length ≤ ps.length := by
  unfold sel
  rw [List.length_map]
  refine Nat.le_trans (List.length_filter_le _ _) ?_
  rw [List.length_zip]
  omega
theorem zip_succ {α β : Type} {xs : List α} {ys : List β} {i : Nat} {x : α} {y : β} (hx : xs[i]? = some x) (hy : ys[i]? = some y) : (xs.take (i + 1)).zip (ys.take (i + 1)) = (xs.take i).zip (ys.take i) ++ [(x, y)] := by
  have l1 : i < xs.length := (List.getElem?_eq_some_iff.mp hx).1
  have l2 : i < ys.length := (List.getElem?_eq_some_iff.mp hy).1
  rw [take_succ hx, take_succ hy, List.zip_append (by rw [List.length_take, List.length_take]; omega)]
  rfl
theorem sel_succ (p : It → Bool) {its : List It} {ps : List V} {i : Nat} {it : It} {v : V} (hx : its[i]? = some it) (hy : ps[i]? = some v) : sel p (its.take (i + 1)) (ps.take (i + 1)) = sel p (its.take i) (ps.take i) ++ (if p it = true then [v] else []) := by
  unfold sel
  rw [zip_succ hx hy, List.filter_append, List.map_append]
  by_cases e : p it = true
  · rw [List.filter_cons_of_pos (p := fun q : It × V => p q.1) (a := (it, v)) e, if_pos e]; rfl
  · rw [List.filter_cons_of_neg (p := fun q : It × V => p q.1) (a := (it, v)) e, if_neg e]; rfl
theorem sel_parts {C : Cs} {H : Hp} (p : It → Bool) : ∀ {ps : List V} {its : List It}, PartsAt C H ps its → PartsAt C H (sel p its ps) (its.filter p)
  | _, _, .nil => .nil
  | v :: ps, it :: its, .cons r t => by
    have ih := sel_parts p t
    unfold sel at ih ⊢
    rw [List.zip_cons_cons]
    by_cases e : p it = true
    · rw [List.filter_cons_of_pos (by exact e), List.filter_cons_of_pos e]
      exact .cons r ih
    · rw [List.filter_cons_of_neg (by exact e), List.filter_cons_of_neg e]
      exact ih
theorem named_app {its its2 : List It} {ps ps2 : List V} (h : its.length = ps.length) : named (its ++ its2) (ps ++ ps2) = named its ps ++ named its2 ps2 := by
  unfold named
  rw [List.zip_append h, List.map_append]
theorem named_succ {its : List It} {ps : List V} {i : Nat} {it : It} {v : V} (hx : its[i]? = some it) (hy : ps[i]? = some v) : named (its.take (i + 1)) (ps.take (i + 1)) = named (its.take i) (ps.take i) ++ [((.inr it.nm : Key), v)] := by
  unfold named
  rw [zip_succ hx hy, List.map_append]
  rfl
theorem named_no {n : Str} : ∀ {its : List It} {ps : List V}, n ∉ its.map It.nm → valV (named its ps) (.inr n) = none
  | [], _, _ => rfl
  | _ :: _, [], _ => rfl
  | it :: its, v :: ps, h => by
    have ne : ¬ ((.inr it.nm : Key) = .inr n) := fun e => by
      injection e with e
      exact h (by rw [← e]; exact List.mem_cons_self)
    show valV (((.inr it.nm : Key), v) :: named its ps) (.inr n) = none
    rw [valV_neg (p := ((.inr it.nm : Key), v)) ne]
    exact named_no fun m => h (List.mem_cons_of_mem _ m)
theorem named_at : ∀ {its : List It} {ps : List V} {i : Nat} {it : It} {v : V}, (its.map It.nm).Nodup → its[i]? = some it → ps[i]? = some v → valV (named its ps) (.inr it.nm) = some v
  | it0 :: its, v0 :: ps, 0, it, v, _, h1, h2 => by
    obtain rfl : it0 = it := by simpa using h1
    obtain rfl : v0 = v := by simpa using h2
    exact valV_pos (p := ((.inr it0.nm : Key), v0)) rfl
  | it0 :: its, v0 :: ps, i + 1, it, v, nd, h1, h2 => by
    rw [List.map_cons, List.nodup_cons] at nd
    have h1' : its[i]? = some it := by simpa using h1
    have h2' : ps[i]? = some v := by simpa using h2
    have ne : ¬ ((.inr it0.nm : Key) = .inr it.nm) := fun e => by
      injection e with e
      exact nd.1 (by rw [e]; exact List.mem_map.mpr ⟨it, List.mem_of_getElem? h1', rfl⟩)
    show valV (((.inr it0.nm : Key), v0) :: named its ps) (.inr it.nm) = some v
    rw [valV_neg (p := ((.inr it0.nm : Key), v0)) ne]
    exact named_at nd.2 h1' h2'
  | [], _, i, _, _, _, h1, _ => by simp at h1
  | _ :: _, [], i, _, _, _, _, h2 => by simp at h2
theorem named_put {its : List It} {ps : List V} {i : Nat} {it : It} {v : V} (no : it.nm ∉ (its.take i).map It.nm) (hx : its[i]? = some it) (hy : ps[i]? = some v) : putK (named (its.take i) (ps.take i)) (.inr it.nm) v = named (its.take (i + 1)) (ps.take (i + 1)) := by
  rw [putK_new _ (named_no no), named_succ hx hy]
theorem named_len {its : List It} {ps : List V} : (named its ps).length ≤ ps.length := by
  unfold named
  rw [List.length_map, List.length_zip]
  omega
end NetL

end

section
namespace NetL
open PySem PySem.Spec PyProof.Rows L2 Lay Exv
theorem passAt0 {X : Cx} {σ : L2.St} {E : XK} : PassesAt CX0 X σ E := fun _ _ _ _ _ _ h => h.elim
/-- Net's __init__, called with line and ring -/
abbrev spInitK (C : Cs) (N : Addr) : KwS.Sp2 := fun vs zs H Q E => ∃ us rest, vs = us ++ rest ∧ us.length = 1 ∧ rest.length ≤ sizeLine ∧ ∀ p, H p = Option.none → spNetInit C N (us ++ zs ++ [V.ref p]) (upd H p (.tup rest)) Q E
abbrev spInit0 (C : Cs) (N : Addr) : KwS.Sp2 := fun vs zs H Q E => ∃ us rest, vs = us ++ rest ∧ us.length = 1 ∧ rest.length ≤ sizeLine ∧ ∀ p, H p = Option.none → spNetInit C N (us ++ [V.int 8, V.int 1] ++ [V.ref p]) (upd H p (.tup rest)) Q E
theorem mk_netX {C : Cs} {N : Addr} {H : Hp} {l r : Int} {its : List It} {ps : List V} {Q : VK} {E : XK} (lok : lineOk l) (r1 : 1 ≤ r) (r4 : r ≤ 4) (hp : PartsAt C H ps its) (hg : Good r its) (hl : ps.length ≤ 16) (q : ∀ x H', H x = none → Same H H' → NetAt C N H' x l r its ps → Q (.ref x) H') :
    ∀ x dx, H x = Option.none → H dx = Option.none → dx ≠ x → ps.length ≤ sizeLine ∧ ∀ p, (upd (upd H dx (.own x)) x (.ins N dx [])) p = Option.none → spNetInit C N [V.ref x, .int l, .int r, V.ref p] (upd (upd (upd H dx (.own x)) x (.ins N dx [])) p (.tup ps)) (fun v H2 => v = .non ∧ Q (.ref x) H2) E := by
  intro x dx hx hdx hne
  refine ⟨Nat.le_trans hl (by decide), fun p hpn => ?_⟩
  have s0 : Same H (upd (upd H dx (.own x)) x (.ins N dx [])) := Lay.Same.upd' (Lay.Same.upd hdx) (by rw [upd_ne hne.symm]; exact hx)
  have hpx : x ≠ p := fun e => by subst e; rw [upd_same] at hpn; cases hpn
  refine ⟨H, x, dx, l, r, p, ps, its, rfl, hx, s0.trans (Lay.Same.upd hpn), ?_, lok, r1, r4, upd_same, hp, hg, hl, fun H' n s => ⟨rfl, q x H' hx s n⟩⟩
  rw [upd_ne hpx]
  exact upd_same
theorem mk_net {C : Cs} {N : Addr} {H : Hp} {l r : Int} {its : List It} {ps : List V} {Q : VK} {E : XK} (lok : lineOk l) (r1 : 1 ≤ r) (r4 : r ≤ 4) (hp : PartsAt C H ps its) (hg : Good r its) (hl : ps.length ≤ 16) (q : ∀ x H', H x = none → Same H H' → NetAt C N H' x l r its ps → Q (.ref x) H') :
    KwS.TMade N (spInitK C N) E ps [.int l, .int r] H Q := by
  intro x dx hx hdx hne
  obtain ⟨h1, h2⟩ := mk_netX (E := E) lok r1 r4 hp hg hl q x dx hx hdx hne
  exact ⟨[.ref x], ps, rfl, rfl, h1, h2⟩
/-- Net.made(x, line=.., ring=..) -/
def spNetMade (C : Cs) (N : Addr) : Sp := fun vs H Q _ => ∃ a l r ps its, vs = [.ref N, .ref a, .int l, .int r] ∧ (H a = some (.tup ps) ∨ H a = some (.lst ps)) ∧ lineOk l ∧ 1 ≤ r ∧ r ≤ 4 ∧ PartsAt C H ps its ∧ Good r its ∧ ps.length ≤ 16 ∧ ∀ x H', H x = none → Same H H' → NetAt C N H' x l r its ps → Q (.ref x) H'
theorem rd_makeSK {K : PySem.W.Frag} {C : Addr} {ks : List Str} {sp : KwS.Sp2} {E : L2.St → XK} {tf te : TE} {tk : TA} {σ : L2.St} {H : Hp} {Q : VK} (h : tf σ H fun y H0 => y = .ref C ∧ te σ H0 fun a H1 => ∃ p, a = .ref p ∧ tk σ H1 fun zs H2 => ∃ xs, (SqT K H2 p xs ∨ SqL K H2 p xs) ∧ zs.length = ks.length ∧ KwS.TMade C sp (E σ) xs zs H2 Q) : KwS.tMakeSK K C ks sp E tf te tk σ H Q := h
theorem rd_cmethNK {C : Addr} {ks : List Str} {sp : KwS.Sp2} {E : L2.St → XK} {ta : TE} {t tk : TA} {σ : L2.St} {H : Hp} {Q : VK} (h : ta σ H fun x H1 => x = .ref C ∧ t σ H1 fun vs H2 => tk σ H2 fun zs H3 => zs.length = ks.length ∧ sp (.ref C :: vs) zs H3 Q (E σ)) : KwS.tCMethNK C ks sp E ta t tk σ H Q := h
def hasNm (its : List It) : V → Bool
  | .str n => decide (n ∈ its.map It.nm)
  | _ => false
theorem named_has {n : Str} {its : List It} {ps : List V} (h : ps.length = its.length) : (valV (named its ps) (.inr n)).isSome = decide (n ∈ its.map It.nm) := by
  induction its generalizing ps with
  | nil => rfl
  | cons it its ih =>
    cases ps with
    | nil => cases h
    | cons v ps =>
      by_cases e : it.nm = n
      · have z : valV (((.inr it.nm : Key), v) :: named its ps) (.inr n) = some v := by rw [← e]; exact valV_pos (p := ((.inr it.nm : Key), v)) rfl
        show (valV (((.inr it.nm : Key), v) :: named its ps) (.inr n)).isSome = _
        rw [z, decide_eq_true]
        · rfl
        · rw [← e]; exact List.mem_cons_self
      · have ne : ¬ ((.inr it.nm : Key) = .inr n) := fun z => e (by injection z)
        show (valV (((.inr it.nm : Key), v) :: named its ps) (.inr n)).isSome = _
        rw [valV_neg (p := ((.inr it.nm : Key), v)) ne, ih (Nat.succ.inj h), List.map_cons]
        by_cases m : n ∈ its.map It.nm
        · rw [decide_eq_true m, decide_eq_true (List.mem_cons_of_mem _ m)]
        · rw [decide_eq_false m, decide_eq_false fun z => (List.mem_cons.mp z).elim (fun z => e z.symm) m]
def spContains (C : Cs) (N : Addr) : Sp := fun vs H Q _ => ∃ x l r its ps v, vs = [.ref x, v] ∧ NetAt C N H x l r its ps ∧ Kz H v ∧ Q (.bl (hasNm its v)) H
def spGetName (C : Cs) (N EN : Addr) : Sp := fun vs H Q E => ∃ x l r its ps v, vs = [.ref x, v] ∧ NetAt C N H x l r its ps ∧ Kz H v ∧ (its.map It.nm).Nodup ∧
  (hasNm its v = false → ErrW EN E H [("name", v)]) ∧ ∀ (i : Nat) (it : It) (p : V), v = .str it.nm → its[i]? = some it → ps[i]? = some p → Q p H
def spNetLen (C : Cs) (N : Addr) : Sp := fun vs H Q _ => ∃ x l r its ps, vs = [.ref x] ∧ NetAt C N H x l r its ps ∧ Q (.int ((its.filter It.isA).length : Nat)) H
theorem sel_length {C : Cs} {H : Hp} {ps : List V} {its : List It} (p : It → Bool) (h : PartsAt C H ps its) : (sel p its ps).length = (its.filter p).length := (sel_parts p h).length
end NetL

end

section
/-! NetG: what the laws about nets draw: items, and the nets they tell -/
namespace NetG
open PySem PySem.Spec PyProof.Rows Lay NetL
open L2 hiding It
/-- what stands off S stays -/
def Stay (S : List Addr) (H H' : Hp) : Prop := ∀ b o, b ∉ S → H b = some o → H' b = some o
def Lists (S : List Addr) (H : Hp) : Prop := ∀ a ∈ S, ∃ xs, H a = some (.lst xs)
theorem Stay.refl {S : List Addr} {H : Hp} : Stay S H H := fun _ _ _ e => e
theorem Stay.trans {S : List Addr} {H H' H'' : Hp} (h : Stay S H H') (g : Stay S H' H'') : Stay S H H'' := fun b o n e => g b o n (h b o n e)
theorem Stay.of {S : List Addr} {H H' : Hp} (h : Same H H') : Stay S H H' := fun b o _ e => h b o e
theorem Stay.keep {p : Addr} {S : List Addr} {H H' : Hp} (m : p ∈ S) (h : Keep p H H') : Stay S H H' := fun b o n e => h b o (fun z => n (by rw [z]; exact m)) e
theorem Stay.upd {a : Addr} {S : List Addr} {H : Hp} {o : HO} (m : a ∈ S) : Stay S H (upd H a o) := fun b o' n e => by
  rw [upd_ne (fun z => n (by rw [z]; exact m))]
  exact e
theorem Stay.to_keep {p : Addr} {S : List Addr} {H0 H H' : Hp} (k : Keep p H0 H) (n : ∀ a ∈ S, a ≠ p → H0 a = none) (h : Stay S H H') : Keep p H0 H' := fun b o hb e =>
  h b o (fun m => by have z := n b m hb; rw [z] at e; cases e) (k b o hb e)
theorem lists_tup {S : List Addr} {H : Hp} (h : Lists S H) {b : Addr} {l : List V} (e : H b = some (.tup l)) : b ∉ S := fun m => by
  obtain ⟨xs, z⟩ := h b m
  rw [z] at e
  cases e
theorem rows_stay {S : List Addr} {H H' : Hp} {xs : List V} {ls : List (List V)} (h : Lists S H) (s : Stay S H H') (r : RowsAt H xs ls) : RowsAt H' xs ls := r.same fun b l e => s b _ (lists_tup h e) e
/-- an item of a law: a tuple; its list lies off S -/
def ItemAt (S : List Addr) (H : Hp) (v : V) : It → Prop
  | .vr z s ats => ∃ a b, v = .ref a ∧ H a = some (.tup [.str "var", .str z, .int s, .ref b]) ∧ H b = some (.lst (ats.map V.int)) ∧ b ∉ S
  | .sg z t => ∃ a, v = .ref a ∧ H a = some (.tup [.str "sig", .str z, .int t])
  | .ag z k ls => ∃ a b ys, v = .ref a ∧ H a = some (.tup [.str "agent", .str z, .int k, .ref b]) ∧ H b = some (.lst ys) ∧ b ∉ S ∧ RowsAt H ys ls
theorem ItemAt.stay {S : List Addr} {H H' : Hp} {v : V} (h : Lists S H) (s : Stay S H H') : ∀ {it : It}, ItemAt S H v it → ItemAt S H' v it
  | .vr _ _ _, ⟨a, b, e, h1, h2, n⟩ => ⟨a, b, e, s _ _ (lists_tup h h1) h1, s _ _ n h2, n⟩
  | .sg _ _, ⟨a, e, h1⟩ => ⟨a, e, s _ _ (lists_tup h h1) h1⟩
  | .ag _ _ _, ⟨a, b, ys, e, h1, h2, n, r⟩ => ⟨a, b, ys, e, s _ _ (lists_tup h h1) h1, s _ _ n h2, n, rows_stay h s r⟩
theorem ItemAt.mono {S : List Addr} {H H' : Hp} {v : V} (s : Same H H') : ∀ {it : It}, ItemAt S H v it → ItemAt S H' v it
  | .vr _ _ _, ⟨a, b, e, h1, h2, n⟩ => ⟨a, b, e, s _ _ h1, s _ _ h2, n⟩
  | .sg _ _, ⟨a, e, h1⟩ => ⟨a, e, s _ _ h1⟩
  | .ag _ _ _, ⟨a, b, ys, e, h1, h2, n, r⟩ => ⟨a, b, ys, e, s _ _ h1, s _ _ h2, n, r.mono s⟩
theorem ItemAt.off {S S' : List Addr} {H : Hp} {v : V} (h : ∀ b o, b ∉ S → H b = some o → b ∉ S') : ∀ {it : It}, ItemAt S H v it → ItemAt S' H v it
  | .vr _ _ _, ⟨a, b, e, h1, h2, n⟩ => ⟨a, b, e, h1, h2, h b _ n h2⟩
  | .sg _ _, ⟨a, e, h1⟩ => ⟨a, e, h1⟩
  | .ag _ _ _, ⟨a, b, ys, e, h1, h2, n, r⟩ => ⟨a, b, ys, e, h1, h2, h b _ n h2, r⟩
abbrev ItemsAt (S : List Addr) (H : Hp) : List V → List It → Prop := Paired (ItemAt S H)
theorem ItemsAt.stay {S : List Addr} {H H' : Hp} {vs : List V} {its : List It} (h : Lists S H) (s : Stay S H H') (r : ItemsAt S H vs its) : ItemsAt S H' vs its := Paired.mono (fun _ _ => ItemAt.stay h s) r
theorem ItemsAt.mono {S : List Addr} {H H' : Hp} {vs : List V} {its : List It} (s : Same H H') (r : ItemsAt S H vs its) : ItemsAt S H' vs its := Paired.mono (fun _ _ => ItemAt.mono s) r
theorem ItemsAt.off {S S' : List Addr} {H : Hp} {vs : List V} {its : List It} (h : ∀ b o, b ∉ S → H b = some o → b ∉ S') (r : ItemsAt S H vs its) : ItemsAt S' H vs its := Paired.mono (fun _ _ => ItemAt.off h) r
/-- off a new address, too -/
theorem off_new {S : List Addr} {H : Hp} {q : Addr} (hq : H q = none) : ∀ b o, b ∉ S → H b = some o → b ∉ q :: S := fun b o n e m => by
  rcases List.mem_cons.mp m with z | m
  · rw [z, hq] at e; cases e
  · exact n m
theorem off_sub {S S' : List Addr} {H : Hp} (h : ∀ a ∈ S', a ∈ S) : ∀ b o, b ∉ S → H b = some o → b ∉ S' := fun b o n _ m => n (h b m)
/-! ### steps of memory -/
def AccOk (k : Int) (vits : List It) (l : List V) : Prop := ∃ w n s f e sz ats, l = [.str w, .str n, .int s, .int f, .int e] ∧ It.vr n sz ats ∈ vits ∧ e < sz ∧ GoodStep (wsK k) l
def upWs : List Str := ["read", "write", "clean", "drop", "flush", "get", "put"]
theorem up_word {k d : Int} (h0 : 0 ≤ d) (k0 : 0 ≤ k) (h1 : d < 2 + 5 * (if k > 0 then 1 else 0)) : ∃ w : Str, upWs[d.toNat]? = some w ∧ w ∈ wsK k ∧ w ∈ memWords := by
  by_cases hk : k > 0
  · rw [if_pos hk] at h1
    have e : wsK k = cacheWs := by unfold wsK; rw [if_neg (by omega)]
    rw [e]
    obtain rfl | rfl | rfl | rfl | rfl | rfl | rfl : d = 0 ∨ d = 1 ∨ d = 2 ∨ d = 3 ∨ d = 4 ∨ d = 5 ∨ d = 6 := by omega
    all_goals exact ⟨_, rfl, by decide +kernel, by decide +kernel⟩
  · rw [if_neg hk] at h1
    have e : wsK k = plainWs := by unfold wsK; rw [if_pos (by omega)]
    rw [e]
    obtain rfl | rfl : d = 0 ∨ d = 1 := by omega
    all_goals exact ⟨_, rfl, by decide +kernel, by decide +kernel⟩
def VarsOf (vits : List It) : Prop := ∀ it ∈ vits, ∃ z s ats, it = .vr z s ats ∧ 1 ≤ s ∧ s ≤ 8 ∧ nameOk z = true
/-- steps of an agent -/
def spSteps : Sp := fun vs H Q _ => ∃ (p : Addr) (n : Nat) (c : Addr) (k : Int) (vl sg : Addr) (vvs : List V) (vits : List It) (ys : List V) (ss : List (List V)), vs = [.ref p, .int k, .ref vl, .ref sg] ∧ PenAt c H p n ∧ n + 40 < 100000 ∧ 0 ≤ k ∧ k ≤ 2 ∧
  H vl = some (.lst vvs) ∧ vl ≠ p ∧ ItemsAt [p] H vvs vits ∧ VarsOf vits ∧ 1 ≤ vits.length ∧ vits.length ≤ 6 ∧ H sg = some (.lst ys) ∧ sg ≠ p ∧ RowsAt H ys ss ∧ ss.length ≤ 12 ∧
  ∀ r zs ls acc H', H r = none → H' r = some (.lst zs) → RowsAt H' zs ls → ls.Perm (ss ++ acc) → 1 ≤ acc.length → acc.length ≤ 4 → (∀ l ∈ acc, AccOk k vits l) → PenAt c H' p (n + 40) → Keep p H H' → Q (.ref r) H'
theorem ins_perm {α : Type} (xs ys : List α) (a : α) (n : Nat) (h : xs.Perm ys) : (xs.take n ++ [a] ++ xs.drop n).Perm (ys ++ [a]) := by
  have h1 : (xs.take n ++ [a] ++ xs.drop n).Perm (a :: xs) := by
    rw [List.append_assoc]
    refine List.perm_middle.trans ?_
    show (a :: (xs.take n ++ xs.drop n)).Perm (a :: xs)
    rw [List.take_append_drop]
  refine h1.trans ((List.Perm.cons a h).trans ?_)
  exact (List.perm_append_singleton a ys).symm
end NetG

end

section
namespace NetG
open PySem PySem.Spec PyProof.Rows Lay NetL
open L2 hiding It
def vN (i : Nat) : Str := (["va", "vb", "vc"] : List Str).getD i "va"
def sN (i : Nat) : Str := (["sa", "sb", "sc", "sd", "se", "sf"] : List Str).getD i "sa"
def aN (i : Nat) : Str := (["aa", "ab", "ac", "ad"] : List Str).getD i "aa"
theorem sign_v {i : Nat} (h : i < 3) : ∃ c, ("abc" : Str).cps.toList[i]? = some c ∧ ("v" : Str) ++ (⟨#[c]⟩ : Str) = vN i := by
  obtain rfl | rfl | rfl : i = 0 ∨ i = 1 ∨ i = 2 := by omega
  all_goals exact ⟨_, rfl, by decide +kernel⟩
theorem sign_s {i : Nat} (h : i < 6) : ∃ c, ("abcdef" : Str).cps.toList[i]? = some c ∧ ("s" : Str) ++ (⟨#[c]⟩ : Str) = sN i := by
  obtain rfl | rfl | rfl | rfl | rfl | rfl : i = 0 ∨ i = 1 ∨ i = 2 ∨ i = 3 ∨ i = 4 ∨ i = 5 := by omega
  all_goals exact ⟨_, rfl, by decide +kernel⟩
theorem sign_a {i : Nat} (h : i < 4) : ∃ c, ("abcd" : Str).cps.toList[i]? = some c ∧ ("a" : Str) ++ (⟨#[c]⟩ : Str) = aN i := by
  obtain rfl | rfl | rfl | rfl : i = 0 ∨ i = 1 ∨ i = 2 ∨ i = 3 := by omega
  all_goals exact ⟨_, rfl, by decide +kernel⟩
theorem vN_ok {i : Nat} (h : i < 3) : nameOk (vN i) = true := by
  obtain rfl | rfl | rfl : i = 0 ∨ i = 1 ∨ i = 2 := by omega
  all_goals decide +kernel
theorem sN_ok {i : Nat} (h : i < 6) : nameOk (sN i) = true := by
  obtain rfl | rfl | rfl | rfl | rfl | rfl : i = 0 ∨ i = 1 ∨ i = 2 ∨ i = 3 ∨ i = 4 ∨ i = 5 := by omega
  all_goals decide +kernel
theorem aN_ok {i : Nat} (h : i < 4) : nameOk (aN i) = true := by
  obtain rfl | rfl | rfl | rfl : i = 0 ∨ i = 1 ∨ i = 2 ∨ i = 3 := by omega
  all_goals decide +kernel
theorem range_sub {m n : Nat} (h : m ≤ n) : (List.range m).Sublist (List.range n) := by
  have e : List.range m = (List.range n).take m := by rw [List.take_range, Nat.min_eq_left h]
  rw [e]
  exact List.take_sublist _ _
theorem names_nodup {i j k : Nat} (hi : i ≤ 3) (hj : j ≤ 6) (hk : k ≤ 4) : ((List.range i).map vN ++ (List.range j).map sN ++ (List.range k).map aN).Nodup := by
  have all : ((List.range 3).map vN ++ (List.range 6).map sN ++ (List.range 4).map aN).Nodup := by decide +kernel
  exact List.Nodup.sublist ((((range_sub hi).map _).append ((range_sub hj).map _)).append ((range_sub hk).map _)) all
/-! ### variables -/
def Gap (s : Int) (ns : List Int) : Prop := ns.Pairwise fun a b => s ≤ a - b ∨ s ≤ b - a
def SpotsG (lo s hi : Int) (ns : List Int) : Prop := Gap s ns ∧ ∀ a ∈ ns, lo ≤ a ∧ a + s ≤ hi
theorem SpotsG.nil {lo s hi : Int} : SpotsG lo s hi [] := ⟨.nil, fun _ h => nomatch h⟩
theorem SpotsG.app {lo s hi hi' : Int} {ns : List Int} (h : SpotsG lo s hi ns) (h0 : lo ≤ hi) (h1 : hi + s ≤ hi') (hs : 0 ≤ s) : SpotsG lo s hi' (ns ++ [hi]) := by
  refine ⟨List.pairwise_append.mpr ⟨h.1, List.pairwise_singleton _ _, fun a ha b hb => ?_⟩, fun a ha => ?_⟩
  · rw [List.mem_singleton] at hb
    subst hb
    have := (h.2 a ha).2
    exact .inr (by omega)
  · rcases List.mem_append.mp ha with ha | ha
    · have := h.2 a ha
      exact ⟨this.1, by omega⟩
    · rw [List.mem_singleton] at ha
      subst ha
      exact ⟨h0, h1⟩
theorem SpotsG.perm {lo s hi : Int} {ns ms : List Int} (p : ms.Perm ns) (h : SpotsG lo s hi ns) : SpotsG lo s hi ms :=
  ⟨h.1.perm p.symm (fun {a b} e => e.symm), fun a ha => h.2 a (p.mem_iff.mp ha)⟩
theorem row_mem {s : Nat} {a b : Int} (h : b ∈ row s a) : a ≤ b ∧ b < a + s := by
  unfold row at h
  obtain ⟨i, hi, rfl⟩ := List.mem_map.mp h
  rw [List.mem_range] at hi
  omega
theorem row_nodup (s : Nat) (a : Int) : (row s a).Nodup := by
  unfold row
  refine List.pairwise_map.mpr (List.nodup_range.imp fun {x y} n e => n (by omega))
theorem gap_bytes {s : Int} {ns : List Int} (hs : 0 ≤ s) (h : Gap s ns) : (ns.flatMap (row s.toNat)).Nodup := by
  induction ns with
  | nil => exact .nil
  | cons a ns ih =>
    unfold Gap at h
    rw [List.pairwise_cons] at h
    rw [List.flatMap_cons]
    refine List.nodup_append.mpr ⟨row_nodup _ _, ih h.2, fun x hx y hy e => ?_⟩
    obtain ⟨b, hb, hyb⟩ := List.mem_flatMap.mp hy
    have r1 := row_mem hx
    have r2 := row_mem hyb
    have r3 := h.1 b hb
    omega
structure VarsG (ring : Int) (i : Nat) (free : Int) (its : List It) : Prop where
  len : its.length = i
  nm : its.map It.nm = (List.range i).map vN
  ok : ∀ it ∈ its, ∃ z s ats, it = .vr z s ats ∧ 1 ≤ s ∧ s ≤ 8 ∧ nameOk z = true ∧ 1 ≤ ats.length ∧ ats.length ≤ 4 ∧ ((ats.length : Int) = 1 ∨ (ats.length : Int) = ring) ∧ SpotsG 0 s free ats
  nd : (its.flatMap It.bytes).Nodup
theorem VarsG.nil {ring free : Int} : VarsG ring 0 free [] := ⟨rfl, rfl, (fun _ h => nomatch h), List.Pairwise.nil⟩
theorem VarsG.add {ring free free' s : Int} {i : Nat} {its : List It} {ns : List Int} (h : VarsG ring i free its) (hi : i < 3) (h0 : 0 ≤ free) (hf : free ≤ free') (s1 : 1 ≤ s) (s8 : s ≤ 8) (l1 : 1 ≤ ns.length) (l4 : ns.length ≤ 4) (lr : (ns.length : Int) = 1 ∨ (ns.length : Int) = ring)
    (sp : SpotsG free s free' ns) : VarsG ring (i + 1) free' (its ++ [.vr (vN i) s ns]) where
  len := by rw [List.length_append, h.len]; rfl
  nm := by rw [List.map_append, h.nm, List.range_succ, List.map_append]; rfl
  ok it m := by
    rcases List.mem_append.mp m with m | m
    · obtain ⟨z, s, ats, e, a1, a2, a3, a4, a5, a6, a7⟩ := h.ok it m
      exact ⟨z, s, ats, e, a1, a2, a3, a4, a5, a6, a7.1, fun a ha => ⟨(a7.2 a ha).1, by have := (a7.2 a ha).2; omega⟩⟩
    · rw [List.mem_singleton] at m
      exact ⟨_, _, _, m, s1, s8, vN_ok hi, l1, l4, lr, sp.1, fun a ha => ⟨by have := (sp.2 a ha).1; omega, (sp.2 a ha).2⟩⟩
  nd := by
    rw [List.flatMap_append]
    refine List.nodup_append.mpr ⟨h.nd, ?_, fun x hx y hy e => ?_⟩
    · rw [List.flatMap_cons, List.flatMap_nil, List.append_nil, bytes_vr]
      exact gap_bytes (by omega) sp.1
    · subst e
      obtain ⟨it, im, hx⟩ := List.mem_flatMap.mp hx
      obtain ⟨z, s0, ats, rfl, a1, a2, a3, a4, a5, a6, a7⟩ := h.ok it im
      rw [bytes_vr] at hx
      obtain ⟨a, ha, hx⟩ := List.mem_flatMap.mp hx
      have r1 := row_mem hx
      have r2 := (a7.2 a ha).2
      rw [List.flatMap_cons, List.flatMap_nil, List.append_nil, bytes_vr] at hy
      obtain ⟨b, hb, hy⟩ := List.mem_flatMap.mp hy
      have r3 := row_mem hy
      have r4 := (sp.2 b hb).1
      omega
theorem wants_ok {z : Str} {s : Int} {ns : List Int} (hz : nameOk z = true) (h1 : 1 ≤ s) (h8 : s ≤ 8) (l1 : 1 ≤ ns.length) (l4 : ns.length ≤ 4) (h : ∀ a ∈ ns, 0 ≤ a ∧ a + s ≤ 1024) (gp : Gap s ns) : wants (.str z) (.int s) (ns.map V.int) = none := by
  have hw : within (.int s) 1 8 = true := by
    show (decide (1 ≤ s) && decide (s ≤ 8)) = true
    rw [decide_eq_true h1, decide_eq_true h8]; rfl
  refine wants_none hz hw (by rw [List.length_map, decide_eq_true l1, decide_eq_true l4]; rfl) (fst_none fun j hj => ?_) (fst_none fun j hj => ?_)
  · rw [List.length_map] at hj
    unfold aBad
    rw [List.getElem?_map, List.getElem?_eq_getElem hj]
    have := h _ (List.getElem_mem hj)
    show (!(decide (0 ≤ ns[j]) && decide (ns[j] ≤ 1024 - s))) = false
    rw [decide_eq_true this.1, decide_eq_true (by omega)]; rfl
  · rw [List.length_map] at hj
    unfold bBad
    rw [List.getElem?_map, List.getElem?_eq_getElem hj]
    show ((ns.map V.int).take j).any (near s (.int ns[j])) = false
    rw [← List.map_take, List.any_map, List.any_eq_false]
    intro x hx
    obtain ⟨i, hi, rfl⟩ := List.getElem_of_mem hx
    rw [List.length_take] at hi
    have e := List.pairwise_iff_getElem.mp gp i j (by omega) hj (by omega)
    rw [List.getElem_take]
    show ¬ decide ((if ns[j] - ns[i] < 0 then -(ns[j] - ns[i]) else ns[j] - ns[i]) < s) = true
    rw [decide_eq_true_iff]
    split <;> omega
/-! ### signals -/
def rowsS (j : Nat) : List (List V) := (List.range j).flatMap fun i => [[V.str "post", .str (sN i)], [V.str "wait", .str (sN i)]]
theorem rowsS_succ (j : Nat) : rowsS (j + 1) = rowsS j ++ [[V.str "post", .str (sN j)], [V.str "wait", .str (sN j)]] := by
  unfold rowsS
  rw [List.range_succ, List.flatMap_append, List.flatMap_cons, List.flatMap_nil, List.append_nil]
structure SigsG (j : Nat) (its : List It) : Prop where
  len : its.length = j
  nm : its.map It.nm = (List.range j).map sN
  ok : ∀ it ∈ its, ∃ z t, it = .sg z t ∧ 0 ≤ t ∧ t ≤ 3
theorem SigsG.nil : SigsG 0 [] := ⟨rfl, rfl, fun _ h => nomatch h⟩
theorem SigsG.add {j : Nat} {its : List It} {t : Int} (h : SigsG j its) (t0 : 0 ≤ t) (t3 : t ≤ 3) : SigsG (j + 1) (its ++ [.sg (sN j) t]) where
  len := by rw [List.length_append, h.len]; rfl
  nm := by rw [List.map_append, h.nm, List.range_succ, List.map_append]; rfl
  ok it m := by
    rcases List.mem_append.mp m with m | m
    · exact h.ok it m
    · rw [List.mem_singleton] at m
      exact ⟨_, _, m, t0, t3⟩
/-- lists of steps, each at an address of its own -/
def HeapsAt (H : Hp) (bs : List Addr) (lss : List (List (List V))) : Prop := bs.length = lss.length ∧ bs.Nodup ∧ ∀ (i : Nat) (b : Addr) (ls : List (List V)), bs[i]? = some b → lss[i]? = some ls → ∃ ys, H b = some (.lst ys) ∧ RowsAt H ys ls
theorem HeapsAt.lists {H : Hp} {bs : List Addr} {lss : List (List (List V))} (h : HeapsAt H bs lss) : Lists bs H := fun a m => by
  obtain ⟨i, hi, e⟩ := List.getElem_of_mem m
  obtain ⟨ys, h1, _⟩ := h.2.2 i a (lss[i]'(by rw [← h.1]; exact hi)) (by rw [List.getElem?_eq_getElem hi, e]) (List.getElem?_eq_getElem (by rw [← h.1]; exact hi))
  exact ⟨ys, h1⟩
theorem HeapsAt.stay {S : List Addr} {H H' : Hp} {bs : List Addr} {lss : List (List (List V))} (h : HeapsAt H bs lss) (hS : Lists S H) (n : ∀ b ∈ bs, b ∉ S) (s : Stay S H H') : HeapsAt H' bs lss :=
  ⟨h.1, h.2.1, fun i b ls e1 e2 => by
    obtain ⟨ys, h1, h2⟩ := h.2.2 i b ls e1 e2
    exact ⟨ys, s _ _ (n b (List.mem_of_getElem? e1)) h1, rows_stay hS s h2⟩⟩
theorem HeapsAt.mono {H H' : Hp} {bs : List Addr} {lss : List (List (List V))} (h : HeapsAt H bs lss) (s : Same H H') : HeapsAt H' bs lss :=
  ⟨h.1, h.2.1, fun i b ls e1 e2 => by
    obtain ⟨ys, h1, h2⟩ := h.2.2 i b ls e1 e2
    exact ⟨ys, s _ _ h1, h2.mono s⟩⟩
theorem HeapsAt.put {H : Hp} {bs : List Addr} {lss : List (List (List V))} {d : Nat} {b t : Addr} {ls : List (List V)} {ys : List V} {l : List V} (h : HeapsAt H bs lss) (e1 : bs[d]? = some b) (e2 : lss[d]? = some ls) (hb : H b = some (.lst ys)) (hr : RowsAt H ys ls) (ht : H t = some (.tup l)) :
    HeapsAt (upd H b (.lst (ys ++ [.ref t]))) bs (lss.set d (ls ++ [l])) := by
  have hd : d < lss.length := (List.getElem?_eq_some_iff.mp e2).1
  have tup : ∀ c l', H c = some (.tup l') → (upd H b (.lst (ys ++ [.ref t]))) c = some (.tup l') := fun c l' e => by
    rw [upd_ne (fun z => by subst z; rw [hb] at e; cases e)]
    exact e
  refine ⟨by rw [List.length_set]; exact h.1, h.2.1, fun i b' ls' g1 g2 => ?_⟩
  by_cases e : i = d
  · subst e
    rw [e1] at g1
    cases g1
    rw [List.getElem?_set_self hd] at g2
    cases g2
    exact ⟨_, upd_same, (hr.same tup).append (.cons (tup _ _ ht) .nil)⟩
  · rw [List.getElem?_set_ne (Ne.symm e)] at g2
    obtain ⟨ys', h1, h2⟩ := h.2.2 i b' ls' g1 g2
    have nb : b' ≠ b := fun z => by
      subst z
      have tk : ∀ {i j : Nat} {z : Addr}, bs[i]? = some z → bs[j]? = some z → i < j → False := fun {i j z} a1 a2 lt =>
        not_take h.2.1 a2 (List.mem_of_getElem? (by rw [List.getElem?_take, if_pos lt]; exact a1))
      rcases Nat.lt_or_gt_of_ne e with lt | gt
      · exact tk g1 e1 lt
      · exact tk e1 g1 gt
    exact ⟨ys', by rw [upd_ne nb]; exact h1, h2.same tup⟩
theorem flat_put {α : Type} : ∀ {lss : List (List α)} {d : Nat} {ls : List α} (l : α), lss[d]? = some ls → (lss.set d (ls ++ [l])).flatten.Perm (lss.flatten ++ [l])
  | [], d, ls, l, h => by simp at h
  | x :: r, 0, ls, l, h => by
    obtain rfl : x = ls := by simpa using h
    rw [List.set_cons_zero, List.flatten_cons, List.flatten_cons, List.append_assoc, List.append_assoc]
    exact List.Perm.append_left x List.perm_append_comm
  | x :: r, d + 1, ls, l, h => by
    rw [List.set_cons_succ, List.flatten_cons, List.flatten_cons, List.append_assoc]
    exact List.Perm.append_left x (flat_put l (by simpa using h))
/-! ### agents -/
structure AgsG (vits : List It) (lss : List (List (List V))) (k : Nat) (its : List It) : Prop where
  len : its.length = k
  nm : its.map It.nm = (List.range k).map aN
  ok : ∀ (i : Nat) (it : It), its[i]? = some it → ∃ z kd ls ss acc, it = .ag z kd ls ∧ lss[i]? = some ss ∧ 0 ≤ kd ∧ kd ≤ 2 ∧ nameOk z = true ∧ ls.Perm (ss ++ acc) ∧ 1 ≤ acc.length ∧ acc.length ≤ 4 ∧ ∀ l ∈ acc, AccOk kd vits l
theorem AgsG.nil {vits : List It} {lss : List (List (List V))} : AgsG vits lss 0 [] := ⟨rfl, rfl, fun i it h => by simp at h⟩
theorem AgsG.add {vits : List It} {lss : List (List (List V))} {k : Nat} {its : List It} {kd : Int} {ls ss acc : List (List V)} (h : AgsG vits lss k its) (hk : k < 4) (e : lss[k]? = some ss) (k0 : 0 ≤ kd) (k2 : kd ≤ 2) (p : ls.Perm (ss ++ acc)) (a1 : 1 ≤ acc.length) (a4 : acc.length ≤ 4) (ok : ∀ l ∈ acc, AccOk kd vits l) :
    AgsG vits lss (k + 1) (its ++ [.ag (aN k) kd ls]) where
  len := by rw [List.length_append, h.len]; rfl
  nm := by rw [List.map_append, h.nm, List.range_succ, List.map_append]; rfl
  ok i it m := by
    by_cases hi : i < its.length
    · rw [List.getElem?_append_left hi] at m
      exact h.ok i it m
    · rw [List.getElem?_append_right (by omega)] at m
      have : i - its.length = 0 := by
        cases hh : i - its.length with
        | zero => rfl
        | succ q => rw [hh] at m; simp at m
      rw [this] at m
      have e2 : It.ag (aN k) kd ls = it := by simpa using m
      have e3 : i = k := by have := h.len; omega
      subst e3
      exact ⟨_, _, _, ss, acc, e2.symm, e, k0, k2, aN_ok hk, p, a1, a4, ok⟩
end NetG

end

section
namespace NetG
open PySem PySem.Spec PyProof.Rows Lay NetL
open L2 hiding It
structure GenOk (ring : Int) (its : List It) : Prop where
  good : NetL.Good ring its
  var : ∀ z s ats, It.vr z s ats ∈ its → Gap s ats ∧ ∀ a ∈ ats, 0 ≤ a ∧ a + s ≤ 1024
  len : its.length ≤ 13
theorem filt_none {p : It → Bool} {l : List It} (h : ∀ it ∈ l, p it = false) : l.filter p = [] := List.filter_eq_nil_iff.mpr fun it m => by rw [h it m]; decide
theorem flat_none {β : Type} {f : It → List β} {l : List It} (h : ∀ it ∈ l, f it = []) : l.flatMap f = [] := List.flatMap_eq_nil_iff.mpr h
theorem cnt_flat {l : List V} : ∀ {xs : List It} {lss : List (List (List V))}, xs.length = lss.length → (∀ (i : Nat) (it : It), xs[i]? = some it → ∃ ss, lss[i]? = some ss ∧ it.ls.count l = ss.count l) → (xs.flatMap It.ls).count l = lss.flatten.count l
  | [], [], _, _ => rfl
  | x :: xs, s :: lss, hl, h => by
    obtain ⟨ss, e, c⟩ := h 0 x rfl
    obtain rfl : s = ss := by simpa using e
    rw [List.flatMap_cons, List.flatten_cons, List.count_append, List.count_append, c, cnt_flat (Nat.succ.inj hl) fun i it e => h (i + 1) it (by simpa using e)]
  | [], _ :: _, hl, _ => by cases hl
  | _ :: _, [], hl, _ => by cases hl
theorem rows_cnt : ∀ j < 7, ∀ i < 6, i < j → (rowsS j).count [V.str "post", .str (sN i)] = 1 ∧ (rowsS j).count [V.str "wait", .str (sN i)] = 1 := by decide +kernel
theorem rows_len (j : Nat) : (rowsS j).length = 2 * j := by
  induction j with
  | zero => rfl
  | succ j ih => rw [rowsS_succ, List.length_append, ih]; show 2 * j + 2 = _; omega
theorem rows_mem {j : Nat} {l : List V} (h : l ∈ rowsS j) : ∃ (i : Nat) (w : Str), i < j ∧ (w = "post" ∨ w = "wait") ∧ l = [V.str w, .str (sN i)] := by
  unfold rowsS at h
  obtain ⟨i, hi, m⟩ := List.mem_flatMap.mp h
  rw [List.mem_range] at hi
  rcases List.mem_cons.mp m with e | m
  · exact ⟨i, "post", hi, .inl rfl, e⟩
  · rw [List.mem_singleton] at m
    exact ⟨i, "wait", hi, .inr rfl, m⟩
theorem SigsG.at_ {j : Nat} {its : List It} (h : SigsG j its) {i : Nat} (hi : i < j) : ∃ t, It.sg (sN i) t ∈ its := by
  have hl := h.len
  have m : its[i]'(by omega) ∈ its := List.getElem_mem _
  obtain ⟨z, t, e, _⟩ := h.ok _ m
  have en : (its.map It.nm)[i]? = some (sN i) := by rw [h.nm, List.getElem?_map, List.getElem?_range hi]; rfl
  rw [List.getElem?_map, List.getElem?_eq_getElem (by omega), e] at en
  have ez : z = sN i := Option.some.inj en
  rw [ez] at e
  exact ⟨t, by rw [← e]; exact m⟩
theorem genOk {ring free : Int} {i j m : Nat} {vits sits agits : List It} {lss : List (List (List V))} (hv : VarsG ring i free vits) (hi : i ≤ 3) (hf : free ≤ 1024) (hs : SigsG j sits) (hj : j ≤ 6) (hp : lss.flatten.Perm (rowsS j)) (hm : lss.length = m) (m4 : m ≤ 4) (ha : AgsG vits lss m agits) :
    GenOk ring (vits ++ sits ++ agits) := by
  have isv : ∀ it ∈ vits, it.isV = true ∧ it.isS = false ∧ it.isA = false ∧ it.ls = [] := fun it im => by
    obtain ⟨z, s, ats, rfl, _⟩ := hv.ok it im
    exact ⟨rfl, rfl, rfl, rfl⟩
  have iss : ∀ it ∈ sits, it.isV = false ∧ it.isS = true ∧ it.isA = false ∧ it.ls = [] ∧ it.bytes = [] := fun it im => by
    obtain ⟨z, t, rfl, _⟩ := hs.ok it im
    exact ⟨rfl, rfl, rfl, rfl, rfl⟩
  have aat : ∀ it ∈ agits, ∃ z kd ls ss acc, it = .ag z kd ls ∧ ss ∈ lss ∧ 0 ≤ kd ∧ kd ≤ 2 ∧ nameOk z = true ∧ ls.Perm (ss ++ acc) ∧ 1 ≤ acc.length ∧ acc.length ≤ 4 ∧ ∀ l ∈ acc, AccOk kd vits l := fun it im => by
    obtain ⟨q, hq, e⟩ := List.getElem_of_mem im
    obtain ⟨z, kd, ls, ss, acc, h1, h2, h3⟩ := ha.ok q it (by rw [List.getElem?_eq_getElem hq, e])
    exact ⟨z, kd, ls, ss, acc, h1, List.mem_of_getElem? h2, h3⟩
  have isa : ∀ it ∈ agits, it.isV = false ∧ it.isS = false ∧ it.isA = true ∧ it.bytes = [] := fun it im => by
    obtain ⟨z, kd, ls, ss, acc, rfl, _⟩ := aat it im
    exact ⟨rfl, rfl, rfl, rfl⟩
  have stp : steps (vits ++ sits ++ agits) = agits.flatMap It.ls := by
    unfold steps
    rw [List.flatMap_append, List.flatMap_append, flat_none (f := It.ls) fun it im => (isv it im).2.2.2, flat_none (f := It.ls) fun it im => (iss it im).2.2.2.1]
    rfl
  have flen : lss.flatten.length ≤ 12 := by rw [hp.length_eq, rows_len]; omega
  have hvl := hv.len
  have hsl := hs.len
  have hal := ha.len
  refine ⟨⟨?_, ?_, ?_, ?_, ?_, ?_, ?_, ?_, ?_⟩, ?_, ?_⟩
  · rw [List.filter_append, List.filter_append, filt_none fun it im => (isv it im).2.2.1, filt_none fun it im => (iss it im).2.2.1]
    exact Nat.le_trans (List.length_filter_le _ _) (by omega)
  · rw [List.filter_append, List.filter_append, filt_none (l := sits) fun it im => (iss it im).1, filt_none (l := agits) fun it im => (isa it im).1, List.append_nil, List.append_nil]
    exact Nat.le_trans (List.length_filter_le _ _) (by omega)
  · rw [List.filter_append, List.filter_append, filt_none (l := vits) fun it im => (isv it im).2.1, filt_none (l := agits) fun it im => (isa it im).2.1, List.append_nil, List.nil_append]
    exact Nat.le_trans (List.length_filter_le _ _) (by omega)
  · rw [List.map_append, List.map_append, hv.nm, hs.nm, ha.nm]
    exact names_nodup hi hj m4
  · intro it im
    rcases List.mem_append.mp im with im | im
    · rcases List.mem_append.mp im with im | im
      · obtain ⟨z, s, ats, rfl, _, _, h, _⟩ := hv.ok it im
        exact h
      · have m1 : it.nm ∈ sits.map It.nm := List.mem_map.mpr ⟨it, im, rfl⟩
        rw [hs.nm] at m1
        obtain ⟨q, hq, e⟩ := List.mem_map.mp m1
        rw [List.mem_range] at hq
        rw [← e]
        exact sN_ok (by omega)
    · obtain ⟨z, kd, ls, ss, acc, rfl, _, _, _, h, _⟩ := aat it im
      exact h
  · intro z s ats im
    rcases List.mem_append.mp im with im | im
    · rcases List.mem_append.mp im with im | im
      · obtain ⟨z', s', ats', e, h⟩ := hv.ok _ im
        cases e
        exact ⟨h.1, h.2.1, h.2.2.2.1, h.2.2.2.2.1, h.2.2.2.2.2.1⟩
      · cases (iss _ im).1
    · cases (isa _ im).1
  · rw [List.flatMap_append, List.flatMap_append, flat_none (f := It.bytes) (l := sits) fun it im => (iss it im).2.2.2.2, flat_none (f := It.bytes) (l := agits) fun it im => (isa it im).2.2.2, List.append_nil, List.append_nil]
    exact hv.nd
  · intro z k ls im
    rcases List.mem_append.mp im with im | im
    · rcases List.mem_append.mp im with im | im
      · cases (isv _ im).2.2.1
      · cases (iss _ im).2.2.1
    · obtain ⟨z', kd, ls', ss, acc, e, sm, k0, k2, _, p, a1, a4, ok⟩ := aat _ im
      cases e
      have sl : ss.length ≤ 12 := Nat.le_trans (List.Sublist.length_le (List.sublist_flatten_of_mem sm)) flen
      have ll := p.length_eq
      rw [List.length_append] at ll
      refine ⟨k0, k2, by omega, by omega, fun l lm => ?_⟩
      rcases List.mem_append.mp (p.mem_iff.mp lm) with lm | lm
      · obtain ⟨q, w, hq, hw, rfl⟩ := rows_mem (hp.mem_iff.mp (List.mem_flatten.mpr ⟨ss, sm, lm⟩))
        obtain ⟨t, ht⟩ := hs.at_ hq
        exact ⟨good_sig hw (sN_ok (by omega)), t, List.mem_append_left _ (List.mem_append_right _ ht)⟩
      · obtain ⟨w, n, s, f, e, sz, ats, rfl, h1, h2, h3⟩ := ok l lm
        exact ⟨h3, sz, ats, List.mem_append_left _ (List.mem_append_left _ h1), h2⟩
  · intro z t im
    rcases List.mem_append.mp im with im | im
    · rcases List.mem_append.mp im with im | im
      · cases (isv _ im).2.1
      · obtain ⟨z', t', e, h0, h3⟩ := hs.ok _ im
        cases e
        have m1 : z ∈ sits.map It.nm := List.mem_map.mpr ⟨_, im, rfl⟩
        rw [hs.nm] at m1
        obtain ⟨q, hq, e⟩ := List.mem_map.mp m1
        rw [List.mem_range] at hq
        have key : ∀ w : Str, (steps (vits ++ sits ++ agits)).count [V.str w, .str z] = (rowsS j).count [V.str w, .str z] := fun w => by
          rw [stp, cnt_flat (lss := lss) (by omega) ?_, hp.count_eq]
          intro i' it e'
          obtain ⟨z', kd, ls, ss, acc, rfl, h1, _, _, _, p, _, _, ok⟩ := ha.ok i' it e'
          refine ⟨ss, h1, ?_⟩
          show ls.count _ = _
          rw [p.count_eq, List.count_append, List.count_eq_zero_of_not_mem (l := acc), Nat.add_zero]
          intro cm
          obtain ⟨w', n, s, f, e, sz, ats, e2, _⟩ := ok _ cm
          cases e2
        obtain ⟨c1, c2⟩ := rows_cnt j (by omega) q (by omega) hq
        rw [e] at c1 c2
        exact ⟨h0, h3, (key _).trans c1, (key _).trans c2⟩
    · cases (isa _ im).2.1
  · intro z s ats im
    rcases List.mem_append.mp im with im | im
    · rcases List.mem_append.mp im with im | im
      · obtain ⟨z', s', ats', e, _, _, _, _, _, _, sp⟩ := hv.ok _ im
        cases e
        exact ⟨sp.1, fun a m => ⟨(sp.2 a m).1, by have := (sp.2 a m).2; omega⟩⟩
      · cases (iss _ im).1
    · cases (isa _ im).1
  · rw [List.length_append, List.length_append]
    omega
theorem good_perm {ring : Int} {its its' : List It} (p : its'.Perm its) (h : NetL.Good ring its) : NetL.Good ring its' where
  ma := by rw [(p.filter _).length_eq]; exact h.ma
  mv := by rw [(p.filter _).length_eq]; exact h.mv
  ms := by rw [(p.filter _).length_eq]; exact h.ms
  nd := (p.map It.nm).nodup_iff.mpr h.nd
  ok it m := h.ok it (p.mem_iff.mp m)
  vr z s ats m := h.vr z s ats (p.mem_iff.mp m)
  by_ := (p.flatMap_right It.bytes).nodup_iff.mpr h.by_
  gs z k ls m := by
    obtain ⟨h1, h2, h3, h4, h5⟩ := h.gs z k ls (p.mem_iff.mp m)
    refine ⟨h1, h2, h3, h4, fun l lm => ⟨(h5 l lm).1, ?_⟩⟩
    have f := (h5 l lm).2
    unfold NetL.fits at f ⊢
    split at f
    · obtain ⟨t, ht⟩ := f
      exact ⟨t, p.mem_iff.mpr ht⟩
    · obtain ⟨s, ats, hm, hl⟩ := f
      exact ⟨s, ats, p.mem_iff.mpr hm, hl⟩
    · exact f.elim
  sg z t m := by
    obtain ⟨h1, h2, h3, h4⟩ := h.sg z t (p.mem_iff.mp m)
    have q : (steps its').Perm (steps its) := p.flatMap_right It.ls
    exact ⟨h1, h2, by rw [q.count_eq]; exact h3, by rw [q.count_eq]; exact h4⟩
theorem GenOk.perm {ring : Int} {its its' : List It} (p : its'.Perm its) (h : GenOk ring its) : GenOk ring its' :=
  ⟨good_perm p h.good, fun z s ats m => h.var z s ats (p.mem_iff.mp m), by rw [p.length_eq]; exact h.len⟩
def spItems : Sp := fun vs H Q _ => ∃ (p : Addr) (n : Nat) (c : Addr) (ring : Int), vs = [.ref p, .int ring] ∧ PenAt c H p n ∧ n + 300 < 100000 ∧ 1 ≤ ring ∧ ring ≤ 4 ∧
  ∀ r l its H', H r = none → H' r = some (.lst l) → ItemsAt [p] H' l its → GenOk ring its → 2 ≤ its.length → PenAt c H' p (n + 300) → Keep p H H' → Q (.ref r) H'
def spShuffled (ring : Int) : Sp := fun vs H Q _ => ∃ (p : Addr) (n : Nat) (c a : Addr) (l : List V) (its : List It), vs = [.ref p, .ref a] ∧ PenAt c H p n ∧ n + 20 < 100000 ∧ H a = some (.lst l) ∧ a ≠ p ∧ ItemsAt [p] H l its ∧ its.length ≤ 13 ∧
  ∀ r l' its' H', H r = none → H' r = some (.lst l') → ItemsAt [p] H' l' its' → its'.Perm its → PenAt c H' p (n + 20) → Keep p H H' → Q (.ref r) H'
end NetG

end

section
namespace NetG
open PySem PySem.Spec PyProof.Rows Lay NetL
open L2 hiding It
/-- the heap while items are drawn: the pen p, the list of items D, the lists bs of signals' steps -/
structure Ph (c p D : Addr) (bs : List Addr) (H : Hp) (n : Nat) (lD : List V) (its : List It) (lss : List (List (List V))) : Prop where
  pen : PenAt c H p n
  eD : H D = some (.lst lD)
  items : ItemsAt (p :: D :: bs) H lD its
  hs : HeapsAt H bs lss
  Dp : D ≠ p
  Dc : D ≠ c
  pb : p ∉ bs
  Db : D ∉ bs
  cb : c ∉ bs
section
variable {c p D : Addr} {bs : List Addr} {H H' : Hp} {n : Nat} {lD : List V} {its : List It} {lss : List (List (List V))}
theorem Ph.lists (h : Ph c p D bs H n lD its lss) : Lists (p :: D :: bs) H := fun a m => by
  rcases List.mem_cons.mp m with e | m
  · subst e; exact h.pen.at_
  · rcases List.mem_cons.mp m with e | m
    · subst e; exact ⟨_, h.eD⟩
    · exact h.hs.lists a m
theorem Ph.new (h : Ph c p D bs H n lD its lss) {r : Addr} (hr : H r = none) : r ∉ p :: D :: bs := fun m => by
  obtain ⟨xs, e⟩ := h.lists r m
  rw [hr] at e
  cases e
theorem Ph.mono (h : Ph c p D bs H n lD its lss) (s : Same H H') : Ph c p D bs H' n lD its lss :=
  ⟨h.pen.mono s, s _ _ h.eD, h.items.mono s, h.hs.mono s, h.Dp, h.Dc, h.pb, h.Db, h.cb⟩
theorem Ph.le (h : Ph c p D bs H n lD its lss) {m : Nat} (e : n ≤ m) : Ph c p D bs H m lD its lss := ⟨h.pen.le e, h.eD, h.items, h.hs, h.Dp, h.Dc, h.pb, h.Db, h.cb⟩
theorem Ph.draw (h : Ph c p D bs H n lD its lss) {m : Nat} (pn : PenAt c H' p m) (k : Keep p H H') : Ph c p D bs H' m lD its lss :=
  ⟨pn, k _ _ h.Dp h.eD, h.items.stay h.lists (Stay.keep List.mem_cons_self k), h.hs.stay (S := [p]) (fun a m => by rw [List.mem_singleton] at m; subst m; exact h.pen.at_) (fun b m e => by rw [List.mem_singleton] at e; subst e; exact h.pb m) (Stay.keep List.mem_cons_self k), h.Dp, h.Dc, h.pb, h.Db, h.cb⟩
theorem Ph.app (h : Ph c p D bs H n lD its lss) {v : V} {it : It} (hi : ItemAt (p :: D :: bs) H v it) : Ph c p D bs (upd H D (.lst (lD ++ [v]))) n (lD ++ [v]) (its ++ [it]) lss where
  pen := h.pen.other h.Dp h.Dc
  eD := upd_same
  items := by
    have s : Stay (p :: D :: bs) H (upd H D (.lst (lD ++ [v]))) := Stay.upd (List.mem_cons_of_mem _ List.mem_cons_self)
    exact Paired.snoc (h.items.stay h.lists s) (hi.stay h.lists s)
  hs := h.hs.stay (S := [D]) (fun a m => by rw [List.mem_singleton] at m; subst m; exact ⟨_, h.eD⟩) (fun b m e => by rw [List.mem_singleton] at e; subst e; exact h.Db m) (Stay.upd List.mem_cons_self)
  Dp := h.Dp
  Dc := h.Dc
  pb := h.pb
  Db := h.Db
  cb := h.cb
theorem Ph.put (h : Ph c p D bs H n lD its lss) {d : Nat} {b t : Addr} {ls : List (List V)} {ys : List V} {l : List V} (e1 : bs[d]? = some b) (e2 : lss[d]? = some ls) (hb : H b = some (.lst ys)) (hr : RowsAt H ys ls) (ht : H t = some (.tup l)) :
    Ph c p D bs (upd H b (.lst (ys ++ [.ref t]))) n lD its (lss.set d (ls ++ [l])) := by
  have bm := List.mem_of_getElem? e1
  have nbp : b ≠ p := fun e => h.pb (by rw [← e]; exact bm)
  have nbc : b ≠ c := fun e => h.cb (by rw [← e]; exact bm)
  have nDb : D ≠ b := fun e => h.Db (by rw [e]; exact bm)
  have s : Stay (p :: D :: bs) H (upd H b (.lst (ys ++ [.ref t]))) := Stay.upd (List.mem_cons_of_mem _ (List.mem_cons_of_mem _ bm))
  exact ⟨h.pen.other nbp nbc, by rw [upd_ne nDb]; exact h.eD, h.items.stay h.lists s, h.hs.put e1 e2 hb hr ht, h.Dp, h.Dc, h.pb, h.Db, h.cb⟩
theorem Ph.get (h : Ph c p D bs H n lD its lss) {d : Nat} (hd : d < lss.length) : ∃ b ls ys, bs[d]? = some b ∧ lss[d]? = some ls ∧ H b = some (.lst ys) ∧ RowsAt H ys ls := by
  have h1 : d < bs.length := by rw [h.hs.1]; exact hd
  obtain ⟨ys, e1, e2⟩ := h.hs.2.2 d _ _ (List.getElem?_eq_getElem h1) (List.getElem?_eq_getElem hd)
  exact ⟨_, _, ys, List.getElem?_eq_getElem h1, List.getElem?_eq_getElem hd, e1, e2⟩
theorem HeapsAt.new {q : Addr} (h : HeapsAt H bs lss) (hq : H q = none) : HeapsAt (upd H q (.lst [])) (bs ++ [q]) (lss ++ [[]]) := by
  have s := Lay.Same.upd (o := .lst []) hq
  refine ⟨by rw [List.length_append, List.length_append, h.1]; rfl, List.nodup_append.mpr ⟨h.2.1, List.pairwise_singleton _ _, fun a ha b hb e => ?_⟩, fun i b ls e1 e2 => ?_⟩
  · rw [List.mem_singleton] at hb
    subst hb; subst e
    obtain ⟨xs, z⟩ := h.lists _ ha
    rw [hq] at z
    cases z
  · by_cases hi : i < bs.length
    · rw [List.getElem?_append_left hi] at e1
      rw [List.getElem?_append_left (by rw [← h.1]; exact hi)] at e2
      obtain ⟨ys, h1, h2⟩ := h.2.2 i b ls e1 e2
      exact ⟨ys, s _ _ h1, h2.mono s⟩
    · rw [List.getElem?_append_right (by omega)] at e1
      rw [List.getElem?_append_right (by rw [← h.1]; omega), ← h.1] at e2
      have z : i - bs.length = 0 := by
        cases hh : i - bs.length with
        | zero => rfl
        | succ k => rw [hh] at e1; simp at e1
      rw [z] at e1 e2
      have eb : q = b := by simpa using e1
      have el : ([] : List (List V)) = ls := by simpa using e2
      subst eb; subst el
      exact ⟨[], upd_same, .nil⟩
theorem Ph.stay_draw {S : List Addr} (k : Keep p H H') : Stay (p :: S) H H' := Stay.keep List.mem_cons_self k
end
theorem two_le {m : Int} (k : Int) (h : k = 1 ∨ k = m) (h1 : 1 ≤ m) (h4 : m ≤ 4) : 1 ≤ k ∧ k ≤ 4 := by omega
theorem six_at {d : Int} (d0 : 0 ≤ d) (d1 : d < 6) : ∃ j : Nat, j ≤ 6 ∧ atI [V.int 0, V.int 1, V.int 2, V.int 3, V.int 3, V.int 6] d = some (.int (j : Nat)) := by
  obtain rfl | rfl | rfl | rfl | rfl | rfl : d = 0 ∨ d = 1 ∨ d = 2 ∨ d = 3 ∨ d = 4 ∨ d = 5 := by omega
  · exact ⟨0, by omega, rfl⟩
  · exact ⟨1, by omega, rfl⟩
  · exact ⟨2, by omega, rfl⟩
  · exact ⟨3, by omega, rfl⟩
  · exact ⟨3, by omega, rfl⟩
  · exact ⟨6, by omega, rfl⟩
end NetG

end

section
namespace Lay
open PySem PySem.Spec PyProof.Rows L2 Exv
/-! ### a text == any value; any value == itself -/
def strIs (z : Str) (v : V) : Bool := match v with | .str y => decide (z = y) | _ => false
def rEqSK : R2 := fun x y H Q => ∃ z t, x = .str z ∧ Kd H y t ∧ Q (.bl (strIs z y)) H
theorem op_eqSK {X : Cx} (hu : X.A.units + 64 < cLine) : OpR X (compareOp .Eq) rEqSK := by
  intro pins s σ H x y v u Q I rx ry h
  obtain ⟨z, t, rfl, k, q⟩ := h
  obtain ⟨tk, rfl⟩ := rx
  have hu1 : X.A.units < cLine := by omega
  show wpAny (model X.prog X.w) X.A (richCompare .Eq (.str z tk) u) (EP X pins σ Q) X.xe s
  cases k with
  | non => cases ry; exact SeqAt.RcAt.str_none z tk _ _ _ _ ⟨.bl _, H, I, rfl, q⟩
  | bl b => cases ry; exact SeqAt.RcAt.str_bool z tk b _ _ _ _ ⟨.bl _, H, I, rfl, q⟩
  | int i => obtain ⟨t', rfl⟩ := ry; exact SeqAt.RcAt.str_int z tk i t' _ _ _ _ ⟨.bl _, H, I, rfl, q⟩
  | str y =>
    obtain ⟨t', rfl⟩ := ry
    refine SeqAt.RcAt.str_str z tk y t' _ _ _ _ ⟨.bl _, H, I, rfl, ?_⟩
    rw [beq_dec]
    exact q
  | lst h =>
    cases ry
    obtain ⟨_, its, n, _, e⟩ := I.hok _ _ h
    exact SeqAt.RcAt.str_list z tk (items := its.toArray) ⟨_, e, rfl, _, rfl⟩ hu1 _ _ _ _ ⟨.bl _, H, I, rfl, q⟩
  | tup h =>
    cases ry
    obtain ⟨_, its, _, e⟩ := I.hok _ _ h
    exact SeqAt.RcAt.str_tuple z tk (items := its.toArray) e hu1 _ _ _ _ ⟨.bl _, H, I, rfl, q⟩
  | dK h =>
    cases ry
    obtain ⟨_, _, vs, _, o, es, ep, e, ex, hd, _⟩ := I.hok _ _ h
    exact OpsM.rc_str_dict z tk e ex.1 ⟨_, _, hd⟩ hu1 _ _ _ _ ⟨.bl _, H, I, rfl, q⟩
theorem rd_eqSK {H : Hp} {Q : VK} {z : Str} {y : V} {t : Kn} (k : Kd H y t) (q : Q (.bl (strIs z y)) H) : rEqSK (.str z) y H Q := ⟨z, t, rfl, k, q⟩
theorem hits_self {prog : Program} {w : World} {A : Around} {s : Shared} {kb : List (Key × Value)} (nd : (kb.map (·.1)).Nodup) : ∀ {r : List (Key × Value)}, (∀ p ∈ r, p ∈ kb) → PySem.W.KeqHitsP prog w A s kb r true
  | [], _ => .nil
  | (k, v) :: r, h => by
    have z := PySem.W.KeqHitsP.hit (prog := prog) (w := w) (r := r) (b := true) (PySem.valueAt_of_mem nd (h (k, v) List.mem_cons_self)) (SeqAt.EqAt.same (A := A) (s := s) v).eqP (hits_self nd fun p m => h p (List.mem_cons_of_mem _ m))
    exact z
def rEqSelf : R2 := fun x y H Q => x = y ∧ (∃ t, Kd H x t) ∧ Q (.bl true) H
theorem op_eqSelf {X : Cx} (hu : X.A.units + 64 < cLine) : OpR X (compareOp .Eq) rEqSelf := by
  intro pins s σ H x y v u Q I rx ry h
  obtain ⟨rfl, ⟨t, k⟩, q⟩ := h
  have hu1 : X.A.units < cLine := by omega
  show wpAny (model X.prog X.w) X.A (richCompare .Eq v u) (EP X pins σ Q) X.xe s
  cases k with
  | non => cases rx; cases ry; exact SeqAt.RcAt.none_none _ _ _ _ ⟨.bl _, H, I, rfl, q⟩
  | bl b => cases rx; cases ry; exact SeqAt.RcAt.bool_bool b b _ _ _ _ ⟨.bl _, H, I, rfl, by rw [beq_self_eq_true]; exact q⟩
  | int i => obtain ⟨t1, rfl⟩ := rx; obtain ⟨t2, rfl⟩ := ry; exact SeqAt.RcAt.int_int i t1 i t2 _ _ _ _ ⟨.bl _, H, I, rfl, by rw [beq_self_eq_true]; exact q⟩
  | str y => obtain ⟨t1, rfl⟩ := rx; obtain ⟨t2, rfl⟩ := ry; exact SeqAt.RcAt.str_str y t1 y t2 _ _ _ _ ⟨.bl _, H, I, rfl, by rw [beq_self_eq_true]; exact q⟩
  | lst h =>
    cases rx; cases ry
    obtain ⟨_, its, n, _, e⟩ := I.hok _ _ h
    have z := SeqAt.RcAt.lists (A := X.A) (s := s) (items := its.toArray) (items2 := its.toArray) (e := fun _ => true) ⟨_, e, rfl, _, rfl⟩ ⟨_, e, rfl, _, rfl⟩ rfl hu1 (fun j h1 h2 => SeqAt.EqAt.same _)
    rw [show (List.range its.toArray.size).all (fun _ => true) = true from List.all_eq_true.mpr fun _ _ => rfl] at z
    exact z _ _ _ _ ⟨.bl _, H, I, rfl, q⟩
  | tup h =>
    cases rx; cases ry
    obtain ⟨_, its, _, e⟩ := I.hok _ _ h
    have z := SeqAt.RcAt.tuples (A := X.A) (s := s) (items := its.toArray) (items2 := its.toArray) (e := fun _ => true) e e hu1 (fun j h1 h2 => SeqAt.EqAt.same _)
    rw [show (List.range (min its.toArray.size its.toArray.size)).all (fun _ => true) = true from List.all_eq_true.mpr fun _ _ => rfl, Bool.true_and, beq_self_eq_true] at z
    exact z _ _ _ _ ⟨.bl _, H, I, rfl, q⟩
  | dK h =>
    cases rx; cases ry
    obtain ⟨_, hs, vs, _, hd⟩ := I.hok _ _ h
    obtain ⟨o, es, ep, h1, h2, h3, h4, h5, nd⟩ := id hd
    refine PySem.W.rcP_dicts hs hs hd hd hu1 (fun _ => hits_self nd fun p m => m) _ _ ⟨.bl (vs.length == vs.length && true), H, I, rfl, ?_⟩
    rw [beq_self_eq_true]; exact q
theorem rd_eqSelf {H : Hp} {Q : VK} {x : V} {t : Kn} (k : Kd H x t) (q : Q (.bl true) H) : rEqSelf x x H Q := ⟨rfl, ⟨t, k⟩, q⟩
end Lay
namespace NetG
open PySem PySem.Spec PyProof.Rows Lay NetL Exv
open L2 hiding It
theorem pappend {α β : Type} {F : α → β → Prop} : ∀ {xs ys : List α} {as bs : List β}, Paired F xs as → Paired F ys bs → Paired F (xs ++ ys) (as ++ bs)
  | _, _, _, _, .nil, h => h
  | _, _, _, _, .cons r t, h => .cons r (pappend t h)
theorem ptake {α β : Type} {F : α → β → Prop} : ∀ {xs : List α} {as : List β} (n : Nat), Paired F xs as → Paired F (xs.take n) (as.take n)
  | _, _, 0, _ => by rw [List.take_zero, List.take_zero]; exact .nil
  | _, _, n + 1, .nil => .nil
  | _, _, n + 1, .cons r t => .cons r (ptake n t)
theorem pdrop {α β : Type} {F : α → β → Prop} : ∀ {xs : List α} {as : List β} (n : Nat), Paired F xs as → Paired F (xs.drop n) (as.drop n)
  | _, _, 0, h => h
  | _, _, n + 1, .nil => .nil
  | _, _, n + 1, .cons r t => pdrop n t
def spSelf (C : Cs) (P : It → Prop) : Sp := fun vs H Q _ => ∃ x it, vs = [.ref x, .ref x] ∧ PartAt C H (.ref x) it ∧ P it ∧ Q (.bl true) H
/-- where the items have the name v -/
def spotsV (its : List It) (v : V) (j : Nat) : List Int := ((List.range j).filter fun i => match its[i]? with | some it => strIs it.nm v | none => false).map fun i => ((i : Nat) : Int)
theorem spotsV_succ {its : List It} {v : V} {j : Nat} {it : It} (h : its[j]? = some it) : spotsV its v (j + 1) = spotsV its v j ++ (if strIs it.nm v = true then [((j : Nat) : Int)] else []) := by
  unfold spotsV
  rw [List.range_succ, List.filter_append, List.map_append]
  congr 1
  by_cases e : strIs it.nm v = true
  · rw [if_pos e, List.filter_cons_of_pos (by rw [h]; exact e)]; rfl
  · rw [if_neg e, List.filter_cons_of_neg (by rw [h]; exact e)]; rfl
theorem spotsV_len {its : List It} {v : V} {j : Nat} : (spotsV its v j).length ≤ j := by
  unfold spotsV
  rw [List.length_map]
  exact Nat.le_trans (List.length_filter_le _ _) (by rw [List.length_range]; exact Nat.le_refl _)
theorem spotsV_no {its : List It} {v : V} (h : hasNm its v = false) : ∀ j, spotsV its v j = [] := fun j => by
  unfold spotsV
  rw [List.map_eq_nil_iff, List.filter_eq_nil_iff]
  intro i _
  cases e : its[i]? with
  | none => exact Bool.false_ne_true
  | some it =>
    have m := List.mem_of_getElem? e
    show ¬ strIs it.nm v = true
    have no : strIs it.nm v = false := by
      cases v with
      | str n =>
        have h' : decide (n ∈ its.map It.nm) = false := h
        exact decide_eq_false fun e => of_decide_eq_false h' (by rw [← e]; exact List.mem_map.mpr ⟨it, m, rfl⟩)
      | _ => rfl
    rw [no]
    exact Bool.false_ne_true
theorem spotsV_yes {its : List It} {v : V} (h : hasNm its v = true) : ∃ (i : Nat) (it : It) (r : List Int), spotsV its v its.length = (i : Int) :: r ∧ its[i]? = some it ∧ v = .str it.nm := by
  obtain ⟨n, rfl⟩ : ∃ n, v = .str n := by
    cases v with
    | str n => exact ⟨n, rfl⟩
    | _ => cases h
  have m : n ∈ its.map It.nm := of_decide_eq_true h
  obtain ⟨it, im, e⟩ := List.mem_map.mp m
  obtain ⟨i, hi, ei⟩ := List.getElem_of_mem im
  cases hs : spotsV its (.str n) its.length with
  | nil =>
    exfalso
    unfold spotsV at hs
    rw [List.map_eq_nil_iff, List.filter_eq_nil_iff] at hs
    refine hs i (List.mem_range.mpr hi) ?_
    rw [List.getElem?_eq_getElem hi, ei]
    exact decide_eq_true e
  | cons a r =>
    have am : a ∈ spotsV its (.str n) its.length := by rw [hs]; exact List.mem_cons_self
    unfold spotsV at am
    obtain ⟨q, qm, rfl⟩ := List.mem_map.mp am
    obtain ⟨q1, q2⟩ := List.mem_filter.mp qm
    cases e2 : its[q]? with
    | none => rw [e2] at q2; cases q2
    | some it2 =>
      rw [e2] at q2
      exact ⟨q, it2, r, rfl, e2, by rw [of_decide_eq_true q2]⟩
theorem name_inj {its : List It} (nd : (its.map It.nm).Nodup) {i j : Nat} {a b : It} (ha : its[i]? = some a) (hb : its[j]? = some b) (e : a.nm = b.nm) : i = j := by
  have h1 : (its.map It.nm)[i]? = some a.nm := by rw [List.getElem?_map, ha]; rfl
  have h2 : (its.map It.nm)[j]? = some a.nm := by rw [List.getElem?_map, hb, e]; rfl
  have tk : ∀ {i j : Nat} {z : Str}, (its.map It.nm)[i]? = some z → (its.map It.nm)[j]? = some z → i < j → False := fun {i j z} a1 a2 lt =>
    not_take nd a2 (List.mem_of_getElem? (by rw [List.getElem?_take, if_pos lt]; exact a1))
  rcases Nat.lt_trichotomy i j with lt | e | gt
  · exact (tk h1 h2 lt).elim
  · exact e
  · exact (tk h2 h1 gt).elim
def spShuf : Sp := fun vs H Q _ => ∃ (p : Addr) (n : Nat) (c a : Addr) (l : List V) (its : List It), vs = [.ref p, .ref a] ∧ PenAt c H p n ∧ n + 20 < 100000 ∧ H a = some (.lst l) ∧ a ≠ p ∧ ItemsAt [p] H l its ∧ its.length ≤ 13 ∧
  ∀ r l' its' H', H r = none → H' r = some (.lst l') → ItemsAt [p] H' l' its' → its'.Perm its → PenAt c H' p (n + 20) → Keep p H H' → Q (.ref r) H'
/-- a part that its class takes -/
def PartOk : It → Prop
  | .vr z s ats => nameOk z = true ∧ 1 ≤ s ∧ s ≤ 8 ∧ 1 ≤ ats.length ∧ ats.length ≤ 4 ∧ Gap s ats ∧ ∀ a ∈ ats, 0 ≤ a ∧ a + s ≤ 1024
  | .sg z t => nameOk z = true ∧ 0 ≤ t ∧ t ≤ 3
  | .ag z k ls => nameOk z = true ∧ 0 ≤ k ∧ k ≤ 2 ∧ 1 ≤ ls.length ∧ ls.length ≤ 24 ∧ ∀ l ∈ ls, GoodStep (wsK k) l
theorem GenOk.part {ring : Int} {its : List It} (h : GenOk ring its) : ∀ it ∈ its, PartOk it := fun it m => by
  have hn := h.good.ok it m
  cases it with
  | vr z s ats =>
    obtain ⟨h1, h2, h3, h4, _⟩ := h.good.vr z s ats m
    obtain ⟨g1, g2⟩ := h.var z s ats m
    exact ⟨hn, h1, h2, h3, h4, g1, g2⟩
  | sg z t =>
    obtain ⟨h1, h2, _⟩ := h.good.sg z t m
    exact ⟨hn, h1, h2⟩
  | ag z k ls =>
    obtain ⟨h1, h2, h3, h4, h5⟩ := h.good.gs z k ls m
    exact ⟨hn, h1, h2, h3, h4, fun l lm => (h5 l lm).1⟩
def spPart (C : Cs) : Sp := fun vs H Q _ => ∃ (S : List Addr) (v : V) (it : It), vs = [v] ∧ ItemAt S H v it ∧ PartOk it ∧ ∀ u H', Same H H' → PartAt C H' u it → Q u H'
def spBy (C : Cs) (N EN : Addr) : Sp := fun vs H Q _ => ∃ x l r its ps v, vs = [.ref x, v] ∧ NetAt C N H x l r its ps ∧ Kz H v ∧ (its.map It.nm).Nodup ∧
  (hasNm its v = false → ∀ a H', Same H H' → ErrAt EN H' a [("name", v)] → Q (.ref a) H') ∧ ∀ (i : Nat) (it : It) (p : V), v = .str it.nm → its[i]? = some it → ps[i]? = some p → Q p H
def spRight (C : Cs) (N : Addr) : Sp := fun vs H Q _ => ∃ (S : List Addr) (x : Addr) (ln r : Int) (its : List It) (ps : List V) (ti th : Addr) (l : List V) (v : V), vs = [.ref x, .ref ti, .ref th, v] ∧ NetAt C N H x ln r its ps ∧ H ti = some (.lst l) ∧ ItemsAt S H l its ∧ H th = some (.lst ps) ∧ Kz H v ∧ Good r its ∧ its.length ≤ 13 ∧ ∀ H', Same H H' → Q (.bl true) H'
theorem item_name {S : List Addr} {H : Hp} {v : V} : ∀ {it : It}, ItemAt S H v it → ∃ a k rest, v = .ref a ∧ H a = some (.tup (k :: V.str it.nm :: rest))
  | .vr _ _ _, ⟨a, b, e, h1, _⟩ => ⟨a, _, _, e, h1⟩
  | .sg _ _, ⟨a, e, h1⟩ => ⟨a, _, _, e, h1⟩
  | .ag _ _ _, ⟨a, b, ys, e, h1, _⟩ => ⟨a, _, _, e, h1⟩
theorem spots_none {its : List It} {v : V} (h : hasNm its v = false) : ∀ it ∈ its, strIs it.nm v = false := fun it m => by
  cases v with
  | str n =>
    have h' : decide (n ∈ its.map It.nm) = false := h
    refine decide_eq_false fun e => of_decide_eq_false h' ?_
    rw [← e]
    exact List.mem_map.mpr ⟨it, m, rfl⟩
  | _ => rfl
end NetG

end

section
namespace PySem
namespace OpsM
open SeqAt
open AutoSeq1 (wpAny_loadPart')
/-! ### a dict == what is none: false, both ways -/
theorem int_eq_dict_b (b : Bool) (l : Addr) (c : Value) (dd : Option Addr) (es : Array DictEntry) (ep : Nat) (sl : Array (Option Value)) :
    Meets (Builtin.«int.__eq__» ⟨[.bool b, .ref l], []⟩) (fun _ R s => s.heap.get? l = some { cls := c, dict := dd, data := .dict es ep, slots := sl } ∧ R (.ok (.ret .notImplemented)) s) := by
  refine .of_wp fun prog w A R s h => ?_
  obtain ⟨hp, g, d, tk, os⟩ := s
  obtain ⟨hl, hR⟩ := h
  wp_walk using wpAny_loadPart' hl, wpAny_load hl
  exact ⟨_, rfl, hR⟩
theorem int_eq_dict_i (b : Int) (u : Tok) (l : Addr) (c : Value) (dd : Option Addr) (es : Array DictEntry) (ep : Nat) (sl : Array (Option Value)) :
    Meets (Builtin.«int.__eq__» ⟨[.int b u, .ref l], []⟩) (fun _ R s => s.heap.get? l = some { cls := c, dict := dd, data := .dict es ep, slots := sl } ∧ R (.ok (.ret .notImplemented)) s) := by
  refine .of_wp fun prog w A R s h => ?_
  obtain ⟨hp, g, d, tk, os⟩ := s
  obtain ⟨hl, hR⟩ := h
  wp_walk using wpAny_loadPart' hl, wpAny_load hl
  exact ⟨_, rfl, hR⟩
theorem list_eq_dict (l b : Addr) (items : Array Value) (n : Nat) (dd dd2 : Option Addr) (sl sl2 : Array (Option Value)) (es : Array DictEntry) (ep : Nat) :
    Meets (Builtin.«list.__eq__» ⟨[.ref l, .ref b], []⟩) (fun _ R s => s.heap.get? l = some { cls := .type "list", dict := dd, data := .seq items n, slots := sl } ∧ s.heap.get? b = some { cls := .type "dict", dict := dd2, data := .dict es ep, slots := sl2 } ∧ R (.ok (.ret .notImplemented)) s) :=
  .of_wp fun prog w A R s h => by obtain ⟨hp, g, d, tk, os⟩ := s; obtain ⟨hl, hb, h⟩ := h; have f1 := F.sub_dict_list; wp_walk using wpAny_loadPart' hl, wpAny_loadPart' hb, wpAny_load hb; exact ⟨_, rfl, h⟩
theorem tuple_eq_dict (l b : Addr) (items : Array Value) (n : Nat) (dd dd2 : Option Addr) (sl sl2 : Array (Option Value)) (es : Array DictEntry) (ep : Nat) :
    Meets (Builtin.«tuple.__eq__» ⟨[.ref l, .ref b], []⟩) (fun _ R s => s.heap.get? l = some { cls := .type "tuple", dict := dd, data := .seq items n, slots := sl } ∧ s.heap.get? b = some { cls := .type "dict", dict := dd2, data := .dict es ep, slots := sl2 } ∧ R (.ok (.ret .notImplemented)) s) :=
  .of_wp fun prog w A R s h => by obtain ⟨hp, g, d, tk, os⟩ := s; obtain ⟨hl, hb, h⟩ := h; have f1 := F.sub_dict_tuple; wp_walk using wpAny_loadPart' hl, wpAny_loadPart' hb, wpAny_load hb; exact ⟨_, rfl, h⟩
section
variable {prog : Program} {w : World} {A : Around} {E : Value → Shared → Prop} {s : Shared}
theorem dict_eq_other {d : Addr} {v : Value} {T : String} {Q : Value → Shared → Prop} (hd : s.TypeIs (.ref d) "dict") (hv : s.TypeIs v T) (hs : isSubtype (.type T) (.type "dict") = pure false) (h : Q .notImplemented s) : wpAny (model prog w) A (call (.builtin "dict.__eq__") [.ref d, v]) Q E s := by
  refine wpAny_call_entry PySem.F.slot_dict_eq hd PySem.F.entry_dict_eq ?_ (PySem.F.args_dict_eq_2 _ _)
  show wpAny _ _ (Builtin.Dict.dictSlotArgs "__eq__" ⟨[.ref d, v], []⟩ >>= _) _ _ s
  refine wpAny_bind ?_
  unfold Builtin.Dict.dictSlotArgs
  refine wpAny_bind (wpAny_notOrdered_dict hd ?_)
  show wpAny _ _ (pure (Value.ref d, v)) _ _ s
  refine wpAny_pure ?_
  refine wpAny_bind (wpAny_isInstance (T := T) hv hs ?_)
  simp only [Bool.not_false, if_true]
  exact wpAny_bind (wpAny_rule (wpAny_pure ⟨_, rfl, h⟩))
/-- a dict at d -/
def DictAt (s : Shared) (d : Addr) : Prop := ∃ (es : Array DictEntry) (ep : Nat) (dd : Option Addr) (sl : Array (Option Value)), s.heap.get? d = some { cls := .type "dict", dict := dd, data := .dict es ep, slots := sl }
variable {d l : Addr} {items : Array Value}
theorem rc_none_dict (hd : DictAt s d) (hu : A.units < cLine) : RcAt A s .none (.ref d) false := fun prog w E Q h => by
  obtain ⟨es, ep, dd, sl, ho⟩ := hd
  exact rc_eq_decline_or (k := false) rfl ⟨_, ho, rfl⟩ (by decide) F.sub_dict_NoneType F.slot_NoneType_eq F.slot_dict_eq_refl
    (fun _ hq => call_gives F.slot_NoneType_eq rfl F.entry_NoneType_eq (F.args_NoneType_eq_2 _ _) (NoneType___eq___none_ref_0 d) hq)
    (fun _ hq => dict_eq_other (T := "NoneType") ⟨_, ho, rfl⟩ rfl F.sub_NoneType_dict hq) (fun _ hq => wpAny_of_eq (rfl : isSame .none (.ref d) = pure false) hq) (.inr hu) h
theorem rc_dict_none (hd : DictAt s d) (hu : A.units < cLine) : RcAt A s (.ref d) .none false := fun prog w E Q h => by
  obtain ⟨es, ep, dd, sl, ho⟩ := hd
  exact rc_eq_decline_or (k := false) ⟨_, ho, rfl⟩ rfl (by decide) F.sub_NoneType_dict F.slot_dict_eq F.slot_NoneType_eq_refl
    (fun _ hq => dict_eq_other (T := "NoneType") ⟨_, ho, rfl⟩ rfl F.sub_NoneType_dict hq)
    (fun _ hq => call_gives F.slot_NoneType_eq_refl rfl F.entry_NoneType_eq (F.args_NoneType_eq_2 _ _) (NoneType___eq___none_ref_0 d) hq) (fun _ hq => wpAny_of_eq (rfl : isSame (.ref d) .none = pure false) hq) (.inr hu) h
theorem rc_bool_dict (b : Bool) (hd : DictAt s d) (hu : A.units < cLine) : RcAt A s (.bool b) (.ref d) false := fun prog w E Q h => by
  obtain ⟨es, ep, dd, sl, ho⟩ := hd
  exact rc_eq_decline_or (k := false) rfl ⟨_, ho, rfl⟩ (by decide) F.sub_dict_bool F.slot_bool_eq F.slot_dict_eq_refl
    (fun _ hq => call_meets F.slot_bool_eq rfl F.entry_int_eq (F.args_int_eq_2 _ _) (int_eq_dict_b b d _ dd es ep sl) ⟨ho, hq⟩)
    (fun _ hq => dict_eq_other (T := "bool") ⟨_, ho, rfl⟩ rfl F.sub_bool_dict hq) (fun _ hq => wpAny_of_eq (rfl : isSame (.bool b) (.ref d) = pure false) hq) (.inr hu) h
theorem rc_dict_bool (b : Bool) (hd : DictAt s d) (hu : A.units < cLine) : RcAt A s (.ref d) (.bool b) false := fun prog w E Q h => by
  obtain ⟨es, ep, dd, sl, ho⟩ := hd
  exact rc_eq_decline_or (k := false) ⟨_, ho, rfl⟩ rfl (by decide) F.sub_bool_dict F.slot_dict_eq F.slot_bool_eq_refl
    (fun _ hq => dict_eq_other (T := "bool") ⟨_, ho, rfl⟩ rfl F.sub_bool_dict hq)
    (fun _ hq => call_meets F.slot_bool_eq_refl rfl F.entry_int_eq (F.args_int_eq_2 _ _) (int_eq_dict_b b d _ dd es ep sl) ⟨ho, hq⟩) (fun _ hq => wpAny_of_eq (rfl : isSame (.ref d) (.bool b) = pure false) hq) (.inr hu) h
theorem rc_int_dict (b : Int) (u : Tok) (hd : DictAt s d) (hu : A.units < cLine) : RcAt A s (.int b u) (.ref d) false := fun prog w E Q h => by
  obtain ⟨es, ep, dd, sl, ho⟩ := hd
  exact rc_eq_decline_or (k := false) (typeIs_int s b u) ⟨_, ho, rfl⟩ (by decide) F.sub_dict_int F.slot_int_eq F.slot_dict_eq_refl
    (fun _ hq => call_meets F.slot_int_eq (typeIs_int s b u) F.entry_int_eq (F.args_int_eq_2 _ _) (int_eq_dict_i b u d _ dd es ep sl) ⟨ho, hq⟩)
    (fun _ hq => dict_eq_other (T := "int") ⟨_, ho, rfl⟩ (typeIs_int s b u) F.sub_int_dict hq) (fun _ hq => wpAny_of_eq (rfl : isSame (.int b u) (.ref d) = pure false) hq) (.inr hu) h
theorem rc_dict_int (b : Int) (u : Tok) (hd : DictAt s d) (hu : A.units < cLine) : RcAt A s (.ref d) (.int b u) false := fun prog w E Q h => by
  obtain ⟨es, ep, dd, sl, ho⟩ := hd
  exact rc_eq_decline_or (k := false) ⟨_, ho, rfl⟩ (typeIs_int s b u) (by decide) F.sub_int_dict F.slot_dict_eq F.slot_int_eq_refl
    (fun _ hq => dict_eq_other (T := "int") ⟨_, ho, rfl⟩ (typeIs_int s b u) F.sub_int_dict hq)
    (fun _ hq => call_meets F.slot_int_eq_refl (typeIs_int s b u) F.entry_int_eq (F.args_int_eq_2 _ _) (int_eq_dict_i b u d _ dd es ep sl) ⟨ho, hq⟩) (fun _ hq => wpAny_of_eq (rfl : isSame (.ref d) (.int b u) = pure false) hq) (.inr hu) h
theorem rc_str_dict' (b : Str) (u : Tok) (hd : DictAt s d) (hu : A.units < cLine) : RcAt A s (.str b u) (.ref d) false := by
  obtain ⟨es, ep, dd, sl, ho⟩ := hd
  exact rc_str_dict b u ho rfl ⟨_, _, rfl⟩ hu
theorem rc_dict_str (b : Str) (u : Tok) (hd : DictAt s d) (hu : A.units < cLine) : RcAt A s (.ref d) (.str b u) false := fun prog w E Q h => by
  obtain ⟨es, ep, dd, sl, ho⟩ := hd
  exact rc_eq_decline_or (k := false) ⟨_, ho, rfl⟩ (typeIs_str s b u) (by decide) F.sub_str_dict F.slot_dict_eq F.slot_str_eq_refl
    (fun _ hq => dict_eq_other (T := "str") ⟨_, ho, rfl⟩ (typeIs_str s b u) F.sub_str_dict hq)
    (fun _ hq => call_meets F.slot_str_eq_refl (typeIs_str s b u) F.entry_str_eq (F.args_str_eq_2 _ _) (str_eq_any b u d _ dd es ep sl) ⟨ho, hq⟩) (fun _ hq => wpAny_of_eq (rfl : isSame (.ref d) (.str b u) = pure false) hq) (.inr hu) h
theorem ne_list_dict (hl : s.heap.IsList l items) (hd : DictAt s d) : l ≠ d := fun e => by
  subst e
  obtain ⟨es, ep, dd, sl, ho⟩ := hd
  obtain ⟨o, h1, h2, _⟩ := hl
  rw [h1] at ho
  cases ho
  exact absurd h2 (by simp)
theorem ne_tuple_dict (hl : s.heap.IsTuple l items) (hd : DictAt s d) : l ≠ d := fun e => by
  subst e
  obtain ⟨es, ep, dd, sl, ho⟩ := hd
  obtain ⟨o, h1, h2, _⟩ := hl
  rw [h1] at ho
  cases ho
  exact absurd h2 (by simp)
theorem rc_list_dict (hl : s.heap.IsList l items) (hd : DictAt s d) (hu : A.units < cLine) : RcAt A s (.ref l) (.ref d) false := fun prog w E Q h => by
  have hne := ne_list_dict hl hd
  obtain ⟨es, ep, dd, sl, ho⟩ := hd
  obtain ⟨⟨cls, d1, dt, s1⟩, h1, hc, n, hdt⟩ := id hl
  simp only at hc hdt
  subst hc hdt
  exact rc_eq_decline_or (k := false) ⟨_, h1, rfl⟩ ⟨_, ho, rfl⟩ (by decide) F.sub_dict_list F.slot_list_eq F.slot_dict_eq_refl
    (fun _ hq => call_meets F.slot_list_eq ⟨_, h1, rfl⟩ F.entry_list_eq (F.args_list_eq_2 _ _) (list_eq_dict l d items n d1 dd s1 sl es ep) ⟨h1, ho, hq⟩)
    (fun _ hq => dict_eq_other (T := "list") ⟨_, ho, rfl⟩ ⟨_, h1, rfl⟩ F.sub_list_dict hq) (fun _ hq => wpAny_isSame_ref_other' hne h1 ho (by simp) hq) (.inr hu) h
theorem rc_dict_list (hl : s.heap.IsList l items) (hd : DictAt s d) (hu : A.units < cLine) : RcAt A s (.ref d) (.ref l) false := fun prog w E Q h => by
  have hne := ne_list_dict hl hd
  obtain ⟨es, ep, dd, sl, ho⟩ := hd
  obtain ⟨⟨cls, d1, dt, s1⟩, h1, hc, n, hdt⟩ := id hl
  simp only at hc hdt
  subst hc hdt
  exact rc_eq_decline_or (k := false) ⟨_, ho, rfl⟩ ⟨_, h1, rfl⟩ (by decide) F.sub_list_dict F.slot_dict_eq F.slot_list_eq_refl
    (fun _ hq => dict_eq_other (T := "list") ⟨_, ho, rfl⟩ ⟨_, h1, rfl⟩ F.sub_list_dict hq)
    (fun _ hq => call_meets F.slot_list_eq_refl ⟨_, h1, rfl⟩ F.entry_list_eq (F.args_list_eq_2 _ _) (list_eq_dict l d items n d1 dd s1 sl es ep) ⟨h1, ho, hq⟩) (fun _ hq => wpAny_isSame_ref_other' hne.symm ho h1 (by simp) hq) (.inr hu) h
theorem rc_tuple_dict (hl : s.heap.IsTuple l items) (hd : DictAt s d) (hu : A.units < cLine) : RcAt A s (.ref l) (.ref d) false := fun prog w E Q h => by
  have hne := ne_tuple_dict hl hd
  obtain ⟨es, ep, dd, sl, ho⟩ := hd
  obtain ⟨⟨cls, d1, dt, s1⟩, h1, hc, n, hdt⟩ := id hl
  simp only at hc hdt
  subst hc hdt
  exact rc_eq_decline_or (k := false) ⟨_, h1, rfl⟩ ⟨_, ho, rfl⟩ (by decide) F.sub_dict_tuple F.slot_tuple_eq F.slot_dict_eq_refl
    (fun _ hq => call_meets F.slot_tuple_eq ⟨_, h1, rfl⟩ F.entry_tuple_eq (F.args_tuple_eq_2 _ _) (tuple_eq_dict l d items n d1 dd s1 sl es ep) ⟨h1, ho, hq⟩)
    (fun _ hq => dict_eq_other (T := "tuple") ⟨_, ho, rfl⟩ ⟨_, h1, rfl⟩ F.sub_tuple_dict hq) (fun _ hq => wpAny_isSame_ref_other' hne h1 ho (by simp) hq) (.inr hu) h
theorem rc_dict_tuple (hl : s.heap.IsTuple l items) (hd : DictAt s d) (hu : A.units < cLine) : RcAt A s (.ref d) (.ref l) false := fun prog w E Q h => by
  have hne := ne_tuple_dict hl hd
  obtain ⟨es, ep, dd, sl, ho⟩ := hd
  obtain ⟨⟨cls, d1, dt, s1⟩, h1, hc, n, hdt⟩ := id hl
  simp only at hc hdt
  subst hc hdt
  exact rc_eq_decline_or (k := false) ⟨_, ho, rfl⟩ ⟨_, h1, rfl⟩ (by decide) F.sub_tuple_dict F.slot_dict_eq F.slot_tuple_eq_refl
    (fun _ hq => dict_eq_other (T := "tuple") ⟨_, ho, rfl⟩ ⟨_, h1, rfl⟩ F.sub_tuple_dict hq)
    (fun _ hq => call_meets F.slot_tuple_eq_refl ⟨_, h1, rfl⟩ F.entry_tuple_eq (F.args_tuple_eq_2 _ _) (tuple_eq_dict l d items n d1 dd s1 sl es ep) ⟨h1, ho, hq⟩) (fun _ hq => wpAny_isSame_ref_other hne.symm ho h1 (by simp) hq) (.inr hu) h
/-- == asked by the model of one program, one of the two no object -/
theorem eqP_l {x : Value} {b : Bool} (hn : ∀ a, x ≠ .ref a) (h : RcAt A s x (.ref d) b) : EqP prog w A s x (.ref d) b := fun E Q hq => by
  unfold eqBool
  refine wpAny_holding (wpAny_ite_split (fun z => absurd (eq_of_beq z) (hn d)) fun _ => ?_)
  cases x with
  | ref a => exact absurd rfl (hn a)
  | _ => exact wpAny_bind (h prog w E _ (wpAny_truthy_bool hq))
theorem eqP_r {x : Value} {b : Bool} (hn : ∀ a, x ≠ .ref a) (h : RcAt A s (.ref d) x b) : EqP prog w A s (.ref d) x b := fun E Q hq => by
  unfold eqBool
  refine wpAny_holding (wpAny_ite_split (fun z => absurd (eq_of_beq z).symm (hn d)) fun _ => ?_)
  cases x with
  | ref a => exact absurd rfl (hn a)
  | _ => exact wpAny_bind (h prog w E _ (wpAny_truthy_bool hq))
end
end OpsM
end PySem
namespace Lay
open PySem PySem.Spec PyProof.Rows L2 Exv Grd
/-! ### values of fields: data without dicts, or the dict of one text to a number -/
def okD (d : PyData) : Bool := d.canLay0 && decide (d.depth ≤ 8) && d.showable && decide (d.shown.length ≤ 1000)
structure OkD (d : PyData) : Prop where
  lay : d.canLay0 = true
  deep : d.depth ≤ 8
  show_ : d.showable = true
  len : d.shown.length ≤ 1000
theorem okD_of {d : PyData} (h : okD d = true) : OkD d := by
  unfold okD at h
  simp only [Bool.and_eq_true, decide_eq_true_eq] at h
  exact ⟨h.1.1.1, h.1.1.2, h.1.2, h.2⟩
/-- a field's value at a heap -/
inductive Fv (K : PySem.W.Frag) (H : Hp) : V → PyData → Prop
  | of {v : V} {d : PyData} : Dp K H v d → OkD d → Fv K H v d
  | dct {a : Addr} {i : Int} : H a = some (.dK [(.inr "a", .int i)]) → 0 ≤ i → i ≤ 9 → Fv K H (.ref a) (.dict [(.str "a", .int i)])
def eqX : PyData → PyData → Bool
  | .dict [(_, .int i)], .dict [(_, .int j)] => i == j
  | d, e => PyData.eqv d e
theorem eqX_of {K : PySem.W.Frag} {H : Hp} {v : V} {d e : PyData} (h : Dp K H v d) : eqX d e = PyData.eqv d e := by
  cases h <;> rfl
theorem eqX_of' {K : PySem.W.Frag} {H : Hp} {v : V} {d e : PyData} (h : Dp K H v e) : eqX d e = PyData.eqv d e := by
  cases h <;> (unfold eqX; split <;> first | rfl | contradiction)
theorem eqv_no {K : PySem.W.Frag} {H : Hp} {v : V} {kvs : List (PyData × PyData)} {e : PyData} (h : Dp K H v e) : PyData.eqv (.dict kvs) e = false := by
  cases h <;> simp only [PyData.eqv]
theorem eqv_no' {K : PySem.W.Frag} {H : Hp} {v : V} {kvs : List (PyData × PyData)} {e : PyData} (h : Dp K H v e) : PyData.eqv e (.dict kvs) = false := by
  cases h <;> simp only [PyData.eqv]
theorem Fv.comm {K : PySem.W.Frag} {H H' : Hp} {v u : V} {d e : PyData} (h : Fv K H v d) (g : Fv K H' u e) : eqX d e = eqX e d := by
  cases h with
  | of h _ => rw [eqX_of h, eqX_of' h]; exact PySem.W.eqv_comm _ _
  | dct h h0 h1 =>
    cases g with
    | of g _ => rw [eqX_of g, eqX_of' g]; exact PySem.W.eqv_comm _ _
    | dct g g0 g1 => exact PySem.W.beq_swap _ _
theorem Fv.self {K : PySem.W.Frag} {H : Hp} {v : V} {d : PyData} (h : Fv K H v d) : eqX d d = true := by
  cases h with
  | of h o => rw [eqX_of h]; exact PySem.SeqAt.eqv_refl d o.lay
  | dct h h0 h1 => exact beq_self_eq_true _
section
variable {X : Cx} {pins : List (Addr × Obj)} {σ : L2.St} {H : Hp} {s : Shared} {A : Around}
theorem dictAt_of {a : Addr} {kvs : List (Key × V)} (I : Inv X pins σ H s) (h : H a = some (.dK kvs)) : OpsM.DictAt s a := by
  obtain ⟨_, _, vs, _, o, es, ep, e1, e2, e3, _⟩ := I.hok _ _ h
  obtain ⟨c, dd, dt, sl⟩ := o
  have hc := e2.1
  simp only at hc e3
  subst hc e3
  exact ⟨es, ep, dd, sl, e1⟩
/-- a dict == another one, of the same one text to numbers -/
theorem dicts_eq {a b : Addr} {i j : Int} (I : Inv X pins σ H s) (h : H a = some (.dK [(.inr "a", .int i)])) (g : H b = some (.dK [(.inr "a", .int j)])) (hu : A.units < cLine) (E Q : Value → Shared → Prop)
    (q : Q (.bool (i == j)) s) : wpAny (model X.prog X.w) A (richCompare .Eq (.ref a) (.ref b)) Q E s := by
  obtain ⟨_, ha, vs, rv, dv⟩ := I.hok _ _ h
  obtain ⟨_, hb, us, ru, du⟩ := I.hok _ _ g
  cases rv with
  | cons r1 r2 =>
    cases r2
    cases ru with
    | cons t1 t2 =>
      cases t2
      rename_i p p'
      obtain ⟨k, u⟩ := p
      obtain ⟨k', u'⟩ := p'
      obtain ⟨e1, x, e2⟩ := r1
      obtain ⟨f1, y, f2⟩ := t1
      dsimp only at e1 e2 f1 f2
      subst e1 e2 f1 f2
      refine PySem.W.rcP_dicts ha hb dv du hu (fun _ => .hit (y := .int j y) (e := i == j) (b := true) ?_ (SeqAt.EqAt.int_int i x j y).eqP .nil) E Q ?_
      · simp [PySem.valueAt]
      · simpa using q
theorem dp_eqP {x y : V} {u v : Value} {d e : PyData} (I : Inv X pins σ H s) (rx : RelV x u) (ry : RelV y v) (hx : Dp X.K H x d) (hy : Dp X.K H y e) (ox : OkD d) (oy : OkD e) (hu : A.units + 16 < cLine) : SeqAt.EqAt A s u v (PyData.eqv d e) := by
  obtain ⟨as, ra⟩ := Dp.reads I _ _ _ hx rx
  obtain ⟨bs, rb⟩ := Dp.reads I _ _ _ hy ry
  exact SeqAt.eqAt_reads d e A s u v as bs ra rb ox.lay oy.lay (by have := ox.deep; omega)
theorem dp_rc {x y : V} {u v : Value} {d e : PyData} {Q E : Value → Shared → Prop} (I : Inv X pins σ H s) (rx : RelV x u) (ry : RelV y v) (hx : Dp X.K H x d) (hy : Dp X.K H y e) (ox : OkD d) (oy : OkD e) (hu : A.units + 16 < cLine) (q : Q (.bool (PyData.eqv d e)) s) :
    wpAny (model X.prog X.w) A (compareOp .Eq u v) Q E s := by
  obtain ⟨as, ra⟩ := Dp.reads I _ _ _ hx rx
  obtain ⟨bs, rb⟩ := Dp.reads I _ _ _ hy ry
  exact SeqAt.compareEq_reads ra rb ox.lay oy.lay (by have := ox.deep; omega) q
/-- data without dicts against a dict: false both ways -/
theorem dp_dict {x : V} {u : Value} {d : PyData} {a : Addr} (I : Inv X pins σ H s) (rx : RelV x u) (hx : Dp X.K H x d) (hd : OpsM.DictAt s a) (hu : A.units < cLine) :
    (SeqAt.RcAt A s u (.ref a) false ∧ SeqAt.RcAt A s (.ref a) u false) ∧ (SeqAt.EqP X.prog X.w A s u (.ref a) false ∧ SeqAt.EqP X.prog X.w A s (.ref a) u false) := by
  cases hx with
  | non => cases rx; exact ⟨⟨OpsM.rc_none_dict hd hu, OpsM.rc_dict_none hd hu⟩, OpsM.eqP_l (fun _ z => nomatch z) (OpsM.rc_none_dict hd hu), OpsM.eqP_r (fun _ z => nomatch z) (OpsM.rc_dict_none hd hu)⟩
  | bl b => cases rx; exact ⟨⟨OpsM.rc_bool_dict b hd hu, OpsM.rc_dict_bool b hd hu⟩, OpsM.eqP_l (fun _ z => nomatch z) (OpsM.rc_bool_dict b hd hu), OpsM.eqP_r (fun _ z => nomatch z) (OpsM.rc_dict_bool b hd hu)⟩
  | int i => obtain ⟨t, rfl⟩ := rx; exact ⟨⟨OpsM.rc_int_dict i t hd hu, OpsM.rc_dict_int i t hd hu⟩, OpsM.eqP_l (fun _ z => nomatch z) (OpsM.rc_int_dict i t hd hu), OpsM.eqP_r (fun _ z => nomatch z) (OpsM.rc_dict_int i t hd hu)⟩
  | str z => obtain ⟨t, rfl⟩ := rx; exact ⟨⟨OpsM.rc_str_dict' z t hd hu, OpsM.rc_dict_str z t hd hu⟩, OpsM.eqP_l (fun _ z => nomatch z) (OpsM.rc_str_dict' z t hd hu), OpsM.eqP_r (fun _ z => nomatch z) (OpsM.rc_dict_str z t hd hu)⟩
  | lst hs ha =>
    cases rx
    obtain ⟨its, r, pl, _⟩ := I.list hs
    have z1 := OpsM.rc_list_dict (A := A) pl.isList hd hu
    have z2 := OpsM.rc_dict_list (A := A) pl.isList hd hu
    have ne := OpsM.ne_list_dict pl.isList hd
    exact ⟨⟨z1, z2⟩, SeqAt.eqP_refs ne (fun E Q q => z1 _ _ E Q q), SeqAt.eqP_refs ne.symm (fun E Q q => z2 _ _ E Q q)⟩
  | tup hs ha =>
    cases rx
    obtain ⟨its, r, pl, _⟩ := I.tuple hs
    obtain ⟨o, h1, h2, n1, h3⟩ := id pl
    have t1 : s.heap.IsTuple _ its.toArray := ⟨o, h1, h2, n1, h3⟩
    have z1 := OpsM.rc_tuple_dict (A := A) t1 hd hu
    have z2 := OpsM.rc_dict_tuple (A := A) t1 hd hu
    have ne := OpsM.ne_tuple_dict t1 hd
    exact ⟨⟨z1, z2⟩, SeqAt.eqP_refs ne (fun E Q q => z1 _ _ E Q q), SeqAt.eqP_refs ne.symm (fun E Q q => z2 _ _ E Q q)⟩
theorem fv_eqP {x y : V} {u v : Value} {d e : PyData} (I : Inv X pins σ H s) (rx : RelV x u) (ry : RelV y v) (hx : Fv X.K H x d) (hy : Fv X.K H y e) (hu : A.units + 16 < cLine) : SeqAt.EqP X.prog X.w A s u v (eqX d e) := by
  have hu0 : A.units < cLine := by omega
  cases hx with
  | of hx ox =>
    cases hy with
    | of hy oy => rw [eqX_of hx]; exact (dp_eqP I rx ry hx hy ox oy hu).eqP
    | dct hy _ _ =>
      cases ry
      rw [eqX_of hx, eqv_no' hx]
      exact (dp_dict I rx hx (dictAt_of I hy) hu0).2.1
  | @dct a i hx _ _ =>
    cases rx
    cases hy with
    | of hy oy => rw [eqX_of' hy, eqv_no hy]; exact (dp_dict I ry hy (dictAt_of I hx) hu0).2.2
    | @dct b j hy _ _ =>
      cases ry
      show SeqAt.EqP X.prog X.w A s (.ref a) (.ref b) (i == j)
      by_cases ab : a = b
      · subst ab
        rw [hx] at hy
        cases hy
        rw [beq_self_eq_true]
        exact (SeqAt.EqAt.same _).eqP
      · exact SeqAt.eqP_refs ab (fun E Q q => dicts_eq I hx hy hu0 E Q q)
theorem fv_rc {x y : V} {u v : Value} {d e : PyData} {Q E : Value → Shared → Prop} (I : Inv X pins σ H s) (rx : RelV x u) (ry : RelV y v) (hx : Fv X.K H x d) (hy : Fv X.K H y e) (hu : A.units + 16 < cLine) (q : Q (.bool (eqX d e)) s) :
    wpAny (model X.prog X.w) A (compareOp .Eq u v) Q E s := by
  have hu0 : A.units < cLine := by omega
  cases hx with
  | of hx ox =>
    rw [eqX_of hx] at q
    cases hy with
    | of hy oy => exact dp_rc I rx ry hx hy ox oy hu q
    | dct hy _ _ =>
      cases ry
      rw [eqv_no' hx] at q
      exact (dp_dict I rx hx (dictAt_of I hy) hu0).1.1 _ _ _ _ q
  | dct hx _ _ =>
    cases rx
    cases hy with
    | of hy oy =>
      rw [eqX_of' hy, eqv_no hy] at q
      exact (dp_dict I ry hy (dictAt_of I hx) hu0).1.2 _ _ _ _ q
    | dct hy _ _ =>
      cases ry
      exact dicts_eq I hx hy hu0 E Q q
def rEqX (K : PySem.W.Frag) : R2 := fun x y H Q => ∃ d e, Fv K H x d ∧ Fv K H y e ∧ Q (.bl (eqX d e)) H
theorem op_eqX (hu : X.A.units + 64 < cLine) : OpR X (compareOp .Eq) (rEqX X.K) := by
  intro pn st σ0 H x y v u Q I rx ry h
  obtain ⟨d, e, hx, hy, q⟩ := h
  exact fv_rc I rx ry hx hy (by omega) ⟨.bl _, H, I, rfl, q⟩
/-- rows of such values -/
def Fvs (K : PySem.W.Frag) (H : Hp) (vs : List V) (ds : List PyData) : Prop := Paired (Fv K H) vs ds
theorem Fvs.get {K : PySem.W.Frag} {H : Hp} {vs : List V} {ds : List PyData} (h : Fvs K H vs ds) : ∀ {i : Nat} {v : V}, vs[i]? = some v → ∃ d, ds[i]? = some d ∧ Fv K H v d := by
  induction h with
  | nil => intro i v e; simp at e
  | cons r t ih =>
    intro i v e
    cases i with
    | zero => simp at e; subst e; exact ⟨_, rfl, r⟩
    | succ i => exact ih (by simpa using e)
def atD (ds : List PyData) (i : Nat) : PyData := (ds[i]?).getD .none
def eqXs (n : Nat) (ds es : List PyData) : Bool := (List.range n).all fun i => eqX (atD ds i) (atD es i)
/-- a list of such values == another one of the same length -/
def rEqXs (K : PySem.W.Frag) : R2 := fun x y H Q => ∃ a b vs ds us es, x = .ref a ∧ y = .ref b ∧ SqL K H a vs ∧ SqL K H b us ∧ Fvs K H vs ds ∧ Fvs K H us es ∧ vs.length = us.length ∧ Q (.bl (eqXs vs.length ds es)) H
theorem op_eqXs (hu : X.A.units + 64 < cLine) : OpR X (compareOp .Eq) (rEqXs X.K) := by
  intro pn st σ0 H x y v u Q I rx ry h
  obtain ⟨a, b, vs, ds, us, es, rfl, rfl, ha, hb, hx, hy, hl, q⟩ := h
  cases rx
  cases ry
  obtain ⟨its, r, pl, _⟩ := I.list ha
  obtain ⟨its2, r2, pl2, _⟩ := I.list hb
  have l1 := r.length
  have l2 := r2.length
  show wpAny (model X.prog X.w) X.A (richCompare .Eq (.ref a) (.ref b)) (EP X pn σ0 Q) X.xe st
  have e1 : vs.length = its.toArray.size := by rw [List.size_toArray]; exact l1
  rw [e1] at q
  refine SeqAt.rcP_lists (e := fun i => eqX (atD ds i) (atD es i)) pl.isList pl2.isList (by rw [List.size_toArray, List.size_toArray]; omega) (by omega) (fun j h1 h2 => ?_) _ _ ⟨.bl _, H, I, rfl, q⟩
  have k1 : j < vs.length := by rw [e1]; exact h1
  have k2 : j < us.length := by omega
  obtain ⟨w1, ew1, rw1⟩ := r.get (List.getElem?_eq_getElem k1)
  obtain ⟨w2, ew2, rw2⟩ := r2.get (List.getElem?_eq_getElem k2)
  have i1 : its.toArray[j] = w1 := by
    rw [List.getElem?_eq_getElem (by omega)] at ew1
    simpa using ew1
  have i2 : its2.toArray[j] = w2 := by
    rw [List.getElem?_eq_getElem (by omega)] at ew2
    simpa using ew2
  obtain ⟨d, ed, fd⟩ := hx.get (List.getElem?_eq_getElem k1)
  obtain ⟨e, ee, fe⟩ := hy.get (List.getElem?_eq_getElem k2)
  rw [i1, i2, show atD ds j = d by unfold atD; rw [ed]; rfl, show atD es j = e by unfold atD; rw [ee]; rfl]
  exact fv_eqP I rw1 rw2 fd fe (by show X.A.units + 1 + 16 < cLine; omega)
/-! ### such a list shown -/
theorem dct_ok {i : Int} (h0 : 0 ≤ i) (h1 : i ≤ 9) : (PyData.dict [(.str "a", .int i)]).showable = true ∧ (PyData.dict [(.str "a", .int i)]).shown.length ≤ 1000 ∧ (PyData.dict [(.str "a", .int i)]).depth ≤ 8 := by
  obtain rfl | rfl | rfl | rfl | rfl | rfl | rfl | rfl | rfl | rfl : i = 0 ∨ i = 1 ∨ i = 2 ∨ i = 3 ∨ i = 4 ∨ i = 5 ∨ i = 6 ∨ i = 7 ∨ i = 8 ∨ i = 9 := by omega
  all_goals exact ⟨by decide +kernel, by decide +kernel, by decide +kernel⟩
theorem Fv.ok {K : PySem.W.Frag} {H : Hp} {v : V} {d : PyData} (h : Fv K H v d) : d.showable = true ∧ d.shown.length ≤ 1000 ∧ d.depth ≤ 8 := by
  cases h with
  | of _ o => exact ⟨o.show_, o.len, o.deep⟩
  | dct _ h0 h1 => exact dct_ok h0 h1
theorem Fv.reads {v : V} {u : Value} {d : PyData} (I : Inv X pins σ H s) (r : RelV v u) (h : Fv X.K H v d) : ∃ as, Reads s.heap u d as ∧ (d.hasDict = true → sysModules ∉ as) := by
  cases h with
  | of h o =>
    obtain ⟨as, rd⟩ := Dp.reads I _ _ _ h r
    exact ⟨as, rd, PyData.noDict_hsm (noDict _ _ h)⟩
  | dct h _ _ =>
    cases r
    obtain ⟨_, hsy, vs, rkv, o, es, ep, e1, e2, e3, _, e5, _⟩ := I.hok _ _ h
    obtain ⟨r1, r2⟩ := reads_pairs (h := s.heap) (fun kv m => by rw [List.mem_singleton] at m; subst m; rfl) rkv e5
    refine ⟨_, Reads.dict e1 e2.1 e3 r1 r2, fun _ m => ?_⟩
    rcases List.mem_append.mp m with m | m
    · rcases List.mem_cons.mp m with m | m
      · rw [← m] at hsy; exact absurd hsy (by decide)
      · cases m
    · cases m
theorem Fvs.each (I : Inv X pins σ H s) {vs : List V} {ds : List PyData} (h : Fvs X.K H vs ds) : ∀ {its : List Value}, Vals vs its →
    (∃ as, ReadsAll s.heap its ds as) ∧ PyData.showableAll ds = true ∧ (((PyData.shownAll ds).map (·.length)).sum ≤ 1000 * vs.length) ∧ (PyData.shownAll ds).length = vs.length ∧ PyData.depthAll ds ≤ 8 ∧
    ∃ bs, ReadAtMost s.heap (PyData.depthAll ds) bs ∧ ReprAllK X.prog X.w bs s.heap (PyData.depthAll ds) its (PyData.shownAll ds) := by
  induction h with
  | nil =>
    intro its r
    cases r
    exact ⟨⟨_, .nil⟩, by simp only [PyData.showableAll], by simp [PyData.shownAll], by simp [PyData.shownAll], by simp [PyData.depthAll], [], (fun _ h => nomatch h), by simp only [PyData.shownAll]; exact .nil⟩
  | @cons v d vs ds f t ih =>
    intro its r
    cases r with
    | @cons _ u _ us r1 r2 =>
      obtain ⟨⟨as2, rd2⟩, s2, n2, l2, z2, b2, hb2, k2⟩ := ih r2
      obtain ⟨as1, rd1, sm⟩ := f.reads I r1
      obtain ⟨s1, n1, z1⟩ := f.ok
      have d1 : PyData.depthAll [d] = d.depth := by simp [PyData.depthAll]
      obtain ⟨b1, hb1, k1⟩ := ReprAllK.of_readsAll (prog := X.prog) (w := X.w) (ReadsAll.cons rd1 ReadsAll.nil) (by simp only [PyData.showableAll, s1, Bool.and_self]) (fun hd m => sm (by simpa [PyData.hasDictAll] using hd) (by simpa using m))
        (fun t ht => Nat.le_trans (show t.length ≤ 1000 by simp only [PyData.shownAll, List.mem_singleton] at ht; subst ht; exact n1) (by decide))
      rw [d1] at hb1 k1
      have m1 : d.depth ≤ PyData.depthAll (d :: ds) := by simp only [PyData.depthAll]; omega
      have m2 : PyData.depthAll ds ≤ PyData.depthAll (d :: ds) := by simp only [PyData.depthAll]; omega
      refine ⟨⟨_, .cons rd1 rd2⟩, by simp only [PyData.showableAll, s1, s2, Bool.and_self], ?_, by simp only [PyData.shownAll, List.length_cons, l2], by simp only [PyData.depthAll]; omega, b1 ++ b2, (hb1.mono m1).append (hb2.mono m2), ?_⟩
      · simp only [PyData.shownAll, List.map_cons, List.sum_cons, List.length_cons]
        omega
      · simp only [PyData.shownAll] at k1 ⊢
        cases k1 with
        | cons ka _ => exact .cons ((ka.more (fun b hb => List.mem_append_left _ hb)).level_le m1) (k2.more_le (fun b hb => List.mem_append_right _ hb) m2)
def rReprX (K : PySem.W.Frag) : List V → Hp → VK → Prop := fun xs H Q => ∃ a vs ds, xs = [.ref a] ∧ SqL K H a vs ∧ Fvs K H vs ds ∧ vs.length ≤ 50 ∧ vs ≠ [] ∧ Q (.str (PyData.list ds).shown) H
theorem call_reprX (hg : X.A.guards = some []) (hu : X.A.units + 64 < cLine) : CallR X (.builtin "repr") (rReprX X.K) := by
  intro pn st σ0 H xs us Q I r h
  obtain ⟨a, vs, ds, rfl, hs, hf, hl, hne, q⟩ := h
  obtain ⟨u, rfl, rv⟩ := vals1 r
  cases rv
  obtain ⟨its, ri, ⟨o, n, ho, hc, hsl, hd⟩, _⟩ := I.list hs
  obtain ⟨⟨as, rd⟩, sh, sm, ln, dp, bs, hb, hk⟩ := hf.each I ri
  have hz : (listText (PyData.shownAll ds)).length ≤ sizeLine := Nat.le_trans (listText_len_le _) (Nat.le_trans (show _ ≤ 1000 * 50 + 2 * 50 + 3 by omega) (by decide))
  have hna : a ∉ bs := not_mem_of_deeper (.list ho hc hd rd) (by simp only [PyData.depth]; omega) hb
  have iln := ri.length
  cases its with
  | nil => exact absurd (List.eq_nil_of_length_eq_zero (by rw [iln]; rfl)) hne
  | cons x l =>
    refine call_repr_slot (T := "list") (idr := "list.__repr__") (by omega) ⟨o, ho, hc⟩ F.slot_list_repr.toG ?_
    refine call_list_reprK ho hc hd hna (by simpa using hk.length_eq) (fun i y e => hk.item i y (by simpa using e)) (A := X.A.in1) hg (fun b _ => Clear.nil b) (by show X.A.units + 1 + (_ + 1) < cLine; omega) (fun _ _ e => e) (fun h' u tk k => ?_) hz
    refine ⟨_, _, rfl, .str _, H, I.kept k, ⟨_, rfl⟩, ?_⟩
    have e : (PyData.list ds).shown = listText (PyData.shownAll ds) := by simp only [PyData.shown]
    rw [← e]
    exact q
end
end Lay

end

section
namespace OwnC
open PySem L2 PySem.Spec PyProof.Rows
/-- the type of a value, dicts too -/
inductive KTy2 (K : PySem.W.Frag) (H : Hp) : V → Value → Prop
  | old {y : V} {T : Value} (h : KTy K H y T) : KTy2 K H y T
  | dk {a : Addr} {kvs : List (Key × V)} (h : H a = some (.dK kvs)) : KTy2 K H (.ref a) (.type "dict")
section
variable {X : Cx} {H : Hp} {s : Shared} {σ : L2.St} {pins : List (Addr × Obj)}
theorem looks_ty2 {y : V} {v T : Value} (I : Inv X pins σ H s) (r : RelV y v) (k : KTy2 X.K H y T) {M : Model} : PySem.W.Looks M s.heap (typeOf v) T := by
  cases k with
  | old k => exact looks_ty I r k
  | dk h =>
    cases r
    obtain ⟨_, _, vs, _, o, es, ep, e1, e2, e3, _⟩ := I.hok _ _ h
    exact e2.1 ▸ (PySem.W.Looks.ld e1).andThen .now
end
/-- x == y, x an instance with an own ==, y of no class below -/
def rEqG (X : Cx) : R2 := fun x y H Q =>
  ∃ a C dx fs T CX n sp E, x = .ref a ∧ H a = some (.ins C dx fs) ∧ KTy2 X.K H y T ∧ PySem.W.notFirst X.K C T = true ∧ OwnM X CX n C "__eq__" sp E ∧ Room n X.A ∧ sp [x, y] H Q E
theorem op_eqG2 {X : Cx} : OpR X (compareOp .Eq) (rEqG X) := by
  intro pn s st H x y v u Q I rx ry told
  obtain ⟨a, C, dx, fs, T, CX, n, sp, E, rfl, ha, k, hn, o, hr, q⟩ := told
  have ev : v = Value.ref a := rx
  subst ev
  obtain ⟨m1, J, _⟩ := ins_get I.hok ha
  obtain ⟨od, J, _⟩ := J.look
  obtain ⟨m, hF⟩ := I.fr
  obtain ⟨f, hs, hf, hcall⟩ := call_own2 o I hr I.env0 rx ry q
  show wpAny (model X.prog X.w) X.A (richCompare .Eq (.ref a) u) (EP X pn st Q) X.xe s
  refine PySem.W.cmp_K (op := .Eq) (tb := T) hr.units0 hF I.ok.mod.kin J (looks_ty2 I ry k) hn hs hf (wpAny_mono hcall (fun r s' z => ?_) fun _ _ e => e)
  obtain ⟨z2, H2, I2, rz, qz⟩ := z
  exact SlX.cmpback rz ⟨z2, H2, I2, rz, qz⟩
/-- x is True, x is False: x any value without parts, or an object -/
def isB (x : V) (b : Bool) : Bool := match x with | .bl c => decide (c = b) | _ => false
def rIsK : R2 := fun x y H Q => ∃ t b, y = .bl b ∧ Lay.Kd H x t ∧ Q (.bl (isB x b)) H
theorem op_isK {X : Cx} : OpR X (compareOp .Is) rIsK := by
  intro pins s σ H x y v u Q I rx ry h
  obtain ⟨t, b, rfl, k, q⟩ := h
  cases (show u = Value.bool b from ry)
  cases k with
  | non => cases rx; exact wpAny_is_other rfl (fun z => nomatch z) ⟨.bl false, H, I, rfl, q⟩
  | bl c =>
    cases (show v = Value.bool c from rx)
    by_cases e : c = b
    · subst e
      exact wpAny_is_self rfl ⟨.bl true, H, I, rfl, by simpa [isB] using q⟩
    · exact wpAny_is_other rfl (fun z => e (Value.bool.inj z)) ⟨.bl false, H, I, rfl, by simpa [isB, e] using q⟩
  | int i => obtain ⟨t, rfl⟩ := rx; exact wpAny_is_other rfl (fun z => nomatch z) ⟨.bl false, H, I, rfl, q⟩
  | str i => obtain ⟨t, rfl⟩ := rx; exact wpAny_is_other rfl (fun z => nomatch z) ⟨.bl false, H, I, rfl, q⟩
  | lst h => cases rx; exact wpAny_is_other rfl (fun z => nomatch z) ⟨.bl false, H, I, rfl, q⟩
  | tup h => cases rx; exact wpAny_is_other rfl (fun z => nomatch z) ⟨.bl false, H, I, rfl, q⟩
  | dK h => cases rx; exact wpAny_is_other rfl (fun z => nomatch z) ⟨.bl false, H, I, rfl, q⟩
end OwnC
namespace Lay
open PySem PySem.Spec PyProof.Rows L2 Exv Grd
/-! ### findings -/
theorem putF_nil (f : Str) (v : V) : putF f v [] = [(f, v)] := rfl
theorem putF_cons {f n : Str} {v x : V} {r : List (Str × V)} (h : ¬ n = f) : putF f v ((n, x) :: r) = (n, x) :: putF f v r := if_neg h
def fldF (w : Str) (ns : List Str) (vs : List V) : List (Str × V) := ("word", .str w) :: ns.zip vs
/-- a finding of the class C -/
def Fin (C : Addr) (w : Str) (ns : List Str) (H : Hp) (a : Addr) (vs : List V) : Prop := (∃ dx, H a = some (.ins C dx (fldF w ns vs))) ∧ vs.length = ns.length
theorem Fin.mono {C : Addr} {w : Str} {ns : List Str} {H H' : Hp} {a : Addr} {vs : List V} (s : Same H H') (h : Fin C w ns H a vs) : Fin C w ns H' a vs := ⟨⟨_, s _ _ h.1.choose_spec⟩, h.2⟩
theorem Fin.keep {C p : Addr} {w : Str} {ns : List Str} {H H' : Hp} {a : Addr} {vs : List V} {xs : List V} (hp : H p = some (.lst xs)) (s : Keep p H H') (h : Fin C w ns H a vs) : Fin C w ns H' a vs := by
  obtain ⟨⟨dx, h1⟩, h2⟩ := h
  exact ⟨⟨dx, s _ _ (fun e => by subst e; rw [hp] at h1; cases h1) h1⟩, h2⟩
def spFInit (C : Addr) (w : Str) (ns : List Str) : Sp := fun vs H Q _ => ∃ x dx us, vs = .ref x :: us ∧ us.length = ns.length ∧ H x = some (.ins C dx []) ∧ ∀ H', H' x = some (.ins C dx (fldF w ns us)) → Keep x H H' → Q .non H'
def spFEq (K : PySem.W.Frag) (C : Addr) (w : Str) (ns : List Str) : Sp := fun vs H Q _ => ∃ a y us, vs = [.ref a, y] ∧ Fin C w ns H a us ∧
  ((∃ T, TyX K H y T ∧ PySem.W.kitOne K T (.ref C) = some false ∧ Q (.bl false) H) ∨ (∃ b ws ds es, y = .ref b ∧ Fin C w ns H b ws ∧ Fvs K H us ds ∧ Fvs K H ws es ∧ Q (.bl (eqXs ns.length ds es)) H))
def spFBool (C : Addr) (w : Str) (ns : List Str) (b : Bool) : Sp := fun vs H Q _ => ∃ a us, vs = [.ref a] ∧ Fin C w ns H a us ∧ Q (.bl b) H
theorem mk_fin {C : Addr} {w : Str} {ns : List Str} {H : Hp} {us : List V} {Q : Addr → Hp → Prop} {E : XK} (hl : us.length = ns.length) (q : ∀ x H', Same H H' → Fin C w ns H' x us → Q x H') : ∀ x dx, H x = none → H dx = none → dx ≠ x →
    spFInit C w ns (V.ref x :: us) (upd (upd H dx (.own x)) x (.ins C dx [])) (fun z H2 => z = .non ∧ Q x H2) E := by
  intro x dx hx hd hne
  have s : Same H (upd (upd H dx (.own x)) x (.ins C dx [])) := fun b o e => by
    rw [upd_ne (fun z => by subst z; rw [hx] at e; cases e), upd_ne (fun z => by subst z; rw [hd] at e; cases e)]
    exact e
  refine ⟨x, dx, us, rfl, hl, upd_same, fun H' e k => ⟨rfl, q x H' (fun b o eb => ?_) ⟨⟨dx, e⟩, hl⟩⟩⟩
  exact k b o (fun z => by subst z; rw [hx] at eb; cases eb) (s b o eb)
def nsK (k : Int) : List Str := if k = 0 then ["ring"] else if k = 1 then ["one", "other", "run"] else if k = 2 then ["rows", "eager", "whole"] else ["steps", "ways", "eager", "whole"]
def wdK (k : Int) : Str := if k = 0 then "still" else if k = 1 then "clash" else if k = 2 then "wrong" else "right"
def c4 (a b c d : Addr) (k : Int) : Addr := if k = 0 then a else if k = 1 then b else if k = 2 then c else d
def manyK (k : Int) : Nat := if k = 0 then 1 else if k = 1 then 3 else if k = 2 then 3 else 4
theorem k4 {k : Int} (h0 : 0 ≤ k) (h1 : k ≤ 3) : k = 0 ∨ k = 1 ∨ k = 2 ∨ k = 3 := by omega
theorem nsK_len {k : Int} (h0 : 0 ≤ k) (h1 : k ≤ 3) : (nsK k).length = manyK k := by
  rcases k4 h0 h1 with rfl | rfl | rfl | rfl <;> rfl
theorem many_le {k : Int} (h0 : 0 ≤ k) (h1 : k ≤ 3) : 1 ≤ manyK k ∧ manyK k ≤ 4 := by
  rcases k4 h0 h1 with rfl | rfl | rfl | rfl <;> decide
/-- a finding of the class with the number k -/
def FinK (C : Int → Addr) (H : Hp) (k : Int) (a : Addr) (vs : List V) : Prop := Fin (C k) (wdK k) (nsK k) H a vs
def spFMade (C : Int → Addr) : Sp := fun vs H Q _ => ∃ k a us, vs = [.int k, .ref a] ∧ 0 ≤ k ∧ k ≤ 3 ∧ H a = some (.lst us) ∧ us.length = 4 ∧ ∀ x H', Same H H' → FinK C H' k x (us.take (manyK k)) → Q (.ref x) H'
def spFKept (C : Int → Addr) : Sp := fun vs H Q _ => ∃ k a us, vs = [.int k, .ref a] ∧ 0 ≤ k ∧ k ≤ 3 ∧ FinK C H k a us ∧ ∀ x H', Same H H' → H' x = some (.lst us) → Q (.ref x) H'
def sortsK (k : Int) : List V := [.bl (decide (k = 0)), .bl (decide (k = 1)), .bl (decide (k = 2)), .bl (decide (k = 3)), .bl true]
def spFSorts (C : Int → Addr) : Sp := fun vs H Q _ => ∃ k a us, vs = [.ref a] ∧ 0 ≤ k ∧ k ≤ 3 ∧ FinK C H k a us ∧ ∀ x H', Same H H' → H' x = some (.lst (sortsK k)) → Q (.ref x) H'
/-- a value drawn, with nothing at p -/
def FX (K : PySem.W.Frag) (p : Addr) (H : Hp) (v : V) (d : PyData) : Prop := ∀ H', Keep p H H' → Fv K H' v d
theorem FX.keep {K : PySem.W.Frag} {p : Addr} {H H' : Hp} {v : V} {d : PyData} (s : Keep p H H') (h : FX K p H v d) : FX K p H' v d := fun H2 s2 => h H2 (s.trans s2)
theorem FX.mono {K : PySem.W.Frag} {p : Addr} {H H' : Hp} {v : V} {d : PyData} (s : Same H H') (h : FX K p H v d) : FX K p H' v d := h.keep (Keep.of s)
theorem FX.now {K : PySem.W.Frag} {p : Addr} {H : Hp} {v : V} {d : PyData} (h : FX K p H v d) : Fv K H v d := h H Keep.refl
def FXs (K : PySem.W.Frag) (p : Addr) (H : Hp) (vs : List V) (ds : List PyData) : Prop := Paired (FX K p H) vs ds
theorem FXs.keep {K : PySem.W.Frag} {p : Addr} {H H' : Hp} {vs : List V} {ds : List PyData} (s : Keep p H H') (h : FXs K p H vs ds) : FXs K p H' vs ds := L2.Paired.mapP h fun _ _ x => x.keep s
theorem FXs.mono {K : PySem.W.Frag} {p : Addr} {H H' : Hp} {vs : List V} {ds : List PyData} (s : Same H H') (h : FXs K p H vs ds) : FXs K p H' vs ds := h.keep (Keep.of s)
theorem FXs.now {K : PySem.W.Frag} {p : Addr} {H : Hp} {vs : List V} {ds : List PyData} (h : FXs K p H vs ds) : Fvs K H vs ds := L2.Paired.mapP h fun _ _ x => x.now
/-- a value drawn on the way from H to H', of new objects alone -/
def FN (K : PySem.W.Frag) (H H' : Hp) (v : V) (d : PyData) : Prop := ∀ H'' : Hp, (∀ b o, H b = none → H' b = some o → H'' b = some o) → Fv K H'' v d
theorem FN.fx {K : PySem.W.Frag} {p : Addr} {H H' : Hp} {v : V} {d : PyData} {u : HO} (h : FN K H H' v d) (hp : H p = some u) : FX K p H' v d := fun H'' s => h H'' fun b o n e => s b o (fun z => by subst z; rw [hp] at n; cases n) e
/-- the same with nothing at p and at D -/
def FY (K : PySem.W.Frag) (p D : Addr) (H : Hp) (v : V) (d : PyData) : Prop := ∀ H'' : Hp, (∀ b o, b ≠ p → b ≠ D → H b = some o → H'' b = some o) → Fv K H'' v d
theorem FN.fy {K : PySem.W.Frag} {p D : Addr} {H H' : Hp} {v : V} {d : PyData} {u u' : HO} (h : FN K H H' v d) (hp : H p = some u) (hD : H D = some u') : FY K p D H' v d := fun H'' s => h H'' fun b o n e =>
  s b o (fun z => by subst z; rw [hp] at n; cases n) (fun z => by subst z; rw [hD] at n; cases n) e
theorem FY.go {K : PySem.W.Frag} {p D : Addr} {H H' : Hp} {v : V} {d : PyData} (h : FY K p D H v d) (s : ∀ b o, b ≠ p → b ≠ D → H b = some o → H' b = some o) : FY K p D H' v d := fun H2 s2 => h H2 fun b o n1 n2 e => s2 b o n1 n2 (s b o n1 n2 e)
theorem FY.fx {K : PySem.W.Frag} {p D : Addr} {H : Hp} {v : V} {d : PyData} (h : FY K p D H v d) : FX K p H v d := fun H2 s => h H2 fun b o n1 _ e => s b o n1 e
def spFField (K : PySem.W.Frag) : Sp := fun vs H Q _ => ∃ (p : Addr) (n : Nat) (c : Addr), vs = [.ref p] ∧ PenAt c H p n ∧ n + 3 < 100000 ∧ ∀ v d H', FN K H H' v d → PenAt c H' p (n + 3) → Keep p H H' → Q v H'
def spFTold (K : PySem.W.Frag) : Sp := fun vs H Q _ => ∃ k a us ds, vs = [.int k, .ref a] ∧ 0 ≤ k ∧ k ≤ 3 ∧ H a = some (.lst us) ∧ us.length = 4 ∧ (∀ H', Same H H' → Fvs K H' us ds) ∧ ∀ H', Same H H' → Q (.bl true) H'
def spFComp (K : PySem.W.Frag) : Sp := fun vs H Q _ => ∃ (p : Addr) (n : Nat) (c : Addr) (k : Int) (a : Addr) (us : List V) (ds : List PyData), vs = [.ref p, .int k, .ref a] ∧ PenAt c H p n ∧ n + 4 < 100000 ∧ 0 ≤ k ∧ k ≤ 3 ∧ H a = some (.lst us) ∧ us.length = 4 ∧ FXs K p H us ds ∧ ∀ H', PenAt c H' p (n + 4) → Keep p H H' → Q (.bl true) H'
end Lay

end

section
namespace OwnC
open PySem L2 PySem.Spec PyProof.Rows
/-- x is True, x is False, whatever x is -/
def rIsV : R2 := fun x y H Q => ∃ b, y = .bl b ∧ Q (.bl (isB x b)) H
theorem op_isV {X : Cx} : OpR X (compareOp .Is) rIsV := by
  intro pins s σ H x y v u Q I rx ry h
  obtain ⟨b, rfl, q⟩ := h
  cases (show u = Value.bool b from ry)
  cases x with
  | bl c =>
    cases (show v = Value.bool c from rx)
    by_cases e : c = b
    · subst e
      exact wpAny_is_self rfl ⟨.bl true, H, I, rfl, by simpa [isB] using q⟩
    · exact wpAny_is_other rfl (fun z => e (Value.bool.inj z)) ⟨.bl false, H, I, rfl, by simpa [isB, e] using q⟩
  | _ =>
    first
      | (cases rx; exact wpAny_is_other rfl (fun z => nomatch z) ⟨.bl false, H, I, rfl, q⟩)
      | (obtain ⟨t, rfl⟩ := rx; exact wpAny_is_other rfl (fun z => nomatch z) ⟨.bl false, H, I, rfl, q⟩)
/-- x == y, x an instance with an own == that raises nothing, y of no class below; it speaks of no context -/
def rEqH (P : Program) (w : World) (K : PySem.W.Frag) (mg : Str → Option Value) (base : Heap) (n : Nat) : R2 := fun x y H Q =>
  ∃ a C dx fs T f fd ps sp, x = .ref a ∧ H a = some (.ins C dx fs) ∧ KTy2 K H y T ∧ PySem.W.notFirst K C T = true ∧ FnOk P w K mg base CX0 n f fd ps sp ∧ Binds K fd ps [] ∧
    PySem.W.findIn K (.ref C) "__eq__" = some (some (.ref f)) ∧ PySem.W.isFn K (.ref f) = true ∧ sp [x, y] H Q E0
theorem op_eqH {X : Cx} (P : Program) (w : World) (K : PySem.W.Frag) (mg : Str → Option Value) (base : Heap) {n : Nat} (hr : Room n X.A) (e1 : X.prog = P := by rfl) (e2 : X.w = w := by rfl) (e3 : X.K = K := by rfl) (e4 : X.mg = mg := by rfl) (e5 : X.base = base := by rfl) :
    OpR X (compareOp .Eq) (rEqH P w K mg base n) := by
  subst e1 e2 e3 e4 e5
  intro pn s st H x y v u Q I rx ry told
  obtain ⟨a, C, dx, fs, T, f, fd, ps, sp, rfl, ha, k, hn, F, hb, hs, hf, q⟩ := told
  exact op_eqG2 pn s st H _ y v u Q I rx ry ⟨a, C, dx, fs, T, CX0, n, sp, E0, rfl, ha, k, hn, ⟨⟨f, fd, ps, F, hb, hs, hf⟩, pass0⟩, hr, q⟩
end OwnC
namespace Lay
open PySem PySem.Spec PyProof.Rows L2 Exv Grd
def prims : List String := ["NoneType", "bool", "int", "str", "list", "tuple", "dict"]
theorem sqL_ty {K : PySem.W.Frag} {H : Hp} {a : Addr} {xs : List V} (h : SqL K H a xs) : TyX K H (.ref a) (.type "list") := by
  rcases h with (h | ⟨o, h⟩) | ⟨o, its, n, hk, hc, _⟩
  · exact .base (.lst h)
  · exact .base (.frz h)
  · exact .kList hk hc
theorem sqT_ty {K : PySem.W.Frag} {H : Hp} {a : Addr} {xs : List V} (h : SqT K H a xs) : TyX K H (.ref a) (.type "tuple") := by
  rcases h with (h | ⟨o, h⟩) | ⟨o, its, n, hk, hc, _⟩
  · exact .base (.tup h)
  · exact .fTuple h
  · exact .kTuple hk hc
/-- of which type a value is, as isinstance and as == ask -/
def TyP (K : PySem.W.Frag) (H : Hp) (v : V) : Prop := ∃ p, p ∈ prims ∧ OwnC.KTy2 K H v (.type p) ∧ TyX K H v (.type p)
theorem Fv.ty {K : PySem.W.Frag} {H : Hp} {v : V} {d : PyData} (h : Fv K H v d) : TyP K H v := by
  cases h with
  | of h _ =>
    cases h with
    | non => exact ⟨"NoneType", by decide, .old .non, .base .non⟩
    | bl b => exact ⟨"bool", by decide, .old (.bl b), .base (.bl b)⟩
    | int i => exact ⟨"int", by decide, .old (.int i), .base (.int i)⟩
    | str z => exact ⟨"str", by decide, .old (.str z), .base (.str z)⟩
    | lst hs _ => exact ⟨"list", by decide, .old (.lst hs), sqL_ty hs⟩
    | tup hs _ => exact ⟨"tuple", by decide, .old (.tup hs), sqT_ty hs⟩
  | dct h _ _ => exact ⟨"dict", by decide, .dk h, .base (.dK h)⟩
def normV (v : V) : V := match v with | .bl b => .int (if b then 1 else 0) | v => v
def normD (d : PyData) : PyData := match d with | .bool b => .int (if b then 1 else 0) | d => d
theorem Fv.norm {K : PySem.W.Frag} {H : Hp} {v : V} {d : PyData} (h : Fv K H v d) : Fv K H (normV v) (normD d) := by
  cases h with
  | of h o =>
    cases h with
    | bl b => cases b <;> exact .of (.int _) (okD_of (by decide +kernel))
    | non => exact .of .non o
    | int i => exact .of (.int i) o
    | str z => exact .of (.str z) o
    | lst hs a => exact .of (.lst hs a) o
    | tup hs a => exact .of (.tup hs a) o
  | dct h h0 h1 => exact .dct h h0 h1
theorem Fv.same {K : PySem.W.Frag} {H : Hp} {v : V} {d : PyData} (h : Fv K H v d) : eqX d (normD d) = true := by
  have z := h.self
  cases h with
  | of h o =>
    cases h with
    | bl b => cases b <;> (show PyData.eqv _ _ = true; simp [PyData.eqv, normD])
    | _ => exact z
  | dct h h0 h1 => exact z
theorem Fvs.norm {K : PySem.W.Frag} {H : Hp} {vs : List V} {ds : List PyData} (h : Fvs K H vs ds) : Fvs K H (vs.map normV) (ds.map normD) := by
  induction h with
  | nil => exact .nil
  | cons r t ih => exact .cons r.norm ih
theorem Fvs.four {K : PySem.W.Frag} {H : Hp} {us : List V} {ds : List PyData} (h : Fvs K H us ds) (hl : us.length = 4) : ∃ d0 d1 d2 d3, ds = [d0, d1, d2, d3] ∧ (eqX d0 d0 = true ∧ eqX d1 d1 = true ∧ eqX d2 d2 = true ∧ eqX d3 d3 = true) ∧
    (eqX d0 (normD d0) = true ∧ eqX d1 (normD d1) = true ∧ eqX d2 (normD d2) = true ∧ eqX d3 (normD d3) = true) := by
  cases h with
  | nil => cases hl
  | cons r0 h =>
    cases h with
    | nil => cases hl
    | cons r1 h =>
      cases h with
      | nil => cases hl
      | cons r2 h =>
        cases h with
        | nil => cases hl
        | cons r3 h =>
          cases h with
          | cons r t => simp at hl
          | nil => exact ⟨_, _, _, _, rfl, ⟨r0.self, r1.self, r2.self, r3.self⟩, r0.same, r1.same, r2.same, r3.same⟩
theorem eqXs_self {ds : List PyData} {n : Nat} (h : ∃ d0 d1 d2 d3, ds = [d0, d1, d2, d3] ∧ (eqX d0 d0 = true ∧ eqX d1 d1 = true ∧ eqX d2 d2 = true ∧ eqX d3 d3 = true) ∧ (eqX d0 (normD d0) = true ∧ eqX d1 (normD d1) = true ∧ eqX d2 (normD d2) = true ∧ eqX d3 (normD d3) = true)) (h1 : 1 ≤ n) (hn : n ≤ 4) :
    eqXs n (ds.take n) (ds.take n) = true ∧ eqXs n (ds.take n) ((ds.map normD).take n) = true := by
  obtain ⟨d0, d1, d2, d3, rfl, ⟨a0, a1, a2, a3⟩, b0, b1, b2, b3⟩ := h
  obtain rfl | rfl | rfl | rfl : n = 1 ∨ n = 2 ∨ n = 3 ∨ n = 4 := by omega
  all_goals (constructor <;> simp [eqXs, atD, List.range, List.range.loop, a0, a1, a2, a3, b0, b1, b2, b3])
/-- one field otherwise -/
def bentD (ds : List PyData) (e : PyData) (k : Nat) : List PyData := ds.take k ++ [e] ++ ds.drop (k + 1)
def bentV (us : List V) (v : V) (k : Nat) : List V := us.take k ++ [v] ++ us.drop (k + 1)
theorem Fvs.bent {K : PySem.W.Frag} {H : Hp} {us : List V} {ds : List PyData} {v : V} {e : PyData} (h : Fvs K H us ds) (g : Fv K H v e) (k : Nat) : Fvs K H (bentV us v k) (bentD ds e k) :=
  NetG.pappend (NetG.pappend (NetG.ptake k h) (.cons g .nil)) (NetG.pdrop (k + 1) h)
theorem bentV_len {us : List V} {v : V} {k : Nat} (hl : us.length = 4) (hk : k < 4) : (bentV us v k).length = 4 := by
  unfold bentV
  simp only [List.length_append, List.length_take, List.length_drop, List.length_cons, List.length_nil]
  omega
theorem bent_eq {K : PySem.W.Frag} {H : Hp} {us : List V} {ds : List PyData} {v : V} {e : PyData} (h : Fvs K H us ds) (hl : us.length = 4) (g : Fv K H v e) {n k : Nat} (hk : k < n) (hn : n ≤ 4) :
    eqXs n (ds.take n) ((bentD ds e k).take n) = eqXs 4 (bentD ds e k) ds := by
  have cm : ∀ i d, ds[i]? = some d → eqX d e = eqX e d := fun i d ed => by
    have lt : i < us.length := by
      have := h.length
      have hi : i < ds.length := by
        rcases Nat.lt_or_ge i ds.length with z | z
        · exact z
        · rw [List.getElem?_eq_none z] at ed; cases ed
      omega
    obtain ⟨d', e', f⟩ := h.get (List.getElem?_eq_getElem lt)
    rw [ed] at e'
    cases e'
    exact f.comm g
  obtain ⟨d0, d1, d2, d3, rfl, ⟨a0, a1, a2, a3⟩, _⟩ := h.four hl
  have c0 := cm 0 d0 rfl
  have c1 := cm 1 d1 rfl
  have c2 := cm 2 d2 rfl
  have c3 := cm 3 d3 rfl
  obtain rfl | rfl | rfl | rfl : n = 1 ∨ n = 2 ∨ n = 3 ∨ n = 4 := by omega
  all_goals obtain rfl | rfl | rfl | rfl : k = 0 ∨ k = 1 ∨ k = 2 ∨ k = 3 := by omega
  all_goals first
    | omega
    | simp [eqXs, atD, bentD, List.range, List.range.loop, a0, a1, a2, a3, c0, c1, c2, c3]
end Lay

end
local macro_rules | `(tactic| walk_at "kd") => `(tactic| repeat first
  | exact Lay.Kds.nil
  | refine Lay.Kds.cons (.int _) ?_
  | refine Lay.Kds.cons (.str _) ?_
  | refine Lay.Kds.cons .non ?_
  | refine Lay.Kds.cons (.bl _) ?_
  | refine Lay.Kds.cons (.lst (by assumption)) ?_
  | refine Lay.Kds.cons (.tup (by assumption)) ?_
  | refine Lay.Kds.cons (.dK (by assumption)) ?_)
local macro_rules | `(tactic| walk_at "sm") => `(tactic| first
  | exact L2.Same.refl _
  | assumption
  | ((with_reducible refine' Lay.Same.upd' ?_ ?_); (focus walk_at "sm"); (focus assumption)))
local macro_rules | `(tactic| walk_at "hp") => `(tactic| first
  | assumption
  | with_reducible exact L2.upd_same
  | ((with_reducible apply Lay.upd_old); (focus assumption); walk_at "hp")
  | ((with_reducible apply Lay.sqL_of); walk_at "hp")
  | ((with_reducible apply Lay.sqT_of); walk_at "hp")
  | ((with_reducible apply Lay.sqL_upd); (focus assumption); walk_at "hp")
  | ((with_reducible apply Lay.sqT_upd); (focus assumption); walk_at "hp"))
local macro_rules | `(tactic| walk_at "ar") => `(tactic| first
  | (show _ ≠ _; omega)
  | (show L2.CDivN _ _; exact ⟨by omega, by omega⟩)
  | (show L2.CMul _ _; exact .inl ⟨by omega, by omega⟩)
  | (show L2.CMul _ _; exact .inr ⟨by omega, by omega⟩)
  | (show L2.CPow _ _; exact ⟨by omega, by omega, by omega⟩))
local macro_rules | `(tactic| walk_at "r1") => `(tactic| first
  | with_reducible refine Lay.rd_seq ?_
  | with_reducible refine Lay.rd_asg ?_
  | with_reducible refine Lay.rd_ifS ?_
  | with_reducible refine Lay.rd_ret ?_
  | with_reducible refine Lay.rd_retN ?_
  | with_reducible refine Lay.rd_next ?_
  | with_reducible refine Lay.rd_drop ?_
  | with_reducible refine Lay.rd_name ?_
  | with_reducible refine Lay.rd_sub ?_
  | ((with_reducible refine' Lay.rd_var ?k1 ?_); (case k1 => rfl))
  | with_reducible refine Lay.rd_c ?_
  | with_reducible refine Lay.rd_op ?_
  | with_reducible refine Lay.rd_un ?_
  | with_reducible refine Lay.rd_I0 ?_
  | with_reducible refine Lay.rd_U ?_
  | with_reducible refine Lay.rd_tup ?_
  | with_reducible refine Lay.rd_lst ?_
  | with_reducible refine Lay.rd_cons ?_
  | with_reducible refine Lay.rd_nil ?_
  | with_reducible refine Lay.rd_star ?_
  | with_reducible refine Lay.rd_call ?_
  | with_reducible refine Lay.rd_CB ?_
  | with_reducible refine Lay.rd_test ?_
  | with_reducible refine Lay.rd_tB ?_
  | with_reducible refine Lay.rd_and ?_
  | with_reducible refine Lay.rd_or ?_
  | with_reducible refine Lay.rd_not ?_
  | with_reducible refine Lay.rd_andV ?_
  | with_reducible refine Lay.rd_orV ?_
  | with_reducible refine Lay.rd_notV ?_
  | with_reducible refine Lay.rd_tIf ?_
  | with_reducible refine Lay.rd_sl ?_
  | with_reducible refine Lay.rd_noP ?_
  | with_reducible refine Lay.rd_part ?_
  | with_reducible refine Lay.rd_int ?_
  | with_reducible refine Lay.rd_intB ?_
  | with_reducible refine Lay.rd_abs ?_
  | ((with_reducible refine' Lay.rd_ixL ?k1 ?k2 ?_); (case k1 => walk_at "hp"); (case k2 => rfl))
  | ((with_reducible refine' Lay.rd_ixT ?k1 ?k2 ?_); (case k1 => walk_at "hp"); (case k2 => rfl))
  | ((with_reducible refine' Lay.rd_setL ?k1 ?k2 ?_); (case k1 => walk_at "hp"); (case k2 => rfl))
  | ((with_reducible refine' Lay.rd_lenL ?k1 ?_); (case k1 => walk_at "hp"))
  | ((with_reducible refine' Lay.rd_lenT ?k1 ?_); (case k1 => walk_at "hp"))
  | ((with_reducible refine' Lay.rd_I ?k1 ?_); (case k1 => walk_at "ar"))
  | with_reducible refine Lay.rd_lc ?_
  | with_reducible refine Lay.rd_iStr ?_
  | with_reducible refine Lay.rd_iList ?_
  | with_reducible refine Lay.rd_iTup ?_
  | with_reducible refine Lay.rd_iRng1 ?_
  | with_reducible refine Lay.rd_iEnumT ?_
  | with_reducible refine Lay.rd_yes ?_
  | with_reducible refine Lay.rd_sign ?_
  | with_reducible refine Lay.rd_chain ?_
  | with_reducible refine Lay.rd_gcons ?_
  | with_reducible refine Lay.rd_gnil ?_
  | ((with_reducible refine' Lay.rd_gtup ?k1 ?k2 ?_); (case k1 => walk_at "hp"); (case k2 => rfl))
  | with_reducible refine Lay.rd_eqI ?_
  | with_reducible refine Lay.rd_neI ?_
  | with_reducible refine Lay.rd_eqS ?_
  | with_reducible refine Lay.rd_neS ?_
  | with_reducible refine Lay.rd_eqB ?_
  | with_reducible refine Lay.rd_neB ?_
  | with_reducible refine Lay.rd_exb ?_
  | with_reducible refine Lay.rd_exi ?_
  | with_reducible refine Lay.rd_exs ?_
  | with_reducible refine Lay.rd_exr ?_)
local macro_rules | `(tactic| walk_at "rd") => `(tactic| ((repeat walk_at "r1"); (try dsimp only [List.set, Int.reduceToNat, List.length_cons, List.length_nil, List.nil_append, List.cons_append, List.append_nil])))
local macro_rules | `(tactic| walk_at "in") => `(tactic| (dsimp only [L2.cxOf, L2.start, List.map, List.length_cons, List.length_nil, Nat.reduceAdd, Nat.reduceSub, List.replicate_succ, List.replicate_zero, List.cons_append, List.nil_append]))
local macro_rules | `(tactic| walk_at "it") => `(tactic| ((repeat first | walk_at "r1" | with_reducible refine L2.iteT ?_ | with_reducible refine L2.iteF ?_ | with_reducible refine Lay.iteNT ?_ | with_reducible refine Lay.iteNF ?_); (try dsimp only [List.set, Int.reduceToNat, List.length_cons, List.length_nil, List.nil_append, List.cons_append, List.append_nil])))
local macro_rules | `(tactic| walk_at "dc") => `(tactic| first
  | refine Lay.ite_d (fun _ => ?_) (fun c => absurd rfl c)
  | refine Lay.ite_d (fun c => absurd c (fun z => by cases z)) (fun _ => ?_))
local macro_rules | `(tactic| walk_at "itd") => `(tactic| ((try walk_at "it"); (repeat (walk_at "dc"; (try walk_at "it")))))
local macro_rules | `(tactic| walk_at "dk") => `(tactic| first
  | refine Lay.ite_d (fun _ => ?_) (fun c => absurd rfl c)
  | refine Lay.ite_d (fun c => absurd c (by decide)) (fun _ => ?_))
local macro_rules | `(tactic| walk_at "itk") => `(tactic| ((try walk_at "it"); (repeat (walk_at "dk"; (try walk_at "it")))))
namespace My
open PySem L2
def top (i : Nat) : Stmt := PySem.Challenge.pw_unkeptlines_k65_findings_as_values.main.body.getD i (.Pass ⟨0, 0, 0, 0⟩)
abbrev s_Still_init : Stmt := inClass (top 2) 0
abbrev s_Still_eq : Stmt := inClass (top 2) 1
abbrev s_Still_bool : Stmt := inClass (top 2) 2
abbrev s_Clash_init : Stmt := inClass (top 3) 0
abbrev s_Clash_eq : Stmt := inClass (top 3) 1
abbrev s_Clash_bool : Stmt := inClass (top 3) 2
abbrev s_Wrong_init : Stmt := inClass (top 4) 0
abbrev s_Wrong_eq : Stmt := inClass (top 4) 1
abbrev s_Wrong_bool : Stmt := inClass (top 4) 2
abbrev s_Right_init : Stmt := inClass (top 5) 0
abbrev s_Right_eq : Stmt := inClass (top 5) 1
abbrev s_Right_bool : Stmt := inClass (top 5) 2
abbrev s_pen : Stmt := top 7
abbrev s_draw : Stmt := top 8
abbrev s_field : Stmt := top 9
abbrev s_made : Stmt := top 10
abbrev s_kept : Stmt := top 11
abbrev s_sorts : Stmt := top 12
abbrev s_told : Stmt := top 13
abbrev s_compared : Stmt := top 14
abbrev s_law : Stmt := top 15
theorem sc_Still_init : FnScope ["self", "ring"] ["self", "ring"] (defScope s_Still_init) := ⟨rfl, rfl, rfl, by decide +kernel, rfl, by decide +kernel, by decide +kernel⟩
theorem sc_Still_eq : FnScope ["self", "other"] ["self", "other"] (defScope s_Still_eq) := ⟨rfl, rfl, rfl, by decide +kernel, rfl, by decide +kernel, by decide +kernel⟩
theorem sc_Still_bool : FnScope ["self"] ["self"] (defScope s_Still_bool) := ⟨rfl, rfl, rfl, by decide +kernel, rfl, by decide +kernel, by decide +kernel⟩
theorem sc_Clash_init : FnScope ["self", "one", "other", "run"] ["self", "one", "other", "run"] (defScope s_Clash_init) := ⟨rfl, rfl, rfl, by decide +kernel, rfl, by decide +kernel, by decide +kernel⟩
theorem sc_Clash_eq : FnScope ["self", "other"] ["self", "other"] (defScope s_Clash_eq) := ⟨rfl, rfl, rfl, by decide +kernel, rfl, by decide +kernel, by decide +kernel⟩
theorem sc_Clash_bool : FnScope ["self"] ["self"] (defScope s_Clash_bool) := ⟨rfl, rfl, rfl, by decide +kernel, rfl, by decide +kernel, by decide +kernel⟩
theorem sc_Wrong_init : FnScope ["self", "rows", "eager", "whole"] ["self", "rows", "eager", "whole"] (defScope s_Wrong_init) := ⟨rfl, rfl, rfl, by decide +kernel, rfl, by decide +kernel, by decide +kernel⟩
theorem sc_Wrong_eq : FnScope ["self", "other"] ["self", "other"] (defScope s_Wrong_eq) := ⟨rfl, rfl, rfl, by decide +kernel, rfl, by decide +kernel, by decide +kernel⟩
theorem sc_Wrong_bool : FnScope ["self"] ["self"] (defScope s_Wrong_bool) := ⟨rfl, rfl, rfl, by decide +kernel, rfl, by decide +kernel, by decide +kernel⟩
theorem sc_Right_init : FnScope ["self", "steps", "ways", "eager", "whole"] ["self", "steps", "ways", "eager", "whole"] (defScope s_Right_init) := ⟨rfl, rfl, rfl, by decide +kernel, rfl, by decide +kernel, by decide +kernel⟩
theorem sc_Right_eq : FnScope ["self", "other"] ["self", "other"] (defScope s_Right_eq) := ⟨rfl, rfl, rfl, by decide +kernel, rfl, by decide +kernel, by decide +kernel⟩
theorem sc_Right_bool : FnScope ["self"] ["self"] (defScope s_Right_bool) := ⟨rfl, rfl, rfl, by decide +kernel, rfl, by decide +kernel, by decide +kernel⟩
theorem sc_pen : FnScope ["_law_script"] ["_law_script"] (defScope s_pen) := ⟨rfl, rfl, rfl, by decide +kernel, rfl, by decide +kernel, by decide +kernel⟩
theorem sc_draw : FnScope ["_law_pen_here", "_law_many", "_law_digit", "_law_at", "_law_cell", "_law_large", "_law_mixed"] ["_law_pen_here", "_law_many"] (defScope s_draw) := ⟨rfl, rfl, rfl, by decide +kernel, rfl, by decide +kernel, by decide +kernel⟩
theorem sc_field : FnScope ["_law_pen_here", "_law_at", "_law_moment", "_law_some"] ["_law_pen_here"] (defScope s_field) := ⟨rfl, rfl, rfl, by decide +kernel, rfl, by decide +kernel, by decide +kernel⟩
theorem sc_made : FnScope ["_law_at", "_law_fields"] ["_law_at", "_law_fields"] (defScope s_made) := ⟨rfl, rfl, rfl, by decide +kernel, rfl, by decide +kernel, by decide +kernel⟩
theorem sc_kept : FnScope ["_law_at", "_law_finding"] ["_law_at", "_law_finding"] (defScope s_kept) := ⟨rfl, rfl, rfl, by decide +kernel, rfl, by decide +kernel, by decide +kernel⟩
theorem sc_sorts : FnScope ["_law_finding", "_law_some"] ["_law_finding"] (defScope s_sorts) := ⟨rfl, rfl, rfl, by decide +kernel, rfl, by decide +kernel, by decide +kernel⟩
theorem sc_told : FnScope ["_law_at", "_law_fields", "_law_finding", "_law_word"] ["_law_at", "_law_fields"] (defScope s_told) := ⟨rfl, rfl, rfl, by decide +kernel, rfl, by decide +kernel, by decide +kernel⟩
theorem sc_compared : FnScope ["_law_pen_here", "_law_at", "_law_fields", "_law_finding", "_law_others", "_law_other", "_law_one", "_law_many", "_law_spot", "_law_bent", "_law_same", "_law_some"] ["_law_pen_here", "_law_at", "_law_fields"] (defScope s_compared) := ⟨rfl, rfl, rfl, by decide +kernel, rfl, by decide +kernel, by decide +kernel⟩
theorem sc_law : FnScope ["_law_script", "_law_pen_here", "_law_turn", "_law_fields", "_law_k", "_law_before", "_law_at"] ["_law_script"] (defScope s_law) := ⟨rfl, rfl, rfl, by decide +kernel, rfl, by decide +kernel, by decide +kernel⟩
structure Adr where
  a_Still_init : Addr
  d_Still_init : FuncData
  a_Still_eq : Addr
  d_Still_eq : FuncData
  a_Still_bool : Addr
  d_Still_bool : FuncData
  a_Clash_init : Addr
  d_Clash_init : FuncData
  a_Clash_eq : Addr
  d_Clash_eq : FuncData
  a_Clash_bool : Addr
  d_Clash_bool : FuncData
  a_Wrong_init : Addr
  d_Wrong_init : FuncData
  a_Wrong_eq : Addr
  d_Wrong_eq : FuncData
  a_Wrong_bool : Addr
  d_Wrong_bool : FuncData
  a_Right_init : Addr
  d_Right_init : FuncData
  a_Right_eq : Addr
  d_Right_eq : FuncData
  a_Right_bool : Addr
  d_Right_bool : FuncData
  a_pen : Addr
  d_pen : FuncData
  a_draw : Addr
  d_draw : FuncData
  a_field : Addr
  d_field : FuncData
  a_made : Addr
  d_made : FuncData
  a_kept : Addr
  d_kept : FuncData
  a_sorts : Addr
  d_sorts : FuncData
  a_told : Addr
  d_told : FuncData
  a_compared : Addr
  d_compared : FuncData
  a_law : Addr
  d_law : FuncData
  c_Still : Addr
  c_Clash : Addr
  c_Wrong : Addr
  c_Right : Addr
  c_Finding : Addr
structure Txt (K : PySem.W.Frag) (mg : Str → Option Value) (A : Adr) : Prop where
  n_list : mg "list" = none
  n_int : mg "int" = none
  n_len : mg "len" = none
  n_abs : mg "abs" = none
  n_isinstance : mg "isinstance" = none
  n_repr : mg "repr" = none
  n_range : mg "range" = none
  n_bool : mg "bool" = none
  n_tuple : mg "tuple" = none
  F_Still_init : Fun K "__init__" "Still.__init__" s_Still_init A.a_Still_init A.d_Still_init
  b_Still_init : Binds K A.d_Still_init ["self", "ring"] []
  F_Still_eq : Fun K "__eq__" "Still.__eq__" s_Still_eq A.a_Still_eq A.d_Still_eq
  fi_Still_eq : PySem.W.findIn K (.ref A.c_Still) "__eq__" = some (some (.ref A.a_Still_eq))
  fo_Still_eq : PySem.W.isFn K (.ref A.a_Still_eq) = true
  b_Still_eq : Binds K A.d_Still_eq ["self", "other"] []
  F_Still_bool : Fun K "__bool__" "Still.__bool__" s_Still_bool A.a_Still_bool A.d_Still_bool
  fi_Still_bool : PySem.W.findIn K (.ref A.c_Still) "__bool__" = some (some (.ref A.a_Still_bool))
  fo_Still_bool : PySem.W.isFn K (.ref A.a_Still_bool) = true
  b_Still_bool : Binds K A.d_Still_bool ["self"] []
  F_Clash_init : Fun K "__init__" "Clash.__init__" s_Clash_init A.a_Clash_init A.d_Clash_init
  b_Clash_init : Binds K A.d_Clash_init ["self", "one", "other", "run"] []
  F_Clash_eq : Fun K "__eq__" "Clash.__eq__" s_Clash_eq A.a_Clash_eq A.d_Clash_eq
  fi_Clash_eq : PySem.W.findIn K (.ref A.c_Clash) "__eq__" = some (some (.ref A.a_Clash_eq))
  fo_Clash_eq : PySem.W.isFn K (.ref A.a_Clash_eq) = true
  b_Clash_eq : Binds K A.d_Clash_eq ["self", "other"] []
  F_Clash_bool : Fun K "__bool__" "Clash.__bool__" s_Clash_bool A.a_Clash_bool A.d_Clash_bool
  fi_Clash_bool : PySem.W.findIn K (.ref A.c_Clash) "__bool__" = some (some (.ref A.a_Clash_bool))
  fo_Clash_bool : PySem.W.isFn K (.ref A.a_Clash_bool) = true
  b_Clash_bool : Binds K A.d_Clash_bool ["self"] []
  F_Wrong_init : Fun K "__init__" "Wrong.__init__" s_Wrong_init A.a_Wrong_init A.d_Wrong_init
  b_Wrong_init : Binds K A.d_Wrong_init ["self", "rows", "eager", "whole"] []
  F_Wrong_eq : Fun K "__eq__" "Wrong.__eq__" s_Wrong_eq A.a_Wrong_eq A.d_Wrong_eq
  fi_Wrong_eq : PySem.W.findIn K (.ref A.c_Wrong) "__eq__" = some (some (.ref A.a_Wrong_eq))
  fo_Wrong_eq : PySem.W.isFn K (.ref A.a_Wrong_eq) = true
  b_Wrong_eq : Binds K A.d_Wrong_eq ["self", "other"] []
  F_Wrong_bool : Fun K "__bool__" "Wrong.__bool__" s_Wrong_bool A.a_Wrong_bool A.d_Wrong_bool
  fi_Wrong_bool : PySem.W.findIn K (.ref A.c_Wrong) "__bool__" = some (some (.ref A.a_Wrong_bool))
  fo_Wrong_bool : PySem.W.isFn K (.ref A.a_Wrong_bool) = true
  b_Wrong_bool : Binds K A.d_Wrong_bool ["self"] []
  F_Right_init : Fun K "__init__" "Right.__init__" s_Right_init A.a_Right_init A.d_Right_init
  b_Right_init : Binds K A.d_Right_init ["self", "steps", "ways", "eager", "whole"] []
  F_Right_eq : Fun K "__eq__" "Right.__eq__" s_Right_eq A.a_Right_eq A.d_Right_eq
  fi_Right_eq : PySem.W.findIn K (.ref A.c_Right) "__eq__" = some (some (.ref A.a_Right_eq))
  fo_Right_eq : PySem.W.isFn K (.ref A.a_Right_eq) = true
  b_Right_eq : Binds K A.d_Right_eq ["self", "other"] []
  F_Right_bool : Fun K "__bool__" "Right.__bool__" s_Right_bool A.a_Right_bool A.d_Right_bool
  fi_Right_bool : PySem.W.findIn K (.ref A.c_Right) "__bool__" = some (some (.ref A.a_Right_bool))
  fo_Right_bool : PySem.W.isFn K (.ref A.a_Right_bool) = true
  b_Right_bool : Binds K A.d_Right_bool ["self"] []
  F_pen : Fun K "_law_pen" "_law_pen" s_pen A.a_pen A.d_pen
  g_pen : mg "_law_pen" = some (.ref A.a_pen)
  b_pen : Binds K A.d_pen ["_law_script"] []
  F_draw : Fun K "_law_draw" "_law_draw" s_draw A.a_draw A.d_draw
  g_draw : mg "_law_draw" = some (.ref A.a_draw)
  b_draw : Binds K A.d_draw ["_law_pen_here", "_law_many"] []
  F_field : Fun K "_law_field" "_law_field" s_field A.a_field A.d_field
  g_field : mg "_law_field" = some (.ref A.a_field)
  b_field : Binds K A.d_field ["_law_pen_here"] []
  F_made : Fun K "_law_made" "_law_made" s_made A.a_made A.d_made
  g_made : mg "_law_made" = some (.ref A.a_made)
  b_made : Binds K A.d_made ["_law_at", "_law_fields"] []
  F_kept : Fun K "_law_kept" "_law_kept" s_kept A.a_kept A.d_kept
  g_kept : mg "_law_kept" = some (.ref A.a_kept)
  b_kept : Binds K A.d_kept ["_law_at", "_law_finding"] []
  F_sorts : Fun K "_law_sorts" "_law_sorts" s_sorts A.a_sorts A.d_sorts
  g_sorts : mg "_law_sorts" = some (.ref A.a_sorts)
  b_sorts : Binds K A.d_sorts ["_law_finding"] []
  F_told : Fun K "_law_told" "_law_told" s_told A.a_told A.d_told
  g_told : mg "_law_told" = some (.ref A.a_told)
  b_told : Binds K A.d_told ["_law_at", "_law_fields"] []
  F_compared : Fun K "_law_compared" "_law_compared" s_compared A.a_compared A.d_compared
  g_compared : mg "_law_compared" = some (.ref A.a_compared)
  b_compared : Binds K A.d_compared ["_law_pen_here", "_law_at", "_law_fields"] []
  F_law : Fun K "law" "law" s_law A.a_law A.d_law
  g_law : mg "law" = some (.ref A.a_law)
  b_law : Binds K A.d_law ["_law_script"] []
  g_Still : mg "Still" = some (.ref A.c_Still)
  cl_Still : Cls K A.c_Still
  na_Still_word : NoAttr K A.c_Still "word"
  na_Still_ring : NoAttr K A.c_Still "ring"
  mk_Still : Mk K A.c_Still A.a_Still_init
  g_Clash : mg "Clash" = some (.ref A.c_Clash)
  cl_Clash : Cls K A.c_Clash
  na_Clash_word : NoAttr K A.c_Clash "word"
  na_Clash_one : NoAttr K A.c_Clash "one"
  na_Clash_other : NoAttr K A.c_Clash "other"
  na_Clash_run : NoAttr K A.c_Clash "run"
  mk_Clash : Mk K A.c_Clash A.a_Clash_init
  g_Wrong : mg "Wrong" = some (.ref A.c_Wrong)
  cl_Wrong : Cls K A.c_Wrong
  na_Wrong_word : NoAttr K A.c_Wrong "word"
  na_Wrong_rows : NoAttr K A.c_Wrong "rows"
  na_Wrong_eager : NoAttr K A.c_Wrong "eager"
  na_Wrong_whole : NoAttr K A.c_Wrong "whole"
  mk_Wrong : Mk K A.c_Wrong A.a_Wrong_init
  g_Right : mg "Right" = some (.ref A.c_Right)
  cl_Right : Cls K A.c_Right
  na_Right_word : NoAttr K A.c_Right "word"
  na_Right_steps : NoAttr K A.c_Right "steps"
  na_Right_ways : NoAttr K A.c_Right "ways"
  na_Right_eager : NoAttr K A.c_Right "eager"
  na_Right_whole : NoAttr K A.c_Right "whole"
  mk_Right : Mk K A.c_Right A.a_Right_init
  g_Finding : mg "Finding" = some (.ref A.c_Finding)
  cl_Finding : Cls K A.c_Finding
  ki_Still_Still : PySem.W.kitOne K (.ref A.c_Still) (.ref A.c_Still) = some true
  ki_Still_Clash : PySem.W.kitOne K (.ref A.c_Still) (.ref A.c_Clash) = some false
  sb_Still_Clash : PySem.W.subIn K (.ref A.c_Still) (.ref A.c_Clash) = some false
  ki_Still_Wrong : PySem.W.kitOne K (.ref A.c_Still) (.ref A.c_Wrong) = some false
  sb_Still_Wrong : PySem.W.subIn K (.ref A.c_Still) (.ref A.c_Wrong) = some false
  ki_Still_Right : PySem.W.kitOne K (.ref A.c_Still) (.ref A.c_Right) = some false
  sb_Still_Right : PySem.W.subIn K (.ref A.c_Still) (.ref A.c_Right) = some false
  ki_Still_Finding : PySem.W.kitOne K (.ref A.c_Still) (.ref A.c_Finding) = some true
  sp_NoneType_Still : PySem.W.subIn K (.type "NoneType") (.ref A.c_Still) = some false
  kp_NoneType_Still : PySem.W.kitOne K (.type "NoneType") (.ref A.c_Still) = some false
  sp_bool_Still : PySem.W.subIn K (.type "bool") (.ref A.c_Still) = some false
  kp_bool_Still : PySem.W.kitOne K (.type "bool") (.ref A.c_Still) = some false
  sp_int_Still : PySem.W.subIn K (.type "int") (.ref A.c_Still) = some false
  kp_int_Still : PySem.W.kitOne K (.type "int") (.ref A.c_Still) = some false
  sp_str_Still : PySem.W.subIn K (.type "str") (.ref A.c_Still) = some false
  kp_str_Still : PySem.W.kitOne K (.type "str") (.ref A.c_Still) = some false
  sp_list_Still : PySem.W.subIn K (.type "list") (.ref A.c_Still) = some false
  kp_list_Still : PySem.W.kitOne K (.type "list") (.ref A.c_Still) = some false
  sp_tuple_Still : PySem.W.subIn K (.type "tuple") (.ref A.c_Still) = some false
  kp_tuple_Still : PySem.W.kitOne K (.type "tuple") (.ref A.c_Still) = some false
  sp_dict_Still : PySem.W.subIn K (.type "dict") (.ref A.c_Still) = some false
  kp_dict_Still : PySem.W.kitOne K (.type "dict") (.ref A.c_Still) = some false
  ki_Clash_Still : PySem.W.kitOne K (.ref A.c_Clash) (.ref A.c_Still) = some false
  sb_Clash_Still : PySem.W.subIn K (.ref A.c_Clash) (.ref A.c_Still) = some false
  ki_Clash_Clash : PySem.W.kitOne K (.ref A.c_Clash) (.ref A.c_Clash) = some true
  ki_Clash_Wrong : PySem.W.kitOne K (.ref A.c_Clash) (.ref A.c_Wrong) = some false
  sb_Clash_Wrong : PySem.W.subIn K (.ref A.c_Clash) (.ref A.c_Wrong) = some false
  ki_Clash_Right : PySem.W.kitOne K (.ref A.c_Clash) (.ref A.c_Right) = some false
  sb_Clash_Right : PySem.W.subIn K (.ref A.c_Clash) (.ref A.c_Right) = some false
  ki_Clash_Finding : PySem.W.kitOne K (.ref A.c_Clash) (.ref A.c_Finding) = some true
  sp_NoneType_Clash : PySem.W.subIn K (.type "NoneType") (.ref A.c_Clash) = some false
  kp_NoneType_Clash : PySem.W.kitOne K (.type "NoneType") (.ref A.c_Clash) = some false
  sp_bool_Clash : PySem.W.subIn K (.type "bool") (.ref A.c_Clash) = some false
  kp_bool_Clash : PySem.W.kitOne K (.type "bool") (.ref A.c_Clash) = some false
  sp_int_Clash : PySem.W.subIn K (.type "int") (.ref A.c_Clash) = some false
  kp_int_Clash : PySem.W.kitOne K (.type "int") (.ref A.c_Clash) = some false
  sp_str_Clash : PySem.W.subIn K (.type "str") (.ref A.c_Clash) = some false
  kp_str_Clash : PySem.W.kitOne K (.type "str") (.ref A.c_Clash) = some false
  sp_list_Clash : PySem.W.subIn K (.type "list") (.ref A.c_Clash) = some false
  kp_list_Clash : PySem.W.kitOne K (.type "list") (.ref A.c_Clash) = some false
  sp_tuple_Clash : PySem.W.subIn K (.type "tuple") (.ref A.c_Clash) = some false
  kp_tuple_Clash : PySem.W.kitOne K (.type "tuple") (.ref A.c_Clash) = some false
  sp_dict_Clash : PySem.W.subIn K (.type "dict") (.ref A.c_Clash) = some false
  kp_dict_Clash : PySem.W.kitOne K (.type "dict") (.ref A.c_Clash) = some false
  ki_Wrong_Still : PySem.W.kitOne K (.ref A.c_Wrong) (.ref A.c_Still) = some false
  sb_Wrong_Still : PySem.W.subIn K (.ref A.c_Wrong) (.ref A.c_Still) = some false
  ki_Wrong_Clash : PySem.W.kitOne K (.ref A.c_Wrong) (.ref A.c_Clash) = some false
  sb_Wrong_Clash : PySem.W.subIn K (.ref A.c_Wrong) (.ref A.c_Clash) = some false
  ki_Wrong_Wrong : PySem.W.kitOne K (.ref A.c_Wrong) (.ref A.c_Wrong) = some true
  ki_Wrong_Right : PySem.W.kitOne K (.ref A.c_Wrong) (.ref A.c_Right) = some false
  sb_Wrong_Right : PySem.W.subIn K (.ref A.c_Wrong) (.ref A.c_Right) = some false
  ki_Wrong_Finding : PySem.W.kitOne K (.ref A.c_Wrong) (.ref A.c_Finding) = some true
  sp_NoneType_Wrong : PySem.W.subIn K (.type "NoneType") (.ref A.c_Wrong) = some false
  kp_NoneType_Wrong : PySem.W.kitOne K (.type "NoneType") (.ref A.c_Wrong) = some false
  sp_bool_Wrong : PySem.W.subIn K (.type "bool") (.ref A.c_Wrong) = some false
  kp_bool_Wrong : PySem.W.kitOne K (.type "bool") (.ref A.c_Wrong) = some false
  sp_int_Wrong : PySem.W.subIn K (.type "int") (.ref A.c_Wrong) = some false
  kp_int_Wrong : PySem.W.kitOne K (.type "int") (.ref A.c_Wrong) = some false
  sp_str_Wrong : PySem.W.subIn K (.type "str") (.ref A.c_Wrong) = some false
  kp_str_Wrong : PySem.W.kitOne K (.type "str") (.ref A.c_Wrong) = some false
  sp_list_Wrong : PySem.W.subIn K (.type "list") (.ref A.c_Wrong) = some false
  kp_list_Wrong : PySem.W.kitOne K (.type "list") (.ref A.c_Wrong) = some false
  sp_tuple_Wrong : PySem.W.subIn K (.type "tuple") (.ref A.c_Wrong) = some false
  kp_tuple_Wrong : PySem.W.kitOne K (.type "tuple") (.ref A.c_Wrong) = some false
  sp_dict_Wrong : PySem.W.subIn K (.type "dict") (.ref A.c_Wrong) = some false
  kp_dict_Wrong : PySem.W.kitOne K (.type "dict") (.ref A.c_Wrong) = some false
  ki_Right_Still : PySem.W.kitOne K (.ref A.c_Right) (.ref A.c_Still) = some false
  sb_Right_Still : PySem.W.subIn K (.ref A.c_Right) (.ref A.c_Still) = some false
  ki_Right_Clash : PySem.W.kitOne K (.ref A.c_Right) (.ref A.c_Clash) = some false
  sb_Right_Clash : PySem.W.subIn K (.ref A.c_Right) (.ref A.c_Clash) = some false
  ki_Right_Wrong : PySem.W.kitOne K (.ref A.c_Right) (.ref A.c_Wrong) = some false
  sb_Right_Wrong : PySem.W.subIn K (.ref A.c_Right) (.ref A.c_Wrong) = some false
  ki_Right_Right : PySem.W.kitOne K (.ref A.c_Right) (.ref A.c_Right) = some true
  ki_Right_Finding : PySem.W.kitOne K (.ref A.c_Right) (.ref A.c_Finding) = some true
  sp_NoneType_Right : PySem.W.subIn K (.type "NoneType") (.ref A.c_Right) = some false
  kp_NoneType_Right : PySem.W.kitOne K (.type "NoneType") (.ref A.c_Right) = some false
  sp_bool_Right : PySem.W.subIn K (.type "bool") (.ref A.c_Right) = some false
  kp_bool_Right : PySem.W.kitOne K (.type "bool") (.ref A.c_Right) = some false
  sp_int_Right : PySem.W.subIn K (.type "int") (.ref A.c_Right) = some false
  kp_int_Right : PySem.W.kitOne K (.type "int") (.ref A.c_Right) = some false
  sp_str_Right : PySem.W.subIn K (.type "str") (.ref A.c_Right) = some false
  kp_str_Right : PySem.W.kitOne K (.type "str") (.ref A.c_Right) = some false
  sp_list_Right : PySem.W.subIn K (.type "list") (.ref A.c_Right) = some false
  kp_list_Right : PySem.W.kitOne K (.type "list") (.ref A.c_Right) = some false
  sp_tuple_Right : PySem.W.subIn K (.type "tuple") (.ref A.c_Right) = some false
  kp_tuple_Right : PySem.W.kitOne K (.type "tuple") (.ref A.c_Right) = some false
  sp_dict_Right : PySem.W.subIn K (.type "dict") (.ref A.c_Right) = some false
  kp_dict_Right : PySem.W.kitOne K (.type "dict") (.ref A.c_Right) = some false
  in_Still : ∀ (H : Hp) (a dx : Addr) (fs : List (Str × V)), H a = some (.ins A.c_Still dx fs) → TyX K H (.ref a) (.ref A.c_Still)
  in_Clash : ∀ (H : Hp) (a dx : Addr) (fs : List (Str × V)), H a = some (.ins A.c_Clash dx fs) → TyX K H (.ref a) (.ref A.c_Clash)
  in_Wrong : ∀ (H : Hp) (a dx : Addr) (fs : List (Str × V)), H a = some (.ins A.c_Wrong dx fs) → TyX K H (.ref a) (.ref A.c_Wrong)
  in_Right : ∀ (H : Hp) (a dx : Addr) (fs : List (Str × V)), H a = some (.ins A.c_Right dx fs) → TyX K H (.ref a) (.ref A.c_Right)
theorem all_mk {K : PySem.W.Frag} {h : Heap} {mg : Str → Option Value} (X : K.In h) (G : h.Ns mainGlobals mg)
    {c_Still : Addr} {c_Clash : Addr} {c_Wrong : Addr} {c_Right : Addr} {c_Finding : Addr}
    {f_Still_init : Addr} {od_Still_init an_Still_init : Option Addr} {sl_Still_init : Array (Option Value)} {oc_Still_init kV_Still_init dc_Still_init pm_Still_init cd_Still_init ct_Still_init : Value}
    {f_Still_eq : Addr} {od_Still_eq an_Still_eq : Option Addr} {sl_Still_eq : Array (Option Value)} {oc_Still_eq kV_Still_eq dc_Still_eq pm_Still_eq cd_Still_eq ct_Still_eq : Value}
    {f_Still_bool : Addr} {od_Still_bool an_Still_bool : Option Addr} {sl_Still_bool : Array (Option Value)} {oc_Still_bool kV_Still_bool dc_Still_bool pm_Still_bool cd_Still_bool ct_Still_bool : Value}
    {f_Clash_init : Addr} {od_Clash_init an_Clash_init : Option Addr} {sl_Clash_init : Array (Option Value)} {oc_Clash_init kV_Clash_init dc_Clash_init pm_Clash_init cd_Clash_init ct_Clash_init : Value}
    {f_Clash_eq : Addr} {od_Clash_eq an_Clash_eq : Option Addr} {sl_Clash_eq : Array (Option Value)} {oc_Clash_eq kV_Clash_eq dc_Clash_eq pm_Clash_eq cd_Clash_eq ct_Clash_eq : Value}
    {f_Clash_bool : Addr} {od_Clash_bool an_Clash_bool : Option Addr} {sl_Clash_bool : Array (Option Value)} {oc_Clash_bool kV_Clash_bool dc_Clash_bool pm_Clash_bool cd_Clash_bool ct_Clash_bool : Value}
    {f_Wrong_init : Addr} {od_Wrong_init an_Wrong_init : Option Addr} {sl_Wrong_init : Array (Option Value)} {oc_Wrong_init kV_Wrong_init dc_Wrong_init pm_Wrong_init cd_Wrong_init ct_Wrong_init : Value}
    {f_Wrong_eq : Addr} {od_Wrong_eq an_Wrong_eq : Option Addr} {sl_Wrong_eq : Array (Option Value)} {oc_Wrong_eq kV_Wrong_eq dc_Wrong_eq pm_Wrong_eq cd_Wrong_eq ct_Wrong_eq : Value}
    {f_Wrong_bool : Addr} {od_Wrong_bool an_Wrong_bool : Option Addr} {sl_Wrong_bool : Array (Option Value)} {oc_Wrong_bool kV_Wrong_bool dc_Wrong_bool pm_Wrong_bool cd_Wrong_bool ct_Wrong_bool : Value}
    {f_Right_init : Addr} {od_Right_init an_Right_init : Option Addr} {sl_Right_init : Array (Option Value)} {oc_Right_init kV_Right_init dc_Right_init pm_Right_init cd_Right_init ct_Right_init : Value}
    {f_Right_eq : Addr} {od_Right_eq an_Right_eq : Option Addr} {sl_Right_eq : Array (Option Value)} {oc_Right_eq kV_Right_eq dc_Right_eq pm_Right_eq cd_Right_eq ct_Right_eq : Value}
    {f_Right_bool : Addr} {od_Right_bool an_Right_bool : Option Addr} {sl_Right_bool : Array (Option Value)} {oc_Right_bool kV_Right_bool dc_Right_bool pm_Right_bool cd_Right_bool ct_Right_bool : Value}
    {f_pen : Addr} {od_pen an_pen : Option Addr} {sl_pen : Array (Option Value)} {oc_pen kV_pen dc_pen pm_pen cd_pen ct_pen : Value}
    {f_draw : Addr} {od_draw an_draw : Option Addr} {sl_draw : Array (Option Value)} {oc_draw kV_draw dc_draw pm_draw cd_draw ct_draw : Value}
    {f_field : Addr} {od_field an_field : Option Addr} {sl_field : Array (Option Value)} {oc_field kV_field dc_field pm_field cd_field ct_field : Value}
    {f_made : Addr} {od_made an_made : Option Addr} {sl_made : Array (Option Value)} {oc_made kV_made dc_made pm_made cd_made ct_made : Value}
    {f_kept : Addr} {od_kept an_kept : Option Addr} {sl_kept : Array (Option Value)} {oc_kept kV_kept dc_kept pm_kept cd_kept ct_kept : Value}
    {f_sorts : Addr} {od_sorts an_sorts : Option Addr} {sl_sorts : Array (Option Value)} {oc_sorts kV_sorts dc_sorts pm_sorts cd_sorts ct_sorts : Value}
    {f_told : Addr} {od_told an_told : Option Addr} {sl_told : Array (Option Value)} {oc_told kV_told dc_told pm_told cd_told ct_told : Value}
    {f_compared : Addr} {od_compared an_compared : Option Addr} {sl_compared : Array (Option Value)} {oc_compared kV_compared dc_compared pm_compared cd_compared ct_compared : Value}
    {f_law : Addr} {od_law an_law : Option Addr} {sl_law : Array (Option Value)} {oc_law kV_law dc_law pm_law cd_law ct_law : Value}
    (a_Still : PySem.W.nsIn K mainGlobals "Still" = some (some (.ref c_Still)))
    (pg_Still : PySem.W.plainGet K c_Still Str.empty = true) (hd_Still : PySem.W.hasDictIn K c_Still = true) (po_Still : PySem.W.plainOver K c_Still = true) (sa_Still : PySem.W.findIn K (.ref c_Still) "__setattr__" = some (some (.builtin "object.__setattr__")))
    (na_Still_word : PySem.W.findIn K (.ref c_Still) "word" = some none)
    (na_Still_ring : PySem.W.findIn K (.ref c_Still) "ring" = some none)
    (mk_Still : PySem.W.makesIn K c_Still = true) (kc_Still : PySem.W.keepIn K (.ref c_Still) = true)
    (a_Clash : PySem.W.nsIn K mainGlobals "Clash" = some (some (.ref c_Clash)))
    (pg_Clash : PySem.W.plainGet K c_Clash Str.empty = true) (hd_Clash : PySem.W.hasDictIn K c_Clash = true) (po_Clash : PySem.W.plainOver K c_Clash = true) (sa_Clash : PySem.W.findIn K (.ref c_Clash) "__setattr__" = some (some (.builtin "object.__setattr__")))
    (na_Clash_word : PySem.W.findIn K (.ref c_Clash) "word" = some none)
    (na_Clash_one : PySem.W.findIn K (.ref c_Clash) "one" = some none)
    (na_Clash_other : PySem.W.findIn K (.ref c_Clash) "other" = some none)
    (na_Clash_run : PySem.W.findIn K (.ref c_Clash) "run" = some none)
    (mk_Clash : PySem.W.makesIn K c_Clash = true) (kc_Clash : PySem.W.keepIn K (.ref c_Clash) = true)
    (a_Wrong : PySem.W.nsIn K mainGlobals "Wrong" = some (some (.ref c_Wrong)))
    (pg_Wrong : PySem.W.plainGet K c_Wrong Str.empty = true) (hd_Wrong : PySem.W.hasDictIn K c_Wrong = true) (po_Wrong : PySem.W.plainOver K c_Wrong = true) (sa_Wrong : PySem.W.findIn K (.ref c_Wrong) "__setattr__" = some (some (.builtin "object.__setattr__")))
    (na_Wrong_word : PySem.W.findIn K (.ref c_Wrong) "word" = some none)
    (na_Wrong_rows : PySem.W.findIn K (.ref c_Wrong) "rows" = some none)
    (na_Wrong_eager : PySem.W.findIn K (.ref c_Wrong) "eager" = some none)
    (na_Wrong_whole : PySem.W.findIn K (.ref c_Wrong) "whole" = some none)
    (mk_Wrong : PySem.W.makesIn K c_Wrong = true) (kc_Wrong : PySem.W.keepIn K (.ref c_Wrong) = true)
    (a_Right : PySem.W.nsIn K mainGlobals "Right" = some (some (.ref c_Right)))
    (pg_Right : PySem.W.plainGet K c_Right Str.empty = true) (hd_Right : PySem.W.hasDictIn K c_Right = true) (po_Right : PySem.W.plainOver K c_Right = true) (sa_Right : PySem.W.findIn K (.ref c_Right) "__setattr__" = some (some (.builtin "object.__setattr__")))
    (na_Right_word : PySem.W.findIn K (.ref c_Right) "word" = some none)
    (na_Right_steps : PySem.W.findIn K (.ref c_Right) "steps" = some none)
    (na_Right_ways : PySem.W.findIn K (.ref c_Right) "ways" = some none)
    (na_Right_eager : PySem.W.findIn K (.ref c_Right) "eager" = some none)
    (na_Right_whole : PySem.W.findIn K (.ref c_Right) "whole" = some none)
    (mk_Right : PySem.W.makesIn K c_Right = true) (kc_Right : PySem.W.keepIn K (.ref c_Right) = true)
    (a_Finding : PySem.W.nsIn K mainGlobals "Finding" = some (some (.ref c_Finding)))
    (pg_Finding : PySem.W.plainGet K c_Finding Str.empty = true) (hd_Finding : PySem.W.hasDictIn K c_Finding = true) (po_Finding : PySem.W.plainOver K c_Finding = true) (sa_Finding : PySem.W.findIn K (.ref c_Finding) "__setattr__" = some (some (.builtin "object.__setattr__")))
    (gg : PySem.W.specialIn K (.builtin "object.__class__") "__get__" = some (some (.builtin "getset_descriptor.__get__"))) (tk : PySem.W.takesIn K (.builtin "object.__class__") = some true)
    (mo_Still : PySem.W.mroIn K c_Still (.type "object") = some true)
    (ty_Still : PySem.W.typeIn K (.ref c_Still) = some (.type "type"))
    (ss_Still : PySem.W.subIn K (.ref c_Still) (.ref c_Still) = some true)
    (mo_Clash : PySem.W.mroIn K c_Clash (.type "object") = some true)
    (ty_Clash : PySem.W.typeIn K (.ref c_Clash) = some (.type "type"))
    (ss_Clash : PySem.W.subIn K (.ref c_Clash) (.ref c_Clash) = some true)
    (mo_Wrong : PySem.W.mroIn K c_Wrong (.type "object") = some true)
    (ty_Wrong : PySem.W.typeIn K (.ref c_Wrong) = some (.type "type"))
    (ss_Wrong : PySem.W.subIn K (.ref c_Wrong) (.ref c_Wrong) = some true)
    (mo_Right : PySem.W.mroIn K c_Right (.type "object") = some true)
    (ty_Right : PySem.W.typeIn K (.ref c_Right) = some (.type "type"))
    (ss_Right : PySem.W.subIn K (.ref c_Right) (.ref c_Right) = some true)
    (mo_Finding : PySem.W.mroIn K c_Finding (.type "object") = some true)
    (ty_Finding : PySem.W.typeIn K (.ref c_Finding) = some (.type "type"))
    (ss_Finding : PySem.W.subIn K (.ref c_Finding) (.ref c_Finding) = some true)
    (sb_Still_Clash : PySem.W.subIn K (.ref c_Still) (.ref c_Clash) = some false)
    (sb_Still_Wrong : PySem.W.subIn K (.ref c_Still) (.ref c_Wrong) = some false)
    (sb_Still_Right : PySem.W.subIn K (.ref c_Still) (.ref c_Right) = some false)
    (sb_Still_Finding : PySem.W.subIn K (.ref c_Still) (.ref c_Finding) = some true)
    (sp_NoneType_Still : PySem.W.subIn K (.type "NoneType") (.ref c_Still) = some false)
    (sp_bool_Still : PySem.W.subIn K (.type "bool") (.ref c_Still) = some false)
    (sp_int_Still : PySem.W.subIn K (.type "int") (.ref c_Still) = some false)
    (sp_str_Still : PySem.W.subIn K (.type "str") (.ref c_Still) = some false)
    (sp_list_Still : PySem.W.subIn K (.type "list") (.ref c_Still) = some false)
    (sp_tuple_Still : PySem.W.subIn K (.type "tuple") (.ref c_Still) = some false)
    (sp_dict_Still : PySem.W.subIn K (.type "dict") (.ref c_Still) = some false)
    (sb_Clash_Still : PySem.W.subIn K (.ref c_Clash) (.ref c_Still) = some false)
    (sb_Clash_Wrong : PySem.W.subIn K (.ref c_Clash) (.ref c_Wrong) = some false)
    (sb_Clash_Right : PySem.W.subIn K (.ref c_Clash) (.ref c_Right) = some false)
    (sb_Clash_Finding : PySem.W.subIn K (.ref c_Clash) (.ref c_Finding) = some true)
    (sp_NoneType_Clash : PySem.W.subIn K (.type "NoneType") (.ref c_Clash) = some false)
    (sp_bool_Clash : PySem.W.subIn K (.type "bool") (.ref c_Clash) = some false)
    (sp_int_Clash : PySem.W.subIn K (.type "int") (.ref c_Clash) = some false)
    (sp_str_Clash : PySem.W.subIn K (.type "str") (.ref c_Clash) = some false)
    (sp_list_Clash : PySem.W.subIn K (.type "list") (.ref c_Clash) = some false)
    (sp_tuple_Clash : PySem.W.subIn K (.type "tuple") (.ref c_Clash) = some false)
    (sp_dict_Clash : PySem.W.subIn K (.type "dict") (.ref c_Clash) = some false)
    (sb_Wrong_Still : PySem.W.subIn K (.ref c_Wrong) (.ref c_Still) = some false)
    (sb_Wrong_Clash : PySem.W.subIn K (.ref c_Wrong) (.ref c_Clash) = some false)
    (sb_Wrong_Right : PySem.W.subIn K (.ref c_Wrong) (.ref c_Right) = some false)
    (sb_Wrong_Finding : PySem.W.subIn K (.ref c_Wrong) (.ref c_Finding) = some true)
    (sp_NoneType_Wrong : PySem.W.subIn K (.type "NoneType") (.ref c_Wrong) = some false)
    (sp_bool_Wrong : PySem.W.subIn K (.type "bool") (.ref c_Wrong) = some false)
    (sp_int_Wrong : PySem.W.subIn K (.type "int") (.ref c_Wrong) = some false)
    (sp_str_Wrong : PySem.W.subIn K (.type "str") (.ref c_Wrong) = some false)
    (sp_list_Wrong : PySem.W.subIn K (.type "list") (.ref c_Wrong) = some false)
    (sp_tuple_Wrong : PySem.W.subIn K (.type "tuple") (.ref c_Wrong) = some false)
    (sp_dict_Wrong : PySem.W.subIn K (.type "dict") (.ref c_Wrong) = some false)
    (sb_Right_Still : PySem.W.subIn K (.ref c_Right) (.ref c_Still) = some false)
    (sb_Right_Clash : PySem.W.subIn K (.ref c_Right) (.ref c_Clash) = some false)
    (sb_Right_Wrong : PySem.W.subIn K (.ref c_Right) (.ref c_Wrong) = some false)
    (sb_Right_Finding : PySem.W.subIn K (.ref c_Right) (.ref c_Finding) = some true)
    (sp_NoneType_Right : PySem.W.subIn K (.type "NoneType") (.ref c_Right) = some false)
    (sp_bool_Right : PySem.W.subIn K (.type "bool") (.ref c_Right) = some false)
    (sp_int_Right : PySem.W.subIn K (.type "int") (.ref c_Right) = some false)
    (sp_str_Right : PySem.W.subIn K (.type "str") (.ref c_Right) = some false)
    (sp_list_Right : PySem.W.subIn K (.type "list") (.ref c_Right) = some false)
    (sp_tuple_Right : PySem.W.subIn K (.type "tuple") (.ref c_Right) = some false)
    (sp_dict_Right : PySem.W.subIn K (.type "dict") (.ref c_Right) = some false)
    (ci_Still : PySem.W.findIn K (.ref c_Still) "__class__" = some (some (.builtin "object.__class__")))
    (ci_Clash : PySem.W.findIn K (.ref c_Clash) "__class__" = some (some (.builtin "object.__class__")))
    (ci_Wrong : PySem.W.findIn K (.ref c_Wrong) "__class__" = some (some (.builtin "object.__class__")))
    (ci_Right : PySem.W.findIn K (.ref c_Right) "__class__" = some (some (.builtin "object.__class__")))
    (n_list : PySem.W.nsIn K mainGlobals "list" = some none)
    (n_int : PySem.W.nsIn K mainGlobals "int" = some none)
    (n_len : PySem.W.nsIn K mainGlobals "len" = some none)
    (n_abs : PySem.W.nsIn K mainGlobals "abs" = some none)
    (n_isinstance : PySem.W.nsIn K mainGlobals "isinstance" = some none)
    (n_repr : PySem.W.nsIn K mainGlobals "repr" = some none)
    (n_range : PySem.W.nsIn K mainGlobals "range" = some none)
    (n_bool : PySem.W.nsIn K mainGlobals "bool" = some none)
    (n_tuple : PySem.W.nsIn K mainGlobals "tuple" = some none)
    (a_Still_init : PySem.W.findIn K (.ref c_Still) "__init__" = some (some (.ref f_Still_init)))
    (i_Still_init : PySem.W.isFn K (.ref f_Still_init) = true)
    (l_Still_init : K.lookup f_Still_init = some ⟨oc_Still_init, od_Still_init, .func (PySem.W.fnOf "__init__" "Still.__init__" (defArgs s_Still_init) (defBody s_Still_init) (defScope s_Still_init) .none kV_Still_init dc_Still_init pm_Still_init an_Still_init cd_Still_init ct_Still_init), sl_Still_init⟩)
    (e_Still_init : PySem.W.codeIn K cd_Still_init "Still.__init__" = true)
    (p_Still_init : PySem.W.keepIn K (.ref f_Still_init) = true)
    (a_Still_eq : PySem.W.findIn K (.ref c_Still) "__eq__" = some (some (.ref f_Still_eq)))
    (i_Still_eq : PySem.W.isFn K (.ref f_Still_eq) = true)
    (l_Still_eq : K.lookup f_Still_eq = some ⟨oc_Still_eq, od_Still_eq, .func (PySem.W.fnOf "__eq__" "Still.__eq__" (defArgs s_Still_eq) (defBody s_Still_eq) (defScope s_Still_eq) .none kV_Still_eq dc_Still_eq pm_Still_eq an_Still_eq cd_Still_eq ct_Still_eq), sl_Still_eq⟩)
    (e_Still_eq : PySem.W.codeIn K cd_Still_eq "Still.__eq__" = true)
    (p_Still_eq : PySem.W.keepIn K (.ref f_Still_eq) = true)
    (a_Still_bool : PySem.W.findIn K (.ref c_Still) "__bool__" = some (some (.ref f_Still_bool)))
    (i_Still_bool : PySem.W.isFn K (.ref f_Still_bool) = true)
    (l_Still_bool : K.lookup f_Still_bool = some ⟨oc_Still_bool, od_Still_bool, .func (PySem.W.fnOf "__bool__" "Still.__bool__" (defArgs s_Still_bool) (defBody s_Still_bool) (defScope s_Still_bool) .none kV_Still_bool dc_Still_bool pm_Still_bool an_Still_bool cd_Still_bool ct_Still_bool), sl_Still_bool⟩)
    (e_Still_bool : PySem.W.codeIn K cd_Still_bool "Still.__bool__" = true)
    (p_Still_bool : PySem.W.keepIn K (.ref f_Still_bool) = true)
    (a_Clash_init : PySem.W.findIn K (.ref c_Clash) "__init__" = some (some (.ref f_Clash_init)))
    (i_Clash_init : PySem.W.isFn K (.ref f_Clash_init) = true)
    (l_Clash_init : K.lookup f_Clash_init = some ⟨oc_Clash_init, od_Clash_init, .func (PySem.W.fnOf "__init__" "Clash.__init__" (defArgs s_Clash_init) (defBody s_Clash_init) (defScope s_Clash_init) .none kV_Clash_init dc_Clash_init pm_Clash_init an_Clash_init cd_Clash_init ct_Clash_init), sl_Clash_init⟩)
    (e_Clash_init : PySem.W.codeIn K cd_Clash_init "Clash.__init__" = true)
    (p_Clash_init : PySem.W.keepIn K (.ref f_Clash_init) = true)
    (a_Clash_eq : PySem.W.findIn K (.ref c_Clash) "__eq__" = some (some (.ref f_Clash_eq)))
    (i_Clash_eq : PySem.W.isFn K (.ref f_Clash_eq) = true)
    (l_Clash_eq : K.lookup f_Clash_eq = some ⟨oc_Clash_eq, od_Clash_eq, .func (PySem.W.fnOf "__eq__" "Clash.__eq__" (defArgs s_Clash_eq) (defBody s_Clash_eq) (defScope s_Clash_eq) .none kV_Clash_eq dc_Clash_eq pm_Clash_eq an_Clash_eq cd_Clash_eq ct_Clash_eq), sl_Clash_eq⟩)
    (e_Clash_eq : PySem.W.codeIn K cd_Clash_eq "Clash.__eq__" = true)
    (p_Clash_eq : PySem.W.keepIn K (.ref f_Clash_eq) = true)
    (a_Clash_bool : PySem.W.findIn K (.ref c_Clash) "__bool__" = some (some (.ref f_Clash_bool)))
    (i_Clash_bool : PySem.W.isFn K (.ref f_Clash_bool) = true)
    (l_Clash_bool : K.lookup f_Clash_bool = some ⟨oc_Clash_bool, od_Clash_bool, .func (PySem.W.fnOf "__bool__" "Clash.__bool__" (defArgs s_Clash_bool) (defBody s_Clash_bool) (defScope s_Clash_bool) .none kV_Clash_bool dc_Clash_bool pm_Clash_bool an_Clash_bool cd_Clash_bool ct_Clash_bool), sl_Clash_bool⟩)
    (e_Clash_bool : PySem.W.codeIn K cd_Clash_bool "Clash.__bool__" = true)
    (p_Clash_bool : PySem.W.keepIn K (.ref f_Clash_bool) = true)
    (a_Wrong_init : PySem.W.findIn K (.ref c_Wrong) "__init__" = some (some (.ref f_Wrong_init)))
    (i_Wrong_init : PySem.W.isFn K (.ref f_Wrong_init) = true)
    (l_Wrong_init : K.lookup f_Wrong_init = some ⟨oc_Wrong_init, od_Wrong_init, .func (PySem.W.fnOf "__init__" "Wrong.__init__" (defArgs s_Wrong_init) (defBody s_Wrong_init) (defScope s_Wrong_init) .none kV_Wrong_init dc_Wrong_init pm_Wrong_init an_Wrong_init cd_Wrong_init ct_Wrong_init), sl_Wrong_init⟩)
    (e_Wrong_init : PySem.W.codeIn K cd_Wrong_init "Wrong.__init__" = true)
    (p_Wrong_init : PySem.W.keepIn K (.ref f_Wrong_init) = true)
    (a_Wrong_eq : PySem.W.findIn K (.ref c_Wrong) "__eq__" = some (some (.ref f_Wrong_eq)))
    (i_Wrong_eq : PySem.W.isFn K (.ref f_Wrong_eq) = true)
    (l_Wrong_eq : K.lookup f_Wrong_eq = some ⟨oc_Wrong_eq, od_Wrong_eq, .func (PySem.W.fnOf "__eq__" "Wrong.__eq__" (defArgs s_Wrong_eq) (defBody s_Wrong_eq) (defScope s_Wrong_eq) .none kV_Wrong_eq dc_Wrong_eq pm_Wrong_eq an_Wrong_eq cd_Wrong_eq ct_Wrong_eq), sl_Wrong_eq⟩)
    (e_Wrong_eq : PySem.W.codeIn K cd_Wrong_eq "Wrong.__eq__" = true)
    (p_Wrong_eq : PySem.W.keepIn K (.ref f_Wrong_eq) = true)
    (a_Wrong_bool : PySem.W.findIn K (.ref c_Wrong) "__bool__" = some (some (.ref f_Wrong_bool)))
    (i_Wrong_bool : PySem.W.isFn K (.ref f_Wrong_bool) = true)
    (l_Wrong_bool : K.lookup f_Wrong_bool = some ⟨oc_Wrong_bool, od_Wrong_bool, .func (PySem.W.fnOf "__bool__" "Wrong.__bool__" (defArgs s_Wrong_bool) (defBody s_Wrong_bool) (defScope s_Wrong_bool) .none kV_Wrong_bool dc_Wrong_bool pm_Wrong_bool an_Wrong_bool cd_Wrong_bool ct_Wrong_bool), sl_Wrong_bool⟩)
    (e_Wrong_bool : PySem.W.codeIn K cd_Wrong_bool "Wrong.__bool__" = true)
    (p_Wrong_bool : PySem.W.keepIn K (.ref f_Wrong_bool) = true)
    (a_Right_init : PySem.W.findIn K (.ref c_Right) "__init__" = some (some (.ref f_Right_init)))
    (i_Right_init : PySem.W.isFn K (.ref f_Right_init) = true)
    (l_Right_init : K.lookup f_Right_init = some ⟨oc_Right_init, od_Right_init, .func (PySem.W.fnOf "__init__" "Right.__init__" (defArgs s_Right_init) (defBody s_Right_init) (defScope s_Right_init) .none kV_Right_init dc_Right_init pm_Right_init an_Right_init cd_Right_init ct_Right_init), sl_Right_init⟩)
    (e_Right_init : PySem.W.codeIn K cd_Right_init "Right.__init__" = true)
    (p_Right_init : PySem.W.keepIn K (.ref f_Right_init) = true)
    (a_Right_eq : PySem.W.findIn K (.ref c_Right) "__eq__" = some (some (.ref f_Right_eq)))
    (i_Right_eq : PySem.W.isFn K (.ref f_Right_eq) = true)
    (l_Right_eq : K.lookup f_Right_eq = some ⟨oc_Right_eq, od_Right_eq, .func (PySem.W.fnOf "__eq__" "Right.__eq__" (defArgs s_Right_eq) (defBody s_Right_eq) (defScope s_Right_eq) .none kV_Right_eq dc_Right_eq pm_Right_eq an_Right_eq cd_Right_eq ct_Right_eq), sl_Right_eq⟩)
    (e_Right_eq : PySem.W.codeIn K cd_Right_eq "Right.__eq__" = true)
    (p_Right_eq : PySem.W.keepIn K (.ref f_Right_eq) = true)
    (a_Right_bool : PySem.W.findIn K (.ref c_Right) "__bool__" = some (some (.ref f_Right_bool)))
    (i_Right_bool : PySem.W.isFn K (.ref f_Right_bool) = true)
    (l_Right_bool : K.lookup f_Right_bool = some ⟨oc_Right_bool, od_Right_bool, .func (PySem.W.fnOf "__bool__" "Right.__bool__" (defArgs s_Right_bool) (defBody s_Right_bool) (defScope s_Right_bool) .none kV_Right_bool dc_Right_bool pm_Right_bool an_Right_bool cd_Right_bool ct_Right_bool), sl_Right_bool⟩)
    (e_Right_bool : PySem.W.codeIn K cd_Right_bool "Right.__bool__" = true)
    (p_Right_bool : PySem.W.keepIn K (.ref f_Right_bool) = true)
    (a_pen : PySem.W.nsIn K mainGlobals "_law_pen" = some (some (.ref f_pen)))
    (l_pen : K.lookup f_pen = some ⟨oc_pen, od_pen, .func (PySem.W.fnOf "_law_pen" "_law_pen" (defArgs s_pen) (defBody s_pen) (defScope s_pen) .none kV_pen dc_pen pm_pen an_pen cd_pen ct_pen), sl_pen⟩)
    (e_pen : PySem.W.codeIn K cd_pen "_law_pen" = true)
    (p_pen : PySem.W.keepIn K (.ref f_pen) = true)
    (a_draw : PySem.W.nsIn K mainGlobals "_law_draw" = some (some (.ref f_draw)))
    (l_draw : K.lookup f_draw = some ⟨oc_draw, od_draw, .func (PySem.W.fnOf "_law_draw" "_law_draw" (defArgs s_draw) (defBody s_draw) (defScope s_draw) .none kV_draw dc_draw pm_draw an_draw cd_draw ct_draw), sl_draw⟩)
    (e_draw : PySem.W.codeIn K cd_draw "_law_draw" = true)
    (p_draw : PySem.W.keepIn K (.ref f_draw) = true)
    (a_field : PySem.W.nsIn K mainGlobals "_law_field" = some (some (.ref f_field)))
    (l_field : K.lookup f_field = some ⟨oc_field, od_field, .func (PySem.W.fnOf "_law_field" "_law_field" (defArgs s_field) (defBody s_field) (defScope s_field) .none kV_field dc_field pm_field an_field cd_field ct_field), sl_field⟩)
    (e_field : PySem.W.codeIn K cd_field "_law_field" = true)
    (p_field : PySem.W.keepIn K (.ref f_field) = true)
    (a_made : PySem.W.nsIn K mainGlobals "_law_made" = some (some (.ref f_made)))
    (l_made : K.lookup f_made = some ⟨oc_made, od_made, .func (PySem.W.fnOf "_law_made" "_law_made" (defArgs s_made) (defBody s_made) (defScope s_made) .none kV_made dc_made pm_made an_made cd_made ct_made), sl_made⟩)
    (e_made : PySem.W.codeIn K cd_made "_law_made" = true)
    (p_made : PySem.W.keepIn K (.ref f_made) = true)
    (a_kept : PySem.W.nsIn K mainGlobals "_law_kept" = some (some (.ref f_kept)))
    (l_kept : K.lookup f_kept = some ⟨oc_kept, od_kept, .func (PySem.W.fnOf "_law_kept" "_law_kept" (defArgs s_kept) (defBody s_kept) (defScope s_kept) .none kV_kept dc_kept pm_kept an_kept cd_kept ct_kept), sl_kept⟩)
    (e_kept : PySem.W.codeIn K cd_kept "_law_kept" = true)
    (p_kept : PySem.W.keepIn K (.ref f_kept) = true)
    (a_sorts : PySem.W.nsIn K mainGlobals "_law_sorts" = some (some (.ref f_sorts)))
    (l_sorts : K.lookup f_sorts = some ⟨oc_sorts, od_sorts, .func (PySem.W.fnOf "_law_sorts" "_law_sorts" (defArgs s_sorts) (defBody s_sorts) (defScope s_sorts) .none kV_sorts dc_sorts pm_sorts an_sorts cd_sorts ct_sorts), sl_sorts⟩)
    (e_sorts : PySem.W.codeIn K cd_sorts "_law_sorts" = true)
    (p_sorts : PySem.W.keepIn K (.ref f_sorts) = true)
    (a_told : PySem.W.nsIn K mainGlobals "_law_told" = some (some (.ref f_told)))
    (l_told : K.lookup f_told = some ⟨oc_told, od_told, .func (PySem.W.fnOf "_law_told" "_law_told" (defArgs s_told) (defBody s_told) (defScope s_told) .none kV_told dc_told pm_told an_told cd_told ct_told), sl_told⟩)
    (e_told : PySem.W.codeIn K cd_told "_law_told" = true)
    (p_told : PySem.W.keepIn K (.ref f_told) = true)
    (a_compared : PySem.W.nsIn K mainGlobals "_law_compared" = some (some (.ref f_compared)))
    (l_compared : K.lookup f_compared = some ⟨oc_compared, od_compared, .func (PySem.W.fnOf "_law_compared" "_law_compared" (defArgs s_compared) (defBody s_compared) (defScope s_compared) .none kV_compared dc_compared pm_compared an_compared cd_compared ct_compared), sl_compared⟩)
    (e_compared : PySem.W.codeIn K cd_compared "_law_compared" = true)
    (p_compared : PySem.W.keepIn K (.ref f_compared) = true)
    (a_law : PySem.W.nsIn K mainGlobals "law" = some (some (.ref f_law)))
    (l_law : K.lookup f_law = some ⟨oc_law, od_law, .func (PySem.W.fnOf "law" "law" (defArgs s_law) (defBody s_law) (defScope s_law) .none kV_law dc_law pm_law an_law cd_law ct_law), sl_law⟩)
    (e_law : PySem.W.codeIn K cd_law "law" = true)
    (p_law : PySem.W.keepIn K (.ref f_law) = true) :
    ∃ A : Adr, Txt K mg A :=
  ⟨{ a_Still_init := f_Still_init,
     d_Still_init := PySem.W.fnOf "__init__" "Still.__init__" (defArgs s_Still_init) (defBody s_Still_init) (defScope s_Still_init) .none kV_Still_init dc_Still_init pm_Still_init an_Still_init cd_Still_init ct_Still_init,
     a_Still_eq := f_Still_eq,
     d_Still_eq := PySem.W.fnOf "__eq__" "Still.__eq__" (defArgs s_Still_eq) (defBody s_Still_eq) (defScope s_Still_eq) .none kV_Still_eq dc_Still_eq pm_Still_eq an_Still_eq cd_Still_eq ct_Still_eq,
     a_Still_bool := f_Still_bool,
     d_Still_bool := PySem.W.fnOf "__bool__" "Still.__bool__" (defArgs s_Still_bool) (defBody s_Still_bool) (defScope s_Still_bool) .none kV_Still_bool dc_Still_bool pm_Still_bool an_Still_bool cd_Still_bool ct_Still_bool,
     a_Clash_init := f_Clash_init,
     d_Clash_init := PySem.W.fnOf "__init__" "Clash.__init__" (defArgs s_Clash_init) (defBody s_Clash_init) (defScope s_Clash_init) .none kV_Clash_init dc_Clash_init pm_Clash_init an_Clash_init cd_Clash_init ct_Clash_init,
     a_Clash_eq := f_Clash_eq,
     d_Clash_eq := PySem.W.fnOf "__eq__" "Clash.__eq__" (defArgs s_Clash_eq) (defBody s_Clash_eq) (defScope s_Clash_eq) .none kV_Clash_eq dc_Clash_eq pm_Clash_eq an_Clash_eq cd_Clash_eq ct_Clash_eq,
     a_Clash_bool := f_Clash_bool,
     d_Clash_bool := PySem.W.fnOf "__bool__" "Clash.__bool__" (defArgs s_Clash_bool) (defBody s_Clash_bool) (defScope s_Clash_bool) .none kV_Clash_bool dc_Clash_bool pm_Clash_bool an_Clash_bool cd_Clash_bool ct_Clash_bool,
     a_Wrong_init := f_Wrong_init,
     d_Wrong_init := PySem.W.fnOf "__init__" "Wrong.__init__" (defArgs s_Wrong_init) (defBody s_Wrong_init) (defScope s_Wrong_init) .none kV_Wrong_init dc_Wrong_init pm_Wrong_init an_Wrong_init cd_Wrong_init ct_Wrong_init,
     a_Wrong_eq := f_Wrong_eq,
     d_Wrong_eq := PySem.W.fnOf "__eq__" "Wrong.__eq__" (defArgs s_Wrong_eq) (defBody s_Wrong_eq) (defScope s_Wrong_eq) .none kV_Wrong_eq dc_Wrong_eq pm_Wrong_eq an_Wrong_eq cd_Wrong_eq ct_Wrong_eq,
     a_Wrong_bool := f_Wrong_bool,
     d_Wrong_bool := PySem.W.fnOf "__bool__" "Wrong.__bool__" (defArgs s_Wrong_bool) (defBody s_Wrong_bool) (defScope s_Wrong_bool) .none kV_Wrong_bool dc_Wrong_bool pm_Wrong_bool an_Wrong_bool cd_Wrong_bool ct_Wrong_bool,
     a_Right_init := f_Right_init,
     d_Right_init := PySem.W.fnOf "__init__" "Right.__init__" (defArgs s_Right_init) (defBody s_Right_init) (defScope s_Right_init) .none kV_Right_init dc_Right_init pm_Right_init an_Right_init cd_Right_init ct_Right_init,
     a_Right_eq := f_Right_eq,
     d_Right_eq := PySem.W.fnOf "__eq__" "Right.__eq__" (defArgs s_Right_eq) (defBody s_Right_eq) (defScope s_Right_eq) .none kV_Right_eq dc_Right_eq pm_Right_eq an_Right_eq cd_Right_eq ct_Right_eq,
     a_Right_bool := f_Right_bool,
     d_Right_bool := PySem.W.fnOf "__bool__" "Right.__bool__" (defArgs s_Right_bool) (defBody s_Right_bool) (defScope s_Right_bool) .none kV_Right_bool dc_Right_bool pm_Right_bool an_Right_bool cd_Right_bool ct_Right_bool,
     a_pen := f_pen,
     d_pen := PySem.W.fnOf "_law_pen" "_law_pen" (defArgs s_pen) (defBody s_pen) (defScope s_pen) .none kV_pen dc_pen pm_pen an_pen cd_pen ct_pen,
     a_draw := f_draw,
     d_draw := PySem.W.fnOf "_law_draw" "_law_draw" (defArgs s_draw) (defBody s_draw) (defScope s_draw) .none kV_draw dc_draw pm_draw an_draw cd_draw ct_draw,
     a_field := f_field,
     d_field := PySem.W.fnOf "_law_field" "_law_field" (defArgs s_field) (defBody s_field) (defScope s_field) .none kV_field dc_field pm_field an_field cd_field ct_field,
     a_made := f_made,
     d_made := PySem.W.fnOf "_law_made" "_law_made" (defArgs s_made) (defBody s_made) (defScope s_made) .none kV_made dc_made pm_made an_made cd_made ct_made,
     a_kept := f_kept,
     d_kept := PySem.W.fnOf "_law_kept" "_law_kept" (defArgs s_kept) (defBody s_kept) (defScope s_kept) .none kV_kept dc_kept pm_kept an_kept cd_kept ct_kept,
     a_sorts := f_sorts,
     d_sorts := PySem.W.fnOf "_law_sorts" "_law_sorts" (defArgs s_sorts) (defBody s_sorts) (defScope s_sorts) .none kV_sorts dc_sorts pm_sorts an_sorts cd_sorts ct_sorts,
     a_told := f_told,
     d_told := PySem.W.fnOf "_law_told" "_law_told" (defArgs s_told) (defBody s_told) (defScope s_told) .none kV_told dc_told pm_told an_told cd_told ct_told,
     a_compared := f_compared,
     d_compared := PySem.W.fnOf "_law_compared" "_law_compared" (defArgs s_compared) (defBody s_compared) (defScope s_compared) .none kV_compared dc_compared pm_compared an_compared cd_compared ct_compared,
     a_law := f_law,
     d_law := PySem.W.fnOf "law" "law" (defArgs s_law) (defBody s_law) (defScope s_law) .none kV_law dc_law pm_law an_law cd_law ct_law,
     c_Still := c_Still,
     c_Clash := c_Clash,
     c_Wrong := c_Wrong,
     c_Right := c_Right,
     c_Finding := c_Finding },
   { n_list := PySem.W.mg_none_of X G n_list,
     n_int := PySem.W.mg_none_of X G n_int,
     n_len := PySem.W.mg_none_of X G n_len,
     n_abs := PySem.W.mg_none_of X G n_abs,
     n_isinstance := PySem.W.mg_none_of X G n_isinstance,
     n_repr := PySem.W.mg_none_of X G n_repr,
     n_range := PySem.W.mg_none_of X G n_range,
     n_bool := PySem.W.mg_none_of X G n_bool,
     n_tuple := PySem.W.mg_none_of X G n_tuple,
     F_Still_init := fun_mk (st := s_Still_init) l_Still_init e_Still_init p_Still_init,
     b_Still_init := (fun_mk (st := s_Still_init) l_Still_init e_Still_init p_Still_init).binds (ps := ["self", "ring"]) fun _ _ _ _ _ _ us hl => match us, hl with | [_, _], _ => rfl,
     fi_Still_eq := a_Still_eq,
     fo_Still_eq := i_Still_eq,
     F_Still_eq := fun_mk (st := s_Still_eq) l_Still_eq e_Still_eq p_Still_eq,
     b_Still_eq := (fun_mk (st := s_Still_eq) l_Still_eq e_Still_eq p_Still_eq).binds (ps := ["self", "other"]) fun _ _ _ _ _ _ us hl => match us, hl with | [_, _], _ => rfl,
     fi_Still_bool := a_Still_bool,
     fo_Still_bool := i_Still_bool,
     F_Still_bool := fun_mk (st := s_Still_bool) l_Still_bool e_Still_bool p_Still_bool,
     b_Still_bool := (fun_mk (st := s_Still_bool) l_Still_bool e_Still_bool p_Still_bool).binds (ps := ["self"]) fun _ _ _ _ _ _ us hl => match us, hl with | [_], _ => rfl,
     F_Clash_init := fun_mk (st := s_Clash_init) l_Clash_init e_Clash_init p_Clash_init,
     b_Clash_init := (fun_mk (st := s_Clash_init) l_Clash_init e_Clash_init p_Clash_init).binds (ps := ["self", "one", "other", "run"]) fun _ _ _ _ _ _ us hl => match us, hl with | [_, _, _, _], _ => rfl,
     fi_Clash_eq := a_Clash_eq,
     fo_Clash_eq := i_Clash_eq,
     F_Clash_eq := fun_mk (st := s_Clash_eq) l_Clash_eq e_Clash_eq p_Clash_eq,
     b_Clash_eq := (fun_mk (st := s_Clash_eq) l_Clash_eq e_Clash_eq p_Clash_eq).binds (ps := ["self", "other"]) fun _ _ _ _ _ _ us hl => match us, hl with | [_, _], _ => rfl,
     fi_Clash_bool := a_Clash_bool,
     fo_Clash_bool := i_Clash_bool,
     F_Clash_bool := fun_mk (st := s_Clash_bool) l_Clash_bool e_Clash_bool p_Clash_bool,
     b_Clash_bool := (fun_mk (st := s_Clash_bool) l_Clash_bool e_Clash_bool p_Clash_bool).binds (ps := ["self"]) fun _ _ _ _ _ _ us hl => match us, hl with | [_], _ => rfl,
     F_Wrong_init := fun_mk (st := s_Wrong_init) l_Wrong_init e_Wrong_init p_Wrong_init,
     b_Wrong_init := (fun_mk (st := s_Wrong_init) l_Wrong_init e_Wrong_init p_Wrong_init).binds (ps := ["self", "rows", "eager", "whole"]) fun _ _ _ _ _ _ us hl => match us, hl with | [_, _, _, _], _ => rfl,
     fi_Wrong_eq := a_Wrong_eq,
     fo_Wrong_eq := i_Wrong_eq,
     F_Wrong_eq := fun_mk (st := s_Wrong_eq) l_Wrong_eq e_Wrong_eq p_Wrong_eq,
     b_Wrong_eq := (fun_mk (st := s_Wrong_eq) l_Wrong_eq e_Wrong_eq p_Wrong_eq).binds (ps := ["self", "other"]) fun _ _ _ _ _ _ us hl => match us, hl with | [_, _], _ => rfl,
     fi_Wrong_bool := a_Wrong_bool,
     fo_Wrong_bool := i_Wrong_bool,
     F_Wrong_bool := fun_mk (st := s_Wrong_bool) l_Wrong_bool e_Wrong_bool p_Wrong_bool,
     b_Wrong_bool := (fun_mk (st := s_Wrong_bool) l_Wrong_bool e_Wrong_bool p_Wrong_bool).binds (ps := ["self"]) fun _ _ _ _ _ _ us hl => match us, hl with | [_], _ => rfl,
     F_Right_init := fun_mk (st := s_Right_init) l_Right_init e_Right_init p_Right_init,
     b_Right_init := (fun_mk (st := s_Right_init) l_Right_init e_Right_init p_Right_init).binds (ps := ["self", "steps", "ways", "eager", "whole"]) fun _ _ _ _ _ _ us hl => match us, hl with | [_, _, _, _, _], _ => rfl,
     fi_Right_eq := a_Right_eq,
     fo_Right_eq := i_Right_eq,
     F_Right_eq := fun_mk (st := s_Right_eq) l_Right_eq e_Right_eq p_Right_eq,
     b_Right_eq := (fun_mk (st := s_Right_eq) l_Right_eq e_Right_eq p_Right_eq).binds (ps := ["self", "other"]) fun _ _ _ _ _ _ us hl => match us, hl with | [_, _], _ => rfl,
     fi_Right_bool := a_Right_bool,
     fo_Right_bool := i_Right_bool,
     F_Right_bool := fun_mk (st := s_Right_bool) l_Right_bool e_Right_bool p_Right_bool,
     b_Right_bool := (fun_mk (st := s_Right_bool) l_Right_bool e_Right_bool p_Right_bool).binds (ps := ["self"]) fun _ _ _ _ _ _ us hl => match us, hl with | [_], _ => rfl,
     F_pen := fun_mk (st := s_pen) l_pen e_pen p_pen,
     g_pen := PySem.W.mg_of X G a_pen,
     b_pen := (fun_mk (st := s_pen) l_pen e_pen p_pen).binds (ps := ["_law_script"]) fun _ _ _ _ _ _ us hl => match us, hl with | [_], _ => rfl,
     F_draw := fun_mk (st := s_draw) l_draw e_draw p_draw,
     g_draw := PySem.W.mg_of X G a_draw,
     b_draw := (fun_mk (st := s_draw) l_draw e_draw p_draw).binds (ps := ["_law_pen_here", "_law_many"]) fun _ _ _ _ _ _ us hl => match us, hl with | [_, _], _ => rfl,
     F_field := fun_mk (st := s_field) l_field e_field p_field,
     g_field := PySem.W.mg_of X G a_field,
     b_field := (fun_mk (st := s_field) l_field e_field p_field).binds (ps := ["_law_pen_here"]) fun _ _ _ _ _ _ us hl => match us, hl with | [_], _ => rfl,
     F_made := fun_mk (st := s_made) l_made e_made p_made,
     g_made := PySem.W.mg_of X G a_made,
     b_made := (fun_mk (st := s_made) l_made e_made p_made).binds (ps := ["_law_at", "_law_fields"]) fun _ _ _ _ _ _ us hl => match us, hl with | [_, _], _ => rfl,
     F_kept := fun_mk (st := s_kept) l_kept e_kept p_kept,
     g_kept := PySem.W.mg_of X G a_kept,
     b_kept := (fun_mk (st := s_kept) l_kept e_kept p_kept).binds (ps := ["_law_at", "_law_finding"]) fun _ _ _ _ _ _ us hl => match us, hl with | [_, _], _ => rfl,
     F_sorts := fun_mk (st := s_sorts) l_sorts e_sorts p_sorts,
     g_sorts := PySem.W.mg_of X G a_sorts,
     b_sorts := (fun_mk (st := s_sorts) l_sorts e_sorts p_sorts).binds (ps := ["_law_finding"]) fun _ _ _ _ _ _ us hl => match us, hl with | [_], _ => rfl,
     F_told := fun_mk (st := s_told) l_told e_told p_told,
     g_told := PySem.W.mg_of X G a_told,
     b_told := (fun_mk (st := s_told) l_told e_told p_told).binds (ps := ["_law_at", "_law_fields"]) fun _ _ _ _ _ _ us hl => match us, hl with | [_, _], _ => rfl,
     F_compared := fun_mk (st := s_compared) l_compared e_compared p_compared,
     g_compared := PySem.W.mg_of X G a_compared,
     b_compared := (fun_mk (st := s_compared) l_compared e_compared p_compared).binds (ps := ["_law_pen_here", "_law_at", "_law_fields"]) fun _ _ _ _ _ _ us hl => match us, hl with | [_, _, _], _ => rfl,
     F_law := fun_mk (st := s_law) l_law e_law p_law,
     g_law := PySem.W.mg_of X G a_law,
     b_law := (fun_mk (st := s_law) l_law e_law p_law).binds (ps := ["_law_script"]) fun _ _ _ _ _ _ us hl => match us, hl with | [_], _ => rfl,
     g_Still := PySem.W.mg_of X G a_Still,
     cl_Still := ⟨pg_Still, hd_Still, po_Still, sa_Still⟩,
     na_Still_word := na_Still_word,
     na_Still_ring := na_Still_ring,
     mk_Still := ⟨mk_Still, a_Still_init, i_Still_init, kc_Still⟩,
     g_Clash := PySem.W.mg_of X G a_Clash,
     cl_Clash := ⟨pg_Clash, hd_Clash, po_Clash, sa_Clash⟩,
     na_Clash_word := na_Clash_word,
     na_Clash_one := na_Clash_one,
     na_Clash_other := na_Clash_other,
     na_Clash_run := na_Clash_run,
     mk_Clash := ⟨mk_Clash, a_Clash_init, i_Clash_init, kc_Clash⟩,
     g_Wrong := PySem.W.mg_of X G a_Wrong,
     cl_Wrong := ⟨pg_Wrong, hd_Wrong, po_Wrong, sa_Wrong⟩,
     na_Wrong_word := na_Wrong_word,
     na_Wrong_rows := na_Wrong_rows,
     na_Wrong_eager := na_Wrong_eager,
     na_Wrong_whole := na_Wrong_whole,
     mk_Wrong := ⟨mk_Wrong, a_Wrong_init, i_Wrong_init, kc_Wrong⟩,
     g_Right := PySem.W.mg_of X G a_Right,
     cl_Right := ⟨pg_Right, hd_Right, po_Right, sa_Right⟩,
     na_Right_word := na_Right_word,
     na_Right_steps := na_Right_steps,
     na_Right_ways := na_Right_ways,
     na_Right_eager := na_Right_eager,
     na_Right_whole := na_Right_whole,
     mk_Right := ⟨mk_Right, a_Right_init, i_Right_init, kc_Right⟩,
     g_Finding := PySem.W.mg_of X G a_Finding,
     cl_Finding := ⟨pg_Finding, hd_Finding, po_Finding, sa_Finding⟩,
     ki_Still_Still := Lay.kit_own mo_Still ty_Still ss_Still ss_Still,
     ki_Still_Clash := Lay.kit_own mo_Clash ty_Clash ss_Clash sb_Still_Clash,
     sb_Still_Clash := sb_Still_Clash,
     ki_Still_Wrong := Lay.kit_own mo_Wrong ty_Wrong ss_Wrong sb_Still_Wrong,
     sb_Still_Wrong := sb_Still_Wrong,
     ki_Still_Right := Lay.kit_own mo_Right ty_Right ss_Right sb_Still_Right,
     sb_Still_Right := sb_Still_Right,
     ki_Still_Finding := Lay.kit_own mo_Finding ty_Finding ss_Finding sb_Still_Finding,
     sp_NoneType_Still := sp_NoneType_Still,
     kp_NoneType_Still := Lay.kit_prim mo_Still ty_Still sp_NoneType_Still,
     sp_bool_Still := sp_bool_Still,
     kp_bool_Still := Lay.kit_prim mo_Still ty_Still sp_bool_Still,
     sp_int_Still := sp_int_Still,
     kp_int_Still := Lay.kit_prim mo_Still ty_Still sp_int_Still,
     sp_str_Still := sp_str_Still,
     kp_str_Still := Lay.kit_prim mo_Still ty_Still sp_str_Still,
     sp_list_Still := sp_list_Still,
     kp_list_Still := Lay.kit_prim mo_Still ty_Still sp_list_Still,
     sp_tuple_Still := sp_tuple_Still,
     kp_tuple_Still := Lay.kit_prim mo_Still ty_Still sp_tuple_Still,
     sp_dict_Still := sp_dict_Still,
     kp_dict_Still := Lay.kit_prim mo_Still ty_Still sp_dict_Still,
     ki_Clash_Still := Lay.kit_own mo_Still ty_Still ss_Still sb_Clash_Still,
     sb_Clash_Still := sb_Clash_Still,
     ki_Clash_Clash := Lay.kit_own mo_Clash ty_Clash ss_Clash ss_Clash,
     ki_Clash_Wrong := Lay.kit_own mo_Wrong ty_Wrong ss_Wrong sb_Clash_Wrong,
     sb_Clash_Wrong := sb_Clash_Wrong,
     ki_Clash_Right := Lay.kit_own mo_Right ty_Right ss_Right sb_Clash_Right,
     sb_Clash_Right := sb_Clash_Right,
     ki_Clash_Finding := Lay.kit_own mo_Finding ty_Finding ss_Finding sb_Clash_Finding,
     sp_NoneType_Clash := sp_NoneType_Clash,
     kp_NoneType_Clash := Lay.kit_prim mo_Clash ty_Clash sp_NoneType_Clash,
     sp_bool_Clash := sp_bool_Clash,
     kp_bool_Clash := Lay.kit_prim mo_Clash ty_Clash sp_bool_Clash,
     sp_int_Clash := sp_int_Clash,
     kp_int_Clash := Lay.kit_prim mo_Clash ty_Clash sp_int_Clash,
     sp_str_Clash := sp_str_Clash,
     kp_str_Clash := Lay.kit_prim mo_Clash ty_Clash sp_str_Clash,
     sp_list_Clash := sp_list_Clash,
     kp_list_Clash := Lay.kit_prim mo_Clash ty_Clash sp_list_Clash,
     sp_tuple_Clash := sp_tuple_Clash,
     kp_tuple_Clash := Lay.kit_prim mo_Clash ty_Clash sp_tuple_Clash,
     sp_dict_Clash := sp_dict_Clash,
     kp_dict_Clash := Lay.kit_prim mo_Clash ty_Clash sp_dict_Clash,
     ki_Wrong_Still := Lay.kit_own mo_Still ty_Still ss_Still sb_Wrong_Still,
     sb_Wrong_Still := sb_Wrong_Still,
     ki_Wrong_Clash := Lay.kit_own mo_Clash ty_Clash ss_Clash sb_Wrong_Clash,
     sb_Wrong_Clash := sb_Wrong_Clash,
     ki_Wrong_Wrong := Lay.kit_own mo_Wrong ty_Wrong ss_Wrong ss_Wrong,
     ki_Wrong_Right := Lay.kit_own mo_Right ty_Right ss_Right sb_Wrong_Right,
     sb_Wrong_Right := sb_Wrong_Right,
     ki_Wrong_Finding := Lay.kit_own mo_Finding ty_Finding ss_Finding sb_Wrong_Finding,
     sp_NoneType_Wrong := sp_NoneType_Wrong,
     kp_NoneType_Wrong := Lay.kit_prim mo_Wrong ty_Wrong sp_NoneType_Wrong,
     sp_bool_Wrong := sp_bool_Wrong,
     kp_bool_Wrong := Lay.kit_prim mo_Wrong ty_Wrong sp_bool_Wrong,
     sp_int_Wrong := sp_int_Wrong,
     kp_int_Wrong := Lay.kit_prim mo_Wrong ty_Wrong sp_int_Wrong,
     sp_str_Wrong := sp_str_Wrong,
     kp_str_Wrong := Lay.kit_prim mo_Wrong ty_Wrong sp_str_Wrong,
     sp_list_Wrong := sp_list_Wrong,
     kp_list_Wrong := Lay.kit_prim mo_Wrong ty_Wrong sp_list_Wrong,
     sp_tuple_Wrong := sp_tuple_Wrong,
     kp_tuple_Wrong := Lay.kit_prim mo_Wrong ty_Wrong sp_tuple_Wrong,
     sp_dict_Wrong := sp_dict_Wrong,
     kp_dict_Wrong := Lay.kit_prim mo_Wrong ty_Wrong sp_dict_Wrong,
     ki_Right_Still := Lay.kit_own mo_Still ty_Still ss_Still sb_Right_Still,
     sb_Right_Still := sb_Right_Still,
     ki_Right_Clash := Lay.kit_own mo_Clash ty_Clash ss_Clash sb_Right_Clash,
     sb_Right_Clash := sb_Right_Clash,
     ki_Right_Wrong := Lay.kit_own mo_Wrong ty_Wrong ss_Wrong sb_Right_Wrong,
     sb_Right_Wrong := sb_Right_Wrong,
     ki_Right_Right := Lay.kit_own mo_Right ty_Right ss_Right ss_Right,
     ki_Right_Finding := Lay.kit_own mo_Finding ty_Finding ss_Finding sb_Right_Finding,
     sp_NoneType_Right := sp_NoneType_Right,
     kp_NoneType_Right := Lay.kit_prim mo_Right ty_Right sp_NoneType_Right,
     sp_bool_Right := sp_bool_Right,
     kp_bool_Right := Lay.kit_prim mo_Right ty_Right sp_bool_Right,
     sp_int_Right := sp_int_Right,
     kp_int_Right := Lay.kit_prim mo_Right ty_Right sp_int_Right,
     sp_str_Right := sp_str_Right,
     kp_str_Right := Lay.kit_prim mo_Right ty_Right sp_str_Right,
     sp_list_Right := sp_list_Right,
     kp_list_Right := Lay.kit_prim mo_Right ty_Right sp_list_Right,
     sp_tuple_Right := sp_tuple_Right,
     kp_tuple_Right := Lay.kit_prim mo_Right ty_Right sp_tuple_Right,
     sp_dict_Right := sp_dict_Right,
     kp_dict_Right := Lay.kit_prim mo_Right ty_Right sp_dict_Right,
     in_Still := fun H a dx fs h => .base (.ins h ⟨pg_Still, hd_Still, po_Still, sa_Still⟩ ci_Still gg tk mo_Still),
     in_Clash := fun H a dx fs h => .base (.ins h ⟨pg_Clash, hd_Clash, po_Clash, sa_Clash⟩ ci_Clash gg tk mo_Clash),
     in_Wrong := fun H a dx fs h => .base (.ins h ⟨pg_Wrong, hd_Wrong, po_Wrong, sa_Wrong⟩ ci_Wrong gg tk mo_Wrong),
     in_Right := fun H a dx fs h => .base (.ins h ⟨pg_Right, hd_Right, po_Right, sa_Right⟩ ci_Right gg tk mo_Right) }⟩
end My

namespace My
open PySem L2
section
variable {P : Program} {w : World} {K : PySem.W.Frag} {mg : Str → Option Value} {base : Heap} {A : Adr}
theorem ok_Still_init (T : Txt K mg A) : FnOk P w K mg base CX0 1 A.a_Still_init A.d_Still_init ["self", "ring"] (Lay.spFInit A.c_Still "still" ["ring"]) := by
  refine T.F_Still_init.ok sc_Still_init (fun vs H Q E h => ?_) (fun cdv A0 outer s H vs Q E hr h => ?_)
  · obtain ⟨x, dx, us, rfl, hl, _⟩ := h
    rw [List.length_cons, hl]
    rfl
  · obtain ⟨x, dx, us, rfl, hl, hx, q⟩ := h
    obtain ⟨v0, rfl⟩ : ∃ v0 : V, us = [v0] := by
      match us, hl with
      | [v0], _ => exact ⟨v0, rfl⟩
    refine ⟨_, (pss_cons (ps_fld (pv 0) pe_str rfl)
    (pss_one (ps_fld (pv 0) (pv 1) rfl))), ?_⟩
    walk_at "in"
    walk_at "rd"
    refine Lay.rd_sFld ?_
    walk_at "rd"
    refine ⟨x, A.c_Still, dx, _, rfl, hx, T.cl_Still, T.na_Still_word, (by show 0 < 1000; decide), ?_⟩
    walk_at "rd"
    simp only [Lay.putF_nil]
    refine Lay.rd_sFld ?_
    walk_at "rd"
    refine ⟨x, A.c_Still, dx, _, rfl, upd_same, T.cl_Still, T.na_Still_ring, (by show 1 < 1000; decide), ?_⟩
    walk_at "rd"
    simp only [Lay.putF_nil, Lay.putF_cons (show ¬ (("word" : Str) = "ring") by decide +kernel)]
    refine q _ (by rw [upd_same]; rfl) (fun b o hb e => ?_)
    simp only [upd_ne hb]
    exact e
theorem ok_Clash_init (T : Txt K mg A) : FnOk P w K mg base CX0 1 A.a_Clash_init A.d_Clash_init ["self", "one", "other", "run"] (Lay.spFInit A.c_Clash "clash" ["one", "other", "run"]) := by
  refine T.F_Clash_init.ok sc_Clash_init (fun vs H Q E h => ?_) (fun cdv A0 outer s H vs Q E hr h => ?_)
  · obtain ⟨x, dx, us, rfl, hl, _⟩ := h
    rw [List.length_cons, hl]
    rfl
  · obtain ⟨x, dx, us, rfl, hl, hx, q⟩ := h
    obtain ⟨v0, v1, v2, rfl⟩ : ∃ v0 v1 v2 : V, us = [v0, v1, v2] := by
      match us, hl with
      | [v0, v1, v2], _ => exact ⟨v0, v1, v2, rfl⟩
    refine ⟨_, (pss_cons (ps_fld (pv 0) pe_str rfl)
    (pss_cons (ps_fld (pv 0) (pv 1) rfl)
    (pss_cons (ps_fld (pv 0) (pv 2) rfl)
    (pss_one (ps_fld (pv 0) (pv 3) rfl))))), ?_⟩
    walk_at "in"
    walk_at "rd"
    refine Lay.rd_sFld ?_
    walk_at "rd"
    refine ⟨x, A.c_Clash, dx, _, rfl, hx, T.cl_Clash, T.na_Clash_word, (by show 0 < 1000; decide), ?_⟩
    walk_at "rd"
    simp only [Lay.putF_nil]
    refine Lay.rd_sFld ?_
    walk_at "rd"
    refine ⟨x, A.c_Clash, dx, _, rfl, upd_same, T.cl_Clash, T.na_Clash_one, (by show 1 < 1000; decide), ?_⟩
    walk_at "rd"
    simp only [Lay.putF_nil, Lay.putF_cons (show ¬ (("word" : Str) = "one") by decide +kernel)]
    refine Lay.rd_sFld ?_
    walk_at "rd"
    refine ⟨x, A.c_Clash, dx, _, rfl, upd_same, T.cl_Clash, T.na_Clash_other, (by show 2 < 1000; decide), ?_⟩
    walk_at "rd"
    simp only [Lay.putF_nil, Lay.putF_cons (show ¬ (("word" : Str) = "other") by decide +kernel), Lay.putF_cons (show ¬ (("one" : Str) = "other") by decide +kernel)]
    refine Lay.rd_sFld ?_
    walk_at "rd"
    refine ⟨x, A.c_Clash, dx, _, rfl, upd_same, T.cl_Clash, T.na_Clash_run, (by show 3 < 1000; decide), ?_⟩
    walk_at "rd"
    simp only [Lay.putF_nil, Lay.putF_cons (show ¬ (("word" : Str) = "run") by decide +kernel), Lay.putF_cons (show ¬ (("one" : Str) = "run") by decide +kernel), Lay.putF_cons (show ¬ (("other" : Str) = "run") by decide +kernel)]
    refine q _ (by rw [upd_same]; rfl) (fun b o hb e => ?_)
    simp only [upd_ne hb]
    exact e
theorem ok_Wrong_init (T : Txt K mg A) : FnOk P w K mg base CX0 1 A.a_Wrong_init A.d_Wrong_init ["self", "rows", "eager", "whole"] (Lay.spFInit A.c_Wrong "wrong" ["rows", "eager", "whole"]) := by
  refine T.F_Wrong_init.ok sc_Wrong_init (fun vs H Q E h => ?_) (fun cdv A0 outer s H vs Q E hr h => ?_)
  · obtain ⟨x, dx, us, rfl, hl, _⟩ := h
    rw [List.length_cons, hl]
    rfl
  · obtain ⟨x, dx, us, rfl, hl, hx, q⟩ := h
    obtain ⟨v0, v1, v2, rfl⟩ : ∃ v0 v1 v2 : V, us = [v0, v1, v2] := by
      match us, hl with
      | [v0, v1, v2], _ => exact ⟨v0, v1, v2, rfl⟩
    refine ⟨_, (pss_cons (ps_fld (pv 0) pe_str rfl)
    (pss_cons (ps_fld (pv 0) (pv 1) rfl)
    (pss_cons (ps_fld (pv 0) (pv 2) rfl)
    (pss_one (ps_fld (pv 0) (pv 3) rfl))))), ?_⟩
    walk_at "in"
    walk_at "rd"
    refine Lay.rd_sFld ?_
    walk_at "rd"
    refine ⟨x, A.c_Wrong, dx, _, rfl, hx, T.cl_Wrong, T.na_Wrong_word, (by show 0 < 1000; decide), ?_⟩
    walk_at "rd"
    simp only [Lay.putF_nil]
    refine Lay.rd_sFld ?_
    walk_at "rd"
    refine ⟨x, A.c_Wrong, dx, _, rfl, upd_same, T.cl_Wrong, T.na_Wrong_rows, (by show 1 < 1000; decide), ?_⟩
    walk_at "rd"
    simp only [Lay.putF_nil, Lay.putF_cons (show ¬ (("word" : Str) = "rows") by decide +kernel)]
    refine Lay.rd_sFld ?_
    walk_at "rd"
    refine ⟨x, A.c_Wrong, dx, _, rfl, upd_same, T.cl_Wrong, T.na_Wrong_eager, (by show 2 < 1000; decide), ?_⟩
    walk_at "rd"
    simp only [Lay.putF_nil, Lay.putF_cons (show ¬ (("word" : Str) = "eager") by decide +kernel), Lay.putF_cons (show ¬ (("rows" : Str) = "eager") by decide +kernel)]
    refine Lay.rd_sFld ?_
    walk_at "rd"
    refine ⟨x, A.c_Wrong, dx, _, rfl, upd_same, T.cl_Wrong, T.na_Wrong_whole, (by show 3 < 1000; decide), ?_⟩
    walk_at "rd"
    simp only [Lay.putF_nil, Lay.putF_cons (show ¬ (("word" : Str) = "whole") by decide +kernel), Lay.putF_cons (show ¬ (("rows" : Str) = "whole") by decide +kernel), Lay.putF_cons (show ¬ (("eager" : Str) = "whole") by decide +kernel)]
    refine q _ (by rw [upd_same]; rfl) (fun b o hb e => ?_)
    simp only [upd_ne hb]
    exact e
theorem ok_Right_init (T : Txt K mg A) : FnOk P w K mg base CX0 1 A.a_Right_init A.d_Right_init ["self", "steps", "ways", "eager", "whole"] (Lay.spFInit A.c_Right "right" ["steps", "ways", "eager", "whole"]) := by
  refine T.F_Right_init.ok sc_Right_init (fun vs H Q E h => ?_) (fun cdv A0 outer s H vs Q E hr h => ?_)
  · obtain ⟨x, dx, us, rfl, hl, _⟩ := h
    rw [List.length_cons, hl]
    rfl
  · obtain ⟨x, dx, us, rfl, hl, hx, q⟩ := h
    obtain ⟨v0, v1, v2, v3, rfl⟩ : ∃ v0 v1 v2 v3 : V, us = [v0, v1, v2, v3] := by
      match us, hl with
      | [v0, v1, v2, v3], _ => exact ⟨v0, v1, v2, v3, rfl⟩
    refine ⟨_, (pss_cons (ps_fld (pv 0) pe_str rfl)
    (pss_cons (ps_fld (pv 0) (pv 1) rfl)
    (pss_cons (ps_fld (pv 0) (pv 2) rfl)
    (pss_cons (ps_fld (pv 0) (pv 3) rfl)
    (pss_one (ps_fld (pv 0) (pv 4) rfl)))))), ?_⟩
    walk_at "in"
    walk_at "rd"
    refine Lay.rd_sFld ?_
    walk_at "rd"
    refine ⟨x, A.c_Right, dx, _, rfl, hx, T.cl_Right, T.na_Right_word, (by show 0 < 1000; decide), ?_⟩
    walk_at "rd"
    simp only [Lay.putF_nil]
    refine Lay.rd_sFld ?_
    walk_at "rd"
    refine ⟨x, A.c_Right, dx, _, rfl, upd_same, T.cl_Right, T.na_Right_steps, (by show 1 < 1000; decide), ?_⟩
    walk_at "rd"
    simp only [Lay.putF_nil, Lay.putF_cons (show ¬ (("word" : Str) = "steps") by decide +kernel)]
    refine Lay.rd_sFld ?_
    walk_at "rd"
    refine ⟨x, A.c_Right, dx, _, rfl, upd_same, T.cl_Right, T.na_Right_ways, (by show 2 < 1000; decide), ?_⟩
    walk_at "rd"
    simp only [Lay.putF_nil, Lay.putF_cons (show ¬ (("word" : Str) = "ways") by decide +kernel), Lay.putF_cons (show ¬ (("steps" : Str) = "ways") by decide +kernel)]
    refine Lay.rd_sFld ?_
    walk_at "rd"
    refine ⟨x, A.c_Right, dx, _, rfl, upd_same, T.cl_Right, T.na_Right_eager, (by show 3 < 1000; decide), ?_⟩
    walk_at "rd"
    simp only [Lay.putF_nil, Lay.putF_cons (show ¬ (("word" : Str) = "eager") by decide +kernel), Lay.putF_cons (show ¬ (("steps" : Str) = "eager") by decide +kernel), Lay.putF_cons (show ¬ (("ways" : Str) = "eager") by decide +kernel)]
    refine Lay.rd_sFld ?_
    walk_at "rd"
    refine ⟨x, A.c_Right, dx, _, rfl, upd_same, T.cl_Right, T.na_Right_whole, (by show 4 < 1000; decide), ?_⟩
    walk_at "rd"
    simp only [Lay.putF_nil, Lay.putF_cons (show ¬ (("word" : Str) = "whole") by decide +kernel), Lay.putF_cons (show ¬ (("steps" : Str) = "whole") by decide +kernel), Lay.putF_cons (show ¬ (("ways" : Str) = "whole") by decide +kernel), Lay.putF_cons (show ¬ (("eager" : Str) = "whole") by decide +kernel)]
    refine q _ (by rw [upd_same]; rfl) (fun b o hb e => ?_)
    simp only [upd_ne hb]
    exact e
theorem eqXs1 {d0 e0 : PySem.PyData} : Lay.eqXs 1 [d0] [e0] = Lay.eqX d0 e0 := by
  simp [Lay.eqXs, Lay.atD, List.range, List.range.loop]
theorem eqXs3 {d0 d1 d2 e0 e1 e2 : PySem.PyData} : Lay.eqXs 3 [d0, d1, d2] [e0, e1, e2] = (Lay.eqX d0 e0 && (Lay.eqX d1 e1 && Lay.eqX d2 e2)) := by
  simp [Lay.eqXs, Lay.atD, List.range, List.range.loop]
theorem eqXs4 {d0 d1 d2 d3 e0 e1 e2 e3 : PySem.PyData} : Lay.eqXs 4 [d0, d1, d2, d3] [e0, e1, e2, e3] = (Lay.eqX d0 e0 && (Lay.eqX d1 e1 && (Lay.eqX d2 e2 && Lay.eqX d3 e3))) := by
  simp [Lay.eqXs, Lay.atD, List.range, List.range.loop]
theorem ok_Still_eq (T : Txt K mg A) : FnOk P w K mg base CX0 1 A.a_Still_eq A.d_Still_eq ["self", "other"] (Lay.spFEq K A.c_Still "still" ["ring"]) := by
  refine T.F_Still_eq.ok sc_Still_eq (fun vs H Q E h => ?_) (fun cdv A0 outer s H vs Q E hr h => ?_)
  · obtain ⟨a, y, us, rfl, _⟩ := h
    rfl
  · obtain ⟨a, y, us, rfl, ⟨⟨dx, hx⟩, hl⟩, harg⟩ := h
    obtain ⟨v0, rfl⟩ : ∃ v0 : V, us = [v0] := by
      match us, hl with
      | [v0], _ => exact ⟨v0, rfl⟩
    refine ⟨_, (pss_one (ps_ret (pe_and (pe_callB call_isi (by rfl) T.n_isinstance (by decide +kernel) (pa_cons (pv 1) (pa_cons (pe_glob (v := .ref A.c_Still) rfl T.g_Still rfl) pa_nil))) (pe_one (pe_cmpR (Lay.op_eqX hr.units) (pe_fld (pv 0) rfl) (pe_fld (pv 1) rfl) (nomark _)))))), ?_⟩
    walk_at "in"
    walk_at "rd"
    rcases harg with ⟨TT, ht, hk, q⟩ | ⟨b, ws, ds, es, rfl, ⟨⟨dy, hy⟩, gl⟩, hd, he, q⟩
    · refine Lay.rd_isiC ht hk ?_
      walk_at "it"
      exact q
    · obtain ⟨w0, rfl⟩ : ∃ w0 : V, ws = [w0] := by
        match ws, gl with
        | [w0], _ => exact ⟨w0, rfl⟩
      obtain ⟨d0, dr0, rfl, fhd0, hdt0⟩ : ∃ x xs, ds = x :: xs ∧ Lay.Fv K H v0 x ∧ Paired (Lay.Fv K H) [] xs := by
        cases hd with
        | cons r t => exact ⟨_, _, rfl, r, t⟩
      obtain rfl : dr0 = [] := by cases hdt0; rfl
      obtain ⟨e0, er0, rfl, fhe0, het0⟩ : ∃ x xs, es = x :: xs ∧ Lay.Fv K H w0 x ∧ Paired (Lay.Fv K H) [] xs := by
        cases he with
        | cons r t => exact ⟨_, _, rfl, r, t⟩
      obtain rfl : er0 = [] := by cases het0; rfl
      rw [show Lay.eqXs (["ring"] : List Str).length _ _ = _ from eqXs1] at q
      refine Lay.rd_isiC (T.in_Still _ b dy _ hy) T.ki_Still_Still ?_
      walk_at "it"
      refine Lay.rd_tFld ?_
      walk_at "rd"
      refine ⟨a, _, dx, _, v0, rfl, hx, T.cl_Still, T.na_Still_ring, by rfl, ?_⟩
      walk_at "rd"
      refine Lay.rd_tFld ?_
      walk_at "rd"
      refine ⟨b, _, dy, _, w0, rfl, hy, T.cl_Still, T.na_Still_ring, by rfl, ?_⟩
      walk_at "rd"
      refine ⟨d0, e0, fhd0, fhe0, ?_⟩
      exact q
theorem ok_Still_bool (T : Txt K mg A) : FnOk P w K mg base CX0 1 A.a_Still_bool A.d_Still_bool ["self"] (Lay.spFBool A.c_Still "still" ["ring"] false) := by
  refine T.F_Still_bool.ok sc_Still_bool (fun vs H Q E h => ?_) (fun cdv A0 outer s H vs Q E hr h => ?_)
  · obtain ⟨a, us, rfl, _⟩ := h
    rfl
  · obtain ⟨a, us, rfl, hf, q⟩ := h
    refine ⟨_, (pss_one (ps_ret pe_bl)), ?_⟩
    walk_at "in"
    walk_at "rd"
    exact q
theorem ok_Clash_eq (T : Txt K mg A) : FnOk P w K mg base CX0 1 A.a_Clash_eq A.d_Clash_eq ["self", "other"] (Lay.spFEq K A.c_Clash "clash" ["one", "other", "run"]) := by
  refine T.F_Clash_eq.ok sc_Clash_eq (fun vs H Q E h => ?_) (fun cdv A0 outer s H vs Q E hr h => ?_)
  · obtain ⟨a, y, us, rfl, _⟩ := h
    rfl
  · obtain ⟨a, y, us, rfl, ⟨⟨dx, hx⟩, hl⟩, harg⟩ := h
    obtain ⟨v0, v1, v2, rfl⟩ : ∃ v0 v1 v2 : V, us = [v0, v1, v2] := by
      match us, hl with
      | [v0, v1, v2], _ => exact ⟨v0, v1, v2, rfl⟩
    refine ⟨_, (pss_one (ps_ret (pe_and (pe_callB call_isi (by rfl) T.n_isinstance (by decide +kernel) (pa_cons (pv 1) (pa_cons (pe_glob (v := .ref A.c_Clash) rfl T.g_Clash rfl) pa_nil))) (pe_and (pe_cmpR (Lay.op_eqX hr.units) (pe_fld (pv 0) rfl) (pe_fld (pv 1) rfl) (nomark _)) (pe_and (pe_cmpR (Lay.op_eqX hr.units) (pe_fld (pv 0) rfl) (pe_fld (pv 1) rfl) (nomark _)) (pe_one (pe_cmpR (Lay.op_eqX hr.units) (pe_fld (pv 0) rfl) (pe_fld (pv 1) rfl) (nomark _)))))))), ?_⟩
    walk_at "in"
    walk_at "rd"
    rcases harg with ⟨TT, ht, hk, q⟩ | ⟨b, ws, ds, es, rfl, ⟨⟨dy, hy⟩, gl⟩, hd, he, q⟩
    · refine Lay.rd_isiC ht hk ?_
      walk_at "it"
      exact q
    · obtain ⟨w0, w1, w2, rfl⟩ : ∃ w0 w1 w2 : V, ws = [w0, w1, w2] := by
        match ws, gl with
        | [w0, w1, w2], _ => exact ⟨w0, w1, w2, rfl⟩
      obtain ⟨d0, dr0, rfl, fhd0, hdt0⟩ : ∃ x xs, ds = x :: xs ∧ Lay.Fv K H v0 x ∧ Paired (Lay.Fv K H) [v1, v2] xs := by
        cases hd with
        | cons r t => exact ⟨_, _, rfl, r, t⟩
      obtain ⟨d1, dr1, rfl, fhd1, hdt1⟩ : ∃ x xs, dr0 = x :: xs ∧ Lay.Fv K H v1 x ∧ Paired (Lay.Fv K H) [v2] xs := by
        cases hdt0 with
        | cons r t => exact ⟨_, _, rfl, r, t⟩
      obtain ⟨d2, dr2, rfl, fhd2, hdt2⟩ : ∃ x xs, dr1 = x :: xs ∧ Lay.Fv K H v2 x ∧ Paired (Lay.Fv K H) [] xs := by
        cases hdt1 with
        | cons r t => exact ⟨_, _, rfl, r, t⟩
      obtain rfl : dr2 = [] := by cases hdt2; rfl
      obtain ⟨e0, er0, rfl, fhe0, het0⟩ : ∃ x xs, es = x :: xs ∧ Lay.Fv K H w0 x ∧ Paired (Lay.Fv K H) [w1, w2] xs := by
        cases he with
        | cons r t => exact ⟨_, _, rfl, r, t⟩
      obtain ⟨e1, er1, rfl, fhe1, het1⟩ : ∃ x xs, er0 = x :: xs ∧ Lay.Fv K H w1 x ∧ Paired (Lay.Fv K H) [w2] xs := by
        cases het0 with
        | cons r t => exact ⟨_, _, rfl, r, t⟩
      obtain ⟨e2, er2, rfl, fhe2, het2⟩ : ∃ x xs, er1 = x :: xs ∧ Lay.Fv K H w2 x ∧ Paired (Lay.Fv K H) [] xs := by
        cases het1 with
        | cons r t => exact ⟨_, _, rfl, r, t⟩
      obtain rfl : er2 = [] := by cases het2; rfl
      rw [show Lay.eqXs (["one", "other", "run"] : List Str).length _ _ = _ from eqXs3] at q
      refine Lay.rd_isiC (T.in_Clash _ b dy _ hy) T.ki_Clash_Clash ?_
      walk_at "it"
      refine Lay.rd_tFld ?_
      walk_at "rd"
      refine ⟨a, _, dx, _, v0, rfl, hx, T.cl_Clash, T.na_Clash_one, by rfl, ?_⟩
      walk_at "rd"
      refine Lay.rd_tFld ?_
      walk_at "rd"
      refine ⟨b, _, dy, _, w0, rfl, hy, T.cl_Clash, T.na_Clash_one, by rfl, ?_⟩
      walk_at "rd"
      refine ⟨d0, e0, fhd0, fhe0, ?_⟩
      cases g0 : Lay.eqX d0 e0 with
      | false =>
        rw [g0, Bool.false_and] at q
        walk_at "it"
        exact q
      | true =>
      rw [g0, Bool.true_and] at q
      walk_at "it"
      refine Lay.rd_tFld ?_
      walk_at "rd"
      refine ⟨a, _, dx, _, v1, rfl, hx, T.cl_Clash, T.na_Clash_other, by rfl, ?_⟩
      walk_at "rd"
      refine Lay.rd_tFld ?_
      walk_at "rd"
      refine ⟨b, _, dy, _, w1, rfl, hy, T.cl_Clash, T.na_Clash_other, by rfl, ?_⟩
      walk_at "rd"
      refine ⟨d1, e1, fhd1, fhe1, ?_⟩
      cases g1 : Lay.eqX d1 e1 with
      | false =>
        rw [g1, Bool.false_and] at q
        walk_at "it"
        exact q
      | true =>
      rw [g1, Bool.true_and] at q
      walk_at "it"
      refine Lay.rd_tFld ?_
      walk_at "rd"
      refine ⟨a, _, dx, _, v2, rfl, hx, T.cl_Clash, T.na_Clash_run, by rfl, ?_⟩
      walk_at "rd"
      refine Lay.rd_tFld ?_
      walk_at "rd"
      refine ⟨b, _, dy, _, w2, rfl, hy, T.cl_Clash, T.na_Clash_run, by rfl, ?_⟩
      walk_at "rd"
      refine ⟨d2, e2, fhd2, fhe2, ?_⟩
      exact q
theorem ok_Clash_bool (T : Txt K mg A) : FnOk P w K mg base CX0 1 A.a_Clash_bool A.d_Clash_bool ["self"] (Lay.spFBool A.c_Clash "clash" ["one", "other", "run"] false) := by
  refine T.F_Clash_bool.ok sc_Clash_bool (fun vs H Q E h => ?_) (fun cdv A0 outer s H vs Q E hr h => ?_)
  · obtain ⟨a, us, rfl, _⟩ := h
    rfl
  · obtain ⟨a, us, rfl, hf, q⟩ := h
    refine ⟨_, (pss_one (ps_ret pe_bl)), ?_⟩
    walk_at "in"
    walk_at "rd"
    exact q
theorem ok_Wrong_eq (T : Txt K mg A) : FnOk P w K mg base CX0 1 A.a_Wrong_eq A.d_Wrong_eq ["self", "other"] (Lay.spFEq K A.c_Wrong "wrong" ["rows", "eager", "whole"]) := by
  refine T.F_Wrong_eq.ok sc_Wrong_eq (fun vs H Q E h => ?_) (fun cdv A0 outer s H vs Q E hr h => ?_)
  · obtain ⟨a, y, us, rfl, _⟩ := h
    rfl
  · obtain ⟨a, y, us, rfl, ⟨⟨dx, hx⟩, hl⟩, harg⟩ := h
    obtain ⟨v0, v1, v2, rfl⟩ : ∃ v0 v1 v2 : V, us = [v0, v1, v2] := by
      match us, hl with
      | [v0, v1, v2], _ => exact ⟨v0, v1, v2, rfl⟩
    refine ⟨_, (pss_one (ps_ret (pe_and (pe_callB call_isi (by rfl) T.n_isinstance (by decide +kernel) (pa_cons (pv 1) (pa_cons (pe_glob (v := .ref A.c_Wrong) rfl T.g_Wrong rfl) pa_nil))) (pe_and (pe_cmpR (Lay.op_eqX hr.units) (pe_fld (pv 0) rfl) (pe_fld (pv 1) rfl) (nomark _)) (pe_and (pe_cmpR (Lay.op_eqX hr.units) (pe_fld (pv 0) rfl) (pe_fld (pv 1) rfl) (nomark _)) (pe_one (pe_cmpR (Lay.op_eqX hr.units) (pe_fld (pv 0) rfl) (pe_fld (pv 1) rfl) (nomark _)))))))), ?_⟩
    walk_at "in"
    walk_at "rd"
    rcases harg with ⟨TT, ht, hk, q⟩ | ⟨b, ws, ds, es, rfl, ⟨⟨dy, hy⟩, gl⟩, hd, he, q⟩
    · refine Lay.rd_isiC ht hk ?_
      walk_at "it"
      exact q
    · obtain ⟨w0, w1, w2, rfl⟩ : ∃ w0 w1 w2 : V, ws = [w0, w1, w2] := by
        match ws, gl with
        | [w0, w1, w2], _ => exact ⟨w0, w1, w2, rfl⟩
      obtain ⟨d0, dr0, rfl, fhd0, hdt0⟩ : ∃ x xs, ds = x :: xs ∧ Lay.Fv K H v0 x ∧ Paired (Lay.Fv K H) [v1, v2] xs := by
        cases hd with
        | cons r t => exact ⟨_, _, rfl, r, t⟩
      obtain ⟨d1, dr1, rfl, fhd1, hdt1⟩ : ∃ x xs, dr0 = x :: xs ∧ Lay.Fv K H v1 x ∧ Paired (Lay.Fv K H) [v2] xs := by
        cases hdt0 with
        | cons r t => exact ⟨_, _, rfl, r, t⟩
      obtain ⟨d2, dr2, rfl, fhd2, hdt2⟩ : ∃ x xs, dr1 = x :: xs ∧ Lay.Fv K H v2 x ∧ Paired (Lay.Fv K H) [] xs := by
        cases hdt1 with
        | cons r t => exact ⟨_, _, rfl, r, t⟩
      obtain rfl : dr2 = [] := by cases hdt2; rfl
      obtain ⟨e0, er0, rfl, fhe0, het0⟩ : ∃ x xs, es = x :: xs ∧ Lay.Fv K H w0 x ∧ Paired (Lay.Fv K H) [w1, w2] xs := by
        cases he with
        | cons r t => exact ⟨_, _, rfl, r, t⟩
      obtain ⟨e1, er1, rfl, fhe1, het1⟩ : ∃ x xs, er0 = x :: xs ∧ Lay.Fv K H w1 x ∧ Paired (Lay.Fv K H) [w2] xs := by
        cases het0 with
        | cons r t => exact ⟨_, _, rfl, r, t⟩
      obtain ⟨e2, er2, rfl, fhe2, het2⟩ : ∃ x xs, er1 = x :: xs ∧ Lay.Fv K H w2 x ∧ Paired (Lay.Fv K H) [] xs := by
        cases het1 with
        | cons r t => exact ⟨_, _, rfl, r, t⟩
      obtain rfl : er2 = [] := by cases het2; rfl
      rw [show Lay.eqXs (["rows", "eager", "whole"] : List Str).length _ _ = _ from eqXs3] at q
      refine Lay.rd_isiC (T.in_Wrong _ b dy _ hy) T.ki_Wrong_Wrong ?_
      walk_at "it"
      refine Lay.rd_tFld ?_
      walk_at "rd"
      refine ⟨a, _, dx, _, v0, rfl, hx, T.cl_Wrong, T.na_Wrong_rows, by rfl, ?_⟩
      walk_at "rd"
      refine Lay.rd_tFld ?_
      walk_at "rd"
      refine ⟨b, _, dy, _, w0, rfl, hy, T.cl_Wrong, T.na_Wrong_rows, by rfl, ?_⟩
      walk_at "rd"
      refine ⟨d0, e0, fhd0, fhe0, ?_⟩
      cases g0 : Lay.eqX d0 e0 with
      | false =>
        rw [g0, Bool.false_and] at q
        walk_at "it"
        exact q
      | true =>
      rw [g0, Bool.true_and] at q
      walk_at "it"
      refine Lay.rd_tFld ?_
      walk_at "rd"
      refine ⟨a, _, dx, _, v1, rfl, hx, T.cl_Wrong, T.na_Wrong_eager, by rfl, ?_⟩
      walk_at "rd"
      refine Lay.rd_tFld ?_
      walk_at "rd"
      refine ⟨b, _, dy, _, w1, rfl, hy, T.cl_Wrong, T.na_Wrong_eager, by rfl, ?_⟩
      walk_at "rd"
      refine ⟨d1, e1, fhd1, fhe1, ?_⟩
      cases g1 : Lay.eqX d1 e1 with
      | false =>
        rw [g1, Bool.false_and] at q
        walk_at "it"
        exact q
      | true =>
      rw [g1, Bool.true_and] at q
      walk_at "it"
      refine Lay.rd_tFld ?_
      walk_at "rd"
      refine ⟨a, _, dx, _, v2, rfl, hx, T.cl_Wrong, T.na_Wrong_whole, by rfl, ?_⟩
      walk_at "rd"
      refine Lay.rd_tFld ?_
      walk_at "rd"
      refine ⟨b, _, dy, _, w2, rfl, hy, T.cl_Wrong, T.na_Wrong_whole, by rfl, ?_⟩
      walk_at "rd"
      refine ⟨d2, e2, fhd2, fhe2, ?_⟩
      exact q
theorem ok_Wrong_bool (T : Txt K mg A) : FnOk P w K mg base CX0 1 A.a_Wrong_bool A.d_Wrong_bool ["self"] (Lay.spFBool A.c_Wrong "wrong" ["rows", "eager", "whole"] false) := by
  refine T.F_Wrong_bool.ok sc_Wrong_bool (fun vs H Q E h => ?_) (fun cdv A0 outer s H vs Q E hr h => ?_)
  · obtain ⟨a, us, rfl, _⟩ := h
    rfl
  · obtain ⟨a, us, rfl, hf, q⟩ := h
    refine ⟨_, (pss_one (ps_ret pe_bl)), ?_⟩
    walk_at "in"
    walk_at "rd"
    exact q
theorem ok_Right_eq (T : Txt K mg A) : FnOk P w K mg base CX0 1 A.a_Right_eq A.d_Right_eq ["self", "other"] (Lay.spFEq K A.c_Right "right" ["steps", "ways", "eager", "whole"]) := by
  refine T.F_Right_eq.ok sc_Right_eq (fun vs H Q E h => ?_) (fun cdv A0 outer s H vs Q E hr h => ?_)
  · obtain ⟨a, y, us, rfl, _⟩ := h
    rfl
  · obtain ⟨a, y, us, rfl, ⟨⟨dx, hx⟩, hl⟩, harg⟩ := h
    obtain ⟨v0, v1, v2, v3, rfl⟩ : ∃ v0 v1 v2 v3 : V, us = [v0, v1, v2, v3] := by
      match us, hl with
      | [v0, v1, v2, v3], _ => exact ⟨v0, v1, v2, v3, rfl⟩
    refine ⟨_, (pss_one (ps_ret (pe_and (pe_callB call_isi (by rfl) T.n_isinstance (by decide +kernel) (pa_cons (pv 1) (pa_cons (pe_glob (v := .ref A.c_Right) rfl T.g_Right rfl) pa_nil))) (pe_and (pe_cmpR (Lay.op_eqX hr.units) (pe_fld (pv 0) rfl) (pe_fld (pv 1) rfl) (nomark _)) (pe_and (pe_cmpR (Lay.op_eqX hr.units) (pe_fld (pv 0) rfl) (pe_fld (pv 1) rfl) (nomark _)) (pe_and (pe_cmpR (Lay.op_eqX hr.units) (pe_fld (pv 0) rfl) (pe_fld (pv 1) rfl) (nomark _)) (pe_one (pe_cmpR (Lay.op_eqX hr.units) (pe_fld (pv 0) rfl) (pe_fld (pv 1) rfl) (nomark _))))))))), ?_⟩
    walk_at "in"
    walk_at "rd"
    rcases harg with ⟨TT, ht, hk, q⟩ | ⟨b, ws, ds, es, rfl, ⟨⟨dy, hy⟩, gl⟩, hd, he, q⟩
    · refine Lay.rd_isiC ht hk ?_
      walk_at "it"
      exact q
    · obtain ⟨w0, w1, w2, w3, rfl⟩ : ∃ w0 w1 w2 w3 : V, ws = [w0, w1, w2, w3] := by
        match ws, gl with
        | [w0, w1, w2, w3], _ => exact ⟨w0, w1, w2, w3, rfl⟩
      obtain ⟨d0, dr0, rfl, fhd0, hdt0⟩ : ∃ x xs, ds = x :: xs ∧ Lay.Fv K H v0 x ∧ Paired (Lay.Fv K H) [v1, v2, v3] xs := by
        cases hd with
        | cons r t => exact ⟨_, _, rfl, r, t⟩
      obtain ⟨d1, dr1, rfl, fhd1, hdt1⟩ : ∃ x xs, dr0 = x :: xs ∧ Lay.Fv K H v1 x ∧ Paired (Lay.Fv K H) [v2, v3] xs := by
        cases hdt0 with
        | cons r t => exact ⟨_, _, rfl, r, t⟩
      obtain ⟨d2, dr2, rfl, fhd2, hdt2⟩ : ∃ x xs, dr1 = x :: xs ∧ Lay.Fv K H v2 x ∧ Paired (Lay.Fv K H) [v3] xs := by
        cases hdt1 with
        | cons r t => exact ⟨_, _, rfl, r, t⟩
      obtain ⟨d3, dr3, rfl, fhd3, hdt3⟩ : ∃ x xs, dr2 = x :: xs ∧ Lay.Fv K H v3 x ∧ Paired (Lay.Fv K H) [] xs := by
        cases hdt2 with
        | cons r t => exact ⟨_, _, rfl, r, t⟩
      obtain rfl : dr3 = [] := by cases hdt3; rfl
      obtain ⟨e0, er0, rfl, fhe0, het0⟩ : ∃ x xs, es = x :: xs ∧ Lay.Fv K H w0 x ∧ Paired (Lay.Fv K H) [w1, w2, w3] xs := by
        cases he with
        | cons r t => exact ⟨_, _, rfl, r, t⟩
      obtain ⟨e1, er1, rfl, fhe1, het1⟩ : ∃ x xs, er0 = x :: xs ∧ Lay.Fv K H w1 x ∧ Paired (Lay.Fv K H) [w2, w3] xs := by
        cases het0 with
        | cons r t => exact ⟨_, _, rfl, r, t⟩
      obtain ⟨e2, er2, rfl, fhe2, het2⟩ : ∃ x xs, er1 = x :: xs ∧ Lay.Fv K H w2 x ∧ Paired (Lay.Fv K H) [w3] xs := by
        cases het1 with
        | cons r t => exact ⟨_, _, rfl, r, t⟩
      obtain ⟨e3, er3, rfl, fhe3, het3⟩ : ∃ x xs, er2 = x :: xs ∧ Lay.Fv K H w3 x ∧ Paired (Lay.Fv K H) [] xs := by
        cases het2 with
        | cons r t => exact ⟨_, _, rfl, r, t⟩
      obtain rfl : er3 = [] := by cases het3; rfl
      rw [show Lay.eqXs (["steps", "ways", "eager", "whole"] : List Str).length _ _ = _ from eqXs4] at q
      refine Lay.rd_isiC (T.in_Right _ b dy _ hy) T.ki_Right_Right ?_
      walk_at "it"
      refine Lay.rd_tFld ?_
      walk_at "rd"
      refine ⟨a, _, dx, _, v0, rfl, hx, T.cl_Right, T.na_Right_steps, by rfl, ?_⟩
      walk_at "rd"
      refine Lay.rd_tFld ?_
      walk_at "rd"
      refine ⟨b, _, dy, _, w0, rfl, hy, T.cl_Right, T.na_Right_steps, by rfl, ?_⟩
      walk_at "rd"
      refine ⟨d0, e0, fhd0, fhe0, ?_⟩
      cases g0 : Lay.eqX d0 e0 with
      | false =>
        rw [g0, Bool.false_and] at q
        walk_at "it"
        exact q
      | true =>
      rw [g0, Bool.true_and] at q
      walk_at "it"
      refine Lay.rd_tFld ?_
      walk_at "rd"
      refine ⟨a, _, dx, _, v1, rfl, hx, T.cl_Right, T.na_Right_ways, by rfl, ?_⟩
      walk_at "rd"
      refine Lay.rd_tFld ?_
      walk_at "rd"
      refine ⟨b, _, dy, _, w1, rfl, hy, T.cl_Right, T.na_Right_ways, by rfl, ?_⟩
      walk_at "rd"
      refine ⟨d1, e1, fhd1, fhe1, ?_⟩
      cases g1 : Lay.eqX d1 e1 with
      | false =>
        rw [g1, Bool.false_and] at q
        walk_at "it"
        exact q
      | true =>
      rw [g1, Bool.true_and] at q
      walk_at "it"
      refine Lay.rd_tFld ?_
      walk_at "rd"
      refine ⟨a, _, dx, _, v2, rfl, hx, T.cl_Right, T.na_Right_eager, by rfl, ?_⟩
      walk_at "rd"
      refine Lay.rd_tFld ?_
      walk_at "rd"
      refine ⟨b, _, dy, _, w2, rfl, hy, T.cl_Right, T.na_Right_eager, by rfl, ?_⟩
      walk_at "rd"
      refine ⟨d2, e2, fhd2, fhe2, ?_⟩
      cases g2 : Lay.eqX d2 e2 with
      | false =>
        rw [g2, Bool.false_and] at q
        walk_at "it"
        exact q
      | true =>
      rw [g2, Bool.true_and] at q
      walk_at "it"
      refine Lay.rd_tFld ?_
      walk_at "rd"
      refine ⟨a, _, dx, _, v3, rfl, hx, T.cl_Right, T.na_Right_whole, by rfl, ?_⟩
      walk_at "rd"
      refine Lay.rd_tFld ?_
      walk_at "rd"
      refine ⟨b, _, dy, _, w3, rfl, hy, T.cl_Right, T.na_Right_whole, by rfl, ?_⟩
      walk_at "rd"
      refine ⟨d3, e3, fhd3, fhe3, ?_⟩
      exact q
theorem ok_Right_bool (T : Txt K mg A) : FnOk P w K mg base CX0 1 A.a_Right_bool A.d_Right_bool ["self"] (Lay.spFBool A.c_Right "right" ["steps", "ways", "eager", "whole"] true) := by
  refine T.F_Right_bool.ok sc_Right_bool (fun vs H Q E h => ?_) (fun cdv A0 outer s H vs Q E hr h => ?_)
  · obtain ⟨a, us, rfl, _⟩ := h
    rfl
  · obtain ⟨a, us, rfl, hf, q⟩ := h
    refine ⟨_, (pss_one (ps_ret pe_bl)), ?_⟩
    walk_at "in"
    walk_at "rd"
    exact q
theorem ok_pen (T : Txt K mg A) : FnOk P w K mg base CX0 1 A.a_pen A.d_pen ["_law_script"] (Lay.spPen K) := by
  refine T.F_pen.ok sc_pen (fun vs H Q E h => ?_) (fun cdv A0 outer s H vs Q E hr h => ?_)
  · obtain ⟨a, ns, rfl, _⟩ := h
    rfl
  · obtain ⟨a, ns, rfl, hS, hl, q⟩ := h
    refine ⟨_, (pss_one (ps_ret (pe_lst (pa_cons (pe_callTy Lay.call_listS (by rfl) T.n_list (by decide +kernel) (pa_cons (pe_slice sl_list (pv 0) po_none (po_some pe_int)) pa_nil)) (pa_cons pe_int (pa_cons pe_int pa_nil)))))), ?_⟩
    walk_at "in"
    walk_at "rd"
    refine Lay.rd_slL hS (fun r hr1 => ?_)
    rw [Lay.cut63 (by rw [List.length_map]; exact hl)]
    walk_at "rd"
    refine Lay.rd_listL (SqL.of upd_same) (fun l hl1 => ?_)
    walk_at "rd"
    refine ⟨by decide, fun p hp => ?_⟩
    have s1 := (Lay.Same.upd (o := .lst (ns.map V.int)) hr1).trans (Lay.Same.upd (o := .lst (ns.map V.int)) hl1)
    exact q _ p _ (Lay.none_of s1 hp) (Lay.pen_at upd_same (Lay.upd_old hp upd_same) hl) (s1.trans (Lay.Same.upd hp))
theorem ok_draw (T : Txt K mg A) : FnOk P w K mg base CX0 1 A.a_draw A.d_draw ["_law_pen_here", "_law_many"] Lay.spDraw := by
  refine T.F_draw.ok sc_draw (fun vs H Q E h => ?_) (fun cdv A0 outer s H vs Q E hr h => ?_)
  · obtain ⟨p, m, n, c, rfl, _⟩ := h
    rfl
  · obtain ⟨p, m, n, c, rfl, ⟨ns, b, l, h1, h2, h3, h4, h5, h6⟩, hn, hm, hm2, k⟩ := h
    have hc : c ≠ p := ne_of h2 h1 (by intro q; cases ns <;> cases q)
    refine ⟨_, (pss_cons (ps_if (pt_cmpR op_gt (pe_ix ix_list (pv 0) pe_int (fun _ _ => rfl)) pe_int (nomark _))
      (pss_cons (ps_set (i := 2) sc_draw.nd rfl (Or.inl rfl) (pe_op Lay.op_modP (pe_callTy Lay.call_intI (by rfl) T.n_int (by decide +kernel) (pa_cons (pe_ix ix_list (pv 0) pe_int (fun _ _ => rfl)) pa_nil)) (pv 1)))
      (pss_cons (ps_asg (pe_op Lay.op_divP (pe_ix ix_list (pv 0) pe_int (fun _ _ => rfl)) (pv 1)) (pg_sub (pv 0) pe_int set_list))
      (pss_one (ps_ret (pv 2)))))
      pss_nil)
    (pss_cons (ps_set (i := 3) sc_draw.nd rfl (Or.inl rfl) (pe_ix ix_list (pv 0) pe_int (fun _ _ => rfl)))
    (pss_cons (ps_asg (pe_op op_add (pv 3) pe_int) (pg_sub (pv 0) pe_int set_list))
    (pss_cons (ps_set (i := 4) sc_draw.nd rfl (Or.inl rfl) (pe_op op_add (pe_op op_mul pe_int (pv 3)) pe_int))
    (Evl.pss_cut (ps_if (pt_cmpR (op_neD hr.units) (pe_ix ix_list (pv 0) pe_int (fun _ _ => rfl)) (pe_lst pa_nil) (nomark _))
      (pss_one (ps_set (i := 4) sc_draw.nd rfl (Or.inl rfl) (pe_ix ix_list (pe_ix ix_list (pv 0) pe_int (fun _ _ => rfl)) (pe_op Lay.op_modP (pe_callTy Lay.call_intI (by rfl) T.n_int (by decide +kernel) (pa_cons (pv 3) pa_nil)) (pe_callB Lay.call_lenS (by rfl) T.n_len PySem.boot_len (pa_cons (pe_ix ix_list (pv 0) pe_int (fun _ _ => rfl)) pa_nil))) (fun _ _ => rfl))))
      pss_nil)
    (pss_cons (ps_if (PW.pt (pw_and (pt_cmpR op_lt (pv 3) (pe_callB Lay.call_lenS (by rfl) T.n_len PySem.boot_len (pa_cons (pe_ix ix_list (pv 0) pe_int (fun _ _ => rfl)) pa_nil)) (nomark _)) (pw_and1 (pt_cmpR op_ge (pe_callB Lay.call_absI (by rfl) T.n_abs (by decide +kernel) (pa_cons (pv 4) pa_nil)) (pe_op op_pow pe_int pe_int) (nomark _)))))
      (pss_cons (ps_set (i := 5) sc_draw.nd rfl (Or.inl rfl) (pe_op op_add (pe_op op_mul pe_int (pe_callB Lay.call_absI (by rfl) T.n_abs (by decide +kernel) (pa_cons (pv 4) pa_nil))) (pe_callTy Lay.call_intI (by rfl) T.n_int (by decide +kernel) (pa_cons (pe_cmpR op_lt (pv 4) pe_int (nomark _)) pa_nil))))
      (pss_cons (ps_asg (pe_op Lay.op_divP (pv 5) (pv 1)) (pg_sub (pv 0) pe_int set_list))
      (pss_one (ps_ret (pe_op Lay.op_modP (pe_callTy Lay.call_intI (by rfl) T.n_int (by decide +kernel) (pa_cons (pv 5) pa_nil)) (pv 1))))))
      pss_nil)
    (pss_cons (ps_set (i := 6) sc_draw.nd rfl (Or.inl rfl) (pe_op Lay.op_modP (pe_op op_pow (pe_callTy Lay.call_intI (by rfl) T.n_int (by decide +kernel) (pa_cons (pe_op op_add (pe_op op_add (pe_op Lay.op_modP (pe_callTy Lay.call_intI (by rfl) T.n_int (by decide +kernel) (pa_cons (pv 4) pa_nil)) pe_int) (pe_op op_mul pe_int (pv 3))) pe_int) pa_nil)) pe_int) pe_int))
    (pss_cons (ps_set (i := 6) sc_draw.nd rfl (Or.inl rfl) (pe_op Lay.op_modP (pe_op op_pow (pe_callTy Lay.call_intI (by rfl) T.n_int (by decide +kernel) (pa_cons (pe_op op_add (pe_op op_add (pe_op op_mul (pv 6) (pe_op op_add (pe_op op_mul pe_int (pv 3)) pe_int)) (pe_op op_mul (pe_op op_mul pe_int (pv 3)) (pv 3))) pe_int) pa_nil)) pe_int) pe_int))
    (pss_one (ps_ret (pe_op Lay.op_modP (pe_callTy Lay.call_intI (by rfl) T.n_int (by decide +kernel) (pa_cons (pe_op Lay.op_divP (pv 6) pe_int) pa_nil)) (pv 1)))))))))))), ?_⟩
    have pen : ∀ H' : Hp, ∀ b' l' : Int, H' p = some (.lst [.ref c, .int b', .int l']) → H' c = some (.lst (ns.map V.int)) → 0 ≤ b' → b' ≤ ((n + 1 : Nat) : Int) → 0 ≤ l' → Lay.PenAt c H' p (n + 1) :=
      fun H' b' l' e1 e2 e3 e4 e5 => ⟨ns, b', l', e1, e2, h3, e3, e4, e5⟩
    have keep1 : ∀ o, Lay.Keep p H (upd H p o) := fun o => Lay.Keep.upd
    walk_at "in"
    walk_at "rd"
    refine Lay.ite_d (fun c0 => ?_) (fun c0 => ?_)
    · walk_at "rd"
      refine Lay.rd_modP hm (fun d0 e0 d1 d2 => ?_)
      walk_at "rd"
      refine Lay.rd_divP ⟨hm, hm2⟩ (fun d3 e3 => ?_)
      walk_at "rd"
      exact k _ _ d1 d2 (pen _ _ _ upd_same (by rw [upd_ne hc]; exact h2) h4 (by omega) (by rw [e3]; exact Int.ediv_nonneg h6 (by omega))) (keep1 _)
    · walk_at "rd"
      have hc1 : ∀ o, upd H p o c = some (.lst (ns.map V.int)) := fun o => by rw [upd_ne hc]; exact h2
      refine ⟨fun σ' H' => ∃ v : Int, σ' = [some (V.ref p), some (V.int m), none, some (V.int b), some (V.int v), none, none] ∧ H' p = some (.lst [.ref c, .int (b + 1), .int l]) ∧ H' c = some (.lst (ns.map V.int)) ∧ Lay.Keep p H H', ?_, ?_⟩
      · walk_at "rd"
        refine ⟨by decide, fun q hq => ?_⟩
        have q1 : (upd (upd H p (HO.lst [V.ref c, V.int (b + 1), V.int l])) q (.lst [])) c = some (.lst (ns.map V.int)) := Lay.upd_old hq (hc1 _)
        have q2 : (upd (upd H p (HO.lst [V.ref c, V.int (b + 1), V.int l])) q (.lst [])) p = some (.lst [.ref c, .int (b + 1), .int l]) := Lay.upd_old hq upd_same
        have q3 : Lay.Keep p H (upd (upd H p (HO.lst [V.ref c, V.int (b + 1), V.int l])) q (.lst [])) := (keep1 _).trans (Lay.Keep.of (Lay.Same.upd hq))
        refine Lay.rd_ne_nil (SqL.of q1) (SqL.of upd_same) (fun hne => ?_) (fun hne => ?_)
        · walk_at "rd"
          refine iteT ?_
          walk_at "rd"
          have hl : 0 < (ns.map V.int).length := by
            cases ns with
            | nil => exact absurd rfl hne
            | cons a r => simp
          refine Lay.rd_modP (by omega) (fun d0 e0 d1 d2 => ?_)
          have hd : d0.toNat < ns.length := by rw [List.length_map] at d2; omega
          refine Lay.rd_ixL (SqL.of q1) (v := .int ns[d0.toNat]) ?_ ?_
          · exact Lay.atI_int d1 (by rw [List.getElem?_map, List.getElem?_eq_getElem hd]; rfl)
          walk_at "rd"
          exact ⟨_, rfl, q2, q1, q3⟩
        · walk_at "rd"
          refine iteF ?_
          walk_at "rd"
          exact ⟨_, rfl, q2, q1, q3⟩
      · rintro σ' H' ⟨v, rfl, p1, p2, p3⟩
        walk_at "rd"
        refine Lay.ite_d (fun c1 => ?_) (fun c1 => ?_)
        · walk_at "rd"
          refine Lay.ite_d (fun c2 => ?_) (fun c2 => ?_)
          · walk_at "rd"
            refine Lay.rd_divP ⟨hm, hm2⟩ (fun d3 e3 => ?_)
            walk_at "rd"
            refine Lay.rd_modP hm (fun d4 e4 d5 d6 => ?_)
            refine k _ _ d5 d6 (pen _ _ _ upd_same (by rw [upd_ne hc]; exact p2) (by omega) (by omega) ?_) (p3.trans Lay.Keep.upd)
            rw [e3]
            refine Int.ediv_nonneg ?_ (by omega)
            have : (0 : Int) ≤ (if decide (v < 0) = true then 1 else 0) := by split <;> decide
            show (0 : Int) ≤ 2 * (if v < 0 then -v else v) + (if decide (v < 0) = true then 1 else 0)
            have : (0 : Int) ≤ (if v < 0 then -v else v) := by split <;> omega
            omega
          · walk_at "rd"
            refine Lay.rd_modP (by decide) (fun d0 e0 d1 d2 => ?_)
            walk_at "rd"
            refine Lay.rd_modP (by decide) (fun d3 e3 d4 d5 => ?_)
            walk_at "rd"
            refine Lay.rd_I (Lay.mix_ok d4 (by omega) h4 (by omega) (by decide) (by decide) (by decide) (by decide) (by decide) (by decide) (by decide) (by decide)) ?_
            walk_at "rd"
            refine Lay.rd_modP (by decide) (fun d6 e6 d7 d8 => ?_)
            walk_at "rd"
            refine Lay.rd_divP ⟨by decide, by decide⟩ (fun d9 e9 => ?_)
            walk_at "rd"
            refine Lay.rd_modP hm (fun d10 e10 d11 d12 => ?_)
            exact k _ _ d11 d12 (pen _ _ _ p1 p2 (by omega) (by omega) h6) p3
        · refine iteF ?_
          walk_at "rd"
          refine Lay.rd_modP (by decide) (fun d0 e0 d1 d2 => ?_)
          walk_at "rd"
          refine Lay.rd_modP (by decide) (fun d3 e3 d4 d5 => ?_)
          walk_at "rd"
          refine Lay.rd_I (Lay.mix_ok d4 (by omega) h4 (by omega) (by decide) (by decide) (by decide) (by decide) (by decide) (by decide) (by decide) (by decide)) ?_
          walk_at "rd"
          refine Lay.rd_modP (by decide) (fun d6 e6 d7 d8 => ?_)
          walk_at "rd"
          refine Lay.rd_divP ⟨by decide, by decide⟩ (fun d9 e9 => ?_)
          walk_at "rd"
          refine Lay.rd_modP hm (fun d10 e10 d11 d12 => ?_)
          exact k _ _ d11 d12 (pen _ _ _ p1 p2 (by omega) (by omega) h6) p3
theorem ok_t2a {a m : Int} (a0 : 0 ≤ a) (a1 : a < 4) (m0 : 0 ≤ m) (m1 : m < 9) : Lay.OkD (.tuple [.tuple [.int 0, .int a], .tuple [.int 1, .int m]]) := by
  obtain rfl | rfl | rfl | rfl : a = 0 ∨ a = 1 ∨ a = 2 ∨ a = 3 := by omega
  all_goals obtain rfl | rfl | rfl | rfl | rfl | rfl | rfl | rfl | rfl : m = 0 ∨ m = 1 ∨ m = 2 ∨ m = 3 ∨ m = 4 ∨ m = 5 ∨ m = 6 ∨ m = 7 ∨ m = 8 := by omega
  all_goals exact Lay.okD_of (by decide +kernel)
theorem ok_t1 {a m : Int} (a0 : 0 ≤ a) (a1 : a < 4) (m0 : 0 ≤ m) (m1 : m < 9) : Lay.OkD (.tuple [.int a, .int m]) := by
  obtain rfl | rfl | rfl | rfl : a = 0 ∨ a = 1 ∨ a = 2 ∨ a = 3 := by omega
  all_goals obtain rfl | rfl | rfl | rfl | rfl | rfl | rfl | rfl | rfl : m = 0 ∨ m = 1 ∨ m = 2 ∨ m = 3 ∨ m = 4 ∨ m = 5 ∨ m = 6 ∨ m = 7 ∨ m = 8 := by omega
  all_goals exact Lay.okD_of (by decide +kernel)
theorem ok_im {m : Int} (m0 : 0 ≤ m) (m1 : m < 9) : Lay.OkD (.int m) := by
  all_goals obtain rfl | rfl | rfl | rfl | rfl | rfl | rfl | rfl | rfl : m = 0 ∨ m = 1 ∨ m = 2 ∨ m = 3 ∨ m = 4 ∨ m = 5 ∨ m = 6 ∨ m = 7 ∨ m = 8 := by omega
  all_goals exact Lay.okD_of (by decide +kernel)
theorem ok_la {a : Int} (a0 : 0 ≤ a) (a1 : a < 4) : Lay.OkD (.list [.int a]) := by
  obtain rfl | rfl | rfl | rfl : a = 0 ∨ a = 1 ∨ a = 2 ∨ a = 3 := by omega
  all_goals exact Lay.okD_of (by decide +kernel)
theorem ok_st {a : Int} (a0 : 0 ≤ a) (a1 : a < 4) : Lay.OkD (.tuple [.tuple [.str "step", .str "cpu"], .tuple [.str "fetch", .str "cpu", .int a]]) := by
  obtain rfl | rfl | rfl | rfl : a = 0 ∨ a = 1 ∨ a = 2 ∨ a = 3 := by omega
  all_goals exact Lay.okD_of (by decide +kernel)
theorem ok_ng {a : Int} (a0 : 0 ≤ a) (a1 : a < 4) : Lay.OkD (.int (-1 - a)) := by
  obtain rfl | rfl | rfl | rfl : a = 0 ∨ a = 1 ∨ a = 2 ∨ a = 3 := by omega
  all_goals exact Lay.okD_of (by decide +kernel)
theorem ok_tt {a m : Int} (a0 : 0 ≤ a) (a1 : a < 4) (m0 : 0 ≤ m) (m1 : m < 9) : Lay.OkD (.tuple [.tuple [.int a, .int m]]) := by
  obtain rfl | rfl | rfl | rfl : a = 0 ∨ a = 1 ∨ a = 2 ∨ a = 3 := by omega
  all_goals obtain rfl | rfl | rfl | rfl | rfl | rfl | rfl | rfl | rfl : m = 0 ∨ m = 1 ∨ m = 2 ∨ m = 3 ∨ m = 4 ∨ m = 5 ∨ m = 6 ∨ m = 7 ∨ m = 8 := by omega
  all_goals exact Lay.okD_of (by decide +kernel)
theorem ok_field (T : Txt K mg A) (G_draw : FnOk P w K mg base CX0 1 A.a_draw A.d_draw ["_law_pen_here", "_law_many"] Lay.spDraw) : FnOk P w K mg base CX0 2 A.a_field A.d_field ["_law_pen_here"] (Lay.spFField K) := by
  refine T.F_field.ok sc_field (fun vs H Q E h => ?_) (fun cdv A0 outer s H vs Q E hr h => ?_)
  · obtain ⟨p, n, c, rfl, _⟩ := h
    rfl
  · obtain ⟨p, n, c, rfl, hp, hn, q⟩ := h
    refine ⟨_, (pss_cons (ps_par (i := 1) (j := 2) (by rfl) sc_field.nd rfl rfl (by decide) rfl rfl (pa_cons (pe_call G_draw (hr.mono (by decide)) rfl T.g_draw T.F_draw.kp T.b_draw .nil pass0 (pa_cons (pv 0) (pa_cons pe_int pa_nil))) (pa_cons (pe_call G_draw (hr.mono (by decide)) rfl T.g_draw T.F_draw.kp T.b_draw .nil pass0 (pa_cons (pv 0) (pa_cons pe_int pa_nil))) pa_nil)) (by rfl))
    (pss_cons (ps_set (i := 3) sc_field.nd rfl (Or.inl rfl) (pe_lst (pa_cons (pe_tup (pa_cons (pe_tup (pa_cons pe_int (pa_cons (pv 1) pa_nil))) (pa_cons (pe_tup (pa_cons pe_int (pa_cons (pv 2) pa_nil))) pa_nil))) (pa_cons (pe_tup (pa_cons (pv 1) (pa_cons (pv 2) pa_nil))) (pa_cons pe_str (pa_cons pe_non (pa_cons pe_bl (pa_cons pe_bl (pa_cons (pv 2) (pa_cons (pe_tup pa_nil) pa_nil))))))))))
    (pss_cons (ps_set (i := 3) sc_field.nd rfl (Or.inl rfl) (pe_op op_cat (pv 3) (pe_lst (pa_cons (pe_lst (pa_cons (pv 1) pa_nil)) (pa_cons (pe_disp (pps_cons pe_str (pv 1) pps_nil) (by rfl) (by rfl) (fun z => by cases z) (by decide)) (pa_cons (pe_op op_pow pe_int pe_int) (pa_cons (pe_tup (pa_cons (pe_tup (pa_cons pe_str (pa_cons pe_str pa_nil))) (pa_cons (pe_tup (pa_cons pe_str (pa_cons pe_str (pa_cons (pv 1) pa_nil)))) pa_nil))) pa_nil)))))))
    (pss_cons (ps_set (i := 3) sc_field.nd rfl (Or.inl rfl) (pe_op op_cat (pv 3) (pe_lst (pa_cons (pe_lst (pa_cons (pe_lst pa_nil) (pa_cons (pe_tup pa_nil) pa_nil))) (pa_cons pe_str (pa_cons (pe_op op_sub (pe_un un_neg pe_int) (pv 1)) (pa_cons (pe_tup (pa_cons (pe_tup (pa_cons (pv 1) (pa_cons (pv 2) pa_nil))) pa_nil)) pa_nil)))))))
    (pss_one (ps_ret (pe_ix ix_list (pv 3) (pe_call G_draw (hr.mono (by decide)) rfl T.g_draw T.F_draw.kp T.b_draw .nil pass0 (pa_cons (pv 0) (pa_cons (pe_callB Lay.call_lenS (by rfl) T.n_len PySem.boot_len (pa_cons (pv 3) pa_nil)) pa_nil))) (fun _ _ => rfl)))))))), ?_⟩
    walk_at "in"
    walk_at "rd"
    refine Lay.rd_par ?_
    walk_at "rd"
    refine Lay.rd_draw hp (L2.Same.refl _) (by omega) (by decide) (by decide) (fun a H1 a0 a1 p1 k1 => ?_)
    walk_at "rd"
    refine Lay.rd_draw p1 (L2.Same.refl _) (by omega) (by decide) (by decide) (fun m H2 m0 m1 p2 k2 => ?_)
    obtain ⟨xs2, hP2⟩ := p2.at_
    have K2 := k1.trans k2
    walk_at "rd"
    refine ⟨_, _, rfl, ?_⟩
    walk_at "rd"
    refine ⟨by decide, fun r1 hr1 => ?_⟩
    have s3 := Lay.Same.upd (o := .tup [V.int 0, V.int a]) hr1
    have nr1 := Lay.ne_none hr1 hP2
    have er1 : (upd H2 r1 (.tup [V.int 0, V.int a])) r1 = some (.tup [V.int 0, V.int a]) := upd_same
    have hP3 := s3 _ _ hP2
    generalize upd H2 r1 (.tup [V.int 0, V.int a]) = H3 at s3 er1 hP3 ⊢
    have fr1 : H r1 = none := K2.none hP2 hr1
    have K3 := K2.trans (Lay.Keep.of s3)
    clear hr1
    walk_at "rd"
    refine ⟨by decide, fun r2 hr2 => ?_⟩
    have s4 := Lay.Same.upd (o := .tup [V.int 1, V.int m]) hr2
    have nr2 := Lay.ne_none hr2 hP3
    have er2 : (upd H3 r2 (.tup [V.int 1, V.int m])) r2 = some (.tup [V.int 1, V.int m]) := upd_same
    have hP4 := s4 _ _ hP3
    generalize upd H3 r2 (.tup [V.int 1, V.int m]) = H4 at s4 er2 hP4 ⊢
    have fr2 : H r2 = none := K3.none hP3 hr2
    have K4 := K3.trans (Lay.Keep.of s4)
    clear hr2
    walk_at "rd"
    refine ⟨by decide, fun r3 hr3 => ?_⟩
    have s5 := Lay.Same.upd (o := .tup [V.ref r1, V.ref r2]) hr3
    have nr3 := Lay.ne_none hr3 hP4
    have er3 : (upd H4 r3 (.tup [V.ref r1, V.ref r2])) r3 = some (.tup [V.ref r1, V.ref r2]) := upd_same
    have hP5 := s5 _ _ hP4
    generalize upd H4 r3 (.tup [V.ref r1, V.ref r2]) = H5 at s5 er3 hP5 ⊢
    have fr3 : H r3 = none := K4.none hP4 hr3
    have K5 := K4.trans (Lay.Keep.of s5)
    clear hr3
    walk_at "rd"
    refine ⟨by decide, fun r4 hr4 => ?_⟩
    have s6 := Lay.Same.upd (o := .tup [V.int a, V.int m]) hr4
    have nr4 := Lay.ne_none hr4 hP5
    have er4 : (upd H5 r4 (.tup [V.int a, V.int m])) r4 = some (.tup [V.int a, V.int m]) := upd_same
    have hP6 := s6 _ _ hP5
    generalize upd H5 r4 (.tup [V.int a, V.int m]) = H6 at s6 er4 hP6 ⊢
    have fr4 : H r4 = none := K5.none hP5 hr4
    have K6 := K5.trans (Lay.Keep.of s6)
    clear hr4
    walk_at "rd"
    refine ⟨by decide, fun r5 hr5 => ?_⟩
    have s7 := Lay.Same.upd (o := .tup []) hr5
    have nr5 := Lay.ne_none hr5 hP6
    have er5 : (upd H6 r5 (.tup [])) r5 = some (.tup []) := upd_same
    have hP7 := s7 _ _ hP6
    generalize upd H6 r5 (.tup []) = H7 at s7 er5 hP7 ⊢
    have fr5 : H r5 = none := K6.none hP6 hr5
    have K7 := K6.trans (Lay.Keep.of s7)
    clear hr5
    walk_at "rd"
    refine ⟨by decide, fun D1 hD1 => ?_⟩
    have s8 := Lay.Same.upd (o := .lst [V.ref r3, V.ref r4, V.str "still", V.non, V.bl true, V.bl false, V.int m, V.ref r5]) hD1
    have nD1 := Lay.ne_none hD1 hP7
    have eD1 : (upd H7 D1 (.lst [V.ref r3, V.ref r4, V.str "still", V.non, V.bl true, V.bl false, V.int m, V.ref r5])) D1 = some (.lst [V.ref r3, V.ref r4, V.str "still", V.non, V.bl true, V.bl false, V.int m, V.ref r5]) := upd_same
    have hP8 := s8 _ _ hP7
    generalize upd H7 D1 (.lst [V.ref r3, V.ref r4, V.str "still", V.non, V.bl true, V.bl false, V.int m, V.ref r5]) = H8 at s8 eD1 hP8 ⊢
    have fD1 : H D1 = none := K7.none hP7 hD1
    have K8 := K7.trans (Lay.Keep.of s8)
    clear hD1
    walk_at "rd"
    refine ⟨by decide, fun r6 hr6 => ?_⟩
    have s9 := Lay.Same.upd (o := .lst [V.int a]) hr6
    have nr6 := Lay.ne_none hr6 hP8
    have er6 : (upd H8 r6 (.lst [V.int a])) r6 = some (.lst [V.int a]) := upd_same
    have hP9 := s9 _ _ hP8
    generalize upd H8 r6 (.lst [V.int a]) = H9 at s9 er6 hP9 ⊢
    have fr6 : H r6 = none := K8.none hP8 hr6
    have K9 := K8.trans (Lay.Keep.of s9)
    clear hr6
    walk_at "rd"
    refine Lay.rd_disp (fun r7 hr7 => ?_)
    refine Lay.rd_pcons ?_
    walk_at "rd"
    refine Lay.rd_pnil ⟨upd_same, [(.inr "a", .int a)], rfl, (by show 1 ≤ 15; decide), ?_⟩
    rw [Lay.upd2]
    have s10 := Lay.Same.upd (o := .dK (mergeK [] [(.inr "a", V.int a)])) hr7
    have nr7 := Lay.ne_none hr7 hP9
    have er7 : (upd H9 r7 (.dK (mergeK [] [(.inr "a", V.int a)]))) r7 = some (.dK [(.inr "a", V.int a)]) := upd_same
    have hP10 := s10 _ _ hP9
    generalize upd H9 r7 (.dK (mergeK [] [(.inr "a", V.int a)])) = H10 at s10 er7 hP10 ⊢
    have fr7 : H r7 = none := K9.none hP9 hr7
    have K10 := K9.trans (Lay.Keep.of s10)
    clear hr7
    walk_at "rd"
    refine ⟨by decide, fun r8 hr8 => ?_⟩
    have s11 := Lay.Same.upd (o := .tup [V.str "step", V.str "cpu"]) hr8
    have nr8 := Lay.ne_none hr8 hP10
    have er8 : (upd H10 r8 (.tup [V.str "step", V.str "cpu"])) r8 = some (.tup [V.str "step", V.str "cpu"]) := upd_same
    have hP11 := s11 _ _ hP10
    generalize upd H10 r8 (.tup [V.str "step", V.str "cpu"]) = H11 at s11 er8 hP11 ⊢
    have fr8 : H r8 = none := K10.none hP10 hr8
    have K11 := K10.trans (Lay.Keep.of s11)
    clear hr8
    walk_at "rd"
    refine ⟨by decide, fun r9 hr9 => ?_⟩
    have s12 := Lay.Same.upd (o := .tup [V.str "fetch", V.str "cpu", V.int a]) hr9
    have nr9 := Lay.ne_none hr9 hP11
    have er9 : (upd H11 r9 (.tup [V.str "fetch", V.str "cpu", V.int a])) r9 = some (.tup [V.str "fetch", V.str "cpu", V.int a]) := upd_same
    have hP12 := s12 _ _ hP11
    generalize upd H11 r9 (.tup [V.str "fetch", V.str "cpu", V.int a]) = H12 at s12 er9 hP12 ⊢
    have fr9 : H r9 = none := K11.none hP11 hr9
    have K12 := K11.trans (Lay.Keep.of s12)
    clear hr9
    walk_at "rd"
    refine ⟨by decide, fun r10 hr10 => ?_⟩
    have s13 := Lay.Same.upd (o := .tup [V.ref r8, V.ref r9]) hr10
    have nr10 := Lay.ne_none hr10 hP12
    have er10 : (upd H12 r10 (.tup [V.ref r8, V.ref r9])) r10 = some (.tup [V.ref r8, V.ref r9]) := upd_same
    have hP13 := s13 _ _ hP12
    generalize upd H12 r10 (.tup [V.ref r8, V.ref r9]) = H13 at s13 er10 hP13 ⊢
    have fr10 : H r10 = none := K12.none hP12 hr10
    have K13 := K12.trans (Lay.Keep.of s13)
    clear hr10
    walk_at "rd"
    refine ⟨by decide, fun D2 hD2 => ?_⟩
    have s14 := Lay.Same.upd (o := .lst [V.ref r6, V.ref r7, V.int (10 ^ 30), V.ref r10]) hD2
    have nD2 := Lay.ne_none hD2 hP13
    have eD2 : (upd H13 D2 (.lst [V.ref r6, V.ref r7, V.int (10 ^ 30), V.ref r10])) D2 = some (.lst [V.ref r6, V.ref r7, V.int (10 ^ 30), V.ref r10]) := upd_same
    have hP14 := s14 _ _ hP13
    generalize upd H13 D2 (.lst [V.ref r6, V.ref r7, V.int (10 ^ 30), V.ref r10]) = H14 at s14 eD2 hP14 ⊢
    have fD2 : H D2 = none := K13.none hP13 hD2
    have K14 := K13.trans (Lay.Keep.of s14)
    clear hD2
    walk_at "rd"
    refine Lay.rd_cat (s14 _ _ (s13 _ _ (s12 _ _ (s11 _ _ (s10 _ _ (s9 _ _ eD1)))))) eD2 (by simp only [List.length_cons, List.length_nil]; decide) (fun D3 hD3 => ?_)
    try dsimp only [List.cons_append, List.nil_append] at hD3 ⊢
    have s15 := Lay.Same.upd (o := .lst [V.ref r3, V.ref r4, V.str "still", V.non, V.bl true, V.bl false, V.int m, V.ref r5, V.ref r6, V.ref r7, V.int (10 ^ 30), V.ref r10]) hD3
    have nD3 := Lay.ne_none hD3 hP14
    have eD3 : (upd H14 D3 (.lst [V.ref r3, V.ref r4, V.str "still", V.non, V.bl true, V.bl false, V.int m, V.ref r5, V.ref r6, V.ref r7, V.int (10 ^ 30), V.ref r10])) D3 = some (.lst [V.ref r3, V.ref r4, V.str "still", V.non, V.bl true, V.bl false, V.int m, V.ref r5, V.ref r6, V.ref r7, V.int (10 ^ 30), V.ref r10]) := upd_same
    have hP15 := s15 _ _ hP14
    generalize upd H14 D3 (.lst [V.ref r3, V.ref r4, V.str "still", V.non, V.bl true, V.bl false, V.int m, V.ref r5, V.ref r6, V.ref r7, V.int (10 ^ 30), V.ref r10]) = H15 at s15 eD3 hP15 ⊢
    have fD3 : H D3 = none := K14.none hP14 hD3
    have K15 := K14.trans (Lay.Keep.of s15)
    clear hD3
    walk_at "rd"
    refine ⟨by decide, fun r11 hr11 => ?_⟩
    have s16 := Lay.Same.upd (o := .lst []) hr11
    have nr11 := Lay.ne_none hr11 hP15
    have er11 : (upd H15 r11 (.lst [])) r11 = some (.lst []) := upd_same
    have hP16 := s16 _ _ hP15
    generalize upd H15 r11 (.lst []) = H16 at s16 er11 hP16 ⊢
    have fr11 : H r11 = none := K15.none hP15 hr11
    have K16 := K15.trans (Lay.Keep.of s16)
    clear hr11
    walk_at "rd"
    refine ⟨by decide, fun r12 hr12 => ?_⟩
    have s17 := Lay.Same.upd (o := .tup []) hr12
    have nr12 := Lay.ne_none hr12 hP16
    have er12 : (upd H16 r12 (.tup [])) r12 = some (.tup []) := upd_same
    have hP17 := s17 _ _ hP16
    generalize upd H16 r12 (.tup []) = H17 at s17 er12 hP17 ⊢
    have fr12 : H r12 = none := K16.none hP16 hr12
    have K17 := K16.trans (Lay.Keep.of s17)
    clear hr12
    walk_at "rd"
    refine ⟨by decide, fun r13 hr13 => ?_⟩
    have s18 := Lay.Same.upd (o := .lst [V.ref r11, V.ref r12]) hr13
    have nr13 := Lay.ne_none hr13 hP17
    have er13 : (upd H17 r13 (.lst [V.ref r11, V.ref r12])) r13 = some (.lst [V.ref r11, V.ref r12]) := upd_same
    have hP18 := s18 _ _ hP17
    generalize upd H17 r13 (.lst [V.ref r11, V.ref r12]) = H18 at s18 er13 hP18 ⊢
    have fr13 : H r13 = none := K17.none hP17 hr13
    have K18 := K17.trans (Lay.Keep.of s18)
    clear hr13
    walk_at "rd"
    refine ⟨by decide, fun r14 hr14 => ?_⟩
    have s19 := Lay.Same.upd (o := .tup [V.int a, V.int m]) hr14
    have nr14 := Lay.ne_none hr14 hP18
    have er14 : (upd H18 r14 (.tup [V.int a, V.int m])) r14 = some (.tup [V.int a, V.int m]) := upd_same
    have hP19 := s19 _ _ hP18
    generalize upd H18 r14 (.tup [V.int a, V.int m]) = H19 at s19 er14 hP19 ⊢
    have fr14 : H r14 = none := K18.none hP18 hr14
    have K19 := K18.trans (Lay.Keep.of s19)
    clear hr14
    walk_at "rd"
    refine ⟨by decide, fun r15 hr15 => ?_⟩
    have s20 := Lay.Same.upd (o := .tup [V.ref r14]) hr15
    have nr15 := Lay.ne_none hr15 hP19
    have er15 : (upd H19 r15 (.tup [V.ref r14])) r15 = some (.tup [V.ref r14]) := upd_same
    have hP20 := s20 _ _ hP19
    generalize upd H19 r15 (.tup [V.ref r14]) = H20 at s20 er15 hP20 ⊢
    have fr15 : H r15 = none := K19.none hP19 hr15
    have K20 := K19.trans (Lay.Keep.of s20)
    clear hr15
    walk_at "rd"
    refine ⟨by decide, fun D4 hD4 => ?_⟩
    have s21 := Lay.Same.upd (o := .lst [V.ref r13, V.str "", V.int (-1 - a), V.ref r15]) hD4
    have nD4 := Lay.ne_none hD4 hP20
    have eD4 : (upd H20 D4 (.lst [V.ref r13, V.str "", V.int (-1 - a), V.ref r15])) D4 = some (.lst [V.ref r13, V.str "", V.int (-1 - a), V.ref r15]) := upd_same
    have hP21 := s21 _ _ hP20
    generalize upd H20 D4 (.lst [V.ref r13, V.str "", V.int (-1 - a), V.ref r15]) = H21 at s21 eD4 hP21 ⊢
    have fD4 : H D4 = none := K20.none hP20 hD4
    have K21 := K20.trans (Lay.Keep.of s21)
    clear hD4
    walk_at "rd"
    refine Lay.rd_cat (s21 _ _ (s20 _ _ (s19 _ _ (s18 _ _ (s17 _ _ (s16 _ _ eD3)))))) eD4 (by simp only [List.length_cons, List.length_nil]; decide) (fun D5 hD5 => ?_)
    try dsimp only [List.cons_append, List.nil_append] at hD5 ⊢
    have s22 := Lay.Same.upd (o := .lst [V.ref r3, V.ref r4, V.str "still", V.non, V.bl true, V.bl false, V.int m, V.ref r5, V.ref r6, V.ref r7, V.int (10 ^ 30), V.ref r10, V.ref r13, V.str "", V.int (-1 - a), V.ref r15]) hD5
    have nD5 := Lay.ne_none hD5 hP21
    have eD5 : (upd H21 D5 (.lst [V.ref r3, V.ref r4, V.str "still", V.non, V.bl true, V.bl false, V.int m, V.ref r5, V.ref r6, V.ref r7, V.int (10 ^ 30), V.ref r10, V.ref r13, V.str "", V.int (-1 - a), V.ref r15])) D5 = some (.lst [V.ref r3, V.ref r4, V.str "still", V.non, V.bl true, V.bl false, V.int m, V.ref r5, V.ref r6, V.ref r7, V.int (10 ^ 30), V.ref r10, V.ref r13, V.str "", V.int (-1 - a), V.ref r15]) := upd_same
    have hP22 := s22 _ _ hP21
    generalize upd H21 D5 (.lst [V.ref r3, V.ref r4, V.str "still", V.non, V.bl true, V.bl false, V.int m, V.ref r5, V.ref r6, V.ref r7, V.int (10 ^ 30), V.ref r10, V.ref r13, V.str "", V.int (-1 - a), V.ref r15]) = H22 at s22 eD5 hP22 ⊢
    have fD5 : H D5 = none := K21.none hP21 hD5
    have K22 := K21.trans (Lay.Keep.of s22)
    clear hD5
    walk_at "rd"
    have S : L2.Same H2 H22 := fun b o e => (s22 _ _ (s21 _ _ (s20 _ _ (s19 _ _ (s18 _ _ (s17 _ _ (s16 _ _ (s15 _ _ (s14 _ _ (s13 _ _ (s12 _ _ (s11 _ _ (s10 _ _ (s9 _ _ (s8 _ _ (s7 _ _ (s6 _ _ (s5 _ _ (s4 _ _ (s3 _ _ e))))))))))))))))))))
    have pL := p2.mono S
    replace er1 := (s22 _ _ (s21 _ _ (s20 _ _ (s19 _ _ (s18 _ _ (s17 _ _ (s16 _ _ (s15 _ _ (s14 _ _ (s13 _ _ (s12 _ _ (s11 _ _ (s10 _ _ (s9 _ _ (s8 _ _ (s7 _ _ (s6 _ _ (s5 _ _ (s4 _ _ er1)))))))))))))))))))
    replace er2 := (s22 _ _ (s21 _ _ (s20 _ _ (s19 _ _ (s18 _ _ (s17 _ _ (s16 _ _ (s15 _ _ (s14 _ _ (s13 _ _ (s12 _ _ (s11 _ _ (s10 _ _ (s9 _ _ (s8 _ _ (s7 _ _ (s6 _ _ (s5 _ _ er2))))))))))))))))))
    replace er3 := (s22 _ _ (s21 _ _ (s20 _ _ (s19 _ _ (s18 _ _ (s17 _ _ (s16 _ _ (s15 _ _ (s14 _ _ (s13 _ _ (s12 _ _ (s11 _ _ (s10 _ _ (s9 _ _ (s8 _ _ (s7 _ _ (s6 _ _ er3)))))))))))))))))
    replace er4 := (s22 _ _ (s21 _ _ (s20 _ _ (s19 _ _ (s18 _ _ (s17 _ _ (s16 _ _ (s15 _ _ (s14 _ _ (s13 _ _ (s12 _ _ (s11 _ _ (s10 _ _ (s9 _ _ (s8 _ _ (s7 _ _ er4))))))))))))))))
    replace er5 := (s22 _ _ (s21 _ _ (s20 _ _ (s19 _ _ (s18 _ _ (s17 _ _ (s16 _ _ (s15 _ _ (s14 _ _ (s13 _ _ (s12 _ _ (s11 _ _ (s10 _ _ (s9 _ _ (s8 _ _ er5)))))))))))))))
    replace er6 := (s22 _ _ (s21 _ _ (s20 _ _ (s19 _ _ (s18 _ _ (s17 _ _ (s16 _ _ (s15 _ _ (s14 _ _ (s13 _ _ (s12 _ _ (s11 _ _ (s10 _ _ er6)))))))))))))
    replace er7 := (s22 _ _ (s21 _ _ (s20 _ _ (s19 _ _ (s18 _ _ (s17 _ _ (s16 _ _ (s15 _ _ (s14 _ _ (s13 _ _ (s12 _ _ (s11 _ _ er7))))))))))))
    replace er8 := (s22 _ _ (s21 _ _ (s20 _ _ (s19 _ _ (s18 _ _ (s17 _ _ (s16 _ _ (s15 _ _ (s14 _ _ (s13 _ _ (s12 _ _ er8)))))))))))
    replace er9 := (s22 _ _ (s21 _ _ (s20 _ _ (s19 _ _ (s18 _ _ (s17 _ _ (s16 _ _ (s15 _ _ (s14 _ _ (s13 _ _ er9))))))))))
    replace er10 := (s22 _ _ (s21 _ _ (s20 _ _ (s19 _ _ (s18 _ _ (s17 _ _ (s16 _ _ (s15 _ _ (s14 _ _ er10)))))))))
    replace er11 := (s22 _ _ (s21 _ _ (s20 _ _ (s19 _ _ (s18 _ _ (s17 _ _ er11))))))
    replace er12 := (s22 _ _ (s21 _ _ (s20 _ _ (s19 _ _ (s18 _ _ er12)))))
    replace er13 := (s22 _ _ (s21 _ _ (s20 _ _ (s19 _ _ er13))))
    replace er14 := (s22 _ _ (s21 _ _ (s20 _ _ er14)))
    replace er15 := (s22 _ _ (s21 _ _ er15))
    refine Lay.rd_draw pL (L2.Same.refl _) (by omega) (by decide) (by decide) (fun d HE d0 d1 pE kE => ?_)
    have KE : Lay.Keep p H HE := ((k1.trans k2).trans (Lay.Keep.of S)).trans kE
    replace eD5 := kE _ _ nD5 eD5
    replace er1 := kE _ _ nr1 er1
    replace er2 := kE _ _ nr2 er2
    replace er3 := kE _ _ nr3 er3
    replace er4 := kE _ _ nr4 er4
    replace er5 := kE _ _ nr5 er5
    replace er6 := kE _ _ nr6 er6
    replace er7 := kE _ _ nr7 er7
    replace er8 := kE _ _ nr8 er8
    replace er9 := kE _ _ nr9 er9
    replace er10 := kE _ _ nr10 er10
    replace er11 := kE _ _ nr11 er11
    replace er12 := kE _ _ nr12 er12
    replace er13 := kE _ _ nr13 er13
    replace er14 := kE _ _ nr14 er14
    replace er15 := kE _ _ nr15 er15
    clear s3 s4 s5 s6 s7 s8 s9 s10 s11 s12 s13 s14 s15 s16 s17 s18 s19 s20 s21 s22 hP2 hP3 hP4 hP5 hP6 hP7 hP8 hP9 hP10 hP11 hP12 hP13 hP14 hP15 hP16 hP17 hP18 hP19 hP20 hP21 hP22 K2 K3 K4 K5 K6 K7 K8 K9 K10 K11 K12 K13 K14 K15 K16 K17 K18 K19 K20 K21 K22 S pL kE k1 k2 p1 p2 hp
    obtain rfl | rfl | rfl | rfl | rfl | rfl | rfl | rfl | rfl | rfl | rfl | rfl | rfl | rfl | rfl | rfl : d = 0 ∨ d = 1 ∨ d = 2 ∨ d = 3 ∨ d = 4 ∨ d = 5 ∨ d = 6 ∨ d = 7 ∨ d = 8 ∨ d = 9 ∨ d = 10 ∨ d = 11 ∨ d = 12 ∨ d = 13 ∨ d = 14 ∨ d = 15 := by omega
    · exact Lay.rd_ixL (SqL.of eD5) (Lay.atI_int (by decide) rfl) (q _ _ HE (fun H2 hk => .of (.tup (SqT.of (hk _ _ fr3 er3)) (.cons (.tup (SqT.of (hk _ _ fr1 er1)) (.cons (.int _) (.cons (.int _) .nil))) (.cons (.tup (SqT.of (hk _ _ fr2 er2)) (.cons (.int _) (.cons (.int _) .nil))) .nil))) (ok_t2a a0 a1 m0 m1)) (pE.le (by omega)) KE)
    · exact Lay.rd_ixL (SqL.of eD5) (Lay.atI_int (by decide) rfl) (q _ _ HE (fun H2 hk => .of (.tup (SqT.of (hk _ _ fr4 er4)) (.cons (.int _) (.cons (.int _) .nil))) (ok_t1 a0 a1 m0 m1)) (pE.le (by omega)) KE)
    · exact Lay.rd_ixL (SqL.of eD5) (Lay.atI_int (by decide) rfl) (q _ _ HE (fun H2 hk => .of (.str _) (Lay.okD_of (by decide +kernel))) (pE.le (by omega)) KE)
    · exact Lay.rd_ixL (SqL.of eD5) (Lay.atI_int (by decide) rfl) (q _ _ HE (fun H2 hk => .of .non (Lay.okD_of (by decide +kernel))) (pE.le (by omega)) KE)
    · exact Lay.rd_ixL (SqL.of eD5) (Lay.atI_int (by decide) rfl) (q _ _ HE (fun H2 hk => .of (.bl _) (Lay.okD_of (by decide +kernel))) (pE.le (by omega)) KE)
    · exact Lay.rd_ixL (SqL.of eD5) (Lay.atI_int (by decide) rfl) (q _ _ HE (fun H2 hk => .of (.bl _) (Lay.okD_of (by decide +kernel))) (pE.le (by omega)) KE)
    · exact Lay.rd_ixL (SqL.of eD5) (Lay.atI_int (by decide) rfl) (q _ _ HE (fun H2 hk => .of (.int _) (ok_im m0 m1)) (pE.le (by omega)) KE)
    · exact Lay.rd_ixL (SqL.of eD5) (Lay.atI_int (by decide) rfl) (q _ _ HE (fun H2 hk => .of (.tup (SqT.of (hk _ _ fr5 er5)) .nil) (Lay.okD_of (by decide +kernel))) (pE.le (by omega)) KE)
    · exact Lay.rd_ixL (SqL.of eD5) (Lay.atI_int (by decide) rfl) (q _ _ HE (fun H2 hk => .of (.lst (SqL.of (hk _ _ fr6 er6)) (.cons (.int _) .nil)) (ok_la a0 a1)) (pE.le (by omega)) KE)
    · exact Lay.rd_ixL (SqL.of eD5) (Lay.atI_int (by decide) rfl) (q _ _ HE (fun H2 hk => .dct (hk _ _ fr7 er7) a0 (by omega)) (pE.le (by omega)) KE)
    · exact Lay.rd_ixL (SqL.of eD5) (Lay.atI_int (by decide) rfl) (q _ _ HE (fun H2 hk => .of (.int _) (Lay.okD_of (by decide +kernel))) (pE.le (by omega)) KE)
    · exact Lay.rd_ixL (SqL.of eD5) (Lay.atI_int (by decide) rfl) (q _ _ HE (fun H2 hk => .of (.tup (SqT.of (hk _ _ fr10 er10)) (.cons (.tup (SqT.of (hk _ _ fr8 er8)) (.cons (.str _) (.cons (.str _) .nil))) (.cons (.tup (SqT.of (hk _ _ fr9 er9)) (.cons (.str _) (.cons (.str _) (.cons (.int _) .nil)))) .nil))) (ok_st a0 a1)) (pE.le (by omega)) KE)
    · exact Lay.rd_ixL (SqL.of eD5) (Lay.atI_int (by decide) rfl) (q _ _ HE (fun H2 hk => .of (.lst (SqL.of (hk _ _ fr13 er13)) (.cons (.lst (SqL.of (hk _ _ fr11 er11)) .nil) (.cons (.tup (SqT.of (hk _ _ fr12 er12)) .nil) .nil))) (Lay.okD_of (by decide +kernel))) (pE.le (by omega)) KE)
    · exact Lay.rd_ixL (SqL.of eD5) (Lay.atI_int (by decide) rfl) (q _ _ HE (fun H2 hk => .of (.str _) (Lay.okD_of (by decide +kernel))) (pE.le (by omega)) KE)
    · exact Lay.rd_ixL (SqL.of eD5) (Lay.atI_int (by decide) rfl) (q _ _ HE (fun H2 hk => .of (.int _) (ok_ng a0 a1)) (pE.le (by omega)) KE)
    · exact Lay.rd_ixL (SqL.of eD5) (Lay.atI_int (by decide) rfl) (q _ _ HE (fun H2 hk => .of (.tup (SqT.of (hk _ _ fr15 er15)) (.cons (.tup (SqT.of (hk _ _ fr14 er14)) (.cons (.int _) (.cons (.int _) .nil))) .nil)) (ok_tt a0 a1 m0 m1)) (pE.le (by omega)) KE)

theorem ok_made (T : Txt K mg A) (G_Still_init : FnR P w K mg base CX0 1 A.a_Still_init (Lay.spFInit A.c_Still "still" ["ring"])) (G_Clash_init : FnR P w K mg base CX0 1 A.a_Clash_init (Lay.spFInit A.c_Clash "clash" ["one", "other", "run"])) (G_Wrong_init : FnR P w K mg base CX0 1 A.a_Wrong_init (Lay.spFInit A.c_Wrong "wrong" ["rows", "eager", "whole"])) (G_Right_init : FnR P w K mg base CX0 1 A.a_Right_init (Lay.spFInit A.c_Right "right" ["steps", "ways", "eager", "whole"])) : FnOk P w K mg base CX0 3 A.a_made A.d_made ["_law_at", "_law_fields"] (Lay.spFMade (Lay.c4 A.c_Still A.c_Clash A.c_Wrong A.c_Right)) := by
  refine T.F_made.ok sc_made (fun vs H Q E h => ?_) (fun cdv A0 outer s H vs Q E hr h => ?_)
  · obtain ⟨k, a, us, rfl, _⟩ := h
    rfl
  · obtain ⟨k, a, us, rfl, h0, h1, ha, hl, q⟩ := h
    obtain ⟨u0, u1, u2, u3, rfl⟩ : ∃ u0 u1 u2 u3 : V, us = [u0, u1, u2, u3] := by
      match us, hl with
      | [u0, u1, u2, u3], _ => exact ⟨u0, u1, u2, u3, rfl⟩
    refine ⟨_, (pss_cons (ps_if (pt_cmpR op_eq (pv 0) pe_int (nomark _))
      (pss_one (ps_ret (StX.pe_makeR T.mk_Still G_Still_init (hr.mono (by decide)) rfl T.g_Still pass0 (pa_cons (pe_ix ix_list (pv 1) pe_int (fun _ _ => rfl)) pa_nil))))
      pss_nil)
    (pss_cons (ps_if (pt_cmpR op_eq (pv 0) pe_int (nomark _))
      (pss_one (ps_ret (StX.pe_makeR T.mk_Clash G_Clash_init (hr.mono (by decide)) rfl T.g_Clash pass0 (pa_cons (pe_ix ix_list (pv 1) pe_int (fun _ _ => rfl)) (pa_cons (pe_ix ix_list (pv 1) pe_int (fun _ _ => rfl)) (pa_cons (pe_ix ix_list (pv 1) pe_int (fun _ _ => rfl)) pa_nil))))))
      pss_nil)
    (pss_cons (ps_if (pt_cmpR op_eq (pv 0) pe_int (nomark _))
      (pss_one (ps_ret (StX.pe_makeR T.mk_Wrong G_Wrong_init (hr.mono (by decide)) rfl T.g_Wrong pass0 (pa_cons (pe_ix ix_list (pv 1) pe_int (fun _ _ => rfl)) (pa_cons (pe_ix ix_list (pv 1) pe_int (fun _ _ => rfl)) (pa_cons (pe_ix ix_list (pv 1) pe_int (fun _ _ => rfl)) pa_nil))))))
      pss_nil)
    (pss_one (ps_ret (StX.pe_makeR T.mk_Right G_Right_init (hr.mono (by decide)) rfl T.g_Right pass0 (pa_cons (pe_ix ix_list (pv 1) pe_int (fun _ _ => rfl)) (pa_cons (pe_ix ix_list (pv 1) pe_int (fun _ _ => rfl)) (pa_cons (pe_ix ix_list (pv 1) pe_int (fun _ _ => rfl)) (pa_cons (pe_ix ix_list (pv 1) pe_int (fun _ _ => rfl)) pa_nil)))))))))), ?_⟩
    walk_at "in"
    walk_at "rd"
    rcases Lay.k4 h0 h1 with rfl | rfl | rfl | rfl
    · walk_at "itk"
      refine Lay.rd_makeR ?_
      walk_at "rd"
      exact Lay.mk_fin rfl q
    · walk_at "itk"
      refine Lay.rd_makeR ?_
      walk_at "rd"
      exact Lay.mk_fin rfl q
    · walk_at "itk"
      refine Lay.rd_makeR ?_
      walk_at "rd"
      exact Lay.mk_fin rfl q
    · walk_at "itk"
      refine Lay.rd_makeR ?_
      walk_at "rd"
      exact Lay.mk_fin rfl q
theorem ok_kept (T : Txt K mg A) : FnOk P w K mg base CX0 1 A.a_kept A.d_kept ["_law_at", "_law_finding"] (Lay.spFKept (Lay.c4 A.c_Still A.c_Clash A.c_Wrong A.c_Right)) := by
  refine T.F_kept.ok sc_kept (fun vs H Q E h => ?_) (fun cdv A0 outer s H vs Q E hr h => ?_)
  · obtain ⟨k, a, us, rfl, _⟩ := h
    rfl
  · obtain ⟨k, a, us, rfl, h0, h1, ⟨⟨dx, hx⟩, hl⟩, q⟩ := h
    refine ⟨_, (pss_cons (ps_if (pt_cmpR op_eq (pv 0) pe_int (nomark _))
      (pss_one (ps_ret (pe_lst (pa_cons (pe_fld (pv 1) rfl) pa_nil))))
      pss_nil)
    (pss_cons (ps_if (pt_cmpR op_eq (pv 0) pe_int (nomark _))
      (pss_one (ps_ret (pe_lst (pa_cons (pe_fld (pv 1) rfl) (pa_cons (pe_fld (pv 1) rfl) (pa_cons (pe_fld (pv 1) rfl) pa_nil))))))
      pss_nil)
    (pss_cons (ps_if (pt_cmpR op_eq (pv 0) pe_int (nomark _))
      (pss_one (ps_ret (pe_lst (pa_cons (pe_fld (pv 1) rfl) (pa_cons (pe_fld (pv 1) rfl) (pa_cons (pe_fld (pv 1) rfl) pa_nil))))))
      pss_nil)
    (pss_one (ps_ret (pe_lst (pa_cons (pe_fld (pv 1) rfl) (pa_cons (pe_fld (pv 1) rfl) (pa_cons (pe_fld (pv 1) rfl) (pa_cons (pe_fld (pv 1) rfl) pa_nil)))))))))), ?_⟩
    walk_at "in"
    walk_at "rd"
    rcases Lay.k4 h0 h1 with rfl | rfl | rfl | rfl
    · obtain ⟨v0, rfl⟩ : ∃ v0 : V, us = [v0] := by
        match us, hl with
        | [v0], _ => exact ⟨v0, rfl⟩
      replace hx : H a = some (.ins A.c_Still dx (Lay.fldF "still" ["ring"] [v0])) := hx
      walk_at "itk"
      refine Lay.rd_tFld ?_
      walk_at "rd"
      refine ⟨a, _, dx, _, v0, rfl, hx, T.cl_Still, T.na_Still_ring, by rfl, ?_⟩
      walk_at "rd"
      refine ⟨by decide, fun r hr1 => ?_⟩
      exact q r _ (Lay.Same.upd hr1) upd_same
    · obtain ⟨v0, v1, v2, rfl⟩ : ∃ v0 v1 v2 : V, us = [v0, v1, v2] := by
        match us, hl with
        | [v0, v1, v2], _ => exact ⟨v0, v1, v2, rfl⟩
      replace hx : H a = some (.ins A.c_Clash dx (Lay.fldF "clash" ["one", "other", "run"] [v0, v1, v2])) := hx
      walk_at "itk"
      refine Lay.rd_tFld ?_
      walk_at "rd"
      refine ⟨a, _, dx, _, v0, rfl, hx, T.cl_Clash, T.na_Clash_one, by rfl, ?_⟩
      walk_at "rd"
      refine Lay.rd_tFld ?_
      walk_at "rd"
      refine ⟨a, _, dx, _, v1, rfl, hx, T.cl_Clash, T.na_Clash_other, by rfl, ?_⟩
      walk_at "rd"
      refine Lay.rd_tFld ?_
      walk_at "rd"
      refine ⟨a, _, dx, _, v2, rfl, hx, T.cl_Clash, T.na_Clash_run, by rfl, ?_⟩
      walk_at "rd"
      refine ⟨by decide, fun r hr1 => ?_⟩
      exact q r _ (Lay.Same.upd hr1) upd_same
    · obtain ⟨v0, v1, v2, rfl⟩ : ∃ v0 v1 v2 : V, us = [v0, v1, v2] := by
        match us, hl with
        | [v0, v1, v2], _ => exact ⟨v0, v1, v2, rfl⟩
      replace hx : H a = some (.ins A.c_Wrong dx (Lay.fldF "wrong" ["rows", "eager", "whole"] [v0, v1, v2])) := hx
      walk_at "itk"
      refine Lay.rd_tFld ?_
      walk_at "rd"
      refine ⟨a, _, dx, _, v0, rfl, hx, T.cl_Wrong, T.na_Wrong_rows, by rfl, ?_⟩
      walk_at "rd"
      refine Lay.rd_tFld ?_
      walk_at "rd"
      refine ⟨a, _, dx, _, v1, rfl, hx, T.cl_Wrong, T.na_Wrong_eager, by rfl, ?_⟩
      walk_at "rd"
      refine Lay.rd_tFld ?_
      walk_at "rd"
      refine ⟨a, _, dx, _, v2, rfl, hx, T.cl_Wrong, T.na_Wrong_whole, by rfl, ?_⟩
      walk_at "rd"
      refine ⟨by decide, fun r hr1 => ?_⟩
      exact q r _ (Lay.Same.upd hr1) upd_same
    · obtain ⟨v0, v1, v2, v3, rfl⟩ : ∃ v0 v1 v2 v3 : V, us = [v0, v1, v2, v3] := by
        match us, hl with
        | [v0, v1, v2, v3], _ => exact ⟨v0, v1, v2, v3, rfl⟩
      replace hx : H a = some (.ins A.c_Right dx (Lay.fldF "right" ["steps", "ways", "eager", "whole"] [v0, v1, v2, v3])) := hx
      walk_at "itk"
      refine Lay.rd_tFld ?_
      walk_at "rd"
      refine ⟨a, _, dx, _, v0, rfl, hx, T.cl_Right, T.na_Right_steps, by rfl, ?_⟩
      walk_at "rd"
      refine Lay.rd_tFld ?_
      walk_at "rd"
      refine ⟨a, _, dx, _, v1, rfl, hx, T.cl_Right, T.na_Right_ways, by rfl, ?_⟩
      walk_at "rd"
      refine Lay.rd_tFld ?_
      walk_at "rd"
      refine ⟨a, _, dx, _, v2, rfl, hx, T.cl_Right, T.na_Right_eager, by rfl, ?_⟩
      walk_at "rd"
      refine Lay.rd_tFld ?_
      walk_at "rd"
      refine ⟨a, _, dx, _, v3, rfl, hx, T.cl_Right, T.na_Right_whole, by rfl, ?_⟩
      walk_at "rd"
      refine ⟨by decide, fun r hr1 => ?_⟩
      exact q r _ (Lay.Same.upd hr1) upd_same
theorem ok_sorts (T : Txt K mg A) : FnOk P w K mg base CX0 1 A.a_sorts A.d_sorts ["_law_finding"] (Lay.spFSorts (Lay.c4 A.c_Still A.c_Clash A.c_Wrong A.c_Right)) := by
  refine T.F_sorts.ok sc_sorts (fun vs H Q E h => ?_) (fun cdv A0 outer s H vs Q E hr h => ?_)
  · obtain ⟨k, a, us, rfl, _⟩ := h
    rfl
  · obtain ⟨k, a, us, rfl, h0, h1, ⟨⟨dx, hx⟩, hl⟩, q⟩ := h
    refine ⟨_, (pss_cons (ps_set (i := 1) sc_sorts.nd rfl (Or.inl rfl) (pe_lst (pa_cons (pe_callB call_isi (by rfl) T.n_isinstance (by decide +kernel) (pa_cons (pv 0) (pa_cons (pe_glob (v := .ref A.c_Still) rfl T.g_Still rfl) pa_nil))) (pa_cons (pe_callB call_isi (by rfl) T.n_isinstance (by decide +kernel) (pa_cons (pv 0) (pa_cons (pe_glob (v := .ref A.c_Clash) rfl T.g_Clash rfl) pa_nil))) (pa_cons (pe_callB call_isi (by rfl) T.n_isinstance (by decide +kernel) (pa_cons (pv 0) (pa_cons (pe_glob (v := .ref A.c_Wrong) rfl T.g_Wrong rfl) pa_nil))) pa_nil)))))
    (pss_one (ps_ret (pe_op op_cat (pv 1) (pe_lst (pa_cons (pe_callB call_isi (by rfl) T.n_isinstance (by decide +kernel) (pa_cons (pv 0) (pa_cons (pe_glob (v := .ref A.c_Right) rfl T.g_Right rfl) pa_nil))) (pa_cons (pe_callB call_isi (by rfl) T.n_isinstance (by decide +kernel) (pa_cons (pv 0) (pa_cons (pe_glob (v := .ref A.c_Finding) rfl T.g_Finding rfl) pa_nil))) pa_nil))))))), ?_⟩
    walk_at "in"
    walk_at "rd"
    rcases Lay.k4 h0 h1 with rfl | rfl | rfl | rfl
    · replace hx : H a = some (.ins A.c_Still dx (Lay.fldF "still" ["ring"] us)) := hx
      refine Lay.rd_isiC (T.in_Still _ a dx _ hx) T.ki_Still_Still ?_
      walk_at "rd"
      refine Lay.rd_isiC (T.in_Still _ a dx _ hx) T.ki_Still_Clash ?_
      walk_at "rd"
      refine Lay.rd_isiC (T.in_Still _ a dx _ hx) T.ki_Still_Wrong ?_
      walk_at "rd"
      refine ⟨by decide, fun r1 h1' => ?_⟩
      have s1 := Lay.Same.upd (o := .lst [V.bl true, V.bl false, V.bl false]) h1'
      walk_at "rd"
      refine Lay.rd_isiC (T.in_Still _ a dx _ (s1 _ _ hx)) T.ki_Still_Right ?_
      walk_at "rd"
      refine Lay.rd_isiC (T.in_Still _ a dx _ (s1 _ _ hx)) T.ki_Still_Finding ?_
      walk_at "rd"
      refine ⟨by decide, fun r2 h2' => ?_⟩
      have s2 := s1.trans (Lay.Same.upd (o := .lst [V.bl false, V.bl true]) h2')
      walk_at "rd"
      refine Lay.rd_cat (Lay.upd_old h2' upd_same) upd_same (by decide) (fun r3 h3 => ?_)
      exact q r3 _ (s2.trans (Lay.Same.upd h3)) upd_same
    · replace hx : H a = some (.ins A.c_Clash dx (Lay.fldF "clash" ["one", "other", "run"] us)) := hx
      refine Lay.rd_isiC (T.in_Clash _ a dx _ hx) T.ki_Clash_Still ?_
      walk_at "rd"
      refine Lay.rd_isiC (T.in_Clash _ a dx _ hx) T.ki_Clash_Clash ?_
      walk_at "rd"
      refine Lay.rd_isiC (T.in_Clash _ a dx _ hx) T.ki_Clash_Wrong ?_
      walk_at "rd"
      refine ⟨by decide, fun r1 h1' => ?_⟩
      have s1 := Lay.Same.upd (o := .lst [V.bl false, V.bl true, V.bl false]) h1'
      walk_at "rd"
      refine Lay.rd_isiC (T.in_Clash _ a dx _ (s1 _ _ hx)) T.ki_Clash_Right ?_
      walk_at "rd"
      refine Lay.rd_isiC (T.in_Clash _ a dx _ (s1 _ _ hx)) T.ki_Clash_Finding ?_
      walk_at "rd"
      refine ⟨by decide, fun r2 h2' => ?_⟩
      have s2 := s1.trans (Lay.Same.upd (o := .lst [V.bl false, V.bl true]) h2')
      walk_at "rd"
      refine Lay.rd_cat (Lay.upd_old h2' upd_same) upd_same (by decide) (fun r3 h3 => ?_)
      exact q r3 _ (s2.trans (Lay.Same.upd h3)) upd_same
    · replace hx : H a = some (.ins A.c_Wrong dx (Lay.fldF "wrong" ["rows", "eager", "whole"] us)) := hx
      refine Lay.rd_isiC (T.in_Wrong _ a dx _ hx) T.ki_Wrong_Still ?_
      walk_at "rd"
      refine Lay.rd_isiC (T.in_Wrong _ a dx _ hx) T.ki_Wrong_Clash ?_
      walk_at "rd"
      refine Lay.rd_isiC (T.in_Wrong _ a dx _ hx) T.ki_Wrong_Wrong ?_
      walk_at "rd"
      refine ⟨by decide, fun r1 h1' => ?_⟩
      have s1 := Lay.Same.upd (o := .lst [V.bl false, V.bl false, V.bl true]) h1'
      walk_at "rd"
      refine Lay.rd_isiC (T.in_Wrong _ a dx _ (s1 _ _ hx)) T.ki_Wrong_Right ?_
      walk_at "rd"
      refine Lay.rd_isiC (T.in_Wrong _ a dx _ (s1 _ _ hx)) T.ki_Wrong_Finding ?_
      walk_at "rd"
      refine ⟨by decide, fun r2 h2' => ?_⟩
      have s2 := s1.trans (Lay.Same.upd (o := .lst [V.bl false, V.bl true]) h2')
      walk_at "rd"
      refine Lay.rd_cat (Lay.upd_old h2' upd_same) upd_same (by decide) (fun r3 h3 => ?_)
      exact q r3 _ (s2.trans (Lay.Same.upd h3)) upd_same
    · replace hx : H a = some (.ins A.c_Right dx (Lay.fldF "right" ["steps", "ways", "eager", "whole"] us)) := hx
      refine Lay.rd_isiC (T.in_Right _ a dx _ hx) T.ki_Right_Still ?_
      walk_at "rd"
      refine Lay.rd_isiC (T.in_Right _ a dx _ hx) T.ki_Right_Clash ?_
      walk_at "rd"
      refine Lay.rd_isiC (T.in_Right _ a dx _ hx) T.ki_Right_Wrong ?_
      walk_at "rd"
      refine ⟨by decide, fun r1 h1' => ?_⟩
      have s1 := Lay.Same.upd (o := .lst [V.bl false, V.bl false, V.bl false]) h1'
      walk_at "rd"
      refine Lay.rd_isiC (T.in_Right _ a dx _ (s1 _ _ hx)) T.ki_Right_Right ?_
      walk_at "rd"
      refine Lay.rd_isiC (T.in_Right _ a dx _ (s1 _ _ hx)) T.ki_Right_Finding ?_
      walk_at "rd"
      refine ⟨by decide, fun r2 h2' => ?_⟩
      have s2 := s1.trans (Lay.Same.upd (o := .lst [V.bl true, V.bl true]) h2')
      walk_at "rd"
      refine Lay.rd_cat (Lay.upd_old h2' upd_same) upd_same (by decide) (fun r3 h3 => ?_)
      exact q r3 _ (s2.trans (Lay.Same.upd h3)) upd_same
theorem ok_told (T : Txt K mg A) (G_made : FnOk P w K mg base CX0 3 A.a_made A.d_made ["_law_at", "_law_fields"] (Lay.spFMade (Lay.c4 A.c_Still A.c_Clash A.c_Wrong A.c_Right))) (G_kept : FnOk P w K mg base CX0 1 A.a_kept A.d_kept ["_law_at", "_law_finding"] (Lay.spFKept (Lay.c4 A.c_Still A.c_Clash A.c_Wrong A.c_Right))) (G_sorts : FnOk P w K mg base CX0 1 A.a_sorts A.d_sorts ["_law_finding"] (Lay.spFSorts (Lay.c4 A.c_Still A.c_Clash A.c_Wrong A.c_Right))) (G_Still_bool : FnOk P w K mg base CX0 1 A.a_Still_bool A.d_Still_bool ["self"] (Lay.spFBool A.c_Still "still" ["ring"] false)) (G_Clash_bool : FnOk P w K mg base CX0 1 A.a_Clash_bool A.d_Clash_bool ["self"] (Lay.spFBool A.c_Clash "clash" ["one", "other", "run"] false)) (G_Wrong_bool : FnOk P w K mg base CX0 1 A.a_Wrong_bool A.d_Wrong_bool ["self"] (Lay.spFBool A.c_Wrong "wrong" ["rows", "eager", "whole"] false)) (G_Right_bool : FnOk P w K mg base CX0 1 A.a_Right_bool A.d_Right_bool ["self"] (Lay.spFBool A.c_Right "right" ["steps", "ways", "eager", "whole"] true)) : Grd.FnG P w K mg base CX0 4 A.a_told A.d_told ["_law_at", "_law_fields"] (Lay.spFTold K) := by
  refine Grd.fun_okG T.F_told sc_told (fun vs H Q E h => ?_) (fun cdv A0 outer s H vs Q E hg hr h => ?_)
  · obtain ⟨k, a, us, ds, rfl, _⟩ := h
    rfl
  · obtain ⟨k, a, us, ds, rfl, h0, h1, ha, hl, hf, q⟩ := h
    refine ⟨_, (pss_cons (ps_set (i := 2) sc_told.nd rfl (Or.inl rfl) (pe_call G_made (hr.mono (by decide)) rfl T.g_made T.F_made.kp T.b_made .nil pass0 (pa_cons (pv 0) (pa_cons (pv 1) pa_nil))))
    (pss_cons (ps_set (i := 3) sc_told.nd rfl (Or.inl rfl) (pe_ix ix_list (pe_lst (pa_cons pe_str (pa_cons pe_str (pa_cons pe_str (pa_cons pe_str pa_nil))))) (pv 0) (fun _ _ => rfl)))
    (pss_cons (ps_if (pt_cmpR op_ne (pe_callB (Lay.call_reprX hg hr.units) (by rfl) T.n_repr (by decide +kernel) (pa_cons (pe_call G_kept (hr.mono (by decide)) rfl T.g_kept T.F_kept.kp T.b_kept .nil pass0 (pa_cons (pv 0) (pa_cons (pv 2) pa_nil))) pa_nil)) (pe_callB (Lay.call_reprX hg hr.units) (by rfl) T.n_repr (by decide +kernel) (pa_cons (pe_slice sl_list (pv 1) po_none (po_some (pe_ix ix_list (pe_lst (pa_cons pe_int (pa_cons pe_int (pa_cons pe_int (pa_cons pe_int pa_nil))))) (pv 0) (fun _ _ => rfl)))) pa_nil)) (nomark _))
      (pss_one (ps_ret pe_bl))
      pss_nil)
    (pss_cons (ps_if (pt_cmpR op_ne (pe_callB (Lay.call_reprX hg hr.units) (by rfl) T.n_repr (by decide +kernel) (pa_cons (pe_lst (pa_cons (pe_fld (pv 2) rfl) (pa_cons (pe_callTy OwnC.call_boolO (by rfl) T.n_bool (by decide +kernel) (pa_cons (pv 2) pa_nil)) pa_nil))) pa_nil)) (pe_callB (Lay.call_reprX hg hr.units) (by rfl) T.n_repr (by decide +kernel) (pa_cons (pe_lst (pa_cons (pv 3) (pa_cons (pe_cmpR op_eq (pv 0) pe_int (nomark _)) pa_nil))) pa_nil)) (nomark _))
      (pss_one (ps_ret pe_bl))
      pss_nil)
    (pss_one (ps_ret (pe_cmpR (Lay.op_eqW hr.units) (pe_call G_sorts (hr.mono (by decide)) rfl T.g_sorts T.F_sorts.kp T.b_sorts .nil pass0 (pa_cons (pv 2) pa_nil)) (pe_lst (pa_cons (pe_cmpR op_eq (pv 0) pe_int (nomark _)) (pa_cons (pe_cmpR op_eq (pv 0) pe_int (nomark _)) (pa_cons (pe_cmpR op_eq (pv 0) pe_int (nomark _)) (pa_cons (pe_cmpR op_eq (pv 0) pe_int (nomark _)) (pa_cons pe_bl pa_nil)))))) (nomark _)))))))), ?_⟩
    walk_at "in"
    walk_at "rd"
    refine ⟨k, a, us, rfl, h0, h1, ha, hl, fun x H1 s1 fx => ?_⟩
    walk_at "rd"
    refine ⟨by decide, fun W hW => ?_⟩
    have s2 := s1.trans (Lay.Same.upd (o := .lst [V.str "still", V.str "clash", V.str "wrong", V.str "right"]) hW)
    replace fx := Lay.Fin.mono (Lay.Same.upd (o := .lst [V.str "still", V.str "clash", V.str "wrong", V.str "right"]) hW) fx
    have eW : (upd H1 W (.lst [V.str "still", V.str "clash", V.str "wrong", V.str "right"])) W = some (.lst [V.str "still", V.str "clash", V.str "wrong", V.str "right"]) := upd_same
    generalize upd H1 W (.lst [V.str "still", V.str "clash", V.str "wrong", V.str "right"]) = H2 at s2 fx eW ⊢
    clear s1 hW
    have ew : atI [V.str "still", V.str "clash", V.str "wrong", V.str "right"] k = some (.str (Lay.wdK k)) := by
      rcases Lay.k4 h0 h1 with rfl | rfl | rfl | rfl <;> rfl
    walk_at "rd"
    refine Lay.rd_ixL (SqL.of eW) ew ?_
    walk_at "rd"
    refine ⟨k, x, us.take (Lay.manyK k), rfl, h0, h1, fx, fun r H3 s3 er => ?_⟩
    walk_at "rd"
    have mle := Lay.many_le h0 h1
    have tl : (us.take (Lay.manyK k)).length = Lay.manyK k := by rw [List.length_take]; omega
    have tne : us.take (Lay.manyK k) ≠ [] := fun e => by rw [e] at tl; simp at tl; omega
    have s3' := s2.trans s3
    refine ⟨r, _, ds.take (Lay.manyK k), rfl, SqL.of er, NetG.ptake _ (hf _ s3'), by omega, tne, ?_⟩
    walk_at "rd"
    refine ⟨by decide, fun M hM => ?_⟩
    have s4 := Lay.Same.upd (o := .lst [V.int 1, V.int 3, V.int 3, V.int 4]) hM
    have em : atI [V.int 1, V.int 3, V.int 3, V.int 4] k = some (.int (Lay.manyK k : Nat)) := by
      rcases Lay.k4 h0 h1 with rfl | rfl | rfl | rfl <;> rfl
    walk_at "rd"
    refine Lay.rd_ixL (SqL.of upd_same) em ?_
    walk_at "rd"
    have s4' := s3'.trans s4
    refine Lay.rd_slLk (SqL.of (s4' _ _ ha)) (by omega) (fun r2 hr2 => ?_)
    have s5 := s4'.trans (Lay.Same.upd (o := .lst (us.take (Lay.manyK k))) hr2)
    replace fx := (Lay.Fin.mono s3 fx).mono (s4.trans (Lay.Same.upd (o := .lst (us.take (Lay.manyK k))) hr2))
    walk_at "rd"
    refine ⟨r2, _, ds.take (Lay.manyK k), rfl, SqL.of upd_same, NetG.ptake _ (hf _ s5), by omega, tne, ?_⟩
    walk_at "rd"
    refine Lay.ite_n (fun c => absurd rfl c) (fun _ => ?_)
    generalize upd (upd H3 M (.lst [V.int 1, V.int 3, V.int 3, V.int 4])) r2 (.lst (us.take (Lay.manyK k))) = H5 at s5 fx ⊢
    clear s2 eW ew s3 er s3' hM s4 em s4' hr2
    obtain ⟨⟨dx, hx⟩, xl⟩ := id fx
    rcases Lay.k4 h0 h1 with rfl | rfl | rfl | rfl
    · replace hx : H5 x = some (.ins A.c_Still dx (Lay.fldF "still" ["ring"] (us.take (Lay.manyK 0)))) := hx
      walk_at "it"
      refine Lay.rd_tFld ?_
      walk_at "rd"
      refine ⟨x, _, dx, _, .str "still", rfl, hx, T.cl_Still, T.na_Still_word, by rfl, ?_⟩
      walk_at "rd"
      refine ⟨_, rfl, x, A.c_Still, dx, _, CX0, 1, Lay.spFBool A.c_Still "still" ["ring"] false, E0, rfl, hx, ⟨⟨_, _, _, G_Still_bool, T.b_Still_bool, T.fi_Still_bool, T.fo_Still_bool⟩, pass0⟩, (hr.mono (by decide)), x, _, rfl, fx, _, rfl, ?_⟩
      walk_at "rd"
      refine ⟨by decide, fun g1 hg1 => ?_⟩
      have s6 := s5.trans (Lay.Same.upd (o := .lst [V.str "still", V.bl false]) hg1)
      walk_at "rd"
      refine ⟨g1, _, [.str "still", .bool false], rfl, SqL.of upd_same, .cons (.of (.str _) (Lay.okD_of (by decide +kernel))) (.cons (.of (.bl _) (Lay.okD_of (by decide +kernel))) .nil), by decide, by simp, ?_⟩
      walk_at "rd"
      refine ⟨by decide, fun g2 hg2 => ?_⟩
      have s7 := s6.trans (Lay.Same.upd (o := .lst [V.str "still", V.bl (decide ((0 : Int) = 3))]) hg2)
      walk_at "rd"
      refine ⟨g2, _, [.str "still", .bool false], rfl, SqL.of upd_same, .cons (.of (.str _) (Lay.okD_of (by decide +kernel))) (.cons (.of (.bl _) (Lay.okD_of (by decide +kernel))) .nil), by decide, by simp, ?_⟩
      walk_at "rd"
      refine Lay.ite_n (fun c => absurd rfl c) (fun _ => ?_)
      walk_at "it"
      refine ⟨0, x, _, rfl, h0, h1, (Lay.Fin.mono (Lay.Same.upd hg1) fx).mono (Lay.Same.upd hg2), fun r3 H8 s8 e8 => ?_⟩
      have s8' := s7.trans s8
      walk_at "rd"
      refine ⟨by decide, fun r4 hr4 => ?_⟩
      refine Lay.rd_eqW true (Lay.RcW.listsSame (xs := Lay.sortsK 0) (SqL.of (Lay.upd_old hr4 e8)) (SqL.of upd_same) (fun x m => ?_)) ?_
      · left
        have m' : x ∈ [V.bl _, V.bl _, V.bl _, V.bl _, V.bl _] := m
        simp only [List.mem_cons, List.not_mem_nil, or_false] at m'
        rcases m' with rfl | rfl | rfl | rfl | rfl <;> rfl
      exact q _ (s8'.trans (Lay.Same.upd hr4))
    · replace hx : H5 x = some (.ins A.c_Clash dx (Lay.fldF "clash" ["one", "other", "run"] (us.take (Lay.manyK 1)))) := hx
      walk_at "it"
      refine Lay.rd_tFld ?_
      walk_at "rd"
      refine ⟨x, _, dx, _, .str "clash", rfl, hx, T.cl_Clash, T.na_Clash_word, by rfl, ?_⟩
      walk_at "rd"
      refine ⟨_, rfl, x, A.c_Clash, dx, _, CX0, 1, Lay.spFBool A.c_Clash "clash" ["one", "other", "run"] false, E0, rfl, hx, ⟨⟨_, _, _, G_Clash_bool, T.b_Clash_bool, T.fi_Clash_bool, T.fo_Clash_bool⟩, pass0⟩, (hr.mono (by decide)), x, _, rfl, fx, _, rfl, ?_⟩
      walk_at "rd"
      refine ⟨by decide, fun g1 hg1 => ?_⟩
      have s6 := s5.trans (Lay.Same.upd (o := .lst [V.str "clash", V.bl false]) hg1)
      walk_at "rd"
      refine ⟨g1, _, [.str "clash", .bool false], rfl, SqL.of upd_same, .cons (.of (.str _) (Lay.okD_of (by decide +kernel))) (.cons (.of (.bl _) (Lay.okD_of (by decide +kernel))) .nil), by decide, by simp, ?_⟩
      walk_at "rd"
      refine ⟨by decide, fun g2 hg2 => ?_⟩
      have s7 := s6.trans (Lay.Same.upd (o := .lst [V.str "clash", V.bl (decide ((1 : Int) = 3))]) hg2)
      walk_at "rd"
      refine ⟨g2, _, [.str "clash", .bool false], rfl, SqL.of upd_same, .cons (.of (.str _) (Lay.okD_of (by decide +kernel))) (.cons (.of (.bl _) (Lay.okD_of (by decide +kernel))) .nil), by decide, by simp, ?_⟩
      walk_at "rd"
      refine Lay.ite_n (fun c => absurd rfl c) (fun _ => ?_)
      walk_at "it"
      refine ⟨1, x, _, rfl, h0, h1, (Lay.Fin.mono (Lay.Same.upd hg1) fx).mono (Lay.Same.upd hg2), fun r3 H8 s8 e8 => ?_⟩
      have s8' := s7.trans s8
      walk_at "rd"
      refine ⟨by decide, fun r4 hr4 => ?_⟩
      refine Lay.rd_eqW true (Lay.RcW.listsSame (xs := Lay.sortsK 1) (SqL.of (Lay.upd_old hr4 e8)) (SqL.of upd_same) (fun x m => ?_)) ?_
      · left
        have m' : x ∈ [V.bl _, V.bl _, V.bl _, V.bl _, V.bl _] := m
        simp only [List.mem_cons, List.not_mem_nil, or_false] at m'
        rcases m' with rfl | rfl | rfl | rfl | rfl <;> rfl
      exact q _ (s8'.trans (Lay.Same.upd hr4))
    · replace hx : H5 x = some (.ins A.c_Wrong dx (Lay.fldF "wrong" ["rows", "eager", "whole"] (us.take (Lay.manyK 2)))) := hx
      walk_at "it"
      refine Lay.rd_tFld ?_
      walk_at "rd"
      refine ⟨x, _, dx, _, .str "wrong", rfl, hx, T.cl_Wrong, T.na_Wrong_word, by rfl, ?_⟩
      walk_at "rd"
      refine ⟨_, rfl, x, A.c_Wrong, dx, _, CX0, 1, Lay.spFBool A.c_Wrong "wrong" ["rows", "eager", "whole"] false, E0, rfl, hx, ⟨⟨_, _, _, G_Wrong_bool, T.b_Wrong_bool, T.fi_Wrong_bool, T.fo_Wrong_bool⟩, pass0⟩, (hr.mono (by decide)), x, _, rfl, fx, _, rfl, ?_⟩
      walk_at "rd"
      refine ⟨by decide, fun g1 hg1 => ?_⟩
      have s6 := s5.trans (Lay.Same.upd (o := .lst [V.str "wrong", V.bl false]) hg1)
      walk_at "rd"
      refine ⟨g1, _, [.str "wrong", .bool false], rfl, SqL.of upd_same, .cons (.of (.str _) (Lay.okD_of (by decide +kernel))) (.cons (.of (.bl _) (Lay.okD_of (by decide +kernel))) .nil), by decide, by simp, ?_⟩
      walk_at "rd"
      refine ⟨by decide, fun g2 hg2 => ?_⟩
      have s7 := s6.trans (Lay.Same.upd (o := .lst [V.str "wrong", V.bl (decide ((2 : Int) = 3))]) hg2)
      walk_at "rd"
      refine ⟨g2, _, [.str "wrong", .bool false], rfl, SqL.of upd_same, .cons (.of (.str _) (Lay.okD_of (by decide +kernel))) (.cons (.of (.bl _) (Lay.okD_of (by decide +kernel))) .nil), by decide, by simp, ?_⟩
      walk_at "rd"
      refine Lay.ite_n (fun c => absurd rfl c) (fun _ => ?_)
      walk_at "it"
      refine ⟨2, x, _, rfl, h0, h1, (Lay.Fin.mono (Lay.Same.upd hg1) fx).mono (Lay.Same.upd hg2), fun r3 H8 s8 e8 => ?_⟩
      have s8' := s7.trans s8
      walk_at "rd"
      refine ⟨by decide, fun r4 hr4 => ?_⟩
      refine Lay.rd_eqW true (Lay.RcW.listsSame (xs := Lay.sortsK 2) (SqL.of (Lay.upd_old hr4 e8)) (SqL.of upd_same) (fun x m => ?_)) ?_
      · left
        have m' : x ∈ [V.bl _, V.bl _, V.bl _, V.bl _, V.bl _] := m
        simp only [List.mem_cons, List.not_mem_nil, or_false] at m'
        rcases m' with rfl | rfl | rfl | rfl | rfl <;> rfl
      exact q _ (s8'.trans (Lay.Same.upd hr4))
    · replace hx : H5 x = some (.ins A.c_Right dx (Lay.fldF "right" ["steps", "ways", "eager", "whole"] (us.take (Lay.manyK 3)))) := hx
      walk_at "it"
      refine Lay.rd_tFld ?_
      walk_at "rd"
      refine ⟨x, _, dx, _, .str "right", rfl, hx, T.cl_Right, T.na_Right_word, by rfl, ?_⟩
      walk_at "rd"
      refine ⟨_, rfl, x, A.c_Right, dx, _, CX0, 1, Lay.spFBool A.c_Right "right" ["steps", "ways", "eager", "whole"] true, E0, rfl, hx, ⟨⟨_, _, _, G_Right_bool, T.b_Right_bool, T.fi_Right_bool, T.fo_Right_bool⟩, pass0⟩, (hr.mono (by decide)), x, _, rfl, fx, _, rfl, ?_⟩
      walk_at "rd"
      refine ⟨by decide, fun g1 hg1 => ?_⟩
      have s6 := s5.trans (Lay.Same.upd (o := .lst [V.str "right", V.bl true]) hg1)
      walk_at "rd"
      refine ⟨g1, _, [.str "right", .bool true], rfl, SqL.of upd_same, .cons (.of (.str _) (Lay.okD_of (by decide +kernel))) (.cons (.of (.bl _) (Lay.okD_of (by decide +kernel))) .nil), by decide, by simp, ?_⟩
      walk_at "rd"
      refine ⟨by decide, fun g2 hg2 => ?_⟩
      have s7 := s6.trans (Lay.Same.upd (o := .lst [V.str "right", V.bl (decide ((3 : Int) = 3))]) hg2)
      walk_at "rd"
      refine ⟨g2, _, [.str "right", .bool true], rfl, SqL.of upd_same, .cons (.of (.str _) (Lay.okD_of (by decide +kernel))) (.cons (.of (.bl _) (Lay.okD_of (by decide +kernel))) .nil), by decide, by simp, ?_⟩
      walk_at "rd"
      refine Lay.ite_n (fun c => absurd rfl c) (fun _ => ?_)
      walk_at "it"
      refine ⟨3, x, _, rfl, h0, h1, (Lay.Fin.mono (Lay.Same.upd hg1) fx).mono (Lay.Same.upd hg2), fun r3 H8 s8 e8 => ?_⟩
      have s8' := s7.trans s8
      walk_at "rd"
      refine ⟨by decide, fun r4 hr4 => ?_⟩
      refine Lay.rd_eqW true (Lay.RcW.listsSame (xs := Lay.sortsK 3) (SqL.of (Lay.upd_old hr4 e8)) (SqL.of upd_same) (fun x m => ?_)) ?_
      · left
        have m' : x ∈ [V.bl _, V.bl _, V.bl _, V.bl _, V.bl _] := m
        simp only [List.mem_cons, List.not_mem_nil, or_false] at m'
        rcases m' with rfl | rfl | rfl | rfl | rfl <;> rfl
      exact q _ (s8'.trans (Lay.Same.upd hr4))
theorem own_fin (T : Txt K mg A) (G_Still_eq : FnOk P w K mg base CX0 1 A.a_Still_eq A.d_Still_eq ["self", "other"] (Lay.spFEq K A.c_Still "still" ["ring"])) (G_Clash_eq : FnOk P w K mg base CX0 1 A.a_Clash_eq A.d_Clash_eq ["self", "other"] (Lay.spFEq K A.c_Clash "clash" ["one", "other", "run"])) (G_Wrong_eq : FnOk P w K mg base CX0 1 A.a_Wrong_eq A.d_Wrong_eq ["self", "other"] (Lay.spFEq K A.c_Wrong "wrong" ["rows", "eager", "whole"])) (G_Right_eq : FnOk P w K mg base CX0 1 A.a_Right_eq A.d_Right_eq ["self", "other"] (Lay.spFEq K A.c_Right "right" ["steps", "ways", "eager", "whole"])) {k : Int} (h0 : 0 ≤ k) (h1 : k ≤ 3) : ∃ (f : Addr) (fd : FuncData) (ps : List Str), FnOk P w K mg base CX0 1 f fd ps (Lay.spFEq K ((Lay.c4 A.c_Still A.c_Clash A.c_Wrong A.c_Right) k) (Lay.wdK k) (Lay.nsK k)) ∧ Binds K fd ps [] ∧ PySem.W.findIn K (.ref ((Lay.c4 A.c_Still A.c_Clash A.c_Wrong A.c_Right) k)) "__eq__" = some (some (.ref f)) ∧ PySem.W.isFn K (.ref f) = true := by
  rcases Lay.k4 h0 h1 with rfl | rfl | rfl | rfl
  · exact ⟨_, _, _, G_Still_eq, T.b_Still_eq, T.fi_Still_eq, T.fo_Still_eq⟩
  · exact ⟨_, _, _, G_Clash_eq, T.b_Clash_eq, T.fi_Clash_eq, T.fo_Clash_eq⟩
  · exact ⟨_, _, _, G_Wrong_eq, T.b_Wrong_eq, T.fi_Wrong_eq, T.fo_Wrong_eq⟩
  · exact ⟨_, _, _, G_Right_eq, T.b_Right_eq, T.fi_Right_eq, T.fo_Right_eq⟩
theorem kit_fin (T : Txt K mg A) {k j : Int} (h0 : 0 ≤ k) (h1 : k ≤ 3) (j0 : 0 ≤ j) (j1 : j ≤ 3) : PySem.W.kitOne K (.ref ((Lay.c4 A.c_Still A.c_Clash A.c_Wrong A.c_Right) j)) (.ref ((Lay.c4 A.c_Still A.c_Clash A.c_Wrong A.c_Right) k)) = some (decide (j = k)) ∧ PySem.W.notFirst K ((Lay.c4 A.c_Still A.c_Clash A.c_Wrong A.c_Right) k) (.ref ((Lay.c4 A.c_Still A.c_Clash A.c_Wrong A.c_Right) j)) = true := by
  rcases Lay.k4 h0 h1 with rfl | rfl | rfl | rfl
  · rcases Lay.k4 j0 j1 with rfl | rfl | rfl | rfl
    · exact ⟨T.ki_Still_Still, Lay.nf_self⟩
    · exact ⟨T.ki_Clash_Still, Lay.nf_sub T.sb_Clash_Still⟩
    · exact ⟨T.ki_Wrong_Still, Lay.nf_sub T.sb_Wrong_Still⟩
    · exact ⟨T.ki_Right_Still, Lay.nf_sub T.sb_Right_Still⟩
  · rcases Lay.k4 j0 j1 with rfl | rfl | rfl | rfl
    · exact ⟨T.ki_Still_Clash, Lay.nf_sub T.sb_Still_Clash⟩
    · exact ⟨T.ki_Clash_Clash, Lay.nf_self⟩
    · exact ⟨T.ki_Wrong_Clash, Lay.nf_sub T.sb_Wrong_Clash⟩
    · exact ⟨T.ki_Right_Clash, Lay.nf_sub T.sb_Right_Clash⟩
  · rcases Lay.k4 j0 j1 with rfl | rfl | rfl | rfl
    · exact ⟨T.ki_Still_Wrong, Lay.nf_sub T.sb_Still_Wrong⟩
    · exact ⟨T.ki_Clash_Wrong, Lay.nf_sub T.sb_Clash_Wrong⟩
    · exact ⟨T.ki_Wrong_Wrong, Lay.nf_self⟩
    · exact ⟨T.ki_Right_Wrong, Lay.nf_sub T.sb_Right_Wrong⟩
  · rcases Lay.k4 j0 j1 with rfl | rfl | rfl | rfl
    · exact ⟨T.ki_Still_Right, Lay.nf_sub T.sb_Still_Right⟩
    · exact ⟨T.ki_Clash_Right, Lay.nf_sub T.sb_Clash_Right⟩
    · exact ⟨T.ki_Wrong_Right, Lay.nf_sub T.sb_Wrong_Right⟩
    · exact ⟨T.ki_Right_Right, Lay.nf_self⟩
theorem prim_fin (T : Txt K mg A) {k : Int} (h0 : 0 ≤ k) (h1 : k ≤ 3) {p : String} (hp : p ∈ Lay.prims) : PySem.W.kitOne K (.type p) (.ref ((Lay.c4 A.c_Still A.c_Clash A.c_Wrong A.c_Right) k)) = some false ∧ PySem.W.notFirst K ((Lay.c4 A.c_Still A.c_Clash A.c_Wrong A.c_Right) k) (.type p) = true := by
  simp only [Lay.prims, List.mem_cons, List.not_mem_nil, or_false] at hp
  rcases Lay.k4 h0 h1 with rfl | rfl | rfl | rfl
  · rcases hp with rfl | rfl | rfl | rfl | rfl | rfl | rfl
    · exact ⟨T.kp_NoneType_Still, Lay.nf_sub T.sp_NoneType_Still⟩
    · exact ⟨T.kp_bool_Still, Lay.nf_sub T.sp_bool_Still⟩
    · exact ⟨T.kp_int_Still, Lay.nf_sub T.sp_int_Still⟩
    · exact ⟨T.kp_str_Still, Lay.nf_sub T.sp_str_Still⟩
    · exact ⟨T.kp_list_Still, Lay.nf_sub T.sp_list_Still⟩
    · exact ⟨T.kp_tuple_Still, Lay.nf_sub T.sp_tuple_Still⟩
    · exact ⟨T.kp_dict_Still, Lay.nf_sub T.sp_dict_Still⟩
  · rcases hp with rfl | rfl | rfl | rfl | rfl | rfl | rfl
    · exact ⟨T.kp_NoneType_Clash, Lay.nf_sub T.sp_NoneType_Clash⟩
    · exact ⟨T.kp_bool_Clash, Lay.nf_sub T.sp_bool_Clash⟩
    · exact ⟨T.kp_int_Clash, Lay.nf_sub T.sp_int_Clash⟩
    · exact ⟨T.kp_str_Clash, Lay.nf_sub T.sp_str_Clash⟩
    · exact ⟨T.kp_list_Clash, Lay.nf_sub T.sp_list_Clash⟩
    · exact ⟨T.kp_tuple_Clash, Lay.nf_sub T.sp_tuple_Clash⟩
    · exact ⟨T.kp_dict_Clash, Lay.nf_sub T.sp_dict_Clash⟩
  · rcases hp with rfl | rfl | rfl | rfl | rfl | rfl | rfl
    · exact ⟨T.kp_NoneType_Wrong, Lay.nf_sub T.sp_NoneType_Wrong⟩
    · exact ⟨T.kp_bool_Wrong, Lay.nf_sub T.sp_bool_Wrong⟩
    · exact ⟨T.kp_int_Wrong, Lay.nf_sub T.sp_int_Wrong⟩
    · exact ⟨T.kp_str_Wrong, Lay.nf_sub T.sp_str_Wrong⟩
    · exact ⟨T.kp_list_Wrong, Lay.nf_sub T.sp_list_Wrong⟩
    · exact ⟨T.kp_tuple_Wrong, Lay.nf_sub T.sp_tuple_Wrong⟩
    · exact ⟨T.kp_dict_Wrong, Lay.nf_sub T.sp_dict_Wrong⟩
  · rcases hp with rfl | rfl | rfl | rfl | rfl | rfl | rfl
    · exact ⟨T.kp_NoneType_Right, Lay.nf_sub T.sp_NoneType_Right⟩
    · exact ⟨T.kp_bool_Right, Lay.nf_sub T.sp_bool_Right⟩
    · exact ⟨T.kp_int_Right, Lay.nf_sub T.sp_int_Right⟩
    · exact ⟨T.kp_str_Right, Lay.nf_sub T.sp_str_Right⟩
    · exact ⟨T.kp_list_Right, Lay.nf_sub T.sp_list_Right⟩
    · exact ⟨T.kp_tuple_Right, Lay.nf_sub T.sp_tuple_Right⟩
    · exact ⟨T.kp_dict_Right, Lay.nf_sub T.sp_dict_Right⟩
theorem fin_ty (T : Txt K mg A) {H : Hp} {a : Addr} {us : List V} {k : Int} (h0 : 0 ≤ k) (h1 : k ≤ 3) (h : Lay.FinK (Lay.c4 A.c_Still A.c_Clash A.c_Wrong A.c_Right) H k a us) : TyX K H (.ref a) (.ref ((Lay.c4 A.c_Still A.c_Clash A.c_Wrong A.c_Right) k)) := by
  obtain ⟨⟨dx, hx⟩, _⟩ := h
  rcases Lay.k4 h0 h1 with rfl | rfl | rfl | rfl
  · exact T.in_Still _ a dx _ hx
  · exact T.in_Clash _ a dx _ hx
  · exact T.in_Wrong _ a dx _ hx
  · exact T.in_Right _ a dx _ hx
theorem eq_other (T : Txt K mg A) (G_Still_eq : FnOk P w K mg base CX0 1 A.a_Still_eq A.d_Still_eq ["self", "other"] (Lay.spFEq K A.c_Still "still" ["ring"])) (G_Clash_eq : FnOk P w K mg base CX0 1 A.a_Clash_eq A.d_Clash_eq ["self", "other"] (Lay.spFEq K A.c_Clash "clash" ["one", "other", "run"])) (G_Wrong_eq : FnOk P w K mg base CX0 1 A.a_Wrong_eq A.d_Wrong_eq ["self", "other"] (Lay.spFEq K A.c_Wrong "wrong" ["rows", "eager", "whole"])) (G_Right_eq : FnOk P w K mg base CX0 1 A.a_Right_eq A.d_Right_eq ["self", "other"] (Lay.spFEq K A.c_Right "right" ["steps", "ways", "eager", "whole"])) {H : Hp} {Q : VK} {x y : Addr} {us ws : List V} {k j : Int} (h0 : 0 ≤ k) (h1 : k ≤ 3) (j0 : 0 ≤ j) (j1 : j ≤ 3) (fx : Lay.FinK (Lay.c4 A.c_Still A.c_Clash A.c_Wrong A.c_Right) H k x us) (fy : Lay.FinK (Lay.c4 A.c_Still A.c_Clash A.c_Wrong A.c_Right) H j y ws) (jk : j ≠ k) (q : Q (.bl false) H) :
    OwnC.rEqH P w K mg base 1 (.ref x) (.ref y) H Q := by
  obtain ⟨f, fd, pss, F, hb, hs, hf⟩ := own_fin (P := P) (w := w) (base := base) T G_Still_eq G_Clash_eq G_Wrong_eq G_Right_eq h0 h1
  obtain ⟨dx, hx⟩ := fx.1
  obtain ⟨dy, hy⟩ := fy.1
  obtain ⟨k1, k2⟩ := kit_fin T h0 h1 j0 j1
  rw [decide_eq_false jk] at k1
  exact ⟨x, _, dx, _, _, f, fd, pss, _, rfl, hx, .old (.ins hy), k2, F, hb, hs, hf, x, .ref y, us, rfl, fx, .inl ⟨_, fin_ty T j0 j1 fy, k1, q⟩⟩
theorem eq_same (T : Txt K mg A) (G_Still_eq : FnOk P w K mg base CX0 1 A.a_Still_eq A.d_Still_eq ["self", "other"] (Lay.spFEq K A.c_Still "still" ["ring"])) (G_Clash_eq : FnOk P w K mg base CX0 1 A.a_Clash_eq A.d_Clash_eq ["self", "other"] (Lay.spFEq K A.c_Clash "clash" ["one", "other", "run"])) (G_Wrong_eq : FnOk P w K mg base CX0 1 A.a_Wrong_eq A.d_Wrong_eq ["self", "other"] (Lay.spFEq K A.c_Wrong "wrong" ["rows", "eager", "whole"])) (G_Right_eq : FnOk P w K mg base CX0 1 A.a_Right_eq A.d_Right_eq ["self", "other"] (Lay.spFEq K A.c_Right "right" ["steps", "ways", "eager", "whole"])) {H : Hp} {Q : VK} {x y : Addr} {us ws : List V} {ds es : List PyData} {k : Int} (h0 : 0 ≤ k) (h1 : k ≤ 3) (fx : Lay.FinK (Lay.c4 A.c_Still A.c_Clash A.c_Wrong A.c_Right) H k x us) (fy : Lay.FinK (Lay.c4 A.c_Still A.c_Clash A.c_Wrong A.c_Right) H k y ws) (hd : Lay.Fvs K H us ds) (he : Lay.Fvs K H ws es)
    (q : Q (.bl (Lay.eqXs (Lay.manyK k) ds es)) H) : OwnC.rEqH P w K mg base 1 (.ref x) (.ref y) H Q := by
  obtain ⟨f, fd, pss, F, hb, hs, hf⟩ := own_fin (P := P) (w := w) (base := base) T G_Still_eq G_Clash_eq G_Wrong_eq G_Right_eq h0 h1
  obtain ⟨dx, hx⟩ := fx.1
  obtain ⟨dy, hy⟩ := fy.1
  rw [← Lay.nsK_len h0 h1] at q
  exact ⟨x, _, dx, _, _, f, fd, pss, _, rfl, hx, .old (.ins hy), Lay.nf_self, F, hb, hs, hf, x, .ref y, us, rfl, fx, .inr ⟨y, ws, ds, es, rfl, fy, hd, he, q⟩⟩
theorem eq_prim (T : Txt K mg A) (G_Still_eq : FnOk P w K mg base CX0 1 A.a_Still_eq A.d_Still_eq ["self", "other"] (Lay.spFEq K A.c_Still "still" ["ring"])) (G_Clash_eq : FnOk P w K mg base CX0 1 A.a_Clash_eq A.d_Clash_eq ["self", "other"] (Lay.spFEq K A.c_Clash "clash" ["one", "other", "run"])) (G_Wrong_eq : FnOk P w K mg base CX0 1 A.a_Wrong_eq A.d_Wrong_eq ["self", "other"] (Lay.spFEq K A.c_Wrong "wrong" ["rows", "eager", "whole"])) (G_Right_eq : FnOk P w K mg base CX0 1 A.a_Right_eq A.d_Right_eq ["self", "other"] (Lay.spFEq K A.c_Right "right" ["steps", "ways", "eager", "whole"])) {H : Hp} {Q : VK} {x : Addr} {y : V} {us : List V} {k : Int} (h0 : 0 ≤ k) (h1 : k ≤ 3) (fx : Lay.FinK (Lay.c4 A.c_Still A.c_Clash A.c_Wrong A.c_Right) H k x us) (ty : Lay.TyP K H y) (q : Q (.bl false) H) :
    OwnC.rEqH P w K mg base 1 (.ref x) y H Q := by
  obtain ⟨f, fd, pss, F, hb, hs, hf⟩ := own_fin (P := P) (w := w) (base := base) T G_Still_eq G_Clash_eq G_Wrong_eq G_Right_eq h0 h1
  obtain ⟨dx, hx⟩ := fx.1
  obtain ⟨p, hp, t1, t2⟩ := ty
  obtain ⟨k1, k2⟩ := prim_fin T h0 h1 hp
  exact ⟨x, _, dx, _, _, f, fd, pss, _, rfl, hx, t1, k2, F, hb, hs, hf, x, y, us, rfl, fx, .inl ⟨_, t2, k1, q⟩⟩
theorem bentV_len3 {x y z : V} {ws : List V} (h : some (HO.lst [x, y, z]) = some (HO.lst ws)) : ws.length = 3 := by
  cases h
  rfl
theorem fin_at (T : Txt K mg A) {k : Int} (h0 : 0 ≤ k) (h1 : k ≤ 3) : Cls K ((Lay.c4 A.c_Still A.c_Clash A.c_Wrong A.c_Right) k) ∧ NoAttr K ((Lay.c4 A.c_Still A.c_Clash A.c_Wrong A.c_Right) k) "word" := by
  rcases Lay.k4 h0 h1 with rfl | rfl | rfl | rfl
  · exact ⟨T.cl_Still, T.na_Still_word⟩
  · exact ⟨T.cl_Clash, T.na_Clash_word⟩
  · exact ⟨T.cl_Wrong, T.na_Wrong_word⟩
  · exact ⟨T.cl_Right, T.na_Right_word⟩
theorem ok_compared (T : Txt K mg A) (G_draw : FnOk P w K mg base CX0 1 A.a_draw A.d_draw ["_law_pen_here", "_law_many"] Lay.spDraw) (G_field : FnOk P w K mg base CX0 2 A.a_field A.d_field ["_law_pen_here"] (Lay.spFField K)) (G_made : FnOk P w K mg base CX0 3 A.a_made A.d_made ["_law_at", "_law_fields"] (Lay.spFMade (Lay.c4 A.c_Still A.c_Clash A.c_Wrong A.c_Right))) (G_Still_eq : FnOk P w K mg base CX0 1 A.a_Still_eq A.d_Still_eq ["self", "other"] (Lay.spFEq K A.c_Still "still" ["ring"])) (G_Clash_eq : FnOk P w K mg base CX0 1 A.a_Clash_eq A.d_Clash_eq ["self", "other"] (Lay.spFEq K A.c_Clash "clash" ["one", "other", "run"])) (G_Wrong_eq : FnOk P w K mg base CX0 1 A.a_Wrong_eq A.d_Wrong_eq ["self", "other"] (Lay.spFEq K A.c_Wrong "wrong" ["rows", "eager", "whole"])) (G_Right_eq : FnOk P w K mg base CX0 1 A.a_Right_eq A.d_Right_eq ["self", "other"] (Lay.spFEq K A.c_Right "right" ["steps", "ways", "eager", "whole"])) : FnOk P w K mg base CX0 4 A.a_compared A.d_compared ["_law_pen_here", "_law_at", "_law_fields"] (Lay.spFComp K) := by
  refine T.F_compared.ok sc_compared (fun vs H Q E h => ?_) (fun cdv A0 outer s H vs Q E hr h => ?_)
  · obtain ⟨p, n, c, k, a, us, ds, rfl, _⟩ := h
    rfl
  · obtain ⟨p, n, c, k, a, us, ds, rfl, hp, hn, h0, h1, ha, hl, hf, q⟩ := h
    refine ⟨_, (pss_cons (ps_set (i := 3) sc_compared.nd rfl (Or.inr rfl) (pe_call G_made (hr.mono (by decide)) rfl T.g_made T.F_made.kp T.b_made .nil pass0 (pa_cons (pv 1) (pa_cons (pv 2) pa_nil))))
    (pss_cons (ps_setLc (i := 4) (own := [("_law_other", 5)]) (g := gName 5) (tt := tYes) rfl sc_compared.nd rfl rfl (sw_true rfl rfl rfl (by decide +kernel)) (pi_range1 rfl T.n_range (pa_cons pe_int pa_nil)) (blkOk_by (own := [("_law_other", 5)]) (N := ["_law_pen_here", "_law_at", "_law_fields", "_law_finding", "_law_others", "_law_other", "_law_one", "_law_many", "_law_spot", "_law_bent", "_law_same", "_law_some"]) (sc := defScope s_compared) (by decide +kernel)) (fun _ _ _ _ _ => pg_name (i := 5) sc_compared.nd rfl (Or.inl rfl)) (fun _ _ _ _ _ => pts_nil) (fun _ _ _ _ _ => by exact (pe_call G_made (hr.mono (by decide)) rfl T.g_made T.F_made.kp T.b_made .nil pass0 (pa_cons (pv 5) (pa_cons (pv 2) pa_nil)))))
    (pss_cons (ps_if (pt_cmpR (Lay.op_neW hr.units) (pe_lc (own := [("_law_one", 6)]) (g := gName 6) (tt := tYes) rfl sc_compared.nd (pi_list (pv 4)) (blkOk_by (own := [("_law_one", 6)]) (N := ["_law_pen_here", "_law_at", "_law_fields", "_law_finding", "_law_others", "_law_other", "_law_one", "_law_many", "_law_spot", "_law_bent", "_law_same", "_law_some"]) (sc := defScope s_compared) (by decide +kernel)) (fun _ _ _ _ _ => pg_name (i := 6) sc_compared.nd rfl (Or.inl rfl)) (fun _ _ _ _ _ => pts_nil) (fun _ _ _ _ _ => by exact (pe_cmpR (OwnC.op_eqH P w K mg base (n := 1) (hr.mono (by decide))) (pv 3) (pv 6) (nomark _)))) (pe_lc (own := [("_law_other", 5)]) (g := gName 5) (tt := tYes) rfl sc_compared.nd (pi_range1 rfl T.n_range (pa_cons pe_int pa_nil)) (blkOk_by (own := [("_law_other", 5)]) (N := ["_law_pen_here", "_law_at", "_law_fields", "_law_finding", "_law_others", "_law_other", "_law_one", "_law_many", "_law_spot", "_law_bent", "_law_same", "_law_some"]) (sc := defScope s_compared) (by decide +kernel)) (fun _ _ _ _ _ => pg_name (i := 5) sc_compared.nd rfl (Or.inl rfl)) (fun _ _ _ _ _ => pts_nil) (fun _ _ _ _ _ => by exact (pe_cmpR op_eq (pv 5) (pv 1) (nomark _)))) (nomark _))
      (pss_one (ps_ret pe_bl))
      pss_nil)
    (pss_cons (ps_set (i := 7) sc_compared.nd rfl (Or.inl rfl) (pe_ix ix_list (pe_lst (pa_cons pe_int (pa_cons pe_int (pa_cons pe_int (pa_cons pe_int pa_nil))))) (pv 1) (fun _ _ => rfl)))
    (pss_cons (ps_set (i := 8) sc_compared.nd rfl (Or.inl rfl) (pe_call G_draw (hr.mono (by decide)) rfl T.g_draw T.F_draw.kp T.b_draw .nil pass0 (pa_cons (pv 0) (pa_cons (pv 7) pa_nil))))
    (pss_cons (ps_set (i := 9) sc_compared.nd rfl (Or.inl rfl) (pe_op op_cat (pe_op op_cat (pe_slice sl_list (pv 2) po_none (po_some (pv 8))) (pe_lst (pa_cons (pe_call G_field (hr.mono (by decide)) rfl T.g_field T.F_field.kp T.b_field .nil pass0 (pa_cons (pv 0) pa_nil)) pa_nil))) (pe_slice sl_list (pv 2) (po_some (pe_op op_add (pv 8) pe_int)) po_none)))
    (pss_cons (ps_if (pt_cmpR op_ne (pe_cmpR (OwnC.op_eqH P w K mg base (n := 1) (hr.mono (by decide))) (pv 3) (pe_call G_made (hr.mono (by decide)) rfl T.g_made T.F_made.kp T.b_made .nil pass0 (pa_cons (pv 1) (pa_cons (pv 9) pa_nil))) (nomark _)) (pe_cmpR (Lay.op_eqXs hr.units) (pv 9) (pv 2) (nomark _)) (nomark _))
      (pss_one (ps_ret pe_bl))
      pss_nil)
    (pss_cons (ps_setLc (i := 10) (own := [("_law_one", 6)]) (g := gName 6) (tt := tYes) rfl sc_compared.nd rfl rfl (sw_true rfl rfl rfl (by decide +kernel)) (pi_list (pv 2)) (blkOk_by (own := [("_law_one", 6)]) (N := ["_law_pen_here", "_law_at", "_law_fields", "_law_finding", "_law_others", "_law_other", "_law_one", "_law_many", "_law_spot", "_law_bent", "_law_same", "_law_some"]) (sc := defScope s_compared) (by decide +kernel)) (fun _ _ _ _ _ => pg_name (i := 6) sc_compared.nd rfl (Or.inl rfl)) (fun _ _ _ _ _ => pts_nil) (fun _ _ _ _ _ => by exact (pe_ifExp (pt_cmpR OwnC.op_isV (pv 6) pe_bl (nomark _)) pe_int (pe_ifExp (pt_cmpR OwnC.op_isV (pv 6) pe_bl (nomark _)) pe_int (pv 6)))))
    (pss_cons (ps_if (pt_not (pt_cmpR (OwnC.op_eqH P w K mg base (n := 1) (hr.mono (by decide))) (pv 3) (pe_call G_made (hr.mono (by decide)) rfl T.g_made T.F_made.kp T.b_made .nil pass0 (pa_cons (pv 1) (pa_cons (pv 10) pa_nil))) (nomark _)))
      (pss_one (ps_ret pe_bl))
      pss_nil)
    (pss_cons (ps_set (i := 11) sc_compared.nd rfl (Or.inl rfl) (pe_lst (pa_cons pe_non (pa_cons (pv 1) (pa_cons (pe_ix ix_list (pv 2) pe_int (fun _ _ => rfl)) (pa_cons (pe_callTy Lay.call_tupS (by rfl) T.n_tuple (by decide +kernel) (pa_cons (pv 2) pa_nil)) (pa_cons (pe_fld (pv 3) rfl) pa_nil)))))))
    (pss_one (ps_ret (pe_cmpR (Lay.op_eqW hr.units) (pe_lc (own := [("_law_one", 6)]) (g := gName 6) rfl sc_compared.nd (pi_list (pv 11)) (blkOk_by (own := [("_law_one", 6)]) (N := ["_law_pen_here", "_law_at", "_law_fields", "_law_finding", "_law_others", "_law_other", "_law_one", "_law_many", "_law_spot", "_law_bent", "_law_same", "_law_some"]) (sc := defScope s_compared) (by decide +kernel)) (fun _ _ _ _ _ => pg_name (i := 6) sc_compared.nd rfl (Or.inl rfl)) (fun _ _ _ _ _ => pts_one (pt_cmpR (OwnC.op_eqH P w K mg base (n := 1) (hr.mono (by decide))) (pv 3) (pv 6) (nomark _))) (fun _ _ _ _ _ => by exact (pv 6))) (pe_lst pa_nil) (nomark _)))))))))))))), ?_⟩
    walk_at "in"
    walk_at "rd"
    obtain ⟨xs0, hP0⟩ := hp.at_
    have nap : a ≠ p := fun e => by
      subst e
      obtain ⟨ns, b0, l0, z1, _⟩ := id hp
      rw [z1] at ha
      cases ha
      cases hl
    refine ⟨k, a, us, rfl, h0, h1, ha, hl, fun x H1 s1 fx => ?_⟩
    walk_at "rd"
    refine ⟨_, rfl, by decide, by decide, ?_⟩
    intro D hD
    refine Lay.lc_go (walk_range (lo := 0) (n := 4)) (fun i l' H' => L2.Same H1 H' ∧ l'.length = i ∧ ∀ j y, l'[j]? = some y → ∃ xj, y = .ref xj ∧ Lay.FinK (Lay.c4 A.c_Still A.c_Clash A.c_Wrong A.c_Right) H' (j : Nat) xj (us.take (Lay.manyK (j : Nat)))) ⟨Lay.Same.upd hD, rfl, (fun j y z => by simp at z)⟩ (fun _ _ _ _ _ => trivial) ?_ ?_
    · rintro i l' y H2 H3 hi hl' hz' ⟨s2, r2, r3⟩ hy
      obtain ⟨rfl, rfl⟩ := hy
      walk_at "rd"
      refine ⟨rfl, ?_⟩
      walk_at "it"
      refine ⟨0 + ((i : Nat) : Int), a, us, rfl, by omega, by omega, s2 _ _ (s1 _ _ ha), hl, fun xj H4 s4 fj => ?_⟩
      have eD4 := s4 _ _ hl'
      refine Lay.lc_put eD4 hz' (by omega) ⟨fun b o hb => ?_, by rw [List.length_append, r2]; rfl, fun j y ey => ?_⟩
      · rw [upd_ne (fun e => by subst e; rw [hD] at hb; cases hb)]
        exact s4 _ _ (s2 _ _ hb)
      · rcases Nat.lt_or_ge j l'.length with lt | ge
        · rw [List.getElem?_append_left lt] at ey
          obtain ⟨xj', e1, e2⟩ := r3 j y ey
          exact ⟨xj', e1, (e2.mono s4).keep eD4 Lay.Keep.upd⟩
        · have je : j = i := by
            rcases Nat.lt_or_ge j (l'.length + 1) with z | z
            · omega
            · rw [List.getElem?_eq_none (by rw [List.length_append]; exact z)] at ey; cases ey
          subst je
          rw [List.getElem?_append_right ge, r2, Nat.sub_self] at ey
          have ey' : V.ref xj = y := by simpa using ey
          subst ey'
          rw [Int.zero_add] at fj
          exact ⟨xj, rfl, Lay.Fin.keep eD4 Lay.Keep.upd fj⟩
    rintro lo H2 eD2 hz2 ⟨s2, r2, r3⟩
    have S2 := s1.trans s2
    replace fx := Lay.Fin.mono s2 fx
    clear s1 hD
    walk_at "rd"
    refine ⟨⟨_, SqL.of eD2⟩, ?_⟩
    intro D3 hD3
    have four := (hf.mono S2).now.four hl
    have mle := Lay.many_le h0 h1
    refine Lay.lc_go (walk_list (xs := lo)) (fun i l' H' => L2.Same H2 H' ∧ l' = (List.range i).map fun j => V.bl (decide (((j : Nat) : Int) = k))) ⟨Lay.Same.upd hD3, rfl⟩ (fun i l' H' _ r => SqL.of (r.1 _ _ eD2)) ?_ ?_
    · rintro i l' y H3 H4 hi hl' hz' ⟨s3, r⟩ ⟨rfl, ey⟩
      obtain ⟨xj, rfl, fj⟩ := r3 i y ey
      have fx3 := Lay.Fin.mono s3 fx
      have fj3 := Lay.Fin.mono s3 fj
      have hf3 := (hf.mono (S2.trans s3)).now
      walk_at "rd"
      refine ⟨rfl, ?_⟩
      walk_at "it"
      have sameA : ∀ {o : HO}, L2.Same H2 (upd H4 D3 o) := fun b o hb => by
        rw [upd_ne (fun e => by subst e; rw [hD3] at hb; cases hb)]
        exact s3 b o hb
      by_cases e : ((i : Nat) : Int) = k
      · subst e
        refine eq_same T G_Still_eq G_Clash_eq G_Wrong_eq G_Right_eq h0 h1 fx3 fj3 (NetG.ptake _ hf3) (NetG.ptake _ hf3) ?_
        rw [(Lay.eqXs_self four mle.1 mle.2).1]
        refine Lay.lc_put hl' hz' (by omega) ⟨sameA, ?_⟩
        rw [List.range_succ, List.map_append, ← r]
        simp
      · refine eq_other T G_Still_eq G_Clash_eq G_Wrong_eq G_Right_eq h0 h1 (by omega) (by omega) fx3 fj3 e ?_
        refine Lay.lc_put hl' hz' (by omega) ⟨sameA, ?_⟩
        rw [List.range_succ, List.map_append, ← r]
        simp [e]
    rintro lb H3 eB hz3 ⟨s3, r4⟩
    rw [r2] at r4
    have S3 := S2.trans s3
    replace fx := Lay.Fin.mono s3 fx
    clear s2 r3 hD3 S2 eD2
    walk_at "rd"
    refine ⟨_, rfl, by decide, by decide, ?_⟩
    intro D4 hD4
    refine Lay.lc_go (walk_range (lo := 0) (n := 4)) (fun i l' H' => L2.Same H3 H' ∧ l' = (List.range i).map fun j => V.bl (decide (((j : Nat) : Int) = k))) ⟨Lay.Same.upd hD4, rfl⟩ (fun _ _ _ _ _ => trivial) ?_ ?_
    · rintro i l' y H4 H5 hi hl' hz' ⟨s4, r⟩ hy
      obtain ⟨rfl, rfl⟩ := hy
      walk_at "rd"
      refine ⟨rfl, ?_⟩
      walk_at "it"
      have sameA : ∀ {o : HO}, L2.Same H3 (upd H5 D4 o) := fun b o hb => by
        rw [upd_ne (fun e => by subst e; rw [hD4] at hb; cases hb)]
        exact s4 b o hb
      refine Lay.lc_put hl' hz' (by omega) ⟨sameA, ?_⟩
      rw [List.range_succ, List.map_append, ← r, Int.zero_add]
      rfl
    rintro lc H4 eC hz4 ⟨s4, r5⟩
    have S4 := S3.trans s4
    replace fx := Lay.Fin.mono s4 fx
    refine Lay.rd_neW true (Lay.RcW.listsSame (xs := lc) (SqL.of (by rw [r5, ← r4]; exact s4 _ _ eB)) (SqL.of eC) (fun y m => ?_)) ?_
    · left
      rw [r5] at m
      obtain ⟨j, _, rfl⟩ := List.mem_map.mp m
      rfl
    walk_at "it"
    clear s3 r4 r5 eB eC s4 hD4 S3
    refine ⟨by decide, fun M hM => ?_⟩
    have s5 := Lay.Same.upd (o := .lst [V.int 1, V.int 3, V.int 3, V.int 4]) hM
    have em : atI [V.int 1, V.int 3, V.int 3, V.int 4] k = some (.int (Lay.manyK k : Nat)) := by
      rcases Lay.k4 h0 h1 with rfl | rfl | rfl | rfl <;> rfl
    walk_at "rd"
    refine Lay.rd_ixL (SqL.of upd_same) em ?_
    walk_at "rd"
    refine Lay.rd_draw (hp.mono S4) s5 (by omega) (by omega) (by omega) (fun sp H6 sp0 sp1 p6 k6 => ?_)
    have K6 : Lay.Keep p H H6 := ((Lay.Keep.of S4).trans (Lay.Keep.of s5)).trans k6
    replace fx := Lay.Fin.keep (s5 _ _ (S4 _ _ hP0)) k6 (Lay.Fin.mono s5 fx)
    clear S4 s5 k6 hM em
    obtain ⟨sn, rfl⟩ : ∃ sn : Nat, sp = sn := ⟨sp.toNat, by omega⟩
    have ha6 := K6 _ _ nap ha
    obtain ⟨xs6, hP6⟩ := p6.at_
    walk_at "rd"
    refine Lay.rd_slLk (SqL.of ha6) (by omega) (fun q1 hq1 => ?_)
    have nq1 := Lay.ne_none hq1 hP6
    have s7 := Lay.Same.upd (o := .lst (us.take sn)) hq1
    have hP7 := s7 _ _ hP6
    walk_at "rd"
    refine ⟨p, n + 1, c, rfl, p6.mono s7, by omega, fun v e H8 fv p8 k8 => ?_⟩
    replace fv := fv.fx hP7
    have e1 := k8 _ _ nq1 upd_same
    have K8 := (K6.trans (Lay.Keep.of s7)).trans k8
    have ha8 := K8 _ _ nap ha
    replace fx := Lay.Fin.keep hP7 k8 (Lay.Fin.mono s7 fx)
    clear K6 p6 hP6 s7 hP7 k8 hq1 nq1 ha6
    walk_at "rd"
    refine ⟨by decide, fun q2 hq2 => ?_⟩
    walk_at "rd"
    refine Lay.rd_cat (Lay.upd_old hq2 e1) upd_same (Nat.le_trans (show _ ≤ 100 by rw [List.length_take]; show min sn us.length + 1 ≤ 100; omega) (by decide)) (fun q3 hq3 => ?_)
    walk_at "rd"
    refine Lay.rd_slL (SqL.of (Lay.upd_old hq3 (Lay.upd_old hq2 ha8))) (fun q4 hq4 => ?_)
    rw [show ((sn : Int) + 1) = ((sn + 1 : Nat) : Int) by omega, Lay.cut_drop (by omega)]
    refine Lay.rd_cat (Lay.upd_old hq4 upd_same) upd_same (Nat.le_trans (show _ ≤ 100 by rw [List.length_append, List.length_take, List.length_drop]; show min sn us.length + 1 + (us.length - (sn + 1)) ≤ 100; omega) (by decide)) (fun q5 hq5 => ?_)
    have S := Lay.Same.upd' (o := .lst (us.take sn ++ [v] ++ us.drop (sn + 1))) (Lay.Same.upd' (o := .lst (us.drop (sn + 1))) (Lay.Same.upd' (o := .lst (us.take sn ++ [v])) (Lay.Same.upd (o := .lst [v]) hq2) hq3) hq4) hq5
    have e5 : (upd (upd (upd (upd H8 q2 (.lst [v])) q3 (.lst (us.take sn ++ [v]))) q4 (.lst (us.drop (sn + 1)))) q5 (.lst (us.take sn ++ [v] ++ us.drop (sn + 1)))) q5 = some (.lst (Lay.bentV us v sn)) := upd_same
    generalize (upd (upd (upd (upd H8 q2 (.lst [v])) q3 (.lst (us.take sn ++ [v]))) q4 (.lst (us.drop (sn + 1)))) q5 (.lst (us.take sn ++ [v] ++ us.drop (sn + 1)))) = H9 at S e5 ⊢
    have K9 := K8.trans (Lay.Keep.of S)
    have p9 := p8.mono S
    replace fx := Lay.Fin.mono S fx
    replace fv := fv.mono S
    clear hq2 hq3 hq4 hq5 e1 K8 p8 S ha8
    obtain ⟨xs9, hP9⟩ := p9.at_
    have nq5 : q5 ≠ p := fun z => by
      subst z
      obtain ⟨ns, b0, l0, z1, _⟩ := id p9
      rw [z1] at e5
      have z2 := bentV_len3 e5
      rw [Lay.bentV_len hl (by omega)] at z2
      cases z2
    walk_at "rd"
    refine ⟨k, q5, _, rfl, h0, h1, e5, Lay.bentV_len hl (by omega), fun x2 H10 s10 fx2 => ?_⟩
    have K10 := K9.trans (Lay.Keep.of s10)
    have hf10 := (hf.keep K10).now
    have fv10 := (fv.mono s10).now
    have bn := hf10.bent fv10 sn
    refine eq_same T G_Still_eq G_Clash_eq G_Wrong_eq G_Right_eq h0 h1 (Lay.Fin.mono s10 fx) fx2 (NetG.ptake _ hf10) (NetG.ptake _ bn) ?_
    rw [Lay.bent_eq hf10 hl fv10 (by omega) mle.2]
    walk_at "rd"
    refine ⟨q5, a, _, _, us, ds, rfl, rfl, SqL.of (s10 _ _ e5), SqL.of (K10 _ _ nap ha), bn, hf10, by rw [Lay.bentV_len hl (by omega), hl], ?_⟩
    rw [Lay.bentV_len hl (by omega)]
    walk_at "rd"
    rw [beq_self_eq_true]
    walk_at "it"
    have ha10 := K10 _ _ nap ha
    have p10 := p9.mono s10
    replace fx := Lay.Fin.mono s10 fx
    clear bn fv10 fx2 fv e5 nq5 K9 p9 hP9 s10
    refine ⟨⟨_, SqL.of ha10⟩, ?_⟩
    intro D5 hD5
    refine Lay.lc_go (walk_list (xs := us)) (fun i l' H' => L2.Same H10 H' ∧ l' = (us.take i).map Lay.normV) ⟨Lay.Same.upd hD5, rfl⟩ (fun i l' H' _ r => SqL.of (r.1 _ _ ha10)) ?_ ?_
    · rintro i l' y H11 H12 hi hl' hz' ⟨s11, r⟩ ⟨rfl, ey⟩
      have fin : (l' ++ [Lay.normV y]) = (us.take (i + 1)).map Lay.normV := by rw [List.take_add_one, ey, r]; simp
      have sameA : ∀ {o : HO}, L2.Same H10 (upd H12 D5 o) := fun b o hb => by
        rw [upd_ne (fun e => by subst e; rw [hD5] at hb; cases hb)]
        exact s11 b o hb
      walk_at "rd"
      refine ⟨rfl, ?_⟩
      walk_at "it"
      refine ⟨true, rfl, ?_⟩
      cases y with
      | bl b =>
        cases b with
        | true =>
          dsimp only [OwnC.isB]
          walk_at "itk"
          exact Lay.lc_put hl' hz' (by omega) ⟨sameA, fin⟩
        | false =>
          dsimp only [OwnC.isB]
          walk_at "itk"
          refine ⟨false, rfl, ?_⟩
          dsimp only [OwnC.isB]
          walk_at "itk"
          exact Lay.lc_put hl' hz' (by omega) ⟨sameA, fin⟩
      | _ =>
        dsimp only [OwnC.isB]
        walk_at "itk"
        refine ⟨false, rfl, ?_⟩
        dsimp only [OwnC.isB]
        walk_at "itk"
        exact Lay.lc_put hl' hz' (by omega) ⟨sameA, fin⟩
    rintro ls H11 eS hz11 ⟨s11, r⟩
    rw [List.take_of_length_le (Nat.le_refl _)] at r
    subst r
    walk_at "rd"
    refine ⟨k, D5, _, rfl, h0, h1, eS, by rw [List.length_map, hl], fun x3 H12 s12 fx3 => ?_⟩
    have s12' := s11.trans s12
    have K12 := K10.trans (Lay.Keep.of s12')
    have hf12 := (hf.keep K12).now
    replace fx := Lay.Fin.mono s12' fx
    refine eq_same T G_Still_eq G_Clash_eq G_Wrong_eq G_Right_eq h0 h1 fx fx3 (NetG.ptake _ hf12) (NetG.ptake _ hf12.norm) ?_
    rw [(Lay.eqXs_self four mle.1 mle.2).2]
    walk_at "it"
    have ha12 := K12 _ _ nap ha
    have p12 := p10.mono s12'
    clear p10 K10 ha10 hf10 s11 s12 fx3 eS hD5 s12'
    obtain ⟨u0, eu0⟩ : ∃ u0, us[0]? = some u0 := ⟨us[0], List.getElem?_eq_getElem (by omega)⟩
    obtain ⟨d0, ed0, fu0⟩ := hf12.get eu0
    refine Lay.rd_ixL (SqL.of ha12) (v := u0) (Lay.atI_nat (i := 0) eu0) ?_
    walk_at "rd"
    refine Lay.rd_tupL (SqL.of ha12) (fun tp htp => ?_)
    walk_at "rd"
    refine Lay.rd_tFld ?_
    walk_at "rd"
    obtain ⟨cl, na⟩ := fin_at T h0 h1
    have s13 := Lay.Same.upd (o := .tup us) htp
    replace fx := Lay.Fin.mono s13 fx
    have etp : (upd H12 tp (.tup us)) tp = some (.tup us) := upd_same
    have K13 := K12.trans (Lay.Keep.of s13)
    have p13 := p12.mono s13
    generalize upd H12 tp (.tup us) = H13 at s13 fx etp K13 p13 ⊢
    obtain ⟨dx, hx⟩ := fx.1
    refine ⟨x, _, dx, _, .str (Lay.wdK k), rfl, hx, cl, na, by rfl, ?_⟩
    walk_at "rd"
    refine ⟨by decide, fun E1 hE1 => ?_⟩
    have s14 := Lay.Same.upd (o := .lst [V.non, V.int k, u0, V.ref tp, V.str (Lay.wdK k)]) hE1
    have eE : (upd H13 E1 (.lst [V.non, V.int k, u0, V.ref tp, V.str (Lay.wdK k)])) E1 = some (.lst [V.non, V.int k, u0, V.ref tp, V.str (Lay.wdK k)]) := upd_same
    replace fx := Lay.Fin.mono s14 fx
    replace etp := s14 _ _ etp
    have fu14 : Lay.TyP K (upd H13 E1 (.lst [V.non, V.int k, u0, V.ref tp, V.str (Lay.wdK k)])) u0 := by
      obtain ⟨d, ed, f⟩ := (hf.keep (K13.trans (Lay.Keep.of s14))).now.get eu0
      exact f.ty
    have K14 := K13.trans (Lay.Keep.of s14)
    have p14 := p13.mono s14
    generalize upd H13 E1 (.lst [V.non, V.int k, u0, V.ref tp, V.str (Lay.wdK k)]) = H14 at s14 eE fx etp fu14 K14 p14 ⊢
    have some5 : ∀ H', L2.Same H14 H' → ∀ y ∈ [V.non, V.int k, u0, V.ref tp, V.str (Lay.wdK k)], Lay.TyP K H' y := by
      intro H' s y m
      have hu0 : Lay.TyP K H' u0 := by
        obtain ⟨d, ed, f⟩ := (hf.keep (K14.trans (Lay.Keep.of s))).now.get eu0
        exact f.ty
      simp only [List.mem_cons, List.not_mem_nil, or_false] at m
      rcases m with rfl | rfl | rfl | rfl | rfl
      · exact ⟨"NoneType", by decide, .old .non, .base .non⟩
      · exact ⟨"int", by decide, .old (.int _), .base (.int _)⟩
      · exact hu0
      · exact ⟨"tuple", by decide, .old (.tup (SqT.of (s _ _ etp))), .base (.tup (s _ _ etp))⟩
      · exact ⟨"str", by decide, .old (.str _), .base (.str _)⟩
    walk_at "rd"
    refine ⟨⟨_, SqL.of eE⟩, ?_⟩
    intro D6 hD6
    refine Lay.lc_go (walk_list (xs := [V.non, V.int k, u0, V.ref tp, V.str (Lay.wdK k)])) (fun i l' H' => L2.Same H14 H' ∧ l' = []) ⟨Lay.Same.upd hD6, rfl⟩ (fun i l' H' _ r => SqL.of (r.1 _ _ eE)) ?_ ?_
    · rintro i l' y H15 H16 hi hl' hz' ⟨s15, r⟩ ⟨rfl, ey⟩
      walk_at "rd"
      refine ⟨rfl, ?_⟩
      walk_at "it"
      refine eq_prim T G_Still_eq G_Clash_eq G_Wrong_eq G_Right_eq h0 h1 (Lay.Fin.mono s15 fx) (some5 _ s15 y (List.mem_of_getElem? ey)) ?_
      walk_at "it"
      exact Lay.lc_skip hl' hz' ⟨s15, r⟩
    rintro lz H15 eZ hz15 ⟨s15, rfl⟩
    walk_at "rd"
    refine ⟨by decide, fun E2 hE2 => ?_⟩
    have s16 := s15.trans (Lay.Same.upd (o := .lst []) hE2)
    refine Lay.rd_eqW true (Lay.RcW.listsSame (xs := []) (SqL.of (Lay.upd_old hE2 eZ)) (SqL.of upd_same) (fun y m => nomatch m)) ?_
    exact q _ ((p14.mono s16).le (by omega)) (K14.trans (Lay.Keep.of s16))
def spLaw (K : PySem.W.Frag) : Sp := fun vs H Q _ => ∃ (a : Addr) (ns : List Int), vs = [.ref a] ∧ SqL K H a (ns.map V.int) ∧ ns.length ≤ 63 ∧ ∀ H', Q (.bl true) H'
theorem ok_law (T : Txt K mg A) (G_pen : FnOk P w K mg base CX0 1 A.a_pen A.d_pen ["_law_script"] (Lay.spPen K)) (G_field : FnOk P w K mg base CX0 2 A.a_field A.d_field ["_law_pen_here"] (Lay.spFField K)) (G_told : Grd.FnG P w K mg base CX0 4 A.a_told A.d_told ["_law_at", "_law_fields"] (Lay.spFTold K)) (G_compared : FnOk P w K mg base CX0 4 A.a_compared A.d_compared ["_law_pen_here", "_law_at", "_law_fields"] (Lay.spFComp K)) : Grd.FnG P w K mg base CX0 6 A.a_law A.d_law ["_law_script"] (spLaw K) := by
  refine Grd.fun_okG T.F_law sc_law (fun vs H Q E h => ?_) (fun cdv A0 outer s H vs Q E hg hr h => ?_)
  · obtain ⟨a, ns, rfl, _⟩ := h
    rfl
  · obtain ⟨a, ns, rfl, hS, hl, q⟩ := h
    refine ⟨_, (pss_cons (ps_set (i := 1) sc_law.nd rfl (Or.inr rfl) (pe_call G_pen (hr.mono (by decide)) rfl T.g_pen T.F_pen.kp T.b_pen .nil pass0 (pa_cons (pv 0) pa_nil)))
    (pss_cons (ps_for PassesOwn.never rfl (pi_range1 rfl T.n_range (pa_cons pe_int pa_nil)) (pg_name (i := 2) sc_law.nd rfl (Or.inl rfl))
      (pss_cons (ps_setLc (i := 3) (own := [("_law_k", 4)]) (g := gName 4) (tt := tYes) rfl sc_law.nd rfl rfl (sw_true rfl rfl rfl (by decide +kernel)) (pi_range1 rfl T.n_range (pa_cons pe_int pa_nil)) (blkOk_by (own := [("_law_k", 4)]) (N := ["_law_script", "_law_pen_here", "_law_turn", "_law_fields", "_law_k", "_law_before", "_law_at"]) (sc := defScope s_law) (by decide +kernel)) (fun _ _ _ _ _ => pg_name (i := 4) sc_law.nd rfl (Or.inl rfl)) (fun _ _ _ _ _ => pts_nil) (fun _ _ _ _ _ => (pe_call G_field (hr.mono (by decide)) rfl T.g_field T.F_field.kp T.b_field .nil pass0 (pa_cons (pv 1) pa_nil))))
      (pss_cons (ps_set (i := 5) sc_law.nd rfl (Or.inl rfl) (pe_callB (Lay.call_reprX hg hr.units) (by rfl) T.n_repr (by decide +kernel) (pa_cons (pv 3) pa_nil)))
      (pss_cons (ps_for PassesOwn.never rfl (pi_range1 rfl T.n_range (pa_cons pe_int pa_nil)) (pg_name (i := 6) sc_law.nd rfl (Or.inl rfl))
        (pss_one (ps_if (PW.pt (pw_or (pt_not (pt_val (Grd.pe_callG hg G_told (hr.mono (by decide)) rfl T.g_told T.F_told.kp T.b_told .nil pass0 (pa_cons (pv 6) (pa_cons (pv 3) pa_nil))))) (pw_or1 (pt_not (pt_val (pe_call G_compared (hr.mono (by decide)) rfl T.g_compared T.F_compared.kp T.b_compared .nil pass0 (pa_cons (pv 1) (pa_cons (pv 6) (pa_cons (pv 3) pa_nil)))))))))
          (pss_one (ps_ret pe_bl))
          pss_nil)))
      (pss_one (ps_if (pt_cmpR op_ne (pe_callB (Lay.call_reprX hg hr.units) (by rfl) T.n_repr (by decide +kernel) (pa_cons (pv 3) pa_nil)) (pv 5) (nomark _))
        (pss_one (ps_ret pe_bl))
        pss_nil))))))
    (pss_one (ps_ret pe_bl)))), ?_⟩
    walk_at "in"
    walk_at "rd"
    refine ⟨a, ns, rfl, hS, hl, fun c p H1 hp pen s1 => ?_⟩
    walk_at "rd"
    refine Lay.rd_for ?_
    walk_at "rd"
    refine ⟨_, rfl, by decide, by decide, ?_⟩
    refine Lay.for_go (walk_range (lo := 0) (n := 6)) (fun i σ' H' => (∃ o2 o3 o4 o5 o6, σ' = [some (V.ref a), some (V.ref p), o2, o3, o4, o5, o6]) ∧ Lay.PenAt c H' p (28 * i)) ⟨⟨_, _, _, _, _, rfl⟩, pen⟩ (fun _ _ _ _ _ => trivial) ?_ ?_
    · rintro i y σ' H2 H3 hi ⟨⟨o2, o3, o4, o5, o6, rfl⟩, p2⟩ hy
      obtain ⟨rfl, rfl⟩ := hy
      walk_at "rd"
      refine ⟨_, rfl, by decide, by decide, ?_⟩
      intro D hD
      obtain ⟨xs2, hP2⟩ := p2.at_
      obtain ⟨cs2, hC2⟩ := p2.cell
      have Dp := Lay.ne_none hD hP2
      have Dc := Lay.ne_none hD hC2
      refine Lay.lc_go (walk_range (lo := 0) (n := 4)) (fun j l' H' => Lay.PenAt c H' p (28 * i + 3 * j) ∧ l'.length = j ∧ ∃ ds, Paired (Lay.FY K p D H') l' ds) ⟨p2.mono (Lay.Same.upd hD), rfl, [], .nil⟩ (fun _ _ _ _ _ => trivial) ?_ ?_
      · rintro j l' y H4 H5 hj hl' hz' ⟨p4, r2, ds, r3⟩ hy
        obtain ⟨rfl, rfl⟩ := hy
        walk_at "rd"
        refine ⟨rfl, ?_⟩
        walk_at "it"
        refine ⟨p, 28 * i + 3 * j, c, rfl, p4, by omega, fun v d H6 fv p6 k6 => ?_⟩
        obtain ⟨xs4, hP4⟩ := p4.at_
        have eD6 := k6 _ _ Dp hl'
        refine Lay.lc_put eD6 hz' (by omega) ⟨(p6.other Dp Dc).le (by omega), by rw [List.length_append, r2]; rfl, ds ++ [d], ?_⟩
        exact NetG.pappend (L2.Paired.mapP r3 fun _ _ x => x.go fun b o n1 n2 e => by rw [upd_ne n2]; exact k6 b o n1 e) (.cons ((fv.fy hP4 hl').go fun b o n1 n2 e => by rw [upd_ne n2]; exact e) .nil)
      rintro l H4 hl' hz' ⟨p4, r2, ds, r3⟩
      have hf : Lay.FXs K p H4 l ds := L2.Paired.mapP r3 fun _ _ x => x.fx
      have lne : l ≠ [] := fun z => by rw [z] at r2; cases r2
      walk_at "rd"
      refine ⟨D, l, ds, rfl, SqL.of hl', hf.now, by omega, lne, ?_⟩
      walk_at "rd"
      refine Lay.rd_for ?_
      walk_at "rd"
      refine ⟨_, rfl, by decide, by decide, ?_⟩
      refine Lay.for_go (walk_range (lo := 0) (n := 4)) (fun k σ' H' => (∃ o4 o6, σ' = [some (V.ref a), some (V.ref p), some (V.int (0 + ((i : Nat) : Int))), some (V.ref D), o4, some (V.str (PyData.list ds).shown), o6]) ∧ Lay.PenAt c H' p (28 * i + 12 + 4 * k) ∧ Lay.Keep p H4 H') ⟨⟨_, _, rfl⟩, p4.le (by omega), Lay.Keep.refl⟩ (fun _ _ _ _ _ => trivial) ?_ ?_
      · rintro k y σ' H5 H6 hk ⟨⟨o4, o6, rfl⟩, p5, K5⟩ hy
        obtain ⟨rfl, rfl⟩ := hy
        walk_at "rd"
        refine ⟨0 + ((k : Nat) : Int), D, l, ds, rfl, by omega, by omega, K5 _ _ Dp hl', r2, (fun H' s => (hf.keep (K5.trans (Lay.Keep.of s))).now), fun H7 s7 => ?_⟩
        walk_at "it"
        refine ⟨p, 28 * i + 12 + 4 * k, c, 0 + ((k : Nat) : Int), D, l, ds, rfl, p5.mono s7, by omega, by omega, by omega, s7 _ _ (K5 _ _ Dp hl'), r2, hf.keep (K5.trans (Lay.Keep.of s7)), fun H8 p8 k8 => ?_⟩
        walk_at "it"
        exact ⟨⟨_, _, rfl⟩, p8.le (by omega), (K5.trans (Lay.Keep.of s7)).trans k8⟩
      · rintro σ' H5 ⟨⟨o4, o6, rfl⟩, p5, K5⟩
        walk_at "rd"
        refine ⟨D, l, ds, rfl, SqL.of (K5 _ _ Dp hl'), (hf.keep K5).now, by omega, lne, ?_⟩
        walk_at "rd"
        refine Lay.ite_n (fun c => absurd rfl c) (fun _ => ?_)
        walk_at "it"
        exact ⟨⟨_, _, _, _, _, rfl⟩, p5.le (by omega)⟩
    · rintro σ' H2 ⟨⟨o2, o3, o4, o5, o6, rfl⟩, p2⟩
      walk_at "rd"
      exact q _
theorem ok_all (T : Txt K mg A) : Grd.FnG P w K mg base CX0 6 A.a_law A.d_law ["_law_script"] (spLaw K) := by
  have I_Still := OwnC.toR (ok_Still_init (P := P) (w := w) (base := base) T) T.b_Still_init
  have E_Still := ok_Still_eq (P := P) (w := w) (base := base) T
  have B_Still := ok_Still_bool (P := P) (w := w) (base := base) T
  have I_Clash := OwnC.toR (ok_Clash_init (P := P) (w := w) (base := base) T) T.b_Clash_init
  have E_Clash := ok_Clash_eq (P := P) (w := w) (base := base) T
  have B_Clash := ok_Clash_bool (P := P) (w := w) (base := base) T
  have I_Wrong := OwnC.toR (ok_Wrong_init (P := P) (w := w) (base := base) T) T.b_Wrong_init
  have E_Wrong := ok_Wrong_eq (P := P) (w := w) (base := base) T
  have B_Wrong := ok_Wrong_bool (P := P) (w := w) (base := base) T
  have I_Right := OwnC.toR (ok_Right_init (P := P) (w := w) (base := base) T) T.b_Right_init
  have E_Right := ok_Right_eq (P := P) (w := w) (base := base) T
  have B_Right := ok_Right_bool (P := P) (w := w) (base := base) T
  have D1 := ok_draw (P := P) (w := w) (base := base) T
  have D2 := ok_pen (P := P) (w := w) (base := base) T
  have FI := ok_field (P := P) (w := w) (base := base) T D1
  have M := ok_made (P := P) (w := w) (base := base) T I_Still I_Clash I_Wrong I_Right
  have KE := ok_kept (P := P) (w := w) (base := base) T
  have SO := ok_sorts (P := P) (w := w) (base := base) T
  have TO := ok_told (P := P) (w := w) (base := base) T M KE SO B_Still B_Clash B_Wrong B_Right
  have CO := ok_compared (P := P) (w := w) (base := base) T D1 FI M E_Still E_Clash E_Wrong E_Right
  exact ok_law T D2 FI TO CO
theorem walk {l : PySem.W.OpenLaw} {q : Program} {loose : List Str} {XP : (Str → Option Value) → Heap → Prop} {YP : World → Heap → Prop} {d : DefRec} {K : Params → PySem.W.Frag} (hn : l.most = some 63) (hdf : d.params.defaults = [])
    (hY : ∀ (w : World) (h : Heap), YP w h → (K w.params).In h)
    (F : ∀ (w : World) (mg : Str → Option Value) (fa : Addr) (h : Heap), (K w.params).In h → h.Ns mainGlobals mg → mg d.name = some (.ref fa) →
      ∃ fd : FuncData, (∀ (s : Shared) (u : Value), BindsTo s fd ⟨[u], []⟩ [("_law_script", u)]) ∧ ∀ base : Heap, (K w.params).In base → base.Ns mainGlobals mg → Grd.FnG l.prog w (K w.params) mg base CX0 6 fa fd ["_law_script"] (spLaw (K w.params))) :
    PySem.W.WalkO q loose XP YP l.row.toRowW d [] (fun f vs => PySem.call f vs) :=
  Grd.walkG (n := 63) (k := 6) (x := "_law_script") (sp := spLaw) hn (by decide) hdf ⟨rfl, by decide, by decide⟩ hY F (fun _ _ a ns hl hS => ⟨a, ns, rfl, hS, hl, fun _ => rfl⟩)
theorem use {P : Program} {w : World} {K : PySem.W.Frag} {mg : Str → Option Value} {fa : Addr} (h : ∃ A : Adr, Txt K mg A) (hmg : mg "law" = some (.ref fa)) :
    ∃ fd : FuncData, (∀ (s : Shared) (u : Value), BindsTo s fd ⟨[u], []⟩ [("_law_script", u)]) ∧ ∀ base : Heap, K.In base → base.Ns mainGlobals mg → Grd.FnG P w K mg base CX0 6 fa fd ["_law_script"] (spLaw K) := by
  obtain ⟨A, T⟩ := h
  have e := hmg.symm.trans T.g_law
  cases e
  obtain ⟨oc, od, kV, doc, pm, an, cdv, ct, osl, hfd, lk, hcd⟩ := T.F_law.ex
  refine ⟨A.d_law, fun s u => ?_, fun base _ _ => ok_all T⟩
  rw [hfd]
  exact .of_eq rfl
end
end My
set_option maxRecDepth 100000 in
set_option maxHeartbeats 0 in
theorem PySem.Challenge.cw_unkeptlines_k65_findings_as_values_holds : PySem.Challenge.rw_unkeptlines_k65_findings_as_values.Holds := by
  w_on; o_law; k_head; (case hw => w_witness2)
  k_fill
  refine My.walk (l := PySem.Challenge.rw_unkeptlines_k65_findings_as_values) rfl rfl (fun w h Y => PySem.W.kIn_of Y) ?F
  case F =>
    intro w mg fa h KX G hmg
    refine My.use ?_ hmg
    refine' My.all_mk KX G ?a_Still ?pg_Still ?hd_Still ?po_Still ?sa_Still ?na_Still_word ?na_Still_ring ?mk_Still ?kc_Still ?a_Clash ?pg_Clash ?hd_Clash ?po_Clash ?sa_Clash ?na_Clash_word ?na_Clash_one ?na_Clash_other ?na_Clash_run ?mk_Clash ?kc_Clash ?a_Wrong ?pg_Wrong ?hd_Wrong ?po_Wrong ?sa_Wrong ?na_Wrong_word ?na_Wrong_rows ?na_Wrong_eager ?na_Wrong_whole ?mk_Wrong ?kc_Wrong ?a_Right ?pg_Right ?hd_Right ?po_Right ?sa_Right ?na_Right_word ?na_Right_steps ?na_Right_ways ?na_Right_eager ?na_Right_whole ?mk_Right ?kc_Right ?a_Finding ?pg_Finding ?hd_Finding ?po_Finding ?sa_Finding ?gg ?tk ?mo_Still ?ty_Still ?ss_Still ?mo_Clash ?ty_Clash ?ss_Clash ?mo_Wrong ?ty_Wrong ?ss_Wrong ?mo_Right ?ty_Right ?ss_Right ?mo_Finding ?ty_Finding ?ss_Finding ?sb_Still_Clash ?sb_Still_Wrong ?sb_Still_Right ?sb_Still_Finding ?sp_NoneType_Still ?sp_bool_Still ?sp_int_Still ?sp_str_Still ?sp_list_Still ?sp_tuple_Still ?sp_dict_Still ?sb_Clash_Still ?sb_Clash_Wrong ?sb_Clash_Right ?sb_Clash_Finding ?sp_NoneType_Clash ?sp_bool_Clash ?sp_int_Clash ?sp_str_Clash ?sp_list_Clash ?sp_tuple_Clash ?sp_dict_Clash ?sb_Wrong_Still ?sb_Wrong_Clash ?sb_Wrong_Right ?sb_Wrong_Finding ?sp_NoneType_Wrong ?sp_bool_Wrong ?sp_int_Wrong ?sp_str_Wrong ?sp_list_Wrong ?sp_tuple_Wrong ?sp_dict_Wrong ?sb_Right_Still ?sb_Right_Clash ?sb_Right_Wrong ?sb_Right_Finding ?sp_NoneType_Right ?sp_bool_Right ?sp_int_Right ?sp_str_Right ?sp_list_Right ?sp_tuple_Right ?sp_dict_Right ?ci_Still ?ci_Clash ?ci_Wrong ?ci_Right ?n_list ?n_int ?n_len ?n_abs ?n_isinstance ?n_repr ?n_range ?n_bool ?n_tuple ?a_Still_init ?i_Still_init ?l_Still_init ?e_Still_init ?p_Still_init ?a_Still_eq ?i_Still_eq ?l_Still_eq ?e_Still_eq ?p_Still_eq ?a_Still_bool ?i_Still_bool ?l_Still_bool ?e_Still_bool ?p_Still_bool ?a_Clash_init ?i_Clash_init ?l_Clash_init ?e_Clash_init ?p_Clash_init ?a_Clash_eq ?i_Clash_eq ?l_Clash_eq ?e_Clash_eq ?p_Clash_eq ?a_Clash_bool ?i_Clash_bool ?l_Clash_bool ?e_Clash_bool ?p_Clash_bool ?a_Wrong_init ?i_Wrong_init ?l_Wrong_init ?e_Wrong_init ?p_Wrong_init ?a_Wrong_eq ?i_Wrong_eq ?l_Wrong_eq ?e_Wrong_eq ?p_Wrong_eq ?a_Wrong_bool ?i_Wrong_bool ?l_Wrong_bool ?e_Wrong_bool ?p_Wrong_bool ?a_Right_init ?i_Right_init ?l_Right_init ?e_Right_init ?p_Right_init ?a_Right_eq ?i_Right_eq ?l_Right_eq ?e_Right_eq ?p_Right_eq ?a_Right_bool ?i_Right_bool ?l_Right_bool ?e_Right_bool ?p_Right_bool ?a_pen ?l_pen ?e_pen ?p_pen ?a_draw ?l_draw ?e_draw ?p_draw ?a_field ?l_field ?e_field ?p_field ?a_made ?l_made ?e_made ?p_made ?a_kept ?l_kept ?e_kept ?p_kept ?a_sorts ?l_sorts ?e_sorts ?p_sorts ?a_told ?l_told ?e_told ?p_told ?a_compared ?l_compared ?e_compared ?p_compared ?a_law ?l_law ?e_law ?p_law
    (case a_Still => k_is)
    (case pg_Still => k_is)
    (case hd_Still => k_is)
    (case po_Still => k_is)
    (case sa_Still => k_is)
    (case na_Still_word => k_is)
    (case na_Still_ring => k_is)
    (case mk_Still => k_is)
    (case kc_Still => k_is)
    (case a_Clash => k_is)
    (case pg_Clash => k_is)
    (case hd_Clash => k_is)
    (case po_Clash => k_is)
    (case sa_Clash => k_is)
    (case na_Clash_word => k_is)
    (case na_Clash_one => k_is)
    (case na_Clash_other => k_is)
    (case na_Clash_run => k_is)
    (case mk_Clash => k_is)
    (case kc_Clash => k_is)
    (case a_Wrong => k_is)
    (case pg_Wrong => k_is)
    (case hd_Wrong => k_is)
    (case po_Wrong => k_is)
    (case sa_Wrong => k_is)
    (case na_Wrong_word => k_is)
    (case na_Wrong_rows => k_is)
    (case na_Wrong_eager => k_is)
    (case na_Wrong_whole => k_is)
    (case mk_Wrong => k_is)
    (case kc_Wrong => k_is)
    (case a_Right => k_is)
    (case pg_Right => k_is)
    (case hd_Right => k_is)
    (case po_Right => k_is)
    (case sa_Right => k_is)
    (case na_Right_word => k_is)
    (case na_Right_steps => k_is)
    (case na_Right_ways => k_is)
    (case na_Right_eager => k_is)
    (case na_Right_whole => k_is)
    (case mk_Right => k_is)
    (case kc_Right => k_is)
    (case a_Finding => k_is)
    (case pg_Finding => k_is)
    (case hd_Finding => k_is)
    (case po_Finding => k_is)
    (case sa_Finding => k_is)
    (case gg => k_is)
    (case tk => k_is)
    (case mo_Still => k_is)
    (case ty_Still => k_is)
    (case ss_Still => k_is)
    (case mo_Clash => k_is)
    (case ty_Clash => k_is)
    (case ss_Clash => k_is)
    (case mo_Wrong => k_is)
    (case ty_Wrong => k_is)
    (case ss_Wrong => k_is)
    (case mo_Right => k_is)
    (case ty_Right => k_is)
    (case ss_Right => k_is)
    (case mo_Finding => k_is)
    (case ty_Finding => k_is)
    (case ss_Finding => k_is)
    (case sb_Still_Clash => k_is)
    (case sb_Still_Wrong => k_is)
    (case sb_Still_Right => k_is)
    (case sb_Still_Finding => k_is)
    (case sp_NoneType_Still => k_is)
    (case sp_bool_Still => k_is)
    (case sp_int_Still => k_is)
    (case sp_str_Still => k_is)
    (case sp_list_Still => k_is)
    (case sp_tuple_Still => k_is)
    (case sp_dict_Still => k_is)
    (case sb_Clash_Still => k_is)
    (case sb_Clash_Wrong => k_is)
    (case sb_Clash_Right => k_is)
    (case sb_Clash_Finding => k_is)
    (case sp_NoneType_Clash => k_is)
    (case sp_bool_Clash => k_is)
    (case sp_int_Clash => k_is)
    (case sp_str_Clash => k_is)
    (case sp_list_Clash => k_is)
    (case sp_tuple_Clash => k_is)
    (case sp_dict_Clash => k_is)
    (case sb_Wrong_Still => k_is)
    (case sb_Wrong_Clash => k_is)
    (case sb_Wrong_Right => k_is)
    (case sb_Wrong_Finding => k_is)
    (case sp_NoneType_Wrong => k_is)
    (case sp_bool_Wrong => k_is)
    (case sp_int_Wrong => k_is)
    (case sp_str_Wrong => k_is)
    (case sp_list_Wrong => k_is)
    (case sp_tuple_Wrong => k_is)
    (case sp_dict_Wrong => k_is)
    (case sb_Right_Still => k_is)
    (case sb_Right_Clash => k_is)
    (case sb_Right_Wrong => k_is)
    (case sb_Right_Finding => k_is)
    (case sp_NoneType_Right => k_is)
    (case sp_bool_Right => k_is)
    (case sp_int_Right => k_is)
    (case sp_str_Right => k_is)
    (case sp_list_Right => k_is)
    (case sp_tuple_Right => k_is)
    (case sp_dict_Right => k_is)
    (case ci_Still => k_is)
    (case ci_Clash => k_is)
    (case ci_Wrong => k_is)
    (case ci_Right => k_is)
    (case n_list => k_is)
    (case n_int => k_is)
    (case n_len => k_is)
    (case n_abs => k_is)
    (case n_isinstance => k_is)
    (case n_repr => k_is)
    (case n_range => k_is)
    (case n_bool => k_is)
    (case n_tuple => k_is)
    (case a_pen => k_is)
    (case a_draw => k_is)
    (case a_field => k_is)
    (case a_made => k_is)
    (case a_kept => k_is)
    (case a_sorts => k_is)
    (case a_told => k_is)
    (case a_compared => k_is)
    (case a_law => k_is)
    (case a_Still_init => k_is)
    (case i_Still_init => k_is)
    (case l_Still_init => k_is)
    (case e_Still_init => k_is)
    (case p_Still_init => k_is)
    (case a_Still_eq => k_is)
    (case i_Still_eq => k_is)
    (case l_Still_eq => k_is)
    (case e_Still_eq => k_is)
    (case p_Still_eq => k_is)
    (case a_Still_bool => k_is)
    (case i_Still_bool => k_is)
    (case l_Still_bool => k_is)
    (case e_Still_bool => k_is)
    (case p_Still_bool => k_is)
    (case a_Clash_init => k_is)
    (case i_Clash_init => k_is)
    (case l_Clash_init => k_is)
    (case e_Clash_init => k_is)
    (case p_Clash_init => k_is)
    (case a_Clash_eq => k_is)
    (case i_Clash_eq => k_is)
    (case l_Clash_eq => k_is)
    (case e_Clash_eq => k_is)
    (case p_Clash_eq => k_is)
    (case a_Clash_bool => k_is)
    (case i_Clash_bool => k_is)
    (case l_Clash_bool => k_is)
    (case e_Clash_bool => k_is)
    (case p_Clash_bool => k_is)
    (case a_Wrong_init => k_is)
    (case i_Wrong_init => k_is)
    (case l_Wrong_init => k_is)
    (case e_Wrong_init => k_is)
    (case p_Wrong_init => k_is)
    (case a_Wrong_eq => k_is)
    (case i_Wrong_eq => k_is)
    (case l_Wrong_eq => k_is)
    (case e_Wrong_eq => k_is)
    (case p_Wrong_eq => k_is)
    (case a_Wrong_bool => k_is)
    (case i_Wrong_bool => k_is)
    (case l_Wrong_bool => k_is)
    (case e_Wrong_bool => k_is)
    (case p_Wrong_bool => k_is)
    (case a_Right_init => k_is)
    (case i_Right_init => k_is)
    (case l_Right_init => k_is)
    (case e_Right_init => k_is)
    (case p_Right_init => k_is)
    (case a_Right_eq => k_is)
    (case i_Right_eq => k_is)
    (case l_Right_eq => k_is)
    (case e_Right_eq => k_is)
    (case p_Right_eq => k_is)
    (case a_Right_bool => k_is)
    (case i_Right_bool => k_is)
    (case l_Right_bool => k_is)
    (case e_Right_bool => k_is)
    (case p_Right_bool => k_is)
    (case l_pen => k_is)
    (case e_pen => k_is)
    (case p_pen => k_is)
    (case l_draw => k_is)
    (case e_draw => k_is)
    (case p_draw => k_is)
    (case l_field => k_is)
    (case e_field => k_is)
    (case p_field => k_is)
    (case l_made => k_is)
    (case e_made => k_is)
    (case p_made => k_is)
    (case l_kept => k_is)
    (case e_kept => k_is)
    (case p_kept => k_is)
    (case l_sorts => k_is)
    (case e_sorts => k_is)
    (case p_sorts => k_is)
    (case l_told => k_is)
    (case e_told => k_is)
    (case p_told => k_is)
    (case l_compared => k_is)
    (case e_compared => k_is)
    (case p_compared => k_is)
    (case l_law => k_is)
    (case e_law => k_is)
    (case p_law => k_is)
