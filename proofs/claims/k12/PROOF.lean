import PyProof.Rows.All
import Wide.All
import OpenK.AllK
import Wide.FinOn
import HandS.ForMost
import HandS.Exc
import HandS.Walk
import HandS.IsInst
import HandS.Star
import HandS.ClsMeth
import HandS.Style
import HandS.OwnEq
import HandS.Strs
import HandS.TupAny
import HandS.Evl
import KE.GoesEnum
import HandS.SlotsOwn
import HandS.More
import HandS.ExcOwn
import HandS.ExcInit
import HandS.ExcField
import HandS.ExcIs
import HandS.ExcValue
import HandS.MakeKw
import HandS.MakeKwOnly
import KE.KExcIs
import HandS.Dict
import HandS.Ends
import PyProof.ReprRoads
import HandS.WordsExc
import PyProof.StrOps2
import HandS.Rev
import HandS.RevTup
import PyProof.ListStr
import HandS.SetFor
import KE.KEqDeep
import HandS.TryOnly
import PyProof.Rows.RegFStrParts
import PyProof.FitsInt
import HandS.DictComp
import HandS.Deep
import OpenK.KMeth
import HandS.DictEq
import KE.KDictLaw
import HandS.Text
import HandS.Conv
import PySem.Challenge.RW_unkeptlines_k12_whole_bytes_of_steps
set_option Elab.async false
set_option linter.all false
set_option maxRecDepth 100000
set_option maxHeartbeats 4200000
section
namespace Lay
open PySem L2
theorem upd_old {H : Hp} {p a : Addr} {o u : HO} (hp : H p = none) (ha : H a = some u) : upd H p o a = some u := by
  rw [upd_ne (ne_of_none ha hp)]; exact ha
/-- all that was tracked but p is as it was -/
def Keep (p : Addr) (H H' : Hp) : Prop := ∀ b o, b ≠ p → H b = some o → H' b = some o
theorem Keep.refl {p : Addr} {H : Hp} : Keep p H H := fun _ _ _ h => h
theorem Keep.trans {p : Addr} {H H1 H2 : Hp} (a : Keep p H H1) (b : Keep p H1 H2) : Keep p H H2 := fun c o n h => b c o n (a c o n h)
theorem Keep.of {p : Addr} {H H1 : Hp} (a : Same H H1) : Keep p H H1 := fun c o _ h => a c o h
theorem Keep.upd {p : Addr} {H : Hp} {o : HO} : Keep p H (upd H p o) := fun c u n h => by rw [upd_ne n]; exact h
theorem Same.upd {H : Hp} {p : Addr} {o : HO} (h : H p = none) : Same H (upd H p o) := fun _ _ e => upd_old h e
theorem Same.upd' {H H1 : Hp} {p : Addr} {o : HO} (s : Same H H1) (h : H1 p = none) : Same H (L2.upd H1 p o) := s.trans (Same.upd h)
/-- the pen: its cells, how many draws were begun (at most n), what is left -/
def PenAt (c : Addr) (H : Hp) (p : Addr) (n : Nat) : Prop := ∃ (ns : List Int) (b l : Int), H p = some (.lst [.ref c, .int b, .int l]) ∧ H c = some (.lst (ns.map V.int)) ∧ ns.length ≤ 63 ∧ 0 ≤ b ∧ b ≤ n ∧ 0 ≤ l
theorem PenAt.mono {c : Addr} {H H' : Hp} {p : Addr} {n : Nat} (s : Same H H') (h : PenAt c H p n) : PenAt c H' p n := by
  obtain ⟨ns, b, l, h1, h2, r⟩ := h
  exact ⟨ns, b, l, s _ _ h1, s _ _ h2, r⟩
theorem PenAt.le {c : Addr} {H : Hp} {p : Addr} {n m : Nat} (h : PenAt c H p n) (e : n ≤ m) : PenAt c H p m := by
  obtain ⟨ns, b, l, h1, h2, h3, h4, h5, h6⟩ := h
  exact ⟨ns, b, l, h1, h2, h3, h4, by omega, h6⟩
/-- a draw -/
def spDraw : Sp := fun vs H Q _ => ∃ (p : Addr) (m : Int) (n : Nat) (c : Addr), vs = [.ref p, .int m] ∧ PenAt c H p n ∧ n < 100000 ∧ 0 < m ∧ m < 1073741824 ∧
  ∀ (d : Int) (H' : Hp), 0 ≤ d → d < m → PenAt c H' p (n + 1) → Keep p H H' → Q (.int d) H'
/-- the pen is made -/
def spPen (K : PySem.W.Frag) : Sp := fun vs H Q _ => ∃ (a : Addr) (ns : List Int), vs = [.ref a] ∧ SqL K H a (ns.map V.int) ∧ ns.length ≤ 63 ∧
  ∀ (c p : Addr) (H' : Hp), H p = none → PenAt c H' p 0 → Same H H' → Q (.ref p) H'

/-! ### readings, a step a rule -/
section
variable {K : PySem.W.Frag} {σ : St} {H : Hp} {Q : VK} {ta tb tc te : TE} {t u : TT} {D : Ends} {ts us : TS} {v x y : V} {i j : Int} {n : Nat} {tA : TA} {QA : List V → Hp → Prop} {QT : Bool → Hp → Prop} {E : XK}
theorem rd_seq (h : ts { D with nx := us D } σ H) : tSeq ts us D σ H := h
theorem rd_asg {g : TG} (h : te σ H fun x H1 => g x σ H1 D.nx) : tAsg te g D σ H := h
theorem rd_ifS (h : t σ H fun b H1 => if b = true then ts D σ H1 else us D σ H1) : tIfS t ts us D σ H := h
theorem rd_ret (h : te σ H D.rt) : tRet te D σ H := h
theorem rd_retN (h : D.rt .non H) : tRetN D σ H := h
theorem rd_next (h : D.nx σ H) : tNext D σ H := h
theorem rd_drop (h : te σ H fun _ H1 => D.nx σ H1) : tDrop te D σ H := h
theorem rd_name (h : R (σ.set n (some v)) H) : gName n v σ H R := h
theorem rd_sub {g : TSet} {R : St → Hp → Prop} (h : ta σ H fun o H1 => tb σ H1 fun i H2 => g o i v H2 fun H3 => R σ H3) : gSub ta tb g v σ H R := h
theorem rd_var (h : σ[n]? = some (some v)) (q : Q v H) : tVar n σ H Q := ⟨v, h, q⟩
theorem rd_c (q : Q v H) : tC v σ H Q := q
theorem rd_op {r : R2} (h : ta σ H fun x H1 => tb σ H1 fun y H2 => r x y H2 Q) : tOp r ta tb σ H Q := h
theorem rd_un {r : V → Hp → VK → Prop} (h : ta σ H fun x H1 => r x H1 Q) : tUn r ta σ H Q := h
theorem rd_I0 {g : Int → Int → V} (q : Q (g i j) H) : rI0 g (.int i) (.int j) H Q := ⟨i, j, rfl, rfl, q⟩
theorem rd_I {C : Int → Int → Prop} {g : Int → Int → V} (hc : C i j) (q : Q (g i j) H) : rI C g (.int i) (.int j) H Q := ⟨i, j, rfl, rfl, hc, q⟩
theorem rd_U {g : Int → V} (q : Q (g i) H) : rU g (.int i) H Q := ⟨i, rfl, q⟩
theorem rd_eq (hs : scal x y = true) (q : Q (.bl (decide (x = y))) H) : rEq x y H Q := ⟨hs, q⟩
theorem rd_ne (hs : scal x y = true) (q : Q (.bl (!decide (x = y))) H) : rNe x y H Q := ⟨hs, q⟩
theorem rd_ixL {p : Addr} {xs : List V} (h : SqL K H p xs) (ha : atI xs i = some v) (q : Q v H) : rIxL K (.ref p) (.int i) H Q := ⟨p, xs, i, v, rfl, rfl, h, ha, q⟩
theorem rd_ixT {p : Addr} {xs : List V} (h : SqT K H p xs) (ha : atI xs i = some v) (q : Q v H) : rIxT K (.ref p) (.int i) H Q := ⟨p, xs, i, v, rfl, rfl, h, ha, q⟩
theorem rd_setL {p : Addr} {xs : List V} {k : Nat} {R : Hp → Prop} (h : H p = some (.lst xs)) (ha : ixN xs.length i = some k) (q : R (upd H p (.lst (xs.set k v)))) : rSetL (.ref p) (.int i) v H R := ⟨p, xs, i, k, rfl, rfl, h, ha, q⟩
theorem rd_tup (h : tA σ H fun xs H1 => xs.length ≤ sizeLine ∧ ∀ p, H1 p = none → Q (.ref p) (upd H1 p (.tup xs))) : tTup tA σ H Q := h
theorem rd_lst (h : tA σ H fun xs H1 => xs.length ≤ sizeLine ∧ ∀ p, H1 p = none → Q (.ref p) (upd H1 p (.lst xs))) : tLst tA σ H Q := h
theorem rd_cons (h : ta σ H fun x H1 => tA σ H1 fun xs H2 => QA (x :: xs) H2) : tCons ta tA σ H QA := h
theorem rd_nil (h : QA [] H) : tNil σ H QA := h
theorem rd_star (h : ta σ H fun x H1 => ∃ p xs, x = V.ref p ∧ (SqT K H1 p xs ∨ SqL K H1 p xs) ∧ tA σ H1 fun ys H2 => QA (xs ++ ys) H2) : StX.tStar K ta tA σ H QA := h
theorem rd_call {sp : Sp} {dvs : List V} (h : tA σ H fun vs H1 => sp (vs ++ dvs) H1 Q E) : tCall sp dvs E tA σ H Q := h
theorem rd_CB {r : List V → Hp → VK → Prop} (h : tA σ H fun vs H1 => r vs H1 Q) : tCB r tA σ H Q := h
theorem rd_test (h : ta σ H fun x H' => ∃ k, x = .bl k ∧ QT k H') : tTest ta σ H QT := h
theorem rd_tB (h : ta σ H fun x H' => ∃ k, x = .bl k ∧ QT k H') : tB ta σ H QT := h
theorem rd_and (h : t σ H fun c H1 => if c = true then u σ H1 QT else QT false H1) : tAnd t u σ H QT := h
theorem rd_or (h : t σ H fun c H1 => if c = true then QT true H1 else u σ H1 QT) : tOr t u σ H QT := h
theorem rd_not (h : t σ H fun c H1 => QT (!c) H1) : tNot t σ H QT := h
theorem rd_andV (h : ta σ H fun x H1 => ∃ c, x = .bl c ∧ if c = true then tb σ H1 Q else Q (.bl false) H1) : tAndV ta tb σ H Q := h
theorem rd_orV (h : ta σ H fun x H1 => ∃ c, x = .bl c ∧ if c = true then Q (.bl true) H1 else tb σ H1 Q) : tOrV ta tb σ H Q := h
theorem rd_notV (h : ta σ H fun x H1 => ∃ c, x = .bl c ∧ Q (.bl (!c)) H1) : tNotV ta σ H Q := h
theorem rd_tIf (h : t σ H fun c H1 => if c = true then ta σ H1 Q else tb σ H1 Q) : tIf t ta tb σ H Q := h
theorem rd_fld {a C dx : Addr} {fs : List (Str × V)} {f : Str} (h : ta σ H fun x H1 => ∃ a C dx fs v, x = .ref a ∧ H1 a = some (.ins C dx fs) ∧ Cls K C ∧ NoAttr K C f ∧ fs.lookup f = some v ∧ Q v H1) : tFld K ta f σ H Q := h
theorem rd_slL {p : Addr} {xs : List V} {lo hi : Option Int} (h : SqL K H p xs) (q : ∀ r, H r = none → Q (.ref r) (upd H r (.lst (cutV xs lo hi)))) : rSlL K (.ref p) lo hi H Q := ⟨p, xs, rfl, h, q⟩
theorem rd_sl {r : V → Option Int → Option Int → Hp → VK → Prop} {tl th : TO} (h : te σ H fun x H1 => tl σ H1 fun l H2 => th σ H2 fun u H3 => r x l u H3 Q) : tSl r te tl th σ H Q := h
theorem rd_noP {QO : Option Int → Hp → Prop} (q : QO none H) : tNoPart σ H QO := q
theorem rd_part {QO : Option Int → Hp → Prop} (q : te σ H fun x H1 => ∃ i, x = .int i ∧ QO (some i) H1) : tPart te σ H QO := q
theorem rd_BM {T : String} {r : V → List V → Hp → VK → Prop} (h : ta σ H fun x H1 => tyV K T x H1 ∧ tA σ H1 fun xs H2 => r x xs H2 Q) : tBM K T r ta tA σ H Q := h
theorem rd_app {p : Addr} {xs : List V} (h : H p = some (.lst xs)) (hl : xs.length < sizeLine) (q : Q .non (upd H p (.lst (xs ++ [y])))) : rAppend (.ref p) [y] H Q := ⟨p, xs, y, rfl, rfl, h, hl, q⟩
/-! ways -/
theorem ite_d {p : Prop} [Decidable p] {A B : Prop} (h1 : p → A) (h2 : ¬ p → B) : if decide p = true then A else B := by
  by_cases c : p
  · rw [if_pos (by simpa using c)]; exact h1 c
  · rw [if_neg (by simpa using c)]; exact h2 c
theorem ite_n {p : Prop} [Decidable p] {A B : Prop} (h1 : ¬ p → A) (h2 : p → B) : if (!decide p) = true then A else B := by
  by_cases c : p
  · rw [if_neg (by simp [c])]; exact h2 c
  · rw [if_pos (by simp [c])]; exact h1 c
theorem ite_b {b : Bool} {A B : Prop} (h1 : b = true → A) (h2 : b = false → B) : if b = true then A else B := by
  cases b
  · rw [if_neg Bool.false_ne_true]; exact h2 rfl
  · rw [if_pos rfl]; exact h1 rfl
end
/-! ### built-ins by name -/
def rLenS (K : PySem.W.Frag) : List V → Hp → VK → Prop := fun xs H Q => ∃ p ys, xs = [.ref p] ∧ (SqL K H p ys ∨ SqT K H p ys) ∧ Q (.int ys.length) H
theorem call_lenS {X : Cx} : CallR X (.builtin "len") (rLenS X.K) := call_len_seq
theorem rd_lenL {K : PySem.W.Frag} {H : Hp} {Q : VK} {p : Addr} {xs : List V} (h : SqL K H p xs) (q : Q (.int xs.length) H) : rLenS K [.ref p] H Q := ⟨p, xs, rfl, .inl h, q⟩
theorem rd_lenT {K : PySem.W.Frag} {H : Hp} {Q : VK} {p : Addr} {xs : List V} (h : SqT K H p xs) (q : Q (.int xs.length) H) : rLenS K [.ref p] H Q := ⟨p, xs, rfl, .inr h, q⟩
def rInt1 : List V → Hp → VK → Prop := fun xs H Q => (∃ i, xs = [.int i] ∧ Q (.int i) H) ∨ ∃ k, xs = [.bl k] ∧ Q (.int (if k then 1 else 0)) H
theorem call_intI {X : Cx} : CallR X (.type "int") rInt1 := call_int1
theorem rd_int {H : Hp} {Q : VK} {i : Int} (q : Q (.int i) H) : rInt1 [.int i] H Q := .inl ⟨i, rfl, q⟩
theorem rd_intB {H : Hp} {Q : VK} {k : Bool} (q : Q (.int (if k then 1 else 0)) H) : rInt1 [.bl k] H Q := .inr ⟨k, rfl, q⟩
def rAbs : List V → Hp → VK → Prop := fun xs H Q => ∃ i, xs = [.int i] ∧ Q (.int (if i < 0 then -i else i)) H
theorem call_absI {X : Cx} : CallR X (.builtin "abs") rAbs := call_abs
theorem rd_abs {H : Hp} {Q : VK} {i : Int} (q : Q (.int (if i < 0 then -i else i)) H) : rAbs [.int i] H Q := ⟨i, rfl, q⟩
def rListOf (K : PySem.W.Frag) : List V → Hp → VK → Prop := fun xs H Q => ∃ p ys, xs = [.ref p] ∧ (SqL K H p ys ∨ SqT K H p ys) ∧ ∀ l, H l = none → Q (.ref l) (upd H l (.lst ys))
theorem call_listS {X : Cx} : CallR X (.type "list") (rListOf X.K) := call_list_of
theorem rd_listL {K : PySem.W.Frag} {H : Hp} {Q : VK} {p : Addr} {xs : List V} (h : SqL K H p xs) (q : ∀ l, H l = none → Q (.ref l) (upd H l (.lst xs))) : rListOf K [.ref p] H Q := ⟨p, xs, rfl, .inl h, q⟩
theorem rd_listT {K : PySem.W.Frag} {H : Hp} {Q : VK} {p : Addr} {xs : List V} (h : SqT K H p xs) (q : ∀ l, H l = none → Q (.ref l) (upd H l (.lst xs))) : rListOf K [.ref p] H Q := ⟨p, xs, rfl, .inr h, q⟩
def rTupOf (K : PySem.W.Frag) : List V → Hp → VK → Prop := fun xs H Q => ∃ p ys, xs = [.ref p] ∧ ((SqL K H p ys ∧ ∀ l, H l = none → Q (.ref l) (upd H l (.tup ys))) ∨ (SqT K H p ys ∧ Q (.ref p) H))
theorem call_tupS {X : Cx} : CallR X (.type "tuple") (rTupOf X.K) := call_tuple_of
theorem rd_tupL {K : PySem.W.Frag} {H : Hp} {Q : VK} {p : Addr} {xs : List V} (h : SqL K H p xs) (q : ∀ l, H l = none → Q (.ref l) (upd H l (.tup xs))) : rTupOf K [.ref p] H Q := ⟨p, xs, rfl, .inl ⟨h, q⟩⟩
theorem rd_tupT {K : PySem.W.Frag} {H : Hp} {Q : VK} {p : Addr} {xs : List V} (h : SqT K H p xs) (q : Q (.ref p) H) : rTupOf K [.ref p] H Q := ⟨p, xs, rfl, .inr ⟨h, q⟩⟩
def rLenStr : List V → Hp → VK → Prop := fun xs H Q => ∃ z, xs = [.str z] ∧ z.length ≤ sizeLine ∧ Q (.int z.length) H
theorem call_lenStr {X : Cx} : CallR X (.builtin "len") rLenStr := call_len_str
theorem rd_lenStr {H : Hp} {Q : VK} {z : Str} (h : z.length ≤ sizeLine) (q : Q (.int z.length) H) : rLenStr [.str z] H Q := ⟨z, rfl, h, q⟩
theorem sqL_of {K : PySem.W.Frag} {H : Hp} {a : Addr} {xs : List V} (h : H a = some (.lst xs)) : SqL K H a xs := .inl (.inl h)
theorem sqT_of {K : PySem.W.Frag} {H : Hp} {a : Addr} {xs : List V} (h : H a = some (.tup xs)) : SqT K H a xs := .inl (.inl h)
theorem sqL_upd {K : PySem.W.Frag} {H : Hp} {a p : Addr} {o : HO} {xs : List V} (hp : H p = none) (h : SqL K H a xs) : SqL K (upd H p o) a xs := (Same.upd hp).seq h
theorem same_sqT {K : PySem.W.Frag} {H H' : Hp} {a : Addr} {xs : List V} (e : Same H H') (h : SqT K H a xs) : SqT K H' a xs := by
  rcases h with (h | ⟨o, h⟩) | h
  · exact .inl (.inl (e _ _ h))
  · exact .inl (.inr ⟨o, e _ _ h⟩)
  · exact .inr h
theorem sqT_upd {K : PySem.W.Frag} {H : Hp} {a p : Addr} {o : HO} {xs : List V} (hp : H p = none) (h : SqT K H a xs) : SqT K (upd H p o) a xs := same_sqT (Same.upd hp) h

/-! ### remainders and quotients by positive numbers, as letters -/
def rModP : R2 := fun x y H Q => ∃ i j, x = .int i ∧ y = .int j ∧ 0 < j ∧ ∀ d : Int, d = i % j → 0 ≤ d → d < j → Q (.int d) H
theorem op_modP {X : Cx} : OpR X (binaryOp .Mod) rModP := fun pins s σ H x y v u Q I rx ry h => by
  obtain ⟨i, j, ex, ey, hj, q⟩ := h
  refine op_mod pins s σ H x y v u Q I rx ry ⟨i, j, ex, ey, hj, q _ rfl (Int.emod_nonneg _ (by omega)) (Int.emod_lt_of_pos _ hj)⟩
def rDivP : R2 := fun x y H Q => ∃ i j, x = .int i ∧ y = .int j ∧ (0 < j ∧ j < 1073741824) ∧ ∀ d : Int, d = i / j → Q (.int d) H
theorem op_divP {X : Cx} : OpR X (binaryOp .FloorDiv) rDivP := fun pins s σ H x y v u Q I rx ry h => by
  obtain ⟨i, j, ex, ey, hj, q⟩ := h
  exact op_fdiv pins s σ H x y v u Q I rx ry ⟨i, j, ex, ey, hj, q _ rfl⟩
theorem rd_modP {i j : Int} {H : Hp} {Q : VK} (hj : 0 < j) (q : ∀ d : Int, d = i % j → 0 ≤ d → d < j → Q (.int d) H) : rModP (.int i) (.int j) H Q := ⟨i, j, rfl, rfl, hj, q⟩
theorem rd_divP {i j : Int} {H : Hp} {Q : VK} (hj : 0 < j ∧ j < 1073741824) (q : ∀ d : Int, d = i / j → Q (.int d) H) : rDivP (.int i) (.int j) H Q := ⟨i, j, rfl, rfl, hj, q⟩
/-- a list of numbers beside an empty one -/
theorem dpAll_ints {K : PySem.W.Frag} {H : Hp} : ∀ ns : List Int, DpAll K H (ns.map V.int) (ns.map PyData.int)
  | [] => .nil
  | n :: r => .cons (.int n) (dpAll_ints r)
theorem rd_ne_nil {K : PySem.W.Frag} {H : Hp} {Q : VK} {c p : Addr} {ns : List Int} (h : SqL K H c (ns.map V.int)) (hp : SqL K H p []) (q1 : ns ≠ [] → Q (.bl true) H) (q2 : ns = [] → Q (.bl false) H) : rNeD K (.ref c) (.ref p) H Q := by
  refine ⟨.list (ns.map PyData.int), .list [], .lst h (dpAll_ints ns), .lst hp .nil, ?_, by decide, ?_⟩
  · exact PySem.W.shaped_ints ns
  · cases ns with
    | nil => exact q2 rfl
    | cons a r => exact q1 (by simp)

theorem pow_ok {a : Int} {k : Int} (hk : 0 ≤ k) (hk2 : k ≤ 1000000) (h0 : 0 ≤ a) (h1 : a < 18446744073709551616) : CPow a k := ⟨hk, hk2, by omega⟩
theorem mix_ok {x b c d e k : Int} (hx : 0 ≤ x) (hx2 : x < 4294967296) (hb : 0 ≤ b) (hb2 : b < 200000) (hc : 0 ≤ c) (hc2 : c < 1000) (hd : 0 ≤ d) (hd2 : d < 1000000) (he : 0 ≤ e) (he2 : e < 1000000) (hk : 0 ≤ k) (hk2 : k ≤ 1000000) :
    CPow (x * (2 * b + c) + d * b * b + e) k := by
  have h1 : x * (2 * b + c) ≤ 4294967296 * (2 * b + c) := Int.mul_le_mul_of_nonneg_right (by omega) (by omega)
  have h0 : 0 ≤ x * (2 * b + c) := Int.mul_nonneg hx (by omega)
  have h2 : 0 ≤ d * b := Int.mul_nonneg hd hb
  have h3 : d * b ≤ 1000000 * b := Int.mul_le_mul_of_nonneg_right (by omega) hb
  have h4 : 0 ≤ d * b * b := Int.mul_nonneg h2 hb
  have h5 : d * b * b ≤ (1000000 * 200000) * b := Int.mul_le_mul_of_nonneg_right (by omega) hb
  exact pow_ok hk hk2 (by omega) (by omega)
theorem dbb_ok {d b : Int} (hb : 0 ≤ b) (hb2 : b < 200000) (hd : 0 ≤ d) (hd2 : d < 1000000) : CMul (d * b) b := .inr ⟨by omega, by omega⟩

theorem rd_exb {b : Bool} {P : Bool → Prop} (q : P b) : ∃ k, V.bl b = V.bl k ∧ P k := ⟨b, rfl, q⟩
theorem rd_exi {b : Int} {P : Int → Prop} (q : P b) : ∃ k, V.int b = V.int k ∧ P k := ⟨b, rfl, q⟩

theorem atI_int {α : Type} {xs : List α} {d : Int} {v : α} (h0 : 0 ≤ d) (h : xs[d.toNat]? = some v) : atI xs d = some v := by
  have q := atI_nat h
  rw [Int.toNat_of_nonneg h0] at q
  exact q
theorem rd_exs {z : Str} {P : Str → Prop} (q : P z) : ∃ k, V.str z = V.str k ∧ P k := ⟨z, rfl, q⟩
theorem rd_exr {a : Addr} {P : Addr → Prop} (q : P a) : ∃ k, V.ref a = V.ref k ∧ P k := ⟨a, rfl, q⟩
theorem rd_eqI {i j : Int} {H : Hp} {Q : VK} (q : Q (.bl (decide (i = j))) H) : rEq (.int i) (.int j) H Q := ⟨rfl, by
  rw [show decide (V.int i = V.int j) = decide (i = j) from by
    by_cases h : i = j
    · rw [decide_eq_true h, h]; exact decide_eq_true rfl
    · rw [decide_eq_false h]; exact decide_eq_false fun z => h (V.int.inj z)]
  exact q⟩
theorem rd_neI {i j : Int} {H : Hp} {Q : VK} (q : Q (.bl (!decide (i = j))) H) : rNe (.int i) (.int j) H Q := ⟨rfl, by
  rw [show decide (V.int i = V.int j) = decide (i = j) from by
    by_cases h : i = j
    · rw [decide_eq_true h, h]; exact decide_eq_true rfl
    · rw [decide_eq_false h]; exact decide_eq_false fun z => h (V.int.inj z)]
  exact q⟩
theorem rd_eqS {i j : Str} {H : Hp} {Q : VK} (q : Q (.bl (decide (i = j))) H) : rEq (.str i) (.str j) H Q := ⟨rfl, by
  rw [show decide (V.str i = V.str j) = decide (i = j) from by
    by_cases h : i = j
    · rw [decide_eq_true h, h]; exact decide_eq_true rfl
    · rw [decide_eq_false h]; exact decide_eq_false fun z => h (V.str.inj z)]
  exact q⟩
theorem rd_neS {i j : Str} {H : Hp} {Q : VK} (q : Q (.bl (!decide (i = j))) H) : rNe (.str i) (.str j) H Q := ⟨rfl, by
  rw [show decide (V.str i = V.str j) = decide (i = j) from by
    by_cases h : i = j
    · rw [decide_eq_true h, h]; exact decide_eq_true rfl
    · rw [decide_eq_false h]; exact decide_eq_false fun z => h (V.str.inj z)]
  exact q⟩
theorem rd_eqB {i j : Bool} {H : Hp} {Q : VK} (q : Q (.bl (i == j)) H) : rEq (.bl i) (.bl j) H Q := ⟨rfl, by
  rw [show decide (V.bl i = V.bl j) = (i == j) from by cases i <;> cases j <;> rfl]
  exact q⟩
theorem rd_neB {i j : Bool} {H : Hp} {Q : VK} (q : Q (.bl (!(i == j))) H) : rNe (.bl i) (.bl j) H Q := ⟨rfl, by
  rw [show decide (V.bl i = V.bl j) = (i == j) from by cases i <;> cases j <;> rfl]
  exact q⟩
end Lay

end

section
namespace PySem
namespace OpsM
/-- enumerate(v) alone, v begun by B -/
theorem meets_enum1 {v : Value} {o : Obj} {Hq : Heap → Prop} (B : Begins v o Hq) :
    Meets (Builtin.«enumerate.__new__» ⟨[.type "enumerate", v], []⟩) (fun _ R s => Hq s.heap ∧
      R (.ok (.ret (.ref (s.heap.push o).objs.size))) { s with heap := (s.heap.push o).push { cls := .type "enumerate", data := .fields #[.none, .bool false, .ref s.heap.objs.size, rawInt 0, .none, .none] } }) := by
  refine .of_wp fun prog w A R s hR => ?_
  obtain ⟨hp, g, d, tk, os⟩ := s
  obtain ⟨hq0, hR⟩ := hR
  have subE := sub_enumerate
  have its : ∀ {A1 : Around} {E1 : Value → Shared → Prop} {Q1 : Value → Shared → Prop}, Q1 (.ref hp.objs.size) ⟨hp.push o, g, d, tk, os⟩ → wpAny (model prog w) A1 (pyIter v) Q1 E1 ⟨hp, g, d, tk, os⟩ :=
    fun z => B.iter prog w _ _ ⟨hp, g, d, tk, os⟩ _ hq0 z
  wp_walk using its
  refine wpAny_stack_any fun stk => wpAny_pure ?_
  split
  · rename_i cl _ _ _ _ _
    cases (cl == Value.type "enumerate")
    all_goals (wp_walk using its; exact ⟨_, rfl, hR⟩)
  · wp_walk using its; exact ⟨_, rfl, hR⟩
theorem call_enum1 {prog : Program} {w : World} {A : Around} {E : Value → Shared → Prop} {s : Shared} {v : Value} {o : Obj} {Hq : Heap → Prop} {Q : Value → Shared → Prop} (B : Begins v o Hq) (h1 : Hq s.heap)
    (h : ∀ h2, IsEnum h2 (s.heap.objs.size + 1) s.heap.objs.size 0 .none → h2.get? s.heap.objs.size = some o → (∀ b u, s.heap.get? b = some u → h2.get? b = some u) → Q (.ref (s.heap.objs.size + 1)) { s with heap := h2 }) :
    wpAny (model prog w) A (call (.type "enumerate") [v]) Q E s := by
  refine callType_new F.called_enumerate (by decide) (F.typeCall_enumerate_1 _) (F.newCall_enumerate_1 _) (fun obj => F.args_object_init_2 obj _) F.entry_enumerate_new (meets_enum1 B) ⟨h1, ?_⟩
  have hz : (s.heap.push o).objs.size = s.heap.objs.size + 1 := Heap.size_push ..
  show _ ∧ _
  rw [hz]
  have he : IsEnum ((s.heap.push o).push { cls := .type "enumerate", data := .fields #[.none, .bool false, .ref s.heap.objs.size, rawInt 0, .none, .none] }) (s.heap.objs.size + 1) s.heap.objs.size 0 .none := by
    have z := Heap.get?_push_size (s.heap.push o) (o := { cls := .type "enumerate", data := .fields #[.none, .bool false, .ref s.heap.objs.size, rawInt 0, .none, .none] }) rfl
    rw [hz] at z
    exact z
  exact ⟨⟨_, he, rfl⟩, h _ he (Heap.get?_push_of_some _ (Heap.get?_push_size _ B.free)) fun b u z => Heap.get?_push_of_some _ (Heap.get?_push_of_some _ z)⟩
end OpsM
end PySem
namespace Lay
open PySem PySem.Spec PyProof.Rows L2
/-! ### enumerate(tuple) -/
def Itet (K : PySem.W.Frag) (a : Addr) : It :=
  ⟨fun i H => ∃ (xs : List V) (x : V), SqT K H a xs ∧ xs[i]? = some x, fun i H v H' => ∃ T x, v = .ref T ∧ H T = none ∧ H' = upd H T (.tup [.int (i : Nat), x]) ∧ ∀ xs, SqT K H a xs → xs[i]? = some x, fun i H => ∃ xs : List V, SqT K H a xs ∧ xs.length ≤ i⟩
theorem tuple_iter_ne {h : Heap} {it a : Addr} {i : Nat} {its : Array Value} (h1 : h.IsTupleIter it a i) (h2 : h.IsTuple a its) : a ≠ it := fun z => by
  obtain ⟨o, e, c, d⟩ := h1
  obtain ⟨u, e2, c2, _⟩ := h2
  rw [z, e] at e2
  cases e2
  rw [c] at c2
  injection c2 with y
  exact absurd y (by decide)
theorem enum_ne {h : Heap} {e it a : Addr} {c : Int} {old : Value} {its : Array Value} (h1 : IsEnum h e it c old) (h2 : h.IsTuple a its) : e ≠ a := fun z => by
  obtain ⟨u, e2, c2, _⟩ := h2
  have h1' : h.get? e = some _ := h1
  rw [← z, h1'] at e2
  cases e2
  injection c2 with y
  exact absurd y (by decide)
theorem turn_enumT {P : Program} {w : World} {K : PySem.W.Frag} {elts : List Expr} {kk : Nat} {tpos : Pos} (a e it : Addr) :
    Turn P w K (.Tuple elts kk tpos) (Itet K a) [e, it] e (fun i h => (∃ old, IsEnum h e it ((i : Nat) : Int) old) ∧ h.IsTupleIter it a i ∧ e ≠ it) where
  mem := List.mem_cons_self ..
  obj := fun i h st b hb => by
    obtain ⟨⟨old, he⟩, ⟨o, ho, hc, hd⟩, _⟩ := st
    rcases List.mem_cons.mp hb with z | z
    · subst z; exact ⟨_, he, fun v q => nomatch q⟩
    · rw [List.mem_singleton.mp z]; exact ⟨o, ho, fun v q => by rw [hd] at q; cases q⟩
  keep := fun i h h2 st k => ⟨let ⟨old, he⟩ := st.1; ⟨old, k e (List.mem_cons_self ..) _ he⟩, st.2.1.at fun o q => k it (by simp) o q, st.2.2⟩
  item := by
    intro X hP hw hK hc i pins s σ H E I hf st hg
    subst hP hw hK
    obtain ⟨⟨old, he⟩, hit, hne⟩ := st
    obtain ⟨xs, x, hq, hx⟩ := hg
    obtain ⟨its, rv, p, hz⟩ := I.tuple hq
    obtain ⟨u, hu, ru⟩ := rv.get hx
    have hT : s.heap.IsTuple a its.toArray := p
    have hel : e < s.heap.objs.size := Heap.lt_size he
    have hil : it < s.heap.objs.size := by obtain ⟨_, q, _⟩ := hit; exact Heap.lt_size q
    have hei : e ∉ [it, a] := by
      intro z
      rcases List.mem_cons.mp z with z | z
      · exact hne z
      · exact enum_ne he hT (List.mem_singleton.mp z)
    have hlt : i < its.toArray.size := by
      have z := (List.getElem?_eq_some_iff.mp hu).1
      simpa using z
    refine wpAny_pyNext_enum_itemC (Draws.tuple (prog := X.prog) (w := X.w) (A := X.A.in1) (I.ok.hd hc) it a (tuple_iter_ne hit hT) its.toArray) he ⟨hit, hT⟩ hlt hne hei fun y h2 tk hy ho hst hTn hsz hk => ?_
    have ey : y = u := by
      have z : its.toArray[i]? = some u := by simpa using hu
      rw [z] at hy
      exact (Option.some.inj hy).symm
    subst ey
    refine ⟨_, rfl, wpAny_letOwnedTupleGo_enum (s := { s with heap := h2, toks := tk + 1 }) ho fun h3 he3 sb => ?_⟩
    have hT3 : h3.get? s.heap.objs.size = some { cls := .type "tuple", data := .seq #[.int i tk, y] } := (sb.2 _ (Nat.ne_of_gt hel)).trans hTn
    have new : ObjOk X.prog X.w (upd H s.heap.objs.size (.tup [.int (i : Nat), x])) h3 s.heap.objs.size (.tup [.int (i : Nat), x]) :=
      ⟨by show 2 ≤ sizeLine; decide, [.int i tk, y], .cons ⟨_, rfl⟩ (.cons ru .nil), ⟨_, hT3, rfl, _, rfl⟩⟩
    have I1 : Inv X pins σ (upd H s.heap.objs.size (.tup [.int (i : Nat), x])) { s with heap := h3, toks := tk + 1 } :=
      I.turnedNew (ch := [e, it]) (fun b ob hb q => (sb.2 b (fun z => hb (by rw [z]; exact List.mem_cons_self ..))).trans (hk b ob (fun z => hb (by rw [z]; exact List.mem_cons_self ..)) (fun z => hb (by simp [z])) q)) hf (Nat.le_refl _) new
    refine ⟨.ref s.heap.objs.size, _, I1, rfl, ⟨_, x, rfl, I.hok.fresh (Nat.le_refl _), rfl, fun ys hy => by rw [I.tuple_inj hy hq]; exact hx⟩, ⟨⟨y, ?_⟩, hst.1.at fun o q => (sb.2 it (Ne.symm hne)).trans q, hne⟩, fun b hb => ?_⟩
    · rw [show ((i + 1 : Nat) : Int) = (i : Int) + 1 from by omega]
      exact he3
    · have hlb : b < s.heap.objs.size := by
        rcases List.mem_cons.mp hb with z | z
        · rw [z]; exact hel
        · rw [List.mem_singleton.mp z]; exact hil
      rw [upd_ne (Nat.ne_of_lt hlb)]
      exact (hf b hb).1
  done := by
    intro X hP hw hK hc i pins s σ H E I hf st hg
    subst hP hw hK
    obtain ⟨⟨old, he⟩, hit, hne⟩ := st
    obtain ⟨xs, hq, hx⟩ := hg
    obtain ⟨its, rv, p, hz⟩ := I.tuple hq
    have hT : s.heap.IsTuple a its.toArray := p
    obtain ⟨f0, f1, f2, f3, f4, f5⟩ := hf it (by simp)
    have hn : its.toArray[i]? = none := by
      have z := rv.length
      simp only [List.getElem?_toArray, List.getElem?_eq_none_iff]
      omega
    have Dn : Draws X.prog X.w X.A.in1 it [it, a] i (fun _ _ => False) (fun j h => j = i ∧ h.IsTupleIter it a i ∧ h.IsTuple a its.toArray) :=
      ⟨fun j h z => let ⟨o, ho, _⟩ := z.2.1; ⟨o, ho⟩, fun j h h2 z k => ⟨z.1, z.2.1.at fun o q => k it (by simp) o q, z.2.2.at fun o q => k a (by simp) o q⟩,
        fun j s1 Q1 E1 hj z _ => absurd hj (by rw [z.1]; exact Nat.lt_irrefl _), fun s1 Q1 E1 z hE => wpAny_nextOf_tuple_end (I.ok.hd hc) z.2.1 z.2.2 hn hE⟩
    exact wpAny_pyNext_enum_endD Dn he ⟨rfl, hit, hT⟩ fun h2 eb => ⟨rfl, I.turned (t' := s.toks) (fun b o hb q => eb b o hb q) f0 f1 f3 f4 f5⟩
  self := fun A i s Q E st h => let ⟨⟨_, he⟩, _⟩ := st; wpAny_pyIter_enum he h
def iEnumT (K : PySem.W.Frag) (ta : TA) : TI := fun σ H R => ta σ H fun vs H1 => ∃ a xs, vs = [.ref a] ∧ SqT K H1 a xs ∧ R (Itet K a) H1
theorem pi_enumT {X : Cx} {e : Expr} {ta : TA} {p pos tpos : Pos} {elts : List Expr} {kk : Nat} (hg : Gl X "enumerate") (hm : X.mg "enumerate" = none) (ha : PA X [e] ta) (hs : starEach [e] X.env = [(false, eval e X.env)] := by rfl) :
    PI X (.Tuple elts kk tpos) (.Call (.Name "enumerate" p) [e] [] pos) (iEnumT X.K ta) := by
  refine ⟨fun pins s σ H R I h => ?_⟩
  refine Call_ (ld_blt I hg hm boot_enumerate (PyProof.Rows.callWith_type1 (thn (ha.run pos pins s σ H _ I h) fun us s1 ⟨vs, H1, I1, r1, a, xs, ex, hq, q⟩ => ?_) hs rfl))
  subst ex
  cases r1 with
  | cons r rr =>
    cases rr
    cases r
    obtain ⟨its, rv, pt, hz⟩ := I1.tuple hq
    have hT : s1.heap.IsTuple a its.toArray := pt
    refine OpsM.call_enum1 (begins_tuple a its.toArray) hT fun h2 he hit hk => wpAny_pyIter_enum he ?_
    have I2 : Inv X pins σ H1 { s1 with heap := h2 } := I1.kept (t' := s1.toks) hk
    refine ⟨s1.heap.objs.size + 1, [s1.heap.objs.size + 1, s1.heap.objs.size], _, _, H1, rfl, I2, turn_enumT a (s1.heap.objs.size + 1) s1.heap.objs.size, ⟨⟨.none, he⟩, ⟨_, hit, rfl, rfl⟩, Nat.succ_ne_self _⟩, fun b hb => ?_, q⟩
    have hle : s1.heap.objs.size ≤ b := by
      rcases List.mem_cons.mp hb with z | z
      · rw [z]; exact Nat.le_add_right _ _
      · rw [List.mem_singleton.mp z]; exact Nat.le_refl _
    exact I1.fpOk hle (I1.hok.fresh hle)
theorem walk_enumT {K : PySem.W.Frag} {a : Addr} {xs : List V} : Walk (Itet K a) xs.length (fun H => SqT K H a xs) (YPair (fun i => some (.int (i : Nat))) (fun i => xs[i]?)) := by
  refine ⟨fun i _ hi q => ⟨xs, xs[i], q, by simp [hi]⟩, fun _ q => ⟨xs, q, Nat.le_refl _⟩, fun i H v H' _ q y => ?_⟩
  obtain ⟨T, x, h1, h2, h3, h4⟩ := y
  exact ⟨T, _, x, h1, h2, h3, rfl, h4 xs q⟩
end Lay

end

section
namespace PySem
namespace OpsM
open SeqAt
open AutoSeq1 (wpAny_loadPart')
theorem str_eq_any (b : Str) (u : Tok) (l : Addr) (c : Value) (dd : Option Addr) (es : Array DictEntry) (ep : Nat) (sl : Array (Option Value)) :
    Meets (Builtin.«str.__eq__» ⟨[.str b u, .ref l], []⟩) (fun _ R s => s.heap.get? l = some { cls := c, dict := dd, data := .dict es ep, slots := sl } ∧ R (.ok (.ret .notImplemented)) s) := by
  refine .of_wp fun prog w A R s h => ?_
  obtain ⟨hp, g, d, tk, os⟩ := s
  obtain ⟨hl, hR⟩ := h
  wp_walk using wpAny_loadPart' hl, wpAny_load hl
  exact ⟨_, rfl, hR⟩
section
variable {prog : Program} {w : World} {A : Around} {E : Value → Shared → Prop} {s : Shared}
theorem dict_eq_str {d : Addr} {b : Str} {u : Tok} {Q : Value → Shared → Prop} (hd : s.TypeIs (.ref d) "dict") (h : Q .notImplemented s) : wpAny (model prog w) A (call (.builtin "dict.__eq__") [.ref d, .str b u]) Q E s := by
  refine wpAny_call_entry PySem.F.slot_dict_eq hd PySem.F.entry_dict_eq ?_ (PySem.F.args_dict_eq_2 _ _)
  show wpAny _ _ (Builtin.Dict.dictSlotArgs "__eq__" ⟨[.ref d, .str b u], []⟩ >>= _) _ _ s
  refine wpAny_bind ?_
  unfold Builtin.Dict.dictSlotArgs
  refine wpAny_bind (wpAny_notOrdered_dict hd ?_)
  show wpAny _ _ (pure (Value.ref d, Value.str b u)) _ _ s
  refine wpAny_pure ?_
  refine wpAny_bind (wpAny_isInstance (T := "str") (typeIs_str s b u) PySem.F.sub_str_dict ?_)
  simp only [Bool.not_false, if_true]
  exact wpAny_bind (wpAny_rule (wpAny_pure ⟨_, rfl, h⟩))
theorem rc_str_dict {d : Addr} {o : Obj} (b : Str) (u : Tok) (ho : s.heap.get? d = some o) (hc : o.cls = .type "dict") (hd : ∃ es ep, o.data = .dict es ep) (hu : A.units < cLine) : RcAt A s (.str b u) (.ref d) false := fun prog w E Q h => by
  obtain ⟨es, ep, hd⟩ := hd
  obtain ⟨c, dd, dt, sl⟩ := o
  simp only at hc hd
  subst hc hd
  have hT : s.TypeIs (.ref d) "dict" := ⟨_, ho, rfl⟩
  exact rc_eq_decline_or (k := false) (typeIs_str s b u) hT (by decide) F.sub_dict_str F.slot_str_eq F.slot_dict_eq_refl
    (fun _ hq => call_meets F.slot_str_eq (typeIs_str s b u) F.entry_str_eq (F.args_str_eq_2 _ _) (str_eq_any b u d _ dd es ep sl) ⟨ho, hq⟩)
    (fun _ hq => dict_eq_str hT hq) (fun _ hq => wpAny_of_eq (rfl : isSame (.str b u) (.ref d) = pure false) hq) (.inr hu) h
theorem eq_str_dict {d : Addr} {o : Obj} (b : Str) (u : Tok) (ho : s.heap.get? d = some o) (hc : o.cls = .type "dict") (hd : ∃ es ep, o.data = .dict es ep) (hu : A.units < cLine) : EqAt A s (.str b u) (.ref d) false := fun prog w E Q h => by
  unfold eqBool
  refine wpAny_holding (wpAny_ite_split (fun z => absurd (eq_of_beq z) nofun) fun _ => ?_)
  exact wpAny_bind (rc_str_dict b u ho hc hd hu prog w E _ (wpAny_truthy_bool h))
end
end OpsM
end PySem
namespace Lay
open PySem PySem.Spec PyProof.Rows L2
/-! ### the kinds of any value -/
inductive Kn where
  | non | bool | int | str | list | tuple | dict
def Kn.name : Kn → String
  | .non => "NoneType"
  | .bool => "bool"
  | .int => "int"
  | .str => "str"
  | .list => "list"
  | .tuple => "tuple"
  | .dict => "dict"
/-- a value of the kind t is an instance of the class n -/
def isTy : Kn → Kn → Bool
  | .non, .non => true
  | .bool, .bool => true
  | .bool, .int => true
  | .int, .int => true
  | .str, .str => true
  | .list, .list => true
  | .tuple, .tuple => true
  | .dict, .dict => true
  | _, _ => false
theorem isTy_ok {K : PySem.W.Frag} (t n : Kn) : PySem.W.kitOne K (.type t.name) (.type n.name) = some (isTy t n) := by
  cases t <;> cases n <;> exact kit_ty (by decide +kernel)
inductive Kd (H : Hp) : V → Kn → Prop
  | non : Kd H .non .non
  | bl (b : Bool) : Kd H (.bl b) .bool
  | int (i : Int) : Kd H (.int i) .int
  | str (z : Str) : Kd H (.str z) .str
  | lst {a : Addr} {xs : List V} (h : H a = some (.lst xs)) : Kd H (.ref a) .list
  | tup {a : Addr} {xs : List V} (h : H a = some (.tup xs)) : Kd H (.ref a) .tuple
  | dK {a : Addr} {kvs : List (Key × V)} (h : H a = some (.dK kvs)) : Kd H (.ref a) .dict
theorem Kd.same {H H' : Hp} {v : V} {t : Kn} (s : ∀ b o, v = .ref b → H b = some o → H' b = some o) (k : Kd H v t) : Kd H' v t := by
  cases k with
  | non => exact .non
  | bl b => exact .bl b
  | int i => exact .int i
  | str z => exact .str z
  | lst h => exact .lst (s _ _ rfl h)
  | tup h => exact .tup (s _ _ rfl h)
  | dK h => exact .dK (s _ _ rfl h)
theorem Kd.mono {H H' : Hp} {v : V} {t : Kn} (s : Same H H') (k : Kd H v t) : Kd H' v t := k.same fun b o _ h => s b o h
theorem Kd.ty {K : PySem.W.Frag} {H : Hp} {v : V} {t : Kn} (k : Kd H v t) : TyX K H v (.type t.name) := by
  cases k with
  | non => exact .base .non
  | bl b => exact .base (.bl b)
  | int i => exact .base (.int i)
  | str z => exact .base (.str z)
  | lst h => exact .base (.lst h)
  | tup h => exact .base (.tup h)
  | dK h => exact .base (.dK h)
theorem rd_isi {K : PySem.W.Frag} {H : Hp} {Q : VK} {x : V} {t : Kn} (n : Kn) (k : Kd H x t) (q : Q (.bl (isTy t n)) H) : rIsi K [x, .ty n.name] H Q :=
  ⟨x, .ty n.name, .type t.name, .type n.name, isTy t n, rfl, .ty n.name, k.ty, isTy_ok t n, q⟩
/-! ### any value in a row of texts -/
def inStrs (x : V) (zs : List Str) : Bool := match x with | .str z => zs.contains z | _ => false
theorem memS {X : Cx} {pins : List (Addr × Obj)} {σ : L2.St} {H : Hp} {s : Shared} {A : Around} (I : Inv X pins σ H s) (hu : A.units < cLine) {x : V} {v : Value} {t : Kn} (rx : RelV x v) (k : Kd H x t) :
    ∀ (zs : List Str) (us : List Value), Vals (zs.map V.str) us → ∃ f : Value → Bool, us.any f = inStrs x zs ∧ ∀ u ∈ us, SeqAt.EqAt A s u v (f u) := by
  by_cases hx : ∃ z, x = .str z
  · obtain ⟨z, rfl⟩ := hx
    intro zs us r
    have fl : (zs.map V.str).all flatV = true := by
      rw [List.all_eq_true]
      intro y hy
      obtain ⟨w, _, rfl⟩ := List.mem_map.mp hy
      rfl
    refine ⟨eqU (.str z), ?_, fun u hu => mem_eqAt rx rfl r fl u hu⟩
    rw [any_eqU r fl]
    show ((zs.map V.str).any fun y => eqV y (.str z)) = zs.contains z
    clear r fl
    induction zs with
    | nil => rfl
    | cons a l ih =>
      rw [List.map_cons, List.any_cons, ih, List.contains_cons]
      congr 1
      show eqV (.str a) (.str z) = (z == a)
      by_cases h : a = z
      · subst h
        simp [eqV]
      · have h2 : ¬ z = a := fun y => h y.symm
        rw [show (z == a) = false from by simpa using h2]
        simp [eqV, h]
  · have no : ∀ zs, inStrs x zs = false := fun zs => by
      cases x with
      | str z => exact absurd ⟨z, rfl⟩ hx
      | _ => rfl
    have one : ∀ (z : Str) (u : Value), RelV (.str z) u → SeqAt.EqAt A s u v false := by
      intro z u ru
      obtain ⟨tk, rfl⟩ := ru
      cases k with
      | non => cases rx; exact SeqAt.EqAt.str_none z tk
      | bl b => cases rx; exact SeqAt.EqAt.str_bool z tk b
      | int i => obtain ⟨t', rfl⟩ := rx; exact SeqAt.EqAt.str_int z tk i t'
      | str y => exact absurd ⟨y, rfl⟩ hx
      | lst h =>
        cases rx
        obtain ⟨_, its, n, _, e⟩ := I.hok _ _ h
        exact SeqAt.EqAt.str_list z tk (items := its.toArray) ⟨_, e, rfl, _, rfl⟩ hu
      | tup h =>
        cases rx
        obtain ⟨_, its, _, e⟩ := I.hok _ _ h
        exact SeqAt.EqAt.str_tuple z tk (items := its.toArray) e hu
      | dK h =>
        cases rx
        obtain ⟨_, _, vs, _, o, es, ep, e, ex, hd, _⟩ := I.hok _ _ h
        exact OpsM.eq_str_dict z tk e ex.1 ⟨_, _, hd⟩ hu
    intro zs us r
    refine ⟨fun _ => false, by rw [no]; simp, ?_⟩
    induction zs generalizing us with
    | nil => cases r; exact fun u hu => nomatch hu
    | cons a l ih =>
      cases r with
      | cons r1 r2 =>
        intro u hm
        rcases List.mem_cons.mp hm with e | hm
        · subst e; exact one a _ r1
        · exact ih _ r2 u hm
def rInS (K : PySem.W.Frag) : R2 := fun x y H Q => ∃ (p : Addr) (zs : List Str) (t : Kn), y = .ref p ∧ (SqT K H p (zs.map V.str) ∨ SqL K H p (zs.map V.str)) ∧ Kd H x t ∧ Q (.bl (inStrs x zs)) H
def rNotInS (K : PySem.W.Frag) : R2 := fun x y H Q => ∃ (p : Addr) (zs : List Str) (t : Kn), y = .ref p ∧ (SqT K H p (zs.map V.str) ∨ SqL K H p (zs.map V.str)) ∧ Kd H x t ∧ Q (.bl (!inStrs x zs)) H
theorem op_inS {X : Cx} (hu : X.A.units + 64 < cLine) : OpR X (compareOp .In) (rInS X.K) := by
  intro pins s σ H x y v u Q I rx ry h
  obtain ⟨p, zs, t, rfl, hq, k, q⟩ := h
  cases ry
  have hu1 : X.A.in1.units < cLine := by show X.A.units + 1 < cLine; omega
  rcases hq with hq | hq
  · obtain ⟨its, r, pl, hz⟩ := I.tuple hq
    obtain ⟨f, e, m⟩ := memS I hu1 rx k _ _ r
    refine SeqAt.in_tupleAt f pl (fun w hw => m w (by simpa using hw)) ⟨.bl _, H, I, rfl, ?_⟩
    rw [show its.toArray.any f = its.any f by simp, e]
    exact q
  · obtain ⟨its, r, pl, hz⟩ := I.list hq
    obtain ⟨f, e, m⟩ := memS I hu1 rx k _ _ r
    refine SeqAt.in_listAt f pl.isList (fun w hw => m w (by simpa using hw)) ⟨.bl _, H, I, rfl, ?_⟩
    rw [show its.toArray.any f = its.any f by simp, e]
    exact q
theorem op_notInS {X : Cx} (hu : X.A.units + 64 < cLine) : OpR X (compareOp .NotIn) (rNotInS X.K) := by
  intro pins s σ H x y v u Q I rx ry h
  obtain ⟨p, zs, t, rfl, hq, k, q⟩ := h
  cases ry
  have hu1 : X.A.in1.units < cLine := by show X.A.units + 1 < cLine; omega
  rcases hq with hq | hq
  · obtain ⟨its, r, pl, hz⟩ := I.tuple hq
    obtain ⟨f, e, m⟩ := memS I hu1 rx k _ _ r
    refine SeqAt.notIn_tupleAt f pl (fun w hw => m w (by simpa using hw)) ⟨.bl _, H, I, rfl, ?_⟩
    rw [show its.toArray.any f = its.any f by simp, e]
    exact q
  · obtain ⟨its, r, pl, hz⟩ := I.list hq
    obtain ⟨f, e, m⟩ := memS I hu1 rx k _ _ r
    refine SeqAt.notIn_listAt f pl.isList (fun w hw => m w (by simpa using hw)) ⟨.bl _, H, I, rfl, ?_⟩
    rw [show its.toArray.any f = its.any f by simp, e]
    exact q
theorem rd_inS {K : PySem.W.Frag} {H : Hp} {Q : VK} {x : V} {p : Addr} {zs : List Str} {t : Kn} (h : SqT K H p (zs.map V.str)) (k : Kd H x t) (q : Q (.bl (inStrs x zs)) H) : rInS K x (.ref p) H Q := ⟨p, zs, t, rfl, .inl h, k, q⟩
theorem rd_inSL {K : PySem.W.Frag} {H : Hp} {Q : VK} {x : V} {p : Addr} {zs : List Str} {t : Kn} (h : SqL K H p (zs.map V.str)) (k : Kd H x t) (q : Q (.bl (inStrs x zs)) H) : rInS K x (.ref p) H Q := ⟨p, zs, t, rfl, .inr h, k, q⟩
theorem rd_notInS {K : PySem.W.Frag} {H : Hp} {Q : VK} {x : V} {p : Addr} {zs : List Str} {t : Kn} (h : SqT K H p (zs.map V.str)) (k : Kd H x t) (q : Q (.bl (!inStrs x zs)) H) : rNotInS K x (.ref p) H Q := ⟨p, zs, t, rfl, .inl h, k, q⟩
theorem rd_notInSL {K : PySem.W.Frag} {H : Hp} {Q : VK} {x : V} {p : Addr} {zs : List Str} {t : Kn} (h : SqL K H p (zs.map V.str)) (k : Kd H x t) (q : Q (.bl (!inStrs x zs)) H) : rNotInS K x (.ref p) H Q := ⟨p, zs, t, rfl, .inr h, k, q⟩
end Lay

end

section
namespace Lay
open PySem PySem.Spec PyProof.Rows L2
/-! ### comprehensions: D the new list, R what holds of what it has so far and of all else -/
def PvL (D : Addr) (R : Nat → List V → Hp → Prop) (i : Nat) (H : Hp) : Prop := ∃ l, H D = some (.lst l) ∧ l.length ≤ i ∧ R i l H
theorem lc_put {D : Addr} {R : Nat → List V → Hp → Prop} {i : Nat} {l : List V} {y : V} {H : Hp} (h : H D = some (.lst l)) (hl : l.length ≤ i) (hi : i < 100000) (r : R (i + 1) (l ++ [y]) (upd H D (.lst (l ++ [y])))) :
    ∃ acc, H D = some (.lst acc) ∧ acc.length < sizeLine ∧ PvL D R (i + 1) (upd H D (.lst (acc ++ [y]))) :=
  ⟨l, h, Nat.lt_of_le_of_lt hl (Nat.lt_of_lt_of_le hi (by decide)), l ++ [y], upd_same, by rw [List.length_append]; exact Nat.add_le_add_right hl 1, r⟩
theorem lc_skip {D : Addr} {R : Nat → List V → Hp → Prop} {i : Nat} {l : List V} {H : Hp} (h : H D = some (.lst l)) (hl : l.length ≤ i) (r : R (i + 1) l H) : PvL D R (i + 1) H := ⟨l, h, Nat.le_succ_of_le hl, r⟩
theorem lc_go {J : It} {n : Nat} {G : Hp → Prop} {Y : Nat → Hp → V → Hp → Prop} (w : Walk J n G Y) {g : TG} {tt : TT} {te : TE} {vs : List Nat} {σ : L2.St} {H1 : Hp} {D : Addr} {Qd : Hp → Prop}
    (R : Nat → List V → Hp → Prop) (h0 : R 0 [] (upd H1 D (.lst []))) (hG : ∀ i l H, i ≤ n → R i l H → G H)
    (hs : ∀ i l x H H', i < n → H D = some (.lst l) → l.length ≤ i → R i l H → Y i H x H' → g x (wipe σ vs) H' fun σ2 H2 => wipe σ2 vs = wipe σ vs ∧ tt σ2 H2 fun b H3 =>
      if b = true then te σ2 H3 fun y H4 => ∃ acc, H4 D = some (.lst acc) ∧ acc.length < sizeLine ∧ PvL D R (i + 1) (upd H4 D (.lst (acc ++ [y]))) else PvL D R (i + 1) H3)
    (hd : ∀ l H, H D = some (.lst l) → l.length ≤ n → R n l H → Qd H) :
    ∃ W : Nat → Nat → Hp → Prop, (∃ m, W 0 m (upd H1 D (.lst []))) ∧ ∀ i m H, W i m H →
      (J.stop i H ∧ Qd H) ∨ (J.go i H ∧ ∃ Nx : Hp → Prop, (∀ H', Nx H' → ∃ m', m' < m ∧ W (i + 1) m' H') ∧ ∀ x H', J.yld i H x H' → g x (wipe σ vs) H' fun σ2 H2 => wipe σ2 vs = wipe σ vs ∧ tt σ2 H2 fun b H3 =>
        if b = true then te σ2 H3 fun y H4 => ∃ acc, H4 D = some (.lst acc) ∧ acc.length < sizeLine ∧ Nx (upd H4 D (.lst (acc ++ [y]))) else Nx H3) :=
  lc_it w (PvL D R) ⟨[], upd_same, Nat.le_refl _, h0⟩ (fun i H hi ⟨l, _, _, r⟩ => hG i l H hi r) (fun i x H H' hi ⟨l, hl, hz, r⟩ y => hs i l x H H' hi hl hz r y) (fun H ⟨l, hl, hz, r⟩ => hd l H hl hz r)
section
variable {K : PySem.W.Frag} {σ : L2.St} {H : Hp} {Q : VK} {tA : TA} {te : TE} {R : It → Hp → Prop}
theorem rd_lc {wi : TI} {g : TG} {tt : TT} {vs : List Nat} (h : wi σ H fun J H1 => ∀ D, H1 D = none → ∃ W : Nat → Nat → Hp → Prop, (∃ m, W 0 m (upd H1 D (.lst []))) ∧ ∀ i m H, W i m H →
    (J.stop i H ∧ Q (.ref D) H) ∨ (J.go i H ∧ ∃ Nx : Hp → Prop, (∀ H', Nx H' → ∃ m', m' < m ∧ W (i + 1) m' H') ∧ ∀ x H', J.yld i H x H' → g x (wipe σ vs) H' fun σ2 H2 => wipe σ2 vs = wipe σ vs ∧ tt σ2 H2 fun b H3 =>
      if b = true then te σ2 H3 fun y H4 => ∃ acc, H4 D = some (.lst acc) ∧ acc.length < sizeLine ∧ Nx (upd H4 D (.lst (acc ++ [y]))) else Nx H3)) : tLc wi g tt te vs σ H Q := h
theorem rd_for {wi : TI} {g : TG} {tb : TS} {D : Ends} (h : wi σ H fun J H1 => ∃ W : Nat → Nat → L2.St → Hp → Prop, (∃ m, W 0 m σ H1) ∧ ∀ i m σ H, W i m σ H →
    (J.stop i H ∧ D.nx σ H) ∨ (J.go i H ∧ ∃ N : L2.St → Hp → Prop, (∀ σ' H', N σ' H' → ∃ m', m' < m ∧ W (i + 1) m' σ' H') ∧ ∀ x H', J.yld i H x H' → g x σ H' fun σ2 H2 => tb { D with nx := N, ct := N, bk := D.nx } σ2 H2)) : tFor wi g tb D σ H := h
theorem rd_iStr (h : te σ H fun x H1 => ∃ z, x = .str z ∧ R (Its z) H1) : iStr te σ H R := h
theorem rd_iList (h : te σ H fun x H1 => ∃ a, x = .ref a ∧ (∃ xs, SqL K H1 a xs) ∧ R (Itl K a) H1) : iList K te σ H R := h
theorem rd_iTup (h : te σ H fun x H1 => ∃ a, x = .ref a ∧ (∃ xs, SqT K H1 a xs) ∧ R (Itt K a) H1) : iTup K te σ H R := h
theorem rd_iRng1 (h : tA σ H fun vs H1 => ∃ j : Int, vs = [.int j] ∧ -(2 ^ 62) ≤ j ∧ j < 2 ^ 62 ∧ R (Itr 0 j.toNat) H1) : iRng1 tA σ H R := h
theorem rd_iEnumT (h : tA σ H fun vs H1 => ∃ a xs, vs = [.ref a] ∧ SqT K H1 a xs ∧ R (Itet K a) H1) : iEnumT K tA σ H R := h
theorem rd_yes {QT : Bool → Hp → Prop} (h : QT true H) : tYes H' H QT := h
def rSign : R2 := fun x y H Q => ∃ (c : Nat) (z : Str), x = .str ⟨#[c]⟩ ∧ y = .str z ∧ Q (.bl (decide (c ∈ z.cps.toList))) H
theorem op_sign {X : Cx} : OpR X (compareOp .In) rSign := op_in_sign
theorem rd_sign {H : Hp} {Q : VK} {c : Nat} {z : Str} (q : Q (.bl (decide (c ∈ z.cps.toList))) H) : rSign (.str ⟨#[c]⟩) (.str z) H Q := ⟨c, z, rfl, rfl, q⟩
theorem rd_in_sign {H : Hp} {Q : VK} {c : Nat} {z : Str} (q : Q (.bl (decide (c ∈ z.cps.toList))) H) : ∃ (c' : Nat) (z' : Str), V.str ⟨#[c]⟩ = V.str ⟨#[c']⟩ ∧ V.str z = V.str z' ∧ Q (.bl (decide (c' ∈ z'.cps.toList))) H := ⟨c, z, rfl, rfl, q⟩
theorem rd_lenV {H : Hp} {Q : VK} {z : Str} (h : z.length ≤ 100000) (q : Q (.int z.length) H) : rLenStr [.str z] H Q := ⟨z, rfl, Nat.le_trans h (by decide), q⟩
theorem rd_chain {r r' : R2} {ta tb tc : TE} (h : ta σ H fun x H1 => tb σ H1 fun y H2 => r x y H2 fun z H3 => ∃ k, z = .bl k ∧ (if k = true then tc σ H3 fun w' H4 => r' y w' H4 Q else Q (.bl false) H3)) : tChain r r' ta tb tc σ H Q := h
end

theorem rd_alls {K : PySem.W.Frag} {H : Hp} {Q : VK} {a : Addr} {bs : List Bool} (h : SqL K H a (bs.map V.bl)) (q : Q (.bl (bs.all id)) H) : rAll K [.ref a] H Q := ⟨a, bs, rfl, h, q⟩
theorem rd_anys {K : PySem.W.Frag} {H : Hp} {Q : VK} {a : Addr} {bs : List Bool} (h : SqL K H a (bs.map V.bl)) (q : Q (.bl (bs.any id)) H) : rAny K [.ref a] H Q := ⟨a, bs, rfl, h, q⟩
theorem take_succ {α : Type} {xs : List α} {i : Nat} {x : α} (h : xs[i]? = some x) : xs.take (i + 1) = xs.take i ++ [x] := by
  rw [List.take_add_one, h]; rfl
/-! ### names -/
def nameOk (z : Str) : Bool := decide (1 ≤ z.length) && decide (z.length ≤ 8) && z.cps.toList.all fun c => decide (97 ≤ c) && decide (c ≤ 122)
def isInt : V → Bool
  | .int _ => true
  | _ => false
def within (v : V) (lo hi : Int) : Bool := match v with
  | .int i => decide (lo ≤ i) && decide (i ≤ hi)
  | _ => false
def isName (v : V) : Bool := match v with
  | .str z => nameOk z
  | _ => false
def alphabet : Str := "abcdefghijklmnopqrstuvwxyz"
theorem in_alphabet (c : Nat) : decide (c ∈ alphabet.cps.toList) = (decide (97 ≤ c) && decide (c ≤ 122)) := by
  have e : alphabet.cps.toList = [97, 98, 99, 100, 101, 102, 103, 104, 105, 106, 107, 108, 109, 110, 111, 112, 113, 114, 115, 116, 117, 118, 119, 120, 121, 122] := by decide +kernel
  rw [e]
  by_cases h : 97 ≤ c ∧ c ≤ 122
  · rw [decide_eq_true h.1, decide_eq_true h.2]
    refine decide_eq_true ?_
    simp only [List.mem_cons, List.not_mem_nil, or_false]
    omega
  · have z : (decide (97 ≤ c) && decide (c ≤ 122)) = false := by
      rw [Bool.and_eq_false_iff]
      by_cases h1 : 97 ≤ c
      · right; exact decide_eq_false fun h2 => h ⟨h1, h2⟩
      · left; exact decide_eq_false h1
    rw [z]
    refine decide_eq_false ?_
    simp only [List.mem_cons, List.not_mem_nil, or_false]
    omega
def spIsInteger : Sp := fun vs H Q _ => ∃ v t, vs = [v] ∧ Kd H v t ∧ Q (.bl (isInt v)) H
def spIsWithin : Sp := fun vs H Q _ => ∃ v t lo hi, vs = [v, .int lo, .int hi] ∧ Kd H v t ∧ Q (.bl (within v lo hi)) H
def spIsName : Sp := fun vs H Q _ => ∃ v t, vs = [v] ∧ Kd H v t ∧ (∀ z, v = .str z → z.length ≤ 100000) ∧ ∀ H', Same H H' → Q (.bl (isName v)) H'
theorem rd_forW {J : It} {n : Nat} {G : Hp → Prop} {Y : Nat → Hp → V → Hp → Prop} {wi : TI} {g : TG} {tb : TS} {D : Ends} {σ : L2.St} {H H1 : Hp} (hw : ∀ R : It → Hp → Prop, R J H1 → wi σ H R) (w : Walk J n G Y) (Pv : Nat → L2.St → Hp → Prop) (h0 : Pv 0 σ H1)
    (hG : ∀ i σ H, i ≤ n → Pv i σ H → G H) (hs : ∀ i x σ H H', i < n → Pv i σ H → Y i H x H' → g x σ H' fun σ2 H2 => tb { D with nx := Pv (i + 1), ct := Pv (i + 1), bk := D.nx } σ2 H2) (hd : ∀ σ H, Pv n σ H → D.nx σ H) : tFor wi g tb D σ H :=
  hw _ (for_it w Pv h0 hG hs hd)
end Lay

end

section
namespace Lay
open PySem PySem.Spec PyProof.Rows L2
theorem ite_nb {b : Bool} {A B : Prop} (h1 : b = false → A) (h2 : b = true → B) : if (!b) = true then A else B := by
  cases b
  · exact iteT (h1 rfl)
  · exact iteF (h2 rfl)
theorem rd_gtup {K : PySem.W.Frag} {n : Nat} {t : TGs} {a : Addr} {xs : List V} {σ : L2.St} {H : Hp} {Q : L2.St → Hp → Prop} (h : SqT K H a xs) (hn : xs.length = n) (q : t xs σ H Q) : gTup K n t (.ref a) σ H Q := ⟨a, xs, rfl, h, hn, q⟩
theorem rd_gcons {t : TG} {u : TGs} {v : V} {r : List V} {σ : L2.St} {H : Hp} {Q : L2.St → Hp → Prop} (q : t v σ H fun σ' H' => u r σ' H' Q) : gCons t u (v :: r) σ H Q := ⟨v, r, rfl, q⟩
theorem rd_gnil {σ : L2.St} {H : Hp} {Q : L2.St → Hp → Prop} (q : Q σ H) : gNil [] σ H Q := ⟨rfl, q⟩
/-! ### steps -/
def memWords : List Str := ["read", "write", "get", "put", "clean", "drop", "flush"]
def sigWords : List Str := ["post", "wait"]
def GoodStep (ws : List Str) (l : List V) : Prop :=
  (∃ w n, l = [.str w, .str n] ∧ w ∈ sigWords ∧ w ∈ ws ∧ nameOk n = true) ∨
  (∃ w n s f e, l = [.str w, .str n, .int s, .int f, .int e] ∧ w ∈ memWords ∧ w ∈ ws ∧ nameOk n = true ∧ 0 ≤ s ∧ s ≤ 3 ∧ 0 ≤ f ∧ f ≤ e ∧ e ≤ 7)
def StepAt (H : Hp) (ws : List Str) (v : V) : Prop := ∃ p l, v = .ref p ∧ H p = some (.tup l) ∧ GoodStep ws l
theorem StepAt.mono {H H' : Hp} {ws : List Str} {v : V} (s : Same H H') (h : StepAt H ws v) : StepAt H' ws v := by
  obtain ⟨p, l, e, h, g⟩ := h
  exact ⟨p, l, e, s _ _ h, g⟩
theorem nameOk_len {z : Str} (h : nameOk z = true) : 1 ≤ z.length ∧ z.length ≤ 8 := by
  unfold nameOk at h
  rw [Bool.and_eq_true, Bool.and_eq_true] at h
  exact ⟨of_decide_eq_true h.1.1, of_decide_eq_true h.1.2⟩
def spMemStep : Sp := fun vs H Q _ => ∃ p w n s f e, vs = [.ref p] ∧ H p = some (.tup [.str w, .str n, .int s, .int f, .int e]) ∧ w ∈ memWords ∧ nameOk n = true ∧ 0 ≤ s ∧ s ≤ 3 ∧ 0 ≤ f ∧ f ≤ e ∧ e ≤ 7 ∧ ∀ H', Same H H' → Q (.bl true) H'
def spIsStep : Sp := fun vs H Q _ => ∃ p l ws, vs = [.ref p] ∧ H p = some (.tup l) ∧ GoodStep ws l ∧ ∀ H', Same H H' → Q (.bl true) H'
def spCheckAgent (K : PySem.W.Frag) : Sp := fun vs H Q _ => ∃ z t wt ws steps, vs = [.str z, .ref t, .ref wt] ∧ nameOk z = true ∧ H t = some (.tup steps) ∧ 1 ≤ steps.length ∧ steps.length ≤ 24 ∧ SqT K H wt (ws.map V.str) ∧
  (∀ s ∈ steps, StepAt H ws s) ∧ ∀ H', Same H H' → Q .non H'
theorem inStrs_of {w : Str} {zs : List Str} (h : w ∈ zs) : inStrs (.str w) zs = true := by
  show zs.contains w = true
  rw [List.contains_iff_mem]; exact h
theorem of_inStrs {w : Str} {zs : List Str} (h : inStrs (.str w) zs = false) : w ∉ zs := fun m => by
  rw [inStrs_of m] at h; cases h
end Lay
namespace Lay
open PySem PySem.Spec PyProof.Rows L2
section
variable {K : PySem.W.Frag} {σ : L2.St} {H : Hp} {D : Ends} {ta tv : TE} {f : Str}
theorem rd_sFld (h : tv σ H fun y H1 => ta σ H1 fun x H2 => ∃ a C dx fs, x = .ref a ∧ H2 a = some (.ins C dx fs) ∧ Cls K C ∧ NoAttr K C f ∧ fs.length < 1000 ∧ D.nx σ (upd H2 a (.ins C dx (putF f y fs)))) : sFld K ta tv f D σ H := h
theorem rd_tFld {Q : VK} (h : ta σ H fun x H1 => ∃ a C dx fs v, x = .ref a ∧ H1 a = some (.ins C dx fs) ∧ Cls K C ∧ NoAttr K C f ∧ fs.lookup f = some v ∧ Q v H1) : tFld K ta f σ H Q := h
theorem rd_tCon {Q : VK} (h : ta σ H fun x H1 => ∃ a C dx fs v u, x = .ref a ∧ H1 a = some (.ins C dx fs) ∧ Cls K C ∧ Con K C f v u ∧ fs.lookup f = none ∧ Q v H1) : tCon K ta f σ H Q := h
theorem rd_makeR {C : Addr} {sp : Sp} {E : XK} {t : TA} {Q : VK} (h : t σ H fun vs H1 => ∀ x dx, H1 x = none → H1 dx = none → dx ≠ x →
  sp (V.ref x :: vs) (upd (upd H1 dx (.own x)) x (.ins C dx [])) (fun v H2 => v = .non ∧ Q (.ref x) H2) E) : StX.tMakeR C sp E t σ H Q := h
theorem rd_cval {Q : VK} (h : ta σ H fun x H1 => ∃ C mc v u, x = .ref C ∧ ClX.CRead K C mc ∧ ClX.CVal K C mc f v u ∧ Q v H1) : ClX.tCVal K ta f σ H Q := h
theorem rd_meth {C : Addr} {m : Str} {sp : Sp} {dvs : List V} {E : XK} {t : TA} {Q : VK} (h : ta σ H fun x H1 => ∃ a dx fs, x = .ref a ∧ H1 a = some (.ins C dx fs) ∧ fs.lookup m = none ∧ t σ H1 fun vs H2 => sp (x :: (vs ++ dvs)) H2 Q E) : tMeth C m sp dvs E ta t σ H Q := h
end
/-- an agent's fields -/
def agentF (z : Str) (t : Addr) : List (Str × V) := [("name", .str z), ("steps", .ref t)]
theorem putF_agent (z : Str) (t : Addr) : putF "steps" (.ref t) (putF "name" (.str z) []) = agentF z t := by
  have h : ¬ (("name" : Str) = "steps") := by decide +kernel
  show (if ("name" : Str) = "steps" then _ else (("name" : Str), V.str z) :: putF "steps" (V.ref t) []) = _
  rw [if_neg h]
  rfl
/-- an agent of the class C, of the name z, with these steps -/
def AgentAt (C : Addr) (H : Hp) (a : Addr) (z : Str) (steps : List V) : Prop := ∃ dx t, H a = some (.ins C dx (agentF z t)) ∧ H t = some (.tup steps)
theorem AgentAt.mono {C : Addr} {H H' : Hp} {a : Addr} {z : Str} {steps : List V} (s : Same H H') (h : AgentAt C H a z steps) : AgentAt C H' a z steps := by
  obtain ⟨dx, t, h1, h2⟩ := h
  exact ⟨dx, t, s _ _ h1, s _ _ h2⟩
/-- __init__(self, name, *steps), the steps good ones -/
def spAgentInit (C : Addr) (ws : List Str) : Sp := fun vs H Q _ => ∃ x dx z t steps, vs = [.ref x, .str z, .ref t] ∧ H x = some (.ins C dx []) ∧ nameOk z = true ∧ H t = some (.tup steps) ∧ 1 ≤ steps.length ∧ steps.length ≤ 24 ∧ (∀ s ∈ steps, StepAt H ws s) ∧
  ∀ H', AgentAt C H' x z steps → Keep x H H' → Q .non H'
def spStar (n : Nat) (sp : Sp) : Sp := fun vs H Q E => ∃ ws rest, vs = ws ++ rest ∧ ws.length = n ∧ rest.length ≤ sizeLine ∧ ∀ p, H p = none → sp (ws ++ [V.ref p]) (upd H p (.tup rest)) Q E
end Lay

end

section
namespace Lay
open PySem PySem.Spec PyProof.Rows L2
def spMay (zs : List Str) : Sp := fun vs H Q _ => ∃ x v t, vs = [x, v] ∧ Kd H v t ∧ Q (.bl (inStrs v zs)) H
/-- a value of some kind is drawn from a pen of which at most n cells were begun; m cells are begun by it -/
def spAny (m : Nat) : Sp := fun vs H Q _ => ∃ (p : Addr) (n : Nat) (c : Addr), vs = [.ref p] ∧ PenAt c H p n ∧ n + m < 100000 ∧ ∀ v t H', Kd H' v t → PenAt c H' p (n + m) → Keep p H H' → Q v H'
theorem inStrs_same {v : V} {zs ys : List Str} (h : ∀ z, z ∈ zs ↔ z ∈ ys) : inStrs v zs = inStrs v ys := by
  cases v with
  | str z =>
    show zs.contains z = ys.contains z
    rw [Bool.eq_iff_iff, List.contains_iff_mem, List.contains_iff_mem]
    exact h z
  | _ => rfl
theorem PenAt.at_ {c : Addr} {H : Hp} {p : Addr} {n : Nat} (h : PenAt c H p n) : ∃ xs, H p = some (.lst xs) := by
  obtain ⟨ns, b, l, e, _⟩ := h
  exact ⟨_, e⟩
theorem PenAt.cell {c : Addr} {H : Hp} {p : Addr} {n : Nat} (h : PenAt c H p n) : ∃ xs, H c = some (.lst xs) := by
  obtain ⟨ns, b, l, _, e, _⟩ := h
  exact ⟨_, e⟩
theorem PenAt.other {c : Addr} {H : Hp} {p a : Addr} {o : HO} {n : Nat} (h : PenAt c H p n) (h1 : a ≠ p) (h2 : a ≠ c) : PenAt c (upd H a o) p n := by
  obtain ⟨ns, b, l, e1, e2, r⟩ := h
  exact ⟨ns, b, l, by rw [upd_ne h1.symm]; exact e1, by rw [upd_ne h2.symm]; exact e2, r⟩
theorem Same.keep {p : Addr} {H H1 H2 : Hp} (a : Same H H1) (b : Keep p H1 H2) : Keep p H H2 := fun c o n h => b c o n (a c o h)
theorem Keep.frz {p : Addr} {H H1 : Hp} (k : Keep p H H1) {b : Addr} {o : HO} (hb : b ≠ p) (h : H b = some o) : H1 b = some o := k b o hb h
theorem rd_disp {trs : List (TE × TE)} {σ : L2.St} {H : Hp} {Q : VK} (h : ∀ p, H p = none → tPairs trs σ (upd H p (.dK [])) fun ps H2 => H2 p = some (.dK []) ∧ ∃ kvs : List (Key × V), ps = kvs.map (fun kv => (kV kv.1, kv.2)) ∧ kvs.length ≤ 15 ∧ Q (.ref p) (upd H2 p (.dK (mergeK [] kvs)))) : tDisp trs σ H Q := h
theorem rd_dnew {σ : L2.St} {H : Hp} {Q : VK} (h : ∀ p, H p = none → Q (.ref p) (upd H p (.dK []))) : tDNewK σ H Q := h
theorem rd_pcons {tk tv : TE} {r : List (TE × TE)} {σ : L2.St} {H : Hp} {Q : List (V × V) → Hp → Prop} (h : tk σ H fun x H1 => tv σ H1 fun y H2 => tPairs r σ H2 fun ps H3 => Q ((x, y) :: ps) H3) : tPairs ((tk, tv) :: r) σ H Q := h
theorem rd_pnil {σ : L2.St} {H : Hp} {Q : List (V × V) → Hp → Prop} (h : Q [] H) : tPairs [] σ H Q := h
theorem rd_cat {l b : Addr} {xs zs : List V} {H : Hp} {Q : VK} (hl : H l = some (.lst xs)) (hb : H b = some (.lst zs)) (hz : xs.length + zs.length ≤ sizeLine) (q : ∀ p, H p = none → Q (.ref p) (upd H p (.lst (xs ++ zs)))) : rCat (.ref l) (.ref b) H Q := ⟨l, b, xs, zs, rfl, rfl, hl, hb, hz, q⟩
theorem none_of {H H' : Hp} {p : Addr} (s : Same H H') (h : H' p = none) : H p = none := by
  cases e : H p with
  | none => rfl
  | some o => rw [s _ _ e] at h; cases h
theorem cut63 {xs : List V} (h : xs.length ≤ 63) : cutV xs none (some 63) = xs := by
  have e : HT.sIx xs.length xs.length (some 63) = xs.length := by
    unfold HT.sIx
    dsimp only
    split <;> omega
  unfold cutV
  rw [e]
  show List.take (xs.length - 0) (List.drop 0 xs) = xs
  simp
theorem pen_at {H : Hp} {p l : Addr} {ns : List Int} (h1 : H p = some (.lst [.ref l, .int 0, .int 0])) (h2 : H l = some (.lst (ns.map V.int))) (h3 : ns.length ≤ 63) : PenAt l H p 0 := ⟨ns, 0, 0, h1, h2, h3, by decide, by decide, by decide⟩
/-- each value of a row is of some kind -/
def Kds (H : Hp) (xs : List V) : Prop := ∀ v ∈ xs, ∃ t, Kd H v t
theorem Kds.nil {H : Hp} : Kds H [] := fun v h => nomatch h
theorem Kds.cons {H : Hp} {x : V} {t : Kn} {xs : List V} (h : Kd H x t) (r : Kds H xs) : Kds H (x :: xs) := fun v m => by
  rcases List.mem_cons.mp m with e | m
  · subst e; exact ⟨t, h⟩
  · exact r v m
theorem upd2 {H : Hp} {p : Addr} {o u : HO} : upd (upd H p o) p u = upd H p u := by
  funext b
  by_cases e : b = p
  · subst e; rw [upd_same, upd_same]
  · rw [upd_ne e, upd_ne e, upd_ne e]
theorem rd_draw {p c : Addr} {m : Int} {n : Nat} {H0 H : Hp} {Q : VK} {E : XK} (h0 : PenAt c H0 p n) (s : Same H0 H) (hn : n < 100000) (hm : 0 < m) (hm2 : m < 1073741824) (q : ∀ (d : Int) (H' : Hp), 0 ≤ d → d < m → PenAt c H' p (n + 1) → Keep p H H' → Q (.int d) H') : spDraw [.ref p, .int m] H Q E := ⟨p, m, n, c, rfl, h0.mono s, hn, hm, hm2, q⟩
theorem ne_none {H : Hp} {a p : Addr} {o : HO} (h : H a = none) (h' : H p = some o) : a ≠ p := fun e => by
  subst e; rw [h] at h'; cases h'
theorem rd_ixK {K : PySem.W.Frag} {H : Hp} {Q : VK} {a : Addr} {xs : List V} {d : Int} (h : SqL K H a xs) (h0 : 0 ≤ d) (h1 : d < xs.length) (kd : Kds H xs) (q : ∀ v t, Kd H v t → Q v H) : rIxL K (.ref a) (.int d) H Q := by
  have hd : d.toNat < xs.length := by omega
  obtain ⟨t, k⟩ := kd xs[d.toNat] (List.getElem_mem hd)
  exact rd_ixL h (atI_int h0 (List.getElem?_eq_getElem hd)) (q _ t k)
/-- an agent: a name and steps, at a heap -/
def InsAt (C : Addr) (H : Hp) (a : Addr) : Prop := ∃ dx z t, H a = some (.ins C dx (agentF z t))
theorem InsAt.keep {C p : Addr} {H H' : Hp} {a : Addr} (h : InsAt C H a) (k : Keep p H H') (n : a ≠ p) : InsAt C H' a := by
  obtain ⟨dx, z, t, e⟩ := h
  exact ⟨dx, z, t, k _ _ n e⟩
theorem InsAt.mono {C : Addr} {H H' : Hp} {a : Addr} (h : InsAt C H a) (s : Same H H') : InsAt C H' a := by
  obtain ⟨dx, z, t, e⟩ := h
  exact ⟨dx, z, t, s _ _ e⟩
def spRight (C : Addr) (m : Int) : Sp := fun vs H Q _ => ∃ a v t, vs = [.ref a, .int m, v] ∧ InsAt C H a ∧ Kd H v t ∧ ∀ H', Same H H' → Q (.bl true) H'
def spFamily : Sp := fun vs H Q _ => ∃ (p : Addr) (n : Nat) (c : Addr), vs = [.ref p] ∧ PenAt c H p n ∧ n + 19 < 100000 ∧ ∀ H', PenAt c H' p (n + 19) → Keep p H H' → Q (.bl true) H'
theorem rd_isiV {K : PySem.W.Frag} {H : Hp} {Q : VK} {x : V} {t : Kn} (n : Kn) (b : Bool) (k : Kd H x t) (e : isTy t n = b) (q : Q (.bl b) H) : rIsi K [x, .ty n.name] H Q := rd_isi n k (by rw [e]; exact q)
theorem rd_meth1 {C a dx : Addr} {m : Str} {sp : Sp} {E : XK} {t : TA} {ta : TE} {fs : List (Str × V)} {σ : L2.St} {H H1 : Hp} {Q : VK} (ha : ∀ Q' : VK, Q' (.ref a) H1 → ta σ H Q') (h : H1 a = some (.ins C dx fs)) (hl : fs.lookup m = none) (q : t σ H1 fun vs H2 => sp (.ref a :: vs) H2 Q E) : tMeth C m sp [] E ta t σ H Q :=
  ha _ ⟨a, dx, fs, rfl, h, hl, by simpa using q⟩
theorem q_true {Q : VK} {b : Bool} {H : Hp} (e : b = true) (q : Q (.bl true) H) : Q (.bl b) H := by rw [e]; exact q
theorem same_words (v : V) : (inStrs v ["read", "write", "get", "put", "clean", "drop", "flush", "post", "wait"] == inStrs v ["read", "write", "post", "wait", "clean", "drop", "flush", "get", "put"]) = true := by
  rw [inStrs_same (ys := ["read", "write", "post", "wait", "clean", "drop", "flush", "get", "put"]) (fun z => by
    simp only [List.mem_cons, List.not_mem_nil, or_false]
    constructor
    · rintro (h | h | h | h | h | h | h | h | h) <;> simp [h]
    · rintro (h | h | h | h | h | h | h | h | h) <;> simp [h])]
  exact beq_self_eq_true _
theorem kit_own {K : PySem.W.Frag} {C D : Addr} {b : Bool} (h1 : PySem.W.mroIn K D (.type "object") = some true) (h2 : PySem.W.typeIn K (.ref D) = some (.type "type")) (h4 : PySem.W.subIn K (.ref D) (.ref D) = some true) (h3 : PySem.W.subIn K (.ref C) (.ref D) = some b) : PySem.W.kitOne K (.ref C) (.ref D) = some b := by
  unfold PySem.W.kitOne
  by_cases e : C = D
  · subst e
    rw [h4] at h3
    cases h3
    exact if_pos (beq_self_eq_true _)
  · rw [if_neg (fun z => e (by injection eq_of_beq z))]
    unfold PySem.W.kitCls
    have h5 : (PySem.W.clsIn K D).isSome = true := by
      unfold PySem.W.mroIn at h1
      cases hh : PySem.W.clsIn K D with
      | none => rw [hh] at h1; cases h1
      | some _ => rfl
    dsimp only
    rw [h5, h2]
    exact h3
theorem rd_isiC {K : PySem.W.Frag} {H : Hp} {Q : VK} {x : V} {t : Value} {D : Addr} {b : Bool} (hx : TyX K H x t) (h : PySem.W.kitOne K t (.ref D) = some b) (q : Q (.bl b) H) : rIsi K [x, .ref D] H Q :=
  ⟨x, .ref D, t, .ref D, b, rfl, .own D, hx, h, q⟩
end Lay
namespace Lay
open PySem PySem.Spec PyProof.Rows L2
theorem mk_agent {C : Addr} {ws : List Str} {H : Hp} {z : Str} {t0 : Addr} {Q : Addr → Hp → Prop} {E : XK} (hz : nameOk z = true) (h0 : H t0 = some (.tup [.str "post", .str "s"])) (hw : Str.ofString "post" ∈ ws) (q : ∀ x H', H x = none → Same H H' → InsAt C H' x → Q x H') :
    ∀ x dx, H x = none → H dx = none → dx ≠ x → spStar 2 (spAgentInit C ws) [.ref x, .str z, .ref t0] (upd (upd H dx (.own x)) x (.ins C dx [])) (fun v H2 => v = .non ∧ Q x H2) E := by
  intro x dx hx hd hne
  have s1 : Same H (upd (upd H dx (.own x)) x (.ins C dx [])) := Lay.Same.upd' (Same.upd hd) (by rw [upd_ne hne.symm]; exact hx)
  refine ⟨[.ref x, .str z], [.ref t0], rfl, rfl, (by show 1 ≤ sizeLine; decide), fun p hp => ?_⟩
  have s2 := Lay.Same.upd' (o := .tup [.ref t0]) s1 hp
  refine ⟨x, dx, z, p, [.ref t0], rfl, upd_old hp upd_same, hz, upd_same, (by show 1 ≤ 1; decide), (by show 1 ≤ 24; decide), ?_, ?_⟩
  · intro s m
    rw [List.mem_singleton] at m
    subst m
    exact ⟨t0, _, rfl, s2 _ _ h0, .inl ⟨_, _, rfl, (by decide), hw, (by decide +kernel)⟩⟩
  · rintro H' ⟨dx', t, e1, e2⟩ keep
    refine ⟨rfl, q x H' hx (fun b o e => keep b o (fun y => by subst y; rw [hx] at e; cases e) (s2 _ _ e)) ⟨dx', z, t, e1⟩⟩
theorem iteNT {A B : Prop} (h : B) : if (!true) = true then A else B := h
theorem iteNF {A B : Prop} (h : A) : if (!false) = true then A else B := h
theorem dma_ok {d : Int} (h0 : 0 ≤ d) (h1 : d < 3) : nameOk (cutS "dma" none (some (1 + d))) = true := by
  obtain rfl | rfl | rfl : d = 0 ∨ d = 1 ∨ d = 2 := by omega
  all_goals decide +kernel
theorem dp_ne {K : PySem.W.Frag} {H : Hp} {Q : VK} {x y : V} (d e : PyData) (hx : Dp K H x d) (hy : Dp K H y e) (h1 : SeqAt.shaped d = true) (h2 : SeqAt.shaped e = true) (h3 : PyData.eqv d e = true) (q : Q (.bl false) H) : rNeD K x y H Q := ⟨d, e, hx, hy, h1, h2, by rw [h3]; exact q⟩
end Lay

end

section
namespace OwnC
open PySem L2 PySem.Spec PyProof.Rows
/-- the type of a value, as == asks it -/
inductive KTy (K : PySem.W.Frag) (H : Hp) : V → Value → Prop
  | non : KTy K H .non (.type "NoneType")
  | bl (b : Bool) : KTy K H (.bl b) (.type "bool")
  | int (i : Int) : KTy K H (.int i) (.type "int")
  | str (z : Str) : KTy K H (.str z) (.type "str")
  | tup {a : Addr} {xs : List V} (h : SqT K H a xs) : KTy K H (.ref a) (.type "tuple")
  | lst {a : Addr} {xs : List V} (h : SqL K H a xs) : KTy K H (.ref a) (.type "list")
  | ins {a C dx : Addr} {fs : List (Str × V)} (h : H a = some (.ins C dx fs)) : KTy K H (.ref a) (.ref C)
section
variable {X : Cx} {H : Hp} {s : Shared} {σ : L2.St} {pins : List (Addr × Obj)}
theorem looks_ty {y : V} {v T : Value} (I : Inv X pins σ H s) (r : RelV y v) (k : KTy X.K H y T) {M : Model} : PySem.W.Looks M s.heap (typeOf v) T := by
  cases k with
  | non => cases r; exact PySem.W.Looks.of_pure rfl
  | bl b => cases r; exact PySem.W.Looks.of_pure rfl
  | int i => obtain ⟨t, rfl⟩ := r; exact PySem.W.Looks.of_pure rfl
  | str z => obtain ⟨t, rfl⟩ := r; exact PySem.W.Looks.of_pure rfl
  | tup h =>
    cases r
    obtain ⟨its, _, pl, _⟩ := I.tuple h
    obtain ⟨o, h1, h2, _⟩ := id pl
    exact h2 ▸ (PySem.W.Looks.ld h1).andThen .now
  | lst h =>
    cases r
    obtain ⟨its, _, pl, _⟩ := I.list h
    obtain ⟨o, h1, h2, _⟩ := pl.isList
    exact h2 ▸ (PySem.W.Looks.ld h1).andThen .now
  | ins h =>
    cases r
    obtain ⟨_, J, _⟩ := ins_get I.hok h
    obtain ⟨_, J, _⟩ := J.look
    exact J.type
variable {CX : CXT} {n : Nat} {f C : Addr} {fd : FuncData} {ps : List Str} {sp : Sp} {E : XK}
/-- a def of two parameters is called -/
theorem call_two {A : Around} {Q : VK} {x y : V} {u v : Value} (F : FnOk X.prog X.w X.K X.mg X.base CX n f fd ps sp) (hb : Binds X.K fd ps []) (hx : Passes CX X E) (I : Inv X pins σ H s) (hr : Room n A)
    (e0 : Env0 X.prog X.w X.K X.mg X.base A X.stack s H) (rx : RelV x u) (ry : RelV y v) (q : sp [x, y] H Q E) : wpAny (model X.prog X.w) A (call (.ref f) [u, v]) (EP X pins σ Q) X.xe s := by
  have hl : [x, y].length = ps.length := F.len _ _ _ _ q
  refine wpAny_call (codeAny_mono (F.run A X.stack s H ⟨[u, v], []⟩ [u, v] [x, y] Q E hr e0 ?_ (.cons rx (.cons ry .nil)) q) fun r s2 hq => ?_)
  · have := hb s [u, v] I.kIn (by simpa using hl)
    simpa using this
  · cases r with
    | error e => exact hx pins σ H s e s2 I hq
    | ok fl =>
      cases fl with
      | ret w' => exact I.after hq
      | _ => exact False.elim hq
end
def rOwn (K : PySem.W.Frag) (C : Addr) (sp : Sp) (E : XK) : R2 := fun x y H Q => ∃ a dx fs T, x = .ref a ∧ H a = some (.ins C dx fs) ∧ KTy K H y T ∧ PySem.W.notFirst K C T = true ∧ sp [x, y] H Q E
section
variable {X : Cx} {CX : CXT} {n : Nat} {f C : Addr} {fd : FuncData} {ps : List Str} {sp : Sp} {E : XK}
theorem op_cmp {op : CmpOp} (hop : ∀ a b, compareOp op a b = richCompare op a b) (F : FnOk X.prog X.w X.K X.mg X.base CX n f fd ps sp) (hb : Binds X.K fd ps []) (hs : PySem.W.findIn X.K (.ref C) (cmpInfo op).2.1 = some (some (.ref f))) (hf : PySem.W.isFn X.K (.ref f) = true)
    (hx : Passes CX X E) (hr : Room n X.A) : OpR X (compareOp op) (rOwn X.K C sp E) := by
  intro pn s st H x y v u Q I rx ry told
  obtain ⟨a, dx, fs, T, rfl, ha, k, hn, q⟩ := told
  have ev : v = Value.ref a := rx
  subst ev
  obtain ⟨m1, J, _⟩ := ins_get I.hok ha
  obtain ⟨od, J, _⟩ := J.look
  obtain ⟨m, hF⟩ := I.fr
  rw [hop]
  refine PySem.W.cmp_K (op := op) (tb := T) hr.units0 hF I.ok.mod.kin J (looks_ty I ry k) hn hs hf ?_
  refine wpAny_mono (call_two F hb hx I hr I.env0 rx ry q) (fun r s' z => ?_) fun _ _ e => e
  obtain ⟨z2, H2, I2, rz, qz⟩ := z
  exact SlX.cmpback rz ⟨z2, H2, I2, rz, qz⟩
theorem op_eqI (F : FnOk X.prog X.w X.K X.mg X.base CX n f fd ps sp) (hb : Binds X.K fd ps []) (hs : PySem.W.findIn X.K (.ref C) "__eq__" = some (some (.ref f))) (hf : PySem.W.isFn X.K (.ref f) = true)
    (hr : Room n X.A) (hx : Passes CX X E) : OpR X (compareOp .Eq) (rOwn X.K C sp E) := op_cmp (fun _ _ => rfl) F hb hs hf hx hr
end
/-! ### != by an own == -/
section
variable {prog : Program} {w : World} {A : Around} {E : Value → Shared → Prop} {s : Shared} {K : PySem.W.Frag} {x C L f : Addr} {ox : Obj} {od : Option Obj} {b tb : Value} {h₀ : Heap} {m : Str → Option Value}
theorem entry_ne (hu : A.units < cLine) (X : K.In s.heap) (I : PySem.W.InstAt s.heap x ox C od) (hs : PySem.W.findIn K (.ref C) "__eq__" = some (some (.ref f))) (hf : PySem.W.isFn K (.ref f) = true) {Q : Fin → Shared → Prop}
    (h : wpAny (model prog w) A (call (.ref f) [.ref x, b]) (fun v s' => ∃ r, v = .bool r ∧ Q (.done (.ret (.bool (!r)))) s') E s) : wpAny (model prog w) A (Builtin.«object.__ne__» ⟨[.ref x, b], []⟩) Q E s := by
  delta Builtin.«object.__ne__»; repeat (first
    | (with_reducible refine wpAny_cRoomFor hu ?_)
    | (refine wpAny_bind (m := callSpecialIfBound? (.ref x) (Str.ofString "__eq__") [b]) (PySem.W.ifBound_K X I hs hf (wpAny_mono h (fun r s' hr => ?_) fun _ _ e => e))
       obtain ⟨q, rfl, hq⟩ := hr
       repeat (first | exact hq | exact wpAny_pure hq | exact wpAny_truthy_bool hq | (refine wpAny_bind (m := truthy (.bool _)) (wpAny_truthy_bool ?_)) | wp_step))
    | wp_step)
theorem call_ne {Q : Value → Shared → Prop} (hu : A.units + 1 < cLine) (X : K.In s.heap) (I : PySem.W.InstAt s.heap x ox C od) (hm : PySem.W.mroIn K C (.type "object") = some true) (hs : PySem.W.findIn K (.ref C) "__eq__" = some (some (.ref f))) (hf : PySem.W.isFn K (.ref f) = true)
    (h : wpAny (model prog w) A.in1 (call (.ref f) [.ref x, b]) (fun v s' => ∃ r, v = .bool r ∧ Q (.bool (!r)) s') E s) : wpAny (model prog w) A (call (.builtin "object.__ne__") [.ref x, b]) Q E s := by
  refine wpAny_call (codeAny_call_builtin F.cmp_object.ne.plain F.cmpEntry_ne (PySem.W.check_slot F.cmpKind_ne F.cmpSplit_ne (I.type.andThen (PySem.W.looks_mroIn X hm)) (F.cmpArgs_ne _ _) ?_))
  exact entry_ne (A := A.in1) hu X I hs hf (wpAny_mono h (fun v s' z => z) fun _ _ e => e)
theorem bound_ne {M : Model} {args : List Value} {Q : Option Value → Shared → Prop} (X : K.In s.heap) (I : PySem.W.InstAt s.heap x ox C od) (hs : PySem.W.findIn K (.ref C) "__ne__" = some (some (.builtin "object.__ne__")))
    (h : wpAny M A (call (.builtin "object.__ne__") (.ref x :: args)) (fun v => Q (some v)) E s) : wpAny M A (callSpecialIfBound? (.ref x) "__ne__" args) Q E s := by
  have fin : wpAny M A (call (.builtin "object.__ne__") ([.ref x] ++ args) >>= fun v => pure (some v)) Q E s := wpAny_bind (wpAny_mono h (fun v s' q => wpAny_pure q) fun _ _ q => q)
  simp only [bindSpecialIfBound?, callSpecialIfBound?]
  have see := PySem.W.looks_findIn (M := M) X hs
  refine wpAny_holding (wpAny_bind (wpAny_bind (wpAny_bind (I.type.here (see.here (wpAny_bind (wpAny_askSetting (wpAny_ite ?_))))))))
  split
  · exact wpAny_bind (wpAny_of_eq (F.cmp_object.ne.bind _) (wpAny_pure (by exact fin)))
  · exact wpAny_tryCatch (wpAny_bind (wpAny_of_eq (F.cmp_object.ne.bind _) (wpAny_pure (by exact fin))))
theorem ne_own {Q : Value → Shared → Prop} (hu : A.units + 1 < cLine) (Fr' : PyProof.Rows.Fr h₀ L s.heap m) (X₀ : K.In h₀) (I : PySem.W.InstAt s.heap x ox C od) (hb : PySem.W.Looks (model prog w) s.heap (typeOf b) tb) (hn : PySem.W.notFirst K C tb = true)
    (hm : PySem.W.mroIn K C (.type "object") = some true) (hne : PySem.W.findIn K (.ref C) "__ne__" = some (some (.builtin "object.__ne__"))) (hs : PySem.W.findIn K (.ref C) "__eq__" = some (some (.ref f))) (hf : PySem.W.isFn K (.ref f) = true)
    (h : wpAny (model prog w) A.in1 (call (.ref f) [.ref x, b]) (fun v s' => ∃ r, v = .bool r ∧ Q (.bool (!r)) s') E s) : wpAny (model prog w) A (richCompare .NotEq (.ref x) b) Q E s := by
  have X := X₀.keeps Fr'.keep
  have one : wpAny (model prog w) A (tryCompare (.ref x) "__ne__" b) (fun r s' => ∃ v, r = some (.bool v) ∧ Q (.bool v) s') E s := by
    unfold tryCompare
    refine wpAny_bind (bound_ne X I hne (call_ne hu X I hm hs hf (wpAny_mono h (fun v s' z => ?_) fun _ _ e => e)))
    obtain ⟨r, rfl, q⟩ := z
    exact ⟨r, rfl, wpAny_pure ⟨_, rfl, q⟩⟩
  unfold richCompare
  simp only [oneThing_ref]
  refine wpAny_holding (wpAny_bind (wpAny_cRoomFor (by omega) ?_))
  rw [cmpInfo_NotEq]
  dsimp only
  refine wpAny_bind (I.type.here ?_)
  refine wpAny_bind (hb.here ?_)
  split
  · rename_i uneq
    have below : PySem.W.subIn K tb (.ref C) = some false := by
      have two := Bool.or_eq_true_iff.mp hn
      refine two.elim (fun e => ?_) (fun e => beq_iff_eq.mp e)
      rw [beq_iff_eq.mp e] at uneq
      simp at uneq
    refine wpAny_bind ((PySem.W.looks_subIn X below).here ?_)
    simp only [if_false, Bool.false_eq_true]
    refine wpAny_bind (m := tryCompare (.ref x) _ b) (wpAny_mono one (fun r s' z => ?_) fun _ _ e => e)
    obtain ⟨v, rfl, hq⟩ := z
    exact wpAny_pure hq
  · refine wpAny_bind ?_
    refine wpAny_pure ?_
    simp only [if_false, Bool.false_eq_true]
    refine wpAny_bind (m := tryCompare (.ref x) _ b) (wpAny_mono one (fun r s' z => ?_) fun _ _ e => e)
    obtain ⟨v, rfl, hq⟩ := z
    exact wpAny_pure hq
end
/-- x != y by the own ==: what it tells is turned round -/
def rNeOwn (K : PySem.W.Frag) (C : Addr) (sp : Sp) (E : XK) : R2 := fun x y H Q => ∃ a dx fs T, x = .ref a ∧ H a = some (.ins C dx fs) ∧ KTy K H y T ∧ PySem.W.notFirst K C T = true ∧ sp [x, y] H (fun v H' => ∃ b, v = .bl b ∧ Q (.bl (!b)) H') E
section
variable {X : Cx} {CX : CXT} {n : Nat} {f C : Addr} {fd : FuncData} {ps : List Str} {sp : Sp} {E : XK}
theorem op_neI (F : FnOk X.prog X.w X.K X.mg X.base CX n f fd ps sp) (hb : Binds X.K fd ps []) (hs : PySem.W.findIn X.K (.ref C) "__eq__" = some (some (.ref f))) (hf : PySem.W.isFn X.K (.ref f) = true)
    (hm : PySem.W.mroIn X.K C (.type "object") = some true) (hne : PySem.W.findIn X.K (.ref C) "__ne__" = some (some (.builtin "object.__ne__")))
    (hr : Room (n + 1) X.A) (hx : Passes CX X E) : OpR X (compareOp .NotEq) (rNeOwn X.K C sp E) := by
  intro pn s st H x y v u Q I rx ry told
  obtain ⟨a, dx, fs, T, rfl, ha, k, hn, q⟩ := told
  have ev : v = Value.ref a := rx
  subst ev
  obtain ⟨m1, J, _⟩ := ins_get I.hok ha
  obtain ⟨od, J, _⟩ := J.look
  obtain ⟨m, hF⟩ := I.fr
  show wpAny (model X.prog X.w) X.A (richCompare .NotEq (.ref a) u) (EP X pn st Q) X.xe s
  refine ne_own (tb := T) hr.in1.units0 hF I.ok.mod.kin J (looks_ty I ry k) hn hm hne hs hf ?_
  refine wpAny_mono (call_two F hb hx I hr.in1 I.env0.in1 rx ry q) (fun r s' z => ?_) fun _ _ e => e
  obtain ⟨z', H', I', rz, b, rfl, qz⟩ := z
  cases rz
  exact ⟨b, rfl, ⟨.bl _, H', I', rfl, qz⟩⟩
end
end OwnC

end

section
namespace OwnC
open PySem L2 PySem.Spec PyProof.Rows
/-- the class C has under a name a def that keeps a promise -/
structure OwnM (X : Cx) (CX : CXT) (n : Nat) (C : Addr) (name : Str) (sp : Sp) (E : XK) : Prop where
  ok : ∃ (f : Addr) (fd : FuncData) (ps : List Str), FnOk X.prog X.w X.K X.mg X.base CX n f fd ps sp ∧ Binds X.K fd ps [] ∧ PySem.W.findIn X.K (.ref C) name = some (some (.ref f)) ∧ PySem.W.isFn X.K (.ref f) = true
  out : Passes CX X E
/-- what object gives of != -/
structure NeC (K : PySem.W.Frag) (C : Addr) : Prop where
  mro : PySem.W.mroIn K C (.type "object") = some true
  ne : PySem.W.findIn K (.ref C) "__ne__" = some (some (.builtin "object.__ne__"))
section
variable {X : Cx} {pins : List (Addr × Obj)} {σ : L2.St} {H : Hp} {s : Shared}
theorem call_own2 {CX : CXT} {n : Nat} {C : Addr} {name : Str} {sp : Sp} {E : XK} {A : Around} {Q : VK} {x y : V} {u v : Value} (o : OwnM X CX n C name sp E) (I : Inv X pins σ H s) (hr : Room n A)
    (e0 : Env0 X.prog X.w X.K X.mg X.base A X.stack s H) (rx : RelV x u) (ry : RelV y v) (q : sp [x, y] H Q E) : ∃ f, PySem.W.findIn X.K (.ref C) name = some (some (.ref f)) ∧ PySem.W.isFn X.K (.ref f) = true ∧ wpAny (model X.prog X.w) A (call (.ref f) [u, v]) (EP X pins σ Q) X.xe s := by
  obtain ⟨f, fd, ps, F, hb, hs, hf⟩ := o.ok
  exact ⟨f, hs, hf, call_two F hb o.out I hr e0 rx ry q⟩
theorem call_own1 {CX : CXT} {n : Nat} {C : Addr} {name : Str} {sp : Sp} {E : XK} {A : Around} {Q : VK} {x : V} {u : Value} (o : OwnM X CX n C name sp E) (I : Inv X pins σ H s) (hr : Room n A)
    (e0 : Env0 X.prog X.w X.K X.mg X.base A X.stack s H) (rx : RelV x u) (q : sp [x] H Q E) : ∃ f, PySem.W.findIn X.K (.ref C) name = some (some (.ref f)) ∧ PySem.W.isFn X.K (.ref f) = true ∧ wpAny (model X.prog X.w) A (call (.ref f) [u]) (EP X pins σ Q) X.xe s := by
  obtain ⟨f, fd, ps, F, hb, hs, hf⟩ := o.ok
  have hl : [x].length = ps.length := F.len _ _ _ _ q
  refine ⟨f, hs, hf, wpAny_call (codeAny_mono (F.run A X.stack s H ⟨[u], []⟩ [u] [x] Q E hr e0 ?_ (.cons rx .nil) q) fun r s2 hq => ?_)⟩
  · have := hb s [u] I.kIn (by simpa using hl)
    simpa using this
  · cases r with
    | error e => exact o.out pins σ H s e s2 I hq
    | ok fl =>
      cases fl with
      | ret w' => exact I.after hq
      | _ => exact False.elim hq
end
/-! ### the one of the lower class is asked first -/
section
variable {prog : Program} {w : World} {A : Around} {E : Value → Shared → Prop} {s : Shared} {K : PySem.W.Frag} {x y C D L f : Addr} {ox oy : Obj} {od od2 : Option Obj} {h₀ : Heap} {m : Str → Option Value}
theorem eq_below {Q : Value → Shared → Prop} (hu : A.units < cLine) (Fr' : PyProof.Rows.Fr h₀ L s.heap m) (X₀ : K.In h₀) (I : PySem.W.InstAt s.heap x ox C od) (J : PySem.W.InstAt s.heap y oy D od2) (hCD : D ≠ C) (hb : PySem.W.subIn K (.ref D) (.ref C) = some true)
    (hs : PySem.W.findIn K (.ref D) "__eq__" = some (some (.ref f))) (hf : PySem.W.isFn K (.ref f) = true)
    (h : wpAny (model prog w) A (call (.ref f) [.ref y, .ref x]) (fun v s' => ∃ r, v = .bool r ∧ Q (.bool r) s') E s) : wpAny (model prog w) A (richCompare .Eq (.ref x) (.ref y)) Q E s := by
  have X := X₀.keeps Fr'.keep
  have one : wpAny (model prog w) A (tryCompare (.ref y) "__eq__" (.ref x)) (fun r s' => ∃ v, r = some (.bool v) ∧ Q (.bool v) s') E s := by
    unfold tryCompare
    refine wpAny_bind (PySem.W.ifBound_K X J hs hf (wpAny_mono h (fun v s' z => ?_) fun _ _ e => e))
    obtain ⟨r, rfl, q⟩ := z
    exact wpAny_pure ⟨_, rfl, q⟩
  unfold richCompare
  simp only [oneThing_ref]
  refine wpAny_holding (wpAny_bind (wpAny_cRoomFor hu ?_))
  rw [cmpInfo_Eq]
  dsimp only
  refine wpAny_bind (I.type.here (wpAny_bind (J.type.here ?_)))
  have hne : (Value.ref C != Value.ref D) = true := by
    rw [bne_iff_ne]
    intro z
    injection z with z
    exact hCD z.symm
  rw [hne]
  simp only [if_true]
  refine wpAny_bind ((PySem.W.looks_subIn X hb).here ?_)
  simp only [if_true]
  refine wpAny_bind (m := tryCompare (.ref y) _ (.ref x)) (wpAny_mono one (fun r s' z => ?_) fun _ _ e => e)
  obtain ⟨v, rfl, hq⟩ := z
  exact wpAny_bind (wpAny_rule (wpAny_pure hq))
theorem ne_below {Q : Value → Shared → Prop} (hu : A.units + 1 < cLine) (Fr' : PyProof.Rows.Fr h₀ L s.heap m) (X₀ : K.In h₀) (I : PySem.W.InstAt s.heap x ox C od) (J : PySem.W.InstAt s.heap y oy D od2) (hCD : D ≠ C) (hb : PySem.W.subIn K (.ref D) (.ref C) = some true)
    (hm : NeC K D) (hs : PySem.W.findIn K (.ref D) "__eq__" = some (some (.ref f))) (hf : PySem.W.isFn K (.ref f) = true)
    (h : wpAny (model prog w) A.in1 (call (.ref f) [.ref y, .ref x]) (fun v s' => ∃ r, v = .bool r ∧ Q (.bool (!r)) s') E s) : wpAny (model prog w) A (richCompare .NotEq (.ref x) (.ref y)) Q E s := by
  have X := X₀.keeps Fr'.keep
  have one : wpAny (model prog w) A (tryCompare (.ref y) "__ne__" (.ref x)) (fun r s' => ∃ v, r = some (.bool v) ∧ Q (.bool v) s') E s := by
    unfold tryCompare
    refine wpAny_bind (bound_ne X J hm.ne (call_ne hu X J hm.mro hs hf (wpAny_mono h (fun v s' z => ?_) fun _ _ e => e)))
    obtain ⟨r, rfl, q⟩ := z
    exact ⟨r, rfl, wpAny_pure ⟨_, rfl, q⟩⟩
  unfold richCompare
  simp only [oneThing_ref]
  refine wpAny_holding (wpAny_bind (wpAny_cRoomFor (by omega) ?_))
  rw [cmpInfo_NotEq]
  dsimp only
  refine wpAny_bind (I.type.here (wpAny_bind (J.type.here ?_)))
  have hne : (Value.ref C != Value.ref D) = true := by
    rw [bne_iff_ne]
    intro z
    injection z with z
    exact hCD z.symm
  rw [hne]
  simp only [if_true]
  refine wpAny_bind ((PySem.W.looks_subIn X hb).here ?_)
  simp only [if_true]
  refine wpAny_bind (m := tryCompare (.ref y) _ (.ref x)) (wpAny_mono one (fun r s' z => ?_) fun _ _ e => e)
  obtain ⟨v, rfl, hq⟩ := z
  exact wpAny_bind (wpAny_rule (wpAny_pure hq))
end
/-- x == y, x an instance with an own ==, y of no class below; or y of a class below, with an own == -/
def rEqF (X : Cx) : R2 := fun x y H Q =>
  (∃ a C dx fs T CX n sp E, x = .ref a ∧ H a = some (.ins C dx fs) ∧ KTy X.K H y T ∧ PySem.W.notFirst X.K C T = true ∧ OwnM X CX n C "__eq__" sp E ∧ Room n X.A ∧ sp [x, y] H Q E) ∨
  (∃ a C dx fs b D dy gs CX n sp E, x = .ref a ∧ H a = some (.ins C dx fs) ∧ y = .ref b ∧ H b = some (.ins D dy gs) ∧ D ≠ C ∧ PySem.W.subIn X.K (.ref D) (.ref C) = some true ∧ OwnM X CX n D "__eq__" sp E ∧ Room n X.A ∧ sp [y, x] H (fun v H' => ∃ r, v = .bl r ∧ Q (.bl r) H') E)
theorem op_eqF {X : Cx} : OpR X (compareOp .Eq) (rEqF X) := by
  intro pn s st H x y v u Q I rx ry told
  rcases told with ⟨a, C, dx, fs, T, CX, n, sp, E, rfl, ha, k, hn, o, hr, q⟩ | ⟨a, C, dx, fs, b, D, dy, gs, CX, n, sp, E, rfl, ha, rfl, hb, hCD, hsub, o, hr, q⟩
  · have ev : v = Value.ref a := rx
    subst ev
    obtain ⟨m1, J, _⟩ := ins_get I.hok ha
    obtain ⟨od, J, _⟩ := J.look
    obtain ⟨m, hF⟩ := I.fr
    obtain ⟨f, hs, hf, hcall⟩ := call_own2 o I hr I.env0 rx ry q
    show wpAny (model X.prog X.w) X.A (richCompare .Eq (.ref a) u) (EP X pn st Q) X.xe s
    refine PySem.W.cmp_K (op := .Eq) (tb := T) hr.units0 hF I.ok.mod.kin J (looks_ty I ry k) hn hs hf (wpAny_mono hcall (fun r s' z => ?_) fun _ _ e => e)
    obtain ⟨z2, H2, I2, rz, qz⟩ := z
    exact SlX.cmpback rz ⟨z2, H2, I2, rz, qz⟩
  · have ev : v = Value.ref a := rx
    have eu : u = Value.ref b := ry
    subst ev eu
    obtain ⟨m1, J, _⟩ := ins_get I.hok ha
    obtain ⟨od, J, _⟩ := J.look
    obtain ⟨m2, J2, _⟩ := ins_get I.hok hb
    obtain ⟨od2, J2, _⟩ := J2.look
    obtain ⟨m, hF⟩ := I.fr
    obtain ⟨f, hs, hf, hcall⟩ := call_own2 o I hr I.env0 ry rx q
    show wpAny (model X.prog X.w) X.A (richCompare .Eq (.ref a) (.ref b)) (EP X pn st Q) X.xe s
    refine eq_below hr.units0 hF I.ok.mod.kin J J2 hCD hsub hs hf (wpAny_mono hcall (fun r s' z => ?_) fun _ _ e => e)
    obtain ⟨z2, H2, I2, rz, b2, rfl, qz⟩ := z
    cases rz
    exact ⟨b2, rfl, ⟨.bl _, H2, I2, rfl, qz⟩⟩
def rNeF (X : Cx) : R2 := fun x y H Q =>
  (∃ a C dx fs T CX n sp E, x = .ref a ∧ H a = some (.ins C dx fs) ∧ KTy X.K H y T ∧ PySem.W.notFirst X.K C T = true ∧ OwnM X CX n C "__eq__" sp E ∧ NeC X.K C ∧ Room (n + 1) X.A ∧ sp [x, y] H (fun v H' => ∃ r, v = .bl r ∧ Q (.bl (!r)) H') E) ∨
  (∃ a C dx fs b D dy gs CX n sp E, x = .ref a ∧ H a = some (.ins C dx fs) ∧ y = .ref b ∧ H b = some (.ins D dy gs) ∧ D ≠ C ∧ PySem.W.subIn X.K (.ref D) (.ref C) = some true ∧ OwnM X CX n D "__eq__" sp E ∧ NeC X.K D ∧ Room (n + 1) X.A ∧ sp [y, x] H (fun v H' => ∃ r, v = .bl r ∧ Q (.bl (!r)) H') E)
theorem op_neF {X : Cx} : OpR X (compareOp .NotEq) (rNeF X) := by
  intro pn s st H x y v u Q I rx ry told
  rcases told with ⟨a, C, dx, fs, T, CX, n, sp, E, rfl, ha, k, hn, o, hm, hr, q⟩ | ⟨a, C, dx, fs, b, D, dy, gs, CX, n, sp, E, rfl, ha, rfl, hb, hCD, hsub, o, hm, hr, q⟩
  · have ev : v = Value.ref a := rx
    subst ev
    obtain ⟨m1, J, _⟩ := ins_get I.hok ha
    obtain ⟨od, J, _⟩ := J.look
    obtain ⟨m, hF⟩ := I.fr
    obtain ⟨f, hs, hf, hcall⟩ := call_own2 o I hr.in1 I.env0.in1 rx ry q
    show wpAny (model X.prog X.w) X.A (richCompare .NotEq (.ref a) u) (EP X pn st Q) X.xe s
    refine ne_own (tb := T) hr.in1.units0 hF I.ok.mod.kin J (looks_ty I ry k) hn hm.mro hm.ne hs hf (wpAny_mono hcall (fun r s' z => ?_) fun _ _ e => e)
    obtain ⟨z2, H2, I2, rz, b2, rfl, qz⟩ := z
    cases rz
    exact ⟨b2, rfl, ⟨.bl _, H2, I2, rfl, qz⟩⟩
  · have ev : v = Value.ref a := rx
    have eu : u = Value.ref b := ry
    subst ev eu
    obtain ⟨m1, J, _⟩ := ins_get I.hok ha
    obtain ⟨od, J, _⟩ := J.look
    obtain ⟨m2, J2, _⟩ := ins_get I.hok hb
    obtain ⟨od2, J2, _⟩ := J2.look
    obtain ⟨m, hF⟩ := I.fr
    obtain ⟨f, hs, hf, hcall⟩ := call_own2 o I hr.in1 I.env0.in1 ry rx q
    show wpAny (model X.prog X.w) X.A (richCompare .NotEq (.ref a) (.ref b)) (EP X pn st Q) X.xe s
    refine ne_below hr.in1.units0 hF I.ok.mod.kin J J2 hCD hsub hm hs hf (wpAny_mono hcall (fun r s' z => ?_) fun _ _ e => e)
    obtain ⟨z2, H2, I2, rz, b2, rfl, qz⟩ := z
    cases rz
    exact ⟨b2, rfl, ⟨.bl _, H2, I2, rfl, qz⟩⟩
/-- len of an instance by its own __len__ -/
def rLenF (X : Cx) : List V → Hp → VK → Prop := fun xs H Q => ∃ a C dx fs CX n sp E, xs = [V.ref a] ∧ H a = some (.ins C dx fs) ∧ OwnM X CX n C "__len__" sp E ∧ Room (n + 1) X.A ∧ sp [.ref a] H (fun v H' => ∃ k : Nat, v = .int k ∧ (k : Int) < 2 ^ 62 ∧ Q (.int k) H') E
theorem call_lenF {X : Cx} : CallR X (.builtin "len") (rLenF X) := by
  intro pn s st H xs us Q I r told
  obtain ⟨a, C, dx, fs, CX, n, sp, E, rfl, ha, o, hr, q⟩ := told
  obtain ⟨u, rfl, rx⟩ := vals1 r
  have ev : u = Value.ref a := rx
  subst ev
  obtain ⟨m1, J, _⟩ := ins_get I.hok ha
  obtain ⟨od, J, _⟩ := J.look
  obtain ⟨m, hF⟩ := I.fr
  obtain ⟨f, hs, hf, hcall⟩ := call_own1 o I hr.in1 I.env0.in1 rx q
  refine PySem.W.len_K hF I.ok.mod.kin J hs hf (wpAny_mono hcall (fun v s' z => ?_) fun _ _ e => e)
  obtain ⟨z2, H2, I2, rz, k, rfl, hk, qz⟩ := z
  obtain ⟨t, rfl⟩ := rz
  exact ⟨⟨by omega, by omega⟩, ⟨.int _, H2, I2.tok _, ⟨_, rfl⟩, qz⟩⟩
end OwnC

end

section
namespace OwnC
open PySem L2 PySem.Spec PyProof.Rows
/-! ### a class called with a starred argument -/
section
variable {X : Cx} {CX : CXT} {k : Nat} {f C : Addr} {sp : Sp} {E : XK} {x : Str} {e fe : Expr} {es : List Expr} {tf : TE} {t : TA} {p pos : Pos}
/-- C(e, .., *y), C a class of the module -/
theorem pe_makeG (M : Mk X.K C f) (F : FnR X.prog X.w X.K X.mg X.base CX k f sp) (hr : Room (k + 1) X.A) (hg : Gl X x) (hm : X.mg x = some (.ref C)) (hx : Passes CX X E) (ha : PA X (e :: es) t) (hdb : (x == ("__debug__" : Str)) = false := by decide)
    (he : starEach (e :: es) X.env = (false, eval e X.env) :: starEach es X.env := by rfl) (hst : (backTo pos (starEach es X.env)).any (·.1) = true := by rfl) : PE X (.Call (.Name x p) (e :: es) [] pos) (StX.tMakeR C sp E t) := by
  refine ⟨fun pins s σ H Q I h => wpAny_Call_Name_kw (ld_glob I hg hm ?_ hdb)⟩
  exact PySem.W.callWith_S2 (h₀ := X.base) I.ok.mod.kin M.kp (thn (ha.run pos pins s σ H _ I h) fun us s1 ⟨vs, H1, I1, r, q⟩ => ⟨I1.kIn, StX.run_makeR M F hr hx I1 r q⟩) he hst
/-- v(e, .., *y), v an expression that gives the class -/
def tMakeV (C : Addr) (sp : Sp) (E : XK) (tf : TE) (t : TA) : TE := fun σ H Q => tf σ H fun y H1 => y = .ref C ∧ StX.tMakeR C sp E t σ H1 Q
theorem pe_makeV (hf : PE X fe tf) (M : Mk X.K C f) (F : FnR X.prog X.w X.K X.mg X.base CX k f sp) (hr : Room (k + 1) X.A) (hx : Passes CX X E) (ha : PA X (e :: es) t)
    (ht : eval (.Call fe (e :: es) [] pos) X.env = (do callWith pos (← eval fe X.env) [] (backTo pos (starEach (e :: es) X.env)) (backToKw pos (keywordEach [] X.env))) := by rfl)
    (he : starEach (e :: es) X.env = (false, eval e X.env) :: starEach es X.env := by rfl) (hst : (backTo pos (starEach es X.env)).any (·.1) = true := by rfl) : PE X (.Call fe (e :: es) [] pos) (tMakeV C sp E tf t) := by
  refine ⟨fun pins s σ H Q I h => Call_ (thn (hf.run pins s σ H _ I h) fun u s1 ⟨y, H1, I1, ry, ey, q⟩ => ?_) ht⟩
  subst ey
  have eu : u = Value.ref C := ry
  subst eu
  exact PySem.W.callWith_S2 (h₀ := X.base) I1.ok.mod.kin M.kp (thn (ha.run pos pins s1 σ H1 _ I1 q) fun us s2 ⟨vs, H2, I2, r, q2⟩ => ⟨I2.kIn, StX.run_makeR M F hr hx I2 r q2⟩) he hst
end
/-! ### o[i] by an own __getitem__ -/
def rSubF (P : Program) (w : World) (K : PySem.W.Frag) (mg : Str → Option Value) (base : Heap) (n : Nat) : R2 := fun x y H Q => ∃ a C dx fs f fd ps sp, x = .ref a ∧ H a = some (.ins C dx fs) ∧ FnOk P w K mg base CX0 n f fd ps sp ∧ Binds K fd ps [] ∧ PySem.W.findIn K (.ref C) "__getitem__" = some (some (.ref f)) ∧ PySem.W.isFn K (.ref f) = true ∧ PySem.W.fnIn K f = true ∧ sp [x, y] H Q E0
theorem pe_subF {X : Cx} {n : Nat} (P : Program) (w : World) (K : PySem.W.Frag) (mg : Str → Option Value) (base : Heap) {a b : Expr} {ta tb : TE} {pos : Pos} (hr : Room (n + 1) X.A) (ha : PE X a ta) (hb : PE X b tb)
    (e1 : X.prog = P := by rfl) (e2 : X.w = w := by rfl) (e3 : X.K = K := by rfl) (e4 : X.mg = mg := by rfl) (e5 : X.base = base := by rfl)
    (hsl : ∀ o i, subscripted b true o i = runValue (.builtin "lifetime.subscript" ⟨[o, i], []⟩) := by intro o i; with_unfolding_all rfl) : PE X (.Subscript a b pos) (tOp (rSubF P w K mg base n) ta tb) := by
  subst e1 e2 e3 e4 e5
  refine ⟨fun pins s σ H Q I h => ?_⟩
  refine Subscript_ (binT ha hb I h fun v u s2 x y H2 I2 rx ry q => ?_)
  obtain ⟨p, C, dx, fs, f, fd, ps, sp, rfl, hp, F, hbd, hs, hf, hfn, q⟩ := q
  have ev : v = Value.ref p := rx
  subst ev
  obtain ⟨m1, J, _⟩ := ins_get I2.hok hp
  obtain ⟨od, J, _⟩ := J.look
  obtain ⟨m, hF⟩ := I2.fr
  exact PySem.W.sub_K hF I2.ok.mod.kin J hs hfn hf (call_two F hbd pass0 I2 hr.in1 I2.env0.in1 rx ry q) (hsl _ _)
/-- o.m(e, ..), whatever class o is of -/
def tMethF (X : Cx) (m : Str) (ta : TE) (t : TA) : TE := fun σ H Q => ta σ H fun x H1 => ∃ a C dx fs CX k f sp E, x = .ref a ∧ H1 a = some (.ins C dx fs) ∧ fs.lookup m = none ∧ Cls X.K C ∧ Meth X.K C m f ∧ FnR X.prog X.w X.K X.mg X.base CX k f sp ∧ Room k X.A ∧ Passes CX X E ∧ t σ H1 fun vs H2 => sp (x :: vs) H2 Q E
theorem pe_methF {X : Cx} {m : Str} {o e : Expr} {es : List Expr} {ta : TE} {t : TA} {apos pos : Pos} {pl : Sem Bool} (he : PE X o ta) (ha : PA X (e :: es) t)
    (hst : starEach (e :: es) X.env = (false, eval e X.env) :: starEach es X.env := by rfl) (hpl : (backTo pos (starEach es X.env)).any (·.1) = false := by rfl)
    (ht : eval (.Call (.Attribute o m apos) (e :: es) [] pos) X.env = (do let ov ← eval o X.env; standAt apos.atName; let (f, first) ← holding [ov] (getMethod ov m pl); callWith pos f first (backTo pos (starEach (e :: es) X.env)) (backToKw pos (keywordEach [] X.env))) := by rfl) :
    PE X (.Call (.Attribute o m apos) (e :: es) [] pos) (tMethF X m ta t) := by
  refine ⟨fun pins s σ H Q I h => PySem.W.methodCall_KW (pl := pl) (thn (he.run pins s σ H _ I h) fun u s1 ⟨x, H1, I1, rx, a, C, dx, fs, CX, k, f, sp, E, ex, ea, l, c, hm, F, hr, hx, q⟩ => ?_) ht⟩
  subst ex
  have eu : u = Value.ref a := rx
  subst eu
  refine getmeth_ok I1 ea c hm l (PySem.W.callWith_K (first := [.ref a]) (h₀ := X.base) I.ok.mod.kin hm.kp (thn (ha.run pos pins s1 σ H1 _ I1 q) fun us s2 ⟨vs, H2, I2, r, q2⟩ => ⟨I2.kIn, ?_⟩) hst hpl)
  exact wpAny_call (run_fnR (us := .ref a :: us) (vs := .ref a :: vs) F hr hx I2 (.cons rfl r) q2)
end OwnC

end

section
namespace Lay
open PySem L2 PySem.Spec PyProof.Rows
/-! ### texts and whole numbers in tuples in a tuple or list, as data -/
def flatD : V → PyData
  | .str z => .str z
  | .int i => .int i
  | _ => .none
def isFlat : V → Bool
  | .str z => PyData.strOk z
  | .int _ => true
  | _ => false
def rowD (l : List V) : PyData := .tuple (l.map flatD)
theorem beq_dec {α : Type} [DecidableEq α] [BEq α] [LawfulBEq α] (a b : α) : (a == b) = decide (a = b) := by
  by_cases h : a = b
  · subst h
    simp
  · rw [decide_eq_false h]
    exact beq_eq_false_iff_ne.mpr h
theorem eqv_flat : ∀ x y : V, isFlat x = true → isFlat y = true → PyData.eqv (flatD x) (flatD y) = decide (x = y) := by
  intro x y hx hy
  cases x with
  | str z =>
    cases y with
    | str u => simp [flatD, PyData.eqv]; exact beq_dec _ _
    | int j => simp [flatD, PyData.eqv]
    | _ => cases hy
  | int i =>
    cases y with
    | str u => simp [flatD, PyData.eqv]
    | int j => simp [flatD, PyData.eqv]; exact beq_dec _ _
    | _ => cases hy
  | _ => cases hx
theorem eqvAll_flat : ∀ l l' : List V, l.all isFlat = true → l'.all isFlat = true → PyData.eqvAll (l.map flatD) (l'.map flatD) = decide (l = l')
  | [], [], _, _ => by simp [PyData.eqvAll]
  | [], _ :: _, _, _ => by simp [PyData.eqvAll]
  | _ :: _, [], _, _ => by simp [PyData.eqvAll]
  | x :: l, y :: l', h, h' => by
    rw [List.all_cons, Bool.and_eq_true] at h h'
    rw [List.map_cons, List.map_cons, PyData.eqvAll, eqv_flat x y h.1 h'.1, eqvAll_flat l l' h.2 h'.2]
    by_cases e : x = y <;> by_cases e' : l = l' <;> simp [e, e']
theorem eqv_row {l l' : List V} (h : l.all isFlat = true) (h' : l'.all isFlat = true) : PyData.eqv (rowD l) (rowD l') = decide (l = l') := by
  unfold rowD
  rw [PyData.eqv]
  exact eqvAll_flat l l' h h'
theorem eqvAll_rows : ∀ ls ls' : List (List V), (∀ l ∈ ls, l.all isFlat = true) → (∀ l ∈ ls', l.all isFlat = true) → PyData.eqvAll (ls.map rowD) (ls'.map rowD) = decide (ls = ls')
  | [], [], _, _ => by simp [PyData.eqvAll]
  | [], _ :: _, _, _ => by simp [PyData.eqvAll]
  | _ :: _, [], _, _ => by simp [PyData.eqvAll]
  | x :: l, y :: l', h, h' => by
    rw [List.map_cons, List.map_cons, PyData.eqvAll, eqv_row (h x (List.mem_cons_self ..)) (h' y (List.mem_cons_self ..)), eqvAll_rows l l' (fun z m => h z (List.mem_cons_of_mem _ m)) (fun z m => h' z (List.mem_cons_of_mem _ m))]
    by_cases e : x = y <;> by_cases e' : l = l' <;> simp [e, e']
theorem lay_flat (x : V) (h : isFlat x = true) : PyData.canLay0 (flatD x) = true := by
  cases x with
  | str z =>
    show PyData.canLay0 (.str z) = true
    rw [PyData.canLay0]
    exact h
  | int i => simp [flatD, PyData.canLay0]
  | _ => cases h
theorem layAll_flat : ∀ l : List V, l.all isFlat = true → PyData.canLayAll0 (l.map flatD) = true
  | [], _ => by simp [PyData.canLayAll0]
  | x :: l, h => by
    rw [List.all_cons, Bool.and_eq_true] at h
    rw [List.map_cons, PyData.canLayAll0, lay_flat x h.1, layAll_flat l h.2]; rfl
theorem lay_row (l : List V) (h : l.all isFlat = true) : PyData.canLay0 (rowD l) = true := by unfold rowD; rw [PyData.canLay0]; exact layAll_flat l h
theorem layAll_rows : ∀ ls : List (List V), (∀ l ∈ ls, l.all isFlat = true) → PyData.canLayAll0 (ls.map rowD) = true
  | [], _ => by simp [PyData.canLayAll0]
  | x :: l, h => by rw [List.map_cons, PyData.canLayAll0, lay_row x (h x (List.mem_cons_self ..)), layAll_rows l (fun z m => h z (List.mem_cons_of_mem _ m))]; rfl
theorem deep_flat (x : V) : PyData.depth (flatD x) ≤ 1 := by cases x <;> simp [flatD, PyData.depth]
theorem deepAll_flat : ∀ l : List V, PyData.depthAll (l.map flatD) ≤ 1
  | [] => by simp [PyData.depthAll]
  | x :: l => by
    rw [List.map_cons, PyData.depthAll]
    have := deep_flat x
    have := deepAll_flat l
    omega
theorem deep_row (l : List V) : PyData.depth (rowD l) ≤ 2 := by
  unfold rowD
  rw [PyData.depth]
  have := deepAll_flat l
  omega
theorem deepAll_rows : ∀ ls : List (List V), PyData.depthAll (ls.map rowD) ≤ 2
  | [] => by simp [PyData.depthAll]
  | x :: l => by
    rw [List.map_cons, PyData.depthAll]
    have := deep_row x
    have := deepAll_rows l
    omega
theorem shaped_rowsT (ls : List (List V)) (h : ∀ l ∈ ls, l.all isFlat = true) : SeqAt.shaped (.tuple (ls.map rowD)) = true := by
  have h1 := deepAll_rows ls
  have h2 : PyData.depth (.tuple (ls.map rowD)) ≤ 64 := by rw [PyData.depth]; omega
  have h3 : PyData.canLay0 (.tuple (ls.map rowD)) = true := by rw [PyData.canLay0]; exact layAll_rows ls h
  unfold SeqAt.shaped
  rw [h3, decide_eq_true h2]
  rfl
theorem shaped_rowsL (ls : List (List V)) (h : ∀ l ∈ ls, l.all isFlat = true) : SeqAt.shaped (.list (ls.map rowD)) = true := by
  have h1 := deepAll_rows ls
  have h2 : PyData.depth (.list (ls.map rowD)) ≤ 64 := by rw [PyData.depth]; omega
  have h3 : PyData.canLay0 (.list (ls.map rowD)) = true := by rw [PyData.canLay0]; exact layAll_rows ls h
  unfold SeqAt.shaped
  rw [h3, decide_eq_true h2]
  rfl
/-- steps at a heap: the tuples and what they hold -/
inductive RowsAt (H : Hp) : List V → List (List V) → Prop
  | nil : RowsAt H [] []
  | cons {p : Addr} {l : List V} {xs : List V} {ls : List (List V)} (h : H p = some (.tup l)) (r : RowsAt H xs ls) : RowsAt H (.ref p :: xs) (l :: ls)
theorem RowsAt.same {H H' : Hp} {xs : List V} {ls : List (List V)} (r : RowsAt H xs ls) (k : ∀ b l, H b = some (.tup l) → H' b = some (.tup l)) : RowsAt H' xs ls := by
  induction r with
  | nil => exact .nil
  | cons h _ ih => exact .cons (k _ _ h) ih
theorem RowsAt.mono {H H' : Hp} {xs : List V} {ls : List (List V)} (r : RowsAt H xs ls) (s : Same H H') : RowsAt H' xs ls := r.same fun b l h => s b _ h
/-- a list is at p, so no tuple is -/
theorem RowsAt.keep {H H' : Hp} {xs : List V} {ls : List (List V)} {p : Addr} {ys : List V} (r : RowsAt H xs ls) (hp : H p = some (.lst ys)) (k : Keep p H H') : RowsAt H' xs ls := r.same fun b l h => k b _ (fun e => by subst e; rw [hp] at h; cases h) h
theorem RowsAt.len {H : Hp} {xs : List V} {ls : List (List V)} (r : RowsAt H xs ls) : xs.length = ls.length := by
  induction r with
  | nil => rfl
  | cons _ _ ih => rw [List.length_cons, List.length_cons, ih]
theorem dp_flat {K : PySem.W.Frag} {H : Hp} : ∀ l : List V, l.all isFlat = true → DpAll K H l (l.map flatD)
  | [], _ => .nil
  | x :: l, h => by
    rw [List.all_cons, Bool.and_eq_true] at h
    refine .cons ?_ (dp_flat l h.2)
    cases x <;> first | cases h.1 | skip
    · exact .int _
    · exact .str _
theorem RowsAt.dp {K : PySem.W.Frag} {H : Hp} {xs : List V} {ls : List (List V)} (r : RowsAt H xs ls) (h : ∀ l ∈ ls, l.all isFlat = true) : DpAll K H xs (ls.map rowD) := by
  induction r with
  | nil => exact .nil
  | cons hp _ ih =>
    refine .cons (.tup (SqT.of hp) (dp_flat _ (h _ (List.mem_cons_self ..)))) (ih fun z m => h z (List.mem_cons_of_mem _ m))
theorem RowsAt.get {H : Hp} {xs : List V} {ls : List (List V)} (r : RowsAt H xs ls) : ∀ {i : Nat} {l : List V}, ls[i]? = some l → ∃ p, xs[i]? = some (.ref p) ∧ H p = some (.tup l) := by
  induction r with
  | nil => intro i l e; simp at e
  | cons h _ ih =>
    intro i l e
    cases i with
    | zero =>
      rw [List.getElem?_cons_zero] at e
      cases e
      exact ⟨_, rfl, h⟩
    | succ i =>
      rw [List.getElem?_cons_succ] at e ⊢
      exact ih e
theorem RowsAt.append {H : Hp} {xs ys : List V} {ls ms : List (List V)} (r : RowsAt H xs ls) (q : RowsAt H ys ms) : RowsAt H (xs ++ ys) (ls ++ ms) := by
  induction r with
  | nil => exact q
  | cons h _ ih => exact .cons h ih
theorem RowsAt.drop {H : Hp} {xs : List V} {ls : List (List V)} (r : RowsAt H xs ls) : ∀ n : Nat, RowsAt H (xs.drop n) (ls.drop n) := by
  induction r with
  | nil => intro n; simp; exact .nil
  | cons h t ih =>
    intro n
    cases n with
    | zero => exact .cons h t
    | succ n => exact ih n
theorem RowsAt.take {H : Hp} {xs : List V} {ls : List (List V)} (r : RowsAt H xs ls) : ∀ n : Nat, RowsAt H (xs.take n) (ls.take n) := by
  induction r with
  | nil => intro n; simp; exact .nil
  | cons h t ih =>
    intro n
    cases n with
    | zero => exact .nil
    | succ n => exact .cons h (ih n)
theorem RowsAt.set {H : Hp} {xs : List V} {ls : List (List V)} {p : Addr} {l : List V} (hp : H p = some (.tup l)) (r : RowsAt H xs ls) : ∀ n : Nat, RowsAt H (xs.set n (.ref p)) (ls.set n l) := by
  induction r with
  | nil => intro n; simp; exact .nil
  | cons h t ih =>
    intro n
    cases n with
    | zero => exact .cons hp t
    | succ n => exact .cons h (ih n)
theorem RowsAt.steps {H : Hp} {ws : List Str} {xs : List V} {ls : List (List V)} (r : RowsAt H xs ls) (g : ∀ l ∈ ls, GoodStep ws l) : ∀ s ∈ xs, StepAt H ws s := by
  induction r with
  | nil => intro s m; cases m
  | cons h _ ih =>
    intro s m
    rcases List.mem_cons.mp m with e | m
    · subst e
      exact ⟨_, _, rfl, h, g _ (List.mem_cons_self ..)⟩
    · exact ih (fun z m => g z (List.mem_cons_of_mem _ m)) s m
theorem name_strOk {z : Str} (h : nameOk z = true) : PyData.strOk z = true := by
  unfold nameOk at h
  rw [Bool.and_eq_true] at h
  unfold PyData.strOk
  rw [← Array.all_toList, List.all_eq_true]
  intro c m
  have := List.all_eq_true.mp h.2 c m
  rw [Bool.and_eq_true] at this
  have h2 := of_decide_eq_true this.2
  exact decide_eq_true (by omega)
theorem words_strOk {ws : List Str} (h : ws.all PyData.strOk = true) {w : Str} (m : w ∈ ws) : PyData.strOk w = true := List.all_eq_true.mp h w m
theorem GoodStep.flat {ws : List Str} {l : List V} (g : GoodStep ws l) : l.all isFlat = true := by
  rcases g with ⟨w, n, rfl, h1, _, h3⟩ | ⟨w, n, s, f, e, rfl, h1, _, h3, _⟩
  · have a := words_strOk (by decide +kernel) h1
    have b := name_strOk h3
    simp [isFlat, a, b]
  · have a := words_strOk (by decide +kernel) h1
    have b := name_strOk h3
    simp [isFlat, a, b]
theorem GoodStep.more {ws zs : List Str} {l : List V} (g : GoodStep ws l) (h : ∀ w ∈ ws, w ∈ zs) : GoodStep zs l := by
  rcases g with ⟨w, n, e, h1, h2, h3⟩ | ⟨w, n, s, f, t, e, h1, h2, h3⟩
  · exact .inl ⟨w, n, e, h1, h w h2, h3⟩
  · exact .inr ⟨w, n, s, f, t, e, h1, h w h2, h3⟩
end Lay

end

section
namespace Lay
open PySem L2 PySem.Spec PyProof.Rows
theorem fnR_of {P : Program} {w : World} {K : PySem.W.Frag} {mg : Str → Option Value} {base : Heap} {CX : CXT} {k : Nat} {f : Addr} {fd : FuncData} {ps : List Str} {sp : Sp} (F : FnOk P w K mg base CX k f fd ps sp) (hb : Binds K fd ps []) : FnR P w K mg base CX k f sp := by
  intro A outer s H us vs Q E hr e0 r hs
  have hl := F.len _ _ _ _ hs
  have hu : us.length = ps.length := by rw [← hl]; exact r.length.symm
  have KX : K.In s.heap := e0.mod.kin.keeps fun b o e => (e0.bs b o e).1
  have b := hb s us KX (by simpa using hu)
  rw [List.append_nil] at b
  exact F.run A outer s H ⟨us, []⟩ us vs Q E hr e0 b r hs
/-- an agent: its class, name, its steps and what they hold -/
def AgAt (C : Addr) (H : Hp) (a : Addr) (z : Str) (ls : List (List V)) : Prop := ∃ dx t xs, H a = some (.ins C dx (agentF z t)) ∧ H t = some (.tup xs) ∧ RowsAt H xs ls
theorem AgAt.mono {C : Addr} {H H' : Hp} {a : Addr} {z : Str} {ls : List (List V)} (h : AgAt C H a z ls) (s : Same H H') : AgAt C H' a z ls := by
  obtain ⟨dx, t, xs, h1, h2, h3⟩ := h
  exact ⟨dx, t, xs, s _ _ h1, s _ _ h2, h3.mono s⟩
theorem AgAt.keep {C p : Addr} {H H' : Hp} {a : Addr} {z : Str} {ls : List (List V)} {ys : List V} (h : AgAt C H a z ls) (hp : H p = some (.lst ys)) (k : Keep p H H') : AgAt C H' a z ls := by
  obtain ⟨dx, t, xs, h1, h2, h3⟩ := h
  exact ⟨dx, t, xs, k _ _ (fun e => by subst e; rw [hp] at h1; cases h1) h1, k _ _ (fun e => by subst e; rw [hp] at h2; cases h2) h2, h3.keep hp k⟩
/-- a row of steps: a list or a tuple -/
def SeqAt' (K : PySem.W.Frag) (H : Hp) (t : Addr) (xs : List V) : Prop := SqT K H t xs ∨ SqL K H t xs
/-- C.made(name, steps), all good -/
def spMade (K : PySem.W.Frag) (C : Addr) (ws : List Str) : Sp := fun vs H Q _ => ∃ z t xs ls, vs = [.ref C, .str z, .ref t] ∧ nameOk z = true ∧ (SqT K H t xs ∨ SqL K H t xs) ∧ RowsAt H xs ls ∧ 1 ≤ ls.length ∧ ls.length ≤ 24 ∧ (∀ l ∈ ls, GoodStep ws l) ∧
  ∀ x H', H x = none → Same H H' → AgAt C H' x z ls → Q (.ref x) H'
/-- the initialiser is called of a class with these steps -/
theorem mk_ag {C : Addr} {ws : List Str} {H : Hp} {z : Str} {xs : List V} {ls : List (List V)} {Q : Addr → Hp → Prop} {E : XK} (hz : nameOk z = true) (hx : RowsAt H xs ls) (h1 : 1 ≤ ls.length) (h2 : ls.length ≤ 24) (hg : ∀ l ∈ ls, GoodStep ws l)
    (q : ∀ x H', H x = none → Same H H' → AgAt C H' x z ls → Q x H') :
    ∀ x dx, H x = none → H dx = none → dx ≠ x → spStar 2 (spAgentInit C ws) (.ref x :: .str z :: xs) (upd (upd H dx (.own x)) x (.ins C dx [])) (fun v H2 => v = .non ∧ Q x H2) E := by
  intro x dx hx1 hd hne
  have s1 : Same H (upd (upd H dx (.own x)) x (.ins C dx [])) := Lay.Same.upd' (Same.upd hd) (by rw [upd_ne hne.symm]; exact hx1)
  have hl := hx.len
  refine ⟨[.ref x, .str z], xs, rfl, rfl, Nat.le_trans (by omega) (show 24 ≤ sizeLine by decide), fun p hp => ?_⟩
  have s2 := Lay.Same.upd' (o := .tup xs) s1 hp
  refine ⟨x, dx, z, p, xs, rfl, upd_old hp upd_same, hz, upd_same, by omega, by omega, (hx.mono s2).steps hg, ?_⟩
  rintro H' ⟨dx', t, e1, e2⟩ keep
  have s3 : Same H H' := fun b o e => keep b o (fun y => by subst y; rw [hx1] at e; cases e) (s2 _ _ e)
  exact ⟨rfl, q x H' hx1 s3 ⟨dx', t, xs, e1, e2, hx.mono s3⟩⟩
/-- agent.with_steps(*steps) -/
def spWith (C : Addr) (ws : List Str) : Sp := fun vs H Q _ => ∃ a z ls0 xs ls, vs = .ref a :: xs ∧ AgAt C H a z ls0 ∧ nameOk z = true ∧ RowsAt H xs ls ∧ 1 ≤ ls.length ∧ ls.length ≤ 24 ∧ (∀ l ∈ ls, GoodStep ws l) ∧
  ∀ x H', H x = none → Same H H' → AgAt C H' x z ls → Q (.ref x) H'
def spWithT (C : Addr) (ws : List Str) : Sp := fun vs H Q _ => ∃ a z t ls0 xs ls, vs = [.ref a, .ref t] ∧ AgAt C H a z ls0 ∧ nameOk z = true ∧ H t = some (.tup xs) ∧ RowsAt H xs ls ∧ 1 ≤ ls.length ∧ ls.length ≤ 24 ∧ (∀ l ∈ ls, GoodStep ws l) ∧
  ∀ x H', H x = none → Same H H' → AgAt C H' x z ls → Q (.ref x) H'
def spLen (C : Addr) : Sp := fun vs H Q _ => ∃ a z ls, vs = [.ref a] ∧ AgAt C H a z ls ∧ Q (.int ls.length) H
def spGet (C : Addr) : Sp := fun vs H Q _ => ∃ a z ls i l, vs = [.ref a, .int (i : Nat)] ∧ AgAt C H a z ls ∧ ls[i]? = some l ∧ ∀ p, H p = some (.tup l) → Q (.ref p) H
theorem rd_makeV {C : Addr} {sp : Sp} {E : XK} {tf : TE} {t : TA} {σ : L2.St} {H : Hp} {Q : VK} (h : tf σ H fun y H1 => y = .ref C ∧ StX.tMakeR C sp E t σ H1 Q) : OwnC.tMakeV C sp E tf t σ H Q := h
theorem atI_nat {α : Type} {xs : List α} {i : Nat} {v : α} (h : xs[i]? = some v) : atI xs (i : Int) = some v := atI_int (by omega) (by simpa using h)
theorem kit_prim {K : PySem.W.Frag} {p : String} {D : Addr} (h1 : PySem.W.mroIn K D (.type "object") = some true) (h2 : PySem.W.typeIn K (.ref D) = some (.type "type")) (h3 : PySem.W.subIn K (.type p) (.ref D) = some false) : PySem.W.kitOne K (.type p) (.ref D) = some false := by
  unfold PySem.W.kitOne
  rw [if_neg (fun z => by cases eq_of_beq z)]
  unfold PySem.W.kitCls
  have h5 : (PySem.W.clsIn K D).isSome = true := by
    unfold PySem.W.mroIn at h1
    cases hh : PySem.W.clsIn K D with
    | none => rw [hh] at h1; cases h1
    | some _ => rfl
  dsimp only
  rw [h5, h2]
  exact h3
/-- a class of agents: what reading its instances asks -/
structure AgC (K : PySem.W.Frag) (C : Addr) (kind : Str) : Prop where
  cl : Cls K C
  nm : NoAttr K C "name"
  st : NoAttr K C "steps"
  co : ∃ u, Con K C "KIND" (.str kind) u
  ty : ∀ (H : Hp) (a dx : Addr) (fs : List (Str × V)), H a = some (.ins C dx fs) → TyX K H (.ref a) (.ref C)
/-- a value that == of the class C, which asks for instances of C, is asked about -/
def EqArg (K : PySem.W.Frag) (C : Addr) (kind : Str) (z : Str) (ls : List (List V)) (H : Hp) (v : V) (r : Bool) : Prop :=
  (∃ T, TyX K H v T ∧ PySem.W.kitOne K T (.ref C) = some false ∧ r = false) ∨
  (∃ b D k2 z2 ls2, v = .ref b ∧ AgAt D H b z2 ls2 ∧ (∀ l ∈ ls2, l.all isFlat = true) ∧ AgC K D k2 ∧ PySem.W.kitOne K (.ref D) (.ref C) = some true ∧ r = (decide (kind = k2) && (decide (z = z2) && decide (ls = ls2))))
def spEqA (K : PySem.W.Frag) (C : Addr) (kind : Str) : Sp := fun vs H Q _ => ∃ a v z ls r, vs = [.ref a, v] ∧ AgAt C H a z ls ∧ (∀ l ∈ ls, l.all isFlat = true) ∧ AgC K C kind ∧ EqArg K C kind z ls H v r ∧ Q (.bl r) H
theorem rd_eqT {K : PySem.W.Frag} {H : Hp} {Q : VK} {t u : Addr} {xs ys : List V} {ls ms : List (List V)} (h1 : H t = some (.tup xs)) (r1 : RowsAt H xs ls) (f1 : ∀ l ∈ ls, l.all isFlat = true) (h2 : H u = some (.tup ys)) (r2 : RowsAt H ys ms) (f2 : ∀ l ∈ ms, l.all isFlat = true)
    (q : Q (.bl (decide (ls = ms))) H) : rEqD K (.ref t) (.ref u) H Q :=
  ⟨.tuple (ls.map rowD), .tuple (ms.map rowD), .tup (SqT.of h1) (r1.dp f1), .tup (SqT.of h2) (r2.dp f2), shaped_rowsT ls f1, shaped_rowsT ms f2, by
    have e : PyData.eqv (.tuple (ls.map rowD)) (.tuple (ms.map rowD)) = decide (ls = ms) := by
      rw [PyData.eqv]
      exact eqvAll_rows ls ms f1 f2
    rw [e]
    exact q⟩
end Lay
namespace Lay
open PySem L2 PySem.Spec PyProof.Rows
def plainWs : List Str := ["read", "write", "post", "wait"]
def cacheWs : List Str := ["read", "write", "get", "put", "clean", "drop", "flush", "post", "wait"]
def wsK (k : Int) : List Str := if k = 0 then plainWs else cacheWs
def drawnWs : List Str := ["read", "write", "post", "wait", "read", "write", "clean", "drop", "flush", "get", "put"]
theorem drawn_word {k d : Int} (h0 : 0 ≤ d) (h1 : d < 11 - 5 * (if k = 0 then 1 else 0)) : ∃ w : Str, drawnWs[d.toNat]? = some w ∧ w ∈ wsK k ∧ ((w ∈ sigWords ∧ inStrs (.str w) ["post", "wait"] = true) ∨ (w ∈ memWords ∧ inStrs (.str w) ["post", "wait"] = false)) := by
  by_cases hk : k = 0
  · rw [if_pos hk] at h1
    unfold wsK
    rw [if_pos hk]
    obtain rfl | rfl | rfl | rfl | rfl | rfl : d = 0 ∨ d = 1 ∨ d = 2 ∨ d = 3 ∨ d = 4 ∨ d = 5 := by omega
    all_goals exact ⟨_, rfl, by decide +kernel, by first | exact .inl ⟨by decide +kernel, by decide +kernel⟩ | exact .inr ⟨by decide +kernel, by decide +kernel⟩⟩
  · rw [if_neg hk] at h1
    unfold wsK
    rw [if_neg hk]
    obtain rfl | rfl | rfl | rfl | rfl | rfl | rfl | rfl | rfl | rfl | rfl : d = 0 ∨ d = 1 ∨ d = 2 ∨ d = 3 ∨ d = 4 ∨ d = 5 ∨ d = 6 ∨ d = 7 ∨ d = 8 ∨ d = 9 ∨ d = 10 := by omega
    all_goals exact ⟨_, rfl, by decide +kernel, by first | exact .inl ⟨by decide +kernel, by decide +kernel⟩ | exact .inr ⟨by decide +kernel, by decide +kernel⟩⟩
def spGoodStep : Sp := fun vs H Q _ => ∃ (p : Addr) (k : Int) (n : Nat) (c : Addr), vs = [.ref p, .int k] ∧ PenAt c H p n ∧ n + 5 < 100000 ∧ ∀ a l H', H a = none → H' a = some (.tup l) → GoodStep (wsK k) l → PenAt c H' p (n + 5) → Keep p H H' → Q (.ref a) H'
end Lay
namespace Lay
open PySem L2 PySem.Spec PyProof.Rows
theorem abz_ok {d : Int} (h0 : 0 ≤ d) (h1 : d < 4) : nameOk ("buf" ++ cutS "abz" none (some d)) = true ∧ ("buf" : Str).length + (cutS "abz" none (some d)).length ≤ sizeLine := by
  obtain rfl | rfl | rfl | rfl : d = 0 ∨ d = 1 ∨ d = 2 ∨ d = 3 := by omega
  all_goals exact ⟨by decide +kernel, by decide +kernel⟩
theorem Keep.none {H H' : Hp} {p a : Addr} {o : HO} (k : Keep p H H') (hp : H' p = some o) (h : H' a = none) : H a = none := by
  cases e : H a with
  | none => rfl
  | some u =>
    have n : a ≠ p := fun y => by subst y; rw [hp] at h; cases h
    rw [k a u n e] at h
    cases h
end Lay
namespace Lay
open PySem L2 PySem.Spec PyProof.Rows
theorem rd_cmeth {C : Addr} {sp : Sp} {E : XK} {ta : TE} {t : TA} {σ : L2.St} {H : Hp} {Q : VK} (h : ta σ H fun x H1 => x = .ref C ∧ t σ H1 fun vs H2 => sp (.ref C :: vs) H2 Q E) : ClX.tCMeth C sp E ta t σ H Q := h
end Lay
namespace Lay
open PySem L2 PySem.Spec PyProof.Rows
theorem eqv_rowsT {ls ms : List (List V)} (f1 : ∀ l ∈ ls, l.all isFlat = true) (f2 : ∀ l ∈ ms, l.all isFlat = true) : PyData.eqv (.tuple (ls.map rowD)) (.tuple (ms.map rowD)) = decide (ls = ms) := by
  rw [PyData.eqv]
  exact eqvAll_rows ls ms f1 f2
theorem eqv_rowsL {ls ms : List (List V)} (f1 : ∀ l ∈ ls, l.all isFlat = true) (f2 : ∀ l ∈ ms, l.all isFlat = true) : PyData.eqv (.list (ls.map rowD)) (.list (ms.map rowD)) = decide (ls = ms) := by
  rw [PyData.eqv]
  exact eqvAll_rows ls ms f1 f2
/-- two tuples of the same rows are not unequal -/
theorem rd_neT {K : PySem.W.Frag} {H : Hp} {Q : VK} {t u : Addr} {xs ys : List V} {ls : List (List V)} (h1 : H t = some (.tup xs)) (r1 : RowsAt H xs ls) (f1 : ∀ l ∈ ls, l.all isFlat = true) (h2 : H u = some (.tup ys)) (r2 : RowsAt H ys ls)
    (q : Q (.bl false) H) : rNeD K (.ref t) (.ref u) H Q :=
  ⟨.tuple (ls.map rowD), .tuple (ls.map rowD), .tup (SqT.of h1) (r1.dp f1), .tup (SqT.of h2) (r2.dp f1), shaped_rowsT ls f1, shaped_rowsT ls f1, by
    rw [eqv_rowsT f1 f1, decide_eq_true rfl]
    exact q⟩
theorem rd_eqL {K : PySem.W.Frag} {H : Hp} {Q : VK} {t u : Addr} {xs ys : List V} {ls : List (List V)} (h1 : H t = some (.lst xs)) (r1 : RowsAt H xs ls) (f1 : ∀ l ∈ ls, l.all isFlat = true) (h2 : H u = some (.lst ys)) (r2 : RowsAt H ys ls)
    (q : Q (.bl true) H) : rEqD K (.ref t) (.ref u) H Q :=
  ⟨.list (ls.map rowD), .list (ls.map rowD), .lst (SqL.of h1) (r1.dp f1), .lst (SqL.of h2) (r2.dp f1), shaped_rowsL ls f1, shaped_rowsL ls f1, by
    rw [eqv_rowsL f1 f1, decide_eq_true rfl]
    exact q⟩
theorem rd_neSs {i : Str} {H : Hp} {Q : VK} (q : Q (.bl false) H) : rNe (.str i) (.str i) H Q := rd_neS (by rw [decide_eq_true rfl]; exact q)
theorem rd_neIs {i j : Int} {H : Hp} {Q : VK} (e : i = j) (q : Q (.bl false) H) : rNe (.int i) (.int j) H Q := rd_neI (by rw [decide_eq_true e]; exact q)
/-- what is written into a list leaves the rows -/
theorem RowsAt.updL {H : Hp} {D : Addr} {l l' : List V} {xs : List V} {ls : List (List V)} (r : RowsAt H xs ls) (h : H D = some (.lst l)) : RowsAt (upd H D (.lst l')) xs ls := r.same fun b l2 e => by
  by_cases y : b = D
  · subst y; rw [h] at e; cases e
  · rw [upd_ne y]; exact e
theorem AgAt.updL {C : Addr} {H : Hp} {D a : Addr} {l l' : List V} {z : Str} {ls : List (List V)} (r : AgAt C H a z ls) (h : H D = some (.lst l)) : AgAt C (upd H D (.lst l')) a z ls := by
  obtain ⟨dx, t, xs, h1, h2, h3⟩ := r
  exact ⟨dx, t, xs, by rw [upd_ne (fun y => by subst y; rw [h] at h1; cases h1)]; exact h1, by rw [upd_ne (fun y => by subst y; rw [h] at h2; cases h2)]; exact h2, h3.updL h⟩
end Lay

end

section
namespace Lay
open PySem L2 PySem.Spec PyProof.Rows
/-- the word of a step may stand in an agent without a cache -/
def plainRow (l : List V) : Prop := ∃ w r, l = .str w :: r ∧ w ∈ plainWs
theorem GoodStep.head {ws : List Str} {l : List V} (g : GoodStep ws l) : ∃ w r, l = .str w :: r ∧ w ∈ ws := by
  rcases g with ⟨w, n, rfl, h1, h2, h3⟩ | ⟨w, n, s, f, e, rfl, h1, h2, h3⟩
  · exact ⟨w, _, rfl, h2⟩
  · exact ⟨w, _, rfl, h2⟩
theorem GoodStep.plain {ws : List Str} {l : List V} (g : GoodStep ws l) (h : plainRow l) : GoodStep plainWs l := by
  obtain ⟨u, r, e, hu⟩ := h
  rcases g with ⟨w, n, rfl, h1, h2, h3⟩ | ⟨w, n, s, f, e', rfl, h1, h2, h3⟩
  · cases e
    exact .inl ⟨_, _, rfl, h1, hu, h3⟩
  · cases e
    exact .inr ⟨_, _, _, _, _, rfl, h1, hu, h3⟩
theorem plain_sub : ∀ w ∈ plainWs, w ∈ cacheWs := by decide +kernel
theorem rd_eqL0 {K : PySem.W.Frag} {H : Hp} {Q : VK} {t u : Addr} {xs : List V} {ls : List (List V)} (h1 : H t = some (.lst xs)) (r1 : RowsAt H xs ls) (f1 : ∀ l ∈ ls, l.all isFlat = true) (h2 : H u = some (.lst []))
    (q : Q (.bl (decide (ls = []))) H) : rEqD K (.ref t) (.ref u) H Q :=
  ⟨.list (ls.map rowD), .list (([] : List (List V)).map rowD), .lst (SqL.of h1) (r1.dp f1), .lst (SqL.of h2) .nil, shaped_rowsL ls f1, shaped_rowsL [] (by intro _ m; cases m), by
    rw [eqv_rowsL f1 (by intro _ m; cases m)]
    exact q⟩
def spOther : Sp := fun vs H Q _ => ∃ (k : Int) (t : Addr) (ys : List V) (ls : List (List V)), vs = [.int k, .ref t] ∧ 0 ≤ k ∧ k ≤ 2 ∧ H t = some (.lst ys) ∧ RowsAt H ys ls ∧ ls.length ≤ 24 ∧ (∀ l ∈ ls, GoodStep (wsK k) l) ∧
  ∀ k' H', Same H H' → 0 ≤ k' → k' ≤ 2 → (∀ l ∈ ls, GoodStep (wsK k') l) → Q (.int k') H'
theorem other_good {k : Int} {ls : List (List V)} (k0 : 0 ≤ k) (k2 : k ≤ 2) (hg : ∀ l ∈ ls, GoodStep (wsK k) l) (h : ∀ l ∈ ls, plainRow l) (j : Int) : ∀ l ∈ ls, GoodStep (wsK j) l := by
  intro l m
  have g := (hg l m).plain (h l m)
  unfold wsK
  split
  · exact g
  · exact g.more plain_sub
/-- a list of class, name and steps -/
def TripAt (H : Hp) (r : Addr) (k : Int) (z : Str) (t : Addr) (ys : List V) (ls : List (List V)) : Prop := H r = some (.lst [.int k, .str z, .ref t]) ∧ H t = some (.lst ys) ∧ RowsAt H ys ls
def spBent : Sp := fun vs H Q _ => ∃ (p : Addr) (n : Nat) (c : Addr) (k : Int) (z : Str) (t : Addr) (ys : List V) (ls : List (List V)), vs = [.ref p, .int k, .str z, .ref t] ∧ PenAt c H p n ∧ n + 2 < 100000 ∧ 0 ≤ k ∧ k ≤ 2 ∧ nameOk z = true ∧ nameOk (z ++ "x") = true ∧ H t = some (.lst ys) ∧ RowsAt H ys ls ∧ 1 ≤ ls.length ∧ ls.length ≤ 24 ∧ (∀ l ∈ ls, GoodStep (wsK k) l) ∧
  ∀ r k' z' t' ys' ls' H', PenAt c H' p (n + 2) → Keep p H H' → TripAt H' r k' z' t' ys' ls' → 0 ≤ k' → k' ≤ 2 → nameOk z' = true → ls'.length = ls.length → (∀ l ∈ ls', GoodStep (wsK k') l) → Q (.ref r) H'
theorem good_post (k : Int) : GoodStep (wsK k) [.str "post", .str "other"] := by
  refine .inl ⟨_, _, rfl, by decide +kernel, ?_, by decide +kernel⟩
  unfold wsK
  split <;> decide +kernel
theorem mem_set {α : Type} {xs : List α} {n : Nat} {a x : α} (h : x ∈ xs.set n a) : x = a ∨ x ∈ xs := by
  rcases List.mem_or_eq_of_mem_set h with h | h
  · exact .inr h
  · exact .inl h
end Lay
namespace Lay
open PySem L2 PySem.Spec PyProof.Rows
theorem rows_pen {c : Addr} {H : Hp} {p t : Addr} {n : Nat} {ys : List V} {ls : List (List V)} (hp : PenAt c H p n) (ht : H t = some (.lst ys)) (hx : RowsAt H ys ls) : t ≠ p := by
  rintro rfl
  obtain ⟨ns, b, l, e1, _⟩ := hp
  rw [e1] at ht
  cases ht
  cases hx with
  | cons _ r => cases r
theorem rows_cell {c : Addr} {H : Hp} {p t : Addr} {n : Nat} {ys : List V} {ls : List (List V)} (hp : PenAt c H p n) (ht : H t = some (.lst ys)) (hx : RowsAt H ys ls) (h1 : 1 ≤ ls.length) : t ≠ c := by
  rintro rfl
  obtain ⟨ns, b, l, _, e1, _⟩ := hp
  rw [e1] at ht
  cases ht
  cases ns with
  | nil => cases hx; simp at h1
  | cons i r => cases hx
theorem RowsAt.flatG {ws : List Str} {ls : List (List V)} (g : ∀ l ∈ ls, GoodStep ws l) : ∀ l ∈ ls, l.all isFlat = true := fun l m => (g l m).flat
end Lay
namespace Lay
open PySem L2 PySem.Spec PyProof.Rows
theorem ixN_nat {n : Nat} {d : Int} (h0 : 0 ≤ d) (h1 : d < n) : ixN n d = some d.toNat := by
  unfold ixN
  rw [if_pos h0, if_pos h1]
theorem cut_from {xs : List V} (h : 1 ≤ xs.length) : cutV xs (some 1) none = xs.drop 1 := by
  have e : HT.sIx xs.length 0 (some 1) = 1 := by
    unfold HT.sIx
    dsimp only
    split <;> omega
  unfold cutV
  rw [e]
  show List.take (xs.length - 1) (List.drop 1 xs) = List.drop 1 xs
  rw [List.take_of_length_le (by rw [List.length_drop]; omega)]
theorem cut_to {xs : List V} (h : 1 ≤ xs.length) : cutV xs none (some 1) = xs.take 1 := by
  have e : HT.sIx xs.length xs.length (some 1) = 1 := by
    unfold HT.sIx
    dsimp only
    split <;> omega
  unfold cutV
  rw [e]
  show List.take (1 - 0) (List.drop 0 xs) = List.take 1 xs
  simp
end Lay

end

section
namespace Lay
open PySem L2 PySem.Spec PyProof.Rows
def tripD (k : Int) (z : Str) (ls : List (List V)) : PyData := .list [.int k, .str z, .list (ls.map rowD)]
theorem shaped_trip {k : Int} {z : Str} {ls : List (List V)} (hz : PyData.strOk z = true) (f : ∀ l ∈ ls, l.all isFlat = true) : SeqAt.shaped (tripD k z ls) = true := by
  have h1 := deepAll_rows ls
  have h2 : PyData.depth (tripD k z ls) ≤ 64 := by
    unfold tripD
    simp only [PyData.depth, PyData.depthAll]
    omega
  have h3 : PyData.canLay0 (tripD k z ls) = true := by
    unfold tripD
    simp only [PyData.canLay0, PyData.canLayAll0, hz, layAll_rows ls f, Bool.and_self]
  unfold SeqAt.shaped
  rw [h3, decide_eq_true h2]
  rfl
theorem eqv_trip {k k' : Int} {z z' : Str} {ls ls' : List (List V)} (f : ∀ l ∈ ls, l.all isFlat = true) (f' : ∀ l ∈ ls', l.all isFlat = true) : PyData.eqv (tripD k z ls) (tripD k' z' ls') = (decide (k = k') && (decide (z = z') && decide (ls = ls'))) := by
  unfold tripD
  simp only [PyData.eqv, PyData.eqvAll, eqvAll_rows ls ls' f f', Bool.and_true]
  rw [beq_dec, beq_dec]
theorem rd_eqTrip {K : PySem.W.Frag} {H : Hp} {Q : VK} {r r' t t' : Addr} {k k' : Int} {z z' : Str} {ys ys' : List V} {ls ls' : List (List V)} (h : TripAt H r k z t ys ls) (h' : TripAt H r' k' z' t' ys' ls') (hz : nameOk z = true) (hz' : nameOk z' = true)
    (f : ∀ l ∈ ls, l.all isFlat = true) (f' : ∀ l ∈ ls', l.all isFlat = true) (q : Q (.bl (decide (k = k') && (decide (z = z') && decide (ls = ls')))) H) : rEqD K (.ref r) (.ref r') H Q :=
  ⟨tripD k z ls, tripD k' z' ls', .lst (SqL.of h.1) (.cons (.int _) (.cons (.str _) (.cons (.lst (SqL.of h.2.1) (h.2.2.dp f)) .nil))), .lst (SqL.of h'.1) (.cons (.int _) (.cons (.str _) (.cons (.lst (SqL.of h'.2.1) (h'.2.2.dp f')) .nil))),
    shaped_trip (name_strOk hz) f, shaped_trip (name_strOk hz') f', by rw [eqv_trip f f']; exact q⟩
theorem rd_bm {K : PySem.W.Frag} {T : String} {r : V → List V → Hp → VK → Prop} {to : TE} {t : TA} {σ : L2.St} {H : Hp} {Q : VK} (h : to σ H fun x H1 => tyV K T x H1 ∧ t σ H1 fun xs H2 => r x xs H2 Q) : tBM K T r to t σ H Q := h
theorem tyV_lst {K : PySem.W.Frag} {H : Hp} {a : Addr} {xs : List V} (h : H a = some (.lst xs)) : tyV K "list" (.ref a) H := by
  first
    | exact ⟨xs, SqL.of h⟩
    | exact .inl ⟨rfl, xs, SqL.of h⟩
    | exact ⟨rfl, xs, SqL.of h⟩
    | exact .inl ⟨xs, SqL.of h⟩
theorem rd_methF {X : Cx} {m : Str} {ta : TE} {t : TA} {σ : L2.St} {H : Hp} {Q : VK} (h : ta σ H fun x H1 => ∃ a C dx fs CX k f sp E, x = .ref a ∧ H1 a = some (.ins C dx fs) ∧ fs.lookup m = none ∧ Cls X.K C ∧ Meth X.K C m f ∧ FnR X.prog X.w X.K X.mg X.base CX k f sp ∧ Room k X.A ∧ Passes CX X E ∧ t σ H1 fun vs H2 => sp (x :: vs) H2 Q E) : OwnC.tMethF X m ta t σ H Q := h
/-- with_steps(*steps) of an agent -/
theorem with_ag {C : Addr} {ws : List Str} {H : Hp} {a : Addr} {z : Str} {ls0 : List (List V)} {xs : List V} {ls : List (List V)} {Q : Addr → Hp → Prop} {Q' : VK} {E : XK} (hQ : ∀ x H, Q x H → Q' (.ref x) H) (ha : AgAt C H a z ls0) (hz : nameOk z = true) (hx : RowsAt H xs ls) (h1 : 1 ≤ ls.length) (h2 : ls.length ≤ 24) (hg : ∀ l ∈ ls, GoodStep ws l)
    (q : ∀ x H', Same H H' → AgAt C H' x z ls → Q x H') : spStar 1 (spWithT C ws) (.ref a :: xs) H Q' E := by
  have hl := hx.len
  refine ⟨[.ref a], xs, rfl, rfl, Nat.le_trans (by omega) (show 24 ≤ sizeLine by decide), fun p hp => ?_⟩
  have s := Same.upd (o := .tup xs) hp
  exact ⟨a, z, p, ls0, xs, ls, rfl, ha.mono s, hz, upd_same, hx.mono s, h1, h2, hg, fun x H' _ s' g => hQ _ _ (q x H' (s.trans s') g)⟩
theorem good_sig {k : Int} {w n : Str} (h : w = "post" ∨ w = "wait") (hn : nameOk n = true) : GoodStep (wsK k) [.str w, .str n] := by
  refine .inl ⟨w, n, rfl, ?_, ?_, hn⟩
  · rcases h with rfl | rfl <;> decide +kernel
  · unfold wsK
    split <;> (rcases h with rfl | rfl <;> decide +kernel)
end Lay

end

section
namespace PySem.W
open PySem PySem.Spec PySem.Calls PyProof.Rows
/-- an instance of an exception class of the program, with whatever dict -/
theorem exv_kitx {K : Frag} {x D : Addr} {ox : Obj} {od : Option Obj} (hga : findIn K (.ref D) "__getattribute__" = some (some (.builtin "BaseException.__getattribute__"))) (hgt : findIn K (.ref D) "__getattr__" = some none) (hsub : subIn K (.ref D) (.type "BaseException") = some true) (hdct : hasDictIn K D = true) (ha : findIn K (.ref D) "__class__" = some (some (.builtin "object.__class__")))
    (hn : specialIn K (.builtin "object.__class__") "__get__" = some (some (.builtin "getset_descriptor.__get__"))) (htk : takesIn K (.builtin "object.__class__") = some true) (hm : mroIn K D (.type "object") = some true) :
    KitX K (.ref x) (.ref D) (fun h => InstAt h x ox D od) where
  ty := fun _ _ _ I => I.type
  it := fun _ _ X _ => by
    obtain ⟨cdD, hcD, _⟩ := any_some hdct
    unfold clsIn at hcD
    split at hcD
    · rename_i c' d' cd' sl' ho
      intro A' Q' E' s' k q
      unfold isType loadHead
      exact wpAny_bind (wpAny_loadPart (k _ _ (X _ _ ho)) (wpAny_pure q))
    · cases hcD
  ne := fun h tp dd its n sl X htp => by
    obtain ⟨cdD, hcD, _⟩ := any_some hdct
    refine Bool.eq_false_iff.mpr fun q => ?_
    have e : D = tp := Value.ref.inj (beq_iff_eq.mp q)
    subst e
    unfold clsIn at hcD
    split at hcD
    · rename_i c' d' cd' sl' ho
      have z := (X _ _ ho).symm.trans htp
      cases z
    · cases hcD
  ca := fun X I k => kx_classE X I hga hgt hsub (findObj_dataE (by obtain ⟨cd, hc, _⟩ := any_some hdct; rw [hc]; rfl) ha hn htk) hm k
end PySem.W
namespace Exv
open PySem L2 PySem.Spec PyProof.Rows
/-- at a: an exception of the class cls, its own dict d -/
def exv (a : Addr) (cls : Value) (d : Option Addr) : HO := .ext fun h => ∃ (oe : Obj) (vs : Array Value), h.get? a = some oe ∧ Zc cls d oe ∧ oe.data = .fields vs
theorem exv_ok {P : Program} {w : World} {H : Hp} {h : Heap} {a : Addr} {cls : Value} {d : Option Addr} {oe : Obj} {vs : Array Value} (e : h.get? a = some oe) (z : Zc cls d oe) (hd : oe.data = .fields vs) : ObjOk P w H h a (exv a cls d) :=
  ⟨⟨oe, vs, e, z, hd⟩, ⟨oe, e⟩, fun _ _ ⟨o, v, q, r⟩ k => ⟨o, v, k o q, r⟩⟩
section
variable {X : Cx} {pins : List (Addr × Obj)} {σ : L2.St} {H : Hp} {s : Shared}
theorem exv_at {a : Addr} {cls : Value} {d : Option Addr} (I : Inv X pins σ H s) (h : H a = some (exv a cls d)) : ∃ (oe : Obj) (vs : Array Value), s.heap.get? a = some oe ∧ Zc cls d oe ∧ oe.data = .fields vs := by
  have z : ObjOk X.prog X.w H s.heap a (.ext fun h => ∃ (oe : Obj) (vs : Array Value), h.get? a = some oe ∧ Zc cls d oe ∧ oe.data = .fields vs) := I.hok a _ h
  exact z.1
/-- an exception's object that stands there, untracked and ours, is tracked -/
theorem track {a : Addr} {oe : Obj} {vs : Array Value} {cls : Value} {d : Option Addr} (I : Inv X pins σ H s) (na : H a = none) (ha : s.heap.get? a = some oe) (hz : Zc cls d oe) (hd : oe.data = .fields vs)
    (h0 : ∀ o, X.s_0.heap.get? a = some o → a ∈ X.ex) (nL : a ≠ X.env.locals) (np : ∀ p ∈ X.pn ++ pins, p.1 ≠ a) : Inv X pins σ (upd H a (exv a cls d)) s := by
  refine ⟨I.ok, I.os, I.bare, ⟨I.base.keep, I.base.slot, fun b o e n hx => ?_, I.base.there, fun b xs e => ?_, fun b o u e => ?_, fun b ps e => ?_⟩, I.loc, I.cell, ?_, fun x c e => ?_, fun p hp => ?_, fun b u e => ?_, I.len⟩
  · by_cases hb : b = a
    · subst hb; exact absurd (h0 o e) hx
    · rw [upd_ne hb]; exact I.base.free b o e n hx
  · have q := I.base.tups b xs e
    rw [upd_ne (ne_of_none q na)]; exact q
  · have q := I.base.frzs b o u e
    rw [upd_ne (ne_of_none q na)]; exact q
  · obtain ⟨m, q⟩ := I.base.tbls b ps e
    exact ⟨m, by rw [upd_ne (ne_of_none q na)]; exact q⟩
  · rw [upd_ne (Ne.symm nL)]; exact I.free
  · have hc : c ≠ a := fun z => by
      subst z
      obtain ⟨v, o, ho, hv⟩ := I.cell x c e
      rw [ha] at ho
      cases ho
      rw [hd] at hv
      cases hv
    rw [upd_ne hc]; exact I.freeC x c e
  · obtain ⟨e, n, r⟩ := I.pin p hp
    exact ⟨e, by rw [upd_ne (np p hp)]; exact n, r⟩
  · by_cases hb : b = a
    · subst hb
      rw [upd_same] at e
      cases e
      exact exv_ok ha hz hd
    · rw [upd_ne hb] at e
      exact (I.hok b u e).stay (fun _ _ _ q => q) (fun c q => by rw [upd_ne (ne_of_none q na)]; exact q) (fun c xs q => by rw [upd_ne (ne_of_none q na)]; exact q)
end
/-- what 'except x as n' wishes of an exception of the body, where the exception is kept behind the suite -/
def wAsK (K : PySem.W.Frag) (c : Value) (i : Nat) (ts : Addr → Value → Option Addr → TS) (Wout : WX) (D : Ends) : WX := fun cls d σ H =>
  ∃ b, PySem.W.exmOne K cls c = some b ∧ (b = true → ∀ a, H a = none → ts a cls d { nx := fun σ' H' => H' a = none → D.nx (σ'.set i none) (upd H' a (exv a cls d)), rt := fun v H' => H' a = none → D.rt v (upd H' a (exv a cls d)), bk := fun σ' H' => H' a = none → D.bk (σ'.set i none) (upd H' a (exv a cls d)), ct := fun σ' H' => H' a = none → D.ct (σ'.set i none) (upd H' a (exv a cls d)) } (σ.set i (some (.ref a))) H) ∧
    (b = false → Wout cls d σ H)
section
variable {X : Cx} {pins : List (Addr × Obj)} {σ : L2.St} {H : Hp} {s : Shared}
variable {x n : Str} {c : Value} {i : Nat} {body suite : List Stmt} {b₀ : Stmt} {np pos pos' : Pos} {tb : WX → TS} {ts : Addr → Value → Option Addr → TS} {Wout : WX}
theorem ps_try_asK (hs : X.stack = X.env :: X.outer) (hf : X.env.frame = some X.env.locals) (hN : X.N.Nodup) (hi : X.N[i]? = some n) (hln : X.env.kindOf n = some .local) (hc : Names X x c) (tk : Takes X Wout)
    (hb : ∀ (W : WX) (pn : List (Addr × Obj)) (xe : Value → Shared → Prop), Takes (X.tr pn xe) W → PassesOwn (model X.prog X.w) X.A X.env xe → PSs (X.tr pn xe) body (tb W))
    (hsu : ∀ (a : Addr) (oe : Obj) (cls : Value) (d : Option Addr) (pn : List (Addr × Obj)), Zc cls d oe → (∃ vs, oe.data = .fields vs) → PSs (X.suite a ((a, oe) :: pn)) (b₀ :: suite) (ts a cls d)) :
    PS X (.Try body [.ExceptHandler (some (.Name x np)) (some n) (b₀ :: suite) pos'] [] [] pos) (fun D σ H => tb (wAsK X.K c i ts Wout D) D σ H) := by
  refine ⟨fun pins s σ H D I h => ?_⟩
  have ok := I.ok
  have hfr : X.A.frames = some (X.env :: X.outer) := by rw [ok.frames, hs]
  have hloc : Loc X.env.scope n := .inl hln
  refine wpAny_Try_except ?_
  refine wpAny_mono ((hb (wAsK X.K c i ts Wout D) (X.pn ++ pins) (fun e s₁ => wpAny (model X.prog X.w) X.A (noteFrame e X.env) (fun _ s₂ => wpAny (model X.prog X.w) X.A (setFlight e none) (fun _ s₃ =>
    wpAny (model X.prog X.w) X.A (handleBy e X.env [.ExceptHandler (some (.Name x np)) (some n) (b₀ :: suite) pos']) (SP X pins D) X.xe s₃) X.xe s₂) X.xe s₁) (fun u s' xx => ?_) PassesOwn.looking).run [] s σ H D (I.toTry _) h) (fun f s1 hsp => ?_) (fun e s1 he => he)
  · -- the catch
    obtain ⟨a, B, sI, pins', σ', H', cls, d, rfl, J', nb, up, sky, na, os, ag, b, hb1, hyes, hno⟩ := xx
    have J : Inv X pins σ' H' sI := J'.ofTry ok
    have sky' : Sky B (X.env :: X.outer) a (Zc cls d) X.env.locals s'.heap := by rw [← hs]; exact sky
    show wpAny (model X.prog X.w) X.A (noteFrame (.ref a) X.env) _ _ _
    refine Sky.land Zc.steady hfr hf sky' fun h3 fl3 up3 => ?_
    have J3 : Inv X pins σ' H' { s' with heap := h3 } := J.landed nb fl3.1 (up.trans up3) os ag
    obtain ⟨oe3, vs3, he3, hz3, hd3⟩ := fl3.there
    have notFr : ∀ {h : Heap} {o : Obj} {vs : Array Value}, h.FunFrames B (X.env :: X.outer) → h.get? a = some o → o.data = .fields vs → a ∉ frs (X.env :: X.outer) := fun {h o vs} ff e dd hm => by
      obtain ⟨_, o', e', hnf⟩ := ff.mem hm
      rw [e] at e'; cases e'
      exact hnf _ dd
    have nfr := notFr fl3.2.2.1 he3 hd3
    have nL : a ≠ X.env.locals := fun z => nfr (List.mem_filterMap.mpr ⟨X.env, List.mem_cons_self, by rw [hf, z]⟩)
    have nF : a ∉ X.fs := fun hm => by
      obtain ⟨e, he, q⟩ := List.mem_filterMap.mp hm
      exact nfr (List.mem_filterMap.mpr ⟨e, List.mem_cons_of_mem _ he, q⟩)
    have noI : ∀ o, sI.heap.get? a = some o → False := fun o e => by
      have z := nb a o e (by rw [hs]; exact nfr)
      rw [fl3.2.1] at z
      cases z
    have h0 : ∀ o, X.s_0.heap.get? a = some o → a ∈ X.ex := fun o e => Classical.byContradiction fun hx => by
      obtain ⟨o', e'⟩ := J.base.there a o e hx
      exact noI o' e'
    have npp : ∀ p ∈ X.pn ++ pins, p.1 ≠ a := fun p hp z => by
      have e := (J.pin p hp).1
      rw [z] at e
      exact noI _ e
    have S3 := J3.suite he3 hd3 na nL nF
    refine wpAny_handleBy_cons (codeAny_handlers_test ?_) (by intro q; cases q)
    have LT : PySem.W.Looks (model X.prog X.w) h3 (typeOf (.ref a)) cls := fun A Q E s k q => wpAny_typeOf_ref (k _ _ he3) (by rw [hz3.1]; exact q)
    have LM := PySem.W.exm_one (M := model X.prog X.w) (J3.kIn) LT hb1
    have test : ∀ {Q : Value → Shared → Prop} {E : Value → Shared → Prop}, Q c { s' with heap := h3 } → wpAny (model X.prog X.w) (X.A.mark (some (.ref a))) (eval (.Name x np) X.env) Q E { s' with heap := h3 } := fun {Q E} q => by
      obtain ⟨hg, hdbg, hm | ⟨hm, hv, hnn⟩⟩ := hc
      · exact ld_glob (X := X.suite a ((a, oe3) :: (X.pn ++ pins))) S3 hg hm q hdbg
      · exact ld_blt (X := X.suite a ((a, oe3) :: (X.pn ++ pins))) S3 hg hm hv q hnn hdbg
    refine test (LM.here ?_)
    cases b with
    | true =>
      refine codeAny_handlers_suite_as ?_
      refine HandSPX.lands_againZ fl3 fun h4 fl4 up4 => ?_
      have J4 : Inv X pins σ' H' { s' with heap := h4 } := J.landed nb fl4.1 ((up.trans up3).trans up4) os ag
      obtain ⟨oe4, vs4, he4, hz4, hd4⟩ := fl4.there
      have S4 := J4.suite he4 hd4 na nL nF
      refine store_ok (X := X.suite a ((a, oe4) :: (X.pn ++ pins))) (v := .ref a) S4 hN hi hloc rfl (fun s5 S5 => ?_) (.inr hln)
      refine wpAny_mono ((hsu a oe4 cls d (X.pn ++ pins) hz4 ⟨_, hd4⟩).run [] s5 _ H' _ S5 (hyes rfl a na)) (fun f s6 hsp => ?_) (fun _ _ z => False.elim z)
      have end_ : ∀ {σ6 : L2.St} {H6 : Hp} {Q : Shared → Prop}, Inv (X.suite a ((a, oe4) :: (X.pn ++ pins))) [] σ6 H6 s6 → (H6 a = none → ∀ s7, Inv X pins (σ6.set i none) (upd H6 a (exv a cls d)) s7 → Q s7) →
          wpAny (model X.prog X.w) X.A (do bindName X.env n .none; unbindBehindTheSuite X.env n pos') (fun _ s7 => Q s7) X.xe s6 := fun {σ6 H6 Q} S6 hq => by
        obtain ⟨ha6, na6, _⟩ := S6.pin (a, oe4) (List.mem_append_left _ List.mem_cons_self)
        exact gone_ok (track (S6.unsuite ok) na6 ha6 hz4 hd4 h0 nL npp) hN hi hln (hq na6)
      cases f with
      | next =>
        obtain ⟨σ6, H6, S6, q6⟩ := hsp
        exact end_ S6 fun n6 s7 J7 => ⟨_, _, J7, q6 n6⟩
      | brk =>
        obtain ⟨σ6, H6, S6, q6⟩ := hsp
        exact end_ S6 fun n6 s7 J7 => ⟨_, _, J7, q6 n6⟩
      | cont =>
        obtain ⟨σ6, H6, S6, q6⟩ := hsp
        exact end_ S6 fun n6 s7 J7 => ⟨_, _, J7, q6 n6⟩
      | ret u =>
        obtain ⟨v6, σ6, H6, S6, r6, q6⟩ := hsp
        exact end_ S6 fun n6 s7 J7 => ⟨_, _, _, J7, r6, q6 n6⟩
    | false =>
      show wpAny _ X.A (handleBy (.ref a) X.env []) _ _ _
      refine wpAny_handleBy_nil ?_
      obtain ⟨k1, k2, k3, oe, vs, T, oT, ts', he, hz, hd, h1, hr⟩ := id fl3
      unfold PySem.passOn
      refine wpAny_bind (wpAny_field he hd h1 ?_)
      rw [if_neg (show ¬ ((Value.ref T == Value.none) = true) from by simp)]
      have fin : wpAny (model X.prog X.w) X.A (setFlight (.ref a) X.env.frame) (fun _ s4 => wpAny (model X.prog X.w) X.A (throw (.ref a) : Sem Flow) (SP X pins D) X.xe s4) X.xe { s' with heap := h3 } := by
        rw [hf]
        refine HandSPX.setFlight_upZ fl3 fun h4 hh4 up4 => wpAny_throw (tk _ _ ?_)
        exact ⟨a, B, sI, pins, σ', H', cls, d, rfl, J, nb, (up.trans up3).trans up4, .inr (.inr (by rw [hs]; exact hh4)), na, os, ag, hno rfl⟩
      first
        | exact wpAny_bind (wpAny_pure (wpAny_bind fin))
        | exact wpAny_bind fin
  · cases f with
    | next =>
      obtain ⟨σ', H', J', q⟩ := hsp
      exact wpAny_execs_nil ⟨σ', H', J'.ofTry ok, q⟩
    | brk =>
      obtain ⟨σ', H', J', q⟩ := hsp
      exact ⟨σ', H', J'.ofTry ok, q⟩
    | cont =>
      obtain ⟨σ', H', J', q⟩ := hsp
      exact ⟨σ', H', J'.ofTry ok, q⟩
    | ret u =>
      obtain ⟨v, σ', H', J', r, q⟩ := hsp
      exact ⟨v, σ', H', J'.ofTry ok, r, q⟩
end
/-! ### fields, isinstance of a kept exception -/
/-- e.f of a kept exception -/
def tXv (K : PySem.W.Frag) (n : Str) (te : TE) : TE := fun σ H Q => te σ H fun x H1 => ∃ (a C dd : Addr) (fs : List (Str × V)) (v : V), x = .ref a ∧ H1 a = some (exv a (.ref C) (some dd)) ∧ H1 dd = some (.xd fs) ∧ XfC K C ∧ PySem.W.findIn K (.ref C) n = some none ∧ fs.lookup n = some v ∧ Q v H1
theorem rd_xv {K : PySem.W.Frag} {n : Str} {te : TE} {σ : L2.St} {H : Hp} {Q : VK} (h : te σ H fun x H1 => ∃ (a C dd : Addr) (fs : List (Str × V)) (v : V), x = .ref a ∧ H1 a = some (exv a (.ref C) (some dd)) ∧ H1 dd = some (.xd fs) ∧ XfC K C ∧ PySem.W.findIn K (.ref C) n = some none ∧ fs.lookup n = some v ∧ Q v H1) : tXv K n te σ H Q := h
theorem inst_at {X : Cx} {pins : List (Addr × Obj)} {σ : L2.St} {H : Hp} {s : Shared} {a C dd : Addr} {fs : List (Str × V)} (I : Inv X pins σ H s) (ha : H a = some (exv a (.ref C) (some dd))) (ed : H dd = some (.xd fs)) :
    ∃ (oe od : Obj) (mA : Str → Option Value), PySem.W.InstAt s.heap a oe C (some od) ∧ (∀ f, RelO (fs.lookup f) (mA f)) ∧ ∀ n, PySem.W.lookIn n od = some (mA n) := by
  obtain ⟨oe, vs, e1, hz, hd⟩ := exv_at I ha
  have hx : ObjOk X.prog X.w H s.heap dd (.xd fs) := I.hok dd _ ed
  obtain ⟨mA, hns, hr⟩ := hx
  obtain ⟨od, ho, hl⟩ := lookIn_ns hns
  exact ⟨oe, od, mA, ⟨e1, hz.1, by unfold PySem.W.notCls; rw [hd] <;> rfl, by rw [hz.2]; exact ho⟩, hr, fun n => hl n⟩
theorem pe_xv {X : Cx} {e : Expr} {te : TE} {pos : Pos} {n : Str} (he : PE X e te) (hb : attributeBase e n X.env (eval e X.env) = eval e X.env := by rfl) : PE X (.Attribute e n pos) (tXv X.K n te) := by
  refine ⟨fun pins s σ H Q I h => ?_⟩
  refine attr_of hb (thn (he.run pins s σ H _ I h) fun u s1 hh => ?_)
  obtain ⟨x, H1, I1, rx, a, C, dd, fs, v, ex, ea, ed, T, hno, l, q⟩ := hh
  subst ex
  obtain rfl : u = Value.ref a := rx
  obtain ⟨oe, od, mA, J, hr, hl⟩ := inst_at I1 ea ed
  obtain ⟨u, hu, ru⟩ := RelO.some_of (v := v) (o := mA n) (by rw [← l]; exact hr n)
  exact HandSPX.exc_get I1.kIn J T.ga T.gg T.exC (PySem.W.findObj_own T.hdC hno rfl (by rw [hl, hu])) (handed_of ru) ⟨v, H1, I1.tok _, ru, q⟩
/-- a value's type, kept exceptions too -/
inductive TyW (K : PySem.W.Frag) (H : Hp) : V → Value → Prop
  | old {x : V} {t : Value} (h : TyX K H x t) : TyW K H x t
  | exc {a C d : Addr} {fs : List (Str × V)} (h : H a = some (exv a (.ref C) (some d))) (hd : H d = some (.xd fs)) (c : ExcC K C) : TyW K H (.ref a) (.ref C)
  | exn {a C : Addr} (h : H a = some (exv a (.ref C) none)) (c : ExcC K C) : TyW K H (.ref a) (.ref C)
theorem kit_ofW {X : Cx} {pins : List (Addr × Obj)} {σ : L2.St} {H : Hp} {s : Shared} {x : V} {u t : Value} (I : Inv X pins σ H s) (rx : RelV x u) (ty : TyW X.K H x t) : ∃ P : Heap → Prop, PySem.W.KitX X.K u t P ∧ P s.heap ∧ u ≠ .builtin "__main__.__loader__#opaque" := by
  cases ty with
  | old h => exact kit_of I rx h
  | @exc a C d fs ha hd c =>
    cases (show u = Value.ref a from rx)
    obtain ⟨oe, od, mA, J, _⟩ := inst_at I ha hd
    exact ⟨_, PySem.W.exv_kitx c.hg c.hk c.hs c.hd c.ha c.hn c.ht c.hm, J, fun z => nomatch z⟩
  | @exn a C ha c =>
    cases (show u = Value.ref a from rx)
    obtain ⟨oe, vs, e1, hz, hd⟩ := exv_at I ha
    have J : PySem.W.InstAt s.heap a oe C none := ⟨e1, hz.1, by unfold PySem.W.notCls; rw [hd] <;> rfl, by rw [hz.2]; exact trivial⟩
    exact ⟨_, PySem.W.exv_kitx c.hg c.hk c.hs c.hd c.ha c.hn c.ht c.hm, J, fun z => nomatch z⟩
def rIsiW (K : PySem.W.Frag) : List V → Hp → VK → Prop := fun xs H Q => ∃ (x c : V) (t u : Value) (b : Bool), xs = [x, c] ∧ ClsV c u ∧ TyW K H x t ∧ PySem.W.kitOne K t u = some b ∧ Q (.bl b) H
def rIsiTW (K : PySem.W.Frag) : List V → Hp → VK → Prop := fun xs H Q => ∃ (x : V) (tp : Addr) (cs : List V) (t : Value) (us : List Value) (b : Bool), xs = [x, .ref tp] ∧ H tp = some (.tup cs) ∧ Paired ClsV cs us ∧ TyW K H x t ∧ PySem.W.kitAny K t us = some b ∧ Q (.bl b) H
theorem rd_isiW {K : PySem.W.Frag} {H : Hp} {Q : VK} {x c : V} {t u : Value} (b : Bool) (hc : ClsV c u) (hx : TyW K H x t) (h : PySem.W.kitOne K t u = some b) (q : Q (.bl b) H) : rIsiW K [x, c] H Q := ⟨x, c, t, u, b, rfl, hc, hx, h, q⟩
theorem rd_isiTW {K : PySem.W.Frag} {H : Hp} {Q : VK} {x : V} {tp : Addr} {cs : List V} {t : Value} {us : List Value} (b : Bool) (ht : H tp = some (.tup cs)) (hc : Paired ClsV cs us) (hx : TyW K H x t) (h : PySem.W.kitAny K t us = some b) (q : Q (.bl b) H) : rIsiTW K [x, .ref tp] H Q := ⟨x, tp, cs, t, us, b, rfl, ht, hc, hx, h, q⟩
section
variable {X : Cx}
theorem call_isiW : CallR X (.builtin "isinstance") (rIsiW X.K) := by
  intro pins s σ H xs us Q I r h
  obtain ⟨x, c, t, u, b, rfl, k, ty, e, q⟩ := h
  obtain ⟨u1, u2, rfl, r1, r2⟩ := vals2 r
  have e2 := k.eq r2
  subst e2
  obtain ⟨P, Z, p, hx⟩ := kit_ofW I r1 ty
  exact PySem.W.kia_one Z I.kIn p e hx fun tk => ⟨.bl b, H, I.tok tk, rfl, q⟩
theorem call_isiTW : CallR X (.builtin "isinstance") (rIsiTW X.K) := by
  intro pins s σ H xs us Q I r h
  obtain ⟨x, tp, cs, t, ws, b, rfl, hT, k, ty, e, q⟩ := h
  obtain ⟨u1, u2, rfl, r1, r2⟩ := vals2 r
  cases (show u2 = Value.ref tp from r2)
  obtain ⟨P, Z, p, hx⟩ := kit_ofW I r1 ty
  obtain ⟨_, its, rv, o, h1, h2, n, h3⟩ := (show ObjOk X.prog X.w H s.heap tp (.tup cs) from I.hok tp _ hT)
  have e3 := ClsV.all k rv
  subst e3
  obtain ⟨oc, od, dt, sl⟩ := o
  simp only at h2 h3
  subst h2 h3
  exact PySem.W.kia_tup Z I.kIn p h1 e hx fun tk => ⟨.bl b, H, I.tok tk, rfl, q⟩
end
/-! ### an exception made, as a value -/
theorem pe_of_mk {X : Cx} {e : Expr} {t : L2.St → Hp → XK → Prop} (h : PMk X e t) : PE X e (fun σ H Q => t σ H fun cls d H1 => ∀ a, H1 a = none → Q (.ref a) (upd H1 a (exv a cls d))) := by
  refine ⟨fun pins s σ H Q I q => ?_⟩
  refine wpAny_mono (h pins s σ H _ I q) (fun u s1 hu => ?_) fun _ _ x => x
  obtain ⟨a, oe, vs, sI, H1, cls, d, rfl, J, k, hne, ha, hz, hd, h1, na, os, ag, _, qq⟩ := hu
  refine ⟨.ref a, upd H1 a (exv a cls d), ?_, rfl, qq a na⟩
  exact J.call' (ch := []) os (Un.laidN k hne na) (J.hok.laidN k na (exv_ok ha hz hd)) ag (fun b z => absurd z (by simp))
/-! ### an instance made where __init__ may raise: what is raised is wished for at the slots -/
def tMakeS (C : Addr) (sp : Sp) (dvs : List V) (E : L2.St → XK) (t : TA) : TE := fun σ H Q => t σ H fun vs H1 => ∀ x dx, H1 x = none → H1 dx = none → dx ≠ x →
  sp (.ref x :: (vs ++ dvs)) (upd (upd H1 dx (.own x)) x (.ins C dx [])) (fun v H2 => v = .non ∧ Q (.ref x) H2) (E σ)
theorem rd_makeS {C : Addr} {sp : Sp} {dvs : List V} {E : L2.St → XK} {t : TA} {σ : L2.St} {H : Hp} {Q : VK} (h : t σ H fun vs H1 => ∀ x dx, H1 x = none → H1 dx = none → dx ≠ x →
  sp (.ref x :: (vs ++ dvs)) (upd (upd H1 dx (.own x)) x (.ins C dx [])) (fun v H2 => v = .non ∧ Q (.ref x) H2) (E σ)) : tMakeS C sp dvs E t σ H Q := h
def tMakeKS (C : Addr) (n m : Nat) (sp : Sp) (gV : List V → List V → List V) (E : L2.St → XK) (t tk : TA) : TE := fun σ H Q => t σ H fun vs H1 => tk σ H1 fun zs H2 => vs.length = n ∧ zs.length = m ∧ ∀ x dx, H2 x = none → H2 dx = none → dx ≠ x →
  sp (gV (.ref x :: vs) zs) (upd (upd H2 dx (.own x)) x (.ins C dx [])) (fun v H3 => v = .non ∧ Q (.ref x) H3) (E σ)
theorem rd_makeKS {C : Addr} {n m : Nat} {sp : Sp} {gV : List V → List V → List V} {E : L2.St → XK} {t tk : TA} {σ : L2.St} {H : Hp} {Q : VK} (h : t σ H fun vs H1 => tk σ H1 fun zs H2 => vs.length = n ∧ zs.length = m ∧ ∀ x dx, H2 x = none → H2 dx = none → dx ≠ x →
  sp (gV (.ref x :: vs) zs) (upd (upd H2 dx (.own x)) x (.ins C dx [])) (fun v H3 => v = .non ∧ Q (.ref x) H3) (E σ)) : tMakeKS C n m sp gV E t tk σ H Q := h
section
variable {X : Cx} {CX : CXT} {k n : Nat} {f C : Addr} {fd : FuncData} {ps ks : List Str} {sp : Sp} {E : L2.St → XK} {x : Str} {p pos : Pos} {e : Expr} {es : List Expr} {kws : List Keyword} {t tk : TA} {g : List Value → List Value → List Value} {gV : List V → List V → List V} {ds : List Value} {dvs : List V}
theorem run_makeS {pins : List (Addr × Obj)} {σ : L2.St} {H : Hp} {s : Shared} {Q : VK} {us : List Value} {vs : List V} (M : Mk X.K C f) (F : FnOk X.prog X.w X.K X.mg X.base CX k f fd ps sp) (hr : Room (k + 1) X.A) (hb : Binds X.K fd ps ds) (hd : Vals dvs ds)
    (hx : PassesAt CX X σ (E σ)) (I : Inv X pins σ H s) (r : Vals vs us)
    (h : ∀ x dx, H x = none → H dx = none → dx ≠ x → sp (.ref x :: (vs ++ dvs)) (upd (upd H dx (.own x)) x (.ins C dx [])) (fun v H2 => v = .non ∧ Q (.ref x) H2) (E σ)) :
    wpAny (model X.prog X.w) X.A (call (.ref C) us) (EP X pins σ Q) X.xe s := by
  have hq := h (s.heap.objs.size + 1) s.heap.objs.size (I.hok.fresh (Nat.le_succ _)) (I.hok.fresh (Nat.le_refl _)) (Nat.ne_of_lt (Nat.lt_succ_self _))
  have I2 := Inv.made (C := C) I
  have r2 : Vals (V.ref (s.heap.objs.size + 1) :: (vs ++ dvs)) (Value.ref (s.heap.objs.size + 1) :: (us ++ ds)) := .cons rfl (r.append hd)
  have hl : (Value.ref (s.heap.objs.size + 1) :: us ++ ds).length = ps.length := by
    have e := r2.length
    rw [F.len _ _ _ _ hq] at e
    exact e.symm
  refine wpAny_call (make_map (f := f) I.kIn M.makes M.init (beq_iff_eq.mp M.fn) (codeAny_mono (F.run _ X.stack _ _ ⟨Value.ref (s.heap.objs.size + 1) :: us, []⟩ (Value.ref (s.heap.objs.size + 1) :: (us ++ ds)) _ _ (E σ) (hr.make C us [])
    (I2.env0.make C us []) (hb _ (Value.ref (s.heap.objs.size + 1) :: us) I2.kIn hl) r2 hq) fun r s' hq' => ?_))
  cases r with
  | error e => exact hx pins _ _ e s' I2 hq'
  | ok fl =>
    cases fl with
    | ret u =>
      obtain ⟨v, H', I3, rv, ev, q3⟩ := I2.after hq'
      subst ev
      exact ⟨rv, ⟨V.ref (s.heap.objs.size + 1), H', I3, rfl, q3⟩⟩
    | next => exact False.elim hq'
    | brk => exact False.elim hq'
    | cont => exact False.elim hq'
theorem pe_makeS (M : Mk X.K C f) (F : FnOk X.prog X.w X.K X.mg X.base CX k f fd ps sp) (hr : Room (k + 1) X.A) (hg : Gl X x) (hm : X.mg x = some (.ref C)) (hb : Binds X.K fd ps ds) (hd : Vals dvs ds) (hx : ∀ σ, PassesAt CX X σ (E σ))
    (ha : PA X (e :: es) t) (hdb : (x == ("__debug__" : Str)) = false := by decide) (he : starEach (e :: es) X.env = (false, eval e X.env) :: starEach es X.env := by rfl) (hpl : (backTo pos (starEach es X.env)).any (·.1) = false := by rfl) :
    PE X (.Call (.Name x p) (e :: es) [] pos) (tMakeS C sp dvs E t) := by
  refine ⟨fun pins s σ H Q I h => ?_⟩
  refine wpAny_Call_Name_kw (ld_glob I hg hm ?_ hdb)
  refine PySem.W.callWith_K (h₀ := X.base) I.ok.mod.kin M.kp (thn (ha.run pos pins s σ H _ I h) fun us s1 ⟨vs, H1, I1, r, q⟩ => ⟨I1.kIn, ?_⟩) he hpl
  exact run_makeS M F hr hb hd (hx σ) I1 r q
theorem run_makeKS {pins : List (Addr × Obj)} {σ : L2.St} {H : Hp} {s : Shared} {Q : VK} {us ws : List Value} {vs zs : List V} (M : Mk X.K C f) (F : FnOk X.prog X.w X.K X.mg X.base CX k f fd ps sp) (hr : Room (k + 1) X.A) (hb : KBn X.K fd ps (n + 1) ks g gV) (hx : PassesAt CX X σ (E σ))
    (I : Inv X pins σ H s) (r : Vals vs us) (rz : Vals zs ws) (l1 : vs.length = n) (l2 : zs.length = ks.length)
    (h : ∀ x dx, H x = none → H dx = none → dx ≠ x → sp (gV (.ref x :: vs) zs) (upd (upd H dx (.own x)) x (.ins C dx [])) (fun v H2 => v = .non ∧ Q (.ref x) H2) (E σ)) :
    wpAny (model X.prog X.w) X.A (call (.ref C) us (ks.zip ws)) (EP X pins σ Q) X.xe s := by
  have hq := h (s.heap.objs.size + 1) s.heap.objs.size (I.hok.fresh (Nat.le_succ _)) (I.hok.fresh (Nat.le_refl _)) (Nat.ne_of_lt (Nat.lt_succ_self _))
  have I2 := Inv.made (C := C) I
  have r1 : Vals (V.ref (s.heap.objs.size + 1) :: vs) (Value.ref (s.heap.objs.size + 1) :: us) := .cons rfl r
  have r2 := hb.rel r1 rz
  have n1 : (Value.ref (s.heap.objs.size + 1) :: us).length = n + 1 := by
    rw [List.length_cons, ← r.length, l1]
  refine wpAny_call (make_map (f := f) I.kIn M.makes M.init (beq_iff_eq.mp M.fn) (codeAny_mono (F.run _ X.stack _ _ ⟨Value.ref (s.heap.objs.size + 1) :: us, ks.zip ws⟩ (g (Value.ref (s.heap.objs.size + 1) :: us) ws) _ _ (E σ) (hr.make C us (ks.zip ws))
    (I2.env0.make C us (ks.zip ws)) (hb.to _ (Value.ref (s.heap.objs.size + 1) :: us) ws I2.kIn n1 (rz.length.symm.trans l2)) r2 hq) fun r s' hq' => ?_))
  cases r with
  | error e => exact hx pins _ _ e s' I2 hq'
  | ok fl =>
    cases fl with
    | ret u =>
      obtain ⟨v, H', I3, rv, ev, q3⟩ := I2.after hq'
      subst ev
      exact ⟨rv, ⟨V.ref (s.heap.objs.size + 1), H', I3, rfl, q3⟩⟩
    | next => exact False.elim hq'
    | brk => exact False.elim hq'
    | cont => exact False.elim hq'
/-- C(k = v, ..) -/
theorem pe_makeKS0 (M : Mk X.K C f) (F : FnOk X.prog X.w X.K X.mg X.base CX k f fd ps sp) (hr : Room (k + 1) X.A) (hg : Gl X x) (hm : X.mg x = some (.ref C)) (hb : KBn X.K fd ps 1 ks g gV) (hx : ∀ σ, PassesAt CX X σ (E σ)) (hkw : PK X kws tk)
    (hall : (backToKw pos (keywordEach kws X.env)).all (·.1.isSome) = true := by rfl) (hks : (backToKw pos (keywordEach kws X.env)).filterMap (·.1) = ks := by rfl) (hdb : (x == ("__debug__" : Str)) = false := by decide)
    (hpl : ((backTo pos (starEach [] X.env)).any (·.1) || (backToKw pos (keywordEach kws X.env)).any (·.1.isNone)) = false := by rfl) :
    PE X (.Call (.Name x p) [] kws pos) (tMakeKS C 0 ks.length sp gV E tNil tk) := by
  refine ⟨fun pins s σ H Q I h => ?_⟩
  refine wpAny_Call_Name_kw (ld_glob I hg hm ?_ hdb)
  refine PySem.W.callWith_KW0 (h₀ := X.base) I.ok.mod.kin M.kp hall ?_ hpl
  refine thn (hkw.run pos pins s σ H _ I h) fun ws s2 ⟨zs, H2, I2, rz, l1, l2, q2⟩ => ⟨I2.kIn, ?_⟩
  rw [hks]
  exact run_makeKS (us := []) (vs := []) M F hr hb (hx σ) I2 .nil rz rfl l2 q2
end
end Exv

end

section
/-! Grd: repr of data; defs that are called where nothing is being shown (guards), their calls, the law's own call. -/
namespace Grd
open PySem PySem.Spec PyProof.Rows L2
open PySem.Sem (wp)

/-- a value without parts -/
def leafD : V → PyData
  | .non => .none
  | .bl b => .bool b
  | .int i => .int i
  | .str z => .str z
  | _ => .none
def isLeaf : V → Bool
  | .non | .bl _ | .int _ | .str _ => true
  | _ => false
/-- data with a dict at most at its head -/
inductive DpX (K : PySem.W.Frag) (H : Hp) : V → PyData → Prop
  | of {v : V} {d : PyData} : Dp K H v d → DpX K H v d
  | dict {a : Addr} {kvs : List (Key × V)} : H a = some (.dK kvs) → (∀ kv ∈ kvs, isLeaf kv.2 = true) → DpX K H (.ref a) (.dict (kvs.map fun kv => (leafD (kV kv.1), leafD kv.2)))

mutual
theorem noDict {K : PySem.W.Frag} {H : Hp} : ∀ (d : PyData) (v : V), Dp K H v d → d.hasDict = false
  | .none, _, _ => by simp only [PyData.hasDict]
  | .bool _, _, _ => by simp only [PyData.hasDict]
  | .int _, _, _ => by simp only [PyData.hasDict]
  | .str _, _, _ => by simp only [PyData.hasDict]
  | .list ds, _, h => by
    cases h with
    | lst hs ha => simp only [PyData.hasDict]; exact noDictAll ds _ ha
  | .tuple ds, _, h => by
    cases h with
    | tup hs ha => simp only [PyData.hasDict]; exact noDictAll ds _ ha
  | .dict _, _, h => by cases h
theorem noDictAll {K : PySem.W.Frag} {H : Hp} : ∀ (ds : List PyData) (vs : List V), DpAll K H vs ds → PyData.hasDictAll ds = false
  | [], _, _ => by simp only [PyData.hasDictAll]
  | d :: ds, _, h => by
    cases h with
    | cons h1 h2 => simp only [PyData.hasDictAll, noDict d _ h1, noDictAll ds _ h2, Bool.or_self]
end

theorem reads_leaf {h : Heap} {v : V} {u : Value} (hl : isLeaf v = true) (r : RelV v u) : Reads h u (leafD v) [] := by
  cases v with
  | non => cases r; exact .none
  | bl b => cases r; exact .bool b
  | int i => obtain ⟨t, rfl⟩ := r; exact .int i t
  | str z => obtain ⟨t, rfl⟩ := r; exact .str z t
  | _ => cases hl
theorem reads_pairs {P : Program} {w : World} {h : Heap} : ∀ {kvs : List (Key × V)} {vs : List (Key × Value)} {es : List DictEntry}, (∀ kv ∈ kvs, isLeaf kv.2 = true) → KV kvs vs → Pairs (mixKind P w) es vs →
    ReadsAll h (es.map (·.key)) ((kvs.map fun kv => (leafD (kV kv.1), leafD kv.2)).map (·.1)) [] ∧ ReadsAll h (es.map (·.val)) ((kvs.map fun kv => (leafD (kV kv.1), leafD kv.2)).map (·.2)) [] := by
  intro kvs
  induction kvs with
  | nil =>
    intro vs es _ r p
    cases r
    cases p
    exact ⟨.nil, .nil⟩
  | cons kv kvs ih =>
    intro vs es hl r p
    cases r with
    | cons r1 r2 =>
      cases p with
      | cons p1 p2 p3 =>
        obtain ⟨i1, i2⟩ := ih (fun x m => hl x (List.mem_cons_of_mem _ m)) r2 p3
        obtain ⟨e1, e2⟩ := r1
        refine ⟨ReadsAll.cons (as := []) (bs := []) ?_ i1, ReadsAll.cons (as := []) (bs := []) ?_ i2⟩
        · dsimp only
          rw [mixKind_is] at p1
          rcases keyIs_shape p1 with ⟨i, t, ek, eu⟩ | ⟨x, t, ek, eu⟩
          · rw [e1, ek, eu]; exact .int i t
          · rw [e1, ek, eu]; exact .str x t
        · dsimp only
          rw [p2]
          exact reads_leaf (hl kv (List.mem_cons_self ..)) e2

section
variable {X : Cx}
def rRepr (K : PySem.W.Frag) : List V → Hp → VK → Prop := fun xs H Q => ∃ v d, xs = [v] ∧ DpX K H v d ∧ d.showable = true ∧ d.shown.length ≤ sizeLine ∧ d.depth ≤ 60 ∧ Q (.str d.shown) H
theorem call_reprD (hg : X.A.guards = some []) (hu : X.A.units + 64 < cLine) : CallR X (.builtin "repr") (rRepr X.K) := by
  intro pins s σ H xs us Q I r h
  obtain ⟨v, d, rfl, hd, hs, hz, hk, q⟩ := h
  obtain ⟨u, rfl, rv⟩ := vals1 r
  have fin : ∀ (a : Addr) (as : List Addr), Reads s.heap (.ref a) d as → (d.hasDict = true → sysModules ∉ as) →
      wpAny (model X.prog X.w) X.A (call (.builtin "repr") [.ref a]) (EP X pins σ Q) X.xe s := fun a as rd hsm =>
    repr_of_reads' rd hs hsm hg (by omega) (fun _ _ e => e) (fun h' u tk k => ⟨.str d.shown, H, I.kept k, ⟨_, rfl⟩, q⟩) hz
  cases hd with
  | of hd =>
    cases hd with
    | non => cases rv; exact PySem.P.repr_of_none ⟨.str _, H, I.tok _, ⟨_, rfl⟩, by simpa only [PyData.shown] using q⟩
    | bl b => cases rv; exact PySem.P.repr_of_bool ⟨.str _, H, I.tok _, ⟨_, rfl⟩, by simpa only [PyData.shown] using q⟩
    | int i =>
      obtain ⟨t, rfl⟩ := rv
      exact PySem.P.repr_of_int (by simpa [PyData.showable] using hs) ⟨.str _, H, I.tok _, ⟨_, rfl⟩, by simpa only [PyData.shown] using q⟩
    | str z =>
      obtain ⟨t, rfl⟩ := rv
      exact PySem.P.repr_of_str ⟨.str _, H, I.tok _, ⟨_, rfl⟩, by simpa only [PyData.shown] using q⟩ (by simpa only [PyData.shown] using hz)
    | lst a b =>
      cases rv
      obtain ⟨as, rd⟩ := Dp.reads I _ _ _ (Dp.lst a b) rfl
      exact fin _ as rd (PyData.noDict_hsm (noDict _ _ (Dp.lst a b)))
    | tup a b =>
      cases rv
      obtain ⟨as, rd⟩ := Dp.reads I _ _ _ (Dp.tup a b) rfl
      exact fin _ as rd (PyData.noDict_hsm (noDict _ _ (Dp.tup a b)))
  | dict ha hl =>
    cases rv
    obtain ⟨_, hsy, vs, rkv, o, es, ep, e1, e2, e3, _, e5, _⟩ := I.hok _ _ ha
    obtain ⟨r1, r2⟩ := reads_pairs (h := s.heap) hl rkv e5
    refine fin _ _ (Reads.dict e1 e2.1 e3 r1 r2) (fun _ m => ?_)
    rcases List.mem_append.mp m with m | m
    · rcases List.mem_cons.mp m with m | m
      · rw [← m] at hsy; exact absurd hsy (by decide)
      · cases m
    · cases m
theorem rd_repr {K : PySem.W.Frag} {H : Hp} {Q : VK} {v : V} {d : PyData} (h : DpX K H v d) (hs : d.showable = true) (hz : d.shown.length ≤ sizeLine) (hk : d.depth ≤ 60) (q : Q (.str d.shown) H) : rRepr K [v] H Q := ⟨v, d, rfl, h, hs, hz, hk, q⟩
end

/-! ### defs called while nothing is being shown -/
structure FnG (P : Program) (w : World) (K : PySem.W.Frag) (mg : Str → Option Value) (base : Heap) (CX : CXT) (k : Nat) (f : Addr) (fd : FuncData) (ps : List Str) (sp : Sp) : Prop where
  many : ∀ vs H Q E, sp vs H Q E → vs.length = ps.length
  goes : ∀ (A : Around) (below : List Env) (s : Shared) (H : Hp) (given : Args) (us : List Value) (vs : List V) (Q : VK) (E : XK), A.guards = some [] → Room k A → Env0 P w K mg base A below s H → BindsTo s fd given (ps.zip us) →
    Vals vs us → sp vs H Q E → codeAny (model P w) A (.call (.ref f) given) (CR CX below P w H s Q E) s

section
variable {X : Cx} {CX : CXT} {k : Nat} {f : Addr} {fd : FuncData} {ps : List Str} {sp : Sp} {dvs : List V} {ds : List Value} {E : XK} {x : Str} {p pos : Pos} {e : Expr} {es : List Expr} {t : TA}
theorem run_g {pins : List (Addr × Obj)} {σ : L2.St} {H : Hp} {s : Shared} {Q : VK} {us : List Value} {vs : List V} (hG : X.A.guards = some []) (F : FnG X.prog X.w X.K X.mg X.base CX k f fd ps sp) (room : Room k X.A) (hb : Binds X.K fd ps ds)
    (hd : Vals dvs ds) (hx : Passes CX X E) (I : Inv X pins σ H s) (r : Vals vs us) (h : sp (vs ++ dvs) H Q E) : wpAny (model X.prog X.w) X.A (call (.ref f) us) (EP X pins σ Q) X.xe s := by
  have both : Vals (vs ++ dvs) (us ++ ds) := r.append hd
  have cnt : (us ++ ds).length = ps.length := by
    rw [← both.length]
    exact F.many _ _ _ _ h
  refine wpAny_call (codeAny_mono (F.goes X.A X.stack s H ⟨us, []⟩ _ _ Q E hG room I.env0 (hb s us I.kIn cnt) both h) ?_)
  rintro (e | fl) s' hq
  · exact hx pins σ H s e s' I hq
  · cases fl with
    | ret u => exact I.after hq
    | _ => exact False.elim hq
theorem pe_callG (hG : X.A.guards = some []) (F : FnG X.prog X.w X.K X.mg X.base CX k f fd ps sp) (room : Room k X.A) (hg : Gl X x) (hm : X.mg x = some (.ref f)) (hk : PySem.W.keepIn X.K (.ref f) = true) (hb : Binds X.K fd ps ds) (hd : Vals dvs ds)
    (hx : Passes CX X E) (ha : PA X (e :: es) t) (hdb : (x == ("__debug__" : Str)) = false := by decide) (he : starEach (e :: es) X.env = (false, eval e X.env) :: starEach es X.env := by rfl)
    (hpl : (backTo pos (starEach es X.env)).any (·.1) = false := by rfl) : PE X (.Call (.Name x p) (e :: es) [] pos) (tCall sp dvs E t) := by
  constructor
  intro pins s σ H Q I h
  refine wpAny_Call_Name_kw (ld_glob I hg hm ?_ hdb)
  refine PySem.W.callWith_K (h₀ := X.base) I.ok.mod.kin hk (thn (ha.run pos pins s σ H _ I h) ?_) he hpl
  rintro us s1 ⟨vs, H1, I1, r, q⟩
  exact ⟨I1.kIn, run_g hG F room hb hd hx I1 r q⟩
theorem pe_callG0 (hG : X.A.guards = some []) (F : FnG X.prog X.w X.K X.mg X.base CX k f fd ps sp) (room : Room k X.A) (hg : Gl X x) (hm : X.mg x = some (.ref f)) (hk : PySem.W.keepIn X.K (.ref f) = true) (hb : Binds X.K fd ps ds) (hd : Vals dvs ds)
    (hx : Passes CX X E) (hdb : (x == ("__debug__" : Str)) = false := by decide) : PE X (.Call (.Name x p) [] [] pos) (tCall sp dvs E tNil) := by
  constructor
  intro pins s σ H Q I h
  refine wpAny_Call_Name_kw (ld_glob I hg hm ?_ hdb)
  exact PySem.W.callWith_K0 I.kIn hk (run_g (us := []) hG F room hb hd hx I .nil h)
end

/-- a def by its body -/
theorem g_of {CX : CXT} {P : Program} {w : World} {K : PySem.W.Frag} {mg : Str → Option Value} {base : Heap} {k : Nat} {f : Addr} {name qual : Str} {params : Arguments} {body : List Stmt} {scope : Scope} {dV kV doc pm cdv ct oc : Value} {an od : Option Addr}
    {osl : Array (Option Value)} {N ps : List Str} {sp : Sp} (at_ : K.lookup f = some ⟨oc, od, .func (PySem.W.fnOf name qual params body scope dV kV doc pm an cdv ct), osl⟩) (code : PySem.W.codeIn K cdv qual = true) (S : FnScope N ps scope)
    (many : ∀ vs H Q E, sp vs H Q E → vs.length = ps.length)
    (body_ : ∀ (A : Around) (below : List Env) (s : Shared) (H : Hp) (vs : List V) (Q : VK) (E : XK), A.guards = some [] → Room k (A.deeper (envOfC qual scope s.heap.objs.size f cdv)) → sp vs H Q E →
      ∃ t, PSs (cxOf CX P w K mg base N qual scope f cdv A below s H E) body t ∧ t { nx := fun _ H' => Q .non H', rt := Q } (start N vs) H) :
    FnG P w K mg base CX (k + 1) f (PySem.W.fnOf name qual params body scope dV kV doc pm an cdv ct) ps sp := by
  constructor
  · exact many
  · intro A below s H given us vs Q E hg room e0 hb rel hsp
    have hl := many _ _ _ _ hsp
    have keep : ∀ b o, base.get? b = some o → s.heap.get? b = some o := fun b o e => (e0.bs b o e).1
    have KX : K.In s.heap := e0.mod.kin.keeps keep
    have hpar : ∀ y ∈ ps.zip us, scope.names.lookup y.1 = some .local ∨ (scope.names.lookup y.1 = some .cell ∧ ((cellsFrom (s.heap.objs.size + 1) scope.names []).lookup y.1).isSome = true) := by
      rintro ⟨n, v⟩ hy
      rcases S.par n (List.of_mem_zip hy).1 with q | q
      · exact Or.inl q
      · exact Or.inr ⟨q, PySem.W.cellsFrom_some _ _ _ (.inl q)⟩
    refine codeAny_call_function room.depth (KX _ _ at_) rfl S.co S.gen rfl (PySem.W.codeRec_of KX code) (hb _ _ _ _ ?_)
    refine wpAny_newFunctionEnv_cells S.kind hpar ?_
    rintro env rfl s1 x
    refine ⟨(e0.mod.nolimit.keeps keep).keeps x.toInCall.keep, codeAny_func ?_⟩
    obtain ⟨t, ht, hq⟩ := body_ A below s H vs Q E hg (room.deeper _) hsp
    refine wpAny_mono (ht.run [] s1 (start N vs) H _ (inv_start S room.hd e0 hl rel x) hq) ?_ (fun _ _ hs => hs)
    have fin : ∀ {σ' : L2.St} {H' : Hp} {v : V} {u : Value} {s' : Shared}, Inv (cxOf CX P w K mg base N qual scope f cdv A below s H E) [] σ' H' s' → RelV v u → Q v H' → CE below P w H s Q u s' :=
      fun {σ' H' v u s'} J rv q => ⟨v, H', J.os, J.bare, J.base, J.hok, rv, q⟩
    rintro (_ | _ | _ | u) s' hs
    all_goals first
      | (obtain ⟨σ', H', J, q⟩ := hs; exact fin (v := V.non) (u := Value.none) J rfl q)
      | (obtain ⟨v, σ', H', J, rv, q⟩ := hs; exact fin J rv q)
      | (obtain ⟨_, _, _, q⟩ := hs; exact False.elim q)
section
variable {P : Program} {w : World} {K : PySem.W.Frag} {mg : Str → Option Value} {base : Heap} {x qual : Str} {st : Stmt} {f : Addr} {fd : FuncData} {N ps : List Str} {k : Nat} {sp : Sp}
theorem fun_okG (F : Fun K x qual st f fd) (S : FnScope N ps (defScope st)) (many : ∀ vs H Q E, sp vs H Q E → vs.length = ps.length)
    (body_ : ∀ (cdv : Value) (A : Around) (below : List Env) (s : Shared) (H : Hp) (vs : List V) (Q : VK) (E : XK), A.guards = some [] → Room k (A.deeper (envOfC qual (defScope st) s.heap.objs.size f cdv)) → sp vs H Q E →
      ∃ t, PSs (cxOf CX0 P w K mg base N qual (defScope st) f cdv A below s H E).nox (defBody st) t ∧ t { nx := fun _ H' => Q .non H', rt := Q } (start N vs) H) : FnG P w K mg base CX0 (k + 1) f fd ps sp := by
  obtain ⟨oc, od, kV, doc, pm, an, cdv, ct, osl, rfl, l, c⟩ := F.ex
  refine g_of l c S many ?_
  intro A below s H vs Q E hg room hsp
  obtain ⟨t, h, q⟩ := body_ cdv A below s H vs Q E hg room hsp
  exact ⟨t, h.nox, q⟩
end
/-! ### the law's own call -/
section
variable {P : Program} {w : World} {K : PySem.W.Frag} {mg mb : Str → Option Value} {CX : CXT} {k : Nat} {fa a : Addr} {fd : FuncData} {x : Str} {sp : Sp} {s : Shared} {vs : List Value} {ns : List Int}
/-- with the script tracked by H: nothing else is -/
theorem calls_with (inK : K.In s.heap) (gl : s.heap.Ns mainGlobals mg) (bl : s.heap.Ns builtinsNs mb) (bv : ∀ y : Str, y ≠ "__name__" → mb y = bootBuiltins y) (nl : s.heap.NoLimit) (ng : s.gens = #[])
    (lst : s.heap.get? a = some { cls := .type "list", data := .seq vs.toArray }) (room : Room k callerA) (F : ∀ base : Heap, K.In base → base.Ns mainGlobals mg → FnG P w K mg base CX k fa fd [x] sp)
    (bd : ∀ (s : Shared) (u : Value), BindsTo s fd ⟨[u], []⟩ [(x, u)]) (noX : ∀ H e s', CX [] H s (fun _ _ _ => False) e s' → False)
    (H : Hp) (only : ∀ b u, H b = some u → b = a ∧ K.lookup a = none ∧ ∃ o xs, u = .frz o (.lst xs)) (ok : HOk P w H s.heap) (spH : sp [.ref a] H (fun v _ => v = .bl true) fun _ _ _ => False) :
    codeAny (model P w) callerA (.call (.ref fa) ⟨[.ref a], []⟩) (fun r s' => r = .ok (.ret (.bool true)) ∧ OldK s.heap s'.heap ∧ s'.os = s.os ∧ AllBare s'.gens) s := by
  have apart : ∀ {b : Addr} {o : Obj}, s.heap.get? b = some o → b ≠ a ∨ H a = none → (hidT s.heap H).get? b = some o := by
    intro b o e n
    refine hidT_get e ?_
    cases q : H b with
    | none => rfl
    | some u =>
      have z := (only b u q).1
      subst z
      rcases n with n | n
      · exact absurd rfl n
      · rw [q] at n; cases n
  have ns_ : ∀ {b : Addr} {m : Str → Option Value}, s.heap.Ns b m → (hidT s.heap H).Ns b m := by
    rintro b m ⟨o, es, ep, e, d, r⟩
    refine ⟨o, es, ep, apart e (.inl ?_), d, r⟩
    rintro rfl
    rw [lst] at e
    cases e
    cases d
  have kB : K.In (hidT s.heap H) := by
    intro b o e
    refine apart (inK b o e) ?_
    cases q : H a with
    | none => exact .inr rfl
    | some u =>
      refine .inl ?_
      rintro rfl
      rw [(only _ _ q).2.1] at e
      cases e
  have lim : (hidT s.heap H).NoLimit := by
    obtain ⟨mc, l1, l2⟩ := nl
    exact ⟨mc, ns_ l1, l2⟩
  have env : Env0 P w K mg (hidT s.heap H) callerA [] s H := ⟨rfl, ⟨kB, ns_ gl, ⟨mb, ns_ bl, bv⟩, lim⟩, fun b o e => of_hidT e, Nat.le_of_eq (hidT_size _ _), trivial, (fun _ m => nomatch m), ok, .of_eq ng⟩
  refine codeAny_mono ((F _ kB (ns_ gl)).goes callerA [] s H ⟨[.ref a], []⟩ [.ref a] [.ref a] _ _ rfl room env (bd s (.ref a)) (.cons rfl .nil) spH) ?_
  rintro (e | fl) s' h
  · exact (noX H e s' h).elim
  · cases fl with
    | ret u =>
      obtain ⟨v, H', os, bare, un, ok', rv, q⟩ := h
      have q : v = .bl true := q
      subst q
      cases rv
      refine ⟨rfl, OldK.of_keep ?_, os, bare⟩
      intro b o e
      cases q : H b with
      | none => exact un.keep b o e q (fun z => nomatch z) (fun z => nomatch z)
      | some u =>
        obtain ⟨_, _, ob, xs, rfl⟩ := only b u q
        have e1 := (ok b _ q).1
        have e2 := (ok' b _ (un.frzs b ob _ q)).1
        rw [e] at e1
        cases e1
        exact e2
    | _ => exact False.elim h
theorem law_goes (inK : K.In s.heap) (gl : s.heap.Ns mainGlobals mg) (bl : s.heap.Ns builtinsNs mb) (bv : ∀ y : Str, y ≠ "__name__" → mb y = bootBuiltins y) (nl : s.heap.NoLimit) (ng : s.gens = #[])
    (lst : s.heap.get? a = some { cls := .type "list", data := .seq vs.toArray }) (hints : IntsAre vs ns) (len : ns.length ≤ sizeLine) (room : Room k callerA) (F : ∀ base : Heap, K.In base → base.Ns mainGlobals mg → FnG P w K mg base CX k fa fd [x] sp)
    (bd : ∀ (s : Shared) (u : Value), BindsTo s fd ⟨[u], []⟩ [(x, u)]) (noX : ∀ H e s', CX [] H s (fun _ _ _ => False) e s' → False)
    (spA : ∀ H : Hp, SqL K H a (ns.map V.int) → sp [.ref a] H (fun v _ => v = .bl true) fun _ _ _ => False) :
    codeAny (model P w) callerA (.call (.ref fa) ⟨[.ref a], []⟩) (fun r s' => r = .ok (.ret (.bool true)) ∧ OldK s.heap s'.heap ∧ s'.os = s.os ∧ AllBare s'.gens) s := by
  have rv := vals_ints hints
  have many := hints.length
  cases own : K.lookup a with
  | some o =>
    have e := inK a o own
    rw [lst] at e
    cases e
    refine calls_with inK gl bl bv nl ng lst room F bd noX (fun _ => none) (fun _ _ z => nomatch z) (fun _ _ z => nomatch z) (spA _ ?_)
    exact Or.inr ⟨_, vs.toArray, _, own, rfl, rfl, rfl, by rw [List.size_toArray, many]; exact len, by simpa using rv⟩
  | none =>
    have spot : (upd (fun _ => none) a (.frz { cls := .type "list", data := .seq vs.toArray } (.lst (ns.map V.int)))) a = some (.frz { cls := .type "list", data := .seq vs.toArray } (.lst (ns.map V.int))) := upd_same
    have alone : ∀ (b : Addr) (u : HO), (upd (fun _ => none) a (.frz { cls := .type "list", data := .seq vs.toArray } (.lst (ns.map V.int)))) b = some u → b = a ∧ u = .frz { cls := .type "list", data := .seq vs.toArray } (.lst (ns.map V.int)) := by
      intro b u z
      by_cases hb : b = a
      · subst hb
        rw [spot] at z
        cases z
        exact ⟨rfl, rfl⟩
      · rw [upd_ne hb] at z
        cases z
    refine calls_with inK gl bl bv nl ng lst room F bd noX _ ?_ ?_ (spA _ (.inl (.inr ⟨_, spot⟩)))
    · intro b u z
      obtain ⟨e1, e2⟩ := alone b u z
      exact ⟨e1, own, _, _, e2⟩
    · intro b u z
      obtain ⟨rfl, rfl⟩ := alone b u z
      exact ⟨lst, by rw [List.length_map]; exact len, vs, _, rv, lst⟩
end
theorem walkG {l : PySem.W.OpenLaw} {n k : Nat} {q : Program} {loose : List Str} {XP : (Str → Option Value) → Heap → Prop} {YP : World → Heap → Prop} {d : DefRec} {K : Params → PySem.W.Frag} {sp : PySem.W.Frag → Sp} {x : Str}
    (hn : l.most = some n) (hn2 : n ≤ sizeLine) (hdf : d.params.defaults = []) (room : Room k callerA) (hY : ∀ (w : World) (h : Heap), YP w h → (K w.params).In h)
    (F : ∀ (w : World) (mg : Str → Option Value) (fa : Addr) (h : Heap), (K w.params).In h → h.Ns mainGlobals mg → mg d.name = some (.ref fa) →
      ∃ fd : FuncData, (∀ (s : Shared) (u : Value), BindsTo s fd ⟨[u], []⟩ [(x, u)]) ∧ ∀ base : Heap, (K w.params).In base → base.Ns mainGlobals mg → FnG l.prog w (K w.params) mg base CX0 k fa fd [x] (sp (K w.params)))
    (spA : ∀ (K : PySem.W.Frag) (H : Hp) (a : Addr) (ns : List Int), ns.length ≤ n → SqL K H a (ns.map V.int) → sp K [.ref a] H (fun v _ => v = .bl true) fun _ _ _ => False) :
    PySem.W.WalkO q loose XP YP l.row.toRowW d [] (fun f vs => PySem.call f vs) := by
  refine Att.attach_call hn hdf ?_
  intro w s₀ s₁ mg mb fa o pm cd doc a vs ns G Y ho hd hcd hmg hobj hints hlen hg
  have inK := hY w _ Y
  obtain ⟨fd, bd, hF⟩ := F w mg fa _ inK G.T.g hmg
  exact law_goes inK G.T.g G.T.b G.T.builtins G.T.nolimit hg hobj hints (Nat.le_trans hlen hn2) room hF bd (fun _ _ _ z => z) (fun H hS => spA _ H a ns hlen hS)
end Grd

end

section
namespace Lay
open PySem L2 PySem.Spec PyProof.Rows Exv
/-! ### text * number -/
def repS (z : Str) (n : Nat) : Str := ⟨(List.replicate n z.cps).foldl (· ++ ·) #[]⟩
def rMulS : R2 := fun x y H Q => ∃ z k, x = .str z ∧ y = .int k ∧ 1 ≤ k ∧ z.length * k.toNat ≤ 100000 ∧ k ≤ 100000 ∧ Q (.str (repS z k.toNat)) H
theorem rd_mulS {z : Str} {k : Int} {H : Hp} {Q : VK} (h1 : 1 ≤ k) (h2 : z.length * k.toNat ≤ 100000) (h3 : k ≤ 100000) (q : Q (.str (repS z k.toNat)) H) : rMulS (.str z) (.int k) H Q := ⟨z, k, rfl, rfl, h1, h2, h3, q⟩
theorem repS_len (z : Str) (n : Nat) : (repS z n).length = z.length * n := by
  have key : ∀ (n : Nat) (b : Array Nat), ((List.replicate n z.cps).foldl (· ++ ·) b).size = b.size + z.length * n := by
    intro n
    induction n with
    | zero => intro b; simp
    | succ n ih =>
      intro b
      rw [List.replicate_succ, List.foldl_cons, ih, Array.size_append, Nat.mul_succ]
      have : z.cps.size = z.length := rfl
      omega
  have := key n #[]
  rw [show (#[] : Array Nat).size = 0 from rfl, Nat.zero_add] at this
  exact this
theorem repS_one (z : Str) : repS z 1 = z := by
  unfold repS
  simp
theorem repS_zero {z : Str} (h : z.length = 0) (n : Nat) : repS z n = z := by
  have e : z.cps = #[] := Array.eq_empty_of_size_eq_zero h
  unfold repS
  obtain ⟨c⟩ := z
  cases e
  have : ∀ n : Nat, (List.replicate n (#[] : Array Nat)).foldl (· ++ ·) #[] = #[] := by
    intro n
    induction n with
    | zero => rfl
    | succ n ih => rw [List.replicate_succ, List.foldl_cons]; exact ih
  rw [this]
theorem op_mulS {X : Cx} : OpR X (binaryOp .Mult) rMulS := by
  intro pins s σ H x y v u Q I rx ry h
  obtain ⟨z, k, rfl, rfl, h1, h2, h3, q⟩ := h
  obtain ⟨t, rfl⟩ := rx
  obtain ⟨t', rfl⟩ := ry
  have hr : (decide (k < -(2 ^ 63 : Int)) || decide (k ≥ 2 ^ 63)) = false := by
    rw [decide_eq_false (by omega), decide_eq_false (by omega)]; rfl
  refine PySem.P.mul_str hr (fun _ _ => ?_) (fun _ _ => ?_) ?_
  · have h4 : (z.length : Int) ≤ 100000 := by
      have : z.length * 1 ≤ z.length * k.toNat := Nat.mul_le_mul_left _ (by omega)
      omega
    have : (100000 : Int) ≤ (2 ^ 63 - 1) / k := by
      refine Int.le_ediv_of_mul_le (by omega) ?_
      omega
    omega
  · unfold PySem.Builtin.Str.tooLong
    have := (show (100000 : Nat) ≤ sizeLine by decide)
    simp
    omega
  · rw [if_neg (by omega : ¬ k < 1)]
    split
    · rename_i hh
      have e : repS z k.toNat = z := by
        rcases Bool.or_eq_true_iff.mp hh with e | e
        · have e' := beq_iff_eq.mp e
          subst e'
          exact repS_one z
        · exact repS_zero (beq_iff_eq.mp e) _
      rw [e] at q
      exact ⟨.str z, H, I, ⟨_, rfl⟩, q⟩
    · exact ⟨by have e := repS_len z k.toNat; unfold repS at e; rw [e]; exact Nat.le_trans h2 (by decide), .str _, H, I.tok _, ⟨_, rfl⟩, q⟩
end Lay

end

section
namespace Lay
open PySem L2 PySem.Spec PyProof.Rows Exv
theorem kit_ownB {K : PySem.W.Frag} {C : Addr} {T : String} {b : Bool} (h : PySem.W.subIn K (.ref C) (.type T) = some b) (m : PySem.W.kitMeta T = true := by decide +kernel) : PySem.W.kitOne K (.ref C) (.type T) = some b := by
  unfold PySem.W.kitOne
  rw [if_neg (fun z => by cases eq_of_beq z)]
  unfold PySem.W.kitCls
  dsimp only
  rw [if_pos m]
  exact h
/-- an error of the class C that is kept, with its fields -/
def ErrAt (C : Addr) (H : Hp) (a : Addr) (fs : List (Str × V)) : Prop := ∃ d, H a = some (exv a (.ref C) (some d)) ∧ H d = some (.xd fs)
theorem ErrAt.mono {C : Addr} {H H' : Hp} {a : Addr} {fs : List (Str × V)} (s : Same H H') (h : ErrAt C H a fs) : ErrAt C H' a fs := by
  obtain ⟨d, h1, h2⟩ := h
  exact ⟨d, s _ _ h1, s _ _ h2⟩
theorem ErrAt.keep {C : Addr} {H H' : Hp} {p a : Addr} {fs : List (Str × V)} {xs : List V} (hp : H p = some (.lst xs)) (s : Keep p H H') (h : ErrAt C H a fs) : ErrAt C H' a fs := by
  obtain ⟨d, h1, h2⟩ := h
  refine ⟨d, s _ _ (fun z => ?_) h1, s _ _ (fun z => ?_) h2⟩
  · subst z; rw [h1] at hp; cases hp
  · subst z; rw [h2] at hp; cases hp
theorem ErrAt.ty {K : PySem.W.Frag} {C : Addr} {H : Hp} {a : Addr} {fs : List (Str × V)} (c : ExcC K C) (h : ErrAt C H a fs) : TyW K H (.ref a) (.ref C) := by
  obtain ⟨d, h1, h2⟩ := h
  exact .exc h1 h2 c
theorem rd_err {K : PySem.W.Frag} {C : Addr} {n : Str} {te : TE} {σ : L2.St} {H H1 : Hp} {Q : VK} {a : Addr} {fs : List (Str × V)} {v : V} (T : XfC K C) (hn : PySem.W.findIn K (.ref C) n = some none) (l : fs.lookup n = some v) (h : ErrAt C H1 a fs) (q : Q v H1) :
    ∃ (a' C' dd : Addr) (fs : List (Str × V)) (v : V), V.ref a = .ref a' ∧ H1 a' = some (exv a' (.ref C') (some dd)) ∧ H1 dd = some (.xd fs) ∧ XfC K C' ∧ PySem.W.findIn K (.ref C') n = some none ∧ fs.lookup n = some v ∧ Q v H1 := by
  obtain ⟨d, h1, h2⟩ := h
  exact ⟨a, C, d, fs, v, rfl, h1, h2, T, hn, l, q⟩
theorem rd_xvV {K : PySem.W.Frag} {C : Addr} {n : Str} {i : Nat} {σ : L2.St} {H : Hp} {Q : VK} {a : Addr} {fs : List (Str × V)} {v : V} (h : σ[i]? = some (some (.ref a))) (e : ErrAt C H a fs) (T : XfC K C) (hn : PySem.W.findIn K (.ref C) n = some none) (l : fs.lookup n = some v) (q : Q v H) : tXv K n (tVar i) σ H Q := by
  obtain ⟨d, h1, h2⟩ := e
  exact ⟨.ref a, h, a, C, d, fs, v, rfl, h1, h2, T, hn, l, q⟩
/-! ### __init__ of an error -/
def spErr2 (C : Addr) (f1 f2 : Str) : Sp := fun vs H Q _ => ∃ a v1 v2, vs = [.ref a, v1, v2] ∧ H a = some (exo a C none) ∧
  ∀ d H2, H d = none → d ≠ a → H2 a = some (exo a C (some d)) → H2 d = some (exd d [(f2, v2), (f1, v1)]) → (∀ b o, b ≠ a → H b = some o → H2 b = some o) → Q .non H2
def spErr1 (C : Addr) (f1 : Str) : Sp := fun vs H Q _ => ∃ a v1, vs = [.ref a, v1] ∧ H a = some (exo a C none) ∧
  ∀ d H2, H d = none → d ≠ a → H2 a = some (exo a C (some d)) → H2 d = some (exd d [(f1, v1)]) → (∀ b o, b ≠ a → H b = some o → H2 b = some o) → Q .non H2
theorem rd_ost {K : PySem.W.Frag} {f : Str} {to te : TE} {D : Ends} {σ : L2.St} {H : Hp} (h : te σ H fun y H1 => to σ H1 fun x H2 => ∃ a C : Addr, x = .ref a ∧ OexC K C ∧ PySem.W.findIn K (.ref C) f = some none ∧
  ((H2 a = some (exo a C none) ∧ ∀ dx, H2 dx = none → dx ≠ a → D.nx σ (upd (upd H2 dx (exd dx [(f, y)])) a (exo a C (some dx)))) ∨
    ∃ (dx : Addr) (fs : List (Str × V)), H2 a = some (exo a C (some dx)) ∧ H2 dx = some (exd dx fs) ∧ fs.length ≤ 900 ∧ D.nx σ (upd H2 dx (exd dx ((f, y) :: fs))))) : tOst K f to te D σ H := h
/-- what a def that raises wishes of the way out: an error of the class C with these fields, all else as it was -/
def ErrW (C : Addr) (E : XK) (H : Hp) (fs : List (Str × V)) : Prop := ∀ d H', H d = none → Same H H' → H' d = some (.xd fs) → E (.ref C) (some d) H'
theorem mk_err2 {C : Addr} {f1 f2 : Str} {v1 v2 : V} {H : Hp} {Q : XK} (q : ∀ d H', H d = none → Same H H' → H' d = some (.xd [(f2, v2), (f1, v1)]) → Q (.ref C) (some d) H') :
    [v1, v2].length ≤ 1000 ∧ ∀ a, H a = none → spErr2 C f1 f2 (.ref a :: ([v1, v2] ++ [])) (upd H a (exo a C none))
      (fun v H2 => v = .non ∧ ∃ (d : Addr) (fs : List (Str × V)), H2 a = some (exo a C (some d)) ∧ H2 d = some (exd d fs) ∧ H d = none ∧ Q (.ref C) (some d) (upd (del H2 a) d (.xd fs))) (fun _ _ _ => False) := by
  refine ⟨(by show 2 ≤ 1000; decide), fun a ha => ⟨a, v1, v2, rfl, upd_same, fun d H2 hd hne e1 e2 k => ?_⟩⟩
  have hd' : H d = none := by rw [upd_ne hne] at hd; exact hd
  refine ⟨rfl, d, _, e1, e2, hd', q d _ hd' (fun b o e => ?_) upd_same⟩
  have hba : b ≠ a := fun z => by subst z; rw [ha] at e; cases e
  have hbd : b ≠ d := fun z => by subst z; rw [hd'] at e; cases e
  rw [upd_ne hbd, del_ne hba]
  exact k b o hba (by rw [upd_ne hba]; exact e)
theorem mk_err1 {C : Addr} {f1 : Str} {v1 : V} {H : Hp} {Q : XK} (q : ∀ d H', H d = none → Same H H' → H' d = some (.xd [(f1, v1)]) → Q (.ref C) (some d) H') :
    [v1].length ≤ 1000 ∧ ∀ a, H a = none → spErr1 C f1 (.ref a :: ([v1] ++ [])) (upd H a (exo a C none))
      (fun v H2 => v = .non ∧ ∃ (d : Addr) (fs : List (Str × V)), H2 a = some (exo a C (some d)) ∧ H2 d = some (exd d fs) ∧ H d = none ∧ Q (.ref C) (some d) (upd (del H2 a) d (.xd fs))) (fun _ _ _ => False) := by
  refine ⟨(by show 1 ≤ 1000; decide), fun a ha => ⟨a, v1, rfl, upd_same, fun d H2 hd hne e1 e2 k => ?_⟩⟩
  have hd' : H d = none := by rw [upd_ne hne] at hd; exact hd
  refine ⟨rfl, d, _, e1, e2, hd', q d _ hd' (fun b o e => ?_) upd_same⟩
  have hba : b ≠ a := fun z => by subst z; rw [ha] at e; cases e
  have hbd : b ≠ d := fun z => by subst z; rw [hd'] at e; cases e
  rw [upd_ne hbd, del_ne hba]
  exact k b o hba (by rw [upd_ne hba]; exact e)
theorem rd_mkO {C : Addr} {sp : Sp} {dvs : List V} {ta : TA} {σ : L2.St} {H : Hp} {Q : XK} (h : ta σ H fun vs H1 => vs.length ≤ 1000 ∧ ∀ a, H1 a = none → sp (.ref a :: (vs ++ dvs)) (upd H1 a (exo a C none))
  (fun v H2 => v = .non ∧ ∃ (d : Addr) (fs : List (Str × V)), H2 a = some (exo a C (some d)) ∧ H2 d = some (exd d fs) ∧ H1 d = none ∧ Q (.ref C) (some d) (upd (del H2 a) d (.xd fs))) (fun _ _ _ => False)) : tMkO C sp dvs ta σ H Q := h
/-! ### a value of any kind, its texts short -/
def Kz (H : Hp) (v : V) : Prop := ∃ t, Kd H v t ∧ ∀ z, v = .str z → z.length ≤ 100
theorem Kz.same {H H' : Hp} {v : V} (s : ∀ b o, v = .ref b → H b = some o → H' b = some o) (k : Kz H v) : Kz H' v := by
  obtain ⟨t, h, l⟩ := k
  exact ⟨t, h.same s, l⟩
theorem Kz.mono {H H' : Hp} {v : V} (s : Same H H') (k : Kz H v) : Kz H' v := k.same fun b o _ h => s b o h
theorem Kz.str {H : Hp} {z : Str} (h : z.length ≤ 100) : Kz H (.str z) := ⟨_, .str z, fun z' e => by cases e; exact h⟩
theorem Kz.int {H : Hp} (i : Int) : Kz H (.int i) := ⟨_, .int i, fun z' e => by cases e⟩
theorem Kz.non {H : Hp} : Kz H .non := ⟨_, .non, fun z' e => by cases e⟩
theorem Kz.bl {H : Hp} (b : Bool) : Kz H (.bl b) := ⟨_, .bl b, fun z' e => by cases e⟩
theorem Kz.lst {H : Hp} {a : Addr} {xs : List V} (h : H a = some (.lst xs)) : Kz H (.ref a) := ⟨_, .lst h, fun z' e => by cases e⟩
theorem Kz.tup {H : Hp} {a : Addr} {xs : List V} (h : H a = some (.tup xs)) : Kz H (.ref a) := ⟨_, .tup h, fun z' e => by cases e⟩
theorem Kz.dK {H : Hp} {a : Addr} {xs : List (Key × V)} (h : H a = some (.dK xs)) : Kz H (.ref a) := ⟨_, .dK h, fun z' e => by cases e⟩
/-- the same, and not the pen -/
def Kp (p : Addr) (H : Hp) (v : V) : Prop := Kz H v ∧ v ≠ .ref p
theorem Kp.keep {p : Addr} {H H' : Hp} {v : V} (s : Keep p H H') (k : Kp p H v) : Kp p H' v := ⟨k.1.same fun b o e h => s b o (fun z => k.2 (by rw [e, z])) h, k.2⟩
theorem Kp.mono {p : Addr} {H H' : Hp} {v : V} (s : Same H H') (k : Kp p H v) : Kp p H' v := ⟨k.1.mono s, k.2⟩
theorem Kp.str {p : Addr} {H : Hp} {z : Str} (h : z.length ≤ 100) : Kp p H (.str z) := ⟨.str h, fun z => nomatch z⟩
theorem Kp.int {p : Addr} {H : Hp} (i : Int) : Kp p H (.int i) := ⟨.int i, fun z => nomatch z⟩
theorem Kp.non {p : Addr} {H : Hp} : Kp p H .non := ⟨.non, fun z => nomatch z⟩
theorem Kp.bl {p : Addr} {H : Hp} (b : Bool) : Kp p H (.bl b) := ⟨.bl b, fun z => nomatch z⟩
theorem Kp.ref {p : Addr} {H : Hp} {a : Addr} (k : Kz H (.ref a)) (n : a ≠ p) : Kp p H (.ref a) := ⟨k, fun z => n (V.ref.inj z)⟩
def Kps (p : Addr) (H : Hp) (xs : List V) : Prop := ∀ v ∈ xs, Kp p H v
theorem Kps.nil {p : Addr} {H : Hp} : Kps p H [] := fun v h => nomatch h
theorem Kps.cons {p : Addr} {H : Hp} {x : V} {xs : List V} (h : Kp p H x) (r : Kps p H xs) : Kps p H (x :: xs) := fun v m => by
  rcases List.mem_cons.mp m with e | m
  · subst e; exact h
  · exact r v m
theorem rd_ixZ {K : PySem.W.Frag} {H : Hp} {Q : VK} {p a : Addr} {xs : List V} {d : Int} (h : SqL K H a xs) (h0 : 0 ≤ d) (h1 : d < xs.length) (kd : Kps p H xs) (q : ∀ v, Kp p H v → Q v H) : rIxL K (.ref a) (.int d) H Q := by
  have hd : d.toNat < xs.length := by omega
  have k := kd xs[d.toNat] (List.getElem_mem hd)
  exact rd_ixL h (atI_int h0 (List.getElem?_eq_getElem hd)) (q _ k)
def spThing : Sp := fun vs H Q _ => ∃ (p : Addr) (n : Nat) (c : Addr), vs = [.ref p] ∧ PenAt c H p n ∧ n + 1 < 100000 ∧ ∀ v H', Kp p H' v → PenAt c H' p (n + 1) → Keep p H H' → Q v H'
theorem rd_ixStr {z : Str} {i : Int} {c : Nat} {H : Hp} {Q : VK} (hz : z.length ≤ 100000) (h0 : 0 ≤ i) (h : z.cps.toList[i.toNat]? = some c) (q : Q (.str ⟨#[c]⟩) H) : rIxS (.str z) (.int i) H Q :=
  ⟨z, i, c, rfl, rfl, Nat.le_trans hz (by decide), atI_int h0 h, q⟩
/-- a name of 1 to k signs, all of them one sign of a row of small letters -/
theorem nameOk_rep {c : Nat} {k : Nat} (h0 : 97 ≤ c) (h1 : c ≤ 122) (k0 : 1 ≤ k) (k1 : k ≤ 8) : nameOk (repS ⟨#[c]⟩ k) = true := by
  have key : ∀ (n : Nat) (b : Array Nat), (∀ x ∈ b.toList, 97 ≤ x ∧ x ≤ 122) → ∀ x ∈ ((List.replicate n (#[c] : Array Nat)).foldl (· ++ ·) b).toList, 97 ≤ x ∧ x ≤ 122 := by
    intro n
    induction n with
    | zero => intro b hb; exact hb
    | succ n ih =>
      intro b hb
      rw [List.replicate_succ, List.foldl_cons]
      refine ih _ fun x hx => ?_
      rw [Array.toList_append, List.mem_append] at hx
      rcases hx with hx | hx
      · exact hb x hx
      · rw [List.mem_singleton.mp hx]
        exact ⟨h0, h1⟩
  have el : (repS ⟨#[c]⟩ k).length = k := by
    rw [repS_len]
    show 1 * k = k
    omega
  unfold nameOk
  rw [el, decide_eq_true k0, decide_eq_true k1]
  show (true && true && _) = true
  rw [Bool.true_and, Bool.true_and, List.all_eq_true]
  intro x hx
  have := key k #[] (fun _ h => nomatch h) x hx
  rw [decide_eq_true this.1, decide_eq_true this.2]
  rfl
/-! ### signals -/
def sigF (v w : V) : List (Str × V) := [("name", v), ("tokens", w)]
theorem putF_sig (v w : V) : putF "tokens" w (putF "name" v []) = sigF v w := by
  have h : ¬ (("name" : Str) = "tokens") := by decide +kernel
  show (if ("name" : Str) = "tokens" then _ else (("name" : Str), v) :: putF "tokens" w []) = _
  rw [if_neg h]
  rfl
def spSigInit (C N : Addr) : Sp := fun vs H Q E => ∃ x dx v w, vs = [.ref x, v, w] ∧ H x = some (.ins C dx []) ∧ Kz H v ∧ Kz H w ∧
  (isName v = false → ErrW N E H [("place", .non), ("reason", .str "name")]) ∧
  (isName v = true → within w 0 3 = false → ErrW N E H [("place", .non), ("reason", .str "tokens")]) ∧
  (isName v = true → within w 0 3 = true → ∀ H', H' x = some (.ins C dx (sigF v w)) → Keep x H H' → Q .non H')
/-- signal == y -/
def spSigEq (K : PySem.W.Frag) (C : Addr) : Sp := fun vs H Q _ => ∃ a dx z i y, vs = [.ref a, y] ∧ H a = some (.ins C dx (sigF (.str z) (.int i))) ∧
  ((∃ t, TyX K H y t ∧ PySem.W.kitOne K t (.ref C) = some false ∧ Q (.bl false) H) ∨
   ∃ b dy z' i', y = .ref b ∧ H b = some (.ins C dy (sigF (.str z') (.int i'))) ∧ Q (.bl (decide (z = z') && decide (i = i'))) H)
/-- what asking for a signal gives -/
def spAsked (C N : Addr) : Sp := fun vs H Q _ => ∃ v w b, vs = [v, w, .bl b] ∧ Kz H v ∧ Kz H w ∧
  (isName v = false → ∀ a H', Same H H' → ErrAt N H' a [("place", .non), ("reason", .str "name")] → Q (.ref a) H') ∧
  (isName v = true → within (if b = true then .int 0 else w) 0 3 = false → ∀ a H', Same H H' → ErrAt N H' a [("place", .non), ("reason", .str "tokens")] → Q (.ref a) H') ∧
  (isName v = true → within (if b = true then .int 0 else w) 0 3 = true → ∀ x dx H', Same H H' → H' x = some (.ins C dx (sigF v (if b = true then .int 0 else w))) → Q (.ref x) H')
/-- the law's own words about a value -/
def spLawName : Sp := fun vs H Q _ => ∃ v, vs = [v] ∧ Kz H v ∧ ∀ H', Same H H' → Q (.bl (isName v)) H'
def spLawWithin : Sp := fun vs H Q _ => ∃ v lo hi, vs = [v, .int lo, .int hi] ∧ Kz H v ∧ Q (.bl (within v lo hi)) H
def spRefusal (N : Addr) : Sp := fun vs H Q _ => ∃ a r p, vs = [.ref a, .str r, p] ∧ ErrAt N H a [("place", p), ("reason", .str r)] ∧ (p = .non ∨ ∃ i, p = .int i) ∧ ∀ H', Same H H' → Q (.bl true) H'
def spNum (m : Nat) : Sp := fun vs H Q _ => ∃ (p : Addr) (n : Nat) (c : Addr), vs = [.ref p] ∧ PenAt c H p n ∧ n + m < 100000 ∧ ∀ H', PenAt c H' p (n + m) → Keep p H H' → Q (.bl true) H'
theorem isName_str {v : V} (h : isName v = true) : ∃ z, v = .str z ∧ nameOk z = true := by
  cases v with
  | str z => exact ⟨z, rfl, h⟩
  | _ => cases h
theorem within_int {v : V} {lo hi : Int} (h : within v lo hi = true) : ∃ i, v = .int i ∧ lo ≤ i ∧ i ≤ hi := by
  cases v with
  | int i =>
    have h' : (decide (lo ≤ i) && decide (i ≤ hi)) = true := h
    rw [Bool.and_eq_true] at h'
    exact ⟨i, rfl, of_decide_eq_true h'.1, of_decide_eq_true h'.2⟩
  | _ => cases h
theorem rd_eqV {x y : V} {H : Hp} {Q : VK} (b : Bool) (hs : scal x y = true) (hb : decide (x = y) = b) (q : Q (.bl b) H) : rEq x y H Q := ⟨hs, by rw [hb]; exact q⟩
end Lay
namespace Lay
open PySem L2 PySem.Spec PyProof.Rows Exv
theorem kitAny_no {K : PySem.W.Frag} {t c : Value} {cs : List Value} (h : PySem.W.kitOne K t c = some false) (hr : PySem.W.kitAny K t cs = some false) : PySem.W.kitAny K t (c :: cs) = some false := kitAny_cons h (fun _ => hr) (fun z => nomatch z)
end Lay
namespace Lay
open PySem L2 PySem.Spec PyProof.Rows Exv
theorem rd_make {C : Addr} {sp : Sp} {dvs : List V} {E : XK} {t : TA} {σ : L2.St} {H : Hp} {Q : VK} (h : t σ H fun vs H1 => ∀ x dx, H1 x = none → H1 dx = none → dx ≠ x →
  sp (.ref x :: (vs ++ dvs)) (upd (upd H1 dx (.own x)) x (.ins C dx [])) (fun v H2 => v = .non ∧ Q (.ref x) H2) E) : tMake C sp dvs E t σ H Q := h
theorem rd_inI {K : PySem.W.Frag} {H : Hp} {Q : VK} {d : Int} {t : Addr} {ns : List Int} (ht : SqT K H t (ns.map V.int)) (q : ∀ b, Q (.bl b) H) : rIn K false (.int d) (.ref t) H Q :=
  ⟨t, _, rfl, .inr ht, rfl, by rw [List.all_map]; simp [flatV], q _⟩
theorem row_at (z : Str) (h : z.cps.toList.all (fun c => decide (97 ≤ c) && decide (c ≤ 122)) = true) {d : Int} (h0 : 0 ≤ d) (h1 : d < z.length) : ∃ c, z.cps.toList[d.toNat]? = some c ∧ 97 ≤ c ∧ c ≤ 122 := by
  have hl : d.toNat < z.cps.toList.length := by
    have : z.cps.toList.length = z.length := by show z.cps.toList.length = z.cps.size; simp
    omega
  refine ⟨_, List.getElem?_eq_getElem hl, ?_⟩
  have := List.all_eq_true.mp h _ (List.getElem_mem hl)
  rw [Bool.and_eq_true] at this
  exact ⟨of_decide_eq_true this.1, of_decide_eq_true this.2⟩
theorem name_rep {c : Nat} {d : Int} (h0 : 97 ≤ c) (h1 : c ≤ 122) (d0 : 0 ≤ d) (d1 : d < 8) : nameOk (repS ⟨#[c]⟩ (1 + d).toNat) = true := nameOk_rep h0 h1 (by omega) (by omega)
/-- a signal stands at x -/
def SigAt (C : Addr) (H : Hp) (x : Addr) (z : Str) (i : Int) : Prop := ∃ dx, H x = some (.ins C dx (sigF (.str z) (.int i)))
theorem SigAt.mono {C : Addr} {H H' : Hp} {x : Addr} {z : Str} {i : Int} (s : Same H H') (h : SigAt C H x z i) : SigAt C H' x z i := by
  obtain ⟨dx, e⟩ := h
  exact ⟨dx, s _ _ e⟩
theorem SigAt.keep {C : Addr} {H H' : Hp} {p x : Addr} {z : Str} {i : Int} {xs : List V} (hp : H p = some (.lst xs)) (s : Keep p H H') (h : SigAt C H x z i) : SigAt C H' x z i := by
  obtain ⟨dx, e⟩ := h
  exact ⟨dx, s _ _ (fun z => by subst z; rw [e] at hp; cases hp) e⟩
/-- a signal of good values is made -/
theorem mk_sig {C N : Addr} {H : Hp} {z : Str} {i : Int} {Q : Addr → Hp → Prop} {E : XK} (hz : nameOk z = true) (i0 : 0 ≤ i) (i3 : i ≤ 3) (q : ∀ x H', Same H H' → SigAt C H' x z i → Q x H') :
    ∀ x dx, H x = none → H dx = none → dx ≠ x → spSigInit C N [.ref x, .str z, .int i] (upd (upd H dx (.own x)) x (.ins C dx [])) (fun v H2 => v = .non ∧ Q x H2) E := by
  intro x dx hx hdx hne
  have s0 : Same H (upd (upd H dx (.own x)) x (.ins C dx [])) := Lay.Same.upd' (Lay.Same.upd hdx) (by rw [upd_ne hne.symm]; exact hx)
  have hn : isName (.str z) = true := hz
  have hw : within (.int i) 0 3 = true := by show (decide (0 ≤ i) && decide (i ≤ 3)) = true; rw [decide_eq_true i0, decide_eq_true i3]; rfl
  refine ⟨x, dx, .str z, .int i, rfl, upd_same, .str (by have := nameOk_len hz; omega), .int _, fun h => ?_, fun _ h => ?_, fun _ _ H' e k => ⟨rfl, q x H' (fun b o hb => ?_) ⟨dx, e⟩⟩⟩
  · rw [hn] at h; cases h
  · rw [hw] at h; cases h
  · have hbx : b ≠ x := fun z => by subst z; rw [hx] at hb; cases hb
    exact k b o hbx (s0 b o hb)
/-- one of two -/
theorem two_at {i j d : Int} (d0 : 0 ≤ d) (d1 : d < 2) : ∃ k, atI [V.int i, V.int j] d = some (.int k) ∧ (k = i ∨ k = j) := by
  obtain rfl | rfl : d = 0 ∨ d = 1 := by omega
  · exact ⟨i, rfl, .inl rfl⟩
  · exact ⟨j, rfl, .inr rfl⟩
end Lay

end

section
namespace PySem
namespace RTL
open RT
section
variable {prog : Program} {w : World} {A : Around} {E : Value → Shared → Prop} {s : Shared}
/-- l.__init__(reversed(list)) -/
theorem extend_rev {R : Result → Shared → Prop} {it l : Addr} {items : Array Value} (hh : A.handled = none) (hit : s.heap.IsRevIter it l ((items.size : Int) - 1)) (hl : s.heap.IsList l items) (hne : l ≠ it) (hn : items.size ≤ sizeLine)
    (S : Addr) (res : Value) (c₀ : Nat) (hS : s.heap.get? S = some { cls := .type "list", data := .seq #[] c₀ }) (hSi : S ≠ it) (hSl : S ≠ l)
    (hR : ∀ h' tk acc' c', (∀ b o, b ≠ S → b ≠ it → s.heap.get? b = some o → h'.get? b = some o) → h'.get? S = some { cls := .type "list", dict := none, data := .seq acc' c', slots := #[] } →
      ItemsOf (fun i v => items[items.size - 1 - i]? = some v) acc' items.size → R (.ok (.ret res)) { s with heap := h', toks := tk }) :
    wpAny (model prog w) A.in1 (Builtin.List.listExtendWith (.ref S) (.ref it) res)
      (fun fin s' => match fin with | .done f => R (.ok f) s' | .again c' => c'.quiet = true ∧ codeAny (model prog w) A c' R s') (fun e s' => R (.error e) s') s := by
  have W := (Walks.listRev (prog := prog) (w := w) (A := A.in1) hh it l hne items).toS
  have hSf : S ∉ [it, l] := by simp only [List.mem_cons, List.not_mem_nil, or_false, not_or]; exact ⟨hSi, hSl⟩
  have hT : s.TypeIs (.ref it) "list_reverseiterator" := hit.typeIs
  have h1 : Builtin.List.listSameRef (.ref S) (.ref it) = false := by simp [Builtin.List.listSameRef, hSi]
  unfold Builtin.List.listExtendWith
  refine wpAny_bind (wpAny_typeOf hT ?_)
  rw [if_neg (by rw [h1]; decide)]
  refine wpAny_bind (wpAny_pyIter_revIter hit ?_)
  refine wpAny_bind (wpAny_holding ?_)
  unfold Builtin.List.listLengthHint
  refine wpAny_bind (wpAny_specialOf hT nolen_lri ?_)
  show wpAny _ A.in1 (specialOf (Value.ref it) (Str.ofString "__length_hint__") >>= _) _ _ _
  refine wpAny_bind (wpAny_specialOf hT hint_lri ?_)
  generalize hid : ("list_reverseiterator.__length_hint__" : String) = id0
  wp_delta
  rw [show splitId id0 = some ("list_reverseiterator", "__length_hint__") from by subst hid; decide +kernel]
  subst hid
  refine wpAny_bind (wpAny_isInstance (b := true) hT (by rw [isSubtype_type]; kernel_rfl) ?_)
  refine wpAny_pure ?_
  rw [if_neg (by decide)]
  have e0 : ((items.size : Nat) : Int) - 1 - ((0 : Nat) : Int) = (items.size : Int) - 1 := by omega
  refine wpAny_pure ⟨plainId_quiet F.plain_extend_loop _, codeAny_extend_loopS W hn _ hSf _ items.size 0 _ _ _ rfl (Nat.zero_le _) ⟨Nat.zero_le _, by rw [e0]; exact hit, hl⟩ hS (ItemsOf.nil _) fun s' acc' c' hm hS' hacc => ?_⟩
  rw [Moved.eq_with hm]
  refine hR s'.heap s'.toks acc' c' (fun b o hb hbi e => hm.heap b o (fun hmem => ?_) e) hS' hacc
  rcases List.mem_cons.mp hmem with e' | hmem
  · exact hb e'
  · exact hbi (List.mem_singleton.mp hmem)
theorem list_init_rev {R : Result → Shared → Prop} {it l : Addr} {items : Array Value} (hh : A.handled = none) (hit : s.heap.IsRevIter it l ((items.size : Int) - 1)) (hl : s.heap.IsList l items) (hne : l ≠ it) (hn : items.size ≤ sizeLine)
    (S : Addr) (hS : s.heap.get? S = some { cls := .type "list", data := .seq #[] }) (hSi : S ≠ it) (hSl : S ≠ l)
    (hR : ∀ h' tk acc' c', (∀ b o, b ≠ S → b ≠ it → s.heap.get? b = some o → h'.get? b = some o) → h'.get? S = some { cls := .type "list", dict := none, data := .seq acc' c', slots := #[] } →
      ItemsOf (fun i v => items[items.size - 1 - i]? = some v) acc' items.size → R (.ok (.ret .none)) { s with heap := h', toks := tk }) :
    wpAny (model prog w) A.in1 (Builtin.«list.__init__» ⟨[.ref S, .ref it], []⟩)
      (fun fin s' => match fin with | .done f => R (.ok f) s' | .again c' => c'.quiet = true ∧ codeAny (model prog w) A c' R s') (fun e s' => R (.error e) s') s := by
  show wpAny _ _ (do let old ← Builtin.List.listItems (.ref S); Builtin.List.listUpdate (.ref S) (fun _ => #[]); letGo old.toList.reverse; Builtin.List.listExtendWith (.ref S) (.ref it) .none) _ _ s
  refine wpAny_bind ?_
  unfold Builtin.List.listItems
  refine wpAny_bind (wpAny_seqItems hS rfl (wpAny_pure ?_))
  show wpAny _ _ (updateSeq S (fun _ => #[]) >>= fun _ => letGo (#[] : Array Value).toList.reverse >>= fun _ => Builtin.List.listExtendWith (.ref S) (.ref it) .none) _ _ s
  refine wpAny_bind (wpAny_updateSeq hS rfl ?_)
  have hS₂ := Heap.get?_update_self (Obj.mapSeq (fun _ => (#[] : Array Value))) hS rfl
  have oth : ∀ b o, b ≠ S → s.heap.get? b = some o → (s.heap.update S (Obj.mapSeq (fun _ => (#[] : Array Value)))).get? b = some o :=
    fun b o hb e => (Heap.get?_update_other _ _ (Ne.symm hb)).trans e
  refine wpAny_bind (wpAny_letGo ?_)
  refine extend_rev (s := { s with heap := s.heap.update S (Obj.mapSeq (fun _ => (#[] : Array Value))) }) hh (hit.at fun o e => oth it o (Ne.symm hSi) e) (hl.at fun o e => oth l o (Ne.symm hSl) e) hne hn S .none _ hS₂ hSi hSl fun h' tk acc' c' hk hS' hacc => ?_
  exact hR h' tk acc' c' (fun b o hb hbi e => hk b o hb hbi (oth b o hb e)) hS' hacc
theorem call_list_rev {it l : Addr} {items : Array Value} {Q : Value → Shared → Prop} (hh : A.handled = none) (hit : s.heap.IsRevIter it l ((items.size : Int) - 1)) (hl : s.heap.IsList l items) (hne : l ≠ it) (hn : items.size ≤ sizeLine)
    (hQ : ∀ h' tk acc' c', (∀ b o, b ≠ it → s.heap.get? b = some o → h'.get? b = some o) →
      h'.get? s.heap.objs.size = some { cls := .type "list", dict := none, data := .seq acc' c', slots := #[] } → ItemsOf (fun i v => items[items.size - 1 - i]? = some v) acc' items.size → Q (.ref s.heap.objs.size) { s with heap := h', toks := tk }) :
    wpAny (model prog w) A (call (.type "list") [.ref it]) Q E s := by
  refine callType_codes (Q₁ := fun obj s₁ => obj = .ref s.heap.objs.size ∧ s₁ = { s with heap := s.heap.push { cls := .type "list", data := .seq #[] } }) F.called_list (F.typeCall_list_1 _) F.entry_list_init
    (code_list_new _ ⟨rfl, rfl⟩) fun obj s₁ h₁ => ?_
  obtain ⟨rfl, rfl⟩ := h₁
  have hS : (s.heap.push { cls := .type "list", data := .seq #[] }).get? s.heap.objs.size = some { cls := .type "list", data := .seq #[] } := Heap.get?_push_size _ rfl
  have hSi : s.heap.objs.size ≠ it := by obtain ⟨o, ho, _⟩ := hit; exact Nat.ne_of_gt (Heap.lt_size ho)
  have hSl : s.heap.objs.size ≠ l := by obtain ⟨o, ho, _⟩ := hl; exact Nat.ne_of_gt (Heap.lt_size ho)
  refine ⟨⟨_, hS, rfl⟩, F.args_list_init_2 _ _, list_init_rev (A := A.in1) hh (hit.at fun o e => Heap.get?_push_of_some _ e) (hl.push _) hne hn _ hS hSi hSl fun h' tk acc' c' hk hS' hacc => ?_⟩
  exact ⟨rfl, hQ h' tk acc' c' (fun b o hb e => hk b o (Nat.ne_of_lt (Heap.lt_size e)) hb (Heap.get?_push_of_some _ e)) hS' hacc⟩
end
end RTL
end PySem
namespace Lay
open PySem PySem.Spec PyProof.Rows L2 RT
/-- list(reversed(x)), x a list: a new list -/
def tListRev (K : PySem.W.Frag) (te : TE) : TE := fun σ H Q => te σ H fun v H1 => ∃ (a : Addr) (xs : List V), v = .ref a ∧ SqL K H1 a xs ∧ ∀ q, H1 q = none → Q (.ref q) (upd H1 q (.lst xs.reverse))
theorem rd_listRev {K : PySem.W.Frag} {te : TE} {σ : L2.St} {H : Hp} {Q : VK} (h : te σ H fun v H1 => ∃ (a : Addr) (xs : List V), v = .ref a ∧ SqL K H1 a xs ∧ ∀ q, H1 q = none → Q (.ref q) (upd H1 q (.lst xs.reverse))) : tListRev K te σ H Q := h
theorem pe_listRev {X : Cx} {e : Expr} {te : TE} {p p2 pos pos2 : Pos} (hc : X.calm = true) (hg : Gl X "list") (hm : X.mg "list" = none) (hg2 : Gl X "reversed") (hm2 : X.mg "reversed" = none) (he : PE X e te)
    (hs : starEach [e] X.env = (false, eval e X.env) :: starEach [] X.env := by rfl)
    (hs2 : starEach [.Call (.Name "reversed" p2) [e] [] pos2] X.env = (false, eval (.Call (.Name "reversed" p2) [e] [] pos2) X.env) :: starEach [] X.env := by rfl) :
    PE X (.Call (.Name "list" p) [.Call (.Name "reversed" p2) [e] [] pos2] [] pos) (tListRev X.K te) := by
  refine ⟨fun pins s σ H Q I h => ?_⟩
  refine Call_ (ld_blt I hg hm boot_list (PyProof.Rows.callWith_type1 (args_cons (Call_ (ld_blt I hg2 hm2 PyProof.Rows.boot_reversed (PyProof.Rows.callWith_type1 (args_cons (thn (he.run pins s σ H _ I h) fun u s1 ⟨v, H1, I1, r1, q1⟩ => args_nil ?_) hs) hs rfl))) hs2) hs2 rfl))
  obtain ⟨a, xs, ev, hq, q⟩ := q1
  subst ev
  obtain rfl : u = Value.ref a := r1
  obtain ⟨its, rv, p', hz⟩ := I1.list hq
  refine call_reversed_list p'.isList (args_nil ?_)
  have k0 : ∀ b o, s1.heap.get? b = some o → (s1.heap.push (revObj a ((its.toArray.size : Int) - 1))).get? b = some o := fun b o e => Heap.get?_push_of_some _ e
  have I2 : Inv X pins σ H1 { s1 with heap := s1.heap.push (revObj a ((its.toArray.size : Int) - 1)) } := I1.kept (t' := s1.toks) k0
  obtain ⟨f0, f1, f2, f3, f4, f5⟩ := I1.fpOk (H' := H1) (b := s1.heap.objs.size) (Nat.le_refl _) (I1.hok.fresh (Nat.le_refl _))
  have hl := p'.isList
  obtain ⟨ol, hol, _⟩ := id hl
  have hne : a ≠ s1.heap.objs.size := Nat.ne_of_lt (Heap.lt_size hol)
  have hn : its.toArray.size ≤ sizeLine := by rw [List.size_toArray, ← rv.length]; exact hz
  refine PySem.RTL.call_list_rev (s := { s1 with heap := s1.heap.push (revObj a ((its.toArray.size : Int) - 1)) }) (I1.ok.hd hc) ⟨_, Heap.get?_push_size _ rfl, rfl, rfl⟩ (hl.push _) hne hn fun h' tk acc c' hk hS hi => ?_
  have I3 : Inv X pins σ H1 { s1 with heap := h', toks := tk } := I2.turned (t' := tk) (fun b o hb e => hk b o hb e) f0 f1 f3 f4 f5
  have hsz : (s1.heap.push (revObj a ((its.toArray.size : Int) - 1))).objs.size = s1.heap.objs.size + 1 := Heap.size_push ..
  have hnone : H1 (s1.heap.push (revObj a ((its.toArray.size : Int) - 1))).objs.size = none := I2.hok.fresh (Nat.le_refl _)
  have ob : ObjOk X.prog X.w (upd H1 (s1.heap.push (revObj a ((its.toArray.size : Int) - 1))).objs.size (.lst xs.reverse)) h' (s1.heap.push (revObj a ((its.toArray.size : Int) - 1))).objs.size (.lst xs.reverse) :=
    ⟨by rw [List.length_reverse]; exact hz, acc.toList, c', vals_rev rv hi, by rw [Array.toArray_toList]; exact hS⟩
  refine ⟨.ref _, upd H1 _ (.lst xs.reverse), ?_, rfl, q _ hnone⟩
  have hbig : s1.heap.objs.size ≤ (s1.heap.push (revObj a ((its.toArray.size : Int) - 1))).objs.size := by rw [hsz]; exact Nat.le_succ _
  refine I1.un (t' := tk) ⟨fun b o e n hf hx => hk b o (Nat.ne_of_lt (Heap.lt_size e)) (k0 b o e), fun b o e n hf hx => ⟨o.slots, hk b o (Nat.ne_of_lt (Heap.lt_size e)) (k0 b o e)⟩, fun b o e n hx => ?_, fun b o e hx => ⟨o, hk b o (Nat.ne_of_lt (Heap.lt_size e)) (k0 b o e)⟩, fun b ys e => ?_, fun b o u e => ?_, fun b ps e => ?_⟩ fun b o e => ?_
  · rw [upd_ne (Nat.ne_of_lt (Nat.lt_of_lt_of_le (Heap.lt_size e) hbig))]; exact n
  · rw [upd_ne (ne_of_none e hnone)]; exact e
  · rw [upd_ne (ne_of_none e hnone)]; exact e
  · exact ⟨#[], by rw [upd_ne (ne_of_none e hnone), e]; simp⟩
  · by_cases hb : b = (s1.heap.push (revObj a ((its.toArray.size : Int) - 1))).objs.size
    · subst hb
      rw [upd_same] at e
      cases e
      exact ob
    · rw [upd_ne hb] at e
      exact (I3.hok b o e).stay (fun _ _ _ z => z) (fun c z => by rw [upd_ne (ne_of_none z hnone)]; exact z) (fun c ys z => by rw [upd_ne (ne_of_none z hnone)]; exact z)
end Lay

end

section
namespace Exv
open PySem PySem.Spec PyProof.Rows L2
section
variable {X : Cx} {pins : List (Addr × Obj)} {σ : L2.St} {H : Hp} {s : Shared}
/-- a def by a positional promise, what is raised wished for at the slots -/
theorem run_fnRS {CX : CXT} {k : Nat} {f : Addr} {sp : Sp} {E : XK} {Q : VK} {us : List Value} {vs : List V} (F : FnR X.prog X.w X.K X.mg X.base CX k f sp) (hr : Room k X.A) (hx : PassesAt CX X σ E) (I : Inv X pins σ H s) (r : Vals vs us) (h : sp vs H Q E) :
    codeAny (model X.prog X.w) X.A (.call (.ref f) ⟨us, []⟩) (fun r s' => match r with | .ok (.ret v) => EP X pins σ Q v s' | .ok _ => False | .error e => X.xe e s') s := by
  refine codeAny_mono (F X.A X.stack s H us vs Q E hr I.env0 r h) fun r s' hq => ?_
  cases r with
  | error e => exact hx pins H s e s' I hq
  | ok fl =>
    cases fl with
    | ret u => exact I.after hq
    | next => exact False.elim hq
    | brk => exact False.elim hq
    | cont => exact False.elim hq
theorem run_cmS {CX : CXT} {k : Nat} {C g q : Addr} {sp : Sp} {E : XK} {Q : VK} {us : List Value} {vs : List V} (F : FnR X.prog X.w X.K X.mg X.base CX k g sp) (hr : Room k X.A) (hx : PassesAt CX X σ E) (I : Inv X ((q, PySem.W.methodObj (.ref g) (.ref C)) :: pins) σ H s)
    (r : Vals vs us) (h : sp (.ref C :: vs) H Q E) : wpAny (model X.prog X.w) X.A (call (.ref q) us) (EP X pins σ Q) X.xe s := by
  have z : wpAny (model X.prog X.w) X.A (call (.ref q) us) (EP X ((q, PySem.W.methodObj (.ref g) (.ref C)) :: pins) σ Q) X.xe s :=
    wpAny_call (PySem.W.method_call (ClX.pin_at I) (run_fnRS (us := .ref C :: us) (vs := .ref C :: vs) F hr hx I (.cons rfl r) h))
  exact thn z fun _ _ y => ClX.unpinE y
end
/-- e.m(..), e the class at C, m a classmethod, which may raise -/
def tCMethS (C : Addr) (sp : Sp) (E : L2.St → XK) (ta : TE) (t : TA) : TE := fun σ H Q => ta σ H fun x H1 => x = .ref C ∧ t σ H1 fun vs H2 => sp (.ref C :: vs) H2 Q (E σ)
theorem rd_cmethS {C : Addr} {sp : Sp} {E : L2.St → XK} {ta : TE} {t : TA} {σ : L2.St} {H : Hp} {Q : VK} (h : ta σ H fun x H1 => x = .ref C ∧ t σ H1 fun vs H2 => sp (.ref C :: vs) H2 Q (E σ)) : tCMethS C sp E ta t σ H Q := h
def tCMethKS (C : Addr) (m : Nat) (sp : Sp) (gV : List V → List V → List V) (E : L2.St → XK) (ta : TE) (tk : TA) : TE := fun σ H Q => ta σ H fun x H1 => x = .ref C ∧ tk σ H1 fun zs H2 => zs.length = m ∧ sp (gV [.ref C] zs) H2 Q (E σ)
theorem rd_cmethKS {C : Addr} {m : Nat} {sp : Sp} {gV : List V → List V → List V} {E : L2.St → XK} {ta : TE} {tk : TA} {σ : L2.St} {H : Hp} {Q : VK} (h : ta σ H fun x H1 => x = .ref C ∧ tk σ H1 fun zs H2 => zs.length = m ∧ sp (gV [.ref C] zs) H2 Q (E σ)) : tCMethKS C m sp gV E ta tk σ H Q := h
section
variable {X : Cx} {CX : CXT} {k : Nat} {C p g : Addr} {mc : Value} {sp : Sp} {E : L2.St → XK} {o e : Expr} {es : List Expr} {kws : List Keyword} {m : Str} {pos apos : Pos} {ta : TE} {t tk : TA} {pl : Sem Bool} {fd : FuncData} {ps ks : List Str} {gg : List Value → List Value → List Value} {gV : List V → List V → List V}
theorem pe_cmethS (he : PE X o ta) (r : ClX.CRead X.K C mc) (c : ClX.CMet X.K C mc m p g) (F : FnR X.prog X.w X.K X.mg X.base CX k g sp) (hr : Room k X.A) (hx : ∀ σ, PassesAt CX X σ (E σ)) (ha : PA X (e :: es) t)
    (hst : starEach (e :: es) X.env = (false, eval e X.env) :: starEach es X.env := by rfl) (hpl : (backTo pos (starEach es X.env)).any (·.1) = false := by rfl)
    (ht : eval (.Call (.Attribute o m apos) (e :: es) [] pos) X.env = (do
      let ov ← eval o X.env
      standAt apos.atName
      let (f, first) ← holding [ov] (getMethod ov m pl)
      callWith pos f first (backTo pos (starEach (e :: es) X.env)) (backToKw pos (keywordEach [] X.env))) := by rfl) :
    PE X (.Call (.Attribute o m apos) (e :: es) [] pos) (tCMethS C sp E ta t) := by
  refine ⟨fun pins s σ H Q I h => ?_⟩
  refine PySem.W.methodCall_KW (pl := pl) (thn (he.run pins s σ H _ I h) fun u s1 ⟨x, H1, I1, rx, ex, q⟩ => ?_) ht
  subst ex
  obtain rfl : u = Value.ref C := rx
  refine ClX.getmethcm_ok I1 r c fun s2 I2 => ?_
  refine ClX.callwith_cm I2 (ClX.base_none I1 (Nat.le_refl _)) c.fi (thn (ha.run pos _ s2 σ H1 _ I2 q) fun us s3 ⟨vs, H2, I3, rv, q2⟩ => ⟨⟨ClX.pin_at I3, I3.kIn⟩, ?_⟩) hst hpl
  exact run_cmS F hr (hx σ) I3 rv q2
/-- C.m(k = v, ..) -/
theorem pe_cmethKS (he : PE X o ta) (r : ClX.CRead X.K C mc) (c : ClX.CMet X.K C mc m p g) (F : FnOk X.prog X.w X.K X.mg X.base CX k g fd ps sp) (hr : Room k X.A) (hb : KBn X.K fd ps 1 ks gg gV) (hx : ∀ σ, PassesAt CX X σ (E σ)) (hkw : PK X kws tk)
    (hall : (backToKw pos (keywordEach kws X.env)).all (·.1.isSome) = true := by rfl) (hks : (backToKw pos (keywordEach kws X.env)).filterMap (·.1) = ks := by rfl)
    (hpl : ((backTo pos (starEach [] X.env)).any (·.1) || (backToKw pos (keywordEach kws X.env)).any (·.1.isNone)) = false := by rfl)
    (ht : eval (.Call (.Attribute o m apos) [] kws pos) X.env = (do
      let ov ← eval o X.env
      standAt apos.atName
      let (f, first) ← holding [ov] (getMethod ov m pl)
      callWith pos f first (backTo pos (starEach [] X.env)) (backToKw pos (keywordEach kws X.env))) := by rfl) :
    PE X (.Call (.Attribute o m apos) [] kws pos) (tCMethKS C ks.length sp gV E ta tk) := by
  refine ⟨fun pins s σ H Q I h => ?_⟩
  refine PySem.W.methodCall_KW (pl := pl) (thn (he.run pins s σ H _ I h) fun u s1 ⟨x, H1, I1, rx, ex, q⟩ => ?_) ht
  subst ex
  obtain rfl : u = Value.ref C := rx
  refine ClX.getmethcm_ok I1 r c fun s2 I2 => ?_
  have hq0 : X.base.get? s1.heap.objs.size = none := ClX.base_none I1 (Nat.le_refl _)
  refine PySem.W.callWith_of hpl (PySem.W.keeps_M (K := X.K) (self := .ref C) c.fi) (evalArgs_kw2_nil hall (thn (hkw.run pos _ s2 σ H1 _ I2 q) fun ws s3 ⟨zs, H2, I3, rz, l2, q2⟩ => ⟨⟨ClX.pin_at I3, I3.kIn⟩, ?_⟩))
  rw [hks]
  have e2 : ws.length = ks.length := rz.length.symm.trans l2
  have rC : Vals [V.ref C] [Value.ref C] := .cons rfl .nil
  have z : wpAny (model X.prog X.w) X.A (call (.ref s1.heap.objs.size) ([] ++ []) (ks.zip ws)) (EP X ((s1.heap.objs.size, PySem.W.methodObj (.ref g) (.ref C)) :: pins) σ Q) X.xe s3 := by
    refine wpAny_call (PySem.W.method_call (ClX.pin_at I3) (codeAny_mono (F.run X.A X.stack s3 H2 ⟨[.ref C], ks.zip ws⟩ (gg [.ref C] ws) (gV [.ref C] zs) Q (E σ) hr I3.env0 (hb.to s3 [.ref C] ws I3.kIn rfl e2) (hb.rel rC rz) q2) fun r s' hq => ?_))
    cases r with
    | error e => exact hx σ _ H2 s3 e s' I3 hq
    | ok fl =>
      cases fl with
      | ret u => exact I3.after hq
      | next => exact False.elim hq
      | brk => exact False.elim hq
      | cont => exact False.elim hq
  exact thn z fun _ _ y => ClX.unpinE y
end
end Exv

end

section
namespace Lay
open PySem PySem.Spec PyProof.Rows L2 Exv
/-! ### variables -/
/-- the first number below n of which p holds -/
def fst (p : Nat → Bool) : Nat → Option Nat
  | 0 => none
  | n + 1 => match fst p n with
    | some i => some i
    | none => if p n = true then some n else none
theorem fst_none {p : Nat → Bool} : ∀ {n : Nat}, (∀ j, j < n → p j = false) → fst p n = none
  | 0, _ => rfl
  | n + 1, h => by
    unfold fst
    rw [fst_none fun j hj => h j (Nat.lt_succ_of_lt hj)]
    dsimp only
    rw [h n (Nat.lt_succ_self n), if_neg Bool.false_ne_true]
theorem fst_some {p : Nat → Bool} {i : Nat} (h1 : p i = true) (h0 : ∀ j, j < i → p j = false) : ∀ {n : Nat}, i < n → fst p n = some i
  | 0, h => absurd h (Nat.not_lt_zero _)
  | n + 1, h => by
    unfold fst
    by_cases e : i < n
    · rw [fst_some h1 h0 e]
    · have : i = n := by omega
      subst this
      rw [fst_none h0]
      dsimp only
      rw [if_pos h1]
def near (s : Int) (x y : V) : Bool := match x, y with
  | .int a, .int b => decide ((if a - b < 0 then -(a - b) else a - b) < s)
  | _, _ => false
def aBad (s : Int) (xs : List V) (k : Nat) : Bool := match xs[k]? with
  | some x => !within x 0 (1024 - s)
  | none => false
def bBad (s : Int) (xs : List V) (k : Nat) : Bool := match xs[k]? with
  | some x => (xs.take k).any (near s x)
  | none => false
def er (r : Str) (p : V) : Option (Str × V) := some (r, p)
/-- what is wrong with a name, a size and addresses, the first thing of it -/
def wants (v w : V) (xs : List V) : Option (Str × V) :=
  if isName v = false then er "name" .non else
  match w with
  | .int s => if within (.int s) 1 8 = false then er "size" .non else if (decide (1 ≤ xs.length) && decide (xs.length ≤ 4)) = false then er "slots" .non else
    match fst (aBad s xs) xs.length with
    | some k => er "address" (.int k)
    | none => match fst (bBad s xs) xs.length with
      | some k => er "bytes" (.int k)
      | none => none
  | _ => er "size" .non
theorem wants_name {v w : V} {xs : List V} (h : isName v = false) : wants v w xs = er "name" .non := by unfold wants; rw [h]; rfl
theorem wants_size {v w : V} {xs : List V} (h : isName v = true) (hw : within w 1 8 = false) : wants v w xs = er "size" .non := by
  unfold wants
  rw [h, if_neg (by decide)]
  cases w with
  | int s => dsimp only; rw [hw, if_pos rfl]
  | _ => rfl
theorem wants_slots {v : V} {s : Int} {xs : List V} (h : isName v = true) (hw : within (.int s) 1 8 = true) (hl : (decide (1 ≤ xs.length) && decide (xs.length ≤ 4)) = false) : wants v (.int s) xs = er "slots" .non := by
  unfold wants
  rw [h, if_neg (by decide)]
  dsimp only
  rw [hw, if_neg (by decide), hl, if_pos rfl]
theorem wants_addr {v : V} {s : Int} {xs : List V} {k : Nat} (h : isName v = true) (hw : within (.int s) 1 8 = true) (hl : (decide (1 ≤ xs.length) && decide (xs.length ≤ 4)) = true) (ha : fst (aBad s xs) xs.length = some k) : wants v (.int s) xs = er "address" (.int k) := by
  unfold wants
  rw [h, if_neg (by decide)]
  dsimp only
  rw [hw, if_neg (by decide), hl, if_neg (by decide), ha]
theorem wants_bytes {v : V} {s : Int} {xs : List V} {k : Nat} (h : isName v = true) (hw : within (.int s) 1 8 = true) (hl : (decide (1 ≤ xs.length) && decide (xs.length ≤ 4)) = true) (ha : fst (aBad s xs) xs.length = none) (hb : fst (bBad s xs) xs.length = some k) : wants v (.int s) xs = er "bytes" (.int k) := by
  unfold wants
  rw [h, if_neg (by decide)]
  dsimp only
  rw [hw, if_neg (by decide), hl, if_neg (by decide), ha]
  dsimp only
  rw [hb]
theorem wants_none {v : V} {s : Int} {xs : List V} (h : isName v = true) (hw : within (.int s) 1 8 = true) (hl : (decide (1 ≤ xs.length) && decide (xs.length ≤ 4)) = true) (ha : fst (aBad s xs) xs.length = none) (hb : fst (bBad s xs) xs.length = none) : wants v (.int s) xs = none := by
  unfold wants
  rw [h, if_neg (by decide)]
  dsimp only
  rw [hw, if_neg (by decide), hl, if_neg (by decide), ha]
  dsimp only
  rw [hb]
theorem fst_none_at {p : Nat → Bool} : ∀ {n : Nat}, fst p n = none → ∀ j, j < n → p j = false
  | 0, _, j, h => absurd h (Nat.not_lt_zero _)
  | n + 1, e, j, h => by
    unfold fst at e
    cases hh : fst p n with
    | some i => rw [hh] at e; cases e
    | none =>
      rw [hh] at e
      dsimp only at e
      by_cases hp : p n = true
      · rw [if_pos hp] at e; cases e
      · by_cases e2 : j < n
        · exact fst_none_at hh j e2
        · have : j = n := by omega
          subst this
          exact Bool.eq_false_iff.mpr hp
/-- addresses that are none of them bad are numbers -/
theorem ints_of {s : Int} {xs : List V} (h : ∀ j, j < xs.length → aBad s xs j = false) : ∃ ns : List Int, xs = ns.map V.int ∧ ∀ n ∈ ns, 0 ≤ n ∧ n ≤ 1024 - s := by
  induction xs with
  | nil => exact ⟨[], rfl, fun n hn => nomatch hn⟩
  | cons x xs ih =>
    have h0 := h 0 (by simp)
    have h0' : within x 0 (1024 - s) = true := by
      have : (!within x 0 (1024 - s)) = false := h0
      simpa using this
    obtain ⟨i, rfl, i0, i1⟩ : ∃ i, x = .int i ∧ 0 ≤ i ∧ i ≤ 1024 - s := by
      cases x with
      | int i =>
        have h' : (decide (0 ≤ i) && decide (i ≤ 1024 - s)) = true := h0'
        rw [Bool.and_eq_true] at h'
        exact ⟨i, rfl, of_decide_eq_true h'.1, of_decide_eq_true h'.2⟩
      | _ => cases h0'
    obtain ⟨ns, rfl, hn⟩ := ih fun j hj => by
      have := h (j + 1) (by simpa using hj)
      unfold aBad at this ⊢
      simpa using this
    exact ⟨i :: ns, rfl, fun n m => by
      rcases List.mem_cons.mp m with e | m
      · subst e; exact ⟨i0, i1⟩
      · exact hn n m⟩
/-- a row of values of any kind -/
def KzL (H : Hp) (xs : List V) : Prop := ∀ x ∈ xs, Kz H x
theorem KzL.mono {H H' : Hp} {xs : List V} (s : Same H H') (h : KzL H xs) : KzL H' xs := fun x m => (h x m).mono s
def spChkAddr (N : Addr) : Sp := fun vs H Q E => ∃ (s : Int) (t : Addr) (xs : List V), vs = [.int s, .ref t] ∧ H t = some (.tup xs) ∧ KzL H xs ∧
  (∀ k, fst (aBad s xs) xs.length = some k → ErrW N E H [("place", .int (k : Nat)), ("reason", .str "address")]) ∧ (fst (aBad s xs) xs.length = none → ∀ H', Same H H' → Q .non H')
def spChkApart (N : Addr) : Sp := fun vs H Q E => ∃ (s : Int) (t : Addr) (ns : List Int), vs = [.int s, .ref t] ∧ H t = some (.tup (ns.map V.int)) ∧ ns.length ≤ 4 ∧
  (∀ k, fst (bBad s (ns.map V.int)) ns.length = some k → ErrW N E H [("place", .int (k : Nat)), ("reason", .str "bytes")]) ∧ (fst (bBad s (ns.map V.int)) ns.length = none → ∀ H', Same H H' → Q .non H')
def varF (v w : V) (t : Addr) : List (Str × V) := [("name", v), ("size", w), ("at", .ref t)]
theorem putF_var (v w : V) (t : Addr) : putF "at" (.ref t) (putF "size" w (putF "name" v [])) = varF v w t := by
  have h1 : ¬ (("name" : Str) = "size") := by decide +kernel
  have h2 : ¬ (("name" : Str) = "at") := by decide +kernel
  have h3 : ¬ (("size" : Str) = "at") := by decide +kernel
  have e1 : putF "size" w (putF "name" v []) = [(("name" : Str), v), (("size" : Str), w)] := by
    show (if ("name" : Str) = "size" then _ else (("name" : Str), v) :: putF "size" w []) = _
    rw [if_neg h1]
    rfl
  rw [e1]
  show (if ("name" : Str) = "at" then _ else (("name" : Str), v) :: putF "at" (.ref t) [(("size" : Str), w)]) = _
  rw [if_neg h2]
  show (("name" : Str), v) :: (if ("size" : Str) = "at" then _ else (("size" : Str), w) :: putF "at" (.ref t) []) = _
  rw [if_neg h3]
  rfl
/-- a variable -/
def VarAt (C : Addr) (H : Hp) (x : Addr) (v w : V) (xs : List V) : Prop := ∃ dx t, H x = some (.ins C dx (varF v w t)) ∧ H t = some (.tup xs)
theorem VarAt.mono {C : Addr} {H H' : Hp} {x : Addr} {v w : V} {xs : List V} (s : Same H H') (h : VarAt C H x v w xs) : VarAt C H' x v w xs := by
  obtain ⟨dx, t, e1, e2⟩ := h
  exact ⟨dx, t, s _ _ e1, s _ _ e2⟩
/-- __init__(self, name, size, *at), at laid -/
def spVarInit (C N : Addr) : Sp := fun vs H Q E => ∃ x dx v w t xs, vs = [.ref x, v, w, .ref t] ∧ H x = some (.ins C dx []) ∧ Kz H v ∧ Kz H w ∧ H t = some (.tup xs) ∧ KzL H xs ∧
  (∀ r p, wants v w xs = some (r, p) → ErrW N E H [("place", p), ("reason", .str r)]) ∧ (wants v w xs = none → ∀ H', VarAt C H' x v w xs → Keep x H H' → Q .non H')
/-- a variable is asked for, by a class or by made: what comes of it -/
def AskW (C N : Addr) (v w : V) (xs : List V) (H : Hp) (Q : VK) (E : XK) : Prop :=
  (∀ r p, wants v w xs = some (r, p) → ErrW N E H [("place", p), ("reason", .str r)]) ∧ (wants v w xs = none → ∀ x H', Same H H' → VarAt C H' x v w xs → Q (.ref x) H')
theorem mk_var {C N : Addr} {H : Hp} {v w : V} {xs : List V} {Q : Addr → Hp → Prop} {Q' : VK} {E : XK} (hQ : ∀ x H, Q' (.ref x) H → Q x H) (hv : Kz H v) (hw : Kz H w) (hx : KzL H xs) (hl : xs.length ≤ 100) (a : AskW C N v w xs H Q' E) :
    ∀ x dx, H x = none → H dx = none → dx ≠ x → spStar 3 (spVarInit C N) (.ref x :: v :: w :: xs) (upd (upd H dx (.own x)) x (.ins C dx [])) (fun v H2 => v = .non ∧ Q x H2) E := by
  intro x dx hx' hdx hne
  have s0 : Same H (upd (upd H dx (.own x)) x (.ins C dx [])) := Lay.Same.upd' (Lay.Same.upd hdx) (by rw [upd_ne hne.symm]; exact hx')
  refine ⟨[.ref x, v, w], xs, rfl, rfl, Nat.le_trans hl (by decide), fun t ht => ?_⟩
  have s1 := s0.trans (Lay.Same.upd (o := .tup xs) ht)
  refine ⟨x, dx, v, w, t, xs, rfl, upd_old ht upd_same, hv.mono s1, hw.mono s1, upd_same, hx.mono s1, fun r p e d H' hd s z => a.1 r p e d H' (none_of s1 hd) (s1.trans s) z, fun e H' va k => ⟨rfl, hQ _ _ (a.2 e x H' (fun b o hb => ?_) va)⟩⟩
  have hbx : b ≠ x := fun z => by subst z; rw [hx'] at hb; cases hb
  exact k b o hbx (s1 b o hb)
/-- made(cls, name, size, at) -/
def spVarMade (K : PySem.W.Frag) (C N : Addr) : Sp := fun vs H Q E => ∃ v w a xs, vs = [.ref C, v, w, .ref a] ∧ Kz H v ∧ Kz H w ∧ (SqT K H a xs ∨ SqL K H a xs) ∧ KzL H xs ∧ xs.length ≤ 100 ∧ AskW C N v w xs H Q E
end Lay
namespace Lay
open PySem PySem.Spec PyProof.Rows L2 Exv
theorem six_k {n k : Nat} (h : k ≤ n) : HT.sIx n n (some (k : Int)) = k := by
  unfold HT.sIx
  dsimp only
  split <;> omega
theorem cut_take {xs : List V} {k : Nat} (h : k ≤ xs.length) : cutV xs none (some (k : Int)) = xs.take k := by
  unfold cutV
  rw [six_k h]
  show List.take (k - 0) (List.drop 0 xs) = xs.take k
  simp
theorem rd_slA {K : PySem.W.Frag} {a : Addr} {xs : List V} {k : Nat} {H : Hp} {Q : VK} (h : SqT K H a xs) (hk : k < xs.length) (q : ∀ p, H p = none → Q (.ref p) (upd H p (.tup (xs.take k)))) : rSlA K (.ref a) none (some (k : Int)) H Q := by
  refine ⟨a, xs, rfl, h, fun e => ?_, fun _ p hp => by rw [cut_take (Nat.le_of_lt hk)]; exact q p hp⟩
  rw [six_k (Nat.le_of_lt hk)] at e
  exact absurd e.2 (by omega)
theorem abs_near {a b s : Int} : near s (.int a) (.int b) = decide ((if a - b < 0 then -(a - b) else a - b) < s) := rfl
end Lay
namespace Lay
open PySem PySem.Spec PyProof.Rows L2 Exv
theorem bind_star3 {B : List Value → Sem (List (Str × Value))} {p1 p2 p3 pv : Str} (h0 : ∀ a b c, B [a, b, c] = (newTuple [] >>= fun t => pure [(p1, a), (p2, b), (p3, c), (pv, t)])) (h1 : ∀ a b c r rs, B (a :: b :: c :: r :: rs) = (newTuple (r :: rs) >>= fun t => pure [(p1, a), (p2, b), (p3, c), (pv, t)])) :
    ∀ us rest : List Value, us.length = [p1, p2, p3].length → B (us ++ rest) = (newTuple rest >>= fun t => pure ([p1, p2, p3].zip us ++ [(pv, t)]))
  | [a, b, c], [], _ => h0 a b c
  | [a, b, c], r :: rs, _ => h1 a b c r rs
end Lay
namespace Lay
open PySem PySem.Spec PyProof.Rows L2 Exv
def spVarLen (C : Addr) : Sp := fun vs H Q _ => ∃ a v w xs, vs = [.ref a] ∧ VarAt C H a v w xs ∧ Q (.int xs.length) H
def spVarGet (C : Addr) : Sp := fun vs H Q _ => ∃ (a : Addr) (v w : V) (xs : List V) (i : Nat) (y : V), vs = [.ref a, .int i] ∧ VarAt C H a v w xs ∧ xs[i]? = some y ∧ Q y H
/-- the law's own word of what is wrong -/
def WantAt (H : Hp) (r : V) (o : Option (Str × V)) : Prop := match o with
  | none => r = .non
  | some (z, p) => ∃ t, r = .ref t ∧ H t = some (.tup [.str z, p])
def spWanted (K : PySem.W.Frag) : Sp := fun vs H Q _ => ∃ v w a xs, vs = [v, w, .ref a] ∧ Kz H v ∧ Kz H w ∧ H a = some (.lst xs) ∧ KzL H xs ∧ xs.length ≤ 5 ∧ ∀ r H', Same H H' → WantAt H' r (wants v w xs) → Q r H'
def spDirect (C N : Addr) : Sp := fun vs H Q E => ∃ v w a xs, vs = [v, w, .ref a] ∧ Kz H v ∧ Kz H w ∧ H a = some (.lst xs) ∧ KzL H xs ∧ xs.length ≤ 5 ∧ AskW C N v w xs H Q E
end Lay
namespace Lay
open PySem PySem.Spec PyProof.Rows L2 Exv
theorem rd_slLk {K : PySem.W.Frag} {a : Addr} {xs : List V} {k : Nat} {H : Hp} {Q : VK} (h : SqL K H a xs) (hk : k ≤ xs.length) (q : ∀ p, H p = none → Q (.ref p) (upd H p (.lst (xs.take k)))) : rSlL K (.ref a) none (some (k : Int)) H Q :=
  ⟨a, xs, rfl, h, fun p hp => by rw [cut_take hk]; exact q p hp⟩
theorem near_iff {a b s : Int} : (decide ((if a - b < 0 then -(a - b) else a - b) < s)) = (decide (b - s < a) && decide (a < b + s)) := by
  rw [Bool.eq_iff_iff, Bool.and_eq_true, decide_eq_true_iff, decide_eq_true_iff, decide_eq_true_iff]
  split <;> omega
theorem filt_any {α : Type} {p : α → Bool} : ∀ {l : List α}, decide ((0 : Int) < ((l.filter p).length : Nat)) = l.any p
  | [] => by simp
  | a :: l => by
    rw [List.filter_cons, List.any_cons]
    by_cases h : p a = true
    · rw [if_pos h, h, Bool.true_or]
      exact decide_eq_true (by rw [List.length_cons]; omega)
    · rw [if_neg h, Bool.eq_false_iff.mpr h, Bool.false_or]
      exact filt_any
/-- what asking for a variable gives, errors too -/
def spAskedV (C N : Addr) : Sp := fun vs H Q _ => ∃ (c : Int) (v w : V) (a : Addr) (xs : List V), vs = [.int c, v, w, .ref a] ∧ Kz H v ∧ Kz H w ∧ H a = some (.lst xs) ∧ KzL H xs ∧ xs.length ≤ 5 ∧
  (∀ r p, wants v w xs = some (r, p) → ∀ a' H', Same H H' → ErrAt N H' a' [("place", p), ("reason", .str r)] → Q (.ref a') H') ∧ (wants v w xs = none → ∀ x H', Same H H' → VarAt C H' x v w xs → Q (.ref x) H')
theorem wants_place {v w : V} {xs : List V} {r : Str} {p : V} (h : wants v w xs = some (r, p)) : p = .non ∨ ∃ i, p = .int i := by
  unfold wants at h
  split at h
  · cases h; exact .inl rfl
  · split at h
    · split at h
      · cases h; exact .inl rfl
      · split at h
        · cases h; exact .inl rfl
        · split at h
          · cases h; exact .inr ⟨_, rfl⟩
          · split at h
            · cases h; exact .inr ⟨_, rfl⟩
            · cases h
    · cases h; exact .inl rfl
end Lay
namespace Lay
open PySem PySem.Spec PyProof.Rows L2 Exv
theorem rd_callS {sp : Sp} {E : L2.St → XK} {t : TA} {σ : L2.St} {H : Hp} {Q : VK} (h : t σ H fun vs H1 => sp vs H1 Q (E σ)) : tCallS sp E t σ H Q := h
theorem VarAt.updL {C : Addr} {H : Hp} {x : Addr} {v w : V} {xs : List V} {t : Addr} {l l' : List V} (h : VarAt C H x v w xs) (ht : H t = some (.lst l)) : VarAt C (upd H t (.lst l')) x v w xs := by
  obtain ⟨dx, t2, e1, e2⟩ := h
  refine ⟨dx, t2, ?_, ?_⟩
  · rw [upd_ne (fun y => by subst y; rw [e1] at ht; cases ht)]; exact e1
  · rw [upd_ne (fun y => by subst y; rw [e2] at ht; cases ht)]; exact e2
end Lay
namespace Lay
open PySem PySem.Spec PyProof.Rows L2 Exv
theorem four_at {a b c d lo hi i : Int} (i0 : 0 ≤ i) (i1 : i < 4) (ha : lo ≤ a ∧ a ≤ hi) (hb : lo ≤ b ∧ b ≤ hi) (hc : lo ≤ c ∧ c ≤ hi) (hd : lo ≤ d ∧ d ≤ hi) : ∃ k, atI [V.int a, V.int b, V.int c, V.int d] i = some (.int k) ∧ lo ≤ k ∧ k ≤ hi := by
  obtain rfl | rfl | rfl | rfl : i = 0 ∨ i = 1 ∨ i = 2 ∨ i = 3 := by omega
  · exact ⟨a, rfl, ha⟩
  · exact ⟨b, rfl, hb⟩
  · exact ⟨c, rfl, hc⟩
  · exact ⟨d, rfl, hd⟩
/-- what is written into a list leaves values what they are -/
theorem Kz.updL {H : Hp} {D : Addr} {l l' : List V} {v : V} (hD : H D = some (.lst l)) (k : Kz H v) : Kz (upd H D (.lst l')) v := by
  obtain ⟨t, k, hz⟩ := k
  by_cases e : v = .ref D
  · subst e
    exact .lst upd_same
  · exact ⟨t, k.same fun b o eb h => by rw [upd_ne (fun z => e (by rw [eb, z]))]; exact h, hz⟩
theorem Kp.updL {p : Addr} {H : Hp} {D : Addr} {l l' : List V} {v : V} (hD : H D = some (.lst l)) (k : Kp p H v) : Kp p (upd H D (.lst l')) v := ⟨k.1.updL hD, k.2⟩
def KpL (p : Addr) (H : Hp) (xs : List V) : Prop := ∀ x ∈ xs, Kp p H x
theorem KpL.mono {p : Addr} {H H' : Hp} {xs : List V} (s : Same H H') (h : KpL p H xs) : KpL p H' xs := fun x m => (h x m).mono s
theorem KpL.keep {p : Addr} {H H' : Hp} {xs : List V} (s : Keep p H H') (h : KpL p H xs) : KpL p H' xs := fun x m => (h x m).keep s
theorem KpL.kz {p : Addr} {H : Hp} {xs : List V} (h : KpL p H xs) : KzL H xs := fun x m => (h x m).1
theorem KpL.ints {p : Addr} {H : Hp} (ns : List Int) : KpL p H (ns.map V.int) := fun x m => by
  obtain ⟨n, _, rfl⟩ := List.mem_map.mp m
  exact .int n
theorem KpL.set {p : Addr} {H : Hp} {xs : List V} {i : Nat} {y : V} (h : KpL p H xs) (hy : Kp p H y) : KpL p H (xs.set i y) := fun x m => by
  rcases List.mem_or_eq_of_mem_set m with e | e
  · exact h x e
  · rw [e]; exact hy
theorem wants_ok {v w : V} {xs : List V} (h : wants v w xs = none) : ∃ (z : Str) (s : Int) (ns : List Int), v = .str z ∧ nameOk z = true ∧ w = .int s ∧ xs = ns.map V.int := by
  by_cases hn : isName v = true
  case neg => rw [wants_name (Bool.eq_false_iff.mpr hn)] at h; cases h
  by_cases hw : within w 1 8 = true
  case neg => rw [wants_size hn (Bool.eq_false_iff.mpr hw)] at h; cases h
  obtain ⟨z, rfl, hz⟩ := isName_str hn
  obtain ⟨s, rfl, _, _⟩ := within_int hw
  by_cases hl : (decide (1 ≤ xs.length) && decide (xs.length ≤ 4)) = true
  case neg => rw [wants_slots hn hw (Bool.eq_false_iff.mpr hl)] at h; cases h
  cases ha : fst (aBad s xs) xs.length with
  | some k => rw [wants_addr hn hw hl ha] at h; cases h
  | none =>
    obtain ⟨ns, rfl, _⟩ := ints_of (fst_none_at ha)
    exact ⟨z, s, ns, rfl, hz, rfl, rfl⟩
theorem shaped_tints (ns : List Int) : SeqAt.shaped (.tuple (ns.map PyData.int)) = true := by
  have h := PySem.W.shaped_ints ns
  unfold SeqAt.shaped at h ⊢
  exact h
theorem eqv_self_ints (ns : List Int) : PyData.eqvAll (ns.map PyData.int) (ns.map PyData.int) = true := by
  induction ns with
  | nil => rfl
  | cons a r ih => rw [List.map_cons, PyData.eqvAll, ih, Bool.and_true]; simp [PyData.eqv]
theorem rd_neTI {K : PySem.W.Frag} {H : Hp} {Q : VK} {a b : Addr} {ns : List Int} (ha : SqT K H a (ns.map V.int)) (hb : SqT K H b (ns.map V.int)) (q : Q (.bl false) H) : rNeD K (.ref a) (.ref b) H Q :=
  dp_ne (.tuple (ns.map PyData.int)) (.tuple (ns.map PyData.int)) (.tup ha (dpAll_ints ns)) (.tup hb (dpAll_ints ns)) (shaped_tints ns) (shaped_tints ns) (by rw [PyData.eqv]; exact eqv_self_ints ns) q
theorem rd_neLI {K : PySem.W.Frag} {H : Hp} {Q : VK} {a b : Addr} {ns : List Int} (ha : SqL K H a (ns.map V.int)) (hb : SqL K H b (ns.map V.int)) (q : Q (.bl false) H) : rNeD K (.ref a) (.ref b) H Q :=
  dp_ne (.list (ns.map PyData.int)) (.list (ns.map PyData.int)) (.lst ha (dpAll_ints ns)) (.lst hb (dpAll_ints ns)) (PySem.W.shaped_ints ns) (PySem.W.shaped_ints ns) (by rw [PyData.eqv]; exact eqv_self_ints ns) q
theorem ixN_of {n : Nat} {d : Int} (h0 : 0 ≤ d) (h1 : d < n) : ixN n d = some d.toNat := by
  unfold ixN
  rw [if_pos h0, if_pos h1]
end Lay
namespace Lay
open PySem PySem.Spec PyProof.Rows L2 Exv
theorem for_go {J : It} {n : Nat} {G : Hp → Prop} {Y : Nat → Hp → V → Hp → Prop} (w : Walk J n G Y) {g : TG} {tb : TS} {nx : L2.St → Hp → Prop} {rt : VK} {σ : L2.St} {H1 : Hp} (Pv : Nat → L2.St → Hp → Prop) (h0 : Pv 0 σ H1)
    (hG : ∀ i σ H, i ≤ n → Pv i σ H → G H) (hs : ∀ i x σ H H', i < n → Pv i σ H → Y i H x H' → g x σ H' fun σ2 H2 => tb { nx := Pv (i + 1), rt := rt, bk := nx, ct := Pv (i + 1) } σ2 H2) (hd : ∀ σ H, Pv n σ H → nx σ H) :
    ∃ W : Nat → Nat → L2.St → Hp → Prop, (∃ m, W 0 m σ H1) ∧ ∀ i m σ H, W i m σ H →
    (J.stop i H ∧ nx σ H) ∨ (J.go i H ∧ ∃ N : L2.St → Hp → Prop, (∀ σ' H', N σ' H' → ∃ m', m' < m ∧ W (i + 1) m' σ' H') ∧ ∀ x H', J.yld i H x H' → g x σ H' fun σ2 H2 => tb { nx := N, rt := rt, bk := nx, ct := N } σ2 H2) :=
  for_it (D := { nx := nx, rt := rt, bk := nx, ct := nx }) w Pv h0 hG hs hd
end Lay

end

section
namespace SetL
open PySem PySem.Spec PyProof.Rows L2
section
variable {P : Program} {w : World} {A : Around} {E : Value → Shared → Prop} {s : Shared}
/-- the object of a set that is just made -/
abbrev newO (w : World) : Obj := { cls := .type "set", dict := none, data := .set #[] 0 (.fresh 0 0 (!w.params.followText "set-order")) }
/-- what set.__init__(S, l) leaves, l a list of whole numbers -/
def Filled (w : World) (s : Shared) (ns : List Int) (s2 : Shared) : Prop :=
  ∃ (h' : Heap) (tk c : Nat), s2 = { s with heap := h', toks := tk } ∧ SetR w h' s.heap.objs.size (fun j => decide (j ∈ ns)) c ∧ c ≤ ns.length ∧ ∀ b o, s.heap.get? b = some o → h'.get? b = some o
theorem init_ints {l : Addr} {items : Array Value} (ns : List Int) (hh : A.handled = none) (hl : s.heap.IsList l items) (hit : IntsAre items.toList ns) (hb : ns.length + 1 < scanBound) :
    codeAny (model P w) A (.call (.builtin "set.__init__") ⟨[.ref s.heap.objs.size, .ref l], []⟩) (wants (fun r s2 => r = .none ∧ Filled w s ns s2) E) { s with heap := s.heap.push (newO w) } := by
  have hisz : items.size = ns.length := by
    have q := IntsAre.length hit
    rwa [Array.length_toList] at q
  have hS : (s.heap.push (newO w)).get? s.heap.objs.size = some (newO w) := Heap.get?_push_size _ rfl
  have hT : Shared.TypeIs { s with heap := s.heap.push (newO w) } (.ref s.heap.objs.size) "set" := ⟨_, hS, rfl⟩
  refine codeAny_call_builtin F.called_set.init.plain F.entry_set_init (check_set_init_1 hT ?_)
  obtain ⟨⟨oc, od, odt, os⟩, hol, hcl, nl, hdl⟩ := hl
  simp only at hcl hdl
  subst hcl; subst hdl
  have hol' : (s.heap.push (newO w)).get? l = some { cls := .type "list", dict := od, data := .seq items nl, slots := os } := Heap.get?_push_of_some _ hol
  have f1 := PySem.F.sub_list_set
  have f2 := PySem.F.sub_list_frozenset
  have hne : (Value.type "list" == Value.type "dict") = false := by decide
  have hl1 : (s.heap.push (newO w)).IsList l items := ⟨_, hol', rfl, nl, rfl⟩
  unfold Builtin.«set.__init__» noKeywords Builtin.Frozenset.updateFrom
  generalize hPI : pyIter = PI
  wp_walk
  subst hPI
  refine wpAny_pyIter_list hl1 (wpAny_bind (wpAny_runValue ?_))
  have hlS : l < s.heap.objs.size := Heap.lt_size hol
  have hz : (s.heap.push (newO w)).objs.size = s.heap.objs.size + 1 := Heap.size_push ..
  have hneI : l ≠ (s.heap.push (newO w)).objs.size := by rw [hz]; exact Nat.ne_of_lt (Nat.lt_succ_of_lt hlS)
  have hSf : s.heap.objs.size ∉ [(s.heap.push (newO w)).objs.size, l] := by
    rw [hz]
    intro m
    rcases List.mem_cons.mp m with e | e
    · exact absurd e (Nat.ne_of_lt (Nat.lt_succ_self _))
    · exact absurd (List.mem_singleton.mp e) (Nat.ne_of_gt hlS)
  have hval : ∀ (i : Nat) (v : Value), items[i]? = some v → ∃ k t, ns[i]? = some k ∧ v = .int k t := fun i v hv => by
    have hi : i < ns.length := by rw [← hisz]; exact (Array.getElem?_eq_some_iff.mp hv).1
    obtain ⟨t, e⟩ := PyProof.Rows.IntsAre.int_at hit i v (by rw [Array.getElem?_toList]; exact hv)
    refine ⟨ns[i], t, List.getElem?_eq_getElem hi, ?_⟩
    rw [e, List.getD_eq_getElem?_getD, List.getElem?_eq_getElem hi] <;> rfl
  refine set_update_ints ((Walks.list (by simp [hh]) _ l hneI items).toS) s.heap.objs.size hSf ns hisz hb hval (items.size - 0) 0 _ (by omega) (Nat.zero_le _)
    ⟨⟨_, Heap.get?_push_size _ rfl, rfl, rfl⟩, hl1.push _⟩ ⟨0, Nat.le_refl 0, setR_new_at (Heap.get?_push_of_some _ hS)⟩ fun s' c hm hc hR => ?_
  obtain ⟨h', g', d', tk', os'⟩ := s'
  obtain rfl : g' = s.gens := hm.gens
  obtain rfl : d' = s.drawn := hm.drawn
  obtain rfl : os' = s.os := hm.os
  show wpAny _ _ _ _ _ _
  refine wpAny_pure ?_
  show wpAny _ _ (ret Value.none) _ _ _
  rw [hisz] at hc
  refine wpAny_pure ⟨rfl, h', tk', c, rfl, hR, hc, fun b o e => hm.heap b o (fun m => ?_) (Heap.get?_push_of_some _ (Heap.get?_push_of_some _ e))⟩
  have lt := Heap.lt_size e
  rcases List.mem_cons.mp m with q | q
  · exact absurd q (Nat.ne_of_lt lt)
  · exact absurd (List.mem_singleton.mp q) (by rw [hz]; exact Nat.ne_of_lt (Nat.lt_succ_of_lt lt))
theorem call_set_list {l : Addr} {items : Array Value} (ns : List Int) {Q : Value → Shared → Prop} (hh : A.handled = none) (hl : s.heap.IsList l items) (hit : IntsAre items.toList ns) (hb : ns.length + 1 < scanBound)
    (h : ∀ s2, Filled w s ns s2 → Q (.ref s.heap.objs.size) s2) : wpAny (model P w) A (call (.type "set") [.ref l]) Q E s := by
  obtain ⟨c, tl, hmro⟩ := F.called_set.mro
  have g1 := F.called_set.made
  have g2 := F.called_set.sub
  have g3 := F.called_set.notType
  have g4 := F.called_set.canCreate
  have g5 := F.typeCall_set_1 (.ref l)
  refine wpAny_call (codeAny_of_tree ?_)
  show wpAny _ _ (callAny (.type "set") _) _ _ _
  refine wpAny_pure ⟨Code.quiet_builtin _ (by decide +kernel), codeAny_builtin F.entry_type_call ?_⟩
  rw [Around.under_plain (weight_type_call_type "set" [.ref l] []) rfl]
  repeat (any_goals (first | assumption | wp_step))
  refine codeAny_mono (code_set_led1 (.ref l) (E := E) (Q₁ := fun obj s₁ => obj = .ref s.heap.objs.size ∧ s₁ = { s with heap := s.heap.push (newO w) }) ⟨rfl, rfl⟩) fun r s₁ hr => ?_
  rcases r with e | fl
  · exact hr
  cases fl with
  | ret obj =>
    obtain ⟨rfl, rfl⟩ := hr
    have hT : Shared.TypeIs { s with heap := s.heap.push (newO w) } (.ref s.heap.objs.size) "set" := ⟨_, Heap.get?_push_size _ rfl, rfl⟩
    have k1 := F.called_set.init.lookup
    have k2 := F.called_set.init.bind (.ref s.heap.objs.size)
    repeat (any_goals (first | assumption | wp_step))
    refine codeAny_mono (init_ints (E := E) ns (by simp [hh]) hl hit hb) fun r₂ s₂ hr₂ => ?_
    rcases r₂ with e | fl₂
    · exact hr₂
    cases fl₂ with
    | ret r =>
      obtain ⟨rfl, fl⟩ := hr₂
      repeat (any_goals (first | assumption | wp_step))
      exact h _ fl
    | _ => exact hr₂.elim
  | _ => exact hr.elim
end
end SetL
namespace Lay
open PySem PySem.Spec PyProof.Rows L2
/-- set(l), l a list of whole numbers -/
def rSetOfL (K : PySem.W.Frag) (w : World) : List V → Hp → VK → Prop := fun xs H Q => ∃ (a : Addr) (ns : List Int), xs = [.ref a] ∧ SqL K H a (ns.map V.int) ∧ ns.length ≤ 60 ∧
  ∀ (p : Addr) (n : Nat), H p = none → n ≤ ns.length → Q (.ref p) (upd H p (SetO w p (fun j => decide (j ∈ ns)) n))
theorem call_setL {X : Cx} (hc : X.calm = true) : CallR X (.type "set") (rSetOfL X.K X.w) := by
  intro pins s σ H xs us Q I r h
  obtain ⟨a, ns, rfl, hq, hl, q⟩ := h
  rw [Vals.ref1 r]
  obtain ⟨its, rv, p', hz⟩ := I.list hq
  refine SetL.call_set_list ns (I.ok.hd hc) p'.isList (by rw [List.toList_toArray]; exact ints_of_vals rv) (by unfold scanBound; omega) fun s2 f => ?_
  obtain ⟨h', tk, n, rfl, R, hn, k⟩ := f
  have hN : H s.heap.objs.size = none := I.hok.fresh (Nat.le_refl _)
  exact ⟨.ref _, _, I.laid (t' := tk) k (Nat.le_refl _) (setO_new R), rfl, q _ n hN hn⟩
theorem rd_setOfL {K : PySem.W.Frag} {w : World} {H : Hp} {Q : VK} {a : Addr} {ns : List Int} (h : SqL K H a (ns.map V.int)) (hl : ns.length ≤ 60) (q : ∀ (p : Addr) (n : Nat), H p = none → n ≤ ns.length → Q (.ref p) (upd H p (SetO w p (fun j => decide (j ∈ ns)) n))) : rSetOfL K w [.ref a] H Q := ⟨a, ns, rfl, h, hl, q⟩
end Lay

end

section
namespace Lay
open PySem PySem.Spec PyProof.Rows L2 Exv
/-! ### a list or a tuple, gone through -/
def iSeq (K : PySem.W.Frag) (tl : TE) : TI := fun σ H R => tl σ H fun x H1 => ∃ a, x = .ref a ∧ ((∃ xs, SqL K H1 a xs) ∧ R (Itl K a) H1 ∨ (∃ xs, SqT K H1 a xs) ∧ R (Itt K a) H1)
theorem pi_seq {X : Cx} {tg l : Expr} {tl : TE} (hl : PE X l tl) : PI X tg l (iSeq X.K tl) := by
  refine ⟨fun pins s σ H R I h => ?_⟩
  refine thn (hl.run pins s σ H _ I h) fun v s1 ⟨x, H1, I1, r1, q1⟩ => ?_
  obtain ⟨a, e, q⟩ := q1
  subst e
  have pos {b : Addr} {o : Obj} (hb : b ∈ [s1.heap.objs.size]) : b = s1.heap.objs.size := by simpa using hb
  rcases q with ⟨⟨xs, hq⟩, q⟩ | ⟨⟨xs, hq⟩, q⟩
  · cases r1
    obtain ⟨its, rv, p, hz⟩ := I1.list hq
    refine wpAny_pyIter_list p.isList ⟨s1.heap.objs.size, [s1.heap.objs.size], _, _, H1, rfl, I1.kept (t' := s1.toks) fun b o e => Heap.get?_push_of_some _ e, turn_list a _, ⟨_, Heap.get?_push_size _ rfl, rfl, rfl⟩, fun b hb => ?_, q⟩
    have e : b = s1.heap.objs.size := by simpa using hb
    rw [e]
    exact I1.fpOk (Nat.le_refl _) (I1.hok.fresh (Nat.le_refl _))
  · cases r1
    obtain ⟨its, rv, p, hz⟩ := I1.tuple hq
    refine wpAny_pyIter_tuple (show s1.heap.IsTuple a its.toArray from p) ⟨s1.heap.objs.size, [s1.heap.objs.size], _, _, H1, rfl, I1.kept (t' := s1.toks) fun b o e => Heap.get?_push_of_some _ e, turn_tuple a _, ⟨_, Heap.get?_push_size _ rfl, rfl, rfl⟩, fun b hb => ?_, q⟩
    have e : b = s1.heap.objs.size := by simpa using hb
    rw [e]
    exact I1.fpOk (Nat.le_refl _) (I1.hok.fresh (Nat.le_refl _))
theorem rd_iSeq {K : PySem.W.Frag} {tl : TE} {σ : L2.St} {H : Hp} {R : It → Hp → Prop} (h : tl σ H fun x H1 => ∃ a, x = .ref a ∧ ((∃ xs, SqL K H1 a xs) ∧ R (Itl K a) H1 ∨ (∃ xs, SqT K H1 a xs) ∧ R (Itt K a) H1)) : iSeq K tl σ H R := h
theorem rd_seqV {K : PySem.W.Frag} {tl : TE} {σ : L2.St} {a : Addr} {xs : List V} {H : Hp} {R : It → Hp → Prop} (ht : ∀ Q : VK, Q (.ref a) H → tl σ H Q) (h : H a = some (.lst xs) ∨ H a = some (.tup xs)) (q : ∀ J G, Walk J xs.length G (YAt xs) → (∀ H', Same H H' → G H') → R J H) : iSeq K tl σ H R := by
  refine ht _ ?_
  rcases h with h | h
  · exact ⟨a, rfl, .inl ⟨⟨xs, SqL.of h⟩, q _ _ (walk_list (K := K) (a := a) (xs := xs)) fun H' s => SqL.of (s _ _ h)⟩⟩
  · exact ⟨a, rfl, .inr ⟨⟨xs, SqT.of h⟩, q _ _ (walk_tup (K := K) (a := a) (xs := xs)) fun H' s => SqT.of (s _ _ h)⟩⟩
/-! ### == of variables -/
def VArg (K : PySem.W.Frag) (C : Addr) (z : Str) (s : Int) (ns : List Int) (H : Hp) (v : V) (r : Bool) : Prop :=
  (∃ T, TyX K H v T ∧ PySem.W.kitOne K T (.ref C) = some false ∧ r = false) ∨
  (∃ b z2 s2 ns2, v = .ref b ∧ VarAt C H b (.str z2) (.int s2) (ns2.map V.int) ∧ r = (decide (z = z2) && (decide (s = s2) && decide (ns = ns2))))
def spEqV (K : PySem.W.Frag) (C : Addr) : Sp := fun vs H Q _ => ∃ a v z s ns r, vs = [.ref a, v] ∧ VarAt C H a (.str z) (.int s) (ns.map V.int) ∧ VArg K C z s ns H v r ∧ Q (.bl r) H
theorem rd_eqTI {K : PySem.W.Frag} {H : Hp} {Q : VK} {a b : Addr} {ns ms : List Int} (ha : SqT K H a (ns.map V.int)) (hb : SqT K H b (ms.map V.int)) (q : Q (.bl (decide (ns = ms))) H) : rEqD K (.ref a) (.ref b) H Q :=
  ⟨.tuple (ns.map PyData.int), .tuple (ms.map PyData.int), .tup ha (dpAll_ints ns), .tup hb (dpAll_ints ms), shaped_tints ns, shaped_tints ms, by rw [PyData.eqv, PySem.W.ked_eqvAll]; exact q⟩
theorem rd_eqLI {K : PySem.W.Frag} {H : Hp} {Q : VK} {a b : Addr} {ns ms : List Int} (ha : SqL K H a (ns.map V.int)) (hb : SqL K H b (ms.map V.int)) (q : Q (.bl (decide (ns = ms))) H) : rEqD K (.ref a) (.ref b) H Q :=
  ⟨.list (ns.map PyData.int), .list (ms.map PyData.int), .lst ha (dpAll_ints ns), .lst hb (dpAll_ints ms), PySem.W.shaped_ints ns, PySem.W.shaped_ints ms, by rw [PyData.eqv, PySem.W.ked_eqvAll]; exact q⟩
/-! ### the lines of addresses -/
def spLinesOf (K : PySem.W.Frag) : Sp := fun vs H Q _ => ∃ (a : Addr) (ns : List Int) (m : Int), vs = [.ref a, .int m] ∧ (H a = some (.lst (ns.map V.int)) ∨ H a = some (.tup (ns.map V.int))) ∧ ns.length ≤ 20 ∧ 1 ≤ m ∧ m < 1000 ∧
  ∀ (p : Addr) (ms : List Int) (H' : Hp), Same H H' → H' p = some (.tup (ms.map V.int)) → ms.Pairwise (· < ·) → (∀ k, k ∈ ms ↔ ∃ n ∈ ns, n / m = k) → Q (.ref p) H'
/-! ### numbers for a variable -/
def NumAt (H : Hp) (r : Addr) (z : Str) (s : Int) (t : Addr) (ns : List Int) : Prop := H r = some (.lst [.str z, .int s, .ref t]) ∧ H t = some (.lst (ns.map V.int))
theorem NumAt.mono {H H' : Hp} {r : Addr} {z : Str} {s : Int} {t : Addr} {ns : List Int} (k : Same H H') (h : NumAt H r z s t ns) : NumAt H' r z s t ns := ⟨k _ _ h.1, k _ _ h.2⟩
theorem NumAt.keep {H H' : Hp} {p r : Addr} {z : Str} {s : Int} {t : Addr} {ns : List Int} (k : Keep p H H') (hr : r ≠ p) (ht : t ≠ p) (h : NumAt H r z s t ns) : NumAt H' r z s t ns := ⟨k _ _ hr h.1, k _ _ ht h.2⟩
def numD (z : Str) (s : Int) (ns : List Int) : PyData := .list [.str z, .int s, .list (ns.map PyData.int)]
theorem shaped_num {z : Str} {s : Int} {ns : List Int} (hz : PyData.strOk z = true) : SeqAt.shaped (numD z s ns) = true := by
  have h := PySem.W.shaped_ints ns
  unfold SeqAt.shaped at h ⊢
  obtain ⟨h1, h2⟩ := Bool.and_eq_true_iff.mp h
  simp only [PyData.canLay0] at h1
  have h3 : PyData.depthAll (ns.map PyData.int) = 0 := by
    clear h h1 h2
    induction ns with
    | nil => rfl
    | cons a r ih => rw [List.map_cons, PyData.depthAll, ih, PyData.depth]; rfl
  have e1 : PyData.canLay0 (numD z s ns) = true := by
    unfold numD
    simp only [PyData.canLay0, PyData.canLayAll0, hz, h1, Bool.and_self]
  have e2 : PyData.depth (numD z s ns) ≤ 64 := by
    unfold numD
    simp only [PyData.depth, PyData.depthAll, h3]
    omega
  rw [e1, decide_eq_true e2]
  rfl
theorem eqv_num {z z2 : Str} {s s2 : Int} {ns ns2 : List Int} : PyData.eqv (numD z s ns) (numD z2 s2 ns2) = (decide (z = z2) && (decide (s = s2) && decide (ns = ns2))) := by
  unfold numD
  simp only [PyData.eqv, PyData.eqvAll, PySem.W.ked_eqvAll, Bool.and_true]
  rw [beq_dec, beq_dec]
theorem rd_eqNum {K : PySem.W.Frag} {H : Hp} {Q : VK} {r r2 t t2 : Addr} {z z2 : Str} {s s2 : Int} {ns ns2 : List Int} (h : NumAt H r z s t ns) (h2 : NumAt H r2 z2 s2 t2 ns2) (hz : nameOk z = true) (hz2 : nameOk z2 = true)
    (q : Q (.bl (decide (z = z2) && (decide (s = s2) && decide (ns = ns2)))) H) : rEqD K (.ref r) (.ref r2) H Q :=
  ⟨numD z s ns, numD z2 s2 ns2, .lst (SqL.of h.1) (.cons (.str _) (.cons (.int _) (.cons (.lst (SqL.of h.2) (dpAll_ints ns)) .nil))), .lst (SqL.of h2.1) (.cons (.str _) (.cons (.int _) (.cons (.lst (SqL.of h2.2) (dpAll_ints ns2)) .nil))),
    shaped_num (name_strOk hz), shaped_num (name_strOk hz2), by rw [eqv_num]; exact q⟩
def Apart (ns : List Int) : Prop := ns.Pairwise fun a b => 8 ≤ a - b ∨ 8 ≤ b - a
def Good (ns : List Int) : Prop := 1 ≤ ns.length ∧ ns.length ≤ 4 ∧ (∀ n ∈ ns, 0 ≤ n ∧ n ≤ 1016) ∧ Apart ns
def Tight (ns : List Int) : Prop := 1 ≤ ns.length ∧ ns.length ≤ 4 ∧ (∀ n ∈ ns, 0 ≤ n ∧ n ≤ 180) ∧ Apart ns
theorem Tight.good {ns : List Int} (h : Tight ns) : Good ns := ⟨h.1, h.2.1, fun n m => ⟨(h.2.2.1 n m).1, by have := (h.2.2.1 n m).2; omega⟩, h.2.2.2⟩
theorem Good.rev {ns : List Int} (h : Good ns) : Good ns.reverse :=
  ⟨by rw [List.length_reverse]; exact h.1, by rw [List.length_reverse]; exact h.2.1, fun n m => h.2.2.1 n (List.mem_reverse.mp m), List.pairwise_reverse.mpr (h.2.2.2.imp fun e => e.symm)⟩
theorem Good.tail {ns : List Int} (h : Good ns) (h2 : 1 < ns.length) : Good (ns.drop 1) :=
  ⟨by rw [List.length_drop]; omega, by rw [List.length_drop]; have := h.2.1; omega, fun n m => h.2.2.1 n (List.mem_of_mem_drop m), h.2.2.2.sublist (List.drop_sublist _ _)⟩
/-- one of the numbers moved far away -/
def moved (ns : List Int) (c : Int) (k : Nat) : List Int := ((List.range ns.length).take k).map fun i => ns.getD i 0 + 200 * (if (i : Int) = c then 1 else 0)
theorem moved_len (ns : List Int) (c : Int) {k : Nat} (h : k ≤ ns.length) : (moved ns c k).length = k := by unfold moved; simp [h]
theorem moved_succ (ns : List Int) (c : Int) {k : Nat} (h : k < ns.length) : moved ns c (k + 1) = moved ns c k ++ [ns[k] + 200 * (if (k : Int) = c then 1 else 0)] := by
  unfold moved
  rw [List.take_add_one, List.map_append]
  simp [h, List.getElem?_range]
theorem Tight.moved {ns : List Int} (h : Tight ns) (c : Int) : Good (moved ns c ns.length) := by
  have hl := moved_len ns c (Nat.le_refl _)
  have hg : ∀ (i : Nat) (hi : i < (Lay.moved ns c ns.length).length), (Lay.moved ns c ns.length)[i] = ns[i]'(by omega) + 200 * (if (i : Int) = c then 1 else 0) := by
    intro i hi
    have hi' : i < ns.length := by omega
    unfold Lay.moved
    simp [hi']
  refine ⟨by rw [hl]; exact h.1, by rw [hl]; exact h.2.1, fun n hn => ?_, ?_⟩
  · obtain ⟨i, hi, rfl⟩ := List.getElem_of_mem hn
    rw [hg]
    have := h.2.2.1 _ (List.getElem_mem (show i < ns.length by omega))
    split <;> omega
  · refine List.pairwise_iff_getElem.mpr fun i j hi hj hij => ?_
    rw [hg, hg]
    have hi' : i < ns.length := by omega
    have hj' : j < ns.length := by omega
    have e := List.pairwise_iff_getElem.mp h.2.2.2 i j hi' hj' hij
    have a1 := h.2.2.1 _ (List.getElem_mem hi')
    have a2 := h.2.2.1 _ (List.getElem_mem hj')
    split <;> split <;> omega
theorem Good.wants {z : Str} {s : Int} {ns : List Int} (hz : nameOk z = true) (h1 : 1 ≤ s) (h8 : s ≤ 8) (h : Good ns) : wants (.str z) (.int s) (ns.map V.int) = none := by
  have hw : within (.int s) 1 8 = true := by
    show (decide (1 ≤ s) && decide (s ≤ 8)) = true
    rw [decide_eq_true h1, decide_eq_true h8]; rfl
  refine wants_none hz hw (by rw [List.length_map, decide_eq_true h.1, decide_eq_true h.2.1]; rfl) (fst_none fun j hj => ?_) (fst_none fun j hj => ?_)
  · rw [List.length_map] at hj
    unfold aBad
    rw [List.getElem?_map, List.getElem?_eq_getElem hj]
    have := h.2.2.1 _ (List.getElem_mem hj)
    show (!(decide (0 ≤ ns[j]) && decide (ns[j] ≤ 1024 - s))) = false
    rw [decide_eq_true this.1, decide_eq_true (by omega)]; rfl
  · rw [List.length_map] at hj
    unfold bBad
    rw [List.getElem?_map, List.getElem?_eq_getElem hj]
    show ((ns.map V.int).take j).any (near s (.int ns[j])) = false
    rw [← List.map_take, List.any_map, List.any_eq_false]
    intro x hx
    obtain ⟨i, hi, rfl⟩ := List.getElem_of_mem hx
    rw [List.length_take] at hi
    have e := List.pairwise_iff_getElem.mp h.2.2.2 i j (by omega) hj (by omega)
    rw [List.getElem_take]
    show ¬ decide ((if ns[j] - ns[i] < 0 then -(ns[j] - ns[i]) else ns[j] - ns[i]) < s) = true
    rw [decide_eq_true_iff]
    split <;> omega
theorem nameOk_q {z : Str} (h : nameOk z = true) (hl : z.length ≤ 7) : nameOk (z ++ ("q" : Str)) = true := by
  unfold nameOk at h ⊢
  obtain ⟨h1, h2⟩ := Bool.and_eq_true_iff.mp h
  have e : (z ++ ("q" : Str)).cps = z.cps ++ #[113] := rfl
  have e2 : (z ++ ("q" : Str)).length = z.length + 1 := by
    show (z ++ ("q" : Str)).cps.size = _
    rw [e, Array.size_append]; rfl
  rw [e2, e, Array.toList_append, List.all_append, h2, decide_eq_true (by omega), decide_eq_true (by omega)]
  rfl
def spNumbers : Sp := fun vs H Q _ => ∃ (p : Addr) (n : Nat) (c : Addr), vs = [.ref p] ∧ PenAt c H p n ∧ n + 20 < 100000 ∧
  ∀ (r t : Addr) (z : Str) (s : Int) (ns : List Int) (H' : Hp), NumAt H' r z s t ns → r ≠ p → t ≠ p → nameOk z = true → z.length ≤ 7 → 1 ≤ s → s ≤ 8 → Tight ns → PenAt c H' p (n + 12) → Keep p H H' → Q (.ref r) H'
def spOtherV : Sp := fun vs H Q _ => ∃ (p : Addr) (n : Nat) (c : Addr) (ch : Int) (r t : Addr) (z : Str) (s : Int) (ns : List Int), vs = [.ref p, .int ch, .ref r] ∧ PenAt c H p n ∧ n + 20 < 100000 ∧ NumAt H r z s t ns ∧ r ≠ p ∧ t ≠ p ∧ nameOk z = true ∧ z.length ≤ 7 ∧ 1 ≤ s ∧ s ≤ 8 ∧ Tight ns ∧
  ∀ (r2 t2 : Addr) (z2 : Str) (s2 : Int) (ns2 : List Int) (H' : Hp), NumAt H' r2 z2 s2 t2 ns2 → r2 ≠ p → t2 ≠ p → nameOk z2 = true → 1 ≤ s2 → s2 ≤ 8 → Good ns2 → PenAt c H' p (n + 1) → Keep p H H' → Q (.ref r2) H'
end Lay

end

section
namespace Lay
open PySem PySem.Spec PyProof.Rows L2 Exv
def Bnd (ns : List Int) : Prop := ∀ (j : Nat) (v : Int), ns[j]? = some v → 40 * (j : Int) ≤ v ∧ v ≤ 44 * (j : Int) + 19
theorem Bnd.nil : Bnd [] := fun j v h => by cases h
theorem Bnd.app {ns : List Int} {v : Int} {i : Nat} (h : Bnd ns) (hl : ns.length = i) (h1 : 40 * (i : Int) ≤ v) (h2 : v ≤ 44 * (i : Int) + 19) : Bnd (ns ++ [v]) := by
  intro j u e
  by_cases hj : j < ns.length
  · rw [List.getElem?_append_left hj] at e
    exact h j u e
  · rw [List.getElem?_append_right (by omega)] at e
    have : j - ns.length = 0 := by
      by_cases z : j - ns.length = 0
      · exact z
      · rw [List.getElem?_eq_none (by simp; omega)] at e; cases e
    rw [this] at e
    cases e
    have : j = i := by omega
    subst this
    exact ⟨h1, h2⟩
theorem Bnd.tight {ns : List Int} (h : Bnd ns) (h1 : 1 ≤ ns.length) (h4 : ns.length ≤ 4) : Tight ns := by
  refine ⟨h1, h4, fun n m => ?_, List.pairwise_iff_getElem.mpr fun i j hi hj hij => ?_⟩
  · obtain ⟨i, hi, rfl⟩ := List.getElem_of_mem m
    have := h i _ (List.getElem?_eq_getElem hi)
    omega
  · have a := h i _ (List.getElem?_eq_getElem hi)
    have b := h j _ (List.getElem?_eq_getElem hj)
    omega
theorem spot_ok {i : Nat} {d e : Int} (hi : i < 4) (d0 : 0 ≤ d) (d1 : d < 5) (e0 : 0 ≤ e) (e1 : e < 20) : 40 * (i : Int) ≤ (40 + d) * (0 + (i : Int)) + e ∧ (40 + d) * (0 + (i : Int)) + e ≤ 44 * (i : Int) + 19 := by
  obtain rfl | rfl | rfl | rfl : i = 0 ∨ i = 1 ∨ i = 2 ∨ i = 3 := by omega
  all_goals omega
end Lay
namespace Lay
open PySem PySem.Spec PyProof.Rows L2 Exv
theorem cut_drop1 {xs : List V} (h : 1 ≤ xs.length) : cutV xs (some 1) none = xs.drop 1 := by
  have e : HT.sIx xs.length 0 (some (1 : Int)) = 1 := by
    unfold HT.sIx
    dsimp only
    split <;> omega
  have e2 : HT.sIx xs.length xs.length none = xs.length := rfl
  unfold cutV
  rw [e, e2]
  exact List.take_of_length_le (by rw [List.length_drop]; exact Nat.le_refl _)
theorem rd_slD {K : PySem.W.Frag} {a : Addr} {xs : List V} {H : Hp} {Q : VK} (h : SqL K H a xs) (hk : 1 ≤ xs.length) (q : ∀ p, H p = none → Q (.ref p) (upd H p (.lst (xs.drop 1)))) : rSlL K (.ref a) (some 1) none H Q :=
  ⟨a, xs, rfl, h, fun p hp => by rw [cut_drop1 hk]; exact q p hp⟩
end Lay
namespace Lay
open PySem PySem.Spec PyProof.Rows L2 Exv
theorem asc_eq : ∀ {xs ys : List Int}, xs.Pairwise (· < ·) → ys.Pairwise (· < ·) → (∀ k, k ∈ xs ↔ k ∈ ys) → xs = ys
  | [], [], _, _, _ => rfl
  | [], b :: _, _, _, h => absurd ((h b).mpr (List.mem_cons_self ..)) (List.not_mem_nil)
  | a :: _, [], _, _, h => absurd ((h a).mp (List.mem_cons_self ..)) (List.not_mem_nil)
  | a :: r, b :: t, hx, hy, h => by
    obtain ⟨a1, a2⟩ := List.pairwise_cons.mp hx
    obtain ⟨b1, b2⟩ := List.pairwise_cons.mp hy
    have e : a = b := by
      rcases List.mem_cons.mp ((h a).mp (List.mem_cons_self ..)) with e | e
      · exact e
      · rcases List.mem_cons.mp ((h b).mpr (List.mem_cons_self ..)) with e2 | e2
        · exact e2.symm
        · have x1 := b1 a e
          have x2 := a1 b e2
          omega
    subst e
    rw [asc_eq a2 b2 fun k => ⟨fun m => ?_, fun m => ?_⟩]
    · rcases List.mem_cons.mp ((h k).mp (List.mem_cons_of_mem _ m)) with e | e
      · subst e; exact absurd (a1 _ m) (Int.lt_irrefl _)
      · exact e
    · rcases List.mem_cons.mp ((h k).mpr (List.mem_cons_of_mem _ m)) with e | e
      · subst e; exact absurd (b1 _ m) (Int.lt_irrefl _)
      · exact e
theorem on_line {k w n : Int} (hw : 0 < w) : (decide (k * w ≤ n) && decide (n < k * w + w)) = decide (n / w = k) := by
  have h1 := Int.le_ediv_iff_mul_le (a := k) (b := n) hw
  have h2 := Int.ediv_lt_iff_lt_mul (a := n) (b := k + 1) hw
  have h3 : (k + 1) * w = k * w + w := by rw [Int.add_mul, Int.one_mul]
  rw [h3] at h2
  rw [Bool.eq_iff_iff, Bool.and_eq_true, decide_eq_true_iff, decide_eq_true_iff, decide_eq_true_iff, ← h1, ← h2]
  omega
theorem line_in {n w : Int} (h : w = 1 ∨ w = 2 ∨ w = 4 ∨ w = 8 ∨ w = 16) (h0 : 0 ≤ n) (h1 : n < 1024) : 0 ≤ n / w ∧ n / w < 1024 / w := by
  rcases h with rfl | rfl | rfl | rfl | rfl <;> omega
def Spots (ns : List Int) : Prop := ns.length ≤ 9 ∧ ∀ n ∈ ns, 0 ≤ n ∧ n < 1024
theorem Spots.nil : Spots [] := ⟨by decide, fun n m => nomatch m⟩
theorem Spots.app {ns : List Int} {v : Int} {i : Nat} (h : Spots ns) (hl : ns.length = i) (hi : i < 9) (h0 : 0 ≤ v) (h1 : v < 1024) : Spots (ns ++ [v]) :=
  ⟨by rw [List.length_append, hl]; exact hi, fun n m => by
    rcases List.mem_append.mp m with e | e
    · exact h.2 n e
    · rw [List.mem_singleton.mp e]; exact ⟨h0, h1⟩⟩
theorem Spots.put {ns : List Int} {v : Int} {i : Nat} (h : Spots ns) (h0 : 0 ≤ v) (h1 : v < 1024) : Spots (ns.set i v) :=
  ⟨by rw [List.length_set]; exact h.1, fun n m => by
    rcases List.mem_or_eq_of_mem_set m with e | e
    · exact h.2 n e
    · rw [e]; exact ⟨h0, h1⟩⟩
/-- the numbers of the lines gone through so far that have one of these addresses -/
def Lines (ns : List Int) (w : Int) (i : Nat) (ws : List Int) : Prop := ws.length ≤ i ∧ ws.Pairwise (· < ·) ∧ ∀ k : Int, k ∈ ws ↔ (0 ≤ k ∧ k < (i : Int) ∧ ∃ n ∈ ns, n / w = k)
theorem Lines.nil {ns : List Int} {w : Int} : Lines ns w 0 [] := ⟨Nat.le_refl _, .nil, fun k => ⟨fun h => (nomatch h), fun h => by have := h.1; have := h.2.1; omega⟩⟩
theorem Lines.yes {ns ws : List Int} {w : Int} {i : Nat} (h : Lines ns w i ws) (e : ∃ n ∈ ns, n / w = (i : Int)) : Lines ns w (i + 1) (ws ++ [(i : Int)]) := by
  refine ⟨by rw [List.length_append]; exact Nat.succ_le_succ h.1, List.pairwise_append.mpr ⟨h.2.1, List.pairwise_singleton .., fun a ha b hb => ?_⟩, fun k => ?_⟩
  · rw [List.mem_singleton.mp hb]
    exact ((h.2.2 a).mp ha).2.1
  · rw [List.mem_append, List.mem_singleton, h.2.2 k]
    constructor
    · rintro (⟨a, b, c⟩ | rfl)
      · exact ⟨a, by omega, c⟩
      · exact ⟨by omega, by omega, e⟩
    · rintro ⟨a, b, c⟩
      by_cases z : k = (i : Int)
      · exact .inr z
      · exact .inl ⟨a, by omega, c⟩
theorem Lines.no {ns ws : List Int} {w : Int} {i : Nat} (h : Lines ns w i ws) (e : ¬ ∃ n ∈ ns, n / w = (i : Int)) : Lines ns w (i + 1) ws := by
  refine ⟨Nat.le_succ_of_le h.1, h.2.1, fun k => ?_⟩
  rw [h.2.2 k]
  constructor
  · rintro ⟨a, b, c⟩
    exact ⟨a, by omega, c⟩
  · rintro ⟨a, b, c⟩
    by_cases z : k = (i : Int)
    · subst z; exact absurd c e
    · exact ⟨a, by omega, c⟩
theorem Lines.all {ns ws ms : List Int} {w : Int} (hw : w = 1 ∨ w = 2 ∨ w = 4 ∨ w = 8 ∨ w = 16) (hs : Spots ns) (h : Lines ns w (1024 / w).toNat ws) (pw : ms.Pairwise (· < ·)) (mem : ∀ k, k ∈ ms ↔ ∃ n ∈ ns, n / w = k) : ms = ws := by
  refine asc_eq pw h.2.1 fun k => ?_
  rw [mem, h.2.2]
  constructor
  · rintro ⟨n, hn, rfl⟩
    have b := hs.2 n hn
    have l := line_in hw b.1 b.2
    exact ⟨l.1, by omega, n, hn, rfl⟩
  · exact fun x => x.2.2
end Lay

end

section
namespace Lay
open PySem PySem.Spec PyProof.Rows L2 Exv
/-! ### agents of any steps -/
theorem Kd.updL {H : Hp} {D : Addr} {l l' : List V} {v : V} {t : Kn} (hD : H D = some (.lst l)) (k : Kd H v t) : Kd (upd H D (.lst l')) v t := by
  cases k with
  | non => exact .non
  | bl b => exact .bl b
  | int i => exact .int i
  | str z => exact .str z
  | @lst a xs h =>
    by_cases e : a = D
    · subst e; exact .lst upd_same
    · exact .lst (by rw [upd_ne e]; exact h)
  | @tup a xs h => exact .tup (by rw [upd_ne (fun e => by subst e; rw [hD] at h; cases h)]; exact h)
  | @dK a xs h => exact .dK (by rw [upd_ne (fun e => by subst e; rw [hD] at h; cases h)]; exact h)
/-- a value that may be a step: its parts, if it is a tuple -/
def SV (H : Hp) (v : V) (o : Option (List V)) : Prop := Kz H v ∧ match o with
  | some xs => (∃ p, v = .ref p ∧ H p = some (.tup xs)) ∧ ∀ x ∈ xs, Kz H x
  | none => ∃ t, Kd H v t ∧ isTy t .tuple = false
theorem SV.mono {H H' : Hp} {v : V} {o : Option (List V)} (s : Same H H') (h : SV H v o) : SV H' v o := by
  cases o with
  | none =>
    obtain ⟨h1, t, h2, h3⟩ := h
    exact ⟨h1.mono s, t, h2.mono s, h3⟩
  | some xs =>
    obtain ⟨h1, ⟨p, e, h2⟩, h3⟩ := h
    exact ⟨h1.mono s, ⟨p, e, s _ _ h2⟩, fun x m => (h3 x m).mono s⟩
theorem SV.tup {H : Hp} {p : Addr} {xs : List V} (h : H p = some (.tup xs)) (k : ∀ x ∈ xs, Kz H x) : SV H (.ref p) (some xs) := ⟨.tup h, ⟨p, rfl, h⟩, k⟩
def SVs (H : Hp) (xs : List V) (os : List (Option (List V))) : Prop := xs.length = os.length ∧ ∀ (i : Nat) (v : V), xs[i]? = some v → ∃ o, os[i]? = some o ∧ SV H v o
theorem SVs.mono {H H' : Hp} {xs : List V} {os : List (Option (List V))} (s : Same H H') (h : SVs H xs os) : SVs H' xs os := ⟨h.1, fun i v e => by
  obtain ⟨o, e1, e2⟩ := h.2 i v e
  exact ⟨o, e1, e2.mono s⟩⟩
/-- the same, with nothing at p -/
def SVp (p : Addr) (H : Hp) (v : V) (o : Option (List V)) : Prop := SV H v o ∧ v ≠ .ref p ∧ ∀ xs, o = some xs → ∀ x ∈ xs, x ≠ .ref p
theorem SVp.keep {p : Addr} {H H' : Hp} {v : V} {o : Option (List V)} (s : Keep p H H') (h : SVp p H v o) : SVp p H' v o := by
  obtain ⟨h1, h2, h3⟩ := h
  refine ⟨?_, h2, h3⟩
  cases o with
  | none =>
    obtain ⟨k1, t, k2, k3⟩ := h1
    exact ⟨(Kp.keep s ⟨k1, h2⟩).1, t, k2.same fun b u e hb => s b u (fun z => h2 (by rw [e, z])) hb, k3⟩
  | some xs =>
    obtain ⟨k1, ⟨q, e, k2⟩, k3⟩ := h1
    refine ⟨(Kp.keep s ⟨k1, h2⟩).1, ⟨q, e, s _ _ (fun z => h2 (by rw [e, z])) k2⟩, fun x m => (Kp.keep s ⟨k3 x m, h3 xs rfl x m⟩).1⟩
theorem SVp.mono {p : Addr} {H H' : Hp} {v : V} {o : Option (List V)} (s : Same H H') (h : SVp p H v o) : SVp p H' v o := ⟨h.1.mono s, h.2⟩
theorem SV.updL {H : Hp} {D : Addr} {l l' : List V} {v : V} {o : Option (List V)} (hD : H D = some (.lst l)) (h : SV H v o) : SV (upd H D (.lst l')) v o := by
  cases o with
  | none =>
    obtain ⟨h1, t, h2, h3⟩ := h
    exact ⟨h1.updL hD, t, h2.updL hD, h3⟩
  | some xs =>
    obtain ⟨h1, ⟨p, e, h2⟩, h3⟩ := h
    exact ⟨h1.updL hD, ⟨p, e, by rw [upd_ne (fun z => by subst z; rw [hD] at h2; cases h2)]; exact h2⟩, fun x m => (h3 x m).updL hD⟩
theorem SVp.updL {p : Addr} {H : Hp} {D : Addr} {l l' : List V} {v : V} {o : Option (List V)} (hD : H D = some (.lst l)) (h : SVp p H v o) : SVp p (upd H D (.lst l')) v o := ⟨h.1.updL hD, h.2⟩
def SVsp (p : Addr) (H : Hp) (xs : List V) (os : List (Option (List V))) : Prop := xs.length = os.length ∧ ∀ (i : Nat) (v : V), xs[i]? = some v → ∃ o, os[i]? = some o ∧ SVp p H v o
theorem SVsp.mono {p : Addr} {H H' : Hp} {xs : List V} {os : List (Option (List V))} (s : Same H H') (h : SVsp p H xs os) : SVsp p H' xs os := ⟨h.1, fun i v e => by
  obtain ⟨o, e1, e2⟩ := h.2 i v e
  exact ⟨o, e1, e2.mono s⟩⟩
theorem SVsp.keep {p : Addr} {H H' : Hp} {xs : List V} {os : List (Option (List V))} (s : Keep p H H') (h : SVsp p H xs os) : SVsp p H' xs os := ⟨h.1, fun i v e => by
  obtain ⟨o, e1, e2⟩ := h.2 i v e
  exact ⟨o, e1, e2.keep s⟩⟩
theorem SVsp.updL {p : Addr} {H : Hp} {D : Addr} {l l' : List V} {xs : List V} {os : List (Option (List V))} (hD : H D = some (.lst l)) (h : SVsp p H xs os) : SVsp p (upd H D (.lst l')) xs os := ⟨h.1, fun i v e => by
  obtain ⟨o, e1, e2⟩ := h.2 i v e
  exact ⟨o, e1, e2.updL hD⟩⟩
theorem SVsp.s {p : Addr} {H : Hp} {xs : List V} {os : List (Option (List V))} (h : SVsp p H xs os) : SVs H xs os := ⟨h.1, fun i v e => by
  obtain ⟨o, e1, e2⟩ := h.2 i v e
  exact ⟨o, e1, e2.1⟩⟩
theorem SVsp.nil {p : Addr} {H : Hp} : SVsp p H [] [] := ⟨rfl, fun i v e => by simp at e⟩
theorem SVsp.app {p : Addr} {H : Hp} {xs : List V} {os : List (Option (List V))} {v : V} {o : Option (List V)} (h : SVsp p H xs os) (k : SVp p H v o) : SVsp p H (xs ++ [v]) (os ++ [o]) := by
  refine ⟨by simp [h.1], fun i w e => ?_⟩
  by_cases hi : i < xs.length
  · rw [List.getElem?_append_left hi] at e
    obtain ⟨o', e1, e2⟩ := h.2 i w e
    exact ⟨o', by rw [List.getElem?_append_left (by rw [← h.1]; exact hi)]; exact e1, e2⟩
  · rw [List.getElem?_append_right (by omega)] at e
    have : i - xs.length = 0 := by
      cases hj : i - xs.length with
      | zero => rfl
      | succ j => rw [hj] at e; simp at e
    rw [this] at e
    obtain rfl : v = w := by simpa using e
    exact ⟨o, by rw [List.getElem?_append_right (by rw [← h.1]; omega), ← h.1, this]; rfl, k⟩
theorem SVsp.set {p : Addr} {H : Hp} {xs : List V} {os : List (Option (List V))} {v : V} {o : Option (List V)} (h : SVsp p H xs os) (k : SVp p H v o) (n : Nat) : SVsp p H (xs.set n v) (os.set n o) := by
  refine ⟨by simp [h.1], fun i w e => ?_⟩
  rw [List.getElem?_set] at e ⊢
  by_cases hi : n = i
  · rw [if_pos hi] at e ⊢
    by_cases hl : i < xs.length
    · have e1 : n < xs.length := by omega
      rw [if_pos e1] at e
      have e2 : n < os.length := by rw [← h.1]; exact e1
      rw [if_pos e2]
      cases e
      exact ⟨o, rfl, k⟩
    · have e1 : ¬ n < xs.length := by omega
      rw [if_neg e1] at e; cases e
  · rw [if_neg hi] at e ⊢
    exact h.2 i w e
theorem SVsp.rep {p : Addr} {H : Hp} {v : V} {o : Option (List V)} (k : SVp p H v o) (n : Nat) : SVsp p H (List.replicate n v) (List.replicate n o) := by
  refine ⟨by simp, fun i w e => ?_⟩
  rw [List.getElem?_replicate] at e ⊢
  by_cases hi : i < n
  · rw [if_pos hi] at e ⊢
    cases e
    exact ⟨o, rfl, k⟩
  · rw [if_neg hi] at e; cases e
/-! ### what the check of an agent says -/
def lastOk (f l : V) : Bool := match l with
  | .int k => within f 0 k
  | _ => false
def memOk (w n s f l : V) : Bool := inStrs w memWords && (isName n && (within s 0 3 && (within l 0 7 && lastOk f l)))
def stepOk : Option (List V) → Bool
  | some [w, n] => inStrs w sigWords && isName n
  | some [w, n, s, f, l] => memOk w n s f l
  | _ => false
def headIn (ws : List Str) : Option (List V) → Bool
  | some (w :: _) => inStrs w ws
  | _ => false
def sBad (ws : List Str) (os : List (Option (List V))) (k : Nat) : Bool := match os[k]? with
  | some o => !(stepOk o && headIn ws o)
  | none => false
def refuses (ws : List Str) (nm : V) (os : List (Option (List V))) : Option (Str × V) :=
  if isName nm = false then er "name" .non else
  if (decide (1 ≤ os.length) && decide (os.length ≤ 24)) = false then er "steps" .non else
  match fst (sBad ws os) os.length with
  | some k => er "step" (.int k)
  | none => none
theorem refuses_name {ws : List Str} {nm : V} {os : List (Option (List V))} (h : isName nm = false) : refuses ws nm os = er "name" .non := by unfold refuses; rw [h]; rfl
theorem refuses_steps {ws : List Str} {nm : V} {os : List (Option (List V))} (h : isName nm = true) (hl : (decide (1 ≤ os.length) && decide (os.length ≤ 24)) = false) : refuses ws nm os = er "steps" .non := by
  unfold refuses
  rw [h, if_neg (by decide), hl, if_pos rfl]
theorem refuses_step {ws : List Str} {nm : V} {os : List (Option (List V))} {k : Nat} (h : isName nm = true) (hl : (decide (1 ≤ os.length) && decide (os.length ≤ 24)) = true) (hk : fst (sBad ws os) os.length = some k) : refuses ws nm os = er "step" (.int k) := by
  unfold refuses
  rw [h, if_neg (by decide), hl, if_neg (by decide), hk]
theorem refuses_none {ws : List Str} {nm : V} {os : List (Option (List V))} (h : isName nm = true) (hl : (decide (1 ≤ os.length) && decide (os.length ≤ 24)) = true) (hk : fst (sBad ws os) os.length = none) : refuses ws nm os = none := by
  unfold refuses
  rw [h, if_neg (by decide), hl, if_neg (by decide), hk]
theorem mem_words (w : V) : inStrs w memWords = (inStrs w ["read", "write", "get", "put"] || inStrs w ["clean", "drop", "flush"]) := by
  cases w with
  | str z =>
    show memWords.contains z = (List.contains _ z || List.contains _ z)
    rw [Bool.eq_iff_iff, Bool.or_eq_true, List.contains_iff_mem, List.contains_iff_mem, List.contains_iff_mem]
    unfold memWords
    simp only [List.mem_cons, List.not_mem_nil, or_false]
    constructor
    · rintro (h | h | h | h | h | h | h) <;> simp [h]
    · rintro ((h | h | h | h) | (h | h | h)) <;> simp [h]
  | _ => rfl
def spMemX : Sp := fun vs H Q _ => ∃ p w n s f e, vs = [.ref p] ∧ H p = some (.tup [w, n, s, f, e]) ∧ Kz H w ∧ Kz H n ∧ Kz H s ∧ Kz H f ∧ Kz H e ∧ ∀ H', Same H H' → Q (.bl (memOk w n s f e)) H'
def spStepX : Sp := fun vs H Q _ => ∃ v o, vs = [v] ∧ SV H v o ∧ ∀ H', Same H H' → Q (.bl (stepOk o)) H'
def spChkAgX (K : PySem.W.Frag) (N : Addr) : Sp := fun vs H Q E => ∃ nm t wt ws xs os, vs = [nm, .ref t, .ref wt] ∧ Kz H nm ∧ H t = some (.tup xs) ∧ SVs H xs os ∧ SqT K H wt (ws.map V.str) ∧
  (∀ r p, refuses ws nm os = some (r, p) → ErrW N E H [("place", p), ("reason", .str r)]) ∧ (refuses ws nm os = none → ∀ H', Same H H' → Q .non H')
def agX (v : V) (t : Addr) : List (Str × V) := [("name", v), ("steps", .ref t)]
theorem putF_agX (v : V) (t : Addr) : putF "steps" (.ref t) (putF "name" v []) = agX v t := by
  have h1 : ¬ (("name" : Str) = "steps") := by decide +kernel
  show (if ("name" : Str) = "steps" then _ else (("name" : Str), v) :: putF "steps" (.ref t) []) = _
  rw [if_neg h1]
  rfl
def AgX (C : Addr) (H : Hp) (x : Addr) (v : V) (xs : List V) : Prop := ∃ dx t, H x = some (.ins C dx (agX v t)) ∧ H t = some (.tup xs)
theorem AgX.mono {C : Addr} {H H' : Hp} {x : Addr} {v : V} {xs : List V} (s : Same H H') (h : AgX C H x v xs) : AgX C H' x v xs := by
  obtain ⟨dx, t, e1, e2⟩ := h
  exact ⟨dx, t, s _ _ e1, s _ _ e2⟩
def spAgInitX (C N : Addr) (ws : List Str) : Sp := fun vs H Q E => ∃ x dx v t xs os, vs = [.ref x, v, .ref t] ∧ H x = some (.ins C dx []) ∧ Kz H v ∧ H t = some (.tup xs) ∧ SVs H xs os ∧
  (∀ r p, refuses ws v os = some (r, p) → ErrW N E H [("place", p), ("reason", .str r)]) ∧ (refuses ws v os = none → ∀ H', AgX C H' x v xs → Keep x H H' → Q .non H')
/-- an agent is asked for: what comes of it -/
def AskA (C N : Addr) (ws : List Str) (v : V) (xs : List V) (os : List (Option (List V))) (H : Hp) (Q : VK) (E : XK) : Prop :=
  (∀ r p, refuses ws v os = some (r, p) → ErrW N E H [("place", p), ("reason", .str r)]) ∧ (refuses ws v os = none → ∀ x H', Same H H' → AgX C H' x v xs → Q (.ref x) H')
theorem AskA.mono {C N : Addr} {ws : List Str} {v : V} {xs : List V} {os : List (Option (List V))} {H H1 : Hp} {Q : VK} {E : XK} (s : Same H H1) (a : AskA C N ws v xs os H Q E) : AskA C N ws v xs os H1 Q E :=
  ⟨fun r p e d H' hd s' z => a.1 r p e d H' (none_of s hd) (s.trans s') z, fun e x H' s' z => a.2 e x H' (s.trans s') z⟩
theorem mk_agX {C N : Addr} {ws : List Str} {H : Hp} {v : V} {xs : List V} {os : List (Option (List V))} {Q : Addr → Hp → Prop} {Q' : VK} {E : XK} (hQ : ∀ x H, Q' (.ref x) H → Q x H) (hv : Kz H v) (hx : SVs H xs os) (hl : xs.length ≤ 1000) (a : AskA C N ws v xs os H Q' E) :
    ∀ x dx, H x = none → H dx = none → dx ≠ x → spStar 2 (spAgInitX C N ws) (.ref x :: v :: xs) (upd (upd H dx (.own x)) x (.ins C dx [])) (fun v H2 => v = .non ∧ Q x H2) E := by
  intro x dx hx' hdx hne
  have s0 : Same H (upd (upd H dx (.own x)) x (.ins C dx [])) := Lay.Same.upd' (Lay.Same.upd hdx) (by rw [upd_ne hne.symm]; exact hx')
  refine ⟨[.ref x, v], xs, rfl, rfl, Nat.le_trans hl (by decide), fun t ht => ?_⟩
  have s1 := s0.trans (Lay.Same.upd (o := .tup xs) ht)
  refine ⟨x, dx, v, t, xs, os, rfl, upd_old ht upd_same, hv.mono s1, upd_same, hx.mono s1, fun r p e d H' hd s z => a.1 r p e d H' (none_of s1 hd) (s1.trans s) z, fun e H' va k => ⟨rfl, hQ _ _ (a.2 e x H' (fun b o hb => ?_) va)⟩⟩
  have hbx : b ≠ x := fun z => by subst z; rw [hx'] at hb; cases hb
  exact k b o hbx (s1 b o hb)
def spAgMadeX (K : PySem.W.Frag) (C N : Addr) (ws : List Str) : Sp := fun vs H Q E => ∃ v a xs os, vs = [.ref C, v, .ref a] ∧ Kz H v ∧ (SqT K H a xs ∨ SqL K H a xs) ∧ SVs H xs os ∧ xs.length ≤ 1000 ∧ AskA C N ws v xs os H Q E
def spAgWithX (C N : Addr) (ws : List Str) : Sp := fun vs H Q E => ∃ a v t xs0 xs os, vs = [.ref a, .ref t] ∧ AgX C H a v xs0 ∧ Kz H v ∧ H t = some (.tup xs) ∧ SVs H xs os ∧ xs.length ≤ 1000 ∧ AskA C N ws v xs os H Q E
end Lay

end

section
namespace Lay
open PySem PySem.Spec PyProof.Rows L2 Exv
/-! ### tuples put together and cut -/
theorem cut_all {xs : List V} {lo hi : Option Int} (h : HT.sIx xs.length 0 lo = 0 ∧ HT.sIx xs.length xs.length hi = xs.length) : cutV xs lo hi = xs := by
  unfold cutV
  rw [h.1, h.2]
  show List.take (xs.length - 0) (List.drop 0 xs) = xs
  simp
theorem cut_drop {xs : List V} {k : Nat} (h : k ≤ xs.length) : cutV xs (some (k : Int)) none = xs.drop k := by
  have e : HT.sIx xs.length 0 (some (k : Int)) = k := by
    unfold HT.sIx
    dsimp only
    split <;> omega
  unfold cutV
  rw [e]
  show List.take (xs.length - k) (List.drop k xs) = xs.drop k
  rw [List.take_of_length_le (by simp)]
theorem rd_catT {K : PySem.W.Frag} {a b : Addr} {xs ys : List V} {H : Hp} {Q : VK} (ha : H a = some (.tup xs)) (hb : H b = some (.tup ys)) (hl : xs.length + ys.length ≤ 1000)
    (q : ∀ p H', Same H H' → H' p = some (.tup (xs ++ ys)) → (p = a ∨ p = b ∨ H p = none) → Q (.ref p) H') : rCatA K (.ref a) (.ref b) H Q := by
  refine ⟨a, b, xs, ys, rfl, rfl, SqT.of ha, SqT.of hb, Nat.le_trans hl (by decide), fun e => ?_, fun _ e => ?_, fun _ _ p hp => q p _ (Same.upd hp) upd_same (.inr (.inr hp))⟩
  · subst e; exact q b H (L2.Same.refl H) hb (.inr (.inl rfl))
  · subst e; exact q a H (L2.Same.refl H) (by rw [List.append_nil]; exact ha) (.inl rfl)
theorem rd_slT {K : PySem.W.Frag} {a : Addr} {xs ys : List V} {lo hi : Option Int} {H : Hp} {Q : VK} (ha : H a = some (.tup xs)) (e : cutV xs lo hi = ys)
    (q : ∀ p H', Same H H' → H' p = some (.tup ys) → (p = a ∨ H p = none) → Q (.ref p) H') : rSlA K (.ref a) lo hi H Q := by
  refine ⟨a, xs, rfl, SqT.of ha, fun w => ?_, fun _ p hp => ?_⟩
  · rw [cut_all w] at e
    subst e
    exact q a H (L2.Same.refl H) ha (.inl rfl)
  · rw [e]
    exact q p _ (Same.upd hp) upd_same (.inr hp)
theorem rd_notInI {K : PySem.W.Frag} {H : Hp} {Q : VK} {d : Int} {t : Addr} {ns : List Int} (ht : SqT K H t (ns.map V.int)) (q : Q (.bl (!decide (d ∈ ns))) H) : rIn K true (.int d) (.ref t) H Q := by
  refine ⟨t, _, rfl, .inr ht, rfl, by rw [List.all_map]; simp [flatV], ?_⟩
  have e : inV (.int d) (ns.map V.int) = decide (d ∈ ns) := by
    unfold inV
    rw [List.any_map, Bool.eq_iff_iff, List.any_eq_true, decide_eq_true_iff]
    constructor
    · rintro ⟨x, m, h⟩
      have h : (x == d) = true := h
      rw [← beq_iff_eq.mp h]; exact m
    · intro m
      exact ⟨d, m, show (d == d) = true from beq_self_eq_true d⟩
  show Q (.bl (!inV (.int d) (ns.map V.int))) H
  rw [e]
  exact q
theorem SVp.tup {p q : Addr} {H : Hp} {xs : List V} (h : H q = some (.tup xs)) (n : q ≠ p) (k : ∀ x ∈ xs, Kp p H x) : SVp p H (.ref q) (some xs) :=
  ⟨.tup h fun x m => (k x m).1, fun z => n (V.ref.inj z), fun ys e x m => by cases e; exact (k x m).2⟩
theorem SVp.no {p : Addr} {H : Hp} {v : V} {t : Kn} (h : Kz H v) (k : Kd H v t) (nt : isTy t .tuple = false) (n : v ≠ .ref p) : SVp p H v none := ⟨⟨h, t, k, nt⟩, n, fun ys e => nomatch e⟩
/-- any value of a known kind may be a step -/
theorem SVp.any {p : Addr} {H : Hp} {v : V} (h : Kp p H v) (ht : ∀ q xs, v = .ref q → H q = some (.tup xs) → ∀ x ∈ xs, Kp p H x) : ∃ o, SVp p H v o := by
  obtain ⟨⟨t, k, z⟩, n⟩ := h
  cases k with
  | @tup a xs e => exact ⟨_, .tup e (fun q => n (by rw [q])) (ht a xs rfl e)⟩
  | non => exact ⟨_, .no ⟨_, .non, z⟩ .non rfl n⟩
  | bl b => exact ⟨_, .no ⟨_, .bl b, z⟩ (.bl b) rfl n⟩
  | int i => exact ⟨_, .no ⟨_, .int i, z⟩ (.int i) rfl n⟩
  | str x => exact ⟨_, .no ⟨_, .str x, z⟩ (.str x) rfl n⟩
  | lst e => exact ⟨_, .no ⟨_, .lst e, z⟩ (.lst e) rfl n⟩
  | dK e => exact ⟨_, .no ⟨_, .dK e, z⟩ (.dK e) rfl n⟩
def SVL (p : Addr) (H : Hp) (xs : List V) : Prop := ∀ v ∈ xs, ∃ o, SVp p H v o
theorem SVL.nil {p : Addr} {H : Hp} : SVL p H [] := fun v h => nomatch h
theorem SVL.cons {p : Addr} {H : Hp} {x : V} {xs : List V} (h : ∃ o, SVp p H x o) (r : SVL p H xs) : SVL p H (x :: xs) := fun v m => by
  rcases List.mem_cons.mp m with e | m
  · subst e; exact h
  · exact r v m
theorem SVp.non {p : Addr} {H : Hp} : ∃ o, SVp p H .non o := ⟨_, .no .non .non rfl (fun z => nomatch z)⟩
theorem SVp.bl {p : Addr} {H : Hp} (b : Bool) : ∃ o, SVp p H (.bl b) o := ⟨_, .no (.bl b) (.bl b) rfl (fun z => nomatch z)⟩
theorem SVp.int {p : Addr} {H : Hp} (i : Int) : ∃ o, SVp p H (.int i) o := ⟨_, .no (.int i) (.int i) rfl (fun z => nomatch z)⟩
theorem SVp.str {p : Addr} {H : Hp} {z : Str} (h : z.length ≤ 100) : ∃ o, SVp p H (.str z) o := ⟨_, .no (.str h) (.str z) rfl (fun z => nomatch z)⟩
theorem rd_ixS {K : PySem.W.Frag} {H : Hp} {Q : VK} {p a : Addr} {xs : List V} {d : Int} (h : SqL K H a xs) (h0 : 0 ≤ d) (h1 : d < xs.length) (kd : SVL p H xs) (q : ∀ v o, SVp p H v o → Q v H) : rIxL K (.ref a) (.int d) H Q := by
  have hd : d.toNat < xs.length := by omega
  obtain ⟨o, ho⟩ := kd xs[d.toNat] (List.getElem_mem hd)
  exact rd_ixL h (atI_int h0 (List.getElem?_eq_getElem hd)) (q _ o ho)
theorem good_kp {p : Addr} {H : Hp} {ws : List Str} {l : List V} (g : GoodStep ws l) : ∀ x ∈ l, Kp p H x := by
  have hs : ∀ w ∈ sigWords, w.length ≤ 100 := by decide +kernel
  have hm : ∀ w ∈ memWords, w.length ≤ 100 := by decide +kernel
  rcases g with ⟨w, n, rfl, h1, _, h2⟩ | ⟨w, n, s, f, e, rfl, h1, _, h2, _⟩
  · have := (nameOk_len h2).2
    intro x m
    simp only [List.mem_cons, List.not_mem_nil, or_false] at m
    rcases m with rfl | rfl
    · exact .str (hs w h1)
    · exact .str (by omega)
  · have := (nameOk_len h2).2
    intro x m
    simp only [List.mem_cons, List.not_mem_nil, or_false] at m
    rcases m with rfl | rfl | rfl | rfl | rfl
    · exact .str (hm w h1)
    · exact .str (by omega)
    · exact .int _
    · exact .int _
    · exact .int _
theorem good_many {ws : List Str} {l : List V} (g : GoodStep ws l) : 2 ≤ l.length ∧ l.length ≤ 5 := by
  rcases g with ⟨w, n, rfl, _⟩ | ⟨w, n, s, f, e, rfl, _⟩ <;> simp
def spBentX : Sp := fun vs H Q _ => ∃ (p : Addr) (k : Int) (n : Nat) (c : Addr), vs = [.ref p, .int k] ∧ PenAt c H p n ∧ n + 10 < 100000 ∧ ∀ v o H', SVp p H' v o → PenAt c H' p (n + 10) → Keep p H H' → Q v H'
def spThingX : Sp := fun vs H Q _ => ∃ (p : Addr) (n : Nat) (c : Addr), vs = [.ref p] ∧ PenAt c H p n ∧ n + 1 < 100000 ∧ ∀ v o H', SVp p H' v o → PenAt c H' p (n + 1) → Keep p H H' → Q v H'
/-! ### the law's own look at a step -/
def stepK (k : Int) (o : Option (List V)) : Bool := stepOk o && headIn (wsK k) o
def spLawStep : Sp := fun vs H Q _ => ∃ v o k, vs = [v, .int k] ∧ SV H v o ∧ ∀ H', Same H H' → Q (.bl (stepK k o)) H'
theorem inStrs_of_str {v : V} {zs : List Str} (h : inStrs v zs = true) : ∃ z, v = .str z ∧ z ∈ zs := by
  cases v with
  | str z => exact ⟨z, rfl, by rw [← List.contains_iff_mem]; exact h⟩
  | _ => cases h
def lastIn (f l : V) : Bool := match f with
  | .int i => within l i 7
  | _ => false
theorem lastOk_eq (f l : V) : (within l 0 7 && lastOk f l) = (within f 0 7 && lastIn f l) := by
  have w1 : ∀ (v : V) (a b : Int), within v a b = match v with | .int i => decide (a ≤ i) && decide (i ≤ b) | _ => false := fun v a b => by cases v <;> rfl
  cases l with
  | int j =>
    cases f with
    | int i =>
      show ((decide (0 ≤ j) && decide (j ≤ 7)) && (decide (0 ≤ i) && decide (i ≤ j))) = ((decide (0 ≤ i) && decide (i ≤ 7)) && (decide (i ≤ j) && decide (j ≤ 7)))
      rw [Bool.eq_iff_iff]
      simp only [Bool.and_eq_true, decide_eq_true_iff]
      omega
    | _ => simp [lastOk, lastIn, w1]
  | _ =>
    cases f with
    | int i => simp [lastOk, lastIn, w1]
    | _ => simp [lastOk, lastIn, w1]
end Lay
namespace Lay
open PySem PySem.Spec PyProof.Rows L2 Exv
theorem sig_in (k : Int) {w : V} (h : inStrs w ["post", "wait"] = true) : inStrs w (wsK k) = true := by
  obtain ⟨z, rfl, m⟩ := inStrs_of_str h
  refine inStrs_of ?_
  unfold wsK
  simp only [List.mem_cons, List.not_mem_nil, or_false] at m
  rcases m with rfl | rfl <;> split <;> simp [plainWs, cacheWs]
theorem mem_in (k : Int) {w : V} (h : inStrs w memWords = true) : inStrs w (wsK k) = (if k = 0 then inStrs w ["read", "write"] else true) := by
  obtain ⟨z, rfl, m⟩ := inStrs_of_str h
  unfold wsK
  by_cases e : k = 0
  · rw [if_pos e, if_pos e]
    have no : ∀ z : Str, z ∈ memWords → plainWs.contains z = List.contains (["read", "write"] : List Str) z := by decide +kernel
    exact no z m
  · rw [if_neg e, if_neg e]
    refine inStrs_of ?_
    have no : ∀ z : Str, z ∈ memWords → z ∈ cacheWs := by decide +kernel
    exact no z m
theorem stepK_two {k : Int} {w n : V} (hn : isName n = true) : stepK k (some [w, n]) = inStrs w ["post", "wait"] := by
  show (inStrs w sigWords && isName n && inStrs w (wsK k)) = _
  rw [hn, Bool.and_true]
  cases e : inStrs w ["post", "wait"] with
  | true => rw [sig_in k e]; show (inStrs w sigWords && true) = true; rw [Bool.and_true]; exact e
  | false => show (inStrs w sigWords && _) = false; rw [show inStrs w sigWords = false from e]; rfl
theorem stepK_five {k : Int} {w n s f l : V} (hn : isName n = true) (hm : inStrs w memWords = true) : stepK k (some [w, n, s, f, l]) = ((if k = 0 then inStrs w ["read", "write"] else true) && (within s 0 3 && (within f 0 7 && lastIn f l))) := by
  show (memOk w n s f l && inStrs w (wsK k)) = _
  rw [mem_in k hm, ← lastOk_eq]
  unfold memOk
  rw [hn, hm, Bool.true_and, Bool.true_and, Bool.and_comm]
theorem stepK_no {k : Int} {o : Option (List V)} (h : stepOk o = false) : stepK k o = false := by unfold stepK; rw [h]; rfl
theorem stepOk_name {xs : List V} {n : V} (h : xs[1]? = some n) (hn : isName n = false) : stepOk (some xs) = false := by
  match xs, h with
  | [_, m], h =>
    obtain rfl : m = n := by simpa using h
    show (_ && isName m) = false
    rw [hn, Bool.and_false]
  | [_, m, _, _, _], h =>
    obtain rfl : m = n := by simpa using h
    show memOk _ m _ _ _ = false
    unfold memOk
    rw [hn, Bool.false_and, Bool.and_false]
  | [_, _, _], _ => rfl
  | [_, _, _, _], _ => rfl
  | _ :: _ :: _ :: _ :: _ :: _ :: _, _ => rfl
theorem stepOk_head {xs : List V} {w : V} (h : xs[0]? = some w) (hw : ∀ zs, inStrs w zs = false) : stepOk (some xs) = false := by
  match xs, h with
  | [_], _ => rfl
  | [m, _], h =>
    obtain rfl : m = w := by simpa using h
    show (inStrs m _ && _) = false
    rw [hw, Bool.false_and]
  | [m, _, _, _, _], h =>
    obtain rfl : m = w := by simpa using h
    show memOk m _ _ _ _ = false
    unfold memOk
    rw [hw, Bool.false_and]
  | [_, _, _], _ => rfl
  | [_, _, _, _], _ => rfl
  | _ :: _ :: _ :: _ :: _ :: _ :: _, _ => rfl
theorem stepOk_many {xs : List V} (h2 : xs.length ≠ 2) (h5 : xs.length ≠ 5) : stepOk (some xs) = false := by
  match xs, h2, h5 with
  | [], _, _ => rfl
  | [_], _, _ => rfl
  | [_, _], c, _ => exact absurd rfl c
  | [_, _, _], _, _ => rfl
  | [_, _, _, _], _, _ => rfl
  | [_, _, _, _, _], _, c => exact absurd rfl c
  | _ :: _ :: _ :: _ :: _ :: _ :: _, _, _ => rfl
end Lay

end

section
namespace OwnC
open PySem L2 PySem.Spec PyProof.Rows
/-- o.m(e, ..) of an instance of whatever class, by a positional promise; what is raised is wished for at the slots -/
def tMethW (P : Program) (w : World) (K : PySem.W.Frag) (mg : Str → Option Value) (base : Heap) (CX : CXT) (n : Nat) (m : Str) (E : L2.St → XK) (ta : TE) (t : TA) : TE := fun σ H Q => ta σ H fun x H1 => ∃ a C dx fs f sp, x = .ref a ∧ H1 a = some (.ins C dx fs) ∧
  fs.lookup m = none ∧ Cls K C ∧ Meth K C m f ∧ FnR P w K mg base CX n f sp ∧ t σ H1 fun vs H2 => sp (x :: vs) H2 Q (E σ)
theorem rd_methW {P : Program} {w : World} {K : PySem.W.Frag} {mg : Str → Option Value} {base : Heap} {CX : CXT} {n : Nat} {m : Str} {E : L2.St → XK} {ta : TE} {t : TA} {σ : L2.St} {H : Hp} {Q : VK}
    (h : ta σ H fun x H1 => ∃ a C dx fs f sp, x = .ref a ∧ H1 a = some (.ins C dx fs) ∧ fs.lookup m = none ∧ Cls K C ∧ Meth K C m f ∧ FnR P w K mg base CX n f sp ∧ t σ H1 fun vs H2 => sp (x :: vs) H2 Q (E σ)) :
    tMethW P w K mg base CX n m E ta t σ H Q := h
section
variable {X : Cx} {CX : CXT} {n : Nat} {m : Str} {o e : Expr} {es : List Expr} {ta : TE} {t : TA} {apos pos : Pos} {pl : Sem Bool} {E : L2.St → XK}
theorem pe_methW (P : Program) (w : World) (K : PySem.W.Frag) (mg : Str → Option Value) (base : Heap) (he : PE X o ta) (hr : Room n X.A) (hx : ∀ σ, PassesAt CX X σ (E σ)) (ha : PA X (e :: es) t)
    (e1 : X.prog = P := by rfl) (e2 : X.w = w := by rfl) (e3 : X.K = K := by rfl) (e4 : X.mg = mg := by rfl) (e5 : X.base = base := by rfl)
    (hst : starEach (e :: es) X.env = (false, eval e X.env) :: starEach es X.env := by rfl) (hpl : (backTo pos (starEach es X.env)).any (·.1) = false := by rfl)
    (ht : eval (.Call (.Attribute o m apos) (e :: es) [] pos) X.env = (do let ov ← eval o X.env; standAt apos.atName; let (f, first) ← holding [ov] (getMethod ov m pl); callWith pos f first (backTo pos (starEach (e :: es) X.env)) (backToKw pos (keywordEach [] X.env))) := by rfl) :
    PE X (.Call (.Attribute o m apos) (e :: es) [] pos) (tMethW P w K mg base CX n m E ta t) := by
  subst e1 e2 e3 e4 e5
  constructor
  intro pins s σ H Q I h
  refine PySem.W.methodCall_KW (pl := pl) (thn (he.run pins s σ H _ I h) ?_) ht
  rintro u s1 ⟨x, H1, I1, rx, a, C, dx, fs, f, sp, rfl, ea, l, c, hm, F, q⟩
  cases rx
  refine getmeth_ok I1 ea c hm l (PySem.W.callWith_K (first := [.ref a]) (h₀ := X.base) I.ok.mod.kin hm.kp (thn (ha.run pos pins s1 σ H1 _ I1 q) ?_) hst hpl)
  rintro us s2 ⟨vs, H2, I2, r, q2⟩
  exact ⟨I2.kIn, wpAny_call (Exv.run_fnRS (us := .ref a :: us) (vs := .ref a :: vs) F hr (hx σ) I2 (.cons rfl r) q2)⟩
theorem pe_methW0 (P : Program) (w : World) (K : PySem.W.Frag) (mg : Str → Option Value) (base : Heap) (he : PE X o ta) (hr : Room n X.A) (hx : ∀ σ, PassesAt CX X σ (E σ))
    (e1 : X.prog = P := by rfl) (e2 : X.w = w := by rfl) (e3 : X.K = K := by rfl) (e4 : X.mg = mg := by rfl) (e5 : X.base = base := by rfl)
    (ht : eval (.Call (.Attribute o m apos) [] [] pos) X.env = (do let ov ← eval o X.env; standAt apos.atName; let (f, first) ← holding [ov] (getMethod ov m pl); callWith pos f first (backTo pos (starEach [] X.env)) (backToKw pos (keywordEach [] X.env))) := by rfl) :
    PE X (.Call (.Attribute o m apos) [] [] pos) (tMethW P w K mg base CX n m E ta tNil) := by
  subst e1 e2 e3 e4 e5
  constructor
  intro pins s σ H Q I h
  refine PySem.W.methodCall_KW (pl := pl) (thn (he.run pins s σ H _ I h) ?_) ht
  rintro u s1 ⟨x, H1, I1, rx, a, C, dx, fs, f, sp, rfl, ea, l, c, hm, F, q⟩
  cases rx
  exact getmeth_ok I1 ea c hm l (PySem.W.callWith_K0 (first := [.ref a]) I1.kIn hm.kp (wpAny_call (Exv.run_fnRS (us := [.ref a]) (vs := [.ref a]) F hr (hx σ) I1 (.cons rfl .nil) q)))
end
end OwnC
namespace Lay
open PySem PySem.Spec PyProof.Rows L2 Exv
/-! ### equality: anything is equal to itself; lists and tuples by their items -/
/-- x == y answers b, whatever runs, with n to spare -/
def EqW (K : PySem.W.Frag) (H : Hp) (n : Nat) (x y : V) (b : Bool) : Prop :=
  ∀ (X : Cx) (pins : List (Addr × Obj)) (σ : L2.St) (s : Shared) (u v : Value) (A : Around), X.K = K → Inv X pins σ H s → RelV x u → RelV y v → A.units + n < cLine → SeqAt.EqAt A s u v b
def RcW (K : PySem.W.Frag) (H : Hp) (n : Nat) (x y : V) (b : Bool) : Prop :=
  ∀ (X : Cx) (pins : List (Addr × Obj)) (σ : L2.St) (s : Shared) (u v : Value) (A : Around), X.K = K → Inv X pins σ H s → RelV x u → RelV y v → A.units + n < cLine → SeqAt.RcAt A s u v b ∧ SeqAt.RcNeAt A s u v (!b)
section
variable {K : PySem.W.Frag} {H : Hp} {n : Nat}
theorem EqW.flat {x y : V} (hx : flatV x = true) (hy : flatV y = true) : EqW K H n x y (eqV x y) := fun X pins σ s u v A _ I rx ry _ => eqAt_V rx ry hx hy
theorem eqV_self {x : V} (h : flatV x = true) : eqV x x = true := by
  cases x with
  | non => rfl
  | bl b => cases b <;> rfl
  | int i => exact beq_self_eq_true i
  | str z => exact beq_self_eq_true z
  | _ => cases h
theorem EqW.same {x : V} (h : flatV x = true ∨ ∃ a, x = .ref a) : EqW K H n x x true := by
  rcases h with h | ⟨a, rfl⟩
  · have e := EqW.flat (K := K) (H := H) (n := n) h h
    rw [eqV_self h] at e
    exact e
  · intro X pins σ s u v A _ I rx ry _
    cases rx
    cases ry
    exact SeqAt.EqAt.same _
theorem items_at {xs ys : List V} {its its2 : List Value} {e : Nat → Bool} (h : ∀ i x y, xs[i]? = some x → ys[i]? = some y → EqW K H n x y (e i)) {X : Cx} {pins : List (Addr × Obj)} {σ : L2.St} {s : Shared} {A : Around} (eK : X.K = K) (I : Inv X pins σ H s)
    (r : Vals xs its) (r2 : Vals ys its2) (hu : A.units + 1 + n < cLine) : ∀ j (h1 : j < its.toArray.size) (h2 : j < its2.toArray.size), SeqAt.EqAt A.in1 s its.toArray[j] its2.toArray[j] (e j) := by
  intro j h1 h2
  have l1 : j < its.length := by simpa using h1
  have l2 : j < its2.length := by simpa using h2
  have k1 : j < xs.length := by rw [r.length]; exact l1
  have k2 : j < ys.length := by rw [r2.length]; exact l2
  obtain ⟨u, eu, ru⟩ := r.get (List.getElem?_eq_getElem k1)
  obtain ⟨v, ev, rv⟩ := r2.get (List.getElem?_eq_getElem k2)
  have e1 : its.toArray[j] = u := by
    rw [List.getElem?_eq_getElem l1] at eu
    simpa using eu
  have e2 : its2.toArray[j] = v := by
    rw [List.getElem?_eq_getElem l2] at ev
    simpa using ev
  rw [e1, e2]
  exact h j _ _ (List.getElem?_eq_getElem k1) (List.getElem?_eq_getElem k2) X pins σ s u v A.in1 eK I ru rv (by show A.units + 1 + n < cLine; omega)
/-- two lists of one length -/
theorem RcW.lists {a b : Addr} {xs ys : List V} {e : Nat → Bool} (ha : SqL K H a xs) (hb : SqL K H b ys) (hl : xs.length = ys.length) (h : ∀ i x y, xs[i]? = some x → ys[i]? = some y → EqW K H n x y (e i)) : RcW K H (n + 1) (.ref a) (.ref b) ((List.range xs.length).all e) := by
  intro X pins σ s u v A eK I rx ry hu
  subst eK
  cases rx
  cases ry
  obtain ⟨its, r, pl, _⟩ := I.list ha
  obtain ⟨its2, r2, pl2, _⟩ := I.list hb
  have e1 : xs.length = its.toArray.size := by rw [List.size_toArray]; exact r.length
  rw [e1]
  have hs : its.toArray.size = its2.toArray.size := by rw [List.size_toArray, List.size_toArray, ← r.length, ← r2.length]; exact hl
  exact ⟨SeqAt.RcAt.lists pl.isList pl2.isList hs (by omega) (items_at h rfl I r r2 (by omega)), SeqAt.RcNeAt.lists pl.isList pl2.isList hs (by omega) (items_at h rfl I r r2 (by omega))⟩
theorem RcW.tuples {a b : Addr} {xs ys : List V} {e : Nat → Bool} (ha : SqT K H a xs) (hb : SqT K H b ys) (h : ∀ i x y, xs[i]? = some x → ys[i]? = some y → EqW K H n x y (e i)) :
    RcW K H (n + 1) (.ref a) (.ref b) ((List.range (min xs.length ys.length)).all e && (xs.length == ys.length)) := by
  intro X pins σ s u v A eK I rx ry hu
  subst eK
  cases rx
  cases ry
  obtain ⟨its, r, pl, _⟩ := I.tuple ha
  obtain ⟨its2, r2, pl2, _⟩ := I.tuple hb
  have e1 : xs.length = its.toArray.size := by rw [List.size_toArray]; exact r.length
  have e2 : ys.length = its2.toArray.size := by rw [List.size_toArray]; exact r2.length
  obtain ⟨o, h1, h2, n1, h3⟩ := id pl
  obtain ⟨o2, g1, g2, n2, g3⟩ := id pl2
  rw [e1, e2]
  have t1 : s.heap.IsTuple a its.toArray := ⟨o, h1, h2, n1, h3⟩
  have t2 : s.heap.IsTuple b its2.toArray := ⟨o2, g1, g2, n2, g3⟩
  exact ⟨SeqAt.RcAt.tuples t1 t2 (by omega) (items_at h rfl I r r2 (by omega)), SeqAt.RcNeAt.tuples t1 t2 (by omega) (items_at h rfl I r r2 (by omega))⟩
/-- the same items, each an object or a flat value -/
theorem RcW.listsSame {a b : Addr} {xs : List V} (ha : SqL K H a xs) (hb : SqL K H b xs) (h : ∀ x ∈ xs, flatV x = true ∨ ∃ c, x = .ref c) : RcW K H (n + 1) (.ref a) (.ref b) true := by
  have z := RcW.lists (n := n) (e := fun _ => true) ha hb rfl fun i x y ex ey => by
    rw [ex] at ey
    cases ey
    exact EqW.same (h x (List.mem_of_getElem? ex))
  rw [show (List.range xs.length).all (fun _ => true) = true from List.all_eq_true.mpr fun _ _ => rfl] at z
  exact z
theorem RcW.tuplesSame {a b : Addr} {xs : List V} (ha : SqT K H a xs) (hb : SqT K H b xs) (h : ∀ x ∈ xs, flatV x = true ∨ ∃ c, x = .ref c) : RcW K H (n + 1) (.ref a) (.ref b) true := by
  have z := RcW.tuples (n := n) (e := fun _ => true) ha hb fun i x y ex ey => by
    rw [ex] at ey
    cases ey
    exact EqW.same (h x (List.mem_of_getElem? ex))
  rw [show (List.range (min xs.length xs.length)).all (fun _ => true) = true from List.all_eq_true.mpr fun _ _ => rfl, Bool.true_and, beq_self_eq_true] at z
  exact z
end
def rEqW (K : PySem.W.Frag) (neg : Bool) : R2 := fun x y H Q => ∃ b, RcW K H 40 x y b ∧ Q (.bl (if neg then !b else b)) H
theorem op_eqW {X : Cx} (hu : X.A.units + 64 < cLine) : OpR X (compareOp .Eq) (rEqW X.K false) := by
  intro pins s σ H x y v u Q I rx ry h
  obtain ⟨b, hb, q⟩ := h
  exact (hb X pins σ s v u X.A rfl I rx ry (by omega)).1 _ _ _ _ ⟨.bl _, H, I, rfl, q⟩
theorem op_neW {X : Cx} (hu : X.A.units + 64 < cLine) : OpR X (compareOp .NotEq) (rEqW X.K true) := by
  intro pins s σ H x y v u Q I rx ry h
  obtain ⟨b, hb, q⟩ := h
  exact (hb X pins σ s v u X.A rfl I rx ry (by omega)).2 _ _ _ _ ⟨.bl _, H, I, rfl, q⟩
theorem rd_eqW {K : PySem.W.Frag} {H : Hp} {Q : VK} {x y : V} (b : Bool) (h : RcW K H 40 x y b) (q : Q (.bl b) H) : rEqW K false x y H Q := ⟨b, h, q⟩
theorem rd_neW {K : PySem.W.Frag} {H : Hp} {Q : VK} {x y : V} (b : Bool) (h : RcW K H 40 x y b) (q : Q (.bl (!b)) H) : rEqW K true x y H Q := ⟨b, h, q⟩
theorem Kz.fl {H : Hp} {v : V} (k : Kz H v) : flatV v = true ∨ ∃ c, v = .ref c := by
  obtain ⟨t, h, _⟩ := k
  cases h with
  | lst h => exact .inr ⟨_, rfl⟩
  | tup h => exact .inr ⟨_, rfl⟩
  | dK h => exact .inr ⟨_, rfl⟩
  | _ => exact .inl rfl
/-! ### agents asked for in the law -/
def kAg {α : Type} (a b c : α) (k : Int) : α := if k = 0 then a else if k = 1 then b else c
def spDirectX (C : Int → Addr) (N : Addr) : Sp := fun vs H Q E => ∃ k v a xs os, vs = [.int k, v, .ref a] ∧ 0 ≤ k ∧ k ≤ 2 ∧ Kz H v ∧ H a = some (.lst xs) ∧ SVs H xs os ∧ 1 ≤ xs.length ∧ xs.length ≤ 2 ∧ AskA (C k) N (wsK k) v xs os H Q E
def spLawMade (C : Int → Addr) (N : Addr) : Sp := fun vs H Q E => ∃ k v a xs os, vs = [.int k, v, .ref a] ∧ 0 ≤ k ∧ k ≤ 2 ∧ Kz H v ∧ H a = some (.lst xs) ∧ SVs H xs os ∧ xs.length ≤ 1000 ∧ AskA (C k) N (wsK k) v xs os H Q E
/-- what is found: the error or the agent -/
def Found (C N : Addr) (ws : List Str) (v : V) (xs : List V) (os : List (Option (List V))) (H : Hp) (e : Addr) : Prop :=
  (∃ r p, refuses ws v os = some (r, p) ∧ ErrAt N H e [("place", p), ("reason", .str r)]) ∨ (refuses ws v os = none ∧ AgX C H e v xs)
theorem Found.mono {C N : Addr} {ws : List Str} {v : V} {xs : List V} {os : List (Option (List V))} {H H' : Hp} {e : Addr} (s : Same H H') (h : Found C N ws v xs os H e) : Found C N ws v xs os H' e := by
  rcases h with ⟨r, p, h1, h2⟩ | ⟨h1, h2⟩
  · exact .inl ⟨r, p, h1, h2.mono s⟩
  · exact .inr ⟨h1, h2.mono s⟩
def spAskedX (C : Int → Addr) (N : Addr) : Sp := fun vs H Q _ => ∃ k v a xs os b, vs = [.int k, v, .ref a, .bl b] ∧ 0 ≤ k ∧ k ≤ 2 ∧ Kz H v ∧ H a = some (.lst xs) ∧ SVs H xs os ∧ xs.length ≤ 1000 ∧ (b = true → 1 ≤ xs.length ∧ xs.length ≤ 2) ∧
  ∀ e H', Same H H' → Found (C k) N (wsK k) v xs os H' e → Q (.ref e) H'
def spAgainX (C : Int → Addr) (N : Addr) : Sp := fun vs H Q _ => ∃ k a xs os, vs = [.int k, .ref a] ∧ 0 ≤ k ∧ k ≤ 2 ∧ H a = some (.lst xs) ∧ SVs H xs os ∧ xs.length = 2 ∧ ∀ e H', Same H H' → Found (C k) N (wsK k) (.str "good") xs os H' e → Q (.ref e) H'
def spNoStepsX (N : Addr) : Sp := fun vs H Q _ => ∃ k, vs = [.int k] ∧ 0 ≤ k ∧ k ≤ 2 ∧ ∀ e H', Same H H' → ErrAt N H' e [("place", .non), ("reason", .str "steps")] → Q (.ref e) H'
def spRightX (C : Int → Addr) (N : Addr) : Sp := fun vs H Q _ => ∃ e k v a xs os, vs = [.ref e, .int k, v, .ref a] ∧ 0 ≤ k ∧ k ≤ 2 ∧ Kz H v ∧ H a = some (.lst xs) ∧ SVs H xs os ∧ xs.length ≤ 1000 ∧ Found (C k) N (wsK k) v xs os H e ∧ ∀ H', Same H H' → Q (.bl true) H'
end Lay
namespace Lay
open PySem PySem.Spec PyProof.Rows L2 Exv
theorem good_one (k : Int) {w : Str} (h : w = "post" ∨ w = "wait") : refuses (wsK k) (.str "good") [some [.str w, .str "s"]] = none := by
  refine refuses_none (by decide +kernel) rfl ?_
  have e : inStrs (.str w) ["post", "wait"] = true := by rcases h with rfl | rfl <;> decide +kernel
  refine fst_none fun j hj => ?_
  obtain rfl : j = 0 := by simpa using hj
  show (!(inStrs (.str w) sigWords && isName (.str "s") && inStrs (.str w) (wsK k))) = false
  rw [sig_in k e, show inStrs (.str w) sigWords = true from e, show isName (.str "s") = true by decide +kernel]
  rfl
theorem good_none (k : Int) : refuses (wsK k) (.str "good") [] = er "steps" .non := refuses_steps (by decide +kernel) (by decide)
theorem SVs.one {H : Hp} {p : Addr} {xs : List V} (h : H p = some (.tup xs)) (k : ∀ x ∈ xs, Kz H x) : SVs H [.ref p] [some xs] := ⟨rfl, fun i v e => by
  cases i with
  | zero => obtain rfl : V.ref p = v := by simpa using e
            exact ⟨_, rfl, .tup h k⟩
  | succ j => simp at e⟩
theorem SVs.nil {H : Hp} : SVs H [] [] := ⟨rfl, fun i v e => by simp at e⟩
end Lay
namespace Lay
open PySem PySem.Spec PyProof.Rows L2 Exv
theorem SVs.mem {H : Hp} {xs : List V} {os : List (Option (List V))} (h : SVs H xs os) : ∀ x ∈ xs, Kz H x := fun x m => by
  obtain ⟨i, hi, e⟩ := List.getElem_of_mem m
  obtain ⟨o, _, ho⟩ := h.2 i x (by rw [List.getElem?_eq_getElem hi, e])
  exact ho.1
theorem sBad_eq {k : Int} {os : List (Option (List V))} {i : Nat} {o : Option (List V)} (h : os[i]? = some o) : sBad (wsK k) os i = !stepK k o := by unfold sBad stepK; rw [h]
end Lay
namespace Lay
open PySem PySem.Spec PyProof.Rows L2 Exv
theorem RcW.lens {K : PySem.W.Frag} {H : Hp} {n : Nat} {a b : Addr} {xs ys : List V} (ha : SqL K H a xs) (hb : SqL K H b ys) (hl : xs.length ≠ ys.length) : RcW K H (n + 1) (.ref a) (.ref b) false := by
  intro X pins σ s u v A eK I rx ry hu
  subst eK
  cases rx
  cases ry
  obtain ⟨its, r, pl, _⟩ := I.list ha
  obtain ⟨its2, r2, pl2, _⟩ := I.list hb
  have hs : (its.toArray.size != its2.toArray.size) = true := by
    rw [List.size_toArray, List.size_toArray, ← r.length, ← r2.length]
    exact bne_iff_ne.mpr hl
  exact ⟨SeqAt.RcAt.lists_lengths pl.isList pl2.isList hs (by omega), SeqAt.RcNeAt.lists_lengths pl.isList pl2.isList hs (by omega)⟩
theorem rd_inD {K : PySem.W.Frag} {H : Hp} {Q : VK} {d : Int} {t : Addr} {ns : List Int} (ht : SqT K H t (ns.map V.int)) (q : Q (.bl (decide (d ∈ ns))) H) : rIn K false (.int d) (.ref t) H Q := by
  refine ⟨t, _, rfl, .inr ht, rfl, by rw [List.all_map]; simp [flatV], ?_⟩
  have e : inV (.int d) (ns.map V.int) = decide (d ∈ ns) := by
    unfold inV
    rw [List.any_map, Bool.eq_iff_iff, List.any_eq_true, decide_eq_true_iff]
    constructor
    · rintro ⟨x, m, h⟩
      have h : (x == d) = true := h
      rw [← beq_iff_eq.mp h]; exact m
    · intro m
      exact ⟨d, m, show (d == d) = true from beq_self_eq_true d⟩
  show Q (.bl (inV (.int d) (ns.map V.int))) H
  rw [e]
  exact q
theorem rd_rep {H : Hp} {Q : VK} {l : Addr} {x : V} {k : Int} (h : H l = some (.lst [x])) (h0 : 0 ≤ k) (h1 : k ≤ 1000) (q : ∀ p, H p = none → Q (.ref p) (upd H p (.lst (List.replicate k.toNat x)))) : rRep (.ref l) (.int k) H Q := by
  refine ⟨l, k, [x], rfl, rfl, h, by omega, by omega, ?_, fun p hp => ?_⟩
  · have : [x].length * k.toNat ≤ 1000 := by show 1 * _ ≤ _; omega
    exact Nat.le_trans this (by decide)
  · rw [List.flatten_replicate_singleton]
    exact q p hp
end Lay

end

section
/-! ExK: an own exception with an own __init__, made with keywords. -/
namespace ExK
open PySem PySem.Spec PySem.W PySem.Calls PyProof.Rows PySem.HandSPX Builtin Builtin.ObjectAttr
section
variable {M : Model} {prog : Program} {w : World} {A : Around} {E : Value → Shared → Prop} {R : Result → Shared → Prop} {h : Heap} {g : Array GenState} {d : Drawn} {t : Nat} {os : OsState}
variable {nm q : Str} {C N : Addr} {bs bm bmB : List Value} {hdct : Bool} {sn : List Str} {sub : List Value} {ab : Bool} {col : Option Bool} {dd : Option Addr} {k0 k1 k2 k3 k5 : Option Value} {B newId initId : String} {kw : List (Str × Value)}
theorem kw_checked (F : ExcBaseFacts B newId initId bmB) (hT : ∀ X : String, bm.contains (.type X) = bmB.contains (.type X)) {Q : Unit → Shared → Prop}
    (hC : h.get? C = some (excClassObj nm q C N bs bm hdct sn sub ab col dd k0 k1 k2 k3 k5 newId)) (hq : Q () ⟨h, g, d, t, os⟩) : wpAny M A (checkBuiltinCall newId ⟨[.ref C], kw⟩) Q E ⟨h, g, d, t, os⟩ := by
  have has : (Value.ref C :: bm).contains (.type B) = true := by rw [List.contains_cons, hT, F.hasB, Bool.or_true]
  have star := F.noStar
  simp only [checkBuiltinCall, F.newKind, F.newSplit, F.newRow]
  repeat (first
    | refine wpAny_loadPart_at hC ?_
    | (refine wpAny_isSubtype_exc hC ?_; rw [has])
    | refine wpAny_staticBase_exc hC ?_
    | refine wpAny_madeBy_exc hC ?_
    | simp only [bne_self_eq_false, Bool.false_eq_true, if_false]
    | wp_step)
  exact hq
theorem kw_new (F : ExcBaseFacts B newId initId bmB) (hT : ∀ X : String, bm.contains (.type X) = bmB.contains (.type X))
    (hC : h.get? C = some (excClassObj nm q C N bs bm hdct sn sub ab col dd k0 k1 k2 k3 k5 newId))
    (hq : R (.ok (.ret (.ref (h.objs.size + 1)))) ⟨(h.push (kdv_tup [])).push (excO C h.objs.size), g, d, t, os⟩) : codeAny (model prog w) A (.builtin newId ⟨[.ref C], kw⟩) R ⟨h, g, d, t, os⟩ := by
  have ends := F.ends
  have has : (Value.ref C :: bm).contains (.type B) = true := by rw [List.contains_cons, hT, F.hasB, Bool.or_true]
  have noA : (Value.ref C :: bm).contains (.type "AttributeError") = false := by
    rw [List.contains_cons, hT, F.noAttr]
    rfl
  have noN : (Value.ref C :: bm).contains (.type "NameError") = false := by
    rw [List.contains_cons, hT, F.noName]
    rfl
  refine codeAny_builtinAt F.entry ?_
  unfold Builtin.«BaseException.__new__»
  refine PySem.wpAt_bind ?_
  show PySem.wpAt _ _ _ (stack >>= _) _ _ _
  refine PySem.wpAt_bind (PySem.wpAt_stack fun p below => PySem.wpAt_of_wpAny ?_)
  wp_walk
  refine PySem.wpAt_of_wpAny ?_
  rw [F.owner]
  repeat (first
    | with_reducible refine wpAny_madeHere_exc F.canon hC ?_
    | with_reducible refine wpAny_loadPart_at hC ?_
    | (with_reducible refine wpAny_isSubtype_exc hC ?_; first | rw [has] | rw [noA] | rw [noN])
    | wp_step)
  show R _ _
  rw [Heap.size_push]
  exact hq
theorem kw_typed (F : ExcBaseFacts B newId initId bmB) (hT : ∀ X : String, bm.contains (.type X) = bmB.contains (.type X)) {fI : Addr} {Q : Fin → Shared → Prop}
    (hC : h.get? C = some (excClassObj nm q C N bs bm hdct sn sub ab col dd k0 k1 k2 k3 k5 newId))
    (hi : W.Looks (model prog w) h (typeLookup (.ref C) "__init__") (some (.ref fI))) (hb : ∀ self, W.Looks (model prog w) h (bindSpecial (.ref fI) self) (.ref fI, [self]))
    (hq : codeAny (model prog w) A (.call (.ref fI) ⟨[.ref (h.objs.size + 1)], kw⟩)
      (fun r s' => match r with | .ok (.ret v) => v = .none ∧ Q (.done (.ret (.ref (h.objs.size + 1)))) s' | .ok _ => False | .error e => E e s')
      ⟨(h.push (kdv_tup [])).push (excO C h.objs.size), g, d, t, os⟩) :
    wpAny (model prog w) A (Builtin.«type.__call__» ⟨[.ref C], kw⟩) Q E ⟨h, g, d, t, os⟩ := by
  repeat (first
    | with_reducible refine wpAny_loadPart_at hC ?_
    | with_reducible refine wpAny_madeBy_exc hC ?_
    | wp_step)
  refine codeAny_call_builtin_code (Code.quiet_builtin _ F.quiet) (kw_checked F hT hC ?_)
  refine kw_new F hT hC ?_
  show wpAny _ _ _ _ _ _
  have old : ∀ b o, h.get? b = some o → ((h.push (kdv_tup [])).push (excO C h.objs.size)).get? b = some o := fun b o e => Heap.get?_push_of_some _ (Heap.get?_push_of_some _ e)
  have there : ((h.push (kdv_tup [])).push (excO C h.objs.size)).get? (h.objs.size + 1) = some (excO C h.objs.size) := by heap_get
  have own : (Value.ref C :: bm).contains (.ref C) = true := by simp
  have hC' := old _ _ hC
  unfold isInstance
  repeat (first
    | with_reducible refine wpAny_loadPart_at there ?_
    | (with_reducible refine wpAny_isSubtype_exc hC' ?_; rw [own])
    | wp_step)
  show wpAny _ _ (typeLookup (.ref C) _) _ _ _
  refine (hi.keeps old).at ?_
  refine wpAny_holding (wpAny_bind (((hb (.ref (h.objs.size + 1))).keeps old).at ?_))
  refine wpAny_bind (wpAny_call (codeAny_mono hq ?_))
  rintro (e | fl) s' z
  · exact z
  · cases fl with
    | ret v =>
      obtain ⟨rfl, z⟩ := z
      first
        | exact wpAny_pure (wpAny_pure z)
        | (wp_walk; exact z)
    | _ => exact z.elim
theorem kw_called (F : ExcBaseFacts B newId initId bmB) (hT : ∀ X : String, bm.contains (.type X) = bmB.contains (.type X)) {fI : Addr}
    (hC : h.get? C = some (excClassObj nm q C N bs bm hdct sn sub ab col dd k0 k1 k2 k3 k5 newId))
    (hi : W.Looks (model prog w) h (typeLookup (.ref C) "__init__") (some (.ref fI))) (hb : ∀ self, W.Looks (model prog w) h (bindSpecial (.ref fI) self) (.ref fI, [self]))
    (hq : codeAny (model prog w) (A.under (.builtin "type.__call__" ⟨[.ref C], kw⟩)) (.call (.ref fI) ⟨[.ref (h.objs.size + 1)], kw⟩) (InitBack (h.objs.size + 1) R)
      ⟨(h.push (kdv_tup [])).push (excO C h.objs.size), g, d, t, os⟩) :
    codeAny (model prog w) A (.call (.ref C) ⟨[], kw⟩) R ⟨h, g, d, t, os⟩ := by
  have f1 := tc_lookup
  have f2 := tc_bind (.ref C)
  have ty : (⟨h, g, d, t, os⟩ : Shared).TypeIs (.ref C) "type" := ⟨_, hC, rfl⟩
  refine codeAny_of_tree ?_
  show wpAny _ _ (callAny (.ref C) _) _ _ _
  repeat (any_goals (first
    | assumption
    | with_reducible refine wpAny_loadPart_at hC ?_
    | wp_step))
  refine ⟨rfl, ?_⟩
  refine codeAny_call_builtin_at (Code.quiet_builtin _ (by decide +kernel)) entry_typeCall (wpAny_check_type_call_sub hC (kw_typed F hT hC hi hb ?_))
  refine codeAny_mono hq ?_
  rintro (e | fl) s' z
  · exact z
  · cases fl <;> exact z
end
end ExK
namespace ExK
open PySem PySem.Spec PyProof.Rows L2
/-- C(k = v, ..), C's own __init__ keeping sp -/
def tMkK (C : Addr) (m : Nat) (sp : Sp) (gV : List V → List V → List V) (tk : TA) : L2.St → Hp → XK → Prop := fun σ H Q => tk σ H fun zs H1 => zs.length = m ∧ ∀ a, H1 a = none → sp (gV [.ref a] zs) (upd H1 a (exo a C none))
  (fun v H2 => v = .non ∧ ∃ (d : Addr) (fs : List (Str × V)), H2 a = some (exo a C (some d)) ∧ H2 d = some (exd d fs) ∧ H1 d = none ∧ Q (.ref C) (some d) (upd (del H2 a) d (.xd fs))) (fun _ _ _ => False)
theorem rd_mkK {C : Addr} {m : Nat} {sp : Sp} {gV : List V → List V → List V} {tk : TA} {σ : L2.St} {H : Hp} {Q : XK} (h : tk σ H fun zs H1 => zs.length = m ∧ ∀ a, H1 a = none → sp (gV [.ref a] zs) (upd H1 a (exo a C none))
  (fun v H2 => v = .non ∧ ∃ (d : Addr) (fs : List (Str × V)), H2 a = some (exo a C (some d)) ∧ H2 d = some (exd d fs) ∧ H1 d = none ∧ Q (.ref C) (some d) (upd (del H2 a) d (.xd fs))) (fun _ _ _ => False)) : tMkK C m sp gV tk σ H Q := h
section
variable {X : Cx} {CX : CXT} {x : Str} {C fI : Addr} {k : Nat} {fd : FuncData} {ps ks : List Str} {sp : Sp} {p pos : Pos} {kws : List Keyword} {tk : TA} {g : List Value → List Value → List Value} {gV : List V → List V → List V}
theorem pmk_kw (T : OexC X.K C) (iC : PySem.W.findIn X.K (.ref C) "__init__" = some (some (.ref fI))) (tI : PySem.W.typeIn X.K (.ref fI) = some (.type "function")) (F1 : FnOk X.prog X.w X.K X.mg X.base CX k fI fd ps sp) (room : Room (k + 1) X.A)
    (hb : KBn X.K fd ps 1 ks g gV) (hx : Passes CX X (fun _ _ _ => False)) (hg : Gl X x) (hm : X.mg x = some (.ref C)) (hkw : PK X kws tk)
    (hall : (backToKw pos (keywordEach kws X.env)).all (·.1.isSome) = true := by rfl) (hks : (backToKw pos (keywordEach kws X.env)).filterMap (·.1) = ks := by rfl) (hdb : (x == ("__debug__" : Str)) = false := by decide)
    (hpl : ((backTo pos (starEach [] X.env)).any (·.1) || (backToKw pos (keywordEach kws X.env)).any (·.1.isNone)) = false := by rfl) : PMk X (.Call (.Name x p) [] kws pos) (tMkK C ks.length sp gV tk) := by
  intro pins s σ H Q I h
  obtain ⟨nm, q, N, bs, bm, sn, sub, ab, col, dd, k0, k1, k2, k3, k5, hC, hbm⟩ := T.cls
  refine wpAny_Call_Name_kw (ld_glob I hg hm ?_ hdb)
  refine PySem.W.callWith_KW0 (h₀ := X.base) I.ok.mod.kin T.kC hall (thn (hkw.run pos pins s σ H _ I h) ?_) hpl
  rintro ws s1 ⟨zs, H1, I1, rz, l1, q1⟩
  refine ⟨I1.kIn, ?_⟩
  rw [hks]
  show wpAny _ _ (call (.ref C) [] (ks.zip ws)) _ _ _
  obtain ⟨hp, gg, dr, tk', os⟩ := s1
  have big : hp.objs.size ≤ hp.objs.size + 1 := Nat.le_succ _
  have hq := q1 (hp.objs.size + 1) (I1.hok.fresh big)
  have old : ∀ b o, hp.get? b = some o → ((hp.push (PySem.W.kdv_tup [])).push (PySem.HandSPX.excO C hp.objs.size)).get? b = some o := fun b o e => Heap.get?_push_of_some _ (Heap.get?_push_of_some _ e)
  have there : ((hp.push (PySem.W.kdv_tup [])).push (PySem.HandSPX.excO C hp.objs.size)).get? (hp.objs.size + 1) = some (PySem.HandSPX.excO C hp.objs.size) := by heap_get
  have I2 : Inv X pins σ (upd H1 (hp.objs.size + 1) (exo (hp.objs.size + 1) C none)) ⟨(hp.push (PySem.W.kdv_tup [])).push (PySem.HandSPX.excO C hp.objs.size), gg, dr, tk', os⟩ :=
    I1.laid (t' := tk') (a := hp.objs.size + 1) (o := exo (hp.objs.size + 1) C none) (h' := (hp.push (PySem.W.kdv_tup [])).push (PySem.HandSPX.excO C hp.objs.size)) old big (exo_ok there)
  have rs : Vals [V.ref (hp.objs.size + 1)] [Value.ref (hp.objs.size + 1)] := .cons rfl .nil
  have e2 : ws.length = ks.length := rz.length.symm.trans l1
  refine wpAny_call (kw_called PySem.F.excBase_ValueError (fun Y => PySem.HandSPX.refsVE_contains Y bm hbm) (I1.kIn _ _ hC) (PySem.W.looks_findIn I1.kIn iC) (fun self => PySem.W.bind_fn I1.kIn self tI)
    (codeAny_mono (F1.run _ X.stack _ _ ⟨[Value.ref (hp.objs.size + 1)], ks.zip ws⟩ (g [Value.ref (hp.objs.size + 1)] ws) _ _ (fun _ _ _ => False) (room.make C [] (ks.zip ws)) (I2.env0.make C [] (ks.zip ws)) (hb.to _ [Value.ref (hp.objs.size + 1)] ws I2.kIn rfl e2) (hb.rel rs rz) hq) ?_))
  rintro (er | fl) s' hq'
  · exact hx pins σ _ _ er s' I2 hq'
  · cases fl with
    | ret u =>
      obtain ⟨v, H2, os2, bare2, un2, hok2, rv, ev, d, fs, ea, ed, hd1, q2⟩ := hq'
      subst ev
      obtain ⟨h2, g2, d2, t2, os'⟩ := s'
      exact ⟨rv, mk_end (raises_own T.exC T.tyC) I1 big old un2 hok2 os2 bare2 ea ed hd1 q2⟩
    | _ => exact False.elim hq'
end
end ExK

end

section
namespace Lay
open PySem PySem.Spec PyProof.Rows L2 Exv Grd ExK
/-! ### values that can be shown, with nothing at p -/
def KX (K : PySem.W.Frag) (p : Addr) (H : Hp) (v : V) (d : PyData) : Prop := (∀ H', Keep p H H' → DpX K H' v d) ∧ d.showable = true ∧ d.shown.length ≤ 100000 ∧ d.depth ≤ 60
theorem KX.keep {K : PySem.W.Frag} {p : Addr} {H H' : Hp} {v : V} {d : PyData} (s : Keep p H H') (h : KX K p H v d) : KX K p H' v d := ⟨fun H2 s2 => h.1 H2 (s.trans s2), h.2⟩
theorem KX.mono {K : PySem.W.Frag} {p : Addr} {H H' : Hp} {v : V} {d : PyData} (s : Same H H') (h : KX K p H v d) : KX K p H' v d := h.keep (Keep.of s)
theorem KX.repr {K : PySem.W.Frag} {p : Addr} {H : Hp} {v : V} {d : PyData} {Q : VK} (h : KX K p H v d) (q : Q (.str d.shown) H) : rRepr K [v] H Q := rd_repr (h.1 H Keep.refl) h.2.1 (Nat.le_trans h.2.2.1 (by decide)) h.2.2.2 q
def fits (d : PyData) : Bool := d.showable && decide (d.shown.length ≤ 100000) && decide (d.depth ≤ 60)
theorem fits_of {d : PyData} (h : fits d = true) : d.showable = true ∧ d.shown.length ≤ 100000 ∧ d.depth ≤ 60 := by
  unfold fits at h
  rw [Bool.and_eq_true, Bool.and_eq_true] at h
  exact ⟨h.1.1, of_decide_eq_true h.1.2, of_decide_eq_true h.2⟩
theorem leaf_dp {K : PySem.W.Frag} {H : Hp} {v : V} (h : isLeaf v = true) : Dp K H v (leafD v) := by
  cases v with
  | non => exact .non
  | bl b => exact .bl b
  | int i => exact .int i
  | str z => exact .str z
  | _ => cases h
theorem leaves_dp {K : PySem.W.Frag} {H : Hp} : ∀ {xs : List V}, xs.all isLeaf = true → DpAll K H xs (xs.map leafD)
  | [], _ => .nil
  | x :: xs, h => by
    rw [List.all_cons, Bool.and_eq_true] at h
    exact .cons (leaf_dp h.1) (leaves_dp h.2)
theorem KX.leaf {K : PySem.W.Frag} {p : Addr} {H : Hp} {v : V} (h : isLeaf v = true) (f : fits (leafD v) = true) : ∃ d, KX K p H v d := ⟨_, fun _ _ => .of (leaf_dp h), fits_of f⟩
theorem KX.tup {K : PySem.W.Frag} {p a : Addr} {H : Hp} {xs : List V} (e : H a = some (.tup xs)) (n : a ≠ p) (h : xs.all isLeaf = true) (f : fits (.tuple (xs.map leafD)) = true) : ∃ d, KX K p H (.ref a) d :=
  ⟨_, fun _ s => .of (.tup (SqT.of (s _ _ n e)) (leaves_dp h)), fits_of f⟩
theorem KX.lst {K : PySem.W.Frag} {p a : Addr} {H : Hp} {xs : List V} (e : H a = some (.lst xs)) (n : a ≠ p) (h : xs.all isLeaf = true) (f : fits (.list (xs.map leafD)) = true) : ∃ d, KX K p H (.ref a) d :=
  ⟨_, fun _ s => .of (.lst (SqL.of (s _ _ n e)) (leaves_dp h)), fits_of f⟩
theorem KX.dK {K : PySem.W.Frag} {p a : Addr} {H : Hp} {kvs : List (Key × V)} (e : H a = some (.dK kvs)) (n : a ≠ p) (h : kvs.all (fun kv => isLeaf kv.2) = true) (f : fits (.dict (kvs.map fun kv => (leafD (kV kv.1), leafD kv.2))) = true) : ∃ d, KX K p H (.ref a) d :=
  ⟨_, fun _ s => .dict (s _ _ n e) (fun kv m => List.all_eq_true.mp h kv m), fits_of f⟩
def KXs (K : PySem.W.Frag) (p : Addr) (H : Hp) (xs : List V) : Prop := ∀ v ∈ xs, ∃ d, KX K p H v d
theorem KXs.nil {K : PySem.W.Frag} {p : Addr} {H : Hp} : KXs K p H [] := fun v h => nomatch h
theorem KXs.cons {K : PySem.W.Frag} {p : Addr} {H : Hp} {x : V} {xs : List V} (h : ∃ d, KX K p H x d) (r : KXs K p H xs) : KXs K p H (x :: xs) := fun v m => by
  rcases List.mem_cons.mp m with e | m
  · subst e; exact h
  · exact r v m
theorem rd_ixX {K : PySem.W.Frag} {H : Hp} {Q : VK} {p a : Addr} {xs : List V} {d : Int} (h : SqL K H a xs) (h0 : 0 ≤ d) (h1 : d < xs.length) (kd : KXs K p H xs) (q : ∀ v e, KX K p H v e → Q v H) : rIxL K (.ref a) (.int d) H Q := by
  have hd : d.toNat < xs.length := by omega
  obtain ⟨e, he⟩ := kd xs[d.toNat] (List.getElem_mem hd)
  exact rd_ixL h (atI_int h0 (List.getElem?_eq_getElem hd)) (q _ e he)
def spThingD (K : PySem.W.Frag) : Sp := fun vs H Q _ => ∃ (p : Addr) (n : Nat) (c : Addr), vs = [.ref p] ∧ PenAt c H p n ∧ n + 1 < 100000 ∧ ∀ v d H', KX K p H' v d → PenAt c H' p (n + 1) → Keep p H H' → Q v H'
/-! ### errors as values -/
def ExA (C : Addr) (H : Hp) (a : Addr) : Prop := (∃ fs, ErrAt C H a fs) ∨ H a = some (exv a (.ref C) none)
theorem ExA.mono {C : Addr} {H H' : Hp} {a : Addr} (s : Same H H') (h : ExA C H a) : ExA C H' a := by
  rcases h with ⟨fs, h⟩ | h
  · exact .inl ⟨fs, h.mono s⟩
  · exact .inr (s _ _ h)
theorem ExA.ty {K : PySem.W.Frag} {C : Addr} {H : Hp} {a : Addr} (c : ExcC K C) (h : ExA C H a) : TyW K H (.ref a) (.ref C) := by
  rcases h with ⟨fs, h⟩ | h
  · exact h.ty c
  · exact .exn h c
def tNew (t : L2.St → Hp → XK → Prop) : TE := fun σ H Q => t σ H fun cls d H1 => ∀ a, H1 a = none → Q (.ref a) (upd H1 a (exv a cls d))
theorem pe_new {X : Cx} {e : Expr} {t : L2.St → Hp → XK → Prop} (h : PMk X e t) : PE X e (tNew t) := pe_of_mk h
theorem new_at {C : Addr} {H : Hp} {fs : List (Str × V)} {Q : VK} (q : ∀ e H', Same H H' → ErrAt C H' e fs → Q (.ref e) H') : ∀ d H', H d = none → Same H H' → H' d = some (.xd fs) → ∀ a, H' a = none → Q (.ref a) (upd H' a (exv a (.ref C) (some d))) :=
  fun d H' hd s e a ha => q a _ (s.trans (Same.upd ha)) ⟨d, upd_same, by rw [upd_ne (fun z => by subst z; rw [ha] at e; cases e)]; exact e⟩
theorem rd_new2 {C : Addr} {f1 f2 : Str} {i j : Nat} {v1 v2 : V} {σ : L2.St} {H : Hp} {Q : VK} (h1 : σ[i]? = some (some v1)) (h2 : σ[j]? = some (some v2)) (q : ∀ e H', Same H H' → ErrAt C H' e [(f2, v2), (f1, v1)] → Q (.ref e) H') :
    tNew (tMkO C (spErr2 C f1 f2) [] (tCons (tVar i) (tCons (tVar j) tNil))) σ H Q := ⟨v1, h1, v2, h2, mk_err2 (Q := fun cls d H1 => ∀ a, H1 a = none → Q (.ref a) (upd H1 a (exv a cls d))) (new_at q)⟩
theorem rd_new1 {C : Addr} {f1 : Str} {i : Nat} {v1 : V} {σ : L2.St} {H : Hp} {Q : VK} (h1 : σ[i]? = some (some v1)) (q : ∀ e H', Same H H' → ErrAt C H' e [(f1, v1)] → Q (.ref e) H') :
    tNew (tMkO C (spErr1 C f1) [] (tCons (tVar i) tNil)) σ H Q := ⟨v1, h1, mk_err1 (Q := fun cls d H1 => ∀ a, H1 a = none → Q (.ref a) (upd H1 a (exv a cls d))) (new_at q)⟩
theorem rd_newK2 {C : Addr} {f1 f2 : Str} {i j : Nat} {v1 v2 : V} {σ : L2.St} {H : Hp} {Q : VK} (h1 : σ[i]? = some (some v1)) (h2 : σ[j]? = some (some v2)) (q : ∀ e H', Same H H' → ErrAt C H' e [(f2, v2), (f1, v1)] → Q (.ref e) H') :
    tNew (tMkK C 2 (spErr2 C f1 f2) (fun us zs => us ++ zs) (tCons (tVar i) (tCons (tVar j) tNil))) σ H Q := by
  refine ⟨v1, h1, v2, h2, rfl, ?_⟩
  have z := (mk_err2 (C := C) (f1 := f1) (f2 := f2) (v1 := v1) (v2 := v2) (H := H) (Q := fun cls d H1 => ∀ a, H1 a = none → Q (.ref a) (upd H1 a (exv a cls d))) (new_at q)).2
  exact z
theorem rd_newK1 {C : Addr} {f1 : Str} {i : Nat} {v1 : V} {σ : L2.St} {H : Hp} {Q : VK} (h1 : σ[i]? = some (some v1)) (q : ∀ e H', Same H H' → ErrAt C H' e [(f1, v1)] → Q (.ref e) H') :
    tNew (tMkK C 1 (spErr1 C f1) (fun us zs => us ++ zs) (tCons (tVar i) tNil)) σ H Q := by
  refine ⟨v1, h1, rfl, ?_⟩
  have z := (mk_err1 (C := C) (f1 := f1) (v1 := v1) (H := H) (Q := fun cls d H1 => ∀ a, H1 a = none → Q (.ref a) (upd H1 a (exv a cls d))) (new_at q)).2
  exact z
/-- X(), X an own exception class without own __init__ -/
theorem pmk_own0 {X : Cx} {C : Addr} {bmB : List Value} {B newId initId : String} {x : Str} {p pos : Pos} (F : ExcBaseFacts B newId initId bmB) (q : PySem.W.excIn X.K C bmB newId = true) (gC : X.mg x = some (.ref C))
    (kC : PySem.W.keepIn X.K (.ref C) = true) (r : Raises X (.ref C)) (hg : Gl X x) (hdb : (x == ("__debug__" : Str)) = false := by decide) : PMk X (.Call (.Name x p) [] [] pos) (fun σ H Q => Q (.ref C) none H) := by
  intro pins s σ H Q I h
  refine wpAny_Call_Name_kw (ld_glob I hg gC ?_ hdb)
  obtain ⟨bm, N, nm, qn, bs, hdct, sn, sub, ab, col, dd, k0, k1, k2, k3, k5, mN, hC, hN, hni, T⟩ := exc_obj I.kIn q
  refine PySem.W.callWith_K0 I.kIn kC (wpAny_call_exc_subT (rest := []) F T hC hN hni (fun h' e hm => ?_) (by decide))
  exact mk_of I hm r h (I.hok.gone hm.new)
theorem rd_new0 {C : Addr} {σ : L2.St} {H : Hp} {Q : VK} (q : ∀ e H', Same H H' → H' e = some (exv e (.ref C) none) → Q (.ref e) H') : tNew (fun σ H Q => Q (.ref C) none H) σ H Q := fun a ha => q a _ (Same.upd ha) upd_same
theorem rd_tXv {K : PySem.W.Frag} {C : Addr} {n : Str} {te : TE} {σ : L2.St} {H : Hp} {Q : VK} {fs : List (Str × V)} {v : V} (T : XfC K C) (hn : PySem.W.findIn K (.ref C) n = some none) (l : fs.lookup n = some v)
    (h : ∀ R : VK, (∀ e H', Same H H' → ErrAt C H' e fs → R (.ref e) H') → te σ H R) (q : ∀ H', Same H H' → Q v H') : tXv K n te σ H Q :=
  h _ fun e H' s er => rd_err (te := te) (σ := σ) (H := H) T hn l er (q H' s)
end Lay

end

section
namespace OwnC
open PySem L2 PySem.Spec PyProof.Rows PySem.SeqAt
/-! ### what is no instance declines to be compared with an instance -/
section
variable {prog : Program} {w : World} {A : Around} {E : Value → Shared → Prop} {s : Shared} {K : PySem.W.Frag} {x C dx : Addr}
def instO (C dx : Addr) : Obj := PySem.W.instObj C dx
theorem int_eq_inst (i : Int) (t : Tok) : Meets (Builtin.«int.__eq__» ⟨[.int i t, .ref x], []⟩) (fun _ R s => s.heap.get? x = some (PySem.W.instObj C dx) ∧ R (.ok (.ret .notImplemented)) s) :=
  .of_wp fun prog w A R s h => by obtain ⟨hp, g, d, tk, os⟩ := s; obtain ⟨hl, h⟩ := h; wp_walk using wpAny_loadPart' hl, wpAny_load hl; exact ⟨_, rfl, h⟩
theorem int_ne_inst (i : Int) (t : Tok) : Meets (Builtin.«int.__ne__» ⟨[.int i t, .ref x], []⟩) (fun _ R s => s.heap.get? x = some (PySem.W.instObj C dx) ∧ R (.ok (.ret .notImplemented)) s) :=
  .of_wp fun prog w A R s h => by obtain ⟨hp, g, d, tk, os⟩ := s; obtain ⟨hl, h⟩ := h; wp_walk using wpAny_loadPart' hl, wpAny_load hl; exact ⟨_, rfl, h⟩
theorem bool_eq_inst (i : Bool) : Meets (Builtin.«int.__eq__» ⟨[.bool i, .ref x], []⟩) (fun _ R s => s.heap.get? x = some (PySem.W.instObj C dx) ∧ R (.ok (.ret .notImplemented)) s) :=
  .of_wp fun prog w A R s h => by obtain ⟨hp, g, d, tk, os⟩ := s; obtain ⟨hl, h⟩ := h; wp_walk using wpAny_loadPart' hl, wpAny_load hl; exact ⟨_, rfl, h⟩
theorem bool_ne_inst (i : Bool) : Meets (Builtin.«int.__ne__» ⟨[.bool i, .ref x], []⟩) (fun _ R s => s.heap.get? x = some (PySem.W.instObj C dx) ∧ R (.ok (.ret .notImplemented)) s) :=
  .of_wp fun prog w A R s h => by obtain ⟨hp, g, d, tk, os⟩ := s; obtain ⟨hl, h⟩ := h; wp_walk using wpAny_loadPart' hl, wpAny_load hl; exact ⟨_, rfl, h⟩
theorem str_eq_inst (i : Str) (t : Tok) : Meets (Builtin.«str.__eq__» ⟨[.str i t, .ref x], []⟩) (fun _ R s => s.heap.get? x = some (PySem.W.instObj C dx) ∧ R (.ok (.ret .notImplemented)) s) :=
  .of_wp fun prog w A R s h => by obtain ⟨hp, g, d, tk, os⟩ := s; obtain ⟨hl, h⟩ := h; wp_walk using wpAny_loadPart' hl, wpAny_load hl; exact ⟨_, rfl, h⟩
theorem str_ne_inst (i : Str) (t : Tok) : Meets (Builtin.«str.__ne__» ⟨[.str i t, .ref x], []⟩) (fun _ R s => s.heap.get? x = some (PySem.W.instObj C dx) ∧ R (.ok (.ret .notImplemented)) s) :=
  .of_wp fun prog w A R s h => by obtain ⟨hp, g, d, tk, os⟩ := s; obtain ⟨hl, h⟩ := h; wp_walk using wpAny_loadPart' hl, wpAny_load hl; exact ⟨_, rfl, h⟩
theorem isi_no {M : Model} {T : String} {ox : Obj} {od : Option Obj} {Q : Bool → Shared → Prop} (X : K.In s.heap) (I : PySem.W.InstAt s.heap x ox C od) (hm : PySem.W.mroIn K C (.type T) = some false) (h : Q false s) : wpAny M A (isInstance (.ref x) (.type T)) Q E s := by
  simp only [isInstance]
  exact wpAny_bind (I.type.here ((PySem.W.looks_mroIn X hm).here h))
theorem list_eq_inst {ox : Obj} {od : Option Obj} (l : Addr) : Meets (Builtin.«list.__eq__» ⟨[.ref l, .ref x], []⟩) (fun _ R s => K.In s.heap ∧ PySem.W.InstAt s.heap x ox C od ∧ PySem.W.mroIn K C (.type "list") = some false ∧ R (.ok (.ret .notImplemented)) s) :=
  .of_wp fun prog w A R s h => by
    obtain ⟨X, I, hm, h⟩ := h
    delta Builtin.«list.__eq__»
    repeat (first | (with_reducible refine wpAny_bind (isi_no X I hm ?_)) | (with_reducible refine isi_no X I hm ?_) | wp_step)
    exact ⟨_, rfl, h⟩
theorem list_ne_inst {ox : Obj} {od : Option Obj} (l : Addr) : Meets (Builtin.«list.__ne__» ⟨[.ref l, .ref x], []⟩) (fun _ R s => K.In s.heap ∧ PySem.W.InstAt s.heap x ox C od ∧ PySem.W.mroIn K C (.type "list") = some false ∧ R (.ok (.ret .notImplemented)) s) :=
  .of_wp fun prog w A R s h => by
    obtain ⟨X, I, hm, h⟩ := h
    delta Builtin.«list.__ne__»
    repeat (first | (with_reducible refine wpAny_bind (isi_no X I hm ?_)) | (with_reducible refine isi_no X I hm ?_) | wp_step)
    exact ⟨_, rfl, h⟩
theorem tuple_eq_inst {ox : Obj} {od : Option Obj} (l : Addr) : Meets (Builtin.«tuple.__eq__» ⟨[.ref l, .ref x], []⟩) (fun _ R s => K.In s.heap ∧ PySem.W.InstAt s.heap x ox C od ∧ PySem.W.mroIn K C (.type "tuple") = some false ∧ R (.ok (.ret .notImplemented)) s) :=
  .of_wp fun prog w A R s h => by
    obtain ⟨X, I, hm, h⟩ := h
    delta Builtin.«tuple.__eq__»
    repeat (first | (with_reducible refine wpAny_bind (isi_no X I hm ?_)) | (with_reducible refine isi_no X I hm ?_) | wp_step)
    exact ⟨_, rfl, h⟩
theorem tuple_ne_inst {ox : Obj} {od : Option Obj} (l : Addr) : Meets (Builtin.«tuple.__ne__» ⟨[.ref l, .ref x], []⟩) (fun _ R s => K.In s.heap ∧ PySem.W.InstAt s.heap x ox C od ∧ PySem.W.mroIn K C (.type "tuple") = some false ∧ R (.ok (.ret .notImplemented)) s) :=
  .of_wp fun prog w A R s h => by
    obtain ⟨X, I, hm, h⟩ := h
    delta Builtin.«tuple.__ne__»
    repeat (first | (with_reducible refine wpAny_bind (isi_no X I hm ?_)) | (with_reducible refine isi_no X I hm ?_) | wp_step)
    exact ⟨_, rfl, h⟩
end
/-- what == and != of a class's instances need of the class beside its own == -/
structure NoSeq (K : PySem.W.Frag) (C : Addr) : Prop where
  lst : PySem.W.mroIn K C (.type "list") = some false
  tup : PySem.W.mroIn K C (.type "tuple") = some false
/-- a value that is no instance -/
inductive NIns (K : PySem.W.Frag) (H : Hp) : V → Value → Prop
  | non : NIns K H .non (.type "NoneType")
  | bl (b : Bool) : NIns K H (.bl b) (.type "bool")
  | int (i : Int) : NIns K H (.int i) (.type "int")
  | str (z : Str) : NIns K H (.str z) (.type "str")
  | tup {a : Addr} {xs : List V} (h : SqT K H a xs) : NIns K H (.ref a) (.type "tuple")
  | lst {a : Addr} {xs : List V} (h : SqL K H a xs) : NIns K H (.ref a) (.type "list")
theorem NIns.kty {K : PySem.W.Frag} {H : Hp} {y : V} {T : Value} (k : NIns K H y T) : KTy K H y T := by
  cases k with
  | non => exact .non
  | bl b => exact .bl b
  | int i => exact .int i
  | str z => exact .str z
  | tup h => exact .tup h
  | lst h => exact .lst h
section
variable {X : Cx} {H : Hp} {s : Shared} {σ : L2.St} {pins : List (Addr × Obj)} {A : Around} {E : Value → Shared → Prop}
theorem back_eq {y : V} {v T : Value} {a C dx : Addr} {fs : List (Str × V)} (I : Inv X pins σ H s) (r : RelV y v) (k : NIns X.K H y T) (ha : H a = some (.ins C dx fs)) (n : NoSeq X.K C) :
    wpAny (model X.prog X.w) A (tryCompare v "__eq__" (.ref a)) (fun r s' => r = none ∧ s' = s) E s := by
  obtain ⟨m1, J, _⟩ := ins_get I.hok ha
  obtain ⟨od, J, _⟩ := J.look
  cases k with
  | non => cases r; exact wpAny_tryCompare_declines (show s.TypeIs .none "NoneType" from rfl) F.slot_NoneType_eq_refl (call_gives F.slot_NoneType_eq_refl rfl F.entry_NoneType_eq (F.args_NoneType_eq_2 _ _) (NoneType___eq___none_ref_0 a) ⟨rfl, rfl, rfl⟩)
  | bl b => cases r; exact wpAny_tryCompare_declines (T := "bool") rfl F.slot_bool_eq_refl (call_meets F.slot_bool_eq_refl rfl F.entry_int_eq (F.args_int_eq_2 _ _) (bool_eq_inst b) ⟨J.at_, rfl, rfl, rfl⟩)
  | int i => obtain ⟨t, rfl⟩ := r; exact wpAny_tryCompare_declines (typeIs_int s i t) F.slot_int_eq_refl (call_meets F.slot_int_eq_refl (typeIs_int s i t) F.entry_int_eq (F.args_int_eq_2 _ _) (int_eq_inst i t) ⟨J.at_, rfl, rfl, rfl⟩)
  | str z => obtain ⟨t, rfl⟩ := r; exact wpAny_tryCompare_declines (typeIs_str s z t) F.slot_str_eq_refl (call_meets F.slot_str_eq_refl (typeIs_str s z t) F.entry_str_eq (F.args_str_eq_2 _ _) (str_eq_inst z t) ⟨J.at_, rfl, rfl, rfl⟩)
  | tup h =>
    cases r
    obtain ⟨its, _, pl, _⟩ := I.tuple h
    obtain ⟨o, h1, h2, _⟩ := id pl
    exact wpAny_tryCompare_declines ⟨o, h1, h2⟩ F.slot_tuple_eq_refl (call_meets F.slot_tuple_eq_refl ⟨o, h1, h2⟩ F.entry_tuple_eq (F.args_tuple_eq_2 _ _) (tuple_eq_inst _) ⟨I.kIn, J, n.tup, rfl, rfl, rfl⟩)
  | lst h =>
    cases r
    obtain ⟨its, _, pl, _⟩ := I.list h
    obtain ⟨o, h1, h2, _⟩ := pl.isList
    exact wpAny_tryCompare_declines ⟨o, h1, h2⟩ F.slot_list_eq_refl (call_meets F.slot_list_eq_refl ⟨o, h1, h2⟩ F.entry_list_eq (F.args_list_eq_2 _ _) (list_eq_inst _) ⟨I.kIn, J, n.lst, rfl, rfl, rfl⟩)
theorem back_ne {y : V} {v T : Value} {a C dx : Addr} {fs : List (Str × V)} (I : Inv X pins σ H s) (r : RelV y v) (k : NIns X.K H y T) (ha : H a = some (.ins C dx fs)) (n : NoSeq X.K C) :
    wpAny (model X.prog X.w) A (tryCompare v "__ne__" (.ref a)) (fun r s' => r = none ∧ s' = s) E s := by
  obtain ⟨m1, J, _⟩ := ins_get I.hok ha
  obtain ⟨od, J, _⟩ := J.look
  cases k with
  | non => cases r; exact wpAny_tryCompare_declines (show s.TypeIs .none "NoneType" from rfl) F.slot_NoneType_ne_refl (call_gives F.slot_NoneType_ne_refl rfl F.entry_NoneType_ne (F.args_NoneType_ne_2 _ _) (NoneType___ne___none_ref_0 a) ⟨rfl, rfl, rfl⟩)
  | bl b => cases r; exact wpAny_tryCompare_declines (T := "bool") rfl F.slot_bool_ne_refl (call_meets F.slot_bool_ne_refl rfl F.entry_int_ne (F.args_int_ne_2 _ _) (bool_ne_inst b) ⟨J.at_, rfl, rfl, rfl⟩)
  | int i => obtain ⟨t, rfl⟩ := r; exact wpAny_tryCompare_declines (typeIs_int s i t) F.slot_int_ne_refl (call_meets F.slot_int_ne_refl (typeIs_int s i t) F.entry_int_ne (F.args_int_ne_2 _ _) (int_ne_inst i t) ⟨J.at_, rfl, rfl, rfl⟩)
  | str z => obtain ⟨t, rfl⟩ := r; exact wpAny_tryCompare_declines (typeIs_str s z t) F.slot_str_ne_refl (call_meets F.slot_str_ne_refl (typeIs_str s z t) F.entry_str_ne (F.args_str_ne_2 _ _) (str_ne_inst z t) ⟨J.at_, rfl, rfl, rfl⟩)
  | tup h =>
    cases r
    obtain ⟨its, _, pl, _⟩ := I.tuple h
    obtain ⟨o, h1, h2, _⟩ := id pl
    exact wpAny_tryCompare_declines ⟨o, h1, h2⟩ F.slot_tuple_ne_refl (call_meets F.slot_tuple_ne_refl ⟨o, h1, h2⟩ F.entry_tuple_ne (F.args_tuple_ne_2 _ _) (tuple_ne_inst _) ⟨I.kIn, J, n.tup, rfl, rfl, rfl⟩)
  | lst h =>
    cases r
    obtain ⟨its, _, pl, _⟩ := I.list h
    obtain ⟨o, h1, h2, _⟩ := pl.isList
    exact wpAny_tryCompare_declines ⟨o, h1, h2⟩ F.slot_list_ne_refl (call_meets F.slot_list_ne_refl ⟨o, h1, h2⟩ F.entry_list_ne (F.args_list_ne_2 _ _) (list_ne_inst _) ⟨I.kIn, J, n.lst, rfl, rfl, rfl⟩)
end
end OwnC

end

section
namespace OwnC
open PySem L2 PySem.Spec PyProof.Rows PySem.SeqAt
/-! ### a def that answers NotImplemented -/
/-- what is told behind such a call: nothing has changed -/
def NoE (outer : List Env) (P : Program) (w : World) (H : Hp) (s : Shared) (r : Result) (s' : Shared) : Prop :=
  r = .ok (.ret .notImplemented) ∧ s'.os = s.os ∧ AllBare s'.gens ∧ Un (frs outer) [] H H s.heap s'.heap ∧ HOk P w H s'.heap
structure FnNo (P : Program) (w : World) (K : PySem.W.Frag) (mg : Str → Option Value) (base : Heap) (k : Nat) (f : Addr) (fd : FuncData) (ps : List Str) (pre : List V → Hp → Prop) : Prop where
  len : ∀ vs H, pre vs H → vs.length = ps.length
  run : ∀ (A : Around) (outer : List Env) (s : Shared) (H : Hp) (args : Args) (us : List Value) (vs : List V), Room k A → Env0 P w K mg base A outer s H → BindsTo s fd args (ps.zip us) → Vals vs us → pre vs H →
    codeAny (model P w) A (.call (.ref f) args) (NoE outer P w H s) s
/-- the body ends in NotImplemented -/
def NoB (X : Cx) (body : List Stmt) (σ : L2.St) (H : Hp) : Prop := ∀ s, Inv X [] σ H s → wpAny (model X.prog X.w) X.A (execs body X.env) (fun fl s' => fl = .ret .notImplemented ∧ ∃ σ', Inv X [] σ' H s') X.xe s
theorem fnNo_of {P : Program} {w : World} {K : PySem.W.Frag} {mg : Str → Option Value} {base : Heap} {k : Nat} {f : Addr} {name qual : Str} {params : Arguments} {body : List Stmt} {scope : Scope} {dV kV doc pm cdv ct oc : Value} {an od : Option Addr}
    {osl : Array (Option Value)} {N ps : List Str} {pre : List V → Hp → Prop} (lk : K.lookup f = some ⟨oc, od, .func (PySem.W.fnOf name qual params body scope dV kV doc pm an cdv ct), osl⟩) (hcd : PySem.W.codeIn K cdv qual = true) (S : FnScope N ps scope)
    (len : ∀ vs H, pre vs H → vs.length = ps.length)
    (hbody : ∀ (A : Around) (outer : List Env) (s : Shared) (H : Hp) (vs : List V), Room k (A.deeper (envOfC qual scope s.heap.objs.size f cdv)) → pre vs H →
      NoB (cxOf (fun _ _ _ _ _ _ => False) P w K mg base N qual scope f cdv A outer s H (fun _ _ _ => False)) body (start N vs) H) :
    FnNo P w K mg base (k + 1) f (PySem.W.fnOf name qual params body scope dV kV doc pm an cdv ct) ps pre := by
  refine ⟨len, fun A outer s H args us vs hr e0 hb r hpre => ?_⟩
  have hl := len _ _ hpre
  have inK : K.In s.heap := e0.mod.kin.keeps fun b o e => (e0.bs b o e).1
  have noLim : s.heap.NoLimit := e0.mod.nolimit.keeps fun b o e => (e0.bs b o e).1
  have kinds : ∀ y ∈ ps.zip us, scope.names.lookup y.1 = some .local ∨ (scope.names.lookup y.1 = some .cell ∧ ((cellsFrom (s.heap.objs.size + 1) scope.names []).lookup y.1).isSome = true) := by
    rintro ⟨n, v⟩ hy
    exact (S.par n (List.of_mem_zip hy).1).elim .inl fun q => .inr ⟨q, PySem.W.cellsFrom_some _ _ _ (.inl q)⟩
  refine codeAny_call_function hr.depth (inK _ _ lk) rfl S.co S.gen rfl (PySem.W.codeRec_of inK hcd) (hb _ _ _ _ ?_)
  refine wpAny_newFunctionEnv_cells S.kind kinds fun env he s1 x => ?_
  subst he
  refine ⟨noLim.keeps x.toInCall.keep, codeAny_func ?_⟩
  have I : Inv (cxOf (fun _ _ _ _ _ _ => False) P w K mg base N qual scope f cdv A outer s H (fun _ _ _ => False)) [] (start N vs) H s1 := inv_start S hr.hd e0 hl r x
  refine wpAny_mono (hbody A outer s H vs (hr.deeper _) hpre s1 I) (fun fl s' hs => ?_) fun e s' hs => wpAny_mono hs (fun _ _ z => z.elim) fun _ _ z => z.elim
  obtain ⟨rfl, σ', J⟩ := hs
  exact ⟨rfl, J.os, J.bare, J.base, J.hok⟩
/-- if c: return NotImplemented, where c is so -/
theorem noB_if {X : Cx} {c : Expr} {rest b : List Stmt} {pos rp np : Pos} {tc : TT} {σ : L2.St} {H : Hp} (hc : PT X c tc) (hg : Gl X "NotImplemented") (hm : X.mg "NotImplemented" = none) (h : tc σ H fun b H' => b = true ∧ H' = H) :
    NoB X (.If c [.Return (some (.Name "NotImplemented" np)) rp] b pos :: rest) σ H := fun s I => by
  refine wpAny_execs_cons (thn (Q := fun fl s' => fl = .ret .notImplemented ∧ ∃ σ', Inv X [] σ' H s') ?_ fun fl s1 q => ?_)
  · refine wpAny_If (thn (hc.run [] s σ H _ I h) fun d s1 ⟨H1, I1, q1⟩ => ?_)
    obtain ⟨rfl, rfl⟩ := q1
    refine wpAny_execs_cons (thn (Q := fun fl s' => fl = .ret .notImplemented ∧ ∃ σ', Inv X [] σ' H1 s') ?_ fun fl s2 q => ?_)
    · exact wpAny_Return_some (ld_blt I1 hg hm (by rfl) ⟨rfl, σ, I1⟩ (by decide) (by decide))
    · obtain ⟨rfl, q⟩ := q
      exact ⟨rfl, q⟩
  · obtain ⟨rfl, q⟩ := q
    exact ⟨rfl, q⟩

/-! ### == and != where the own == answers NotImplemented to what is no instance -/
/-- the class C has an own == that answers NotImplemented where pre is so -/
structure OwnNo (X : Cx) (n : Nat) (C : Addr) (name : Str) (pre : List V → Hp → Prop) : Prop where
  ok : ∃ (f : Addr) (fd : FuncData) (ps : List Str), FnNo X.prog X.w X.K X.mg X.base n f fd ps pre ∧ Binds X.K fd ps [] ∧ PySem.W.findIn X.K (.ref C) name = some (some (.ref f)) ∧ PySem.W.isFn X.K (.ref f) = true
section
variable {X : Cx} {pins : List (Addr × Obj)} {σ : L2.St} {H : Hp} {s : Shared}
theorem call_no {n : Nat} {C : Addr} {name : Str} {pre : List V → Hp → Prop} {A : Around} {x y : V} {u v : Value} {E : Value → Shared → Prop} (o : OwnNo X n C name pre) (I : Inv X pins σ H s) (hr : Room n A)
    (e0 : Env0 X.prog X.w X.K X.mg X.base A X.stack s H) (rx : RelV x u) (ry : RelV y v) (q : pre [x, y] H) :
    ∃ f, PySem.W.findIn X.K (.ref C) name = some (some (.ref f)) ∧ PySem.W.isFn X.K (.ref f) = true ∧ wpAny (model X.prog X.w) A (call (.ref f) [u, v]) (fun r s' => r = .notImplemented ∧ Inv X pins σ H s') E s := by
  obtain ⟨f, fd, ps, F, hb, hs, hf⟩ := o.ok
  have hl : [x, y].length = ps.length := F.len _ _ q
  refine ⟨f, hs, hf, wpAny_call (codeAny_mono (F.run A X.stack s H ⟨[u, v], []⟩ [u, v] [x, y] hr e0 ?_ (.cons rx (.cons ry .nil)) q) fun r s2 hq => ?_)⟩
  · have := hb s [u, v] I.kIn (by simpa using hl)
    simpa using this
  · obtain ⟨rfl, os, bare, un, hok⟩ := hq
    obtain ⟨hh, g, d, t, os'⟩ := s2
    obtain rfl : os' = s.os := os
    exact ⟨rfl, I.call (h' := hh) (g' := g) (d' := d) (t' := t) (ch := []) un hok bare (fun b z => absurd z (by simp))⟩
theorem same_ins {y : V} {v T : Value} {a C dx : Addr} {fs : List (Str × V)} {A : Around} {M : Model} {E : Value → Shared → Prop} {R : Bool → Shared → Prop} (I : Inv X pins σ H s) (r : RelV y v) (k : NIns X.K H y T) (ha : H a = some (.ins C dx fs)) (h : R false s) :
    wpAny M A (isSame (.ref a) v) R E s := by
  obtain ⟨m1, J, _⟩ := ins_get I.hok ha
  obtain ⟨od, J, _⟩ := J.look
  have hnt : (PySem.W.instObj C dx).cls ≠ .type "tuple" := fun z => nomatch z
  have ne : ∀ {b : Addr} {o : Obj} {T : String}, s.heap.get? b = some o → o.cls = .type T → a ≠ b := fun {b o T} e1 e2 z => by
    subst z
    have e3 := J.at_.symm.trans e1
    injection e3 with e3
    subst e3
    cases e2
  cases k with
  | non => cases r; exact wpAny_of_eq (rfl : isSame (.ref a) .none = pure false) h
  | bl b => cases r; exact wpAny_of_eq (rfl : isSame (.ref a) (.bool b) = pure false) h
  | int i => obtain ⟨t, rfl⟩ := r; exact wpAny_of_eq (rfl : isSame (.ref a) (.int i t) = pure false) h
  | str z => obtain ⟨t, rfl⟩ := r; exact wpAny_of_eq (rfl : isSame (.ref a) (.str z t) = pure false) h
  | tup q =>
    cases r
    obtain ⟨its, _, pl, _⟩ := I.tuple q
    obtain ⟨o, h1, h2, _⟩ := id pl
    exact wpAny_isSame_ref_other (ne h1 h2) J.at_ h1 hnt h
  | lst q =>
    cases r
    obtain ⟨its, _, pl, _⟩ := I.list q
    obtain ⟨o, h1, h2, _⟩ := pl.isList
    exact wpAny_isSame_ref_other (ne h1 h2) J.at_ h1 hnt h
/-- an instance against what is none -/
def rEqNo (X : Cx) (neg : Bool) : R2 := fun x y H Q => ∃ a C dx fs T n pre, x = .ref a ∧ H a = some (.ins C dx fs) ∧ NIns X.K H y T ∧ PySem.W.notFirst X.K C T = true ∧ NoSeq X.K C ∧ OwnNo X n C "__eq__" pre ∧ Room (n + 1) X.A ∧ (neg = true → NeC X.K C) ∧ pre [x, y] H ∧ Q (.bl neg) H
theorem rfst {K : PySem.W.Frag} {C : Addr} {T : Value} (hn : PySem.W.notFirst K C T = true) (uneq : (Value.ref C != T) = true) : PySem.W.subIn K T (.ref C) = some false := by
  have two := Bool.or_eq_true_iff.mp hn
  refine two.elim (fun e => ?_) (fun e => beq_iff_eq.mp e)
  rw [beq_iff_eq.mp e] at uneq
  simp at uneq
theorem op_eqNo : OpR X (compareOp .Eq) (rEqNo X false) := by
  intro pn st s H x y v u Q I rx ry told
  obtain ⟨a, C, dx, fs, T, n, pre, rfl, ha, k, hn, ns, o, hr, _, hp, q⟩ := told
  have ev : v = Value.ref a := rx
  subst ev
  obtain ⟨m1, J, _⟩ := ins_get I.hok ha
  obtain ⟨od, J, _⟩ := J.look
  obtain ⟨f, hs, hf, hcall⟩ := call_no (E := X.xe) o I (hr.mono (Nat.le_succ n)) I.env0 rx ry hp
  have one : wpAny (model X.prog X.w) X.A (tryCompare (.ref a) "__eq__" u) (fun r s' => r = none ∧ Inv X pn s H s') X.xe st := by
    unfold tryCompare
    refine wpAny_bind (PySem.W.ifBound_K I.kIn J hs hf (wpAny_mono hcall (fun r s' z => ?_) fun _ _ e => e))
    obtain ⟨rfl, z⟩ := z
    exact wpAny_pure ⟨rfl, z⟩
  have fin : ∀ s', Inv X pn s H s' → wpAny (model X.prog X.w) X.A (isSame (.ref a) u >>= fun b => pure (Value.bool b)) (EP X pn s Q) X.xe s' := fun s' I' =>
    wpAny_bind (same_ins I' ry k ha (wpAny_pure ⟨.bl false, H, I', rfl, q⟩))
  have rest : wpAny (model X.prog X.w) X.A (tryCompare (.ref a) "__eq__" u) (fun r s' => r = none ∧ wpAny (model X.prog X.w) X.A (tryCompare u "__eq__" (.ref a)) (fun r s' => r = none ∧ Inv X pn s H s') X.xe s') X.xe st :=
    thn one fun r s' ⟨e, I'⟩ => ⟨e, thn (back_eq I' ry k ha ns) fun r2 s2 ⟨e2, e3⟩ => ⟨e2, e3 ▸ I'⟩⟩
  show wpAny _ X.A (richCompare .Eq (.ref a) u) (EP X pn s Q) X.xe st
  unfold richCompare
  simp only [oneThing_ref]
  refine wpAny_holding (wpAny_bind (wpAny_cRoomFor (hr.units0) ?_))
  rw [cmpInfo_Eq]
  dsimp only
  refine wpAny_bind (J.type.here (wpAny_bind ((looks_ty I ry k.kty).here ?_)))
  split
  · rename_i uneq
    refine wpAny_bind ((PySem.W.looks_subIn I.kIn (rfst hn uneq)).here ?_)
    simp only [Bool.false_eq_true, if_false, Bool.not_false, if_true]
    refine wpAny_bind (m := tryCompare (.ref a) _ u) (thn rest fun r s1 z => ?_)
    obtain ⟨rfl, z⟩ := z
    refine wpAny_bind (m := tryCompare u _ (.ref a)) (thn z fun r s2 z2 => ?_)
    obtain ⟨rfl, I2⟩ := z2
    exact wpAny_bind (wpAny_rule (fin _ I2))
  · refine wpAny_bind (wpAny_pure ?_)
    simp only [Bool.false_eq_true, if_false, Bool.not_false, if_true]
    refine wpAny_bind (m := tryCompare (.ref a) _ u) (thn rest fun r s1 z => ?_)
    obtain ⟨rfl, z⟩ := z
    refine wpAny_bind (m := tryCompare u _ (.ref a)) (thn z fun r s2 z2 => ?_)
    obtain ⟨rfl, I2⟩ := z2
    exact wpAny_bind (wpAny_rule (fin _ I2))

theorem entry_neNo {A : Around} {C x : Addr} {ox : Obj} {od : Option Obj} {f : Addr} {b : Value} {E : Value → Shared → Prop} {W : Shared → Prop} (hu : A.units < cLine) (J : PySem.W.InstAt s.heap x ox C od) (kx : X.K.In s.heap)
    (hs : PySem.W.findIn X.K (.ref C) "__eq__" = some (some (.ref f))) (hf : PySem.W.isFn X.K (.ref f) = true)
    (h : wpAny (model X.prog X.w) A (call (.ref f) [.ref x, b]) (fun v s' => v = .notImplemented ∧ W s') E s) : wpAny (model X.prog X.w) A (Builtin.«object.__ne__» ⟨[.ref x, b], []⟩) (fun fin s' => fin = .done (.ret .notImplemented) ∧ W s') E s := by
  delta Builtin.«object.__ne__»; repeat (first
    | (with_reducible refine wpAny_cRoomFor hu ?_)
    | (refine wpAny_bind (m := callSpecialIfBound? (.ref x) (Str.ofString "__eq__") [b]) (PySem.W.ifBound_K kx J hs hf (wpAny_mono h (fun r s' hr => ?_) fun _ _ e => e))
       obtain ⟨rfl, hq⟩ := hr
       repeat (first | exact ⟨rfl, hq⟩ | exact wpAny_pure ⟨rfl, hq⟩ | wp_step))
    | wp_step)
theorem call_neNo {A : Around} {C x : Addr} {ox : Obj} {od : Option Obj} {f : Addr} {b : Value} {E : Value → Shared → Prop} {W : Shared → Prop} (hu : A.units + 1 < cLine) (J : PySem.W.InstAt s.heap x ox C od) (kx : X.K.In s.heap) (hm : PySem.W.mroIn X.K C (.type "object") = some true)
    (hs : PySem.W.findIn X.K (.ref C) "__eq__" = some (some (.ref f))) (hf : PySem.W.isFn X.K (.ref f) = true)
    (h : wpAny (model X.prog X.w) A.in1 (call (.ref f) [.ref x, b]) (fun v s' => v = .notImplemented ∧ W s') E s) : wpAny (model X.prog X.w) A (call (.builtin "object.__ne__") [.ref x, b]) (fun r s' => r = .notImplemented ∧ W s') E s := by
  refine wpAny_call (codeAny_call_builtin F.cmp_object.ne.plain F.cmpEntry_ne (PySem.W.check_slot F.cmpKind_ne F.cmpSplit_ne (J.type.andThen (PySem.W.looks_mroIn kx hm)) (F.cmpArgs_ne _ _) ?_))
  refine thn (entry_neNo (A := A.in1) hu J kx hs hf h) fun fin s' z => ?_
  obtain ⟨rfl, z⟩ := z
  exact ⟨rfl, z⟩
theorem op_neNo : OpR X (compareOp .NotEq) (rEqNo X true) := by
  intro pn st s H x y v u Q I rx ry told
  obtain ⟨a, C, dx, fs, T, n, pre, rfl, ha, k, hn, ns, o, hr, hne, hp, q⟩ := told
  have hne := hne rfl
  have ev : v = Value.ref a := rx
  subst ev
  obtain ⟨m1, J, _⟩ := ins_get I.hok ha
  obtain ⟨od, J, _⟩ := J.look
  obtain ⟨f, hs, hf, hcall⟩ := call_no (E := X.xe) o I hr.in1 I.env0.in1 rx ry hp
  have hu : X.A.units + 1 < cLine := hr.in1.units0
  have one : wpAny (model X.prog X.w) X.A (tryCompare (.ref a) "__ne__" u) (fun r s' => r = none ∧ Inv X pn s H s') X.xe st := by
    unfold tryCompare
    refine wpAny_bind (bound_ne I.kIn J hne.ne (thn (call_neNo hu J I.kIn hne.mro hs hf hcall) fun r s' z => ?_))
    obtain ⟨rfl, z⟩ := z
    exact wpAny_pure ⟨rfl, z⟩
  have fin : ∀ s', Inv X pn s H s' → wpAny (model X.prog X.w) X.A (isSame (.ref a) u >>= fun b => pure (Value.bool (!b))) (EP X pn s Q) X.xe s' := fun s' I' =>
    wpAny_bind (same_ins I' ry k ha (wpAny_pure ⟨.bl true, H, I', rfl, q⟩))
  have rest : wpAny (model X.prog X.w) X.A (tryCompare (.ref a) "__ne__" u) (fun r s' => r = none ∧ wpAny (model X.prog X.w) X.A (tryCompare u "__ne__" (.ref a)) (fun r s' => r = none ∧ Inv X pn s H s') X.xe s') X.xe st :=
    thn one fun r s' ⟨e, I'⟩ => ⟨e, thn (back_ne I' ry k ha ns) fun r2 s2 ⟨e2, e3⟩ => ⟨e2, e3 ▸ I'⟩⟩
  show wpAny _ X.A (richCompare .NotEq (.ref a) u) (EP X pn s Q) X.xe st
  unfold richCompare
  simp only [oneThing_ref]
  refine wpAny_holding (wpAny_bind (wpAny_cRoomFor (hr.units0) ?_))
  rw [cmpInfo_NotEq]
  dsimp only
  refine wpAny_bind (J.type.here (wpAny_bind ((looks_ty I ry k.kty).here ?_)))
  split
  · rename_i uneq
    refine wpAny_bind ((PySem.W.looks_subIn I.kIn (rfst hn uneq)).here ?_)
    simp only [Bool.false_eq_true, if_false, Bool.not_false, if_true]
    refine wpAny_bind (m := tryCompare (.ref a) _ u) (thn rest fun r s1 z => ?_)
    obtain ⟨rfl, z⟩ := z
    refine wpAny_bind (m := tryCompare u _ (.ref a)) (thn z fun r s2 z2 => ?_)
    obtain ⟨rfl, I2⟩ := z2
    exact wpAny_bind (wpAny_rule (fin _ I2))
  · refine wpAny_bind (wpAny_pure ?_)
    simp only [Bool.false_eq_true, if_false, Bool.not_false, if_true]
    refine wpAny_bind (m := tryCompare (.ref a) _ u) (thn rest fun r s1 z => ?_)
    obtain ⟨rfl, z⟩ := z
    refine wpAny_bind (m := tryCompare u _ (.ref a)) (thn z fun r s2 z2 => ?_)
    obtain ⟨rfl, I2⟩ := z2
    exact wpAny_bind (wpAny_rule (fin _ I2))
/-! ### +, < and the truth, by own defs -/
/-- x + y, both of the class at C -/
def rAddO (X : Cx) : R2 := fun x y H Q => ∃ a b C dx fs dy gs CX n sp E, x = .ref a ∧ H a = some (.ins C dx fs) ∧ y = .ref b ∧ H b = some (.ins C dy gs) ∧ PySem.W.selfFirst X.K C = true ∧ OwnM X CX n C "__add__" sp E ∧ Room n X.A ∧ sp [x, y] H Q E
theorem op_addO : OpR X (binaryOp .Add) (rAddO X) := by
  intro pn st s H x y v u Q I rx ry told
  obtain ⟨a, b, C, dx, fs, dy, gs, CX, n, sp, E, rfl, ha, rfl, hb, hc, o, hr, q⟩ := told
  have ev : v = Value.ref a := rx
  have eu : u = Value.ref b := ry
  subst ev eu
  obtain ⟨m1, J, _⟩ := ins_get I.hok ha
  obtain ⟨od, J, _⟩ := J.look
  obtain ⟨m2, J2, _⟩ := ins_get I.hok hb
  obtain ⟨od2, J2, _⟩ := J2.look
  obtain ⟨m, hF⟩ := I.fr
  obtain ⟨f, hs, hf, hcall⟩ := call_own2 o I hr I.env0 rx ry q
  refine PySem.W.binop_K (op := .Add) hF I.ok.mod.kin J J2.type hc hs hf (thn hcall fun r s' z => ?_)
  obtain ⟨z2, H2, I2, rz, qz⟩ := z
  exact SlX.cmpback rz ⟨z2, H2, I2, rz, qz⟩
/-- x < y, y of no class below -/
def rLtO (X : Cx) : R2 := fun x y H Q => ∃ a C dx fs T CX n sp E, x = .ref a ∧ H a = some (.ins C dx fs) ∧ KTy X.K H y T ∧ PySem.W.notFirst X.K C T = true ∧ OwnM X CX n C "__lt__" sp E ∧ Room n X.A ∧ sp [x, y] H Q E
theorem op_ltO : OpR X (compareOp .Lt) (rLtO X) := by
  intro pn st s H x y v u Q I rx ry told
  obtain ⟨a, C, dx, fs, T, CX, n, sp, E, rfl, ha, k, hn, o, hr, q⟩ := told
  have ev : v = Value.ref a := rx
  subst ev
  obtain ⟨m1, J, _⟩ := ins_get I.hok ha
  obtain ⟨od, J, _⟩ := J.look
  obtain ⟨m, hF⟩ := I.fr
  obtain ⟨f, hs, hf, hcall⟩ := call_own2 o I hr I.env0 rx ry q
  show wpAny (model X.prog X.w) X.A (richCompare .Lt (.ref a) u) (EP X pn s Q) X.xe st
  refine PySem.W.cmp_K (op := .Lt) (tb := T) hr.units0 hF I.ok.mod.kin J (looks_ty I ry k) hn hs hf (thn hcall fun r s' z => ?_)
  obtain ⟨z2, H2, I2, rz, qz⟩ := z
  exact SlX.cmpback rz ⟨z2, H2, I2, rz, qz⟩
/-- the truth of an instance by its own __bool__ -/
def truO (X : Cx) (x : V) (H : Hp) (Q : Bool → Hp → Prop) : Prop := ∃ a C dx fs CX n sp E, x = .ref a ∧ H a = some (.ins C dx fs) ∧ OwnM X CX n C "__bool__" sp E ∧ Room (n + 2) X.A ∧ sp [x] H (fun v H' => ∃ b, v = .bl b ∧ Q b H') E
theorem truthy_O {A : Around} {v : Value} {Q : Bool → Shared → Prop} {a C dx : Addr} {fs : List (Str × V)} {CX : CXT} {n : Nat} {sp : Sp} {E : XK} (I : Inv X pins σ H s) (rx : RelV (.ref a) v) (ha : H a = some (.ins C dx fs)) (o : OwnM X CX n C "__bool__" sp E) (hr : Room n A)
    (e0 : Env0 X.prog X.w X.K X.mg X.base A X.stack s H) {Qb : Bool → Hp → Prop} (q : sp [.ref a] H (fun v H' => ∃ b, v = .bl b ∧ Qb b H') E) (hq : ∀ b H' s', Inv X pins σ H' s' → Qb b H' → Q b s') : wpAny (model X.prog X.w) A (truthy v) Q X.xe s := by
  have ev : v = Value.ref a := rx
  subst ev
  obtain ⟨m1, J, _⟩ := ins_get I.hok ha
  obtain ⟨od, J, _⟩ := J.look
  obtain ⟨m, hF⟩ := I.fr
  obtain ⟨f, hs, hf, hcall⟩ := call_own1 o I hr e0 rx q
  refine PySem.W.truthy_K hF I.ok.mod.kin J hs hf (thn hcall fun r s' z => ?_)
  obtain ⟨z2, H2, I2, rz, b, rfl, qz⟩ := z
  cases rz
  exact hq _ _ _ I2 qz
theorem pt_truO {a : Expr} {ta : TE} (ha : PE X a ta) (he : ∀ whole, isTrue a X.env whole = (do let v ← whole; standAt a.pos; holding [v] (truthy v))) :
    PT X a (fun σ H Q => ta σ H fun x H' => truO X x H' Q) := by
  refine ⟨fun pins s σ H Q I h => ?_⟩
  rw [he]
  refine wpAny_bind (thn (ha.run pins s σ H _ I h) fun v s1 ⟨x, H1, I1, r1, q1⟩ => ?_)
  refine wpAny_bind (wpAny_standAt (wpAny_holding ?_))
  obtain ⟨a, C, dx, fs, CX, n, sp, E, rfl, ha, o, hr, q⟩ := q1
  exact truthy_O I1 r1 ha o (hr.mono (Nat.le_add_right n 2)) I1.env0 q fun b H' s' I' z => ⟨H', I', z⟩

theorem new_boolO {A : Around} {x : Addr} {W : Bool → Shared → Prop} {E : Value → Shared → Prop} (h : wpAny (model X.prog X.w) A (truthy (.ref x)) W E s) :
    wpAny (model X.prog X.w) A (Builtin.«bool.__new__» ⟨[.type "bool", .ref x], []⟩) (fun fin s' => ∃ b, fin = .done (.ret (.bool b)) ∧ W b s') E s := by
  obtain ⟨hp, g, d, tk, os⟩ := s
  have f1 := F.conv_sub_bool
  have h' : wpAny (model X.prog X.w) A (truthy (.ref x)) (fun b s' => wpAny (model X.prog X.w) A (ret (.bool b)) (fun fin s' => ∃ b, fin = .done (.ret (.bool b)) ∧ W b s') E s') E ⟨hp, g, d, tk, os⟩ :=
    thn h fun b s' z => wpAny_pure ⟨b, rfl, z⟩
  repeat (any_goals (first | exact wpAny_bind h' | assumption | wp_step))
/-- bool(x) of an instance, by its own __bool__ -/
theorem call_boolO : CallR X (.type "bool") (fun xs H Q => ∃ x, xs = [x] ∧ truO X x H (fun b H' => Q (.bl b) H')) := by
  intro pn st s H xs us Q I r told
  obtain ⟨x, rfl, a, C, dx, fs, CX, n, sp, E, rfl, ha, o, hr, q⟩ := told
  obtain ⟨u, rfl, ru⟩ := vals1 r
  cases ru
  have tr : wpAny (model X.prog X.w) X.A.in1.in1 (truthy (.ref a)) (fun b s' => EP X pn s Q (.bool b) s') X.xe st :=
    truthy_O I rfl ha o hr.in1.in1 I.env0.in1.in1 q fun b H' s' I' z => ⟨.bl b, H', I', rfl, z⟩
  have two := new_boolO tr
  obtain ⟨c, tl, hmro⟩ := F.called_bool.mro
  have hmade := F.called_bool.made
  have hsub := F.called_bool.sub
  have h1 := F.called_bool.notType
  have h2 := F.called_bool.canCreate
  refine wpAny_call (codeAny_of_tree ?_)
  show wpAny _ _ (callAny (.type "bool") _) _ _ _
  refine wpAny_pure ⟨Code.quiet_builtin _ (by decide +kernel), codeAny_builtin F.entry_type_call ?_⟩
  rw [Around.under_plain (weight_type_call_type "bool" _ []) (units_type_call_type "bool" _ [])]
  repeat (any_goals (first | assumption | wp_step))
  have mid : codeAny (model X.prog X.w) X.A.in1 (.call (.builtin "bool.__new__") ⟨[.type "bool", .ref a], []⟩) (fun r s' => match r with | .ok (.ret v) => (∃ b, v = .bool b) ∧ EP X pn s Q v s' | .ok _ => False | .error e => X.xe e s') st := by
    refine codeAny_call_builtin F.called_bool.plain F.entry_bool_new (wpAny_of_eq (F.newCall_bool_1 _) (thn two fun fin s' z => ?_))
    obtain ⟨b, rfl, z⟩ := z
    exact ⟨⟨b, rfl⟩, z⟩
  refine codeAny_mono mid fun r2 s1 z => ?_
  cases r2 with
  | error e => exact z
  | ok fl =>
    cases fl with
    | ret ob =>
      obtain ⟨⟨b, rfl⟩, z⟩ := z
      have hT : s1.TypeIs (.bool b) "bool" := rfl
      have hli := F.called_bool.init.lookup
      have hbi := F.called_bool.init.bind (.bool b)
      repeat (any_goals (first | assumption | wp_step))
      refine codeAny_mono (codeAny_call_builtin F.called_bool.init.plain F.entry_object_init (F.called_bool.init.check _ _ _ _ _ _ _ _ hT (F.args_object_init_2 _ _) (object_init_meets F.called_bool.init.lookup F.called_bool.made F.newNe_bool X.prog X.w _ (wants (fun r s₂ => r = .none ∧ EP X pn s Q (.bool b) s₂) X.xe) s1 ⟨hT, rfl, z⟩))) fun r₂ s₂ hr₂ => ?_
      cases r₂ with
      | error e => exact hr₂
      | ok fl2 =>
        cases fl2 with
        | ret r =>
          obtain ⟨rfl, z2⟩ := hr₂
          repeat (any_goals (first | assumption | wp_step))
        | _ => exact hr₂.elim
    | _ => exact z.elim
end
end OwnC

end

section
namespace OwnC
open PySem L2 PySem.Spec PyProof.Rows
/-! ### a staticmethod, called by its class -/
structure SMet (K : PySem.W.Frag) (C : Addr) (mc : Value) (m : Str) (p g : Addr) : Prop where
  at_ : PySem.W.findCls K (.ref C) mc m = some (.get (.builtin "staticmethod.__get__") (.ref p) .none (.ref C))
  rc : ∃ rest, PySem.W.recIn K p "staticmethod" = some (.ref g :: rest)
  kp : PySem.W.keepIn K (.ref g) = true
def tSM (C : Addr) (sp : Sp) (E : XK) (ta : TE) : TE := fun σ H Q => ta σ H fun x H1 => x = .ref C ∧ sp [] H1 Q E
theorem rd_sm {C : Addr} {sp : Sp} {E : XK} {ta : TE} {σ : L2.St} {H : Hp} {Q : VK} (h : ta σ H fun x H1 => x = .ref C ∧ sp [] H1 Q E) : tSM C sp E ta σ H Q := h
section
variable {X : Cx} {CX : CXT} {k : Nat} {C p g : Addr} {mc : Value} {sp : Sp} {E : XK} {o : Expr} {m : Str} {pos apos : Pos} {ta : TE} {pl : Sem Bool} {fd : FuncData}
theorem pe_sm0 (he : PE X o ta) (r : ClX.CRead X.K C mc) (c : SMet X.K C mc m p g) (F : FnOk X.prog X.w X.K X.mg X.base CX k g fd [] sp) (hb : Binds X.K fd [] []) (hr : Room k X.A) (hx : Passes CX X E)
    (ht : eval (.Call (.Attribute o m apos) [] [] pos) X.env = (do
      let ov ← eval o X.env
      standAt apos.atName
      let (f, first) ← holding [ov] (getMethod ov m pl)
      callWith pos f first (backTo pos (starEach [] X.env)) (backToKw pos (keywordEach [] X.env))) := by rfl) :
    PE X (.Call (.Attribute o m apos) [] [] pos) (tSM C sp E ta) := by
  refine ⟨fun pins s σ H Q I h => ?_⟩
  refine PySem.W.methodCall_KW (pl := pl) (thn (he.run pins s σ H _ I h) fun u s1 ⟨x, H1, I1, rx, ex, q⟩ => ?_) ht
  subst ex
  obtain rfl : u = Value.ref C := rx
  obtain ⟨rest, hp⟩ := c.rc
  refine PySem.W.method_cls I1.kIn r.ga (PySem.W.cls_bind I1.kIn r.rd c.at_ (wpAny_call (PySem.W.sm_get (s := { s1 with toks := s1.toks + 1 }) I1.kIn hp (PySem.W.handed_on rfl ?_))))
  have I2 : Inv X pins σ H1 { s1 with toks := s1.toks + 1 } := I1.tok _
  exact PySem.W.callWith_K0 I2.kIn c.kp (run_fn (us := []) (ds := []) (dvs := []) F hr hb .nil hx I2 .nil q)
end
end OwnC

end

section
namespace OwnC
open PySem L2 PySem.Spec PyProof.Rows
section
variable {X : Cx} {a : Expr} {ta : TE} {pos : Pos}
def tNotO (X : Cx) (ta : TE) : TE := fun σ H Q => ta σ H fun x H' => truO X x H' fun b H2 => Q (.bl (!b)) H2
theorem pe_notO (ha : PE X a ta) : PE X (.UnaryOp .Not a pos) (tNotO X ta) := by
  refine ⟨fun pins s σ H Q I h => ?_⟩
  refine UnaryOp_ (thn (ha.run pins s σ H _ I h) fun v s1 ⟨x, H1, I1, r1, q1⟩ => ?_)
  obtain ⟨a, C, dx, fs, CX, n, sp, E, rfl, ha, o, hr, q⟩ := q1
  exact not_of (truthy_O I1 r1 ha o (hr.mono (Nat.le_add_right n 2)) I1.env0 q fun b H' s' I' z => ⟨.bl (!b), H', I', rfl, z⟩)
end
theorem rd_notO {X : Cx} {ta : TE} {σ : L2.St} {H : Hp} {Q : VK} (h : ta σ H fun x H' => truO X x H' fun b H2 => Q (.bl (!b)) H2) : tNotO X ta σ H Q := h
end OwnC
namespace Lay
open PySem PySem.Spec PyProof.Rows L2 Exv Grd
/-! ### numbers of rounds, or none -/
def Num (m : Int) (v : V) : Prop := v = .non ∨ ∃ i : Int, v = .int i ∧ 0 ≤ i ∧ i ≤ m
theorem Num.le {m n : Int} {v : V} (h : Num m v) (e : m ≤ n) : Num n v := by
  rcases h with rfl | ⟨i, rfl, h0, h1⟩
  · exact .inl rfl
  · exact .inr ⟨i, rfl, h0, by omega⟩
theorem num_non : Num 0 .non := .inl rfl
theorem num_zero : Num 0 (.int 0) := .inr ⟨0, rfl, by decide, by decide⟩
theorem Num.leaf {m : Int} {v : V} (h : Num m v) : isLeaf v = true := by
  rcases h with rfl | ⟨i, rfl, _⟩ <;> rfl
theorem log_num {i : Int} (h0 : 0 ≤ i) (h1 : i ≤ 4000000000) : i.natAbs.log2 < 32 := by
  by_cases e : i.natAbs = 0
  · rw [e]; decide
  · exact (Nat.log2_lt e).mpr (by omega)
theorem Num.show {v : V} (h : Num 4000000000 v) : (leafD v).showable = true := by
  rcases h with rfl | ⟨i, rfl, h0, h1⟩
  · rfl
  · show decide (i.natAbs.log2 < 1920) = true
    exact decide_eq_true (Nat.lt_trans (log_num h0 h1) (by decide))
theorem Num.short {v : V} (h : Num 4000000000 v) : (leafD v).intsShort 13 = true := by
  rcases h with rfl | ⟨i, rfl, h0, h1⟩
  · rfl
  · show decide (((Str.ofString (toString i)) : Str).length ≤ 13) = true
    refine decide_eq_true ?_
    rw [PySem.ofString_length]
    have := int_text_length_le10 (a := i) (k := 10) (by decide) (by omega)
    omega
theorem Num.lay {v : V} (h : Num 4000000000 v) : (leafD v).canLay0 = true ∧ (leafD v).depth ≤ 1 ∧ (leafD v).weight ≤ 40 := by
  rcases h with rfl | ⟨i, rfl, h0, h1⟩
  · exact ⟨rfl, by decide, by decide⟩
  · refine ⟨rfl, ?_, ?_⟩
    · simp [leafD, PyData.depth]
    · simp [leafD, PyData.weight]
      have := log_num h0 h1
      split <;> omega
theorem shown_num {v : V} (h : Num 4000000000 v) : (leafD v).shown.length ≤ sizeLine := by
  refine Nat.le_trans (PyProof.Rows.shown_le13 ?_ h.short) (by rw [sizeLine_eq]; decide)
  obtain ⟨h1, h2, h3⟩ := h.lay
  unfold PyData.layable0
  rw [h1, decide_eq_true (by omega : PyData.depth (leafD v) ≤ 64), decide_eq_true (by omega : PyData.weight (leafD v) ≤ 2 ^ 20)]
  rfl
theorem rd_reprN {K : PySem.W.Frag} {H : Hp} {Q : VK} {v : V} (h : Num 4000000000 v) (q : Q (.str (leafD v).shown) H) : rRepr K [v] H Q :=
  rd_repr (.of (leaf_dp h.leaf)) h.show (shown_num h) (by have := h.lay.2.1; omega) q
theorem rd_reprNN {K : PySem.W.Frag} {H : Hp} {Q : VK} {a : Addr} {v u : V} (e : SqL K H a [v, u]) (h : Num 4000000000 v) (h' : Num 4000000000 u) (q : Q (.str (PyData.list [leafD v, leafD u]).shown) H) : rRepr K [.ref a] H Q := by
  obtain ⟨h1, h2, h3⟩ := h.lay
  obtain ⟨g1, g2, g3⟩ := h'.lay
  have dd : (PyData.list [leafD v, leafD u]).depth ≤ 3 := by simp only [PyData.depth, PyData.depthAll]; omega
  have ww : (PyData.list [leafD v, leafD u]).weight ≤ 200 := by simp only [PyData.weight, PyData.weightAll]; omega
  refine rd_repr (d := .list [leafD v, leafD u]) (.of (.lst e (.cons (leaf_dp h.leaf) (.cons (leaf_dp h'.leaf) .nil)))) ?_ ?_ (by omega) q
  · show ((leafD v).showable && ((leafD u).showable && true)) = true
    rw [h.show, h'.show]; rfl
  · refine Nat.le_trans (PyProof.Rows.shown_le13 ?_ ?_) (by rw [sizeLine_eq]; decide)
    · have c : (PyData.list [leafD v, leafD u]).canLay0 = true := by simp only [PyData.canLay0, PyData.canLayAll0, h1, g1, Bool.and_self]
      unfold PyData.layable0
      rw [c, decide_eq_true (by omega : PyData.depth (.list [leafD v, leafD u]) ≤ 64), decide_eq_true (by omega : PyData.weight (.list [leafD v, leafD u]) ≤ 2 ^ 20)]
      rfl
    · show ((leafD v).intsShort 13 && ((leafD u).intsShort 13 && true)) = true
      rw [h.short, h'.short]; rfl
def sumV : V → V → V
  | .int i, .int j => .int (i + j)
  | _, _ => .non
def rankI : V → List Int
  | .int i => [0, i]
  | _ => [1, 0]
def lessV : V → V → Bool
  | .int _, .non => true
  | .int i, .int j => decide (i < j)
  | _, _ => false
theorem less_rank {m n : Int} {v u : V} (h : Num m v) (g : Num n u) : HT.lexLt (rankI v) (rankI u) = lessV v u := by
  rcases h with rfl | ⟨i, rfl, _⟩ <;> rcases g with rfl | ⟨j, rfl, _⟩
  · rfl
  · rfl
  · rfl
  · show (if (0 : Int) = 0 then (if i = j then HT.lexLt [] [] else decide (i < j)) else decide ((0 : Int) < 0)) = decide (i < j)
    rw [if_pos rfl]
    by_cases e : i = j
    · rw [if_pos e, e]
      show false = _
      rw [decide_eq_false (by omega)]
    · rw [if_neg e]
theorem eq_rank {m n : Int} {v u : V} (h : Num m v) (g : Num n u) : decide (rankI v = rankI u) = decide (v = u) := by
  rcases h with rfl | ⟨i, rfl, _⟩ <;> rcases g with rfl | ⟨j, rfl, _⟩
  · rw [decide_eq_true rfl, decide_eq_true rfl]
  · rw [decide_eq_false (by intro z; cases z), decide_eq_false (by intro z; cases z)]
  · rw [decide_eq_false (by intro z; cases z), decide_eq_false (by intro z; cases z)]
  · by_cases e : i = j
    · subst e
      rw [decide_eq_true rfl, decide_eq_true rfl]
    · rw [decide_eq_false (fun z => e (by injection z with _ z; injection z)), decide_eq_false (fun z => e (by injection z))]
theorem Num.sum {m n : Int} {v u : V} (h : Num m v) (g : Num n u) : Num (m + n) (sumV v u) := by
  rcases h with rfl | ⟨i, rfl, h0, h1⟩ <;> rcases g with rfl | ⟨j, rfl, g0, g1⟩
  · exact .inl rfl
  · exact .inl rfl
  · exact .inl rfl
  · exact .inr ⟨i + j, rfl, by omega, by omega⟩
theorem scal_num {m n : Int} {v u : V} (h : Num m v) (g : Num n u) : scal v u = true := by
  rcases h with rfl | ⟨i, rfl, _⟩ <;> rcases g with rfl | ⟨j, rfl, _⟩ <;> rfl
theorem nf_self {K : PySem.W.Frag} {C : Addr} : PySem.W.notFirst K C (.ref C) = true := by
  unfold PySem.W.notFirst
  simp
theorem nf_sub {K : PySem.W.Frag} {C : Addr} {T : Value} (h : PySem.W.subIn K T (.ref C) = some false) : PySem.W.notFirst K C T = true := by
  unfold PySem.W.notFirst
  rw [h]
  simp
theorem sum_zero {m : Int} {v : V} (h : Num m v) : sumV v (.int 0) = v := by
  rcases h with rfl | ⟨i, rfl, _⟩
  · rfl
  · show V.int (i + 0) = _
    rw [Int.add_zero]
/-! ### lags -/
def lagF (v w : V) : List (Str × V) := [("rounds", v), ("_rank", w)]
theorem putF_lag (v w : V) : putF "_rank" w (putF "rounds" v []) = lagF v w := by
  have h : ¬ (("rounds" : Str) = "_rank") := by decide +kernel
  show (if ("rounds" : Str) = "_rank" then _ else (("rounds" : Str), v) :: putF "_rank" w []) = _
  rw [if_neg h]
  rfl
def LagAt (C : Addr) (H : Hp) (x : Addr) (v : V) : Prop := ∃ dx t, H x = some (.ins C dx (lagF v (.ref t))) ∧ H t = some (.tup ((rankI v).map V.int))
theorem LagAt.mono {C : Addr} {H H' : Hp} {x : Addr} {v : V} (s : Same H H') (h : LagAt C H x v) : LagAt C H' x v := by
  obtain ⟨dx, t, e1, e2⟩ := h
  exact ⟨dx, t, s _ _ e1, s _ _ e2⟩
theorem rd_par {i j : Nat} {ta : TA} {D : Ends} {σ : L2.St} {H : Hp} (h : ta σ H fun vs H1 => ∃ v w, vs = [v, w] ∧ D.nx ((σ.set i (some v)).set j (some w)) H1) : tPar i j ta D σ H := h
def spLagInit (C : Addr) : Sp := fun vs H Q _ => ∃ x dx v m, vs = [.ref x, v] ∧ H x = some (.ins C dx []) ∧ Num m v ∧ ∀ H', LagAt C H' x v → Keep x H H' → Q .non H'
/-- a lag comes of it -/
def GetLag (C : Addr) (v : V) (H : Hp) (Q : VK) : Prop := ∀ x H', Same H H' → LagAt C H' x v → Q (.ref x) H'
def spLagNone (C : Addr) : Sp := fun vs H Q _ => vs = [] ∧ GetLag C .non H Q
def spLagAdd (C : Addr) : Sp := fun vs H Q _ => ∃ a b v u m n, vs = [.ref a, .ref b] ∧ LagAt C H a v ∧ LagAt C H b u ∧ Num m v ∧ Num n u ∧ GetLag C (sumV v u) H Q
def spLagEq (C : Addr) : Sp := fun vs H Q _ => ∃ a b v u m n, vs = [.ref a, .ref b] ∧ LagAt C H a v ∧ LagAt C H b u ∧ Num m v ∧ Num n u ∧ Q (.bl (decide (v = u))) H
def spLagLt (C : Addr) : Sp := fun vs H Q _ => ∃ a b v u m n, vs = [.ref a, .ref b] ∧ LagAt C H a v ∧ LagAt C H b u ∧ Num m v ∧ Num n u ∧ Q (.bl (lessV v u)) H
def spLagBool (C : Addr) : Sp := fun vs H Q _ => ∃ a v m, vs = [.ref a] ∧ LagAt C H a v ∧ Num m v ∧ Q (.bl (!decide (v = .non))) H
def preNo (K : PySem.W.Frag) (C : Addr) : List V → Hp → Prop := fun vs H => ∃ a y T, vs = [.ref a, y] ∧ TyX K H y T ∧ PySem.W.kitOne K T (.ref C) = some false
def spNumber : Sp := fun vs H Q _ => ∃ (p : Addr) (n : Nat) (c : Addr), vs = [.ref p] ∧ PenAt c H p n ∧ n + 4 < 100000 ∧ ∀ v H', Num 1000000010 v → PenAt c H' p (n + 4) → Keep p H H' → Q v H'
def spSumV : Sp := fun vs H Q _ => ∃ v u m n, vs = [v, u] ∧ Num m v ∧ Num n u ∧ Q (sumV v u) H
def spLessV : Sp := fun vs H Q _ => ∃ v u m n, vs = [v, u] ∧ Num m v ∧ Num n u ∧ Q (.bl (lessV v u)) H
theorem mk_lag {C : Addr} {H : Hp} {v : V} {m : Int} {Q : Addr → Hp → Prop} {E : XK} (hv : Num m v) (q : ∀ x H', Same H H' → LagAt C H' x v → Q x H') : ∀ x dx, H x = none → H dx = none → dx ≠ x →
    spLagInit C [V.ref x, v] (upd (upd H dx (.own x)) x (.ins C dx [])) (fun z H2 => z = .non ∧ Q x H2) E := by
  intro x dx hx hd hne
  have s : Same H (upd (upd H dx (.own x)) x (.ins C dx [])) := fun b o e => by
    rw [upd_ne (fun z => by subst z; rw [hx] at e; cases e), upd_ne (fun z => by subst z; rw [hd] at e; cases e)]
    exact e
  refine ⟨x, dx, v, m, rfl, upd_same, hv, fun H' g k => ⟨rfl, q x H' (fun b o e => ?_) g⟩⟩
  exact k b o (fun z => by subst z; rw [hx] at e; cases e) (s b o e)
end Lay

namespace OwnC
open PySem PySem.Spec PyProof.Rows L2
theorem toR {P : Program} {w : World} {K : PySem.W.Frag} {mg : Str → Option Value} {base : Heap} {CX : CXT} {k : Nat} {f : Addr} {fd : FuncData} {ps : List Str} {sp : Sp} (F : FnOk P w K mg base CX k f fd ps sp) (hb : Binds K fd ps []) : FnR P w K mg base CX k f sp := by
  intro A outer s H us vs Q E hr e0 r h
  refine F.run A outer s H ⟨us, []⟩ us vs Q E hr e0 ?_ r h
  have l : us.length = ps.length := r.length.symm.trans (F.len _ _ _ _ h)
  have z := hb s us (e0.mod.kin.keeps fun b o e => (e0.bs b o e).1) (by simpa using l)
  simpa using z
end OwnC

end

section
/-! NetL: the parts of a net, as data and at a heap -/
namespace NetL
open PySem PySem.Spec PyProof.Rows L2 Lay
inductive It where
  | vr (z : Str) (s : Int) (ats : List Int)
  | sg (z : Str) (t : Int)
  | ag (z : Str) (k : Int) (ls : List (List V))
def It.nm : It → Str
  | .vr z _ _ => z | .sg z _ => z | .ag z _ _ => z
def It.isV : It → Bool
  | .vr _ _ _ => true | _ => false
def It.isS : It → Bool
  | .sg _ _ => true | _ => false
def It.isA : It → Bool
  | .ag _ _ _ => true | _ => false
def It.ls : It → List (List V)
  | .ag _ _ l => l | _ => []
/-- the bytes of a part, in the order of its slots -/
def It.bytes : It → List Int
  | .vr _ s ats => ats.flatMap fun a => (List.range s.toNat).map fun i => a + ((i : Nat) : Int)
  | _ => []
structure Cs where
  va : Addr
  si : Addr
  a0 : Addr
  a1 : Addr
  a2 : Addr
def Cs.of (C : Cs) : It → Addr
  | .vr _ _ _ => C.va
  | .sg _ _ => C.si
  | .ag _ k _ => if k = 0 then C.a0 else if k = 1 then C.a1 else C.a2
def PartAt (C : Cs) (H : Hp) (v : V) : It → Prop
  | .vr z s ats => ∃ x, v = .ref x ∧ VarAt C.va H x (.str z) (.int s) (ats.map V.int)
  | .sg z t => ∃ x, v = .ref x ∧ SigAt C.si H x z t
  | .ag z k ls => ∃ x, v = .ref x ∧ AgAt (C.of (.ag z k ls)) H x z ls
abbrev PartsAt (C : Cs) (H : Hp) : List V → List It → Prop := Paired (PartAt C H)
theorem PartAt.mono {C : Cs} {H H' : Hp} (s : Same H H') {v : V} : ∀ {it : It}, PartAt C H v it → PartAt C H' v it
  | .vr _ _ _, ⟨x, e, h⟩ => ⟨x, e, h.mono s⟩
  | .sg _ _, ⟨x, e, h⟩ => ⟨x, e, h.mono s⟩
  | .ag _ _ _, ⟨x, e, h⟩ => ⟨x, e, h.mono s⟩
theorem PartsAt.mono {C : Cs} {H H' : Hp} (s : Same H H') {vs : List V} {its : List It} (h : PartsAt C H vs its) : PartsAt C H' vs its := Paired.mono (fun _ _ => PartAt.mono s) h
theorem pget {α β : Type} {F : α → β → Prop} : ∀ {xs : List α} {ys : List β} {i : Nat} {x : α}, Paired F xs ys → xs[i]? = some x → ∃ y, ys[i]? = some y ∧ F x y
  | _, _, _, _, .nil, e => by simp at e
  | _, _, 0, _, .cons r _, e => by simp at e; subst e; exact ⟨_, rfl, r⟩
  | _, _, i + 1, x, .cons _ t, e => by
    obtain ⟨y, h1, h2⟩ := pget (i := i) (x := x) t (by simpa using e)
    exact ⟨y, by simpa using h1, h2⟩
/-- a part is an instance with a name -/
theorem PartAt.ins {C : Cs} {H : Hp} {v : V} : ∀ {it : It}, PartAt C H v it → ∃ x dx fs, v = .ref x ∧ H x = some (.ins (C.of it) dx fs) ∧ fs.lookup ("name" : Str) = some (V.str it.nm)
  | .vr z s ats, ⟨x, e, dx, t, h1, h2⟩ => ⟨x, dx, _, e, h1, by rfl⟩
  | .sg z t, ⟨x, e, dx, h1⟩ => ⟨x, dx, _, e, h1, by rfl⟩
  | .ag z k ls, ⟨x, e, dx, t, xs, h1, h2, h3⟩ => ⟨x, dx, _, e, h1, by rfl⟩
/-- what is asked of the classes -/
structure NetC (K : PySem.W.Frag) (C : Cs) : Prop where
  cl : ∀ it, Cls K (C.of it)
  nn : ∀ it, NoAttr K (C.of it) "name"
  ty : ∀ (H : Hp) (x dx : Addr) (fs : List (Str × V)) (it : It), H x = some (.ins (C.of it) dx fs) → TyX K H (.ref x) (.ref (C.of it))
  kv : ∀ it, PySem.W.kitOne K (.ref (C.of it)) (.ref C.va) = some it.isV
  ks : ∀ it, PySem.W.kitOne K (.ref (C.of it)) (.ref C.si) = some it.isS
  ka : ∀ it, PySem.W.kitOne K (.ref (C.of it)) (.ref C.a0) = some it.isA
  va : NoAttr K C.va "at"
  vs : NoAttr K C.va "size"
  st : NoAttr K C.si "tokens"
  as : ∀ z k ls, NoAttr K (C.of (.ag z k ls)) "steps"
/-- a step of an agent fits to the parts -/
def fits (its : List It) : List V → Prop
  | [.str _, .str n] => ∃ t, It.sg n t ∈ its
  | [.str _, .str n, .int _, .int _, .int e] => ∃ s ats, It.vr n s ats ∈ its ∧ e < s
  | _ => False
def steps (its : List It) : List (List V) := its.flatMap It.ls
structure Good (ring : Int) (its : List It) : Prop where
  ma : (its.filter It.isA).length ≤ 4
  mv : (its.filter It.isV).length ≤ 6
  ms : (its.filter It.isS).length ≤ 6
  nd : (its.map It.nm).Nodup
  ok : ∀ it ∈ its, nameOk it.nm = true
  vr : ∀ z s ats, It.vr z s ats ∈ its → 1 ≤ s ∧ s ≤ 8 ∧ 1 ≤ ats.length ∧ ats.length ≤ 4 ∧ ((ats.length : Int) = 1 ∨ (ats.length : Int) = ring)
  by_ : (its.flatMap It.bytes).Nodup
  gs : ∀ z k ls, It.ag z k ls ∈ its → 0 ≤ k ∧ k ≤ 2 ∧ 1 ≤ ls.length ∧ ls.length ≤ 24 ∧ ∀ l ∈ ls, GoodStep (wsK k) l ∧ fits its l
  sg : ∀ z t, It.sg z t ∈ its → 0 ≤ t ∧ t ≤ 3 ∧ (steps its).count [.str "post", .str z] = 1 ∧ (steps its).count [.str "wait", .str z] = 1
theorem cnt_le {p : It → Bool} (its : List It) (i : Nat) : ((its.take i).filter p).length ≤ (its.filter p).length := ((List.take_sublist i its).filter p).length_le
theorem cnt_succ {p : It → Bool} {its : List It} {i : Nat} {it : It} (h : its[i]? = some it) : ((its.take (i + 1)).filter p).length = ((its.take i).filter p).length + (if p it = true then 1 else 0) := by
  rw [take_succ h, List.filter_append, List.length_append]
  by_cases e : p it = true
  · rw [if_pos e, List.filter_cons_of_pos e]; rfl
  · rw [if_neg e, List.filter_cons_of_neg e]; rfl
/-- Net's checks, passed -/
def spChk (K : PySem.W.Frag) (C : Cs) : Sp := fun vs H Q _ => ∃ t ps its ring, vs = [.ref t] ∧ H t = some (.tup ps) ∧ PartsAt C H ps its ∧ Good ring its ∧ ps.length ≤ 16 ∧ ∀ H', Same H H' → Q .non H'
def spChkR (K : PySem.W.Frag) (C : Cs) : Sp := fun vs H Q _ => ∃ t ps its ring, vs = [.ref t, .int ring] ∧ H t = some (.tup ps) ∧ PartsAt C H ps its ∧ Good ring its ∧ ps.length ≤ 16 ∧ ∀ H', Same H H' → Q .non H'
/-- with the list of the agents -/
def spChkA (K : PySem.W.Frag) (C : Cs) : Sp := fun vs H Q _ => ∃ t a ps as its ring, vs = [.ref t, .ref a] ∧ H t = some (.tup ps) ∧ H a = some (.lst as) ∧ PartsAt C H ps its ∧ PartsAt C H as (its.filter It.isA) ∧ Good ring its ∧ ps.length ≤ 16 ∧ ∀ H', Same H H' → Q .non H'
theorem rd_aug {i : Nat} {te : TE} {ti : TIp} {D : Ends} {σ : L2.St} {H : Hp} (h : ∃ x, σ[i]? = some (some x) ∧ te σ H fun y H1 => ti x y H1 fun z H2 => D.nx (σ.set i (some z)) H2) : tAug i te ti D σ H := h
end NetL

end

section
namespace NetL
open PySem PySem.Spec PyProof.Rows L2 Lay
section
variable {X : Cx}
theorem sw_dict {kx vx : Expr} {gs : List Comprehension} {scope : Scope} {pos py : Pos} {y : Str} {l : Nat} {env : Env} (isF : env.scope.kind = .function) (loc : env.scope.names.lookup y = some .local) (line : (py.line == pos.line) = true)
    (no : (scope.names.any fun (n, k) => n == y && (k == .local || k == .cell)) = false) : swapsWith (.DictComp kx vx gs scope pos) (some (.Name y py)) l env = pure true := by
  have isL : env.kindOf y = some .local := loc
  have isB : env.blockKind = .function := by
    unfold Env.blockKind
    rw [isF]
    rfl
  unfold swapsWith
  simp only [isB, isL, no, Expr.pos, line]
  rfl
/-- y = {kx: vx for tg in iter if ..} -/
theorem ps_setDc {i : Nat} {y : Str} {py : Pos} {kx vx tg iter : Expr} {ifs : List Expr} {scope : Scope} {own : List (Str × Nat)} {pos spos : Pos} {wi : TI} {g : TG} {tt : TT} {tk tv : TE} (hc : X.calm = true) (hN : X.N.Nodup) (hy : X.N[i]? = some y)
    (hyl : X.env.scope.names.lookup y = some .local) (hsw : swapsWith (.DictComp kx vx [⟨tg, iter, ifs, 0⟩] scope pos) (some (.Name y py)) spos.line X.env = pure true) (hi : PI X tg iter wi) (ok : BlkOk X.N X.env.scope scope own)
    (hg : ∀ (s : Shared) (H : Hp) (C : Addr) (cl : List (Str × Addr)) (fp : List Addr), PG (X.blk s H scope (compEnvC scope cl C X.env) fp) tg g)
    (ht : ∀ (s : Shared) (H : Hp) (C : Addr) (cl : List (Str × Addr)) (fp : List Addr), PTs (X.blk s H scope (compEnvC scope cl C X.env) fp) ifs tt)
    (hk : ∀ (s : Shared) (H : Hp) (C : Addr) (cl : List (Str × Addr)) (fp : List Addr), PE (X.blk s H scope (compEnvC scope cl C X.env) fp) kx tk) (he : ∀ (s : Shared) (H : Hp) (C : Addr) (cl : List (Str × Addr)) (fp : List Addr), PE (X.blk s H scope (compEnvC scope cl C X.env) fp) vx tv)
    (hs : ∀ x, foldedSetIterable iter X.env x = pure x := by intro _; rfl) : PS X (.Assign [.Name y py] (.DictComp kx vx [⟨tg, iter, ifs, 0⟩] scope pos) spos) (tAsg (tDc wi g tt tk tv (own.map (·.2))) (gName i)) := by
  constructor
  intro pins s σ H D I told
  rw [exec_Assign_Name_used _ _ _ _ hsw]
  refine wpAny_bind (wpAny_standAt (wpAny_bind ?_))
  show wpAny _ X.A (do let _ ← comprehension (.DictComp kx vx [⟨tg, iter, ifs, 0⟩] scope pos) scope X.env (firstIterPos [⟨tg, iter, ifs, 0⟩] pos) newDict false (eval iter X.env) (some (assign (.Name y py) X.env))) _ _ s
  have told : tDc wi g tt tk tv (own.map (·.2)) σ H (fun x H1 => gName i x σ H1 D.nx) := told
  refine wpAny_bind (thn (dc_core (Qf := fun _ s' => SP X pins D .next s') hc hN I hi ok hg ht hk he hs told ?_) fun _ s' hq => wpAny_pure (wpAny_pure hq))
  intro L C s' m H' I' q hn fr
  show wpAny _ _ (assign (.Name y py) X.env (.ref L)) _ _ _
  refine wpAny_assign_Name (store_ok2 (v := V.ref L) I' hN hy (.inl hyl) rfl ?_ (.inr hyl))
  rintro s2 I2 ⟨a, sb, ha⟩
  obtain ⟨r0, r1, r2, r3, r4, r5⟩ := fr
  have apart : C ≠ a := by
    rcases ha with z | z
    · rw [z]
      exact r1
    · intro e
      exact r4 y a z e.symm
  refine ⟨m, hn.sameBut sb apart, ?_⟩
  intro h3 sb3
  exact ⟨_, H', I2.turned (t' := s2.toks) (fun b o hb e => (sb3.2 b hb).trans e) r0 r1 r3 r4 r5, q⟩
end
theorem not_take {α : Type} {l : List α} (h : l.Nodup) {i : Nat} {z : α} (e : l[i]? = some z) : z ∉ l.take i := by
  intro m
  obtain ⟨j, hj, ej⟩ := List.mem_iff_getElem.mp m
  rw [List.getElem_take] at ej
  obtain ⟨hi, ei⟩ := List.getElem?_eq_some_iff.mp e
  have hj' : j < i := by
    rw [List.length_take] at hj
    omega
  exact (List.pairwise_iff_getElem.mp h) j i (by omega) hi hj' (by rw [ej, ei])
theorem rd_iEnum {K : PySem.W.Frag} {tA : TA} {σ : L2.St} {H : Hp} {R : L2.It → Hp → Prop} (h : tA σ H fun vs H1 => ∃ a xs, vs = [.ref a] ∧ SqL K H1 a xs ∧ R (Ite K a) H1) : iEnum K tA σ H R := h
/-- a walk's turns, whatever is done in them -/
theorem turns {J : L2.It} {n : Nat} {G : Hp → Prop} {Y : Nat → Hp → V → Hp → Prop} (w : Walk J n G Y) {B : (Hp → Prop) → V → Hp → Prop} {Qd : Hp → Prop} {H1 : Hp} (R : Nat → Hp → Prop) (h0 : R 0 H1) (hG : ∀ i H, i ≤ n → R i H → G H)
    (hs : ∀ i x H H', i < n → R i H → Y i H x H' → B (R (i + 1)) x H') (hd : ∀ H, R n H → Qd H) :
    ∃ W : Nat → Nat → Hp → Prop, (∃ m, W 0 m H1) ∧ ∀ i m H, W i m H → (J.stop i H ∧ Qd H) ∨ (J.go i H ∧ ∃ Nx : Hp → Prop, (∀ H', Nx H' → ∃ m', m' < m ∧ W (i + 1) m' H') ∧ ∀ x H', J.yld i H x H' → B Nx x H') := by
  refine ⟨fun i m H => m = n - i ∧ i ≤ n ∧ R i H, ⟨n, by simp, Nat.zero_le _, h0⟩, ?_⟩
  rintro i m H ⟨rfl, hi, p⟩
  have q := hG i H hi p
  by_cases lt : i < n
  · exact .inr ⟨w.goes i H lt q, R (i + 1), fun H' p' => ⟨n - (i + 1), by omega, rfl, lt, p'⟩, fun x H' y => hs i x H H' lt p (w.yields i H x H' lt q y)⟩
  · obtain rfl : i = n := by omega
    exact .inl ⟨w.stops H q, hd H p⟩
theorem rd_dIn {ty td : TE} {σ : L2.St} {H : Hp} {Q : VK} (h : ty σ H fun y H1 => td σ H1 fun x H2 => ∃ a o, x = .ref a ∧ DGet H2 a y o ∧ Q (.bl o.isSome) H2) : tDIn ty td σ H Q := h
theorem rd_dPut {td ty tv : TE} {D : Ends} {σ : L2.St} {H : Hp} (h : tv σ H fun v H1 => td σ H1 fun x H2 => ty σ H2 fun y H3 => ∃ a H4, x = .ref a ∧ DPut H3 a y v H4 ∧ D.nx σ H4) : sDPut td ty tv D σ H := h
theorem rd_dGet {td ty : TE} {σ : L2.St} {H : Hp} {Q : VK} (h : td σ H fun x H1 => ty σ H1 fun y H2 => ∃ a v, x = .ref a ∧ DGet H2 a y (some v) ∧ Q v H2) : tDGet td ty σ H Q := h
/-- the bytes of a slot -/
def row (s : Nat) (a : Int) : List Int := (List.range s).map fun i => a + ((i : Nat) : Int)
theorem row_succ (s : Nat) (a : Int) : row (s + 1) a = row s a ++ [a + (s : Int)] := by
  unfold row
  rw [List.range_succ, List.map_append]
  rfl
theorem row_len (s : Nat) (a : Int) : (row s a).length = s := by
  unfold row
  rw [List.length_map, List.length_range]
theorem rows_len (s : Nat) : ∀ l : List Int, (l.flatMap (row s)).length = l.length * s
  | [] => by simp
  | a :: l => by rw [List.flatMap_cons, List.length_append, row_len, rows_len s l, List.length_cons, Nat.succ_mul, Nat.add_comm]
theorem rows_succ {s : Nat} {l : List Int} {j : Nat} {a : Int} (h : l[j]? = some a) : (l.take (j + 1)).flatMap (row s) = (l.take j).flatMap (row s) ++ row s a := by
  rw [take_succ h, List.flatMap_append, List.flatMap_cons, List.flatMap_nil, List.append_nil]
theorem bytes_vr (z : Str) (s : Int) (ats : List Int) : (It.vr z s ats).bytes = ats.flatMap (row s.toNat) := rfl
/-! ### the bytes that are taken -/
def marks (ns : List Int) : List (Key × V) := ns.map fun n => ((.inl n : Key), V.bl true)
theorem marks_no {a : Int} : ∀ {ns : List Int}, a ∉ ns → valV (marks ns) (.inl a) = none
  | [], _ => rfl
  | n :: ns, h => by
    have ne : ¬ ((.inl n : Key) = .inl a) := fun e => by
      injection e with e
      exact h (by rw [e]; exact List.mem_cons_self)
    show valV (((.inl n : Key), V.bl true) :: marks ns) (.inl a) = none
    rw [valV_neg (p := ((.inl n : Key), V.bl true)) ne]
    exact marks_no fun m => h (List.mem_cons_of_mem _ m)
theorem marks_put {a : Int} {ns : List Int} (h : a ∉ ns) : putK (marks ns) (.inl a) (V.bl true) = marks (ns ++ [a]) := by
  rw [putK_new _ (marks_no h)]
  unfold marks
  rw [List.map_append]
  rfl
theorem bytes_le {its : List It} (h : ∀ z s ats, It.vr z s ats ∈ its → s ≤ 8 ∧ ats.length ≤ 4) : (its.flatMap It.bytes).length ≤ 32 * its.length := by
  have one : ∀ it ∈ its, it.bytes.length ≤ 32 := by
    intro it m
    cases it with
    | vr z s ats =>
      obtain ⟨h1, h2⟩ := h z s ats m
      have inner : ∀ l : List Int, (l.flatMap fun a => (List.range s.toNat).map fun i => a + ((i : Nat) : Int)).length ≤ 8 * l.length := by
        intro l
        induction l with
        | nil => simp
        | cons a l ih =>
          rw [List.flatMap_cons, List.length_append, List.length_map, List.length_range, List.length_cons]
          omega
      have z2 := inner ats
      show (ats.flatMap fun a => (List.range s.toNat).map fun i => a + ((i : Nat) : Int)).length ≤ 32
      omega
    | _ => simp [It.bytes]
  clear h
  induction its with
  | nil => simp
  | cons it its ih =>
    rw [List.flatMap_cons, List.length_append, List.length_cons]
    have z1 := one it List.mem_cons_self
    have z2 := ih fun x m => one x (List.mem_cons_of_mem _ m)
    omega
theorem take_flat {its : List It} {i : Nat} {it : It} (h : its[i]? = some it) : (its.take (i + 1)).flatMap It.bytes = (its.take i).flatMap It.bytes ++ it.bytes := by
  rw [take_succ h, List.flatMap_append, List.flatMap_cons, List.flatMap_nil, List.append_nil]
/-- the j-th byte of the i-th part is none of those ahead -/
theorem byte_new {its : List It} {i j : Nat} {it : It} {a : Int} (nd : (its.flatMap It.bytes).Nodup) (h : its[i]? = some it) (hj : it.bytes[j]? = some a) : a ∉ (its.take i).flatMap It.bytes ++ it.bytes.take j := by
  have sub : ((its.take (i + 1)).flatMap It.bytes).Nodup := by
    refine List.Nodup.sublist ?_ nd
    conv => rhs; rw [← List.take_append_drop (i + 1) its, List.flatMap_append]
    exact List.sublist_append_left _ _
  rw [take_flat h] at sub
  have e : ((its.take i).flatMap It.bytes ++ it.bytes)[((its.take i).flatMap It.bytes).length + j]? = some a := by
    rw [List.getElem?_append_right (Nat.le_add_right _ _), Nat.add_sub_cancel_left]
    exact hj
  have z := not_take sub e
  rwa [List.take_length_add_append] at z
/-- a promise with a wish of exceptions, used where none comes -/
theorem calmOf {P : Program} {w : World} {K : PySem.W.Frag} {mg : Str → Option Value} {base : Heap} {k : Nat} {f : Addr} {fd : FuncData} {ps : List Str} {sp : Sp} (F : FnOk P w K mg base (L2.CX P w) k f fd ps sp) : FnOk P w K mg base CX0 k f fd ps (fun vs H Q _ => sp vs H Q E0) := by
  refine ⟨fun vs H Q E h => F.len vs H Q E0 h, fun A outer s H args us vs Q E hr he hb hv h => ?_⟩
  refine codeAny_mono (F.run A outer s H args us vs Q E0 hr he hb hv h) fun r s' z => ?_
  cases r with
  | error e =>
    obtain ⟨a, B, H', cls, d, _, _, _, _, _, _, _, no⟩ := z
    exact no.elim
  | ok fl => cases fl <;> exact z
end NetL

end

section
namespace NetL
open PySem PySem.Spec PyProof.Rows L2 Lay
/-! ### the names of signals, the sizes of variables -/
def sizes : List It → List (Key × V)
  | [] => []
  | .vr z s _ :: r => ((.inr z : Key), V.int s) :: sizes r
  | _ :: r => sizes r
theorem sizes_app : ∀ (l m : List It), sizes (l ++ m) = sizes l ++ sizes m
  | [], _ => rfl
  | .vr z s a :: l, m => by show _ :: sizes (l ++ m) = _ :: (sizes l ++ sizes m); rw [sizes_app l m]
  | .sg z t :: l, m => sizes_app l m
  | .ag z k ls :: l, m => sizes_app l m
theorem sizes_no {n : Str} : ∀ {its : List It}, n ∉ its.map It.nm → valV (sizes its) (.inr n) = none
  | [], _ => rfl
  | .vr z s a :: l, h => by
    have ne : ¬ ((.inr z : Key) = .inr n) := fun e => by
      injection e with e
      exact h (by rw [← e]; exact List.mem_cons_self)
    show valV (((.inr z : Key), V.int s) :: sizes l) (.inr n) = none
    rw [valV_neg (p := ((.inr z : Key), V.int s)) ne]
    exact sizes_no fun m => h (List.mem_cons_of_mem _ m)
  | .sg z t :: l, h => sizes_no (its := l) fun m => h (List.mem_cons_of_mem _ m)
  | .ag z k ls :: l, h => sizes_no (its := l) fun m => h (List.mem_cons_of_mem _ m)
theorem sizes_at {n : Str} {s : Int} {ats : List Int} : ∀ {its : List It}, (its.map It.nm).Nodup → It.vr n s ats ∈ its → valV (sizes its) (.inr n) = some (.int s)
  | [], _, h => nomatch h
  | it :: l, nd, h => by
    rw [List.map_cons, List.nodup_cons] at nd
    rcases List.mem_cons.mp h with e | h
    · subst e
      exact valV_pos (p := ((.inr n : Key), V.int s)) rfl
    · have hn : n ∈ l.map It.nm := List.mem_map.mpr ⟨_, h, rfl⟩
      have ih := sizes_at nd.2 h
      cases it with
      | vr z s2 a2 =>
        have ne : ¬ ((.inr z : Key) = .inr n) := fun e => by
          injection e with e
          exact nd.1 (by show z ∈ _; rw [e]; exact hn)
        show valV (((.inr z : Key), V.int s2) :: sizes l) (.inr n) = _
        rw [valV_neg (p := ((.inr z : Key), V.int s2)) ne]
        exact ih
      | sg z t => exact ih
      | ag z k ls => exact ih
theorem sizes_len : ∀ its : List It, (sizes its).length ≤ its.length
  | [] => Nat.le_refl _
  | .vr z s a :: l => Nat.succ_le_succ (sizes_len l)
  | .sg z t :: l => Nat.le_succ_of_le (sizes_len l)
  | .ag z k ls :: l => Nat.le_succ_of_le (sizes_len l)
theorem sizes_put {z : Str} {s : Int} {ats : List Int} {its : List It} (h : z ∉ its.map It.nm) : putK (sizes its) (.inr z) (V.int s) = sizes (its ++ [.vr z s ats]) := by
  rw [putK_new _ (sizes_no h), sizes_app]
  rfl
def sigs (its : List It) : List Str := (its.filter It.isS).map It.nm
theorem sigs_at {n : Str} {t : Int} {its : List It} (h : It.sg n t ∈ its) : n ∈ sigs its := List.mem_map.mpr ⟨.sg n t, List.mem_filter.mpr ⟨h, rfl⟩, rfl⟩
theorem filt_succ {p : It → Bool} {its : List It} {i : Nat} {it : It} (h : its[i]? = some it) : (its.take (i + 1)).filter p = (its.take i).filter p ++ (if p it = true then [it] else []) := by
  rw [take_succ h, List.filter_append]
  by_cases e : p it = true
  · rw [if_pos e, List.filter_cons_of_pos e]; rfl
  · rw [if_neg e, List.filter_cons_of_neg e]; rfl
def spCon : Sp := fun vs H Q _ => ∃ p l, vs = [.ref p] ∧ H p = some (.tup l) ∧ l.length ≤ 5 ∧ Q (.bl (decide (l.length = 2))) H
/-! ### list.count of data -/
def rCntD (K : PySem.W.Frag) : V → List V → Hp → VK → Prop := fun x xs H Q => ∃ (a : Addr) (y : V) (d : PyData) (ds : List PyData), x = V.ref a ∧ xs = [y] ∧ Dp K H (V.ref a) (.list ds) ∧ Dp K H y d ∧
  SeqAt.shaped (.list ds) = true ∧ SeqAt.shaped d = true ∧ Q (.int (ds.countP fun z => PyData.eqv z d : Nat)) H
section
variable {X : Cx}
theorem mt_cntD (hu : X.A.units + 65 < cLine) : MtR X "list.count" (rCntD X.K) := by
  intro pins s σ H x xs v us Q I rx rxs told
  obtain ⟨a, y, d, ds, rfl, rfl, isL, isY, shL, shY, q⟩ := told
  cases rx
  obtain ⟨uy, rfl, ry⟩ := rxs.one
  obtain ⟨bs, readY⟩ := Dp.reads I d y uy isY ry
  have canL : PyData.canLayAll0 ds = true := SeqAt.canLay_of_shaped shL
  have room : X.A.units + 1 + min (PyData.depthAll ds) d.depth < cLine := room_in_shaped shY hu
  cases isL with
  | lst hs ha =>
    obtain ⟨its, rv, ⟨⟨cls, dd, data, sls⟩, n, ho, hc, hdn, hdt⟩, hlen⟩ := I.list hs
    simp only at hc hdt
    subst hc hdt
    obtain ⟨as, readL⟩ := Dp.readsAll I ds _ its ha rv
    have same : its.map (SeqAt.readOf s.heap) = ds := SeqAt.readsAll_map ds its as canL readL
    refine call_meets PySem.F.slot_list_count ⟨_, ho, rfl⟩ PySem.F.entry_list_count (PySem.F.args_list_count_2 _ _) (SeqAt.list_countAt a its.toArray n dd sls uy (fun u => PyData.eqv (SeqAt.readOf s.heap u) d))
      ⟨ho, SeqAt.items_eqAt (vs := its.toArray) (show ReadsAll s.heap its.toArray.toList ds as from readL) readY canL (SeqAt.canLay_of_shaped shY) room, ?_⟩
    have many : its.toArray.toList.countP (fun u => PyData.eqv (SeqAt.readOf s.heap u) d) = ds.countP fun z => PyData.eqv z d := by
      rw [← same, List.countP_map]
      rfl
    refine ⟨.int (ds.countP fun z => PyData.eqv z d : Nat), H, I.tok _, ⟨s.toks, ?_⟩, q⟩
    show Value.int ((its.toArray.toList.countP (fun u => PyData.eqv (SeqAt.readOf s.heap u) d) : Nat) : Int) s.toks = Value.int ((ds.countP fun z => PyData.eqv z d : Nat) : Int) s.toks
    rw [many]
end
theorem shaped_rowsL (ls : List (List V)) (f : ∀ l ∈ ls, l.all isFlat = true) : SeqAt.shaped (.list (ls.map rowD)) = true := by
  have h1 := deepAll_rows ls
  have h2 : PyData.depth (.list (ls.map rowD)) ≤ 64 := by
    simp only [PyData.depth]
    omega
  have h3 : PyData.canLay0 (.list (ls.map rowD)) = true := by
    simp only [PyData.canLay0]
    exact layAll_rows ls f
  unfold SeqAt.shaped
  rw [h3, decide_eq_true h2]
  rfl
theorem shaped_row1 (l : List V) (f : l.all isFlat = true) : SeqAt.shaped (rowD l) = true := by
  have z := shaped_rowsL [l] (fun x m => by rw [List.mem_singleton.mp m]; exact f)
  unfold SeqAt.shaped at z ⊢
  rw [Bool.and_eq_true] at z ⊢
  obtain ⟨z1, z2⟩ := z
  refine ⟨?_, ?_⟩
  · have z3 : PyData.canLayAll0 [rowD l] = true := z1
    simp only [PyData.canLayAll0, Bool.and_true] at z3
    exact z3
  · have z4 := of_decide_eq_true z2
    simp only [List.map_cons, List.map_nil, PyData.depth, PyData.depthAll] at z4
    exact decide_eq_true (by omega)
theorem rd_cnt {K : PySem.W.Frag} {H : Hp} {Q : VK} {a p : Addr} {ks : List V} {ls : List (List V)} {l : List V} (ha : SqL K H a ks) (hr : RowsAt H ks ls) (f : ∀ l ∈ ls, l.all isFlat = true) (hp : H p = some (.tup l)) (fl : l.all isFlat = true)
    (q : Q (.int (ls.count l : Nat)) H) : rCntD K (.ref a) [.ref p] H Q := by
  refine ⟨a, .ref p, rowD l, ls.map rowD, rfl, rfl, .lst ha (hr.dp f), .tup (SqT.of hp) (dp_flat _ fl), shaped_rowsL ls f, shaped_row1 l fl, ?_⟩
  have e : (ls.map rowD).countP (fun z => PyData.eqv z (rowD l)) = ls.count l := by
    rw [List.countP_map]
    unfold List.count
    refine List.countP_congr fun x m => ?_
    show PyData.eqv (rowD x) (rowD l) = true ↔ (x == l) = true
    rw [eqv_row (f x m) fl, decide_eq_true_iff, beq_iff_eq]
  rw [e]
  exact q
theorem u65 {k : Nat} {A : Around} (r : Room k A) : A.units + 65 < cLine := by
  have := r.un
  omega
theorem steps_filt : ∀ its : List It, (its.filter It.isA).flatMap It.ls = steps its
  | [] => rfl
  | .ag z k ls :: l => by
    rw [List.filter_cons_of_pos rfl]
    show ls ++ (l.filter It.isA).flatMap It.ls = ls ++ steps l
    rw [steps_filt l]
  | .vr z s a :: l => by
    rw [List.filter_cons_of_neg (by intro z; cases z)]
    exact steps_filt l
  | .sg z t :: l => by
    rw [List.filter_cons_of_neg (by intro z; cases z)]
    exact steps_filt l
theorem ls_len {l : List It} (h : ∀ it ∈ l, it.ls.length ≤ 24) : (l.flatMap It.ls).length ≤ 24 * l.length := by
  induction l with
  | nil => simp
  | cons it l ih =>
    rw [List.flatMap_cons, List.length_append, List.length_cons]
    have z1 := h it List.mem_cons_self
    have z2 := ih fun x m => h x (List.mem_cons_of_mem _ m)
    omega
theorem steps_flat {ring : Int} {its : List It} (g : Good ring its) : ∀ l ∈ steps its, l.all isFlat = true := by
  intro l m
  obtain ⟨it, im, lm⟩ := List.mem_flatMap.mp m
  cases it with
  | ag z k ls =>
    obtain ⟨_, _, _, _, h⟩ := g.gs z k ls im
    exact (h l lm).1.flat
  | vr z s a => cases lm
  | sg z t => cases lm
theorem rd_cntB {K : PySem.W.Frag} {T : String} {r : V → List V → Hp → VK → Prop} {to : TE} {t : TA} {σ : L2.St} {H : Hp} {Q : VK} (h : to σ H fun x H1 => tyV K T x H1 ∧ t σ H1 fun xs H2 => r x xs H2 Q) : tBM K T r to t σ H Q := h
theorem word_flat {w z : Str} (hw : PyData.strOk w = true) (hz : nameOk z = true) : ([.str w, .str z] : List V).all isFlat = true := by
  show (PyData.strOk w && (PyData.strOk z && true)) = true
  rw [hw, name_strOk hz]
  rfl
end NetL

end

section
namespace NetL
open PySem PySem.Spec PyProof.Rows L2 Lay
theorem rd_isiT {K : PySem.W.Frag} {H : Hp} {Q : VK} {x : V} {tp : Addr} {cs : List V} {t : Value} {us : List Value} (b : Bool) (ht : H tp = some (.tup cs)) (hc : Paired ClsV cs us) (hx : TyX K H x t) (h : PySem.W.kitAny K t us = some b) (q : Q (.bl b) H) : rIsiT K [x, .ref tp] H Q :=
  ⟨x, tp, cs, t, us, b, rfl, ht, hc, hx, h, q⟩
theorem kit3 {K : PySem.W.Frag} {t a b c : Value} {p q r : Bool} (ha : PySem.W.kitOne K t a = some p) (hb : PySem.W.kitOne K t b = some q) (hc : PySem.W.kitOne K t c = some r) (o : (p || q || r) = true) : PySem.W.kitAny K t [a, b, c] = some true := by
  unfold PySem.W.kitAny
  rw [ha]
  cases p with
  | true => rfl
  | false =>
    unfold PySem.W.kitAny
    rw [hb]
    cases q with
    | true => rfl
    | false =>
      unfold PySem.W.kitAny
      rw [hc]
      cases r with
      | true => rfl
      | false => cases o
/-- a list of parts grows -/
theorem parts_snoc {C : Cs} {H : Hp} {vs : List V} {its : List It} {v : V} {it : It} (h : PartsAt C H vs its) (p : PartAt C H v it) : PartsAt C H (vs ++ [v]) (its ++ [it]) := Paired.snoc h p
end NetL

end

section
/-! KwS: defs with *args and keyword-only parameters with defaults; classes and classmethods called so -/
namespace KwS
open PySem PySem.Spec PyProof.Rows L2 StX
/-- a promise for positional values and the values of keywords -/
abbrev Sp2 := List V → List V → Hp → VK → XK → Prop
/-- a def called with positional values and the keywords ks -/
def FnRK (P : Program) (w : World) (K : PySem.W.Frag) (mg : Str → Option Value) (base : Heap) (CX : CXT) (k : Nat) (f : Addr) (ks : List Str) (sp : Sp2) : Prop :=
  ∀ (A : Around) (outer : List Env) (s : Shared) (H : Hp) (us ws : List Value) (vs zs : List V) (Q : VK) (E : XK), Room k A → Env0 P w K mg base A outer s H → Vals vs us → Vals zs ws → zs.length = ks.length → sp vs zs H Q E →
    codeAny (model P w) A (.call (.ref f) ⟨us, ks.zip ws⟩) (CR CX outer P w H s Q E) s
/-- as KwChain, whatever stands at the end -/
def KwEnd {α : Type} (D : Addr) : List (Str × Value) → Sem α → Sem α → Prop
  | [], t, r => t = r
  | q :: l, t, r => ∃ (β γ : Type) (k1 : Option Value → Sem β) (k2 : β → Sem γ) (k3 : γ → Sem α) (a : β), t = ((nsGet D q.1 >>= k1) >>= k2) >>= k3 ∧ k1 (some q.2) = pure a ∧ KwEnd D l (k2 a >>= k3) r
theorem KwEnd.run {α : Type} {K : PySem.W.Frag} {M : Model} {D : Addr} {A : Around} {Ex : Value → Shared → Prop} {Q : α → Shared → Prop} {s : Shared} (X : K.In s.heap) : ∀ {l : List (Str × Value)} {t r : Sem α}, (∀ q ∈ l, PySem.W.nsIn K D q.1 = some (some q.2)) → KwEnd D l t r → wpAny M A r Q Ex s → wpAny M A t Q Ex s
  | [], t, r, _, e, h => by
    have e : t = r := e
    rw [e]
    exact h
  | q :: l, t, r, hl, e, h => by
    obtain ⟨β, γ, k1, k2, k3, a, e1, e2, e3⟩ := e
    have l1 : PySem.W.Looks M s.heap (nsGet D q.1 >>= k1) a := (PySem.W.looks_nsIn X (hl q (List.mem_cons_self ..))).andThen (PySem.W.Looks.of_pure e2)
    have l2 := KwEnd.run X (fun p hp => hl p (List.mem_cons_of_mem _ hp)) e3 h
    rw [e1, bind_assoc]
    exact wpAny_bind (l1 _ _ _ _ (fun _ _ z => z) l2)
section
variable {CX : CXT} {P : Program} {w : World} {K : PySem.W.Frag} {mg : Str → Option Value} {base : Heap} {k n : Nat} {f : Addr} {name qual : Str} {params : Arguments} {body : List Stmt} {scope : Scope} {N ps ks : List Str} {sp : Sp} {kws : List (Str × V)} {fd : FuncData}
/-- def f(a, *v, k = d, ..), called with n positional values and more, and the keywords ks; ms: the keyword-only parameters that lack -/
theorem fn_starK {pv : Str} (F : FunD K name qual params body scope [] kws f fd) (S : FnScope N (ps ++ [pv]) scope) (hCX : CXUp CX) (ms : List (Str × V)) (g : {α : Type} → List α → List α → List α → List α) (hk : kws ≠ []) (hms : ∀ q ∈ ms, q ∈ kws)
    (hrel : ∀ {vs mz zs : List V} {us mv ws : List Value}, Vals vs us → Vals mz mv → Vals zs ws → Vals (g vs mz zs) (g us mv ws))
    (hlen : ∀ us mv ws : List Value, us.length = n → mv.length = ms.length → ws.length = ks.length → (g us mv ws).length = ps.length)
    (hb : ∀ (D : Addr) (doc pm : Value) (an : Option Addr) (cdv ct : Value) (us rest mv ws : List Value), us.length = n → mv.length = ms.length → ws.length = ks.length →
      KwEnd D ((ms.map (·.1)).zip mv) (bindArgs (PySem.W.fnOf name qual params body scope .none (.ref D) doc pm an cdv ct) ⟨us ++ rest, ks.zip ws⟩) (newTuple rest >>= fun t => pure (ps.zip (g us mv ws) ++ [(pv, t)])))
    (hbody : ∀ (cdv : Value) (A : Around) (outer : List Env) (s : Shared) (H : Hp) (vs : List V) (Q : VK) (E : XK), Room k (A.deeper (envOfC qual scope s.heap.objs.size f cdv)) → sp vs H Q E →
      ∃ t, PSs (cxOf CX P w K mg base N qual scope f cdv A outer s H E) body t ∧ t { nx := fun _ H' => Q .non H', rt := Q } (start N vs) H) :
    FnRK P w K mg base CX (k + 1) f ks (fun vs zs H Q E => ∃ us rest, vs = us ++ rest ∧ us.length = n ∧ rest.length ≤ sizeLine ∧ ∀ p, H p = Option.none → sp (g us (ms.map (·.2)) zs ++ [V.ref p]) (upd H p (.tup rest)) Q E) := by
  obtain ⟨oc, od, dV, kV, doc, pm, an, cdv, ct, osl, rfl, lk, hcd, hD, hK⟩ := F.ex
  rcases hD with ⟨_, rfl⟩ | ⟨e, _⟩
  rotate_left
  · exact absurd rfl e
  rcases hK with e | ⟨D, rfl, hq⟩
  · exact absurd e hk
  obtain ⟨mv, hl3, rk, hks⟩ := kwd_vals (ms := ms) fun q hm => hq q (hms q hm)
  intro A outer s H us wz vs zs Q E hr e0 r rz lz hsp
  obtain ⟨ws, rest, ev, hl, hz, hq2⟩ := hsp
  subst ev
  obtain ⟨u1, u2, eu, r1, r2⟩ := vals_split r
  subst eu
  have hn : H s.heap.objs.size = Option.none := e0.hok.fresh (Nat.le_refl _)
  have hl1 : u1.length = n := by rw [← r1.length]; exact hl
  have hl2 : u2.length ≤ sizeLine := by rw [← r2.length]; exact hz
  have hl4 : wz.length = ks.length := by rw [← rz.length]; exact lz
  have KX : K.In s.heap := e0.mod.kin.keeps fun b o e => (e0.bs b o e).1
  refine run_bnd lk hcd S hr e0 (G := fun xs H2 => ∃ p, H p = Option.none ∧ xs = g ws (ms.map (·.2)) zs ++ [V.ref p] ∧ H2 = upd H p (.tup rest)) (fun A' Ex Q' h => ?_) fun s2 H2 xs ⟨p, hp, ex, eH⟩ hr' => ?_
  · refine KwEnd.run KX hks (hb D doc pm an cdv ct u1 u2 mv wz hl1 hl3 hl4) ?_
    refine wpAny_bind (wpAny_newTuple (wpAny_pure ?_) hl2)
    have new : ObjOk P w (upd H s.heap.objs.size (.tup rest)) (s.heap.push ({ cls := .type "tuple", data := .seq u2.toArray } : Obj)) s.heap.objs.size (.tup rest) := ⟨hz, u2, r2, ⟨_, Heap.get?_push_size _ rfl, rfl, _, rfl⟩⟩
    have un := un_laid (fs := frs outer) (s := s) (o := ({ cls := .type "tuple", data := .seq u2.toArray } : Obj)) (u := .tup rest) hn
    have rr : Vals (g ws (ms.map (·.2)) zs) (g u1 mv wz) := hrel r1 rk rz
    have ll : (g u1 mv wz).length = ps.length := hlen u1 mv wz hl1 hl3 hl4
    have z := h _ _ (g ws (ms.map (·.2)) zs ++ [V.ref s.heap.objs.size]) (g u1 mv wz ++ [Value.ref s.heap.objs.size]) (env0_laid e0 new) un rfl (fun e s' => hCX outer s H _ _ E e s' un (fun b o q => Heap.get?_push_of_some _ q) rfl) (rr.append (.cons rfl .nil))
      (by rw [List.length_append, List.length_append, rr.length, ll] <;> rfl) ⟨_, hn, rfl, rfl⟩
    rw [List.zip_append ll.symm] at z
    exact z
  · subst ex eH
    exact hbody cdv A outer s2 _ _ Q E hr' (hq2 p hp)
/-- a plain def with keyword-only parameters, called with keywords -/
theorem fnrk_of (F : FnOk P w K mg base CX k f fd ps sp) {g : List Value → List Value → List Value} {gV : List V → List V → List V} (hb : KBn K fd ps n ks g gV) : FnRK P w K mg base CX k f ks (fun vs zs H Q E => vs.length = n ∧ sp (gV vs zs) H Q E) := by
  intro A outer s H us ws vs zs Q E hr e0 r rz lz ⟨l1, h⟩
  have KX : K.In s.heap := e0.mod.kin.keeps fun b o e => (e0.bs b o e).1
  exact F.run A outer s H ⟨us, ks.zip ws⟩ (g us ws) (gV vs zs) Q E hr e0 (hb.to s us ws KX (r.length.symm.trans l1) (rz.length.symm.trans lz)) (hb.rel r rz) h
end
/-! ### calls -/
section
variable {M : Model} {A : Around} {E : Value → Shared → Prop} {s : Shared}
theorem ks_lone_kw {f : Value} {x : Sem Value} {pos : Pos} {kws : List (Option Str × Sem Value)} {Q : Args → Shared → Prop} (hall : kws.all (·.1.isSome) = true)
    (h : wpAny M A x (fun v s₁ => wpAny M A (evalAll (kws.map (·.2))) (fun ws s₂ => PySem.W.StarOf M A E v (fun vs s₃ => Q ⟨vs, (kws.filterMap (·.1)).zip ws⟩ s₃) s₂) E s₁) E s) :
    wpAny M A (evalArgs f true [(true, (do let v ← x; standAt pos; pure v))] kws) Q E s := by
  unfold evalArgs
  first
    | refine wpAny_bind (wpAny_bind (wpAny_mono h (fun v s₁ h₁ => wpAny_bind (wpAny_standAt (wpAny_pure ?_))) fun _ _ x => x))
    | refine wpAny_bind (wpAny_bind (wpAny_bind (wpAny_mono h (fun v s₁ h₁ => wpAny_bind (wpAny_standAt (wpAny_pure (wpAny_pure ?_)))) fun _ _ x => x)))
  refine wpAny_holding ?_
  rw [hall]
  simp only [if_true]
  refine wpAny_bind (wpAny_mono h₁ (fun ws s₂ h₂ => ?_) fun _ _ x => x)
  unfold PySem.W.StarOf at h₂
  refine wpAny_bind (wpAny_bind (wpAny_mono h₂ (fun b s₃ h₃ => ?_) fun _ _ x => x))
  obtain ⟨rfl, h₃⟩ := h₃
  have z := wpAny_holding (vs := ((kws.filterMap (·.1)).zip ws).map (·.2)) (wpAny_mono h₃ (fun vs s₄ h₄ => (wpAny_pure h₄ : wpAny M A (pure (⟨vs, (kws.filterMap (·.1)).zip ws⟩ : Args)) Q E s₄)) fun _ _ x => x)
  try simp only [Bool.false_eq_true, if_false]
  first
    | exact z
    | exact wpAny_bind (wpAny_pure z)
theorem ks_callk {f : Value} {first : List Value} {pos : Pos} {Q : Value → Shared → Prop} {P : Heap → Prop} {args : List (Bool × Sem Value)} {kws : List (Option Str × Sem Value)} (hst : args.any (·.1) = true)
    (hk : ∀ h, P h → ∃ k, (k = Keeper.frame ∨ k = Keeper.machine ∨ k = Keeper.boundFrame) ∧ PySem.W.Looks M h (keeperOf f) k)
    (h : wpAny M A (evalArgs f true args kws) (fun a s₁ => P s₁.heap ∧ wpAny M A (call f (first ++ a.pos) a.kw) Q E s₁) E s) : wpAny M A (callWith pos f first args kws) Q E s := by
  unfold callWith
  refine wpAny_bind (wpAny_holding (wpAny_mono h (fun a s₁ h₁ => wpAny_bind (wpAny_standAt ?_)) fun _ _ x => x))
  obtain ⟨k, hk', L⟩ := hk _ h₁.1
  simp only [hst, Bool.true_or]
  refine wpAny_bind (L.here ?_)
  have tail : ∀ {t : Sem Value}, wpAny M A t Q E s₁ → wpAny M A (t >>= fun r => holding [r] point >>= fun _ => pure r) Q E s₁ :=
    fun ht => wpAny_bind (wpAny_mono ht (fun r s₂ hr => wpAny_bind (wpAny_holding (wpAny_point (wpAny_pure hr)))) fun _ _ x => x)
  have marked (mk : Value) : wpAny M A (callMarked mk f (first ++ a.pos) a.kw) Q E s₁ := by unfold callMarked; exact Calls.wpAny_keep h₁.2
  rcases hk' with rfl | rfl | rfl <;> dsimp only <;> first | exact tail (marked _) | exact tail (wpAny_operating h₁.2)
end
/-- the class at C made with positional values and keywords -/
def TMade (C : Addr) (sp : Sp2) (E : XK) (vs zs : List V) : Hp → VK → Prop := fun H Q => ∀ x dx, H x = Option.none → H dx = Option.none → dx ≠ x →
  sp (V.ref x :: vs) zs (upd (upd H dx (.own x)) x (.ins C dx [])) (fun v H2 => v = .non ∧ Q (.ref x) H2) E
section
variable {X : Cx} {CX : CXT} {k : Nat} {f C : Addr} {ks : List Str} {sp : Sp2} {E : L2.St → XK} {x m : Str} {e fe o : Expr} {es : List Expr} {kws : List Keyword} {te tf ta : TE} {t tk : TA} {p sp_ pos apos : Pos} {pl : Sem Bool} {mc : Value}
theorem run_makeRK {pins : List (Addr × Obj)} {σ : L2.St} {H : Hp} {s : Shared} {Q : VK} {us ws : List Value} {vs zs : List V} {E : XK} (M : Mk X.K C f) (F : FnRK X.prog X.w X.K X.mg X.base CX k f ks sp) (hr : Room (k + 1) X.A) (hx : PassesAt CX X σ E)
    (I : Inv X pins σ H s) (r : Vals vs us) (rz : Vals zs ws) (lz : zs.length = ks.length) (h : TMade C sp E vs zs H Q) : wpAny (model X.prog X.w) X.A (call (.ref C) us (ks.zip ws)) (EP X pins σ Q) X.xe s := by
  have hq := h (s.heap.objs.size + 1) s.heap.objs.size (I.hok.fresh (Nat.le_succ _)) (I.hok.fresh (Nat.le_refl _)) (Nat.ne_of_lt (Nat.lt_succ_self _))
  have I2 := Inv.made (C := C) I
  have r2 : Vals (V.ref (s.heap.objs.size + 1) :: vs) (Value.ref (s.heap.objs.size + 1) :: us) := .cons rfl r
  refine wpAny_call (make_map (f := f) I.kIn M.makes M.init (beq_iff_eq.mp M.fn) (codeAny_mono (F _ X.stack _ _ (Value.ref (s.heap.objs.size + 1) :: us) ws _ zs _ E (hr.make C us (ks.zip ws)) (I2.env0.make C us (ks.zip ws)) r2 rz lz hq) fun r s' hq' => ?_))
  cases r with
  | error e => exact hx pins _ _ e s' I2 hq'
  | ok fl =>
    cases fl with
    | ret u =>
      obtain ⟨v, H', I3, rv, ev, q3⟩ := I2.after hq'
      subst ev
      exact ⟨rv, ⟨V.ref (s.heap.objs.size + 1), H', I3, rfl, q3⟩⟩
    | next => exact False.elim hq'
    | brk => exact False.elim hq'
    | cont => exact False.elim hq'
/-- v(*y, k = v, ..), v an expression that gives the class -/
def tMakeSK (K : PySem.W.Frag) (C : Addr) (ks : List Str) (sp : Sp2) (E : L2.St → XK) (tf te : TE) (tk : TA) : TE := fun σ H Q => tf σ H fun y H0 => y = .ref C ∧ te σ H0 fun a H1 => ∃ p, a = .ref p ∧ tk σ H1 fun zs H2 => ∃ xs, (SqT K H2 p xs ∨ SqL K H2 p xs) ∧ zs.length = ks.length ∧ TMade C sp (E σ) xs zs H2 Q
theorem callWith_SK {pins : List (Addr × Obj)} {σ : L2.St} {H : Hp} {s : Shared} {Q : VK} (M : Mk X.K C f) (F : FnRK X.prog X.w X.K X.mg X.base CX k f ks sp) (hr : Room (k + 1) X.A) (hx : PassesAt CX X σ (E σ)) (he : PE X e te) (hkw : PK X kws tk)
    (hall : (backToKw pos (keywordEach kws X.env)).all (·.1.isSome) = true) (hks : (backToKw pos (keywordEach kws X.env)).filterMap (·.1) = ks) (hst : starEach [.Starred e sp_] X.env = [(true, eval e X.env)]) (I : Inv X pins σ H s)
    (h : te σ H fun a H1 => ∃ p, a = .ref p ∧ tk σ H1 fun zs H2 => ∃ xs, (SqT X.K H2 p xs ∨ SqL X.K H2 p xs) ∧ zs.length = ks.length ∧ TMade C sp (E σ) xs zs H2 Q) :
    wpAny (model X.prog X.w) X.A (callWith pos (.ref C) [] (backTo pos (starEach [.Starred e sp_] X.env)) (backToKw pos (keywordEach kws X.env))) (EP X pins σ Q) X.xe s := by
  rw [hst]
  refine ks_callk rfl (PySem.W.keeps_K M.kp) (ks_lone_kw hall (thn (he.run pins s σ H _ I h) fun v s1 ⟨y, H1, I1, ry, a, ey, q⟩ => ?_))
  subst ey
  obtain rfl : v = Value.ref a := ry
  refine thn (hkw.run pos pins s1 σ H1 _ I1 q) fun ws s2 ⟨zs, H2, I2, rz, xs, hxs, lz, q2⟩ => ?_
  refine star_any I2 hxs fun us s3 I3 rv => ⟨I3.kIn, ?_⟩
  rw [hks]
  exact run_makeRK (us := us) M F hr hx I3 rv rz lz q2
theorem pe_makeSKV (hf : PE X fe tf) (M : Mk X.K C f) (F : FnRK X.prog X.w X.K X.mg X.base CX k f ks sp) (hr : Room (k + 1) X.A) (hx : ∀ σ, PassesAt CX X σ (E σ)) (he : PE X e te) (hkw : PK X kws tk)
    (hall : (backToKw pos (keywordEach kws X.env)).all (·.1.isSome) = true := by rfl) (hks : (backToKw pos (keywordEach kws X.env)).filterMap (·.1) = ks := by rfl) (hst : starEach [.Starred e sp_] X.env = [(true, eval e X.env)] := by rfl)
    (ht : eval (.Call fe [.Starred e sp_] kws pos) X.env = (do callWith pos (← eval fe X.env) [] (backTo pos (starEach [.Starred e sp_] X.env)) (backToKw pos (keywordEach kws X.env))) := by rfl) :
    PE X (.Call fe [.Starred e sp_] kws pos) (tMakeSK X.K C ks sp E tf te tk) := by
  refine ⟨fun pins s σ H Q I h => ?_⟩
  rw [ht]
  refine wpAny_bind (thn (hf.run pins s σ H _ I h) fun u s1 ⟨y, H1, I1, ry, ey, q⟩ => ?_)
  subst ey
  obtain rfl : u = Value.ref C := ry
  exact callWith_SK M F hr (hx σ) he hkw hall hks hst I1 q
/-- C(*y, k = v, ..), C a class of the module -/
theorem pe_makeSK (M : Mk X.K C f) (F : FnRK X.prog X.w X.K X.mg X.base CX k f ks sp) (hr : Room (k + 1) X.A) (hg : Gl X x) (hm : X.mg x = some (.ref C)) (hx : ∀ σ, PassesAt CX X σ (E σ)) (he : PE X e te) (hkw : PK X kws tk)
    (hall : (backToKw pos (keywordEach kws X.env)).all (·.1.isSome) = true := by rfl) (hks : (backToKw pos (keywordEach kws X.env)).filterMap (·.1) = ks := by rfl) (hst : starEach [.Starred e sp_] X.env = [(true, eval e X.env)] := by rfl) (hdb : (x == ("__debug__" : Str)) = false := by decide) :
    PE X (.Call (.Name x p) [.Starred e sp_] kws pos) (tMakeSK X.K C ks sp E (fun _ H Q => Q (.ref C) H) te tk) := by
  refine ⟨fun pins s σ H Q I h => ?_⟩
  obtain ⟨_, h⟩ := h
  refine wpAny_Call_Name_kw (ld_glob I hg hm ?_ hdb)
  exact callWith_SK M F hr (hx σ) he hkw hall hks hst I h
/-- C() -/
theorem pe_makeRK0 (M : Mk X.K C f) (F : FnRK X.prog X.w X.K X.mg X.base CX k f [] sp) (hr : Room (k + 1) X.A) (hg : Gl X x) (hm : X.mg x = some (.ref C)) (hx : ∀ σ, PassesAt CX X σ (E σ)) (hdb : (x == ("__debug__" : Str)) = false := by decide) :
    PE X (.Call (.Name x p) [] [] pos) (fun σ H Q => TMade C sp (E σ) [] [] H Q) := by
  refine ⟨fun pins s σ H Q I h => ?_⟩
  refine wpAny_Call_Name_kw (ld_glob I hg hm ?_ hdb)
  exact PySem.W.callWith_K0 I.kIn M.kp (run_makeRK (us := []) (ws := []) M F hr (hx σ) I .nil .nil rfl h)
/-- C.m(e, .., k = v, ..), m a classmethod -/
def tCMethNK (C : Addr) (ks : List Str) (sp : Sp2) (E : L2.St → XK) (ta : TE) (t tk : TA) : TE := fun σ H Q => ta σ H fun x H1 => x = .ref C ∧ t σ H1 fun vs H2 => tk σ H2 fun zs H3 => zs.length = ks.length ∧ sp (.ref C :: vs) zs H3 Q (E σ)
theorem pe_cmethNK {pm g : Addr} (he : PE X o ta) (r : ClX.CRead X.K C mc) (c : ClX.CMet X.K C mc m pm g) (F : FnRK X.prog X.w X.K X.mg X.base CX k g ks sp) (hr : Room k X.A) (hx : ∀ σ, PassesAt CX X σ (E σ)) (ha : PA X (e :: es) t) (hkw : PK X kws tk)
    (hall : (backToKw pos (keywordEach kws X.env)).all (·.1.isSome) = true := by rfl) (hks : (backToKw pos (keywordEach kws X.env)).filterMap (·.1) = ks := by rfl)
    (hst : starEach (e :: es) X.env = (false, eval e X.env) :: starEach es X.env := by rfl) (hpl : ((backTo pos (starEach (e :: es) X.env)).any (·.1) || (backToKw pos (keywordEach kws X.env)).any (·.1.isNone)) = false := by rfl)
    (ht : eval (.Call (.Attribute o m apos) (e :: es) kws pos) X.env = (do
      let ov ← eval o X.env
      standAt apos.atName
      let (f, first) ← holding [ov] (getMethod ov m pl)
      callWith pos f first (backTo pos (starEach (e :: es) X.env)) (backToKw pos (keywordEach kws X.env))) := by rfl) :
    PE X (.Call (.Attribute o m apos) (e :: es) kws pos) (tCMethNK C ks sp E ta t tk) := by
  refine ⟨fun pins s σ H Q I h => ?_⟩
  refine PySem.W.methodCall_KW (pl := pl) (thn (he.run pins s σ H _ I h) fun u s1 ⟨x, H1, I1, rx, ex, q⟩ => ?_) ht
  subst ex
  obtain rfl : u = Value.ref C := rx
  refine ClX.getmethcm_ok I1 r c fun s2 I2 => ?_
  refine PySem.W.callWith_of hpl (PySem.W.keeps_M (K := X.K) (self := .ref C) c.fi) (evalArgs_kw2 hall (thn (ha.run pos _ s2 σ H1 _ I2 q) fun us s3 ⟨vs, H2, I3, rv, q2⟩ => ?_) hst)
  refine thn (hkw.run pos _ s3 σ H2 _ I3 q2) fun ws s4 ⟨zs, H3, I4, rz, l2, q3⟩ => ⟨⟨ClX.pin_at I4, I4.kIn⟩, ?_⟩
  rw [hks]
  have rC : Vals (V.ref C :: vs) (Value.ref C :: us) := .cons rfl rv
  have z : wpAny (model X.prog X.w) X.A (call (.ref s1.heap.objs.size) ([] ++ us) (ks.zip ws)) (EP X ((s1.heap.objs.size, PySem.W.methodObj (.ref g) (.ref C)) :: pins) σ Q) X.xe s4 := by
    refine wpAny_call (PySem.W.method_call (ClX.pin_at I4) (codeAny_mono (F X.A X.stack s4 H3 (.ref C :: us) ws (.ref C :: vs) zs Q (E σ) hr I4.env0 rC rz l2 q3) fun r s' hq => ?_))
    cases r with
    | error e => exact hx σ _ H3 s4 e s' I4 hq
    | ok fl =>
      cases fl with
      | ret u => exact I4.after hq
      | next => exact False.elim hq
      | brk => exact False.elim hq
      | cont => exact False.elim hq
  exact thn z fun _ _ y => ClX.unpinE y
end
end KwS

end

section
namespace OwnC
open PySem L2 PySem.Spec PyProof.Rows
/-! ### x in o, x not in o by an own __contains__; o[i] by an own __getitem__ that may raise -/
def rInF (X : Cx) (neg : Bool) : R2 := fun x y H Q => ∃ a C dx fs CX n sp E, y = .ref a ∧ H a = some (.ins C dx fs) ∧ OwnM X CX n C "__contains__" sp E ∧ Room n X.A ∧ sp [.ref a, x] H (fun v H' => ∃ r, v = .bl r ∧ Q (.bl (if neg = true then !r else r)) H') E
theorem op_inF {X : Cx} : OpR X (compareOp .In) (rInF X false) := by
  intro pn s st H x y v u Q I rx ry told
  obtain ⟨a, C, dx, fs, CX, n, sp, E, rfl, ha, o, hr, q⟩ := told
  have eu : u = Value.ref a := ry
  subst eu
  obtain ⟨m1, J, _⟩ := ins_get I.hok ha
  obtain ⟨od, J, _⟩ := J.look
  obtain ⟨m, hF⟩ := I.fr
  obtain ⟨f, hs, hf, hcall⟩ := call_own2 o I hr I.env0 (show RelV (V.ref a) (Value.ref a) from rfl) rx q
  refine PySem.W.in_K hF I.ok.mod.kin J hs hf (wpAny_mono hcall (fun r s' z => ?_) fun _ _ e => e)
  obtain ⟨z2, H2, I2, rz, b2, rfl, qz⟩ := z
  cases rz
  exact wpAny_truthy_bool ⟨.bl _, H2, I2, rfl, qz⟩
theorem op_notInF {X : Cx} : OpR X (compareOp .NotIn) (rInF X true) := by
  intro pn s st H x y v u Q I rx ry told
  obtain ⟨a, C, dx, fs, CX, n, sp, E, rfl, ha, o, hr, q⟩ := told
  have eu : u = Value.ref a := ry
  subst eu
  obtain ⟨m1, J, _⟩ := ins_get I.hok ha
  obtain ⟨od, J, _⟩ := J.look
  obtain ⟨m, hF⟩ := I.fr
  obtain ⟨f, hs, hf, hcall⟩ := call_own2 o I hr I.env0 (show RelV (V.ref a) (Value.ref a) from rfl) rx q
  refine PySem.W.notIn_K hF I.ok.mod.kin J hs hf (wpAny_mono hcall (fun r s' z => ?_) fun _ _ e => e)
  obtain ⟨z2, H2, I2, rz, b2, rfl, qz⟩ := z
  cases rz
  exact wpAny_truthy_bool ⟨.bl _, H2, I2, rfl, qz⟩
theorem rd_inF {X : Cx} {x y : V} {H : Hp} {Q : VK} (h : ∃ a C dx fs CX n sp E, y = .ref a ∧ H a = some (.ins C dx fs) ∧ OwnM X CX n C "__contains__" sp E ∧ Room n X.A ∧ sp [.ref a, x] H (fun v H' => ∃ r, v = .bl r ∧ Q (.bl r) H') E) : rInF X false x y H Q := h
theorem rd_notInF {X : Cx} {x y : V} {H : Hp} {Q : VK} (h : ∃ a C dx fs CX n sp E, y = .ref a ∧ H a = some (.ins C dx fs) ∧ OwnM X CX n C "__contains__" sp E ∧ Room n X.A ∧ sp [.ref a, x] H (fun v H' => ∃ r, v = .bl r ∧ Q (.bl (!r)) H') E) : rInF X true x y H Q := h
section
variable {X : Cx} {pins : List (Addr × Obj)} {σ : L2.St} {H : Hp} {s : Shared}
theorem call_twoS {CX : CXT} {n : Nat} {f : Addr} {fd : FuncData} {ps : List Str} {sp : Sp} {E : XK} {A : Around} {Q : VK} {x y : V} {u v : Value} (F : FnOk X.prog X.w X.K X.mg X.base CX n f fd ps sp) (hb : Binds X.K fd ps []) (hx : PassesAt CX X σ E) (I : Inv X pins σ H s) (hr : Room n A)
    (e0 : Env0 X.prog X.w X.K X.mg X.base A X.stack s H) (rx : RelV x u) (ry : RelV y v) (q : sp [x, y] H Q E) : wpAny (model X.prog X.w) A (call (.ref f) [u, v]) (EP X pins σ Q) X.xe s := by
  have hl : [x, y].length = ps.length := F.len _ _ _ _ q
  refine wpAny_call (codeAny_mono (F.run A X.stack s H ⟨[u, v], []⟩ [u, v] [x, y] Q E hr e0 ?_ (.cons rx (.cons ry .nil)) q) fun r s2 hq => ?_)
  · have := hb s [u, v] I.kIn (by simpa using hl)
    simpa using this
  · cases r with
    | error e => exact hx pins H s e s2 I hq
    | ok fl =>
      cases fl with
      | ret w' => exact I.after hq
      | _ => exact False.elim hq
end
def tSubX (P : Program) (w : World) (K : PySem.W.Frag) (mg : Str → Option Value) (base : Heap) (CX : CXT) (n : Nat) (E : L2.St → XK) (ta tb : TE) : TE := fun σ H Q => ta σ H fun x H1 => tb σ H1 fun y H2 =>
  ∃ a C dx fs f fd ps sp, x = .ref a ∧ H2 a = some (.ins C dx fs) ∧ FnOk P w K mg base CX n f fd ps sp ∧ Binds K fd ps [] ∧ PySem.W.findIn K (.ref C) "__getitem__" = some (some (.ref f)) ∧ PySem.W.isFn K (.ref f) = true ∧ PySem.W.fnIn K f = true ∧ sp [x, y] H2 Q (E σ)
theorem rd_subX {P : Program} {w : World} {K : PySem.W.Frag} {mg : Str → Option Value} {base : Heap} {CX : CXT} {n : Nat} {E : L2.St → XK} {ta tb : TE} {σ : L2.St} {H : Hp} {Q : VK} (h : ta σ H fun x H1 => tb σ H1 fun y H2 =>
  ∃ a C dx fs f fd ps sp, x = .ref a ∧ H2 a = some (.ins C dx fs) ∧ FnOk P w K mg base CX n f fd ps sp ∧ Binds K fd ps [] ∧ PySem.W.findIn K (.ref C) "__getitem__" = some (some (.ref f)) ∧ PySem.W.isFn K (.ref f) = true ∧ PySem.W.fnIn K f = true ∧ sp [x, y] H2 Q (E σ)) : tSubX P w K mg base CX n E ta tb σ H Q := h
theorem pe_subX {X : Cx} {CX : CXT} {n : Nat} (P : Program) (w : World) (K : PySem.W.Frag) (mg : Str → Option Value) (base : Heap) {E : L2.St → XK} {a b : Expr} {ta tb : TE} {pos : Pos} (hr : Room (n + 1) X.A) (hx : ∀ σ, PassesAt CX X σ (E σ)) (ha : PE X a ta) (hb : PE X b tb)
    (e1 : X.prog = P := by rfl) (e2 : X.w = w := by rfl) (e3 : X.K = K := by rfl) (e4 : X.mg = mg := by rfl) (e5 : X.base = base := by rfl)
    (hsl : ∀ o i, subscripted b true o i = runValue (.builtin "lifetime.subscript" ⟨[o, i], []⟩) := by intro o i; with_unfolding_all rfl) : PE X (.Subscript a b pos) (tSubX P w K mg base CX n E ta tb) := by
  subst e1 e2 e3 e4 e5
  refine ⟨fun pins s σ H Q I h => ?_⟩
  refine Subscript_ (binT ha hb I h fun v u s2 x y H2 I2 rx ry q => ?_)
  obtain ⟨p, C, dx, fs, f, fd, ps, sp, rfl, hp, F, hbd, hs, hf, hfn, q⟩ := q
  have ev : v = Value.ref p := rx
  subst ev
  obtain ⟨m1, J, _⟩ := ins_get I2.hok hp
  obtain ⟨od, J, _⟩ := J.look
  obtain ⟨m, hF⟩ := I2.fr
  exact PySem.W.sub_K hF I2.ok.mod.kin J hs hfn hf (call_twoS F hbd (hx σ) I2 hr.in1 I2.env0.in1 rx ry q) (hsl _ _)
end OwnC
namespace NetL
open PySem PySem.Spec PyProof.Rows L2 Lay
/-! ### a net -/
def sel (p : It → Bool) (its : List It) (ps : List V) : List V := ((its.zip ps).filter fun q => p q.1).map (·.2)
def named (its : List It) (ps : List V) : List (Key × V) := (its.zip ps).map fun q => ((.inr q.1.nm : Key), q.2)
def netF (l r : Int) (tv ts ta dn : Addr) : List (Str × V) := [("line", .int l), ("ring", .int r), ("variables", .ref tv), ("signals", .ref ts), ("agents", .ref ta), ("_named", .ref dn)]
def NetAt (C : Cs) (N : Addr) (H : Hp) (x : Addr) (l r : Int) (its : List It) (ps : List V) : Prop := ∃ dx tv ts ta dn, H x = some (.ins N dx (netF l r tv ts ta dn)) ∧ H tv = some (.tup (sel It.isV its ps)) ∧ H ts = some (.tup (sel It.isS its ps)) ∧ H ta = some (.tup (sel It.isA its ps)) ∧
  H dn = some (.dK (named its ps)) ∧ PartsAt C H ps its
theorem NetAt.mono {C : Cs} {N : Addr} {H H' : Hp} {x : Addr} {l r : Int} {its : List It} {ps : List V} (s : Same H H') (h : NetAt C N H x l r its ps) : NetAt C N H' x l r its ps := by
  obtain ⟨dx, tv, ts, ta, dn, h1, h2, h3, h4, h5, h6⟩ := h
  exact ⟨dx, tv, ts, ta, dn, s _ _ h1, s _ _ h2, s _ _ h3, s _ _ h4, s _ _ h5, h6.mono s⟩
def lineOk (l : Int) : Prop := l ∈ ([1, 2, 4, 8, 16] : List Int)
/-- Net's __init__ with good parts; H0: ahead of the instance -/
def spNetInit (C : Cs) (N : Addr) : Sp := fun vs H Q _ => ∃ H0 x dx l r t ps its, vs = [.ref x, .int l, .int r, .ref t] ∧ H0 x = none ∧ Same H0 H ∧ H x = some (.ins N dx []) ∧ lineOk l ∧ 1 ≤ r ∧ r ≤ 4 ∧ H t = some (.tup ps) ∧ PartsAt C H0 ps its ∧ Good r its ∧ ps.length ≤ 16 ∧
  ∀ H', NetAt C N H' x l r its ps → Same H0 H' → Q .non H'
theorem sel_len (p : It → Bool) {its : List It} {ps : List V} : (sel p its ps).length ≤ ps.length := by
  unfold sel
  rw [List.length_map]
  refine Nat.le_trans (List.length_filter_le _ _) ?_
  rw [List.length_zip]
  omega
theorem zip_succ {α β : Type} {xs : List α} {ys : List β} {i : Nat} {x : α} {y : β} (hx : xs[i]? = some x) (hy : ys[i]? = some y) : (xs.take (i + 1)).zip (ys.take (i + 1)) = (xs.take i).zip (ys.take i) ++ [(x, y)] := by
  have l1 : i < xs.length := (List.getElem?_eq_some_iff.mp hx).1
  have l2 : i < ys.length := (List.getElem?_eq_some_iff.mp hy).1
  rw [take_succ hx, take_succ hy, List.zip_append (by rw [List.length_take, List.length_take]; omega)]
  rfl
theorem sel_succ (p : It → Bool) {its : List It} {ps : List V} {i : Nat} {it : It} {v : V} (hx : its[i]? = some it) (hy : ps[i]? = some v) : sel p (its.take (i + 1)) (ps.take (i + 1)) = sel p (its.take i) (ps.take i) ++ (if p it = true then [v] else []) := by
  unfold sel
  rw [zip_succ hx hy, List.filter_append, List.map_append]
  by_cases e : p it = true
  · rw [List.filter_cons_of_pos (p := fun q : It × V => p q.1) (a := (it, v)) e, if_pos e]; rfl
  · rw [List.filter_cons_of_neg (p := fun q : It × V => p q.1) (a := (it, v)) e, if_neg e]; rfl
theorem sel_parts {C : Cs} {H : Hp} (p : It → Bool) : ∀ {ps : List V} {its : List It}, PartsAt C H ps its → PartsAt C H (sel p its ps) (its.filter p)
  | _, _, .nil => .nil
  | v :: ps, it :: its, .cons r t => by
    have ih := sel_parts p t
    unfold sel at ih ⊢
    rw [List.zip_cons_cons]
    by_cases e : p it = true
    · rw [List.filter_cons_of_pos (by exact e), List.filter_cons_of_pos e]
      exact .cons r ih
    · rw [List.filter_cons_of_neg (by exact e), List.filter_cons_of_neg e]
      exact ih
theorem named_app {its its2 : List It} {ps ps2 : List V} (h : its.length = ps.length) : named (its ++ its2) (ps ++ ps2) = named its ps ++ named its2 ps2 := by
  unfold named
  rw [List.zip_append h, List.map_append]
theorem named_succ {its : List It} {ps : List V} {i : Nat} {it : It} {v : V} (hx : its[i]? = some it) (hy : ps[i]? = some v) : named (its.take (i + 1)) (ps.take (i + 1)) = named (its.take i) (ps.take i) ++ [((.inr it.nm : Key), v)] := by
  unfold named
  rw [zip_succ hx hy, List.map_append]
  rfl
theorem named_no {n : Str} : ∀ {its : List It} {ps : List V}, n ∉ its.map It.nm → valV (named its ps) (.inr n) = none
  | [], _, _ => rfl
  | _ :: _, [], _ => rfl
  | it :: its, v :: ps, h => by
    have ne : ¬ ((.inr it.nm : Key) = .inr n) := fun e => by
      injection e with e
      exact h (by rw [← e]; exact List.mem_cons_self)
    show valV (((.inr it.nm : Key), v) :: named its ps) (.inr n) = none
    rw [valV_neg (p := ((.inr it.nm : Key), v)) ne]
    exact named_no fun m => h (List.mem_cons_of_mem _ m)
theorem named_at : ∀ {its : List It} {ps : List V} {i : Nat} {it : It} {v : V}, (its.map It.nm).Nodup → its[i]? = some it → ps[i]? = some v → valV (named its ps) (.inr it.nm) = some v
  | it0 :: its, v0 :: ps, 0, it, v, _, h1, h2 => by
    obtain rfl : it0 = it := by simpa using h1
    obtain rfl : v0 = v := by simpa using h2
    exact valV_pos (p := ((.inr it0.nm : Key), v0)) rfl
  | it0 :: its, v0 :: ps, i + 1, it, v, nd, h1, h2 => by
    rw [List.map_cons, List.nodup_cons] at nd
    have h1' : its[i]? = some it := by simpa using h1
    have h2' : ps[i]? = some v := by simpa using h2
    have ne : ¬ ((.inr it0.nm : Key) = .inr it.nm) := fun e => by
      injection e with e
      exact nd.1 (by rw [e]; exact List.mem_map.mpr ⟨it, List.mem_of_getElem? h1', rfl⟩)
    show valV (((.inr it0.nm : Key), v0) :: named its ps) (.inr it.nm) = some v
    rw [valV_neg (p := ((.inr it0.nm : Key), v0)) ne]
    exact named_at nd.2 h1' h2'
  | [], _, i, _, _, _, h1, _ => by simp at h1
  | _ :: _, [], i, _, _, _, _, h2 => by simp at h2
theorem named_put {its : List It} {ps : List V} {i : Nat} {it : It} {v : V} (no : it.nm ∉ (its.take i).map It.nm) (hx : its[i]? = some it) (hy : ps[i]? = some v) : putK (named (its.take i) (ps.take i)) (.inr it.nm) v = named (its.take (i + 1)) (ps.take (i + 1)) := by
  rw [putK_new _ (named_no no), named_succ hx hy]
theorem named_len {its : List It} {ps : List V} : (named its ps).length ≤ ps.length := by
  unfold named
  rw [List.length_map, List.length_zip]
  omega
end NetL

end

section
namespace NetL
open PySem PySem.Spec PyProof.Rows L2 Lay Exv
theorem passAt0 {X : Cx} {σ : L2.St} {E : XK} : PassesAt CX0 X σ E := fun _ _ _ _ _ _ h => h.elim
/-- Net's __init__, called with line and ring -/
abbrev spInitK (C : Cs) (N : Addr) : KwS.Sp2 := fun vs zs H Q E => ∃ us rest, vs = us ++ rest ∧ us.length = 1 ∧ rest.length ≤ sizeLine ∧ ∀ p, H p = Option.none → spNetInit C N (us ++ zs ++ [V.ref p]) (upd H p (.tup rest)) Q E
abbrev spInit0 (C : Cs) (N : Addr) : KwS.Sp2 := fun vs zs H Q E => ∃ us rest, vs = us ++ rest ∧ us.length = 1 ∧ rest.length ≤ sizeLine ∧ ∀ p, H p = Option.none → spNetInit C N (us ++ [V.int 8, V.int 1] ++ [V.ref p]) (upd H p (.tup rest)) Q E
theorem mk_netX {C : Cs} {N : Addr} {H : Hp} {l r : Int} {its : List It} {ps : List V} {Q : VK} {E : XK} (lok : lineOk l) (r1 : 1 ≤ r) (r4 : r ≤ 4) (hp : PartsAt C H ps its) (hg : Good r its) (hl : ps.length ≤ 16) (q : ∀ x H', H x = none → Same H H' → NetAt C N H' x l r its ps → Q (.ref x) H') :
    ∀ x dx, H x = Option.none → H dx = Option.none → dx ≠ x → ps.length ≤ sizeLine ∧ ∀ p, (upd (upd H dx (.own x)) x (.ins N dx [])) p = Option.none → spNetInit C N [V.ref x, .int l, .int r, V.ref p] (upd (upd (upd H dx (.own x)) x (.ins N dx [])) p (.tup ps)) (fun v H2 => v = .non ∧ Q (.ref x) H2) E := by
  intro x dx hx hdx hne
  refine ⟨Nat.le_trans hl (by decide), fun p hpn => ?_⟩
  have s0 : Same H (upd (upd H dx (.own x)) x (.ins N dx [])) := Lay.Same.upd' (Lay.Same.upd hdx) (by rw [upd_ne hne.symm]; exact hx)
  have hpx : x ≠ p := fun e => by subst e; rw [upd_same] at hpn; cases hpn
  refine ⟨H, x, dx, l, r, p, ps, its, rfl, hx, s0.trans (Lay.Same.upd hpn), ?_, lok, r1, r4, upd_same, hp, hg, hl, fun H' n s => ⟨rfl, q x H' hx s n⟩⟩
  rw [upd_ne hpx]
  exact upd_same
theorem mk_net {C : Cs} {N : Addr} {H : Hp} {l r : Int} {its : List It} {ps : List V} {Q : VK} {E : XK} (lok : lineOk l) (r1 : 1 ≤ r) (r4 : r ≤ 4) (hp : PartsAt C H ps its) (hg : Good r its) (hl : ps.length ≤ 16) (q : ∀ x H', H x = none → Same H H' → NetAt C N H' x l r its ps → Q (.ref x) H') :
    KwS.TMade N (spInitK C N) E ps [.int l, .int r] H Q := by
  intro x dx hx hdx hne
  obtain ⟨h1, h2⟩ := mk_netX (E := E) lok r1 r4 hp hg hl q x dx hx hdx hne
  exact ⟨[.ref x], ps, rfl, rfl, h1, h2⟩
/-- Net.made(x, line=.., ring=..) -/
def spNetMade (C : Cs) (N : Addr) : Sp := fun vs H Q _ => ∃ a l r ps its, vs = [.ref N, .ref a, .int l, .int r] ∧ (H a = some (.tup ps) ∨ H a = some (.lst ps)) ∧ lineOk l ∧ 1 ≤ r ∧ r ≤ 4 ∧ PartsAt C H ps its ∧ Good r its ∧ ps.length ≤ 16 ∧ ∀ x H', H x = none → Same H H' → NetAt C N H' x l r its ps → Q (.ref x) H'
theorem rd_makeSK {K : PySem.W.Frag} {C : Addr} {ks : List Str} {sp : KwS.Sp2} {E : L2.St → XK} {tf te : TE} {tk : TA} {σ : L2.St} {H : Hp} {Q : VK} (h : tf σ H fun y H0 => y = .ref C ∧ te σ H0 fun a H1 => ∃ p, a = .ref p ∧ tk σ H1 fun zs H2 => ∃ xs, (SqT K H2 p xs ∨ SqL K H2 p xs) ∧ zs.length = ks.length ∧ KwS.TMade C sp (E σ) xs zs H2 Q) : KwS.tMakeSK K C ks sp E tf te tk σ H Q := h
theorem rd_cmethNK {C : Addr} {ks : List Str} {sp : KwS.Sp2} {E : L2.St → XK} {ta : TE} {t tk : TA} {σ : L2.St} {H : Hp} {Q : VK} (h : ta σ H fun x H1 => x = .ref C ∧ t σ H1 fun vs H2 => tk σ H2 fun zs H3 => zs.length = ks.length ∧ sp (.ref C :: vs) zs H3 Q (E σ)) : KwS.tCMethNK C ks sp E ta t tk σ H Q := h
def hasNm (its : List It) : V → Bool
  | .str n => decide (n ∈ its.map It.nm)
  | _ => false
theorem named_has {n : Str} {its : List It} {ps : List V} (h : ps.length = its.length) : (valV (named its ps) (.inr n)).isSome = decide (n ∈ its.map It.nm) := by
  induction its generalizing ps with
  | nil => rfl
  | cons it its ih =>
    cases ps with
    | nil => cases h
    | cons v ps =>
      by_cases e : it.nm = n
      · have z : valV (((.inr it.nm : Key), v) :: named its ps) (.inr n) = some v := by rw [← e]; exact valV_pos (p := ((.inr it.nm : Key), v)) rfl
        show (valV (((.inr it.nm : Key), v) :: named its ps) (.inr n)).isSome = _
        rw [z, decide_eq_true]
        · rfl
        · rw [← e]; exact List.mem_cons_self
      · have ne : ¬ ((.inr it.nm : Key) = .inr n) := fun z => e (by injection z)
        show (valV (((.inr it.nm : Key), v) :: named its ps) (.inr n)).isSome = _
        rw [valV_neg (p := ((.inr it.nm : Key), v)) ne, ih (Nat.succ.inj h), List.map_cons]
        by_cases m : n ∈ its.map It.nm
        · rw [decide_eq_true m, decide_eq_true (List.mem_cons_of_mem _ m)]
        · rw [decide_eq_false m, decide_eq_false fun z => (List.mem_cons.mp z).elim (fun z => e z.symm) m]
def spContains (C : Cs) (N : Addr) : Sp := fun vs H Q _ => ∃ x l r its ps v, vs = [.ref x, v] ∧ NetAt C N H x l r its ps ∧ Kz H v ∧ Q (.bl (hasNm its v)) H
def spGetName (C : Cs) (N EN : Addr) : Sp := fun vs H Q E => ∃ x l r its ps v, vs = [.ref x, v] ∧ NetAt C N H x l r its ps ∧ Kz H v ∧ (its.map It.nm).Nodup ∧
  (hasNm its v = false → ErrW EN E H [("name", v)]) ∧ ∀ (i : Nat) (it : It) (p : V), v = .str it.nm → its[i]? = some it → ps[i]? = some p → Q p H
def spNetLen (C : Cs) (N : Addr) : Sp := fun vs H Q _ => ∃ x l r its ps, vs = [.ref x] ∧ NetAt C N H x l r its ps ∧ Q (.int ((its.filter It.isA).length : Nat)) H
theorem sel_length {C : Cs} {H : Hp} {ps : List V} {its : List It} (p : It → Bool) (h : PartsAt C H ps its) : (sel p its ps).length = (its.filter p).length := (sel_parts p h).length
end NetL

end

section
/-! NetG: what the laws about nets draw: items, and the nets they tell -/
namespace NetG
open PySem PySem.Spec PyProof.Rows Lay NetL
open L2 hiding It
/-- what stands off S stays -/
def Stay (S : List Addr) (H H' : Hp) : Prop := ∀ b o, b ∉ S → H b = some o → H' b = some o
def Lists (S : List Addr) (H : Hp) : Prop := ∀ a ∈ S, ∃ xs, H a = some (.lst xs)
theorem Stay.refl {S : List Addr} {H : Hp} : Stay S H H := fun _ _ _ e => e
theorem Stay.trans {S : List Addr} {H H' H'' : Hp} (h : Stay S H H') (g : Stay S H' H'') : Stay S H H'' := fun b o n e => g b o n (h b o n e)
theorem Stay.of {S : List Addr} {H H' : Hp} (h : Same H H') : Stay S H H' := fun b o _ e => h b o e
theorem Stay.keep {p : Addr} {S : List Addr} {H H' : Hp} (m : p ∈ S) (h : Keep p H H') : Stay S H H' := fun b o n e => h b o (fun z => n (by rw [z]; exact m)) e
theorem Stay.upd {a : Addr} {S : List Addr} {H : Hp} {o : HO} (m : a ∈ S) : Stay S H (upd H a o) := fun b o' n e => by
  rw [upd_ne (fun z => n (by rw [z]; exact m))]
  exact e
theorem Stay.to_keep {p : Addr} {S : List Addr} {H0 H H' : Hp} (k : Keep p H0 H) (n : ∀ a ∈ S, a ≠ p → H0 a = none) (h : Stay S H H') : Keep p H0 H' := fun b o hb e =>
  h b o (fun m => by have z := n b m hb; rw [z] at e; cases e) (k b o hb e)
theorem lists_tup {S : List Addr} {H : Hp} (h : Lists S H) {b : Addr} {l : List V} (e : H b = some (.tup l)) : b ∉ S := fun m => by
  obtain ⟨xs, z⟩ := h b m
  rw [z] at e
  cases e
theorem rows_stay {S : List Addr} {H H' : Hp} {xs : List V} {ls : List (List V)} (h : Lists S H) (s : Stay S H H') (r : RowsAt H xs ls) : RowsAt H' xs ls := r.same fun b l e => s b _ (lists_tup h e) e
/-- an item of a law: a tuple; its list lies off S -/
def ItemAt (S : List Addr) (H : Hp) (v : V) : It → Prop
  | .vr z s ats => ∃ a b, v = .ref a ∧ H a = some (.tup [.str "var", .str z, .int s, .ref b]) ∧ H b = some (.lst (ats.map V.int)) ∧ b ∉ S
  | .sg z t => ∃ a, v = .ref a ∧ H a = some (.tup [.str "sig", .str z, .int t])
  | .ag z k ls => ∃ a b ys, v = .ref a ∧ H a = some (.tup [.str "agent", .str z, .int k, .ref b]) ∧ H b = some (.lst ys) ∧ b ∉ S ∧ RowsAt H ys ls
theorem ItemAt.stay {S : List Addr} {H H' : Hp} {v : V} (h : Lists S H) (s : Stay S H H') : ∀ {it : It}, ItemAt S H v it → ItemAt S H' v it
  | .vr _ _ _, ⟨a, b, e, h1, h2, n⟩ => ⟨a, b, e, s _ _ (lists_tup h h1) h1, s _ _ n h2, n⟩
  | .sg _ _, ⟨a, e, h1⟩ => ⟨a, e, s _ _ (lists_tup h h1) h1⟩
  | .ag _ _ _, ⟨a, b, ys, e, h1, h2, n, r⟩ => ⟨a, b, ys, e, s _ _ (lists_tup h h1) h1, s _ _ n h2, n, rows_stay h s r⟩
theorem ItemAt.mono {S : List Addr} {H H' : Hp} {v : V} (s : Same H H') : ∀ {it : It}, ItemAt S H v it → ItemAt S H' v it
  | .vr _ _ _, ⟨a, b, e, h1, h2, n⟩ => ⟨a, b, e, s _ _ h1, s _ _ h2, n⟩
  | .sg _ _, ⟨a, e, h1⟩ => ⟨a, e, s _ _ h1⟩
  | .ag _ _ _, ⟨a, b, ys, e, h1, h2, n, r⟩ => ⟨a, b, ys, e, s _ _ h1, s _ _ h2, n, r.mono s⟩
theorem ItemAt.off {S S' : List Addr} {H : Hp} {v : V} (h : ∀ b o, b ∉ S → H b = some o → b ∉ S') : ∀ {it : It}, ItemAt S H v it → ItemAt S' H v it
  | .vr _ _ _, ⟨a, b, e, h1, h2, n⟩ => ⟨a, b, e, h1, h2, h b _ n h2⟩
  | .sg _ _, ⟨a, e, h1⟩ => ⟨a, e, h1⟩
  | .ag _ _ _, ⟨a, b, ys, e, h1, h2, n, r⟩ => ⟨a, b, ys, e, h1, h2, h b _ n h2, r⟩
abbrev ItemsAt (S : List Addr) (H : Hp) : List V → List It → Prop := Paired (ItemAt S H)
theorem ItemsAt.stay {S : List Addr} {H H' : Hp} {vs : List V} {its : List It} (h : Lists S H) (s : Stay S H H') (r : ItemsAt S H vs its) : ItemsAt S H' vs its := Paired.mono (fun _ _ => ItemAt.stay h s) r
theorem ItemsAt.mono {S : List Addr} {H H' : Hp} {vs : List V} {its : List It} (s : Same H H') (r : ItemsAt S H vs its) : ItemsAt S H' vs its := Paired.mono (fun _ _ => ItemAt.mono s) r
theorem ItemsAt.off {S S' : List Addr} {H : Hp} {vs : List V} {its : List It} (h : ∀ b o, b ∉ S → H b = some o → b ∉ S') (r : ItemsAt S H vs its) : ItemsAt S' H vs its := Paired.mono (fun _ _ => ItemAt.off h) r
/-- off a new address, too -/
theorem off_new {S : List Addr} {H : Hp} {q : Addr} (hq : H q = none) : ∀ b o, b ∉ S → H b = some o → b ∉ q :: S := fun b o n e m => by
  rcases List.mem_cons.mp m with z | m
  · rw [z, hq] at e; cases e
  · exact n m
theorem off_sub {S S' : List Addr} {H : Hp} (h : ∀ a ∈ S', a ∈ S) : ∀ b o, b ∉ S → H b = some o → b ∉ S' := fun b o n _ m => n (h b m)
/-! ### steps of memory -/
def AccOk (k : Int) (vits : List It) (l : List V) : Prop := ∃ w n s f e sz ats, l = [.str w, .str n, .int s, .int f, .int e] ∧ It.vr n sz ats ∈ vits ∧ e < sz ∧ GoodStep (wsK k) l
def upWs : List Str := ["read", "write", "clean", "drop", "flush", "get", "put"]
theorem up_word {k d : Int} (h0 : 0 ≤ d) (k0 : 0 ≤ k) (h1 : d < 2 + 5 * (if k > 0 then 1 else 0)) : ∃ w : Str, upWs[d.toNat]? = some w ∧ w ∈ wsK k ∧ w ∈ memWords := by
  by_cases hk : k > 0
  · rw [if_pos hk] at h1
    have e : wsK k = cacheWs := by unfold wsK; rw [if_neg (by omega)]
    rw [e]
    obtain rfl | rfl | rfl | rfl | rfl | rfl | rfl : d = 0 ∨ d = 1 ∨ d = 2 ∨ d = 3 ∨ d = 4 ∨ d = 5 ∨ d = 6 := by omega
    all_goals exact ⟨_, rfl, by decide +kernel, by decide +kernel⟩
  · rw [if_neg hk] at h1
    have e : wsK k = plainWs := by unfold wsK; rw [if_pos (by omega)]
    rw [e]
    obtain rfl | rfl : d = 0 ∨ d = 1 := by omega
    all_goals exact ⟨_, rfl, by decide +kernel, by decide +kernel⟩
def VarsOf (vits : List It) : Prop := ∀ it ∈ vits, ∃ z s ats, it = .vr z s ats ∧ 1 ≤ s ∧ s ≤ 8 ∧ nameOk z = true
/-- steps of an agent -/
def spSteps : Sp := fun vs H Q _ => ∃ (p : Addr) (n : Nat) (c : Addr) (k : Int) (vl sg : Addr) (vvs : List V) (vits : List It) (ys : List V) (ss : List (List V)), vs = [.ref p, .int k, .ref vl, .ref sg] ∧ PenAt c H p n ∧ n + 40 < 100000 ∧ 0 ≤ k ∧ k ≤ 2 ∧
  H vl = some (.lst vvs) ∧ vl ≠ p ∧ ItemsAt [p] H vvs vits ∧ VarsOf vits ∧ 1 ≤ vits.length ∧ vits.length ≤ 6 ∧ H sg = some (.lst ys) ∧ sg ≠ p ∧ RowsAt H ys ss ∧ ss.length ≤ 12 ∧
  ∀ r zs ls acc H', H r = none → H' r = some (.lst zs) → RowsAt H' zs ls → ls.Perm (ss ++ acc) → 1 ≤ acc.length → acc.length ≤ 4 → (∀ l ∈ acc, AccOk k vits l) → PenAt c H' p (n + 40) → Keep p H H' → Q (.ref r) H'
theorem ins_perm {α : Type} (xs ys : List α) (a : α) (n : Nat) (h : xs.Perm ys) : (xs.take n ++ [a] ++ xs.drop n).Perm (ys ++ [a]) := by
  have h1 : (xs.take n ++ [a] ++ xs.drop n).Perm (a :: xs) := by
    rw [List.append_assoc]
    refine List.perm_middle.trans ?_
    show (a :: (xs.take n ++ xs.drop n)).Perm (a :: xs)
    rw [List.take_append_drop]
  refine h1.trans ((List.Perm.cons a h).trans ?_)
  exact (List.perm_append_singleton a ys).symm
end NetG

end

section
namespace NetG
open PySem PySem.Spec PyProof.Rows Lay NetL
open L2 hiding It
def vN (i : Nat) : Str := (["va", "vb", "vc"] : List Str).getD i "va"
def sN (i : Nat) : Str := (["sa", "sb", "sc", "sd", "se", "sf"] : List Str).getD i "sa"
def aN (i : Nat) : Str := (["aa", "ab", "ac", "ad"] : List Str).getD i "aa"
theorem sign_v {i : Nat} (h : i < 3) : ∃ c, ("abc" : Str).cps.toList[i]? = some c ∧ ("v" : Str) ++ (⟨#[c]⟩ : Str) = vN i := by
  obtain rfl | rfl | rfl : i = 0 ∨ i = 1 ∨ i = 2 := by omega
  all_goals exact ⟨_, rfl, by decide +kernel⟩
theorem sign_s {i : Nat} (h : i < 6) : ∃ c, ("abcdef" : Str).cps.toList[i]? = some c ∧ ("s" : Str) ++ (⟨#[c]⟩ : Str) = sN i := by
  obtain rfl | rfl | rfl | rfl | rfl | rfl : i = 0 ∨ i = 1 ∨ i = 2 ∨ i = 3 ∨ i = 4 ∨ i = 5 := by omega
  all_goals exact ⟨_, rfl, by decide +kernel⟩
theorem sign_a {i : Nat} (h : i < 4) : ∃ c, ("abcd" : Str).cps.toList[i]? = some c ∧ ("a" : Str) ++ (⟨#[c]⟩ : Str) = aN i := by
  obtain rfl | rfl | rfl | rfl : i = 0 ∨ i = 1 ∨ i = 2 ∨ i = 3 := by omega
  all_goals exact ⟨_, rfl, by decide +kernel⟩
theorem vN_ok {i : Nat} (h : i < 3) : nameOk (vN i) = true := by
  obtain rfl | rfl | rfl : i = 0 ∨ i = 1 ∨ i = 2 := by omega
  all_goals decide +kernel
theorem sN_ok {i : Nat} (h : i < 6) : nameOk (sN i) = true := by
  obtain rfl | rfl | rfl | rfl | rfl | rfl : i = 0 ∨ i = 1 ∨ i = 2 ∨ i = 3 ∨ i = 4 ∨ i = 5 := by omega
  all_goals decide +kernel
theorem aN_ok {i : Nat} (h : i < 4) : nameOk (aN i) = true := by
  obtain rfl | rfl | rfl | rfl : i = 0 ∨ i = 1 ∨ i = 2 ∨ i = 3 := by omega
  all_goals decide +kernel
theorem range_sub {m n : Nat} (h : m ≤ n) : (List.range m).Sublist (List.range n) := by
  have e : List.range m = (List.range n).take m := by rw [List.take_range, Nat.min_eq_left h]
  rw [e]
  exact List.take_sublist _ _
theorem names_nodup {i j k : Nat} (hi : i ≤ 3) (hj : j ≤ 6) (hk : k ≤ 4) : ((List.range i).map vN ++ (List.range j).map sN ++ (List.range k).map aN).Nodup := by
  have all : ((List.range 3).map vN ++ (List.range 6).map sN ++ (List.range 4).map aN).Nodup := by decide +kernel
  exact List.Nodup.sublist ((((range_sub hi).map _).append ((range_sub hj).map _)).append ((range_sub hk).map _)) all
/-! ### variables -/
def Gap (s : Int) (ns : List Int) : Prop := ns.Pairwise fun a b => s ≤ a - b ∨ s ≤ b - a
def SpotsG (lo s hi : Int) (ns : List Int) : Prop := Gap s ns ∧ ∀ a ∈ ns, lo ≤ a ∧ a + s ≤ hi
theorem SpotsG.nil {lo s hi : Int} : SpotsG lo s hi [] := ⟨.nil, fun _ h => nomatch h⟩
theorem SpotsG.app {lo s hi hi' : Int} {ns : List Int} (h : SpotsG lo s hi ns) (h0 : lo ≤ hi) (h1 : hi + s ≤ hi') (hs : 0 ≤ s) : SpotsG lo s hi' (ns ++ [hi]) := by
  refine ⟨List.pairwise_append.mpr ⟨h.1, List.pairwise_singleton _ _, fun a ha b hb => ?_⟩, fun a ha => ?_⟩
  · rw [List.mem_singleton] at hb
    subst hb
    have := (h.2 a ha).2
    exact .inr (by omega)
  · rcases List.mem_append.mp ha with ha | ha
    · have := h.2 a ha
      exact ⟨this.1, by omega⟩
    · rw [List.mem_singleton] at ha
      subst ha
      exact ⟨h0, h1⟩
theorem SpotsG.perm {lo s hi : Int} {ns ms : List Int} (p : ms.Perm ns) (h : SpotsG lo s hi ns) : SpotsG lo s hi ms :=
  ⟨h.1.perm p.symm (fun {a b} e => e.symm), fun a ha => h.2 a (p.mem_iff.mp ha)⟩
theorem row_mem {s : Nat} {a b : Int} (h : b ∈ row s a) : a ≤ b ∧ b < a + s := by
  unfold row at h
  obtain ⟨i, hi, rfl⟩ := List.mem_map.mp h
  rw [List.mem_range] at hi
  omega
theorem row_nodup (s : Nat) (a : Int) : (row s a).Nodup := by
  unfold row
  refine List.pairwise_map.mpr (List.nodup_range.imp fun {x y} n e => n (by omega))
theorem gap_bytes {s : Int} {ns : List Int} (hs : 0 ≤ s) (h : Gap s ns) : (ns.flatMap (row s.toNat)).Nodup := by
  induction ns with
  | nil => exact .nil
  | cons a ns ih =>
    unfold Gap at h
    rw [List.pairwise_cons] at h
    rw [List.flatMap_cons]
    refine List.nodup_append.mpr ⟨row_nodup _ _, ih h.2, fun x hx y hy e => ?_⟩
    obtain ⟨b, hb, hyb⟩ := List.mem_flatMap.mp hy
    have r1 := row_mem hx
    have r2 := row_mem hyb
    have r3 := h.1 b hb
    omega
structure VarsG (ring : Int) (i : Nat) (free : Int) (its : List It) : Prop where
  len : its.length = i
  nm : its.map It.nm = (List.range i).map vN
  ok : ∀ it ∈ its, ∃ z s ats, it = .vr z s ats ∧ 1 ≤ s ∧ s ≤ 8 ∧ nameOk z = true ∧ 1 ≤ ats.length ∧ ats.length ≤ 4 ∧ ((ats.length : Int) = 1 ∨ (ats.length : Int) = ring) ∧ SpotsG 0 s free ats
  nd : (its.flatMap It.bytes).Nodup
theorem VarsG.nil {ring free : Int} : VarsG ring 0 free [] := ⟨rfl, rfl, (fun _ h => nomatch h), List.Pairwise.nil⟩
theorem VarsG.add {ring free free' s : Int} {i : Nat} {its : List It} {ns : List Int} (h : VarsG ring i free its) (hi : i < 3) (h0 : 0 ≤ free) (hf : free ≤ free') (s1 : 1 ≤ s) (s8 : s ≤ 8) (l1 : 1 ≤ ns.length) (l4 : ns.length ≤ 4) (lr : (ns.length : Int) = 1 ∨ (ns.length : Int) = ring)
    (sp : SpotsG free s free' ns) : VarsG ring (i + 1) free' (its ++ [.vr (vN i) s ns]) where
  len := by rw [List.length_append, h.len]; rfl
  nm := by rw [List.map_append, h.nm, List.range_succ, List.map_append]; rfl
  ok it m := by
    rcases List.mem_append.mp m with m | m
    · obtain ⟨z, s, ats, e, a1, a2, a3, a4, a5, a6, a7⟩ := h.ok it m
      exact ⟨z, s, ats, e, a1, a2, a3, a4, a5, a6, a7.1, fun a ha => ⟨(a7.2 a ha).1, by have := (a7.2 a ha).2; omega⟩⟩
    · rw [List.mem_singleton] at m
      exact ⟨_, _, _, m, s1, s8, vN_ok hi, l1, l4, lr, sp.1, fun a ha => ⟨by have := (sp.2 a ha).1; omega, (sp.2 a ha).2⟩⟩
  nd := by
    rw [List.flatMap_append]
    refine List.nodup_append.mpr ⟨h.nd, ?_, fun x hx y hy e => ?_⟩
    · rw [List.flatMap_cons, List.flatMap_nil, List.append_nil, bytes_vr]
      exact gap_bytes (by omega) sp.1
    · subst e
      obtain ⟨it, im, hx⟩ := List.mem_flatMap.mp hx
      obtain ⟨z, s0, ats, rfl, a1, a2, a3, a4, a5, a6, a7⟩ := h.ok it im
      rw [bytes_vr] at hx
      obtain ⟨a, ha, hx⟩ := List.mem_flatMap.mp hx
      have r1 := row_mem hx
      have r2 := (a7.2 a ha).2
      rw [List.flatMap_cons, List.flatMap_nil, List.append_nil, bytes_vr] at hy
      obtain ⟨b, hb, hy⟩ := List.mem_flatMap.mp hy
      have r3 := row_mem hy
      have r4 := (sp.2 b hb).1
      omega
theorem wants_ok {z : Str} {s : Int} {ns : List Int} (hz : nameOk z = true) (h1 : 1 ≤ s) (h8 : s ≤ 8) (l1 : 1 ≤ ns.length) (l4 : ns.length ≤ 4) (h : ∀ a ∈ ns, 0 ≤ a ∧ a + s ≤ 1024) (gp : Gap s ns) : wants (.str z) (.int s) (ns.map V.int) = none := by
  have hw : within (.int s) 1 8 = true := by
    show (decide (1 ≤ s) && decide (s ≤ 8)) = true
    rw [decide_eq_true h1, decide_eq_true h8]; rfl
  refine wants_none hz hw (by rw [List.length_map, decide_eq_true l1, decide_eq_true l4]; rfl) (fst_none fun j hj => ?_) (fst_none fun j hj => ?_)
  · rw [List.length_map] at hj
    unfold aBad
    rw [List.getElem?_map, List.getElem?_eq_getElem hj]
    have := h _ (List.getElem_mem hj)
    show (!(decide (0 ≤ ns[j]) && decide (ns[j] ≤ 1024 - s))) = false
    rw [decide_eq_true this.1, decide_eq_true (by omega)]; rfl
  · rw [List.length_map] at hj
    unfold bBad
    rw [List.getElem?_map, List.getElem?_eq_getElem hj]
    show ((ns.map V.int).take j).any (near s (.int ns[j])) = false
    rw [← List.map_take, List.any_map, List.any_eq_false]
    intro x hx
    obtain ⟨i, hi, rfl⟩ := List.getElem_of_mem hx
    rw [List.length_take] at hi
    have e := List.pairwise_iff_getElem.mp gp i j (by omega) hj (by omega)
    rw [List.getElem_take]
    show ¬ decide ((if ns[j] - ns[i] < 0 then -(ns[j] - ns[i]) else ns[j] - ns[i]) < s) = true
    rw [decide_eq_true_iff]
    split <;> omega
/-! ### signals -/
def rowsS (j : Nat) : List (List V) := (List.range j).flatMap fun i => [[V.str "post", .str (sN i)], [V.str "wait", .str (sN i)]]
theorem rowsS_succ (j : Nat) : rowsS (j + 1) = rowsS j ++ [[V.str "post", .str (sN j)], [V.str "wait", .str (sN j)]] := by
  unfold rowsS
  rw [List.range_succ, List.flatMap_append, List.flatMap_cons, List.flatMap_nil, List.append_nil]
structure SigsG (j : Nat) (its : List It) : Prop where
  len : its.length = j
  nm : its.map It.nm = (List.range j).map sN
  ok : ∀ it ∈ its, ∃ z t, it = .sg z t ∧ 0 ≤ t ∧ t ≤ 3
theorem SigsG.nil : SigsG 0 [] := ⟨rfl, rfl, fun _ h => nomatch h⟩
theorem SigsG.add {j : Nat} {its : List It} {t : Int} (h : SigsG j its) (t0 : 0 ≤ t) (t3 : t ≤ 3) : SigsG (j + 1) (its ++ [.sg (sN j) t]) where
  len := by rw [List.length_append, h.len]; rfl
  nm := by rw [List.map_append, h.nm, List.range_succ, List.map_append]; rfl
  ok it m := by
    rcases List.mem_append.mp m with m | m
    · exact h.ok it m
    · rw [List.mem_singleton] at m
      exact ⟨_, _, m, t0, t3⟩
/-- lists of steps, each at an address of its own -/
def HeapsAt (H : Hp) (bs : List Addr) (lss : List (List (List V))) : Prop := bs.length = lss.length ∧ bs.Nodup ∧ ∀ (i : Nat) (b : Addr) (ls : List (List V)), bs[i]? = some b → lss[i]? = some ls → ∃ ys, H b = some (.lst ys) ∧ RowsAt H ys ls
theorem HeapsAt.lists {H : Hp} {bs : List Addr} {lss : List (List (List V))} (h : HeapsAt H bs lss) : Lists bs H := fun a m => by
  obtain ⟨i, hi, e⟩ := List.getElem_of_mem m
  obtain ⟨ys, h1, _⟩ := h.2.2 i a (lss[i]'(by rw [← h.1]; exact hi)) (by rw [List.getElem?_eq_getElem hi, e]) (List.getElem?_eq_getElem (by rw [← h.1]; exact hi))
  exact ⟨ys, h1⟩
theorem HeapsAt.stay {S : List Addr} {H H' : Hp} {bs : List Addr} {lss : List (List (List V))} (h : HeapsAt H bs lss) (hS : Lists S H) (n : ∀ b ∈ bs, b ∉ S) (s : Stay S H H') : HeapsAt H' bs lss :=
  ⟨h.1, h.2.1, fun i b ls e1 e2 => by
    obtain ⟨ys, h1, h2⟩ := h.2.2 i b ls e1 e2
    exact ⟨ys, s _ _ (n b (List.mem_of_getElem? e1)) h1, rows_stay hS s h2⟩⟩
theorem HeapsAt.mono {H H' : Hp} {bs : List Addr} {lss : List (List (List V))} (h : HeapsAt H bs lss) (s : Same H H') : HeapsAt H' bs lss :=
  ⟨h.1, h.2.1, fun i b ls e1 e2 => by
    obtain ⟨ys, h1, h2⟩ := h.2.2 i b ls e1 e2
    exact ⟨ys, s _ _ h1, h2.mono s⟩⟩
theorem HeapsAt.put {H : Hp} {bs : List Addr} {lss : List (List (List V))} {d : Nat} {b t : Addr} {ls : List (List V)} {ys : List V} {l : List V} (h : HeapsAt H bs lss) (e1 : bs[d]? = some b) (e2 : lss[d]? = some ls) (hb : H b = some (.lst ys)) (hr : RowsAt H ys ls) (ht : H t = some (.tup l)) :
    HeapsAt (upd H b (.lst (ys ++ [.ref t]))) bs (lss.set d (ls ++ [l])) := by
  have hd : d < lss.length := (List.getElem?_eq_some_iff.mp e2).1
  have tup : ∀ c l', H c = some (.tup l') → (upd H b (.lst (ys ++ [.ref t]))) c = some (.tup l') := fun c l' e => by
    rw [upd_ne (fun z => by subst z; rw [hb] at e; cases e)]
    exact e
  refine ⟨by rw [List.length_set]; exact h.1, h.2.1, fun i b' ls' g1 g2 => ?_⟩
  by_cases e : i = d
  · subst e
    rw [e1] at g1
    cases g1
    rw [List.getElem?_set_self hd] at g2
    cases g2
    exact ⟨_, upd_same, (hr.same tup).append (.cons (tup _ _ ht) .nil)⟩
  · rw [List.getElem?_set_ne (Ne.symm e)] at g2
    obtain ⟨ys', h1, h2⟩ := h.2.2 i b' ls' g1 g2
    have nb : b' ≠ b := fun z => by
      subst z
      have tk : ∀ {i j : Nat} {z : Addr}, bs[i]? = some z → bs[j]? = some z → i < j → False := fun {i j z} a1 a2 lt =>
        not_take h.2.1 a2 (List.mem_of_getElem? (by rw [List.getElem?_take, if_pos lt]; exact a1))
      rcases Nat.lt_or_gt_of_ne e with lt | gt
      · exact tk g1 e1 lt
      · exact tk e1 g1 gt
    exact ⟨ys', by rw [upd_ne nb]; exact h1, h2.same tup⟩
theorem flat_put {α : Type} : ∀ {lss : List (List α)} {d : Nat} {ls : List α} (l : α), lss[d]? = some ls → (lss.set d (ls ++ [l])).flatten.Perm (lss.flatten ++ [l])
  | [], d, ls, l, h => by simp at h
  | x :: r, 0, ls, l, h => by
    obtain rfl : x = ls := by simpa using h
    rw [List.set_cons_zero, List.flatten_cons, List.flatten_cons, List.append_assoc, List.append_assoc]
    exact List.Perm.append_left x List.perm_append_comm
  | x :: r, d + 1, ls, l, h => by
    rw [List.set_cons_succ, List.flatten_cons, List.flatten_cons, List.append_assoc]
    exact List.Perm.append_left x (flat_put l (by simpa using h))
/-! ### agents -/
structure AgsG (vits : List It) (lss : List (List (List V))) (k : Nat) (its : List It) : Prop where
  len : its.length = k
  nm : its.map It.nm = (List.range k).map aN
  ok : ∀ (i : Nat) (it : It), its[i]? = some it → ∃ z kd ls ss acc, it = .ag z kd ls ∧ lss[i]? = some ss ∧ 0 ≤ kd ∧ kd ≤ 2 ∧ nameOk z = true ∧ ls.Perm (ss ++ acc) ∧ 1 ≤ acc.length ∧ acc.length ≤ 4 ∧ ∀ l ∈ acc, AccOk kd vits l
theorem AgsG.nil {vits : List It} {lss : List (List (List V))} : AgsG vits lss 0 [] := ⟨rfl, rfl, fun i it h => by simp at h⟩
theorem AgsG.add {vits : List It} {lss : List (List (List V))} {k : Nat} {its : List It} {kd : Int} {ls ss acc : List (List V)} (h : AgsG vits lss k its) (hk : k < 4) (e : lss[k]? = some ss) (k0 : 0 ≤ kd) (k2 : kd ≤ 2) (p : ls.Perm (ss ++ acc)) (a1 : 1 ≤ acc.length) (a4 : acc.length ≤ 4) (ok : ∀ l ∈ acc, AccOk kd vits l) :
    AgsG vits lss (k + 1) (its ++ [.ag (aN k) kd ls]) where
  len := by rw [List.length_append, h.len]; rfl
  nm := by rw [List.map_append, h.nm, List.range_succ, List.map_append]; rfl
  ok i it m := by
    by_cases hi : i < its.length
    · rw [List.getElem?_append_left hi] at m
      exact h.ok i it m
    · rw [List.getElem?_append_right (by omega)] at m
      have : i - its.length = 0 := by
        cases hh : i - its.length with
        | zero => rfl
        | succ q => rw [hh] at m; simp at m
      rw [this] at m
      have e2 : It.ag (aN k) kd ls = it := by simpa using m
      have e3 : i = k := by have := h.len; omega
      subst e3
      exact ⟨_, _, _, ss, acc, e2.symm, e, k0, k2, aN_ok hk, p, a1, a4, ok⟩
end NetG

end

section
namespace NetG
open PySem PySem.Spec PyProof.Rows Lay NetL
open L2 hiding It
structure GenOk (ring : Int) (its : List It) : Prop where
  good : NetL.Good ring its
  var : ∀ z s ats, It.vr z s ats ∈ its → Gap s ats ∧ ∀ a ∈ ats, 0 ≤ a ∧ a + s ≤ 1024
  len : its.length ≤ 13
theorem filt_none {p : It → Bool} {l : List It} (h : ∀ it ∈ l, p it = false) : l.filter p = [] := List.filter_eq_nil_iff.mpr fun it m => by rw [h it m]; decide
theorem flat_none {β : Type} {f : It → List β} {l : List It} (h : ∀ it ∈ l, f it = []) : l.flatMap f = [] := List.flatMap_eq_nil_iff.mpr h
theorem cnt_flat {l : List V} : ∀ {xs : List It} {lss : List (List (List V))}, xs.length = lss.length → (∀ (i : Nat) (it : It), xs[i]? = some it → ∃ ss, lss[i]? = some ss ∧ it.ls.count l = ss.count l) → (xs.flatMap It.ls).count l = lss.flatten.count l
  | [], [], _, _ => rfl
  | x :: xs, s :: lss, hl, h => by
    obtain ⟨ss, e, c⟩ := h 0 x rfl
    obtain rfl : s = ss := by simpa using e
    rw [List.flatMap_cons, List.flatten_cons, List.count_append, List.count_append, c, cnt_flat (Nat.succ.inj hl) fun i it e => h (i + 1) it (by simpa using e)]
  | [], _ :: _, hl, _ => by cases hl
  | _ :: _, [], hl, _ => by cases hl
theorem rows_cnt : ∀ j < 7, ∀ i < 6, i < j → (rowsS j).count [V.str "post", .str (sN i)] = 1 ∧ (rowsS j).count [V.str "wait", .str (sN i)] = 1 := by decide +kernel
theorem rows_len (j : Nat) : (rowsS j).length = 2 * j := by
  induction j with
  | zero => rfl
  | succ j ih => rw [rowsS_succ, List.length_append, ih]; show 2 * j + 2 = _; omega
theorem rows_mem {j : Nat} {l : List V} (h : l ∈ rowsS j) : ∃ (i : Nat) (w : Str), i < j ∧ (w = "post" ∨ w = "wait") ∧ l = [V.str w, .str (sN i)] := by
  unfold rowsS at h
  obtain ⟨i, hi, m⟩ := List.mem_flatMap.mp h
  rw [List.mem_range] at hi
  rcases List.mem_cons.mp m with e | m
  · exact ⟨i, "post", hi, .inl rfl, e⟩
  · rw [List.mem_singleton] at m
    exact ⟨i, "wait", hi, .inr rfl, m⟩
theorem SigsG.at_ {j : Nat} {its : List It} (h : SigsG j its) {i : Nat} (hi : i < j) : ∃ t, It.sg (sN i) t ∈ its := by
  have hl := h.len
  have m : its[i]'(by omega) ∈ its := List.getElem_mem _
  obtain ⟨z, t, e, _⟩ := h.ok _ m
  have en : (its.map It.nm)[i]? = some (sN i) := by rw [h.nm, List.getElem?_map, List.getElem?_range hi]; rfl
  rw [List.getElem?_map, List.getElem?_eq_getElem (by omega), e] at en
  have ez : z = sN i := Option.some.inj en
  rw [ez] at e
  exact ⟨t, by rw [← e]; exact m⟩
theorem genOk {ring free : Int} {i j m : Nat} {vits sits agits : List It} {lss : List (List (List V))} (hv : VarsG ring i free vits) (hi : i ≤ 3) (hf : free ≤ 1024) (hs : SigsG j sits) (hj : j ≤ 6) (hp : lss.flatten.Perm (rowsS j)) (hm : lss.length = m) (m4 : m ≤ 4) (ha : AgsG vits lss m agits) :
    GenOk ring (vits ++ sits ++ agits) := by
  have isv : ∀ it ∈ vits, it.isV = true ∧ it.isS = false ∧ it.isA = false ∧ it.ls = [] := fun it im => by
    obtain ⟨z, s, ats, rfl, _⟩ := hv.ok it im
    exact ⟨rfl, rfl, rfl, rfl⟩
  have iss : ∀ it ∈ sits, it.isV = false ∧ it.isS = true ∧ it.isA = false ∧ it.ls = [] ∧ it.bytes = [] := fun it im => by
    obtain ⟨z, t, rfl, _⟩ := hs.ok it im
    exact ⟨rfl, rfl, rfl, rfl, rfl⟩
  have aat : ∀ it ∈ agits, ∃ z kd ls ss acc, it = .ag z kd ls ∧ ss ∈ lss ∧ 0 ≤ kd ∧ kd ≤ 2 ∧ nameOk z = true ∧ ls.Perm (ss ++ acc) ∧ 1 ≤ acc.length ∧ acc.length ≤ 4 ∧ ∀ l ∈ acc, AccOk kd vits l := fun it im => by
    obtain ⟨q, hq, e⟩ := List.getElem_of_mem im
    obtain ⟨z, kd, ls, ss, acc, h1, h2, h3⟩ := ha.ok q it (by rw [List.getElem?_eq_getElem hq, e])
    exact ⟨z, kd, ls, ss, acc, h1, List.mem_of_getElem? h2, h3⟩
  have isa : ∀ it ∈ agits, it.isV = false ∧ it.isS = false ∧ it.isA = true ∧ it.bytes = [] := fun it im => by
    obtain ⟨z, kd, ls, ss, acc, rfl, _⟩ := aat it im
    exact ⟨rfl, rfl, rfl, rfl⟩
  have stp : steps (vits ++ sits ++ agits) = agits.flatMap It.ls := by
    unfold steps
    rw [List.flatMap_append, List.flatMap_append, flat_none (f := It.ls) fun it im => (isv it im).2.2.2, flat_none (f := It.ls) fun it im => (iss it im).2.2.2.1]
    rfl
  have flen : lss.flatten.length ≤ 12 := by rw [hp.length_eq, rows_len]; omega
  have hvl := hv.len
  have hsl := hs.len
  have hal := ha.len
  refine ⟨⟨?_, ?_, ?_, ?_, ?_, ?_, ?_, ?_, ?_⟩, ?_, ?_⟩
  · rw [List.filter_append, List.filter_append, filt_none fun it im => (isv it im).2.2.1, filt_none fun it im => (iss it im).2.2.1]
    exact Nat.le_trans (List.length_filter_le _ _) (by omega)
  · rw [List.filter_append, List.filter_append, filt_none (l := sits) fun it im => (iss it im).1, filt_none (l := agits) fun it im => (isa it im).1, List.append_nil, List.append_nil]
    exact Nat.le_trans (List.length_filter_le _ _) (by omega)
  · rw [List.filter_append, List.filter_append, filt_none (l := vits) fun it im => (isv it im).2.1, filt_none (l := agits) fun it im => (isa it im).2.1, List.append_nil, List.nil_append]
    exact Nat.le_trans (List.length_filter_le _ _) (by omega)
  · rw [List.map_append, List.map_append, hv.nm, hs.nm, ha.nm]
    exact names_nodup hi hj m4
  · intro it im
    rcases List.mem_append.mp im with im | im
    · rcases List.mem_append.mp im with im | im
      · obtain ⟨z, s, ats, rfl, _, _, h, _⟩ := hv.ok it im
        exact h
      · have m1 : it.nm ∈ sits.map It.nm := List.mem_map.mpr ⟨it, im, rfl⟩
        rw [hs.nm] at m1
        obtain ⟨q, hq, e⟩ := List.mem_map.mp m1
        rw [List.mem_range] at hq
        rw [← e]
        exact sN_ok (by omega)
    · obtain ⟨z, kd, ls, ss, acc, rfl, _, _, _, h, _⟩ := aat it im
      exact h
  · intro z s ats im
    rcases List.mem_append.mp im with im | im
    · rcases List.mem_append.mp im with im | im
      · obtain ⟨z', s', ats', e, h⟩ := hv.ok _ im
        cases e
        exact ⟨h.1, h.2.1, h.2.2.2.1, h.2.2.2.2.1, h.2.2.2.2.2.1⟩
      · cases (iss _ im).1
    · cases (isa _ im).1
  · rw [List.flatMap_append, List.flatMap_append, flat_none (f := It.bytes) (l := sits) fun it im => (iss it im).2.2.2.2, flat_none (f := It.bytes) (l := agits) fun it im => (isa it im).2.2.2, List.append_nil, List.append_nil]
    exact hv.nd
  · intro z k ls im
    rcases List.mem_append.mp im with im | im
    · rcases List.mem_append.mp im with im | im
      · cases (isv _ im).2.2.1
      · cases (iss _ im).2.2.1
    · obtain ⟨z', kd, ls', ss, acc, e, sm, k0, k2, _, p, a1, a4, ok⟩ := aat _ im
      cases e
      have sl : ss.length ≤ 12 := Nat.le_trans (List.Sublist.length_le (List.sublist_flatten_of_mem sm)) flen
      have ll := p.length_eq
      rw [List.length_append] at ll
      refine ⟨k0, k2, by omega, by omega, fun l lm => ?_⟩
      rcases List.mem_append.mp (p.mem_iff.mp lm) with lm | lm
      · obtain ⟨q, w, hq, hw, rfl⟩ := rows_mem (hp.mem_iff.mp (List.mem_flatten.mpr ⟨ss, sm, lm⟩))
        obtain ⟨t, ht⟩ := hs.at_ hq
        exact ⟨good_sig hw (sN_ok (by omega)), t, List.mem_append_left _ (List.mem_append_right _ ht)⟩
      · obtain ⟨w, n, s, f, e, sz, ats, rfl, h1, h2, h3⟩ := ok l lm
        exact ⟨h3, sz, ats, List.mem_append_left _ (List.mem_append_left _ h1), h2⟩
  · intro z t im
    rcases List.mem_append.mp im with im | im
    · rcases List.mem_append.mp im with im | im
      · cases (isv _ im).2.1
      · obtain ⟨z', t', e, h0, h3⟩ := hs.ok _ im
        cases e
        have m1 : z ∈ sits.map It.nm := List.mem_map.mpr ⟨_, im, rfl⟩
        rw [hs.nm] at m1
        obtain ⟨q, hq, e⟩ := List.mem_map.mp m1
        rw [List.mem_range] at hq
        have key : ∀ w : Str, (steps (vits ++ sits ++ agits)).count [V.str w, .str z] = (rowsS j).count [V.str w, .str z] := fun w => by
          rw [stp, cnt_flat (lss := lss) (by omega) ?_, hp.count_eq]
          intro i' it e'
          obtain ⟨z', kd, ls, ss, acc, rfl, h1, _, _, _, p, _, _, ok⟩ := ha.ok i' it e'
          refine ⟨ss, h1, ?_⟩
          show ls.count _ = _
          rw [p.count_eq, List.count_append, List.count_eq_zero_of_not_mem (l := acc), Nat.add_zero]
          intro cm
          obtain ⟨w', n, s, f, e, sz, ats, e2, _⟩ := ok _ cm
          cases e2
        obtain ⟨c1, c2⟩ := rows_cnt j (by omega) q (by omega) hq
        rw [e] at c1 c2
        exact ⟨h0, h3, (key _).trans c1, (key _).trans c2⟩
    · cases (isa _ im).2.1
  · intro z s ats im
    rcases List.mem_append.mp im with im | im
    · rcases List.mem_append.mp im with im | im
      · obtain ⟨z', s', ats', e, _, _, _, _, _, _, sp⟩ := hv.ok _ im
        cases e
        exact ⟨sp.1, fun a m => ⟨(sp.2 a m).1, by have := (sp.2 a m).2; omega⟩⟩
      · cases (iss _ im).1
    · cases (isa _ im).1
  · rw [List.length_append, List.length_append]
    omega
theorem good_perm {ring : Int} {its its' : List It} (p : its'.Perm its) (h : NetL.Good ring its) : NetL.Good ring its' where
  ma := by rw [(p.filter _).length_eq]; exact h.ma
  mv := by rw [(p.filter _).length_eq]; exact h.mv
  ms := by rw [(p.filter _).length_eq]; exact h.ms
  nd := (p.map It.nm).nodup_iff.mpr h.nd
  ok it m := h.ok it (p.mem_iff.mp m)
  vr z s ats m := h.vr z s ats (p.mem_iff.mp m)
  by_ := (p.flatMap_right It.bytes).nodup_iff.mpr h.by_
  gs z k ls m := by
    obtain ⟨h1, h2, h3, h4, h5⟩ := h.gs z k ls (p.mem_iff.mp m)
    refine ⟨h1, h2, h3, h4, fun l lm => ⟨(h5 l lm).1, ?_⟩⟩
    have f := (h5 l lm).2
    unfold NetL.fits at f ⊢
    split at f
    · obtain ⟨t, ht⟩ := f
      exact ⟨t, p.mem_iff.mpr ht⟩
    · obtain ⟨s, ats, hm, hl⟩ := f
      exact ⟨s, ats, p.mem_iff.mpr hm, hl⟩
    · exact f.elim
  sg z t m := by
    obtain ⟨h1, h2, h3, h4⟩ := h.sg z t (p.mem_iff.mp m)
    have q : (steps its').Perm (steps its) := p.flatMap_right It.ls
    exact ⟨h1, h2, by rw [q.count_eq]; exact h3, by rw [q.count_eq]; exact h4⟩
theorem GenOk.perm {ring : Int} {its its' : List It} (p : its'.Perm its) (h : GenOk ring its) : GenOk ring its' :=
  ⟨good_perm p h.good, fun z s ats m => h.var z s ats (p.mem_iff.mp m), by rw [p.length_eq]; exact h.len⟩
def spItems : Sp := fun vs H Q _ => ∃ (p : Addr) (n : Nat) (c : Addr) (ring : Int), vs = [.ref p, .int ring] ∧ PenAt c H p n ∧ n + 300 < 100000 ∧ 1 ≤ ring ∧ ring ≤ 4 ∧
  ∀ r l its H', H r = none → H' r = some (.lst l) → ItemsAt [p] H' l its → GenOk ring its → 2 ≤ its.length → PenAt c H' p (n + 300) → Keep p H H' → Q (.ref r) H'
def spShuffled (ring : Int) : Sp := fun vs H Q _ => ∃ (p : Addr) (n : Nat) (c a : Addr) (l : List V) (its : List It), vs = [.ref p, .ref a] ∧ PenAt c H p n ∧ n + 20 < 100000 ∧ H a = some (.lst l) ∧ a ≠ p ∧ ItemsAt [p] H l its ∧ its.length ≤ 13 ∧
  ∀ r l' its' H', H r = none → H' r = some (.lst l') → ItemsAt [p] H' l' its' → its'.Perm its → PenAt c H' p (n + 20) → Keep p H H' → Q (.ref r) H'
end NetG

end

section
namespace NetG
open PySem PySem.Spec PyProof.Rows Lay NetL
open L2 hiding It
/-- the heap while items are drawn: the pen p, the list of items D, the lists bs of signals' steps -/
structure Ph (c p D : Addr) (bs : List Addr) (H : Hp) (n : Nat) (lD : List V) (its : List It) (lss : List (List (List V))) : Prop where
  pen : PenAt c H p n
  eD : H D = some (.lst lD)
  items : ItemsAt (p :: D :: bs) H lD its
  hs : HeapsAt H bs lss
  Dp : D ≠ p
  Dc : D ≠ c
  pb : p ∉ bs
  Db : D ∉ bs
  cb : c ∉ bs
section
variable {c p D : Addr} {bs : List Addr} {H H' : Hp} {n : Nat} {lD : List V} {its : List It} {lss : List (List (List V))}
theorem Ph.lists (h : Ph c p D bs H n lD its lss) : Lists (p :: D :: bs) H := fun a m => by
  rcases List.mem_cons.mp m with e | m
  · subst e; exact h.pen.at_
  · rcases List.mem_cons.mp m with e | m
    · subst e; exact ⟨_, h.eD⟩
    · exact h.hs.lists a m
theorem Ph.new (h : Ph c p D bs H n lD its lss) {r : Addr} (hr : H r = none) : r ∉ p :: D :: bs := fun m => by
  obtain ⟨xs, e⟩ := h.lists r m
  rw [hr] at e
  cases e
theorem Ph.mono (h : Ph c p D bs H n lD its lss) (s : Same H H') : Ph c p D bs H' n lD its lss :=
  ⟨h.pen.mono s, s _ _ h.eD, h.items.mono s, h.hs.mono s, h.Dp, h.Dc, h.pb, h.Db, h.cb⟩
theorem Ph.le (h : Ph c p D bs H n lD its lss) {m : Nat} (e : n ≤ m) : Ph c p D bs H m lD its lss := ⟨h.pen.le e, h.eD, h.items, h.hs, h.Dp, h.Dc, h.pb, h.Db, h.cb⟩
theorem Ph.draw (h : Ph c p D bs H n lD its lss) {m : Nat} (pn : PenAt c H' p m) (k : Keep p H H') : Ph c p D bs H' m lD its lss :=
  ⟨pn, k _ _ h.Dp h.eD, h.items.stay h.lists (Stay.keep List.mem_cons_self k), h.hs.stay (S := [p]) (fun a m => by rw [List.mem_singleton] at m; subst m; exact h.pen.at_) (fun b m e => by rw [List.mem_singleton] at e; subst e; exact h.pb m) (Stay.keep List.mem_cons_self k), h.Dp, h.Dc, h.pb, h.Db, h.cb⟩
theorem Ph.app (h : Ph c p D bs H n lD its lss) {v : V} {it : It} (hi : ItemAt (p :: D :: bs) H v it) : Ph c p D bs (upd H D (.lst (lD ++ [v]))) n (lD ++ [v]) (its ++ [it]) lss where
  pen := h.pen.other h.Dp h.Dc
  eD := upd_same
  items := by
    have s : Stay (p :: D :: bs) H (upd H D (.lst (lD ++ [v]))) := Stay.upd (List.mem_cons_of_mem _ List.mem_cons_self)
    exact Paired.snoc (h.items.stay h.lists s) (hi.stay h.lists s)
  hs := h.hs.stay (S := [D]) (fun a m => by rw [List.mem_singleton] at m; subst m; exact ⟨_, h.eD⟩) (fun b m e => by rw [List.mem_singleton] at e; subst e; exact h.Db m) (Stay.upd List.mem_cons_self)
  Dp := h.Dp
  Dc := h.Dc
  pb := h.pb
  Db := h.Db
  cb := h.cb
theorem Ph.put (h : Ph c p D bs H n lD its lss) {d : Nat} {b t : Addr} {ls : List (List V)} {ys : List V} {l : List V} (e1 : bs[d]? = some b) (e2 : lss[d]? = some ls) (hb : H b = some (.lst ys)) (hr : RowsAt H ys ls) (ht : H t = some (.tup l)) :
    Ph c p D bs (upd H b (.lst (ys ++ [.ref t]))) n lD its (lss.set d (ls ++ [l])) := by
  have bm := List.mem_of_getElem? e1
  have nbp : b ≠ p := fun e => h.pb (by rw [← e]; exact bm)
  have nbc : b ≠ c := fun e => h.cb (by rw [← e]; exact bm)
  have nDb : D ≠ b := fun e => h.Db (by rw [e]; exact bm)
  have s : Stay (p :: D :: bs) H (upd H b (.lst (ys ++ [.ref t]))) := Stay.upd (List.mem_cons_of_mem _ (List.mem_cons_of_mem _ bm))
  exact ⟨h.pen.other nbp nbc, by rw [upd_ne nDb]; exact h.eD, h.items.stay h.lists s, h.hs.put e1 e2 hb hr ht, h.Dp, h.Dc, h.pb, h.Db, h.cb⟩
theorem Ph.get (h : Ph c p D bs H n lD its lss) {d : Nat} (hd : d < lss.length) : ∃ b ls ys, bs[d]? = some b ∧ lss[d]? = some ls ∧ H b = some (.lst ys) ∧ RowsAt H ys ls := by
  have h1 : d < bs.length := by rw [h.hs.1]; exact hd
  obtain ⟨ys, e1, e2⟩ := h.hs.2.2 d _ _ (List.getElem?_eq_getElem h1) (List.getElem?_eq_getElem hd)
  exact ⟨_, _, ys, List.getElem?_eq_getElem h1, List.getElem?_eq_getElem hd, e1, e2⟩
theorem HeapsAt.new {q : Addr} (h : HeapsAt H bs lss) (hq : H q = none) : HeapsAt (upd H q (.lst [])) (bs ++ [q]) (lss ++ [[]]) := by
  have s := Lay.Same.upd (o := .lst []) hq
  refine ⟨by rw [List.length_append, List.length_append, h.1]; rfl, List.nodup_append.mpr ⟨h.2.1, List.pairwise_singleton _ _, fun a ha b hb e => ?_⟩, fun i b ls e1 e2 => ?_⟩
  · rw [List.mem_singleton] at hb
    subst hb; subst e
    obtain ⟨xs, z⟩ := h.lists _ ha
    rw [hq] at z
    cases z
  · by_cases hi : i < bs.length
    · rw [List.getElem?_append_left hi] at e1
      rw [List.getElem?_append_left (by rw [← h.1]; exact hi)] at e2
      obtain ⟨ys, h1, h2⟩ := h.2.2 i b ls e1 e2
      exact ⟨ys, s _ _ h1, h2.mono s⟩
    · rw [List.getElem?_append_right (by omega)] at e1
      rw [List.getElem?_append_right (by rw [← h.1]; omega), ← h.1] at e2
      have z : i - bs.length = 0 := by
        cases hh : i - bs.length with
        | zero => rfl
        | succ k => rw [hh] at e1; simp at e1
      rw [z] at e1 e2
      have eb : q = b := by simpa using e1
      have el : ([] : List (List V)) = ls := by simpa using e2
      subst eb; subst el
      exact ⟨[], upd_same, .nil⟩
theorem Ph.stay_draw {S : List Addr} (k : Keep p H H') : Stay (p :: S) H H' := Stay.keep List.mem_cons_self k
end
theorem two_le {m : Int} (k : Int) (h : k = 1 ∨ k = m) (h1 : 1 ≤ m) (h4 : m ≤ 4) : 1 ≤ k ∧ k ≤ 4 := by omega
theorem six_at {d : Int} (d0 : 0 ≤ d) (d1 : d < 6) : ∃ j : Nat, j ≤ 6 ∧ atI [V.int 0, V.int 1, V.int 2, V.int 3, V.int 3, V.int 6] d = some (.int (j : Nat)) := by
  obtain rfl | rfl | rfl | rfl | rfl | rfl : d = 0 ∨ d = 1 ∨ d = 2 ∨ d = 3 ∨ d = 4 ∨ d = 5 := by omega
  · exact ⟨0, by omega, rfl⟩
  · exact ⟨1, by omega, rfl⟩
  · exact ⟨2, by omega, rfl⟩
  · exact ⟨3, by omega, rfl⟩
  · exact ⟨3, by omega, rfl⟩
  · exact ⟨6, by omega, rfl⟩
end NetG

end

section
namespace Lay
open PySem PySem.Spec PyProof.Rows L2 Exv
/-! ### a text == any value; any value == itself -/
def strIs (z : Str) (v : V) : Bool := match v with | .str y => decide (z = y) | _ => false
def rEqSK : R2 := fun x y H Q => ∃ z t, x = .str z ∧ Kd H y t ∧ Q (.bl (strIs z y)) H
theorem op_eqSK {X : Cx} (hu : X.A.units + 64 < cLine) : OpR X (compareOp .Eq) rEqSK := by
  intro pins s σ H x y v u Q I rx ry h
  obtain ⟨z, t, rfl, k, q⟩ := h
  obtain ⟨tk, rfl⟩ := rx
  have hu1 : X.A.units < cLine := by omega
  show wpAny (model X.prog X.w) X.A (richCompare .Eq (.str z tk) u) (EP X pins σ Q) X.xe s
  cases k with
  | non => cases ry; exact SeqAt.RcAt.str_none z tk _ _ _ _ ⟨.bl _, H, I, rfl, q⟩
  | bl b => cases ry; exact SeqAt.RcAt.str_bool z tk b _ _ _ _ ⟨.bl _, H, I, rfl, q⟩
  | int i => obtain ⟨t', rfl⟩ := ry; exact SeqAt.RcAt.str_int z tk i t' _ _ _ _ ⟨.bl _, H, I, rfl, q⟩
  | str y =>
    obtain ⟨t', rfl⟩ := ry
    refine SeqAt.RcAt.str_str z tk y t' _ _ _ _ ⟨.bl _, H, I, rfl, ?_⟩
    rw [beq_dec]
    exact q
  | lst h =>
    cases ry
    obtain ⟨_, its, n, _, e⟩ := I.hok _ _ h
    exact SeqAt.RcAt.str_list z tk (items := its.toArray) ⟨_, e, rfl, _, rfl⟩ hu1 _ _ _ _ ⟨.bl _, H, I, rfl, q⟩
  | tup h =>
    cases ry
    obtain ⟨_, its, _, e⟩ := I.hok _ _ h
    exact SeqAt.RcAt.str_tuple z tk (items := its.toArray) e hu1 _ _ _ _ ⟨.bl _, H, I, rfl, q⟩
  | dK h =>
    cases ry
    obtain ⟨_, _, vs, _, o, es, ep, e, ex, hd, _⟩ := I.hok _ _ h
    exact OpsM.rc_str_dict z tk e ex.1 ⟨_, _, hd⟩ hu1 _ _ _ _ ⟨.bl _, H, I, rfl, q⟩
theorem rd_eqSK {H : Hp} {Q : VK} {z : Str} {y : V} {t : Kn} (k : Kd H y t) (q : Q (.bl (strIs z y)) H) : rEqSK (.str z) y H Q := ⟨z, t, rfl, k, q⟩
theorem hits_self {prog : Program} {w : World} {A : Around} {s : Shared} {kb : List (Key × Value)} (nd : (kb.map (·.1)).Nodup) : ∀ {r : List (Key × Value)}, (∀ p ∈ r, p ∈ kb) → PySem.W.KeqHitsP prog w A s kb r true
  | [], _ => .nil
  | (k, v) :: r, h => by
    have z := PySem.W.KeqHitsP.hit (prog := prog) (w := w) (r := r) (b := true) (PySem.valueAt_of_mem nd (h (k, v) List.mem_cons_self)) (SeqAt.EqAt.same (A := A) (s := s) v).eqP (hits_self nd fun p m => h p (List.mem_cons_of_mem _ m))
    exact z
def rEqSelf : R2 := fun x y H Q => x = y ∧ (∃ t, Kd H x t) ∧ Q (.bl true) H
theorem op_eqSelf {X : Cx} (hu : X.A.units + 64 < cLine) : OpR X (compareOp .Eq) rEqSelf := by
  intro pins s σ H x y v u Q I rx ry h
  obtain ⟨rfl, ⟨t, k⟩, q⟩ := h
  have hu1 : X.A.units < cLine := by omega
  show wpAny (model X.prog X.w) X.A (richCompare .Eq v u) (EP X pins σ Q) X.xe s
  cases k with
  | non => cases rx; cases ry; exact SeqAt.RcAt.none_none _ _ _ _ ⟨.bl _, H, I, rfl, q⟩
  | bl b => cases rx; cases ry; exact SeqAt.RcAt.bool_bool b b _ _ _ _ ⟨.bl _, H, I, rfl, by rw [beq_self_eq_true]; exact q⟩
  | int i => obtain ⟨t1, rfl⟩ := rx; obtain ⟨t2, rfl⟩ := ry; exact SeqAt.RcAt.int_int i t1 i t2 _ _ _ _ ⟨.bl _, H, I, rfl, by rw [beq_self_eq_true]; exact q⟩
  | str y => obtain ⟨t1, rfl⟩ := rx; obtain ⟨t2, rfl⟩ := ry; exact SeqAt.RcAt.str_str y t1 y t2 _ _ _ _ ⟨.bl _, H, I, rfl, by rw [beq_self_eq_true]; exact q⟩
  | lst h =>
    cases rx; cases ry
    obtain ⟨_, its, n, _, e⟩ := I.hok _ _ h
    have z := SeqAt.RcAt.lists (A := X.A) (s := s) (items := its.toArray) (items2 := its.toArray) (e := fun _ => true) ⟨_, e, rfl, _, rfl⟩ ⟨_, e, rfl, _, rfl⟩ rfl hu1 (fun j h1 h2 => SeqAt.EqAt.same _)
    rw [show (List.range its.toArray.size).all (fun _ => true) = true from List.all_eq_true.mpr fun _ _ => rfl] at z
    exact z _ _ _ _ ⟨.bl _, H, I, rfl, q⟩
  | tup h =>
    cases rx; cases ry
    obtain ⟨_, its, _, e⟩ := I.hok _ _ h
    have z := SeqAt.RcAt.tuples (A := X.A) (s := s) (items := its.toArray) (items2 := its.toArray) (e := fun _ => true) e e hu1 (fun j h1 h2 => SeqAt.EqAt.same _)
    rw [show (List.range (min its.toArray.size its.toArray.size)).all (fun _ => true) = true from List.all_eq_true.mpr fun _ _ => rfl, Bool.true_and, beq_self_eq_true] at z
    exact z _ _ _ _ ⟨.bl _, H, I, rfl, q⟩
  | dK h =>
    cases rx; cases ry
    obtain ⟨_, hs, vs, _, hd⟩ := I.hok _ _ h
    obtain ⟨o, es, ep, h1, h2, h3, h4, h5, nd⟩ := id hd
    refine PySem.W.rcP_dicts hs hs hd hd hu1 (fun _ => hits_self nd fun p m => m) _ _ ⟨.bl (vs.length == vs.length && true), H, I, rfl, ?_⟩
    rw [beq_self_eq_true]; exact q
theorem rd_eqSelf {H : Hp} {Q : VK} {x : V} {t : Kn} (k : Kd H x t) (q : Q (.bl true) H) : rEqSelf x x H Q := ⟨rfl, ⟨t, k⟩, q⟩
end Lay
namespace NetG
open PySem PySem.Spec PyProof.Rows Lay NetL Exv
open L2 hiding It
theorem pappend {α β : Type} {F : α → β → Prop} : ∀ {xs ys : List α} {as bs : List β}, Paired F xs as → Paired F ys bs → Paired F (xs ++ ys) (as ++ bs)
  | _, _, _, _, .nil, h => h
  | _, _, _, _, .cons r t, h => .cons r (pappend t h)
theorem ptake {α β : Type} {F : α → β → Prop} : ∀ {xs : List α} {as : List β} (n : Nat), Paired F xs as → Paired F (xs.take n) (as.take n)
  | _, _, 0, _ => by rw [List.take_zero, List.take_zero]; exact .nil
  | _, _, n + 1, .nil => .nil
  | _, _, n + 1, .cons r t => .cons r (ptake n t)
theorem pdrop {α β : Type} {F : α → β → Prop} : ∀ {xs : List α} {as : List β} (n : Nat), Paired F xs as → Paired F (xs.drop n) (as.drop n)
  | _, _, 0, h => h
  | _, _, n + 1, .nil => .nil
  | _, _, n + 1, .cons r t => pdrop n t
def spSelf (C : Cs) (P : It → Prop) : Sp := fun vs H Q _ => ∃ x it, vs = [.ref x, .ref x] ∧ PartAt C H (.ref x) it ∧ P it ∧ Q (.bl true) H
/-- where the items have the name v -/
def spotsV (its : List It) (v : V) (j : Nat) : List Int := ((List.range j).filter fun i => match its[i]? with | some it => strIs it.nm v | none => false).map fun i => ((i : Nat) : Int)
theorem spotsV_succ {its : List It} {v : V} {j : Nat} {it : It} (h : its[j]? = some it) : spotsV its v (j + 1) = spotsV its v j ++ (if strIs it.nm v = true then [((j : Nat) : Int)] else []) := by
  unfold spotsV
  rw [List.range_succ, List.filter_append, List.map_append]
  congr 1
  by_cases e : strIs it.nm v = true
  · rw [if_pos e, List.filter_cons_of_pos (by rw [h]; exact e)]; rfl
  · rw [if_neg e, List.filter_cons_of_neg (by rw [h]; exact e)]; rfl
theorem spotsV_len {its : List It} {v : V} {j : Nat} : (spotsV its v j).length ≤ j := by
  unfold spotsV
  rw [List.length_map]
  exact Nat.le_trans (List.length_filter_le _ _) (by rw [List.length_range]; exact Nat.le_refl _)
theorem spotsV_no {its : List It} {v : V} (h : hasNm its v = false) : ∀ j, spotsV its v j = [] := fun j => by
  unfold spotsV
  rw [List.map_eq_nil_iff, List.filter_eq_nil_iff]
  intro i _
  cases e : its[i]? with
  | none => exact Bool.false_ne_true
  | some it =>
    have m := List.mem_of_getElem? e
    show ¬ strIs it.nm v = true
    have no : strIs it.nm v = false := by
      cases v with
      | str n =>
        have h' : decide (n ∈ its.map It.nm) = false := h
        exact decide_eq_false fun e => of_decide_eq_false h' (by rw [← e]; exact List.mem_map.mpr ⟨it, m, rfl⟩)
      | _ => rfl
    rw [no]
    exact Bool.false_ne_true
theorem spotsV_yes {its : List It} {v : V} (h : hasNm its v = true) : ∃ (i : Nat) (it : It) (r : List Int), spotsV its v its.length = (i : Int) :: r ∧ its[i]? = some it ∧ v = .str it.nm := by
  obtain ⟨n, rfl⟩ : ∃ n, v = .str n := by
    cases v with
    | str n => exact ⟨n, rfl⟩
    | _ => cases h
  have m : n ∈ its.map It.nm := of_decide_eq_true h
  obtain ⟨it, im, e⟩ := List.mem_map.mp m
  obtain ⟨i, hi, ei⟩ := List.getElem_of_mem im
  cases hs : spotsV its (.str n) its.length with
  | nil =>
    exfalso
    unfold spotsV at hs
    rw [List.map_eq_nil_iff, List.filter_eq_nil_iff] at hs
    refine hs i (List.mem_range.mpr hi) ?_
    rw [List.getElem?_eq_getElem hi, ei]
    exact decide_eq_true e
  | cons a r =>
    have am : a ∈ spotsV its (.str n) its.length := by rw [hs]; exact List.mem_cons_self
    unfold spotsV at am
    obtain ⟨q, qm, rfl⟩ := List.mem_map.mp am
    obtain ⟨q1, q2⟩ := List.mem_filter.mp qm
    cases e2 : its[q]? with
    | none => rw [e2] at q2; cases q2
    | some it2 =>
      rw [e2] at q2
      exact ⟨q, it2, r, rfl, e2, by rw [of_decide_eq_true q2]⟩
theorem name_inj {its : List It} (nd : (its.map It.nm).Nodup) {i j : Nat} {a b : It} (ha : its[i]? = some a) (hb : its[j]? = some b) (e : a.nm = b.nm) : i = j := by
  have h1 : (its.map It.nm)[i]? = some a.nm := by rw [List.getElem?_map, ha]; rfl
  have h2 : (its.map It.nm)[j]? = some a.nm := by rw [List.getElem?_map, hb, e]; rfl
  have tk : ∀ {i j : Nat} {z : Str}, (its.map It.nm)[i]? = some z → (its.map It.nm)[j]? = some z → i < j → False := fun {i j z} a1 a2 lt =>
    not_take nd a2 (List.mem_of_getElem? (by rw [List.getElem?_take, if_pos lt]; exact a1))
  rcases Nat.lt_trichotomy i j with lt | e | gt
  · exact (tk h1 h2 lt).elim
  · exact e
  · exact (tk h2 h1 gt).elim
def spShuf : Sp := fun vs H Q _ => ∃ (p : Addr) (n : Nat) (c a : Addr) (l : List V) (its : List It), vs = [.ref p, .ref a] ∧ PenAt c H p n ∧ n + 20 < 100000 ∧ H a = some (.lst l) ∧ a ≠ p ∧ ItemsAt [p] H l its ∧ its.length ≤ 13 ∧
  ∀ r l' its' H', H r = none → H' r = some (.lst l') → ItemsAt [p] H' l' its' → its'.Perm its → PenAt c H' p (n + 20) → Keep p H H' → Q (.ref r) H'
/-- a part that its class takes -/
def PartOk : It → Prop
  | .vr z s ats => nameOk z = true ∧ 1 ≤ s ∧ s ≤ 8 ∧ 1 ≤ ats.length ∧ ats.length ≤ 4 ∧ Gap s ats ∧ ∀ a ∈ ats, 0 ≤ a ∧ a + s ≤ 1024
  | .sg z t => nameOk z = true ∧ 0 ≤ t ∧ t ≤ 3
  | .ag z k ls => nameOk z = true ∧ 0 ≤ k ∧ k ≤ 2 ∧ 1 ≤ ls.length ∧ ls.length ≤ 24 ∧ ∀ l ∈ ls, GoodStep (wsK k) l
theorem GenOk.part {ring : Int} {its : List It} (h : GenOk ring its) : ∀ it ∈ its, PartOk it := fun it m => by
  have hn := h.good.ok it m
  cases it with
  | vr z s ats =>
    obtain ⟨h1, h2, h3, h4, _⟩ := h.good.vr z s ats m
    obtain ⟨g1, g2⟩ := h.var z s ats m
    exact ⟨hn, h1, h2, h3, h4, g1, g2⟩
  | sg z t =>
    obtain ⟨h1, h2, _⟩ := h.good.sg z t m
    exact ⟨hn, h1, h2⟩
  | ag z k ls =>
    obtain ⟨h1, h2, h3, h4, h5⟩ := h.good.gs z k ls m
    exact ⟨hn, h1, h2, h3, h4, fun l lm => (h5 l lm).1⟩
def spPart (C : Cs) : Sp := fun vs H Q _ => ∃ (S : List Addr) (v : V) (it : It), vs = [v] ∧ ItemAt S H v it ∧ PartOk it ∧ ∀ u H', Same H H' → PartAt C H' u it → Q u H'
def spBy (C : Cs) (N EN : Addr) : Sp := fun vs H Q _ => ∃ x l r its ps v, vs = [.ref x, v] ∧ NetAt C N H x l r its ps ∧ Kz H v ∧ (its.map It.nm).Nodup ∧
  (hasNm its v = false → ∀ a H', Same H H' → ErrAt EN H' a [("name", v)] → Q (.ref a) H') ∧ ∀ (i : Nat) (it : It) (p : V), v = .str it.nm → its[i]? = some it → ps[i]? = some p → Q p H
def spRight (C : Cs) (N : Addr) : Sp := fun vs H Q _ => ∃ (S : List Addr) (x : Addr) (ln r : Int) (its : List It) (ps : List V) (ti th : Addr) (l : List V) (v : V), vs = [.ref x, .ref ti, .ref th, v] ∧ NetAt C N H x ln r its ps ∧ H ti = some (.lst l) ∧ ItemsAt S H l its ∧ H th = some (.lst ps) ∧ Kz H v ∧ Good r its ∧ its.length ≤ 13 ∧ ∀ H', Same H H' → Q (.bl true) H'
theorem item_name {S : List Addr} {H : Hp} {v : V} : ∀ {it : It}, ItemAt S H v it → ∃ a k rest, v = .ref a ∧ H a = some (.tup (k :: V.str it.nm :: rest))
  | .vr _ _ _, ⟨a, b, e, h1, _⟩ => ⟨a, _, _, e, h1⟩
  | .sg _ _, ⟨a, e, h1⟩ => ⟨a, _, _, e, h1⟩
  | .ag _ _ _, ⟨a, b, ys, e, h1, _⟩ => ⟨a, _, _, e, h1⟩
theorem spots_none {its : List It} {v : V} (h : hasNm its v = false) : ∀ it ∈ its, strIs it.nm v = false := fun it m => by
  cases v with
  | str n =>
    have h' : decide (n ∈ its.map It.nm) = false := h
    refine decide_eq_false fun e => of_decide_eq_false h' ?_
    rw [← e]
    exact List.mem_map.mpr ⟨it, m, rfl⟩
  | _ => rfl
end NetG

end

section
namespace NetG
open PySem PySem.Spec PyProof.Rows Lay NetL Exv
open L2 hiding It
/-- all but lists stays -/
def NL (H H' : Hp) : Prop := ∀ b o, (∀ xs, o ≠ HO.lst xs) → H b = some o → H' b = some o
theorem NL.refl {H : Hp} : NL H H := fun _ _ _ h => h
theorem NL.trans {H H' H'' : Hp} (h : NL H H') (g : NL H' H'') : NL H H'' := fun b o n e => g b o n (h b o n e)
theorem NL.of {H H' : Hp} (s : Same H H') : NL H H' := fun b o _ e => s b o e
theorem NL.upd {H : Hp} {D : Addr} {xs : List V} {o : HO} (h : H D = some (.lst xs)) : NL H (upd H D o) := fun b o' n e => by
  rw [upd_ne (fun z => by subst z; rw [h] at e; cases e; exact n xs rfl)]
  exact e
theorem NL.keep {H H' : Hp} {p : Addr} {xs : List V} (h : H p = some (.lst xs)) (k : Keep p H H') : NL H H' := fun b o n e => k b o (fun z => by subst z; rw [h] at e; cases e; exact n xs rfl) e
theorem NL.part {C : Cs} {H H' : Hp} (k : NL H H') {v : V} : ∀ {it : It}, PartAt C H v it → PartAt C H' v it
  | .vr _ _ _, ⟨x, e, dx, t, h1, h2⟩ => ⟨x, e, dx, t, k _ _ (fun _ z => nomatch z) h1, k _ _ (fun _ z => nomatch z) h2⟩
  | .sg _ _, ⟨x, e, dx, h1⟩ => ⟨x, e, dx, k _ _ (fun _ z => nomatch z) h1⟩
  | .ag _ _ _, ⟨x, e, dx, t, xs, h1, h2, h3⟩ => ⟨x, e, dx, t, xs, k _ _ (fun _ z => nomatch z) h1, k _ _ (fun _ z => nomatch z) h2, h3.same fun b l e => k _ _ (fun _ z => nomatch z) e⟩
theorem NL.parts {C : Cs} {H H' : Hp} (k : NL H H') {vs : List V} {its : List It} (h : PartsAt C H vs its) : PartsAt C H' vs its := Paired.mono (fun _ _ => NL.part k) h
theorem NL.net {C : Cs} {N : Addr} {H H' : Hp} (k : NL H H') {x : Addr} {l r : Int} {its : List It} {ps : List V} (h : NetAt C N H x l r its ps) : NetAt C N H' x l r its ps := by
  obtain ⟨dx, tv, ts, ta, dn, h1, h2, h3, h4, h5, h6⟩ := h
  exact ⟨dx, tv, ts, ta, dn, k _ _ (fun _ z => nomatch z) h1, k _ _ (fun _ z => nomatch z) h2, k _ _ (fun _ z => nomatch z) h3, k _ _ (fun _ z => nomatch z) h4, k _ _ (fun _ z => nomatch z) h5, k.parts h6⟩
theorem item_kind {S : List Addr} {H : Hp} {v : V} : ∀ {it : It}, ItemAt S H v it → ∃ a z rest, v = .ref a ∧ H a = some (.tup (V.str z :: rest)) ∧ decide (z = "agent") = it.isA
  | .vr _ _ _, ⟨a, b, e, h1, _⟩ => ⟨a, _, _, e, h1, show decide (Str.ofString "var" = Str.ofString "agent") = false by decide +kernel⟩
  | .sg _ _, ⟨a, e, h1⟩ => ⟨a, _, _, e, h1, show decide (Str.ofString "sig" = Str.ofString "agent") = false by decide +kernel⟩
  | .ag _ _ _, ⟨a, b, ys, e, h1, _⟩ => ⟨a, _, _, e, h1, show decide (Str.ofString "agent" = Str.ofString "agent") = true by decide +kernel⟩
theorem str_app_len (a b : Str) : (a ++ b).length = a.length + b.length := by
  show (a ++ b).cps.size = a.cps.size + b.cps.size
  rw [show (a ++ b).cps = a.cps ++ b.cps from rfl, Array.size_append]
theorem good_nil {r : Int} : NetL.Good r [] where
  ma := by decide
  mv := by decide
  ms := by decide
  nd := List.Pairwise.nil
  ok _ h := nomatch h
  vr _ _ _ h := nomatch h
  by_ := List.Pairwise.nil
  gs _ _ _ h := nomatch h
  sg _ _ h := nomatch h
theorem mk_net0 {C : Cs} {N : Addr} {H : Hp} {Q : VK} {E : XK} (q : ∀ x H', H x = none → Same H H' → NetAt C N H' x 8 1 [] [] → Q (.ref x) H') : KwS.TMade N (spInit0 C N) E [] [] H Q := by
  intro x dx hx hdx hne
  obtain ⟨h1, h2⟩ := mk_netX (C := C) (N := N) (E := E) (l := 8) (r := 1) (its := []) (ps := []) (by show (8 : Int) ∈ _; decide) (by decide) (by decide) .nil good_nil (by decide) q x dx hx hdx hne
  exact ⟨[.ref x], [], rfl, rfl, h1, h2⟩
end NetG

end

section
namespace NetG
open PySem PySem.Spec PyProof.Rows Lay NetL Exv
open L2 hiding It
/-! ### places, steps, bytes of steps -/
/-- the step at a place of good parts -/
def StepOf (its : List It) (a s : Nat) (l : List V) : Prop := ∃ z k ls, (its.filter It.isA)[a]? = some (.ag z k ls) ∧ ls[s]? = some l
/-- the net's place (a, s), which is one -/
def spIsPlaceG (C : Cs) (N : Addr) : Sp := fun vs H Q _ => ∃ (x : Addr) (ln r : Int) (its : List It) (ps : List V) (t : Addr) (a s : Nat) (l : List V), vs = [.ref x, .ref t] ∧ NetAt C N H x ln r its ps ∧ H t = some (.tup [.int (a : Nat), .int (s : Nat)]) ∧ StepOf its a s l ∧ ps.length ≤ 16 ∧ Good r its ∧ Q (.bl true) H
def spStepG (C : Cs) (N : Addr) : Sp := fun vs H Q _ => ∃ (x : Addr) (ln r : Int) (its : List It) (ps : List V) (t : Addr) (a s : Nat) (l : List V), vs = [.ref x, .ref t] ∧ NetAt C N H x ln r its ps ∧ H t = some (.tup [.int (a : Nat), .int (s : Nat)]) ∧ StepOf its a s l ∧ ps.length ≤ 16 ∧ Good r its ∧
  ∀ p, H p = some (.tup l) → Q (.ref p) H
/-- the bytes that a step touches -/
def Touch (its : List It) (l : List V) (n : Int) (bs : List Int) : Prop :=
  (l.length = 2 ∧ bs = []) ∨ ∃ w nm sh f e s ats at0, l = [.str w, .str nm, .int sh, .int f, .int e] ∧ It.vr nm s ats ∈ its ∧ 0 ≤ f ∧ f ≤ e ∧ e < s ∧ s ≤ 8 ∧ ats[((n + sh) % (ats.length : Int)).toNat]? = some at0 ∧ bs = row (e - f + 1).toNat (at0 + f)
theorem Touch.len {its : List It} {l : List V} {n : Int} {bs : List Int} (h : Touch its l n bs) : bs.length ≤ 8 := by
  rcases h with ⟨_, rfl⟩ | ⟨w, nm, sh, f, e, s, ats, at0, _, _, h1, h2, h3, h4, _, rfl⟩
  · exact Nat.zero_le _
  · rw [row_len]; omega
def spTouched (C : Cs) (N : Addr) : Sp := fun vs H Q _ => ∃ (x : Addr) (ln r : Int) (its : List It) (ps : List V) (t : Addr) (a s : Nat) (l : List V) (n : Int), vs = [.ref x, .ref t, .int n] ∧ NetAt C N H x ln r its ps ∧ H t = some (.tup [.int (a : Nat), .int (s : Nat)]) ∧ StepOf its a s l ∧ ps.length ≤ 16 ∧ GenOk r its ∧
  -10000 ≤ n ∧ n ≤ 10000 ∧ ∀ (q : Addr) (bs : List Int) (H' : Hp), Same H H' → H' q = some (.tup (bs.map V.int)) → Touch its l n bs → Q (.ref q) H'
def spNetLines (C : Cs) (N : Addr) : Sp := fun vs H Q _ => ∃ (x : Addr) (ln r : Int) (its : List It) (ps : List V) (t : Addr) (a s : Nat) (l : List V) (n : Int), vs = [.ref x, .ref t, .int n] ∧ NetAt C N H x ln r its ps ∧ H t = some (.tup [.int (a : Nat), .int (s : Nat)]) ∧ StepOf its a s l ∧ ps.length ≤ 16 ∧ GenOk r its ∧ lineOk ln ∧
  -10000 ≤ n ∧ n ≤ 10000 ∧ ∀ (q : Addr) (bs ms : List Int) (H' : Hp), Same H H' → H' q = some (.tup (ms.map V.int)) → Touch its l n bs → ms.Pairwise (· < ·) → (∀ k, k ∈ ms ↔ ∃ b ∈ bs, b / ln = k) → Q (.ref q) H'
theorem StepOf.lt {its : List It} {a s : Nat} {l : List V} (h : StepOf its a s l) : a < (its.filter It.isA).length := by
  obtain ⟨z, k, ls, h1, _⟩ := h
  exact (List.getElem?_eq_some_iff.mp h1).1
theorem StepOf.mem {its : List It} {a s : Nat} {l : List V} (h : StepOf its a s l) : ∃ z k ls, It.ag z k ls ∈ its ∧ l ∈ ls ∧ s < ls.length := by
  obtain ⟨z, k, ls, h1, h2⟩ := h
  exact ⟨z, k, ls, (List.mem_filter.mp (List.mem_of_getElem? h1)).1, List.mem_of_getElem? h2, (List.getElem?_eq_some_iff.mp h2).1⟩
/-- a step of good parts: of a signal, or of memory with its variable -/
theorem step_kind {ring : Int} {its : List It} {a s : Nat} {l : List V} (g : NetL.Good ring its) (h : StepOf its a s l) :
    (∃ w n, l = [V.str w, .str n]) ∨ ∃ w n sh f e sz ats, l = [V.str w, .str n, .int sh, .int f, .int e] ∧ It.vr n sz ats ∈ its ∧ 0 ≤ sh ∧ sh ≤ 3 ∧ 0 ≤ f ∧ f ≤ e ∧ e < sz ∧ sz ≤ 8 ∧ 1 ≤ ats.length ∧ ats.length ≤ 4 ∧ ((ats.length : Int) = 1 ∨ (ats.length : Int) = ring) := by
  obtain ⟨z, k, ls, m, lm, _⟩ := h.mem
  obtain ⟨_, _, _, _, hh⟩ := g.gs z k ls m
  obtain ⟨gs, ft⟩ := hh l lm
  rcases gs with ⟨w, n, rfl, _⟩ | ⟨w, n, sh, f, e, rfl, h1, h2, h3, h4, h5, h6, h7, h8⟩
  · exact .inl ⟨w, n, rfl⟩
  · obtain ⟨sz, ats, vm, lt⟩ := ft
    obtain ⟨v1, v2, v3, v4, v5⟩ := g.vr n sz ats vm
    exact .inr ⟨w, n, sh, f, e, sz, ats, rfl, vm, h4, h5, h6, h7, lt, v2, v3, v4, v5⟩
theorem rgV_row (a b : Int) : rgV a b = (row (b - a).toNat a).map V.int := by
  unfold rgV row
  rw [List.map_map]
  rfl
theorem row_get {s : Nat} {a : Int} {i : Nat} (h : i < s) : (row s a)[i]? = some (a + (i : Int)) := by
  unfold row
  rw [List.getElem?_map, List.getElem?_range h]
  rfl
theorem emod_lt' {n : Int} {k : Nat} (h : 1 ≤ k) : 0 ≤ n % (k : Int) ∧ n % (k : Int) < (k : Int) := ⟨Int.emod_nonneg _ (by omega), Int.emod_lt_of_pos _ (by omega)⟩
/-- one variable of a name -/
theorem var_one {ring : Int} {its : List It} (g : NetL.Good ring its) {n : Str} {s s' : Int} {ats ats' : List Int} (h : It.vr n s ats ∈ its) (h' : It.vr n s' ats' ∈ its) : s = s' ∧ ats = ats' := by
  obtain ⟨i, hi, ei⟩ := List.getElem_of_mem h
  obtain ⟨j, hj, ej⟩ := List.getElem_of_mem h'
  have e1 : its[i]? = some (.vr n s ats) := by rw [List.getElem?_eq_getElem hi, ei]
  have e2 : its[j]? = some (.vr n s' ats') := by rw [List.getElem?_eq_getElem hj, ej]
  have ij := name_inj g.nd e1 e2 rfl
  subst ij
  rw [e1] at e2
  cases e2
  exact ⟨rfl, rfl⟩
/-- the law's list of the bytes of a step -/
def spBytes : Sp := fun vs H Q _ => ∃ (S : List Addr) (ti st : Addr) (r n : Int) (l : List V) (its : List It) (stp : List V) (a s : Nat), vs = [.ref ti, .int r, .ref st, .int n] ∧ H ti = some (.lst l) ∧ ItemsAt S H l its ∧ GenOk r its ∧ its.length ≤ 13 ∧ H st = some (.tup stp) ∧ StepOf its a s stp ∧ -10000 ≤ n ∧ n ≤ 10000 ∧
  ∀ (q : Addr) (bs : List Int) (H' : Hp), Same H H' → H' q = some (.lst (bs.map V.int)) → Touch its stp n bs → Q (.ref q) H'
theorem Touch.one {ring : Int} {its : List It} (g : NetL.Good ring its) {l : List V} {n m : Int} {bs bs' : List Int} (h : Touch its l n bs) (h' : Touch its l m bs') (e : ∀ k : Int, k = 1 ∨ k = ring → (n - m) % k = 0) : bs = bs' := by
  rcases h with ⟨l1, rfl⟩ | ⟨w, nm, sh, f, ee, s, ats, at0, rfl, h1, h2, h3, h4, h5, h6, rfl⟩
  · rcases h' with ⟨_, rfl⟩ | ⟨w, nm, sh, f, ee, s, ats, at0, rfl, _⟩
    · rfl
    · cases l1
  · rcases h' with ⟨l1, _⟩ | ⟨w', nm', sh', f', e', s', ats', at1, el, g1, g2, g3, g4, g5, g6, rfl⟩
    · cases l1
    · cases el
      obtain ⟨_, ea⟩ := var_one g h1 g1
      subst ea
      have vl := (g.vr _ _ _ h1).2.2.2.2
      have e0 := e ats.length vl
      have ee : (n + sh) % (ats.length : Int) = (m + sh) % (ats.length : Int) := by
        refine Int.emod_eq_emod_iff_emod_sub_eq_zero.mpr ?_
        rw [show (n + sh) - (m + sh) = n - m by omega]
        exact e0
      rw [ee] at h6
      rw [h6] at g6
      cases g6
      rfl
theorem rd_tupRg2 {ta tb : TE} {σ : L2.St} {H : Hp} {Q : VK} (h : ta σ H fun x H1 => tb σ H1 fun y H2 => ∃ i j, x = .int i ∧ y = .int j ∧ RgOk i j ∧ ∀ q, H2 q = none → Q (.ref q) (upd H2 q (.tup (rgV i j)))) : tTupRg (tRg2 ta tb) σ H Q := h
theorem rd_notInL {K : PySem.W.Frag} {H : Hp} {Q : VK} {d : Int} {t : Addr} {ns : List Int} (ht : SqL K H t (ns.map V.int)) (q : Q (.bl (!decide (d ∈ ns))) H) : rIn K true (.int d) (.ref t) H Q := by
  refine ⟨t, _, rfl, .inl ht, rfl, by rw [List.all_map]; simp [flatV], ?_⟩
  have e : inV (.int d) (ns.map V.int) = decide (d ∈ ns) := by
    unfold inV
    rw [List.any_map, Bool.eq_iff_iff, List.any_eq_true, decide_eq_true_iff]
    constructor
    · rintro ⟨x, m, h⟩
      have h : (x == d) = true := h
      rw [← beq_iff_eq.mp h]; exact m
    · intro m
      exact ⟨d, m, show (d == d) = true from beq_self_eq_true d⟩
  show Q (.bl (!inV (.int d) (ns.map V.int))) H
  rw [e]
  exact q
theorem item_full {S : List Addr} {H : Hp} {v : V} : ∀ {it : It}, ItemAt S H v it → ∃ (a : Addr) (kk : Str) (rest : List V), v = .ref a ∧ H a = some (.tup (V.str kk :: V.str it.nm :: rest)) ∧ decide (kk = "var") = it.isV ∧ decide (kk = "sig") = it.isS ∧ decide (kk = "agent") = it.isA
  | .vr _ _ _, ⟨a, b, e, h1, _⟩ => ⟨a, _, _, e, h1, show decide (Str.ofString "var" = Str.ofString "var") = true by decide +kernel, show decide (Str.ofString "var" = Str.ofString "sig") = false by decide +kernel, show decide (Str.ofString "var" = Str.ofString "agent") = false by decide +kernel⟩
  | .sg _ _, ⟨a, e, h1⟩ => ⟨a, _, _, e, h1, show decide (Str.ofString "sig" = Str.ofString "var") = false by decide +kernel, show decide (Str.ofString "sig" = Str.ofString "sig") = true by decide +kernel, show decide (Str.ofString "sig" = Str.ofString "agent") = false by decide +kernel⟩
  | .ag _ _ _, ⟨a, b, ys, e, h1, _⟩ => ⟨a, _, _, e, h1, show decide (Str.ofString "agent" = Str.ofString "var") = false by decide +kernel, show decide (Str.ofString "agent" = Str.ofString "sig") = false by decide +kernel, show decide (Str.ofString "agent" = Str.ofString "agent") = true by decide +kernel⟩
/-- an int that falls, in a slot -/
def fall (i : Nat) (σ : L2.St) : Nat := match σ[i]? with
  | some (some (.int k)) => (-k).toNat
  | _ => 0
def isVar (nm : Str) (it : It) : Bool := it.isV && decide (it.nm = nm)
theorem isVar_yes {nm : Str} {it : It} (h : isVar nm it = true) : ∃ s ats, it = .vr nm s ats := by
  unfold isVar at h
  rw [Bool.and_eq_true] at h
  cases it with
  | vr z s ats =>
    have e : z = nm := of_decide_eq_true h.2
    subst e
    exact ⟨s, ats, rfl⟩
  | _ => cases h.1
/-- numbers of lines, as the law counts them -/
def spLawLines : Sp := fun vs H Q _ => ∃ (a : Addr) (bs : List Int) (w : Int), vs = [.ref a, .int w] ∧ H a = some (.lst (bs.map V.int)) ∧ bs.Pairwise (· < ·) ∧ bs.length ≤ 8 ∧ 1 ≤ w ∧ w ≤ 16 ∧
  ∀ (q : Addr) (ws : List Int) (H' : Hp), Same H H' → H' q = some (.lst (ws.map V.int)) → ws.Pairwise (· < ·) → (∀ k, k ∈ ws ↔ ∃ b ∈ bs, b / w = k) → Q (.ref q) H'
theorem row_asc (s : Nat) (a : Int) : (row s a).Pairwise (· < ·) := by
  unfold row
  refine List.pairwise_map.mpr ((List.pairwise_lt_range (n := s)).imp fun {x y} h => by omega)
theorem Touch.asc {its : List It} {l : List V} {n : Int} {bs : List Int} (h : Touch its l n bs) : bs.Pairwise (· < ·) := by
  rcases h with ⟨_, rfl⟩ | ⟨w, nm, sh, f, e, s, ats, at0, _, _, _, _, _, _, _, rfl⟩
  · exact List.Pairwise.nil
  · exact row_asc _ _
def spWhole : Sp := fun vs H Q _ => ∃ (t : Addr) (ns : List Int), vs = [.ref t] ∧ H t = some (.tup (ns.map V.int)) ∧ ns.length ≤ 20 ∧ ∀ H', Same H H' → Q (.bl true) H'
def spRightB (C : Cs) (N : Addr) : Sp := fun vs H Q _ => ∃ (S : List Addr) (x ti sp st : Addr) (ln r n : Int) (its : List It) (ps l : List V) (a s : Nat) (stp : List V), vs = [.ref x, .ref ti, .int r, .ref sp, .ref st, .int n] ∧ NetAt C N H x ln r its ps ∧ H ti = some (.lst l) ∧ ItemsAt S H l its ∧ GenOk r its ∧
  H sp = some (.tup [.int (a : Nat), .int (s : Nat)]) ∧ H st = some (.tup stp) ∧ StepOf its a s stp ∧ lineOk ln ∧ 1 ≤ r ∧ r ≤ 4 ∧ ps.length ≤ 16 ∧ -2000 ≤ n ∧ n ≤ 2000 ∧ ∀ H', Same H H' → Q (.bl true) H'
theorem len_sub : ∀ {ms xs : List Int}, ms.Nodup → (∀ k ∈ ms, k ∈ xs) → ms.length ≤ xs.length
  | [], _, _, _ => Nat.zero_le _
  | a :: ms, xs, nd, h => by
    rw [List.nodup_cons] at nd
    have am := h a List.mem_cons_self
    have ih := len_sub (xs := xs.erase a) nd.2 fun k km => (List.mem_erase_of_ne (fun e => nd.1 (by rw [← e]; exact km))).mpr (h k (List.mem_cons_of_mem _ km))
    rw [List.length_erase_of_mem am] at ih
    have := List.length_pos_of_mem am
    rw [List.length_cons]
    omega
/-- an ascending row whose members come from another one is no longer -/
theorem asc_len {ms bs : List Int} {w : Int} (pw : ms.Pairwise (· < ·)) (h : ∀ k ∈ ms, ∃ b ∈ bs, b / w = k) : ms.length ≤ bs.length := by
  have nd : ms.Nodup := pw.imp fun {a b} lt e => by omega
  have := len_sub (xs := bs.map fun b => b / w) nd fun k km => by
    obtain ⟨b, bm, e⟩ := h k km
    exact List.mem_map.mpr ⟨b, bm, e⟩
  rwa [List.length_map] at this
end NetG

end
local macro_rules | `(tactic| walk_at "kd") => `(tactic| repeat first
  | exact Lay.Kds.nil
  | refine Lay.Kds.cons (.int _) ?_
  | refine Lay.Kds.cons (.str _) ?_
  | refine Lay.Kds.cons .non ?_
  | refine Lay.Kds.cons (.bl _) ?_
  | refine Lay.Kds.cons (.lst (by assumption)) ?_
  | refine Lay.Kds.cons (.tup (by assumption)) ?_
  | refine Lay.Kds.cons (.dK (by assumption)) ?_)
local macro_rules | `(tactic| walk_at "sm") => `(tactic| first
  | exact L2.Same.refl _
  | assumption
  | ((with_reducible refine' Lay.Same.upd' ?_ ?_); (focus walk_at "sm"); (focus assumption)))
local macro_rules | `(tactic| walk_at "hp") => `(tactic| first
  | assumption
  | with_reducible exact L2.upd_same
  | ((with_reducible apply Lay.upd_old); (focus assumption); walk_at "hp")
  | ((with_reducible apply Lay.sqL_of); walk_at "hp")
  | ((with_reducible apply Lay.sqT_of); walk_at "hp")
  | ((with_reducible apply Lay.sqL_upd); (focus assumption); walk_at "hp")
  | ((with_reducible apply Lay.sqT_upd); (focus assumption); walk_at "hp"))
local macro_rules | `(tactic| walk_at "ar") => `(tactic| first
  | (show _ ≠ _; omega)
  | (show L2.CDivN _ _; exact ⟨by omega, by omega⟩)
  | (show L2.CMul _ _; exact .inl ⟨by omega, by omega⟩)
  | (show L2.CMul _ _; exact .inr ⟨by omega, by omega⟩)
  | (show L2.CPow _ _; exact ⟨by omega, by omega, by omega⟩))
local macro_rules | `(tactic| walk_at "r1") => `(tactic| first
  | with_reducible refine Lay.rd_seq ?_
  | with_reducible refine Lay.rd_asg ?_
  | with_reducible refine Lay.rd_ifS ?_
  | with_reducible refine Lay.rd_ret ?_
  | with_reducible refine Lay.rd_retN ?_
  | with_reducible refine Lay.rd_next ?_
  | with_reducible refine Lay.rd_drop ?_
  | with_reducible refine Lay.rd_name ?_
  | with_reducible refine Lay.rd_sub ?_
  | ((with_reducible refine' Lay.rd_var ?k1 ?_); (case k1 => rfl))
  | with_reducible refine Lay.rd_c ?_
  | with_reducible refine Lay.rd_op ?_
  | with_reducible refine Lay.rd_un ?_
  | with_reducible refine Lay.rd_I0 ?_
  | with_reducible refine Lay.rd_U ?_
  | with_reducible refine Lay.rd_tup ?_
  | with_reducible refine Lay.rd_lst ?_
  | with_reducible refine Lay.rd_cons ?_
  | with_reducible refine Lay.rd_nil ?_
  | with_reducible refine Lay.rd_star ?_
  | with_reducible refine Lay.rd_call ?_
  | with_reducible refine Lay.rd_CB ?_
  | with_reducible refine Lay.rd_test ?_
  | with_reducible refine Lay.rd_tB ?_
  | with_reducible refine Lay.rd_and ?_
  | with_reducible refine Lay.rd_or ?_
  | with_reducible refine Lay.rd_not ?_
  | with_reducible refine Lay.rd_andV ?_
  | with_reducible refine Lay.rd_orV ?_
  | with_reducible refine Lay.rd_notV ?_
  | with_reducible refine Lay.rd_tIf ?_
  | with_reducible refine Lay.rd_sl ?_
  | with_reducible refine Lay.rd_noP ?_
  | with_reducible refine Lay.rd_part ?_
  | with_reducible refine Lay.rd_int ?_
  | with_reducible refine Lay.rd_intB ?_
  | with_reducible refine Lay.rd_abs ?_
  | ((with_reducible refine' Lay.rd_ixL ?k1 ?k2 ?_); (case k1 => walk_at "hp"); (case k2 => rfl))
  | ((with_reducible refine' Lay.rd_ixT ?k1 ?k2 ?_); (case k1 => walk_at "hp"); (case k2 => rfl))
  | ((with_reducible refine' Lay.rd_setL ?k1 ?k2 ?_); (case k1 => walk_at "hp"); (case k2 => rfl))
  | ((with_reducible refine' Lay.rd_lenL ?k1 ?_); (case k1 => walk_at "hp"))
  | ((with_reducible refine' Lay.rd_lenT ?k1 ?_); (case k1 => walk_at "hp"))
  | ((with_reducible refine' Lay.rd_I ?k1 ?_); (case k1 => walk_at "ar"))
  | with_reducible refine Lay.rd_lc ?_
  | with_reducible refine Lay.rd_iStr ?_
  | with_reducible refine Lay.rd_iList ?_
  | with_reducible refine Lay.rd_iTup ?_
  | with_reducible refine Lay.rd_iRng1 ?_
  | with_reducible refine Lay.rd_iEnumT ?_
  | with_reducible refine Lay.rd_yes ?_
  | with_reducible refine Lay.rd_sign ?_
  | with_reducible refine Lay.rd_chain ?_
  | with_reducible refine Lay.rd_gcons ?_
  | with_reducible refine Lay.rd_gnil ?_
  | ((with_reducible refine' Lay.rd_gtup ?k1 ?k2 ?_); (case k1 => walk_at "hp"); (case k2 => rfl))
  | with_reducible refine Lay.rd_eqI ?_
  | with_reducible refine Lay.rd_neI ?_
  | with_reducible refine Lay.rd_eqS ?_
  | with_reducible refine Lay.rd_neS ?_
  | with_reducible refine Lay.rd_eqB ?_
  | with_reducible refine Lay.rd_neB ?_
  | with_reducible refine Lay.rd_exb ?_
  | with_reducible refine Lay.rd_exi ?_
  | with_reducible refine Lay.rd_exs ?_
  | with_reducible refine Lay.rd_exr ?_)
local macro_rules | `(tactic| walk_at "rd") => `(tactic| ((repeat walk_at "r1"); (try dsimp only [List.set, Int.reduceToNat, List.length_cons, List.length_nil, List.nil_append, List.cons_append, List.append_nil])))
local macro_rules | `(tactic| walk_at "in") => `(tactic| (dsimp only [L2.cxOf, L2.start, List.map, List.length_cons, List.length_nil, Nat.reduceAdd, Nat.reduceSub, List.replicate_succ, List.replicate_zero, List.cons_append, List.nil_append]))
local macro_rules | `(tactic| walk_at "it") => `(tactic| ((repeat first | walk_at "r1" | with_reducible refine L2.iteT ?_ | with_reducible refine L2.iteF ?_ | with_reducible refine Lay.iteNT ?_ | with_reducible refine Lay.iteNF ?_); (try dsimp only [List.set, Int.reduceToNat, List.length_cons, List.length_nil, List.nil_append, List.cons_append, List.append_nil])))
namespace My
open PySem L2
def top (i : Nat) : Stmt := PySem.Challenge.pw_unkeptlines_k12_whole_bytes_of_steps.main.body.getD i (.Pass ⟨0, 0, 0, 0⟩)
abbrev s_NoPart_init : Stmt := inClass (top 3) 0
abbrev s_is_integer : Stmt := top 10
abbrev s_is_within : Stmt := top 11
abbrev s_is_name : Stmt := top 12
abbrev s_is_step : Stmt := top 21
abbrev s_is_memory_step : Stmt := top 22
abbrev s_concerns_signal : Stmt := top 23
abbrev s_check_agent : Stmt := top 27
abbrev s_Agent_init : Stmt := inClass (top 28) 2
abbrev s_Agent_made : Stmt := inClass (top 28) 3
abbrev s_Through_init : Stmt := inClass (top 29) 2
abbrev s_Through_made : Stmt := inClass (top 29) 3
abbrev s_Back_init : Stmt := inClass (top 30) 2
abbrev s_Back_made : Stmt := inClass (top 30) 3
abbrev s_Signal_init : Stmt := inClass (top 33) 0
abbrev s_Variable_init : Stmt := inClass (top 38) 0
abbrev s_Variable_made : Stmt := inClass (top 38) 1
abbrev s_check_addresses : Stmt := top 39
abbrev s_check_slots_apart : Stmt := top 40
abbrev s_lines_of : Stmt := top 41
abbrev s_Net_init : Stmt := inClass (top 47) 1
abbrev s_Net_made : Stmt := inClass (top 47) 2
abbrev s_Net_is_place : Stmt := inClass (top 47) 11
abbrev s_Net_step : Stmt := inClass (top 47) 12
abbrev s_Net_touched : Stmt := inClass (top 47) 15
abbrev s_Net_lines : Stmt := inClass (top 47) 16
abbrev s_check_parts : Stmt := top 48
abbrev s_check_many : Stmt := top 49
abbrev s_check_names : Stmt := top 50
abbrev s_check_bytes : Stmt := top 51
abbrev s_check_steps : Stmt := top 52
abbrev s_check_signals : Stmt := top 53
abbrev s_pen : Stmt := top 55
abbrev s_draw : Stmt := top 56
abbrev s_steps : Stmt := top 57
abbrev s_items : Stmt := top 58
abbrev s_shuffled : Stmt := top 59
abbrev s_part : Stmt := top 60
abbrev s_bytes : Stmt := top 61
abbrev s_lines : Stmt := top 62
abbrev s_whole : Stmt := top 63
abbrev s_right : Stmt := top 64
abbrev s_round : Stmt := top 65
abbrev s_law : Stmt := top 66
theorem sc_NoPart_init : FnScope ["self", "reason", "place"] ["self", "reason", "place"] (defScope s_NoPart_init) := ⟨rfl, rfl, rfl, by decide +kernel, rfl, by decide +kernel, by decide +kernel⟩
theorem sc_is_integer : FnScope ["value"] ["value"] (defScope s_is_integer) := ⟨rfl, rfl, rfl, by decide +kernel, rfl, by decide +kernel, by decide +kernel⟩
theorem sc_is_within : FnScope ["value", "low", "high"] ["value", "low", "high"] (defScope s_is_within) := ⟨rfl, rfl, rfl, by decide +kernel, rfl, by decide +kernel, by decide +kernel⟩
theorem sc_is_name : FnScope ["value", "sign"] ["value"] (defScope s_is_name) := ⟨rfl, rfl, rfl, by decide +kernel, rfl, by decide +kernel, by decide +kernel⟩
theorem sc_is_step : FnScope ["value"] ["value"] (defScope s_is_step) := ⟨rfl, rfl, rfl, by decide +kernel, rfl, by decide +kernel, by decide +kernel⟩
theorem sc_is_memory_step : FnScope ["value", "word", "variable", "shift", "first", "last"] ["value"] (defScope s_is_memory_step) := ⟨rfl, rfl, rfl, by decide +kernel, rfl, by decide +kernel, by decide +kernel⟩
theorem sc_concerns_signal : FnScope ["step"] ["step"] (defScope s_concerns_signal) := ⟨rfl, rfl, rfl, by decide +kernel, rfl, by decide +kernel, by decide +kernel⟩
theorem sc_check_agent : FnScope ["name", "steps", "words", "k", "step"] ["name", "steps", "words"] (defScope s_check_agent) := ⟨rfl, rfl, rfl, by decide +kernel, rfl, by decide +kernel, by decide +kernel⟩
theorem sc_Agent_init : FnScope ["self", "name", "steps"] ["self", "name", "steps"] (defScope s_Agent_init) := ⟨rfl, rfl, rfl, by decide +kernel, rfl, by decide +kernel, by decide +kernel⟩
theorem sc_Agent_made : FnScope ["cls", "name", "steps"] ["cls", "name", "steps"] (defScope s_Agent_made) := ⟨rfl, rfl, rfl, by decide +kernel, rfl, by decide +kernel, by decide +kernel⟩
theorem sc_Through_init : FnScope ["self", "name", "steps"] ["self", "name", "steps"] (defScope s_Through_init) := ⟨rfl, rfl, rfl, by decide +kernel, rfl, by decide +kernel, by decide +kernel⟩
theorem sc_Through_made : FnScope ["cls", "name", "steps"] ["cls", "name", "steps"] (defScope s_Through_made) := ⟨rfl, rfl, rfl, by decide +kernel, rfl, by decide +kernel, by decide +kernel⟩
theorem sc_Back_init : FnScope ["self", "name", "steps"] ["self", "name", "steps"] (defScope s_Back_init) := ⟨rfl, rfl, rfl, by decide +kernel, rfl, by decide +kernel, by decide +kernel⟩
theorem sc_Back_made : FnScope ["cls", "name", "steps"] ["cls", "name", "steps"] (defScope s_Back_made) := ⟨rfl, rfl, rfl, by decide +kernel, rfl, by decide +kernel, by decide +kernel⟩
theorem sc_Signal_init : FnScope ["self", "name", "tokens"] ["self", "name", "tokens"] (defScope s_Signal_init) := ⟨rfl, rfl, rfl, by decide +kernel, rfl, by decide +kernel, by decide +kernel⟩
theorem sc_Variable_init : FnScope ["self", "name", "size", "at"] ["self", "name", "size", "at"] (defScope s_Variable_init) := ⟨rfl, rfl, rfl, by decide +kernel, rfl, by decide +kernel, by decide +kernel⟩
theorem sc_Variable_made : FnScope ["cls", "name", "size", "at"] ["cls", "name", "size", "at"] (defScope s_Variable_made) := ⟨rfl, rfl, rfl, by decide +kernel, rfl, by decide +kernel, by decide +kernel⟩
theorem sc_check_addresses : FnScope ["size", "at", "k", "address"] ["size", "at"] (defScope s_check_addresses) := ⟨rfl, rfl, rfl, by decide +kernel, rfl, by decide +kernel, by decide +kernel⟩
theorem sc_check_slots_apart : FnScope ["size", "at", "k", "address", "earlier"] ["size", "at"] (defScope s_check_slots_apart) := ⟨rfl, rfl, rfl, by decide +kernel, rfl, by decide +kernel, by decide +kernel⟩
theorem sc_lines_of : FnScope ["addresses", "line", "address"] ["addresses", "line"] (defScope s_lines_of) := ⟨rfl, rfl, rfl, by decide +kernel, rfl, by decide +kernel, by decide +kernel⟩
theorem sc_Net_init : FnScope ["self", "line", "ring", "parts", "part"] ["self", "line", "ring", "parts"] (defScope s_Net_init) := ⟨rfl, rfl, rfl, by decide +kernel, rfl, by decide +kernel, by decide +kernel⟩
theorem sc_Net_made : FnScope ["cls", "parts", "line", "ring"] ["cls", "parts", "line", "ring"] (defScope s_Net_made) := ⟨rfl, rfl, rfl, by decide +kernel, rfl, by decide +kernel, by decide +kernel⟩
theorem sc_Net_is_place : FnScope ["self", "value", "agent", "at"] ["self", "value"] (defScope s_Net_is_place) := ⟨rfl, rfl, rfl, by decide +kernel, rfl, by decide +kernel, by decide +kernel⟩
theorem sc_Net_step : FnScope ["self", "place", "agent", "at"] ["self", "place"] (defScope s_Net_step) := ⟨rfl, rfl, rfl, by decide +kernel, rfl, by decide +kernel, by decide +kernel⟩
theorem sc_Net_touched : FnScope ["self", "place", "n", "step", "_", "name", "shift", "first", "last", "slots", "address"] ["self", "place", "n"] (defScope s_Net_touched) := ⟨rfl, rfl, rfl, by decide +kernel, rfl, by decide +kernel, by decide +kernel⟩
theorem sc_Net_lines : FnScope ["self", "place", "n"] ["self", "place", "n"] (defScope s_Net_lines) := ⟨rfl, rfl, rfl, by decide +kernel, rfl, by decide +kernel, by decide +kernel⟩
theorem sc_check_parts : FnScope ["parts", "ring", "k", "part", "agents"] ["parts", "ring"] (defScope s_check_parts) := ⟨rfl, rfl, rfl, by decide +kernel, rfl, by decide +kernel, by decide +kernel⟩
theorem sc_check_many : FnScope ["parts", "agents", "variables", "signals", "k", "part"] ["parts"] (defScope s_check_many) := ⟨rfl, rfl, rfl, by decide +kernel, rfl, by decide +kernel, by decide +kernel⟩
theorem sc_check_names : FnScope ["parts", "names", "part", "k", "name"] ["parts"] (defScope s_check_names) := ⟨rfl, rfl, rfl, by decide +kernel, rfl, by decide +kernel, by decide +kernel⟩
theorem sc_check_bytes : FnScope ["parts", "taken", "k", "part", "own", "address", "more"] ["parts"] (defScope s_check_bytes) := ⟨rfl, rfl, rfl, by decide +kernel, rfl, by decide +kernel, by decide +kernel⟩
theorem sc_check_steps : FnScope ["parts", "agents", "sizes", "part", "signals", "a", "agent", "s", "step", "name", "fits"] ["parts", "agents"] (defScope s_check_steps) := ⟨rfl, rfl, rfl, by decide +kernel, rfl, by decide +kernel, by decide +kernel⟩
theorem sc_check_signals : FnScope ["parts", "agents", "steps", "agent", "step", "k", "part", "posts", "waits"] ["parts", "agents"] (defScope s_check_signals) := ⟨rfl, rfl, rfl, by decide +kernel, rfl, by decide +kernel, by decide +kernel⟩
theorem sc_pen : FnScope ["_law_script"] ["_law_script"] (defScope s_pen) := ⟨rfl, rfl, rfl, by decide +kernel, rfl, by decide +kernel, by decide +kernel⟩
theorem sc_draw : FnScope ["_law_pen_here", "_law_many", "_law_digit", "_law_begun", "_law_cell", "_law_great", "_law_mixed"] ["_law_pen_here", "_law_many"] (defScope s_draw) := ⟨rfl, rfl, rfl, by decide +kernel, rfl, by decide +kernel, by decide +kernel⟩
theorem sc_steps : FnScope ["_law_pen_here", "_law_kind", "_law_variables_here", "_law_signalled", "_law_found", "_law_k", "_law_words", "_law_word", "_law_chosen", "_law_first", "_law_step", "_law_spot"] ["_law_pen_here", "_law_kind", "_law_variables_here", "_law_signalled"] (defScope s_steps) := ⟨rfl, rfl, rfl, by decide +kernel, rfl, by decide +kernel, by decide +kernel⟩
theorem sc_items : FnScope ["_law_pen_here", "_law_slots_here", "_law_items_here", "_law_free", "_law_k", "_law_big", "_law_spots", "_law_j", "_law_variables_here", "_law_many", "_law_signalled", "_law_kind"] ["_law_pen_here", "_law_slots_here"] (defScope s_items) := ⟨rfl, rfl, rfl, by decide +kernel, rfl, by decide +kernel, by decide +kernel⟩
theorem sc_shuffled : FnScope ["_law_pen_here", "_law_items_here", "_law_found", "_law_item", "_law_spot"] ["_law_pen_here", "_law_items_here"] (defScope s_shuffled) := ⟨rfl, rfl, rfl, by decide +kernel, rfl, by decide +kernel, by decide +kernel⟩
theorem sc_part : FnScope ["_law_item"] ["_law_item"] (defScope s_part) := ⟨rfl, rfl, rfl, by decide +kernel, rfl, by decide +kernel, by decide +kernel⟩
theorem sc_bytes : FnScope ["_law_items_here", "_law_slots_here", "_law_step", "_law_n", "_law_chosen", "_law_item", "_law_number", "_law_start", "_law_k"] ["_law_items_here", "_law_slots_here", "_law_step", "_law_n"] (defScope s_bytes) := ⟨rfl, rfl, rfl, by decide +kernel, rfl, by decide +kernel, by decide +kernel⟩
theorem sc_lines : FnScope ["_law_spots", "_law_width", "_law_found", "_law_spot", "_law_number"] ["_law_spots", "_law_width"] (defScope s_lines) := ⟨rfl, rfl, rfl, by decide +kernel, rfl, by decide +kernel, by decide +kernel⟩
theorem sc_whole : FnScope ["_law_numbers", "_law_one"] ["_law_numbers"] (defScope s_whole) := ⟨rfl, rfl, rfl, by decide +kernel, rfl, by decide +kernel, by decide +kernel⟩
theorem sc_right : FnScope ["_law_net", "_law_items_here", "_law_slots_here", "_law_spot", "_law_step", "_law_n", "_law_wanted", "_law_found"] ["_law_net", "_law_items_here", "_law_slots_here", "_law_spot", "_law_step", "_law_n"] (defScope s_right) := ⟨rfl, rfl, rfl, by decide +kernel, rfl, by decide +kernel, by decide +kernel⟩
theorem sc_round : FnScope ["_law_pen_here", "_law_slots_here", "_law_items_here", "_law_handed", "_law_item", "_law_agents_here", "_law_far", "_law_width", "_law_net", "_law_a", "_law_s", "_law_step", "_law_n"] ["_law_pen_here"] (defScope s_round) := ⟨rfl, rfl, rfl, by decide +kernel, rfl, by decide +kernel, by decide +kernel⟩
theorem sc_law : FnScope ["_law_script", "_law_pen_here"] ["_law_script"] (defScope s_law) := ⟨rfl, rfl, rfl, by decide +kernel, rfl, by decide +kernel, by decide +kernel⟩
structure Adr where
  a_NoPart_init : Addr
  d_NoPart_init : FuncData
  a_is_integer : Addr
  d_is_integer : FuncData
  a_is_within : Addr
  d_is_within : FuncData
  a_is_name : Addr
  d_is_name : FuncData
  a_is_step : Addr
  d_is_step : FuncData
  a_is_memory_step : Addr
  d_is_memory_step : FuncData
  a_concerns_signal : Addr
  d_concerns_signal : FuncData
  a_check_agent : Addr
  d_check_agent : FuncData
  a_Agent_init : Addr
  d_Agent_init : FuncData
  a_Agent_made : Addr
  d_Agent_made : FuncData
  a_Through_init : Addr
  d_Through_init : FuncData
  a_Through_made : Addr
  d_Through_made : FuncData
  a_Back_init : Addr
  d_Back_init : FuncData
  a_Back_made : Addr
  d_Back_made : FuncData
  a_Signal_init : Addr
  d_Signal_init : FuncData
  a_Variable_init : Addr
  d_Variable_init : FuncData
  a_Variable_made : Addr
  d_Variable_made : FuncData
  a_check_addresses : Addr
  d_check_addresses : FuncData
  a_check_slots_apart : Addr
  d_check_slots_apart : FuncData
  a_lines_of : Addr
  d_lines_of : FuncData
  a_Net_init : Addr
  d_Net_init : FuncData
  a_Net_made : Addr
  d_Net_made : FuncData
  a_Net_is_place : Addr
  d_Net_is_place : FuncData
  a_Net_step : Addr
  d_Net_step : FuncData
  a_Net_touched : Addr
  d_Net_touched : FuncData
  a_Net_lines : Addr
  d_Net_lines : FuncData
  a_check_parts : Addr
  d_check_parts : FuncData
  a_check_many : Addr
  d_check_many : FuncData
  a_check_names : Addr
  d_check_names : FuncData
  a_check_bytes : Addr
  d_check_bytes : FuncData
  a_check_steps : Addr
  d_check_steps : FuncData
  a_check_signals : Addr
  d_check_signals : FuncData
  a_pen : Addr
  d_pen : FuncData
  a_draw : Addr
  d_draw : FuncData
  a_steps : Addr
  d_steps : FuncData
  a_items : Addr
  d_items : FuncData
  a_shuffled : Addr
  d_shuffled : FuncData
  a_part : Addr
  d_part : FuncData
  a_bytes : Addr
  d_bytes : FuncData
  a_lines : Addr
  d_lines : FuncData
  a_whole : Addr
  d_whole : FuncData
  a_right : Addr
  d_right : FuncData
  a_round : Addr
  d_round : FuncData
  a_law : Addr
  d_law : FuncData
  c_UnkeptError : Addr
  c_NoPart : Addr
  c_Agent : Addr
  c_Through : Addr
  c_Back : Addr
  c_Variable : Addr
  c_Signal : Addr
  c_Net : Addr
  t_LETTERS : Tok
  t_LONGEST_NAME : Tok
  t_ACCESS_WORDS : Addr
  t_UPKEEP_WORDS : Addr
  t_SIGNAL_WORDS : Addr
  t_PLAIN_WORDS : Addr
  t_CACHE_WORDS : Addr
  t_GREATEST_SHIFT : Tok
  t_GREATEST_BYTE : Tok
  t_MOST_STEPS : Tok
  t_MOST_TOKENS : Tok
  t_GREATEST_SIZE : Tok
  t_MOST_SLOTS : Tok
  t_ADDRESSES : Tok
  t_MOST_AGENTS : Tok
  t_MOST_VARIABLES : Tok
  t_MOST_SIGNALS : Tok
  t_LONGEST_RING : Tok
  t_LINES : Addr
structure Txt (K : PySem.W.Frag) (mg : Str → Option Value) (A : Adr) : Prop where
  n_set : mg "set" = none
  n_sorted : mg "sorted" = none
  n_list : mg "list" = none
  n_int : mg "int" = none
  n_len : mg "len" = none
  n_abs : mg "abs" = none
  n_isinstance : mg "isinstance" = none
  n_str : mg "str" = none
  n_bool : mg "bool" = none
  n_tuple : mg "tuple" = none
  n_all : mg "all" = none
  n_any : mg "any" = none
  n_enumerate : mg "enumerate" = none
  n_range : mg "range" = none
  n_reversed : mg "reversed" = none
  k_LETTERS : mg "LETTERS" = some (.str "abcdefghijklmnopqrstuvwxyz" A.t_LETTERS)
  k_LONGEST_NAME : mg "LONGEST_NAME" = some (.int 8 A.t_LONGEST_NAME)
  k_ACCESS_WORDS : mg "ACCESS_WORDS" = some (.ref A.t_ACCESS_WORDS)
  q_ACCESS_WORDS : ∀ H, SqT K H A.t_ACCESS_WORDS [V.str "read", V.str "write", V.str "get", V.str "put"]
  k_UPKEEP_WORDS : mg "UPKEEP_WORDS" = some (.ref A.t_UPKEEP_WORDS)
  q_UPKEEP_WORDS : ∀ H, SqT K H A.t_UPKEEP_WORDS [V.str "clean", V.str "drop", V.str "flush"]
  k_SIGNAL_WORDS : mg "SIGNAL_WORDS" = some (.ref A.t_SIGNAL_WORDS)
  q_SIGNAL_WORDS : ∀ H, SqT K H A.t_SIGNAL_WORDS [V.str "post", V.str "wait"]
  k_PLAIN_WORDS : mg "PLAIN_WORDS" = some (.ref A.t_PLAIN_WORDS)
  q_PLAIN_WORDS : ∀ H, SqT K H A.t_PLAIN_WORDS [V.str "read", V.str "write", V.str "post", V.str "wait"]
  k_CACHE_WORDS : mg "CACHE_WORDS" = some (.ref A.t_CACHE_WORDS)
  q_CACHE_WORDS : ∀ H, SqT K H A.t_CACHE_WORDS [V.str "read", V.str "write", V.str "get", V.str "put", V.str "clean", V.str "drop", V.str "flush", V.str "post", V.str "wait"]
  k_GREATEST_SHIFT : mg "GREATEST_SHIFT" = some (.int 3 A.t_GREATEST_SHIFT)
  k_GREATEST_BYTE : mg "GREATEST_BYTE" = some (.int 7 A.t_GREATEST_BYTE)
  k_MOST_STEPS : mg "MOST_STEPS" = some (.int 24 A.t_MOST_STEPS)
  k_MOST_TOKENS : mg "MOST_TOKENS" = some (.int 3 A.t_MOST_TOKENS)
  k_GREATEST_SIZE : mg "GREATEST_SIZE" = some (.int 8 A.t_GREATEST_SIZE)
  k_MOST_SLOTS : mg "MOST_SLOTS" = some (.int 4 A.t_MOST_SLOTS)
  k_ADDRESSES : mg "ADDRESSES" = some (.int 1024 A.t_ADDRESSES)
  k_MOST_AGENTS : mg "MOST_AGENTS" = some (.int 4 A.t_MOST_AGENTS)
  k_MOST_VARIABLES : mg "MOST_VARIABLES" = some (.int 6 A.t_MOST_VARIABLES)
  k_MOST_SIGNALS : mg "MOST_SIGNALS" = some (.int 6 A.t_MOST_SIGNALS)
  k_LONGEST_RING : mg "LONGEST_RING" = some (.int 4 A.t_LONGEST_RING)
  F_NoPart_init : Fun K "__init__" "NoPart.__init__" s_NoPart_init A.a_NoPart_init A.d_NoPart_init
  b_NoPart_init : Binds K A.d_NoPart_init ["self", "reason", "place"] []
  F_is_integer : Fun K "is_integer" "is_integer" s_is_integer A.a_is_integer A.d_is_integer
  g_is_integer : mg "is_integer" = some (.ref A.a_is_integer)
  b_is_integer : Binds K A.d_is_integer ["value"] []
  F_is_within : Fun K "is_within" "is_within" s_is_within A.a_is_within A.d_is_within
  g_is_within : mg "is_within" = some (.ref A.a_is_within)
  b_is_within : Binds K A.d_is_within ["value", "low", "high"] []
  F_is_name : Fun K "is_name" "is_name" s_is_name A.a_is_name A.d_is_name
  g_is_name : mg "is_name" = some (.ref A.a_is_name)
  b_is_name : Binds K A.d_is_name ["value"] []
  F_is_step : Fun K "is_step" "is_step" s_is_step A.a_is_step A.d_is_step
  g_is_step : mg "is_step" = some (.ref A.a_is_step)
  b_is_step : Binds K A.d_is_step ["value"] []
  F_is_memory_step : Fun K "_is_memory_step" "_is_memory_step" s_is_memory_step A.a_is_memory_step A.d_is_memory_step
  g_is_memory_step : mg "_is_memory_step" = some (.ref A.a_is_memory_step)
  b_is_memory_step : Binds K A.d_is_memory_step ["value"] []
  F_concerns_signal : Fun K "concerns_signal" "concerns_signal" s_concerns_signal A.a_concerns_signal A.d_concerns_signal
  g_concerns_signal : mg "concerns_signal" = some (.ref A.a_concerns_signal)
  b_concerns_signal : Binds K A.d_concerns_signal ["step"] []
  F_check_agent : Fun K "_check_agent" "_check_agent" s_check_agent A.a_check_agent A.d_check_agent
  g_check_agent : mg "_check_agent" = some (.ref A.a_check_agent)
  b_check_agent : Binds K A.d_check_agent ["name", "steps", "words"] []
  F_Agent_init : Fun K "__init__" "Agent.__init__" s_Agent_init A.a_Agent_init A.d_Agent_init
  F_Agent_made : Fun K "made" "Agent.made" s_Agent_made A.a_Agent_made A.d_Agent_made
  cm_Agent_made : ∃ p, ClX.CMet K A.c_Agent (.type "type") "made" p A.a_Agent_made
  b_Agent_made : Binds K A.d_Agent_made ["cls", "name", "steps"] []
  F_Through_init : Fun K "__init__" "Through.__init__" s_Through_init A.a_Through_init A.d_Through_init
  F_Through_made : Fun K "made" "Through.made" s_Through_made A.a_Through_made A.d_Through_made
  cm_Through_made : ∃ p, ClX.CMet K A.c_Through (.type "type") "made" p A.a_Through_made
  b_Through_made : Binds K A.d_Through_made ["cls", "name", "steps"] []
  F_Back_init : Fun K "__init__" "Back.__init__" s_Back_init A.a_Back_init A.d_Back_init
  F_Back_made : Fun K "made" "Back.made" s_Back_made A.a_Back_made A.d_Back_made
  cm_Back_made : ∃ p, ClX.CMet K A.c_Back (.type "type") "made" p A.a_Back_made
  b_Back_made : Binds K A.d_Back_made ["cls", "name", "steps"] []
  F_Signal_init : FunD K "__init__" "Signal.__init__" (defArgs s_Signal_init) (defBody s_Signal_init) (defScope s_Signal_init) [V.int 0] [] A.a_Signal_init A.d_Signal_init
  F_Variable_init : Fun K "__init__" "Variable.__init__" s_Variable_init A.a_Variable_init A.d_Variable_init
  F_Variable_made : Fun K "made" "Variable.made" s_Variable_made A.a_Variable_made A.d_Variable_made
  cm_Variable_made : ∃ p, ClX.CMet K A.c_Variable (.type "type") "made" p A.a_Variable_made
  b_Variable_made : Binds K A.d_Variable_made ["cls", "name", "size", "at"] []
  F_check_addresses : Fun K "_check_addresses" "_check_addresses" s_check_addresses A.a_check_addresses A.d_check_addresses
  g_check_addresses : mg "_check_addresses" = some (.ref A.a_check_addresses)
  b_check_addresses : Binds K A.d_check_addresses ["size", "at"] []
  F_check_slots_apart : Fun K "_check_slots_apart" "_check_slots_apart" s_check_slots_apart A.a_check_slots_apart A.d_check_slots_apart
  g_check_slots_apart : mg "_check_slots_apart" = some (.ref A.a_check_slots_apart)
  b_check_slots_apart : Binds K A.d_check_slots_apart ["size", "at"] []
  F_lines_of : Fun K "lines_of" "lines_of" s_lines_of A.a_lines_of A.d_lines_of
  g_lines_of : mg "lines_of" = some (.ref A.a_lines_of)
  b_lines_of : Binds K A.d_lines_of ["addresses", "line"] []
  F_Net_init : FunD K "__init__" "Net.__init__" (defArgs s_Net_init) (defBody s_Net_init) (defScope s_Net_init) [] [("line", V.int 8), ("ring", V.int 1)] A.a_Net_init A.d_Net_init
  F_Net_made : FunD K "made" "Net.made" (defArgs s_Net_made) (defBody s_Net_made) (defScope s_Net_made) [] [("line", V.int 8), ("ring", V.int 1)] A.a_Net_made A.d_Net_made
  cm_Net_made : ∃ p, ClX.CMet K A.c_Net (.type "type") "made" p A.a_Net_made
  F_Net_is_place : Fun K "is_place" "Net.is_place" s_Net_is_place A.a_Net_is_place A.d_Net_is_place
  b_Net_is_place : Binds K A.d_Net_is_place ["self", "value"] []
  F_Net_step : Fun K "step" "Net.step" s_Net_step A.a_Net_step A.d_Net_step
  b_Net_step : Binds K A.d_Net_step ["self", "place"] []
  F_Net_touched : Fun K "touched" "Net.touched" s_Net_touched A.a_Net_touched A.d_Net_touched
  b_Net_touched : Binds K A.d_Net_touched ["self", "place", "n"] []
  F_Net_lines : Fun K "lines" "Net.lines" s_Net_lines A.a_Net_lines A.d_Net_lines
  b_Net_lines : Binds K A.d_Net_lines ["self", "place", "n"] []
  F_check_parts : Fun K "_check_parts" "_check_parts" s_check_parts A.a_check_parts A.d_check_parts
  g_check_parts : mg "_check_parts" = some (.ref A.a_check_parts)
  b_check_parts : Binds K A.d_check_parts ["parts", "ring"] []
  F_check_many : Fun K "_check_many" "_check_many" s_check_many A.a_check_many A.d_check_many
  g_check_many : mg "_check_many" = some (.ref A.a_check_many)
  b_check_many : Binds K A.d_check_many ["parts"] []
  F_check_names : Fun K "_check_names" "_check_names" s_check_names A.a_check_names A.d_check_names
  g_check_names : mg "_check_names" = some (.ref A.a_check_names)
  b_check_names : Binds K A.d_check_names ["parts"] []
  F_check_bytes : Fun K "_check_bytes" "_check_bytes" s_check_bytes A.a_check_bytes A.d_check_bytes
  g_check_bytes : mg "_check_bytes" = some (.ref A.a_check_bytes)
  b_check_bytes : Binds K A.d_check_bytes ["parts"] []
  F_check_steps : Fun K "_check_steps" "_check_steps" s_check_steps A.a_check_steps A.d_check_steps
  g_check_steps : mg "_check_steps" = some (.ref A.a_check_steps)
  b_check_steps : Binds K A.d_check_steps ["parts", "agents"] []
  F_check_signals : Fun K "_check_signals" "_check_signals" s_check_signals A.a_check_signals A.d_check_signals
  g_check_signals : mg "_check_signals" = some (.ref A.a_check_signals)
  b_check_signals : Binds K A.d_check_signals ["parts", "agents"] []
  F_pen : Fun K "_law_pen" "_law_pen" s_pen A.a_pen A.d_pen
  g_pen : mg "_law_pen" = some (.ref A.a_pen)
  b_pen : Binds K A.d_pen ["_law_script"] []
  F_draw : Fun K "_law_draw" "_law_draw" s_draw A.a_draw A.d_draw
  g_draw : mg "_law_draw" = some (.ref A.a_draw)
  b_draw : Binds K A.d_draw ["_law_pen_here", "_law_many"] []
  F_steps : Fun K "_law_steps" "_law_steps" s_steps A.a_steps A.d_steps
  g_steps : mg "_law_steps" = some (.ref A.a_steps)
  b_steps : Binds K A.d_steps ["_law_pen_here", "_law_kind", "_law_variables_here", "_law_signalled"] []
  F_items : Fun K "_law_items" "_law_items" s_items A.a_items A.d_items
  g_items : mg "_law_items" = some (.ref A.a_items)
  b_items : Binds K A.d_items ["_law_pen_here", "_law_slots_here"] []
  F_shuffled : Fun K "_law_shuffled" "_law_shuffled" s_shuffled A.a_shuffled A.d_shuffled
  g_shuffled : mg "_law_shuffled" = some (.ref A.a_shuffled)
  b_shuffled : Binds K A.d_shuffled ["_law_pen_here", "_law_items_here"] []
  F_part : Fun K "_law_part" "_law_part" s_part A.a_part A.d_part
  g_part : mg "_law_part" = some (.ref A.a_part)
  b_part : Binds K A.d_part ["_law_item"] []
  F_bytes : Fun K "_law_bytes" "_law_bytes" s_bytes A.a_bytes A.d_bytes
  g_bytes : mg "_law_bytes" = some (.ref A.a_bytes)
  b_bytes : Binds K A.d_bytes ["_law_items_here", "_law_slots_here", "_law_step", "_law_n"] []
  F_lines : Fun K "_law_lines" "_law_lines" s_lines A.a_lines A.d_lines
  g_lines : mg "_law_lines" = some (.ref A.a_lines)
  b_lines : Binds K A.d_lines ["_law_spots", "_law_width"] []
  F_whole : Fun K "_law_whole" "_law_whole" s_whole A.a_whole A.d_whole
  g_whole : mg "_law_whole" = some (.ref A.a_whole)
  b_whole : Binds K A.d_whole ["_law_numbers"] []
  F_right : Fun K "_law_right" "_law_right" s_right A.a_right A.d_right
  g_right : mg "_law_right" = some (.ref A.a_right)
  b_right : Binds K A.d_right ["_law_net", "_law_items_here", "_law_slots_here", "_law_spot", "_law_step", "_law_n"] []
  F_round : Fun K "_law_round" "_law_round" s_round A.a_round A.d_round
  g_round : mg "_law_round" = some (.ref A.a_round)
  b_round : Binds K A.d_round ["_law_pen_here"] []
  F_law : Fun K "law" "law" s_law A.a_law A.d_law
  g_law : mg "law" = some (.ref A.a_law)
  b_law : Binds K A.d_law ["_law_script"] []
  g_UnkeptError : mg "UnkeptError" = some (.ref A.c_UnkeptError)
  g_NoPart : mg "NoPart" = some (.ref A.c_NoPart)
  g_Agent : mg "Agent" = some (.ref A.c_Agent)
  cl_Agent : Cls K A.c_Agent
  na_Agent_name : NoAttr K A.c_Agent "name"
  na_Agent_steps : NoAttr K A.c_Agent "steps"
  mk_Agent : Mk K A.c_Agent A.a_Agent_init
  g_Through : mg "Through" = some (.ref A.c_Through)
  cl_Through : Cls K A.c_Through
  na_Through_name : NoAttr K A.c_Through "name"
  na_Through_steps : NoAttr K A.c_Through "steps"
  mk_Through : Mk K A.c_Through A.a_Through_init
  g_Back : mg "Back" = some (.ref A.c_Back)
  cl_Back : Cls K A.c_Back
  na_Back_name : NoAttr K A.c_Back "name"
  na_Back_steps : NoAttr K A.c_Back "steps"
  mk_Back : Mk K A.c_Back A.a_Back_init
  g_Variable : mg "Variable" = some (.ref A.c_Variable)
  cl_Variable : Cls K A.c_Variable
  na_Variable_name : NoAttr K A.c_Variable "name"
  na_Variable_size : NoAttr K A.c_Variable "size"
  na_Variable_at : NoAttr K A.c_Variable "at"
  mk_Variable : Mk K A.c_Variable A.a_Variable_init
  g_Signal : mg "Signal" = some (.ref A.c_Signal)
  cl_Signal : Cls K A.c_Signal
  na_Signal_name : NoAttr K A.c_Signal "name"
  na_Signal_tokens : NoAttr K A.c_Signal "tokens"
  mk_Signal : Mk K A.c_Signal A.a_Signal_init
  g_Net : mg "Net" = some (.ref A.c_Net)
  cl_Net : Cls K A.c_Net
  na_Net_line : NoAttr K A.c_Net "line"
  na_Net_ring : NoAttr K A.c_Net "ring"
  na_Net_variables : NoAttr K A.c_Net "variables"
  na_Net_signals : NoAttr K A.c_Net "signals"
  na_Net_agents : NoAttr K A.c_Net "agents"
  na_Net__named : NoAttr K A.c_Net "_named"
  me_Net_is_place : Meth K A.c_Net "is_place" A.a_Net_is_place
  me_Net_step : Meth K A.c_Net "step" A.a_Net_step
  me_Net_touched : Meth K A.c_Net "touched" A.a_Net_touched
  me_Net_lines : Meth K A.c_Net "lines" A.a_Net_lines
  mk_Net : Mk K A.c_Net A.a_Net_init
  ox_NoPart : OexC K A.c_NoPart
  xf_NoPart : XfC K A.c_NoPart
  xc_NoPart : ExcC K A.c_NoPart
  ie_NoPart : PySem.W.findIn K (.ref A.c_NoPart) "__init__" = some (some (.ref A.a_NoPart_init))
  it_NoPart : PySem.W.typeIn K (.ref A.a_NoPart_init) = some (.type "function")
  nf_NoPart_reason : PySem.W.findIn K (.ref A.c_NoPart) "reason" = some none
  nf_NoPart_place : PySem.W.findIn K (.ref A.c_NoPart) "place" = some none
  em_NoPart : PySem.W.exmOne K (.ref A.c_NoPart) (.ref A.c_UnkeptError) = some true
  in_Agent : ∀ (H : Hp) (a dx : Addr) (fs : List (Str × V)), H a = some (.ins A.c_Agent dx fs) → TyX K H (.ref a) (.ref A.c_Agent)
  cr_Agent : ClX.CRead K A.c_Agent (.type "type")
  in_Through : ∀ (H : Hp) (a dx : Addr) (fs : List (Str × V)), H a = some (.ins A.c_Through dx fs) → TyX K H (.ref a) (.ref A.c_Through)
  cr_Through : ClX.CRead K A.c_Through (.type "type")
  in_Back : ∀ (H : Hp) (a dx : Addr) (fs : List (Str × V)), H a = some (.ins A.c_Back dx fs) → TyX K H (.ref a) (.ref A.c_Back)
  cr_Back : ClX.CRead K A.c_Back (.type "type")
  in_Variable : ∀ (H : Hp) (a dx : Addr) (fs : List (Str × V)), H a = some (.ins A.c_Variable dx fs) → TyX K H (.ref a) (.ref A.c_Variable)
  cr_Variable : ClX.CRead K A.c_Variable (.type "type")
  in_Signal : ∀ (H : Hp) (a dx : Addr) (fs : List (Str × V)), H a = some (.ins A.c_Signal dx fs) → TyX K H (.ref a) (.ref A.c_Signal)
  in_Net : ∀ (H : Hp) (a dx : Addr) (fs : List (Str × V)), H a = some (.ins A.c_Net dx fs) → TyX K H (.ref a) (.ref A.c_Net)
  cr_Net : ClX.CRead K A.c_Net (.type "type")
  co_LINES : ∃ u, Con K A.c_Net "LINES" (.ref A.t_LINES) u
  q_LINES : ∀ H, SqT K H A.t_LINES [.int 1, .int 2, .int 4, .int 8, .int 16]
  ki_Agent_Variable : PySem.W.kitOne K (.ref A.c_Agent) (.ref A.c_Variable) = some false
  ki_Agent_Signal : PySem.W.kitOne K (.ref A.c_Agent) (.ref A.c_Signal) = some false
  ki_Agent_Agent : PySem.W.kitOne K (.ref A.c_Agent) (.ref A.c_Agent) = some true
  ki_Through_Variable : PySem.W.kitOne K (.ref A.c_Through) (.ref A.c_Variable) = some false
  ki_Through_Signal : PySem.W.kitOne K (.ref A.c_Through) (.ref A.c_Signal) = some false
  ki_Through_Agent : PySem.W.kitOne K (.ref A.c_Through) (.ref A.c_Agent) = some true
  ki_Back_Variable : PySem.W.kitOne K (.ref A.c_Back) (.ref A.c_Variable) = some false
  ki_Back_Signal : PySem.W.kitOne K (.ref A.c_Back) (.ref A.c_Signal) = some false
  ki_Back_Agent : PySem.W.kitOne K (.ref A.c_Back) (.ref A.c_Agent) = some true
  ki_Variable_Variable : PySem.W.kitOne K (.ref A.c_Variable) (.ref A.c_Variable) = some true
  ki_Variable_Signal : PySem.W.kitOne K (.ref A.c_Variable) (.ref A.c_Signal) = some false
  ki_Variable_Agent : PySem.W.kitOne K (.ref A.c_Variable) (.ref A.c_Agent) = some false
  ki_Signal_Variable : PySem.W.kitOne K (.ref A.c_Signal) (.ref A.c_Variable) = some false
  ki_Signal_Signal : PySem.W.kitOne K (.ref A.c_Signal) (.ref A.c_Signal) = some true
  ki_Signal_Agent : PySem.W.kitOne K (.ref A.c_Signal) (.ref A.c_Agent) = some false
theorem all_mk {K : PySem.W.Frag} {h : Heap} {mg : Str → Option Value} (X : K.In h) (G : h.Ns mainGlobals mg)
    {c_UnkeptError : Addr} {c_NoPart : Addr} {c_Agent : Addr} {c_Through : Addr} {c_Back : Addr} {c_Variable : Addr} {c_Signal : Addr} {c_Net : Addr} {nm_NoPart q_NoPart : Str} {N_NoPart : Addr} {bs_NoPart bm_NoPart : List Value} {sn_NoPart : List Str} {sub_NoPart : List Value} {ab_NoPart : Bool} {col_NoPart : Option Bool} {dd_NoPart : Option Addr} {m0_NoPart m1_NoPart m2_NoPart m3_NoPart m5_NoPart : Option Value} {tln : Addr} {oln : Obj} {itn : Array Value} {nln : Nat}
    {f_NoPart_init : Addr} {od_NoPart_init an_NoPart_init : Option Addr} {sl_NoPart_init : Array (Option Value)} {oc_NoPart_init kV_NoPart_init dc_NoPart_init pm_NoPart_init cd_NoPart_init ct_NoPart_init : Value}
    {f_is_integer : Addr} {od_is_integer an_is_integer : Option Addr} {sl_is_integer : Array (Option Value)} {oc_is_integer kV_is_integer dc_is_integer pm_is_integer cd_is_integer ct_is_integer : Value}
    {f_is_within : Addr} {od_is_within an_is_within : Option Addr} {sl_is_within : Array (Option Value)} {oc_is_within kV_is_within dc_is_within pm_is_within cd_is_within ct_is_within : Value}
    {f_is_name : Addr} {od_is_name an_is_name : Option Addr} {sl_is_name : Array (Option Value)} {oc_is_name kV_is_name dc_is_name pm_is_name cd_is_name ct_is_name : Value}
    {f_is_step : Addr} {od_is_step an_is_step : Option Addr} {sl_is_step : Array (Option Value)} {oc_is_step kV_is_step dc_is_step pm_is_step cd_is_step ct_is_step : Value}
    {f_is_memory_step : Addr} {od_is_memory_step an_is_memory_step : Option Addr} {sl_is_memory_step : Array (Option Value)} {oc_is_memory_step kV_is_memory_step dc_is_memory_step pm_is_memory_step cd_is_memory_step ct_is_memory_step : Value}
    {f_concerns_signal : Addr} {od_concerns_signal an_concerns_signal : Option Addr} {sl_concerns_signal : Array (Option Value)} {oc_concerns_signal kV_concerns_signal dc_concerns_signal pm_concerns_signal cd_concerns_signal ct_concerns_signal : Value}
    {f_check_agent : Addr} {od_check_agent an_check_agent : Option Addr} {sl_check_agent : Array (Option Value)} {oc_check_agent kV_check_agent dc_check_agent pm_check_agent cd_check_agent ct_check_agent : Value}
    {f_Agent_init : Addr} {od_Agent_init an_Agent_init : Option Addr} {sl_Agent_init : Array (Option Value)} {oc_Agent_init kV_Agent_init dc_Agent_init pm_Agent_init cd_Agent_init ct_Agent_init : Value}
    {f_Agent_made : Addr} {od_Agent_made an_Agent_made : Option Addr} {sl_Agent_made : Array (Option Value)} {oc_Agent_made kV_Agent_made dc_Agent_made pm_Agent_made cd_Agent_made ct_Agent_made : Value}
    {cm_Agent_made : Addr} {rs_Agent_made : List Value}
    {f_Through_init : Addr} {od_Through_init an_Through_init : Option Addr} {sl_Through_init : Array (Option Value)} {oc_Through_init kV_Through_init dc_Through_init pm_Through_init cd_Through_init ct_Through_init : Value}
    {f_Through_made : Addr} {od_Through_made an_Through_made : Option Addr} {sl_Through_made : Array (Option Value)} {oc_Through_made kV_Through_made dc_Through_made pm_Through_made cd_Through_made ct_Through_made : Value}
    {cm_Through_made : Addr} {rs_Through_made : List Value}
    {f_Back_init : Addr} {od_Back_init an_Back_init : Option Addr} {sl_Back_init : Array (Option Value)} {oc_Back_init kV_Back_init dc_Back_init pm_Back_init cd_Back_init ct_Back_init : Value}
    {f_Back_made : Addr} {od_Back_made an_Back_made : Option Addr} {sl_Back_made : Array (Option Value)} {oc_Back_made kV_Back_made dc_Back_made pm_Back_made cd_Back_made ct_Back_made : Value}
    {cm_Back_made : Addr} {rs_Back_made : List Value}
    {f_Signal_init : Addr} {od_Signal_init an_Signal_init : Option Addr} {sl_Signal_init : Array (Option Value)} {oc_Signal_init kV_Signal_init dc_Signal_init pm_Signal_init cd_Signal_init ct_Signal_init : Value}
    {dt_Signal_init : Addr} {do_Signal_init : Obj} {da_Signal_init : Array Value} {dn_Signal_init : Nat}
    {f_Variable_init : Addr} {od_Variable_init an_Variable_init : Option Addr} {sl_Variable_init : Array (Option Value)} {oc_Variable_init kV_Variable_init dc_Variable_init pm_Variable_init cd_Variable_init ct_Variable_init : Value}
    {f_Variable_made : Addr} {od_Variable_made an_Variable_made : Option Addr} {sl_Variable_made : Array (Option Value)} {oc_Variable_made kV_Variable_made dc_Variable_made pm_Variable_made cd_Variable_made ct_Variable_made : Value}
    {cm_Variable_made : Addr} {rs_Variable_made : List Value}
    {f_check_addresses : Addr} {od_check_addresses an_check_addresses : Option Addr} {sl_check_addresses : Array (Option Value)} {oc_check_addresses kV_check_addresses dc_check_addresses pm_check_addresses cd_check_addresses ct_check_addresses : Value}
    {f_check_slots_apart : Addr} {od_check_slots_apart an_check_slots_apart : Option Addr} {sl_check_slots_apart : Array (Option Value)} {oc_check_slots_apart kV_check_slots_apart dc_check_slots_apart pm_check_slots_apart cd_check_slots_apart ct_check_slots_apart : Value}
    {f_lines_of : Addr} {od_lines_of an_lines_of : Option Addr} {sl_lines_of : Array (Option Value)} {oc_lines_of kV_lines_of dc_lines_of pm_lines_of cd_lines_of ct_lines_of : Value}
    {f_Net_init : Addr} {od_Net_init an_Net_init : Option Addr} {sl_Net_init : Array (Option Value)} {oc_Net_init dc_Net_init pm_Net_init cd_Net_init ct_Net_init : Value}
    {kw_Net_init : Addr} {kt_Net_init_line kt_Net_init_ring : Tok}
    {f_Net_made : Addr} {od_Net_made an_Net_made : Option Addr} {sl_Net_made : Array (Option Value)} {oc_Net_made dc_Net_made pm_Net_made cd_Net_made ct_Net_made : Value}
    {cm_Net_made : Addr} {rs_Net_made : List Value}
    {kw_Net_made : Addr} {kt_Net_made_line kt_Net_made_ring : Tok}
    {f_Net_is_place : Addr} {od_Net_is_place an_Net_is_place : Option Addr} {sl_Net_is_place : Array (Option Value)} {oc_Net_is_place kV_Net_is_place dc_Net_is_place pm_Net_is_place cd_Net_is_place ct_Net_is_place : Value}
    {f_Net_step : Addr} {od_Net_step an_Net_step : Option Addr} {sl_Net_step : Array (Option Value)} {oc_Net_step kV_Net_step dc_Net_step pm_Net_step cd_Net_step ct_Net_step : Value}
    {f_Net_touched : Addr} {od_Net_touched an_Net_touched : Option Addr} {sl_Net_touched : Array (Option Value)} {oc_Net_touched kV_Net_touched dc_Net_touched pm_Net_touched cd_Net_touched ct_Net_touched : Value}
    {f_Net_lines : Addr} {od_Net_lines an_Net_lines : Option Addr} {sl_Net_lines : Array (Option Value)} {oc_Net_lines kV_Net_lines dc_Net_lines pm_Net_lines cd_Net_lines ct_Net_lines : Value}
    {f_check_parts : Addr} {od_check_parts an_check_parts : Option Addr} {sl_check_parts : Array (Option Value)} {oc_check_parts kV_check_parts dc_check_parts pm_check_parts cd_check_parts ct_check_parts : Value}
    {f_check_many : Addr} {od_check_many an_check_many : Option Addr} {sl_check_many : Array (Option Value)} {oc_check_many kV_check_many dc_check_many pm_check_many cd_check_many ct_check_many : Value}
    {f_check_names : Addr} {od_check_names an_check_names : Option Addr} {sl_check_names : Array (Option Value)} {oc_check_names kV_check_names dc_check_names pm_check_names cd_check_names ct_check_names : Value}
    {f_check_bytes : Addr} {od_check_bytes an_check_bytes : Option Addr} {sl_check_bytes : Array (Option Value)} {oc_check_bytes kV_check_bytes dc_check_bytes pm_check_bytes cd_check_bytes ct_check_bytes : Value}
    {f_check_steps : Addr} {od_check_steps an_check_steps : Option Addr} {sl_check_steps : Array (Option Value)} {oc_check_steps kV_check_steps dc_check_steps pm_check_steps cd_check_steps ct_check_steps : Value}
    {f_check_signals : Addr} {od_check_signals an_check_signals : Option Addr} {sl_check_signals : Array (Option Value)} {oc_check_signals kV_check_signals dc_check_signals pm_check_signals cd_check_signals ct_check_signals : Value}
    {f_pen : Addr} {od_pen an_pen : Option Addr} {sl_pen : Array (Option Value)} {oc_pen kV_pen dc_pen pm_pen cd_pen ct_pen : Value}
    {f_draw : Addr} {od_draw an_draw : Option Addr} {sl_draw : Array (Option Value)} {oc_draw kV_draw dc_draw pm_draw cd_draw ct_draw : Value}
    {f_steps : Addr} {od_steps an_steps : Option Addr} {sl_steps : Array (Option Value)} {oc_steps kV_steps dc_steps pm_steps cd_steps ct_steps : Value}
    {f_items : Addr} {od_items an_items : Option Addr} {sl_items : Array (Option Value)} {oc_items kV_items dc_items pm_items cd_items ct_items : Value}
    {f_shuffled : Addr} {od_shuffled an_shuffled : Option Addr} {sl_shuffled : Array (Option Value)} {oc_shuffled kV_shuffled dc_shuffled pm_shuffled cd_shuffled ct_shuffled : Value}
    {f_part : Addr} {od_part an_part : Option Addr} {sl_part : Array (Option Value)} {oc_part kV_part dc_part pm_part cd_part ct_part : Value}
    {f_bytes : Addr} {od_bytes an_bytes : Option Addr} {sl_bytes : Array (Option Value)} {oc_bytes kV_bytes dc_bytes pm_bytes cd_bytes ct_bytes : Value}
    {f_lines : Addr} {od_lines an_lines : Option Addr} {sl_lines : Array (Option Value)} {oc_lines kV_lines dc_lines pm_lines cd_lines ct_lines : Value}
    {f_whole : Addr} {od_whole an_whole : Option Addr} {sl_whole : Array (Option Value)} {oc_whole kV_whole dc_whole pm_whole cd_whole ct_whole : Value}
    {f_right : Addr} {od_right an_right : Option Addr} {sl_right : Array (Option Value)} {oc_right kV_right dc_right pm_right cd_right ct_right : Value}
    {f_round : Addr} {od_round an_round : Option Addr} {sl_round : Array (Option Value)} {oc_round kV_round dc_round pm_round cd_round ct_round : Value}
    {f_law : Addr} {od_law an_law : Option Addr} {sl_law : Array (Option Value)} {oc_law kV_law dc_law pm_law cd_law ct_law : Value}
    {t_LETTERS : Tok}
    {t_LONGEST_NAME : Tok}
    {t_ACCESS_WORDS : Addr} {o_ACCESS_WORDS : Obj} {its_ACCESS_WORDS : Array Value} {n_ACCESS_WORDS : Nat}
    {t_UPKEEP_WORDS : Addr} {o_UPKEEP_WORDS : Obj} {its_UPKEEP_WORDS : Array Value} {n_UPKEEP_WORDS : Nat}
    {t_SIGNAL_WORDS : Addr} {o_SIGNAL_WORDS : Obj} {its_SIGNAL_WORDS : Array Value} {n_SIGNAL_WORDS : Nat}
    {t_PLAIN_WORDS : Addr} {o_PLAIN_WORDS : Obj} {its_PLAIN_WORDS : Array Value} {n_PLAIN_WORDS : Nat}
    {t_CACHE_WORDS : Addr} {o_CACHE_WORDS : Obj} {its_CACHE_WORDS : Array Value} {n_CACHE_WORDS : Nat}
    {t_GREATEST_SHIFT : Tok}
    {t_GREATEST_BYTE : Tok}
    {t_MOST_STEPS : Tok}
    {t_MOST_TOKENS : Tok}
    {t_GREATEST_SIZE : Tok}
    {t_MOST_SLOTS : Tok}
    {t_ADDRESSES : Tok}
    {t_MOST_AGENTS : Tok}
    {t_MOST_VARIABLES : Tok}
    {t_MOST_SIGNALS : Tok}
    {t_LONGEST_RING : Tok}
    (a_UnkeptError : PySem.W.nsIn K mainGlobals "UnkeptError" = some (some (.ref c_UnkeptError)))
    (a_NoPart : PySem.W.nsIn K mainGlobals "NoPart" = some (some (.ref c_NoPart)))
    (a_Agent : PySem.W.nsIn K mainGlobals "Agent" = some (some (.ref c_Agent)))
    (pg_Agent : PySem.W.plainGet K c_Agent Str.empty = true) (hd_Agent : PySem.W.hasDictIn K c_Agent = true) (po_Agent : PySem.W.plainOver K c_Agent = true) (sa_Agent : PySem.W.findIn K (.ref c_Agent) "__setattr__" = some (some (.builtin "object.__setattr__")))
    (na_Agent_name : PySem.W.findIn K (.ref c_Agent) "name" = some none)
    (na_Agent_steps : PySem.W.findIn K (.ref c_Agent) "steps" = some none)
    (mk_Agent : PySem.W.makesIn K c_Agent = true) (kc_Agent : PySem.W.keepIn K (.ref c_Agent) = true)
    (a_Through : PySem.W.nsIn K mainGlobals "Through" = some (some (.ref c_Through)))
    (pg_Through : PySem.W.plainGet K c_Through Str.empty = true) (hd_Through : PySem.W.hasDictIn K c_Through = true) (po_Through : PySem.W.plainOver K c_Through = true) (sa_Through : PySem.W.findIn K (.ref c_Through) "__setattr__" = some (some (.builtin "object.__setattr__")))
    (na_Through_name : PySem.W.findIn K (.ref c_Through) "name" = some none)
    (na_Through_steps : PySem.W.findIn K (.ref c_Through) "steps" = some none)
    (mk_Through : PySem.W.makesIn K c_Through = true) (kc_Through : PySem.W.keepIn K (.ref c_Through) = true)
    (a_Back : PySem.W.nsIn K mainGlobals "Back" = some (some (.ref c_Back)))
    (pg_Back : PySem.W.plainGet K c_Back Str.empty = true) (hd_Back : PySem.W.hasDictIn K c_Back = true) (po_Back : PySem.W.plainOver K c_Back = true) (sa_Back : PySem.W.findIn K (.ref c_Back) "__setattr__" = some (some (.builtin "object.__setattr__")))
    (na_Back_name : PySem.W.findIn K (.ref c_Back) "name" = some none)
    (na_Back_steps : PySem.W.findIn K (.ref c_Back) "steps" = some none)
    (mk_Back : PySem.W.makesIn K c_Back = true) (kc_Back : PySem.W.keepIn K (.ref c_Back) = true)
    (a_Variable : PySem.W.nsIn K mainGlobals "Variable" = some (some (.ref c_Variable)))
    (pg_Variable : PySem.W.plainGet K c_Variable Str.empty = true) (hd_Variable : PySem.W.hasDictIn K c_Variable = true) (po_Variable : PySem.W.plainOver K c_Variable = true) (sa_Variable : PySem.W.findIn K (.ref c_Variable) "__setattr__" = some (some (.builtin "object.__setattr__")))
    (na_Variable_name : PySem.W.findIn K (.ref c_Variable) "name" = some none)
    (na_Variable_size : PySem.W.findIn K (.ref c_Variable) "size" = some none)
    (na_Variable_at : PySem.W.findIn K (.ref c_Variable) "at" = some none)
    (mk_Variable : PySem.W.makesIn K c_Variable = true) (kc_Variable : PySem.W.keepIn K (.ref c_Variable) = true)
    (a_Signal : PySem.W.nsIn K mainGlobals "Signal" = some (some (.ref c_Signal)))
    (pg_Signal : PySem.W.plainGet K c_Signal Str.empty = true) (hd_Signal : PySem.W.hasDictIn K c_Signal = true) (po_Signal : PySem.W.plainOver K c_Signal = true) (sa_Signal : PySem.W.findIn K (.ref c_Signal) "__setattr__" = some (some (.builtin "object.__setattr__")))
    (na_Signal_name : PySem.W.findIn K (.ref c_Signal) "name" = some none)
    (na_Signal_tokens : PySem.W.findIn K (.ref c_Signal) "tokens" = some none)
    (mk_Signal : PySem.W.makesIn K c_Signal = true) (kc_Signal : PySem.W.keepIn K (.ref c_Signal) = true)
    (a_Net : PySem.W.nsIn K mainGlobals "Net" = some (some (.ref c_Net)))
    (pg_Net : PySem.W.plainGet K c_Net Str.empty = true) (hd_Net : PySem.W.hasDictIn K c_Net = true) (po_Net : PySem.W.plainOver K c_Net = true) (sa_Net : PySem.W.findIn K (.ref c_Net) "__setattr__" = some (some (.builtin "object.__setattr__")))
    (na_Net_line : PySem.W.findIn K (.ref c_Net) "line" = some none)
    (na_Net_ring : PySem.W.findIn K (.ref c_Net) "ring" = some none)
    (na_Net_variables : PySem.W.findIn K (.ref c_Net) "variables" = some none)
    (na_Net_signals : PySem.W.findIn K (.ref c_Net) "signals" = some none)
    (na_Net_agents : PySem.W.findIn K (.ref c_Net) "agents" = some none)
    (na_Net__named : PySem.W.findIn K (.ref c_Net) "_named" = some none)
    (mk_Net : PySem.W.makesIn K c_Net = true) (kc_Net : PySem.W.keepIn K (.ref c_Net) = true)
    (gg : PySem.W.specialIn K (.builtin "object.__class__") "__get__" = some (some (.builtin "getset_descriptor.__get__"))) (tk : PySem.W.takesIn K (.builtin "object.__class__") = some true)
    (ec_UnkeptError : PySem.W.subIn K (.ref c_UnkeptError) (.type "BaseException") = some true)
    (hd_UnkeptError : PySem.W.hasDictIn K c_UnkeptError = true)
    (ty_UnkeptError : PySem.W.typeIn K (.ref c_UnkeptError) = some (.type "type"))
    (mo_NoPart : PySem.W.mroIn K c_NoPart (.type "object") = some true)
    (ty_NoPart : PySem.W.typeIn K (.ref c_NoPart) = some (.type "type"))
    (ss_NoPart : PySem.W.subIn K (.ref c_NoPart) (.ref c_NoPart) = some true)
    (xl_NoPart : K.lookup c_NoPart = some (excClassObj nm_NoPart q_NoPart c_NoPart N_NoPart bs_NoPart bm_NoPart true sn_NoPart sub_NoPart ab_NoPart col_NoPart dd_NoPart m0_NoPart m1_NoPart m2_NoPart m3_NoPart m5_NoPart "ValueError.__new__"))
    (xb_NoPart : PySem.HandSPX.refsVE bm_NoPart = true)
    (sa_NoPart : PySem.W.findIn K (.ref c_NoPart) "__setattr__" = some (some (.builtin "object.__setattr__")))
    (ga_NoPart : PySem.W.findIn K (.ref c_NoPart) "__getattribute__" = some (some (.builtin "BaseException.__getattribute__")))
    (gn_NoPart : PySem.W.findIn K (.ref c_NoPart) "__getattr__" = some none)
    (ec_NoPart : PySem.W.subIn K (.ref c_NoPart) (.type "BaseException") = some true)
    (ke_NoPart : PySem.W.keepIn K (.ref c_NoPart) = true)
    (hd_NoPart : PySem.W.hasDictIn K c_NoPart = true)
    (ci_NoPart : PySem.W.findIn K (.ref c_NoPart) "__class__" = some (some (.builtin "object.__class__")))
    (nf_NoPart_reason : PySem.W.findIn K (.ref c_NoPart) "reason" = some none)
    (nf_NoPart_place : PySem.W.findIn K (.ref c_NoPart) "place" = some none)
    (su_NoPart : PySem.W.subIn K (.ref c_NoPart) (.ref c_UnkeptError) = some true)
    (mo_Agent : PySem.W.mroIn K c_Agent (.type "object") = some true)
    (ty_Agent : PySem.W.typeIn K (.ref c_Agent) = some (.type "type"))
    (ss_Agent : PySem.W.subIn K (.ref c_Agent) (.ref c_Agent) = some true)
    (ci_Agent : PySem.W.findIn K (.ref c_Agent) "__class__" = some (some (.builtin "object.__class__")))
    (rd_Agent : PySem.W.readsIn K c_Agent (.type "type") = true)
    (gc_Agent : PySem.W.specialIn K (.ref c_Agent) "__getattribute__" = some (some (.builtin "type.__getattribute__")))
    (mo_Through : PySem.W.mroIn K c_Through (.type "object") = some true)
    (ty_Through : PySem.W.typeIn K (.ref c_Through) = some (.type "type"))
    (ss_Through : PySem.W.subIn K (.ref c_Through) (.ref c_Through) = some true)
    (ci_Through : PySem.W.findIn K (.ref c_Through) "__class__" = some (some (.builtin "object.__class__")))
    (rd_Through : PySem.W.readsIn K c_Through (.type "type") = true)
    (gc_Through : PySem.W.specialIn K (.ref c_Through) "__getattribute__" = some (some (.builtin "type.__getattribute__")))
    (mo_Back : PySem.W.mroIn K c_Back (.type "object") = some true)
    (ty_Back : PySem.W.typeIn K (.ref c_Back) = some (.type "type"))
    (ss_Back : PySem.W.subIn K (.ref c_Back) (.ref c_Back) = some true)
    (ci_Back : PySem.W.findIn K (.ref c_Back) "__class__" = some (some (.builtin "object.__class__")))
    (rd_Back : PySem.W.readsIn K c_Back (.type "type") = true)
    (gc_Back : PySem.W.specialIn K (.ref c_Back) "__getattribute__" = some (some (.builtin "type.__getattribute__")))
    (mo_Variable : PySem.W.mroIn K c_Variable (.type "object") = some true)
    (ty_Variable : PySem.W.typeIn K (.ref c_Variable) = some (.type "type"))
    (ss_Variable : PySem.W.subIn K (.ref c_Variable) (.ref c_Variable) = some true)
    (ci_Variable : PySem.W.findIn K (.ref c_Variable) "__class__" = some (some (.builtin "object.__class__")))
    (rd_Variable : PySem.W.readsIn K c_Variable (.type "type") = true)
    (gc_Variable : PySem.W.specialIn K (.ref c_Variable) "__getattribute__" = some (some (.builtin "type.__getattribute__")))
    (mo_Signal : PySem.W.mroIn K c_Signal (.type "object") = some true)
    (ty_Signal : PySem.W.typeIn K (.ref c_Signal) = some (.type "type"))
    (ss_Signal : PySem.W.subIn K (.ref c_Signal) (.ref c_Signal) = some true)
    (ci_Signal : PySem.W.findIn K (.ref c_Signal) "__class__" = some (some (.builtin "object.__class__")))
    (mo_Net : PySem.W.mroIn K c_Net (.type "object") = some true)
    (ty_Net : PySem.W.typeIn K (.ref c_Net) = some (.type "type"))
    (ss_Net : PySem.W.subIn K (.ref c_Net) (.ref c_Net) = some true)
    (ci_Net : PySem.W.findIn K (.ref c_Net) "__class__" = some (some (.builtin "object.__class__")))
    (rd_Net : PySem.W.readsIn K c_Net (.type "type") = true)
    (gc_Net : PySem.W.specialIn K (.ref c_Net) "__getattribute__" = some (some (.builtin "type.__getattribute__")))
    (co_LINES : PySem.W.findIn K (.ref c_Net) "LINES" = some (some (.ref tln)))
    (cg_LINES : PySem.W.specialIn K (.ref tln) "__get__" = some none)
    (lk_LINES : K.lookup tln = some oln)
    (oc_LINES : oln.cls = .type "tuple")
    (od_LINES : oln.data = .seq itn nln)
    (oz_LINES : itn.size ≤ sizeLine)
    (ov_LINES : Vals [.int 1, .int 2, .int 4, .int 8, .int 16] itn.toList)
    (sb_Agent_Variable : PySem.W.subIn K (.ref c_Agent) (.ref c_Variable) = some false)
    (sb_Agent_Signal : PySem.W.subIn K (.ref c_Agent) (.ref c_Signal) = some false)
    (sb_Through_Variable : PySem.W.subIn K (.ref c_Through) (.ref c_Variable) = some false)
    (sb_Through_Signal : PySem.W.subIn K (.ref c_Through) (.ref c_Signal) = some false)
    (sb_Through_Agent : PySem.W.subIn K (.ref c_Through) (.ref c_Agent) = some true)
    (sb_Back_Variable : PySem.W.subIn K (.ref c_Back) (.ref c_Variable) = some false)
    (sb_Back_Signal : PySem.W.subIn K (.ref c_Back) (.ref c_Signal) = some false)
    (sb_Back_Agent : PySem.W.subIn K (.ref c_Back) (.ref c_Agent) = some true)
    (sb_Variable_Signal : PySem.W.subIn K (.ref c_Variable) (.ref c_Signal) = some false)
    (sb_Variable_Agent : PySem.W.subIn K (.ref c_Variable) (.ref c_Agent) = some false)
    (sb_Signal_Variable : PySem.W.subIn K (.ref c_Signal) (.ref c_Variable) = some false)
    (sb_Signal_Agent : PySem.W.subIn K (.ref c_Signal) (.ref c_Agent) = some false)
    (n_set : PySem.W.nsIn K mainGlobals "set" = some none)
    (n_sorted : PySem.W.nsIn K mainGlobals "sorted" = some none)
    (n_list : PySem.W.nsIn K mainGlobals "list" = some none)
    (n_int : PySem.W.nsIn K mainGlobals "int" = some none)
    (n_len : PySem.W.nsIn K mainGlobals "len" = some none)
    (n_abs : PySem.W.nsIn K mainGlobals "abs" = some none)
    (n_isinstance : PySem.W.nsIn K mainGlobals "isinstance" = some none)
    (n_str : PySem.W.nsIn K mainGlobals "str" = some none)
    (n_bool : PySem.W.nsIn K mainGlobals "bool" = some none)
    (n_tuple : PySem.W.nsIn K mainGlobals "tuple" = some none)
    (n_all : PySem.W.nsIn K mainGlobals "all" = some none)
    (n_any : PySem.W.nsIn K mainGlobals "any" = some none)
    (n_enumerate : PySem.W.nsIn K mainGlobals "enumerate" = some none)
    (n_range : PySem.W.nsIn K mainGlobals "range" = some none)
    (n_reversed : PySem.W.nsIn K mainGlobals "reversed" = some none)
    (a_NoPart_init : PySem.W.findIn K (.ref c_NoPart) "__init__" = some (some (.ref f_NoPart_init)))
    (i_NoPart_init : PySem.W.isFn K (.ref f_NoPart_init) = true)
    (l_NoPart_init : K.lookup f_NoPart_init = some ⟨oc_NoPart_init, od_NoPart_init, .func (PySem.W.fnOf "__init__" "NoPart.__init__" (defArgs s_NoPart_init) (defBody s_NoPart_init) (defScope s_NoPart_init) .none kV_NoPart_init dc_NoPart_init pm_NoPart_init an_NoPart_init cd_NoPart_init ct_NoPart_init), sl_NoPart_init⟩)
    (e_NoPart_init : PySem.W.codeIn K cd_NoPart_init "NoPart.__init__" = true)
    (p_NoPart_init : PySem.W.keepIn K (.ref f_NoPart_init) = true)
    (a_is_integer : PySem.W.nsIn K mainGlobals "is_integer" = some (some (.ref f_is_integer)))
    (l_is_integer : K.lookup f_is_integer = some ⟨oc_is_integer, od_is_integer, .func (PySem.W.fnOf "is_integer" "is_integer" (defArgs s_is_integer) (defBody s_is_integer) (defScope s_is_integer) .none kV_is_integer dc_is_integer pm_is_integer an_is_integer cd_is_integer ct_is_integer), sl_is_integer⟩)
    (e_is_integer : PySem.W.codeIn K cd_is_integer "is_integer" = true)
    (p_is_integer : PySem.W.keepIn K (.ref f_is_integer) = true)
    (a_is_within : PySem.W.nsIn K mainGlobals "is_within" = some (some (.ref f_is_within)))
    (l_is_within : K.lookup f_is_within = some ⟨oc_is_within, od_is_within, .func (PySem.W.fnOf "is_within" "is_within" (defArgs s_is_within) (defBody s_is_within) (defScope s_is_within) .none kV_is_within dc_is_within pm_is_within an_is_within cd_is_within ct_is_within), sl_is_within⟩)
    (e_is_within : PySem.W.codeIn K cd_is_within "is_within" = true)
    (p_is_within : PySem.W.keepIn K (.ref f_is_within) = true)
    (a_is_name : PySem.W.nsIn K mainGlobals "is_name" = some (some (.ref f_is_name)))
    (l_is_name : K.lookup f_is_name = some ⟨oc_is_name, od_is_name, .func (PySem.W.fnOf "is_name" "is_name" (defArgs s_is_name) (defBody s_is_name) (defScope s_is_name) .none kV_is_name dc_is_name pm_is_name an_is_name cd_is_name ct_is_name), sl_is_name⟩)
    (e_is_name : PySem.W.codeIn K cd_is_name "is_name" = true)
    (p_is_name : PySem.W.keepIn K (.ref f_is_name) = true)
    (a_is_step : PySem.W.nsIn K mainGlobals "is_step" = some (some (.ref f_is_step)))
    (l_is_step : K.lookup f_is_step = some ⟨oc_is_step, od_is_step, .func (PySem.W.fnOf "is_step" "is_step" (defArgs s_is_step) (defBody s_is_step) (defScope s_is_step) .none kV_is_step dc_is_step pm_is_step an_is_step cd_is_step ct_is_step), sl_is_step⟩)
    (e_is_step : PySem.W.codeIn K cd_is_step "is_step" = true)
    (p_is_step : PySem.W.keepIn K (.ref f_is_step) = true)
    (a_is_memory_step : PySem.W.nsIn K mainGlobals "_is_memory_step" = some (some (.ref f_is_memory_step)))
    (l_is_memory_step : K.lookup f_is_memory_step = some ⟨oc_is_memory_step, od_is_memory_step, .func (PySem.W.fnOf "_is_memory_step" "_is_memory_step" (defArgs s_is_memory_step) (defBody s_is_memory_step) (defScope s_is_memory_step) .none kV_is_memory_step dc_is_memory_step pm_is_memory_step an_is_memory_step cd_is_memory_step ct_is_memory_step), sl_is_memory_step⟩)
    (e_is_memory_step : PySem.W.codeIn K cd_is_memory_step "_is_memory_step" = true)
    (p_is_memory_step : PySem.W.keepIn K (.ref f_is_memory_step) = true)
    (a_concerns_signal : PySem.W.nsIn K mainGlobals "concerns_signal" = some (some (.ref f_concerns_signal)))
    (l_concerns_signal : K.lookup f_concerns_signal = some ⟨oc_concerns_signal, od_concerns_signal, .func (PySem.W.fnOf "concerns_signal" "concerns_signal" (defArgs s_concerns_signal) (defBody s_concerns_signal) (defScope s_concerns_signal) .none kV_concerns_signal dc_concerns_signal pm_concerns_signal an_concerns_signal cd_concerns_signal ct_concerns_signal), sl_concerns_signal⟩)
    (e_concerns_signal : PySem.W.codeIn K cd_concerns_signal "concerns_signal" = true)
    (p_concerns_signal : PySem.W.keepIn K (.ref f_concerns_signal) = true)
    (a_check_agent : PySem.W.nsIn K mainGlobals "_check_agent" = some (some (.ref f_check_agent)))
    (l_check_agent : K.lookup f_check_agent = some ⟨oc_check_agent, od_check_agent, .func (PySem.W.fnOf "_check_agent" "_check_agent" (defArgs s_check_agent) (defBody s_check_agent) (defScope s_check_agent) .none kV_check_agent dc_check_agent pm_check_agent an_check_agent cd_check_agent ct_check_agent), sl_check_agent⟩)
    (e_check_agent : PySem.W.codeIn K cd_check_agent "_check_agent" = true)
    (p_check_agent : PySem.W.keepIn K (.ref f_check_agent) = true)
    (a_Agent_init : PySem.W.findIn K (.ref c_Agent) "__init__" = some (some (.ref f_Agent_init)))
    (i_Agent_init : PySem.W.isFn K (.ref f_Agent_init) = true)
    (l_Agent_init : K.lookup f_Agent_init = some ⟨oc_Agent_init, od_Agent_init, .func (PySem.W.fnOf "__init__" "Agent.__init__" (defArgs s_Agent_init) (defBody s_Agent_init) (defScope s_Agent_init) .none kV_Agent_init dc_Agent_init pm_Agent_init an_Agent_init cd_Agent_init ct_Agent_init), sl_Agent_init⟩)
    (e_Agent_init : PySem.W.codeIn K cd_Agent_init "Agent.__init__" = true)
    (p_Agent_init : PySem.W.keepIn K (.ref f_Agent_init) = true)
    (a_Agent_made : PySem.W.findCls K (.ref c_Agent) (.type "type") "made" = some (.get (.builtin "classmethod.__get__") (.ref cm_Agent_made) .none (.ref c_Agent)))
    (i_Agent_made : PySem.W.recIn K cm_Agent_made "classmethod" = some (.ref f_Agent_made :: rs_Agent_made))
    (j_Agent_made : PySem.W.fnIn K f_Agent_made = true)
    (l_Agent_made : K.lookup f_Agent_made = some ⟨oc_Agent_made, od_Agent_made, .func (PySem.W.fnOf "made" "Agent.made" (defArgs s_Agent_made) (defBody s_Agent_made) (defScope s_Agent_made) .none kV_Agent_made dc_Agent_made pm_Agent_made an_Agent_made cd_Agent_made ct_Agent_made), sl_Agent_made⟩)
    (e_Agent_made : PySem.W.codeIn K cd_Agent_made "Agent.made" = true)
    (p_Agent_made : PySem.W.keepIn K (.ref f_Agent_made) = true)
    (a_Through_init : PySem.W.findIn K (.ref c_Through) "__init__" = some (some (.ref f_Through_init)))
    (i_Through_init : PySem.W.isFn K (.ref f_Through_init) = true)
    (l_Through_init : K.lookup f_Through_init = some ⟨oc_Through_init, od_Through_init, .func (PySem.W.fnOf "__init__" "Through.__init__" (defArgs s_Through_init) (defBody s_Through_init) (defScope s_Through_init) .none kV_Through_init dc_Through_init pm_Through_init an_Through_init cd_Through_init ct_Through_init), sl_Through_init⟩)
    (e_Through_init : PySem.W.codeIn K cd_Through_init "Through.__init__" = true)
    (p_Through_init : PySem.W.keepIn K (.ref f_Through_init) = true)
    (a_Through_made : PySem.W.findCls K (.ref c_Through) (.type "type") "made" = some (.get (.builtin "classmethod.__get__") (.ref cm_Through_made) .none (.ref c_Through)))
    (i_Through_made : PySem.W.recIn K cm_Through_made "classmethod" = some (.ref f_Through_made :: rs_Through_made))
    (j_Through_made : PySem.W.fnIn K f_Through_made = true)
    (l_Through_made : K.lookup f_Through_made = some ⟨oc_Through_made, od_Through_made, .func (PySem.W.fnOf "made" "Through.made" (defArgs s_Through_made) (defBody s_Through_made) (defScope s_Through_made) .none kV_Through_made dc_Through_made pm_Through_made an_Through_made cd_Through_made ct_Through_made), sl_Through_made⟩)
    (e_Through_made : PySem.W.codeIn K cd_Through_made "Through.made" = true)
    (p_Through_made : PySem.W.keepIn K (.ref f_Through_made) = true)
    (a_Back_init : PySem.W.findIn K (.ref c_Back) "__init__" = some (some (.ref f_Back_init)))
    (i_Back_init : PySem.W.isFn K (.ref f_Back_init) = true)
    (l_Back_init : K.lookup f_Back_init = some ⟨oc_Back_init, od_Back_init, .func (PySem.W.fnOf "__init__" "Back.__init__" (defArgs s_Back_init) (defBody s_Back_init) (defScope s_Back_init) .none kV_Back_init dc_Back_init pm_Back_init an_Back_init cd_Back_init ct_Back_init), sl_Back_init⟩)
    (e_Back_init : PySem.W.codeIn K cd_Back_init "Back.__init__" = true)
    (p_Back_init : PySem.W.keepIn K (.ref f_Back_init) = true)
    (a_Back_made : PySem.W.findCls K (.ref c_Back) (.type "type") "made" = some (.get (.builtin "classmethod.__get__") (.ref cm_Back_made) .none (.ref c_Back)))
    (i_Back_made : PySem.W.recIn K cm_Back_made "classmethod" = some (.ref f_Back_made :: rs_Back_made))
    (j_Back_made : PySem.W.fnIn K f_Back_made = true)
    (l_Back_made : K.lookup f_Back_made = some ⟨oc_Back_made, od_Back_made, .func (PySem.W.fnOf "made" "Back.made" (defArgs s_Back_made) (defBody s_Back_made) (defScope s_Back_made) .none kV_Back_made dc_Back_made pm_Back_made an_Back_made cd_Back_made ct_Back_made), sl_Back_made⟩)
    (e_Back_made : PySem.W.codeIn K cd_Back_made "Back.made" = true)
    (p_Back_made : PySem.W.keepIn K (.ref f_Back_made) = true)
    (a_Signal_init : PySem.W.findIn K (.ref c_Signal) "__init__" = some (some (.ref f_Signal_init)))
    (i_Signal_init : PySem.W.isFn K (.ref f_Signal_init) = true)
    (dl_Signal_init : K.lookup dt_Signal_init = some do_Signal_init) (dd_Signal_init : do_Signal_init.data = .seq da_Signal_init dn_Signal_init) (dv_Signal_init : Vals [V.int 0] da_Signal_init.toList)
    (l_Signal_init : K.lookup f_Signal_init = some ⟨oc_Signal_init, od_Signal_init, .func (PySem.W.fnOf "__init__" "Signal.__init__" (defArgs s_Signal_init) (defBody s_Signal_init) (defScope s_Signal_init) (.ref dt_Signal_init) kV_Signal_init dc_Signal_init pm_Signal_init an_Signal_init cd_Signal_init ct_Signal_init), sl_Signal_init⟩)
    (e_Signal_init : PySem.W.codeIn K cd_Signal_init "Signal.__init__" = true)
    (p_Signal_init : PySem.W.keepIn K (.ref f_Signal_init) = true)
    (a_Variable_init : PySem.W.findIn K (.ref c_Variable) "__init__" = some (some (.ref f_Variable_init)))
    (i_Variable_init : PySem.W.isFn K (.ref f_Variable_init) = true)
    (l_Variable_init : K.lookup f_Variable_init = some ⟨oc_Variable_init, od_Variable_init, .func (PySem.W.fnOf "__init__" "Variable.__init__" (defArgs s_Variable_init) (defBody s_Variable_init) (defScope s_Variable_init) .none kV_Variable_init dc_Variable_init pm_Variable_init an_Variable_init cd_Variable_init ct_Variable_init), sl_Variable_init⟩)
    (e_Variable_init : PySem.W.codeIn K cd_Variable_init "Variable.__init__" = true)
    (p_Variable_init : PySem.W.keepIn K (.ref f_Variable_init) = true)
    (a_Variable_made : PySem.W.findCls K (.ref c_Variable) (.type "type") "made" = some (.get (.builtin "classmethod.__get__") (.ref cm_Variable_made) .none (.ref c_Variable)))
    (i_Variable_made : PySem.W.recIn K cm_Variable_made "classmethod" = some (.ref f_Variable_made :: rs_Variable_made))
    (j_Variable_made : PySem.W.fnIn K f_Variable_made = true)
    (l_Variable_made : K.lookup f_Variable_made = some ⟨oc_Variable_made, od_Variable_made, .func (PySem.W.fnOf "made" "Variable.made" (defArgs s_Variable_made) (defBody s_Variable_made) (defScope s_Variable_made) .none kV_Variable_made dc_Variable_made pm_Variable_made an_Variable_made cd_Variable_made ct_Variable_made), sl_Variable_made⟩)
    (e_Variable_made : PySem.W.codeIn K cd_Variable_made "Variable.made" = true)
    (p_Variable_made : PySem.W.keepIn K (.ref f_Variable_made) = true)
    (a_check_addresses : PySem.W.nsIn K mainGlobals "_check_addresses" = some (some (.ref f_check_addresses)))
    (l_check_addresses : K.lookup f_check_addresses = some ⟨oc_check_addresses, od_check_addresses, .func (PySem.W.fnOf "_check_addresses" "_check_addresses" (defArgs s_check_addresses) (defBody s_check_addresses) (defScope s_check_addresses) .none kV_check_addresses dc_check_addresses pm_check_addresses an_check_addresses cd_check_addresses ct_check_addresses), sl_check_addresses⟩)
    (e_check_addresses : PySem.W.codeIn K cd_check_addresses "_check_addresses" = true)
    (p_check_addresses : PySem.W.keepIn K (.ref f_check_addresses) = true)
    (a_check_slots_apart : PySem.W.nsIn K mainGlobals "_check_slots_apart" = some (some (.ref f_check_slots_apart)))
    (l_check_slots_apart : K.lookup f_check_slots_apart = some ⟨oc_check_slots_apart, od_check_slots_apart, .func (PySem.W.fnOf "_check_slots_apart" "_check_slots_apart" (defArgs s_check_slots_apart) (defBody s_check_slots_apart) (defScope s_check_slots_apart) .none kV_check_slots_apart dc_check_slots_apart pm_check_slots_apart an_check_slots_apart cd_check_slots_apart ct_check_slots_apart), sl_check_slots_apart⟩)
    (e_check_slots_apart : PySem.W.codeIn K cd_check_slots_apart "_check_slots_apart" = true)
    (p_check_slots_apart : PySem.W.keepIn K (.ref f_check_slots_apart) = true)
    (a_lines_of : PySem.W.nsIn K mainGlobals "lines_of" = some (some (.ref f_lines_of)))
    (l_lines_of : K.lookup f_lines_of = some ⟨oc_lines_of, od_lines_of, .func (PySem.W.fnOf "lines_of" "lines_of" (defArgs s_lines_of) (defBody s_lines_of) (defScope s_lines_of) .none kV_lines_of dc_lines_of pm_lines_of an_lines_of cd_lines_of ct_lines_of), sl_lines_of⟩)
    (e_lines_of : PySem.W.codeIn K cd_lines_of "lines_of" = true)
    (p_lines_of : PySem.W.keepIn K (.ref f_lines_of) = true)
    (a_Net_init : PySem.W.findIn K (.ref c_Net) "__init__" = some (some (.ref f_Net_init)))
    (i_Net_init : PySem.W.isFn K (.ref f_Net_init) = true)
    (kd_Net_init_line : PySem.W.nsIn K kw_Net_init "line" = some (some (.int 8 kt_Net_init_line)))
    (kd_Net_init_ring : PySem.W.nsIn K kw_Net_init "ring" = some (some (.int 1 kt_Net_init_ring)))
    (l_Net_init : K.lookup f_Net_init = some ⟨oc_Net_init, od_Net_init, .func (PySem.W.fnOf "__init__" "Net.__init__" (defArgs s_Net_init) (defBody s_Net_init) (defScope s_Net_init) .none (.ref kw_Net_init) dc_Net_init pm_Net_init an_Net_init cd_Net_init ct_Net_init), sl_Net_init⟩)
    (e_Net_init : PySem.W.codeIn K cd_Net_init "Net.__init__" = true)
    (p_Net_init : PySem.W.keepIn K (.ref f_Net_init) = true)
    (a_Net_made : PySem.W.findCls K (.ref c_Net) (.type "type") "made" = some (.get (.builtin "classmethod.__get__") (.ref cm_Net_made) .none (.ref c_Net)))
    (i_Net_made : PySem.W.recIn K cm_Net_made "classmethod" = some (.ref f_Net_made :: rs_Net_made))
    (j_Net_made : PySem.W.fnIn K f_Net_made = true)
    (kd_Net_made_line : PySem.W.nsIn K kw_Net_made "line" = some (some (.int 8 kt_Net_made_line)))
    (kd_Net_made_ring : PySem.W.nsIn K kw_Net_made "ring" = some (some (.int 1 kt_Net_made_ring)))
    (l_Net_made : K.lookup f_Net_made = some ⟨oc_Net_made, od_Net_made, .func (PySem.W.fnOf "made" "Net.made" (defArgs s_Net_made) (defBody s_Net_made) (defScope s_Net_made) .none (.ref kw_Net_made) dc_Net_made pm_Net_made an_Net_made cd_Net_made ct_Net_made), sl_Net_made⟩)
    (e_Net_made : PySem.W.codeIn K cd_Net_made "Net.made" = true)
    (p_Net_made : PySem.W.keepIn K (.ref f_Net_made) = true)
    (a_Net_is_place : PySem.W.findIn K (.ref c_Net) "is_place" = some (some (.ref f_Net_is_place)))
    (i_Net_is_place : PySem.W.isFn K (.ref f_Net_is_place) = true)
    (l_Net_is_place : K.lookup f_Net_is_place = some ⟨oc_Net_is_place, od_Net_is_place, .func (PySem.W.fnOf "is_place" "Net.is_place" (defArgs s_Net_is_place) (defBody s_Net_is_place) (defScope s_Net_is_place) .none kV_Net_is_place dc_Net_is_place pm_Net_is_place an_Net_is_place cd_Net_is_place ct_Net_is_place), sl_Net_is_place⟩)
    (e_Net_is_place : PySem.W.codeIn K cd_Net_is_place "Net.is_place" = true)
    (p_Net_is_place : PySem.W.keepIn K (.ref f_Net_is_place) = true)
    (a_Net_step : PySem.W.findIn K (.ref c_Net) "step" = some (some (.ref f_Net_step)))
    (i_Net_step : PySem.W.isFn K (.ref f_Net_step) = true)
    (l_Net_step : K.lookup f_Net_step = some ⟨oc_Net_step, od_Net_step, .func (PySem.W.fnOf "step" "Net.step" (defArgs s_Net_step) (defBody s_Net_step) (defScope s_Net_step) .none kV_Net_step dc_Net_step pm_Net_step an_Net_step cd_Net_step ct_Net_step), sl_Net_step⟩)
    (e_Net_step : PySem.W.codeIn K cd_Net_step "Net.step" = true)
    (p_Net_step : PySem.W.keepIn K (.ref f_Net_step) = true)
    (a_Net_touched : PySem.W.findIn K (.ref c_Net) "touched" = some (some (.ref f_Net_touched)))
    (i_Net_touched : PySem.W.isFn K (.ref f_Net_touched) = true)
    (l_Net_touched : K.lookup f_Net_touched = some ⟨oc_Net_touched, od_Net_touched, .func (PySem.W.fnOf "touched" "Net.touched" (defArgs s_Net_touched) (defBody s_Net_touched) (defScope s_Net_touched) .none kV_Net_touched dc_Net_touched pm_Net_touched an_Net_touched cd_Net_touched ct_Net_touched), sl_Net_touched⟩)
    (e_Net_touched : PySem.W.codeIn K cd_Net_touched "Net.touched" = true)
    (p_Net_touched : PySem.W.keepIn K (.ref f_Net_touched) = true)
    (a_Net_lines : PySem.W.findIn K (.ref c_Net) "lines" = some (some (.ref f_Net_lines)))
    (i_Net_lines : PySem.W.isFn K (.ref f_Net_lines) = true)
    (l_Net_lines : K.lookup f_Net_lines = some ⟨oc_Net_lines, od_Net_lines, .func (PySem.W.fnOf "lines" "Net.lines" (defArgs s_Net_lines) (defBody s_Net_lines) (defScope s_Net_lines) .none kV_Net_lines dc_Net_lines pm_Net_lines an_Net_lines cd_Net_lines ct_Net_lines), sl_Net_lines⟩)
    (e_Net_lines : PySem.W.codeIn K cd_Net_lines "Net.lines" = true)
    (p_Net_lines : PySem.W.keepIn K (.ref f_Net_lines) = true)
    (a_check_parts : PySem.W.nsIn K mainGlobals "_check_parts" = some (some (.ref f_check_parts)))
    (l_check_parts : K.lookup f_check_parts = some ⟨oc_check_parts, od_check_parts, .func (PySem.W.fnOf "_check_parts" "_check_parts" (defArgs s_check_parts) (defBody s_check_parts) (defScope s_check_parts) .none kV_check_parts dc_check_parts pm_check_parts an_check_parts cd_check_parts ct_check_parts), sl_check_parts⟩)
    (e_check_parts : PySem.W.codeIn K cd_check_parts "_check_parts" = true)
    (p_check_parts : PySem.W.keepIn K (.ref f_check_parts) = true)
    (a_check_many : PySem.W.nsIn K mainGlobals "_check_many" = some (some (.ref f_check_many)))
    (l_check_many : K.lookup f_check_many = some ⟨oc_check_many, od_check_many, .func (PySem.W.fnOf "_check_many" "_check_many" (defArgs s_check_many) (defBody s_check_many) (defScope s_check_many) .none kV_check_many dc_check_many pm_check_many an_check_many cd_check_many ct_check_many), sl_check_many⟩)
    (e_check_many : PySem.W.codeIn K cd_check_many "_check_many" = true)
    (p_check_many : PySem.W.keepIn K (.ref f_check_many) = true)
    (a_check_names : PySem.W.nsIn K mainGlobals "_check_names" = some (some (.ref f_check_names)))
    (l_check_names : K.lookup f_check_names = some ⟨oc_check_names, od_check_names, .func (PySem.W.fnOf "_check_names" "_check_names" (defArgs s_check_names) (defBody s_check_names) (defScope s_check_names) .none kV_check_names dc_check_names pm_check_names an_check_names cd_check_names ct_check_names), sl_check_names⟩)
    (e_check_names : PySem.W.codeIn K cd_check_names "_check_names" = true)
    (p_check_names : PySem.W.keepIn K (.ref f_check_names) = true)
    (a_check_bytes : PySem.W.nsIn K mainGlobals "_check_bytes" = some (some (.ref f_check_bytes)))
    (l_check_bytes : K.lookup f_check_bytes = some ⟨oc_check_bytes, od_check_bytes, .func (PySem.W.fnOf "_check_bytes" "_check_bytes" (defArgs s_check_bytes) (defBody s_check_bytes) (defScope s_check_bytes) .none kV_check_bytes dc_check_bytes pm_check_bytes an_check_bytes cd_check_bytes ct_check_bytes), sl_check_bytes⟩)
    (e_check_bytes : PySem.W.codeIn K cd_check_bytes "_check_bytes" = true)
    (p_check_bytes : PySem.W.keepIn K (.ref f_check_bytes) = true)
    (a_check_steps : PySem.W.nsIn K mainGlobals "_check_steps" = some (some (.ref f_check_steps)))
    (l_check_steps : K.lookup f_check_steps = some ⟨oc_check_steps, od_check_steps, .func (PySem.W.fnOf "_check_steps" "_check_steps" (defArgs s_check_steps) (defBody s_check_steps) (defScope s_check_steps) .none kV_check_steps dc_check_steps pm_check_steps an_check_steps cd_check_steps ct_check_steps), sl_check_steps⟩)
    (e_check_steps : PySem.W.codeIn K cd_check_steps "_check_steps" = true)
    (p_check_steps : PySem.W.keepIn K (.ref f_check_steps) = true)
    (a_check_signals : PySem.W.nsIn K mainGlobals "_check_signals" = some (some (.ref f_check_signals)))
    (l_check_signals : K.lookup f_check_signals = some ⟨oc_check_signals, od_check_signals, .func (PySem.W.fnOf "_check_signals" "_check_signals" (defArgs s_check_signals) (defBody s_check_signals) (defScope s_check_signals) .none kV_check_signals dc_check_signals pm_check_signals an_check_signals cd_check_signals ct_check_signals), sl_check_signals⟩)
    (e_check_signals : PySem.W.codeIn K cd_check_signals "_check_signals" = true)
    (p_check_signals : PySem.W.keepIn K (.ref f_check_signals) = true)
    (a_pen : PySem.W.nsIn K mainGlobals "_law_pen" = some (some (.ref f_pen)))
    (l_pen : K.lookup f_pen = some ⟨oc_pen, od_pen, .func (PySem.W.fnOf "_law_pen" "_law_pen" (defArgs s_pen) (defBody s_pen) (defScope s_pen) .none kV_pen dc_pen pm_pen an_pen cd_pen ct_pen), sl_pen⟩)
    (e_pen : PySem.W.codeIn K cd_pen "_law_pen" = true)
    (p_pen : PySem.W.keepIn K (.ref f_pen) = true)
    (a_draw : PySem.W.nsIn K mainGlobals "_law_draw" = some (some (.ref f_draw)))
    (l_draw : K.lookup f_draw = some ⟨oc_draw, od_draw, .func (PySem.W.fnOf "_law_draw" "_law_draw" (defArgs s_draw) (defBody s_draw) (defScope s_draw) .none kV_draw dc_draw pm_draw an_draw cd_draw ct_draw), sl_draw⟩)
    (e_draw : PySem.W.codeIn K cd_draw "_law_draw" = true)
    (p_draw : PySem.W.keepIn K (.ref f_draw) = true)
    (a_steps : PySem.W.nsIn K mainGlobals "_law_steps" = some (some (.ref f_steps)))
    (l_steps : K.lookup f_steps = some ⟨oc_steps, od_steps, .func (PySem.W.fnOf "_law_steps" "_law_steps" (defArgs s_steps) (defBody s_steps) (defScope s_steps) .none kV_steps dc_steps pm_steps an_steps cd_steps ct_steps), sl_steps⟩)
    (e_steps : PySem.W.codeIn K cd_steps "_law_steps" = true)
    (p_steps : PySem.W.keepIn K (.ref f_steps) = true)
    (a_items : PySem.W.nsIn K mainGlobals "_law_items" = some (some (.ref f_items)))
    (l_items : K.lookup f_items = some ⟨oc_items, od_items, .func (PySem.W.fnOf "_law_items" "_law_items" (defArgs s_items) (defBody s_items) (defScope s_items) .none kV_items dc_items pm_items an_items cd_items ct_items), sl_items⟩)
    (e_items : PySem.W.codeIn K cd_items "_law_items" = true)
    (p_items : PySem.W.keepIn K (.ref f_items) = true)
    (a_shuffled : PySem.W.nsIn K mainGlobals "_law_shuffled" = some (some (.ref f_shuffled)))
    (l_shuffled : K.lookup f_shuffled = some ⟨oc_shuffled, od_shuffled, .func (PySem.W.fnOf "_law_shuffled" "_law_shuffled" (defArgs s_shuffled) (defBody s_shuffled) (defScope s_shuffled) .none kV_shuffled dc_shuffled pm_shuffled an_shuffled cd_shuffled ct_shuffled), sl_shuffled⟩)
    (e_shuffled : PySem.W.codeIn K cd_shuffled "_law_shuffled" = true)
    (p_shuffled : PySem.W.keepIn K (.ref f_shuffled) = true)
    (a_part : PySem.W.nsIn K mainGlobals "_law_part" = some (some (.ref f_part)))
    (l_part : K.lookup f_part = some ⟨oc_part, od_part, .func (PySem.W.fnOf "_law_part" "_law_part" (defArgs s_part) (defBody s_part) (defScope s_part) .none kV_part dc_part pm_part an_part cd_part ct_part), sl_part⟩)
    (e_part : PySem.W.codeIn K cd_part "_law_part" = true)
    (p_part : PySem.W.keepIn K (.ref f_part) = true)
    (a_bytes : PySem.W.nsIn K mainGlobals "_law_bytes" = some (some (.ref f_bytes)))
    (l_bytes : K.lookup f_bytes = some ⟨oc_bytes, od_bytes, .func (PySem.W.fnOf "_law_bytes" "_law_bytes" (defArgs s_bytes) (defBody s_bytes) (defScope s_bytes) .none kV_bytes dc_bytes pm_bytes an_bytes cd_bytes ct_bytes), sl_bytes⟩)
    (e_bytes : PySem.W.codeIn K cd_bytes "_law_bytes" = true)
    (p_bytes : PySem.W.keepIn K (.ref f_bytes) = true)
    (a_lines : PySem.W.nsIn K mainGlobals "_law_lines" = some (some (.ref f_lines)))
    (l_lines : K.lookup f_lines = some ⟨oc_lines, od_lines, .func (PySem.W.fnOf "_law_lines" "_law_lines" (defArgs s_lines) (defBody s_lines) (defScope s_lines) .none kV_lines dc_lines pm_lines an_lines cd_lines ct_lines), sl_lines⟩)
    (e_lines : PySem.W.codeIn K cd_lines "_law_lines" = true)
    (p_lines : PySem.W.keepIn K (.ref f_lines) = true)
    (a_whole : PySem.W.nsIn K mainGlobals "_law_whole" = some (some (.ref f_whole)))
    (l_whole : K.lookup f_whole = some ⟨oc_whole, od_whole, .func (PySem.W.fnOf "_law_whole" "_law_whole" (defArgs s_whole) (defBody s_whole) (defScope s_whole) .none kV_whole dc_whole pm_whole an_whole cd_whole ct_whole), sl_whole⟩)
    (e_whole : PySem.W.codeIn K cd_whole "_law_whole" = true)
    (p_whole : PySem.W.keepIn K (.ref f_whole) = true)
    (a_right : PySem.W.nsIn K mainGlobals "_law_right" = some (some (.ref f_right)))
    (l_right : K.lookup f_right = some ⟨oc_right, od_right, .func (PySem.W.fnOf "_law_right" "_law_right" (defArgs s_right) (defBody s_right) (defScope s_right) .none kV_right dc_right pm_right an_right cd_right ct_right), sl_right⟩)
    (e_right : PySem.W.codeIn K cd_right "_law_right" = true)
    (p_right : PySem.W.keepIn K (.ref f_right) = true)
    (a_round : PySem.W.nsIn K mainGlobals "_law_round" = some (some (.ref f_round)))
    (l_round : K.lookup f_round = some ⟨oc_round, od_round, .func (PySem.W.fnOf "_law_round" "_law_round" (defArgs s_round) (defBody s_round) (defScope s_round) .none kV_round dc_round pm_round an_round cd_round ct_round), sl_round⟩)
    (e_round : PySem.W.codeIn K cd_round "_law_round" = true)
    (p_round : PySem.W.keepIn K (.ref f_round) = true)
    (a_law : PySem.W.nsIn K mainGlobals "law" = some (some (.ref f_law)))
    (l_law : K.lookup f_law = some ⟨oc_law, od_law, .func (PySem.W.fnOf "law" "law" (defArgs s_law) (defBody s_law) (defScope s_law) .none kV_law dc_law pm_law an_law cd_law ct_law), sl_law⟩)
    (e_law : PySem.W.codeIn K cd_law "law" = true)
    (p_law : PySem.W.keepIn K (.ref f_law) = true)
    (k_LETTERS : PySem.W.nsIn K mainGlobals "LETTERS" = some (some (.str "abcdefghijklmnopqrstuvwxyz" t_LETTERS)))
    (k_LONGEST_NAME : PySem.W.nsIn K mainGlobals "LONGEST_NAME" = some (some (.int 8 t_LONGEST_NAME)))
    (k_ACCESS_WORDS : PySem.W.nsIn K mainGlobals "ACCESS_WORDS" = some (some (.ref t_ACCESS_WORDS)))
    (lk_ACCESS_WORDS : K.lookup t_ACCESS_WORDS = some o_ACCESS_WORDS) (oc_ACCESS_WORDS : o_ACCESS_WORDS.cls = .type "tuple") (od_ACCESS_WORDS : o_ACCESS_WORDS.data = .seq its_ACCESS_WORDS n_ACCESS_WORDS) (oz_ACCESS_WORDS : its_ACCESS_WORDS.size ≤ sizeLine) (ov_ACCESS_WORDS : Vals [V.str "read", V.str "write", V.str "get", V.str "put"] its_ACCESS_WORDS.toList)
    (k_UPKEEP_WORDS : PySem.W.nsIn K mainGlobals "UPKEEP_WORDS" = some (some (.ref t_UPKEEP_WORDS)))
    (lk_UPKEEP_WORDS : K.lookup t_UPKEEP_WORDS = some o_UPKEEP_WORDS) (oc_UPKEEP_WORDS : o_UPKEEP_WORDS.cls = .type "tuple") (od_UPKEEP_WORDS : o_UPKEEP_WORDS.data = .seq its_UPKEEP_WORDS n_UPKEEP_WORDS) (oz_UPKEEP_WORDS : its_UPKEEP_WORDS.size ≤ sizeLine) (ov_UPKEEP_WORDS : Vals [V.str "clean", V.str "drop", V.str "flush"] its_UPKEEP_WORDS.toList)
    (k_SIGNAL_WORDS : PySem.W.nsIn K mainGlobals "SIGNAL_WORDS" = some (some (.ref t_SIGNAL_WORDS)))
    (lk_SIGNAL_WORDS : K.lookup t_SIGNAL_WORDS = some o_SIGNAL_WORDS) (oc_SIGNAL_WORDS : o_SIGNAL_WORDS.cls = .type "tuple") (od_SIGNAL_WORDS : o_SIGNAL_WORDS.data = .seq its_SIGNAL_WORDS n_SIGNAL_WORDS) (oz_SIGNAL_WORDS : its_SIGNAL_WORDS.size ≤ sizeLine) (ov_SIGNAL_WORDS : Vals [V.str "post", V.str "wait"] its_SIGNAL_WORDS.toList)
    (k_PLAIN_WORDS : PySem.W.nsIn K mainGlobals "PLAIN_WORDS" = some (some (.ref t_PLAIN_WORDS)))
    (lk_PLAIN_WORDS : K.lookup t_PLAIN_WORDS = some o_PLAIN_WORDS) (oc_PLAIN_WORDS : o_PLAIN_WORDS.cls = .type "tuple") (od_PLAIN_WORDS : o_PLAIN_WORDS.data = .seq its_PLAIN_WORDS n_PLAIN_WORDS) (oz_PLAIN_WORDS : its_PLAIN_WORDS.size ≤ sizeLine) (ov_PLAIN_WORDS : Vals [V.str "read", V.str "write", V.str "post", V.str "wait"] its_PLAIN_WORDS.toList)
    (k_CACHE_WORDS : PySem.W.nsIn K mainGlobals "CACHE_WORDS" = some (some (.ref t_CACHE_WORDS)))
    (lk_CACHE_WORDS : K.lookup t_CACHE_WORDS = some o_CACHE_WORDS) (oc_CACHE_WORDS : o_CACHE_WORDS.cls = .type "tuple") (od_CACHE_WORDS : o_CACHE_WORDS.data = .seq its_CACHE_WORDS n_CACHE_WORDS) (oz_CACHE_WORDS : its_CACHE_WORDS.size ≤ sizeLine) (ov_CACHE_WORDS : Vals [V.str "read", V.str "write", V.str "get", V.str "put", V.str "clean", V.str "drop", V.str "flush", V.str "post", V.str "wait"] its_CACHE_WORDS.toList)
    (k_GREATEST_SHIFT : PySem.W.nsIn K mainGlobals "GREATEST_SHIFT" = some (some (.int 3 t_GREATEST_SHIFT)))
    (k_GREATEST_BYTE : PySem.W.nsIn K mainGlobals "GREATEST_BYTE" = some (some (.int 7 t_GREATEST_BYTE)))
    (k_MOST_STEPS : PySem.W.nsIn K mainGlobals "MOST_STEPS" = some (some (.int 24 t_MOST_STEPS)))
    (k_MOST_TOKENS : PySem.W.nsIn K mainGlobals "MOST_TOKENS" = some (some (.int 3 t_MOST_TOKENS)))
    (k_GREATEST_SIZE : PySem.W.nsIn K mainGlobals "GREATEST_SIZE" = some (some (.int 8 t_GREATEST_SIZE)))
    (k_MOST_SLOTS : PySem.W.nsIn K mainGlobals "MOST_SLOTS" = some (some (.int 4 t_MOST_SLOTS)))
    (k_ADDRESSES : PySem.W.nsIn K mainGlobals "ADDRESSES" = some (some (.int 1024 t_ADDRESSES)))
    (k_MOST_AGENTS : PySem.W.nsIn K mainGlobals "MOST_AGENTS" = some (some (.int 4 t_MOST_AGENTS)))
    (k_MOST_VARIABLES : PySem.W.nsIn K mainGlobals "MOST_VARIABLES" = some (some (.int 6 t_MOST_VARIABLES)))
    (k_MOST_SIGNALS : PySem.W.nsIn K mainGlobals "MOST_SIGNALS" = some (some (.int 6 t_MOST_SIGNALS)))
    (k_LONGEST_RING : PySem.W.nsIn K mainGlobals "LONGEST_RING" = some (some (.int 4 t_LONGEST_RING))) :
    ∃ A : Adr, Txt K mg A :=
  ⟨{ a_NoPart_init := f_NoPart_init,
     d_NoPart_init := PySem.W.fnOf "__init__" "NoPart.__init__" (defArgs s_NoPart_init) (defBody s_NoPart_init) (defScope s_NoPart_init) .none kV_NoPart_init dc_NoPart_init pm_NoPart_init an_NoPart_init cd_NoPart_init ct_NoPart_init,
     a_is_integer := f_is_integer,
     d_is_integer := PySem.W.fnOf "is_integer" "is_integer" (defArgs s_is_integer) (defBody s_is_integer) (defScope s_is_integer) .none kV_is_integer dc_is_integer pm_is_integer an_is_integer cd_is_integer ct_is_integer,
     a_is_within := f_is_within,
     d_is_within := PySem.W.fnOf "is_within" "is_within" (defArgs s_is_within) (defBody s_is_within) (defScope s_is_within) .none kV_is_within dc_is_within pm_is_within an_is_within cd_is_within ct_is_within,
     a_is_name := f_is_name,
     d_is_name := PySem.W.fnOf "is_name" "is_name" (defArgs s_is_name) (defBody s_is_name) (defScope s_is_name) .none kV_is_name dc_is_name pm_is_name an_is_name cd_is_name ct_is_name,
     a_is_step := f_is_step,
     d_is_step := PySem.W.fnOf "is_step" "is_step" (defArgs s_is_step) (defBody s_is_step) (defScope s_is_step) .none kV_is_step dc_is_step pm_is_step an_is_step cd_is_step ct_is_step,
     a_is_memory_step := f_is_memory_step,
     d_is_memory_step := PySem.W.fnOf "_is_memory_step" "_is_memory_step" (defArgs s_is_memory_step) (defBody s_is_memory_step) (defScope s_is_memory_step) .none kV_is_memory_step dc_is_memory_step pm_is_memory_step an_is_memory_step cd_is_memory_step ct_is_memory_step,
     a_concerns_signal := f_concerns_signal,
     d_concerns_signal := PySem.W.fnOf "concerns_signal" "concerns_signal" (defArgs s_concerns_signal) (defBody s_concerns_signal) (defScope s_concerns_signal) .none kV_concerns_signal dc_concerns_signal pm_concerns_signal an_concerns_signal cd_concerns_signal ct_concerns_signal,
     a_check_agent := f_check_agent,
     d_check_agent := PySem.W.fnOf "_check_agent" "_check_agent" (defArgs s_check_agent) (defBody s_check_agent) (defScope s_check_agent) .none kV_check_agent dc_check_agent pm_check_agent an_check_agent cd_check_agent ct_check_agent,
     a_Agent_init := f_Agent_init,
     d_Agent_init := PySem.W.fnOf "__init__" "Agent.__init__" (defArgs s_Agent_init) (defBody s_Agent_init) (defScope s_Agent_init) .none kV_Agent_init dc_Agent_init pm_Agent_init an_Agent_init cd_Agent_init ct_Agent_init,
     a_Agent_made := f_Agent_made,
     d_Agent_made := PySem.W.fnOf "made" "Agent.made" (defArgs s_Agent_made) (defBody s_Agent_made) (defScope s_Agent_made) .none kV_Agent_made dc_Agent_made pm_Agent_made an_Agent_made cd_Agent_made ct_Agent_made,
     a_Through_init := f_Through_init,
     d_Through_init := PySem.W.fnOf "__init__" "Through.__init__" (defArgs s_Through_init) (defBody s_Through_init) (defScope s_Through_init) .none kV_Through_init dc_Through_init pm_Through_init an_Through_init cd_Through_init ct_Through_init,
     a_Through_made := f_Through_made,
     d_Through_made := PySem.W.fnOf "made" "Through.made" (defArgs s_Through_made) (defBody s_Through_made) (defScope s_Through_made) .none kV_Through_made dc_Through_made pm_Through_made an_Through_made cd_Through_made ct_Through_made,
     a_Back_init := f_Back_init,
     d_Back_init := PySem.W.fnOf "__init__" "Back.__init__" (defArgs s_Back_init) (defBody s_Back_init) (defScope s_Back_init) .none kV_Back_init dc_Back_init pm_Back_init an_Back_init cd_Back_init ct_Back_init,
     a_Back_made := f_Back_made,
     d_Back_made := PySem.W.fnOf "made" "Back.made" (defArgs s_Back_made) (defBody s_Back_made) (defScope s_Back_made) .none kV_Back_made dc_Back_made pm_Back_made an_Back_made cd_Back_made ct_Back_made,
     a_Signal_init := f_Signal_init,
     d_Signal_init := PySem.W.fnOf "__init__" "Signal.__init__" (defArgs s_Signal_init) (defBody s_Signal_init) (defScope s_Signal_init) (.ref dt_Signal_init) kV_Signal_init dc_Signal_init pm_Signal_init an_Signal_init cd_Signal_init ct_Signal_init,
     a_Variable_init := f_Variable_init,
     d_Variable_init := PySem.W.fnOf "__init__" "Variable.__init__" (defArgs s_Variable_init) (defBody s_Variable_init) (defScope s_Variable_init) .none kV_Variable_init dc_Variable_init pm_Variable_init an_Variable_init cd_Variable_init ct_Variable_init,
     a_Variable_made := f_Variable_made,
     d_Variable_made := PySem.W.fnOf "made" "Variable.made" (defArgs s_Variable_made) (defBody s_Variable_made) (defScope s_Variable_made) .none kV_Variable_made dc_Variable_made pm_Variable_made an_Variable_made cd_Variable_made ct_Variable_made,
     a_check_addresses := f_check_addresses,
     d_check_addresses := PySem.W.fnOf "_check_addresses" "_check_addresses" (defArgs s_check_addresses) (defBody s_check_addresses) (defScope s_check_addresses) .none kV_check_addresses dc_check_addresses pm_check_addresses an_check_addresses cd_check_addresses ct_check_addresses,
     a_check_slots_apart := f_check_slots_apart,
     d_check_slots_apart := PySem.W.fnOf "_check_slots_apart" "_check_slots_apart" (defArgs s_check_slots_apart) (defBody s_check_slots_apart) (defScope s_check_slots_apart) .none kV_check_slots_apart dc_check_slots_apart pm_check_slots_apart an_check_slots_apart cd_check_slots_apart ct_check_slots_apart,
     a_lines_of := f_lines_of,
     d_lines_of := PySem.W.fnOf "lines_of" "lines_of" (defArgs s_lines_of) (defBody s_lines_of) (defScope s_lines_of) .none kV_lines_of dc_lines_of pm_lines_of an_lines_of cd_lines_of ct_lines_of,
     a_Net_init := f_Net_init,
     d_Net_init := PySem.W.fnOf "__init__" "Net.__init__" (defArgs s_Net_init) (defBody s_Net_init) (defScope s_Net_init) .none (.ref kw_Net_init) dc_Net_init pm_Net_init an_Net_init cd_Net_init ct_Net_init,
     a_Net_made := f_Net_made,
     d_Net_made := PySem.W.fnOf "made" "Net.made" (defArgs s_Net_made) (defBody s_Net_made) (defScope s_Net_made) .none (.ref kw_Net_made) dc_Net_made pm_Net_made an_Net_made cd_Net_made ct_Net_made,
     a_Net_is_place := f_Net_is_place,
     d_Net_is_place := PySem.W.fnOf "is_place" "Net.is_place" (defArgs s_Net_is_place) (defBody s_Net_is_place) (defScope s_Net_is_place) .none kV_Net_is_place dc_Net_is_place pm_Net_is_place an_Net_is_place cd_Net_is_place ct_Net_is_place,
     a_Net_step := f_Net_step,
     d_Net_step := PySem.W.fnOf "step" "Net.step" (defArgs s_Net_step) (defBody s_Net_step) (defScope s_Net_step) .none kV_Net_step dc_Net_step pm_Net_step an_Net_step cd_Net_step ct_Net_step,
     a_Net_touched := f_Net_touched,
     d_Net_touched := PySem.W.fnOf "touched" "Net.touched" (defArgs s_Net_touched) (defBody s_Net_touched) (defScope s_Net_touched) .none kV_Net_touched dc_Net_touched pm_Net_touched an_Net_touched cd_Net_touched ct_Net_touched,
     a_Net_lines := f_Net_lines,
     d_Net_lines := PySem.W.fnOf "lines" "Net.lines" (defArgs s_Net_lines) (defBody s_Net_lines) (defScope s_Net_lines) .none kV_Net_lines dc_Net_lines pm_Net_lines an_Net_lines cd_Net_lines ct_Net_lines,
     a_check_parts := f_check_parts,
     d_check_parts := PySem.W.fnOf "_check_parts" "_check_parts" (defArgs s_check_parts) (defBody s_check_parts) (defScope s_check_parts) .none kV_check_parts dc_check_parts pm_check_parts an_check_parts cd_check_parts ct_check_parts,
     a_check_many := f_check_many,
     d_check_many := PySem.W.fnOf "_check_many" "_check_many" (defArgs s_check_many) (defBody s_check_many) (defScope s_check_many) .none kV_check_many dc_check_many pm_check_many an_check_many cd_check_many ct_check_many,
     a_check_names := f_check_names,
     d_check_names := PySem.W.fnOf "_check_names" "_check_names" (defArgs s_check_names) (defBody s_check_names) (defScope s_check_names) .none kV_check_names dc_check_names pm_check_names an_check_names cd_check_names ct_check_names,
     a_check_bytes := f_check_bytes,
     d_check_bytes := PySem.W.fnOf "_check_bytes" "_check_bytes" (defArgs s_check_bytes) (defBody s_check_bytes) (defScope s_check_bytes) .none kV_check_bytes dc_check_bytes pm_check_bytes an_check_bytes cd_check_bytes ct_check_bytes,
     a_check_steps := f_check_steps,
     d_check_steps := PySem.W.fnOf "_check_steps" "_check_steps" (defArgs s_check_steps) (defBody s_check_steps) (defScope s_check_steps) .none kV_check_steps dc_check_steps pm_check_steps an_check_steps cd_check_steps ct_check_steps,
     a_check_signals := f_check_signals,
     d_check_signals := PySem.W.fnOf "_check_signals" "_check_signals" (defArgs s_check_signals) (defBody s_check_signals) (defScope s_check_signals) .none kV_check_signals dc_check_signals pm_check_signals an_check_signals cd_check_signals ct_check_signals,
     a_pen := f_pen,
     d_pen := PySem.W.fnOf "_law_pen" "_law_pen" (defArgs s_pen) (defBody s_pen) (defScope s_pen) .none kV_pen dc_pen pm_pen an_pen cd_pen ct_pen,
     a_draw := f_draw,
     d_draw := PySem.W.fnOf "_law_draw" "_law_draw" (defArgs s_draw) (defBody s_draw) (defScope s_draw) .none kV_draw dc_draw pm_draw an_draw cd_draw ct_draw,
     a_steps := f_steps,
     d_steps := PySem.W.fnOf "_law_steps" "_law_steps" (defArgs s_steps) (defBody s_steps) (defScope s_steps) .none kV_steps dc_steps pm_steps an_steps cd_steps ct_steps,
     a_items := f_items,
     d_items := PySem.W.fnOf "_law_items" "_law_items" (defArgs s_items) (defBody s_items) (defScope s_items) .none kV_items dc_items pm_items an_items cd_items ct_items,
     a_shuffled := f_shuffled,
     d_shuffled := PySem.W.fnOf "_law_shuffled" "_law_shuffled" (defArgs s_shuffled) (defBody s_shuffled) (defScope s_shuffled) .none kV_shuffled dc_shuffled pm_shuffled an_shuffled cd_shuffled ct_shuffled,
     a_part := f_part,
     d_part := PySem.W.fnOf "_law_part" "_law_part" (defArgs s_part) (defBody s_part) (defScope s_part) .none kV_part dc_part pm_part an_part cd_part ct_part,
     a_bytes := f_bytes,
     d_bytes := PySem.W.fnOf "_law_bytes" "_law_bytes" (defArgs s_bytes) (defBody s_bytes) (defScope s_bytes) .none kV_bytes dc_bytes pm_bytes an_bytes cd_bytes ct_bytes,
     a_lines := f_lines,
     d_lines := PySem.W.fnOf "_law_lines" "_law_lines" (defArgs s_lines) (defBody s_lines) (defScope s_lines) .none kV_lines dc_lines pm_lines an_lines cd_lines ct_lines,
     a_whole := f_whole,
     d_whole := PySem.W.fnOf "_law_whole" "_law_whole" (defArgs s_whole) (defBody s_whole) (defScope s_whole) .none kV_whole dc_whole pm_whole an_whole cd_whole ct_whole,
     a_right := f_right,
     d_right := PySem.W.fnOf "_law_right" "_law_right" (defArgs s_right) (defBody s_right) (defScope s_right) .none kV_right dc_right pm_right an_right cd_right ct_right,
     a_round := f_round,
     d_round := PySem.W.fnOf "_law_round" "_law_round" (defArgs s_round) (defBody s_round) (defScope s_round) .none kV_round dc_round pm_round an_round cd_round ct_round,
     a_law := f_law,
     d_law := PySem.W.fnOf "law" "law" (defArgs s_law) (defBody s_law) (defScope s_law) .none kV_law dc_law pm_law an_law cd_law ct_law,
     c_UnkeptError := c_UnkeptError,
     c_NoPart := c_NoPart,
     c_Agent := c_Agent,
     c_Through := c_Through,
     c_Back := c_Back,
     c_Variable := c_Variable,
     c_Signal := c_Signal,
     c_Net := c_Net,
     t_LETTERS := t_LETTERS,
     t_LONGEST_NAME := t_LONGEST_NAME,
     t_ACCESS_WORDS := t_ACCESS_WORDS,
     t_UPKEEP_WORDS := t_UPKEEP_WORDS,
     t_SIGNAL_WORDS := t_SIGNAL_WORDS,
     t_PLAIN_WORDS := t_PLAIN_WORDS,
     t_CACHE_WORDS := t_CACHE_WORDS,
     t_GREATEST_SHIFT := t_GREATEST_SHIFT,
     t_GREATEST_BYTE := t_GREATEST_BYTE,
     t_MOST_STEPS := t_MOST_STEPS,
     t_MOST_TOKENS := t_MOST_TOKENS,
     t_GREATEST_SIZE := t_GREATEST_SIZE,
     t_MOST_SLOTS := t_MOST_SLOTS,
     t_ADDRESSES := t_ADDRESSES,
     t_MOST_AGENTS := t_MOST_AGENTS,
     t_MOST_VARIABLES := t_MOST_VARIABLES,
     t_MOST_SIGNALS := t_MOST_SIGNALS,
     t_LONGEST_RING := t_LONGEST_RING,
     t_LINES := tln },
   { n_set := PySem.W.mg_none_of X G n_set,
     n_sorted := PySem.W.mg_none_of X G n_sorted,
     n_list := PySem.W.mg_none_of X G n_list,
     n_int := PySem.W.mg_none_of X G n_int,
     n_len := PySem.W.mg_none_of X G n_len,
     n_abs := PySem.W.mg_none_of X G n_abs,
     n_isinstance := PySem.W.mg_none_of X G n_isinstance,
     n_str := PySem.W.mg_none_of X G n_str,
     n_bool := PySem.W.mg_none_of X G n_bool,
     n_tuple := PySem.W.mg_none_of X G n_tuple,
     n_all := PySem.W.mg_none_of X G n_all,
     n_any := PySem.W.mg_none_of X G n_any,
     n_enumerate := PySem.W.mg_none_of X G n_enumerate,
     n_range := PySem.W.mg_none_of X G n_range,
     n_reversed := PySem.W.mg_none_of X G n_reversed,
     F_NoPart_init := fun_mk (st := s_NoPart_init) l_NoPart_init e_NoPart_init p_NoPart_init,
     b_NoPart_init := (fun_mk (st := s_NoPart_init) l_NoPart_init e_NoPart_init p_NoPart_init).binds (ps := ["self", "reason", "place"]) fun _ _ _ _ _ _ us hl => match us, hl with | [_, _, _], _ => rfl,
     F_is_integer := fun_mk (st := s_is_integer) l_is_integer e_is_integer p_is_integer,
     g_is_integer := PySem.W.mg_of X G a_is_integer,
     b_is_integer := (fun_mk (st := s_is_integer) l_is_integer e_is_integer p_is_integer).binds (ps := ["value"]) fun _ _ _ _ _ _ us hl => match us, hl with | [_], _ => rfl,
     F_is_within := fun_mk (st := s_is_within) l_is_within e_is_within p_is_within,
     g_is_within := PySem.W.mg_of X G a_is_within,
     b_is_within := (fun_mk (st := s_is_within) l_is_within e_is_within p_is_within).binds (ps := ["value", "low", "high"]) fun _ _ _ _ _ _ us hl => match us, hl with | [_, _, _], _ => rfl,
     F_is_name := fun_mk (st := s_is_name) l_is_name e_is_name p_is_name,
     g_is_name := PySem.W.mg_of X G a_is_name,
     b_is_name := (fun_mk (st := s_is_name) l_is_name e_is_name p_is_name).binds (ps := ["value"]) fun _ _ _ _ _ _ us hl => match us, hl with | [_], _ => rfl,
     F_is_step := fun_mk (st := s_is_step) l_is_step e_is_step p_is_step,
     g_is_step := PySem.W.mg_of X G a_is_step,
     b_is_step := (fun_mk (st := s_is_step) l_is_step e_is_step p_is_step).binds (ps := ["value"]) fun _ _ _ _ _ _ us hl => match us, hl with | [_], _ => rfl,
     F_is_memory_step := fun_mk (st := s_is_memory_step) l_is_memory_step e_is_memory_step p_is_memory_step,
     g_is_memory_step := PySem.W.mg_of X G a_is_memory_step,
     b_is_memory_step := (fun_mk (st := s_is_memory_step) l_is_memory_step e_is_memory_step p_is_memory_step).binds (ps := ["value"]) fun _ _ _ _ _ _ us hl => match us, hl with | [_], _ => rfl,
     F_concerns_signal := fun_mk (st := s_concerns_signal) l_concerns_signal e_concerns_signal p_concerns_signal,
     g_concerns_signal := PySem.W.mg_of X G a_concerns_signal,
     b_concerns_signal := (fun_mk (st := s_concerns_signal) l_concerns_signal e_concerns_signal p_concerns_signal).binds (ps := ["step"]) fun _ _ _ _ _ _ us hl => match us, hl with | [_], _ => rfl,
     F_check_agent := fun_mk (st := s_check_agent) l_check_agent e_check_agent p_check_agent,
     g_check_agent := PySem.W.mg_of X G a_check_agent,
     b_check_agent := (fun_mk (st := s_check_agent) l_check_agent e_check_agent p_check_agent).binds (ps := ["name", "steps", "words"]) fun _ _ _ _ _ _ us hl => match us, hl with | [_, _, _], _ => rfl,
     F_Agent_init := fun_mk (st := s_Agent_init) l_Agent_init e_Agent_init p_Agent_init,
     cm_Agent_made := ⟨cm_Agent_made, a_Agent_made, ⟨_, i_Agent_made⟩, j_Agent_made⟩,
     F_Agent_made := fun_mk (st := s_Agent_made) l_Agent_made e_Agent_made p_Agent_made,
     b_Agent_made := (fun_mk (st := s_Agent_made) l_Agent_made e_Agent_made p_Agent_made).binds (ps := ["cls", "name", "steps"]) fun _ _ _ _ _ _ us hl => match us, hl with | [_, _, _], _ => rfl,
     F_Through_init := fun_mk (st := s_Through_init) l_Through_init e_Through_init p_Through_init,
     cm_Through_made := ⟨cm_Through_made, a_Through_made, ⟨_, i_Through_made⟩, j_Through_made⟩,
     F_Through_made := fun_mk (st := s_Through_made) l_Through_made e_Through_made p_Through_made,
     b_Through_made := (fun_mk (st := s_Through_made) l_Through_made e_Through_made p_Through_made).binds (ps := ["cls", "name", "steps"]) fun _ _ _ _ _ _ us hl => match us, hl with | [_, _, _], _ => rfl,
     F_Back_init := fun_mk (st := s_Back_init) l_Back_init e_Back_init p_Back_init,
     cm_Back_made := ⟨cm_Back_made, a_Back_made, ⟨_, i_Back_made⟩, j_Back_made⟩,
     F_Back_made := fun_mk (st := s_Back_made) l_Back_made e_Back_made p_Back_made,
     b_Back_made := (fun_mk (st := s_Back_made) l_Back_made e_Back_made p_Back_made).binds (ps := ["cls", "name", "steps"]) fun _ _ _ _ _ _ us hl => match us, hl with | [_, _, _], _ => rfl,
     F_Signal_init := ⟨⟨oc_Signal_init, od_Signal_init, .ref dt_Signal_init, kV_Signal_init, dc_Signal_init, pm_Signal_init, an_Signal_init, cd_Signal_init, ct_Signal_init, sl_Signal_init, rfl, l_Signal_init, e_Signal_init, .inr ⟨(fun z => by cases z), dt_Signal_init, do_Signal_init, da_Signal_init.toList, dn_Signal_init, rfl, dl_Signal_init, (by rw [dd_Signal_init]), dv_Signal_init⟩, .inl rfl⟩, p_Signal_init⟩,
     F_Variable_init := fun_mk (st := s_Variable_init) l_Variable_init e_Variable_init p_Variable_init,
     cm_Variable_made := ⟨cm_Variable_made, a_Variable_made, ⟨_, i_Variable_made⟩, j_Variable_made⟩,
     F_Variable_made := fun_mk (st := s_Variable_made) l_Variable_made e_Variable_made p_Variable_made,
     b_Variable_made := (fun_mk (st := s_Variable_made) l_Variable_made e_Variable_made p_Variable_made).binds (ps := ["cls", "name", "size", "at"]) fun _ _ _ _ _ _ us hl => match us, hl with | [_, _, _, _], _ => rfl,
     F_check_addresses := fun_mk (st := s_check_addresses) l_check_addresses e_check_addresses p_check_addresses,
     g_check_addresses := PySem.W.mg_of X G a_check_addresses,
     b_check_addresses := (fun_mk (st := s_check_addresses) l_check_addresses e_check_addresses p_check_addresses).binds (ps := ["size", "at"]) fun _ _ _ _ _ _ us hl => match us, hl with | [_, _], _ => rfl,
     F_check_slots_apart := fun_mk (st := s_check_slots_apart) l_check_slots_apart e_check_slots_apart p_check_slots_apart,
     g_check_slots_apart := PySem.W.mg_of X G a_check_slots_apart,
     b_check_slots_apart := (fun_mk (st := s_check_slots_apart) l_check_slots_apart e_check_slots_apart p_check_slots_apart).binds (ps := ["size", "at"]) fun _ _ _ _ _ _ us hl => match us, hl with | [_, _], _ => rfl,
     F_lines_of := fun_mk (st := s_lines_of) l_lines_of e_lines_of p_lines_of,
     g_lines_of := PySem.W.mg_of X G a_lines_of,
     b_lines_of := (fun_mk (st := s_lines_of) l_lines_of e_lines_of p_lines_of).binds (ps := ["addresses", "line"]) fun _ _ _ _ _ _ us hl => match us, hl with | [_, _], _ => rfl,
     F_Net_init := ⟨⟨oc_Net_init, od_Net_init, .none, .ref kw_Net_init, dc_Net_init, pm_Net_init, an_Net_init, cd_Net_init, ct_Net_init, sl_Net_init, rfl, l_Net_init, e_Net_init, .inl ⟨rfl, rfl⟩, .inr ⟨kw_Net_init, rfl, List.forall_mem_cons.mpr ⟨⟨_, kd_Net_init_line, ⟨_, rfl⟩⟩, List.forall_mem_cons.mpr ⟨⟨_, kd_Net_init_ring, ⟨_, rfl⟩⟩, fun _ hq => by cases hq⟩⟩⟩⟩, p_Net_init⟩,
     cm_Net_made := ⟨cm_Net_made, a_Net_made, ⟨_, i_Net_made⟩, j_Net_made⟩,
     F_Net_made := ⟨⟨oc_Net_made, od_Net_made, .none, .ref kw_Net_made, dc_Net_made, pm_Net_made, an_Net_made, cd_Net_made, ct_Net_made, sl_Net_made, rfl, l_Net_made, e_Net_made, .inl ⟨rfl, rfl⟩, .inr ⟨kw_Net_made, rfl, List.forall_mem_cons.mpr ⟨⟨_, kd_Net_made_line, ⟨_, rfl⟩⟩, List.forall_mem_cons.mpr ⟨⟨_, kd_Net_made_ring, ⟨_, rfl⟩⟩, fun _ hq => by cases hq⟩⟩⟩⟩, p_Net_made⟩,
     F_Net_is_place := fun_mk (st := s_Net_is_place) l_Net_is_place e_Net_is_place p_Net_is_place,
     b_Net_is_place := (fun_mk (st := s_Net_is_place) l_Net_is_place e_Net_is_place p_Net_is_place).binds (ps := ["self", "value"]) fun _ _ _ _ _ _ us hl => match us, hl with | [_, _], _ => rfl,
     F_Net_step := fun_mk (st := s_Net_step) l_Net_step e_Net_step p_Net_step,
     b_Net_step := (fun_mk (st := s_Net_step) l_Net_step e_Net_step p_Net_step).binds (ps := ["self", "place"]) fun _ _ _ _ _ _ us hl => match us, hl with | [_, _], _ => rfl,
     F_Net_touched := fun_mk (st := s_Net_touched) l_Net_touched e_Net_touched p_Net_touched,
     b_Net_touched := (fun_mk (st := s_Net_touched) l_Net_touched e_Net_touched p_Net_touched).binds (ps := ["self", "place", "n"]) fun _ _ _ _ _ _ us hl => match us, hl with | [_, _, _], _ => rfl,
     F_Net_lines := fun_mk (st := s_Net_lines) l_Net_lines e_Net_lines p_Net_lines,
     b_Net_lines := (fun_mk (st := s_Net_lines) l_Net_lines e_Net_lines p_Net_lines).binds (ps := ["self", "place", "n"]) fun _ _ _ _ _ _ us hl => match us, hl with | [_, _, _], _ => rfl,
     F_check_parts := fun_mk (st := s_check_parts) l_check_parts e_check_parts p_check_parts,
     g_check_parts := PySem.W.mg_of X G a_check_parts,
     b_check_parts := (fun_mk (st := s_check_parts) l_check_parts e_check_parts p_check_parts).binds (ps := ["parts", "ring"]) fun _ _ _ _ _ _ us hl => match us, hl with | [_, _], _ => rfl,
     F_check_many := fun_mk (st := s_check_many) l_check_many e_check_many p_check_many,
     g_check_many := PySem.W.mg_of X G a_check_many,
     b_check_many := (fun_mk (st := s_check_many) l_check_many e_check_many p_check_many).binds (ps := ["parts"]) fun _ _ _ _ _ _ us hl => match us, hl with | [_], _ => rfl,
     F_check_names := fun_mk (st := s_check_names) l_check_names e_check_names p_check_names,
     g_check_names := PySem.W.mg_of X G a_check_names,
     b_check_names := (fun_mk (st := s_check_names) l_check_names e_check_names p_check_names).binds (ps := ["parts"]) fun _ _ _ _ _ _ us hl => match us, hl with | [_], _ => rfl,
     F_check_bytes := fun_mk (st := s_check_bytes) l_check_bytes e_check_bytes p_check_bytes,
     g_check_bytes := PySem.W.mg_of X G a_check_bytes,
     b_check_bytes := (fun_mk (st := s_check_bytes) l_check_bytes e_check_bytes p_check_bytes).binds (ps := ["parts"]) fun _ _ _ _ _ _ us hl => match us, hl with | [_], _ => rfl,
     F_check_steps := fun_mk (st := s_check_steps) l_check_steps e_check_steps p_check_steps,
     g_check_steps := PySem.W.mg_of X G a_check_steps,
     b_check_steps := (fun_mk (st := s_check_steps) l_check_steps e_check_steps p_check_steps).binds (ps := ["parts", "agents"]) fun _ _ _ _ _ _ us hl => match us, hl with | [_, _], _ => rfl,
     F_check_signals := fun_mk (st := s_check_signals) l_check_signals e_check_signals p_check_signals,
     g_check_signals := PySem.W.mg_of X G a_check_signals,
     b_check_signals := (fun_mk (st := s_check_signals) l_check_signals e_check_signals p_check_signals).binds (ps := ["parts", "agents"]) fun _ _ _ _ _ _ us hl => match us, hl with | [_, _], _ => rfl,
     F_pen := fun_mk (st := s_pen) l_pen e_pen p_pen,
     g_pen := PySem.W.mg_of X G a_pen,
     b_pen := (fun_mk (st := s_pen) l_pen e_pen p_pen).binds (ps := ["_law_script"]) fun _ _ _ _ _ _ us hl => match us, hl with | [_], _ => rfl,
     F_draw := fun_mk (st := s_draw) l_draw e_draw p_draw,
     g_draw := PySem.W.mg_of X G a_draw,
     b_draw := (fun_mk (st := s_draw) l_draw e_draw p_draw).binds (ps := ["_law_pen_here", "_law_many"]) fun _ _ _ _ _ _ us hl => match us, hl with | [_, _], _ => rfl,
     F_steps := fun_mk (st := s_steps) l_steps e_steps p_steps,
     g_steps := PySem.W.mg_of X G a_steps,
     b_steps := (fun_mk (st := s_steps) l_steps e_steps p_steps).binds (ps := ["_law_pen_here", "_law_kind", "_law_variables_here", "_law_signalled"]) fun _ _ _ _ _ _ us hl => match us, hl with | [_, _, _, _], _ => rfl,
     F_items := fun_mk (st := s_items) l_items e_items p_items,
     g_items := PySem.W.mg_of X G a_items,
     b_items := (fun_mk (st := s_items) l_items e_items p_items).binds (ps := ["_law_pen_here", "_law_slots_here"]) fun _ _ _ _ _ _ us hl => match us, hl with | [_, _], _ => rfl,
     F_shuffled := fun_mk (st := s_shuffled) l_shuffled e_shuffled p_shuffled,
     g_shuffled := PySem.W.mg_of X G a_shuffled,
     b_shuffled := (fun_mk (st := s_shuffled) l_shuffled e_shuffled p_shuffled).binds (ps := ["_law_pen_here", "_law_items_here"]) fun _ _ _ _ _ _ us hl => match us, hl with | [_, _], _ => rfl,
     F_part := fun_mk (st := s_part) l_part e_part p_part,
     g_part := PySem.W.mg_of X G a_part,
     b_part := (fun_mk (st := s_part) l_part e_part p_part).binds (ps := ["_law_item"]) fun _ _ _ _ _ _ us hl => match us, hl with | [_], _ => rfl,
     F_bytes := fun_mk (st := s_bytes) l_bytes e_bytes p_bytes,
     g_bytes := PySem.W.mg_of X G a_bytes,
     b_bytes := (fun_mk (st := s_bytes) l_bytes e_bytes p_bytes).binds (ps := ["_law_items_here", "_law_slots_here", "_law_step", "_law_n"]) fun _ _ _ _ _ _ us hl => match us, hl with | [_, _, _, _], _ => rfl,
     F_lines := fun_mk (st := s_lines) l_lines e_lines p_lines,
     g_lines := PySem.W.mg_of X G a_lines,
     b_lines := (fun_mk (st := s_lines) l_lines e_lines p_lines).binds (ps := ["_law_spots", "_law_width"]) fun _ _ _ _ _ _ us hl => match us, hl with | [_, _], _ => rfl,
     F_whole := fun_mk (st := s_whole) l_whole e_whole p_whole,
     g_whole := PySem.W.mg_of X G a_whole,
     b_whole := (fun_mk (st := s_whole) l_whole e_whole p_whole).binds (ps := ["_law_numbers"]) fun _ _ _ _ _ _ us hl => match us, hl with | [_], _ => rfl,
     F_right := fun_mk (st := s_right) l_right e_right p_right,
     g_right := PySem.W.mg_of X G a_right,
     b_right := (fun_mk (st := s_right) l_right e_right p_right).binds (ps := ["_law_net", "_law_items_here", "_law_slots_here", "_law_spot", "_law_step", "_law_n"]) fun _ _ _ _ _ _ us hl => match us, hl with | [_, _, _, _, _, _], _ => rfl,
     F_round := fun_mk (st := s_round) l_round e_round p_round,
     g_round := PySem.W.mg_of X G a_round,
     b_round := (fun_mk (st := s_round) l_round e_round p_round).binds (ps := ["_law_pen_here"]) fun _ _ _ _ _ _ us hl => match us, hl with | [_], _ => rfl,
     F_law := fun_mk (st := s_law) l_law e_law p_law,
     g_law := PySem.W.mg_of X G a_law,
     b_law := (fun_mk (st := s_law) l_law e_law p_law).binds (ps := ["_law_script"]) fun _ _ _ _ _ _ us hl => match us, hl with | [_], _ => rfl,
     g_UnkeptError := PySem.W.mg_of X G a_UnkeptError,
     g_NoPart := PySem.W.mg_of X G a_NoPart,
     g_Agent := PySem.W.mg_of X G a_Agent,
     cl_Agent := ⟨pg_Agent, hd_Agent, po_Agent, sa_Agent⟩,
     na_Agent_name := na_Agent_name,
     na_Agent_steps := na_Agent_steps,
     mk_Agent := ⟨mk_Agent, a_Agent_init, i_Agent_init, kc_Agent⟩,
     g_Through := PySem.W.mg_of X G a_Through,
     cl_Through := ⟨pg_Through, hd_Through, po_Through, sa_Through⟩,
     na_Through_name := na_Through_name,
     na_Through_steps := na_Through_steps,
     mk_Through := ⟨mk_Through, a_Through_init, i_Through_init, kc_Through⟩,
     g_Back := PySem.W.mg_of X G a_Back,
     cl_Back := ⟨pg_Back, hd_Back, po_Back, sa_Back⟩,
     na_Back_name := na_Back_name,
     na_Back_steps := na_Back_steps,
     mk_Back := ⟨mk_Back, a_Back_init, i_Back_init, kc_Back⟩,
     g_Variable := PySem.W.mg_of X G a_Variable,
     cl_Variable := ⟨pg_Variable, hd_Variable, po_Variable, sa_Variable⟩,
     na_Variable_name := na_Variable_name,
     na_Variable_size := na_Variable_size,
     na_Variable_at := na_Variable_at,
     mk_Variable := ⟨mk_Variable, a_Variable_init, i_Variable_init, kc_Variable⟩,
     g_Signal := PySem.W.mg_of X G a_Signal,
     cl_Signal := ⟨pg_Signal, hd_Signal, po_Signal, sa_Signal⟩,
     na_Signal_name := na_Signal_name,
     na_Signal_tokens := na_Signal_tokens,
     mk_Signal := ⟨mk_Signal, a_Signal_init, i_Signal_init, kc_Signal⟩,
     g_Net := PySem.W.mg_of X G a_Net,
     cl_Net := ⟨pg_Net, hd_Net, po_Net, sa_Net⟩,
     na_Net_line := na_Net_line,
     na_Net_ring := na_Net_ring,
     na_Net_variables := na_Net_variables,
     na_Net_signals := na_Net_signals,
     na_Net_agents := na_Net_agents,
     na_Net__named := na_Net__named,
     mk_Net := ⟨mk_Net, a_Net_init, i_Net_init, kc_Net⟩,
     me_Net_is_place := ⟨a_Net_is_place, i_Net_is_place, p_Net_is_place⟩,
     me_Net_step := ⟨a_Net_step, i_Net_step, p_Net_step⟩,
     me_Net_touched := ⟨a_Net_touched, i_Net_touched, p_Net_touched⟩,
     me_Net_lines := ⟨a_Net_lines, i_Net_lines, p_Net_lines⟩,
     k_LETTERS := PySem.W.mg_of X G k_LETTERS,
     k_LONGEST_NAME := PySem.W.mg_of X G k_LONGEST_NAME,
     k_ACCESS_WORDS := PySem.W.mg_of X G k_ACCESS_WORDS,
     q_ACCESS_WORDS := fun _ => .inr ⟨o_ACCESS_WORDS, its_ACCESS_WORDS, n_ACCESS_WORDS, lk_ACCESS_WORDS, oc_ACCESS_WORDS, od_ACCESS_WORDS, oz_ACCESS_WORDS, ov_ACCESS_WORDS⟩,
     k_UPKEEP_WORDS := PySem.W.mg_of X G k_UPKEEP_WORDS,
     q_UPKEEP_WORDS := fun _ => .inr ⟨o_UPKEEP_WORDS, its_UPKEEP_WORDS, n_UPKEEP_WORDS, lk_UPKEEP_WORDS, oc_UPKEEP_WORDS, od_UPKEEP_WORDS, oz_UPKEEP_WORDS, ov_UPKEEP_WORDS⟩,
     k_SIGNAL_WORDS := PySem.W.mg_of X G k_SIGNAL_WORDS,
     q_SIGNAL_WORDS := fun _ => .inr ⟨o_SIGNAL_WORDS, its_SIGNAL_WORDS, n_SIGNAL_WORDS, lk_SIGNAL_WORDS, oc_SIGNAL_WORDS, od_SIGNAL_WORDS, oz_SIGNAL_WORDS, ov_SIGNAL_WORDS⟩,
     k_PLAIN_WORDS := PySem.W.mg_of X G k_PLAIN_WORDS,
     q_PLAIN_WORDS := fun _ => .inr ⟨o_PLAIN_WORDS, its_PLAIN_WORDS, n_PLAIN_WORDS, lk_PLAIN_WORDS, oc_PLAIN_WORDS, od_PLAIN_WORDS, oz_PLAIN_WORDS, ov_PLAIN_WORDS⟩,
     k_CACHE_WORDS := PySem.W.mg_of X G k_CACHE_WORDS,
     q_CACHE_WORDS := fun _ => .inr ⟨o_CACHE_WORDS, its_CACHE_WORDS, n_CACHE_WORDS, lk_CACHE_WORDS, oc_CACHE_WORDS, od_CACHE_WORDS, oz_CACHE_WORDS, ov_CACHE_WORDS⟩,
     k_GREATEST_SHIFT := PySem.W.mg_of X G k_GREATEST_SHIFT,
     k_GREATEST_BYTE := PySem.W.mg_of X G k_GREATEST_BYTE,
     k_MOST_STEPS := PySem.W.mg_of X G k_MOST_STEPS,
     k_MOST_TOKENS := PySem.W.mg_of X G k_MOST_TOKENS,
     k_GREATEST_SIZE := PySem.W.mg_of X G k_GREATEST_SIZE,
     k_MOST_SLOTS := PySem.W.mg_of X G k_MOST_SLOTS,
     k_ADDRESSES := PySem.W.mg_of X G k_ADDRESSES,
     k_MOST_AGENTS := PySem.W.mg_of X G k_MOST_AGENTS,
     k_MOST_VARIABLES := PySem.W.mg_of X G k_MOST_VARIABLES,
     k_MOST_SIGNALS := PySem.W.mg_of X G k_MOST_SIGNALS,
     k_LONGEST_RING := PySem.W.mg_of X G k_LONGEST_RING,
     ox_NoPart := ⟨⟨_, _, _, _, _, _, _, _, _, _, _, _, _, _, _, xl_NoPart, xb_NoPart⟩, sa_NoPart, ec_NoPart, ty_NoPart, ke_NoPart⟩,
     xf_NoPart := ⟨ga_NoPart, gn_NoPart, ec_NoPart, hd_NoPart⟩,
     xc_NoPart := ⟨ga_NoPart, gn_NoPart, ec_NoPart, hd_NoPart, ci_NoPart, gg, tk, mo_NoPart⟩,
     ie_NoPart := a_NoPart_init,
     it_NoPart := beq_iff_eq.mp i_NoPart_init,
     nf_NoPart_reason := nf_NoPart_reason,
     nf_NoPart_place := nf_NoPart_place,
     em_NoPart := PySem.W.exm_ref ec_UnkeptError hd_UnkeptError ty_UnkeptError su_NoPart,
     in_Agent := fun H a dx fs h => .base (.ins h ⟨pg_Agent, hd_Agent, po_Agent, sa_Agent⟩ ci_Agent gg tk mo_Agent),
     cr_Agent := ⟨rd_Agent, gc_Agent⟩,
     in_Through := fun H a dx fs h => .base (.ins h ⟨pg_Through, hd_Through, po_Through, sa_Through⟩ ci_Through gg tk mo_Through),
     cr_Through := ⟨rd_Through, gc_Through⟩,
     in_Back := fun H a dx fs h => .base (.ins h ⟨pg_Back, hd_Back, po_Back, sa_Back⟩ ci_Back gg tk mo_Back),
     cr_Back := ⟨rd_Back, gc_Back⟩,
     in_Variable := fun H a dx fs h => .base (.ins h ⟨pg_Variable, hd_Variable, po_Variable, sa_Variable⟩ ci_Variable gg tk mo_Variable),
     cr_Variable := ⟨rd_Variable, gc_Variable⟩,
     in_Signal := fun H a dx fs h => .base (.ins h ⟨pg_Signal, hd_Signal, po_Signal, sa_Signal⟩ ci_Signal gg tk mo_Signal),
     in_Net := fun H a dx fs h => .base (.ins h ⟨pg_Net, hd_Net, po_Net, sa_Net⟩ ci_Net gg tk mo_Net),
     cr_Net := ⟨rd_Net, gc_Net⟩,
     co_LINES := ⟨_, co_LINES, rfl, cg_LINES, by decide⟩,
     q_LINES := fun _ => .inr ⟨oln, itn, nln, lk_LINES, oc_LINES, od_LINES, oz_LINES, ov_LINES⟩,
     ki_Agent_Variable := Lay.kit_own mo_Variable ty_Variable ss_Variable sb_Agent_Variable,
     ki_Agent_Signal := Lay.kit_own mo_Signal ty_Signal ss_Signal sb_Agent_Signal,
     ki_Agent_Agent := Lay.kit_own mo_Agent ty_Agent ss_Agent ss_Agent,
     ki_Through_Variable := Lay.kit_own mo_Variable ty_Variable ss_Variable sb_Through_Variable,
     ki_Through_Signal := Lay.kit_own mo_Signal ty_Signal ss_Signal sb_Through_Signal,
     ki_Through_Agent := Lay.kit_own mo_Agent ty_Agent ss_Agent sb_Through_Agent,
     ki_Back_Variable := Lay.kit_own mo_Variable ty_Variable ss_Variable sb_Back_Variable,
     ki_Back_Signal := Lay.kit_own mo_Signal ty_Signal ss_Signal sb_Back_Signal,
     ki_Back_Agent := Lay.kit_own mo_Agent ty_Agent ss_Agent sb_Back_Agent,
     ki_Variable_Variable := Lay.kit_own mo_Variable ty_Variable ss_Variable ss_Variable,
     ki_Variable_Signal := Lay.kit_own mo_Signal ty_Signal ss_Signal sb_Variable_Signal,
     ki_Variable_Agent := Lay.kit_own mo_Agent ty_Agent ss_Agent sb_Variable_Agent,
     ki_Signal_Variable := Lay.kit_own mo_Variable ty_Variable ss_Variable sb_Signal_Variable,
     ki_Signal_Signal := Lay.kit_own mo_Signal ty_Signal ss_Signal ss_Signal,
     ki_Signal_Agent := Lay.kit_own mo_Agent ty_Agent ss_Agent sb_Signal_Agent }⟩
def cs (A : Adr) : NetL.Cs := ⟨A.c_Variable, A.c_Signal, A.c_Agent, A.c_Through, A.c_Back⟩
theorem of_ag (A : Adr) (z : Str) (k : Int) (ls : List (List V)) : (cs A).of (.ag z k ls) = A.c_Agent ∨ (cs A).of (.ag z k ls) = A.c_Through ∨ (cs A).of (.ag z k ls) = A.c_Back := by
  unfold NetL.Cs.of cs
  dsimp only
  split
  · exact .inl rfl
  · split
    · exact .inr (.inl rfl)
    · exact .inr (.inr rfl)
theorem nc {K : PySem.W.Frag} {mg : Str → Option Value} {A : Adr} (T : Txt K mg A) : NetL.NetC K (cs A) where
  cl it := by
    cases it with
    | vr z s ats => exact T.cl_Variable
    | sg z t => exact T.cl_Signal
    | ag z k ls => rcases of_ag A z k ls with e | e | e <;> rw [e] <;> first | exact T.cl_Agent | exact T.cl_Through | exact T.cl_Back
  nn it := by
    cases it with
    | vr z s ats => exact T.na_Variable_name
    | sg z t => exact T.na_Signal_name
    | ag z k ls => rcases of_ag A z k ls with e | e | e <;> rw [e] <;> first | exact T.na_Agent_name | exact T.na_Through_name | exact T.na_Back_name
  ty H x dx fs it h := by
    cases it with
    | vr z s ats => exact T.in_Variable H x dx fs h
    | sg z t => exact T.in_Signal H x dx fs h
    | ag z k ls => rcases of_ag A z k ls with e | e | e <;> rw [e] at h ⊢ <;> first | exact T.in_Agent H x dx fs h | exact T.in_Through H x dx fs h | exact T.in_Back H x dx fs h
  kv it := by
    cases it with
    | vr z s ats => exact T.ki_Variable_Variable
    | sg z t => exact T.ki_Signal_Variable
    | ag z k ls => rcases of_ag A z k ls with e | e | e <;> rw [e] <;> first | exact T.ki_Agent_Variable | exact T.ki_Through_Variable | exact T.ki_Back_Variable
  ks it := by
    cases it with
    | vr z s ats => exact T.ki_Variable_Signal
    | sg z t => exact T.ki_Signal_Signal
    | ag z k ls => rcases of_ag A z k ls with e | e | e <;> rw [e] <;> first | exact T.ki_Agent_Signal | exact T.ki_Through_Signal | exact T.ki_Back_Signal
  ka it := by
    cases it with
    | vr z s ats => exact T.ki_Variable_Agent
    | sg z t => exact T.ki_Signal_Agent
    | ag z k ls => rcases of_ag A z k ls with e | e | e <;> rw [e] <;> first | exact T.ki_Agent_Agent | exact T.ki_Through_Agent | exact T.ki_Back_Agent
  va := T.na_Variable_at
  vs := T.na_Variable_size
  st := T.na_Signal_tokens
  as z k ls := by rcases of_ag A z k ls with e | e | e <;> rw [e] <;> first | exact T.na_Agent_steps | exact T.na_Through_steps | exact T.na_Back_steps

end My

namespace My
open PySem L2
section
variable {P : Program} {w : World} {K : PySem.W.Frag} {mg : Str → Option Value} {base : Heap} {A : Adr}
theorem ok_is_integer (T : Txt K mg A) : FnOk P w K mg base CX0 1 A.a_is_integer A.d_is_integer ["value"] Lay.spIsInteger := by
  refine T.F_is_integer.ok sc_is_integer (fun vs H Q E h => ?_) (fun cdv A0 outer s H vs Q E hr h => ?_)
  · obtain ⟨v, t, rfl, _⟩ := h
    rfl
  · obtain ⟨v, t, rfl, k, q⟩ := h
    refine ⟨_, (pss_one (ps_ret (pe_and (pe_callB call_isi (by rfl) T.n_isinstance (by decide +kernel) (pa_cons (pv 0) (pa_cons (pe_bltn (v := .ty "int") (by rfl) T.n_int (by decide +kernel) rfl) pa_nil))) (pe_one (pe_not (pe_callB call_isi (by rfl) T.n_isinstance (by decide +kernel) (pa_cons (pv 0) (pa_cons (pe_bltn (v := .ty "bool") (by rfl) T.n_bool (by decide +kernel) rfl) pa_nil)))))))), ?_⟩
    walk_at "in"
    cases k
    all_goals
      walk_at "rd"
      refine Lay.rd_isi .int (by first | exact .non | exact .bl _ | exact .int _ | exact .str _ | exact .lst (by assumption) | exact .tup (by assumption) | exact .dK (by assumption)) ?_
      walk_at "rd"
      first
        | exact iteF q
        | (refine iteT ?_
           walk_at "rd"
           refine Lay.rd_isi .bool (by first | exact .bl _ | exact .int _) ?_
           walk_at "rd"
           exact q)
theorem ok_is_within (T : Txt K mg A) (G_is_integer : FnOk P w K mg base CX0 1 A.a_is_integer A.d_is_integer ["value"] Lay.spIsInteger) : FnOk P w K mg base CX0 2 A.a_is_within A.d_is_within ["value", "low", "high"] Lay.spIsWithin := by
  refine T.F_is_within.ok sc_is_within (fun vs H Q E h => ?_) (fun cdv A0 outer s H vs Q E hr h => ?_)
  · obtain ⟨v, t, lo, hi, rfl, _⟩ := h
    rfl
  · obtain ⟨v, t, lo, hi, rfl, k, q⟩ := h
    refine ⟨_, (pss_one (ps_ret (pe_and (pe_call G_is_integer (hr.mono (by decide)) rfl T.g_is_integer T.F_is_integer.kp T.b_is_integer .nil pass0 (pa_cons (pv 0) pa_nil)) (pe_one (pe_chain op_le op_le (pv 1) (pv 0) (pv 2)))))), ?_⟩
    walk_at "in"
    walk_at "rd"
    refine ⟨v, t, rfl, k, ?_⟩
    walk_at "rd"
    cases k with
    | int i =>
      refine iteT ?_
      walk_at "rd"
      refine Lay.ite_d (fun c => ?_) (fun c => ?_)
      · walk_at "rd"
        have e : Lay.within (.int i) lo hi = decide (i ≤ hi) := by show (decide (lo ≤ i) && decide (i ≤ hi)) = _; rw [decide_eq_true c]; rfl
        rw [e] at q
        exact q
      · have e : Lay.within (.int i) lo hi = false := by show (decide (lo ≤ i) && decide (i ≤ hi)) = _; rw [decide_eq_false c]; rfl
        rw [e] at q
        exact q
    | _ => exact iteF q
theorem ok_is_name (T : Txt K mg A) : FnOk P w K mg base CX0 1 A.a_is_name A.d_is_name ["value"] Lay.spIsName := by
  refine T.F_is_name.ok sc_is_name (fun vs H Q E h => ?_) (fun cdv A0 outer s H vs Q E hr h => ?_)
  · obtain ⟨v, t, rfl, _⟩ := h
    rfl
  · obtain ⟨v, t, rfl, k, hz, q⟩ := h
    refine ⟨_, (pss_cons (ps_if (PW.pt (pw_or (pt_not (pt_val (pe_callB call_isi (by rfl) T.n_isinstance (by decide +kernel) (pa_cons (pv 0) (pa_cons (pe_bltn (v := .ty "str") (by rfl) T.n_str (by decide +kernel) rfl) pa_nil))))) (pw_or1 (pt_not (pt_chain op_le op_le pe_int (pe_callB Lay.call_lenStr (by rfl) T.n_len PySem.boot_len (pa_cons (pv 0) pa_nil)) (pe_glob (v := .int 8) rfl T.k_LONGEST_NAME ⟨_, rfl⟩))))))
      (pss_one (ps_ret pe_bl))
      pss_nil)
    (pss_one (ps_ret (pe_callB (cr_all rfl) (by rfl) T.n_all (by decide +kernel) (pa_cons (pe_lc (own := [("sign", 1)]) (g := gName 1) (tt := tYes) rfl sc_is_name.nd (pi_str (pv 0)) (blkOk_by (own := [("sign", 1)]) (N := ["value", "sign"]) (sc := defScope s_is_name) (by decide +kernel)) (fun _ _ _ _ _ => pg_name (i := 1) sc_is_name.nd rfl (Or.inl rfl)) (fun _ _ _ _ _ => pts_nil) (fun _ _ _ _ _ => (pe_cmpR Lay.op_sign (pv 1) (pe_glob (v := .str "abcdefghijklmnopqrstuvwxyz") rfl T.k_LETTERS ⟨_, rfl⟩) rfl))) pa_nil))))), ?_⟩
    walk_at "in"
    by_cases hs : ∃ z, v = .str z
    · obtain ⟨z, rfl⟩ := hs
      have hl := hz z rfl
      walk_at "rd"
      refine Lay.rd_isi .str (.str z) ?_
      walk_at "rd"
      refine iteF ?_
      walk_at "rd"
      refine Lay.rd_lenV hl ?_
      walk_at "rd"
      refine Lay.ite_d (fun c1 => ?_) (fun c1 => ?_)
      · walk_at "rd"
        refine Lay.ite_n (fun c2 => ?_) (fun c2 => ?_)
        · walk_at "rd"
          have e : Lay.isName (.str z) = false := by
            show Lay.nameOk z = false
            unfold Lay.nameOk
            have : ¬ z.length ≤ 8 := by omega
            rw [decide_eq_false this]
            simp
          rw [e] at q
          exact q H (Same.refl H)
        · walk_at "rd"
          intro D hD
          refine Lay.lc_go walk_str (fun i l H' => Same H H' ∧ l = (z.cps.toList.take i).map fun c => V.bl (decide (97 ≤ c) && decide (c ≤ 122))) ⟨Lay.Same.upd hD, rfl⟩ (fun _ _ _ _ _ => trivial) ?_ ?_
          · rintro i l x H1 H2 hi hl hz' ⟨r1, r2⟩ ⟨rfl, c, hc, rfl⟩
            walk_at "rd"
            refine ⟨rfl, ?_⟩
            walk_at "rd"
            refine iteT ?_
            walk_at "rd"
            refine Lay.lc_put hl hz' (by have : z.cps.size = z.length := rfl; omega) ⟨fun b o hb => ?_, ?_⟩
            · by_cases e : b = D
              · rw [e, hD] at hb; cases hb
              · rw [upd_ne e]; exact r1 b o hb
            · have hc' : z.cps.toList[i]? = some c := by simpa using hc
              rw [r2, Lay.take_succ hc', List.map_append, List.map_cons, List.map_nil, ← Lay.in_alphabet c]
              rfl
          · rintro l H1 hl hz' ⟨r1, rfl⟩
            walk_at "rd"
            have el : (z.cps.toList.take z.cps.size).map (fun c => V.bl (decide (97 ≤ c) && decide (c ≤ 122))) = (z.cps.toList.map fun c => decide (97 ≤ c) && decide (c ≤ 122)).map V.bl := by
              rw [List.take_of_length_le (by simp), List.map_map]
              rfl
            rw [el] at hl
            refine Lay.rd_alls (SqL.of hl) ?_
            have e : Lay.isName (.str z) = (z.cps.toList.map fun c => decide (97 ≤ c) && decide (c ≤ 122)).all id := by
              show Lay.nameOk z = _
              unfold Lay.nameOk
              have c1' : 1 ≤ z.length := by omega
              have c2' : z.length ≤ 8 := by omega
              rw [decide_eq_true c1', decide_eq_true c2', List.all_map]
              rfl
            rw [← e]
            exact q H1 r1
      · walk_at "rd"
        refine iteT ?_
        walk_at "rd"
        have e : Lay.isName (.str z) = false := by
          show Lay.nameOk z = false
          unfold Lay.nameOk
          have : ¬ 1 ≤ z.length := by omega
          rw [decide_eq_false this]
          rfl
        rw [e] at q
        exact q H (Same.refl H)
    · have e : Lay.isName v = false := by
        cases v with
        | str z => exact absurd ⟨z, rfl⟩ hs
        | _ => rfl
      rw [e] at q
      have t1 : Lay.isTy t .str = false := by
        cases k with
        | str z => exact absurd ⟨z, rfl⟩ hs
        | _ => rfl
      walk_at "rd"
      refine Lay.rd_isi .str k ?_
      rw [t1]
      walk_at "rd"
      refine iteT ?_
      refine iteT ?_
      walk_at "rd"
      exact q H (Same.refl H)
theorem ok_is_memory_step (T : Txt K mg A) (G_is_name : FnOk P w K mg base CX0 1 A.a_is_name A.d_is_name ["value"] Lay.spIsName) (G_is_within : FnOk P w K mg base CX0 2 A.a_is_within A.d_is_within ["value", "low", "high"] Lay.spIsWithin) : FnOk P w K mg base CX0 3 A.a_is_memory_step A.d_is_memory_step ["value"] Lay.spMemStep := by
  refine T.F_is_memory_step.ok sc_is_memory_step (fun vs H Q E h => ?_) (fun cdv A0 outer s H vs Q E hr h => ?_)
  · obtain ⟨p, w, n, s, f, e, rfl, _⟩ := h
    rfl
  · obtain ⟨p, wd, n, s0, f, e, rfl, hp, hw, hn, s1, s2, f1, f2, e1, q⟩ := h
    have hl := Lay.nameOk_len hn
    refine ⟨_, (pss_cons (ps_asg (pv 0) (pg_tup (by rfl) (pgs_cons (pg_name (i := 1) sc_is_memory_step.nd rfl (Or.inl rfl)) (pgs_cons (pg_name (i := 2) sc_is_memory_step.nd rfl (Or.inl rfl)) (pgs_cons (pg_name (i := 3) sc_is_memory_step.nd rfl (Or.inl rfl)) (pgs_cons (pg_name (i := 4) sc_is_memory_step.nd rfl (Or.inl rfl)) (pgs_cons (pg_name (i := 5) sc_is_memory_step.nd rfl (Or.inl rfl)) pgs_nil)))))))
    (Evl.pss_cut (ps_if (PW.pt (pw_and (pt_cmpR (Lay.op_notInS hr.units) (pv 1) (pe_glob (v := .ref A.t_ACCESS_WORDS) rfl T.k_ACCESS_WORDS rfl) rfl) (pw_and1 (pt_cmpR (Lay.op_notInS hr.units) (pv 1) (pe_glob (v := .ref A.t_UPKEEP_WORDS) rfl T.k_UPKEEP_WORDS rfl) rfl))))
      (pss_one (ps_ret pe_bl))
      pss_nil)
    (pss_cons (ps_if (PW.pt (pw_or (pt_not (pt_val (pe_call G_is_name (hr.mono (by decide)) rfl T.g_is_name T.F_is_name.kp T.b_is_name .nil pass0 (pa_cons (pv 2) pa_nil)))) (pw_or1 (pt_not (pt_val (pe_call G_is_within (hr.mono (by decide)) rfl T.g_is_within T.F_is_within.kp T.b_is_within .nil pass0 (pa_cons (pv 3) (pa_cons pe_int (pa_cons (pe_glob (v := .int 3) rfl T.k_GREATEST_SHIFT ⟨_, rfl⟩) pa_nil)))))))))
      (pss_one (ps_ret pe_bl))
      pss_nil)
    (pss_one (ps_ret (pe_and (pe_call G_is_within (hr.mono (by decide)) rfl T.g_is_within T.F_is_within.kp T.b_is_within .nil pass0 (pa_cons (pv 5) (pa_cons pe_int (pa_cons (pe_glob (v := .int 7) rfl T.k_GREATEST_BYTE ⟨_, rfl⟩) pa_nil)))) (pe_one (pe_call G_is_within (hr.mono (by decide)) rfl T.g_is_within T.F_is_within.kp T.b_is_within .nil pass0 (pa_cons (pv 4) (pa_cons pe_int (pa_cons (pv 5) pa_nil))))))))))), ?_⟩
    walk_at "in"
    walk_at "rd"
    have name : ∀ Q' : VK, (∀ H1, Same H H1 → Q' (.bl true) H1) → Lay.spIsName [.str n] H Q' E0 := fun Q' q' => ⟨.str n, .str, rfl, .str n, (fun z ez => by cases ez; omega), fun H1 s1 => by
      have en : Lay.isName (.str n) = true := hn
      rw [en]
      exact q' H1 s1⟩
    refine ⟨fun σ' H' => σ' = [some (V.ref p), some (V.str wd), some (V.str n), some (V.int s0), some (V.int f), some (V.int e)] ∧ H' = H, ?_, ?_⟩
    · walk_at "rd"
      refine Lay.rd_notInS (zs := ["read", "write", "get", "put"]) (T.q_ACCESS_WORDS _) (.str wd) ?_
      walk_at "rd"
      refine Lay.ite_nb (fun c1 => ?_) (fun c1 => ?_)
      · walk_at "rd"
        refine Lay.rd_notInS (zs := ["clean", "drop", "flush"]) (T.q_UPKEEP_WORDS _) (.str wd) ?_
        walk_at "rd"
        refine Lay.ite_nb (fun c2 => ?_) (fun c2 => ?_)
        · exfalso
          have n1 := Lay.of_inStrs c1
          have n2 := Lay.of_inStrs c2
          unfold Lay.memWords at hw
          simp only [List.mem_cons, List.not_mem_nil, or_false] at hw n1 n2
          rcases hw with h | h | h | h | h | h | h <;> simp [h] at n1 n2
        · walk_at "rd"
          exact ⟨rfl, rfl⟩
      · refine iteF ?_
        walk_at "rd"
        exact ⟨rfl, rfl⟩
    · rintro σ' H' ⟨rfl, rfl⟩
      walk_at "rd"
      refine name _ fun H1 h1 => ?_
      walk_at "rd"
      refine iteF ?_
      walk_at "rd"
      refine ⟨.int s0, .int, 0, 3, rfl, .int s0, ?_⟩
      walk_at "rd"
      rw [show Lay.within (.int s0) 0 3 = true from by show (decide (0 ≤ s0) && decide (s0 ≤ 3)) = true; rw [decide_eq_true s1, decide_eq_true s2]; rfl]
      walk_at "rd"
      refine iteF ?_
      walk_at "rd"
      refine ⟨.int e, .int, 0, 7, rfl, .int e, ?_⟩
      walk_at "rd"
      rw [show Lay.within (.int e) 0 7 = true from by show (decide (0 ≤ e) && decide (e ≤ 7)) = true; rw [decide_eq_true (show 0 ≤ e by omega), decide_eq_true e1]; rfl]
      refine iteT ?_
      walk_at "rd"
      refine ⟨.int f, .int, 0, e, rfl, .int f, ?_⟩
      rw [show Lay.within (.int f) 0 e = true from by show (decide (0 ≤ f) && decide (f ≤ e)) = true; rw [decide_eq_true f1, decide_eq_true f2]; rfl]
      exact q H1 h1
theorem ok_is_step (T : Txt K mg A) (G_is_memory_step : FnOk P w K mg base CX0 3 A.a_is_memory_step A.d_is_memory_step ["value"] Lay.spMemStep) (G_is_name : FnOk P w K mg base CX0 1 A.a_is_name A.d_is_name ["value"] Lay.spIsName) : FnOk P w K mg base CX0 4 A.a_is_step A.d_is_step ["value"] Lay.spIsStep := by
  refine T.F_is_step.ok sc_is_step (fun vs H Q E h => ?_) (fun cdv A0 outer s H vs Q E hr h => ?_)
  · obtain ⟨p, l, ws, rfl, _⟩ := h
    rfl
  · obtain ⟨p, l, ws, rfl, hp, g, q⟩ := h
    refine ⟨_, (pss_cons (ps_if (pt_not (pt_val (pe_callB call_isi (by rfl) T.n_isinstance (by decide +kernel) (pa_cons (pv 0) (pa_cons (pe_bltn (v := .ty "tuple") (by rfl) T.n_tuple (by decide +kernel) rfl) pa_nil)))))
      (pss_one (ps_ret pe_bl))
      pss_nil)
    (pss_cons (ps_if (pt_cmpR op_eq (pe_callB Lay.call_lenS (by rfl) T.n_len PySem.boot_len (pa_cons (pv 0) pa_nil)) pe_int (nomark _))
      (pss_one (ps_ret (pe_call G_is_memory_step (hr.mono (by decide)) rfl T.g_is_memory_step T.F_is_memory_step.kp T.b_is_memory_step .nil pass0 (pa_cons (pv 0) pa_nil))))
      pss_nil)
    (pss_one (ps_ret (pe_and (pe_cmpR op_eq (pe_callB Lay.call_lenS (by rfl) T.n_len PySem.boot_len (pa_cons (pv 0) pa_nil)) pe_int (nomark _)) (pe_and (pe_cmpR (Lay.op_inS hr.units) (pe_ix ix_tup (pv 0) pe_int (fun _ _ => rfl)) (pe_glob (v := .ref A.t_SIGNAL_WORDS) rfl T.k_SIGNAL_WORDS rfl) rfl) (pe_one (pe_call G_is_name (hr.mono (by decide)) rfl T.g_is_name T.F_is_name.kp T.b_is_name .nil pass0 (pa_cons (pe_ix ix_tup (pv 0) pe_int (fun _ _ => rfl)) pa_nil))))))))), ?_⟩
    walk_at "in"
    walk_at "rd"
    refine Lay.rd_isi .tuple (.tup hp) ?_
    walk_at "rd"
    refine iteF ?_
    walk_at "rd"
    rcases g with ⟨wd, n, rfl, hw, hws, hn⟩ | ⟨wd, n, s0, f, e, rfl, hw, hws, hn, s1, s2, f1, f2, e1⟩
    · walk_at "rd"
      refine iteF ?_
      walk_at "rd"
      refine iteT ?_
      walk_at "rd"
      refine Lay.rd_inS (zs := ["post", "wait"]) (T.q_SIGNAL_WORDS _) (.str wd) ?_
      walk_at "rd"
      rw [Lay.inStrs_of (zs := ["post", "wait"]) hw]
      refine iteT ?_
      walk_at "rd"
      have hl := Lay.nameOk_len hn
      refine ⟨.str n, .str, rfl, .str n, (fun z ez => by cases ez; omega), fun H1 s1 => ?_⟩
      rw [show Lay.isName (.str n) = true from hn]
      exact q H1 s1
    · walk_at "rd"
      refine iteT ?_
      walk_at "rd"
      exact ⟨p, wd, n, s0, f, e, rfl, hp, hw, hn, s1, s2, f1, f2, e1, q⟩
theorem ok_check_agent (T : Txt K mg A) (G_is_name : FnOk P w K mg base CX0 1 A.a_is_name A.d_is_name ["value"] Lay.spIsName) (G_is_step : FnOk P w K mg base CX0 4 A.a_is_step A.d_is_step ["value"] Lay.spIsStep) : FnOk P w K mg base CX0 5 A.a_check_agent A.d_check_agent ["name", "steps", "words"] (Lay.spCheckAgent K) := by
  refine T.F_check_agent.ok sc_check_agent (fun vs H Q E h => ?_) (fun cdv A0 outer s H vs Q E hr h => ?_)
  · obtain ⟨z, t, wt, ws, steps, rfl, _⟩ := h
    rfl
  · obtain ⟨z, t, wt, ws, steps, rfl, hz, ht, l1, l2, hw, hg, q⟩ := h
    have hl := Lay.nameOk_len hz
    refine ⟨_, (pss_cons (ps_if (pt_not (pt_val (pe_call G_is_name (hr.mono (by decide)) rfl T.g_is_name T.F_is_name.kp T.b_is_name .nil pass0 (pa_cons (pv 0) pa_nil))))
      (pss_one ps_never)
      pss_nil)
    (pss_cons (ps_if (pt_not (pt_chain op_le op_le pe_int (pe_callB Lay.call_lenS (by rfl) T.n_len PySem.boot_len (pa_cons (pv 1) pa_nil)) (pe_glob (v := .int 24) rfl T.k_MOST_STEPS ⟨_, rfl⟩)))
      (pss_one ps_never)
      pss_nil)
    (pss_one (ps_for PassesOwn.never rfl (Lay.pi_enumT (by rfl) T.n_enumerate (pa_cons (pv 1) pa_nil)) (pg_tup (by rfl) (pgs_cons (pg_name (i := 3) sc_check_agent.nd rfl (Or.inl rfl)) (pgs_cons (pg_name (i := 4) sc_check_agent.nd rfl (Or.inl rfl)) pgs_nil)))
      (pss_one (ps_if (PW.pt (pw_or (pt_not (pt_val (pe_call G_is_step (hr.mono (by decide)) rfl T.g_is_step T.F_is_step.kp T.b_is_step .nil pass0 (pa_cons (pv 4) pa_nil)))) (pw_or1 (pt_cmpR (Lay.op_notInS hr.units) (pe_ix ix_tup (pv 4) pe_int (fun _ _ => rfl)) (pv 2) rfl))))
        (pss_one ps_never)
        pss_nil)))))), ?_⟩
    walk_at "in"
    walk_at "rd"
    refine ⟨.str z, .str, rfl, .str z, (fun z' ez => by cases ez; omega), fun H1 s1 => ?_⟩
    rw [show Lay.isName (.str z) = true from hz]
    walk_at "rd"
    refine iteF ?_
    walk_at "rd"
    have ht1 := s1 _ _ ht
    refine Lay.rd_lenT (SqT.of ht1) ?_
    walk_at "rd"
    refine Lay.ite_d (fun c1 => ?_) (fun c1 => absurd (by omega) c1)
    walk_at "rd"
    refine Lay.ite_n (fun c2 => absurd (by omega) c2) (fun c2 => ?_)
    walk_at "rd"
    refine Lay.rd_forW (J := Lay.Itet K t) (H1 := H1) (fun R r => ?_) (Lay.walk_enumT (xs := steps)) (fun i σ' H' => ∃ a b, σ' = [some (V.str z), some (V.ref t), some (V.ref wt), a, b] ∧ Same H H') ⟨_, _, rfl, s1⟩ (fun i σ' H' _ ⟨a, b, _, s2⟩ => SqT.of (s2 _ _ ht)) ?_ ?_
    · walk_at "rd"
      exact ⟨t, steps, rfl, SqT.of ht1, r⟩
    · rintro i x σ' H2 H3 hi ⟨a, b, rfl, s2⟩ ⟨T0, x1, y1, rfl, hT, rfl, ex, ey⟩
      cases ex
      have s3 : Same H (upd H2 T0 (.tup [.int (i : Nat), y1])) := s2.trans (Lay.Same.upd hT)
      walk_at "rd"
      obtain ⟨p, l, rfl, hp, gp⟩ := Lay.StepAt.mono s3 (hg y1 (List.mem_of_getElem? ey))
      refine ⟨p, l, ws, rfl, hp, gp, fun H4 s4 => ?_⟩
      walk_at "rd"
      refine iteF ?_
      walk_at "rd"
      have hp4 := s4 _ _ hp
      have s5 := s3.trans s4
      rcases gp with ⟨wd, n, rfl, _, hm, _⟩ | ⟨wd, n, s0, f, e, rfl, _, hm, _⟩
      all_goals
        walk_at "rd"
        refine Lay.rd_notInS (Lay.same_sqT s5 hw) (.str wd) ?_
        walk_at "rd"
        rw [Lay.inStrs_of hm]
        refine iteF ?_
        walk_at "rd"
        exact ⟨_, _, rfl, s5⟩
    · rintro σ' H2 ⟨a, b, rfl, s2⟩
      exact q H2 s2
theorem ok_Agent_init (T : Txt K mg A) (G_check_agent : FnOk P w K mg base CX0 5 A.a_check_agent A.d_check_agent ["name", "steps", "words"] (Lay.spCheckAgent K)) : FnR P w K mg base CX0 6 A.a_Agent_init (Lay.spStar 2 (Lay.spAgentInit A.c_Agent ["read", "write", "post", "wait"])) := by
  obtain ⟨oc, od, kV, doc, pm, an, cdv, ct, osl, hfd, lk, hcd⟩ := T.F_Agent_init.ex
  rw [hfd] at lk
  refine StX.fn_star (ps := ["self", "name"]) (pv := "steps") (sp := Lay.spAgentInit A.c_Agent ["read", "write", "post", "wait"]) lk hcd sc_Agent_init StX.cxUp_none (StX.bind_star2 (B := fun us => bindArgs (PySem.W.fnOf "__init__" "Agent.__init__" (defArgs s_Agent_init) (defBody s_Agent_init) (defScope s_Agent_init) .none kV doc pm an cdv ct) ⟨us, []⟩) (fun a b => by rfl) (fun a b r rs => by rfl)) (fun A0 outer s H vs Q E hr h => ?_)
  obtain ⟨x, dx, z, t, steps, rfl, hx, hz, ht, l1, l2, hg, q⟩ := h
  have D : PSs (cxOf CX0 P w K mg base ["self", "name", "steps"] "Agent.__init__" (defScope s_Agent_init) A.a_Agent_init cdv A0 outer s H E).nox (defBody s_Agent_init) _ := (pss_cons (ps_expr (pe_call G_check_agent (hr.mono (by decide)) rfl T.g_check_agent T.F_check_agent.kp T.b_check_agent .nil pass0 (pa_cons (pv 1) (pa_cons (pv 2) (pa_cons (pe_glob (v := .ref A.t_PLAIN_WORDS) rfl T.k_PLAIN_WORDS rfl) pa_nil)))))
    (pss_cons (ps_fld (pv 0) (pv 1) rfl)
    (pss_one (ps_fld (pv 0) (pv 2) rfl))))
  refine ⟨_, D.nox, ?_⟩
  walk_at "in"
  walk_at "rd"
  refine ⟨z, t, A.t_PLAIN_WORDS, ["read", "write", "post", "wait"], steps, rfl, hz, ht, l1, l2, T.q_PLAIN_WORDS _, hg, fun H1 s1 => ?_⟩
  walk_at "rd"
  refine Lay.rd_sFld ?_
  walk_at "rd"
  refine ⟨x, A.c_Agent, dx, [], rfl, s1 _ _ hx, T.cl_Agent, T.na_Agent_name, by decide, ?_⟩
  walk_at "rd"
  refine Lay.rd_sFld ?_
  walk_at "rd"
  refine ⟨x, A.c_Agent, dx, _, rfl, upd_same, T.cl_Agent, T.na_Agent_steps, (by show 1 < 1000; decide), ?_⟩
  have htx : t ≠ x := ne_of ht hx (by intro y; cases y)
  refine q _ ⟨dx, t, ?_, ?_⟩ (fun b o hb e => ?_)
  · rw [upd_same, Lay.putF_agent]
  · rw [upd_ne htx, upd_ne htx]; exact s1 _ _ ht
  · rw [upd_ne hb, upd_ne hb]; exact s1 _ _ e
theorem ok_Through_init (T : Txt K mg A) (G_check_agent : FnOk P w K mg base CX0 5 A.a_check_agent A.d_check_agent ["name", "steps", "words"] (Lay.spCheckAgent K)) : FnR P w K mg base CX0 6 A.a_Through_init (Lay.spStar 2 (Lay.spAgentInit A.c_Through ["read", "write", "get", "put", "clean", "drop", "flush", "post", "wait"])) := by
  obtain ⟨oc, od, kV, doc, pm, an, cdv, ct, osl, hfd, lk, hcd⟩ := T.F_Through_init.ex
  rw [hfd] at lk
  refine StX.fn_star (ps := ["self", "name"]) (pv := "steps") (sp := Lay.spAgentInit A.c_Through ["read", "write", "get", "put", "clean", "drop", "flush", "post", "wait"]) lk hcd sc_Through_init StX.cxUp_none (StX.bind_star2 (B := fun us => bindArgs (PySem.W.fnOf "__init__" "Through.__init__" (defArgs s_Through_init) (defBody s_Through_init) (defScope s_Through_init) .none kV doc pm an cdv ct) ⟨us, []⟩) (fun a b => by rfl) (fun a b r rs => by rfl)) (fun A0 outer s H vs Q E hr h => ?_)
  obtain ⟨x, dx, z, t, steps, rfl, hx, hz, ht, l1, l2, hg, q⟩ := h
  have D : PSs (cxOf CX0 P w K mg base ["self", "name", "steps"] "Through.__init__" (defScope s_Through_init) A.a_Through_init cdv A0 outer s H E).nox (defBody s_Through_init) _ := (pss_cons (ps_expr (pe_call G_check_agent (hr.mono (by decide)) rfl T.g_check_agent T.F_check_agent.kp T.b_check_agent .nil pass0 (pa_cons (pv 1) (pa_cons (pv 2) (pa_cons (pe_glob (v := .ref A.t_CACHE_WORDS) rfl T.k_CACHE_WORDS rfl) pa_nil)))))
    (pss_cons (ps_fld (pv 0) (pv 1) rfl)
    (pss_one (ps_fld (pv 0) (pv 2) rfl))))
  refine ⟨_, D.nox, ?_⟩
  walk_at "in"
  walk_at "rd"
  refine ⟨z, t, A.t_CACHE_WORDS, ["read", "write", "get", "put", "clean", "drop", "flush", "post", "wait"], steps, rfl, hz, ht, l1, l2, T.q_CACHE_WORDS _, hg, fun H1 s1 => ?_⟩
  walk_at "rd"
  refine Lay.rd_sFld ?_
  walk_at "rd"
  refine ⟨x, A.c_Through, dx, [], rfl, s1 _ _ hx, T.cl_Through, T.na_Through_name, by decide, ?_⟩
  walk_at "rd"
  refine Lay.rd_sFld ?_
  walk_at "rd"
  refine ⟨x, A.c_Through, dx, _, rfl, upd_same, T.cl_Through, T.na_Through_steps, (by show 1 < 1000; decide), ?_⟩
  have htx : t ≠ x := ne_of ht hx (by intro y; cases y)
  refine q _ ⟨dx, t, ?_, ?_⟩ (fun b o hb e => ?_)
  · rw [upd_same, Lay.putF_agent]
  · rw [upd_ne htx, upd_ne htx]; exact s1 _ _ ht
  · rw [upd_ne hb, upd_ne hb]; exact s1 _ _ e
theorem ok_Back_init (T : Txt K mg A) (G_check_agent : FnOk P w K mg base CX0 5 A.a_check_agent A.d_check_agent ["name", "steps", "words"] (Lay.spCheckAgent K)) : FnR P w K mg base CX0 6 A.a_Back_init (Lay.spStar 2 (Lay.spAgentInit A.c_Back ["read", "write", "get", "put", "clean", "drop", "flush", "post", "wait"])) := by
  obtain ⟨oc, od, kV, doc, pm, an, cdv, ct, osl, hfd, lk, hcd⟩ := T.F_Back_init.ex
  rw [hfd] at lk
  refine StX.fn_star (ps := ["self", "name"]) (pv := "steps") (sp := Lay.spAgentInit A.c_Back ["read", "write", "get", "put", "clean", "drop", "flush", "post", "wait"]) lk hcd sc_Back_init StX.cxUp_none (StX.bind_star2 (B := fun us => bindArgs (PySem.W.fnOf "__init__" "Back.__init__" (defArgs s_Back_init) (defBody s_Back_init) (defScope s_Back_init) .none kV doc pm an cdv ct) ⟨us, []⟩) (fun a b => by rfl) (fun a b r rs => by rfl)) (fun A0 outer s H vs Q E hr h => ?_)
  obtain ⟨x, dx, z, t, steps, rfl, hx, hz, ht, l1, l2, hg, q⟩ := h
  have D : PSs (cxOf CX0 P w K mg base ["self", "name", "steps"] "Back.__init__" (defScope s_Back_init) A.a_Back_init cdv A0 outer s H E).nox (defBody s_Back_init) _ := (pss_cons (ps_expr (pe_call G_check_agent (hr.mono (by decide)) rfl T.g_check_agent T.F_check_agent.kp T.b_check_agent .nil pass0 (pa_cons (pv 1) (pa_cons (pv 2) (pa_cons (pe_glob (v := .ref A.t_CACHE_WORDS) rfl T.k_CACHE_WORDS rfl) pa_nil)))))
    (pss_cons (ps_fld (pv 0) (pv 1) rfl)
    (pss_one (ps_fld (pv 0) (pv 2) rfl))))
  refine ⟨_, D.nox, ?_⟩
  walk_at "in"
  walk_at "rd"
  refine ⟨z, t, A.t_CACHE_WORDS, ["read", "write", "get", "put", "clean", "drop", "flush", "post", "wait"], steps, rfl, hz, ht, l1, l2, T.q_CACHE_WORDS _, hg, fun H1 s1 => ?_⟩
  walk_at "rd"
  refine Lay.rd_sFld ?_
  walk_at "rd"
  refine ⟨x, A.c_Back, dx, [], rfl, s1 _ _ hx, T.cl_Back, T.na_Back_name, by decide, ?_⟩
  walk_at "rd"
  refine Lay.rd_sFld ?_
  walk_at "rd"
  refine ⟨x, A.c_Back, dx, _, rfl, upd_same, T.cl_Back, T.na_Back_steps, (by show 1 < 1000; decide), ?_⟩
  have htx : t ≠ x := ne_of ht hx (by intro y; cases y)
  refine q _ ⟨dx, t, ?_, ?_⟩ (fun b o hb e => ?_)
  · rw [upd_same, Lay.putF_agent]
  · rw [upd_ne htx, upd_ne htx]; exact s1 _ _ ht
  · rw [upd_ne hb, upd_ne hb]; exact s1 _ _ e
theorem ok_Agent_made (T : Txt K mg A) (G_Agent_init : FnR P w K mg base CX0 6 A.a_Agent_init (Lay.spStar 2 (Lay.spAgentInit A.c_Agent ["read", "write", "post", "wait"]))) : FnOk P w K mg base CX0 8 A.a_Agent_made A.d_Agent_made ["cls", "name", "steps"] (Lay.spMade K A.c_Agent ["read", "write", "post", "wait"]) := by
  refine T.F_Agent_made.ok sc_Agent_made (fun vs H Q E h => ?_) (fun cdv A0 outer s H vs Q E hr h => ?_)
  · obtain ⟨z, t, xs, ls, rfl, _⟩ := h
    rfl
  · obtain ⟨z, t, xs, ls, rfl, hz, ht, hx, l1, l2, hg, q⟩ := h
    refine ⟨_, (pss_one (ps_ret (OwnC.pe_makeV (pv 0) T.mk_Agent G_Agent_init (hr.mono (by decide)) pass0 (pa_cons (pv 1) (StX.pa_star (pv 2) pa_nil))))), ?_⟩
    walk_at "in"
    walk_at "rd"
    refine Lay.rd_makeV ?_
    walk_at "rd"
    refine ⟨rfl, Lay.rd_makeR ?_⟩
    walk_at "rd"
    refine ⟨t, xs, rfl, ht, ?_⟩
    walk_at "rd"
    simp only [List.append_nil]
    exact Lay.mk_ag (Q := fun x H => Q (.ref x) H) hz hx l1 l2 hg q
theorem ok_Through_made (T : Txt K mg A) (G_Through_init : FnR P w K mg base CX0 6 A.a_Through_init (Lay.spStar 2 (Lay.spAgentInit A.c_Through ["read", "write", "get", "put", "clean", "drop", "flush", "post", "wait"]))) : FnOk P w K mg base CX0 8 A.a_Through_made A.d_Through_made ["cls", "name", "steps"] (Lay.spMade K A.c_Through ["read", "write", "get", "put", "clean", "drop", "flush", "post", "wait"]) := by
  refine T.F_Through_made.ok sc_Through_made (fun vs H Q E h => ?_) (fun cdv A0 outer s H vs Q E hr h => ?_)
  · obtain ⟨z, t, xs, ls, rfl, _⟩ := h
    rfl
  · obtain ⟨z, t, xs, ls, rfl, hz, ht, hx, l1, l2, hg, q⟩ := h
    refine ⟨_, (pss_one (ps_ret (OwnC.pe_makeV (pv 0) T.mk_Through G_Through_init (hr.mono (by decide)) pass0 (pa_cons (pv 1) (StX.pa_star (pv 2) pa_nil))))), ?_⟩
    walk_at "in"
    walk_at "rd"
    refine Lay.rd_makeV ?_
    walk_at "rd"
    refine ⟨rfl, Lay.rd_makeR ?_⟩
    walk_at "rd"
    refine ⟨t, xs, rfl, ht, ?_⟩
    walk_at "rd"
    simp only [List.append_nil]
    exact Lay.mk_ag (Q := fun x H => Q (.ref x) H) hz hx l1 l2 hg q
theorem ok_Back_made (T : Txt K mg A) (G_Back_init : FnR P w K mg base CX0 6 A.a_Back_init (Lay.spStar 2 (Lay.spAgentInit A.c_Back ["read", "write", "get", "put", "clean", "drop", "flush", "post", "wait"]))) : FnOk P w K mg base CX0 8 A.a_Back_made A.d_Back_made ["cls", "name", "steps"] (Lay.spMade K A.c_Back ["read", "write", "get", "put", "clean", "drop", "flush", "post", "wait"]) := by
  refine T.F_Back_made.ok sc_Back_made (fun vs H Q E h => ?_) (fun cdv A0 outer s H vs Q E hr h => ?_)
  · obtain ⟨z, t, xs, ls, rfl, _⟩ := h
    rfl
  · obtain ⟨z, t, xs, ls, rfl, hz, ht, hx, l1, l2, hg, q⟩ := h
    refine ⟨_, (pss_one (ps_ret (OwnC.pe_makeV (pv 0) T.mk_Back G_Back_init (hr.mono (by decide)) pass0 (pa_cons (pv 1) (StX.pa_star (pv 2) pa_nil))))), ?_⟩
    walk_at "in"
    walk_at "rd"
    refine Lay.rd_makeV ?_
    walk_at "rd"
    refine ⟨rfl, Lay.rd_makeR ?_⟩
    walk_at "rd"
    refine ⟨t, xs, rfl, ht, ?_⟩
    walk_at "rd"
    simp only [List.append_nil]
    exact Lay.mk_ag (Q := fun x H => Q (.ref x) H) hz hx l1 l2 hg q
theorem ok_NoPart_init (T : Txt K mg A) : FnOk P w K mg base CX0 1 A.a_NoPart_init A.d_NoPart_init ["self", "reason", "place"] (Lay.spErr2 A.c_NoPart "reason" "place") := by
  refine T.F_NoPart_init.ok sc_NoPart_init (fun vs H Q E h => ?_) (fun cdv A0 outer s H vs Q E hr h => ?_)
  · obtain ⟨a, v1, v2, rfl, _⟩ := h
    rfl
  · obtain ⟨a, v1, v2, rfl, ha, q⟩ := h
    refine ⟨_, (pss_cons (ps_ost (pv 0) (pv 1))
    (pss_one (ps_ost (pv 0) (pv 2)))), ?_⟩
    walk_at "in"
    walk_at "rd"
    refine Lay.rd_ost ?_
    walk_at "rd"
    refine ⟨a, A.c_NoPart, rfl, T.ox_NoPart, T.nf_NoPart_reason, .inl ⟨ha, fun d hd hne => ?_⟩⟩
    walk_at "rd"
    refine Lay.rd_ost ?_
    walk_at "rd"
    refine ⟨a, A.c_NoPart, rfl, T.ox_NoPart, T.nf_NoPart_place, .inr ⟨d, _, upd_same, (by rw [upd_ne hne]; exact upd_same), (by show 1 ≤ 900; decide), ?_⟩⟩
    refine q d _ hd hne (by rw [upd_ne hne.symm]; exact upd_same) upd_same (fun b o hb e => ?_)
    have hbd : b ≠ d := fun z => by subst z; rw [hd] at e; cases e
    rw [upd_ne hbd, upd_ne hb, upd_ne hbd]
    exact e
theorem ok_check_addresses (T : Txt K mg A) (G_NoPart_init : FnOk P w K mg base CX0 1 A.a_NoPart_init A.d_NoPart_init ["self", "reason", "place"] (Lay.spErr2 A.c_NoPart "reason" "place")) (G_is_within : FnOk P w K mg base CX0 2 A.a_is_within A.d_is_within ["value", "low", "high"] Lay.spIsWithin) : FnOk P w K mg base (L2.CX P w) 4 A.a_check_addresses A.d_check_addresses ["size", "at"] (Lay.spChkAddr A.c_NoPart) := by
  refine T.F_check_addresses.okX sc_check_addresses (fun vs H Q E h => ?_) (fun cdv A0 outer s H vs Q E hr h => ?_)
  · obtain ⟨s, t, xs, rfl, _⟩ := h
    rfl
  · obtain ⟨s0, t, xs, rfl, ht, hk, qe, q⟩ := h
    refine ⟨_, (pss_one (ps_for (passes_of rfl) rfl (Lay.pi_enumT (by rfl) T.n_enumerate (pa_cons (pv 1) pa_nil)) (pg_tup (by rfl) (pgs_cons (pg_name (i := 2) sc_check_addresses.nd rfl (Or.inl rfl)) (pgs_cons (pg_name (i := 3) sc_check_addresses.nd rfl (Or.inl rfl)) pgs_nil)))
      (pss_one (ps_if (pt_not (pt_val (pe_call G_is_within (hr.mono (by decide)) rfl T.g_is_within T.F_is_within.kp T.b_is_within .nil pass0 (pa_cons (pv 3) (pa_cons pe_int (pa_cons (pe_op op_sub (pe_glob (v := .int 1024) rfl T.k_ADDRESSES ⟨_, rfl⟩) (pv 0)) pa_nil))))))
        (pss_one (ps_raise rfl (takes_of rfl rfl rfl rfl) (pmk_oex T.ox_NoPart T.ie_NoPart T.it_NoPart G_NoPart_init (hr.mono (by decide)) T.b_NoPart_init .nil pass0 rfl T.g_NoPart (pa_cons pe_str (pa_cons (pv 2) pa_nil)))))
        pss_nil)))), ?_⟩
    walk_at "in"
    walk_at "rd"
    refine Lay.rd_forW (J := Lay.Itet K t) (H1 := H) (fun R r => ?_) (Lay.walk_enumT (xs := xs)) (fun i σ' H' => (∃ a b, σ' = [some (V.int s0), some (V.ref t), a, b]) ∧ L2.Same H H' ∧ ∀ j, j < i → Lay.aBad s0 xs j = false) ⟨⟨_, _, rfl⟩, L2.Same.refl _, fun j hj => absurd hj (Nat.not_lt_zero _)⟩ (fun i σ' H' _ ⟨_, s2, _⟩ => SqT.of (s2 _ _ ht)) ?_ ?_
    · walk_at "rd"
      exact ⟨t, xs, rfl, SqT.of ht, r⟩
    · rintro i x σ' H2 H3 hi ⟨⟨a, b, rfl⟩, s2, hno⟩ ⟨T0, x1, y1, rfl, hT, rfl, ex, ey⟩
      cases ex
      have s3 : L2.Same H (upd H2 T0 (.tup [.int (i : Nat), y1])) := s2.trans (Lay.Same.upd hT)
      walk_at "rd"
      obtain ⟨ty, ky, _⟩ := hk y1 (List.mem_of_getElem? ey)
      refine ⟨y1, ty, 0, 1024 - s0, rfl, ky.mono s3, ?_⟩
      have ey' : xs[i]? = some y1 := ey
      have eb : Lay.aBad s0 xs i = !Lay.within y1 0 (1024 - s0) := by unfold Lay.aBad; rw [ey']
      by_cases hw : Lay.within y1 0 (1024 - s0) = true
      · rw [hw]
        walk_at "it"
        refine ⟨⟨_, _, rfl⟩, s3, fun j hj => ?_⟩
        by_cases e : j = i
        · subst e; rw [eb, hw]; rfl
        · exact hno j (by omega)
      · rw [Bool.eq_false_iff.mpr hw]
        walk_at "it"
        refine Lay.rd_mkO ?_
        walk_at "rd"
        refine Lay.mk_err2 fun d H' hd s e => qe i (Lay.fst_some (by rw [eb, Bool.eq_false_iff.mpr hw]; rfl) hno hi) d H' (Lay.none_of s3 hd) (s3.trans s) e
    · rintro σ' H2 ⟨⟨a, b, rfl⟩, s2, hno⟩
      exact q (Lay.fst_none hno) H2 s2
theorem ok_check_slots_apart (T : Txt K mg A) (G_NoPart_init : FnOk P w K mg base CX0 1 A.a_NoPart_init A.d_NoPart_init ["self", "reason", "place"] (Lay.spErr2 A.c_NoPart "reason" "place")) : FnOk P w K mg base (L2.CX P w) 3 A.a_check_slots_apart A.d_check_slots_apart ["size", "at"] (Lay.spChkApart A.c_NoPart) := by
  refine T.F_check_slots_apart.okX sc_check_slots_apart (fun vs H Q E h => ?_) (fun cdv A0 outer s H vs Q E hr h => ?_)
  · obtain ⟨s, t, ns, rfl, _⟩ := h
    rfl
  · obtain ⟨s0, t, ns, rfl, ht, hl4, qe, q⟩ := h
    refine ⟨_, (pss_one (ps_for (passes_of rfl) rfl (Lay.pi_enumT (by rfl) T.n_enumerate (pa_cons (pv 1) pa_nil)) (pg_tup (by rfl) (pgs_cons (pg_name (i := 2) sc_check_slots_apart.nd rfl (Or.inl rfl)) (pgs_cons (pg_name (i := 3) sc_check_slots_apart.nd rfl (Or.inr rfl)) pgs_nil)))
      (pss_one (ps_if (pt_val (pe_callB (cr_any rfl) (by rfl) T.n_any (by decide +kernel) (pa_cons (pe_lc (own := [("earlier", 4)]) (g := gName 4) (tt := tYes) rfl sc_check_slots_apart.nd (pi_tup (pe_slice sl_tupA (pv 1) po_none (po_some (pv 2)))) (blkOk_by (own := [("earlier", 4)]) (N := ["size", "at", "k", "address", "earlier"]) (sc := defScope s_check_slots_apart) (by decide +kernel)) (fun _ _ _ _ _ => pg_name (i := 4) sc_check_slots_apart.nd rfl (Or.inl rfl)) (fun _ _ _ _ _ => pts_nil) (fun _ _ _ _ _ => (pe_cmpR op_lt (pe_callB Lay.call_absI (by rfl) T.n_abs (by decide +kernel) (pa_cons (pe_op op_sub (pv 3) (pv 4)) pa_nil)) (pv 0) (nomark _)))) pa_nil)))
        (pss_one (ps_raise rfl (takes_of rfl rfl rfl rfl) (pmk_oex T.ox_NoPart T.ie_NoPart T.it_NoPart G_NoPart_init (hr.mono (by decide)) T.b_NoPart_init .nil pass0 rfl T.g_NoPart (pa_cons pe_str (pa_cons (pv 2) pa_nil)))))
        pss_nil)))), ?_⟩
    walk_at "in"
    walk_at "rd"
    refine Lay.rd_forW (J := Lay.Itet K t) (H1 := H) (fun R r => ?_) (Lay.walk_enumT (xs := ns.map V.int)) (fun i σ' H' => (∃ a b, σ' = [some (V.int s0), some (V.ref t), a, b, none]) ∧ L2.Same H H' ∧ ∀ j, j < i → Lay.bBad s0 (ns.map V.int) j = false) ⟨⟨_, _, rfl⟩, L2.Same.refl _, fun j hj => absurd hj (Nat.not_lt_zero _)⟩ (fun i σ' H' _ ⟨_, s2, _⟩ => SqT.of (s2 _ _ ht)) ?_ ?_
    · walk_at "rd"
      exact ⟨t, _, rfl, SqT.of ht, r⟩
    · rintro i x σ' H2 H3 hi ⟨⟨a, b, rfl⟩, s2, hno⟩ ⟨T0, x1, y1, rfl, hT, rfl, ex, ey⟩
      cases ex
      have ey' : (ns.map V.int)[i]? = some y1 := ey
      have hi' : i < ns.length := by simpa using hi
      obtain ⟨n0, en0, rfl⟩ : ∃ n0, ns[i]? = some n0 ∧ y1 = V.int n0 := by
        rw [List.getElem?_map, List.getElem?_eq_getElem hi'] at ey'
        exact ⟨_, List.getElem?_eq_getElem hi', (Option.some.inj ey').symm⟩
      have s3 : L2.Same H (upd H2 T0 (.tup [.int (i : Nat), .int n0])) := s2.trans (Lay.Same.upd hT)
      walk_at "rd"
      refine Lay.rd_slA (SqT.of (s3 _ _ ht)) hi (fun p hp => ?_)
      have s4 := s3.trans (Lay.Same.upd (o := .tup ((ns.map V.int).take i)) hp)
      walk_at "rd"
      refine ⟨⟨_, SqT.of upd_same⟩, ?_⟩
      intro D hD
      have hpD : p ≠ D := fun e => by subst e; rw [upd_same] at hD; cases hD
      refine Lay.lc_go (walk_tup (xs := (ns.map V.int).take i)) (fun j l H' => H' p = some (.tup ((ns.map V.int).take i)) ∧ L2.Same H H' ∧ l = ((ns.take i).take j).map fun m => V.bl (decide ((if n0 - m < 0 then -(n0 - m) else n0 - m) < s0)))
        ⟨Lay.upd_old hD upd_same, Lay.Same.upd' s4 hD, rfl⟩ (fun j l H' _ r => SqT.of r.1) ?_ ?_
      · rintro j l y H4 H5 hj hl' hz' ⟨r0, r1, r2⟩ ⟨rfl, hy⟩
        have hjm : j < (ns.take i).length := by simpa using hj
        obtain ⟨m, em, rfl⟩ : ∃ m, (ns.take i)[j]? = some m ∧ y = V.int m := by
          rw [← List.map_take, List.getElem?_map, List.getElem?_eq_getElem hjm] at hy
          exact ⟨_, List.getElem?_eq_getElem hjm, (Option.some.inj hy).symm⟩
        walk_at "rd"
        refine ⟨rfl, ?_⟩
        walk_at "it"
        refine Lay.lc_put hl' hz' (by have : (ns.take i).length ≤ 4 := by rw [List.length_take]; omega
                                      omega) ⟨?_, fun b o hb => ?_, ?_⟩
        · have : p ≠ D := hpD
          rw [upd_ne this]; exact r0
        · have : b ≠ D := fun e => by
            subst e
            have q1 := (Lay.none_of s4 hD)
            rw [q1] at hb; cases hb
          rw [upd_ne this]; exact r1 b o hb
        · rw [r2, Lay.take_succ em, List.map_append, List.map_cons, List.map_nil]
      · rintro l H4 hl' hz' ⟨r0, r1, rfl⟩
        walk_at "rd"
        have el : (((ns.take i).take ((ns.map V.int).take i).length).map fun m => V.bl (decide ((if n0 - m < 0 then -(n0 - m) else n0 - m) < s0))) = ((ns.take i).map fun m => decide ((if n0 - m < 0 then -(n0 - m) else n0 - m) < s0)).map V.bl := by
          rw [List.take_of_length_le (by simp), List.map_map]
          rfl
        rw [el] at hl'
        refine Lay.rd_anys (SqL.of hl') ?_
        have eb : Lay.bBad s0 (ns.map V.int) i = ((ns.take i).map fun m => decide ((if n0 - m < 0 then -(n0 - m) else n0 - m) < s0)).any id := by
          unfold Lay.bBad
          rw [ey']
          dsimp only
          rw [← List.map_take, List.any_map, List.any_map]
          rfl
        rw [← eb]
        walk_at "rd"
        refine Lay.ite_b (fun hb => ?_) (fun hb => ?_)
        · walk_at "it"
          refine Lay.rd_mkO ?_
          walk_at "rd"
          exact Lay.mk_err2 fun d H' hd s e => qe i (Lay.fst_some hb hno hi') d H' (Lay.none_of r1 hd) (r1.trans s) e
        · walk_at "it"
          refine ⟨⟨_, _, rfl⟩, r1, fun j hj => ?_⟩
          by_cases e : j = i
          · subst e; exact hb
          · exact hno j (by omega)
    · rintro σ' H2 ⟨⟨a, b, rfl⟩, s2, hno⟩
      exact q (Lay.fst_none fun j hj => hno j (by simpa using hj)) H2 s2
theorem ok_Variable_init (T : Txt K mg A) (G_NoPart_init : FnOk P w K mg base CX0 1 A.a_NoPart_init A.d_NoPart_init ["self", "reason", "place"] (Lay.spErr2 A.c_NoPart "reason" "place")) (G_is_name : FnOk P w K mg base CX0 1 A.a_is_name A.d_is_name ["value"] Lay.spIsName) (G_is_within : FnOk P w K mg base CX0 2 A.a_is_within A.d_is_within ["value", "low", "high"] Lay.spIsWithin) (G_check_addresses : FnOk P w K mg base (L2.CX P w) 4 A.a_check_addresses A.d_check_addresses ["size", "at"] (Lay.spChkAddr A.c_NoPart)) (G_check_slots_apart : FnOk P w K mg base (L2.CX P w) 3 A.a_check_slots_apart A.d_check_slots_apart ["size", "at"] (Lay.spChkApart A.c_NoPart)) : FnR P w K mg base (L2.CX P w) 6 A.a_Variable_init (Lay.spStar 3 (Lay.spVarInit A.c_Variable A.c_NoPart)) := by
  obtain ⟨oc, od, kV, doc, pm, an, cdv, ct, osl, hfd, lk, hcd⟩ := T.F_Variable_init.ex
  rw [hfd] at lk
  refine StX.fn_star (ps := ["self", "name", "size"]) (pv := "at") (sp := Lay.spVarInit A.c_Variable A.c_NoPart) lk hcd sc_Variable_init StX.cxUp (Lay.bind_star3 (B := fun us => bindArgs (PySem.W.fnOf "__init__" "Variable.__init__" (defArgs s_Variable_init) (defBody s_Variable_init) (defScope s_Variable_init) .none kV doc pm an cdv ct) ⟨us, []⟩) (fun a b c => by rfl) (fun a b c r rs => by rfl)) (fun A0 outer s H vs Q E hr h => ?_)
  obtain ⟨x, dx, v, wv, t, xs, rfl, hx, ⟨tv, kv, hz⟩, ⟨tw, kw, _⟩, ht, hk, qe, q⟩ := h
  refine ⟨_, (show PSs (cxOf (L2.CX P w) P w K mg base ["self", "name", "size", "at"] "Variable.__init__" (defScope s_Variable_init) A.a_Variable_init cdv A0 outer s H E) (defBody s_Variable_init) _ from (pss_cons (ps_if (pt_not (pt_val (pe_call G_is_name (hr.mono (by decide)) rfl T.g_is_name T.F_is_name.kp T.b_is_name .nil pass0 (pa_cons (pv 1) pa_nil))))
      (pss_one (ps_raise rfl (takes_of rfl rfl rfl rfl) (pmk_oex T.ox_NoPart T.ie_NoPart T.it_NoPart G_NoPart_init (hr.mono (by decide)) T.b_NoPart_init .nil pass0 rfl T.g_NoPart (pa_cons pe_str (pa_cons pe_non pa_nil)))))
      pss_nil)
    (pss_cons (ps_if (pt_not (pt_val (pe_call G_is_within (hr.mono (by decide)) rfl T.g_is_within T.F_is_within.kp T.b_is_within .nil pass0 (pa_cons (pv 2) (pa_cons pe_int (pa_cons (pe_glob (v := .int 8) rfl T.k_GREATEST_SIZE ⟨_, rfl⟩) pa_nil))))))
      (pss_one (ps_raise rfl (takes_of rfl rfl rfl rfl) (pmk_oex T.ox_NoPart T.ie_NoPart T.it_NoPart G_NoPart_init (hr.mono (by decide)) T.b_NoPart_init .nil pass0 rfl T.g_NoPart (pa_cons pe_str (pa_cons pe_non pa_nil)))))
      pss_nil)
    (pss_cons (ps_if (pt_not (pt_chain op_le op_le pe_int (pe_callB Lay.call_lenS (by rfl) T.n_len PySem.boot_len (pa_cons (pv 3) pa_nil)) (pe_glob (v := .int 4) rfl T.k_MOST_SLOTS ⟨_, rfl⟩)))
      (pss_one (ps_raise rfl (takes_of rfl rfl rfl rfl) (pmk_oex T.ox_NoPart T.ie_NoPart T.it_NoPart G_NoPart_init (hr.mono (by decide)) T.b_NoPart_init .nil pass0 rfl T.g_NoPart (pa_cons pe_str (pa_cons pe_non pa_nil)))))
      pss_nil)
    (pss_cons (ps_expr (pe_call (E := E) G_check_addresses (hr.mono (by decide)) rfl T.g_check_addresses T.F_check_addresses.kp T.b_check_addresses .nil (passes_call (takes_of rfl rfl rfl rfl) (fun _ _ _ _ h => h)) (pa_cons (pv 2) (pa_cons (pv 3) pa_nil))))
    (pss_cons (ps_expr (pe_call (E := E) G_check_slots_apart (hr.mono (by decide)) rfl T.g_check_slots_apart T.F_check_slots_apart.kp T.b_check_slots_apart .nil (passes_call (takes_of rfl rfl rfl rfl) (fun _ _ _ _ h => h)) (pa_cons (pv 2) (pa_cons (pv 3) pa_nil))))
    (pss_cons (ps_fld (pv 0) (pv 1) rfl)
    (pss_cons (ps_fld (pv 0) (pv 2) rfl)
    (pss_one (ps_fld (pv 0) (pv 3) rfl)))))))))), ?_⟩
  walk_at "in"
  walk_at "rd"
  refine ⟨v, tv, rfl, kv, (fun z e => Nat.le_trans (hz z e) (by decide)), fun H1 s1 => ?_⟩
  by_cases hn : Lay.isName v = true
  case neg =>
    rw [Bool.eq_false_iff.mpr hn]
    walk_at "it"
    refine Lay.rd_mkO ?_
    walk_at "rd"
    exact Lay.mk_err2 fun d H' hd s e => qe _ _ (Lay.wants_name (Bool.eq_false_iff.mpr hn)) d H' (Lay.none_of s1 hd) (s1.trans s) e
  rw [hn]
  walk_at "it"
  refine ⟨wv, tw, 1, 8, rfl, kw.mono s1, ?_⟩
  by_cases hw : Lay.within wv 1 8 = true
  case neg =>
    rw [Bool.eq_false_iff.mpr hw]
    walk_at "it"
    refine Lay.rd_mkO ?_
    walk_at "rd"
    exact Lay.mk_err2 fun d H' hd s e => qe _ _ (Lay.wants_size hn (Bool.eq_false_iff.mpr hw)) d H' (Lay.none_of s1 hd) (s1.trans s) e
  rw [hw]
  obtain ⟨s0, rfl, s1', s8⟩ := Lay.within_int hw
  have ht1 := s1 _ _ ht
  walk_at "it"
  have slots : (decide (1 ≤ xs.length) && decide (xs.length ≤ 4)) = false → ∀ d H', H1 d = none → L2.Same H1 H' → H' d = some (.xd [("place", .non), ("reason", .str "slots")]) → E (.ref A.c_NoPart) (some d) H' :=
    fun hl d H' hd s e => qe _ _ (Lay.wants_slots hn hw hl) d H' (Lay.none_of s1 hd) (s1.trans s) e
  refine Lay.ite_d (fun c1 => ?_) (fun c1 => ?_)
  case refine_2 =>
    walk_at "it"
    refine Lay.rd_mkO ?_
    walk_at "rd"
    exact Lay.mk_err2 (slots (by rw [decide_eq_false (fun z : 1 ≤ xs.length => c1 (by omega))]; rfl))
  walk_at "rd"
  refine Lay.ite_n (fun c2 => ?_) (fun c2 => ?_)
  · walk_at "it"
    refine Lay.rd_mkO ?_
    walk_at "rd"
    exact Lay.mk_err2 (slots (by rw [decide_eq_false (fun z : xs.length ≤ 4 => c2 (by omega)), Bool.and_false]))
  have hl : (decide (1 ≤ xs.length) && decide (xs.length ≤ 4)) = true := by rw [decide_eq_true (show 1 ≤ xs.length by omega), decide_eq_true (show xs.length ≤ 4 by omega)]; rfl
  walk_at "it"
  refine ⟨s0, t, xs, rfl, ht1, hk.mono s1, fun k hk' d H' hd s e => qe _ _ (Lay.wants_addr hn hw hl hk') d H' (Lay.none_of s1 hd) (s1.trans s) e, fun ha H2 s2 => ?_⟩
  obtain ⟨ns, rfl, hns⟩ := Lay.ints_of (Lay.fst_none_at ha)
  walk_at "rd"
  have s12 := s1.trans s2
  refine ⟨s0, t, ns, rfl, s12 _ _ ht, (by have h4 : (ns.map V.int).length ≤ 4 := by omega
                                          rw [List.length_map] at h4; exact h4), fun k hk' d H' hd s e => qe _ _ (Lay.wants_bytes hn hw hl ha (by rw [List.length_map]; exact hk')) d H' (Lay.none_of s12 hd) (s12.trans s) e, fun hb H3 s3 => ?_⟩
  have hq := q (Lay.wants_none hn hw hl ha (by rw [List.length_map]; exact hb))
  have s13 := s12.trans s3
  walk_at "rd"
  refine Lay.rd_sFld ?_
  walk_at "rd"
  refine ⟨x, A.c_Variable, dx, [], rfl, s13 _ _ hx, T.cl_Variable, T.na_Variable_name, by decide, ?_⟩
  walk_at "rd"
  refine Lay.rd_sFld ?_
  walk_at "rd"
  refine ⟨x, A.c_Variable, dx, _, rfl, upd_same, T.cl_Variable, T.na_Variable_size, (by show 1 < 1000; decide), ?_⟩
  walk_at "rd"
  refine Lay.rd_sFld ?_
  walk_at "rd"
  refine ⟨x, A.c_Variable, dx, _, rfl, upd_same, T.cl_Variable, T.na_Variable_at, (by show 2 < 1000; decide), ?_⟩
  have htx : t ≠ x := ne_of ht hx (by intro y; cases y)
  refine hq _ ⟨dx, t, ?_, ?_⟩ (fun b o hb e => ?_)
  · rw [upd_same, Lay.putF_var]
  · rw [upd_ne htx, upd_ne htx, upd_ne htx]; exact s13 _ _ ht
  · rw [upd_ne hb, upd_ne hb, upd_ne hb]; exact s13 _ _ e
theorem ok_Variable_made (T : Txt K mg A) (G_Variable_init : FnR P w K mg base (L2.CX P w) 6 A.a_Variable_init (Lay.spStar 3 (Lay.spVarInit A.c_Variable A.c_NoPart))) : FnOk P w K mg base (L2.CX P w) 8 A.a_Variable_made A.d_Variable_made ["cls", "name", "size", "at"] (Lay.spVarMade K A.c_Variable A.c_NoPart) := by
  refine T.F_Variable_made.okX sc_Variable_made (fun vs H Q E h => ?_) (fun cdv A0 outer s H vs Q E hr h => ?_)
  · obtain ⟨v, wv, a, xs, rfl, _⟩ := h
    rfl
  · obtain ⟨v, wv, a, xs, rfl, hv, hw, hs, hx, hl, q⟩ := h
    refine ⟨_, (pss_one (ps_ret (OwnC.pe_makeV (E := E) (pv 0) T.mk_Variable G_Variable_init (hr.mono (by decide)) (passes_call (takes_of rfl rfl rfl rfl) (fun _ _ _ _ h => h)) (pa_cons (pv 1) (pa_cons (pv 2) (StX.pa_star (pv 3) pa_nil)))))), ?_⟩
    walk_at "in"
    walk_at "rd"
    refine Lay.rd_makeV ?_
    walk_at "rd"
    refine ⟨rfl, Lay.rd_makeR ?_⟩
    walk_at "rd"
    refine ⟨a, xs, rfl, hs, ?_⟩
    walk_at "rd"
    simp only [List.append_nil]
    exact Lay.mk_var (Q' := Q) (Q := fun x H => Q (.ref x) H) (fun _ _ h => h) hv hw hx hl q
theorem ok_Signal_init (T : Txt K mg A) (G_NoPart_init : FnOk P w K mg base CX0 1 A.a_NoPart_init A.d_NoPart_init ["self", "reason", "place"] (Lay.spErr2 A.c_NoPart "reason" "place")) (G_is_name : FnOk P w K mg base CX0 1 A.a_is_name A.d_is_name ["value"] Lay.spIsName) (G_is_within : FnOk P w K mg base CX0 2 A.a_is_within A.d_is_within ["value", "low", "high"] Lay.spIsWithin) : FnOk P w K mg base (L2.CX P w) 4 A.a_Signal_init A.d_Signal_init ["self", "name", "tokens"] (Lay.spSigInit A.c_Signal A.c_NoPart) := by
  refine T.F_Signal_init.ok sc_Signal_init (fun vs H Q E h => ?_) (fun cdv A0 outer s H vs Q E hr h => ?_)
  · obtain ⟨x, dx, v, w, rfl, _⟩ := h
    rfl
  · obtain ⟨x, dx, v, wv, rfl, hx, ⟨t, kv, hz⟩, ⟨u, kw, _⟩, qn, qt, q⟩ := h
    refine ⟨_, (pss_cons (ps_if (pt_not (pt_val (pe_call G_is_name (hr.mono (by decide)) rfl T.g_is_name T.F_is_name.kp T.b_is_name .nil pass0 (pa_cons (pv 1) pa_nil))))
      (pss_one (ps_raise rfl (takes_of rfl rfl rfl rfl) (pmk_oex T.ox_NoPart T.ie_NoPart T.it_NoPart G_NoPart_init (hr.mono (by decide)) T.b_NoPart_init .nil pass0 rfl T.g_NoPart (pa_cons pe_str (pa_cons pe_non pa_nil)))))
      pss_nil)
    (pss_cons (ps_if (pt_not (pt_val (pe_call G_is_within (hr.mono (by decide)) rfl T.g_is_within T.F_is_within.kp T.b_is_within .nil pass0 (pa_cons (pv 2) (pa_cons pe_int (pa_cons (pe_glob (v := .int 3) rfl T.k_MOST_TOKENS ⟨_, rfl⟩) pa_nil))))))
      (pss_one (ps_raise rfl (takes_of rfl rfl rfl rfl) (pmk_oex T.ox_NoPart T.ie_NoPart T.it_NoPart G_NoPart_init (hr.mono (by decide)) T.b_NoPart_init .nil pass0 rfl T.g_NoPart (pa_cons pe_str (pa_cons pe_non pa_nil)))))
      pss_nil)
    (pss_cons (ps_fld (pv 0) (pv 1) rfl)
    (pss_one (ps_fld (pv 0) (pv 2) rfl))))), ?_⟩
    walk_at "in"
    walk_at "rd"
    refine ⟨v, t, rfl, kv, (fun z e => Nat.le_trans (hz z e) (by decide)), fun H1 s1 => ?_⟩
    by_cases hn : Lay.isName v = true
    · rw [hn]
      walk_at "it"
      refine ⟨wv, u, 0, 3, rfl, kw.mono s1, ?_⟩
      by_cases hw : Lay.within wv 0 3 = true
      · rw [hw]
        walk_at "it"
        refine Lay.rd_sFld ?_
        walk_at "rd"
        refine ⟨x, A.c_Signal, dx, [], rfl, s1 _ _ hx, T.cl_Signal, T.na_Signal_name, by decide, ?_⟩
        walk_at "rd"
        refine Lay.rd_sFld ?_
        walk_at "rd"
        refine ⟨x, A.c_Signal, dx, _, rfl, upd_same, T.cl_Signal, T.na_Signal_tokens, (by show 1 < 1000; decide), ?_⟩
        refine q hn hw _ (by rw [upd_same, Lay.putF_sig]) (fun b o hb e => ?_)
        rw [upd_ne hb, upd_ne hb]; exact s1 _ _ e
      · rw [Bool.eq_false_iff.mpr hw]
        walk_at "it"
        refine Lay.rd_mkO ?_
        walk_at "rd"
        refine Lay.mk_err2 fun d H' hd s' e => qt hn (Bool.eq_false_iff.mpr hw) d H' (Lay.none_of s1 hd) (s1.trans s') e
    · rw [Bool.eq_false_iff.mpr hn]
      walk_at "it"
      refine Lay.rd_mkO ?_
      walk_at "rd"
      refine Lay.mk_err2 fun d H' hd s' e => qn (Bool.eq_false_iff.mpr hn) d H' (Lay.none_of s1 hd) (s1.trans s') e
theorem ok_check_many (T : Txt K mg A) : FnOk P w K mg base CX0 1 A.a_check_many A.d_check_many ["parts"] (NetL.spChk K (cs A)) := by
  refine T.F_check_many.ok sc_check_many (fun vs H Q E h => ?_) (fun cdv A0 outer s H vs Q E hr h => ?_)
  · obtain ⟨t, ps, its, ring, rfl, _⟩ := h
    rfl
  · obtain ⟨t, ps, its, ring, rfl, ht, hp, hg, hl, q⟩ := h
    have C := nc T
    refine ⟨_, (pss_cons (ps_set (i := 1) sc_check_many.nd rfl (Or.inl rfl) pe_int)
    (pss_cons (ps_set (i := 2) sc_check_many.nd rfl (Or.inl rfl) pe_int)
    (pss_cons (ps_set (i := 3) sc_check_many.nd rfl (Or.inl rfl) pe_int)
    (pss_one (ps_for PassesOwn.never rfl (Lay.pi_enumT (by rfl) T.n_enumerate (pa_cons (pv 0) pa_nil)) (pg_tup (by rfl) (pgs_cons (pg_name (i := 4) sc_check_many.nd rfl (Or.inl rfl)) (pgs_cons (pg_name (i := 5) sc_check_many.nd rfl (Or.inl rfl)) pgs_nil)))
      (pss_cons (ps_if (pt_val (pe_callB call_isi (by rfl) T.n_isinstance (by decide +kernel) (pa_cons (pv 5) (pa_cons (pe_glob (v := .ref A.c_Agent) rfl T.g_Agent rfl) pa_nil))))
        (pss_one (ps_aug (i := 1) sc_check_many.nd rfl (Or.inl rfl) pe_int ip_add))
        (pss_one (ps_if (pt_val (pe_callB call_isi (by rfl) T.n_isinstance (by decide +kernel) (pa_cons (pv 5) (pa_cons (pe_glob (v := .ref A.c_Variable) rfl T.g_Variable rfl) pa_nil))))
          (pss_one (ps_aug (i := 2) sc_check_many.nd rfl (Or.inl rfl) pe_int ip_add))
          (pss_one (ps_aug (i := 3) sc_check_many.nd rfl (Or.inl rfl) pe_int ip_add)))))
      (pss_one (ps_if (PW.pt (pw_or (pt_cmpR op_gt (pv 1) (pe_glob (v := .int 4) rfl T.k_MOST_AGENTS ⟨_, rfl⟩) (nomark _)) (pw_or (pt_cmpR op_gt (pv 2) (pe_glob (v := .int 6) rfl T.k_MOST_VARIABLES ⟨_, rfl⟩) (nomark _)) (pw_or1 (pt_cmpR op_gt (pv 3) (pe_glob (v := .int 6) rfl T.k_MOST_SIGNALS ⟨_, rfl⟩) (nomark _))))))
        (pss_one ps_never)
        pss_nil)))))))), ?_⟩
    walk_at "in"
    walk_at "rd"
    refine Lay.rd_forW (J := Lay.Itet K t) (H1 := H) (fun R r => ?_) (Lay.walk_enumT (xs := ps)) (fun i σ' H' => (∃ a b, σ' = [some (V.ref t), some (V.int ((its.take i).filter NetL.It.isA).length), some (V.int ((its.take i).filter NetL.It.isV).length), some (V.int ((its.take i).filter NetL.It.isS).length), a, b]) ∧ L2.Same H H') ⟨⟨_, _, rfl⟩, L2.Same.refl _⟩ (fun i σ' H' _ z => SqT.of (z.2 _ _ ht)) ?_ ?_
    · walk_at "rd"
      exact ⟨t, _, rfl, SqT.of ht, r⟩
    · rintro i x σ' H2 H3 hi ⟨⟨a, b, rfl⟩, s2⟩ ⟨T0, x1, y1, rfl, hT, rfl, ex, ey⟩
      cases ex
      obtain ⟨it, ei, pa⟩ := NetL.pget hp ey
      obtain ⟨x0, dx, fs, rfl, hx, hn⟩ := pa.ins
      have s3 : L2.Same H (upd H2 T0 (.tup [.int (i : Nat), V.ref x0])) := s2.trans (Lay.Same.upd hT)
      have hx3 := s3 _ _ hx
      have b1 := Nat.le_trans (NetL.cnt_le (p := NetL.It.isA) its (i + 1)) hg.ma
      have b2 := Nat.le_trans (NetL.cnt_le (p := NetL.It.isV) its (i + 1)) hg.mv
      have b3 := Nat.le_trans (NetL.cnt_le (p := NetL.It.isS) its (i + 1)) hg.ms
      have e1 := NetL.cnt_succ (p := NetL.It.isA) ei
      have e2 := NetL.cnt_succ (p := NetL.It.isV) ei
      have e3 := NetL.cnt_succ (p := NetL.It.isS) ei
      walk_at "rd"
      refine Lay.rd_isiC (C.ty _ _ dx fs it hx3) (C.ka it) ?_
      cases it with
      | ag z k ls =>
        simp only [NetL.It.isA, NetL.It.isV, NetL.It.isS, if_true, Bool.false_eq_true, if_false] at e1 e2 e3 ⊢
        walk_at "it"
        refine NetL.rd_aug ⟨_, rfl, ?_⟩
        walk_at "rd"
        refine ⟨_, _, rfl, rfl, ?_⟩
        walk_at "rd"
        refine Lay.ite_d (fun c => absurd c (by omega)) (fun _ => ?_)
        walk_at "it"
        refine Lay.ite_d (fun c => absurd c (by omega)) (fun _ => ?_)
        walk_at "it"
        refine Lay.ite_d (fun c => absurd c (by omega)) (fun _ => ?_)
        walk_at "it"
        refine ⟨⟨some (V.int (i : Nat)), some (V.ref x0), ?_⟩, s3⟩
        rw [e1, e2, e3]
        rfl
      | vr z s0 ats =>
        simp only [NetL.It.isA, NetL.It.isV, NetL.It.isS, if_true, Bool.false_eq_true, if_false] at e1 e2 e3 ⊢
        walk_at "it"
        refine Lay.rd_isiC (C.ty _ _ dx fs (.vr z s0 ats) hx3) (C.kv (.vr z s0 ats)) ?_
        simp only [NetL.It.isV]
        walk_at "it"
        refine NetL.rd_aug ⟨_, rfl, ?_⟩
        walk_at "rd"
        refine ⟨_, _, rfl, rfl, ?_⟩
        walk_at "rd"
        refine Lay.ite_d (fun c => absurd c (by omega)) (fun _ => ?_)
        walk_at "it"
        refine Lay.ite_d (fun c => absurd c (by omega)) (fun _ => ?_)
        walk_at "it"
        refine Lay.ite_d (fun c => absurd c (by omega)) (fun _ => ?_)
        walk_at "it"
        refine ⟨⟨some (V.int (i : Nat)), some (V.ref x0), ?_⟩, s3⟩
        rw [e1, e2, e3]
        rfl
      | sg z t0 =>
        simp only [NetL.It.isA, NetL.It.isV, NetL.It.isS, if_true, Bool.false_eq_true, if_false] at e1 e2 e3 ⊢
        walk_at "it"
        refine Lay.rd_isiC (C.ty _ _ dx fs (.sg z t0) hx3) (C.kv (.sg z t0)) ?_
        simp only [NetL.It.isV]
        walk_at "it"
        refine NetL.rd_aug ⟨_, rfl, ?_⟩
        walk_at "rd"
        refine ⟨_, _, rfl, rfl, ?_⟩
        walk_at "rd"
        refine Lay.ite_d (fun c => absurd c (by omega)) (fun _ => ?_)
        walk_at "it"
        refine Lay.ite_d (fun c => absurd c (by omega)) (fun _ => ?_)
        walk_at "it"
        refine Lay.ite_d (fun c => absurd c (by omega)) (fun _ => ?_)
        walk_at "it"
        refine ⟨⟨some (V.int (i : Nat)), some (V.ref x0), ?_⟩, s3⟩
        rw [e1, e2, e3]
        rfl
    · rintro σ' H2 ⟨⟨a, b, rfl⟩, s2⟩
      exact q H2 s2
theorem ok_check_names (T : Txt K mg A) : FnOk P w K mg base CX0 1 A.a_check_names A.d_check_names ["parts"] (NetL.spChk K (cs A)) := by
  refine T.F_check_names.ok sc_check_names (fun vs H Q E h => ?_) (fun cdv A0 outer s H vs Q E hr h => ?_)
  · obtain ⟨t, ps, its, ring, rfl, _⟩ := h
    rfl
  · obtain ⟨t, ps, its, ring, rfl, ht, hp, hg, hl, q⟩ := h
    have C := nc T
    have hlen := hp.length
    refine ⟨_, (pss_cons (ps_setLc (i := 1) (own := [("part", 2)]) (g := gName 2) (tt := tYes) rfl sc_check_names.nd rfl rfl (sw_true rfl rfl rfl (by decide +kernel)) (pi_tup (pv 0)) (blkOk_by (own := [("part", 2)]) (N := ["parts", "names", "part", "k", "name"]) (sc := defScope s_check_names) (by decide +kernel)) (fun _ _ _ _ _ => pg_name (i := 2) sc_check_names.nd rfl (Or.inl rfl)) (fun _ _ _ _ _ => pts_nil) (fun _ _ _ _ _ => by exact (show PE _ _ (tFld K (tVar 2) "name") from pe_fld (pv 2) rfl)))
    (pss_one (ps_for PassesOwn.never rfl (pi_enum (by rfl) T.n_enumerate (pa_cons (pv 1) pa_nil)) (pg_tup (by rfl) (pgs_cons (pg_name (i := 3) sc_check_names.nd rfl (Or.inl rfl)) (pgs_cons (pg_name (i := 4) sc_check_names.nd rfl (Or.inl rfl)) pgs_nil)))
      (pss_one (ps_if (pt_cmpR (Lay.op_inS hr.units) (pv 4) (pe_slice sl_list (pv 1) po_none (po_some (pv 3))) rfl)
        (pss_one ps_never)
        pss_nil))))), ?_⟩
    walk_at "in"
    walk_at "rd"
    refine ⟨⟨_, SqT.of ht⟩, ?_⟩
    intro D hD
    refine Lay.lc_go (walk_tup (xs := ps)) (fun i l H' => L2.Same H H' ∧ l = ((its.take i).map NetL.It.nm).map V.str) ⟨Lay.Same.upd hD, rfl⟩ (fun i l H' _ r => SqT.of (r.1 _ _ ht)) ?_ ?_
    · rintro i l x H2 H3 hi hl' hz' ⟨r1, r2⟩ ⟨rfl, ey⟩
      obtain ⟨it, ei, pa⟩ := NetL.pget hp ey
      obtain ⟨x0, dx, fs, rfl, hx, hn⟩ := pa.ins
      walk_at "rd"
      refine ⟨rfl, ?_⟩
      walk_at "it"
      refine Lay.rd_tFld ?_
      walk_at "rd"
      refine ⟨x0, _, dx, fs, .str it.nm, rfl, (r1 _ _ hx), C.cl it, C.nn it, hn, ?_⟩
      walk_at "rd"
      refine Lay.lc_put hl' hz' (by omega) ⟨fun b o hb => ?_, ?_⟩
      · rw [upd_ne (fun y => by subst y; rw [hD] at hb; cases hb)]
        exact r1 b o hb
      · rw [r2, Lay.take_succ ei, List.map_append, List.map_append]
        rfl
    · rintro l H4 hl' hz' ⟨r1, rfl⟩
      rw [List.take_of_length_le (by omega)] at hl'
      walk_at "rd"
      refine Lay.rd_forW (J := Ite K D) (H1 := H4) (fun R r => ?_) (walk_enum (xs := (its.map NetL.It.nm).map V.str)) (fun i σ' H' => (∃ a b, σ' = [some (V.ref t), some (V.ref D), none, a, b]) ∧ L2.Same H4 H') ⟨⟨_, _, rfl⟩, L2.Same.refl _⟩ (fun i σ' H' _ z => SqL.of (z.2 _ _ hl')) ?_ ?_
      · refine NetL.rd_iEnum ?_
        walk_at "rd"
        exact ⟨D, _, rfl, SqL.of hl', r⟩
      · rintro i x σ' H5 H6 hi ⟨⟨a, b, rfl⟩, s5⟩ ⟨T0, x1, y1, rfl, hT, rfl, ex, ey⟩
        cases ex
        have hi' : i < (its.map NetL.It.nm).length := by simpa using hi
        obtain ⟨z, ez, rfl⟩ : ∃ z, (its.map NetL.It.nm)[i]? = some z ∧ y1 = V.str z := by
          have e : ((its.map NetL.It.nm).map V.str)[i]? = some y1 := ey
          rw [List.getElem?_map, List.getElem?_eq_getElem hi'] at e
          exact ⟨_, List.getElem?_eq_getElem hi', (Option.some.inj e).symm⟩
        have s6 : L2.Same H4 (upd H5 T0 (.tup [.int (i : Nat), .str z])) := s5.trans (Lay.Same.upd hT)
        walk_at "rd"
        refine Lay.rd_slL (SqL.of (s6 _ _ hl')) (fun r hr1 => ?_)
        rw [Lay.cut_take (by rw [List.length_map]; omega), ← List.map_take]
        have s7 := s6.trans (Lay.Same.upd (o := .lst (((its.map NetL.It.nm).take i).map V.str)) hr1)
        walk_at "rd"
        refine Lay.rd_inSL (SqL.of upd_same) (.str z) ?_
        have no : Lay.inStrs (.str z) ((its.map NetL.It.nm).take i) = false := by
          show ((its.map NetL.It.nm).take i).contains z = false
          rw [Bool.eq_false_iff]
          intro c
          exact NetL.not_take hg.nd ez (List.contains_iff_mem.mp c)
        rw [no]
        walk_at "it"
        exact ⟨⟨_, _, rfl⟩, s7⟩
      · rintro σ' H5 ⟨⟨a, b, rfl⟩, s5⟩
        exact q H5 (r1.trans s5)
theorem ok_check_bytes (T : Txt K mg A) : FnOk P w K mg base CX0 1 A.a_check_bytes A.d_check_bytes ["parts"] (NetL.spChk K (cs A)) := by
  refine T.F_check_bytes.ok sc_check_bytes (fun vs H Q E h => ?_) (fun cdv A0 outer s H vs Q E hr h => ?_)
  · obtain ⟨t, ps, its, ring, rfl, _⟩ := h
    rfl
  · obtain ⟨t, ps, its, ring, rfl, ht, hp, hg, hl, q⟩ := h
    have C := nc T
    have hlen := hp.length
    have hby := NetL.bytes_le (its := its) (fun z s ats m => ⟨(hg.vr z s ats m).2.1, (hg.vr z s ats m).2.2.2.1⟩)
    refine ⟨_, (pss_cons (ps_set (i := 1) sc_check_bytes.nd rfl (Or.inr rfl) pe_dnewK)
    (pss_one (ps_for PassesOwn.never rfl (Lay.pi_enumT (by rfl) T.n_enumerate (pa_cons (pv 0) pa_nil)) (pg_tup (by rfl) (pgs_cons (pg_name (i := 2) sc_check_bytes.nd rfl (Or.inl rfl)) (pgs_cons (pg_name (i := 3) sc_check_bytes.nd rfl (Or.inr rfl)) pgs_nil)))
      (pss_one (ps_if (pt_val (pe_callB call_isi (by rfl) T.n_isinstance (by decide +kernel) (pa_cons (pv 3) (pa_cons (pe_glob (v := .ref A.c_Variable) rfl T.g_Variable rfl) pa_nil))))
        (pss_cons (ps_setLc2 (i := 4) (own := [("address", 5), ("more", 6)]) (vs1 := [6]) (g := gName 5) (g1 := gName 6) (tt := tYes) (tt1 := tYes) rfl sc_check_bytes.nd rfl rfl (sw_true rfl rfl rfl (by decide +kernel)) (pi_tup (pe_fld (pv 3) rfl)) (blkOk_by (own := [("address", 5), ("more", 6)]) (N := ["parts", "taken", "k", "part", "own", "address", "more"]) (sc := defScope s_check_bytes) (by decide +kernel)) (by decide) (fun _ _ _ _ _ => pg_name (i := 5) sc_check_bytes.nd rfl (Or.inl rfl)) (fun _ _ _ _ _ => pts_nil) (fun _ _ _ _ _ => (pi_range1 rfl T.n_range (pa_cons (show PE _ _ (tFld K (tVar 3) "size") from pe_fld (pv 3) rfl) pa_nil))) (fun _ _ _ _ _ => pg_name (i := 6) sc_check_bytes.nd rfl (Or.inl rfl)) (fun _ _ _ _ _ => pts_nil) (fun _ _ _ _ _ => (pe_op op_add (pv 5) (pv 6))))
        (pss_cons (ps_if (pt_val (pe_callB (cr_any rfl) (by rfl) T.n_any (by decide +kernel) (pa_cons (pe_lc (own := [("address", 5)]) (g := gName 5) (tt := tYes) rfl sc_check_bytes.nd (pi_list (pv 4)) (blkOk_by (own := [("address", 5)]) (N := ["parts", "taken", "k", "part", "own", "address", "more"]) (sc := defScope s_check_bytes) (by decide +kernel)) (fun _ _ _ _ _ => pg_name (i := 5) sc_check_bytes.nd rfl (Or.inl rfl)) (fun _ _ _ _ _ => pts_nil) (fun _ _ _ _ _ => by exact (pe_cmp (pc_din (Nat.lt_of_le_of_lt (Nat.add_le_add_left (show 1 ≤ 64 by decide) _) hr.units) (pv 5) (pv 1)) (by rfl)))) pa_nil)))
          (pss_one ps_never)
          pss_nil)
        (pss_one (ps_for PassesOwn.never rfl (pi_list (pv 4)) (pg_name (i := 5) sc_check_bytes.nd rfl (Or.inl rfl))
          (pss_one (ps_dput (Nat.lt_of_le_of_lt (Nat.add_le_add_left (show 1 ≤ 64 by decide) _) hr.units) (pv 1) (pv 5) pe_bl rfl))))))
        pss_nil))))), ?_⟩
    walk_at "in"
    walk_at "rd"
    refine Lay.rd_dnew (fun D hD => ?_)
    walk_at "rd"
    have keepD : ∀ {H1 : Hp} {o : HO}, L2.Same H H1 → L2.Same H (upd H1 D o) := fun s b o hb => by
      rw [upd_ne (fun y => by subst y; rw [hD] at hb; cases hb)]
      exact s b o hb
    refine Lay.rd_forW (J := Lay.Itet K t) (H1 := upd H D (.dK [])) (fun R r => ?_) (Lay.walk_enumT (xs := ps)) (fun i σ' H' => (∃ a b c d e, σ' = [some (V.ref t), some (V.ref D), a, b, c, d, e]) ∧ L2.Same H H' ∧ H' D = some (.dK (NetL.marks ((its.take i).flatMap NetL.It.bytes)))) ⟨⟨_, _, _, _, _, rfl⟩, keepD (L2.Same.refl _), upd_same⟩ (fun i σ' H' _ z => SqT.of (z.2.1 _ _ ht)) ?_ ?_
    · walk_at "rd"
      exact ⟨t, _, rfl, SqT.of (keepD (L2.Same.refl _) _ _ ht), r⟩
    · rintro i x σ' H2 H3 hi ⟨⟨a, b, c, d, e, rfl⟩, s2, hm⟩ ⟨T0, x1, y1, rfl, hT, rfl, ex, ey⟩
      cases ex
      obtain ⟨it, ei, pa⟩ := NetL.pget hp ey
      obtain ⟨x0, dx, fs, rfl, hx, hn⟩ := pa.ins
      have hTD : T0 ≠ D := Lay.ne_none hT hm
      have s3 : L2.Same H (upd H2 T0 (.tup [.int (i : Nat), V.ref x0])) := s2.trans (Lay.Same.upd hT)
      have hm3 : (upd H2 T0 (.tup [.int (i : Nat), V.ref x0])) D = some (.dK (NetL.marks ((its.take i).flatMap NetL.It.bytes))) := Lay.upd_old hT hm
      have hx3 := s3 _ _ hx
      walk_at "rd"
      refine Lay.rd_isiC (C.ty _ _ dx fs it hx3) (C.kv it) ?_
      have rest : it.isV = false → (its.take (i + 1)).flatMap NetL.It.bytes = (its.take i).flatMap NetL.It.bytes := by
        intro hv
        rw [NetL.take_flat ei]
        cases it with
        | vr z s0 ats => cases hv
        | _ => show _ ++ [] = _; rw [List.append_nil]
      cases it with
      | ag z k ls =>
        refine ⟨false, rfl, ?_⟩
        refine iteF ?_
        walk_at "rd"
        exact ⟨⟨_, _, _, _, _, rfl⟩, s3, by rw [rest rfl]; exact hm3⟩
      | sg z t0 =>
        refine ⟨false, rfl, ?_⟩
        refine iteF ?_
        walk_at "rd"
        exact ⟨⟨_, _, _, _, _, rfl⟩, s3, by rw [rest rfl]; exact hm3⟩
      | vr z s0 ats =>
        refine ⟨true, rfl, ?_⟩
        refine iteT ?_
        walk_at "rd"
        obtain ⟨v1, v8, w1, w4, _⟩ := hg.vr z s0 ats (List.mem_of_getElem? ei)
        obtain ⟨xx, e0, dv, ta, f1, f2⟩ := pa
        cases e0
        generalize upd H2 T0 (.tup [.int (i : Nat), V.ref x0]) = HH at s3 hm3 hx3
        have f1' := s3 _ _ f1
        have f2' := s3 _ _ f2
        have small : s0.toNat ≤ 8 := by omega
        have prod : ∀ j : Nat, j ≤ ats.length → j * s0.toNat ≤ 32 := fun j hj => Nat.le_trans (Nat.mul_le_mul (Nat.le_trans hj w4) small) (by decide)
        unfold tLc2
        dsimp only
        refine Lay.rd_iTup ?_
        refine Lay.rd_tFld ?_
        walk_at "rd"
        refine ⟨x0, _, dv, _, .ref ta, rfl, f1', T.cl_Variable, T.na_Variable_at, by rfl, ?_⟩
        walk_at "rd"
        refine ⟨⟨_, SqT.of f2'⟩, ?_⟩
        intro L hL
        refine NetL.turns (walk_tup (xs := ats.map V.int)) (fun j H' => H' L = some (.lst (((ats.take j).flatMap (NetL.row s0.toNat)).map V.int)) ∧ L2.Same HH H') ⟨upd_same, Lay.Same.upd hL⟩ (fun j H' _ z => SqT.of (z.2 _ _ f2')) ?_ ?_
        · rintro j y H4 H5 hj ⟨r1, r2⟩ ⟨rfl, ej⟩
          have hj' : j < ats.length := by simpa using hj
          obtain ⟨n0, en, rfl⟩ : ∃ n0, ats[j]? = some n0 ∧ y = V.int n0 := by
            rw [List.getElem?_map, List.getElem?_eq_getElem hj'] at ej
            exact ⟨_, List.getElem?_eq_getElem hj', (Option.some.inj ej).symm⟩
          walk_at "rd"
          refine ⟨rfl, ?_⟩
          walk_at "it"
          refine Lay.rd_tFld ?_
          walk_at "rd"
          refine ⟨x0, _, dv, _, .int s0, rfl, r2 _ _ f1', T.cl_Variable, T.na_Variable_size, by rfl, ?_⟩
          walk_at "rd"
          refine ⟨s0, rfl, by omega, by omega, ?_⟩
          refine NetL.turns (walk_range (lo := 0) (n := s0.toNat)) (fun m H' => H' L = some (.lst (((ats.take j).flatMap (NetL.row s0.toNat) ++ NetL.row m n0).map V.int)) ∧ L2.Same HH H') ⟨by rw [r1]; simp [NetL.row], r2⟩ (fun _ _ _ _ => trivial) ?_ ?_
          · rintro m y H6 H7 hmm ⟨q1, q2⟩ hy
            obtain ⟨rfl, rfl⟩ := hy
            walk_at "rd"
            refine ⟨rfl, ?_⟩
            walk_at "it"
            have b1 := prod j (by omega)
            refine ⟨_, q1, ?_, ?_, ?_⟩
            · rw [List.length_map, List.length_append, NetL.rows_len, NetL.row_len, List.length_take]
              have b2 := prod (min j ats.length) (by omega)
              refine Nat.lt_of_le_of_lt (show _ ≤ 40 by omega) (by decide)
            · rw [upd_same, NetL.row_succ]
              simp only [List.map_append, List.append_assoc, List.map_cons, List.map_nil, Int.zero_add]
            · exact fun b o hb => by
                rw [upd_ne (fun y => by subst y; rw [hL] at hb; cases hb)]
                exact q2 b o hb
          · rintro H6 ⟨q1, q2⟩
            exact ⟨by rw [q1, NetL.rows_succ en], q2⟩
        · rintro H4 ⟨r1, r2⟩
          rw [List.take_of_length_le (by simp), ← NetL.bytes_vr z s0 ats] at r1
          have e32 : (NetL.It.vr z s0 ats).bytes.length ≤ 32 := by rw [NetL.bytes_vr, NetL.rows_len]; exact prod _ (Nat.le_refl _)
          have new : ∀ (j : Nat) (a : Int), (NetL.It.vr z s0 ats).bytes[j]? = some a → a ∉ (its.take i).flatMap NetL.It.bytes ++ (NetL.It.vr z s0 ats).bytes.take j := fun j a h => NetL.byte_new hg.by_ ei h
          have total : ((its.take i).flatMap NetL.It.bytes ++ (NetL.It.vr z s0 ats).bytes).length ≤ 512 := by
            rw [← NetL.take_flat ei]
            refine Nat.le_trans (List.Sublist.length_le ?_) (show (its.flatMap NetL.It.bytes).length ≤ 512 by omega)
            conv => rhs; rw [← List.take_append_drop (i + 1) its, List.flatMap_append]
            exact List.sublist_append_left _ _
          have atb : ∀ (j : Nat) (y : V), ((NetL.It.vr z s0 ats).bytes.map V.int)[j]? = some y → ∃ a : Int, (NetL.It.vr z s0 ats).bytes[j]? = some a ∧ y = V.int a := by
            intro j y h
            rw [List.getElem?_map] at h
            cases e : (NetL.It.vr z s0 ats).bytes[j]? with
            | none => rw [e] at h; cases h
            | some a => rw [e] at h; cases h; exact ⟨a, rfl, rfl⟩
          have S4 := s3.trans r2
          have hm4 := r2 _ _ hm3
          have hLD : L ≠ D := fun e => by subst e; rw [hm3] at hL; cases hL
          have fin := NetL.take_flat ei
          generalize (NetL.It.vr z s0 ats).bytes = bs at r1 e32 new total atb fin
          generalize (its.take i).flatMap NetL.It.bytes = pre at hm4 new total fin
          walk_at "rd"
          refine ⟨⟨_, SqL.of r1⟩, ?_⟩
          intro M hM
          refine Lay.lc_go (walk_list (xs := bs.map V.int)) (fun j l H' => L2.Same H4 H' ∧ l = (List.replicate j false).map V.bl) ⟨Lay.Same.upd hM, rfl⟩ (fun j l H' _ r => SqL.of (r.1 _ _ r1)) ?_ ?_
          · rintro j l y H5 H6 hj hl5 hz5 ⟨g1, g2⟩ ⟨rfl, ej⟩
            obtain ⟨a1, ea, rfl⟩ := atb j y ej
            walk_at "rd"
            refine ⟨rfl, ?_⟩
            walk_at "it"
            refine NetL.rd_dIn ?_
            walk_at "rd"
            refine ⟨D, _, rfl, DGet.k (k := .inl a1) (g1 _ _ hm4), ?_⟩
            rw [NetL.marks_no fun m => new j a1 ea (List.mem_append_left _ m)]
            refine Lay.lc_put hl5 hz5 (by have : j < bs.length := by simpa using hj
                                          omega) ⟨fun b o hb => ?_, ?_⟩
            · rw [upd_ne (fun y => by subst y; rw [hM] at hb; cases hb)]
              exact g1 b o hb
            · rw [g2, List.replicate_succ', List.map_append]
              rfl
          · rintro l H5 hl5 hz5 ⟨g1, rfl⟩
            walk_at "rd"
            refine Lay.rd_anys (SqL.of hl5) ?_
            have no : (List.replicate (bs.map V.int).length false).any id = false := by
              rw [List.any_eq_false]
              intro b m
              rw [List.eq_of_mem_replicate m]
              decide
            rw [no]
            walk_at "it"
            have h5 := g1 _ _ r1
            refine Lay.rd_forW (J := Itl K L) (H1 := H5) (fun R r => ?_) (walk_list (xs := bs.map V.int)) (fun j σ' H' => (∃ b1 b2 b3 b4 b5, σ' = [some (V.ref t), some (V.ref D), b1, b2, b3, b4, b5]) ∧ L2.Same H H' ∧ H' D = some (.dK (NetL.marks (pre ++ bs.take j))) ∧ H' L = some (.lst (bs.map V.int))) ⟨⟨_, _, _, _, _, rfl⟩, S4.trans g1, by rw [List.take_zero, List.append_nil]; exact g1 _ _ hm4, h5⟩ (fun j σ' H' _ z => SqL.of z.2.2.2) ?_ ?_
            · refine Lay.rd_iList ?_
              walk_at "rd"
              exact ⟨⟨_, SqL.of h5⟩, r⟩
            · rintro j y σ' H6 H7 hj ⟨⟨b1, b2, b3, b4, b5, rfl⟩, g3, g4, g5⟩ ⟨rfl, ej⟩
              obtain ⟨a1, ea, rfl⟩ := atb j y ej
              have hj' : j < bs.length := by simpa using hj
              walk_at "rd"
              refine NetL.rd_dPut ?_
              walk_at "rd"
              refine ⟨D, _, rfl, DPut.k (k := .inl a1) g4 ?_, ?_⟩
              · unfold NetL.marks
                rw [List.length_map, List.length_append, List.length_take]
                rw [List.length_append] at total
                exact Nat.lt_of_le_of_lt (show _ ≤ 512 by omega) (by decide)
              · refine ⟨⟨_, _, _, _, _, rfl⟩, keepD g3, ?_, by rw [upd_ne hLD]; exact g5⟩
                rw [upd_same, NetL.marks_put (new j a1 ea), Lay.take_succ ea, List.append_assoc]
            · rintro σ' H6 ⟨⟨b1, b2, b3, b4, b5, rfl⟩, g3, g4, g5⟩
              rw [List.length_map, List.take_length] at g4
              exact ⟨⟨_, _, _, _, _, rfl⟩, g3, by rw [fin]; exact g4⟩
    · rintro σ' H2 ⟨⟨a, b, c, d, e, rfl⟩, s2, hm⟩
      exact q H2 s2
theorem ok_concerns_signal (T : Txt K mg A) : FnOk P w K mg base CX0 1 A.a_concerns_signal A.d_concerns_signal ["step"] NetL.spCon := by
  refine T.F_concerns_signal.ok sc_concerns_signal (fun vs H Q E h => ?_) (fun cdv A0 outer s H vs Q E hr h => ?_)
  · obtain ⟨p, l, rfl, _⟩ := h
    rfl
  · obtain ⟨p, l, rfl, hp, hl, q⟩ := h
    refine ⟨_, (pss_one (ps_ret (pe_cmpR op_eq (pe_callB Lay.call_lenS (by rfl) T.n_len PySem.boot_len (pa_cons (pv 0) pa_nil)) pe_int (nomark _)))), ?_⟩
    walk_at "in"
    walk_at "rd"
    have e : decide ((l.length : Int) = 2) = decide (l.length = 2) := by
      by_cases h : l.length = 2
      · rw [decide_eq_true h, decide_eq_true (by omega)]
      · rw [decide_eq_false h, decide_eq_false (by omega)]
    rw [e]
    exact q
theorem ok_check_steps (T : Txt K mg A) (G_concerns_signal : FnOk P w K mg base CX0 1 A.a_concerns_signal A.d_concerns_signal ["step"] NetL.spCon) : FnOk P w K mg base CX0 2 A.a_check_steps A.d_check_steps ["parts", "agents"] (NetL.spChkA K (cs A)) := by
  refine T.F_check_steps.ok sc_check_steps (fun vs H Q E h => ?_) (fun cdv A0 outer s H vs Q E hr h => ?_)
  · obtain ⟨t, a, ps, as, its, ring, rfl, _⟩ := h
    rfl
  · obtain ⟨t, al, ps, as, its, ring, rfl, ht, ha, hp, hpa, hg, hl, q⟩ := h
    have C := nc T
    have hlen := hp.length
    refine ⟨_, (pss_cons (NetL.ps_setDc (i := 2) (own := [("part", 3)]) (g := gName 3) rfl sc_check_steps.nd rfl rfl (NetL.sw_dict rfl rfl rfl (by decide +kernel)) (pi_tup (pv 0)) (blkOk_by (own := [("part", 3)]) (N := ["parts", "agents", "sizes", "part", "signals", "a", "agent", "s", "step", "name", "fits"]) (sc := defScope s_check_steps) (by decide +kernel)) (fun _ _ _ _ _ => pg_name (i := 3) sc_check_steps.nd rfl (Or.inl rfl)) (fun _ _ _ _ _ => pts_one (pt_val (pe_callB (r := rIsi K) call_isi (by rfl) T.n_isinstance (by decide +kernel) (pa_cons (pv 3) (pa_cons (pe_glob (v := .ref A.c_Variable) rfl T.g_Variable rfl) pa_nil))))) (fun _ _ _ _ _ => (show PE _ _ (tFld K (tVar 3) "name") from pe_fld (pv 3) rfl)) (fun _ _ _ _ _ => (show PE _ _ (tFld K (tVar 3) "size") from pe_fld (pv 3) rfl)))
    (pss_cons (ps_setLc (i := 4) (own := [("part", 3)]) (g := gName 3) rfl sc_check_steps.nd rfl rfl (sw_true rfl rfl rfl (by decide +kernel)) (pi_tup (pv 0)) (blkOk_by (own := [("part", 3)]) (N := ["parts", "agents", "sizes", "part", "signals", "a", "agent", "s", "step", "name", "fits"]) (sc := defScope s_check_steps) (by decide +kernel)) (fun _ _ _ _ _ => pg_name (i := 3) sc_check_steps.nd rfl (Or.inl rfl)) (fun _ _ _ _ _ => pts_one (pt_val (pe_callB (r := rIsi K) call_isi (by rfl) T.n_isinstance (by decide +kernel) (pa_cons (pv 3) (pa_cons (pe_glob (v := .ref A.c_Signal) rfl T.g_Signal rfl) pa_nil))))) (fun _ _ _ _ _ => by exact (show PE _ _ (tFld K (tVar 3) "name") from pe_fld (pv 3) rfl)))
    (pss_one (ps_for PassesOwn.never rfl (pi_enum (by rfl) T.n_enumerate (pa_cons (pv 1) pa_nil)) (pg_tup (by rfl) (pgs_cons (pg_name (i := 5) sc_check_steps.nd rfl (Or.inl rfl)) (pgs_cons (pg_name (i := 6) sc_check_steps.nd rfl (Or.inl rfl)) pgs_nil)))
      (pss_one (ps_for PassesOwn.never rfl (Lay.pi_enumT (by rfl) T.n_enumerate (pa_cons (pe_fld (pv 6) rfl) pa_nil)) (pg_tup (by rfl) (pgs_cons (pg_name (i := 7) sc_check_steps.nd rfl (Or.inl rfl)) (pgs_cons (pg_name (i := 8) sc_check_steps.nd rfl (Or.inl rfl)) pgs_nil)))
        (pss_cons (ps_set (i := 9) sc_check_steps.nd rfl (Or.inl rfl) (pe_ix ix_tup (pv 8) pe_int (fun _ _ => rfl)))
        (pss_cons (ps_if (pt_val (pe_call G_concerns_signal (hr.mono (by decide)) rfl T.g_concerns_signal T.F_concerns_signal.kp T.b_concerns_signal .nil pass0 (pa_cons (pv 8) pa_nil)))
          (pss_one (ps_set (i := 10) sc_check_steps.nd rfl (Or.inl rfl) (pe_cmpR (Lay.op_inS hr.units) (pv 9) (pv 4) rfl)))
          (pss_one (ps_set (i := 10) sc_check_steps.nd rfl (Or.inl rfl) (pe_and (pe_cmp (pc_din (Nat.lt_of_le_of_lt (Nat.add_le_add_left (show 1 ≤ 64 by decide) _) hr.units) (pv 9) (pv 2)) (by rfl)) (pe_one (pe_cmpR op_lt (pe_ix ix_tup (pv 8) pe_int (fun _ _ => rfl)) (pe_dget (Nat.lt_of_le_of_lt (Nat.add_le_add_left (show 1 ≤ 64 by decide) _) hr.units) (pv 2) (pv 9) (fun _ _ => rfl)) (nomark _)))))))
        (pss_one (ps_if (pt_not (pt_val (pv 10)))
          (pss_one ps_never)
          pss_nil)))))))))), ?_⟩
    walk_at "in"
    walk_at "rd"
    unfold tDc
    dsimp only
    walk_at "rd"
    refine ⟨⟨_, SqT.of ht⟩, ?_⟩
    intro D hD
    have keepD : ∀ {H1 : Hp} {o : HO}, L2.Same H H1 → L2.Same H (upd H1 D o) := fun s b o hb => by
      rw [upd_ne (fun y => by subst y; rw [hD] at hb; cases hb)]
      exact s b o hb
    refine NetL.turns (walk_tup (xs := ps)) (fun i H' => L2.Same H H' ∧ H' D = some (.dK (NetL.sizes (its.take i)))) ⟨keepD (L2.Same.refl _), upd_same⟩ (fun i H' _ z => SqT.of (z.1 _ _ ht)) ?_ ?_
    · rintro i x H2 H3 hi ⟨r1, r2⟩ ⟨rfl, ey⟩
      obtain ⟨it, ei, pa⟩ := NetL.pget hp ey
      obtain ⟨x0, dx, fs, rfl, hx, hn⟩ := pa.ins
      have hx2 := r1 _ _ hx
      walk_at "rd"
      refine ⟨rfl, ?_⟩
      walk_at "rd"
      refine Lay.rd_isiC (C.ty _ _ dx fs it hx2) (C.kv it) ?_
      cases it with
      | ag z k ls =>
        refine ⟨false, rfl, ?_⟩
        refine iteF ?_
        refine ⟨r1, ?_⟩
        rw [Lay.take_succ ei, NetL.sizes_app]
        show _ = some (HO.dK (_ ++ []))
        rw [List.append_nil]
        exact r2
      | sg z t0 =>
        refine ⟨false, rfl, ?_⟩
        refine iteF ?_
        refine ⟨r1, ?_⟩
        rw [Lay.take_succ ei, NetL.sizes_app]
        show _ = some (HO.dK (_ ++ []))
        rw [List.append_nil]
        exact r2
      | vr z s0 ats =>
        refine ⟨true, rfl, ?_⟩
        refine iteT ?_
        obtain ⟨xx, e0, dv, ta, f1, f2⟩ := pa
        cases e0
        have f1' := r1 _ _ f1
        refine Lay.rd_tFld ?_
        walk_at "rd"
        refine ⟨x0, _, dv, _, .str z, rfl, f1', T.cl_Variable, T.na_Variable_name, by rfl, ?_⟩
        refine Lay.rd_tFld ?_
        walk_at "rd"
        refine ⟨x0, _, dv, _, .int s0, rfl, f1', T.cl_Variable, T.na_Variable_size, by rfl, ?_⟩
        refine ⟨_, .inr z, rfl, r2, ?_, keepD r1, ?_⟩
        · exact Nat.lt_of_le_of_lt (Nat.le_trans (NetL.sizes_len _) (show _ ≤ 16 by rw [List.length_take]; omega)) (by decide)
        · have no : z ∉ (its.take i).map NetL.It.nm := by
            rw [List.map_take]
            exact NetL.not_take hg.nd (by rw [List.getElem?_map, ei]; rfl)
          rw [upd_same, NetL.sizes_put (ats := ats) no, Lay.take_succ ei]
    · rintro H2 ⟨r1, r2⟩
      rw [List.take_of_length_le (by omega)] at r2
      walk_at "rd"
      refine ⟨⟨_, SqT.of (r1 _ _ ht)⟩, ?_⟩
      intro M hM
      have hMD : M ≠ D := Lay.ne_none hM r2
      refine Lay.lc_go (walk_tup (xs := ps)) (fun i l H' => L2.Same H2 H' ∧ l = (NetL.sigs (its.take i)).map V.str) ⟨Lay.Same.upd hM, rfl⟩ (fun i l H' _ r => SqT.of (r.1 _ _ (r1 _ _ ht))) ?_ ?_
      · rintro i l x H3 H4 hi hl' hz' ⟨q1, q2⟩ ⟨rfl, ey⟩
        obtain ⟨it, ei, pa⟩ := NetL.pget hp ey
        obtain ⟨x0, dx, fs, rfl, hx, hn⟩ := pa.ins
        have hx3 := q1 _ _ (r1 _ _ hx)
        have fs1 := NetL.filt_succ (p := NetL.It.isS) ei
        walk_at "rd"
        refine ⟨rfl, ?_⟩
        walk_at "rd"
        refine Lay.rd_isiC (C.ty _ _ dx fs it hx3) (C.ks it) ?_
        refine ⟨it.isS, rfl, ?_⟩
        by_cases hs : it.isS = true
        · rw [hs] at fs1 ⊢
          refine iteT ?_
          refine Lay.rd_tFld ?_
          walk_at "rd"
          refine ⟨x0, _, dx, fs, .str it.nm, rfl, hx3, C.cl it, C.nn it, hn, ?_⟩
          refine Lay.lc_put hl' hz' (by omega) ⟨fun b o hb => ?_, ?_⟩
          · rw [upd_ne (fun y => by subst y; rw [hM] at hb; cases hb)]
            exact q1 b o hb
          · rw [q2]
            unfold NetL.sigs
            rw [fs1, if_pos rfl, List.map_append, List.map_append]
            rfl
        · rw [Bool.eq_false_iff.mpr hs] at fs1 ⊢
          refine iteF ?_
          refine Lay.lc_skip hl' hz' ⟨q1, ?_⟩
          rw [q2]
          unfold NetL.sigs
          rw [fs1, if_neg (by decide), List.append_nil]
      · rintro l H3 hl3 hz3 ⟨q1, rfl⟩
        rw [List.take_of_length_le (by omega)] at hl3
        have S3 := r1.trans q1
        have hD3 := q1 _ _ r2
        have ha3 := S3 _ _ ha
        walk_at "rd"
        refine Lay.rd_forW (J := Ite K al) (H1 := H3) (fun R r => ?_) (walk_enum (xs := as)) (fun j σ' H' => (∃ b1 b2 b3 b4 b5 b6, σ' = [some (V.ref t), some (V.ref al), some (V.ref D), none, some (V.ref M), b1, b2, b3, b4, b5, b6]) ∧ L2.Same H3 H') ⟨⟨_, _, _, _, _, _, rfl⟩, L2.Same.refl _⟩ (fun j σ' H' _ z => SqL.of (z.2 _ _ ha3)) ?_ ?_
        · refine NetL.rd_iEnum ?_
          walk_at "rd"
          exact ⟨al, _, rfl, SqL.of ha3, r⟩
        · rintro j x σ' H5 H6 hj ⟨⟨b1, b2, b3, b4, b5, b6, rfl⟩, s5⟩ ⟨T0, x1, y1, rfl, hT, rfl, ex, ey⟩
          cases ex
          obtain ⟨it, ei, pa⟩ := NetL.pget hpa ey
          obtain ⟨im, ia⟩ := List.mem_filter.mp (List.mem_of_getElem? ei)
          cases it with
          | vr z s0 ats => cases ia
          | sg z t0 => cases ia
          | ag z k ls =>
            obtain ⟨x0, e0, dx, t1, xs1, g1, g2, g3⟩ := pa
            subst e0
            have s6 : L2.Same H3 (upd H5 T0 (.tup [.int (j : Nat), V.ref x0])) := s5.trans (Lay.Same.upd hT)
            have g1' := s6 _ _ (S3 _ _ g1)
            have g2' := s6 _ _ (S3 _ _ g2)
            obtain ⟨_, _, _, _, hall⟩ := hg.gs z k ls im
            walk_at "rd"
            generalize upd H5 T0 (.tup [.int (j : Nat), V.ref x0]) = H7 at s6 g1' g2'
            refine Lay.rd_forW (J := Lay.Itet K t1) (H1 := H7) (fun R r => ?_) (Lay.walk_enumT (xs := xs1)) (fun m σ' H' => (∃ c1 c2 c3 c4, σ' = [some (V.ref t), some (V.ref al), some (V.ref D), none, some (V.ref M), some (V.int (j : Nat)), some (V.ref x0), c1, c2, c3, c4]) ∧ L2.Same H7 H') ⟨⟨_, _, _, _, rfl⟩, L2.Same.refl _⟩ (fun m σ' H' _ w => SqT.of (w.2 _ _ g2')) ?_ ?_
            · walk_at "rd"
              refine Lay.rd_tFld ?_
              walk_at "rd"
              refine ⟨x0, _, dx, _, .ref t1, rfl, g1', C.cl _, C.as z k ls, by rfl, ?_⟩
              walk_at "rd"
              exact ⟨t1, _, rfl, SqT.of g2', r⟩
            · rintro m x σ' H8 H9 hm ⟨⟨c1, c2, c3, c4, rfl⟩, s8⟩ ⟨T1, x2, y2, rfl, hT1, rfl, ex, ey2⟩
              cases ex
              have hm' : m < ls.length := by rw [← g3.len]; exact hm
              obtain ⟨l, el⟩ : ∃ l, ls[m]? = some l := ⟨_, List.getElem?_eq_getElem hm'⟩
              obtain ⟨p, e1, e2⟩ := g3.get el
              have e3 : some y2 = some (V.ref p) := ey2.symm.trans e1
              cases e3
              obtain ⟨gst, fit⟩ := hall l (List.mem_of_getElem? el)
              have s9 : L2.Same H7 (upd H8 T1 (.tup [.int (m : Nat), V.ref p])) := s8.trans (Lay.Same.upd hT1)
              have S9 := (S3.trans s6).trans s9
              have e2' := S9 _ _ e2
              have hD9 := (s6.trans s9) _ _ hD3
              have hM9 := (s6.trans s9) _ _ hl3
              walk_at "rd"
              generalize upd H8 T1 (.tup [.int (m : Nat), V.ref p]) = HH at s9 e2' hD9 hM9
              rcases gst with ⟨wd, n, rfl, _, _, _⟩ | ⟨wd, n, sh, f, e, rfl, _⟩
              · obtain ⟨tk, fm⟩ := fit
                refine Lay.rd_ixT (SqT.of e2') (v := V.str n) (Lay.atI_int (d := 1) (by decide) rfl) ?_
                walk_at "rd"
                refine ⟨p, _, rfl, e2', (by show 2 ≤ 5; decide), ?_⟩
                refine ⟨true, rfl, ?_⟩
                refine iteT ?_
                walk_at "rd"
                refine Lay.rd_inSL (SqL.of hM9) (.str n) ?_
                have yes : Lay.inStrs (.str n) (NetL.sigs its) = true := List.contains_iff_mem.mpr (NetL.sigs_at fm)
                rw [yes]
                walk_at "it"
                exact ⟨⟨_, _, _, _, rfl⟩, s9⟩
              · obtain ⟨sz, ats, fm, lt⟩ := fit
                have val := NetL.sizes_at hg.nd fm
                refine Lay.rd_ixT (SqT.of e2') (v := V.str n) (Lay.atI_int (d := 1) (by decide) rfl) ?_
                walk_at "rd"
                refine ⟨p, _, rfl, e2', (by show 5 ≤ 5; decide), ?_⟩
                refine ⟨false, rfl, ?_⟩
                refine iteF ?_
                walk_at "rd"
                refine NetL.rd_dIn ?_
                walk_at "rd"
                refine ⟨D, _, rfl, DGet.k (k := .inr n) hD9, ?_⟩
                rw [val]
                refine ⟨true, rfl, ?_⟩
                refine iteT ?_
                walk_at "rd"
                refine NetL.rd_dGet ?_
                walk_at "rd"
                refine ⟨D, .int sz, rfl, (by have z := DGet.k (k := .inr n) hD9; rwa [val] at z), ?_⟩
                walk_at "rd"
                rw [decide_eq_true lt]
                walk_at "it"
                exact ⟨⟨_, _, _, _, rfl⟩, s9⟩
            · rintro σ' H8 ⟨⟨c1, c2, c3, c4, rfl⟩, s8⟩
              exact ⟨⟨_, _, _, _, _, _, rfl⟩, s6.trans s8⟩
        · rintro σ' H5 ⟨⟨b1, b2, b3, b4, b5, b6, rfl⟩, s5⟩
          exact q H5 (S3.trans s5)
theorem ok_check_signals (T : Txt K mg A) : FnOk P w K mg base CX0 2 A.a_check_signals A.d_check_signals ["parts", "agents"] (NetL.spChkA K (cs A)) := by
  refine T.F_check_signals.ok sc_check_signals (fun vs H Q E h => ?_) (fun cdv A0 outer s H vs Q E hr h => ?_)
  · obtain ⟨t, a, ps, as, its, ring, rfl, _⟩ := h
    rfl
  · obtain ⟨t, al, ps, as, its, ring, rfl, ht, ha, hp, hpa, hg, hl, q⟩ := h
    have C := nc T
    have hlen := hp.length
    have alen := hpa.length
    have ma := hg.ma
    refine ⟨_, (pss_cons (ps_setLc2 (i := 2) (own := [("agent", 3), ("step", 4)]) (vs1 := [4]) (g := gName 3) (g1 := gName 4) (tt := tYes) (tt1 := tYes) rfl sc_check_signals.nd rfl rfl (sw_true rfl rfl rfl (by decide +kernel)) (pi_list (pv 1)) (blkOk_by (own := [("agent", 3), ("step", 4)]) (N := ["parts", "agents", "steps", "agent", "step", "k", "part", "posts", "waits"]) (sc := defScope s_check_signals) (by decide +kernel)) (by decide) (fun _ _ _ _ _ => pg_name (i := 3) sc_check_signals.nd rfl (Or.inl rfl)) (fun _ _ _ _ _ => pts_nil) (fun _ _ _ _ _ => (show PI _ _ _ (iTup K (tFld K (tVar 3) "steps")) from pi_tup (show PE _ _ (tFld K (tVar 3) "steps") from pe_fld (pv 3) rfl))) (fun _ _ _ _ _ => pg_name (i := 4) sc_check_signals.nd rfl (Or.inl rfl)) (fun _ _ _ _ _ => pts_nil) (fun _ _ _ _ _ => (pv 4)))
    (pss_one (ps_for PassesOwn.never rfl (Lay.pi_enumT (by rfl) T.n_enumerate (pa_cons (pv 0) pa_nil)) (pg_tup (by rfl) (pgs_cons (pg_name (i := 5) sc_check_signals.nd rfl (Or.inl rfl)) (pgs_cons (pg_name (i := 6) sc_check_signals.nd rfl (Or.inl rfl)) pgs_nil)))
      (pss_one (ps_if (pt_val (pe_callB call_isi (by rfl) T.n_isinstance (by decide +kernel) (pa_cons (pv 6) (pa_cons (pe_glob (v := .ref A.c_Signal) rfl T.g_Signal rfl) pa_nil))))
        (pss_cons (ps_set (i := 7) sc_check_signals.nd rfl (Or.inl rfl) (pe_bm PySem.F.plainAttrs_list PySem.F.slot_list_count PySem.F.type_list_count (NetL.mt_cntD (NetL.u65 hr)) (pv 2) (pa_cons (pe_tup (pa_cons pe_str (pa_cons (pe_fld (pv 6) rfl) pa_nil))) pa_nil)))
        (pss_cons (ps_set (i := 8) sc_check_signals.nd rfl (Or.inl rfl) (pe_bm PySem.F.plainAttrs_list PySem.F.slot_list_count PySem.F.type_list_count (NetL.mt_cntD (NetL.u65 hr)) (pv 2) (pa_cons (pe_tup (pa_cons pe_str (pa_cons (pe_fld (pv 6) rfl) pa_nil))) pa_nil)))
        (pss_one (ps_if (PW.pt (pw_or (pt_cmpR op_ne (pv 7) pe_int (nomark _)) (pw_or1 (pt_cmpR op_ne (pv 8) pe_int (nomark _)))))
          (pss_one ps_never)
          pss_nil))))
        pss_nil))))), ?_⟩
    walk_at "in"
    walk_at "rd"
    unfold tLc2
    dsimp only
    walk_at "rd"
    refine ⟨⟨_, SqL.of ha⟩, ?_⟩
    intro L hL0
    have bound : ∀ j : Nat, (((its.filter NetL.It.isA).take j).flatMap NetL.It.ls).length ≤ 96 := by
      intro j
      refine Nat.le_trans (NetL.ls_len fun it m => ?_) (show 24 * ((its.filter NetL.It.isA).take j).length ≤ 96 by rw [List.length_take]; omega)
      cases it with
      | ag z k ls => exact (hg.gs z k ls (List.mem_filter.mp (List.mem_of_mem_take m)).1).2.2.2.1
      | _ => exact Nat.zero_le _
    refine NetL.turns (walk_list (xs := as)) (fun j H' => L2.Same H H' ∧ ∃ xs, H' L = some (.lst xs) ∧ Lay.RowsAt H' xs (((its.filter NetL.It.isA).take j).flatMap NetL.It.ls)) ⟨Lay.Same.upd hL0, [], upd_same, .nil⟩ (fun j H' _ z => SqL.of (z.1 _ _ ha)) ?_ ?_
    · rintro j x H2 H3 hj ⟨r1, xs, r2, r3⟩ ⟨rfl, ey⟩
      obtain ⟨it, ei, pa⟩ := NetL.pget hpa ey
      obtain ⟨im, ia⟩ := List.mem_filter.mp (List.mem_of_getElem? ei)
      cases it with
      | vr z s0 ats => cases ia
      | sg z t0 => cases ia
      | ag z k ls =>
        obtain ⟨x0, e0, dx, t1, xs1, g1, g2, g3⟩ := pa
        subst e0
        have g1' := r1 _ _ g1
        have g2' := r1 _ _ g2
        have more : ((its.filter NetL.It.isA).take (j + 1)).flatMap NetL.It.ls = ((its.filter NetL.It.isA).take j).flatMap NetL.It.ls ++ ls := by
          rw [Lay.take_succ ei, List.flatMap_append, List.flatMap_cons, List.flatMap_nil, List.append_nil]
          rfl
        walk_at "rd"
        refine ⟨rfl, ?_⟩
        walk_at "it"
        refine Lay.rd_tFld ?_
        walk_at "rd"
        refine ⟨x0, _, dx, _, .ref t1, rfl, g1', C.cl _, C.as z k ls, by rfl, ?_⟩
        walk_at "rd"
        refine ⟨⟨_, SqT.of g2'⟩, ?_⟩
        refine NetL.turns (walk_tup (xs := xs1)) (fun m H' => L2.Same H H' ∧ ∃ xs, H' L = some (.lst xs) ∧ Lay.RowsAt H' xs (((its.filter NetL.It.isA).take j).flatMap NetL.It.ls ++ ls.take m)) ⟨r1, xs, r2, by rw [List.take_zero, List.append_nil]; exact r3⟩ (fun m H' _ z => SqT.of (z.1 _ _ g2)) ?_ ?_
        · rintro m y H4 H5 hm ⟨q1, ys, q2, q3⟩ ⟨rfl, ey2⟩
          have hm' : m < ls.length := by rw [← g3.len]; exact hm
          obtain ⟨l, el⟩ : ∃ l, ls[m]? = some l := ⟨_, List.getElem?_eq_getElem hm'⟩
          obtain ⟨p, e1, e2⟩ := g3.get el
          have e3 : some y = some (V.ref p) := ey2.symm.trans e1
          cases e3
          walk_at "rd"
          refine ⟨rfl, ?_⟩
          walk_at "it"
          have keepL : ∀ {o : HO}, L2.Same H (upd H5 L o) := fun b o hb => by
            rw [upd_ne (fun y => by subst y; rw [hL0] at hb; cases hb)]
            exact q1 b o hb
          refine ⟨ys, q2, ?_, keepL, _, upd_same, ?_⟩
          · rw [q3.len]
            refine Nat.lt_of_le_of_lt (show _ ≤ 96 from ?_) (by decide)
            refine Nat.le_trans ?_ (bound (j + 1))
            rw [more, List.length_append, List.length_append, List.length_take]
            omega
          · rw [Lay.take_succ el, ← List.append_assoc]
            have rows5 := q3.keep q2 (Lay.Keep.upd (p := L) (o := .lst (ys ++ [V.ref p])))
            refine rows5.append (.cons ?_ .nil)
            rw [upd_ne (fun y => by subst y; rw [hL0] at e2; cases e2)]
            exact q1 _ _ e2
        · rintro H4 ⟨q1, ys, q2, q3⟩
          refine ⟨q1, ys, q2, ?_⟩
          rw [g3.len, List.take_length] at q3
          rw [more]
          exact q3
    · rintro H2 ⟨r1, xs, hL, hrow⟩
      rw [List.take_of_length_le (by omega), NetL.steps_filt] at hrow
      walk_at "rd"
      refine Lay.rd_forW (J := Lay.Itet K t) (H1 := H2) (fun R r => ?_) (Lay.walk_enumT (xs := ps)) (fun i σ' H' => (∃ b1 b2 b3 b4, σ' = [some (V.ref t), some (V.ref al), some (V.ref L), none, none, b1, b2, b3, b4]) ∧ L2.Same H2 H') ⟨⟨_, _, _, _, rfl⟩, L2.Same.refl _⟩ (fun i σ' H' _ z => SqT.of (z.2 _ _ (r1 _ _ ht))) ?_ ?_
      · walk_at "rd"
        exact ⟨t, _, rfl, SqT.of (r1 _ _ ht), r⟩
      · rintro i x σ' H3 H4 hi ⟨⟨b1, b2, b3, b4, rfl⟩, s3⟩ ⟨T0, x1, y1, rfl, hT, rfl, ex, ey⟩
        cases ex
        obtain ⟨it, ei, pa⟩ := NetL.pget hp ey
        obtain ⟨x0, dx, fs, rfl, hx, hn⟩ := pa.ins
        have s4 : L2.Same H2 (upd H3 T0 (.tup [.int (i : Nat), V.ref x0])) := s3.trans (Lay.Same.upd hT)
        have hx4 := r1 _ _ hx
        walk_at "rd"
        generalize upd H3 T0 (.tup [.int (i : Nat), V.ref x0]) = HH at s4
        refine Lay.rd_isiC (C.ty _ _ dx fs it (s4 _ _ hx4)) (C.ks it) ?_
        cases it with
        | ag z k ls =>
          refine ⟨false, rfl, ?_⟩
          refine iteF ?_
          exact ⟨⟨_, _, _, _, rfl⟩, s4⟩
        | vr z s0 ats =>
          refine ⟨false, rfl, ?_⟩
          refine iteF ?_
          exact ⟨⟨_, _, _, _, rfl⟩, s4⟩
        | sg z tk =>
        refine ⟨true, rfl, ?_⟩
        refine iteT ?_
        obtain ⟨_, _, c1, c2⟩ := hg.sg z tk (List.mem_of_getElem? ei)
        have okz : Lay.nameOk z = true := hg.ok _ (List.mem_of_getElem? ei)
        walk_at "rd"
        refine NetL.rd_cntB ?_
        walk_at "rd"
        refine ⟨Lay.tyV_lst (s4 _ _ hL), ?_⟩
        walk_at "rd"
        refine Lay.rd_tFld ?_
        walk_at "rd"
        refine ⟨x0, _, dx, fs, .str z, rfl, s4 _ _ hx4, C.cl (.sg z tk), C.nn (.sg z tk), hn, ?_⟩
        walk_at "rd"
        refine ⟨(by show 2 ≤ sizeLine; decide), fun p1 hp1 => ?_⟩
        have w1 := s4.trans (Lay.Same.upd (o := .tup [V.str "post", V.str z]) hp1)
        walk_at "rd"
        refine NetL.rd_cnt (SqL.of (w1 _ _ hL)) (hrow.mono w1) (NetL.steps_flat hg) upd_same (NetL.word_flat (by decide +kernel) okz) ?_
        rw [c1]
        walk_at "rd"
        refine NetL.rd_cntB ?_
        walk_at "rd"
        refine ⟨Lay.tyV_lst (w1 _ _ hL), ?_⟩
        walk_at "rd"
        refine Lay.rd_tFld ?_
        walk_at "rd"
        refine ⟨x0, _, dx, fs, .str z, rfl, w1 _ _ hx4, C.cl (.sg z tk), C.nn (.sg z tk), hn, ?_⟩
        walk_at "rd"
        refine ⟨(by show 2 ≤ sizeLine; decide), fun p2 hp2 => ?_⟩
        have w2 := w1.trans (Lay.Same.upd (o := .tup [V.str "wait", V.str z]) hp2)
        walk_at "rd"
        refine NetL.rd_cnt (SqL.of (w2 _ _ hL)) (hrow.mono w2) (NetL.steps_flat hg) upd_same (NetL.word_flat (by decide +kernel) okz) ?_
        rw [c2]
        walk_at "rd"
        refine Lay.ite_n (fun c => absurd rfl c) (fun _ => ?_)
        walk_at "it"
        refine Lay.ite_n (fun c => absurd rfl c) (fun _ => ?_)
        walk_at "it"
        exact ⟨⟨_, _, _, _, rfl⟩, w2⟩
      · rintro σ' H3 ⟨⟨b1, b2, b3, b4, rfl⟩, s3⟩
        exact q H3 (r1.trans s3)
theorem ok_check_parts (T : Txt K mg A) (G_check_many : FnOk P w K mg base CX0 1 A.a_check_many A.d_check_many ["parts"] (NetL.spChk K (cs A))) (G_check_names : FnOk P w K mg base CX0 1 A.a_check_names A.d_check_names ["parts"] (NetL.spChk K (cs A))) (G_check_bytes : FnOk P w K mg base CX0 1 A.a_check_bytes A.d_check_bytes ["parts"] (NetL.spChk K (cs A))) (G_check_steps : FnOk P w K mg base CX0 2 A.a_check_steps A.d_check_steps ["parts", "agents"] (NetL.spChkA K (cs A))) (G_check_signals : FnOk P w K mg base CX0 2 A.a_check_signals A.d_check_signals ["parts", "agents"] (NetL.spChkA K (cs A))) : FnOk P w K mg base CX0 3 A.a_check_parts A.d_check_parts ["parts", "ring"] (NetL.spChkR K (cs A)) := by
  refine T.F_check_parts.ok sc_check_parts (fun vs H Q E h => ?_) (fun cdv A0 outer s H vs Q E hr h => ?_)
  · obtain ⟨t, ps, its, ring, rfl, _⟩ := h
    rfl
  · obtain ⟨t, ps, its, ring, rfl, ht, hp, hg, hl, q⟩ := h
    have C := nc T
    have hlen := hp.length
    refine ⟨_, (pss_cons (ps_for PassesOwn.never rfl (Lay.pi_enumT (by rfl) T.n_enumerate (pa_cons (pv 0) pa_nil)) (pg_tup (by rfl) (pgs_cons (pg_name (i := 2) sc_check_parts.nd rfl (Or.inl rfl)) (pgs_cons (pg_name (i := 3) sc_check_parts.nd rfl (Or.inl rfl)) pgs_nil)))
      (pss_one (ps_if (pt_not (pt_val (pe_callB call_isiT (by rfl) T.n_isinstance (by decide +kernel) (pa_cons (pv 3) (pa_cons (pe_tup (pa_cons (pe_glob (v := .ref A.c_Variable) rfl T.g_Variable rfl) (pa_cons (pe_glob (v := .ref A.c_Signal) rfl T.g_Signal rfl) (pa_cons (pe_glob (v := .ref A.c_Agent) rfl T.g_Agent rfl) pa_nil)))) pa_nil)))))
        (pss_one ps_never)
        pss_nil)))
    (pss_cons (ps_expr (pe_call G_check_many (hr.mono (by decide)) rfl T.g_check_many T.F_check_many.kp T.b_check_many .nil pass0 (pa_cons (pv 0) pa_nil)))
    (pss_cons (ps_expr (pe_call G_check_names (hr.mono (by decide)) rfl T.g_check_names T.F_check_names.kp T.b_check_names .nil pass0 (pa_cons (pv 0) pa_nil)))
    (pss_cons (ps_for PassesOwn.never rfl (Lay.pi_enumT (by rfl) T.n_enumerate (pa_cons (pv 0) pa_nil)) (pg_tup (by rfl) (pgs_cons (pg_name (i := 2) sc_check_parts.nd rfl (Or.inl rfl)) (pgs_cons (pg_name (i := 3) sc_check_parts.nd rfl (Or.inl rfl)) pgs_nil)))
      (pss_one (ps_if (PW.pt (pw_and (pt_val (pe_callB call_isi (by rfl) T.n_isinstance (by decide +kernel) (pa_cons (pv 3) (pa_cons (pe_glob (v := .ref A.c_Variable) rfl T.g_Variable rfl) pa_nil)))) (pw_and1 (pt_cmpR op_notIn_seq (pe_callB Lay.call_lenS (by rfl) T.n_len PySem.boot_len (pa_cons (pe_fld (pv 3) rfl) pa_nil)) (pe_tup (pa_cons pe_int (pa_cons (pv 1) pa_nil))) rfl))))
        (pss_one ps_never)
        pss_nil)))
    (pss_cons (ps_expr (pe_call G_check_bytes (hr.mono (by decide)) rfl T.g_check_bytes T.F_check_bytes.kp T.b_check_bytes .nil pass0 (pa_cons (pv 0) pa_nil)))
    (pss_cons (ps_setLc (i := 4) (own := [("part", 3)]) (g := gName 3) rfl sc_check_parts.nd rfl rfl (sw_true rfl rfl rfl (by decide +kernel)) (pi_tup (pv 0)) (blkOk_by (own := [("part", 3)]) (N := ["parts", "ring", "k", "part", "agents"]) (sc := defScope s_check_parts) (by decide +kernel)) (fun _ _ _ _ _ => pg_name (i := 3) sc_check_parts.nd rfl (Or.inl rfl)) (fun _ _ _ _ _ => pts_one (pt_val (pe_callB (r := rIsi K) call_isi (by rfl) T.n_isinstance (by decide +kernel) (pa_cons (pv 3) (pa_cons (pe_glob (v := .ref A.c_Agent) rfl T.g_Agent rfl) pa_nil))))) (fun _ _ _ _ _ => by exact (pv 3)))
    (pss_cons (ps_expr (pe_call G_check_steps (hr.mono (by decide)) rfl T.g_check_steps T.F_check_steps.kp T.b_check_steps .nil pass0 (pa_cons (pv 0) (pa_cons (pv 4) pa_nil))))
    (pss_one (ps_expr (pe_call G_check_signals (hr.mono (by decide)) rfl T.g_check_signals T.F_check_signals.kp T.b_check_signals .nil pass0 (pa_cons (pv 0) (pa_cons (pv 4) pa_nil)))))))))))), ?_⟩
    walk_at "in"
    walk_at "rd"
    refine Lay.rd_forW (J := Lay.Itet K t) (H1 := H) (fun R r => ?_) (Lay.walk_enumT (xs := ps)) (fun i σ' H' => (∃ a b, σ' = [some (V.ref t), some (V.int ring), a, b, none]) ∧ L2.Same H H') ⟨⟨_, _, rfl⟩, L2.Same.refl _⟩ (fun i σ' H' _ z => SqT.of (z.2 _ _ ht)) ?_ ?_
    · walk_at "rd"
      exact ⟨t, _, rfl, SqT.of ht, r⟩
    · rintro i x σ' H2 H3 hi ⟨⟨a, b, rfl⟩, s2⟩ ⟨T0, x1, y1, rfl, hT, rfl, ex, ey⟩
      cases ex
      obtain ⟨it, ei, pa⟩ := NetL.pget hp ey
      obtain ⟨x0, dx, fs, rfl, hx, hn⟩ := pa.ins
      have s3 : L2.Same H (upd H2 T0 (.tup [.int (i : Nat), V.ref x0])) := s2.trans (Lay.Same.upd hT)
      walk_at "rd"
      generalize upd H2 T0 (.tup [.int (i : Nat), V.ref x0]) = HH at s3
      refine ⟨(by show 3 ≤ sizeLine; decide), fun u hu => ?_⟩
      have s4 := s3.trans (Lay.Same.upd (o := .tup [V.ref A.c_Variable, V.ref A.c_Signal, V.ref A.c_Agent]) hu)
      walk_at "rd"
      refine NetL.rd_isiT true upd_same (.cons (.own _) (.cons (.own _) (.cons (.own _) .nil))) (C.ty _ _ dx fs it (s4 _ _ hx)) (NetL.kit3 (C.kv it) (C.ks it) (C.ka it) (by cases it <;> rfl)) ?_
      walk_at "it"
      exact ⟨⟨_, _, rfl⟩, s4⟩
    · rintro σ' H2 ⟨⟨a, b, rfl⟩, s2⟩
      walk_at "rd"
      refine ⟨t, ps, its, ring, rfl, s2 _ _ ht, hp.mono s2, hg, hl, fun H3 s3 => ?_⟩
      walk_at "rd"
      have S3 := s2.trans s3
      refine ⟨t, ps, its, ring, rfl, S3 _ _ ht, hp.mono S3, hg, hl, fun H4 s4 => ?_⟩
      have S4 := S3.trans s4
      walk_at "rd"
      refine Lay.rd_forW (J := Lay.Itet K t) (H1 := H4) (fun R r => ?_) (Lay.walk_enumT (xs := ps)) (fun i σ' H' => (∃ a b, σ' = [some (V.ref t), some (V.int ring), a, b, none]) ∧ L2.Same H4 H') ⟨⟨_, _, rfl⟩, L2.Same.refl _⟩ (fun i σ' H' _ z => SqT.of (z.2 _ _ (S4 _ _ ht))) ?_ ?_
      · walk_at "rd"
        exact ⟨t, _, rfl, SqT.of (S4 _ _ ht), r⟩
      · rintro i x σ' H5 H6 hi ⟨⟨a, b, rfl⟩, s5⟩ ⟨T0, x1, y1, rfl, hT, rfl, ex, ey⟩
        cases ex
        obtain ⟨it, ei, pa⟩ := NetL.pget hp ey
        obtain ⟨x0, dx, fs, rfl, hx, hn⟩ := pa.ins
        have s6 : L2.Same H4 (upd H5 T0 (.tup [.int (i : Nat), V.ref x0])) := s5.trans (Lay.Same.upd hT)
        walk_at "rd"
        generalize upd H5 T0 (.tup [.int (i : Nat), V.ref x0]) = HH at s6
        have S6 := S4.trans s6
        refine Lay.rd_isiC (C.ty _ _ dx fs it (S6 _ _ hx)) (C.kv it) ?_
        cases it with
        | ag z k ls =>
          refine ⟨false, rfl, ?_⟩
          refine iteF ?_
          walk_at "it"
          exact ⟨⟨_, _, rfl⟩, s6⟩
        | sg z tk =>
          refine ⟨false, rfl, ?_⟩
          refine iteF ?_
          walk_at "it"
          exact ⟨⟨_, _, rfl⟩, s6⟩
        | vr z s0 ats =>
        refine ⟨true, rfl, ?_⟩
        refine iteT ?_
        obtain ⟨xx, e0, dv, ta, f1, f2⟩ := pa
        cases e0
        obtain ⟨_, _, w1, w4, sl⟩ := hg.vr z s0 ats (List.mem_of_getElem? ei)
        walk_at "rd"
        refine Lay.rd_tFld ?_
        walk_at "rd"
        refine ⟨x0, _, dv, _, .ref ta, rfl, S6 _ _ f1, T.cl_Variable, T.na_Variable_at, by rfl, ?_⟩
        walk_at "rd"
        refine Lay.rd_lenT (SqT.of (S6 _ _ f2)) ?_
        walk_at "rd"
        refine ⟨(by show 2 ≤ sizeLine; decide), fun u hu => ?_⟩
        have s7 := s6.trans (Lay.Same.upd (o := .tup [V.int 1, V.int ring]) hu)
        walk_at "rd"
        refine Lay.rd_notInI (ns := [1, ring]) (SqT.of upd_same) ?_
        have inn : decide (((ats.map V.int).length : Int) ∈ ([1, ring] : List Int)) = true := by
          rw [List.length_map]
          refine decide_eq_true ?_
          rcases sl with e | e
          · rw [e]; exact List.mem_cons_self
          · rw [e]; exact List.mem_cons_of_mem _ List.mem_cons_self
        rw [inn]
        walk_at "it"
        exact ⟨⟨_, _, rfl⟩, s7⟩
      · rintro σ' H5 ⟨⟨a, b, rfl⟩, s5⟩
        have S5 := S4.trans s5
        walk_at "rd"
        refine ⟨t, ps, its, ring, rfl, S5 _ _ ht, hp.mono S5, hg, hl, fun H6 s6 => ?_⟩
        have S6 := S5.trans s6
        walk_at "rd"
        refine ⟨⟨_, SqT.of (S6 _ _ ht)⟩, ?_⟩
        intro M hM
        refine Lay.lc_go (walk_tup (xs := ps)) (fun i l H' => L2.Same H6 H' ∧ NetL.PartsAt (cs A) H6 l ((its.take i).filter NetL.It.isA)) ⟨Lay.Same.upd hM, .nil⟩ (fun i l H' _ r => SqT.of (r.1 _ _ (S6 _ _ ht))) ?_ ?_
        · rintro i l x H7 H8 hi hl' hz' ⟨q1, q2⟩ ⟨rfl, ey⟩
          obtain ⟨it, ei, pa⟩ := NetL.pget hp ey
          obtain ⟨x0, dx, fs, rfl, hx, hn⟩ := pa.ins
          have S8 := S6.trans q1
          have fs1 := NetL.filt_succ (p := NetL.It.isA) ei
          walk_at "rd"
          refine ⟨rfl, ?_⟩
          walk_at "rd"
          refine Lay.rd_isiC (C.ty _ _ dx fs it (S8 _ _ hx)) (C.ka it) ?_
          refine ⟨it.isA, rfl, ?_⟩
          by_cases hs : it.isA = true
          · rw [hs] at fs1 ⊢
            refine iteT ?_
            walk_at "rd"
            have keepM : ∀ {o : HO}, L2.Same H6 (upd H8 M o) := fun b o hb => by
              rw [upd_ne (fun y => by subst y; rw [hM] at hb; cases hb)]
              exact q1 b o hb
            refine Lay.lc_put hl' hz' (by omega) ⟨keepM, ?_⟩
            rw [fs1, if_pos rfl]
            exact NetL.parts_snoc q2 (pa.mono S6)
          · rw [Bool.eq_false_iff.mpr hs] at fs1 ⊢
            refine iteF ?_
            refine Lay.lc_skip hl' hz' ⟨q1, ?_⟩
            rw [fs1, if_neg (by decide), List.append_nil]
            exact q2
        · rintro l H7 hl7 hz7 ⟨q1, q2⟩
          rw [List.take_of_length_le (by omega)] at q2
          have S7 := S6.trans q1
          walk_at "rd"
          refine ⟨t, M, ps, l, its, ring, rfl, S7 _ _ ht, hl7, hp.mono S7, q2.mono q1, hg, hl, fun H8 s8 => ?_⟩
          have S8 := S7.trans s8
          walk_at "rd"
          refine ⟨t, M, ps, l, its, ring, rfl, S8 _ _ ht, s8 _ _ hl7, hp.mono S8, (q2.mono q1).mono s8, hg, hl, fun H9 s9 => ?_⟩
          exact q H9 (S8.trans s9)
theorem body_Net_init (T : Txt K mg A) (G_is_integer : FnOk P w K mg base CX0 1 A.a_is_integer A.d_is_integer ["value"] Lay.spIsInteger) (G_is_within : FnOk P w K mg base CX0 2 A.a_is_within A.d_is_within ["value", "low", "high"] Lay.spIsWithin) (G_check_parts : FnOk P w K mg base CX0 3 A.a_check_parts A.d_check_parts ["parts", "ring"] (NetL.spChkR K (cs A))) : ∀ (cdv : Value) (A0 : Around) (outer : List Env) (s : Shared) (H : Hp) (vs : List V) (Q : VK) (E : XK), Room 3 (A0.deeper (PyProof.Rows.envOfC "Net.__init__" (defScope s_Net_init) s.heap.objs.size A.a_Net_init cdv)) → NetL.spNetInit (cs A) A.c_Net vs H Q E →
    ∃ t, PSs (cxOf CX0 P w K mg base ["self", "line", "ring", "parts", "part"] "Net.__init__" (defScope s_Net_init) A.a_Net_init cdv A0 outer s H E) (defBody s_Net_init) t ∧ t { nx := fun _ H' => Q .non H', rt := Q } (start ["self", "line", "ring", "parts", "part"] vs) H := by
    intro cdv A0 outer s H vs Q E hr h
    obtain ⟨H0, x, dx, ln, rg, t, ps, its, rfl, h0x, sH, hx, lok, r1, r4, ht, hp, hg, hl, q⟩ := h
    have C := nc T
    have hlen := hp.length
    have htx : t ≠ x := fun e => by subst e; rw [hx] at ht; cases ht
    refine ⟨_, (pss_cons (ps_if (PW.pt (pw_or (pt_not (pt_val (pe_call G_is_integer (hr.mono (by decide)) rfl T.g_is_integer T.F_is_integer.kp T.b_is_integer .nil pass0 (pa_cons (pv 1) pa_nil)))) (pw_or1 (pt_cmpR op_notIn_seq (pv 1) (pe_con (pv 0) rfl) rfl))))
      (pss_one ps_never)
      pss_nil)
    (pss_cons (ps_if (pt_not (pt_val (pe_call G_is_within (hr.mono (by decide)) rfl T.g_is_within T.F_is_within.kp T.b_is_within .nil pass0 (pa_cons (pv 2) (pa_cons pe_int (pa_cons (pe_glob (v := .int 4) rfl T.k_LONGEST_RING ⟨_, rfl⟩) pa_nil))))))
      (pss_one ps_never)
      pss_nil)
    (pss_cons (ps_expr (pe_call G_check_parts (hr.mono (by decide)) rfl T.g_check_parts T.F_check_parts.kp T.b_check_parts .nil pass0 (pa_cons (pv 3) (pa_cons (pv 2) pa_nil))))
    (pss_cons (ps_fld (pv 0) (pv 1) rfl)
    (pss_cons (ps_fld (pv 0) (pv 2) rfl)
    (pss_cons (ps_fld (pv 0) (pe_callTy Lay.call_tupS (by rfl) T.n_tuple (by decide +kernel) (pa_cons (pe_lc (own := [("part", 4)]) (g := gName 4) rfl sc_Net_init.nd (pi_tup (pv 3)) (blkOk_by (own := [("part", 4)]) (N := ["self", "line", "ring", "parts", "part"]) (sc := defScope s_Net_init) (by decide +kernel)) (fun _ _ _ _ _ => pg_name (i := 4) sc_Net_init.nd rfl (Or.inl rfl)) (fun _ _ _ _ _ => pts_one (pt_val (pe_callB (r := rIsi K) call_isi (by rfl) T.n_isinstance (by decide +kernel) (pa_cons (pv 4) (pa_cons (pe_glob (v := .ref A.c_Variable) rfl T.g_Variable rfl) pa_nil))))) (fun _ _ _ _ _ => by exact (pv 4))) pa_nil)) rfl)
    (pss_cons (ps_fld (pv 0) (pe_callTy Lay.call_tupS (by rfl) T.n_tuple (by decide +kernel) (pa_cons (pe_lc (own := [("part", 4)]) (g := gName 4) rfl sc_Net_init.nd (pi_tup (pv 3)) (blkOk_by (own := [("part", 4)]) (N := ["self", "line", "ring", "parts", "part"]) (sc := defScope s_Net_init) (by decide +kernel)) (fun _ _ _ _ _ => pg_name (i := 4) sc_Net_init.nd rfl (Or.inl rfl)) (fun _ _ _ _ _ => pts_one (pt_val (pe_callB (r := rIsi K) call_isi (by rfl) T.n_isinstance (by decide +kernel) (pa_cons (pv 4) (pa_cons (pe_glob (v := .ref A.c_Signal) rfl T.g_Signal rfl) pa_nil))))) (fun _ _ _ _ _ => by exact (pv 4))) pa_nil)) rfl)
    (pss_cons (ps_fld (pv 0) (pe_callTy Lay.call_tupS (by rfl) T.n_tuple (by decide +kernel) (pa_cons (pe_lc (own := [("part", 4)]) (g := gName 4) rfl sc_Net_init.nd (pi_tup (pv 3)) (blkOk_by (own := [("part", 4)]) (N := ["self", "line", "ring", "parts", "part"]) (sc := defScope s_Net_init) (by decide +kernel)) (fun _ _ _ _ _ => pg_name (i := 4) sc_Net_init.nd rfl (Or.inl rfl)) (fun _ _ _ _ _ => pts_one (pt_val (pe_callB (r := rIsi K) call_isi (by rfl) T.n_isinstance (by decide +kernel) (pa_cons (pv 4) (pa_cons (pe_glob (v := .ref A.c_Agent) rfl T.g_Agent rfl) pa_nil))))) (fun _ _ _ _ _ => by exact (pv 4))) pa_nil)) rfl)
    (pss_one (ps_fld (pv 0) (pe_dc (own := [("part", 4)]) (g := gName 4) (tt := tYes) rfl sc_Net_init.nd (pi_tup (pv 3)) (blkOk_by (own := [("part", 4)]) (N := ["self", "line", "ring", "parts", "part"]) (sc := defScope s_Net_init) (by decide +kernel)) (fun _ _ _ _ _ => pg_name (i := 4) sc_Net_init.nd rfl (Or.inl rfl)) (fun _ _ _ _ _ => pts_nil) (fun _ _ _ _ _ => (show PE _ _ (tFld K (tVar 4) "name") from pe_fld (pv 4) rfl)) (fun _ _ _ _ _ => (pv 4))) rfl)))))))))), ?_⟩
    walk_at "in"
    walk_at "rd"
    refine ⟨.int ln, _, rfl, .int _, ?_⟩
    walk_at "rd"
    rw [show Lay.isInt (V.int ln) = true from rfl]
    walk_at "it"
    walk_at "rd"
    refine Lay.rd_tCon ?_
    walk_at "rd"
    obtain ⟨ul, cl⟩ := T.co_LINES
    refine ⟨x, _, dx, [], _, ul, rfl, hx, T.cl_Net, cl, by rfl, ?_⟩
    refine Lay.rd_notInI (ns := [1, 2, 4, 8, 16]) (T.q_LINES _) ?_
    rw [decide_eq_true (show ln ∈ ([1, 2, 4, 8, 16] : List Int) from lok)]
    walk_at "it"
    refine ⟨.int rg, _, 1, 4, rfl, .int _, ?_⟩
    rw [show Lay.within (.int rg) 1 4 = true from by show (decide (1 ≤ rg) && decide (rg ≤ 4)) = true; rw [decide_eq_true r1, decide_eq_true r4]; rfl]
    walk_at "it"
    refine ⟨t, ps, its, rg, rfl, ht, hp.mono sH, hg, hl, fun H1 s1 => ?_⟩
    have hx1 := s1 _ _ hx
    have t1 := s1 _ _ ht
    have S1 := sH.trans s1
    walk_at "rd"
    refine Lay.rd_sFld ?_
    walk_at "rd"
    refine ⟨x, A.c_Net, dx, [], rfl, hx1, T.cl_Net, T.na_Net_line, (by show 0 < 1000; decide), ?_⟩
    walk_at "rd"
    refine Lay.rd_sFld ?_
    walk_at "rd"
    refine ⟨x, A.c_Net, dx, _, rfl, upd_same, T.cl_Net, T.na_Net_ring, (by show 1 < 1000; decide), ?_⟩
    have keepx : ∀ {Hx : Hp} {o : HO}, L2.Same H0 Hx → L2.Same H0 (upd Hx x o) := fun s b o hb => by
      rw [upd_ne (fun y => by subst y; rw [h0x] at hb; cases hb)]
      exact s b o hb
    have s2 := keepx (o := HO.ins A.c_Net dx (putF "ring" (V.int rg) (putF "line" (V.int ln) []))) (keepx (o := HO.ins A.c_Net dx (putF "line" (V.int ln) [])) S1)
    have t2 : (upd (upd H1 x (HO.ins A.c_Net dx (putF "line" (V.int ln) []))) x (HO.ins A.c_Net dx (putF "ring" (V.int rg) (putF "line" (V.int ln) [])))) t = some (.tup ps) := by
      rw [upd_ne htx, upd_ne htx]; exact t1
    have hx2 : (upd (upd H1 x (HO.ins A.c_Net dx (putF "line" (V.int ln) []))) x (HO.ins A.c_Net dx (putF "ring" (V.int rg) (putF "line" (V.int ln) [])))) x = _ := upd_same
    walk_at "rd"
    generalize upd (upd H1 x (HO.ins A.c_Net dx (putF "line" (V.int ln) []))) x (HO.ins A.c_Net dx (putF "ring" (V.int rg) (putF "line" (V.int ln) []))) = H2 at s2 t2 hx2 ⊢
    refine Lay.rd_sFld ?_
    walk_at "rd"
    refine ⟨⟨_, SqT.of t2⟩, ?_⟩
    intro M2 hM2
    refine Lay.lc_go (walk_tup (xs := ps)) (fun i l H' => L2.Same H2 H' ∧ l = NetL.sel NetL.It.isV (its.take i) (ps.take i)) ⟨Lay.Same.upd hM2, rfl⟩ (fun i l H' _ r => SqT.of (r.1 _ _ t2)) ?_ ?_
    · rintro i l y HA HB hi hl' hz' ⟨q1, q2⟩ ⟨rfl, ey⟩
      obtain ⟨it, ei, pa⟩ := NetL.pget hp ey
      obtain ⟨x0, dx0, fs0, rfl, hx0, hn0⟩ := pa.ins
      have SB := s2.trans q1
      have fs1 := NetL.sel_succ NetL.It.isV ei ey
      walk_at "rd"
      refine ⟨rfl, ?_⟩
      walk_at "rd"
      refine Lay.rd_isiC (C.ty _ _ dx0 fs0 it (SB _ _ hx0)) (C.kv it) ?_
      refine ⟨it.isV, rfl, ?_⟩
      by_cases hs : it.isV = true
      · rw [hs] at fs1 ⊢
        refine iteT ?_
        walk_at "rd"
        have keepM : ∀ {o : HO}, L2.Same H2 (upd HB M2 o) := fun b o hb => by
          rw [upd_ne (fun y => by subst y; rw [hM2] at hb; cases hb)]
          exact q1 b o hb
        refine Lay.lc_put hl' hz' (by omega) ⟨keepM, ?_⟩
        rw [fs1, if_pos rfl, q2]
      · rw [Bool.eq_false_iff.mpr hs] at fs1 ⊢
        refine iteF ?_
        refine Lay.lc_skip hl' hz' ⟨q1, ?_⟩
        rw [fs1, if_neg (by decide), List.append_nil]
        exact q2
    rintro l2 HA2 hl2 hz2 ⟨q2, e2⟩
    rw [List.take_of_length_le (by omega), List.take_of_length_le (by omega)] at e2
    subst e2
    walk_at "rd"
    refine Lay.rd_tupL (SqL.of hl2) (fun u2 hu2 => ?_)
    walk_at "rd"
    have sx2 := s2.trans (q2.trans (Lay.Same.upd (o := .tup (NetL.sel NetL.It.isV its ps)) hu2))
    have ux2 : u2 ≠ x := Lay.ne_none hu2 (q2 _ _ hx2)
    refine ⟨x, A.c_Net, dx, _, rfl, Lay.upd_old hu2 (q2 _ _ hx2), T.cl_Net, T.na_Net_variables, (by show 2 < 1000; decide), ?_⟩
    have hx3 : (upd (upd HA2 u2 (.tup (NetL.sel NetL.It.isV its ps))) x (HO.ins A.c_Net dx (putF "variables" (V.ref u2) (putF "ring" (V.int rg) (putF "line" (V.int ln) []))))) x = _ := upd_same
    have t3 : (upd (upd HA2 u2 (.tup (NetL.sel NetL.It.isV its ps))) x (HO.ins A.c_Net dx (putF "variables" (V.ref u2) (putF "ring" (V.int rg) (putF "line" (V.int ln) []))))) t = some (.tup ps) := by
      rw [upd_ne htx]; exact Lay.upd_old hu2 (q2 _ _ t2)
    have v3 : (upd (upd HA2 u2 (.tup (NetL.sel NetL.It.isV its ps))) x (HO.ins A.c_Net dx (putF "variables" (V.ref u2) (putF "ring" (V.int rg) (putF "line" (V.int ln) []))))) u2 = some (.tup (NetL.sel NetL.It.isV its ps)) := by
      rw [upd_ne ux2]; exact upd_same
    have s3 := keepx (o := HO.ins A.c_Net dx (putF "variables" (V.ref u2) (putF "ring" (V.int rg) (putF "line" (V.int ln) [])))) sx2
    have old3 : ∀ b o, b ≠ x → H2 b = some o → (upd (upd HA2 u2 (.tup (NetL.sel NetL.It.isV its ps))) x (HO.ins A.c_Net dx (putF "variables" (V.ref u2) (putF "ring" (V.int rg) (putF "line" (V.int ln) []))))) b = some o := fun b o nb hb => by
      rw [upd_ne nb]; exact Lay.upd_old hu2 (q2 _ _ hb)
    walk_at "rd"
    generalize upd (upd HA2 u2 (.tup (NetL.sel NetL.It.isV its ps))) x (HO.ins A.c_Net dx (putF "variables" (V.ref u2) (putF "ring" (V.int rg) (putF "line" (V.int ln) [])))) = H3 at s3 t3 hx3 v3 old3 ⊢
    refine Lay.rd_sFld ?_
    walk_at "rd"
    refine ⟨⟨_, SqT.of t3⟩, ?_⟩
    intro M3 hM3
    refine Lay.lc_go (walk_tup (xs := ps)) (fun i l H' => L2.Same H3 H' ∧ l = NetL.sel NetL.It.isS (its.take i) (ps.take i)) ⟨Lay.Same.upd hM3, rfl⟩ (fun i l H' _ r => SqT.of (r.1 _ _ t3)) ?_ ?_
    · rintro i l y HA HB hi hl' hz' ⟨q1, q2⟩ ⟨rfl, ey⟩
      obtain ⟨it, ei, pa⟩ := NetL.pget hp ey
      obtain ⟨x0, dx0, fs0, rfl, hx0, hn0⟩ := pa.ins
      have SB := s3.trans q1
      have fs1 := NetL.sel_succ NetL.It.isS ei ey
      walk_at "rd"
      refine ⟨rfl, ?_⟩
      walk_at "rd"
      refine Lay.rd_isiC (C.ty _ _ dx0 fs0 it (SB _ _ hx0)) (C.ks it) ?_
      refine ⟨it.isS, rfl, ?_⟩
      by_cases hs : it.isS = true
      · rw [hs] at fs1 ⊢
        refine iteT ?_
        walk_at "rd"
        have keepM : ∀ {o : HO}, L2.Same H3 (upd HB M3 o) := fun b o hb => by
          rw [upd_ne (fun y => by subst y; rw [hM3] at hb; cases hb)]
          exact q1 b o hb
        refine Lay.lc_put hl' hz' (by omega) ⟨keepM, ?_⟩
        rw [fs1, if_pos rfl, q2]
      · rw [Bool.eq_false_iff.mpr hs] at fs1 ⊢
        refine iteF ?_
        refine Lay.lc_skip hl' hz' ⟨q1, ?_⟩
        rw [fs1, if_neg (by decide), List.append_nil]
        exact q2
    rintro l3 HA3 hl3 hz3 ⟨q3, e3⟩
    rw [List.take_of_length_le (by omega), List.take_of_length_le (by omega)] at e3
    subst e3
    walk_at "rd"
    refine Lay.rd_tupL (SqL.of hl3) (fun u3 hu3 => ?_)
    walk_at "rd"
    have sx3 := s3.trans (q3.trans (Lay.Same.upd (o := .tup (NetL.sel NetL.It.isS its ps)) hu3))
    have ux3 : u3 ≠ x := Lay.ne_none hu3 (q3 _ _ hx3)
    refine ⟨x, A.c_Net, dx, _, rfl, Lay.upd_old hu3 (q3 _ _ hx3), T.cl_Net, T.na_Net_signals, (by show 3 < 1000; decide), ?_⟩
    have hx4 : (upd (upd HA3 u3 (.tup (NetL.sel NetL.It.isS its ps))) x (HO.ins A.c_Net dx (putF "signals" (V.ref u3) (putF "variables" (V.ref u2) (putF "ring" (V.int rg) (putF "line" (V.int ln) [])))))) x = _ := upd_same
    have t4 : (upd (upd HA3 u3 (.tup (NetL.sel NetL.It.isS its ps))) x (HO.ins A.c_Net dx (putF "signals" (V.ref u3) (putF "variables" (V.ref u2) (putF "ring" (V.int rg) (putF "line" (V.int ln) [])))))) t = some (.tup ps) := by
      rw [upd_ne htx]; exact Lay.upd_old hu3 (q3 _ _ t3)
    have v4 : (upd (upd HA3 u3 (.tup (NetL.sel NetL.It.isS its ps))) x (HO.ins A.c_Net dx (putF "signals" (V.ref u3) (putF "variables" (V.ref u2) (putF "ring" (V.int rg) (putF "line" (V.int ln) [])))))) u3 = some (.tup (NetL.sel NetL.It.isS its ps)) := by
      rw [upd_ne ux3]; exact upd_same
    have s4 := keepx (o := HO.ins A.c_Net dx (putF "signals" (V.ref u3) (putF "variables" (V.ref u2) (putF "ring" (V.int rg) (putF "line" (V.int ln) []))))) sx3
    have old4 : ∀ b o, b ≠ x → H3 b = some o → (upd (upd HA3 u3 (.tup (NetL.sel NetL.It.isS its ps))) x (HO.ins A.c_Net dx (putF "signals" (V.ref u3) (putF "variables" (V.ref u2) (putF "ring" (V.int rg) (putF "line" (V.int ln) [])))))) b = some o := fun b o nb hb => by
      rw [upd_ne nb]; exact Lay.upd_old hu3 (q3 _ _ hb)
    walk_at "rd"
    generalize upd (upd HA3 u3 (.tup (NetL.sel NetL.It.isS its ps))) x (HO.ins A.c_Net dx (putF "signals" (V.ref u3) (putF "variables" (V.ref u2) (putF "ring" (V.int rg) (putF "line" (V.int ln) []))))) = H4 at s4 t4 hx4 v4 old4 ⊢
    refine Lay.rd_sFld ?_
    walk_at "rd"
    refine ⟨⟨_, SqT.of t4⟩, ?_⟩
    intro M4 hM4
    refine Lay.lc_go (walk_tup (xs := ps)) (fun i l H' => L2.Same H4 H' ∧ l = NetL.sel NetL.It.isA (its.take i) (ps.take i)) ⟨Lay.Same.upd hM4, rfl⟩ (fun i l H' _ r => SqT.of (r.1 _ _ t4)) ?_ ?_
    · rintro i l y HA HB hi hl' hz' ⟨q1, q2⟩ ⟨rfl, ey⟩
      obtain ⟨it, ei, pa⟩ := NetL.pget hp ey
      obtain ⟨x0, dx0, fs0, rfl, hx0, hn0⟩ := pa.ins
      have SB := s4.trans q1
      have fs1 := NetL.sel_succ NetL.It.isA ei ey
      walk_at "rd"
      refine ⟨rfl, ?_⟩
      walk_at "rd"
      refine Lay.rd_isiC (C.ty _ _ dx0 fs0 it (SB _ _ hx0)) (C.ka it) ?_
      refine ⟨it.isA, rfl, ?_⟩
      by_cases hs : it.isA = true
      · rw [hs] at fs1 ⊢
        refine iteT ?_
        walk_at "rd"
        have keepM : ∀ {o : HO}, L2.Same H4 (upd HB M4 o) := fun b o hb => by
          rw [upd_ne (fun y => by subst y; rw [hM4] at hb; cases hb)]
          exact q1 b o hb
        refine Lay.lc_put hl' hz' (by omega) ⟨keepM, ?_⟩
        rw [fs1, if_pos rfl, q2]
      · rw [Bool.eq_false_iff.mpr hs] at fs1 ⊢
        refine iteF ?_
        refine Lay.lc_skip hl' hz' ⟨q1, ?_⟩
        rw [fs1, if_neg (by decide), List.append_nil]
        exact q2
    rintro l4 HA4 hl4 hz4 ⟨q4, e4⟩
    rw [List.take_of_length_le (by omega), List.take_of_length_le (by omega)] at e4
    subst e4
    walk_at "rd"
    refine Lay.rd_tupL (SqL.of hl4) (fun u4 hu4 => ?_)
    walk_at "rd"
    have sx4 := s4.trans (q4.trans (Lay.Same.upd (o := .tup (NetL.sel NetL.It.isA its ps)) hu4))
    have ux4 : u4 ≠ x := Lay.ne_none hu4 (q4 _ _ hx4)
    refine ⟨x, A.c_Net, dx, _, rfl, Lay.upd_old hu4 (q4 _ _ hx4), T.cl_Net, T.na_Net_agents, (by show 4 < 1000; decide), ?_⟩
    have hx5 : (upd (upd HA4 u4 (.tup (NetL.sel NetL.It.isA its ps))) x (HO.ins A.c_Net dx (putF "agents" (V.ref u4) (putF "signals" (V.ref u3) (putF "variables" (V.ref u2) (putF "ring" (V.int rg) (putF "line" (V.int ln) []))))))) x = _ := upd_same
    have t5 : (upd (upd HA4 u4 (.tup (NetL.sel NetL.It.isA its ps))) x (HO.ins A.c_Net dx (putF "agents" (V.ref u4) (putF "signals" (V.ref u3) (putF "variables" (V.ref u2) (putF "ring" (V.int rg) (putF "line" (V.int ln) []))))))) t = some (.tup ps) := by
      rw [upd_ne htx]; exact Lay.upd_old hu4 (q4 _ _ t4)
    have v5 : (upd (upd HA4 u4 (.tup (NetL.sel NetL.It.isA its ps))) x (HO.ins A.c_Net dx (putF "agents" (V.ref u4) (putF "signals" (V.ref u3) (putF "variables" (V.ref u2) (putF "ring" (V.int rg) (putF "line" (V.int ln) []))))))) u4 = some (.tup (NetL.sel NetL.It.isA its ps)) := by
      rw [upd_ne ux4]; exact upd_same
    have s5 := keepx (o := HO.ins A.c_Net dx (putF "agents" (V.ref u4) (putF "signals" (V.ref u3) (putF "variables" (V.ref u2) (putF "ring" (V.int rg) (putF "line" (V.int ln) [])))))) sx4
    have old5 : ∀ b o, b ≠ x → H4 b = some o → (upd (upd HA4 u4 (.tup (NetL.sel NetL.It.isA its ps))) x (HO.ins A.c_Net dx (putF "agents" (V.ref u4) (putF "signals" (V.ref u3) (putF "variables" (V.ref u2) (putF "ring" (V.int rg) (putF "line" (V.int ln) []))))))) b = some o := fun b o nb hb => by
      rw [upd_ne nb]; exact Lay.upd_old hu4 (q4 _ _ hb)
    walk_at "rd"
    generalize upd (upd HA4 u4 (.tup (NetL.sel NetL.It.isA its ps))) x (HO.ins A.c_Net dx (putF "agents" (V.ref u4) (putF "signals" (V.ref u3) (putF "variables" (V.ref u2) (putF "ring" (V.int rg) (putF "line" (V.int ln) [])))))) = H5 at s5 t5 hx5 v5 old5 ⊢
    have w3 := old4 _ _ ux2 v3
    have w4 := old5 _ _ ux3 v4
    have w5 := old5 _ _ ux2 w3
    refine Lay.rd_sFld ?_
    unfold tDc
    dsimp only
    walk_at "rd"
    refine ⟨⟨_, SqT.of t5⟩, ?_⟩
    intro D hD
    have keepD : ∀ {H1 : Hp} {o : HO}, L2.Same H5 H1 → L2.Same H5 (upd H1 D o) := fun s b o hb => by
      rw [upd_ne (fun y => by subst y; rw [hD] at hb; cases hb)]
      exact s b o hb
    refine NetL.turns (walk_tup (xs := ps)) (fun i H' => L2.Same H5 H' ∧ H' D = some (.dK (NetL.named (its.take i) (ps.take i)))) ⟨keepD (L2.Same.refl _), upd_same⟩ (fun i H' _ z => SqT.of (z.1 _ _ t5)) ?_ ?_
    · rintro i y HA HB hi ⟨q1, q2⟩ ⟨rfl, ey⟩
      obtain ⟨it, ei, pa⟩ := NetL.pget hp ey
      obtain ⟨x0, dx0, fs0, rfl, hx0, hn0⟩ := pa.ins
      have SB := s5.trans q1
      walk_at "rd"
      refine ⟨rfl, ?_⟩
      walk_at "it"
      refine Lay.rd_tFld ?_
      walk_at "rd"
      refine ⟨x0, _, dx0, fs0, .str it.nm, rfl, SB _ _ hx0, C.cl it, C.nn it, hn0, ?_⟩
      walk_at "rd"
      refine ⟨_, .inr it.nm, rfl, q2, ?_, keepD q1, ?_⟩
      · exact Nat.lt_of_le_of_lt (Nat.le_trans NetL.named_len (show _ ≤ 16 by rw [List.length_take]; omega)) (by decide)
      · have no : it.nm ∉ (its.take i).map NetL.It.nm := by
          rw [List.map_take]
          exact NetL.not_take hg.nd (by rw [List.getElem?_map, ei]; rfl)
        rw [upd_same, NetL.named_put no ei ey]
    rintro H6 ⟨q1, q2⟩
    rw [List.take_of_length_le (by omega), List.take_of_length_le (by omega)] at q2
    walk_at "rd"
    refine ⟨x, A.c_Net, dx, _, rfl, q1 _ _ hx5, T.cl_Net, T.na_Net__named, (by show 5 < 1000; decide), ?_⟩
    have hDx : D ≠ x := fun e => by subst e; rw [hD] at hx5; cases hx5
    refine q _ ⟨dx, u2, u3, u4, D, ?_, ?_, ?_, ?_, ?_, ?_⟩ (keepx (s5.trans q1))
    · exact upd_same
    · rw [upd_ne ux2]; exact q1 _ _ w5
    · rw [upd_ne ux3]; exact q1 _ _ w4
    · rw [upd_ne ux4]; exact q1 _ _ v5
    · rw [upd_ne hDx]; exact q2
    · exact hp.mono (keepx (s5.trans q1))
theorem nil_of {α : Type} {l : List α} (h : l.length = 0) : l = [] := List.length_eq_zero_iff.mp h
theorem ok_Net_initK (T : Txt K mg A) (G_is_integer : FnOk P w K mg base CX0 1 A.a_is_integer A.d_is_integer ["value"] Lay.spIsInteger) (G_is_within : FnOk P w K mg base CX0 2 A.a_is_within A.d_is_within ["value", "low", "high"] Lay.spIsWithin) (G_check_parts : FnOk P w K mg base CX0 3 A.a_check_parts A.d_check_parts ["parts", "ring"] (NetL.spChkR K (cs A))) : KwS.FnRK P w K mg base CX0 4 A.a_Net_init ["line", "ring"] (fun vs zs H Q E => ∃ us rest, vs = us ++ rest ∧ us.length = 1 ∧ rest.length ≤ sizeLine ∧ ∀ p, H p = Option.none → NetL.spNetInit (cs A) A.c_Net (us ++ zs ++ [V.ref p]) (upd H p (.tup rest)) Q E) :=
  KwS.fn_starK (ps := ["self", "line", "ring"]) (pv := "parts") T.F_Net_init sc_Net_init StX.cxUp_none [] (fun us mz zs => us ++ zs) (fun z => by cases z) (fun q hq => by cases hq) (fun r1 r2 r3 => r1.append r3)
    (fun us mv ws h1 h2 h3 => by rw [List.length_append, h1, h3]; rfl)
    (fun D doc pm an cdv ct us rest mv ws h1 h2 h3 => match us, mv, ws, h1, h2, h3, rest with
      | [a], [], [b, c], _, _, _, [] => (by rfl : _ = _)
      | [a], [], [b, c], _, _, _, r :: rs => (by rfl : _ = _))
    (body_Net_init T G_is_integer G_is_within G_check_parts)
theorem ok_Net_init0 (T : Txt K mg A) (G_is_integer : FnOk P w K mg base CX0 1 A.a_is_integer A.d_is_integer ["value"] Lay.spIsInteger) (G_is_within : FnOk P w K mg base CX0 2 A.a_is_within A.d_is_within ["value", "low", "high"] Lay.spIsWithin) (G_check_parts : FnOk P w K mg base CX0 3 A.a_check_parts A.d_check_parts ["parts", "ring"] (NetL.spChkR K (cs A))) : KwS.FnRK P w K mg base CX0 4 A.a_Net_init [] (fun vs zs H Q E => ∃ us rest, vs = us ++ rest ∧ us.length = 1 ∧ rest.length ≤ sizeLine ∧ ∀ p, H p = Option.none → NetL.spNetInit (cs A) A.c_Net (us ++ [V.int 8, V.int 1] ++ [V.ref p]) (upd H p (.tup rest)) Q E) :=
  KwS.fn_starK (ps := ["self", "line", "ring"]) (pv := "parts") T.F_Net_init sc_Net_init StX.cxUp_none [("line", V.int 8), ("ring", V.int 1)] (fun us mz zs => us ++ mz) (fun z => by cases z) (fun q hq => hq) (fun r1 r2 r3 => r1.append r2)
    (fun us mv ws h1 h2 h3 => by rw [List.length_append, h1, h2]; rfl)
    (fun D doc pm an cdv ct us rest mv ws h1 h2 h3 => match us, mv, ws, h1, h2, h3, rest with
      | [a], [b, c], [], _, _, _, [] => ⟨_, _, _, _, _, _, rfl, rfl, ⟨_, _, _, _, _, _, rfl, rfl, rfl⟩⟩
      | [a], [b, c], [], _, _, _, r :: rs => ⟨_, _, _, _, _, _, rfl, rfl, ⟨_, _, _, _, _, _, rfl, rfl, rfl⟩⟩)
    (body_Net_init T G_is_integer G_is_within G_check_parts)
theorem ok_Net_made (T : Txt K mg A) (G_Net_initK : KwS.FnRK P w K mg base CX0 4 A.a_Net_init ["line", "ring"] (NetL.spInitK (cs A) A.c_Net)) : FnOk P w K mg base CX0 6 A.a_Net_made A.d_Net_made ["cls", "parts", "line", "ring"] (NetL.spNetMade (cs A) A.c_Net) := by
  refine T.F_Net_made.ok sc_Net_made (fun vs H Q E h => ?_) (fun cdv A0 outer s H vs Q E hr h => ?_)
  · obtain ⟨a, l, r, ps, its, rfl, _⟩ := h
    rfl
  · obtain ⟨a, l, r, ps, its, rfl, ha, lok, r1, r4, hp, hg, hl, q⟩ := h
    refine ⟨_, (pss_one (ps_ret (KwS.pe_makeSKV (E := fun _ => E0) (pv 0) T.mk_Net G_Net_initK (hr.mono (by decide)) (fun _ => NetL.passAt0) (pv 1) (pk_cons (pv 2) (pk_cons (pv 3) pk_nil))))), ?_⟩
    walk_at "in"
    walk_at "rd"
    refine NetL.rd_makeSK ?_
    walk_at "rd"
    refine ⟨rfl, ?_⟩
    walk_at "rd"
    refine ⟨ps, ha.elim (fun h => .inl (SqT.of h)) (fun h => .inr (SqL.of h)), rfl, ?_⟩
    exact NetL.mk_net lok r1 r4 hp hg hl q
theorem ok_pen (T : Txt K mg A) : FnOk P w K mg base CX0 1 A.a_pen A.d_pen ["_law_script"] (Lay.spPen K) := by
  refine T.F_pen.ok sc_pen (fun vs H Q E h => ?_) (fun cdv A0 outer s H vs Q E hr h => ?_)
  · obtain ⟨a, ns, rfl, _⟩ := h
    rfl
  · obtain ⟨a, ns, rfl, hS, hl, q⟩ := h
    refine ⟨_, (pss_one (ps_ret (pe_lst (pa_cons (pe_callTy Lay.call_listS (by rfl) T.n_list (by decide +kernel) (pa_cons (pe_slice sl_list (pv 0) po_none (po_some pe_int)) pa_nil)) (pa_cons pe_int (pa_cons pe_int pa_nil)))))), ?_⟩
    walk_at "in"
    walk_at "rd"
    refine Lay.rd_slL hS (fun r hr1 => ?_)
    rw [Lay.cut63 (by rw [List.length_map]; exact hl)]
    walk_at "rd"
    refine Lay.rd_listL (SqL.of upd_same) (fun l hl1 => ?_)
    walk_at "rd"
    refine ⟨by decide, fun p hp => ?_⟩
    have s1 := (Lay.Same.upd (o := .lst (ns.map V.int)) hr1).trans (Lay.Same.upd (o := .lst (ns.map V.int)) hl1)
    exact q _ p _ (Lay.none_of s1 hp) (Lay.pen_at upd_same (Lay.upd_old hp upd_same) hl) (s1.trans (Lay.Same.upd hp))
theorem ok_draw (T : Txt K mg A) : FnOk P w K mg base CX0 1 A.a_draw A.d_draw ["_law_pen_here", "_law_many"] Lay.spDraw := by
  refine T.F_draw.ok sc_draw (fun vs H Q E h => ?_) (fun cdv A0 outer s H vs Q E hr h => ?_)
  · obtain ⟨p, m, n, c, rfl, _⟩ := h
    rfl
  · obtain ⟨p, m, n, c, rfl, ⟨ns, b, l, h1, h2, h3, h4, h5, h6⟩, hn, hm, hm2, k⟩ := h
    have hc : c ≠ p := ne_of h2 h1 (by intro q; cases ns <;> cases q)
    refine ⟨_, (pss_cons (ps_if (pt_cmpR op_gt (pe_ix ix_list (pv 0) pe_int (fun _ _ => rfl)) pe_int (nomark _))
      (pss_cons (ps_set (i := 2) sc_draw.nd rfl (Or.inl rfl) (pe_op Lay.op_modP (pe_callTy Lay.call_intI (by rfl) T.n_int (by decide +kernel) (pa_cons (pe_ix ix_list (pv 0) pe_int (fun _ _ => rfl)) pa_nil)) (pv 1)))
      (pss_cons (ps_asg (pe_op Lay.op_divP (pe_callTy Lay.call_intI (by rfl) T.n_int (by decide +kernel) (pa_cons (pe_ix ix_list (pv 0) pe_int (fun _ _ => rfl)) pa_nil)) (pv 1)) (pg_sub (pv 0) pe_int set_list))
      (pss_one (ps_ret (pv 2)))))
      pss_nil)
    (pss_cons (ps_set (i := 3) sc_draw.nd rfl (Or.inl rfl) (pe_ix ix_list (pv 0) pe_int (fun _ _ => rfl)))
    (pss_cons (ps_asg (pe_op op_add (pv 3) pe_int) (pg_sub (pv 0) pe_int set_list))
    (pss_cons (ps_set (i := 4) sc_draw.nd rfl (Or.inl rfl) (pe_op op_add (pe_op op_mul pe_int (pv 3)) pe_int))
    (Evl.pss_cut (ps_if (pt_cmpR (op_neD hr.units) (pe_ix ix_list (pv 0) pe_int (fun _ _ => rfl)) (pe_lst pa_nil) (nomark _))
      (pss_one (ps_set (i := 4) sc_draw.nd rfl (Or.inl rfl) (pe_ix ix_list (pe_ix ix_list (pv 0) pe_int (fun _ _ => rfl)) (pe_op Lay.op_modP (pe_callTy Lay.call_intI (by rfl) T.n_int (by decide +kernel) (pa_cons (pv 3) pa_nil)) (pe_callB Lay.call_lenS (by rfl) T.n_len PySem.boot_len (pa_cons (pe_ix ix_list (pv 0) pe_int (fun _ _ => rfl)) pa_nil))) (fun _ _ => rfl))))
      pss_nil)
    (pss_cons (ps_if (PW.pt (pw_and (pt_cmpR op_lt (pv 3) (pe_callB Lay.call_lenS (by rfl) T.n_len PySem.boot_len (pa_cons (pe_ix ix_list (pv 0) pe_int (fun _ _ => rfl)) pa_nil)) (nomark _)) (pw_and1 (pt_cmpR op_ge (pe_callB Lay.call_absI (by rfl) T.n_abs (by decide +kernel) (pa_cons (pv 4) pa_nil)) (pe_op op_pow pe_int pe_int) (nomark _)))))
      (pss_cons (ps_set (i := 5) sc_draw.nd rfl (Or.inl rfl) (pe_op op_add (pe_op op_mul pe_int (pe_op op_sub (pe_callB Lay.call_absI (by rfl) T.n_abs (by decide +kernel) (pa_cons (pv 4) pa_nil)) (pe_op op_pow pe_int pe_int))) (pe_callTy Lay.call_intI (by rfl) T.n_int (by decide +kernel) (pa_cons (pe_cmpR op_lt (pv 4) pe_int (nomark _)) pa_nil))))
      (pss_cons (ps_asg (pe_op Lay.op_divP (pe_callTy Lay.call_intI (by rfl) T.n_int (by decide +kernel) (pa_cons (pv 5) pa_nil)) (pv 1)) (pg_sub (pv 0) pe_int set_list))
      (pss_one (ps_ret (pe_op Lay.op_modP (pe_callTy Lay.call_intI (by rfl) T.n_int (by decide +kernel) (pa_cons (pv 5) pa_nil)) (pv 1))))))
      pss_nil)
    (pss_cons (ps_set (i := 6) sc_draw.nd rfl (Or.inl rfl) (pe_op Lay.op_modP (pe_callTy Lay.call_intI (by rfl) T.n_int (by decide +kernel) (pa_cons (pe_op op_pow (pe_op op_add (pe_op op_add (pe_op Lay.op_modP (pe_callTy Lay.call_intI (by rfl) T.n_int (by decide +kernel) (pa_cons (pv 4) pa_nil)) pe_int) (pe_op op_mul pe_int (pv 3))) pe_int) pe_int) pa_nil)) pe_int))
    (pss_cons (ps_set (i := 6) sc_draw.nd rfl (Or.inl rfl) (pe_op Lay.op_modP (pe_callTy Lay.call_intI (by rfl) T.n_int (by decide +kernel) (pa_cons (pe_op op_pow (pe_op op_add (pe_op op_add (pe_op op_mul (pv 6) (pe_op op_add (pe_op op_mul pe_int (pv 3)) pe_int)) (pe_op op_mul (pe_op op_mul pe_int (pv 3)) (pv 3))) pe_int) pe_int) pa_nil)) pe_int))
    (pss_one (ps_ret (pe_op Lay.op_modP (pe_op Lay.op_divP (pe_callTy Lay.call_intI (by rfl) T.n_int (by decide +kernel) (pa_cons (pv 6) pa_nil)) pe_int) (pv 1)))))))))))), ?_⟩
    have pen : ∀ H' : Hp, ∀ b' l' : Int, H' p = some (.lst [.ref c, .int b', .int l']) → H' c = some (.lst (ns.map V.int)) → 0 ≤ b' → b' ≤ ((n + 1 : Nat) : Int) → 0 ≤ l' → Lay.PenAt c H' p (n + 1) :=
      fun H' b' l' e1 e2 e3 e4 e5 => ⟨ns, b', l', e1, e2, h3, e3, e4, e5⟩
    have keep1 : ∀ o, Lay.Keep p H (upd H p o) := fun o => Lay.Keep.upd
    walk_at "in"
    walk_at "rd"
    refine Lay.ite_d (fun c0 => ?_) (fun c0 => ?_)
    · walk_at "rd"
      refine Lay.rd_modP hm (fun d0 e0 d1 d2 => ?_)
      walk_at "rd"
      refine Lay.rd_divP ⟨hm, hm2⟩ (fun d3 e3 => ?_)
      walk_at "rd"
      exact k _ _ d1 d2 (pen _ _ _ upd_same (by rw [upd_ne hc]; exact h2) h4 (by omega) (by rw [e3]; exact Int.ediv_nonneg h6 (by omega))) (keep1 _)
    · walk_at "rd"
      have hc1 : ∀ o, upd H p o c = some (.lst (ns.map V.int)) := fun o => by rw [upd_ne hc]; exact h2
      refine ⟨fun σ' H' => ∃ v : Int, σ' = [some (V.ref p), some (V.int m), none, some (V.int b), some (V.int v), none, none] ∧ H' p = some (.lst [.ref c, .int (b + 1), .int l]) ∧ H' c = some (.lst (ns.map V.int)) ∧ Lay.Keep p H H', ?_, ?_⟩
      · walk_at "rd"
        refine ⟨by decide, fun q hq => ?_⟩
        have q1 : (upd (upd H p (HO.lst [V.ref c, V.int (b + 1), V.int l])) q (.lst [])) c = some (.lst (ns.map V.int)) := Lay.upd_old hq (hc1 _)
        have q2 : (upd (upd H p (HO.lst [V.ref c, V.int (b + 1), V.int l])) q (.lst [])) p = some (.lst [.ref c, .int (b + 1), .int l]) := Lay.upd_old hq upd_same
        have q3 : Lay.Keep p H (upd (upd H p (HO.lst [V.ref c, V.int (b + 1), V.int l])) q (.lst [])) := (keep1 _).trans (Lay.Keep.of (Lay.Same.upd hq))
        refine Lay.rd_ne_nil (SqL.of q1) (SqL.of upd_same) (fun hne => ?_) (fun hne => ?_)
        · walk_at "rd"
          refine iteT ?_
          walk_at "rd"
          have hl : 0 < (ns.map V.int).length := by
            cases ns with
            | nil => exact absurd rfl hne
            | cons a r => simp
          refine Lay.rd_modP (by omega) (fun d0 e0 d1 d2 => ?_)
          have hd : d0.toNat < ns.length := by rw [List.length_map] at d2; omega
          refine Lay.rd_ixL (SqL.of q1) (v := .int ns[d0.toNat]) ?_ ?_
          · exact Lay.atI_int d1 (by rw [List.getElem?_map, List.getElem?_eq_getElem hd]; rfl)
          walk_at "rd"
          exact ⟨_, rfl, q2, q1, q3⟩
        · walk_at "rd"
          refine iteF ?_
          walk_at "rd"
          exact ⟨_, rfl, q2, q1, q3⟩
      · rintro σ' H' ⟨v, rfl, p1, p2, p3⟩
        have fin : (tSeq
            (tAsg (tOp Lay.rModP (tCB Lay.rInt1 (tCons (tOp (rI CPow fun i j => V.int (i ^ j.toNat)) (tOp (rI0 fun i j => V.int (i + j)) (tOp (rI0 fun i j => V.int (i + j)) (tOp Lay.rModP (tCB Lay.rInt1 (tCons (tVar 4) tNil)) (tC (V.int 2147483579))) (tOp (rI CMul fun i j => V.int (i * j)) (tC (V.int 91009)) (tVar 3))) (tC (V.int 41))) (tC (V.int 5))) tNil)) (tC (V.int 2147483647))) (gName 6))
            (tSeq
            (tAsg (tOp Lay.rModP (tCB Lay.rInt1 (tCons (tOp (rI CPow fun i j => V.int (i ^ j.toNat)) (tOp (rI0 fun i j => V.int (i + j)) (tOp (rI0 fun i j => V.int (i + j)) (tOp (rI CMul fun i j => V.int (i * j)) (tVar 6) (tOp (rI0 fun i j => V.int (i + j)) (tOp (rI CMul fun i j => V.int (i * j)) (tC (V.int 2)) (tVar 3)) (tC (V.int 67)))) (tOp (rI CMul fun i j => V.int (i * j)) (tOp (rI CMul fun i j => V.int (i * j)) (tC (V.int 70039)) (tVar 3)) (tVar 3))) (tC (V.int 13))) (tC (V.int 3))) tNil)) (tC (V.int 2147483563))) (gName 6))
            (tRet (tOp Lay.rModP (tOp Lay.rDivP (tCB Lay.rInt1 (tCons (tVar 6) tNil)) (tC (V.int 32))) (tVar 1))))) { nx := fun x H' => Q V.non H', rt := Q } [some (V.ref p), some (V.int m), none, some (V.int b), some (V.int v), none, none] H' := by
          walk_at "rd"
          refine Lay.rd_modP (by decide) (fun d0 e0 d1 d2 => ?_)
          walk_at "rd"
          refine Lay.rd_modP (by decide) (fun d3 e3 d4 d5 => ?_)
          walk_at "rd"
          refine Lay.rd_I (Lay.mix_ok d4 (by omega) h4 (by omega) (by decide) (by decide) (by decide) (by decide) (by decide) (by decide) (by decide) (by decide)) ?_
          walk_at "rd"
          refine Lay.rd_modP (by decide) (fun d6 e6 d7 d8 => ?_)
          walk_at "rd"
          refine Lay.rd_divP ⟨by decide, by decide⟩ (fun d9 e9 => ?_)
          walk_at "rd"
          refine Lay.rd_modP hm (fun d10 e10 d11 d12 => ?_)
          exact k _ _ d11 d12 (pen _ _ _ p1 p2 (by omega) (by omega) h6) p3
        walk_at "rd"
        refine Lay.ite_d (fun c1 => ?_) (fun c1 => ?_)
        · walk_at "rd"
          refine Lay.ite_d (fun c2 => ?_) (fun c2 => ?_)
          · walk_at "rd"
            refine Lay.rd_divP ⟨hm, hm2⟩ (fun d3 e3 => ?_)
            walk_at "rd"
            refine Lay.rd_modP hm (fun d4 e4 d5 d6 => ?_)
            refine k _ _ d5 d6 (pen _ _ _ upd_same (by rw [upd_ne hc]; exact p2) (by omega) (by omega) ?_) (p3.trans Lay.Keep.upd)
            rw [e3]
            refine Int.ediv_nonneg ?_ (by omega)
            have : (0 : Int) ≤ (if decide (v < 0) = true then 1 else 0) := by split <;> decide
            have c2' : (10 : Int) ^ 18 ≤ (if v < 0 then -v else v) := c2
            have : (0 : Int) ≤ (if v < 0 then -v else v) - 10 ^ 18 := by omega
            show (0 : Int) ≤ 2 * ((if v < 0 then -v else v) - 10 ^ 18) + (if decide (v < 0) = true then 1 else 0)
            omega
          · exact fin
        · exact fin
theorem ok_steps (T : Txt K mg A) (G_draw : FnOk P w K mg base CX0 1 A.a_draw A.d_draw ["_law_pen_here", "_law_many"] Lay.spDraw) : FnOk P w K mg base CX0 2 A.a_steps A.d_steps ["_law_pen_here", "_law_kind", "_law_variables_here", "_law_signalled"] NetG.spSteps := by
  refine T.F_steps.ok sc_steps (fun vs H Q E h => ?_) (fun cdv A0 outer s H vs Q E hr h => ?_)
  · obtain ⟨p, n, c, k, vl, sg, vvs, vits, ys, ss, rfl, _⟩ := h
    rfl
  · obtain ⟨p, n, c, k, vl, sg, vvs, vits, ys, ss, rfl, hp, hn, k0, k2, hvl, vlp, hvs, hvo, v1, v6, hsg, sgp, hss, s12, q⟩ := h
    have vlen := hvs.length
    refine ⟨_, (pss_cons (ps_set (i := 4) sc_steps.nd rfl (Or.inl rfl) (pe_callTy Lay.call_listS (by rfl) T.n_list (by decide +kernel) (pa_cons (pv 3) pa_nil)))
    (pss_cons (ps_for PassesOwn.never rfl (pi_range1 rfl T.n_range (pa_cons (pe_op op_add pe_int (pe_call G_draw (hr.mono (by decide)) rfl T.g_draw T.F_draw.kp T.b_draw .nil pass0 (pa_cons (pv 0) (pa_cons pe_int pa_nil)))) pa_nil)) (pg_name (i := 5) sc_steps.nd rfl (Or.inl rfl))
      (pss_cons (ps_set (i := 6) sc_steps.nd rfl (Or.inl rfl) (pe_lst (pa_cons pe_str (pa_cons pe_str (pa_cons pe_str (pa_cons pe_str (pa_cons pe_str (pa_cons pe_str (pa_cons pe_str pa_nil)))))))))
      (pss_cons (ps_set (i := 7) sc_steps.nd rfl (Or.inl rfl) (pe_ix ix_list (pv 6) (pe_call G_draw (hr.mono (by decide)) rfl T.g_draw T.F_draw.kp T.b_draw .nil pass0 (pa_cons (pv 0) (pa_cons (pe_op op_add pe_int (pe_op op_mul pe_int (pe_callTy Lay.call_intI (by rfl) T.n_int (by decide +kernel) (pa_cons (pe_cmpR op_gt (pv 1) pe_int (nomark _)) pa_nil)))) pa_nil))) (fun _ _ => rfl)))
      (pss_cons (ps_set (i := 8) sc_steps.nd rfl (Or.inl rfl) (pe_ix ix_list (pv 2) (pe_call G_draw (hr.mono (by decide)) rfl T.g_draw T.F_draw.kp T.b_draw .nil pass0 (pa_cons (pv 0) (pa_cons (pe_callB Lay.call_lenS (by rfl) T.n_len PySem.boot_len (pa_cons (pv 2) pa_nil)) pa_nil))) (fun _ _ => rfl)))
      (pss_cons (ps_set (i := 9) sc_steps.nd rfl (Or.inl rfl) (pe_call G_draw (hr.mono (by decide)) rfl T.g_draw T.F_draw.kp T.b_draw .nil pass0 (pa_cons (pv 0) (pa_cons (pe_ix ix_tup (pv 8) pe_int (fun _ _ => rfl)) pa_nil))))
      (pss_cons (ps_set (i := 10) sc_steps.nd rfl (Or.inl rfl) (pe_tup (pa_cons (pv 7) (pa_cons (pe_ix ix_tup (pv 8) pe_int (fun _ _ => rfl)) (pa_cons (pe_call G_draw (hr.mono (by decide)) rfl T.g_draw T.F_draw.kp T.b_draw .nil pass0 (pa_cons (pv 0) (pa_cons pe_int pa_nil))) (pa_cons (pv 9) (pa_cons (pe_op op_add (pv 9) (pe_call G_draw (hr.mono (by decide)) rfl T.g_draw T.F_draw.kp T.b_draw .nil pass0 (pa_cons (pv 0) (pa_cons (pe_op op_sub (pe_ix ix_tup (pv 8) pe_int (fun _ _ => rfl)) (pv 9)) pa_nil)))) pa_nil)))))))
      (pss_cons (ps_set (i := 11) sc_steps.nd rfl (Or.inl rfl) (pe_call G_draw (hr.mono (by decide)) rfl T.g_draw T.F_draw.kp T.b_draw .nil pass0 (pa_cons (pv 0) (pa_cons (pe_op op_add (pe_callB Lay.call_lenS (by rfl) T.n_len PySem.boot_len (pa_cons (pv 4) pa_nil)) pe_int) pa_nil))))
      (pss_one (ps_set (i := 4) sc_steps.nd rfl (Or.inl rfl) (pe_op op_cat (pe_op op_cat (pe_slice sl_list (pv 4) po_none (po_some (pv 11))) (pe_lst (pa_cons (pv 10) pa_nil))) (pe_slice sl_list (pv 4) (po_some (pv 11)) po_none)))))))))))
    (pss_one (ps_ret (pv 4))))), ?_⟩
    walk_at "in"
    walk_at "rd"
    refine Lay.rd_listL (SqL.of hsg) (fun r0 hr0 => ?_)
    have s0 := Lay.Same.upd (o := .lst ys) hr0
    walk_at "rd"
    refine Lay.rd_for ?_
    walk_at "rd"
    refine Lay.rd_draw hp s0 (by omega) (by decide) (by decide) (fun m H1 m0 m1 p1 k1 => ?_)
    obtain ⟨xs0, hP0⟩ := hp.at_
    have K1 := Lay.Same.keep s0 k1
    have e1 : H1 r0 = some (.lst ys) := k1 _ _ (Lay.ne_none hr0 hP0) upd_same
    walk_at "rd"
    refine ⟨_, rfl, by omega, by omega, ?_⟩
    refine Lay.for_go (walk_range (lo := 0) (n := (1 + m).toNat)) (fun i σ' H' => ∃ r zs ls acc o5 o6 o7 o8 o9 o10 o11, σ' = [some (V.ref p), some (V.int k), some (V.ref vl), some (V.ref sg), some (V.ref r), o5, o6, o7, o8, o9, o10, o11] ∧ H r = none ∧ H' r = some (.lst zs) ∧ Lay.RowsAt H' zs ls ∧ ls.Perm (ss ++ acc) ∧ acc.length = i ∧ (∀ l ∈ acc, NetG.AccOk k vits l) ∧ Lay.PenAt c H' p (n + 1 + 7 * i) ∧ Lay.Keep p H H')
      ⟨r0, ys, ss, [], none, none, none, none, none, none, none, rfl, hr0, e1, hss.keep hP0 K1, (by rw [List.append_nil]), rfl, (by intro _ x; cases x), p1, K1⟩ (fun _ _ _ _ _ => trivial) ?_ ?_
    · rintro i x σ' H2 H3 hi ⟨r, zs, ls, acc, o5, o6, o7, o8, o9, o10, o11, rfl, hr, er, hrow, hperm, hacc, haok, p2, K2⟩ hy
      obtain ⟨rfl, rfl⟩ := hy
      have i4 : i < 4 := by omega
      have llen : ls.length ≤ 16 := by rw [hperm.length_eq, List.length_append]; omega
      have zlen := hrow.len
      obtain ⟨xs2, hP2⟩ := p2.at_
      walk_at "rd"
      refine ⟨by decide, fun a1 h1 => ?_⟩
      have s1 := Lay.Same.upd (o := .lst (NetG.upWs.map V.str)) h1
      walk_at "rd"
      have hm : (if decide (k > 0) = true then (1 : Int) else 0) = (if k > 0 then 1 else 0) := by by_cases e : k > 0 <;> simp [e]
      rw [hm]
      have hm1 : (0 : Int) < 2 + 5 * (if k > 0 then 1 else 0) ∧ 2 + 5 * (if k > 0 then 1 else 0) < (1073741824 : Int) := by split <;> omega
      refine Lay.rd_draw p2 s1 (by omega) hm1.1 hm1.2 (fun d H4 d0 d1 p4 k4 => ?_)
      obtain ⟨wd, ew, hw1, hw2⟩ := NetG.up_word d0 k0 d1
      have e4 := k4 a1 _ (Lay.ne_none h1 hP2) upd_same
      have K4 := K2.trans (Lay.Same.keep s1 k4)
      have vl4 : H4 vl = some (.lst vvs) := K4 _ _ vlp hvl
      have k4' := Lay.Same.keep s1 k4
      have hP2' := hP2
      clear p2 K2 k4
      refine Lay.rd_ixL (SqL.of e4) (v := .str wd) (Lay.atI_int d0 (by show (List.map V.str NetG.upWs)[d.toNat]? = _; rw [List.getElem?_map, ew]; rfl)) ?_
      walk_at "rd"
      refine Lay.rd_draw p4 (L2.Same.refl _) (by omega) (by omega) (by omega) (fun d5 H5 b0 b1 p5 k5 => ?_)
      have K5 := K4.trans k5
      have vl5 := k5 _ _ vlp vl4
      have ev : vvs[d5.toNat]? = some (vvs[d5.toNat]'(by omega)) := List.getElem?_eq_getElem (by omega)
      obtain ⟨it, ei, ia⟩ := NetL.pget hvs ev
      have im := List.mem_of_getElem? ei
      obtain ⟨z, s, ats, rfl, z1, z8, hz⟩ := hvo it im
      obtain ⟨a, b, ea, ha1, hb1, nb⟩ := ia
      rw [ea] at ev
      have ap : a ≠ p := fun e => by subst e; rw [hP0] at ha1; cases ha1
      have ha5 := K5 _ _ ap ha1
      refine Lay.rd_ixL (SqL.of vl5) (v := .ref a) (Lay.atI_int b0 ev) ?_
      walk_at "rd"
      refine Lay.rd_draw p5 (L2.Same.refl _) (by omega) (by omega) (by omega) (fun f H6 f0 f1 p6 k6 => ?_)
      have ha6 := k6 _ _ ap ha5
      walk_at "rd"
      refine Lay.rd_draw p6 (L2.Same.refl _) (by omega) (by decide) (by decide) (fun sh H7 sh0 sh1 p7 k7 => ?_)
      have ha7 := k7 _ _ ap ha6
      walk_at "rd"
      refine Lay.rd_draw p7 (L2.Same.refl _) (by omega) (by omega) (by omega) (fun g H8 g0 g1 p8 k8 => ?_)
      have K8 := ((K5.trans k6).trans k7).trans k8
      have rp : r ≠ p := fun e => by subst e; rw [hP0] at hr; cases hr
      have kk8 := (((k4'.trans k5).trans k6).trans k7).trans k8
      have er8 := kk8 r _ rp er
      have row8 := hrow.keep hP2' kk8
      clear p5 p6 p7 K4 K5 k5 k6 k7 k8 vl4 vl5 e4 ha5 ha6 ha7
      walk_at "rd"
      refine ⟨by decide, fun t ht => ?_⟩
      have s9 := Lay.Same.upd (o := .tup [.str wd, .str z, .int sh, .int f, .int (f + g)]) ht
      have er9 := s9 _ _ er8
      have t9 : (upd H8 t (.tup [.str wd, .str z, .int sh, .int f, .int (f + g)])) t = some (.tup [.str wd, .str z, .int sh, .int f, .int (f + g)]) := upd_same
      walk_at "rd"
      refine Lay.rd_draw p8 s9 (by omega) (by omega) (by omega) (fun sp H10 sp0 sp1 p10 k10 => ?_)
      obtain ⟨xs8, hP8⟩ := p8.at_
      have hP9 := s9 _ _ hP8
      have er10 := k10 _ _ rp er9
      have t10 := k10 _ _ (fun e => by subst e; rw [hP8] at ht; cases ht) t9
      have row10 := (row8.mono s9).keep hP9 k10
      have K10 := (K8.trans (Lay.Keep.of s9)).trans k10
      clear s9 er9 t9 k10 hP9 er8 row8 K8 p8
      obtain ⟨sn, rfl⟩ : ∃ sn : Nat, sp = sn := ⟨sp.toNat, by omega⟩
      walk_at "rd"
      refine Lay.rd_slLk (SqL.of er10) (by omega) (fun q1 hq1 => ?_)
      have er11 := Lay.upd_old (o := .lst (zs.take sn)) hq1 er10
      walk_at "rd"
      refine ⟨by decide, fun q2 hq2 => ?_⟩
      walk_at "rd"
      refine Lay.rd_cat (Lay.upd_old hq2 upd_same) upd_same (Nat.le_trans (show _ ≤ 100 by rw [List.length_take]; show min sn zs.length + 1 ≤ 100; omega) (by decide)) (fun q3 hq3 => ?_)
      walk_at "rd"
      refine Lay.rd_slL (SqL.of (Lay.upd_old hq3 (Lay.upd_old hq2 er11))) (fun q4 hq4 => ?_)
      rw [Lay.cut_drop (by omega)]
      refine Lay.rd_cat (Lay.upd_old hq4 upd_same) upd_same (Nat.le_trans (show _ ≤ 100 by rw [List.length_append, List.length_take, List.length_drop]; show min sn zs.length + 1 + (zs.length - sn) ≤ 100; omega) (by decide)) (fun q5 hq5 => ?_)
      have S := Lay.Same.upd' (o := .lst (zs.take sn ++ [V.ref t] ++ zs.drop sn)) (Lay.Same.upd' (o := .lst (zs.drop sn)) (Lay.Same.upd' (o := .lst (zs.take sn ++ [V.ref t])) (Lay.Same.upd' (o := .lst [V.ref t]) (Lay.Same.upd (o := .lst (zs.take sn)) hq1) hq2) hq3) hq4) hq5
      obtain ⟨xsS, hPS⟩ := (p10.mono S).at_
      have rowS := row10.mono S
      have tS := S _ _ t10
      have hq5' : H10 q5 = none := Lay.none_of (Lay.Same.upd' (o := .lst (zs.drop sn)) (Lay.Same.upd' (o := .lst (zs.take sn ++ [V.ref t])) (Lay.Same.upd' (o := .lst [V.ref t]) (Lay.Same.upd (o := .lst (zs.take sn)) hq1) hq2) hq3) hq4) hq5
      obtain ⟨xs10, hP10⟩ := p10.at_
      refine ⟨q5, _, ls.take sn ++ [[.str wd, .str z, .int sh, .int f, .int (f + g)]] ++ ls.drop sn, acc ++ [[.str wd, .str z, .int sh, .int f, .int (f + g)]], _, _, _, _, _, _, _, rfl, K10.none hP10 hq5', upd_same, ((rowS.take sn).append (.cons tS .nil)).append (rowS.drop sn), ?_, by rw [List.length_append, hacc]; rfl, ?_, (p10.mono S).le (by omega), K10.trans (Lay.Keep.of S)⟩
      · rw [← List.append_assoc]
        exact NetG.ins_perm _ _ _ _ hperm
      · intro l hl
        rcases List.mem_append.mp hl with hl | hl
        · exact haok l hl
        · rw [List.mem_singleton] at hl
          subst hl
          exact ⟨wd, z, sh, f, f + g, s, ats, rfl, im, by omega, .inr ⟨wd, z, sh, f, f + g, rfl, hw2, hw1, hz, by omega, by omega, by omega, by omega, by omega⟩⟩
    · rintro σ' H2 ⟨r, zs, ls, acc, o5, o6, o7, o8, o9, o10, o11, rfl, hr, er, hrow, hperm, hacc, haok, p2, K2⟩
      walk_at "rd"
      exact q r zs ls acc H2 hr er hrow hperm (by omega) (by omega) haok (p2.le (by omega)) K2
theorem ok_items (T : Txt K mg A) (G_draw : FnOk P w K mg base CX0 1 A.a_draw A.d_draw ["_law_pen_here", "_law_many"] Lay.spDraw) (G_steps : FnOk P w K mg base CX0 2 A.a_steps A.d_steps ["_law_pen_here", "_law_kind", "_law_variables_here", "_law_signalled"] NetG.spSteps) : FnOk P w K mg base CX0 3 A.a_items A.d_items ["_law_pen_here", "_law_slots_here"] NetG.spItems := by
  refine T.F_items.ok sc_items (fun vs H Q E h => ?_) (fun cdv A0 outer s H vs Q E hr h => ?_)
  · obtain ⟨p, n, c, ring, rfl, _⟩ := h
    rfl
  · obtain ⟨p, n, c, ring, rfl, hp, hn, rg1, rg4, q⟩ := h
    obtain ⟨xs0, hP0⟩ := hp.at_
    obtain ⟨xc0, hC0⟩ := hp.cell
    refine ⟨_, (pss_cons (ps_set (i := 2) sc_items.nd rfl (Or.inl rfl) (pe_lst pa_nil))
    (pss_cons (ps_set (i := 3) sc_items.nd rfl (Or.inl rfl) (pe_call G_draw (hr.mono (by decide)) rfl T.g_draw T.F_draw.kp T.b_draw .nil pass0 (pa_cons (pv 0) (pa_cons pe_int pa_nil))))
    (Evl.pss_cut (ps_for PassesOwn.never rfl (pi_range1 rfl T.n_range (pa_cons (pe_op op_add pe_int (pe_call G_draw (hr.mono (by decide)) rfl T.g_draw T.F_draw.kp T.b_draw .nil pass0 (pa_cons (pv 0) (pa_cons pe_int pa_nil)))) pa_nil)) (pg_name (i := 4) sc_items.nd rfl (Or.inl rfl))
      (pss_cons (ps_set (i := 5) sc_items.nd rfl (Or.inl rfl) (pe_op op_add pe_int (pe_call G_draw (hr.mono (by decide)) rfl T.g_draw T.F_draw.kp T.b_draw .nil pass0 (pa_cons (pv 0) (pa_cons pe_int pa_nil)))))
      (pss_cons (ps_set (i := 6) sc_items.nd rfl (Or.inl rfl) (pe_lst pa_nil))
      (pss_cons (ps_for PassesOwn.never rfl (pi_range1 rfl T.n_range (pa_cons (pe_ix ix_list (pe_lst (pa_cons pe_int (pa_cons (pv 1) pa_nil))) (pe_call G_draw (hr.mono (by decide)) rfl T.g_draw T.F_draw.kp T.b_draw .nil pass0 (pa_cons (pv 0) (pa_cons pe_int pa_nil))) (fun _ _ => rfl)) pa_nil)) (pg_name (i := 7) sc_items.nd rfl (Or.inl rfl))
        (pss_cons (ps_expr (pe_bm PySem.F.plainAttrs_list PySem.F.slot_list_append PySem.F.type_list_append mt_append (pv 6) (pa_cons (pv 3) pa_nil)))
        (pss_one (ps_set (i := 3) sc_items.nd rfl (Or.inl rfl) (pe_op op_add (pe_op op_add (pv 3) (pv 5)) (pe_call G_draw (hr.mono (by decide)) rfl T.g_draw T.F_draw.kp T.b_draw .nil pass0 (pa_cons (pv 0) (pa_cons pe_int pa_nil))))))))
      (Evl.pss_cut (ps_if (pt_cmpR op_eq (pe_call G_draw (hr.mono (by decide)) rfl T.g_draw T.F_draw.kp T.b_draw .nil pass0 (pa_cons (pv 0) (pa_cons pe_int pa_nil))) pe_int (nomark _))
        (pss_one (ps_set (i := 6) sc_items.nd rfl (Or.inl rfl) (pe_op op_cat (pe_slice sl_list (pv 6) (po_some pe_int) po_none) (pe_slice sl_list (pv 6) po_none (po_some pe_int)))))
        pss_nil)
      (Evl.pss_cut (ps_if (pt_cmpR op_eq (pe_call G_draw (hr.mono (by decide)) rfl T.g_draw T.F_draw.kp T.b_draw .nil pass0 (pa_cons (pv 0) (pa_cons pe_int pa_nil))) pe_int (nomark _))
        (pss_one (ps_set (i := 6) sc_items.nd rfl (Or.inl rfl) (Lay.pe_listRev (by rfl) (by rfl) T.n_list (by rfl) T.n_reversed (pe_callTy Lay.call_listS (by rfl) T.n_list (by decide +kernel) (pa_cons (pv 6) pa_nil)))))
        pss_nil)
      (pss_one (ps_expr (pe_bm PySem.F.plainAttrs_list PySem.F.slot_list_append PySem.F.type_list_append mt_append (pv 2) (pa_cons (pe_tup (pa_cons pe_str (pa_cons (pe_op op_add_str pe_str (pe_ix ix_str pe_str (pv 4) (fun _ _ => rfl))) (pa_cons (pv 5) (pa_cons (pv 6) pa_nil))))) pa_nil))))))))))
    (pss_cons (ps_set (i := 8) sc_items.nd rfl (Or.inl rfl) (pe_callTy Lay.call_listS (by rfl) T.n_list (by decide +kernel) (pa_cons (pv 2) pa_nil)))
    (pss_cons (ps_set (i := 9) sc_items.nd rfl (Or.inl rfl) (pe_op op_add pe_int (pe_call G_draw (hr.mono (by decide)) rfl T.g_draw T.F_draw.kp T.b_draw .nil pass0 (pa_cons (pv 0) (pa_cons pe_int pa_nil)))))
    (pss_cons (ps_setLc (i := 10) (own := [("_law_k", 4)]) (g := gName 4) (tt := tYes) rfl sc_items.nd rfl rfl (sw_true rfl rfl rfl (by decide +kernel)) (pi_range1 rfl T.n_range (pa_cons (pv 9) pa_nil)) (blkOk_by (own := [("_law_k", 4)]) (N := ["_law_pen_here", "_law_slots_here", "_law_items_here", "_law_free", "_law_k", "_law_big", "_law_spots", "_law_j", "_law_variables_here", "_law_many", "_law_signalled", "_law_kind"]) (sc := defScope s_items) (by decide +kernel)) (fun _ _ _ _ _ => pg_name (i := 4) sc_items.nd rfl (Or.inl rfl)) (fun _ _ _ _ _ => pts_nil) (fun _ _ _ _ _ => (pe_lst pa_nil)))
    (Evl.pss_cut (ps_for PassesOwn.never rfl (pi_range1 rfl T.n_range (pa_cons (pe_ix ix_list (pe_lst (pa_cons pe_int (pa_cons pe_int (pa_cons pe_int (pa_cons pe_int (pa_cons pe_int (pa_cons pe_int pa_nil))))))) (pe_call G_draw (hr.mono (by decide)) rfl T.g_draw T.F_draw.kp T.b_draw .nil pass0 (pa_cons (pv 0) (pa_cons pe_int pa_nil))) (fun _ _ => rfl)) pa_nil)) (pg_name (i := 4) sc_items.nd rfl (Or.inl rfl))
      (pss_cons (ps_expr (pe_bm PySem.F.plainAttrs_list PySem.F.slot_list_append PySem.F.type_list_append mt_append (pv 2) (pa_cons (pe_tup (pa_cons pe_str (pa_cons (pe_op op_add_str pe_str (pe_ix ix_str pe_str (pv 4) (fun _ _ => rfl))) (pa_cons (pe_call G_draw (hr.mono (by decide)) rfl T.g_draw T.F_draw.kp T.b_draw .nil pass0 (pa_cons (pv 0) (pa_cons pe_int pa_nil))) pa_nil)))) pa_nil)))
      (pss_cons (ps_expr (pe_bm PySem.F.plainAttrs_list PySem.F.slot_list_append PySem.F.type_list_append mt_append (pe_ix ix_list (pv 10) (pe_call G_draw (hr.mono (by decide)) rfl T.g_draw T.F_draw.kp T.b_draw .nil pass0 (pa_cons (pv 0) (pa_cons (pv 9) pa_nil))) (fun _ _ => rfl)) (pa_cons (pe_tup (pa_cons pe_str (pa_cons (pe_op op_add_str pe_str (pe_ix ix_str pe_str (pv 4) (fun _ _ => rfl))) pa_nil))) pa_nil)))
      (pss_one (ps_expr (pe_bm PySem.F.plainAttrs_list PySem.F.slot_list_append PySem.F.type_list_append mt_append (pe_ix ix_list (pv 10) (pe_call G_draw (hr.mono (by decide)) rfl T.g_draw T.F_draw.kp T.b_draw .nil pass0 (pa_cons (pv 0) (pa_cons (pv 9) pa_nil))) (fun _ _ => rfl)) (pa_cons (pe_tup (pa_cons pe_str (pa_cons (pe_op op_add_str pe_str (pe_ix ix_str pe_str (pv 4) (fun _ _ => rfl))) pa_nil))) pa_nil)))))))
    (pss_cons (ps_for PassesOwn.never rfl (pi_range1 rfl T.n_range (pa_cons (pv 9) pa_nil)) (pg_name (i := 4) sc_items.nd rfl (Or.inl rfl))
      (pss_cons (ps_set (i := 11) sc_items.nd rfl (Or.inl rfl) (pe_call G_draw (hr.mono (by decide)) rfl T.g_draw T.F_draw.kp T.b_draw .nil pass0 (pa_cons (pv 0) (pa_cons pe_int pa_nil))))
      (pss_one (ps_expr (pe_bm PySem.F.plainAttrs_list PySem.F.slot_list_append PySem.F.type_list_append mt_append (pv 2) (pa_cons (pe_tup (pa_cons pe_str (pa_cons (pe_op op_add_str pe_str (pe_ix ix_str pe_str (pv 4) (fun _ _ => rfl))) (pa_cons (pv 11) (pa_cons (pe_call G_steps (hr.mono (by decide)) rfl T.g_steps T.F_steps.kp T.b_steps .nil pass0 (pa_cons (pv 0) (pa_cons (pv 11) (pa_cons (pv 8) (pa_cons (pe_ix ix_list (pv 10) (pv 4) (fun _ _ => rfl)) pa_nil))))) pa_nil))))) pa_nil))))))
    (pss_one (ps_ret (pv 2))))))))))), ?_⟩
    walk_at "in"
    walk_at "rd"
    refine ⟨by decide, fun D hD => ?_⟩
    have s0 := Lay.Same.upd (o := .lst []) hD
    have Dp : D ≠ p := Lay.ne_none hD hP0
    have Dc : D ≠ c := Lay.ne_none hD hC0
    have ph0 : NetG.Ph c p D [] (upd H D (.lst [])) n [] [] [] := ⟨hp.mono s0, upd_same, .nil, ⟨rfl, List.Pairwise.nil, fun i b ls e => by simp at e⟩, Dp, Dc, (fun h => nomatch h), (fun h => nomatch h), (fun h => nomatch h)⟩
    walk_at "rd"
    refine Lay.rd_draw hp s0 (by omega) (by decide) (by decide) (fun fr H1 f0 f9 p1 k1 => ?_)
    have K1 := Lay.Same.keep s0 k1
    have ph1 := ph0.draw p1 k1
    clear ph0 k1 s0 p1
    walk_at "rd"
    refine ⟨fun σ' H' => ∃ (i : Nat) (fr : Int) (l : List V) (vits : List NetL.It) (o4 o5 o6 o7 : Option V), σ' = [some (V.ref p), some (V.int ring), some (V.ref D), some (V.int fr), o4, o5, o6, o7, none, none, none, none] ∧ 1 ≤ i ∧ i ≤ 3 ∧ 0 ≤ fr ∧ fr ≤ 8 + 55 * (i : Int) ∧ NetG.Ph c p D [] H' (n + 60) l vits [] ∧ NetG.VarsG ring i fr vits ∧ Lay.Keep p H H', ?_, ?_⟩
    · walk_at "rd"
      refine Lay.rd_for ?_
      walk_at "rd"
      refine Lay.rd_draw ph1.pen (L2.Same.refl _) (by omega) (by decide) (by decide) (fun m H2 m0 m1 p2 k2 => ?_)
      have ph2 := ph1.draw p2 k2
      have K2 := K1.trans k2
      clear ph1 K1 k2 p2
      walk_at "rd"
      refine ⟨_, rfl, by omega, by omega, ?_⟩
      refine Lay.for_go (walk_range (lo := 0) (n := (1 + m).toNat)) (fun i σ' H' => ∃ (fr : Int) (l : List V) (vits : List NetL.It) (o4 o5 o6 o7 : Option V), σ' = [some (V.ref p), some (V.int ring), some (V.ref D), some (V.int fr), o4, o5, o6, o7, none, none, none, none] ∧ 0 ≤ fr ∧ fr ≤ 8 + 55 * (i : Int) ∧ NetG.Ph c p D [] H' (n + 2 + 8 * i) l vits [] ∧ NetG.VarsG ring i fr vits ∧ Lay.Keep p H H')
        ⟨fr, [], [], none, none, none, none, rfl, f0, by omega, ph2, NetG.VarsG.nil, K2⟩ (fun _ _ _ _ _ => trivial) ?_ ?_
      · rintro i x σ' H3 H4 hi ⟨fr, l, vits, o4, o5, o6, o7, rfl, fr0, fr1, ph3, vg, K3⟩ hy
        obtain ⟨rfl, rfl⟩ := hy
        have i3 : i < 3 := by omega
        walk_at "rd"
        refine Lay.rd_draw ph3.pen (L2.Same.refl _) (by omega) (by decide) (by decide) (fun b H5 b0 b1 p5 k5 => ?_)
        walk_at "rd"
        refine ⟨by decide, fun W hW => ?_⟩
        obtain ⟨xs5, hP5⟩ := p5.at_
        have s5 := Lay.Same.upd (o := .lst []) hW
        have W4 : H4 W = none := k5.none hP5 hW
        walk_at "rd"
        refine Lay.rd_for ?_
        walk_at "rd"
        refine ⟨by decide, fun L hL => ?_⟩
        have s6 := s5.trans (Lay.Same.upd (o := .lst [V.int 1, V.int ring]) hL)
        have hP6 := s6 _ _ hP5
        walk_at "rd"
        refine Lay.rd_draw p5 s6 (by omega) (by decide) (by decide) (fun d7 H7 d0 d1 p7 k7 => ?_)
        obtain ⟨cnt, ec, hc⟩ := Lay.two_at (i := 1) (j := ring) d0 d1
        have eL7 := k7 L _ (Lay.ne_none hL (s5 _ _ hP5)) upd_same
        have eW7 : H7 W = some (.lst []) := k7 W _ (Lay.ne_none hW hP5) (Lay.upd_old hL upd_same)
        have K7 : Lay.Keep p H4 H7 := (k5.trans (Lay.Keep.of s6)).trans k7
        obtain ⟨c1, c4⟩ := NetG.two_le (m := ring) cnt hc rg1 rg4
        clear hP6 s6 k7 s5 k5 p5 hP5 hW hL
        refine Lay.rd_ixL (SqL.of eL7) ec ?_
        walk_at "rd"
        refine ⟨_, rfl, by omega, by omega, ?_⟩
        have Wp : W ≠ p := fun e => by subst e; obtain ⟨xs4, h4⟩ := ph3.pen.at_; rw [h4] at W4; cases W4
        have Wc : W ≠ c := fun e => by subst e; obtain ⟨xs4, h4⟩ := ph3.pen.cell; rw [h4] at W4; cases W4
        refine Lay.for_go (walk_range (lo := 0) (n := cnt.toNat)) (fun j σ' H' => ∃ (fr' : Int) (ns : List Int) (o7 : Option V), σ' = [some (V.ref p), some (V.int ring), some (V.ref D), some (V.int fr'), some (V.int (0 + (i : Nat))), some (V.int (1 + b)), some (V.ref W), o7, none, none, none, none] ∧ H' W = some (.lst (ns.map V.int)) ∧ ns.length = j ∧ NetG.SpotsG fr (1 + b) fr' ns ∧ fr ≤ fr' ∧ fr' ≤ fr + 11 * (j : Int) ∧ Lay.PenAt c H' p (n + 2 + 8 * i + 2 + j) ∧ Lay.Keep p H4 H')
          ⟨fr, [], _, rfl, eW7, rfl, NetG.SpotsG.nil, by omega, by omega, p7, K7⟩ (fun _ _ _ _ _ => trivial) ?_ ?_
        · rintro j y σ' H8 H9 hj ⟨fr', ns, o7, rfl, eW8, nl, sp, g0, g1, p8, K8⟩ hy
          obtain ⟨rfl, rfl⟩ := hy
          walk_at "rd"
          refine Lay.rd_bm ?_
          walk_at "rd"
          refine ⟨Lay.tyV_lst eW8, ?_⟩
          walk_at "rd"
          refine ⟨W, _, _, rfl, rfl, eW8, Nat.lt_of_le_of_lt (show _ ≤ 100 by rw [List.length_map]; omega) (by decide), ?_⟩
          have p9 := p8.other (o := .lst (ns.map V.int ++ [V.int fr'])) Wp Wc
          walk_at "rd"
          refine Lay.rd_draw p9 (L2.Same.refl _) (by omega) (by decide) (by decide) (fun d H10 e0 e1 p10 k10 => ?_)
          walk_at "rd"
          refine ⟨fr' + (1 + b) + d, ns ++ [fr'], _, rfl, ?_, by rw [List.length_append, nl]; rfl, sp.app g0 (by omega) (by omega), by omega, by omega, p10.le (by omega), ?_⟩
          · rw [k10 W _ Wp upd_same, List.map_append]; rfl
          · intro b' o hb ho
            refine k10 b' o hb ?_
            rw [upd_ne (fun e => by subst e; rw [W4] at ho; cases ho)]
            exact K8 b' o hb ho
        rintro σ' H8 ⟨fr', ns, o7, rfl, eW8, nl, sp, g0, g1, p8, K8⟩
        have l1 : 1 ≤ ns.length := by omega
        have l4 : ns.length ≤ 4 := by omega
        have lr : (ns.length : Int) = 1 ∨ (ns.length : Int) = ring := by omega
        have g2 : fr' ≤ fr + 44 := by omega
        clear K7 p7 eW7 eL7 g1
        walk_at "rd"
        refine ⟨fun σ' H' => ∃ (W : Addr) (ns : List Int), σ' = [some (V.ref p), some (V.int ring), some (V.ref D), some (V.int fr'), some (V.int (0 + (i : Nat))), some (V.int (1 + b)), some (V.ref W), o7, none, none, none, none] ∧ H4 W = none ∧ H' W = some (.lst (ns.map V.int)) ∧ 1 ≤ ns.length ∧ ns.length ≤ 4 ∧ ((ns.length : Int) = 1 ∨ (ns.length : Int) = ring) ∧ NetG.SpotsG fr (1 + b) fr' ns ∧ Lay.PenAt c H' p (n + 2 + 8 * i + 7) ∧ Lay.Keep p H4 H', ?_, ?_⟩
        · walk_at "rd"
          refine Lay.rd_draw p8 (L2.Same.refl _) (by omega) (by decide) (by decide) (fun d9 H9 e0 e1 p9 k9 => ?_)
          have eW9 := k9 W _ Wp eW8
          have K9 := K8.trans k9
          walk_at "rd"
          refine Lay.ite_d (fun _ => ?_) (fun _ => ?_)
          · walk_at "rd"
            refine Lay.rd_slD (SqL.of eW9) (by rw [List.length_map]; omega) (fun q1 hq1 => ?_)
            walk_at "rd"
            refine Lay.rd_slL (SqL.of (Lay.upd_old hq1 eW9)) (fun q2 hq2 => ?_)
            rw [Lay.cut_to (by rw [List.length_map]; omega)]
            refine Lay.rd_cat (Lay.upd_old hq2 upd_same) upd_same (Nat.le_trans (show _ ≤ 100 by rw [List.length_drop, List.length_take, List.length_map]; omega) (by decide)) (fun q3 hq3 => ?_)
            have S2 := Lay.Same.upd' (o := .lst ((ns.map V.int).take 1)) (Lay.Same.upd (o := .lst ((ns.map V.int).drop 1)) hq1) hq2
            have S3 := Lay.Same.upd' (o := .lst ((ns.map V.int).drop 1 ++ (ns.map V.int).take 1)) S2 hq3
            obtain ⟨xs9, hP9⟩ := p9.at_
            walk_at "rd"
            have pm : (ns.drop 1 ++ ns.take 1).Perm ns := List.perm_append_comm.trans (by rw [List.take_append_drop])
            refine ⟨q3, ns.drop 1 ++ ns.take 1, rfl, K9.none hP9 (Lay.none_of S2 hq3), by rw [upd_same, List.map_append, List.map_drop, List.map_take], by rw [pm.length_eq]; exact l1, by rw [pm.length_eq]; exact l4, by rw [pm.length_eq]; exact lr, sp.perm pm, (p9.mono S3).le (by omega), K9.trans (Lay.Keep.of S3)⟩
          · walk_at "it"
            exact ⟨W, ns, rfl, W4, eW9, l1, l4, lr, sp, p9.le (by omega), K9⟩
        clear p8 K8 eW8 sp lr l1 l4 nl W4 Wp Wc
        rintro σ' H9 ⟨W, ns, rfl, W4, eW9, l1, l4, lr, sp, p9, K9⟩
        obtain ⟨xs9, hP9⟩ := p9.at_
        have Wp : W ≠ p := fun e => by subst e; obtain ⟨xs4, h4⟩ := ph3.pen.at_; rw [h4] at W4; cases W4
        walk_at "rd"
        refine ⟨fun σ' H' => ∃ (W : Addr) (ns : List Int), σ' = [some (V.ref p), some (V.int ring), some (V.ref D), some (V.int fr'), some (V.int (0 + (i : Nat))), some (V.int (1 + b)), some (V.ref W), o7, none, none, none, none] ∧ H4 W = none ∧ H' W = some (.lst (ns.map V.int)) ∧ 1 ≤ ns.length ∧ ns.length ≤ 4 ∧ ((ns.length : Int) = 1 ∨ (ns.length : Int) = ring) ∧ NetG.SpotsG fr (1 + b) fr' ns ∧ Lay.PenAt c H' p (n + 2 + 8 * i + 8) ∧ Lay.Keep p H4 H', ?_, ?_⟩
        · walk_at "rd"
          refine Lay.rd_draw p9 (L2.Same.refl _) (by omega) (by decide) (by decide) (fun d10 H10 e0 e1 p10 k10 => ?_)
          have eW10 := k10 W _ Wp eW9
          have K10 := K9.trans k10
          obtain ⟨xs10, hP10⟩ := p10.at_
          walk_at "rd"
          refine Lay.ite_d (fun _ => ?_) (fun _ => ?_)
          · walk_at "rd"
            refine Lay.rd_listRev ?_
            walk_at "rd"
            refine Lay.rd_listL (SqL.of eW10) (fun q1 hq1 => ?_)
            refine ⟨q1, _, rfl, SqL.of upd_same, fun q2 hq2 => ?_⟩
            have S1 := Lay.Same.upd (o := .lst (ns.map V.int)) hq1
            have S2 := Lay.Same.upd' (o := .lst (ns.map V.int).reverse) S1 hq2
            walk_at "rd"
            have pm : ns.reverse.Perm ns := List.reverse_perm ns
            exact ⟨q2, ns.reverse, rfl, K10.none hP10 (Lay.none_of S1 hq2), by rw [upd_same, List.map_reverse], by rw [pm.length_eq]; exact l1, by rw [pm.length_eq]; exact l4, by rw [pm.length_eq]; exact lr, sp.perm pm, (p10.mono S2).le (by omega), K10.trans (Lay.Keep.of S2)⟩
          · walk_at "it"
            exact ⟨W, ns, rfl, W4, eW10, l1, l4, lr, sp, p10.le (by omega), K10⟩
        clear p9 K9 eW9 sp lr l1 l4 W4 Wp hP9
        rintro σ' H10 ⟨W, ns, rfl, W4, eW10, l1, l4, lr, sp, p10, K10⟩
        have ph10 := ph3.draw p10 K10
        obtain ⟨cc, e1, e2⟩ := NetG.sign_v i3
        walk_at "rd"
        refine Lay.rd_bm ?_
        walk_at "rd"
        refine ⟨Lay.tyV_lst ph10.eD, ?_⟩
        walk_at "rd"
        refine Lay.rd_ixStr (by decide) (by omega) (by rw [show ((0 : Int) + ((i : Nat) : Int)).toNat = i by omega]; exact e1) ?_
        refine ⟨_, _, rfl, rfl, (by show 1 + 1 ≤ sizeLine; decide), ?_⟩
        rw [e2]
        walk_at "rd"
        refine ⟨by decide, fun t ht => ?_⟩
        have ph11 := ph10.mono (Lay.Same.upd (o := .tup [.str "var", .str (NetG.vN i), .int (1 + b), .ref W]) ht)
        have eW11 := Lay.upd_old (o := .tup [.str "var", .str (NetG.vN i), .int (1 + b), .ref W]) ht eW10
        have it : NetG.ItemAt (p :: D :: []) (upd H10 t (.tup [.str "var", .str (NetG.vN i), .int (1 + b), .ref W])) (.ref t) (.vr (NetG.vN i) (1 + b) ns) := ⟨t, W, rfl, upd_same, eW11, ph3.new W4⟩
        walk_at "rd"
        refine ⟨D, _, _, rfl, rfl, ph11.eD, Nat.lt_of_le_of_lt (show _ ≤ 100 by rw [ph11.items.length, vg.len]; omega) (by decide), ?_⟩
        have ph12 := ph11.app it
        refine ⟨fr', _, _, _, _, _, _, rfl, by omega, by omega, ph12.le (by omega), vg.add i3 fr0 g0 (by omega) (by omega) l1 l4 lr sp, ?_⟩
        intro b' o hb ho
        have hDn : H D = none := hD
        rw [upd_ne (fun e => by subst e; rw [hDn] at ho; cases ho)]
        exact Lay.upd_old ht (K10 b' o hb (K3 b' o hb ho))
      · rintro σ' H3 ⟨fr, l, vits, o4, o5, o6, o7, rfl, fr0, fr1, ph3, vg, K3⟩
        walk_at "rd"
        exact ⟨_, fr, l, vits, o4, o5, o6, o7, rfl, by omega, by omega, fr0, fr1, ph3.le (by omega), vg, K3⟩
    clear ph1 K1
    rintro σ' H1 ⟨nv, fr, l, vits, o4, o5, o6, o7, rfl, nv1, nv3, fr0, fr1, ph1, vg, K1⟩
    have vlen := vg.len
    have phD := ph1.eD
    walk_at "rd"
    refine Lay.rd_listL (SqL.of phD) (fun VL hVL => ?_)
    have sV := Lay.Same.upd (o := .lst l) hVL
    have ph2 := ph1.mono sV
    have eVL : (upd H1 VL (.lst l)) VL = some (.lst l) := upd_same
    have VLs := ph1.new hVL
    have K2 := K1.trans (Lay.Keep.of sV)
    generalize upd H1 VL (.lst l) = H2 at ph2 eVL K2 ⊢
    clear sV hVL phD ph1 K1
    walk_at "rd"
    refine Lay.rd_draw ph2.pen (L2.Same.refl _) (by omega) (by decide) (by decide) (fun mm H3 m0 m1 p3 k3 => ?_)
    have ph3 := ph2.draw p3 k3
    have K3 := K2.trans k3
    have VLp : VL ≠ p := fun e => VLs (by rw [e]; exact List.mem_cons_self)
    have eVL3 := k3 _ _ VLp eVL
    clear ph2 p3 K2 k3 eVL
    walk_at "rd"
    refine ⟨_, rfl, by omega, by omega, ?_⟩
    intro G hG
    obtain ⟨xs3, hP3⟩ := ph3.pen.at_
    have HG : H G = none := K3.none hP3 hG
    refine Lay.lc_go (walk_range (lo := 0) (n := (1 + mm).toNat)) (fun i l' H' => ∃ bs : List Addr, l' = bs.map V.ref ∧ bs.length = i ∧ NetG.HeapsAt H' bs (List.replicate i []) ∧ L2.Same H3 H' ∧ G ∉ bs ∧ ∀ b ∈ bs, H3 b = none) ⟨[], rfl, rfl, ⟨rfl, List.Pairwise.nil, fun i b ls e => by simp at e⟩, Lay.Same.upd hG, (fun h => nomatch h), (fun _ h => nomatch h)⟩ (fun _ _ _ _ _ => trivial) ?_ ?_
    · rintro i l' x H4 H5 hi hl' hz' ⟨bs, rfl, r2, r3, r4, r5, r6⟩ hy
      obtain ⟨rfl, rfl⟩ := hy
      walk_at "rd"
      refine ⟨rfl, ?_⟩
      walk_at "it"
      refine ⟨by decide, fun b hb => ?_⟩
      have bG : G ≠ b := fun e => by subst e; rw [hl'] at hb; cases hb
      have hl6 := Lay.upd_old (o := .lst []) hb hl'
      have hs6 := r3.new hb
      refine Lay.lc_put hl6 hz' (by omega) ⟨bs ++ [b], by rw [List.map_append]; rfl, by rw [List.length_append, r2]; rfl, ?_, ?_, ?_, ?_⟩
      · rw [List.replicate_succ']
        refine hs6.stay (S := [G]) (fun a m => by rw [List.mem_singleton] at m; subst m; exact ⟨_, hl6⟩) (fun a m e => ?_) (NetG.Stay.upd List.mem_cons_self)
        rw [List.mem_singleton] at e
        subst e
        rcases List.mem_append.mp m with m | m
        · exact r5 m
        · rw [List.mem_singleton] at m
          exact bG m
      · intro b' o ho
        rw [upd_ne (fun e => by subst e; rw [hG] at ho; cases ho)]
        exact Lay.upd_old hb (r4 _ _ ho)
      · intro m
        rcases List.mem_append.mp m with m | m
        · exact r5 m
        · rw [List.mem_singleton] at m
          exact bG m
      · intro a m
        rcases List.mem_append.mp m with m | m
        · exact r6 a m
        · rw [List.mem_singleton] at m
          subst m
          exact Lay.none_of r4 hb
    rintro l' H4 hl4 hz4 ⟨bs, rfl, bl, hs4, s4, Gb, bn⟩
    have lm : (List.replicate (1 + mm).toNat ([] : List (List V))).length = (1 + mm).toNat := List.length_replicate
    have lf : (List.replicate (1 + mm).toNat ([] : List (List V))).flatten = [] := by rw [List.flatten_replicate_nil]
    generalize List.replicate (1 + mm).toNat ([] : List (List V)) = lss0 at hs4 lm lf
    obtain ⟨mn, emn⟩ : ∃ mn : Nat, (1 + mm).toNat = mn := ⟨_, rfl⟩
    have emn' : 1 + mm = (mn : Int) := by omega
    have mn4 : mn ≤ 4 := by omega
    have mn1 : 1 ≤ mn := by omega
    rw [emn] at lm bl
    have ph4 : NetG.Ph c p D bs H4 (n + 61) l vits lss0 := by
      have z := ph3.mono s4
      refine ⟨z.pen, z.eD, ?_, hs4, z.Dp, z.Dc, fun m => ?_, fun m => ?_, fun m => ?_⟩
      · refine (ph3.items.off (fun b o nb hb m => ?_)).mono s4
        rcases List.mem_cons.mp m with e | m
        · exact nb (by rw [e]; exact List.mem_cons_self)
        · rcases List.mem_cons.mp m with e | m
          · exact nb (by rw [e]; exact List.mem_cons_of_mem _ List.mem_cons_self)
          · rw [bn b m] at hb; cases hb
      · rw [bn _ m] at hP3; cases hP3
      · have := ph3.eD; rw [bn _ m] at this; cases this
      · obtain ⟨xc, hc⟩ := ph3.pen.cell; rw [bn _ m] at hc; cases hc
    have eVL4 := s4 _ _ eVL3
    have K4 := K3.trans (Lay.Keep.of s4)
    have VLS : VL ∉ p :: D :: bs := fun m => by
      rcases List.mem_cons.mp m with e | m
      · exact VLp e
      · rcases List.mem_cons.mp m with e | m
        · exact VLs (by rw [e]; exact List.mem_cons_of_mem _ List.mem_cons_self)
        · rw [bn _ m] at eVL3; cases eVL3
    have GS : G ∉ p :: D :: bs := fun m => by
      rcases List.mem_cons.mp m with e | m
      · rw [e, hP3] at hG; cases hG
      · rcases List.mem_cons.mp m with e | m
        · rw [e, ph3.eD] at hG; cases hG
        · exact Gb m
    have HS : ∀ a ∈ p :: D :: bs, a ≠ p → H a = none := fun a m np => by
      rcases List.mem_cons.mp m with e | m
      · exact absurd e np
      · rcases List.mem_cons.mp m with e | m
        · rw [e]; exact hD
        · exact K3.none hP3 (bn a m)
    have vits4 := ph4.items
    have LS4 := ph4.lists
    clear ph3 s4 bn eVL3 hs4 hG hP3 K3 HG Gb hz4 VLs
    walk_at "rd"
    refine ⟨fun σ' H' => ∃ (j : Nat) (lD : List V) (sits : List NetL.It) (lss : List (List (List V))) (o4 : Option V), σ' = [some (V.ref p), some (V.int ring), some (V.ref D), some (V.int fr), o4, o5, o6, o7, some (V.ref VL), some (V.int (1 + mm)), some (V.ref G), none] ∧ j ≤ 6 ∧ NetG.Ph c p D bs H' (n + 90) lD (vits ++ sits) lss ∧ NetG.SigsG j sits ∧ lss.length = mn ∧ lss.flatten.Perm (NetG.rowsS j) ∧ NetG.Stay (p :: D :: bs) H4 H', ?_, ?_⟩
    · walk_at "rd"
      refine Lay.rd_for ?_
      walk_at "rd"
      refine ⟨by decide, fun L hL => ?_⟩
      have sL := Lay.Same.upd (o := .lst [V.int 0, V.int 1, V.int 2, V.int 3, V.int 3, V.int 6]) hL
      walk_at "rd"
      refine Lay.rd_draw ph4.pen sL (by omega) (by decide) (by decide) (fun d H5 d0 d1 p5 k5 => ?_)
      have ph5 := (ph4.mono sL).draw p5 k5
      have S5 : NetG.Stay (p :: D :: bs) H4 H5 := (NetG.Stay.of sL).trans (NetG.Stay.keep List.mem_cons_self k5)
      obtain ⟨xs4, hP4⟩ := ph4.pen.at_
      obtain ⟨j, j6, ej⟩ := NetG.six_at d0 d1
      refine Lay.rd_ixL (SqL.of (k5 L _ (Lay.ne_none hL hP4) upd_same)) ej ?_
      clear k5 p5 sL hL hP4
      walk_at "rd"
      refine ⟨_, rfl, by omega, by omega, ?_⟩
      rw [Int.toNat_natCast]
      refine Lay.for_go (walk_range (lo := 0) (n := j)) (fun i σ' H' => ∃ (lD : List V) (sits : List NetL.It) (lss : List (List (List V))) (o4 : Option V), σ' = [some (V.ref p), some (V.int ring), some (V.ref D), some (V.int fr), o4, o5, o6, o7, some (V.ref VL), some (V.int (1 + mm)), some (V.ref G), none] ∧ NetG.Ph c p D bs H' (n + 62 + 3 * i) lD (vits ++ sits) lss ∧ NetG.SigsG i sits ∧ lss.length = mn ∧ lss.flatten.Perm (NetG.rowsS i) ∧ NetG.Stay (p :: D :: bs) H4 H')
        ⟨l, [], lss0, _, rfl, (by rw [List.append_nil]; exact ph5.le (by omega)), NetG.SigsG.nil, lm, (by rw [lf]; exact List.Perm.nil), S5⟩ (fun _ _ _ _ _ => trivial) ?_ ?_
      · rintro i x σ' H6 H7 hi ⟨lD, sits, lss, o4, rfl, ph6, sg, lml, pm, S6⟩ hy
        obtain ⟨rfl, rfl⟩ := hy
        have i6 : i < 6 := by omega
        have slen := sg.len
        obtain ⟨cc, e1, e2⟩ := NetG.sign_s i6
        walk_at "rd"
        refine Lay.rd_bm ?_
        walk_at "rd"
        refine ⟨Lay.tyV_lst ph6.eD, ?_⟩
        walk_at "rd"
        refine Lay.rd_ixStr (by decide) (by omega) (by rw [show ((0 : Int) + ((i : Nat) : Int)).toNat = i by omega]; exact e1) ?_
        refine ⟨_, _, rfl, rfl, (by show 1 + 1 ≤ sizeLine; decide), ?_⟩
        rw [e2]
        walk_at "rd"
        refine Lay.rd_draw ph6.pen (L2.Same.refl _) (by omega) (by decide) (by decide) (fun tk H8 t0 t1 p8 k8 => ?_)
        have ph8 := ph6.draw p8 k8
        have S8 := S6.trans (NetG.Stay.keep (S := p :: D :: bs) List.mem_cons_self k8)
        walk_at "rd"
        refine ⟨by decide, fun t ht => ?_⟩
        have ph9 := ph8.mono (Lay.Same.upd (o := .tup [.str "sig", .str (NetG.sN i), .int tk]) ht)
        have S9 := S8.trans (NetG.Stay.of (Lay.Same.upd (o := .tup [.str "sig", .str (NetG.sN i), .int tk]) ht))
        have it : NetG.ItemAt (p :: D :: bs) (upd H8 t (.tup [.str "sig", .str (NetG.sN i), .int tk])) (.ref t) (.sg (NetG.sN i) tk) := ⟨t, rfl, upd_same⟩
        walk_at "rd"
        refine ⟨D, _, _, rfl, rfl, ph9.eD, Nat.lt_of_le_of_lt (show _ ≤ 100 by rw [ph9.items.length, List.length_append, slen, vlen]; omega) (by decide), ?_⟩
        have ph10 := ph9.app it
        have S10 := S9.trans (NetG.Stay.upd (a := D) (o := .lst (lD ++ [V.ref t])) (List.mem_cons_of_mem _ List.mem_cons_self))
        rw [List.append_assoc] at ph10
        generalize upd (upd H8 t (.tup [.str "sig", .str (NetG.sN i), .int tk])) D (.lst (lD ++ [V.ref t])) = H10 at ph10 S10 ⊢
        clear ph8 ph9 S8 S9 it ht k8 p8
        walk_at "rd"
        refine Lay.rd_bm ?_
        walk_at "rd"
        refine Lay.rd_draw ph10.pen (L2.Same.refl _) (by omega) (by omega) (by omega) (fun d1 Ha1 da1 db1 pa1 ka1 => ?_)
        have pha1 := ph10.draw pa1 ka1
        have Sa1 := S10.trans (NetG.Stay.keep (S := p :: D :: bs) List.mem_cons_self ka1)
        obtain ⟨b1, ls1, ys1, eb1, el1, hb1, hr1⟩ := pha1.get (d := d1.toNat) (by first | omega | (rw [List.length_set]; omega))
        refine Lay.rd_ixL (SqL.of (Sa1 _ _ GS hl4)) (v := .ref b1) (Lay.atI_int da1 (by rw [List.getElem?_map, eb1]; rfl)) ?_
        refine ⟨Lay.tyV_lst hb1, ?_⟩
        walk_at "rd"
        refine Lay.rd_ixStr (by decide) (by omega) (by rw [show ((0 : Int) + ((i : Nat) : Int)).toNat = i by omega]; exact e1) ?_
        refine ⟨_, _, rfl, rfl, (by show 1 + 1 ≤ sizeLine; decide), ?_⟩
        rw [e2]
        walk_at "rd"
        refine ⟨by decide, fun t1 ht1 => ?_⟩
        have sb1 := Lay.Same.upd (o := .tup [.str "post", .str (NetG.sN i)]) ht1
        have phb1 := pha1.mono sb1
        have Sb1 := Sa1.trans (NetG.Stay.of sb1)
        have lnb1 : ys1.length ≤ 100 := by
          have z1 := hr1.len
          have z2 := List.Sublist.length_le (List.sublist_flatten_of_mem (List.mem_of_getElem? el1))
          rw [pm.length_eq, NetG.rows_len] at z2
          omega
        walk_at "rd"
        refine ⟨b1, _, _, rfl, rfl, sb1 _ _ hb1, Nat.lt_of_le_of_lt lnb1 (by decide), ?_⟩
        have ph1x := phb1.put eb1 el1 (sb1 _ _ hb1) (hr1.mono sb1) (l := [.str "post", .str (NetG.sN i)]) upd_same
        have S1x := Sb1.trans (NetG.Stay.upd (a := b1) (o := .lst (ys1 ++ [V.ref t1])) (List.mem_cons_of_mem _ (List.mem_cons_of_mem _ (List.mem_of_getElem? eb1))))
        generalize upd (upd Ha1 t1 (.tup [.str "post", .str (NetG.sN i)])) b1 (.lst (ys1 ++ [V.ref t1])) = Hx1 at ph1x S1x ⊢
        walk_at "rd"
        refine Lay.rd_bm ?_
        walk_at "rd"
        refine Lay.rd_draw ph1x.pen (L2.Same.refl _) (by omega) (by omega) (by omega) (fun d2 Ha2 da2 db2 pa2 ka2 => ?_)
        have pha2 := ph1x.draw pa2 ka2
        have Sa2 := S1x.trans (NetG.Stay.keep (S := p :: D :: bs) List.mem_cons_self ka2)
        obtain ⟨b2, ls2, ys2, eb2, el2, hb2, hr2⟩ := pha2.get (d := d2.toNat) (by first | omega | (rw [List.length_set]; omega))
        refine Lay.rd_ixL (SqL.of (Sa2 _ _ GS hl4)) (v := .ref b2) (Lay.atI_int da2 (by rw [List.getElem?_map, eb2]; rfl)) ?_
        refine ⟨Lay.tyV_lst hb2, ?_⟩
        walk_at "rd"
        refine Lay.rd_ixStr (by decide) (by omega) (by rw [show ((0 : Int) + ((i : Nat) : Int)).toNat = i by omega]; exact e1) ?_
        refine ⟨_, _, rfl, rfl, (by show 1 + 1 ≤ sizeLine; decide), ?_⟩
        rw [e2]
        walk_at "rd"
        refine ⟨by decide, fun t2 ht2 => ?_⟩
        have sb2 := Lay.Same.upd (o := .tup [.str "wait", .str (NetG.sN i)]) ht2
        have phb2 := pha2.mono sb2
        have Sb2 := Sa2.trans (NetG.Stay.of sb2)
        have lnb2 : ys2.length ≤ 100 := by
          have z1 := hr2.len
          have z2 := List.Sublist.length_le (List.sublist_flatten_of_mem (List.mem_of_getElem? el2))
          rw [(NetG.flat_put [V.str "post", V.str (NetG.sN i)] el1).length_eq, List.length_append, pm.length_eq, NetG.rows_len] at z2; have z3 : ([[V.str "post", V.str (NetG.sN i)]] : List (List V)).length = 1 := rfl; rw [z3] at z2
          omega
        walk_at "rd"
        refine ⟨b2, _, _, rfl, rfl, sb2 _ _ hb2, Nat.lt_of_le_of_lt lnb2 (by decide), ?_⟩
        have ph2x := phb2.put eb2 el2 (sb2 _ _ hb2) (hr2.mono sb2) (l := [.str "wait", .str (NetG.sN i)]) upd_same
        have S2x := Sb2.trans (NetG.Stay.upd (a := b2) (o := .lst (ys2 ++ [V.ref t2])) (List.mem_cons_of_mem _ (List.mem_cons_of_mem _ (List.mem_of_getElem? eb2))))
        generalize upd (upd Ha2 t2 (.tup [.str "wait", .str (NetG.sN i)])) b2 (.lst (ys2 ++ [V.ref t2])) = Hx2 at ph2x S2x ⊢
        walk_at "rd"
        have fl1 := NetG.flat_put [V.str "post", V.str (NetG.sN i)] el1
        have fl2 := NetG.flat_put [V.str "wait", V.str (NetG.sN i)] el2
        refine ⟨_, _, _, _, rfl, ph2x.le (by omega), sg.add t0 (by omega), by rw [List.length_set, List.length_set]; exact lml, ?_, S2x⟩
        rw [NetG.rowsS_succ]
        refine fl2.trans ?_
        refine (List.Perm.append_right _ (fl1.trans (List.Perm.append_right _ pm))).trans ?_
        rw [List.append_assoc]
        exact List.Perm.refl _
      · rintro σ' H6 ⟨lD, sits, lss, o4, rfl, ph6, sg, lml, pm, S6⟩
        walk_at "rd"
        exact ⟨j, lD, sits, lss, o4, rfl, j6, ph6.le (by omega), sg, lml, pm, S6⟩
    clear ph4
    rintro σ' H5 ⟨j, lD, sits, lss, o4, rfl, j6, ph5, sg, lml, pm, S5⟩
    have slen := sg.len
    walk_at "rd"
    refine Lay.rd_for ?_
    walk_at "rd"
    refine ⟨_, rfl, by omega, by omega, ?_⟩
    rw [emn]
    refine Lay.for_go (walk_range (lo := 0) (n := mn)) (fun i σ' H' => ∃ (lD : List V) (ags : List NetL.It) (o4 o11 : Option V), σ' = [some (V.ref p), some (V.int ring), some (V.ref D), some (V.int fr), o4, o5, o6, o7, some (V.ref VL), some (V.int (1 + mm)), some (V.ref G), o11] ∧ NetG.Ph c p D bs H' (n + 90 + 41 * i) lD (vits ++ sits ++ ags) lss ∧ NetG.AgsG vits lss i ags ∧ NetG.Stay (p :: D :: bs) H4 H')
      ⟨lD, [], _, _, rfl, (by rw [List.append_nil]; exact ph5), NetG.AgsG.nil, S5⟩ (fun _ _ _ _ _ => trivial) ?_ ?_
    · rintro i x σ' H6 H7 hi ⟨lD, ags, o4, o11, rfl, ph6, ag, S6⟩ hy
      obtain ⟨rfl, rfl⟩ := hy
      have i4 : i < 4 := by omega
      have alen := ag.len
      obtain ⟨cc, e1, e2⟩ := NetG.sign_a i4
      walk_at "rd"
      refine Lay.rd_draw ph6.pen (L2.Same.refl _) (by omega) (by decide) (by decide) (fun kd H8 k0 k1 p8 k8 => ?_)
      have ph8 := ph6.draw p8 k8
      have S8 := S6.trans (NetG.Stay.keep (S := p :: D :: bs) List.mem_cons_self k8)
      clear k8 p8
      walk_at "rd"
      refine Lay.rd_bm ?_
      walk_at "rd"
      refine ⟨Lay.tyV_lst ph8.eD, ?_⟩
      walk_at "rd"
      refine Lay.rd_ixStr (by decide) (by omega) (by rw [show ((0 : Int) + ((i : Nat) : Int)).toNat = i by omega]; exact e1) ?_
      refine ⟨_, _, rfl, rfl, (by show 1 + 1 ≤ sizeLine; decide), ?_⟩
      rw [e2]
      walk_at "rd"
      obtain ⟨b, ss, ys, eb, el, hb, rw_⟩ := ph8.get (d := i) (by omega)
      have eG8 := S8 _ _ GS hl4
      have bm := List.mem_of_getElem? eb
      refine Lay.rd_ixL (SqL.of eG8) (v := .ref b) (Lay.atI_int (by omega) (by rw [show ((0 : Int) + ((i : Nat) : Int)).toNat = i by omega, List.getElem?_map, eb]; rfl)) ?_
      walk_at "rd"
      have eVL8 := S8 _ _ VLS eVL4
      have fl : ss.length ≤ 12 := by
        refine Nat.le_trans (List.Sublist.length_le (List.sublist_flatten_of_mem (List.mem_of_getElem? el))) ?_
        rw [pm.length_eq, NetG.rows_len]
        omega
      refine ⟨p, _, c, kd, VL, b, l, vits, ys, ss, rfl, ph8.pen, by omega, k0, by omega, eVL8, VLp, ?_, fun it im => ?_, by omega, by omega, hb, fun e => ph8.pb (by rw [← e]; exact bm), rw_, fl, fun r zs ls acc H9 hr er rr pr a1 a4 aok p9 k9 => ?_⟩
      · have v4 := vits4.stay (fun a m => ?_) S8
        · exact v4.off (NetG.off_sub fun a m => by rw [List.mem_singleton] at m; rw [m]; exact List.mem_cons_self)
        · exact LS4 a m
      · obtain ⟨z, s, ats, e, a1, a2, a3, _⟩ := vg.ok it im
        exact ⟨z, s, ats, e, a1, a2, a3⟩
      have ph9 := ph8.draw p9 k9
      have S9 := S8.trans (NetG.Stay.keep (S := p :: D :: bs) List.mem_cons_self k9)
      walk_at "rd"
      refine ⟨by decide, fun t ht => ?_⟩
      have ph10 := ph9.mono (Lay.Same.upd (o := .tup [.str "agent", .str (NetG.aN i), .int kd, .ref r]) ht)
      have S10 := S9.trans (NetG.Stay.of (Lay.Same.upd (o := .tup [.str "agent", .str (NetG.aN i), .int kd, .ref r]) ht))
      have it : NetG.ItemAt (p :: D :: bs) (upd H9 t (.tup [.str "agent", .str (NetG.aN i), .int kd, .ref r])) (.ref t) (.ag (NetG.aN i) kd ls) := ⟨t, r, zs, rfl, upd_same, Lay.upd_old ht er, ph8.new hr, rr.mono (Lay.Same.upd ht)⟩
      walk_at "rd"
      refine ⟨D, _, _, rfl, rfl, ph10.eD, Nat.lt_of_le_of_lt (show _ ≤ 100 by rw [ph10.items.length, List.length_append, List.length_append, slen, vlen, alen]; omega) (by decide), ?_⟩
      have ph11 := ph10.app it
      have S11 := S10.trans (NetG.Stay.upd (a := D) (o := .lst (lD ++ [V.ref t])) (List.mem_cons_of_mem _ List.mem_cons_self))
      rw [List.append_assoc] at ph11
      exact ⟨_, _, _, _, rfl, ph11.le (by omega), ag.add i4 el k0 (by omega) pr a1 a4 aok, S11⟩
    rintro σ' H6 ⟨lD, ags, o4, o11, rfl, ph6, ag, S6⟩
    walk_at "rd"
    have alen := ag.len
    refine q D lD (vits ++ sits ++ ags) H6 hD ph6.eD ?_ (NetG.genOk vg nv3 (by omega) sg j6 pm lml mn4 ag) ?_ (ph6.pen.le (by omega)) (NetG.Stay.to_keep K4 HS S6)
    · exact ph6.items.off (NetG.off_sub fun a m => by rw [List.mem_singleton] at m; rw [m]; exact List.mem_cons_self)
    · rw [List.length_append, List.length_append]
      omega
theorem ok_shuffled (T : Txt K mg A) (G_draw : FnOk P w K mg base CX0 1 A.a_draw A.d_draw ["_law_pen_here", "_law_many"] Lay.spDraw) : FnOk P w K mg base CX0 2 A.a_shuffled A.d_shuffled ["_law_pen_here", "_law_items_here"] NetG.spShuf := by
  refine T.F_shuffled.ok sc_shuffled (fun vs H Q E h => ?_) (fun cdv A0 outer s H vs Q E hr h => ?_)
  · obtain ⟨p, n, c, a, l, its, rfl, _⟩ := h
    rfl
  · obtain ⟨p, n, c, a, l, its, rfl, hp, hn, ha, nap, hi, l13, q⟩ := h
    have hlen := hi.length
    obtain ⟨xs0, hP0⟩ := hp.at_
    refine ⟨_, (pss_cons (ps_set (i := 2) sc_shuffled.nd rfl (Or.inl rfl) (pe_lst pa_nil))
    (pss_cons (ps_for PassesOwn.never rfl (pi_list (pv 1)) (pg_name (i := 3) sc_shuffled.nd rfl (Or.inl rfl))
      (pss_cons (ps_set (i := 4) sc_shuffled.nd rfl (Or.inl rfl) (pe_call G_draw (hr.mono (by decide)) rfl T.g_draw T.F_draw.kp T.b_draw .nil pass0 (pa_cons (pv 0) (pa_cons (pe_op op_add (pe_callB Lay.call_lenS (by rfl) T.n_len PySem.boot_len (pa_cons (pv 2) pa_nil)) pe_int) pa_nil))))
      (pss_one (ps_set (i := 2) sc_shuffled.nd rfl (Or.inl rfl) (pe_op op_cat (pe_op op_cat (pe_slice sl_list (pv 2) po_none (po_some (pv 4))) (pe_lst (pa_cons (pv 3) pa_nil))) (pe_slice sl_list (pv 2) (po_some (pv 4)) po_none))))))
    (pss_one (ps_ret (pv 2))))), ?_⟩
    walk_at "in"
    walk_at "rd"
    refine ⟨by decide, fun r0 hr0 => ?_⟩
    have s0 := Lay.Same.upd (o := .lst []) hr0
    walk_at "rd"
    refine Lay.rd_forW (J := Itl K a) (H1 := upd H r0 (.lst [])) (fun R r => ?_) (walk_list (xs := l)) (fun i σ' H' => ∃ (r : Addr) (zs : List V) (is : List NetL.It) (o3 o4 : Option V), σ' = [some (V.ref p), some (V.ref a), some (V.ref r), o3, o4] ∧ H r = none ∧ H' r = some (.lst zs) ∧ NetG.ItemsAt [p] H' zs is ∧ is.Perm (its.take i) ∧ Lay.PenAt c H' p (n + i) ∧ Lay.Keep p H H')
      ⟨r0, [], [], none, none, rfl, hr0, upd_same, .nil, List.Perm.nil, hp.mono s0, Lay.Keep.of s0⟩ (fun i σ' H' _ z => ?_) ?_ ?_
    · refine Lay.rd_iList ?_
      walk_at "rd"
      exact ⟨⟨_, SqL.of (s0 _ _ ha)⟩, r⟩
    · obtain ⟨r, zs, is, o3, o4, _, _, _, _, _, _, k⟩ := z
      exact SqL.of (k _ _ nap ha)
    · rintro i x σ' H2 H3 hi' ⟨r, zs, is, o3, o4, rfl, hr, er, it, pm, p2, K2⟩ ⟨rfl, ey⟩
      obtain ⟨ii, ei, ia⟩ := NetL.pget hi ey
      have Ls : NetG.Lists [p] H := fun b m => by rw [List.mem_singleton] at m; subst m; exact hp.at_
      have ilen : is.length ≤ 13 := by rw [pm.length_eq, List.length_take]; omega
      have zlen := it.length
      obtain ⟨xs2, hP2⟩ := p2.at_
      have rp : r ≠ p := fun e => by subst e; rw [hP0] at hr; cases hr
      walk_at "rd"
      refine Lay.rd_draw p2 (L2.Same.refl _) (by omega) (by omega) (by omega) (fun sp H4 sp0 sp1 p4 k4 => ?_)
      have K4 := K2.trans k4
      have er4 := k4 _ _ rp er
      have it4 := it.stay (fun b m => by rw [List.mem_singleton] at m; subst m; exact ⟨_, hP2⟩) (NetG.Stay.keep List.mem_cons_self k4)
      have new4 := ia.stay Ls (NetG.Stay.keep List.mem_cons_self K4)
      obtain ⟨sn, rfl⟩ : ∃ sn : Nat, sp = sn := ⟨sp.toNat, by omega⟩
      walk_at "rd"
      refine Lay.rd_slLk (SqL.of er4) (by omega) (fun q1 hq1 => ?_)
      have er5 := Lay.upd_old (o := .lst (zs.take sn)) hq1 er4
      walk_at "rd"
      refine ⟨by decide, fun q2 hq2 => ?_⟩
      walk_at "rd"
      refine Lay.rd_cat (Lay.upd_old hq2 upd_same) upd_same (Nat.le_trans (show _ ≤ 100 by rw [List.length_take]; show min sn zs.length + 1 ≤ 100; omega) (by decide)) (fun q3 hq3 => ?_)
      walk_at "rd"
      refine Lay.rd_slL (SqL.of (Lay.upd_old hq3 (Lay.upd_old hq2 er5))) (fun q4 hq4 => ?_)
      rw [Lay.cut_drop (by omega)]
      refine Lay.rd_cat (Lay.upd_old hq4 upd_same) upd_same (Nat.le_trans (show _ ≤ 100 by rw [List.length_append, List.length_take, List.length_drop]; show min sn zs.length + 1 + (zs.length - sn) ≤ 100; omega) (by decide)) (fun q5 hq5 => ?_)
      have S4 := Lay.Same.upd' (o := .lst (zs.drop sn)) (Lay.Same.upd' (o := .lst (zs.take sn ++ [x])) (Lay.Same.upd' (o := .lst [x]) (Lay.Same.upd (o := .lst (zs.take sn)) hq1) hq2) hq3) hq4
      have S := Lay.Same.upd' (o := .lst (zs.take sn ++ [x] ++ zs.drop sn)) S4 hq5
      obtain ⟨xs4, hP4⟩ := p4.at_
      refine ⟨q5, _, is.take sn ++ [ii] ++ is.drop sn, _, _, rfl, K4.none hP4 (Lay.none_of S4 hq5), upd_same, ?_, ?_, (p4.mono S).le (by omega), K4.trans (Lay.Keep.of S)⟩
      · exact NetG.pappend (Paired.snoc (NetG.ptake sn (it4.mono S)) (new4.mono S)) (NetG.pdrop sn (it4.mono S))
      · refine (NetG.ins_perm _ _ _ _ pm).trans ?_
        rw [Lay.take_succ ei]
    · rintro σ' H2 ⟨r, zs, is, o3, o4, rfl, hr, er, it, pm, p2, K2⟩
      walk_at "rd"
      rw [List.take_of_length_le (by omega)] at pm
      exact q r zs is H2 hr er it pm (p2.le (by omega)) K2
theorem bind3 (T : Txt K mg A) : ∃ ds, Vals [] ds ∧ Binds K A.d_Signal_init ["self", "name", "tokens"] ds :=
  T.F_Signal_init.binds1 3 1 (fun z => by cases z) rfl (fun _ _ _ _ _ _ _ us its l1 l2 => match us, its, l1, l2 with | [_, _, _], [_], _, _ => ⟨_, rfl, rfl⟩)
theorem ok_part (T : Txt K mg A) (G_Variable_made : FnOk P w K mg base (L2.CX P w) 8 A.a_Variable_made A.d_Variable_made ["cls", "name", "size", "at"] (Lay.spVarMade K A.c_Variable A.c_NoPart)) (G_Signal_init : FnOk P w K mg base (L2.CX P w) 4 A.a_Signal_init A.d_Signal_init ["self", "name", "tokens"] (Lay.spSigInit A.c_Signal A.c_NoPart)) (G_Agent_made : FnOk P w K mg base CX0 8 A.a_Agent_made A.d_Agent_made ["cls", "name", "steps"] (Lay.spMade K A.c_Agent Lay.plainWs)) (G_Through_made : FnOk P w K mg base CX0 8 A.a_Through_made A.d_Through_made ["cls", "name", "steps"] (Lay.spMade K A.c_Through Lay.cacheWs)) (G_Back_made : FnOk P w K mg base CX0 8 A.a_Back_made A.d_Back_made ["cls", "name", "steps"] (Lay.spMade K A.c_Back Lay.cacheWs)) : FnOk P w K mg base CX0 9 A.a_part A.d_part ["_law_item"] (NetG.spPart (cs A)) := by
  refine T.F_part.ok sc_part (fun vs H Q E h => ?_) (fun cdv A0 outer s H vs Q E hr h => ?_)
  · obtain ⟨S, v, it, rfl, _⟩ := h
    rfl
  · obtain ⟨S, v, it, rfl, hi, ok, q⟩ := h
    obtain ⟨ds3, hd3, b3⟩ := bind3 T
    refine ⟨_, (pss_cons (ps_if (pt_cmpR op_eq (pe_ix ix_tup (pv 0) pe_int (fun _ _ => rfl)) pe_str (nomark _))
      (pss_one (ps_ret (ClX.pe_cmeth (pe_glob (v := .ref A.c_Variable) rfl T.g_Variable rfl) T.cr_Variable T.cm_Variable_made.choose_spec (Lay.fnR_of (NetL.calmOf G_Variable_made) T.b_Variable_made) (hr.mono (by decide)) pass0 (pa_cons (pe_ix ix_tup (pv 0) pe_int (fun _ _ => rfl)) (pa_cons (pe_ix ix_tup (pv 0) pe_int (fun _ _ => rfl)) (pa_cons (pe_ix ix_tup (pv 0) pe_int (fun _ _ => rfl)) pa_nil))))))
      pss_nil)
    (pss_cons (ps_if (pt_cmpR op_eq (pe_ix ix_tup (pv 0) pe_int (fun _ _ => rfl)) pe_str (nomark _))
      (pss_one (ps_ret (pe_make T.mk_Signal (NetL.calmOf G_Signal_init) (hr.mono (by decide)) rfl T.g_Signal b3 hd3 pass0 (pa_cons (pe_ix ix_tup (pv 0) pe_int (fun _ _ => rfl)) (pa_cons (pe_ix ix_tup (pv 0) pe_int (fun _ _ => rfl)) pa_nil)))))
      pss_nil)
    (pss_cons (ps_if (PW.pt (pw_and (pt_cmpR op_eq (pe_ix ix_tup (pv 0) pe_int (fun _ _ => rfl)) pe_str (nomark _)) (pw_and1 (pt_cmpR op_eq (pe_ix ix_tup (pv 0) pe_int (fun _ _ => rfl)) pe_int (nomark _)))))
      (pss_one (ps_ret (ClX.pe_cmeth (pe_glob (v := .ref A.c_Agent) rfl T.g_Agent rfl) T.cr_Agent T.cm_Agent_made.choose_spec (Lay.fnR_of G_Agent_made T.b_Agent_made) (hr.mono (by decide)) pass0 (pa_cons (pe_ix ix_tup (pv 0) pe_int (fun _ _ => rfl)) (pa_cons (pe_ix ix_tup (pv 0) pe_int (fun _ _ => rfl)) pa_nil)))))
      pss_nil)
    (pss_cons (ps_if (PW.pt (pw_and (pt_cmpR op_eq (pe_ix ix_tup (pv 0) pe_int (fun _ _ => rfl)) pe_str (nomark _)) (pw_and1 (pt_cmpR op_eq (pe_ix ix_tup (pv 0) pe_int (fun _ _ => rfl)) pe_int (nomark _)))))
      (pss_one (ps_ret (ClX.pe_cmeth (pe_glob (v := .ref A.c_Through) rfl T.g_Through rfl) T.cr_Through T.cm_Through_made.choose_spec (Lay.fnR_of G_Through_made T.b_Through_made) (hr.mono (by decide)) pass0 (pa_cons (pe_ix ix_tup (pv 0) pe_int (fun _ _ => rfl)) (pa_cons (pe_ix ix_tup (pv 0) pe_int (fun _ _ => rfl)) pa_nil)))))
      pss_nil)
    (pss_cons (ps_if (pt_cmpR op_eq (pe_ix ix_tup (pv 0) pe_int (fun _ _ => rfl)) pe_str (nomark _))
      (pss_one (ps_ret (ClX.pe_cmeth (pe_glob (v := .ref A.c_Back) rfl T.g_Back rfl) T.cr_Back T.cm_Back_made.choose_spec (Lay.fnR_of G_Back_made T.b_Back_made) (hr.mono (by decide)) pass0 (pa_cons (pe_ix ix_tup (pv 0) pe_int (fun _ _ => rfl)) (pa_cons (pe_ix ix_tup (pv 0) pe_int (fun _ _ => rfl)) pa_nil)))))
      pss_nil)
    (pss_one (ps_ret (pe_ix ix_tup (pv 0) pe_int (fun _ _ => rfl))))))))), ?_⟩
    walk_at "in"
    cases it with
    | vr z s0 ats =>
      obtain ⟨a, b, rfl, h1, h2, nb⟩ := hi
      obtain ⟨hz, s1, s8, l1, l4, gp, bd⟩ := ok
      walk_at "rd"
      refine Lay.ite_d (fun _ => ?_) (fun c => absurd rfl c)
      walk_at "rd"
      refine Lay.rd_cmeth ?_
      walk_at "rd"
      refine ⟨rfl, ?_⟩
      walk_at "rd"
      have w := NetG.wants_ok hz s1 s8 l1 l4 bd gp
      refine ⟨.str z, .int s0, b, ats.map V.int, rfl, .str (by have := Lay.nameOk_len hz; omega), .int _, .inr (SqL.of h2), (fun x m => ?_), (by rw [List.length_map]; omega), (fun r p e => ?_), (fun _ x H' s g => q _ H' s ⟨x, rfl, g⟩)⟩
      · obtain ⟨i, _, rfl⟩ := List.mem_map.mp m
        exact .int i
      · rw [w] at e; cases e
    | sg z t =>
      obtain ⟨a, rfl, h1⟩ := hi
      obtain ⟨hz, t0, t3⟩ := ok
      walk_at "rd"
      refine Lay.ite_d (fun c => absurd c (by decide +kernel)) (fun _ => ?_)
      walk_at "it"
      refine Lay.ite_d (fun _ => ?_) (fun c => absurd rfl c)
      walk_at "rd"
      refine Lay.rd_make ?_
      walk_at "rd"
      exact Lay.mk_sig (Q := fun x H => Q (.ref x) H) hz t0 t3 (fun x H' s g => q _ H' s ⟨x, rfl, g⟩)
    | ag z k ls =>
      obtain ⟨a, b, ys, rfl, h1, h2, nb, hr_⟩ := hi
      obtain ⟨hz, k0, k2, l1, l24, hgs⟩ := ok
      walk_at "rd"
      refine Lay.ite_d (fun c => absurd c (by decide +kernel)) (fun _ => ?_)
      walk_at "it"
      refine Lay.ite_d (fun c => absurd c (by decide +kernel)) (fun _ => ?_)
      walk_at "it"
      refine Lay.ite_d (fun _ => ?_) (fun c => absurd rfl c)
      walk_at "rd"
      refine Lay.ite_d (fun c0 => ?_) (fun c0 => ?_)
      · rw [show Lay.wsK k = Lay.plainWs from if_pos c0] at hgs
        walk_at "rd"
        refine Lay.rd_cmeth ?_
        walk_at "rd"
        refine ⟨rfl, ?_⟩
        walk_at "rd"
        exact ⟨z, b, ys, ls, rfl, hz, .inr (SqL.of h2), hr_, l1, l24, hgs, fun x H' hx s g => q _ H' s ⟨x, rfl, by subst c0; exact g⟩⟩
      · rw [show Lay.wsK k = Lay.cacheWs from if_neg c0] at hgs
        walk_at "rd"
        refine Lay.ite_d (fun _ => ?_) (fun c => absurd rfl c)
        walk_at "rd"
        refine Lay.ite_d (fun c1 => ?_) (fun c1 => ?_)
        · walk_at "rd"
          refine Lay.rd_cmeth ?_
          walk_at "rd"
          refine ⟨rfl, ?_⟩
          walk_at "rd"
          exact ⟨z, b, ys, ls, rfl, hz, .inr (SqL.of h2), hr_, l1, l24, hgs, fun x H' hx s g => q _ H' s ⟨x, rfl, by subst c1; exact g⟩⟩
        · walk_at "it"
          refine Lay.ite_d (fun _ => ?_) (fun c => absurd rfl c)
          walk_at "rd"
          refine Lay.rd_cmeth ?_
          walk_at "rd"
          refine ⟨rfl, ?_⟩
          walk_at "rd"
          exact ⟨z, b, ys, ls, rfl, hz, .inr (SqL.of h2), hr_, l1, l24, hgs, fun x H' hx s g => q _ H' s ⟨x, rfl, by rw [show (cs A).of (.ag z k ls) = A.c_Back from (if_neg c0).trans (if_neg c1)]; exact g⟩⟩
theorem ok_Net_is_place (T : Txt K mg A) (G_is_within : FnOk P w K mg base CX0 2 A.a_is_within A.d_is_within ["value", "low", "high"] Lay.spIsWithin) : FnOk P w K mg base CX0 3 A.a_Net_is_place A.d_Net_is_place ["self", "value"] (NetG.spIsPlaceG (cs A) A.c_Net) := by
  refine T.F_Net_is_place.ok sc_Net_is_place (fun vs H Q E h => ?_) (fun cdv A0 outer s H vs Q E hr h => ?_)
  · obtain ⟨x, ln, r, its, ps, t, a, s, l, rfl, _⟩ := h
    rfl
  · obtain ⟨x, ln, r, its, ps, t, a, s, l, rfl, hN, ht, hst, pl, hg, q⟩ := h
    obtain ⟨dx, tv, ts, ta, dn, n1, n2, n3, n4, n5, n6⟩ := id hN
    obtain ⟨z, k, ls, e1, e2⟩ := id hst
    have alt := hst.lt
    obtain ⟨_, _, _, _, _, slt⟩ := hst.mem
    have sp := NetL.sel_parts NetL.It.isA n6
    have sl := sp.length
    have ev : (NetL.sel NetL.It.isA its ps)[a]? = some ((NetL.sel NetL.It.isA its ps)[a]'(by omega)) := List.getElem?_eq_getElem (by omega)
    obtain ⟨it0, e3, pa⟩ := NetL.pget sp ev
    rw [e1] at e3
    cases e3
    obtain ⟨y, ey, dy, ty, xs, y1, y2, y3⟩ := pa
    rw [ey] at ev
    have sll : s < ls.length := (List.getElem?_eq_some_iff.mp e2).1
    have xl := y3.len
    have as : ∀ z k ls, Cls K ((cs A).of (.ag z k ls)) := fun z k ls => (nc T).cl _
    have na := (nc T).as z k ls
    refine ⟨_, (pss_cons (ps_if (PW.pt (pw_or (pt_not (pt_val (pe_callB call_isi (by rfl) T.n_isinstance (by decide +kernel) (pa_cons (pv 1) (pa_cons (pe_bltn (v := .ty "tuple") (by rfl) T.n_tuple (by decide +kernel) rfl) pa_nil))))) (pw_or1 (pt_cmpR op_ne (pe_callB Lay.call_lenS (by rfl) T.n_len PySem.boot_len (pa_cons (pv 1) pa_nil)) pe_int (nomark _)))))
      (pss_one (ps_ret pe_bl))
      pss_nil)
    (pss_cons (ps_asg (pv 1) (pg_tup (by rfl) (pgs_cons (pg_name (i := 2) sc_Net_is_place.nd rfl (Or.inl rfl)) (pgs_cons (pg_name (i := 3) sc_Net_is_place.nd rfl (Or.inl rfl)) pgs_nil))))
    (pss_cons (ps_if (pt_not (pt_val (pe_call G_is_within (hr.mono (by decide)) rfl T.g_is_within T.F_is_within.kp T.b_is_within .nil pass0 (pa_cons (pv 2) (pa_cons pe_int (pa_cons (pe_op op_sub (pe_callB Lay.call_lenS (by rfl) T.n_len PySem.boot_len (pa_cons (pe_fld (pv 0) rfl) pa_nil)) pe_int) pa_nil))))))
      (pss_one (ps_ret pe_bl))
      pss_nil)
    (pss_one (ps_ret (pe_call G_is_within (hr.mono (by decide)) rfl T.g_is_within T.F_is_within.kp T.b_is_within .nil pass0 (pa_cons (pv 3) (pa_cons pe_int (pa_cons (pe_op op_sub (pe_callB Lay.call_lenS (by rfl) T.n_len PySem.boot_len (pa_cons (pe_fld (pe_ix ix_tup (pe_fld (pv 0) rfl) (pv 2) (fun _ _ => rfl)) rfl) pa_nil)) pe_int) pa_nil))))))))), ?_⟩
    walk_at "in"
    walk_at "rd"
    refine Lay.rd_isi .tuple (.tup ht) ?_
    rw [show Lay.isTy Lay.Kn.tuple Lay.Kn.tuple = true from rfl]
    walk_at "it"
    rw [show (!decide ((((0 + 1 + 1 : Nat) : Nat) : Int) = 2)) = false from rfl]
    walk_at "it"
    refine Lay.rd_tFld ?_
    walk_at "rd"
    refine ⟨x, _, dx, _, .ref ta, rfl, n1, T.cl_Net, T.na_Net_agents, by rfl, ?_⟩
    walk_at "rd"
    refine ⟨.int a, _, 0, _, rfl, .int _, ?_⟩
    rw [show Lay.within (.int (a : Nat)) 0 (((NetL.sel NetL.It.isA its ps).length : Int) - 1) = true from by show (decide ((0 : Int) ≤ (a : Int)) && decide ((a : Int) ≤ ((NetL.sel NetL.It.isA its ps).length : Int) - 1)) = true; rw [decide_eq_true (by omega), decide_eq_true (by omega)]; rfl]
    walk_at "it"
    refine Lay.rd_tFld ?_
    refine Lay.rd_tFld ?_
    walk_at "rd"
    refine ⟨x, _, dx, _, .ref ta, rfl, n1, T.cl_Net, T.na_Net_agents, by rfl, ?_⟩
    walk_at "rd"
    refine Lay.rd_ixT (SqT.of n4) (Lay.atI_nat ev) ?_
    refine ⟨y, _, dy, _, .ref ty, rfl, y1, as z k ls, na, by rfl, ?_⟩
    walk_at "rd"
    refine ⟨.int s, _, 0, _, rfl, .int _, ?_⟩
    rw [show Lay.within (.int (s : Nat)) 0 ((xs.length : Int) - 1) = true from by show (decide ((0 : Int) ≤ (s : Int)) && decide ((s : Int) ≤ (xs.length : Int) - 1)) = true; rw [decide_eq_true (by omega), decide_eq_true (by omega)]; rfl]
    exact q
theorem ok_Net_step (T : Txt K mg A) (G_Net_is_place : FnOk P w K mg base CX0 3 A.a_Net_is_place A.d_Net_is_place ["self", "value"] (NetG.spIsPlaceG (cs A) A.c_Net)) : FnOk P w K mg base CX0 4 A.a_Net_step A.d_Net_step ["self", "place"] (NetG.spStepG (cs A) A.c_Net) := by
  refine T.F_Net_step.ok sc_Net_step (fun vs H Q E h => ?_) (fun cdv A0 outer s H vs Q E hr h => ?_)
  · obtain ⟨x, ln, r, its, ps, t, a, s, l, rfl, _⟩ := h
    rfl
  · obtain ⟨x, ln, r, its, ps, t, a, s, l, rfl, hN, ht, hst, pl, hg, q⟩ := h
    obtain ⟨dx, tv, ts, ta, dn, n1, n2, n3, n4, n5, n6⟩ := id hN
    obtain ⟨z, k, ls, e1, e2⟩ := id hst
    have alt := hst.lt
    obtain ⟨_, _, _, _, _, slt⟩ := hst.mem
    have sp := NetL.sel_parts NetL.It.isA n6
    have sl := sp.length
    have ev : (NetL.sel NetL.It.isA its ps)[a]? = some ((NetL.sel NetL.It.isA its ps)[a]'(by omega)) := List.getElem?_eq_getElem (by omega)
    obtain ⟨it0, e3, pa⟩ := NetL.pget sp ev
    rw [e1] at e3
    cases e3
    obtain ⟨y, ey, dy, ty, xs, y1, y2, y3⟩ := pa
    rw [ey] at ev
    have sll : s < ls.length := (List.getElem?_eq_some_iff.mp e2).1
    have xl := y3.len
    have as : ∀ z k ls, Cls K ((cs A).of (.ag z k ls)) := fun z k ls => (nc T).cl _
    have na := (nc T).as z k ls
    refine ⟨_, (pss_cons (ps_if (pt_not (pt_val (pe_meth (pv 0) T.cl_Net T.me_Net_is_place G_Net_is_place (hr.mono (by decide)) T.b_Net_is_place .nil pass0 (pa_cons (pv 1) pa_nil))))
      (pss_one ps_never)
      pss_nil)
    (pss_cons (ps_asg (pv 1) (pg_tup (by rfl) (pgs_cons (pg_name (i := 2) sc_Net_step.nd rfl (Or.inl rfl)) (pgs_cons (pg_name (i := 3) sc_Net_step.nd rfl (Or.inl rfl)) pgs_nil))))
    (pss_one (ps_ret (pe_ix ix_tup (pe_fld (pe_ix ix_tup (pe_fld (pv 0) rfl) (pv 2) (fun _ _ => rfl)) rfl) (pv 3) (fun _ _ => rfl)))))), ?_⟩
    walk_at "in"
    walk_at "rd"
    refine Lay.rd_meth ?_
    walk_at "rd"
    refine ⟨x, dx, _, rfl, n1, by rfl, ?_⟩
    walk_at "rd"
    refine ⟨x, ln, r, its, ps, t, a, s, l, rfl, hN, ht, hst, pl, hg, ?_⟩
    walk_at "it"
    refine Lay.rd_tFld ?_
    refine Lay.rd_tFld ?_
    walk_at "rd"
    refine ⟨x, _, dx, _, .ref ta, rfl, n1, T.cl_Net, T.na_Net_agents, by rfl, ?_⟩
    walk_at "rd"
    refine Lay.rd_ixT (SqT.of n4) (Lay.atI_nat ev) ?_
    refine ⟨y, _, dy, _, .ref ty, rfl, y1, as z k ls, na, by rfl, ?_⟩
    walk_at "rd"
    obtain ⟨pp, f1, f2⟩ := y3.get e2
    exact Lay.rd_ixT (SqT.of y2) (Lay.atI_nat f1) (q pp f2)
theorem ok_lines_of (T : Txt K mg A) : FnOk P w K mg base CX0 1 A.a_lines_of A.d_lines_of ["addresses", "line"] (Lay.spLinesOf K) := by
  refine T.F_lines_of.ok sc_lines_of (fun vs H Q E h => ?_) (fun cdv A0 outer s H vs Q E hr h => ?_)
  · obtain ⟨a, ns, m, rfl, _⟩ := h
    rfl
  · obtain ⟨a, ns, m, rfl, ha, hl20, m1, m2, q⟩ := h
    refine ⟨_, (pss_one (ps_ret (pe_callTy Lay.call_tupS (by rfl) T.n_tuple (by decide +kernel) (pa_cons (pe_callB (r := rSortedSet w) (cr_sortedSet rfl) (by rfl) T.n_sorted (by decide +kernel) (pa_cons (pe_callTy (T := "set") (r := Lay.rSetOfL K w) (Lay.call_setL rfl) (by rfl) T.n_set (by decide +kernel) (pa_cons (pe_lc (own := [("address", 2)]) (g := gName 2) (tt := tYes) rfl sc_lines_of.nd (Lay.pi_seq (pv 0)) (blkOk_by (own := [("address", 2)]) (N := ["addresses", "line", "address"]) (sc := defScope s_lines_of) (by decide +kernel)) (fun _ _ _ _ _ => pg_name (i := 2) sc_lines_of.nd rfl (Or.inl rfl)) (fun _ _ _ _ _ => pts_nil) (fun _ _ _ _ _ => (pe_callTy Lay.call_intI (by rfl) T.n_int (by decide +kernel) (pa_cons (pe_op Lay.op_divP (pv 2) (pv 1)) pa_nil)))) pa_nil)) pa_nil)) pa_nil)))), ?_⟩
    walk_at "in"
    walk_at "rd"
    refine Lay.rd_seqV (a := a) (fun _ h => ⟨_, rfl, h⟩) ha (fun J G wk hG => ?_)
    intro D hD
    refine Lay.lc_go wk (fun i l H' => L2.Same H H' ∧ l = ((ns.take i).map fun n => n / m).map V.int) ⟨Lay.Same.upd hD, rfl⟩ (fun _ _ _ _ r => hG _ r.1) ?_ ?_
    · rintro i l x H2 H3 hi hl' hz' ⟨r1, r2⟩ ⟨rfl, hy⟩
      have hi' : i < ns.length := by simpa using hi
      obtain ⟨n0, en, rfl⟩ : ∃ n0, ns[i]? = some n0 ∧ x = V.int n0 := by
        rw [List.getElem?_map, List.getElem?_eq_getElem hi'] at hy
        exact ⟨_, List.getElem?_eq_getElem hi', (Option.some.inj hy).symm⟩
      walk_at "rd"
      refine ⟨rfl, ?_⟩
      walk_at "it"
      refine Lay.rd_divP ⟨by omega, by omega⟩ (fun d ed => ?_)
      walk_at "rd"
      refine Lay.lc_put hl' hz' (by omega) ⟨fun b o hb => ?_, ?_⟩
      · rw [upd_ne (fun y => by subst y; rw [hD] at hb; cases hb)]
        exact r1 b o hb
      · rw [r2, Lay.take_succ en, List.map_append, List.map_append, ed]
        rfl
    · rintro l H4 hl' hz' ⟨r1, rfl⟩
      rw [List.take_of_length_le (by rw [List.length_map]; omega)] at hl'
      walk_at "rd"
      refine Lay.rd_setOfL (SqL.of hl') (by rw [List.length_map]; omega) (fun p k hp hk => ?_)
      rw [List.length_map] at hk
      walk_at "rd"
      refine ⟨p, _, k, rfl, upd_same, by omega, fun ms l2 hpw hmem hlen hl2 => ?_⟩
      walk_at "rd"
      refine Lay.rd_tupL (SqL.of upd_same) (fun t ht => ?_)
      refine q t ms _ (((r1.trans (Lay.Same.upd hp)).trans (Lay.Same.upd hl2)).trans (Lay.Same.upd ht)) upd_same hpw (fun k => ?_)
      rw [hmem, decide_eq_true_iff, List.mem_map]
theorem ok_Net_touched (T : Txt K mg A) (G_Net_step : FnOk P w K mg base CX0 4 A.a_Net_step A.d_Net_step ["self", "place"] (NetG.spStepG (cs A) A.c_Net)) (G_concerns_signal : FnOk P w K mg base CX0 1 A.a_concerns_signal A.d_concerns_signal ["step"] NetL.spCon) : FnOk P w K mg base CX0 5 A.a_Net_touched A.d_Net_touched ["self", "place", "n"] (NetG.spTouched (cs A) A.c_Net) := by
  refine T.F_Net_touched.ok sc_Net_touched (fun vs H Q E h => ?_) (fun cdv A0 outer s H vs Q E hr h => ?_)
  · obtain ⟨x, ln, r, its, ps, t, a, s, l, n, rfl, _⟩ := h
    rfl
  · obtain ⟨x, ln, r, its, ps, t, a, s, l, n, rfl, hN, ht, hst, pl, gok, nlo, nhi, q⟩ := h
    have hg := gok.good
    obtain ⟨dx, tv, ts, ta, dn, n1, n2, n3, n4, n5, n6⟩ := id hN
    have hlen := n6.length
    refine ⟨_, (pss_cons (ps_set (i := 3) sc_Net_touched.nd rfl (Or.inl rfl) (pe_meth (pv 0) T.cl_Net T.me_Net_step G_Net_step (hr.mono (by decide)) T.b_Net_step .nil pass0 (pa_cons (pv 1) pa_nil)))
    (pss_cons (ps_if (pt_val (pe_call G_concerns_signal (hr.mono (by decide)) rfl T.g_concerns_signal T.F_concerns_signal.kp T.b_concerns_signal .nil pass0 (pa_cons (pv 3) pa_nil)))
      (pss_one (ps_ret (pe_tup pa_nil)))
      pss_nil)
    (pss_cons (ps_asg (pv 3) (pg_tup (by rfl) (pgs_cons (pg_name (i := 4) sc_Net_touched.nd rfl (Or.inl rfl)) (pgs_cons (pg_name (i := 5) sc_Net_touched.nd rfl (Or.inl rfl)) (pgs_cons (pg_name (i := 6) sc_Net_touched.nd rfl (Or.inl rfl)) (pgs_cons (pg_name (i := 7) sc_Net_touched.nd rfl (Or.inl rfl)) (pgs_cons (pg_name (i := 8) sc_Net_touched.nd rfl (Or.inl rfl)) pgs_nil)))))))
    (pss_cons (ps_set (i := 9) sc_Net_touched.nd rfl (Or.inl rfl) (pe_fld (pe_dget (Nat.lt_of_le_of_lt (Nat.add_le_add_left (show 1 ≤ 64 by decide) _) hr.units) (pe_fld (pv 0) rfl) (pv 5) (fun _ _ => rfl)) rfl))
    (pss_cons (ps_set (i := 10) sc_Net_touched.nd rfl (Or.inl rfl) (pe_ix ix_tup (pv 9) (pe_op Lay.op_modP (pe_op op_add (pv 2) (pv 6)) (pe_callB Lay.call_lenS (by rfl) T.n_len PySem.boot_len (pa_cons (pv 9) pa_nil))) (fun _ _ => rfl)))
    (pss_one (ps_ret (pe_tupRg (by rfl) (by rfl) T.n_tuple (prg_2 (by rfl) T.n_range (pe_op op_add (pv 10) (pv 7)) (pe_op op_add (pe_op op_add (pv 10) (pv 8)) pe_int)))))))))), ?_⟩
    walk_at "in"
    walk_at "rd"
    refine Lay.rd_meth ?_
    walk_at "rd"
    refine ⟨x, dx, _, rfl, n1, by rfl, ?_⟩
    walk_at "rd"
    refine ⟨x, ln, r, its, ps, t, a, s, l, rfl, hN, ht, hst, pl, hg, fun pp hpp => ?_⟩
    walk_at "rd"
    refine ⟨pp, l, rfl, hpp, ?_, ?_⟩
    · rcases NetG.step_kind hg hst with ⟨w, n, rfl⟩ | ⟨w, n, sh, f, e, sz, ats, rfl, _⟩
      · show 2 ≤ 5; decide
      · show 5 ≤ 5; decide
    rcases NetG.step_kind hg hst with ⟨w, nm, rfl⟩ | ⟨w, nm, sh, f, e, sz, ats, rfl, vm, h0, h3, f0, fe, ez, z8, al1, al4, al⟩
    · refine ⟨true, rfl, ?_⟩
      refine iteT ?_
      walk_at "rd"
      refine ⟨by decide, fun u hu => ?_⟩
      exact q u [] _ (Lay.Same.upd hu) upd_same (.inl ⟨rfl, rfl⟩)
    · refine ⟨false, rfl, ?_⟩
      refine iteF ?_
      walk_at "rd"
      refine Lay.rd_tFld ?_
      refine NetL.rd_dGet ?_
      refine Lay.rd_tFld ?_
      walk_at "rd"
      refine ⟨x, _, dx, _, .ref dn, rfl, n1, T.cl_Net, T.na_Net__named, by rfl, ?_⟩
      walk_at "rd"
      obtain ⟨iv, hiv, eiv⟩ := List.getElem_of_mem vm
      have ei : its[iv]? = some (NetL.It.vr nm sz ats) := by rw [List.getElem?_eq_getElem hiv, eiv]
      have ep : ps[iv]? = some (ps[iv]'(by omega)) := List.getElem?_eq_getElem (by omega)
      obtain ⟨it1, ei1, pa⟩ := NetL.pget n6 ep
      rw [ei] at ei1
      cases ei1
      obtain ⟨y, ey, dy, ty, y1, y2⟩ := pa
      rw [ey] at ep
      have g0 := DGet.k (k := .inr nm) n5
      rw [show valV (NetL.named its ps) (.inr nm) = some (V.ref y) from NetL.named_at hg.nd ei ep] at g0
      refine ⟨dn, _, rfl, g0, ?_⟩
      refine ⟨y, _, dy, _, .ref ty, rfl, y1, T.cl_Variable, T.na_Variable_at, by rfl, ?_⟩
      walk_at "rd"
      rw [List.length_map]
      refine Lay.rd_modP (by omega) (fun d ed d0 d1 => ?_)
      have ea : ats[d.toNat]? = some (ats[d.toNat]'(by omega)) := List.getElem?_eq_getElem (by omega)
      obtain ⟨b0, b1⟩ := (gok.var nm sz ats vm).2 _ (List.getElem_mem (show d.toNat < ats.length by omega))
      generalize ats[d.toNat]'(by omega) = a0 at ea b0 b1
      refine Lay.rd_ixT (SqT.of y2) (v := .int a0) (Lay.atI_int d0 (by rw [List.getElem?_map, ea]; rfl)) ?_
      walk_at "rd"
      refine NetG.rd_tupRg2 ?_
      walk_at "rd"
      refine ⟨_, _, rfl, rfl, RgOk.of_le (by omega) (by omega) (by omega) (by omega), fun qq hqq => ?_⟩
      refine q qq (NetL.row (e - f + 1).toNat (a0 + f)) _ (Lay.Same.upd hqq) ?_ (.inr ⟨w, nm, sh, f, e, sz, ats, a0, rfl, vm, f0, fe, ez, z8, by rw [← ed]; exact ea, rfl⟩)
      rw [upd_same, NetG.rgV_row, show (a0 + e + 1 - (a0 + f)) = e - f + 1 by omega]
theorem ok_Net_lines (T : Txt K mg A) (G_Net_touched : FnOk P w K mg base CX0 5 A.a_Net_touched A.d_Net_touched ["self", "place", "n"] (NetG.spTouched (cs A) A.c_Net)) (G_lines_of : FnOk P w K mg base CX0 1 A.a_lines_of A.d_lines_of ["addresses", "line"] (Lay.spLinesOf K)) : FnOk P w K mg base CX0 6 A.a_Net_lines A.d_Net_lines ["self", "place", "n"] (NetG.spNetLines (cs A) A.c_Net) := by
  refine T.F_Net_lines.ok sc_Net_lines (fun vs H Q E h => ?_) (fun cdv A0 outer s H vs Q E hr h => ?_)
  · obtain ⟨x, ln, r, its, ps, t, a, s, l, n, rfl, _⟩ := h
    rfl
  · obtain ⟨x, ln, r, its, ps, t, a, s, l, n, rfl, hN, ht, hst, pl, gok, lok, nlo, nhi, q⟩ := h
    obtain ⟨dx, tv, ts, ta, dn, n1, n2, n3, n4, n5, n6⟩ := id hN
    have l1 : 1 ≤ ln ∧ ln ≤ 16 := by
      have m : ln ∈ ([1, 2, 4, 8, 16] : List Int) := lok
      simp only [List.mem_cons, List.not_mem_nil, or_false] at m
      omega
    refine ⟨_, (pss_one (ps_ret (pe_call G_lines_of (hr.mono (by decide)) rfl T.g_lines_of T.F_lines_of.kp T.b_lines_of .nil pass0 (pa_cons (pe_meth (pv 0) T.cl_Net T.me_Net_touched G_Net_touched (hr.mono (by decide)) T.b_Net_touched .nil pass0 (pa_cons (pv 1) (pa_cons (pv 2) pa_nil))) (pa_cons (pe_fld (pv 0) rfl) pa_nil))))), ?_⟩
    walk_at "in"
    walk_at "rd"
    refine Lay.rd_meth ?_
    walk_at "rd"
    refine ⟨x, dx, _, rfl, n1, by rfl, ?_⟩
    walk_at "rd"
    refine ⟨x, ln, r, its, ps, t, a, s, l, n, rfl, hN, ht, hst, pl, gok, nlo, nhi, fun u bs H1 s1 hu tc => ?_⟩
    refine Lay.rd_tFld ?_
    walk_at "rd"
    refine ⟨x, _, dx, _, .int ln, rfl, s1 _ _ n1, T.cl_Net, T.na_Net_line, by rfl, ?_⟩
    walk_at "rd"
    have tl := tc.len
    refine ⟨u, bs, ln, rfl, .inr hu, by omega, by omega, by omega, fun t2 ms H2 s2 e2 pw mem => ?_⟩
    exact q t2 bs ms H2 (s1.trans s2) e2 tc pw mem
theorem ok_bytes (T : Txt K mg A) : FnOk P w K mg base CX0 2 A.a_bytes A.d_bytes ["_law_items_here", "_law_slots_here", "_law_step", "_law_n"] NetG.spBytes := by
  refine T.F_bytes.ok sc_bytes (fun vs H Q E h => ?_) (fun cdv A0 outer s H vs Q E hr h => ?_)
  · obtain ⟨S, ti, st, r, n, l, its, stp, a, s, rfl, _⟩ := h
    rfl
  · obtain ⟨S, ti, st, r, n, l, its, stp, a, s, rfl, hti, hI, gok, l13, hst, hso, nlo, nhi, q⟩ := h
    have hg := gok.good
    have ilen := hI.length
    refine ⟨_, (pss_cons (ps_if (pt_cmpR op_eq (pe_callB Lay.call_lenS (by rfl) T.n_len PySem.boot_len (pa_cons (pv 2) pa_nil)) pe_int (nomark _))
      (pss_one (ps_ret (pe_lst pa_nil)))
      pss_nil)
    (pss_cons (ps_set (i := 4) sc_bytes.nd rfl (Or.inl rfl) (pe_ix ix_list (pe_lc (own := [("_law_item", 5)]) (g := gName 5) rfl sc_bytes.nd (pi_list (pv 0)) (blkOk_by (own := [("_law_item", 5)]) (N := ["_law_items_here", "_law_slots_here", "_law_step", "_law_n", "_law_chosen", "_law_item", "_law_number", "_law_start", "_law_k"]) (sc := defScope s_bytes) (by decide +kernel)) (fun _ _ _ _ _ => pg_name (i := 5) sc_bytes.nd rfl (Or.inl rfl)) (fun _ _ _ _ _ => pts_one (PW.pt (pw_and (pt_cmpR op_eq (pe_ix (show IxR _ (rIxT K) from ix_tup) (pv 5) pe_int (fun _ _ => rfl)) pe_str (nomark _)) (pw_and1 (pt_cmpR op_eq (pe_ix (show IxR _ (rIxT K) from ix_tup) (pv 5) pe_int (fun _ _ => rfl)) (pe_ix (show IxR _ (rIxT K) from ix_tup) (pv 2) pe_int (fun _ _ => rfl)) (nomark _)))))) (fun _ _ _ _ _ => by exact (pv 5))) pe_int (fun _ _ => rfl)))
    (pss_cons (ps_set (i := 6) sc_bytes.nd rfl (Or.inl rfl) (pe_op op_add (pv 3) (pe_ix ix_tup (pv 2) pe_int (fun _ _ => rfl))))
    (pss_cons (ps_while PassesOwn.never (pt_cmpR op_lt (pv 6) pe_int (nomark _))
      (pss_one (ps_set (i := 6) sc_bytes.nd rfl (Or.inl rfl) (pe_op op_add (pv 6) pe_int))))
    (pss_cons (ps_set (i := 7) sc_bytes.nd rfl (Or.inr rfl) (pe_ix ix_list (pe_ix ix_tup (pv 4) pe_int (fun _ _ => rfl)) (pe_op Lay.op_modP (pe_callTy Lay.call_intI (by rfl) T.n_int (by decide +kernel) (pa_cons (pv 6) pa_nil)) (pe_callB Lay.call_lenS (by rfl) T.n_len PySem.boot_len (pa_cons (pe_ix ix_tup (pv 4) pe_int (fun _ _ => rfl)) pa_nil))) (fun _ _ => rfl)))
    (pss_one (ps_ret (pe_lc (own := [("_law_k", 8)]) (g := gName 8) rfl sc_bytes.nd (pi_range1 rfl T.n_range (pa_cons (pe_ix ix_tup (pv 4) pe_int (fun _ _ => rfl)) pa_nil)) (blkOk_by (own := [("_law_k", 8)]) (N := ["_law_items_here", "_law_slots_here", "_law_step", "_law_n", "_law_chosen", "_law_item", "_law_number", "_law_start", "_law_k"]) (sc := defScope s_bytes) (by decide +kernel)) (fun _ _ _ _ _ => pg_name (i := 8) sc_bytes.nd rfl (Or.inl rfl)) (fun _ _ _ _ _ => pts_one (pt_chain op_le op_le (pe_ix (show IxR _ (rIxT K) from ix_tup) (pv 2) pe_int (fun _ _ => rfl)) (pv 8) (pe_ix (show IxR _ (rIxT K) from ix_tup) (pv 2) pe_int (fun _ _ => rfl)))) (fun _ _ _ _ _ => by exact (pe_op op_add (pv 7) (pv 8))))))))))), ?_⟩
    walk_at "in"
    walk_at "rd"
    rcases NetG.step_kind hg hso with ⟨w, nm, rfl⟩ | ⟨w, nm, sh, f, e, sz, ats, rfl, vm, h0, h3, f0, fe, ez, z8, al1, al4, al⟩
    · walk_at "rd"
      refine Lay.ite_d (fun _ => ?_) (fun c => absurd rfl c)
      walk_at "rd"
      refine ⟨by decide, fun u hu => ?_⟩
      exact q u [] _ (Lay.Same.upd hu) upd_same (.inl ⟨rfl, rfl⟩)
    · walk_at "rd"
      refine Lay.ite_d (fun c => absurd c (by decide)) (fun _ => ?_)
      walk_at "rd"
      refine ⟨⟨_, SqL.of hti⟩, ?_⟩
      intro D hD
      refine Lay.lc_go (walk_list (xs := l)) (fun i l' H' => L2.Same H H' ∧ NetG.ItemsAt S H l' ((its.take i).filter (NetG.isVar nm))) ⟨Lay.Same.upd hD, .nil⟩ (fun i l' H' _ r => SqL.of (r.1 _ _ hti)) ?_ ?_
      · rintro i l' y H2 H3 hi hl' hz' ⟨s2, it2⟩ ⟨rfl, ey⟩
        obtain ⟨it, ei, ia⟩ := NetL.pget hI ey
        obtain ⟨b, kk, rest, rfl, hb, kv, _, _⟩ := NetG.item_full ia
        have fs := NetL.filt_succ (p := NetG.isVar nm) ei
        have hst2 := s2 _ _ hst
        walk_at "rd"
        refine ⟨rfl, ?_⟩
        walk_at "rd"
        refine Lay.rd_ixT (SqT.of (s2 _ _ hb)) (v := .str kk) (Lay.atI_nat (i := 0) rfl) ?_
        walk_at "rd"
        rw [kv]
        have sameD : ∀ {o : HO}, L2.Same H (upd H3 D o) := fun b o hb => by
          rw [upd_ne (fun e => by subst e; rw [hD] at hb; cases hb)]
          exact s2 b o hb
        by_cases c1 : it.isV = true
        · rw [c1]
          walk_at "it"
          refine Lay.rd_ixT (SqT.of (s2 _ _ hb)) (v := .str it.nm) (Lay.atI_nat (i := 1) rfl) ?_
          walk_at "rd"
          refine Lay.ite_d (fun c2 => ?_) (fun c2 => ?_)
          · have iv : NetG.isVar nm it = true := by unfold NetG.isVar; rw [c1, decide_eq_true c2]; rfl
            rw [iv, if_pos rfl] at fs
            walk_at "it"
            refine Lay.lc_put hl' hz' (by omega) ⟨sameD, ?_⟩
            rw [fs]
            exact Paired.snoc it2 ia
          · have iv : NetG.isVar nm it = false := by unfold NetG.isVar; rw [decide_eq_false c2, Bool.and_false]
            rw [iv, if_neg Bool.false_ne_true, List.append_nil] at fs
            walk_at "it"
            refine Lay.lc_skip hl' hz' ⟨s2, ?_⟩
            rw [fs]
            exact it2
        · have c1' := Bool.eq_false_iff.mpr c1
          have iv : NetG.isVar nm it = false := by unfold NetG.isVar; rw [c1', Bool.false_and]
          rw [iv, if_neg Bool.false_ne_true, List.append_nil] at fs
          rw [c1']
          walk_at "it"
          refine Lay.lc_skip hl' hz' ⟨s2, ?_⟩
          rw [fs]
          exact it2
      rintro l' H4 hl4 hz4 ⟨s4, it4⟩
      rw [List.take_of_length_le (by omega)] at it4
      have vm2 : NetL.It.vr nm sz ats ∈ its.filter (NetG.isVar nm) := List.mem_filter.mpr ⟨vm, by unfold NetG.isVar; rw [show (NetL.It.vr nm sz ats).isV = true from rfl, show decide ((NetL.It.vr nm sz ats).nm = nm) = true from decide_eq_true rfl]; rfl⟩
      obtain ⟨v0, l0, rfl⟩ : ∃ v0 l0, l' = v0 :: l0 := by
        cases l' with
        | nil =>
          cases e1 : its.filter (NetG.isVar nm) with
          | nil => rw [e1] at vm2; cases vm2
          | cons a b => rw [e1] at it4; cases it4
        | cons v0 l0 => exact ⟨v0, l0, rfl⟩
      obtain ⟨it0, e0, ia⟩ := NetL.pget (i := 0) it4 rfl
      obtain ⟨m0, i0⟩ := List.mem_filter.mp (List.mem_of_getElem? e0)
      obtain ⟨s', ats', rfl⟩ := NetG.isVar_yes i0
      obtain ⟨rfl, rfl⟩ := NetG.var_one hg vm m0
      obtain ⟨b, ab, rfl, hb, hab, _⟩ := ia
      have hb4 := s4 _ _ hb
      have hab4 := s4 _ _ hab
      have hst4 := s4 _ _ hst
      walk_at "rd"
      refine Lay.rd_ixL (SqL.of hl4) (v := .ref b) (Lay.atI_nat (i := 0) rfl) ?_
      walk_at "rd"
      refine while_by (fun σ' H' => ∃ m : Int, σ' = [some (V.ref ti), some (V.int r), some (V.ref st), some (V.int n), some (V.ref b), none, some (V.int m), none, none] ∧ H' = H4 ∧ (n + sh - m) % 12 = 0 ∧ -20000 ≤ m ∧ m ≤ 20000) (fun σ' _ => NetG.fall 6 σ') ⟨n + sh, rfl, rfl, by rw [Int.sub_self]; rfl, by omega, by omega⟩ ?_ (fun σ H Q Q' f ⟨v, e, i, j, e1, e2, k, ek, q⟩ => ⟨v, e, i, j, e1, e2, k, ek, f _ _ q⟩)
      rintro σ' H' ⟨m, rfl, rfl, md, m0, m1⟩
      walk_at "rd"
      refine Lay.ite_d (fun c => ?_) (fun c => ?_)
      · walk_at "rd"
        exact ⟨⟨m + 12, rfl, rfl, by omega, by omega, by omega⟩, by show (-(m + 12)).toNat < (-m).toNat; omega⟩
      · walk_at "rd"
        rw [List.length_map]
        refine Lay.rd_modP (by omega) (fun d ed d0 d1 => ?_)
        have ea : ats[d.toNat]? = some (ats[d.toNat]'(by omega)) := List.getElem?_eq_getElem (by omega)
        generalize ats[d.toNat]'(by omega) = a0 at ea
        have em : ((n + sh) % (ats.length : Int)) = d := by
          rw [ed]
          have : ats.length = 1 ∨ ats.length = 2 ∨ ats.length = 3 ∨ ats.length = 4 := by omega
          rcases this with e | e | e | e <;> rw [e] <;> omega
        refine Lay.rd_ixL (SqL.of hab4) (v := .int a0) (Lay.atI_int d0 (by rw [List.getElem?_map, ea]; rfl)) ?_
        walk_at "rd"
        refine ⟨_, rfl, by omega, by omega, ?_⟩
        intro D2 hD2
        refine Lay.lc_go (walk_range (lo := 0) (n := sz.toNat)) (fun i l' H'' => L2.Same H' H'' ∧ l' = (NetL.row (min (i : Int) (e + 1) - f).toNat (a0 + f)).map V.int) ⟨Lay.Same.upd hD2, by rw [show (min ((0 : Nat) : Int) (e + 1) - f).toNat = 0 by omega]; rfl⟩ (fun _ _ _ _ _ => trivial) ?_ ?_
        · rintro i l' y H5 H6 hi hl' hz' ⟨s5, r5⟩ hy
          obtain ⟨rfl, rfl⟩ := hy
          have hst5 := s5 _ _ hst4
          have sameD : ∀ {o : HO}, L2.Same H' (upd H6 D2 o) := fun b o hb => by
            rw [upd_ne (fun e => by subst e; rw [hD2] at hb; cases hb)]
            exact s5 b o hb
          walk_at "rd"
          refine ⟨rfl, ?_⟩
          walk_at "rd"
          by_cases c3 : f ≤ 0 + ((i : Nat) : Int)
          · rw [decide_eq_true c3]
            refine iteT ?_
            walk_at "rd"
            by_cases c4 : 0 + ((i : Nat) : Int) ≤ e
            · rw [decide_eq_true c4]
              walk_at "it"
              refine Lay.lc_put hl' hz' (by omega) ⟨sameD, ?_⟩
              rw [show (min (((i + 1 : Nat) : Int)) (e + 1) - f).toNat = (min ((i : Nat) : Int) (e + 1) - f).toNat + 1 by omega, NetL.row_succ, List.map_append, r5]
              congr 1
              show [V.int _] = [V.int _]
              congr 2
              omega
            · rw [decide_eq_false c4]
              walk_at "it"
              refine Lay.lc_skip hl' hz' ⟨s5, ?_⟩
              rw [show (min (((i + 1 : Nat) : Int)) (e + 1) - f).toNat = (min ((i : Nat) : Int) (e + 1) - f).toNat by omega]
              exact r5
          · rw [decide_eq_false c3]
            walk_at "it"
            refine Lay.lc_skip hl' hz' ⟨s5, ?_⟩
            rw [show (min (((i + 1 : Nat) : Int)) (e + 1) - f).toNat = (min ((i : Nat) : Int) (e + 1) - f).toNat by omega]
            exact r5
        rintro l' H5 hl5 hz5 ⟨s5, rfl⟩
        rw [show (min ((sz.toNat : Nat) : Int) (e + 1) - f).toNat = (e - f + 1).toNat by omega] at hl5
        exact q D2 _ H5 (s4.trans s5) hl5 (.inr ⟨w, nm, sh, f, e, sz, ats, a0, rfl, vm, f0, fe, ez, z8, by rw [em]; exact ea, rfl⟩)
theorem ok_lines (T : Txt K mg A) : FnOk P w K mg base CX0 1 A.a_lines A.d_lines ["_law_spots", "_law_width"] NetG.spLawLines := by
  refine T.F_lines.ok sc_lines (fun vs H Q E h => ?_) (fun cdv A0 outer s H vs Q E hr h => ?_)
  · obtain ⟨a, bs, w, rfl, _⟩ := h
    rfl
  · obtain ⟨a, bs, w, rfl, ha, asc, b8, w1, w16, q⟩ := h
    refine ⟨_, (pss_cons (ps_set (i := 2) sc_lines.nd rfl (Or.inl rfl) (pe_lst pa_nil))
    (pss_cons (ps_for PassesOwn.never rfl (pi_list (pv 0)) (pg_name (i := 3) sc_lines.nd rfl (Or.inl rfl))
      (pss_cons (ps_set (i := 4) sc_lines.nd rfl (Or.inl rfl) (pe_op Lay.op_divP (pe_callTy Lay.call_intI (by rfl) T.n_int (by decide +kernel) (pa_cons (pv 3) pa_nil)) (pv 1)))
      (pss_one (ps_if (pt_cmpR op_notIn_seq (pv 4) (pv 2) rfl)
        (pss_one (ps_expr (pe_bm PySem.F.plainAttrs_list PySem.F.slot_list_append PySem.F.type_list_append mt_append (pv 2) (pa_cons (pv 4) pa_nil))))
        pss_nil))))
    (pss_one (ps_ret (pv 2))))), ?_⟩
    walk_at "in"
    walk_at "rd"
    refine ⟨by decide, fun W hW => ?_⟩
    have s0 := Lay.Same.upd (o := .lst []) hW
    walk_at "rd"
    refine Lay.rd_forW (J := Itl K a) (H1 := upd H W (.lst [])) (fun R r => ?_) (walk_list (xs := bs.map V.int)) (fun i σ' H' => (∃ (o3 o4 : Option V), σ' = [some (V.ref a), some (V.int w), some (V.ref W), o3, o4]) ∧ L2.Same H H' ∧ ∃ ws : List Int, H' W = some (.lst (ws.map V.int)) ∧ ws.length ≤ i ∧ ws.Pairwise (· < ·) ∧ ∀ k, k ∈ ws ↔ ∃ b ∈ bs.take i, b / w = k)
      ⟨⟨_, _, rfl⟩, s0, [], upd_same, Nat.le_refl _, List.Pairwise.nil, fun k => ⟨(fun h => nomatch h), (fun ⟨b, m, _⟩ => by rw [List.take_zero] at m; cases m)⟩⟩ (fun i σ' H' _ z => SqL.of (z.2.1 _ _ ha)) ?_ ?_
    · refine Lay.rd_iList ?_
      walk_at "rd"
      exact ⟨⟨_, SqL.of (s0 _ _ ha)⟩, r⟩
    · rintro i x σ' H2 H3 hi ⟨⟨o3, o4, rfl⟩, s2, ws, eW, wl, wasc, wm⟩ ⟨rfl, ey⟩
      have hi' : i < bs.length := by simpa using hi
      obtain ⟨n0, en, rfl⟩ : ∃ n0, bs[i]? = some n0 ∧ x = V.int n0 := by
        have e : (bs.map V.int)[i]? = some x := ey
        rw [List.getElem?_map, List.getElem?_eq_getElem hi'] at e
        exact ⟨_, List.getElem?_eq_getElem hi', (Option.some.inj e).symm⟩
      have tk := Lay.take_succ en
      have low : ∀ k ∈ ws, k ≤ n0 / w := fun k m => by
        obtain ⟨b, bm, rfl⟩ := (wm k).mp m
        obtain ⟨j, hj, ej⟩ := List.getElem_of_mem bm
        rw [List.getElem_take] at ej
        rw [List.length_take] at hj
        have lt := List.pairwise_iff_getElem.mp asc j i (by omega) hi' (by omega)
        have e2 : bs[i] = n0 := by rw [List.getElem?_eq_getElem hi'] at en; exact Option.some.inj en
        rw [ej, e2] at lt
        exact Int.ediv_le_ediv (by omega) (by omega)
      walk_at "rd"
      refine Lay.rd_divP ⟨by omega, by omega⟩ (fun d ed => ?_)
      walk_at "rd"
      refine NetG.rd_notInL (SqL.of eW) ?_
      walk_at "rd"
      by_cases c : d ∈ ws
      · rw [decide_eq_true c]
        walk_at "it"
        refine ⟨⟨_, _, rfl⟩, s2, ws, eW, by omega, wasc, fun k => ?_⟩
        rw [wm, tk]
        constructor
        · rintro ⟨b, bm, e⟩
          exact ⟨b, List.mem_append_left _ bm, e⟩
        · rintro ⟨b, bm, e⟩
          rcases List.mem_append.mp bm with bm | bm
          · exact ⟨b, bm, e⟩
          · rw [List.mem_singleton] at bm
            subst bm
            rw [← e, ← ed]
            exact (wm d).mp c
      · rw [decide_eq_false c]
        walk_at "it"
        refine Lay.rd_bm ?_
        walk_at "rd"
        refine ⟨Lay.tyV_lst eW, ?_⟩
        walk_at "rd"
        refine ⟨W, _, _, rfl, rfl, eW, Nat.lt_of_le_of_lt (show _ ≤ 100 by rw [List.length_map]; omega) (by decide), ?_⟩
        refine ⟨⟨_, _, rfl⟩, fun b o hb => ?_, ws ++ [d], by rw [upd_same, List.map_append]; rfl, by rw [List.length_append]; show ws.length + 1 ≤ i + 1; omega, ?_, fun k => ?_⟩
        · rw [upd_ne (fun e => by subst e; rw [hW] at hb; cases hb)]
          exact s2 b o hb
        · refine List.pairwise_append.mpr ⟨wasc, List.pairwise_singleton _ _, fun k km b bm => ?_⟩
          rw [List.mem_singleton] at bm
          subst bm
          have z1 := low k km
          have z2 : k ≠ b := fun e => c (by rw [← e]; exact km)
          rw [← ed] at z1
          omega
        · rw [List.mem_append, List.mem_singleton, wm, tk]
          constructor
          · rintro (⟨b, bm, e⟩ | e)
            · exact ⟨b, List.mem_append_left _ bm, e⟩
            · exact ⟨n0, List.mem_append_right _ List.mem_cons_self, by rw [e, ed]⟩
          · rintro ⟨b, bm, e⟩
            rcases List.mem_append.mp bm with bm | bm
            · exact .inl ⟨b, bm, e⟩
            · rw [List.mem_singleton] at bm
              subst bm
              exact .inr (by rw [← e, ed])
    · rintro σ' H2 ⟨⟨o3, o4, rfl⟩, s2, ws, eW, wl, wasc, wm⟩
      walk_at "rd"
      rw [List.length_map, List.take_of_length_le (Nat.le_refl _)] at wm
      exact q W ws H2 s2 eW wasc wm
theorem ok_whole (T : Txt K mg A) : FnOk P w K mg base CX0 1 A.a_whole A.d_whole ["_law_numbers"] NetG.spWhole := by
  refine T.F_whole.ok sc_whole (fun vs H Q E h => ?_) (fun cdv A0 outer s H vs Q E hr h => ?_)
  · obtain ⟨t, ns, rfl, _⟩ := h
    rfl
  · obtain ⟨t, ns, rfl, ht, l20, q⟩ := h
    refine ⟨_, (pss_one (ps_ret (pe_and (pe_callB call_isi (by rfl) T.n_isinstance (by decide +kernel) (pa_cons (pv 0) (pa_cons (pe_bltn (v := .ty "tuple") (by rfl) T.n_tuple (by decide +kernel) rfl) pa_nil))) (pe_one (pe_callB (cr_all rfl) (by rfl) T.n_all (by decide +kernel) (pa_cons (pe_lc (own := [("_law_one", 1)]) (g := gName 1) (tt := tYes) rfl sc_whole.nd (pi_tup (pv 0)) (blkOk_by (own := [("_law_one", 1)]) (N := ["_law_numbers", "_law_one"]) (sc := defScope s_whole) (by decide +kernel)) (fun _ _ _ _ _ => pg_name (i := 1) sc_whole.nd rfl (Or.inl rfl)) (fun _ _ _ _ _ => pts_nil) (fun _ _ _ _ _ => by exact (pe_and (pe_callB (r := rIsi K) call_isi (by rfl) T.n_isinstance (by decide +kernel) (pa_cons (pv 1) (pa_cons (pe_bltn (v := .ty "int") (by rfl) T.n_int (by decide +kernel) rfl) pa_nil))) (pe_one (pe_not (pe_callB (r := rIsi K) call_isi (by rfl) T.n_isinstance (by decide +kernel) (pa_cons (pv 1) (pa_cons (pe_bltn (v := .ty "bool") (by rfl) T.n_bool (by decide +kernel) rfl) pa_nil)))))))) pa_nil)))))), ?_⟩
    walk_at "in"
    walk_at "rd"
    refine Lay.rd_isi .tuple (.tup ht) ?_
    rw [show Lay.isTy Lay.Kn.tuple Lay.Kn.tuple = true from rfl]
    walk_at "it"
    refine ⟨⟨_, SqT.of ht⟩, ?_⟩
    intro D hD
    refine Lay.lc_go (walk_tup (xs := ns.map V.int)) (fun i l' H' => L2.Same H H' ∧ l' = (List.replicate i true).map V.bl) ⟨Lay.Same.upd hD, rfl⟩ (fun i l' H' _ r => SqT.of (r.1 _ _ ht)) ?_ ?_
    · rintro i l' x H2 H3 hi hl' hz' ⟨s2, r2⟩ ⟨rfl, ey⟩
      have hi' : i < ns.length := by simpa using hi
      obtain ⟨n0, rfl⟩ : ∃ n0, x = V.int n0 := by
        have e : (ns.map V.int)[i]? = some x := ey
        rw [List.getElem?_map, List.getElem?_eq_getElem hi'] at e
        exact ⟨_, (Option.some.inj e).symm⟩
      have sameD : ∀ {o : HO}, L2.Same H (upd H3 D o) := fun b o hb => by
        rw [upd_ne (fun e => by subst e; rw [hD] at hb; cases hb)]
        exact s2 b o hb
      walk_at "rd"
      refine ⟨rfl, ?_⟩
      walk_at "it"
      refine Lay.rd_isi .int (.int _) ?_
      rw [show Lay.isTy Lay.Kn.int Lay.Kn.int = true from rfl]
      walk_at "it"
      refine Lay.rd_isi .bool (.int _) ?_
      rw [show Lay.isTy Lay.Kn.int Lay.Kn.bool = false from rfl]
      walk_at "rd"
      refine Lay.lc_put hl' hz' (by omega) ⟨sameD, ?_⟩
      rw [r2, List.replicate_succ', List.map_append]
      rfl
    · rintro l' H4 hl4 hz4 ⟨s4, rfl⟩
      walk_at "rd"
      refine Lay.rd_alls (SqL.of hl4) ?_
      rw [show (List.replicate (ns.map V.int).length true).all id = true from List.all_eq_true.mpr fun b m => by rw [List.eq_of_mem_replicate m]; rfl]
      exact q H4 s4
theorem ok_right (T : Txt K mg A) (G_bytes : FnOk P w K mg base CX0 2 A.a_bytes A.d_bytes ["_law_items_here", "_law_slots_here", "_law_step", "_law_n"] NetG.spBytes) (G_lines : FnOk P w K mg base CX0 1 A.a_lines A.d_lines ["_law_spots", "_law_width"] NetG.spLawLines) (G_whole : FnOk P w K mg base CX0 1 A.a_whole A.d_whole ["_law_numbers"] NetG.spWhole) (G_Net_touched : FnOk P w K mg base CX0 5 A.a_Net_touched A.d_Net_touched ["self", "place", "n"] (NetG.spTouched (cs A) A.c_Net)) (G_Net_lines : FnOk P w K mg base CX0 6 A.a_Net_lines A.d_Net_lines ["self", "place", "n"] (NetG.spNetLines (cs A) A.c_Net)) : FnOk P w K mg base CX0 7 A.a_right A.d_right ["_law_net", "_law_items_here", "_law_slots_here", "_law_spot", "_law_step", "_law_n"] (NetG.spRightB (cs A) A.c_Net) := by
  refine T.F_right.ok sc_right (fun vs H Q E h => ?_) (fun cdv A0 outer s H vs Q E hr h => ?_)
  · obtain ⟨S, x, ti, sp, st, ln, r, n, its, ps, l, a, s, stp, rfl, _⟩ := h
    rfl
  · obtain ⟨S, x, ti, sp, st, ln, r, n, its, ps, l, a, s, stp, rfl, hN, hti, hI, gok, hsp, hst, hso, lok, r1, r4, pl, nlo, nhi, q⟩ := h
    obtain ⟨dx, tv, ts, ta, dn, n1, _⟩ := id hN
    have hg := gok.good
    have l16 : 1 ≤ ln ∧ ln ≤ 16 := by
      have m : ln ∈ ([1, 2, 4, 8, 16] : List Int) := lok
      simp only [List.mem_cons, List.not_mem_nil, or_false] at m
      omega
    refine ⟨_, (pss_cons (ps_set (i := 6) sc_right.nd rfl (Or.inl rfl) (pe_call G_bytes (hr.mono (by decide)) rfl T.g_bytes T.F_bytes.kp T.b_bytes .nil pass0 (pa_cons (pv 1) (pa_cons (pv 2) (pa_cons (pv 4) (pa_cons (pv 5) pa_nil))))))
    (pss_cons (ps_set (i := 7) sc_right.nd rfl (Or.inl rfl) (pe_meth (pv 0) T.cl_Net T.me_Net_touched G_Net_touched (hr.mono (by decide)) T.b_Net_touched .nil pass0 (pa_cons (pv 3) (pa_cons (pv 5) pa_nil))))
    (pss_cons (ps_if (PW.pt (pw_or (pt_not (pt_val (pe_call G_whole (hr.mono (by decide)) rfl T.g_whole T.F_whole.kp T.b_whole .nil pass0 (pa_cons (pv 7) pa_nil)))) (pw_or (pt_cmpR (op_neD hr.units) (pe_callTy Lay.call_listS (by rfl) T.n_list (by decide +kernel) (pa_cons (pv 7) pa_nil)) (pv 6) (nomark _)) (pw_or1 (pt_cmpR (op_neD hr.units) (pe_meth (pv 0) T.cl_Net T.me_Net_touched G_Net_touched (hr.mono (by decide)) T.b_Net_touched .nil pass0 (pa_cons (pv 3) (pa_cons (pe_op op_add (pv 5) (pv 2)) pa_nil))) (pv 7) (nomark _))))))
      (pss_one (ps_ret pe_bl))
      pss_nil)
    (pss_cons (ps_set (i := 7) sc_right.nd rfl (Or.inl rfl) (pe_meth (pv 0) T.cl_Net T.me_Net_lines G_Net_lines (hr.mono (by decide)) T.b_Net_lines .nil pass0 (pa_cons (pv 3) (pa_cons (pv 5) pa_nil))))
    (pss_one (ps_ret (pe_and (pe_call G_whole (hr.mono (by decide)) rfl T.g_whole T.F_whole.kp T.b_whole .nil pass0 (pa_cons (pv 7) pa_nil)) (pe_one (pe_cmpR (op_eqD hr.units) (pe_callTy Lay.call_listS (by rfl) T.n_list (by decide +kernel) (pa_cons (pv 7) pa_nil)) (pe_call G_lines (hr.mono (by decide)) rfl T.g_lines T.F_lines.kp T.b_lines .nil pass0 (pa_cons (pv 6) (pa_cons (pe_fld (pv 0) rfl) pa_nil))) (nomark _)))))))))), ?_⟩
    walk_at "in"
    walk_at "rd"
    refine ⟨S, ti, st, r, n, l, its, stp, a, s, rfl, hti, hI, gok, gok.len, hst, hso, by omega, by omega, fun wq bs H1 s1 ewq tc => ?_⟩
    have tl := tc.len
    walk_at "rd"
    refine Lay.rd_meth ?_
    walk_at "rd"
    refine ⟨x, dx, _, rfl, s1 _ _ n1, by rfl, ?_⟩
    walk_at "rd"
    refine ⟨x, ln, r, its, ps, sp, a, s, stp, n, rfl, hN.mono s1, s1 _ _ hsp, hso, pl, gok, by omega, by omega, fun f1 bs1 H2 s2 ef1 tc1 => ?_⟩
    obtain rfl := tc.one hg tc1 (fun k _ => by rw [Int.sub_self]; exact Int.zero_emod _)
    have S2 := s1.trans s2
    walk_at "rd"
    refine ⟨f1, bs, rfl, ef1, by omega, fun H3 s3 => ?_⟩
    have S3 := S2.trans s3
    walk_at "it"
    refine Lay.rd_listT (SqT.of (s3 _ _ ef1)) (fun g1 hg1 => ?_)
    have s4 := Lay.Same.upd (o := .lst (bs.map V.int)) hg1
    have S4 := S3.trans s4
    walk_at "rd"
    refine Lay.rd_neLI (SqL.of upd_same) (SqL.of (s4 _ _ (s3 _ _ (s2 _ _ ewq)))) ?_
    have ewq4 := s4 _ _ (s3 _ _ (s2 _ _ ewq))
    have ef4 := s4 _ _ (s3 _ _ ef1)
    generalize upd H3 g1 (.lst (bs.map V.int)) = H4 at S4 ewq4 ef4 ⊢
    walk_at "it"
    refine Lay.rd_meth ?_
    walk_at "rd"
    refine ⟨x, dx, _, rfl, S4 _ _ n1, by rfl, ?_⟩
    walk_at "rd"
    refine ⟨x, ln, r, its, ps, sp, a, s, stp, n + r, rfl, hN.mono S4, S4 _ _ hsp, hso, pl, gok, by omega, by omega, fun f2 bs2 H5 s5 ef2 tc2 => ?_⟩
    obtain rfl := tc.one hg tc2 (fun k hk => by
      rw [show n - (n + r) = -r by omega]
      rcases hk with rfl | rfl
      · exact Int.emod_one _
      · exact Int.emod_eq_zero_of_dvd (Int.dvd_neg.mpr (Int.dvd_refl _)))
    have S5 := S4.trans s5
    walk_at "rd"
    refine Lay.rd_neTI (SqT.of ef2) (SqT.of (s5 _ _ ef4)) ?_
    walk_at "it"
    refine Lay.rd_meth ?_
    walk_at "rd"
    refine ⟨x, dx, _, rfl, S5 _ _ n1, by rfl, ?_⟩
    walk_at "rd"
    refine ⟨x, ln, r, its, ps, sp, a, s, stp, n, rfl, hN.mono S5, S5 _ _ hsp, hso, pl, gok, lok, by omega, by omega, fun f3 bs3 ms H6 s6 ef3 tc3 pw mem => ?_⟩
    obtain rfl := tc.one hg tc3 (fun k _ => by rw [Int.sub_self]; exact Int.zero_emod _)
    have S6 := S5.trans s6
    have ml : ms.length ≤ 8 := by
      have sub := NetG.asc_len pw (fun k km => (mem k).mp km)
      omega
    walk_at "rd"
    refine ⟨f3, ms, rfl, ef3, by omega, fun H7 s7 => ?_⟩
    have S7 := S6.trans s7
    walk_at "it"
    refine Lay.rd_listT (SqT.of (s7 _ _ ef3)) (fun g2 hg2 => ?_)
    have s8 := Lay.Same.upd (o := .lst (ms.map V.int)) hg2
    have S8 := S7.trans s8
    have eg2 : (upd H7 g2 (.lst (ms.map V.int))) g2 = some (.lst (ms.map V.int)) := upd_same
    have ewq8 := s8 _ _ (s7 _ _ (s6 _ _ (s5 _ _ ewq4)))
    generalize upd H7 g2 (.lst (ms.map V.int)) = H8 at S8 eg2 ewq8 ⊢
    walk_at "rd"
    refine Lay.rd_tFld ?_
    walk_at "rd"
    refine ⟨x, _, dx, _, .int ln, rfl, S8 _ _ n1, T.cl_Net, T.na_Net_line, by rfl, ?_⟩
    walk_at "rd"
    refine ⟨wq, bs, ln, rfl, ewq8, tc.asc, tl, by omega, by omega, fun q2 ws H9 s9 eq2 wasc wm => ?_⟩
    have ee : ms = ws := Lay.asc_eq pw wasc fun k => (mem k).trans (wm k).symm
    subst ee
    walk_at "rd"
    refine Lay.rd_eqLI (SqL.of (s9 _ _ eg2)) (SqL.of eq2) ?_
    rw [decide_eq_true rfl]
    exact q H9 (S8.trans s9)
theorem bind_Net_made (T : Txt K mg A) : ∃ mv : List Value, KBn K A.d_Net_made ["cls", "parts", "line", "ring"] 2 ["line", "ring"] (fun us ws => us ++ ws) (fun vs zs => vs ++ zs) :=
  T.F_Net_made.kbinds0 2 ["line", "ring"] [] (fun us mz zs => us ++ zs) (fun z => by cases z) (fun q hq => by cases hq) (fun r1 r2 r3 => r1.append r3)
    (fun D doc pm an cdv ct us mv ws h1 h2 h3 => match us, mv, ws, h1, h2, h3 with
      | [a, b], [], [c, d], _, _, _ => (by rfl : _ = _))
theorem ok_round (T : Txt K mg A) (G_draw : FnOk P w K mg base CX0 1 A.a_draw A.d_draw ["_law_pen_here", "_law_many"] Lay.spDraw) (G_items : FnOk P w K mg base CX0 3 A.a_items A.d_items ["_law_pen_here", "_law_slots_here"] NetG.spItems) (G_shuffled : FnOk P w K mg base CX0 2 A.a_shuffled A.d_shuffled ["_law_pen_here", "_law_items_here"] NetG.spShuf) (G_part : FnOk P w K mg base CX0 9 A.a_part A.d_part ["_law_item"] (NetG.spPart (cs A))) (G_Net_made : FnOk P w K mg base CX0 6 A.a_Net_made A.d_Net_made ["cls", "parts", "line", "ring"] (NetL.spNetMade (cs A) A.c_Net)) (G_right : FnOk P w K mg base CX0 7 A.a_right A.d_right ["_law_net", "_law_items_here", "_law_slots_here", "_law_spot", "_law_step", "_law_n"] (NetG.spRightB (cs A) A.c_Net)) : FnOk P w K mg base CX0 10 A.a_round A.d_round ["_law_pen_here"] (Lay.spNum 2000) := by
  refine T.F_round.ok sc_round (fun vs H Q E h => ?_) (fun cdv A0 outer s H vs Q E hr h => ?_)
  · obtain ⟨p, n, c, rfl, _⟩ := h
    rfl
  · obtain ⟨p, n, c, rfl, hp, hn, q⟩ := h
    obtain ⟨mv, hbM⟩ := bind_Net_made T
    have GNM := KwS.fnrk_of G_Net_made hbM
    refine ⟨_, (pss_cons (ps_set (i := 1) sc_round.nd rfl (Or.inl rfl) (pe_op op_add pe_int (pe_call G_draw (hr.mono (by decide)) rfl T.g_draw T.F_draw.kp T.b_draw .nil pass0 (pa_cons (pv 0) (pa_cons pe_int pa_nil)))))
    (pss_cons (ps_set (i := 2) sc_round.nd rfl (Or.inl rfl) (pe_call G_shuffled (hr.mono (by decide)) rfl T.g_shuffled T.F_shuffled.kp T.b_shuffled .nil pass0 (pa_cons (pv 0) (pa_cons (pe_call G_items (hr.mono (by decide)) rfl T.g_items T.F_items.kp T.b_items .nil pass0 (pa_cons (pv 0) (pa_cons (pv 1) pa_nil))) pa_nil))))
    (pss_cons (ps_setLc (i := 3) (own := [("_law_item", 4)]) (g := gName 4) (tt := tYes) rfl sc_round.nd rfl rfl (sw_true rfl rfl rfl (by decide +kernel)) (pi_list (pv 2)) (blkOk_by (own := [("_law_item", 4)]) (N := ["_law_pen_here", "_law_slots_here", "_law_items_here", "_law_handed", "_law_item", "_law_agents_here", "_law_far", "_law_width", "_law_net", "_law_a", "_law_s", "_law_step", "_law_n"]) (sc := defScope s_round) (by decide +kernel)) (fun _ _ _ _ _ => pg_name (i := 4) sc_round.nd rfl (Or.inl rfl)) (fun _ _ _ _ _ => pts_nil) (fun _ _ _ _ _ => by exact (pe_call G_part (hr.mono (by decide)) rfl T.g_part T.F_part.kp T.b_part .nil pass0 (pa_cons (pv 4) pa_nil))))
    (pss_cons (ps_setLc (i := 5) (own := [("_law_item", 4)]) (g := gName 4) rfl sc_round.nd rfl rfl (sw_true rfl rfl rfl (by decide +kernel)) (pi_list (pv 2)) (blkOk_by (own := [("_law_item", 4)]) (N := ["_law_pen_here", "_law_slots_here", "_law_items_here", "_law_handed", "_law_item", "_law_agents_here", "_law_far", "_law_width", "_law_net", "_law_a", "_law_s", "_law_step", "_law_n"]) (sc := defScope s_round) (by decide +kernel)) (fun _ _ _ _ _ => pg_name (i := 4) sc_round.nd rfl (Or.inl rfl)) (fun _ _ _ _ _ => pts_one (pt_cmpR op_eq (pe_ix (show IxR _ (rIxT K) from ix_tup) (pv 4) pe_int (fun _ _ => rfl)) pe_str (nomark _))) (fun _ _ _ _ _ => by exact (pv 4)))
    (pss_cons (ps_set (i := 6) sc_round.nd rfl (Or.inl rfl) (pe_ix ix_list (pe_lst (pa_cons (pe_un un_neg pe_int) (pa_cons (pe_un un_neg pe_int) (pa_cons (pe_op op_add pe_int (pe_call G_draw (hr.mono (by decide)) rfl T.g_draw T.F_draw.kp T.b_draw .nil pass0 (pa_cons (pv 0) (pa_cons pe_int pa_nil)))) pa_nil)))) (pe_call G_draw (hr.mono (by decide)) rfl T.g_draw T.F_draw.kp T.b_draw .nil pass0 (pa_cons (pv 0) (pa_cons pe_int pa_nil))) (fun _ _ => rfl)))
    (pss_cons (ps_for PassesOwn.never rfl (pi_list (pe_lst (pa_cons pe_int (pa_cons pe_int (pa_cons pe_int (pa_cons pe_int (pa_cons pe_int pa_nil))))))) (pg_name (i := 7) sc_round.nd rfl (Or.inl rfl))
      (pss_cons (ps_set (i := 8) sc_round.nd rfl (Or.inl rfl) (KwS.pe_cmethNK (ks := ["line", "ring"]) (E := fun _ => E0) (pe_glob (v := .ref A.c_Net) rfl T.g_Net rfl) T.cr_Net T.cm_Net_made.choose_spec GNM (hr.mono (by decide)) (fun _ => NetL.passAt0) (pa_cons (pv 3) pa_nil) (pk_cons (pv 7) (pk_cons (pv 1) pk_nil))))
      (pss_one (ps_for PassesOwn.never rfl (pi_range1 rfl T.n_range (pa_cons (pe_callB Lay.call_lenS (by rfl) T.n_len PySem.boot_len (pa_cons (pv 5) pa_nil)) pa_nil)) (pg_name (i := 9) sc_round.nd rfl (Or.inl rfl))
        (pss_one (ps_for PassesOwn.never rfl (pi_range1 rfl T.n_range (pa_cons (pe_callB Lay.call_lenS (by rfl) T.n_len PySem.boot_len (pa_cons (pe_ix ix_tup (pe_ix ix_list (pv 5) (pv 9) (fun _ _ => rfl)) pe_int (fun _ _ => rfl)) pa_nil)) pa_nil)) (pg_name (i := 10) sc_round.nd rfl (Or.inl rfl))
          (pss_cons (ps_set (i := 11) sc_round.nd rfl (Or.inl rfl) (pe_ix ix_list (pe_ix ix_tup (pe_ix ix_list (pv 5) (pv 9) (fun _ _ => rfl)) pe_int (fun _ _ => rfl)) (pv 10) (fun _ _ => rfl)))
          (pss_one (ps_for PassesOwn.never rfl (pi_list (pe_lst (pa_cons pe_int (pa_cons pe_int (pa_cons pe_int (pa_cons pe_int (pa_cons (pe_un un_neg pe_int) (pa_cons (pe_op op_sub (pe_call G_draw (hr.mono (by decide)) rfl T.g_draw T.F_draw.kp T.b_draw .nil pass0 (pa_cons (pv 0) (pa_cons pe_int pa_nil))) pe_int) (pa_cons (pv 6) pa_nil))))))))) (pg_name (i := 12) sc_round.nd rfl (Or.inl rfl))
            (pss_one (ps_if (pt_not (pt_val (pe_call G_right (hr.mono (by decide)) rfl T.g_right T.F_right.kp T.b_right .nil pass0 (pa_cons (pv 8) (pa_cons (pv 2) (pa_cons (pv 1) (pa_cons (pe_tup (pa_cons (pv 9) (pa_cons (pv 10) pa_nil))) (pa_cons (pv 11) (pa_cons (pv 12) pa_nil)))))))))
              (pss_one (ps_ret pe_bl))
              pss_nil)))))))))))
    (pss_one (ps_ret pe_bl)))))))), ?_⟩
    walk_at "in"
    walk_at "rd"
    refine Lay.rd_draw hp (L2.Same.refl _) (by omega) (by decide) (by decide) (fun d H1 d0 d1 p1 k1 => ?_)
    walk_at "rd"
    refine ⟨p, n + 1, c, 1 + d, rfl, p1, by omega, by omega, by omega, fun r0 l0 its0 H2 hr0 er0 it0 gok0 l2 p2 k2 => ?_⟩
    obtain ⟨xs1, hP1⟩ := p1.at_
    walk_at "rd"
    refine ⟨p, _, c, r0, l0, its0, rfl, p2, by omega, er0, (fun e => by subst e; rw [hP1] at hr0; cases hr0), it0, gok0.len, fun ri l its H3 hri eri iti pm p3 k3 => ?_⟩
    have gok := gok0.perm pm
    have K3 := (k1.trans k2).trans k3
    have rip : ri ≠ p := fun e => by subst e; obtain ⟨xs2, hP2⟩ := p2.at_; rw [hP2] at hri; cases hri
    clear it0 er0 hr0 gok0 k1 k2 k3 p1 p2 hP1 hp
    have ilen := iti.length
    have il := gok.len
    have il2 : 2 ≤ its.length := by rw [pm.length_eq]; exact l2
    walk_at "rd"
    refine ⟨⟨_, SqL.of eri⟩, ?_⟩
    intro D hD
    obtain ⟨xs3, hP3⟩ := p3.at_
    obtain ⟨xc3, hC3⟩ := p3.cell
    have Dp : D ≠ p := Lay.ne_none hD hP3
    refine Lay.lc_go (walk_list (xs := l)) (fun i l' H' => L2.Same H3 H' ∧ NetL.PartsAt (cs A) H' l' (its.take i)) ⟨Lay.Same.upd hD, .nil⟩ (fun i l' H' _ r => SqL.of (r.1 _ _ eri)) ?_ ?_
    · rintro i l' x H4 H5 hi hl' hz' ⟨s4, pa⟩ ⟨rfl, ey⟩
      obtain ⟨it, ei, ia⟩ := NetL.pget iti ey
      walk_at "rd"
      refine ⟨rfl, ?_⟩
      walk_at "it"
      refine ⟨[p], x, it, rfl, ia.mono s4, gok.part it (List.mem_of_getElem? ei), fun u H6 s6 pu => ?_⟩
      have hl6 := s6 _ _ hl'
      have keepD : ∀ {o : HO}, L2.Same H3 (upd H6 D o) := fun b o hb => by
        rw [upd_ne (fun e => by subst e; rw [hD] at hb; cases hb)]
        exact s6 _ _ (s4 b o hb)
      have stD : ∀ {v : V} {ii : NetL.It} {o : HO}, NetL.PartAt (cs A) H6 v ii → NetL.PartAt (cs A) (upd H6 D o) v ii := fun {v ii o} h => (NetG.NL.upd hl6).part h
      refine Lay.lc_put hl6 hz' (by omega) ⟨keepD, ?_⟩
      rw [Lay.take_succ ei]
      exact Paired.snoc (Paired.mono (fun _ _ h => stD (h.mono s6)) pa) (stD pu)
    rintro ps H4 hl4 hz4 ⟨s4, pa4⟩
    rw [List.take_of_length_le (by omega)] at pa4
    have p4 := p3.mono s4
    have K4 := K3.trans (Lay.Keep.of s4)
    have it4 := iti.mono s4
    have er4 := s4 _ _ eri
    clear p3 K3 iti eri s4 hD hP3 hC3
    have pl := pa4.length
    walk_at "rd"
    refine ⟨⟨_, SqL.of er4⟩, ?_⟩
    intro AG hAG
    obtain ⟨xs4, hP4⟩ := p4.at_
    have AGp : AG ≠ p := Lay.ne_none hAG hP4
    refine Lay.lc_go (walk_list (xs := l)) (fun i l' H' => L2.Same H4 H' ∧ NetG.ItemsAt [p] H4 l' ((its.take i).filter NetL.It.isA)) ⟨Lay.Same.upd hAG, .nil⟩ (fun i l' H' _ r => SqL.of (r.1 _ _ er4)) ?_ ?_
    · rintro i l' y H5 H6 hi hl' hz' ⟨s5, it5⟩ ⟨rfl, ey⟩
      obtain ⟨it, ei, ia⟩ := NetL.pget it4 ey
      obtain ⟨b, kk, rest, rfl, hb, _, _, kv⟩ := NetG.item_full ia
      have fs := NetL.filt_succ (p := NetL.It.isA) ei
      walk_at "rd"
      refine ⟨rfl, ?_⟩
      walk_at "rd"
      refine Lay.rd_ixT (SqT.of (s5 _ _ hb)) (v := .str kk) (Lay.atI_nat (i := 0) rfl) ?_
      walk_at "rd"
      rw [kv]
      have sameA : ∀ {o : HO}, L2.Same H4 (upd H6 AG o) := fun b o hb => by
        rw [upd_ne (fun e => by subst e; rw [hAG] at hb; cases hb)]
        exact s5 b o hb
      by_cases c1 : it.isA = true
      · rw [c1] at fs ⊢
        rw [if_pos rfl] at fs
        walk_at "it"
        refine Lay.lc_put hl' hz' (by omega) ⟨sameA, ?_⟩
        rw [fs]
        exact Paired.snoc it5 ia
      · rw [Bool.eq_false_iff.mpr c1] at fs ⊢
        rw [if_neg Bool.false_ne_true, List.append_nil] at fs
        walk_at "it"
        refine Lay.lc_skip hl' hz' ⟨s5, ?_⟩
        rw [fs]
        exact it5
    rintro la H5 hl5 hz5 ⟨s5, la4⟩
    rw [List.take_of_length_le (by omega)] at la4
    have p5 := p4.mono s5
    have K5 := K4.trans (Lay.Keep.of s5)
    have it5 := it4.mono s5
    have la5 := la4.mono s5
    have er5 := s5 _ _ er4
    have hD5 := s5 _ _ hl4
    have pa5 := pa4.mono s5
    clear p4 K4 it4 la4 er4 hl4 pa4 s5 hAG hP4
    walk_at "rd"
    refine Lay.rd_draw p5 (L2.Same.refl _) (by omega) (by decide) (by decide) (fun df H6 df0 df1 p6 k6 => ?_)
    walk_at "rd"
    refine ⟨by decide, fun FL hFL => ?_⟩
    have s7 := Lay.Same.upd (o := .lst [V.int (-1000), V.int (-999), V.int (990 + df)]) hFL
    obtain ⟨xs6, hP6⟩ := p6.at_
    walk_at "rd"
    refine Lay.rd_draw p6 s7 (by omega) (by decide) (by decide) (fun dg H8 dg0 dg1 p8 k8 => ?_)
    have eF := k8 FL _ (Lay.ne_none hFL hP6) upd_same
    have kk8 := (k6.trans (Lay.Keep.of s7)).trans k8
    obtain ⟨xs5, hP5⟩ := p5.at_
    have K8 := K5.trans kk8
    have Ls5 : NetG.Lists [p] H5 := fun b m => by rw [List.mem_singleton] at m; subst m; exact ⟨_, hP5⟩
    have st8 : NetG.Stay [p] H5 H8 := NetG.Stay.keep List.mem_cons_self kk8
    have it8 := it5.stay Ls5 st8
    have la8 := la5.stay Ls5 st8
    have er8 := kk8 _ _ rip er5
    have hD8 := kk8 _ _ Dp hD5
    have hA8 := kk8 _ _ AGp hl5
    have pa8 := (NetG.NL.keep hP5 kk8).parts pa5
    clear p5 p6 K5 it5 la5 er5 hD5 pa5 k6 k8 s7 hFL hP6 hP5 kk8 Ls5 st8 hl5
    obtain ⟨far, efar, f0, f1⟩ : ∃ far : Int, atI [V.int (-1000), V.int (-999), V.int (990 + df)] dg = some (.int far) ∧ -1000 ≤ far ∧ far ≤ 1000 := by
      obtain rfl | rfl | rfl : dg = 0 ∨ dg = 1 ∨ dg = 2 := by omega
      · exact ⟨-1000, rfl, by omega, by omega⟩
      · exact ⟨-999, rfl, by omega, by omega⟩
      · exact ⟨990 + df, rfl, by omega, by omega⟩
    refine Lay.rd_ixL (SqL.of eF) efar ?_
    clear eF efar
    walk_at "rd"
    refine Lay.rd_for ?_
    walk_at "rd"
    refine ⟨by decide, fun WL hWL => ?_⟩
    have s9 := Lay.Same.upd (o := .lst [V.int 1, V.int 2, V.int 4, V.int 8, V.int 16]) hWL
    have eW : (upd H8 WL (.lst [V.int 1, V.int 2, V.int 4, V.int 8, V.int 16])) WL = some (.lst ([1, 2, 4, 8, 16].map V.int)) := upd_same
    have p9 := p8.mono s9
    have K9 := K8.trans (Lay.Keep.of s9)
    have it9 := it8.mono s9
    have la9 := la8.mono s9
    have er9 := s9 _ _ er8
    have hD9 := s9 _ _ hD8
    have hA9 := s9 _ _ hA8
    have pa9 := pa8.mono s9
    obtain ⟨xs8, hP8⟩ := p8.at_
    have WLp : WL ≠ p := Lay.ne_none hWL hP8
    generalize upd H8 WL (.lst [V.int 1, V.int 2, V.int 4, V.int 8, V.int 16]) = H9 at s9 eW p9 K9 it9 la9 er9 hD9 hA9 pa9 ⊢
    clear p8 K8 it8 la8 er8 hD8 hA8 pa8 s9 hWL hP8
    have llen := la9.length
    have lal : la.length ≤ 4 := by rw [llen]; exact gok.good.ma
    obtain ⟨xs9, hP9⟩ := p9.at_
    have Ls9 : NetG.Lists [p] H9 := fun b m => by rw [List.mem_singleton] at m; subst m; exact ⟨_, hP9⟩
    walk_at "rd"
    refine ⟨⟨_, SqL.of eW⟩, ?_⟩
    refine Lay.for_go (walk_list (K := K) (a := WL) (xs := [1, 2, 4, 8, 16].map V.int)) (fun i σ' H' => (∃ (o4 o7 o8 o9 o10 o11 o12 : Option V), σ' = [some (V.ref p), some (V.int (1 + d)), some (V.ref ri), some (V.ref D), o4, some (V.ref AG), some (V.int far), o7, o8, o9, o10, o11, o12]) ∧ Lay.PenAt c H' p (n + 1000 + 100 * i) ∧ Lay.Keep p H9 H') ⟨⟨_, _, _, _, _, _, _, rfl⟩, p9.le (by omega), Lay.Keep.refl⟩ (fun i σ' H' _ z => SqL.of (z.2.2 _ _ WLp eW)) ?_ ?_
    · rintro i y σ' H10 H11 hi ⟨⟨o4, o7, o8, o9, o10, o11, o12, rfl⟩, p10, k10⟩ ⟨rfl, ey⟩
      have hi5 : i < 5 := hi
      obtain ⟨wd, rfl, wok⟩ : ∃ wd : Int, y = .int wd ∧ NetL.lineOk wd := by
        obtain rfl | rfl | rfl | rfl | rfl : i = 0 ∨ i = 1 ∨ i = 2 ∨ i = 3 ∨ i = 4 := by omega
        · exact ⟨1, (Option.some.inj ey).symm, by show (1 : Int) ∈ _; decide⟩
        · exact ⟨2, (Option.some.inj ey).symm, by show (2 : Int) ∈ _; decide⟩
        · exact ⟨4, (Option.some.inj ey).symm, by show (4 : Int) ∈ _; decide⟩
        · exact ⟨8, (Option.some.inj ey).symm, by show (8 : Int) ∈ _; decide⟩
        · exact ⟨16, (Option.some.inj ey).symm, by show (16 : Int) ∈ _; decide⟩
      have nl10 := NetG.NL.keep hP9 k10
      walk_at "rd"
      refine NetL.rd_cmethNK ?_
      walk_at "rd"
      refine ⟨rfl, ?_⟩
      walk_at "rd"
      refine ⟨rfl, rfl, D, wd, 1 + d, ps, its, rfl, .inr (k10 _ _ Dp hD9), wok, by omega, by omega, nl10.parts pa9, gok.good, by omega, fun x H12 hx s12 hN => ?_⟩
      have p12 := p10.mono s12
      have k12 := k10.trans (Lay.Keep.of s12)
      clear p10 k10 nl10 s12
      obtain ⟨xs12, hP12⟩ := p12.at_
      walk_at "rd"
      refine Lay.rd_for ?_
      walk_at "rd"
      refine Lay.rd_lenL (SqL.of (k12 _ _ AGp hA9)) ?_
      walk_at "rd"
      refine ⟨_, rfl, by omega, by omega, ?_⟩
      rw [Int.toNat_natCast]
      refine Lay.for_go (walk_range (lo := 0) (n := la.length)) (fun j σ' H' => (∃ (o4 o9 o10 o11 o12 : Option V), σ' = [some (V.ref p), some (V.int (1 + d)), some (V.ref ri), some (V.ref D), o4, some (V.ref AG), some (V.int far), some (V.int wd), some (V.ref x), o9, o10, o11, o12]) ∧ Lay.PenAt c H' p (n + 1000 + 100 * i + 24 * j) ∧ Lay.Keep p H12 H') ⟨⟨_, _, _, _, _, rfl⟩, p12, Lay.Keep.refl⟩ (fun _ _ _ _ _ => trivial) ?_ ?_
      · rintro j y σ' H13 H14 hj ⟨⟨o4, o9, o10, o11, o12, rfl⟩, p14, k14⟩ hy
        obtain ⟨rfl, rfl⟩ := hy
        have eyj : la[j]? = some (la[j]'(by omega)) := List.getElem?_eq_getElem (by omega)
        obtain ⟨itj, ej, ij⟩ := NetL.pget la9 eyj
        obtain ⟨mj, aj⟩ := List.mem_filter.mp (List.mem_of_getElem? ej)
        cases itj with
        | vr z s ats => cases aj
        | sg z t => cases aj
        | ag z k ls =>
        obtain ⟨b, sb, ys, eb, hb, hsb, nsb, hrow⟩ := ij
        rw [eb] at eyj
        obtain ⟨_, _, l1s, l24, _⟩ := gok.good.gs z k ls mj
        have yl := hrow.len
        have sbp : sb ≠ p := fun e => nsb (by rw [e]; exact List.mem_cons_self)
        have K14 := k12.trans k14
        have hb9 : ∀ {H' : Hp}, Lay.Keep p H9 H' → H' b = some (.tup [.str "agent", .str z, .int k, .ref sb]) := fun kk => kk _ _ (fun e => by subst e; rw [hP9] at hb; cases hb) hb
        walk_at "rd"
        refine Lay.rd_for ?_
        walk_at "rd"
        rw [Int.zero_add]
        refine Lay.rd_ixL (SqL.of (K14 _ _ AGp hA9)) (v := .ref b) (Lay.atI_nat eyj) ?_
        have hb14 := hb9 K14
        have hs14 := K14 _ _ sbp hsb
        walk_at "rd"
        refine ⟨_, rfl, by omega, by omega, ?_⟩
        rw [Int.toNat_natCast]
        refine Lay.for_go (walk_range (lo := 0) (n := ys.length)) (fun m σ' H' => (∃ (o4 o10 o11 o12 : Option V), σ' = [some (V.ref p), some (V.int (1 + d)), some (V.ref ri), some (V.ref D), o4, some (V.ref AG), some (V.int far), some (V.int wd), some (V.ref x), some (V.int (j : Nat)), o10, o11, o12]) ∧ Lay.PenAt c H' p (n + 1000 + 100 * i + 24 * j + m) ∧ Lay.Keep p H14 H') ⟨⟨_, _, _, _, rfl⟩, p14, Lay.Keep.refl⟩ (fun _ _ _ _ _ => trivial) ?_ ?_
        · rintro m y σ' H15 H16 hm ⟨⟨o4, o10, o11, o12, rfl⟩, p16, k16⟩ hy
          obtain ⟨rfl, rfl⟩ := hy
          have em : ls[m]? = some (ls[m]'(by omega)) := List.getElem?_eq_getElem (by omega)
          obtain ⟨sp, ep, esp⟩ := hrow.get em
          have hso : NetG.StepOf its j m (ls[m]'(by omega)) := ⟨z, k, ls, ej, em⟩
          generalize ls[m]'(by omega) = stp at em esp hso
          have K16 := K14.trans k16
          have hb16 := hb9 K16
          have hs16 := K16 _ _ sbp hsb
          have spp : sp ≠ p := fun e => by subst e; rw [hP9] at esp; cases esp
          walk_at "rd"
          rw [Int.zero_add]
          refine Lay.rd_ixL (SqL.of (K16 _ _ AGp hA9)) (v := .ref b) (Lay.atI_nat eyj) ?_
          walk_at "rd"
          refine Lay.rd_ixL (SqL.of hs16) (v := .ref sp) (Lay.atI_nat ep) ?_
          walk_at "rd"
          refine Lay.rd_for ?_
          walk_at "rd"
          refine Lay.rd_draw p16 (L2.Same.refl _) (by omega) (by decide) (by decide) (fun dn H17 n0 n1 p17 k17 => ?_)
          walk_at "rd"
          refine ⟨by decide, fun NLs hNL => ?_⟩
          have s18 := Lay.Same.upd (o := .lst [V.int 0, V.int 1, V.int 2, V.int 3, V.int (-1), V.int (dn - 20), V.int far]) hNL
          have eN : (upd H17 NLs (.lst [V.int 0, V.int 1, V.int 2, V.int 3, V.int (-1), V.int (dn - 20), V.int far])) NLs = some (.lst ([0, 1, 2, 3, -1, dn - 20, far].map V.int)) := upd_same
          have p18 := p17.mono s18
          have k18 := (k16.trans k17).trans (Lay.Keep.of s18)
          generalize upd H17 NLs (.lst [V.int 0, V.int 1, V.int 2, V.int 3, V.int (-1), V.int (dn - 20), V.int far]) = H18 at s18 eN p18 k18 ⊢
          have K18 := K14.trans k18
          have kx18 := k14.trans k18
          have hN18 := (NetG.NL.keep hP12 kx18).net hN
          have it18 := it9.stay Ls9 (NetG.Stay.keep List.mem_cons_self K18)
          have er18 := K18 _ _ rip er9
          have st18 := K18 _ _ spp esp
          clear p16 p17 k16 k17 s18 hNL hb16 hs16 K16
          walk_at "rd"
          refine ⟨⟨_, SqL.of eN⟩, ?_⟩
          refine Lay.for_go (walk_list (K := K) (a := NLs) (xs := [0, 1, 2, 3, -1, dn - 20, far].map V.int)) (fun e σ' H' => (∃ (o4 o12 : Option V), σ' = [some (V.ref p), some (V.int (1 + d)), some (V.ref ri), some (V.ref D), o4, some (V.ref AG), some (V.int far), some (V.int wd), some (V.ref x), some (V.int (j : Nat)), some (V.int (m : Nat)), some (V.ref sp), o12]) ∧ L2.Same H18 H') ⟨⟨_, _, rfl⟩, L2.Same.refl _⟩ (fun i σ' H' _ z => SqL.of (z.2 _ _ eN)) ?_ ?_
          · rintro e y σ' H19 H20 he ⟨⟨o4, o12, rfl⟩, s20⟩ ⟨rfl, ey2⟩
            obtain ⟨nn, en, rfl⟩ : ∃ nn, [0, 1, 2, 3, -1, dn - 20, far][e]? = some nn ∧ y = V.int nn := by
              rw [List.getElem?_map] at ey2
              cases e1 : [0, 1, 2, 3, -1, dn - 20, far][e]? with
              | none => rw [e1] at ey2; cases ey2
              | some w => rw [e1] at ey2; cases ey2; exact ⟨w, rfl, rfl⟩
            have nb : -2000 ≤ nn ∧ nn ≤ 2000 := by
              have m := List.mem_of_getElem? en
              simp only [List.mem_cons, List.not_mem_nil, or_false] at m
              omega
            walk_at "rd"
            refine ⟨by decide, fun pt hpt => ?_⟩
            have s21 := s20.trans (Lay.Same.upd (o := .tup [V.int (j : Nat), V.int (m : Nat)]) hpt)
            have ept : (upd H20 pt (.tup [V.int (j : Nat), V.int (m : Nat)])) pt = some (.tup [V.int (j : Nat), V.int (m : Nat)]) := upd_same
            generalize upd H20 pt (.tup [V.int (j : Nat), V.int (m : Nat)]) = H21 at s21 ept ⊢
            walk_at "rd"
            refine ⟨[p], x, ri, pt, sp, wd, 1 + d, nn, its, ps, l, j, m, stp, rfl, hN18.mono s21, s21 _ _ er18, it18.mono s21, gok, ept, s21 _ _ st18, hso, wok, by omega, by omega, by omega, nb.1, nb.2, fun H22 s22 => ?_⟩
            walk_at "it"
            exact ⟨⟨_, _, rfl⟩, s21.trans s22⟩
          · rintro σ' H19 ⟨⟨o4, o12, rfl⟩, s19⟩
            exact ⟨⟨_, _, _, _, rfl⟩, (p18.mono s19).le (by omega), k18.trans (Lay.Keep.of s19)⟩
        · rintro σ' H15 ⟨⟨o4, o10, o11, o12, rfl⟩, p15, k15⟩
          exact ⟨⟨_, _, _, _, _, rfl⟩, p15.le (by omega), k14.trans k15⟩
      · rintro σ' H13 ⟨⟨o4, o9, o10, o11, o12, rfl⟩, p13, k13⟩
        exact ⟨⟨_, _, _, _, _, _, _, rfl⟩, p13.le (by omega), k12.trans k13⟩
    · rintro σ' H10 ⟨⟨o4, o7, o8, o9, o10, o11, o12, rfl⟩, p10, k10⟩
      walk_at "rd"
      exact q H10 (p10.le (by show n + 1000 + 100 * 5 ≤ n + 2000; omega)) (K9.trans k10)
def spLaw (K : PySem.W.Frag) : Sp := fun vs H Q _ => ∃ (a : Addr) (ns : List Int), vs = [.ref a] ∧ SqL K H a (ns.map V.int) ∧ ns.length ≤ 63 ∧ ∀ H', Q (.bl true) H'
theorem ok_law (T : Txt K mg A) (G_pen : FnOk P w K mg base CX0 1 A.a_pen A.d_pen ["_law_script"] (Lay.spPen K)) (G_round : FnOk P w K mg base CX0 10 A.a_round A.d_round ["_law_pen_here"] (Lay.spNum 2000)) : FnOk P w K mg base CX0 11 A.a_law A.d_law ["_law_script"] (spLaw K) := by
  refine T.F_law.ok sc_law (fun vs H Q E h => ?_) (fun cdv A0 outer s H vs Q E hr h => ?_)
  · obtain ⟨a, ns, rfl, _⟩ := h
    rfl
  · obtain ⟨a, ns, rfl, hS, hl, q⟩ := h
    refine ⟨_, (pss_cons (ps_set (i := 1) sc_law.nd rfl (Or.inl rfl) (pe_call G_pen (hr.mono (by decide)) rfl T.g_pen T.F_pen.kp T.b_pen .nil pass0 (pa_cons (pv 0) pa_nil)))
    (pss_one (ps_ret (pe_and (pe_call G_round (hr.mono (by decide)) rfl T.g_round T.F_round.kp T.b_round .nil pass0 (pa_cons (pv 1) pa_nil)) (pe_one (pe_call G_round (hr.mono (by decide)) rfl T.g_round T.F_round.kp T.b_round .nil pass0 (pa_cons (pv 1) pa_nil))))))), ?_⟩
    walk_at "in"
    walk_at "rd"
    refine ⟨a, ns, rfl, hS, hl, fun c p H1 hp pen s1 => ?_⟩
    walk_at "rd"
    refine ⟨p, 0, c, rfl, pen, by omega, fun H2 p2 k2 => ?_⟩
    walk_at "it"
    exact ⟨p, _, c, rfl, p2, by omega, fun H3 p3 k3 => q H3⟩
theorem ok_all (T : Txt K mg A) : FnOk P w K mg base CX0 11 A.a_law A.d_law ["_law_script"] (spLaw K) := by
  have O_pen := ok_pen (P := P) (w := w) (base := base) T 
  have O_draw := ok_draw (P := P) (w := w) (base := base) T 
  have O_steps := ok_steps (P := P) (w := w) (base := base) T O_draw
  have O_items := ok_items (P := P) (w := w) (base := base) T O_draw O_steps
  have O_shuffled := ok_shuffled (P := P) (w := w) (base := base) T O_draw
  have O_NoPart_init := ok_NoPart_init (P := P) (w := w) (base := base) T 
  have O_is_name := ok_is_name (P := P) (w := w) (base := base) T 
  have O_is_integer := ok_is_integer (P := P) (w := w) (base := base) T 
  have O_is_within := ok_is_within (P := P) (w := w) (base := base) T O_is_integer
  have O_check_addresses := ok_check_addresses (P := P) (w := w) (base := base) T O_NoPart_init O_is_within
  have O_check_slots_apart := ok_check_slots_apart (P := P) (w := w) (base := base) T O_NoPart_init
  have O_Variable_init := ok_Variable_init (P := P) (w := w) (base := base) T O_NoPart_init O_is_name O_is_within O_check_addresses O_check_slots_apart
  have O_Variable_made := ok_Variable_made (P := P) (w := w) (base := base) T O_Variable_init
  have O_Signal_init := ok_Signal_init (P := P) (w := w) (base := base) T O_NoPart_init O_is_name O_is_within
  have O_is_memory_step := ok_is_memory_step (P := P) (w := w) (base := base) T O_is_name O_is_within
  have O_is_step := ok_is_step (P := P) (w := w) (base := base) T O_is_memory_step O_is_name
  have O_check_agent := ok_check_agent (P := P) (w := w) (base := base) T O_is_name O_is_step
  have O_Agent_init := ok_Agent_init (P := P) (w := w) (base := base) T O_check_agent
  have O_Agent_made := ok_Agent_made (P := P) (w := w) (base := base) T O_Agent_init
  have O_Through_init := ok_Through_init (P := P) (w := w) (base := base) T O_check_agent
  have O_Through_made := ok_Through_made (P := P) (w := w) (base := base) T O_Through_init
  have O_Back_init := ok_Back_init (P := P) (w := w) (base := base) T O_check_agent
  have O_Back_made := ok_Back_made (P := P) (w := w) (base := base) T O_Back_init
  have O_part := ok_part (P := P) (w := w) (base := base) T O_Variable_made O_Signal_init O_Agent_made O_Through_made O_Back_made
  have O_check_many := ok_check_many (P := P) (w := w) (base := base) T 
  have O_check_names := ok_check_names (P := P) (w := w) (base := base) T 
  have O_check_bytes := ok_check_bytes (P := P) (w := w) (base := base) T 
  have O_concerns_signal := ok_concerns_signal (P := P) (w := w) (base := base) T 
  have O_check_steps := ok_check_steps (P := P) (w := w) (base := base) T O_concerns_signal
  have O_check_signals := ok_check_signals (P := P) (w := w) (base := base) T 
  have O_check_parts := ok_check_parts (P := P) (w := w) (base := base) T O_check_many O_check_names O_check_bytes O_check_steps O_check_signals
  have O_Net_initK := ok_Net_initK (P := P) (w := w) (base := base) T O_is_integer O_is_within O_check_parts
  have O_Net_made := ok_Net_made (P := P) (w := w) (base := base) T O_Net_initK
  have O_bytes := ok_bytes (P := P) (w := w) (base := base) T 
  have O_lines := ok_lines (P := P) (w := w) (base := base) T 
  have O_whole := ok_whole (P := P) (w := w) (base := base) T 
  have O_Net_is_place := ok_Net_is_place (P := P) (w := w) (base := base) T O_is_within
  have O_Net_step := ok_Net_step (P := P) (w := w) (base := base) T O_Net_is_place
  have O_Net_touched := ok_Net_touched (P := P) (w := w) (base := base) T O_Net_step O_concerns_signal
  have O_lines_of := ok_lines_of (P := P) (w := w) (base := base) T 
  have O_Net_lines := ok_Net_lines (P := P) (w := w) (base := base) T O_Net_touched O_lines_of
  have O_right := ok_right (P := P) (w := w) (base := base) T O_bytes O_lines O_whole O_Net_touched O_Net_lines
  have O_round := ok_round (P := P) (w := w) (base := base) T O_draw O_items O_shuffled O_part O_Net_made O_right
  have O_law := ok_law (P := P) (w := w) (base := base) T O_pen O_round
  exact O_law
theorem walk {l : PySem.W.OpenLaw} {q : Program} {loose : List Str} {XP : (Str → Option Value) → Heap → Prop} {YP : World → Heap → Prop} {d : DefRec} {K : Params → PySem.W.Frag} (hn : l.most = some 63) (hdf : d.params.defaults = [])
    (hY : ∀ (w : World) (h : Heap), YP w h → (K w.params).In h)
    (F : ∀ (w : World) (mg : Str → Option Value) (fa : Addr) (h : Heap), (K w.params).In h → h.Ns mainGlobals mg → mg d.name = some (.ref fa) →
      ∃ fd : FuncData, (∀ (s : Shared) (u : Value), BindsTo s fd ⟨[u], []⟩ [("_law_script", u)]) ∧ ∀ base : Heap, (K w.params).In base → base.Ns mainGlobals mg → FnOk l.prog w (K w.params) mg base CX0 11 fa fd ["_law_script"] (spLaw (K w.params))) :
    PySem.W.WalkO q loose XP YP l.row.toRowW d [] (fun f vs => PySem.call f vs) :=
  L2.walk_of (n := 63) (k := 11) (x := "_law_script") (CX := fun _ => CX0) (sp := fun w => spLaw (K w.params)) hn (by decide) hdf ⟨rfl, by decide, by decide⟩ hY F (fun _ _ a ns hl _ hS => ⟨a, ns, rfl, hS, hl, fun _ => rfl⟩) fun _ _ _ _ _ z => z
theorem use {P : Program} {w : World} {K : PySem.W.Frag} {mg : Str → Option Value} {fa : Addr} (h : ∃ A : Adr, Txt K mg A) (hmg : mg "law" = some (.ref fa)) :
    ∃ fd : FuncData, (∀ (s : Shared) (u : Value), BindsTo s fd ⟨[u], []⟩ [("_law_script", u)]) ∧ ∀ base : Heap, K.In base → base.Ns mainGlobals mg → FnOk P w K mg base CX0 11 fa fd ["_law_script"] (spLaw K) := by
  obtain ⟨A, T⟩ := h
  have e := hmg.symm.trans T.g_law
  cases e
  obtain ⟨oc, od, kV, doc, pm, an, cdv, ct, osl, hfd, lk, hcd⟩ := T.F_law.ex
  refine ⟨A.d_law, fun s u => ?_, fun base _ _ => ok_all T⟩
  rw [hfd]
  exact .of_eq rfl
end
end My
set_option maxRecDepth 100000 in
set_option maxHeartbeats 0 in
theorem PySem.Challenge.cw_unkeptlines_k12_whole_bytes_of_steps_holds : PySem.Challenge.rw_unkeptlines_k12_whole_bytes_of_steps.Holds := by
  w_on; o_law; k_head; (case hw => w_witness2)
  k_fill
  refine My.walk (l := PySem.Challenge.rw_unkeptlines_k12_whole_bytes_of_steps) rfl rfl (fun w h Y => PySem.W.kIn_of Y) ?F
  case F =>
    intro w mg fa h KX G hmg
    refine My.use ?_ hmg
    refine' My.all_mk KX G ?a_UnkeptError ?a_NoPart ?a_Agent ?pg_Agent ?hd_Agent ?po_Agent ?sa_Agent ?na_Agent_name ?na_Agent_steps ?mk_Agent ?kc_Agent ?a_Through ?pg_Through ?hd_Through ?po_Through ?sa_Through ?na_Through_name ?na_Through_steps ?mk_Through ?kc_Through ?a_Back ?pg_Back ?hd_Back ?po_Back ?sa_Back ?na_Back_name ?na_Back_steps ?mk_Back ?kc_Back ?a_Variable ?pg_Variable ?hd_Variable ?po_Variable ?sa_Variable ?na_Variable_name ?na_Variable_size ?na_Variable_at ?mk_Variable ?kc_Variable ?a_Signal ?pg_Signal ?hd_Signal ?po_Signal ?sa_Signal ?na_Signal_name ?na_Signal_tokens ?mk_Signal ?kc_Signal ?a_Net ?pg_Net ?hd_Net ?po_Net ?sa_Net ?na_Net_line ?na_Net_ring ?na_Net_variables ?na_Net_signals ?na_Net_agents ?na_Net__named ?mk_Net ?kc_Net ?gg ?tk ?ec_UnkeptError ?hd_UnkeptError ?ty_UnkeptError ?mo_NoPart ?ty_NoPart ?ss_NoPart ?xl_NoPart ?xb_NoPart ?sa_NoPart ?ga_NoPart ?gn_NoPart ?ec_NoPart ?ke_NoPart ?hd_NoPart ?ci_NoPart ?nf_NoPart_reason ?nf_NoPart_place ?su_NoPart ?mo_Agent ?ty_Agent ?ss_Agent ?ci_Agent ?rd_Agent ?gc_Agent ?mo_Through ?ty_Through ?ss_Through ?ci_Through ?rd_Through ?gc_Through ?mo_Back ?ty_Back ?ss_Back ?ci_Back ?rd_Back ?gc_Back ?mo_Variable ?ty_Variable ?ss_Variable ?ci_Variable ?rd_Variable ?gc_Variable ?mo_Signal ?ty_Signal ?ss_Signal ?ci_Signal ?mo_Net ?ty_Net ?ss_Net ?ci_Net ?rd_Net ?gc_Net ?co_LINES ?cg_LINES ?lk_LINES ?oc_LINES ?od_LINES ?oz_LINES ?ov_LINES ?sb_Agent_Variable ?sb_Agent_Signal ?sb_Through_Variable ?sb_Through_Signal ?sb_Through_Agent ?sb_Back_Variable ?sb_Back_Signal ?sb_Back_Agent ?sb_Variable_Signal ?sb_Variable_Agent ?sb_Signal_Variable ?sb_Signal_Agent ?n_set ?n_sorted ?n_list ?n_int ?n_len ?n_abs ?n_isinstance ?n_str ?n_bool ?n_tuple ?n_all ?n_any ?n_enumerate ?n_range ?n_reversed ?a_NoPart_init ?i_NoPart_init ?l_NoPart_init ?e_NoPart_init ?p_NoPart_init ?a_is_integer ?l_is_integer ?e_is_integer ?p_is_integer ?a_is_within ?l_is_within ?e_is_within ?p_is_within ?a_is_name ?l_is_name ?e_is_name ?p_is_name ?a_is_step ?l_is_step ?e_is_step ?p_is_step ?a_is_memory_step ?l_is_memory_step ?e_is_memory_step ?p_is_memory_step ?a_concerns_signal ?l_concerns_signal ?e_concerns_signal ?p_concerns_signal ?a_check_agent ?l_check_agent ?e_check_agent ?p_check_agent ?a_Agent_init ?i_Agent_init ?l_Agent_init ?e_Agent_init ?p_Agent_init ?a_Agent_made ?i_Agent_made ?j_Agent_made ?l_Agent_made ?e_Agent_made ?p_Agent_made ?a_Through_init ?i_Through_init ?l_Through_init ?e_Through_init ?p_Through_init ?a_Through_made ?i_Through_made ?j_Through_made ?l_Through_made ?e_Through_made ?p_Through_made ?a_Back_init ?i_Back_init ?l_Back_init ?e_Back_init ?p_Back_init ?a_Back_made ?i_Back_made ?j_Back_made ?l_Back_made ?e_Back_made ?p_Back_made ?a_Signal_init ?i_Signal_init ?dl_Signal_init ?dd_Signal_init ?dv_Signal_init ?l_Signal_init ?e_Signal_init ?p_Signal_init ?a_Variable_init ?i_Variable_init ?l_Variable_init ?e_Variable_init ?p_Variable_init ?a_Variable_made ?i_Variable_made ?j_Variable_made ?l_Variable_made ?e_Variable_made ?p_Variable_made ?a_check_addresses ?l_check_addresses ?e_check_addresses ?p_check_addresses ?a_check_slots_apart ?l_check_slots_apart ?e_check_slots_apart ?p_check_slots_apart ?a_lines_of ?l_lines_of ?e_lines_of ?p_lines_of ?a_Net_init ?i_Net_init ?kd_Net_init_line ?kd_Net_init_ring ?l_Net_init ?e_Net_init ?p_Net_init ?a_Net_made ?i_Net_made ?j_Net_made ?kd_Net_made_line ?kd_Net_made_ring ?l_Net_made ?e_Net_made ?p_Net_made ?a_Net_is_place ?i_Net_is_place ?l_Net_is_place ?e_Net_is_place ?p_Net_is_place ?a_Net_step ?i_Net_step ?l_Net_step ?e_Net_step ?p_Net_step ?a_Net_touched ?i_Net_touched ?l_Net_touched ?e_Net_touched ?p_Net_touched ?a_Net_lines ?i_Net_lines ?l_Net_lines ?e_Net_lines ?p_Net_lines ?a_check_parts ?l_check_parts ?e_check_parts ?p_check_parts ?a_check_many ?l_check_many ?e_check_many ?p_check_many ?a_check_names ?l_check_names ?e_check_names ?p_check_names ?a_check_bytes ?l_check_bytes ?e_check_bytes ?p_check_bytes ?a_check_steps ?l_check_steps ?e_check_steps ?p_check_steps ?a_check_signals ?l_check_signals ?e_check_signals ?p_check_signals ?a_pen ?l_pen ?e_pen ?p_pen ?a_draw ?l_draw ?e_draw ?p_draw ?a_steps ?l_steps ?e_steps ?p_steps ?a_items ?l_items ?e_items ?p_items ?a_shuffled ?l_shuffled ?e_shuffled ?p_shuffled ?a_part ?l_part ?e_part ?p_part ?a_bytes ?l_bytes ?e_bytes ?p_bytes ?a_lines ?l_lines ?e_lines ?p_lines ?a_whole ?l_whole ?e_whole ?p_whole ?a_right ?l_right ?e_right ?p_right ?a_round ?l_round ?e_round ?p_round ?a_law ?l_law ?e_law ?p_law ?k_LETTERS ?k_LONGEST_NAME ?k_ACCESS_WORDS ?lk_ACCESS_WORDS ?oc_ACCESS_WORDS ?od_ACCESS_WORDS ?oz_ACCESS_WORDS ?ov_ACCESS_WORDS ?k_UPKEEP_WORDS ?lk_UPKEEP_WORDS ?oc_UPKEEP_WORDS ?od_UPKEEP_WORDS ?oz_UPKEEP_WORDS ?ov_UPKEEP_WORDS ?k_SIGNAL_WORDS ?lk_SIGNAL_WORDS ?oc_SIGNAL_WORDS ?od_SIGNAL_WORDS ?oz_SIGNAL_WORDS ?ov_SIGNAL_WORDS ?k_PLAIN_WORDS ?lk_PLAIN_WORDS ?oc_PLAIN_WORDS ?od_PLAIN_WORDS ?oz_PLAIN_WORDS ?ov_PLAIN_WORDS ?k_CACHE_WORDS ?lk_CACHE_WORDS ?oc_CACHE_WORDS ?od_CACHE_WORDS ?oz_CACHE_WORDS ?ov_CACHE_WORDS ?k_GREATEST_SHIFT ?k_GREATEST_BYTE ?k_MOST_STEPS ?k_MOST_TOKENS ?k_GREATEST_SIZE ?k_MOST_SLOTS ?k_ADDRESSES ?k_MOST_AGENTS ?k_MOST_VARIABLES ?k_MOST_SIGNALS ?k_LONGEST_RING
    (case a_UnkeptError => k_is)
    (case a_NoPart => k_is)
    (case a_Agent => k_is)
    (case pg_Agent => k_is)
    (case hd_Agent => k_is)
    (case po_Agent => k_is)
    (case sa_Agent => k_is)
    (case na_Agent_name => k_is)
    (case na_Agent_steps => k_is)
    (case mk_Agent => k_is)
    (case kc_Agent => k_is)
    (case a_Through => k_is)
    (case pg_Through => k_is)
    (case hd_Through => k_is)
    (case po_Through => k_is)
    (case sa_Through => k_is)
    (case na_Through_name => k_is)
    (case na_Through_steps => k_is)
    (case mk_Through => k_is)
    (case kc_Through => k_is)
    (case a_Back => k_is)
    (case pg_Back => k_is)
    (case hd_Back => k_is)
    (case po_Back => k_is)
    (case sa_Back => k_is)
    (case na_Back_name => k_is)
    (case na_Back_steps => k_is)
    (case mk_Back => k_is)
    (case kc_Back => k_is)
    (case a_Variable => k_is)
    (case pg_Variable => k_is)
    (case hd_Variable => k_is)
    (case po_Variable => k_is)
    (case sa_Variable => k_is)
    (case na_Variable_name => k_is)
    (case na_Variable_size => k_is)
    (case na_Variable_at => k_is)
    (case mk_Variable => k_is)
    (case kc_Variable => k_is)
    (case a_Signal => k_is)
    (case pg_Signal => k_is)
    (case hd_Signal => k_is)
    (case po_Signal => k_is)
    (case sa_Signal => k_is)
    (case na_Signal_name => k_is)
    (case na_Signal_tokens => k_is)
    (case mk_Signal => k_is)
    (case kc_Signal => k_is)
    (case a_Net => k_is)
    (case pg_Net => k_is)
    (case hd_Net => k_is)
    (case po_Net => k_is)
    (case sa_Net => k_is)
    (case na_Net_line => k_is)
    (case na_Net_ring => k_is)
    (case na_Net_variables => k_is)
    (case na_Net_signals => k_is)
    (case na_Net_agents => k_is)
    (case na_Net__named => k_is)
    (case mk_Net => k_is)
    (case kc_Net => k_is)
    (case gg => k_is)
    (case tk => k_is)
    (case ec_UnkeptError => k_is)
    (case hd_UnkeptError => k_is)
    (case ty_UnkeptError => k_is)
    (case mo_NoPart => k_is)
    (case ty_NoPart => k_is)
    (case ss_NoPart => k_is)
    (case xl_NoPart => k_is)
    (case xb_NoPart => exact (by first | rfl | decide +kernel))
    (case sa_NoPart => k_is)
    (case ga_NoPart => k_is)
    (case gn_NoPart => k_is)
    (case ec_NoPart => k_is)
    (case ke_NoPart => k_is)
    (case hd_NoPart => k_is)
    (case ci_NoPart => k_is)
    (case nf_NoPart_reason => k_is)
    (case nf_NoPart_place => k_is)
    (case su_NoPart => k_is)
    (case mo_Agent => k_is)
    (case ty_Agent => k_is)
    (case ss_Agent => k_is)
    (case ci_Agent => k_is)
    (case rd_Agent => k_is)
    (case gc_Agent => k_is)
    (case mo_Through => k_is)
    (case ty_Through => k_is)
    (case ss_Through => k_is)
    (case ci_Through => k_is)
    (case rd_Through => k_is)
    (case gc_Through => k_is)
    (case mo_Back => k_is)
    (case ty_Back => k_is)
    (case ss_Back => k_is)
    (case ci_Back => k_is)
    (case rd_Back => k_is)
    (case gc_Back => k_is)
    (case mo_Variable => k_is)
    (case ty_Variable => k_is)
    (case ss_Variable => k_is)
    (case ci_Variable => k_is)
    (case rd_Variable => k_is)
    (case gc_Variable => k_is)
    (case mo_Signal => k_is)
    (case ty_Signal => k_is)
    (case ss_Signal => k_is)
    (case ci_Signal => k_is)
    (case mo_Net => k_is)
    (case ty_Net => k_is)
    (case ss_Net => k_is)
    (case ci_Net => k_is)
    (case rd_Net => k_is)
    (case gc_Net => k_is)
    (case co_LINES => k_is)
    (case cg_LINES => k_is)
    (case lk_LINES => k_is)
    (case oc_LINES => exact rfl)
    (case od_LINES => exact rfl)
    (case oz_LINES => exact (by decide))
    (case ov_LINES => exact Paired.cons ⟨_, rfl⟩ (Paired.cons ⟨_, rfl⟩ (Paired.cons ⟨_, rfl⟩ (Paired.cons ⟨_, rfl⟩ (Paired.cons ⟨_, rfl⟩ Paired.nil)))))
    (case sb_Agent_Variable => k_is)
    (case sb_Agent_Signal => k_is)
    (case sb_Through_Variable => k_is)
    (case sb_Through_Signal => k_is)
    (case sb_Through_Agent => k_is)
    (case sb_Back_Variable => k_is)
    (case sb_Back_Signal => k_is)
    (case sb_Back_Agent => k_is)
    (case sb_Variable_Signal => k_is)
    (case sb_Variable_Agent => k_is)
    (case sb_Signal_Variable => k_is)
    (case sb_Signal_Agent => k_is)
    (case n_set => k_is)
    (case n_sorted => k_is)
    (case n_list => k_is)
    (case n_int => k_is)
    (case n_len => k_is)
    (case n_abs => k_is)
    (case n_isinstance => k_is)
    (case n_str => k_is)
    (case n_bool => k_is)
    (case n_tuple => k_is)
    (case n_all => k_is)
    (case n_any => k_is)
    (case n_enumerate => k_is)
    (case n_range => k_is)
    (case n_reversed => k_is)
    (case a_is_integer => k_is)
    (case a_is_within => k_is)
    (case a_is_name => k_is)
    (case a_is_step => k_is)
    (case a_is_memory_step => k_is)
    (case a_concerns_signal => k_is)
    (case a_check_agent => k_is)
    (case a_check_addresses => k_is)
    (case a_check_slots_apart => k_is)
    (case a_lines_of => k_is)
    (case a_check_parts => k_is)
    (case a_check_many => k_is)
    (case a_check_names => k_is)
    (case a_check_bytes => k_is)
    (case a_check_steps => k_is)
    (case a_check_signals => k_is)
    (case a_pen => k_is)
    (case a_draw => k_is)
    (case a_steps => k_is)
    (case a_items => k_is)
    (case a_shuffled => k_is)
    (case a_part => k_is)
    (case a_bytes => k_is)
    (case a_lines => k_is)
    (case a_whole => k_is)
    (case a_right => k_is)
    (case a_round => k_is)
    (case a_law => k_is)
    (case a_NoPart_init => k_is)
    (case i_NoPart_init => k_is)
    (case l_NoPart_init => k_is)
    (case e_NoPart_init => k_is)
    (case p_NoPart_init => k_is)
    (case l_is_integer => k_is)
    (case e_is_integer => k_is)
    (case p_is_integer => k_is)
    (case l_is_within => k_is)
    (case e_is_within => k_is)
    (case p_is_within => k_is)
    (case l_is_name => k_is)
    (case e_is_name => k_is)
    (case p_is_name => k_is)
    (case l_is_step => k_is)
    (case e_is_step => k_is)
    (case p_is_step => k_is)
    (case l_is_memory_step => k_is)
    (case e_is_memory_step => k_is)
    (case p_is_memory_step => k_is)
    (case l_concerns_signal => k_is)
    (case e_concerns_signal => k_is)
    (case p_concerns_signal => k_is)
    (case l_check_agent => k_is)
    (case e_check_agent => k_is)
    (case p_check_agent => k_is)
    (case a_Agent_init => k_is)
    (case i_Agent_init => k_is)
    (case l_Agent_init => k_is)
    (case e_Agent_init => k_is)
    (case p_Agent_init => k_is)
    (case a_Agent_made => k_is)
    (case i_Agent_made => k_is)
    (case j_Agent_made => k_is)
    (case l_Agent_made => k_is)
    (case e_Agent_made => k_is)
    (case p_Agent_made => k_is)
    (case a_Through_init => k_is)
    (case i_Through_init => k_is)
    (case l_Through_init => k_is)
    (case e_Through_init => k_is)
    (case p_Through_init => k_is)
    (case a_Through_made => k_is)
    (case i_Through_made => k_is)
    (case j_Through_made => k_is)
    (case l_Through_made => k_is)
    (case e_Through_made => k_is)
    (case p_Through_made => k_is)
    (case a_Back_init => k_is)
    (case i_Back_init => k_is)
    (case l_Back_init => k_is)
    (case e_Back_init => k_is)
    (case p_Back_init => k_is)
    (case a_Back_made => k_is)
    (case i_Back_made => k_is)
    (case j_Back_made => k_is)
    (case l_Back_made => k_is)
    (case e_Back_made => k_is)
    (case p_Back_made => k_is)
    (case a_Signal_init => k_is)
    (case i_Signal_init => k_is)
    (case l_Signal_init => k_is)
    (case e_Signal_init => k_is)
    (case p_Signal_init => k_is)
    (case a_Variable_init => k_is)
    (case i_Variable_init => k_is)
    (case l_Variable_init => k_is)
    (case e_Variable_init => k_is)
    (case p_Variable_init => k_is)
    (case a_Variable_made => k_is)
    (case i_Variable_made => k_is)
    (case j_Variable_made => k_is)
    (case l_Variable_made => k_is)
    (case e_Variable_made => k_is)
    (case p_Variable_made => k_is)
    (case l_check_addresses => k_is)
    (case e_check_addresses => k_is)
    (case p_check_addresses => k_is)
    (case l_check_slots_apart => k_is)
    (case e_check_slots_apart => k_is)
    (case p_check_slots_apart => k_is)
    (case l_lines_of => k_is)
    (case e_lines_of => k_is)
    (case p_lines_of => k_is)
    (case a_Net_init => k_is)
    (case i_Net_init => k_is)
    (case l_Net_init => k_is)
    (case e_Net_init => k_is)
    (case p_Net_init => k_is)
    (case kd_Net_init_line => k_is)
    (case kd_Net_init_ring => k_is)
    (case a_Net_made => k_is)
    (case i_Net_made => k_is)
    (case j_Net_made => k_is)
    (case l_Net_made => k_is)
    (case e_Net_made => k_is)
    (case p_Net_made => k_is)
    (case kd_Net_made_line => k_is)
    (case kd_Net_made_ring => k_is)
    (case a_Net_is_place => k_is)
    (case i_Net_is_place => k_is)
    (case l_Net_is_place => k_is)
    (case e_Net_is_place => k_is)
    (case p_Net_is_place => k_is)
    (case a_Net_step => k_is)
    (case i_Net_step => k_is)
    (case l_Net_step => k_is)
    (case e_Net_step => k_is)
    (case p_Net_step => k_is)
    (case a_Net_touched => k_is)
    (case i_Net_touched => k_is)
    (case l_Net_touched => k_is)
    (case e_Net_touched => k_is)
    (case p_Net_touched => k_is)
    (case a_Net_lines => k_is)
    (case i_Net_lines => k_is)
    (case l_Net_lines => k_is)
    (case e_Net_lines => k_is)
    (case p_Net_lines => k_is)
    (case l_check_parts => k_is)
    (case e_check_parts => k_is)
    (case p_check_parts => k_is)
    (case l_check_many => k_is)
    (case e_check_many => k_is)
    (case p_check_many => k_is)
    (case l_check_names => k_is)
    (case e_check_names => k_is)
    (case p_check_names => k_is)
    (case l_check_bytes => k_is)
    (case e_check_bytes => k_is)
    (case p_check_bytes => k_is)
    (case l_check_steps => k_is)
    (case e_check_steps => k_is)
    (case p_check_steps => k_is)
    (case l_check_signals => k_is)
    (case e_check_signals => k_is)
    (case p_check_signals => k_is)
    (case l_pen => k_is)
    (case e_pen => k_is)
    (case p_pen => k_is)
    (case l_draw => k_is)
    (case e_draw => k_is)
    (case p_draw => k_is)
    (case l_steps => k_is)
    (case e_steps => k_is)
    (case p_steps => k_is)
    (case l_items => k_is)
    (case e_items => k_is)
    (case p_items => k_is)
    (case l_shuffled => k_is)
    (case e_shuffled => k_is)
    (case p_shuffled => k_is)
    (case l_part => k_is)
    (case e_part => k_is)
    (case p_part => k_is)
    (case l_bytes => k_is)
    (case e_bytes => k_is)
    (case p_bytes => k_is)
    (case l_lines => k_is)
    (case e_lines => k_is)
    (case p_lines => k_is)
    (case l_whole => k_is)
    (case e_whole => k_is)
    (case p_whole => k_is)
    (case l_right => k_is)
    (case e_right => k_is)
    (case p_right => k_is)
    (case l_round => k_is)
    (case e_round => k_is)
    (case p_round => k_is)
    (case l_law => k_is)
    (case e_law => k_is)
    (case p_law => k_is)
    (case dl_Signal_init => k_is)
    (case dd_Signal_init => exact rfl)
    (case dv_Signal_init => exact Paired.cons ⟨_, rfl⟩ (Paired.nil))
    (case k_LETTERS => k_is)
    (case k_LONGEST_NAME => k_is)
    (case k_ACCESS_WORDS => k_is)
    (case lk_ACCESS_WORDS => k_is)
    (case oc_ACCESS_WORDS => exact rfl)
    (case od_ACCESS_WORDS => exact rfl)
    (case oz_ACCESS_WORDS => exact (by decide))
    (case ov_ACCESS_WORDS => exact Paired.cons ⟨_, rfl⟩ (Paired.cons ⟨_, rfl⟩ (Paired.cons ⟨_, rfl⟩ (Paired.cons ⟨_, rfl⟩ (Paired.nil)))))
    (case k_UPKEEP_WORDS => k_is)
    (case lk_UPKEEP_WORDS => k_is)
    (case oc_UPKEEP_WORDS => exact rfl)
    (case od_UPKEEP_WORDS => exact rfl)
    (case oz_UPKEEP_WORDS => exact (by decide))
    (case ov_UPKEEP_WORDS => exact Paired.cons ⟨_, rfl⟩ (Paired.cons ⟨_, rfl⟩ (Paired.cons ⟨_, rfl⟩ (Paired.nil))))
    (case k_SIGNAL_WORDS => k_is)
    (case lk_SIGNAL_WORDS => k_is)
    (case oc_SIGNAL_WORDS => exact rfl)
    (case od_SIGNAL_WORDS => exact rfl)
    (case oz_SIGNAL_WORDS => exact (by decide))
    (case ov_SIGNAL_WORDS => exact Paired.cons ⟨_, rfl⟩ (Paired.cons ⟨_, rfl⟩ (Paired.nil)))
    (case k_PLAIN_WORDS => k_is)
    (case lk_PLAIN_WORDS => k_is)
    (case oc_PLAIN_WORDS => exact rfl)
    (case od_PLAIN_WORDS => exact rfl)
    (case oz_PLAIN_WORDS => exact (by decide))
    (case ov_PLAIN_WORDS => exact Paired.cons ⟨_, rfl⟩ (Paired.cons ⟨_, rfl⟩ (Paired.cons ⟨_, rfl⟩ (Paired.cons ⟨_, rfl⟩ (Paired.nil)))))
    (case k_CACHE_WORDS => k_is)
    (case lk_CACHE_WORDS => k_is)
    (case oc_CACHE_WORDS => exact rfl)
    (case od_CACHE_WORDS => exact rfl)
    (case oz_CACHE_WORDS => exact (by decide))
    (case ov_CACHE_WORDS => exact Paired.cons ⟨_, rfl⟩ (Paired.cons ⟨_, rfl⟩ (Paired.cons ⟨_, rfl⟩ (Paired.cons ⟨_, rfl⟩ (Paired.cons ⟨_, rfl⟩ (Paired.cons ⟨_, rfl⟩ (Paired.cons ⟨_, rfl⟩ (Paired.cons ⟨_, rfl⟩ (Paired.cons ⟨_, rfl⟩ (Paired.nil))))))))))
    (case k_GREATEST_SHIFT => k_is)
    (case k_GREATEST_BYTE => k_is)
    (case k_MOST_STEPS => k_is)
    (case k_MOST_TOKENS => k_is)
    (case k_GREATEST_SIZE => k_is)
    (case k_MOST_SLOTS => k_is)
    (case k_ADDRESSES => k_is)
    (case k_MOST_AGENTS => k_is)
    (case k_MOST_VARIABLES => k_is)
    (case k_MOST_SIGNALS => k_is)
    (case k_LONGEST_RING => k_is)
