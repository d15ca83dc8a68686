import PyProof.Rows.All
import Wide.All
import OpenK.AllK
import Wide.FinOn
import HandS.ForMost
import HandS.Exc
import HandS.Walk
import HandS.IsInst
import HandS.Star
import HandS.ClsMeth
import HandS.Style
import HandS.OwnEq
import HandS.Strs
import HandS.TupAny
import HandS.Evl
import KE.GoesEnum
import HandS.SlotsOwn
import HandS.More
import HandS.ExcOwn
import HandS.ExcInit
import HandS.ExcField
import HandS.ExcIs
import HandS.ExcValue
import HandS.MakeKw
import HandS.MakeKwOnly
import KE.KExcIs
import HandS.WordsExc
import PyProof.StrOps2
import HandS.Rev
import HandS.RevTup
import PyProof.ListStr
import HandS.SetFor
import KE.KEqDeep
import HandS.TryOnly
import PySem.Challenge.RW_unkeptlines_k04_agents_refused
set_option Elab.async false
set_option linter.all false
set_option maxRecDepth 100000
set_option maxHeartbeats 4200000
namespace Lay
open PySem L2
theorem upd_old {H : Hp} {p a : Addr} {o u : HO} (hp : H p = none) (ha : H a = some u) : upd H p o a = some u := by
  rw [upd_ne (ne_of_none ha hp)]; exact ha
/-- all that was tracked but p is as it was -/
def Keep (p : Addr) (H H' : Hp) : Prop := ∀ b o, b ≠ p → H b = some o → H' b = some o
theorem Keep.refl {p : Addr} {H : Hp} : Keep p H H := fun _ _ _ h => h
theorem Keep.trans {p : Addr} {H H1 H2 : Hp} (a : Keep p H H1) (b : Keep p H1 H2) : Keep p H H2 := fun c o n h => b c o n (a c o n h)
theorem Keep.of {p : Addr} {H H1 : Hp} (a : Same H H1) : Keep p H H1 := fun c o _ h => a c o h
theorem Keep.upd {p : Addr} {H : Hp} {o : HO} : Keep p H (upd H p o) := fun c u n h => by rw [upd_ne n]; exact h
theorem Same.upd {H : Hp} {p : Addr} {o : HO} (h : H p = none) : Same H (upd H p o) := fun _ _ e => upd_old h e
theorem Same.upd' {H H1 : Hp} {p : Addr} {o : HO} (s : Same H H1) (h : H1 p = none) : Same H (L2.upd H1 p o) := s.trans (Same.upd h)
/-- the pen: its cells, how many draws were begun (at most n), what is left -/
def PenAt (c : Addr) (H : Hp) (p : Addr) (n : Nat) : Prop := ∃ (ns : List Int) (b l : Int), H p = some (.lst [.ref c, .int b, .int l]) ∧ H c = some (.lst (ns.map V.int)) ∧ ns.length ≤ 63 ∧ 0 ≤ b ∧ b ≤ n ∧ 0 ≤ l
theorem PenAt.mono {c : Addr} {H H' : Hp} {p : Addr} {n : Nat} (s : Same H H') (h : PenAt c H p n) : PenAt c H' p n := by
  obtain ⟨ns, b, l, h1, h2, r⟩ := h
  exact ⟨ns, b, l, s _ _ h1, s _ _ h2, r⟩
theorem PenAt.le {c : Addr} {H : Hp} {p : Addr} {n m : Nat} (h : PenAt c H p n) (e : n ≤ m) : PenAt c H p m := by
  obtain ⟨ns, b, l, h1, h2, h3, h4, h5, h6⟩ := h
  exact ⟨ns, b, l, h1, h2, h3, h4, by omega, h6⟩
/-- a draw -/
def spDraw : Sp := fun vs H Q _ => ∃ (p : Addr) (m : Int) (n : Nat) (c : Addr), vs = [.ref p, .int m] ∧ PenAt c H p n ∧ n < 100000 ∧ 0 < m ∧ m < 1073741824 ∧
  ∀ (d : Int) (H' : Hp), 0 ≤ d → d < m → PenAt c H' p (n + 1) → Keep p H H' → Q (.int d) H'
/-- the pen is made -/
def spPen (K : PySem.W.Frag) : Sp := fun vs H Q _ => ∃ (a : Addr) (ns : List Int), vs = [.ref a] ∧ SqL K H a (ns.map V.int) ∧ ns.length ≤ 63 ∧
  ∀ (c p : Addr) (H' : Hp), H p = none → PenAt c H' p 0 → Same H H' → Q (.ref p) H'

/-! ### readings, a step a rule -/
section
variable {K : PySem.W.Frag} {σ : St} {H : Hp} {Q : VK} {ta tb tc te : TE} {t u : TT} {D : Ends} {ts us : TS} {v x y : V} {i j : Int} {n : Nat} {tA : TA} {QA : List V → Hp → Prop} {QT : Bool → Hp → Prop} {E : XK}
theorem rd_seq (h : ts { D with nx := us D } σ H) : tSeq ts us D σ H := h
theorem rd_asg {g : TG} (h : te σ H fun x H1 => g x σ H1 D.nx) : tAsg te g D σ H := h
theorem rd_ifS (h : t σ H fun b H1 => if b = true then ts D σ H1 else us D σ H1) : tIfS t ts us D σ H := h
theorem rd_ret (h : te σ H D.rt) : tRet te D σ H := h
theorem rd_retN (h : D.rt .non H) : tRetN D σ H := h
theorem rd_next (h : D.nx σ H) : tNext D σ H := h
theorem rd_drop (h : te σ H fun _ H1 => D.nx σ H1) : tDrop te D σ H := h
theorem rd_name (h : R (σ.set n (some v)) H) : gName n v σ H R := h
theorem rd_sub {g : TSet} {R : St → Hp → Prop} (h : ta σ H fun o H1 => tb σ H1 fun i H2 => g o i v H2 fun H3 => R σ H3) : gSub ta tb g v σ H R := h
theorem rd_var (h : σ[n]? = some (some v)) (q : Q v H) : tVar n σ H Q := ⟨v, h, q⟩
theorem rd_c (q : Q v H) : tC v σ H Q := q
theorem rd_op {r : R2} (h : ta σ H fun x H1 => tb σ H1 fun y H2 => r x y H2 Q) : tOp r ta tb σ H Q := h
theorem rd_un {r : V → Hp → VK → Prop} (h : ta σ H fun x H1 => r x H1 Q) : tUn r ta σ H Q := h
theorem rd_I0 {g : Int → Int → V} (q : Q (g i j) H) : rI0 g (.int i) (.int j) H Q := ⟨i, j, rfl, rfl, q⟩
theorem rd_I {C : Int → Int → Prop} {g : Int → Int → V} (hc : C i j) (q : Q (g i j) H) : rI C g (.int i) (.int j) H Q := ⟨i, j, rfl, rfl, hc, q⟩
theorem rd_U {g : Int → V} (q : Q (g i) H) : rU g (.int i) H Q := ⟨i, rfl, q⟩
theorem rd_eq (hs : scal x y = true) (q : Q (.bl (decide (x = y))) H) : rEq x y H Q := ⟨hs, q⟩
theorem rd_ne (hs : scal x y = true) (q : Q (.bl (!decide (x = y))) H) : rNe x y H Q := ⟨hs, q⟩
theorem rd_ixL {p : Addr} {xs : List V} (h : SqL K H p xs) (ha : atI xs i = some v) (q : Q v H) : rIxL K (.ref p) (.int i) H Q := ⟨p, xs, i, v, rfl, rfl, h, ha, q⟩
theorem rd_ixT {p : Addr} {xs : List V} (h : SqT K H p xs) (ha : atI xs i = some v) (q : Q v H) : rIxT K (.ref p) (.int i) H Q := ⟨p, xs, i, v, rfl, rfl, h, ha, q⟩
theorem rd_setL {p : Addr} {xs : List V} {k : Nat} {R : Hp → Prop} (h : H p = some (.lst xs)) (ha : ixN xs.length i = some k) (q : R (upd H p (.lst (xs.set k v)))) : rSetL (.ref p) (.int i) v H R := ⟨p, xs, i, k, rfl, rfl, h, ha, q⟩
theorem rd_tup (h : tA σ H fun xs H1 => xs.length ≤ sizeLine ∧ ∀ p, H1 p = none → Q (.ref p) (upd H1 p (.tup xs))) : tTup tA σ H Q := h
theorem rd_lst (h : tA σ H fun xs H1 => xs.length ≤ sizeLine ∧ ∀ p, H1 p = none → Q (.ref p) (upd H1 p (.lst xs))) : tLst tA σ H Q := h
theorem rd_cons (h : ta σ H fun x H1 => tA σ H1 fun xs H2 => QA (x :: xs) H2) : tCons ta tA σ H QA := h
theorem rd_nil (h : QA [] H) : tNil σ H QA := h
theorem rd_star (h : ta σ H fun x H1 => ∃ p xs, x = V.ref p ∧ (SqT K H1 p xs ∨ SqL K H1 p xs) ∧ tA σ H1 fun ys H2 => QA (xs ++ ys) H2) : StX.tStar K ta tA σ H QA := h
theorem rd_call {sp : Sp} {dvs : List V} (h : tA σ H fun vs H1 => sp (vs ++ dvs) H1 Q E) : tCall sp dvs E tA σ H Q := h
theorem rd_CB {r : List V → Hp → VK → Prop} (h : tA σ H fun vs H1 => r vs H1 Q) : tCB r tA σ H Q := h
theorem rd_test (h : ta σ H fun x H' => ∃ k, x = .bl k ∧ QT k H') : tTest ta σ H QT := h
theorem rd_tB (h : ta σ H fun x H' => ∃ k, x = .bl k ∧ QT k H') : tB ta σ H QT := h
theorem rd_and (h : t σ H fun c H1 => if c = true then u σ H1 QT else QT false H1) : tAnd t u σ H QT := h
theorem rd_or (h : t σ H fun c H1 => if c = true then QT true H1 else u σ H1 QT) : tOr t u σ H QT := h
theorem rd_not (h : t σ H fun c H1 => QT (!c) H1) : tNot t σ H QT := h
theorem rd_andV (h : ta σ H fun x H1 => ∃ c, x = .bl c ∧ if c = true then tb σ H1 Q else Q (.bl false) H1) : tAndV ta tb σ H Q := h
theorem rd_orV (h : ta σ H fun x H1 => ∃ c, x = .bl c ∧ if c = true then Q (.bl true) H1 else tb σ H1 Q) : tOrV ta tb σ H Q := h
theorem rd_notV (h : ta σ H fun x H1 => ∃ c, x = .bl c ∧ Q (.bl (!c)) H1) : tNotV ta σ H Q := h
theorem rd_tIf (h : t σ H fun c H1 => if c = true then ta σ H1 Q else tb σ H1 Q) : tIf t ta tb σ H Q := h
theorem rd_fld {a C dx : Addr} {fs : List (Str × V)} {f : Str} (h : ta σ H fun x H1 => ∃ a C dx fs v, x = .ref a ∧ H1 a = some (.ins C dx fs) ∧ Cls K C ∧ NoAttr K C f ∧ fs.lookup f = some v ∧ Q v H1) : tFld K ta f σ H Q := h
theorem rd_slL {p : Addr} {xs : List V} {lo hi : Option Int} (h : SqL K H p xs) (q : ∀ r, H r = none → Q (.ref r) (upd H r (.lst (cutV xs lo hi)))) : rSlL K (.ref p) lo hi H Q := ⟨p, xs, rfl, h, q⟩
theorem rd_sl {r : V → Option Int → Option Int → Hp → VK → Prop} {tl th : TO} (h : te σ H fun x H1 => tl σ H1 fun l H2 => th σ H2 fun u H3 => r x l u H3 Q) : tSl r te tl th σ H Q := h
theorem rd_noP {QO : Option Int → Hp → Prop} (q : QO none H) : tNoPart σ H QO := q
theorem rd_part {QO : Option Int → Hp → Prop} (q : te σ H fun x H1 => ∃ i, x = .int i ∧ QO (some i) H1) : tPart te σ H QO := q
theorem rd_BM {T : String} {r : V → List V → Hp → VK → Prop} (h : ta σ H fun x H1 => tyV K T x H1 ∧ tA σ H1 fun xs H2 => r x xs H2 Q) : tBM K T r ta tA σ H Q := h
theorem rd_app {p : Addr} {xs : List V} (h : H p = some (.lst xs)) (hl : xs.length < sizeLine) (q : Q .non (upd H p (.lst (xs ++ [y])))) : rAppend (.ref p) [y] H Q := ⟨p, xs, y, rfl, rfl, h, hl, q⟩
/-! ways -/
theorem ite_d {p : Prop} [Decidable p] {A B : Prop} (h1 : p → A) (h2 : ¬ p → B) : if decide p = true then A else B := by
  by_cases c : p
  · rw [if_pos (by simpa using c)]; exact h1 c
  · rw [if_neg (by simpa using c)]; exact h2 c
theorem ite_n {p : Prop} [Decidable p] {A B : Prop} (h1 : ¬ p → A) (h2 : p → B) : if (!decide p) = true then A else B := by
  by_cases c : p
  · rw [if_neg (by simp [c])]; exact h2 c
  · rw [if_pos (by simp [c])]; exact h1 c
theorem ite_b {b : Bool} {A B : Prop} (h1 : b = true → A) (h2 : b = false → B) : if b = true then A else B := by
  cases b
  · rw [if_neg Bool.false_ne_true]; exact h2 rfl
  · rw [if_pos rfl]; exact h1 rfl
end
/-! ### built-ins by name -/
def rLenS (K : PySem.W.Frag) : List V → Hp → VK → Prop := fun xs H Q => ∃ p ys, xs = [.ref p] ∧ (SqL K H p ys ∨ SqT K H p ys) ∧ Q (.int ys.length) H
theorem call_lenS {X : Cx} : CallR X (.builtin "len") (rLenS X.K) := call_len_seq
theorem rd_lenL {K : PySem.W.Frag} {H : Hp} {Q : VK} {p : Addr} {xs : List V} (h : SqL K H p xs) (q : Q (.int xs.length) H) : rLenS K [.ref p] H Q := ⟨p, xs, rfl, .inl h, q⟩
theorem rd_lenT {K : PySem.W.Frag} {H : Hp} {Q : VK} {p : Addr} {xs : List V} (h : SqT K H p xs) (q : Q (.int xs.length) H) : rLenS K [.ref p] H Q := ⟨p, xs, rfl, .inr h, q⟩
def rInt1 : List V → Hp → VK → Prop := fun xs H Q => (∃ i, xs = [.int i] ∧ Q (.int i) H) ∨ ∃ k, xs = [.bl k] ∧ Q (.int (if k then 1 else 0)) H
theorem call_intI {X : Cx} : CallR X (.type "int") rInt1 := call_int1
theorem rd_int {H : Hp} {Q : VK} {i : Int} (q : Q (.int i) H) : rInt1 [.int i] H Q := .inl ⟨i, rfl, q⟩
theorem rd_intB {H : Hp} {Q : VK} {k : Bool} (q : Q (.int (if k then 1 else 0)) H) : rInt1 [.bl k] H Q := .inr ⟨k, rfl, q⟩
def rAbs : List V → Hp → VK → Prop := fun xs H Q => ∃ i, xs = [.int i] ∧ Q (.int (if i < 0 then -i else i)) H
theorem call_absI {X : Cx} : CallR X (.builtin "abs") rAbs := call_abs
theorem rd_abs {H : Hp} {Q : VK} {i : Int} (q : Q (.int (if i < 0 then -i else i)) H) : rAbs [.int i] H Q := ⟨i, rfl, q⟩
def rListOf (K : PySem.W.Frag) : List V → Hp → VK → Prop := fun xs H Q => ∃ p ys, xs = [.ref p] ∧ (SqL K H p ys ∨ SqT K H p ys) ∧ ∀ l, H l = none → Q (.ref l) (upd H l (.lst ys))
theorem call_listS {X : Cx} : CallR X (.type "list") (rListOf X.K) := call_list_of
theorem rd_listL {K : PySem.W.Frag} {H : Hp} {Q : VK} {p : Addr} {xs : List V} (h : SqL K H p xs) (q : ∀ l, H l = none → Q (.ref l) (upd H l (.lst xs))) : rListOf K [.ref p] H Q := ⟨p, xs, rfl, .inl h, q⟩
theorem rd_listT {K : PySem.W.Frag} {H : Hp} {Q : VK} {p : Addr} {xs : List V} (h : SqT K H p xs) (q : ∀ l, H l = none → Q (.ref l) (upd H l (.lst xs))) : rListOf K [.ref p] H Q := ⟨p, xs, rfl, .inr h, q⟩
def rTupOf (K : PySem.W.Frag) : List V → Hp → VK → Prop := fun xs H Q => ∃ p ys, xs = [.ref p] ∧ ((SqL K H p ys ∧ ∀ l, H l = none → Q (.ref l) (upd H l (.tup ys))) ∨ (SqT K H p ys ∧ Q (.ref p) H))
theorem call_tupS {X : Cx} : CallR X (.type "tuple") (rTupOf X.K) := call_tuple_of
theorem rd_tupL {K : PySem.W.Frag} {H : Hp} {Q : VK} {p : Addr} {xs : List V} (h : SqL K H p xs) (q : ∀ l, H l = none → Q (.ref l) (upd H l (.tup xs))) : rTupOf K [.ref p] H Q := ⟨p, xs, rfl, .inl ⟨h, q⟩⟩
theorem rd_tupT {K : PySem.W.Frag} {H : Hp} {Q : VK} {p : Addr} {xs : List V} (h : SqT K H p xs) (q : Q (.ref p) H) : rTupOf K [.ref p] H Q := ⟨p, xs, rfl, .inr ⟨h, q⟩⟩
def rLenStr : List V → Hp → VK → Prop := fun xs H Q => ∃ z, xs = [.str z] ∧ z.length ≤ sizeLine ∧ Q (.int z.length) H
theorem call_lenStr {X : Cx} : CallR X (.builtin "len") rLenStr := call_len_str
theorem rd_lenStr {H : Hp} {Q : VK} {z : Str} (h : z.length ≤ sizeLine) (q : Q (.int z.length) H) : rLenStr [.str z] H Q := ⟨z, rfl, h, q⟩
theorem sqL_of {K : PySem.W.Frag} {H : Hp} {a : Addr} {xs : List V} (h : H a = some (.lst xs)) : SqL K H a xs := .inl (.inl h)
theorem sqT_of {K : PySem.W.Frag} {H : Hp} {a : Addr} {xs : List V} (h : H a = some (.tup xs)) : SqT K H a xs := .inl (.inl h)
theorem sqL_upd {K : PySem.W.Frag} {H : Hp} {a p : Addr} {o : HO} {xs : List V} (hp : H p = none) (h : SqL K H a xs) : SqL K (upd H p o) a xs := (Same.upd hp).seq h
theorem same_sqT {K : PySem.W.Frag} {H H' : Hp} {a : Addr} {xs : List V} (e : Same H H') (h : SqT K H a xs) : SqT K H' a xs := by
  rcases h with (h | ⟨o, h⟩) | h
  · exact .inl (.inl (e _ _ h))
  · exact .inl (.inr ⟨o, e _ _ h⟩)
  · exact .inr h
theorem sqT_upd {K : PySem.W.Frag} {H : Hp} {a p : Addr} {o : HO} {xs : List V} (hp : H p = none) (h : SqT K H a xs) : SqT K (upd H p o) a xs := same_sqT (Same.upd hp) h

/-! ### remainders and quotients by positive numbers, as letters -/
def rModP : R2 := fun x y H Q => ∃ i j, x = .int i ∧ y = .int j ∧ 0 < j ∧ ∀ d : Int, d = i % j → 0 ≤ d → d < j → Q (.int d) H
theorem op_modP {X : Cx} : OpR X (binaryOp .Mod) rModP := fun pins s σ H x y v u Q I rx ry h => by
  obtain ⟨i, j, ex, ey, hj, q⟩ := h
  refine op_mod pins s σ H x y v u Q I rx ry ⟨i, j, ex, ey, hj, q _ rfl (Int.emod_nonneg _ (by omega)) (Int.emod_lt_of_pos _ hj)⟩
def rDivP : R2 := fun x y H Q => ∃ i j, x = .int i ∧ y = .int j ∧ (0 < j ∧ j < 1073741824) ∧ ∀ d : Int, d = i / j → Q (.int d) H
theorem op_divP {X : Cx} : OpR X (binaryOp .FloorDiv) rDivP := fun pins s σ H x y v u Q I rx ry h => by
  obtain ⟨i, j, ex, ey, hj, q⟩ := h
  exact op_fdiv pins s σ H x y v u Q I rx ry ⟨i, j, ex, ey, hj, q _ rfl⟩
theorem rd_modP {i j : Int} {H : Hp} {Q : VK} (hj : 0 < j) (q : ∀ d : Int, d = i % j → 0 ≤ d → d < j → Q (.int d) H) : rModP (.int i) (.int j) H Q := ⟨i, j, rfl, rfl, hj, q⟩
theorem rd_divP {i j : Int} {H : Hp} {Q : VK} (hj : 0 < j ∧ j < 1073741824) (q : ∀ d : Int, d = i / j → Q (.int d) H) : rDivP (.int i) (.int j) H Q := ⟨i, j, rfl, rfl, hj, q⟩
/-- a list of numbers beside an empty one -/
theorem dpAll_ints {K : PySem.W.Frag} {H : Hp} : ∀ ns : List Int, DpAll K H (ns.map V.int) (ns.map PyData.int)
  | [] => .nil
  | n :: r => .cons (.int n) (dpAll_ints r)
theorem rd_ne_nil {K : PySem.W.Frag} {H : Hp} {Q : VK} {c p : Addr} {ns : List Int} (h : SqL K H c (ns.map V.int)) (hp : SqL K H p []) (q1 : ns ≠ [] → Q (.bl true) H) (q2 : ns = [] → Q (.bl false) H) : rNeD K (.ref c) (.ref p) H Q := by
  refine ⟨.list (ns.map PyData.int), .list [], .lst h (dpAll_ints ns), .lst hp .nil, ?_, by decide, ?_⟩
  · exact PySem.W.shaped_ints ns
  · cases ns with
    | nil => exact q2 rfl
    | cons a r => exact q1 (by simp)

theorem pow_ok {a : Int} {k : Int} (hk : 0 ≤ k) (hk2 : k ≤ 1000000) (h0 : 0 ≤ a) (h1 : a < 18446744073709551616) : CPow a k := ⟨hk, hk2, by omega⟩
theorem mix_ok {x b c d e k : Int} (hx : 0 ≤ x) (hx2 : x < 4294967296) (hb : 0 ≤ b) (hb2 : b < 200000) (hc : 0 ≤ c) (hc2 : c < 1000) (hd : 0 ≤ d) (hd2 : d < 1000000) (he : 0 ≤ e) (he2 : e < 1000000) (hk : 0 ≤ k) (hk2 : k ≤ 1000000) :
    CPow (x * (2 * b + c) + d * b * b + e) k := by
  have h1 : x * (2 * b + c) ≤ 4294967296 * (2 * b + c) := Int.mul_le_mul_of_nonneg_right (by omega) (by omega)
  have h0 : 0 ≤ x * (2 * b + c) := Int.mul_nonneg hx (by omega)
  have h2 : 0 ≤ d * b := Int.mul_nonneg hd hb
  have h3 : d * b ≤ 1000000 * b := Int.mul_le_mul_of_nonneg_right (by omega) hb
  have h4 : 0 ≤ d * b * b := Int.mul_nonneg h2 hb
  have h5 : d * b * b ≤ (1000000 * 200000) * b := Int.mul_le_mul_of_nonneg_right (by omega) hb
  exact pow_ok hk hk2 (by omega) (by omega)
theorem dbb_ok {d b : Int} (hb : 0 ≤ b) (hb2 : b < 200000) (hd : 0 ≤ d) (hd2 : d < 1000000) : CMul (d * b) b := .inr ⟨by omega, by omega⟩

theorem rd_exb {b : Bool} {P : Bool → Prop} (q : P b) : ∃ k, V.bl b = V.bl k ∧ P k := ⟨b, rfl, q⟩
theorem rd_exi {b : Int} {P : Int → Prop} (q : P b) : ∃ k, V.int b = V.int k ∧ P k := ⟨b, rfl, q⟩

theorem atI_int {α : Type} {xs : List α} {d : Int} {v : α} (h0 : 0 ≤ d) (h : xs[d.toNat]? = some v) : atI xs d = some v := by
  have q := atI_nat h
  rw [Int.toNat_of_nonneg h0] at q
  exact q
theorem rd_exs {z : Str} {P : Str → Prop} (q : P z) : ∃ k, V.str z = V.str k ∧ P k := ⟨z, rfl, q⟩
theorem rd_exr {a : Addr} {P : Addr → Prop} (q : P a) : ∃ k, V.ref a = V.ref k ∧ P k := ⟨a, rfl, q⟩
theorem rd_eqI {i j : Int} {H : Hp} {Q : VK} (q : Q (.bl (decide (i = j))) H) : rEq (.int i) (.int j) H Q := ⟨rfl, by
  rw [show decide (V.int i = V.int j) = decide (i = j) from by
    by_cases h : i = j
    · rw [decide_eq_true h, h]; exact decide_eq_true rfl
    · rw [decide_eq_false h]; exact decide_eq_false fun z => h (V.int.inj z)]
  exact q⟩
theorem rd_neI {i j : Int} {H : Hp} {Q : VK} (q : Q (.bl (!decide (i = j))) H) : rNe (.int i) (.int j) H Q := ⟨rfl, by
  rw [show decide (V.int i = V.int j) = decide (i = j) from by
    by_cases h : i = j
    · rw [decide_eq_true h, h]; exact decide_eq_true rfl
    · rw [decide_eq_false h]; exact decide_eq_false fun z => h (V.int.inj z)]
  exact q⟩
theorem rd_eqS {i j : Str} {H : Hp} {Q : VK} (q : Q (.bl (decide (i = j))) H) : rEq (.str i) (.str j) H Q := ⟨rfl, by
  rw [show decide (V.str i = V.str j) = decide (i = j) from by
    by_cases h : i = j
    · rw [decide_eq_true h, h]; exact decide_eq_true rfl
    · rw [decide_eq_false h]; exact decide_eq_false fun z => h (V.str.inj z)]
  exact q⟩
theorem rd_neS {i j : Str} {H : Hp} {Q : VK} (q : Q (.bl (!decide (i = j))) H) : rNe (.str i) (.str j) H Q := ⟨rfl, by
  rw [show decide (V.str i = V.str j) = decide (i = j) from by
    by_cases h : i = j
    · rw [decide_eq_true h, h]; exact decide_eq_true rfl
    · rw [decide_eq_false h]; exact decide_eq_false fun z => h (V.str.inj z)]
  exact q⟩
theorem rd_eqB {i j : Bool} {H : Hp} {Q : VK} (q : Q (.bl (i == j)) H) : rEq (.bl i) (.bl j) H Q := ⟨rfl, by
  rw [show decide (V.bl i = V.bl j) = (i == j) from by cases i <;> cases j <;> rfl]
  exact q⟩
theorem rd_neB {i j : Bool} {H : Hp} {Q : VK} (q : Q (.bl (!(i == j))) H) : rNe (.bl i) (.bl j) H Q := ⟨rfl, by
  rw [show decide (V.bl i = V.bl j) = (i == j) from by cases i <;> cases j <;> rfl]
  exact q⟩
end Lay

namespace PySem
namespace OpsM
/-- enumerate(v) alone, v begun by B -/
theorem meets_enum1 {v : Value} {o : Obj} {Hq : Heap → Prop} (B : Begins v o Hq) :
    Meets (Builtin.«enumerate.__new__» ⟨[.type "enumerate", v], []⟩) (fun _ R s => Hq s.heap ∧
      R (.ok (.ret (.ref (s.heap.push o).objs.size))) { s with heap := (s.heap.push o).push { cls := .type "enumerate", data := .fields #[.none, .bool false, .ref s.heap.objs.size, rawInt 0, .none, .none] } }) := by
  refine .of_wp fun prog w A R s hR => ?_
  obtain ⟨hp, g, d, tk, os⟩ := s
  obtain ⟨hq0, hR⟩ := hR
  have subE := sub_enumerate
  have its : ∀ {A1 : Around} {E1 : Value → Shared → Prop} {Q1 : Value → Shared → Prop}, Q1 (.ref hp.objs.size) ⟨hp.push o, g, d, tk, os⟩ → wpAny (model prog w) A1 (pyIter v) Q1 E1 ⟨hp, g, d, tk, os⟩ :=
    fun z => B.iter prog w _ _ ⟨hp, g, d, tk, os⟩ _ hq0 z
  wp_walk using its
  refine wpAny_stack_any fun stk => wpAny_pure ?_
  split
  · rename_i cl _ _ _ _ _
    cases (cl == Value.type "enumerate")
    all_goals (wp_walk using its; exact ⟨_, rfl, hR⟩)
  · wp_walk using its; exact ⟨_, rfl, hR⟩
theorem call_enum1 {prog : Program} {w : World} {A : Around} {E : Value → Shared → Prop} {s : Shared} {v : Value} {o : Obj} {Hq : Heap → Prop} {Q : Value → Shared → Prop} (B : Begins v o Hq) (h1 : Hq s.heap)
    (h : ∀ h2, IsEnum h2 (s.heap.objs.size + 1) s.heap.objs.size 0 .none → h2.get? s.heap.objs.size = some o → (∀ b u, s.heap.get? b = some u → h2.get? b = some u) → Q (.ref (s.heap.objs.size + 1)) { s with heap := h2 }) :
    wpAny (model prog w) A (call (.type "enumerate") [v]) Q E s := by
  refine callType_new F.called_enumerate (by decide) (F.typeCall_enumerate_1 _) (F.newCall_enumerate_1 _) (fun obj => F.args_object_init_2 obj _) F.entry_enumerate_new (meets_enum1 B) ⟨h1, ?_⟩
  have hz : (s.heap.push o).objs.size = s.heap.objs.size + 1 := Heap.size_push ..
  show _ ∧ _
  rw [hz]
  have he : IsEnum ((s.heap.push o).push { cls := .type "enumerate", data := .fields #[.none, .bool false, .ref s.heap.objs.size, rawInt 0, .none, .none] }) (s.heap.objs.size + 1) s.heap.objs.size 0 .none := by
    have z := Heap.get?_push_size (s.heap.push o) (o := { cls := .type "enumerate", data := .fields #[.none, .bool false, .ref s.heap.objs.size, rawInt 0, .none, .none] }) rfl
    rw [hz] at z
    exact z
  exact ⟨⟨_, he, rfl⟩, h _ he (Heap.get?_push_of_some _ (Heap.get?_push_size _ B.free)) fun b u z => Heap.get?_push_of_some _ (Heap.get?_push_of_some _ z)⟩
end OpsM
end PySem
namespace Lay
open PySem PySem.Spec PyProof.Rows L2
/-! ### enumerate(tuple) -/
def Itet (K : PySem.W.Frag) (a : Addr) : It :=
  ⟨fun i H => ∃ (xs : List V) (x : V), SqT K H a xs ∧ xs[i]? = some x, fun i H v H' => ∃ T x, v = .ref T ∧ H T = none ∧ H' = upd H T (.tup [.int (i : Nat), x]) ∧ ∀ xs, SqT K H a xs → xs[i]? = some x, fun i H => ∃ xs : List V, SqT K H a xs ∧ xs.length ≤ i⟩
theorem tuple_iter_ne {h : Heap} {it a : Addr} {i : Nat} {its : Array Value} (h1 : h.IsTupleIter it a i) (h2 : h.IsTuple a its) : a ≠ it := fun z => by
  obtain ⟨o, e, c, d⟩ := h1
  obtain ⟨u, e2, c2, _⟩ := h2
  rw [z, e] at e2
  cases e2
  rw [c] at c2
  injection c2 with y
  exact absurd y (by decide)
theorem enum_ne {h : Heap} {e it a : Addr} {c : Int} {old : Value} {its : Array Value} (h1 : IsEnum h e it c old) (h2 : h.IsTuple a its) : e ≠ a := fun z => by
  obtain ⟨u, e2, c2, _⟩ := h2
  have h1' : h.get? e = some _ := h1
  rw [← z, h1'] at e2
  cases e2
  injection c2 with y
  exact absurd y (by decide)
theorem turn_enumT {P : Program} {w : World} {K : PySem.W.Frag} {elts : List Expr} {kk : Nat} {tpos : Pos} (a e it : Addr) :
    Turn P w K (.Tuple elts kk tpos) (Itet K a) [e, it] e (fun i h => (∃ old, IsEnum h e it ((i : Nat) : Int) old) ∧ h.IsTupleIter it a i ∧ e ≠ it) where
  mem := List.mem_cons_self ..
  obj := fun i h st b hb => by
    obtain ⟨⟨old, he⟩, ⟨o, ho, hc, hd⟩, _⟩ := st
    rcases List.mem_cons.mp hb with z | z
    · subst z; exact ⟨_, he, fun v q => nomatch q⟩
    · rw [List.mem_singleton.mp z]; exact ⟨o, ho, fun v q => by rw [hd] at q; cases q⟩
  keep := fun i h h2 st k => ⟨let ⟨old, he⟩ := st.1; ⟨old, k e (List.mem_cons_self ..) _ he⟩, st.2.1.at fun o q => k it (by simp) o q, st.2.2⟩
  item := by
    intro X hP hw hK hc i pins s σ H E I hf st hg
    subst hP hw hK
    obtain ⟨⟨old, he⟩, hit, hne⟩ := st
    obtain ⟨xs, x, hq, hx⟩ := hg
    obtain ⟨its, rv, p, hz⟩ := I.tuple hq
    obtain ⟨u, hu, ru⟩ := rv.get hx
    have hT : s.heap.IsTuple a its.toArray := p
    have hel : e < s.heap.objs.size := Heap.lt_size he
    have hil : it < s.heap.objs.size := by obtain ⟨_, q, _⟩ := hit; exact Heap.lt_size q
    have hei : e ∉ [it, a] := by
      intro z
      rcases List.mem_cons.mp z with z | z
      · exact hne z
      · exact enum_ne he hT (List.mem_singleton.mp z)
    have hlt : i < its.toArray.size := by
      have z := (List.getElem?_eq_some_iff.mp hu).1
      simpa using z
    refine wpAny_pyNext_enum_itemC (Draws.tuple (prog := X.prog) (w := X.w) (A := X.A.in1) (I.ok.hd hc) it a (tuple_iter_ne hit hT) its.toArray) he ⟨hit, hT⟩ hlt hne hei fun y h2 tk hy ho hst hTn hsz hk => ?_
    have ey : y = u := by
      have z : its.toArray[i]? = some u := by simpa using hu
      rw [z] at hy
      exact (Option.some.inj hy).symm
    subst ey
    refine ⟨_, rfl, wpAny_letOwnedTupleGo_enum (s := { s with heap := h2, toks := tk + 1 }) ho fun h3 he3 sb => ?_⟩
    have hT3 : h3.get? s.heap.objs.size = some { cls := .type "tuple", data := .seq #[.int i tk, y] } := (sb.2 _ (Nat.ne_of_gt hel)).trans hTn
    have new : ObjOk X.prog X.w (upd H s.heap.objs.size (.tup [.int (i : Nat), x])) h3 s.heap.objs.size (.tup [.int (i : Nat), x]) :=
      ⟨by show 2 ≤ sizeLine; decide, [.int i tk, y], .cons ⟨_, rfl⟩ (.cons ru .nil), ⟨_, hT3, rfl, _, rfl⟩⟩
    have I1 : Inv X pins σ (upd H s.heap.objs.size (.tup [.int (i : Nat), x])) { s with heap := h3, toks := tk + 1 } :=
      I.turnedNew (ch := [e, it]) (fun b ob hb q => (sb.2 b (fun z => hb (by rw [z]; exact List.mem_cons_self ..))).trans (hk b ob (fun z => hb (by rw [z]; exact List.mem_cons_self ..)) (fun z => hb (by simp [z])) q)) hf (Nat.le_refl _) new
    refine ⟨.ref s.heap.objs.size, _, I1, rfl, ⟨_, x, rfl, I.hok.fresh (Nat.le_refl _), rfl, fun ys hy => by rw [I.tuple_inj hy hq]; exact hx⟩, ⟨⟨y, ?_⟩, hst.1.at fun o q => (sb.2 it (Ne.symm hne)).trans q, hne⟩, fun b hb => ?_⟩
    · rw [show ((i + 1 : Nat) : Int) = (i : Int) + 1 from by omega]
      exact he3
    · have hlb : b < s.heap.objs.size := by
        rcases List.mem_cons.mp hb with z | z
        · rw [z]; exact hel
        · rw [List.mem_singleton.mp z]; exact hil
      rw [upd_ne (Nat.ne_of_lt hlb)]
      exact (hf b hb).1
  done := by
    intro X hP hw hK hc i pins s σ H E I hf st hg
    subst hP hw hK
    obtain ⟨⟨old, he⟩, hit, hne⟩ := st
    obtain ⟨xs, hq, hx⟩ := hg
    obtain ⟨its, rv, p, hz⟩ := I.tuple hq
    have hT : s.heap.IsTuple a its.toArray := p
    obtain ⟨f0, f1, f2, f3, f4, f5⟩ := hf it (by simp)
    have hn : its.toArray[i]? = none := by
      have z := rv.length
      simp only [List.getElem?_toArray, List.getElem?_eq_none_iff]
      omega
    have Dn : Draws X.prog X.w X.A.in1 it [it, a] i (fun _ _ => False) (fun j h => j = i ∧ h.IsTupleIter it a i ∧ h.IsTuple a its.toArray) :=
      ⟨fun j h z => let ⟨o, ho, _⟩ := z.2.1; ⟨o, ho⟩, fun j h h2 z k => ⟨z.1, z.2.1.at fun o q => k it (by simp) o q, z.2.2.at fun o q => k a (by simp) o q⟩,
        fun j s1 Q1 E1 hj z _ => absurd hj (by rw [z.1]; exact Nat.lt_irrefl _), fun s1 Q1 E1 z hE => wpAny_nextOf_tuple_end (I.ok.hd hc) z.2.1 z.2.2 hn hE⟩
    exact wpAny_pyNext_enum_endD Dn he ⟨rfl, hit, hT⟩ fun h2 eb => ⟨rfl, I.turned (t' := s.toks) (fun b o hb q => eb b o hb q) f0 f1 f3 f4 f5⟩
  self := fun A i s Q E st h => let ⟨⟨_, he⟩, _⟩ := st; wpAny_pyIter_enum he h
def iEnumT (K : PySem.W.Frag) (ta : TA) : TI := fun σ H R => ta σ H fun vs H1 => ∃ a xs, vs = [.ref a] ∧ SqT K H1 a xs ∧ R (Itet K a) H1
theorem pi_enumT {X : Cx} {e : Expr} {ta : TA} {p pos tpos : Pos} {elts : List Expr} {kk : Nat} (hg : Gl X "enumerate") (hm : X.mg "enumerate" = none) (ha : PA X [e] ta) (hs : starEach [e] X.env = [(false, eval e X.env)] := by rfl) :
    PI X (.Tuple elts kk tpos) (.Call (.Name "enumerate" p) [e] [] pos) (iEnumT X.K ta) := by
  refine ⟨fun pins s σ H R I h => ?_⟩
  refine Call_ (ld_blt I hg hm boot_enumerate (PyProof.Rows.callWith_type1 (thn (ha.run pos pins s σ H _ I h) fun us s1 ⟨vs, H1, I1, r1, a, xs, ex, hq, q⟩ => ?_) hs rfl))
  subst ex
  cases r1 with
  | cons r rr =>
    cases rr
    cases r
    obtain ⟨its, rv, pt, hz⟩ := I1.tuple hq
    have hT : s1.heap.IsTuple a its.toArray := pt
    refine OpsM.call_enum1 (begins_tuple a its.toArray) hT fun h2 he hit hk => wpAny_pyIter_enum he ?_
    have I2 : Inv X pins σ H1 { s1 with heap := h2 } := I1.kept (t' := s1.toks) hk
    refine ⟨s1.heap.objs.size + 1, [s1.heap.objs.size + 1, s1.heap.objs.size], _, _, H1, rfl, I2, turn_enumT a (s1.heap.objs.size + 1) s1.heap.objs.size, ⟨⟨.none, he⟩, ⟨_, hit, rfl, rfl⟩, Nat.succ_ne_self _⟩, fun b hb => ?_, q⟩
    have hle : s1.heap.objs.size ≤ b := by
      rcases List.mem_cons.mp hb with z | z
      · rw [z]; exact Nat.le_add_right _ _
      · rw [List.mem_singleton.mp z]; exact Nat.le_refl _
    exact I1.fpOk hle (I1.hok.fresh hle)
theorem walk_enumT {K : PySem.W.Frag} {a : Addr} {xs : List V} : Walk (Itet K a) xs.length (fun H => SqT K H a xs) (YPair (fun i => some (.int (i : Nat))) (fun i => xs[i]?)) := by
  refine ⟨fun i _ hi q => ⟨xs, xs[i], q, by simp [hi]⟩, fun _ q => ⟨xs, q, Nat.le_refl _⟩, fun i H v H' _ q y => ?_⟩
  obtain ⟨T, x, h1, h2, h3, h4⟩ := y
  exact ⟨T, _, x, h1, h2, h3, rfl, h4 xs q⟩
end Lay

namespace PySem
namespace OpsM
open SeqAt
open AutoSeq1 (wpAny_loadPart')
theorem str_eq_any (b : Str) (u : Tok) (l : Addr) (c : Value) (dd : Option Addr) (es : Array DictEntry) (ep : Nat) (sl : Array (Option Value)) :
    Meets (Builtin.«str.__eq__» ⟨[.str b u, .ref l], []⟩) (fun _ R s => s.heap.get? l = some { cls := c, dict := dd, data := .dict es ep, slots := sl } ∧ R (.ok (.ret .notImplemented)) s) := by
  refine .of_wp fun prog w A R s h => ?_
  obtain ⟨hp, g, d, tk, os⟩ := s
  obtain ⟨hl, hR⟩ := h
  wp_walk using wpAny_loadPart' hl, wpAny_load hl
  exact ⟨_, rfl, hR⟩
section
variable {prog : Program} {w : World} {A : Around} {E : Value → Shared → Prop} {s : Shared}
theorem dict_eq_str {d : Addr} {b : Str} {u : Tok} {Q : Value → Shared → Prop} (hd : s.TypeIs (.ref d) "dict") (h : Q .notImplemented s) : wpAny (model prog w) A (call (.builtin "dict.__eq__") [.ref d, .str b u]) Q E s := by
  refine wpAny_call_entry PySem.F.slot_dict_eq hd PySem.F.entry_dict_eq ?_ (PySem.F.args_dict_eq_2 _ _)
  show wpAny _ _ (Builtin.Dict.dictSlotArgs "__eq__" ⟨[.ref d, .str b u], []⟩ >>= _) _ _ s
  refine wpAny_bind ?_
  unfold Builtin.Dict.dictSlotArgs
  refine wpAny_bind (wpAny_notOrdered_dict hd ?_)
  show wpAny _ _ (pure (Value.ref d, Value.str b u)) _ _ s
  refine wpAny_pure ?_
  refine wpAny_bind (wpAny_isInstance (T := "str") (typeIs_str s b u) PySem.F.sub_str_dict ?_)
  simp only [Bool.not_false, if_true]
  exact wpAny_bind (wpAny_rule (wpAny_pure ⟨_, rfl, h⟩))
theorem rc_str_dict {d : Addr} {o : Obj} (b : Str) (u : Tok) (ho : s.heap.get? d = some o) (hc : o.cls = .type "dict") (hd : ∃ es ep, o.data = .dict es ep) (hu : A.units < cLine) : RcAt A s (.str b u) (.ref d) false := fun prog w E Q h => by
  obtain ⟨es, ep, hd⟩ := hd
  obtain ⟨c, dd, dt, sl⟩ := o
  simp only at hc hd
  subst hc hd
  have hT : s.TypeIs (.ref d) "dict" := ⟨_, ho, rfl⟩
  exact rc_eq_decline_or (k := false) (typeIs_str s b u) hT (by decide) F.sub_dict_str F.slot_str_eq F.slot_dict_eq_refl
    (fun _ hq => call_meets F.slot_str_eq (typeIs_str s b u) F.entry_str_eq (F.args_str_eq_2 _ _) (str_eq_any b u d _ dd es ep sl) ⟨ho, hq⟩)
    (fun _ hq => dict_eq_str hT hq) (fun _ hq => wpAny_of_eq (rfl : isSame (.str b u) (.ref d) = pure false) hq) (.inr hu) h
theorem eq_str_dict {d : Addr} {o : Obj} (b : Str) (u : Tok) (ho : s.heap.get? d = some o) (hc : o.cls = .type "dict") (hd : ∃ es ep, o.data = .dict es ep) (hu : A.units < cLine) : EqAt A s (.str b u) (.ref d) false := fun prog w E Q h => by
  unfold eqBool
  refine wpAny_holding (wpAny_ite_split (fun z => absurd (eq_of_beq z) nofun) fun _ => ?_)
  exact wpAny_bind (rc_str_dict b u ho hc hd hu prog w E _ (wpAny_truthy_bool h))
end
end OpsM
end PySem
namespace Lay
open PySem PySem.Spec PyProof.Rows L2
/-! ### the kinds of any value -/
inductive Kn where
  | non | bool | int | str | list | tuple | dict
def Kn.name : Kn → String
  | .non => "NoneType"
  | .bool => "bool"
  | .int => "int"
  | .str => "str"
  | .list => "list"
  | .tuple => "tuple"
  | .dict => "dict"
/-- a value of the kind t is an instance of the class n -/
def isTy : Kn → Kn → Bool
  | .non, .non => true
  | .bool, .bool => true
  | .bool, .int => true
  | .int, .int => true
  | .str, .str => true
  | .list, .list => true
  | .tuple, .tuple => true
  | .dict, .dict => true
  | _, _ => false
theorem isTy_ok {K : PySem.W.Frag} (t n : Kn) : PySem.W.kitOne K (.type t.name) (.type n.name) = some (isTy t n) := by
  cases t <;> cases n <;> exact kit_ty (by decide +kernel)
inductive Kd (H : Hp) : V → Kn → Prop
  | non : Kd H .non .non
  | bl (b : Bool) : Kd H (.bl b) .bool
  | int (i : Int) : Kd H (.int i) .int
  | str (z : Str) : Kd H (.str z) .str
  | lst {a : Addr} {xs : List V} (h : H a = some (.lst xs)) : Kd H (.ref a) .list
  | tup {a : Addr} {xs : List V} (h : H a = some (.tup xs)) : Kd H (.ref a) .tuple
  | dK {a : Addr} {kvs : List (Key × V)} (h : H a = some (.dK kvs)) : Kd H (.ref a) .dict
theorem Kd.same {H H' : Hp} {v : V} {t : Kn} (s : ∀ b o, v = .ref b → H b = some o → H' b = some o) (k : Kd H v t) : Kd H' v t := by
  cases k with
  | non => exact .non
  | bl b => exact .bl b
  | int i => exact .int i
  | str z => exact .str z
  | lst h => exact .lst (s _ _ rfl h)
  | tup h => exact .tup (s _ _ rfl h)
  | dK h => exact .dK (s _ _ rfl h)
theorem Kd.mono {H H' : Hp} {v : V} {t : Kn} (s : Same H H') (k : Kd H v t) : Kd H' v t := k.same fun b o _ h => s b o h
theorem Kd.ty {K : PySem.W.Frag} {H : Hp} {v : V} {t : Kn} (k : Kd H v t) : TyX K H v (.type t.name) := by
  cases k with
  | non => exact .base .non
  | bl b => exact .base (.bl b)
  | int i => exact .base (.int i)
  | str z => exact .base (.str z)
  | lst h => exact .base (.lst h)
  | tup h => exact .base (.tup h)
  | dK h => exact .base (.dK h)
theorem rd_isi {K : PySem.W.Frag} {H : Hp} {Q : VK} {x : V} {t : Kn} (n : Kn) (k : Kd H x t) (q : Q (.bl (isTy t n)) H) : rIsi K [x, .ty n.name] H Q :=
  ⟨x, .ty n.name, .type t.name, .type n.name, isTy t n, rfl, .ty n.name, k.ty, isTy_ok t n, q⟩
/-! ### any value in a row of texts -/
def inStrs (x : V) (zs : List Str) : Bool := match x with | .str z => zs.contains z | _ => false
theorem memS {X : Cx} {pins : List (Addr × Obj)} {σ : L2.St} {H : Hp} {s : Shared} {A : Around} (I : Inv X pins σ H s) (hu : A.units < cLine) {x : V} {v : Value} {t : Kn} (rx : RelV x v) (k : Kd H x t) :
    ∀ (zs : List Str) (us : List Value), Vals (zs.map V.str) us → ∃ f : Value → Bool, us.any f = inStrs x zs ∧ ∀ u ∈ us, SeqAt.EqAt A s u v (f u) := by
  by_cases hx : ∃ z, x = .str z
  · obtain ⟨z, rfl⟩ := hx
    intro zs us r
    have fl : (zs.map V.str).all flatV = true := by
      rw [List.all_eq_true]
      intro y hy
      obtain ⟨w, _, rfl⟩ := List.mem_map.mp hy
      rfl
    refine ⟨eqU (.str z), ?_, fun u hu => mem_eqAt rx rfl r fl u hu⟩
    rw [any_eqU r fl]
    show ((zs.map V.str).any fun y => eqV y (.str z)) = zs.contains z
    clear r fl
    induction zs with
    | nil => rfl
    | cons a l ih =>
      rw [List.map_cons, List.any_cons, ih, List.contains_cons]
      congr 1
      show eqV (.str a) (.str z) = (z == a)
      by_cases h : a = z
      · subst h
        simp [eqV]
      · have h2 : ¬ z = a := fun y => h y.symm
        rw [show (z == a) = false from by simpa using h2]
        simp [eqV, h]
  · have no : ∀ zs, inStrs x zs = false := fun zs => by
      cases x with
      | str z => exact absurd ⟨z, rfl⟩ hx
      | _ => rfl
    have one : ∀ (z : Str) (u : Value), RelV (.str z) u → SeqAt.EqAt A s u v false := by
      intro z u ru
      obtain ⟨tk, rfl⟩ := ru
      cases k with
      | non => cases rx; exact SeqAt.EqAt.str_none z tk
      | bl b => cases rx; exact SeqAt.EqAt.str_bool z tk b
      | int i => obtain ⟨t', rfl⟩ := rx; exact SeqAt.EqAt.str_int z tk i t'
      | str y => exact absurd ⟨y, rfl⟩ hx
      | lst h =>
        cases rx
        obtain ⟨_, its, n, _, e⟩ := I.hok _ _ h
        exact SeqAt.EqAt.str_list z tk (items := its.toArray) ⟨_, e, rfl, _, rfl⟩ hu
      | tup h =>
        cases rx
        obtain ⟨_, its, _, e⟩ := I.hok _ _ h
        exact SeqAt.EqAt.str_tuple z tk (items := its.toArray) e hu
      | dK h =>
        cases rx
        obtain ⟨_, _, vs, _, o, es, ep, e, ex, hd, _⟩ := I.hok _ _ h
        exact OpsM.eq_str_dict z tk e ex.1 ⟨_, _, hd⟩ hu
    intro zs us r
    refine ⟨fun _ => false, by rw [no]; simp, ?_⟩
    induction zs generalizing us with
    | nil => cases r; exact fun u hu => nomatch hu
    | cons a l ih =>
      cases r with
      | cons r1 r2 =>
        intro u hm
        rcases List.mem_cons.mp hm with e | hm
        · subst e; exact one a _ r1
        · exact ih _ r2 u hm
def rInS (K : PySem.W.Frag) : R2 := fun x y H Q => ∃ (p : Addr) (zs : List Str) (t : Kn), y = .ref p ∧ (SqT K H p (zs.map V.str) ∨ SqL K H p (zs.map V.str)) ∧ Kd H x t ∧ Q (.bl (inStrs x zs)) H
def rNotInS (K : PySem.W.Frag) : R2 := fun x y H Q => ∃ (p : Addr) (zs : List Str) (t : Kn), y = .ref p ∧ (SqT K H p (zs.map V.str) ∨ SqL K H p (zs.map V.str)) ∧ Kd H x t ∧ Q (.bl (!inStrs x zs)) H
theorem op_inS {X : Cx} (hu : X.A.units + 64 < cLine) : OpR X (compareOp .In) (rInS X.K) := by
  intro pins s σ H x y v u Q I rx ry h
  obtain ⟨p, zs, t, rfl, hq, k, q⟩ := h
  cases ry
  have hu1 : X.A.in1.units < cLine := by show X.A.units + 1 < cLine; omega
  rcases hq with hq | hq
  · obtain ⟨its, r, pl, hz⟩ := I.tuple hq
    obtain ⟨f, e, m⟩ := memS I hu1 rx k _ _ r
    refine SeqAt.in_tupleAt f pl (fun w hw => m w (by simpa using hw)) ⟨.bl _, H, I, rfl, ?_⟩
    rw [show its.toArray.any f = its.any f by simp, e]
    exact q
  · obtain ⟨its, r, pl, hz⟩ := I.list hq
    obtain ⟨f, e, m⟩ := memS I hu1 rx k _ _ r
    refine SeqAt.in_listAt f pl.isList (fun w hw => m w (by simpa using hw)) ⟨.bl _, H, I, rfl, ?_⟩
    rw [show its.toArray.any f = its.any f by simp, e]
    exact q
theorem op_notInS {X : Cx} (hu : X.A.units + 64 < cLine) : OpR X (compareOp .NotIn) (rNotInS X.K) := by
  intro pins s σ H x y v u Q I rx ry h
  obtain ⟨p, zs, t, rfl, hq, k, q⟩ := h
  cases ry
  have hu1 : X.A.in1.units < cLine := by show X.A.units + 1 < cLine; omega
  rcases hq with hq | hq
  · obtain ⟨its, r, pl, hz⟩ := I.tuple hq
    obtain ⟨f, e, m⟩ := memS I hu1 rx k _ _ r
    refine SeqAt.notIn_tupleAt f pl (fun w hw => m w (by simpa using hw)) ⟨.bl _, H, I, rfl, ?_⟩
    rw [show its.toArray.any f = its.any f by simp, e]
    exact q
  · obtain ⟨its, r, pl, hz⟩ := I.list hq
    obtain ⟨f, e, m⟩ := memS I hu1 rx k _ _ r
    refine SeqAt.notIn_listAt f pl.isList (fun w hw => m w (by simpa using hw)) ⟨.bl _, H, I, rfl, ?_⟩
    rw [show its.toArray.any f = its.any f by simp, e]
    exact q
theorem rd_inS {K : PySem.W.Frag} {H : Hp} {Q : VK} {x : V} {p : Addr} {zs : List Str} {t : Kn} (h : SqT K H p (zs.map V.str)) (k : Kd H x t) (q : Q (.bl (inStrs x zs)) H) : rInS K x (.ref p) H Q := ⟨p, zs, t, rfl, .inl h, k, q⟩
theorem rd_inSL {K : PySem.W.Frag} {H : Hp} {Q : VK} {x : V} {p : Addr} {zs : List Str} {t : Kn} (h : SqL K H p (zs.map V.str)) (k : Kd H x t) (q : Q (.bl (inStrs x zs)) H) : rInS K x (.ref p) H Q := ⟨p, zs, t, rfl, .inr h, k, q⟩
theorem rd_notInS {K : PySem.W.Frag} {H : Hp} {Q : VK} {x : V} {p : Addr} {zs : List Str} {t : Kn} (h : SqT K H p (zs.map V.str)) (k : Kd H x t) (q : Q (.bl (!inStrs x zs)) H) : rNotInS K x (.ref p) H Q := ⟨p, zs, t, rfl, .inl h, k, q⟩
theorem rd_notInSL {K : PySem.W.Frag} {H : Hp} {Q : VK} {x : V} {p : Addr} {zs : List Str} {t : Kn} (h : SqL K H p (zs.map V.str)) (k : Kd H x t) (q : Q (.bl (!inStrs x zs)) H) : rNotInS K x (.ref p) H Q := ⟨p, zs, t, rfl, .inr h, k, q⟩
end Lay

namespace Lay
open PySem PySem.Spec PyProof.Rows L2
/-! ### comprehensions: D the new list, R what holds of what it has so far and of all else -/
def PvL (D : Addr) (R : Nat → List V → Hp → Prop) (i : Nat) (H : Hp) : Prop := ∃ l, H D = some (.lst l) ∧ l.length ≤ i ∧ R i l H
theorem lc_put {D : Addr} {R : Nat → List V → Hp → Prop} {i : Nat} {l : List V} {y : V} {H : Hp} (h : H D = some (.lst l)) (hl : l.length ≤ i) (hi : i < 100000) (r : R (i + 1) (l ++ [y]) (upd H D (.lst (l ++ [y])))) :
    ∃ acc, H D = some (.lst acc) ∧ acc.length < sizeLine ∧ PvL D R (i + 1) (upd H D (.lst (acc ++ [y]))) :=
  ⟨l, h, Nat.lt_of_le_of_lt hl (Nat.lt_of_lt_of_le hi (by decide)), l ++ [y], upd_same, by rw [List.length_append]; exact Nat.add_le_add_right hl 1, r⟩
theorem lc_skip {D : Addr} {R : Nat → List V → Hp → Prop} {i : Nat} {l : List V} {H : Hp} (h : H D = some (.lst l)) (hl : l.length ≤ i) (r : R (i + 1) l H) : PvL D R (i + 1) H := ⟨l, h, Nat.le_succ_of_le hl, r⟩
theorem lc_go {J : It} {n : Nat} {G : Hp → Prop} {Y : Nat → Hp → V → Hp → Prop} (w : Walk J n G Y) {g : TG} {tt : TT} {te : TE} {vs : List Nat} {σ : L2.St} {H1 : Hp} {D : Addr} {Qd : Hp → Prop}
    (R : Nat → List V → Hp → Prop) (h0 : R 0 [] (upd H1 D (.lst []))) (hG : ∀ i l H, i ≤ n → R i l H → G H)
    (hs : ∀ i l x H H', i < n → H D = some (.lst l) → l.length ≤ i → R i l H → Y i H x H' → g x (wipe σ vs) H' fun σ2 H2 => wipe σ2 vs = wipe σ vs ∧ tt σ2 H2 fun b H3 =>
      if b = true then te σ2 H3 fun y H4 => ∃ acc, H4 D = some (.lst acc) ∧ acc.length < sizeLine ∧ PvL D R (i + 1) (upd H4 D (.lst (acc ++ [y]))) else PvL D R (i + 1) H3)
    (hd : ∀ l H, H D = some (.lst l) → l.length ≤ n → R n l H → Qd H) :
    ∃ W : Nat → Nat → Hp → Prop, (∃ m, W 0 m (upd H1 D (.lst []))) ∧ ∀ i m H, W i m H →
      (J.stop i H ∧ Qd H) ∨ (J.go i H ∧ ∃ Nx : Hp → Prop, (∀ H', Nx H' → ∃ m', m' < m ∧ W (i + 1) m' H') ∧ ∀ x H', J.yld i H x H' → g x (wipe σ vs) H' fun σ2 H2 => wipe σ2 vs = wipe σ vs ∧ tt σ2 H2 fun b H3 =>
        if b = true then te σ2 H3 fun y H4 => ∃ acc, H4 D = some (.lst acc) ∧ acc.length < sizeLine ∧ Nx (upd H4 D (.lst (acc ++ [y]))) else Nx H3) :=
  lc_it w (PvL D R) ⟨[], upd_same, Nat.le_refl _, h0⟩ (fun i H hi ⟨l, _, _, r⟩ => hG i l H hi r) (fun i x H H' hi ⟨l, hl, hz, r⟩ y => hs i l x H H' hi hl hz r y) (fun H ⟨l, hl, hz, r⟩ => hd l H hl hz r)
section
variable {K : PySem.W.Frag} {σ : L2.St} {H : Hp} {Q : VK} {tA : TA} {te : TE} {R : It → Hp → Prop}
theorem rd_lc {wi : TI} {g : TG} {tt : TT} {vs : List Nat} (h : wi σ H fun J H1 => ∀ D, H1 D = none → ∃ W : Nat → Nat → Hp → Prop, (∃ m, W 0 m (upd H1 D (.lst []))) ∧ ∀ i m H, W i m H →
    (J.stop i H ∧ Q (.ref D) H) ∨ (J.go i H ∧ ∃ Nx : Hp → Prop, (∀ H', Nx H' → ∃ m', m' < m ∧ W (i + 1) m' H') ∧ ∀ x H', J.yld i H x H' → g x (wipe σ vs) H' fun σ2 H2 => wipe σ2 vs = wipe σ vs ∧ tt σ2 H2 fun b H3 =>
      if b = true then te σ2 H3 fun y H4 => ∃ acc, H4 D = some (.lst acc) ∧ acc.length < sizeLine ∧ Nx (upd H4 D (.lst (acc ++ [y]))) else Nx H3)) : tLc wi g tt te vs σ H Q := h
theorem rd_for {wi : TI} {g : TG} {tb : TS} {D : Ends} (h : wi σ H fun J H1 => ∃ W : Nat → Nat → L2.St → Hp → Prop, (∃ m, W 0 m σ H1) ∧ ∀ i m σ H, W i m σ H →
    (J.stop i H ∧ D.nx σ H) ∨ (J.go i H ∧ ∃ N : L2.St → Hp → Prop, (∀ σ' H', N σ' H' → ∃ m', m' < m ∧ W (i + 1) m' σ' H') ∧ ∀ x H', J.yld i H x H' → g x σ H' fun σ2 H2 => tb { D with nx := N, ct := N, bk := D.nx } σ2 H2)) : tFor wi g tb D σ H := h
theorem rd_iStr (h : te σ H fun x H1 => ∃ z, x = .str z ∧ R (Its z) H1) : iStr te σ H R := h
theorem rd_iList (h : te σ H fun x H1 => ∃ a, x = .ref a ∧ (∃ xs, SqL K H1 a xs) ∧ R (Itl K a) H1) : iList K te σ H R := h
theorem rd_iTup (h : te σ H fun x H1 => ∃ a, x = .ref a ∧ (∃ xs, SqT K H1 a xs) ∧ R (Itt K a) H1) : iTup K te σ H R := h
theorem rd_iRng1 (h : tA σ H fun vs H1 => ∃ j : Int, vs = [.int j] ∧ -(2 ^ 62) ≤ j ∧ j < 2 ^ 62 ∧ R (Itr 0 j.toNat) H1) : iRng1 tA σ H R := h
theorem rd_iEnumT (h : tA σ H fun vs H1 => ∃ a xs, vs = [.ref a] ∧ SqT K H1 a xs ∧ R (Itet K a) H1) : iEnumT K tA σ H R := h
theorem rd_yes {QT : Bool → Hp → Prop} (h : QT true H) : tYes H' H QT := h
def rSign : R2 := fun x y H Q => ∃ (c : Nat) (z : Str), x = .str ⟨#[c]⟩ ∧ y = .str z ∧ Q (.bl (decide (c ∈ z.cps.toList))) H
theorem op_sign {X : Cx} : OpR X (compareOp .In) rSign := op_in_sign
theorem rd_sign {H : Hp} {Q : VK} {c : Nat} {z : Str} (q : Q (.bl (decide (c ∈ z.cps.toList))) H) : rSign (.str ⟨#[c]⟩) (.str z) H Q := ⟨c, z, rfl, rfl, q⟩
theorem rd_in_sign {H : Hp} {Q : VK} {c : Nat} {z : Str} (q : Q (.bl (decide (c ∈ z.cps.toList))) H) : ∃ (c' : Nat) (z' : Str), V.str ⟨#[c]⟩ = V.str ⟨#[c']⟩ ∧ V.str z = V.str z' ∧ Q (.bl (decide (c' ∈ z'.cps.toList))) H := ⟨c, z, rfl, rfl, q⟩
theorem rd_lenV {H : Hp} {Q : VK} {z : Str} (h : z.length ≤ 100000) (q : Q (.int z.length) H) : rLenStr [.str z] H Q := ⟨z, rfl, Nat.le_trans h (by decide), q⟩
theorem rd_chain {r r' : R2} {ta tb tc : TE} (h : ta σ H fun x H1 => tb σ H1 fun y H2 => r x y H2 fun z H3 => ∃ k, z = .bl k ∧ (if k = true then tc σ H3 fun w' H4 => r' y w' H4 Q else Q (.bl false) H3)) : tChain r r' ta tb tc σ H Q := h
end

theorem rd_alls {K : PySem.W.Frag} {H : Hp} {Q : VK} {a : Addr} {bs : List Bool} (h : SqL K H a (bs.map V.bl)) (q : Q (.bl (bs.all id)) H) : rAll K [.ref a] H Q := ⟨a, bs, rfl, h, q⟩
theorem rd_anys {K : PySem.W.Frag} {H : Hp} {Q : VK} {a : Addr} {bs : List Bool} (h : SqL K H a (bs.map V.bl)) (q : Q (.bl (bs.any id)) H) : rAny K [.ref a] H Q := ⟨a, bs, rfl, h, q⟩
theorem take_succ {α : Type} {xs : List α} {i : Nat} {x : α} (h : xs[i]? = some x) : xs.take (i + 1) = xs.take i ++ [x] := by
  rw [List.take_add_one, h]; rfl
/-! ### names -/
def nameOk (z : Str) : Bool := decide (1 ≤ z.length) && decide (z.length ≤ 8) && z.cps.toList.all fun c => decide (97 ≤ c) && decide (c ≤ 122)
def isInt : V → Bool
  | .int _ => true
  | _ => false
def within (v : V) (lo hi : Int) : Bool := match v with
  | .int i => decide (lo ≤ i) && decide (i ≤ hi)
  | _ => false
def isName (v : V) : Bool := match v with
  | .str z => nameOk z
  | _ => false
def alphabet : Str := "abcdefghijklmnopqrstuvwxyz"
theorem in_alphabet (c : Nat) : decide (c ∈ alphabet.cps.toList) = (decide (97 ≤ c) && decide (c ≤ 122)) := by
  have e : alphabet.cps.toList = [97, 98, 99, 100, 101, 102, 103, 104, 105, 106, 107, 108, 109, 110, 111, 112, 113, 114, 115, 116, 117, 118, 119, 120, 121, 122] := by decide +kernel
  rw [e]
  by_cases h : 97 ≤ c ∧ c ≤ 122
  · rw [decide_eq_true h.1, decide_eq_true h.2]
    refine decide_eq_true ?_
    simp only [List.mem_cons, List.not_mem_nil, or_false]
    omega
  · have z : (decide (97 ≤ c) && decide (c ≤ 122)) = false := by
      rw [Bool.and_eq_false_iff]
      by_cases h1 : 97 ≤ c
      · right; exact decide_eq_false fun h2 => h ⟨h1, h2⟩
      · left; exact decide_eq_false h1
    rw [z]
    refine decide_eq_false ?_
    simp only [List.mem_cons, List.not_mem_nil, or_false]
    omega
def spIsInteger : Sp := fun vs H Q _ => ∃ v t, vs = [v] ∧ Kd H v t ∧ Q (.bl (isInt v)) H
def spIsWithin : Sp := fun vs H Q _ => ∃ v t lo hi, vs = [v, .int lo, .int hi] ∧ Kd H v t ∧ Q (.bl (within v lo hi)) H
def spIsName : Sp := fun vs H Q _ => ∃ v t, vs = [v] ∧ Kd H v t ∧ (∀ z, v = .str z → z.length ≤ 100000) ∧ ∀ H', Same H H' → Q (.bl (isName v)) H'
theorem rd_forW {J : It} {n : Nat} {G : Hp → Prop} {Y : Nat → Hp → V → Hp → Prop} {wi : TI} {g : TG} {tb : TS} {D : Ends} {σ : L2.St} {H H1 : Hp} (hw : ∀ R : It → Hp → Prop, R J H1 → wi σ H R) (w : Walk J n G Y) (Pv : Nat → L2.St → Hp → Prop) (h0 : Pv 0 σ H1)
    (hG : ∀ i σ H, i ≤ n → Pv i σ H → G H) (hs : ∀ i x σ H H', i < n → Pv i σ H → Y i H x H' → g x σ H' fun σ2 H2 => tb { D with nx := Pv (i + 1), ct := Pv (i + 1), bk := D.nx } σ2 H2) (hd : ∀ σ H, Pv n σ H → D.nx σ H) : tFor wi g tb D σ H :=
  hw _ (for_it w Pv h0 hG hs hd)
end Lay

namespace Lay
open PySem PySem.Spec PyProof.Rows L2
theorem ite_nb {b : Bool} {A B : Prop} (h1 : b = false → A) (h2 : b = true → B) : if (!b) = true then A else B := by
  cases b
  · exact iteT (h1 rfl)
  · exact iteF (h2 rfl)
theorem rd_gtup {K : PySem.W.Frag} {n : Nat} {t : TGs} {a : Addr} {xs : List V} {σ : L2.St} {H : Hp} {Q : L2.St → Hp → Prop} (h : SqT K H a xs) (hn : xs.length = n) (q : t xs σ H Q) : gTup K n t (.ref a) σ H Q := ⟨a, xs, rfl, h, hn, q⟩
theorem rd_gcons {t : TG} {u : TGs} {v : V} {r : List V} {σ : L2.St} {H : Hp} {Q : L2.St → Hp → Prop} (q : t v σ H fun σ' H' => u r σ' H' Q) : gCons t u (v :: r) σ H Q := ⟨v, r, rfl, q⟩
theorem rd_gnil {σ : L2.St} {H : Hp} {Q : L2.St → Hp → Prop} (q : Q σ H) : gNil [] σ H Q := ⟨rfl, q⟩
/-! ### steps -/
def memWords : List Str := ["read", "write", "get", "put", "clean", "drop", "flush"]
def sigWords : List Str := ["post", "wait"]
def GoodStep (ws : List Str) (l : List V) : Prop :=
  (∃ w n, l = [.str w, .str n] ∧ w ∈ sigWords ∧ w ∈ ws ∧ nameOk n = true) ∨
  (∃ w n s f e, l = [.str w, .str n, .int s, .int f, .int e] ∧ w ∈ memWords ∧ w ∈ ws ∧ nameOk n = true ∧ 0 ≤ s ∧ s ≤ 3 ∧ 0 ≤ f ∧ f ≤ e ∧ e ≤ 7)
def StepAt (H : Hp) (ws : List Str) (v : V) : Prop := ∃ p l, v = .ref p ∧ H p = some (.tup l) ∧ GoodStep ws l
theorem StepAt.mono {H H' : Hp} {ws : List Str} {v : V} (s : Same H H') (h : StepAt H ws v) : StepAt H' ws v := by
  obtain ⟨p, l, e, h, g⟩ := h
  exact ⟨p, l, e, s _ _ h, g⟩
theorem nameOk_len {z : Str} (h : nameOk z = true) : 1 ≤ z.length ∧ z.length ≤ 8 := by
  unfold nameOk at h
  rw [Bool.and_eq_true, Bool.and_eq_true] at h
  exact ⟨of_decide_eq_true h.1.1, of_decide_eq_true h.1.2⟩
def spMemStep : Sp := fun vs H Q _ => ∃ p w n s f e, vs = [.ref p] ∧ H p = some (.tup [.str w, .str n, .int s, .int f, .int e]) ∧ w ∈ memWords ∧ nameOk n = true ∧ 0 ≤ s ∧ s ≤ 3 ∧ 0 ≤ f ∧ f ≤ e ∧ e ≤ 7 ∧ ∀ H', Same H H' → Q (.bl true) H'
def spIsStep : Sp := fun vs H Q _ => ∃ p l ws, vs = [.ref p] ∧ H p = some (.tup l) ∧ GoodStep ws l ∧ ∀ H', Same H H' → Q (.bl true) H'
def spCheckAgent (K : PySem.W.Frag) : Sp := fun vs H Q _ => ∃ z t wt ws steps, vs = [.str z, .ref t, .ref wt] ∧ nameOk z = true ∧ H t = some (.tup steps) ∧ 1 ≤ steps.length ∧ steps.length ≤ 24 ∧ SqT K H wt (ws.map V.str) ∧
  (∀ s ∈ steps, StepAt H ws s) ∧ ∀ H', Same H H' → Q .non H'
theorem inStrs_of {w : Str} {zs : List Str} (h : w ∈ zs) : inStrs (.str w) zs = true := by
  show zs.contains w = true
  rw [List.contains_iff_mem]; exact h
theorem of_inStrs {w : Str} {zs : List Str} (h : inStrs (.str w) zs = false) : w ∉ zs := fun m => by
  rw [inStrs_of m] at h; cases h
end Lay
namespace Lay
open PySem PySem.Spec PyProof.Rows L2
section
variable {K : PySem.W.Frag} {σ : L2.St} {H : Hp} {D : Ends} {ta tv : TE} {f : Str}
theorem rd_sFld (h : tv σ H fun y H1 => ta σ H1 fun x H2 => ∃ a C dx fs, x = .ref a ∧ H2 a = some (.ins C dx fs) ∧ Cls K C ∧ NoAttr K C f ∧ fs.length < 1000 ∧ D.nx σ (upd H2 a (.ins C dx (putF f y fs)))) : sFld K ta tv f D σ H := h
theorem rd_tFld {Q : VK} (h : ta σ H fun x H1 => ∃ a C dx fs v, x = .ref a ∧ H1 a = some (.ins C dx fs) ∧ Cls K C ∧ NoAttr K C f ∧ fs.lookup f = some v ∧ Q v H1) : tFld K ta f σ H Q := h
theorem rd_tCon {Q : VK} (h : ta σ H fun x H1 => ∃ a C dx fs v u, x = .ref a ∧ H1 a = some (.ins C dx fs) ∧ Cls K C ∧ Con K C f v u ∧ fs.lookup f = none ∧ Q v H1) : tCon K ta f σ H Q := h
theorem rd_makeR {C : Addr} {sp : Sp} {E : XK} {t : TA} {Q : VK} (h : t σ H fun vs H1 => ∀ x dx, H1 x = none → H1 dx = none → dx ≠ x →
  sp (V.ref x :: vs) (upd (upd H1 dx (.own x)) x (.ins C dx [])) (fun v H2 => v = .non ∧ Q (.ref x) H2) E) : StX.tMakeR C sp E t σ H Q := h
theorem rd_cval {Q : VK} (h : ta σ H fun x H1 => ∃ C mc v u, x = .ref C ∧ ClX.CRead K C mc ∧ ClX.CVal K C mc f v u ∧ Q v H1) : ClX.tCVal K ta f σ H Q := h
theorem rd_meth {C : Addr} {m : Str} {sp : Sp} {dvs : List V} {E : XK} {t : TA} {Q : VK} (h : ta σ H fun x H1 => ∃ a dx fs, x = .ref a ∧ H1 a = some (.ins C dx fs) ∧ fs.lookup m = none ∧ t σ H1 fun vs H2 => sp (x :: (vs ++ dvs)) H2 Q E) : tMeth C m sp dvs E ta t σ H Q := h
end
/-- an agent's fields -/
def agentF (z : Str) (t : Addr) : List (Str × V) := [("name", .str z), ("steps", .ref t)]
theorem putF_agent (z : Str) (t : Addr) : putF "steps" (.ref t) (putF "name" (.str z) []) = agentF z t := by
  have h : ¬ (("name" : Str) = "steps") := by decide +kernel
  show (if ("name" : Str) = "steps" then _ else (("name" : Str), V.str z) :: putF "steps" (V.ref t) []) = _
  rw [if_neg h]
  rfl
/-- an agent of the class C, of the name z, with these steps -/
def AgentAt (C : Addr) (H : Hp) (a : Addr) (z : Str) (steps : List V) : Prop := ∃ dx t, H a = some (.ins C dx (agentF z t)) ∧ H t = some (.tup steps)
theorem AgentAt.mono {C : Addr} {H H' : Hp} {a : Addr} {z : Str} {steps : List V} (s : Same H H') (h : AgentAt C H a z steps) : AgentAt C H' a z steps := by
  obtain ⟨dx, t, h1, h2⟩ := h
  exact ⟨dx, t, s _ _ h1, s _ _ h2⟩
/-- __init__(self, name, *steps), the steps good ones -/
def spAgentInit (C : Addr) (ws : List Str) : Sp := fun vs H Q _ => ∃ x dx z t steps, vs = [.ref x, .str z, .ref t] ∧ H x = some (.ins C dx []) ∧ nameOk z = true ∧ H t = some (.tup steps) ∧ 1 ≤ steps.length ∧ steps.length ≤ 24 ∧ (∀ s ∈ steps, StepAt H ws s) ∧
  ∀ H', AgentAt C H' x z steps → Keep x H H' → Q .non H'
def spStar (n : Nat) (sp : Sp) : Sp := fun vs H Q E => ∃ ws rest, vs = ws ++ rest ∧ ws.length = n ∧ rest.length ≤ sizeLine ∧ ∀ p, H p = none → sp (ws ++ [V.ref p]) (upd H p (.tup rest)) Q E
end Lay

namespace Lay
open PySem PySem.Spec PyProof.Rows L2
def spMay (zs : List Str) : Sp := fun vs H Q _ => ∃ x v t, vs = [x, v] ∧ Kd H v t ∧ Q (.bl (inStrs v zs)) H
/-- a value of some kind is drawn from a pen of which at most n cells were begun; m cells are begun by it -/
def spAny (m : Nat) : Sp := fun vs H Q _ => ∃ (p : Addr) (n : Nat) (c : Addr), vs = [.ref p] ∧ PenAt c H p n ∧ n + m < 100000 ∧ ∀ v t H', Kd H' v t → PenAt c H' p (n + m) → Keep p H H' → Q v H'
theorem inStrs_same {v : V} {zs ys : List Str} (h : ∀ z, z ∈ zs ↔ z ∈ ys) : inStrs v zs = inStrs v ys := by
  cases v with
  | str z =>
    show zs.contains z = ys.contains z
    rw [Bool.eq_iff_iff, List.contains_iff_mem, List.contains_iff_mem]
    exact h z
  | _ => rfl
theorem PenAt.at_ {c : Addr} {H : Hp} {p : Addr} {n : Nat} (h : PenAt c H p n) : ∃ xs, H p = some (.lst xs) := by
  obtain ⟨ns, b, l, e, _⟩ := h
  exact ⟨_, e⟩
theorem PenAt.cell {c : Addr} {H : Hp} {p : Addr} {n : Nat} (h : PenAt c H p n) : ∃ xs, H c = some (.lst xs) := by
  obtain ⟨ns, b, l, _, e, _⟩ := h
  exact ⟨_, e⟩
theorem PenAt.other {c : Addr} {H : Hp} {p a : Addr} {o : HO} {n : Nat} (h : PenAt c H p n) (h1 : a ≠ p) (h2 : a ≠ c) : PenAt c (upd H a o) p n := by
  obtain ⟨ns, b, l, e1, e2, r⟩ := h
  exact ⟨ns, b, l, by rw [upd_ne h1.symm]; exact e1, by rw [upd_ne h2.symm]; exact e2, r⟩
theorem Same.keep {p : Addr} {H H1 H2 : Hp} (a : Same H H1) (b : Keep p H1 H2) : Keep p H H2 := fun c o n h => b c o n (a c o h)
theorem Keep.frz {p : Addr} {H H1 : Hp} (k : Keep p H H1) {b : Addr} {o : HO} (hb : b ≠ p) (h : H b = some o) : H1 b = some o := k b o hb h
theorem rd_disp {trs : List (TE × TE)} {σ : L2.St} {H : Hp} {Q : VK} (h : ∀ p, H p = none → tPairs trs σ (upd H p (.dK [])) fun ps H2 => H2 p = some (.dK []) ∧ ∃ kvs : List (Key × V), ps = kvs.map (fun kv => (kV kv.1, kv.2)) ∧ kvs.length ≤ 15 ∧ Q (.ref p) (upd H2 p (.dK (mergeK [] kvs)))) : tDisp trs σ H Q := h
theorem rd_dnew {σ : L2.St} {H : Hp} {Q : VK} (h : ∀ p, H p = none → Q (.ref p) (upd H p (.dK []))) : tDNewK σ H Q := h
theorem rd_pcons {tk tv : TE} {r : List (TE × TE)} {σ : L2.St} {H : Hp} {Q : List (V × V) → Hp → Prop} (h : tk σ H fun x H1 => tv σ H1 fun y H2 => tPairs r σ H2 fun ps H3 => Q ((x, y) :: ps) H3) : tPairs ((tk, tv) :: r) σ H Q := h
theorem rd_pnil {σ : L2.St} {H : Hp} {Q : List (V × V) → Hp → Prop} (h : Q [] H) : tPairs [] σ H Q := h
theorem rd_cat {l b : Addr} {xs zs : List V} {H : Hp} {Q : VK} (hl : H l = some (.lst xs)) (hb : H b = some (.lst zs)) (hz : xs.length + zs.length ≤ sizeLine) (q : ∀ p, H p = none → Q (.ref p) (upd H p (.lst (xs ++ zs)))) : rCat (.ref l) (.ref b) H Q := ⟨l, b, xs, zs, rfl, rfl, hl, hb, hz, q⟩
theorem none_of {H H' : Hp} {p : Addr} (s : Same H H') (h : H' p = none) : H p = none := by
  cases e : H p with
  | none => rfl
  | some o => rw [s _ _ e] at h; cases h
theorem cut63 {xs : List V} (h : xs.length ≤ 63) : cutV xs none (some 63) = xs := by
  have e : HT.sIx xs.length xs.length (some 63) = xs.length := by
    unfold HT.sIx
    dsimp only
    split <;> omega
  unfold cutV
  rw [e]
  show List.take (xs.length - 0) (List.drop 0 xs) = xs
  simp
theorem pen_at {H : Hp} {p l : Addr} {ns : List Int} (h1 : H p = some (.lst [.ref l, .int 0, .int 0])) (h2 : H l = some (.lst (ns.map V.int))) (h3 : ns.length ≤ 63) : PenAt l H p 0 := ⟨ns, 0, 0, h1, h2, h3, by decide, by decide, by decide⟩
/-- each value of a row is of some kind -/
def Kds (H : Hp) (xs : List V) : Prop := ∀ v ∈ xs, ∃ t, Kd H v t
theorem Kds.nil {H : Hp} : Kds H [] := fun v h => nomatch h
theorem Kds.cons {H : Hp} {x : V} {t : Kn} {xs : List V} (h : Kd H x t) (r : Kds H xs) : Kds H (x :: xs) := fun v m => by
  rcases List.mem_cons.mp m with e | m
  · subst e; exact ⟨t, h⟩
  · exact r v m
theorem upd2 {H : Hp} {p : Addr} {o u : HO} : upd (upd H p o) p u = upd H p u := by
  funext b
  by_cases e : b = p
  · subst e; rw [upd_same, upd_same]
  · rw [upd_ne e, upd_ne e, upd_ne e]
theorem rd_draw {p c : Addr} {m : Int} {n : Nat} {H0 H : Hp} {Q : VK} {E : XK} (h0 : PenAt c H0 p n) (s : Same H0 H) (hn : n < 100000) (hm : 0 < m) (hm2 : m < 1073741824) (q : ∀ (d : Int) (H' : Hp), 0 ≤ d → d < m → PenAt c H' p (n + 1) → Keep p H H' → Q (.int d) H') : spDraw [.ref p, .int m] H Q E := ⟨p, m, n, c, rfl, h0.mono s, hn, hm, hm2, q⟩
theorem ne_none {H : Hp} {a p : Addr} {o : HO} (h : H a = none) (h' : H p = some o) : a ≠ p := fun e => by
  subst e; rw [h] at h'; cases h'
theorem rd_ixK {K : PySem.W.Frag} {H : Hp} {Q : VK} {a : Addr} {xs : List V} {d : Int} (h : SqL K H a xs) (h0 : 0 ≤ d) (h1 : d < xs.length) (kd : Kds H xs) (q : ∀ v t, Kd H v t → Q v H) : rIxL K (.ref a) (.int d) H Q := by
  have hd : d.toNat < xs.length := by omega
  obtain ⟨t, k⟩ := kd xs[d.toNat] (List.getElem_mem hd)
  exact rd_ixL h (atI_int h0 (List.getElem?_eq_getElem hd)) (q _ t k)
/-- an agent: a name and steps, at a heap -/
def InsAt (C : Addr) (H : Hp) (a : Addr) : Prop := ∃ dx z t, H a = some (.ins C dx (agentF z t))
theorem InsAt.keep {C p : Addr} {H H' : Hp} {a : Addr} (h : InsAt C H a) (k : Keep p H H') (n : a ≠ p) : InsAt C H' a := by
  obtain ⟨dx, z, t, e⟩ := h
  exact ⟨dx, z, t, k _ _ n e⟩
theorem InsAt.mono {C : Addr} {H H' : Hp} {a : Addr} (h : InsAt C H a) (s : Same H H') : InsAt C H' a := by
  obtain ⟨dx, z, t, e⟩ := h
  exact ⟨dx, z, t, s _ _ e⟩
def spRight (C : Addr) (m : Int) : Sp := fun vs H Q _ => ∃ a v t, vs = [.ref a, .int m, v] ∧ InsAt C H a ∧ Kd H v t ∧ ∀ H', Same H H' → Q (.bl true) H'
def spFamily : Sp := fun vs H Q _ => ∃ (p : Addr) (n : Nat) (c : Addr), vs = [.ref p] ∧ PenAt c H p n ∧ n + 19 < 100000 ∧ ∀ H', PenAt c H' p (n + 19) → Keep p H H' → Q (.bl true) H'
theorem rd_isiV {K : PySem.W.Frag} {H : Hp} {Q : VK} {x : V} {t : Kn} (n : Kn) (b : Bool) (k : Kd H x t) (e : isTy t n = b) (q : Q (.bl b) H) : rIsi K [x, .ty n.name] H Q := rd_isi n k (by rw [e]; exact q)
theorem rd_meth1 {C a dx : Addr} {m : Str} {sp : Sp} {E : XK} {t : TA} {ta : TE} {fs : List (Str × V)} {σ : L2.St} {H H1 : Hp} {Q : VK} (ha : ∀ Q' : VK, Q' (.ref a) H1 → ta σ H Q') (h : H1 a = some (.ins C dx fs)) (hl : fs.lookup m = none) (q : t σ H1 fun vs H2 => sp (.ref a :: vs) H2 Q E) : tMeth C m sp [] E ta t σ H Q :=
  ha _ ⟨a, dx, fs, rfl, h, hl, by simpa using q⟩
theorem q_true {Q : VK} {b : Bool} {H : Hp} (e : b = true) (q : Q (.bl true) H) : Q (.bl b) H := by rw [e]; exact q
theorem same_words (v : V) : (inStrs v ["read", "write", "get", "put", "clean", "drop", "flush", "post", "wait"] == inStrs v ["read", "write", "post", "wait", "clean", "drop", "flush", "get", "put"]) = true := by
  rw [inStrs_same (ys := ["read", "write", "post", "wait", "clean", "drop", "flush", "get", "put"]) (fun z => by
    simp only [List.mem_cons, List.not_mem_nil, or_false]
    constructor
    · rintro (h | h | h | h | h | h | h | h | h) <;> simp [h]
    · rintro (h | h | h | h | h | h | h | h | h) <;> simp [h])]
  exact beq_self_eq_true _
theorem kit_own {K : PySem.W.Frag} {C D : Addr} {b : Bool} (h1 : PySem.W.mroIn K D (.type "object") = some true) (h2 : PySem.W.typeIn K (.ref D) = some (.type "type")) (h4 : PySem.W.subIn K (.ref D) (.ref D) = some true) (h3 : PySem.W.subIn K (.ref C) (.ref D) = some b) : PySem.W.kitOne K (.ref C) (.ref D) = some b := by
  unfold PySem.W.kitOne
  by_cases e : C = D
  · subst e
    rw [h4] at h3
    cases h3
    exact if_pos (beq_self_eq_true _)
  · rw [if_neg (fun z => e (by injection eq_of_beq z))]
    unfold PySem.W.kitCls
    have h5 : (PySem.W.clsIn K D).isSome = true := by
      unfold PySem.W.mroIn at h1
      cases hh : PySem.W.clsIn K D with
      | none => rw [hh] at h1; cases h1
      | some _ => rfl
    dsimp only
    rw [h5, h2]
    exact h3
theorem rd_isiC {K : PySem.W.Frag} {H : Hp} {Q : VK} {x : V} {t : Value} {D : Addr} {b : Bool} (hx : TyX K H x t) (h : PySem.W.kitOne K t (.ref D) = some b) (q : Q (.bl b) H) : rIsi K [x, .ref D] H Q :=
  ⟨x, .ref D, t, .ref D, b, rfl, .own D, hx, h, q⟩
end Lay
namespace Lay
open PySem PySem.Spec PyProof.Rows L2
theorem mk_agent {C : Addr} {ws : List Str} {H : Hp} {z : Str} {t0 : Addr} {Q : Addr → Hp → Prop} {E : XK} (hz : nameOk z = true) (h0 : H t0 = some (.tup [.str "post", .str "s"])) (hw : Str.ofString "post" ∈ ws) (q : ∀ x H', H x = none → Same H H' → InsAt C H' x → Q x H') :
    ∀ x dx, H x = none → H dx = none → dx ≠ x → spStar 2 (spAgentInit C ws) [.ref x, .str z, .ref t0] (upd (upd H dx (.own x)) x (.ins C dx [])) (fun v H2 => v = .non ∧ Q x H2) E := by
  intro x dx hx hd hne
  have s1 : Same H (upd (upd H dx (.own x)) x (.ins C dx [])) := Lay.Same.upd' (Same.upd hd) (by rw [upd_ne hne.symm]; exact hx)
  refine ⟨[.ref x, .str z], [.ref t0], rfl, rfl, (by show 1 ≤ sizeLine; decide), fun p hp => ?_⟩
  have s2 := Lay.Same.upd' (o := .tup [.ref t0]) s1 hp
  refine ⟨x, dx, z, p, [.ref t0], rfl, upd_old hp upd_same, hz, upd_same, (by show 1 ≤ 1; decide), (by show 1 ≤ 24; decide), ?_, ?_⟩
  · intro s m
    rw [List.mem_singleton] at m
    subst m
    exact ⟨t0, _, rfl, s2 _ _ h0, .inl ⟨_, _, rfl, (by decide), hw, (by decide +kernel)⟩⟩
  · rintro H' ⟨dx', t, e1, e2⟩ keep
    refine ⟨rfl, q x H' hx (fun b o e => keep b o (fun y => by subst y; rw [hx] at e; cases e) (s2 _ _ e)) ⟨dx', z, t, e1⟩⟩
theorem iteNT {A B : Prop} (h : B) : if (!true) = true then A else B := h
theorem iteNF {A B : Prop} (h : A) : if (!false) = true then A else B := h
theorem dma_ok {d : Int} (h0 : 0 ≤ d) (h1 : d < 3) : nameOk (cutS "dma" none (some (1 + d))) = true := by
  obtain rfl | rfl | rfl : d = 0 ∨ d = 1 ∨ d = 2 := by omega
  all_goals decide +kernel
theorem dp_ne {K : PySem.W.Frag} {H : Hp} {Q : VK} {x y : V} (d e : PyData) (hx : Dp K H x d) (hy : Dp K H y e) (h1 : SeqAt.shaped d = true) (h2 : SeqAt.shaped e = true) (h3 : PyData.eqv d e = true) (q : Q (.bl false) H) : rNeD K x y H Q := ⟨d, e, hx, hy, h1, h2, by rw [h3]; exact q⟩
end Lay

namespace OwnC
open PySem L2 PySem.Spec PyProof.Rows
/-- the type of a value, as == asks it -/
inductive KTy (K : PySem.W.Frag) (H : Hp) : V → Value → Prop
  | non : KTy K H .non (.type "NoneType")
  | bl (b : Bool) : KTy K H (.bl b) (.type "bool")
  | int (i : Int) : KTy K H (.int i) (.type "int")
  | str (z : Str) : KTy K H (.str z) (.type "str")
  | tup {a : Addr} {xs : List V} (h : SqT K H a xs) : KTy K H (.ref a) (.type "tuple")
  | lst {a : Addr} {xs : List V} (h : SqL K H a xs) : KTy K H (.ref a) (.type "list")
  | ins {a C dx : Addr} {fs : List (Str × V)} (h : H a = some (.ins C dx fs)) : KTy K H (.ref a) (.ref C)
section
variable {X : Cx} {H : Hp} {s : Shared} {σ : L2.St} {pins : List (Addr × Obj)}
theorem looks_ty {y : V} {v T : Value} (I : Inv X pins σ H s) (r : RelV y v) (k : KTy X.K H y T) {M : Model} : PySem.W.Looks M s.heap (typeOf v) T := by
  cases k with
  | non => cases r; exact PySem.W.Looks.of_pure rfl
  | bl b => cases r; exact PySem.W.Looks.of_pure rfl
  | int i => obtain ⟨t, rfl⟩ := r; exact PySem.W.Looks.of_pure rfl
  | str z => obtain ⟨t, rfl⟩ := r; exact PySem.W.Looks.of_pure rfl
  | tup h =>
    cases r
    obtain ⟨its, _, pl, _⟩ := I.tuple h
    obtain ⟨o, h1, h2, _⟩ := id pl
    exact h2 ▸ (PySem.W.Looks.ld h1).andThen .now
  | lst h =>
    cases r
    obtain ⟨its, _, pl, _⟩ := I.list h
    obtain ⟨o, h1, h2, _⟩ := pl.isList
    exact h2 ▸ (PySem.W.Looks.ld h1).andThen .now
  | ins h =>
    cases r
    obtain ⟨_, J, _⟩ := ins_get I.hok h
    obtain ⟨_, J, _⟩ := J.look
    exact J.type
variable {CX : CXT} {n : Nat} {f C : Addr} {fd : FuncData} {ps : List Str} {sp : Sp} {E : XK}
/-- a def of two parameters is called -/
theorem call_two {A : Around} {Q : VK} {x y : V} {u v : Value} (F : FnOk X.prog X.w X.K X.mg X.base CX n f fd ps sp) (hb : Binds X.K fd ps []) (hx : Passes CX X E) (I : Inv X pins σ H s) (hr : Room n A)
    (e0 : Env0 X.prog X.w X.K X.mg X.base A X.stack s H) (rx : RelV x u) (ry : RelV y v) (q : sp [x, y] H Q E) : wpAny (model X.prog X.w) A (call (.ref f) [u, v]) (EP X pins σ Q) X.xe s := by
  have hl : [x, y].length = ps.length := F.len _ _ _ _ q
  refine wpAny_call (codeAny_mono (F.run A X.stack s H ⟨[u, v], []⟩ [u, v] [x, y] Q E hr e0 ?_ (.cons rx (.cons ry .nil)) q) fun r s2 hq => ?_)
  · have := hb s [u, v] I.kIn (by simpa using hl)
    simpa using this
  · cases r with
    | error e => exact hx pins σ H s e s2 I hq
    | ok fl =>
      cases fl with
      | ret w' => exact I.after hq
      | _ => exact False.elim hq
end
def rOwn (K : PySem.W.Frag) (C : Addr) (sp : Sp) (E : XK) : R2 := fun x y H Q => ∃ a dx fs T, x = .ref a ∧ H a = some (.ins C dx fs) ∧ KTy K H y T ∧ PySem.W.notFirst K C T = true ∧ sp [x, y] H Q E
section
variable {X : Cx} {CX : CXT} {n : Nat} {f C : Addr} {fd : FuncData} {ps : List Str} {sp : Sp} {E : XK}
theorem op_cmp {op : CmpOp} (hop : ∀ a b, compareOp op a b = richCompare op a b) (F : FnOk X.prog X.w X.K X.mg X.base CX n f fd ps sp) (hb : Binds X.K fd ps []) (hs : PySem.W.findIn X.K (.ref C) (cmpInfo op).2.1 = some (some (.ref f))) (hf : PySem.W.isFn X.K (.ref f) = true)
    (hx : Passes CX X E) (hr : Room n X.A) : OpR X (compareOp op) (rOwn X.K C sp E) := by
  intro pn s st H x y v u Q I rx ry told
  obtain ⟨a, dx, fs, T, rfl, ha, k, hn, q⟩ := told
  have ev : v = Value.ref a := rx
  subst ev
  obtain ⟨m1, J, _⟩ := ins_get I.hok ha
  obtain ⟨od, J, _⟩ := J.look
  obtain ⟨m, hF⟩ := I.fr
  rw [hop]
  refine PySem.W.cmp_K (op := op) (tb := T) hr.units0 hF I.ok.mod.kin J (looks_ty I ry k) hn hs hf ?_
  refine wpAny_mono (call_two F hb hx I hr I.env0 rx ry q) (fun r s' z => ?_) fun _ _ e => e
  obtain ⟨z2, H2, I2, rz, qz⟩ := z
  exact SlX.cmpback rz ⟨z2, H2, I2, rz, qz⟩
theorem op_eqI (F : FnOk X.prog X.w X.K X.mg X.base CX n f fd ps sp) (hb : Binds X.K fd ps []) (hs : PySem.W.findIn X.K (.ref C) "__eq__" = some (some (.ref f))) (hf : PySem.W.isFn X.K (.ref f) = true)
    (hr : Room n X.A) (hx : Passes CX X E) : OpR X (compareOp .Eq) (rOwn X.K C sp E) := op_cmp (fun _ _ => rfl) F hb hs hf hx hr
end
/-! ### != by an own == -/
section
variable {prog : Program} {w : World} {A : Around} {E : Value → Shared → Prop} {s : Shared} {K : PySem.W.Frag} {x C L f : Addr} {ox : Obj} {od : Option Obj} {b tb : Value} {h₀ : Heap} {m : Str → Option Value}
theorem entry_ne (hu : A.units < cLine) (X : K.In s.heap) (I : PySem.W.InstAt s.heap x ox C od) (hs : PySem.W.findIn K (.ref C) "__eq__" = some (some (.ref f))) (hf : PySem.W.isFn K (.ref f) = true) {Q : Fin → Shared → Prop}
    (h : wpAny (model prog w) A (call (.ref f) [.ref x, b]) (fun v s' => ∃ r, v = .bool r ∧ Q (.done (.ret (.bool (!r)))) s') E s) : wpAny (model prog w) A (Builtin.«object.__ne__» ⟨[.ref x, b], []⟩) Q E s := by
  delta Builtin.«object.__ne__»; repeat (first
    | (with_reducible refine wpAny_cRoomFor hu ?_)
    | (refine wpAny_bind (m := callSpecialIfBound? (.ref x) (Str.ofString "__eq__") [b]) (PySem.W.ifBound_K X I hs hf (wpAny_mono h (fun r s' hr => ?_) fun _ _ e => e))
       obtain ⟨q, rfl, hq⟩ := hr
       repeat (first | exact hq | exact wpAny_pure hq | exact wpAny_truthy_bool hq | (refine wpAny_bind (m := truthy (.bool _)) (wpAny_truthy_bool ?_)) | wp_step))
    | wp_step)
theorem call_ne {Q : Value → Shared → Prop} (hu : A.units + 1 < cLine) (X : K.In s.heap) (I : PySem.W.InstAt s.heap x ox C od) (hm : PySem.W.mroIn K C (.type "object") = some true) (hs : PySem.W.findIn K (.ref C) "__eq__" = some (some (.ref f))) (hf : PySem.W.isFn K (.ref f) = true)
    (h : wpAny (model prog w) A.in1 (call (.ref f) [.ref x, b]) (fun v s' => ∃ r, v = .bool r ∧ Q (.bool (!r)) s') E s) : wpAny (model prog w) A (call (.builtin "object.__ne__") [.ref x, b]) Q E s := by
  refine wpAny_call (codeAny_call_builtin F.cmp_object.ne.plain F.cmpEntry_ne (PySem.W.check_slot F.cmpKind_ne F.cmpSplit_ne (I.type.andThen (PySem.W.looks_mroIn X hm)) (F.cmpArgs_ne _ _) ?_))
  exact entry_ne (A := A.in1) hu X I hs hf (wpAny_mono h (fun v s' z => z) fun _ _ e => e)
theorem bound_ne {M : Model} {args : List Value} {Q : Option Value → Shared → Prop} (X : K.In s.heap) (I : PySem.W.InstAt s.heap x ox C od) (hs : PySem.W.findIn K (.ref C) "__ne__" = some (some (.builtin "object.__ne__")))
    (h : wpAny M A (call (.builtin "object.__ne__") (.ref x :: args)) (fun v => Q (some v)) E s) : wpAny M A (callSpecialIfBound? (.ref x) "__ne__" args) Q E s := by
  have fin : wpAny M A (call (.builtin "object.__ne__") ([.ref x] ++ args) >>= fun v => pure (some v)) Q E s := wpAny_bind (wpAny_mono h (fun v s' q => wpAny_pure q) fun _ _ q => q)
  simp only [bindSpecialIfBound?, callSpecialIfBound?]
  have see := PySem.W.looks_findIn (M := M) X hs
  refine wpAny_holding (wpAny_bind (wpAny_bind (wpAny_bind (I.type.here (see.here (wpAny_bind (wpAny_askSetting (wpAny_ite ?_))))))))
  split
  · exact wpAny_bind (wpAny_of_eq (F.cmp_object.ne.bind _) (wpAny_pure (by exact fin)))
  · exact wpAny_tryCatch (wpAny_bind (wpAny_of_eq (F.cmp_object.ne.bind _) (wpAny_pure (by exact fin))))
theorem ne_own {Q : Value → Shared → Prop} (hu : A.units + 1 < cLine) (Fr' : PyProof.Rows.Fr h₀ L s.heap m) (X₀ : K.In h₀) (I : PySem.W.InstAt s.heap x ox C od) (hb : PySem.W.Looks (model prog w) s.heap (typeOf b) tb) (hn : PySem.W.notFirst K C tb = true)
    (hm : PySem.W.mroIn K C (.type "object") = some true) (hne : PySem.W.findIn K (.ref C) "__ne__" = some (some (.builtin "object.__ne__"))) (hs : PySem.W.findIn K (.ref C) "__eq__" = some (some (.ref f))) (hf : PySem.W.isFn K (.ref f) = true)
    (h : wpAny (model prog w) A.in1 (call (.ref f) [.ref x, b]) (fun v s' => ∃ r, v = .bool r ∧ Q (.bool (!r)) s') E s) : wpAny (model prog w) A (richCompare .NotEq (.ref x) b) Q E s := by
  have X := X₀.keeps Fr'.keep
  have one : wpAny (model prog w) A (tryCompare (.ref x) "__ne__" b) (fun r s' => ∃ v, r = some (.bool v) ∧ Q (.bool v) s') E s := by
    unfold tryCompare
    refine wpAny_bind (bound_ne X I hne (call_ne hu X I hm hs hf (wpAny_mono h (fun v s' z => ?_) fun _ _ e => e)))
    obtain ⟨r, rfl, q⟩ := z
    exact ⟨r, rfl, wpAny_pure ⟨_, rfl, q⟩⟩
  unfold richCompare
  simp only [oneThing_ref]
  refine wpAny_holding (wpAny_bind (wpAny_cRoomFor (by omega) ?_))
  rw [cmpInfo_NotEq]
  dsimp only
  refine wpAny_bind (I.type.here ?_)
  refine wpAny_bind (hb.here ?_)
  split
  · rename_i uneq
    have below : PySem.W.subIn K tb (.ref C) = some false := by
      have two := Bool.or_eq_true_iff.mp hn
      refine two.elim (fun e => ?_) (fun e => beq_iff_eq.mp e)
      rw [beq_iff_eq.mp e] at uneq
      simp at uneq
    refine wpAny_bind ((PySem.W.looks_subIn X below).here ?_)
    simp only [if_false, Bool.false_eq_true]
    refine wpAny_bind (m := tryCompare (.ref x) _ b) (wpAny_mono one (fun r s' z => ?_) fun _ _ e => e)
    obtain ⟨v, rfl, hq⟩ := z
    exact wpAny_pure hq
  · refine wpAny_bind ?_
    refine wpAny_pure ?_
    simp only [if_false, Bool.false_eq_true]
    refine wpAny_bind (m := tryCompare (.ref x) _ b) (wpAny_mono one (fun r s' z => ?_) fun _ _ e => e)
    obtain ⟨v, rfl, hq⟩ := z
    exact wpAny_pure hq
end
/-- x != y by the own ==: what it tells is turned round -/
def rNeOwn (K : PySem.W.Frag) (C : Addr) (sp : Sp) (E : XK) : R2 := fun x y H Q => ∃ a dx fs T, x = .ref a ∧ H a = some (.ins C dx fs) ∧ KTy K H y T ∧ PySem.W.notFirst K C T = true ∧ sp [x, y] H (fun v H' => ∃ b, v = .bl b ∧ Q (.bl (!b)) H') E
section
variable {X : Cx} {CX : CXT} {n : Nat} {f C : Addr} {fd : FuncData} {ps : List Str} {sp : Sp} {E : XK}
theorem op_neI (F : FnOk X.prog X.w X.K X.mg X.base CX n f fd ps sp) (hb : Binds X.K fd ps []) (hs : PySem.W.findIn X.K (.ref C) "__eq__" = some (some (.ref f))) (hf : PySem.W.isFn X.K (.ref f) = true)
    (hm : PySem.W.mroIn X.K C (.type "object") = some true) (hne : PySem.W.findIn X.K (.ref C) "__ne__" = some (some (.builtin "object.__ne__")))
    (hr : Room (n + 1) X.A) (hx : Passes CX X E) : OpR X (compareOp .NotEq) (rNeOwn X.K C sp E) := by
  intro pn s st H x y v u Q I rx ry told
  obtain ⟨a, dx, fs, T, rfl, ha, k, hn, q⟩ := told
  have ev : v = Value.ref a := rx
  subst ev
  obtain ⟨m1, J, _⟩ := ins_get I.hok ha
  obtain ⟨od, J, _⟩ := J.look
  obtain ⟨m, hF⟩ := I.fr
  show wpAny (model X.prog X.w) X.A (richCompare .NotEq (.ref a) u) (EP X pn st Q) X.xe s
  refine ne_own (tb := T) hr.in1.units0 hF I.ok.mod.kin J (looks_ty I ry k) hn hm hne hs hf ?_
  refine wpAny_mono (call_two F hb hx I hr.in1 I.env0.in1 rx ry q) (fun r s' z => ?_) fun _ _ e => e
  obtain ⟨z', H', I', rz, b, rfl, qz⟩ := z
  cases rz
  exact ⟨b, rfl, ⟨.bl _, H', I', rfl, qz⟩⟩
end
end OwnC

namespace OwnC
open PySem L2 PySem.Spec PyProof.Rows
/-- the class C has under a name a def that keeps a promise -/
structure OwnM (X : Cx) (CX : CXT) (n : Nat) (C : Addr) (name : Str) (sp : Sp) (E : XK) : Prop where
  ok : ∃ (f : Addr) (fd : FuncData) (ps : List Str), FnOk X.prog X.w X.K X.mg X.base CX n f fd ps sp ∧ Binds X.K fd ps [] ∧ PySem.W.findIn X.K (.ref C) name = some (some (.ref f)) ∧ PySem.W.isFn X.K (.ref f) = true
  out : Passes CX X E
/-- what object gives of != -/
structure NeC (K : PySem.W.Frag) (C : Addr) : Prop where
  mro : PySem.W.mroIn K C (.type "object") = some true
  ne : PySem.W.findIn K (.ref C) "__ne__" = some (some (.builtin "object.__ne__"))
section
variable {X : Cx} {pins : List (Addr × Obj)} {σ : L2.St} {H : Hp} {s : Shared}
theorem call_own2 {CX : CXT} {n : Nat} {C : Addr} {name : Str} {sp : Sp} {E : XK} {A : Around} {Q : VK} {x y : V} {u v : Value} (o : OwnM X CX n C name sp E) (I : Inv X pins σ H s) (hr : Room n A)
    (e0 : Env0 X.prog X.w X.K X.mg X.base A X.stack s H) (rx : RelV x u) (ry : RelV y v) (q : sp [x, y] H Q E) : ∃ f, PySem.W.findIn X.K (.ref C) name = some (some (.ref f)) ∧ PySem.W.isFn X.K (.ref f) = true ∧ wpAny (model X.prog X.w) A (call (.ref f) [u, v]) (EP X pins σ Q) X.xe s := by
  obtain ⟨f, fd, ps, F, hb, hs, hf⟩ := o.ok
  exact ⟨f, hs, hf, call_two F hb o.out I hr e0 rx ry q⟩
theorem call_own1 {CX : CXT} {n : Nat} {C : Addr} {name : Str} {sp : Sp} {E : XK} {A : Around} {Q : VK} {x : V} {u : Value} (o : OwnM X CX n C name sp E) (I : Inv X pins σ H s) (hr : Room n A)
    (e0 : Env0 X.prog X.w X.K X.mg X.base A X.stack s H) (rx : RelV x u) (q : sp [x] H Q E) : ∃ f, PySem.W.findIn X.K (.ref C) name = some (some (.ref f)) ∧ PySem.W.isFn X.K (.ref f) = true ∧ wpAny (model X.prog X.w) A (call (.ref f) [u]) (EP X pins σ Q) X.xe s := by
  obtain ⟨f, fd, ps, F, hb, hs, hf⟩ := o.ok
  have hl : [x].length = ps.length := F.len _ _ _ _ q
  refine ⟨f, hs, hf, wpAny_call (codeAny_mono (F.run A X.stack s H ⟨[u], []⟩ [u] [x] Q E hr e0 ?_ (.cons rx .nil) q) fun r s2 hq => ?_)⟩
  · have := hb s [u] I.kIn (by simpa using hl)
    simpa using this
  · cases r with
    | error e => exact o.out pins σ H s e s2 I hq
    | ok fl =>
      cases fl with
      | ret w' => exact I.after hq
      | _ => exact False.elim hq
end
/-! ### the one of the lower class is asked first -/
section
variable {prog : Program} {w : World} {A : Around} {E : Value → Shared → Prop} {s : Shared} {K : PySem.W.Frag} {x y C D L f : Addr} {ox oy : Obj} {od od2 : Option Obj} {h₀ : Heap} {m : Str → Option Value}
theorem eq_below {Q : Value → Shared → Prop} (hu : A.units < cLine) (Fr' : PyProof.Rows.Fr h₀ L s.heap m) (X₀ : K.In h₀) (I : PySem.W.InstAt s.heap x ox C od) (J : PySem.W.InstAt s.heap y oy D od2) (hCD : D ≠ C) (hb : PySem.W.subIn K (.ref D) (.ref C) = some true)
    (hs : PySem.W.findIn K (.ref D) "__eq__" = some (some (.ref f))) (hf : PySem.W.isFn K (.ref f) = true)
    (h : wpAny (model prog w) A (call (.ref f) [.ref y, .ref x]) (fun v s' => ∃ r, v = .bool r ∧ Q (.bool r) s') E s) : wpAny (model prog w) A (richCompare .Eq (.ref x) (.ref y)) Q E s := by
  have X := X₀.keeps Fr'.keep
  have one : wpAny (model prog w) A (tryCompare (.ref y) "__eq__" (.ref x)) (fun r s' => ∃ v, r = some (.bool v) ∧ Q (.bool v) s') E s := by
    unfold tryCompare
    refine wpAny_bind (PySem.W.ifBound_K X J hs hf (wpAny_mono h (fun v s' z => ?_) fun _ _ e => e))
    obtain ⟨r, rfl, q⟩ := z
    exact wpAny_pure ⟨_, rfl, q⟩
  unfold richCompare
  simp only [oneThing_ref]
  refine wpAny_holding (wpAny_bind (wpAny_cRoomFor hu ?_))
  rw [cmpInfo_Eq]
  dsimp only
  refine wpAny_bind (I.type.here (wpAny_bind (J.type.here ?_)))
  have hne : (Value.ref C != Value.ref D) = true := by
    rw [bne_iff_ne]
    intro z
    injection z with z
    exact hCD z.symm
  rw [hne]
  simp only [if_true]
  refine wpAny_bind ((PySem.W.looks_subIn X hb).here ?_)
  simp only [if_true]
  refine wpAny_bind (m := tryCompare (.ref y) _ (.ref x)) (wpAny_mono one (fun r s' z => ?_) fun _ _ e => e)
  obtain ⟨v, rfl, hq⟩ := z
  exact wpAny_bind (wpAny_rule (wpAny_pure hq))
theorem ne_below {Q : Value → Shared → Prop} (hu : A.units + 1 < cLine) (Fr' : PyProof.Rows.Fr h₀ L s.heap m) (X₀ : K.In h₀) (I : PySem.W.InstAt s.heap x ox C od) (J : PySem.W.InstAt s.heap y oy D od2) (hCD : D ≠ C) (hb : PySem.W.subIn K (.ref D) (.ref C) = some true)
    (hm : NeC K D) (hs : PySem.W.findIn K (.ref D) "__eq__" = some (some (.ref f))) (hf : PySem.W.isFn K (.ref f) = true)
    (h : wpAny (model prog w) A.in1 (call (.ref f) [.ref y, .ref x]) (fun v s' => ∃ r, v = .bool r ∧ Q (.bool (!r)) s') E s) : wpAny (model prog w) A (richCompare .NotEq (.ref x) (.ref y)) Q E s := by
  have X := X₀.keeps Fr'.keep
  have one : wpAny (model prog w) A (tryCompare (.ref y) "__ne__" (.ref x)) (fun r s' => ∃ v, r = some (.bool v) ∧ Q (.bool v) s') E s := by
    unfold tryCompare
    refine wpAny_bind (bound_ne X J hm.ne (call_ne hu X J hm.mro hs hf (wpAny_mono h (fun v s' z => ?_) fun _ _ e => e)))
    obtain ⟨r, rfl, q⟩ := z
    exact ⟨r, rfl, wpAny_pure ⟨_, rfl, q⟩⟩
  unfold richCompare
  simp only [oneThing_ref]
  refine wpAny_holding (wpAny_bind (wpAny_cRoomFor (by omega) ?_))
  rw [cmpInfo_NotEq]
  dsimp only
  refine wpAny_bind (I.type.here (wpAny_bind (J.type.here ?_)))
  have hne : (Value.ref C != Value.ref D) = true := by
    rw [bne_iff_ne]
    intro z
    injection z with z
    exact hCD z.symm
  rw [hne]
  simp only [if_true]
  refine wpAny_bind ((PySem.W.looks_subIn X hb).here ?_)
  simp only [if_true]
  refine wpAny_bind (m := tryCompare (.ref y) _ (.ref x)) (wpAny_mono one (fun r s' z => ?_) fun _ _ e => e)
  obtain ⟨v, rfl, hq⟩ := z
  exact wpAny_bind (wpAny_rule (wpAny_pure hq))
end
/-- x == y, x an instance with an own ==, y of no class below; or y of a class below, with an own == -/
def rEqF (X : Cx) : R2 := fun x y H Q =>
  (∃ a C dx fs T CX n sp E, x = .ref a ∧ H a = some (.ins C dx fs) ∧ KTy X.K H y T ∧ PySem.W.notFirst X.K C T = true ∧ OwnM X CX n C "__eq__" sp E ∧ Room n X.A ∧ sp [x, y] H Q E) ∨
  (∃ a C dx fs b D dy gs CX n sp E, x = .ref a ∧ H a = some (.ins C dx fs) ∧ y = .ref b ∧ H b = some (.ins D dy gs) ∧ D ≠ C ∧ PySem.W.subIn X.K (.ref D) (.ref C) = some true ∧ OwnM X CX n D "__eq__" sp E ∧ Room n X.A ∧ sp [y, x] H (fun v H' => ∃ r, v = .bl r ∧ Q (.bl r) H') E)
theorem op_eqF {X : Cx} : OpR X (compareOp .Eq) (rEqF X) := by
  intro pn s st H x y v u Q I rx ry told
  rcases told with ⟨a, C, dx, fs, T, CX, n, sp, E, rfl, ha, k, hn, o, hr, q⟩ | ⟨a, C, dx, fs, b, D, dy, gs, CX, n, sp, E, rfl, ha, rfl, hb, hCD, hsub, o, hr, q⟩
  · have ev : v = Value.ref a := rx
    subst ev
    obtain ⟨m1, J, _⟩ := ins_get I.hok ha
    obtain ⟨od, J, _⟩ := J.look
    obtain ⟨m, hF⟩ := I.fr
    obtain ⟨f, hs, hf, hcall⟩ := call_own2 o I hr I.env0 rx ry q
    show wpAny (model X.prog X.w) X.A (richCompare .Eq (.ref a) u) (EP X pn st Q) X.xe s
    refine PySem.W.cmp_K (op := .Eq) (tb := T) hr.units0 hF I.ok.mod.kin J (looks_ty I ry k) hn hs hf (wpAny_mono hcall (fun r s' z => ?_) fun _ _ e => e)
    obtain ⟨z2, H2, I2, rz, qz⟩ := z
    exact SlX.cmpback rz ⟨z2, H2, I2, rz, qz⟩
  · have ev : v = Value.ref a := rx
    have eu : u = Value.ref b := ry
    subst ev eu
    obtain ⟨m1, J, _⟩ := ins_get I.hok ha
    obtain ⟨od, J, _⟩ := J.look
    obtain ⟨m2, J2, _⟩ := ins_get I.hok hb
    obtain ⟨od2, J2, _⟩ := J2.look
    obtain ⟨m, hF⟩ := I.fr
    obtain ⟨f, hs, hf, hcall⟩ := call_own2 o I hr I.env0 ry rx q
    show wpAny (model X.prog X.w) X.A (richCompare .Eq (.ref a) (.ref b)) (EP X pn st Q) X.xe s
    refine eq_below hr.units0 hF I.ok.mod.kin J J2 hCD hsub hs hf (wpAny_mono hcall (fun r s' z => ?_) fun _ _ e => e)
    obtain ⟨z2, H2, I2, rz, b2, rfl, qz⟩ := z
    cases rz
    exact ⟨b2, rfl, ⟨.bl _, H2, I2, rfl, qz⟩⟩
def rNeF (X : Cx) : R2 := fun x y H Q =>
  (∃ a C dx fs T CX n sp E, x = .ref a ∧ H a = some (.ins C dx fs) ∧ KTy X.K H y T ∧ PySem.W.notFirst X.K C T = true ∧ OwnM X CX n C "__eq__" sp E ∧ NeC X.K C ∧ Room (n + 1) X.A ∧ sp [x, y] H (fun v H' => ∃ r, v = .bl r ∧ Q (.bl (!r)) H') E) ∨
  (∃ a C dx fs b D dy gs CX n sp E, x = .ref a ∧ H a = some (.ins C dx fs) ∧ y = .ref b ∧ H b = some (.ins D dy gs) ∧ D ≠ C ∧ PySem.W.subIn X.K (.ref D) (.ref C) = some true ∧ OwnM X CX n D "__eq__" sp E ∧ NeC X.K D ∧ Room (n + 1) X.A ∧ sp [y, x] H (fun v H' => ∃ r, v = .bl r ∧ Q (.bl (!r)) H') E)
theorem op_neF {X : Cx} : OpR X (compareOp .NotEq) (rNeF X) := by
  intro pn s st H x y v u Q I rx ry told
  rcases told with ⟨a, C, dx, fs, T, CX, n, sp, E, rfl, ha, k, hn, o, hm, hr, q⟩ | ⟨a, C, dx, fs, b, D, dy, gs, CX, n, sp, E, rfl, ha, rfl, hb, hCD, hsub, o, hm, hr, q⟩
  · have ev : v = Value.ref a := rx
    subst ev
    obtain ⟨m1, J, _⟩ := ins_get I.hok ha
    obtain ⟨od, J, _⟩ := J.look
    obtain ⟨m, hF⟩ := I.fr
    obtain ⟨f, hs, hf, hcall⟩ := call_own2 o I hr.in1 I.env0.in1 rx ry q
    show wpAny (model X.prog X.w) X.A (richCompare .NotEq (.ref a) u) (EP X pn st Q) X.xe s
    refine ne_own (tb := T) hr.in1.units0 hF I.ok.mod.kin J (looks_ty I ry k) hn hm.mro hm.ne hs hf (wpAny_mono hcall (fun r s' z => ?_) fun _ _ e => e)
    obtain ⟨z2, H2, I2, rz, b2, rfl, qz⟩ := z
    cases rz
    exact ⟨b2, rfl, ⟨.bl _, H2, I2, rfl, qz⟩⟩
  · have ev : v = Value.ref a := rx
    have eu : u = Value.ref b := ry
    subst ev eu
    obtain ⟨m1, J, _⟩ := ins_get I.hok ha
    obtain ⟨od, J, _⟩ := J.look
    obtain ⟨m2, J2, _⟩ := ins_get I.hok hb
    obtain ⟨od2, J2, _⟩ := J2.look
    obtain ⟨m, hF⟩ := I.fr
    obtain ⟨f, hs, hf, hcall⟩ := call_own2 o I hr.in1 I.env0.in1 ry rx q
    show wpAny (model X.prog X.w) X.A (richCompare .NotEq (.ref a) (.ref b)) (EP X pn st Q) X.xe s
    refine ne_below hr.in1.units0 hF I.ok.mod.kin J J2 hCD hsub hm hs hf (wpAny_mono hcall (fun r s' z => ?_) fun _ _ e => e)
    obtain ⟨z2, H2, I2, rz, b2, rfl, qz⟩ := z
    cases rz
    exact ⟨b2, rfl, ⟨.bl _, H2, I2, rfl, qz⟩⟩
/-- len of an instance by its own __len__ -/
def rLenF (X : Cx) : List V → Hp → VK → Prop := fun xs H Q => ∃ a C dx fs CX n sp E, xs = [V.ref a] ∧ H a = some (.ins C dx fs) ∧ OwnM X CX n C "__len__" sp E ∧ Room (n + 1) X.A ∧ sp [.ref a] H (fun v H' => ∃ k : Nat, v = .int k ∧ (k : Int) < 2 ^ 62 ∧ Q (.int k) H') E
theorem call_lenF {X : Cx} : CallR X (.builtin "len") (rLenF X) := by
  intro pn s st H xs us Q I r told
  obtain ⟨a, C, dx, fs, CX, n, sp, E, rfl, ha, o, hr, q⟩ := told
  obtain ⟨u, rfl, rx⟩ := vals1 r
  have ev : u = Value.ref a := rx
  subst ev
  obtain ⟨m1, J, _⟩ := ins_get I.hok ha
  obtain ⟨od, J, _⟩ := J.look
  obtain ⟨m, hF⟩ := I.fr
  obtain ⟨f, hs, hf, hcall⟩ := call_own1 o I hr.in1 I.env0.in1 rx q
  refine PySem.W.len_K hF I.ok.mod.kin J hs hf (wpAny_mono hcall (fun v s' z => ?_) fun _ _ e => e)
  obtain ⟨z2, H2, I2, rz, k, rfl, hk, qz⟩ := z
  obtain ⟨t, rfl⟩ := rz
  exact ⟨⟨by omega, by omega⟩, ⟨.int _, H2, I2.tok _, ⟨_, rfl⟩, qz⟩⟩
end OwnC

namespace OwnC
open PySem L2 PySem.Spec PyProof.Rows
/-! ### a class called with a starred argument -/
section
variable {X : Cx} {CX : CXT} {k : Nat} {f C : Addr} {sp : Sp} {E : XK} {x : Str} {e fe : Expr} {es : List Expr} {tf : TE} {t : TA} {p pos : Pos}
/-- C(e, .., *y), C a class of the module -/
theorem pe_makeG (M : Mk X.K C f) (F : FnR X.prog X.w X.K X.mg X.base CX k f sp) (hr : Room (k + 1) X.A) (hg : Gl X x) (hm : X.mg x = some (.ref C)) (hx : Passes CX X E) (ha : PA X (e :: es) t) (hdb : (x == ("__debug__" : Str)) = false := by decide)
    (he : starEach (e :: es) X.env = (false, eval e X.env) :: starEach es X.env := by rfl) (hst : (backTo pos (starEach es X.env)).any (·.1) = true := by rfl) : PE X (.Call (.Name x p) (e :: es) [] pos) (StX.tMakeR C sp E t) := by
  refine ⟨fun pins s σ H Q I h => wpAny_Call_Name_kw (ld_glob I hg hm ?_ hdb)⟩
  exact PySem.W.callWith_S2 (h₀ := X.base) I.ok.mod.kin M.kp (thn (ha.run pos pins s σ H _ I h) fun us s1 ⟨vs, H1, I1, r, q⟩ => ⟨I1.kIn, StX.run_makeR M F hr hx I1 r q⟩) he hst
/-- v(e, .., *y), v an expression that gives the class -/
def tMakeV (C : Addr) (sp : Sp) (E : XK) (tf : TE) (t : TA) : TE := fun σ H Q => tf σ H fun y H1 => y = .ref C ∧ StX.tMakeR C sp E t σ H1 Q
theorem pe_makeV (hf : PE X fe tf) (M : Mk X.K C f) (F : FnR X.prog X.w X.K X.mg X.base CX k f sp) (hr : Room (k + 1) X.A) (hx : Passes CX X E) (ha : PA X (e :: es) t)
    (ht : eval (.Call fe (e :: es) [] pos) X.env = (do callWith pos (← eval fe X.env) [] (backTo pos (starEach (e :: es) X.env)) (backToKw pos (keywordEach [] X.env))) := by rfl)
    (he : starEach (e :: es) X.env = (false, eval e X.env) :: starEach es X.env := by rfl) (hst : (backTo pos (starEach es X.env)).any (·.1) = true := by rfl) : PE X (.Call fe (e :: es) [] pos) (tMakeV C sp E tf t) := by
  refine ⟨fun pins s σ H Q I h => Call_ (thn (hf.run pins s σ H _ I h) fun u s1 ⟨y, H1, I1, ry, ey, q⟩ => ?_) ht⟩
  subst ey
  have eu : u = Value.ref C := ry
  subst eu
  exact PySem.W.callWith_S2 (h₀ := X.base) I1.ok.mod.kin M.kp (thn (ha.run pos pins s1 σ H1 _ I1 q) fun us s2 ⟨vs, H2, I2, r, q2⟩ => ⟨I2.kIn, StX.run_makeR M F hr hx I2 r q2⟩) he hst
end
/-! ### o[i] by an own __getitem__ -/
def rSubF (P : Program) (w : World) (K : PySem.W.Frag) (mg : Str → Option Value) (base : Heap) (n : Nat) : R2 := fun x y H Q => ∃ a C dx fs f fd ps sp, x = .ref a ∧ H a = some (.ins C dx fs) ∧ FnOk P w K mg base CX0 n f fd ps sp ∧ Binds K fd ps [] ∧ PySem.W.findIn K (.ref C) "__getitem__" = some (some (.ref f)) ∧ PySem.W.isFn K (.ref f) = true ∧ PySem.W.fnIn K f = true ∧ sp [x, y] H Q E0
theorem pe_subF {X : Cx} {n : Nat} (P : Program) (w : World) (K : PySem.W.Frag) (mg : Str → Option Value) (base : Heap) {a b : Expr} {ta tb : TE} {pos : Pos} (hr : Room (n + 1) X.A) (ha : PE X a ta) (hb : PE X b tb)
    (e1 : X.prog = P := by rfl) (e2 : X.w = w := by rfl) (e3 : X.K = K := by rfl) (e4 : X.mg = mg := by rfl) (e5 : X.base = base := by rfl)
    (hsl : ∀ o i, subscripted b true o i = runValue (.builtin "lifetime.subscript" ⟨[o, i], []⟩) := by intro o i; with_unfolding_all rfl) : PE X (.Subscript a b pos) (tOp (rSubF P w K mg base n) ta tb) := by
  subst e1 e2 e3 e4 e5
  refine ⟨fun pins s σ H Q I h => ?_⟩
  refine Subscript_ (binT ha hb I h fun v u s2 x y H2 I2 rx ry q => ?_)
  obtain ⟨p, C, dx, fs, f, fd, ps, sp, rfl, hp, F, hbd, hs, hf, hfn, q⟩ := q
  have ev : v = Value.ref p := rx
  subst ev
  obtain ⟨m1, J, _⟩ := ins_get I2.hok hp
  obtain ⟨od, J, _⟩ := J.look
  obtain ⟨m, hF⟩ := I2.fr
  exact PySem.W.sub_K hF I2.ok.mod.kin J hs hfn hf (call_two F hbd pass0 I2 hr.in1 I2.env0.in1 rx ry q) (hsl _ _)
/-- o.m(e, ..), whatever class o is of -/
def tMethF (X : Cx) (m : Str) (ta : TE) (t : TA) : TE := fun σ H Q => ta σ H fun x H1 => ∃ a C dx fs CX k f sp E, x = .ref a ∧ H1 a = some (.ins C dx fs) ∧ fs.lookup m = none ∧ Cls X.K C ∧ Meth X.K C m f ∧ FnR X.prog X.w X.K X.mg X.base CX k f sp ∧ Room k X.A ∧ Passes CX X E ∧ t σ H1 fun vs H2 => sp (x :: vs) H2 Q E
theorem pe_methF {X : Cx} {m : Str} {o e : Expr} {es : List Expr} {ta : TE} {t : TA} {apos pos : Pos} {pl : Sem Bool} (he : PE X o ta) (ha : PA X (e :: es) t)
    (hst : starEach (e :: es) X.env = (false, eval e X.env) :: starEach es X.env := by rfl) (hpl : (backTo pos (starEach es X.env)).any (·.1) = false := by rfl)
    (ht : eval (.Call (.Attribute o m apos) (e :: es) [] pos) X.env = (do let ov ← eval o X.env; standAt apos.atName; let (f, first) ← holding [ov] (getMethod ov m pl); callWith pos f first (backTo pos (starEach (e :: es) X.env)) (backToKw pos (keywordEach [] X.env))) := by rfl) :
    PE X (.Call (.Attribute o m apos) (e :: es) [] pos) (tMethF X m ta t) := by
  refine ⟨fun pins s σ H Q I h => PySem.W.methodCall_KW (pl := pl) (thn (he.run pins s σ H _ I h) fun u s1 ⟨x, H1, I1, rx, a, C, dx, fs, CX, k, f, sp, E, ex, ea, l, c, hm, F, hr, hx, q⟩ => ?_) ht⟩
  subst ex
  have eu : u = Value.ref a := rx
  subst eu
  refine getmeth_ok I1 ea c hm l (PySem.W.callWith_K (first := [.ref a]) (h₀ := X.base) I.ok.mod.kin hm.kp (thn (ha.run pos pins s1 σ H1 _ I1 q) fun us s2 ⟨vs, H2, I2, r, q2⟩ => ⟨I2.kIn, ?_⟩) hst hpl)
  exact wpAny_call (run_fnR (us := .ref a :: us) (vs := .ref a :: vs) F hr hx I2 (.cons rfl r) q2)
end OwnC

namespace Lay
open PySem L2 PySem.Spec PyProof.Rows
/-! ### texts and whole numbers in tuples in a tuple or list, as data -/
def flatD : V → PyData
  | .str z => .str z
  | .int i => .int i
  | _ => .none
def isFlat : V → Bool
  | .str z => PyData.strOk z
  | .int _ => true
  | _ => false
def rowD (l : List V) : PyData := .tuple (l.map flatD)
theorem beq_dec {α : Type} [DecidableEq α] [BEq α] [LawfulBEq α] (a b : α) : (a == b) = decide (a = b) := by
  by_cases h : a = b
  · subst h
    simp
  · rw [decide_eq_false h]
    exact beq_eq_false_iff_ne.mpr h
theorem eqv_flat : ∀ x y : V, isFlat x = true → isFlat y = true → PyData.eqv (flatD x) (flatD y) = decide (x = y) := by
  intro x y hx hy
  cases x with
  | str z =>
    cases y with
    | str u => simp [flatD, PyData.eqv]; exact beq_dec _ _
    | int j => simp [flatD, PyData.eqv]
    | _ => cases hy
  | int i =>
    cases y with
    | str u => simp [flatD, PyData.eqv]
    | int j => simp [flatD, PyData.eqv]; exact beq_dec _ _
    | _ => cases hy
  | _ => cases hx
theorem eqvAll_flat : ∀ l l' : List V, l.all isFlat = true → l'.all isFlat = true → PyData.eqvAll (l.map flatD) (l'.map flatD) = decide (l = l')
  | [], [], _, _ => by simp [PyData.eqvAll]
  | [], _ :: _, _, _ => by simp [PyData.eqvAll]
  | _ :: _, [], _, _ => by simp [PyData.eqvAll]
  | x :: l, y :: l', h, h' => by
    rw [List.all_cons, Bool.and_eq_true] at h h'
    rw [List.map_cons, List.map_cons, PyData.eqvAll, eqv_flat x y h.1 h'.1, eqvAll_flat l l' h.2 h'.2]
    by_cases e : x = y <;> by_cases e' : l = l' <;> simp [e, e']
theorem eqv_row {l l' : List V} (h : l.all isFlat = true) (h' : l'.all isFlat = true) : PyData.eqv (rowD l) (rowD l') = decide (l = l') := by
  unfold rowD
  rw [PyData.eqv]
  exact eqvAll_flat l l' h h'
theorem eqvAll_rows : ∀ ls ls' : List (List V), (∀ l ∈ ls, l.all isFlat = true) → (∀ l ∈ ls', l.all isFlat = true) → PyData.eqvAll (ls.map rowD) (ls'.map rowD) = decide (ls = ls')
  | [], [], _, _ => by simp [PyData.eqvAll]
  | [], _ :: _, _, _ => by simp [PyData.eqvAll]
  | _ :: _, [], _, _ => by simp [PyData.eqvAll]
  | x :: l, y :: l', h, h' => by
    rw [List.map_cons, List.map_cons, PyData.eqvAll, eqv_row (h x (List.mem_cons_self ..)) (h' y (List.mem_cons_self ..)), eqvAll_rows l l' (fun z m => h z (List.mem_cons_of_mem _ m)) (fun z m => h' z (List.mem_cons_of_mem _ m))]
    by_cases e : x = y <;> by_cases e' : l = l' <;> simp [e, e']
theorem lay_flat (x : V) (h : isFlat x = true) : PyData.canLay0 (flatD x) = true := by
  cases x with
  | str z =>
    show PyData.canLay0 (.str z) = true
    rw [PyData.canLay0]
    exact h
  | int i => simp [flatD, PyData.canLay0]
  | _ => cases h
theorem layAll_flat : ∀ l : List V, l.all isFlat = true → PyData.canLayAll0 (l.map flatD) = true
  | [], _ => by simp [PyData.canLayAll0]
  | x :: l, h => by
    rw [List.all_cons, Bool.and_eq_true] at h
    rw [List.map_cons, PyData.canLayAll0, lay_flat x h.1, layAll_flat l h.2]; rfl
theorem lay_row (l : List V) (h : l.all isFlat = true) : PyData.canLay0 (rowD l) = true := by unfold rowD; rw [PyData.canLay0]; exact layAll_flat l h
theorem layAll_rows : ∀ ls : List (List V), (∀ l ∈ ls, l.all isFlat = true) → PyData.canLayAll0 (ls.map rowD) = true
  | [], _ => by simp [PyData.canLayAll0]
  | x :: l, h => by rw [List.map_cons, PyData.canLayAll0, lay_row x (h x (List.mem_cons_self ..)), layAll_rows l (fun z m => h z (List.mem_cons_of_mem _ m))]; rfl
theorem deep_flat (x : V) : PyData.depth (flatD x) ≤ 1 := by cases x <;> simp [flatD, PyData.depth]
theorem deepAll_flat : ∀ l : List V, PyData.depthAll (l.map flatD) ≤ 1
  | [] => by simp [PyData.depthAll]
  | x :: l => by
    rw [List.map_cons, PyData.depthAll]
    have := deep_flat x
    have := deepAll_flat l
    omega
theorem deep_row (l : List V) : PyData.depth (rowD l) ≤ 2 := by
  unfold rowD
  rw [PyData.depth]
  have := deepAll_flat l
  omega
theorem deepAll_rows : ∀ ls : List (List V), PyData.depthAll (ls.map rowD) ≤ 2
  | [] => by simp [PyData.depthAll]
  | x :: l => by
    rw [List.map_cons, PyData.depthAll]
    have := deep_row x
    have := deepAll_rows l
    omega
theorem shaped_rowsT (ls : List (List V)) (h : ∀ l ∈ ls, l.all isFlat = true) : SeqAt.shaped (.tuple (ls.map rowD)) = true := by
  have h1 := deepAll_rows ls
  have h2 : PyData.depth (.tuple (ls.map rowD)) ≤ 64 := by rw [PyData.depth]; omega
  have h3 : PyData.canLay0 (.tuple (ls.map rowD)) = true := by rw [PyData.canLay0]; exact layAll_rows ls h
  unfold SeqAt.shaped
  rw [h3, decide_eq_true h2]
  rfl
theorem shaped_rowsL (ls : List (List V)) (h : ∀ l ∈ ls, l.all isFlat = true) : SeqAt.shaped (.list (ls.map rowD)) = true := by
  have h1 := deepAll_rows ls
  have h2 : PyData.depth (.list (ls.map rowD)) ≤ 64 := by rw [PyData.depth]; omega
  have h3 : PyData.canLay0 (.list (ls.map rowD)) = true := by rw [PyData.canLay0]; exact layAll_rows ls h
  unfold SeqAt.shaped
  rw [h3, decide_eq_true h2]
  rfl
/-- steps at a heap: the tuples and what they hold -/
inductive RowsAt (H : Hp) : List V → List (List V) → Prop
  | nil : RowsAt H [] []
  | cons {p : Addr} {l : List V} {xs : List V} {ls : List (List V)} (h : H p = some (.tup l)) (r : RowsAt H xs ls) : RowsAt H (.ref p :: xs) (l :: ls)
theorem RowsAt.same {H H' : Hp} {xs : List V} {ls : List (List V)} (r : RowsAt H xs ls) (k : ∀ b l, H b = some (.tup l) → H' b = some (.tup l)) : RowsAt H' xs ls := by
  induction r with
  | nil => exact .nil
  | cons h _ ih => exact .cons (k _ _ h) ih
theorem RowsAt.mono {H H' : Hp} {xs : List V} {ls : List (List V)} (r : RowsAt H xs ls) (s : Same H H') : RowsAt H' xs ls := r.same fun b l h => s b _ h
/-- a list is at p, so no tuple is -/
theorem RowsAt.keep {H H' : Hp} {xs : List V} {ls : List (List V)} {p : Addr} {ys : List V} (r : RowsAt H xs ls) (hp : H p = some (.lst ys)) (k : Keep p H H') : RowsAt H' xs ls := r.same fun b l h => k b _ (fun e => by subst e; rw [hp] at h; cases h) h
theorem RowsAt.len {H : Hp} {xs : List V} {ls : List (List V)} (r : RowsAt H xs ls) : xs.length = ls.length := by
  induction r with
  | nil => rfl
  | cons _ _ ih => rw [List.length_cons, List.length_cons, ih]
theorem dp_flat {K : PySem.W.Frag} {H : Hp} : ∀ l : List V, l.all isFlat = true → DpAll K H l (l.map flatD)
  | [], _ => .nil
  | x :: l, h => by
    rw [List.all_cons, Bool.and_eq_true] at h
    refine .cons ?_ (dp_flat l h.2)
    cases x <;> first | cases h.1 | skip
    · exact .int _
    · exact .str _
theorem RowsAt.dp {K : PySem.W.Frag} {H : Hp} {xs : List V} {ls : List (List V)} (r : RowsAt H xs ls) (h : ∀ l ∈ ls, l.all isFlat = true) : DpAll K H xs (ls.map rowD) := by
  induction r with
  | nil => exact .nil
  | cons hp _ ih =>
    refine .cons (.tup (SqT.of hp) (dp_flat _ (h _ (List.mem_cons_self ..)))) (ih fun z m => h z (List.mem_cons_of_mem _ m))
theorem RowsAt.get {H : Hp} {xs : List V} {ls : List (List V)} (r : RowsAt H xs ls) : ∀ {i : Nat} {l : List V}, ls[i]? = some l → ∃ p, xs[i]? = some (.ref p) ∧ H p = some (.tup l) := by
  induction r with
  | nil => intro i l e; simp at e
  | cons h _ ih =>
    intro i l e
    cases i with
    | zero =>
      rw [List.getElem?_cons_zero] at e
      cases e
      exact ⟨_, rfl, h⟩
    | succ i =>
      rw [List.getElem?_cons_succ] at e ⊢
      exact ih e
theorem RowsAt.append {H : Hp} {xs ys : List V} {ls ms : List (List V)} (r : RowsAt H xs ls) (q : RowsAt H ys ms) : RowsAt H (xs ++ ys) (ls ++ ms) := by
  induction r with
  | nil => exact q
  | cons h _ ih => exact .cons h ih
theorem RowsAt.drop {H : Hp} {xs : List V} {ls : List (List V)} (r : RowsAt H xs ls) : ∀ n : Nat, RowsAt H (xs.drop n) (ls.drop n) := by
  induction r with
  | nil => intro n; simp; exact .nil
  | cons h t ih =>
    intro n
    cases n with
    | zero => exact .cons h t
    | succ n => exact ih n
theorem RowsAt.take {H : Hp} {xs : List V} {ls : List (List V)} (r : RowsAt H xs ls) : ∀ n : Nat, RowsAt H (xs.take n) (ls.take n) := by
  induction r with
  | nil => intro n; simp; exact .nil
  | cons h t ih =>
    intro n
    cases n with
    | zero => exact .nil
    | succ n => exact .cons h (ih n)
theorem RowsAt.set {H : Hp} {xs : List V} {ls : List (List V)} {p : Addr} {l : List V} (hp : H p = some (.tup l)) (r : RowsAt H xs ls) : ∀ n : Nat, RowsAt H (xs.set n (.ref p)) (ls.set n l) := by
  induction r with
  | nil => intro n; simp; exact .nil
  | cons h t ih =>
    intro n
    cases n with
    | zero => exact .cons hp t
    | succ n => exact .cons h (ih n)
theorem RowsAt.steps {H : Hp} {ws : List Str} {xs : List V} {ls : List (List V)} (r : RowsAt H xs ls) (g : ∀ l ∈ ls, GoodStep ws l) : ∀ s ∈ xs, StepAt H ws s := by
  induction r with
  | nil => intro s m; cases m
  | cons h _ ih =>
    intro s m
    rcases List.mem_cons.mp m with e | m
    · subst e
      exact ⟨_, _, rfl, h, g _ (List.mem_cons_self ..)⟩
    · exact ih (fun z m => g z (List.mem_cons_of_mem _ m)) s m
theorem name_strOk {z : Str} (h : nameOk z = true) : PyData.strOk z = true := by
  unfold nameOk at h
  rw [Bool.and_eq_true] at h
  unfold PyData.strOk
  rw [← Array.all_toList, List.all_eq_true]
  intro c m
  have := List.all_eq_true.mp h.2 c m
  rw [Bool.and_eq_true] at this
  have h2 := of_decide_eq_true this.2
  exact decide_eq_true (by omega)
theorem words_strOk {ws : List Str} (h : ws.all PyData.strOk = true) {w : Str} (m : w ∈ ws) : PyData.strOk w = true := List.all_eq_true.mp h w m
theorem GoodStep.flat {ws : List Str} {l : List V} (g : GoodStep ws l) : l.all isFlat = true := by
  rcases g with ⟨w, n, rfl, h1, _, h3⟩ | ⟨w, n, s, f, e, rfl, h1, _, h3, _⟩
  · have a := words_strOk (by decide +kernel) h1
    have b := name_strOk h3
    simp [isFlat, a, b]
  · have a := words_strOk (by decide +kernel) h1
    have b := name_strOk h3
    simp [isFlat, a, b]
theorem GoodStep.more {ws zs : List Str} {l : List V} (g : GoodStep ws l) (h : ∀ w ∈ ws, w ∈ zs) : GoodStep zs l := by
  rcases g with ⟨w, n, e, h1, h2, h3⟩ | ⟨w, n, s, f, t, e, h1, h2, h3⟩
  · exact .inl ⟨w, n, e, h1, h w h2, h3⟩
  · exact .inr ⟨w, n, s, f, t, e, h1, h w h2, h3⟩
end Lay

namespace Lay
open PySem L2 PySem.Spec PyProof.Rows
theorem fnR_of {P : Program} {w : World} {K : PySem.W.Frag} {mg : Str → Option Value} {base : Heap} {CX : CXT} {k : Nat} {f : Addr} {fd : FuncData} {ps : List Str} {sp : Sp} (F : FnOk P w K mg base CX k f fd ps sp) (hb : Binds K fd ps []) : FnR P w K mg base CX k f sp := by
  intro A outer s H us vs Q E hr e0 r hs
  have hl := F.len _ _ _ _ hs
  have hu : us.length = ps.length := by rw [← hl]; exact r.length.symm
  have KX : K.In s.heap := e0.mod.kin.keeps fun b o e => (e0.bs b o e).1
  have b := hb s us KX (by simpa using hu)
  rw [List.append_nil] at b
  exact F.run A outer s H ⟨us, []⟩ us vs Q E hr e0 b r hs
/-- an agent: its class, name, its steps and what they hold -/
def AgAt (C : Addr) (H : Hp) (a : Addr) (z : Str) (ls : List (List V)) : Prop := ∃ dx t xs, H a = some (.ins C dx (agentF z t)) ∧ H t = some (.tup xs) ∧ RowsAt H xs ls
theorem AgAt.mono {C : Addr} {H H' : Hp} {a : Addr} {z : Str} {ls : List (List V)} (h : AgAt C H a z ls) (s : Same H H') : AgAt C H' a z ls := by
  obtain ⟨dx, t, xs, h1, h2, h3⟩ := h
  exact ⟨dx, t, xs, s _ _ h1, s _ _ h2, h3.mono s⟩
theorem AgAt.keep {C p : Addr} {H H' : Hp} {a : Addr} {z : Str} {ls : List (List V)} {ys : List V} (h : AgAt C H a z ls) (hp : H p = some (.lst ys)) (k : Keep p H H') : AgAt C H' a z ls := by
  obtain ⟨dx, t, xs, h1, h2, h3⟩ := h
  exact ⟨dx, t, xs, k _ _ (fun e => by subst e; rw [hp] at h1; cases h1) h1, k _ _ (fun e => by subst e; rw [hp] at h2; cases h2) h2, h3.keep hp k⟩
/-- a row of steps: a list or a tuple -/
def SeqAt' (K : PySem.W.Frag) (H : Hp) (t : Addr) (xs : List V) : Prop := SqT K H t xs ∨ SqL K H t xs
/-- C.made(name, steps), all good -/
def spMade (K : PySem.W.Frag) (C : Addr) (ws : List Str) : Sp := fun vs H Q _ => ∃ z t xs ls, vs = [.ref C, .str z, .ref t] ∧ nameOk z = true ∧ (SqT K H t xs ∨ SqL K H t xs) ∧ RowsAt H xs ls ∧ 1 ≤ ls.length ∧ ls.length ≤ 24 ∧ (∀ l ∈ ls, GoodStep ws l) ∧
  ∀ x H', H x = none → Same H H' → AgAt C H' x z ls → Q (.ref x) H'
/-- the initialiser is called of a class with these steps -/
theorem mk_ag {C : Addr} {ws : List Str} {H : Hp} {z : Str} {xs : List V} {ls : List (List V)} {Q : Addr → Hp → Prop} {E : XK} (hz : nameOk z = true) (hx : RowsAt H xs ls) (h1 : 1 ≤ ls.length) (h2 : ls.length ≤ 24) (hg : ∀ l ∈ ls, GoodStep ws l)
    (q : ∀ x H', H x = none → Same H H' → AgAt C H' x z ls → Q x H') :
    ∀ x dx, H x = none → H dx = none → dx ≠ x → spStar 2 (spAgentInit C ws) (.ref x :: .str z :: xs) (upd (upd H dx (.own x)) x (.ins C dx [])) (fun v H2 => v = .non ∧ Q x H2) E := by
  intro x dx hx1 hd hne
  have s1 : Same H (upd (upd H dx (.own x)) x (.ins C dx [])) := Lay.Same.upd' (Same.upd hd) (by rw [upd_ne hne.symm]; exact hx1)
  have hl := hx.len
  refine ⟨[.ref x, .str z], xs, rfl, rfl, Nat.le_trans (by omega) (show 24 ≤ sizeLine by decide), fun p hp => ?_⟩
  have s2 := Lay.Same.upd' (o := .tup xs) s1 hp
  refine ⟨x, dx, z, p, xs, rfl, upd_old hp upd_same, hz, upd_same, by omega, by omega, (hx.mono s2).steps hg, ?_⟩
  rintro H' ⟨dx', t, e1, e2⟩ keep
  have s3 : Same H H' := fun b o e => keep b o (fun y => by subst y; rw [hx1] at e; cases e) (s2 _ _ e)
  exact ⟨rfl, q x H' hx1 s3 ⟨dx', t, xs, e1, e2, hx.mono s3⟩⟩
/-- agent.with_steps(*steps) -/
def spWith (C : Addr) (ws : List Str) : Sp := fun vs H Q _ => ∃ a z ls0 xs ls, vs = .ref a :: xs ∧ AgAt C H a z ls0 ∧ nameOk z = true ∧ RowsAt H xs ls ∧ 1 ≤ ls.length ∧ ls.length ≤ 24 ∧ (∀ l ∈ ls, GoodStep ws l) ∧
  ∀ x H', H x = none → Same H H' → AgAt C H' x z ls → Q (.ref x) H'
def spWithT (C : Addr) (ws : List Str) : Sp := fun vs H Q _ => ∃ a z t ls0 xs ls, vs = [.ref a, .ref t] ∧ AgAt C H a z ls0 ∧ nameOk z = true ∧ H t = some (.tup xs) ∧ RowsAt H xs ls ∧ 1 ≤ ls.length ∧ ls.length ≤ 24 ∧ (∀ l ∈ ls, GoodStep ws l) ∧
  ∀ x H', H x = none → Same H H' → AgAt C H' x z ls → Q (.ref x) H'
def spLen (C : Addr) : Sp := fun vs H Q _ => ∃ a z ls, vs = [.ref a] ∧ AgAt C H a z ls ∧ Q (.int ls.length) H
def spGet (C : Addr) : Sp := fun vs H Q _ => ∃ a z ls i l, vs = [.ref a, .int (i : Nat)] ∧ AgAt C H a z ls ∧ ls[i]? = some l ∧ ∀ p, H p = some (.tup l) → Q (.ref p) H
theorem rd_makeV {C : Addr} {sp : Sp} {E : XK} {tf : TE} {t : TA} {σ : L2.St} {H : Hp} {Q : VK} (h : tf σ H fun y H1 => y = .ref C ∧ StX.tMakeR C sp E t σ H1 Q) : OwnC.tMakeV C sp E tf t σ H Q := h
theorem atI_nat {α : Type} {xs : List α} {i : Nat} {v : α} (h : xs[i]? = some v) : atI xs (i : Int) = some v := atI_int (by omega) (by simpa using h)
theorem kit_prim {K : PySem.W.Frag} {p : String} {D : Addr} (h1 : PySem.W.mroIn K D (.type "object") = some true) (h2 : PySem.W.typeIn K (.ref D) = some (.type "type")) (h3 : PySem.W.subIn K (.type p) (.ref D) = some false) : PySem.W.kitOne K (.type p) (.ref D) = some false := by
  unfold PySem.W.kitOne
  rw [if_neg (fun z => by cases eq_of_beq z)]
  unfold PySem.W.kitCls
  have h5 : (PySem.W.clsIn K D).isSome = true := by
    unfold PySem.W.mroIn at h1
    cases hh : PySem.W.clsIn K D with
    | none => rw [hh] at h1; cases h1
    | some _ => rfl
  dsimp only
  rw [h5, h2]
  exact h3
/-- a class of agents: what reading its instances asks -/
structure AgC (K : PySem.W.Frag) (C : Addr) (kind : Str) : Prop where
  cl : Cls K C
  nm : NoAttr K C "name"
  st : NoAttr K C "steps"
  co : ∃ u, Con K C "KIND" (.str kind) u
  ty : ∀ (H : Hp) (a dx : Addr) (fs : List (Str × V)), H a = some (.ins C dx fs) → TyX K H (.ref a) (.ref C)
/-- a value that == of the class C, which asks for instances of C, is asked about -/
def EqArg (K : PySem.W.Frag) (C : Addr) (kind : Str) (z : Str) (ls : List (List V)) (H : Hp) (v : V) (r : Bool) : Prop :=
  (∃ T, TyX K H v T ∧ PySem.W.kitOne K T (.ref C) = some false ∧ r = false) ∨
  (∃ b D k2 z2 ls2, v = .ref b ∧ AgAt D H b z2 ls2 ∧ (∀ l ∈ ls2, l.all isFlat = true) ∧ AgC K D k2 ∧ PySem.W.kitOne K (.ref D) (.ref C) = some true ∧ r = (decide (kind = k2) && (decide (z = z2) && decide (ls = ls2))))
def spEqA (K : PySem.W.Frag) (C : Addr) (kind : Str) : Sp := fun vs H Q _ => ∃ a v z ls r, vs = [.ref a, v] ∧ AgAt C H a z ls ∧ (∀ l ∈ ls, l.all isFlat = true) ∧ AgC K C kind ∧ EqArg K C kind z ls H v r ∧ Q (.bl r) H
theorem rd_eqT {K : PySem.W.Frag} {H : Hp} {Q : VK} {t u : Addr} {xs ys : List V} {ls ms : List (List V)} (h1 : H t = some (.tup xs)) (r1 : RowsAt H xs ls) (f1 : ∀ l ∈ ls, l.all isFlat = true) (h2 : H u = some (.tup ys)) (r2 : RowsAt H ys ms) (f2 : ∀ l ∈ ms, l.all isFlat = true)
    (q : Q (.bl (decide (ls = ms))) H) : rEqD K (.ref t) (.ref u) H Q :=
  ⟨.tuple (ls.map rowD), .tuple (ms.map rowD), .tup (SqT.of h1) (r1.dp f1), .tup (SqT.of h2) (r2.dp f2), shaped_rowsT ls f1, shaped_rowsT ms f2, by
    have e : PyData.eqv (.tuple (ls.map rowD)) (.tuple (ms.map rowD)) = decide (ls = ms) := by
      rw [PyData.eqv]
      exact eqvAll_rows ls ms f1 f2
    rw [e]
    exact q⟩
end Lay
namespace Lay
open PySem L2 PySem.Spec PyProof.Rows
def plainWs : List Str := ["read", "write", "post", "wait"]
def cacheWs : List Str := ["read", "write", "get", "put", "clean", "drop", "flush", "post", "wait"]
def wsK (k : Int) : List Str := if k = 0 then plainWs else cacheWs
def drawnWs : List Str := ["read", "write", "post", "wait", "read", "write", "clean", "drop", "flush", "get", "put"]
theorem drawn_word {k d : Int} (h0 : 0 ≤ d) (h1 : d < 11 - 5 * (if k = 0 then 1 else 0)) : ∃ w : Str, drawnWs[d.toNat]? = some w ∧ w ∈ wsK k ∧ ((w ∈ sigWords ∧ inStrs (.str w) ["post", "wait"] = true) ∨ (w ∈ memWords ∧ inStrs (.str w) ["post", "wait"] = false)) := by
  by_cases hk : k = 0
  · rw [if_pos hk] at h1
    unfold wsK
    rw [if_pos hk]
    obtain rfl | rfl | rfl | rfl | rfl | rfl : d = 0 ∨ d = 1 ∨ d = 2 ∨ d = 3 ∨ d = 4 ∨ d = 5 := by omega
    all_goals exact ⟨_, rfl, by decide +kernel, by first | exact .inl ⟨by decide +kernel, by decide +kernel⟩ | exact .inr ⟨by decide +kernel, by decide +kernel⟩⟩
  · rw [if_neg hk] at h1
    unfold wsK
    rw [if_neg hk]
    obtain rfl | rfl | rfl | rfl | rfl | rfl | rfl | rfl | rfl | rfl | rfl : d = 0 ∨ d = 1 ∨ d = 2 ∨ d = 3 ∨ d = 4 ∨ d = 5 ∨ d = 6 ∨ d = 7 ∨ d = 8 ∨ d = 9 ∨ d = 10 := by omega
    all_goals exact ⟨_, rfl, by decide +kernel, by first | exact .inl ⟨by decide +kernel, by decide +kernel⟩ | exact .inr ⟨by decide +kernel, by decide +kernel⟩⟩
def spGoodStep : Sp := fun vs H Q _ => ∃ (p : Addr) (k : Int) (n : Nat) (c : Addr), vs = [.ref p, .int k] ∧ PenAt c H p n ∧ n + 5 < 100000 ∧ ∀ a l H', H a = none → H' a = some (.tup l) → GoodStep (wsK k) l → PenAt c H' p (n + 5) → Keep p H H' → Q (.ref a) H'
end Lay
namespace Lay
open PySem L2 PySem.Spec PyProof.Rows
theorem abz_ok {d : Int} (h0 : 0 ≤ d) (h1 : d < 4) : nameOk ("buf" ++ cutS "abz" none (some d)) = true ∧ ("buf" : Str).length + (cutS "abz" none (some d)).length ≤ sizeLine := by
  obtain rfl | rfl | rfl | rfl : d = 0 ∨ d = 1 ∨ d = 2 ∨ d = 3 := by omega
  all_goals exact ⟨by decide +kernel, by decide +kernel⟩
theorem Keep.none {H H' : Hp} {p a : Addr} {o : HO} (k : Keep p H H') (hp : H' p = some o) (h : H' a = none) : H a = none := by
  cases e : H a with
  | none => rfl
  | some u =>
    have n : a ≠ p := fun y => by subst y; rw [hp] at h; cases h
    rw [k a u n e] at h
    cases h
end Lay
namespace Lay
open PySem L2 PySem.Spec PyProof.Rows
theorem rd_cmeth {C : Addr} {sp : Sp} {E : XK} {ta : TE} {t : TA} {σ : L2.St} {H : Hp} {Q : VK} (h : ta σ H fun x H1 => x = .ref C ∧ t σ H1 fun vs H2 => sp (.ref C :: vs) H2 Q E) : ClX.tCMeth C sp E ta t σ H Q := h
end Lay
namespace Lay
open PySem L2 PySem.Spec PyProof.Rows
theorem eqv_rowsT {ls ms : List (List V)} (f1 : ∀ l ∈ ls, l.all isFlat = true) (f2 : ∀ l ∈ ms, l.all isFlat = true) : PyData.eqv (.tuple (ls.map rowD)) (.tuple (ms.map rowD)) = decide (ls = ms) := by
  rw [PyData.eqv]
  exact eqvAll_rows ls ms f1 f2
theorem eqv_rowsL {ls ms : List (List V)} (f1 : ∀ l ∈ ls, l.all isFlat = true) (f2 : ∀ l ∈ ms, l.all isFlat = true) : PyData.eqv (.list (ls.map rowD)) (.list (ms.map rowD)) = decide (ls = ms) := by
  rw [PyData.eqv]
  exact eqvAll_rows ls ms f1 f2
/-- two tuples of the same rows are not unequal -/
theorem rd_neT {K : PySem.W.Frag} {H : Hp} {Q : VK} {t u : Addr} {xs ys : List V} {ls : List (List V)} (h1 : H t = some (.tup xs)) (r1 : RowsAt H xs ls) (f1 : ∀ l ∈ ls, l.all isFlat = true) (h2 : H u = some (.tup ys)) (r2 : RowsAt H ys ls)
    (q : Q (.bl false) H) : rNeD K (.ref t) (.ref u) H Q :=
  ⟨.tuple (ls.map rowD), .tuple (ls.map rowD), .tup (SqT.of h1) (r1.dp f1), .tup (SqT.of h2) (r2.dp f1), shaped_rowsT ls f1, shaped_rowsT ls f1, by
    rw [eqv_rowsT f1 f1, decide_eq_true rfl]
    exact q⟩
theorem rd_eqL {K : PySem.W.Frag} {H : Hp} {Q : VK} {t u : Addr} {xs ys : List V} {ls : List (List V)} (h1 : H t = some (.lst xs)) (r1 : RowsAt H xs ls) (f1 : ∀ l ∈ ls, l.all isFlat = true) (h2 : H u = some (.lst ys)) (r2 : RowsAt H ys ls)
    (q : Q (.bl true) H) : rEqD K (.ref t) (.ref u) H Q :=
  ⟨.list (ls.map rowD), .list (ls.map rowD), .lst (SqL.of h1) (r1.dp f1), .lst (SqL.of h2) (r2.dp f1), shaped_rowsL ls f1, shaped_rowsL ls f1, by
    rw [eqv_rowsL f1 f1, decide_eq_true rfl]
    exact q⟩
theorem rd_neSs {i : Str} {H : Hp} {Q : VK} (q : Q (.bl false) H) : rNe (.str i) (.str i) H Q := rd_neS (by rw [decide_eq_true rfl]; exact q)
theorem rd_neIs {i j : Int} {H : Hp} {Q : VK} (e : i = j) (q : Q (.bl false) H) : rNe (.int i) (.int j) H Q := rd_neI (by rw [decide_eq_true e]; exact q)
/-- what is written into a list leaves the rows -/
theorem RowsAt.updL {H : Hp} {D : Addr} {l l' : List V} {xs : List V} {ls : List (List V)} (r : RowsAt H xs ls) (h : H D = some (.lst l)) : RowsAt (upd H D (.lst l')) xs ls := r.same fun b l2 e => by
  by_cases y : b = D
  · subst y; rw [h] at e; cases e
  · rw [upd_ne y]; exact e
theorem AgAt.updL {C : Addr} {H : Hp} {D a : Addr} {l l' : List V} {z : Str} {ls : List (List V)} (r : AgAt C H a z ls) (h : H D = some (.lst l)) : AgAt C (upd H D (.lst l')) a z ls := by
  obtain ⟨dx, t, xs, h1, h2, h3⟩ := r
  exact ⟨dx, t, xs, by rw [upd_ne (fun y => by subst y; rw [h] at h1; cases h1)]; exact h1, by rw [upd_ne (fun y => by subst y; rw [h] at h2; cases h2)]; exact h2, h3.updL h⟩
end Lay

namespace Lay
open PySem L2 PySem.Spec PyProof.Rows
/-- the word of a step may stand in an agent without a cache -/
def plainRow (l : List V) : Prop := ∃ w r, l = .str w :: r ∧ w ∈ plainWs
theorem GoodStep.head {ws : List Str} {l : List V} (g : GoodStep ws l) : ∃ w r, l = .str w :: r ∧ w ∈ ws := by
  rcases g with ⟨w, n, rfl, h1, h2, h3⟩ | ⟨w, n, s, f, e, rfl, h1, h2, h3⟩
  · exact ⟨w, _, rfl, h2⟩
  · exact ⟨w, _, rfl, h2⟩
theorem GoodStep.plain {ws : List Str} {l : List V} (g : GoodStep ws l) (h : plainRow l) : GoodStep plainWs l := by
  obtain ⟨u, r, e, hu⟩ := h
  rcases g with ⟨w, n, rfl, h1, h2, h3⟩ | ⟨w, n, s, f, e', rfl, h1, h2, h3⟩
  · cases e
    exact .inl ⟨_, _, rfl, h1, hu, h3⟩
  · cases e
    exact .inr ⟨_, _, _, _, _, rfl, h1, hu, h3⟩
theorem plain_sub : ∀ w ∈ plainWs, w ∈ cacheWs := by decide +kernel
theorem rd_eqL0 {K : PySem.W.Frag} {H : Hp} {Q : VK} {t u : Addr} {xs : List V} {ls : List (List V)} (h1 : H t = some (.lst xs)) (r1 : RowsAt H xs ls) (f1 : ∀ l ∈ ls, l.all isFlat = true) (h2 : H u = some (.lst []))
    (q : Q (.bl (decide (ls = []))) H) : rEqD K (.ref t) (.ref u) H Q :=
  ⟨.list (ls.map rowD), .list (([] : List (List V)).map rowD), .lst (SqL.of h1) (r1.dp f1), .lst (SqL.of h2) .nil, shaped_rowsL ls f1, shaped_rowsL [] (by intro _ m; cases m), by
    rw [eqv_rowsL f1 (by intro _ m; cases m)]
    exact q⟩
def spOther : Sp := fun vs H Q _ => ∃ (k : Int) (t : Addr) (ys : List V) (ls : List (List V)), vs = [.int k, .ref t] ∧ 0 ≤ k ∧ k ≤ 2 ∧ H t = some (.lst ys) ∧ RowsAt H ys ls ∧ ls.length ≤ 24 ∧ (∀ l ∈ ls, GoodStep (wsK k) l) ∧
  ∀ k' H', Same H H' → 0 ≤ k' → k' ≤ 2 → (∀ l ∈ ls, GoodStep (wsK k') l) → Q (.int k') H'
theorem other_good {k : Int} {ls : List (List V)} (k0 : 0 ≤ k) (k2 : k ≤ 2) (hg : ∀ l ∈ ls, GoodStep (wsK k) l) (h : ∀ l ∈ ls, plainRow l) (j : Int) : ∀ l ∈ ls, GoodStep (wsK j) l := by
  intro l m
  have g := (hg l m).plain (h l m)
  unfold wsK
  split
  · exact g
  · exact g.more plain_sub
/-- a list of class, name and steps -/
def TripAt (H : Hp) (r : Addr) (k : Int) (z : Str) (t : Addr) (ys : List V) (ls : List (List V)) : Prop := H r = some (.lst [.int k, .str z, .ref t]) ∧ H t = some (.lst ys) ∧ RowsAt H ys ls
def spBent : Sp := fun vs H Q _ => ∃ (p : Addr) (n : Nat) (c : Addr) (k : Int) (z : Str) (t : Addr) (ys : List V) (ls : List (List V)), vs = [.ref p, .int k, .str z, .ref t] ∧ PenAt c H p n ∧ n + 2 < 100000 ∧ 0 ≤ k ∧ k ≤ 2 ∧ nameOk z = true ∧ nameOk (z ++ "x") = true ∧ H t = some (.lst ys) ∧ RowsAt H ys ls ∧ 1 ≤ ls.length ∧ ls.length ≤ 24 ∧ (∀ l ∈ ls, GoodStep (wsK k) l) ∧
  ∀ r k' z' t' ys' ls' H', PenAt c H' p (n + 2) → Keep p H H' → TripAt H' r k' z' t' ys' ls' → 0 ≤ k' → k' ≤ 2 → nameOk z' = true → ls'.length = ls.length → (∀ l ∈ ls', GoodStep (wsK k') l) → Q (.ref r) H'
theorem good_post (k : Int) : GoodStep (wsK k) [.str "post", .str "other"] := by
  refine .inl ⟨_, _, rfl, by decide +kernel, ?_, by decide +kernel⟩
  unfold wsK
  split <;> decide +kernel
theorem mem_set {α : Type} {xs : List α} {n : Nat} {a x : α} (h : x ∈ xs.set n a) : x = a ∨ x ∈ xs := by
  rcases List.mem_or_eq_of_mem_set h with h | h
  · exact .inr h
  · exact .inl h
end Lay
namespace Lay
open PySem L2 PySem.Spec PyProof.Rows
theorem rows_pen {c : Addr} {H : Hp} {p t : Addr} {n : Nat} {ys : List V} {ls : List (List V)} (hp : PenAt c H p n) (ht : H t = some (.lst ys)) (hx : RowsAt H ys ls) : t ≠ p := by
  rintro rfl
  obtain ⟨ns, b, l, e1, _⟩ := hp
  rw [e1] at ht
  cases ht
  cases hx with
  | cons _ r => cases r
theorem rows_cell {c : Addr} {H : Hp} {p t : Addr} {n : Nat} {ys : List V} {ls : List (List V)} (hp : PenAt c H p n) (ht : H t = some (.lst ys)) (hx : RowsAt H ys ls) (h1 : 1 ≤ ls.length) : t ≠ c := by
  rintro rfl
  obtain ⟨ns, b, l, _, e1, _⟩ := hp
  rw [e1] at ht
  cases ht
  cases ns with
  | nil => cases hx; simp at h1
  | cons i r => cases hx
theorem RowsAt.flatG {ws : List Str} {ls : List (List V)} (g : ∀ l ∈ ls, GoodStep ws l) : ∀ l ∈ ls, l.all isFlat = true := fun l m => (g l m).flat
end Lay
namespace Lay
open PySem L2 PySem.Spec PyProof.Rows
theorem ixN_nat {n : Nat} {d : Int} (h0 : 0 ≤ d) (h1 : d < n) : ixN n d = some d.toNat := by
  unfold ixN
  rw [if_pos h0, if_pos h1]
theorem cut_from {xs : List V} (h : 1 ≤ xs.length) : cutV xs (some 1) none = xs.drop 1 := by
  have e : HT.sIx xs.length 0 (some 1) = 1 := by
    unfold HT.sIx
    dsimp only
    split <;> omega
  unfold cutV
  rw [e]
  show List.take (xs.length - 1) (List.drop 1 xs) = List.drop 1 xs
  rw [List.take_of_length_le (by rw [List.length_drop]; omega)]
theorem cut_to {xs : List V} (h : 1 ≤ xs.length) : cutV xs none (some 1) = xs.take 1 := by
  have e : HT.sIx xs.length xs.length (some 1) = 1 := by
    unfold HT.sIx
    dsimp only
    split <;> omega
  unfold cutV
  rw [e]
  show List.take (1 - 0) (List.drop 0 xs) = List.take 1 xs
  simp
end Lay

namespace Lay
open PySem L2 PySem.Spec PyProof.Rows
def tripD (k : Int) (z : Str) (ls : List (List V)) : PyData := .list [.int k, .str z, .list (ls.map rowD)]
theorem shaped_trip {k : Int} {z : Str} {ls : List (List V)} (hz : PyData.strOk z = true) (f : ∀ l ∈ ls, l.all isFlat = true) : SeqAt.shaped (tripD k z ls) = true := by
  have h1 := deepAll_rows ls
  have h2 : PyData.depth (tripD k z ls) ≤ 64 := by
    unfold tripD
    simp only [PyData.depth, PyData.depthAll]
    omega
  have h3 : PyData.canLay0 (tripD k z ls) = true := by
    unfold tripD
    simp only [PyData.canLay0, PyData.canLayAll0, hz, layAll_rows ls f, Bool.and_self]
  unfold SeqAt.shaped
  rw [h3, decide_eq_true h2]
  rfl
theorem eqv_trip {k k' : Int} {z z' : Str} {ls ls' : List (List V)} (f : ∀ l ∈ ls, l.all isFlat = true) (f' : ∀ l ∈ ls', l.all isFlat = true) : PyData.eqv (tripD k z ls) (tripD k' z' ls') = (decide (k = k') && (decide (z = z') && decide (ls = ls'))) := by
  unfold tripD
  simp only [PyData.eqv, PyData.eqvAll, eqvAll_rows ls ls' f f', Bool.and_true]
  rw [beq_dec, beq_dec]
theorem rd_eqTrip {K : PySem.W.Frag} {H : Hp} {Q : VK} {r r' t t' : Addr} {k k' : Int} {z z' : Str} {ys ys' : List V} {ls ls' : List (List V)} (h : TripAt H r k z t ys ls) (h' : TripAt H r' k' z' t' ys' ls') (hz : nameOk z = true) (hz' : nameOk z' = true)
    (f : ∀ l ∈ ls, l.all isFlat = true) (f' : ∀ l ∈ ls', l.all isFlat = true) (q : Q (.bl (decide (k = k') && (decide (z = z') && decide (ls = ls')))) H) : rEqD K (.ref r) (.ref r') H Q :=
  ⟨tripD k z ls, tripD k' z' ls', .lst (SqL.of h.1) (.cons (.int _) (.cons (.str _) (.cons (.lst (SqL.of h.2.1) (h.2.2.dp f)) .nil))), .lst (SqL.of h'.1) (.cons (.int _) (.cons (.str _) (.cons (.lst (SqL.of h'.2.1) (h'.2.2.dp f')) .nil))),
    shaped_trip (name_strOk hz) f, shaped_trip (name_strOk hz') f', by rw [eqv_trip f f']; exact q⟩
theorem rd_bm {K : PySem.W.Frag} {T : String} {r : V → List V → Hp → VK → Prop} {to : TE} {t : TA} {σ : L2.St} {H : Hp} {Q : VK} (h : to σ H fun x H1 => tyV K T x H1 ∧ t σ H1 fun xs H2 => r x xs H2 Q) : tBM K T r to t σ H Q := h
theorem tyV_lst {K : PySem.W.Frag} {H : Hp} {a : Addr} {xs : List V} (h : H a = some (.lst xs)) : tyV K "list" (.ref a) H := by
  first
    | exact ⟨xs, SqL.of h⟩
    | exact .inl ⟨rfl, xs, SqL.of h⟩
    | exact ⟨rfl, xs, SqL.of h⟩
    | exact .inl ⟨xs, SqL.of h⟩
theorem rd_methF {X : Cx} {m : Str} {ta : TE} {t : TA} {σ : L2.St} {H : Hp} {Q : VK} (h : ta σ H fun x H1 => ∃ a C dx fs CX k f sp E, x = .ref a ∧ H1 a = some (.ins C dx fs) ∧ fs.lookup m = none ∧ Cls X.K C ∧ Meth X.K C m f ∧ FnR X.prog X.w X.K X.mg X.base CX k f sp ∧ Room k X.A ∧ Passes CX X E ∧ t σ H1 fun vs H2 => sp (x :: vs) H2 Q E) : OwnC.tMethF X m ta t σ H Q := h
/-- with_steps(*steps) of an agent -/
theorem with_ag {C : Addr} {ws : List Str} {H : Hp} {a : Addr} {z : Str} {ls0 : List (List V)} {xs : List V} {ls : List (List V)} {Q : Addr → Hp → Prop} {Q' : VK} {E : XK} (hQ : ∀ x H, Q x H → Q' (.ref x) H) (ha : AgAt C H a z ls0) (hz : nameOk z = true) (hx : RowsAt H xs ls) (h1 : 1 ≤ ls.length) (h2 : ls.length ≤ 24) (hg : ∀ l ∈ ls, GoodStep ws l)
    (q : ∀ x H', Same H H' → AgAt C H' x z ls → Q x H') : spStar 1 (spWithT C ws) (.ref a :: xs) H Q' E := by
  have hl := hx.len
  refine ⟨[.ref a], xs, rfl, rfl, Nat.le_trans (by omega) (show 24 ≤ sizeLine by decide), fun p hp => ?_⟩
  have s := Same.upd (o := .tup xs) hp
  exact ⟨a, z, p, ls0, xs, ls, rfl, ha.mono s, hz, upd_same, hx.mono s, h1, h2, hg, fun x H' _ s' g => hQ _ _ (q x H' (s.trans s') g)⟩
theorem good_sig {k : Int} {w n : Str} (h : w = "post" ∨ w = "wait") (hn : nameOk n = true) : GoodStep (wsK k) [.str w, .str n] := by
  refine .inl ⟨w, n, rfl, ?_, ?_, hn⟩
  · rcases h with rfl | rfl <;> decide +kernel
  · unfold wsK
    split <;> (rcases h with rfl | rfl <;> decide +kernel)
end Lay

namespace PySem.W
open PySem PySem.Spec PySem.Calls PyProof.Rows
/-- an instance of an exception class of the program, with whatever dict -/
theorem exv_kitx {K : Frag} {x D : Addr} {ox : Obj} {od : Option Obj} (hga : findIn K (.ref D) "__getattribute__" = some (some (.builtin "BaseException.__getattribute__"))) (hgt : findIn K (.ref D) "__getattr__" = some none) (hsub : subIn K (.ref D) (.type "BaseException") = some true) (hdct : hasDictIn K D = true) (ha : findIn K (.ref D) "__class__" = some (some (.builtin "object.__class__")))
    (hn : specialIn K (.builtin "object.__class__") "__get__" = some (some (.builtin "getset_descriptor.__get__"))) (htk : takesIn K (.builtin "object.__class__") = some true) (hm : mroIn K D (.type "object") = some true) :
    KitX K (.ref x) (.ref D) (fun h => InstAt h x ox D od) where
  ty := fun _ _ _ I => I.type
  it := fun _ _ X _ => by
    obtain ⟨cdD, hcD, _⟩ := any_some hdct
    unfold clsIn at hcD
    split at hcD
    · rename_i c' d' cd' sl' ho
      intro A' Q' E' s' k q
      unfold isType loadHead
      exact wpAny_bind (wpAny_loadPart (k _ _ (X _ _ ho)) (wpAny_pure q))
    · cases hcD
  ne := fun h tp dd its n sl X htp => by
    obtain ⟨cdD, hcD, _⟩ := any_some hdct
    refine Bool.eq_false_iff.mpr fun q => ?_
    have e : D = tp := Value.ref.inj (beq_iff_eq.mp q)
    subst e
    unfold clsIn at hcD
    split at hcD
    · rename_i c' d' cd' sl' ho
      have z := (X _ _ ho).symm.trans htp
      cases z
    · cases hcD
  ca := fun X I k => kx_classE X I hga hgt hsub (findObj_dataE (by obtain ⟨cd, hc, _⟩ := any_some hdct; rw [hc]; rfl) ha hn htk) hm k
end PySem.W
namespace Exv
open PySem L2 PySem.Spec PyProof.Rows
/-- at a: an exception of the class cls, its own dict d -/
def exv (a : Addr) (cls : Value) (d : Option Addr) : HO := .ext fun h => ∃ (oe : Obj) (vs : Array Value), h.get? a = some oe ∧ Zc cls d oe ∧ oe.data = .fields vs
theorem exv_ok {P : Program} {w : World} {H : Hp} {h : Heap} {a : Addr} {cls : Value} {d : Option Addr} {oe : Obj} {vs : Array Value} (e : h.get? a = some oe) (z : Zc cls d oe) (hd : oe.data = .fields vs) : ObjOk P w H h a (exv a cls d) :=
  ⟨⟨oe, vs, e, z, hd⟩, ⟨oe, e⟩, fun _ _ ⟨o, v, q, r⟩ k => ⟨o, v, k o q, r⟩⟩
section
variable {X : Cx} {pins : List (Addr × Obj)} {σ : L2.St} {H : Hp} {s : Shared}
theorem exv_at {a : Addr} {cls : Value} {d : Option Addr} (I : Inv X pins σ H s) (h : H a = some (exv a cls d)) : ∃ (oe : Obj) (vs : Array Value), s.heap.get? a = some oe ∧ Zc cls d oe ∧ oe.data = .fields vs := by
  have z : ObjOk X.prog X.w H s.heap a (.ext fun h => ∃ (oe : Obj) (vs : Array Value), h.get? a = some oe ∧ Zc cls d oe ∧ oe.data = .fields vs) := I.hok a _ h
  exact z.1
/-- an exception's object that stands there, untracked and ours, is tracked -/
theorem track {a : Addr} {oe : Obj} {vs : Array Value} {cls : Value} {d : Option Addr} (I : Inv X pins σ H s) (na : H a = none) (ha : s.heap.get? a = some oe) (hz : Zc cls d oe) (hd : oe.data = .fields vs)
    (h0 : ∀ o, X.s_0.heap.get? a = some o → a ∈ X.ex) (nL : a ≠ X.env.locals) (np : ∀ p ∈ X.pn ++ pins, p.1 ≠ a) : Inv X pins σ (upd H a (exv a cls d)) s := by
  refine ⟨I.ok, I.os, I.bare, ⟨I.base.keep, I.base.slot, fun b o e n hx => ?_, I.base.there, fun b xs e => ?_, fun b o u e => ?_, fun b ps e => ?_⟩, I.loc, I.cell, ?_, fun x c e => ?_, fun p hp => ?_, fun b u e => ?_, I.len⟩
  · by_cases hb : b = a
    · subst hb; exact absurd (h0 o e) hx
    · rw [upd_ne hb]; exact I.base.free b o e n hx
  · have q := I.base.tups b xs e
    rw [upd_ne (ne_of_none q na)]; exact q
  · have q := I.base.frzs b o u e
    rw [upd_ne (ne_of_none q na)]; exact q
  · obtain ⟨m, q⟩ := I.base.tbls b ps e
    exact ⟨m, by rw [upd_ne (ne_of_none q na)]; exact q⟩
  · rw [upd_ne (Ne.symm nL)]; exact I.free
  · have hc : c ≠ a := fun z => by
      subst z
      obtain ⟨v, o, ho, hv⟩ := I.cell x c e
      rw [ha] at ho
      cases ho
      rw [hd] at hv
      cases hv
    rw [upd_ne hc]; exact I.freeC x c e
  · obtain ⟨e, n, r⟩ := I.pin p hp
    exact ⟨e, by rw [upd_ne (np p hp)]; exact n, r⟩
  · by_cases hb : b = a
    · subst hb
      rw [upd_same] at e
      cases e
      exact exv_ok ha hz hd
    · rw [upd_ne hb] at e
      exact (I.hok b u e).stay (fun _ _ _ q => q) (fun c q => by rw [upd_ne (ne_of_none q na)]; exact q) (fun c xs q => by rw [upd_ne (ne_of_none q na)]; exact q)
end
/-- what 'except x as n' wishes of an exception of the body, where the exception is kept behind the suite -/
def wAsK (K : PySem.W.Frag) (c : Value) (i : Nat) (ts : Addr → Value → Option Addr → TS) (Wout : WX) (D : Ends) : WX := fun cls d σ H =>
  ∃ b, PySem.W.exmOne K cls c = some b ∧ (b = true → ∀ a, H a = none → ts a cls d { nx := fun σ' H' => H' a = none → D.nx (σ'.set i none) (upd H' a (exv a cls d)), rt := fun v H' => H' a = none → D.rt v (upd H' a (exv a cls d)), bk := fun σ' H' => H' a = none → D.bk (σ'.set i none) (upd H' a (exv a cls d)), ct := fun σ' H' => H' a = none → D.ct (σ'.set i none) (upd H' a (exv a cls d)) } (σ.set i (some (.ref a))) H) ∧
    (b = false → Wout cls d σ H)
section
variable {X : Cx} {pins : List (Addr × Obj)} {σ : L2.St} {H : Hp} {s : Shared}
variable {x n : Str} {c : Value} {i : Nat} {body suite : List Stmt} {b₀ : Stmt} {np pos pos' : Pos} {tb : WX → TS} {ts : Addr → Value → Option Addr → TS} {Wout : WX}
theorem ps_try_asK (hs : X.stack = X.env :: X.outer) (hf : X.env.frame = some X.env.locals) (hN : X.N.Nodup) (hi : X.N[i]? = some n) (hln : X.env.kindOf n = some .local) (hc : Names X x c) (tk : Takes X Wout)
    (hb : ∀ (W : WX) (pn : List (Addr × Obj)) (xe : Value → Shared → Prop), Takes (X.tr pn xe) W → PassesOwn (model X.prog X.w) X.A X.env xe → PSs (X.tr pn xe) body (tb W))
    (hsu : ∀ (a : Addr) (oe : Obj) (cls : Value) (d : Option Addr) (pn : List (Addr × Obj)), Zc cls d oe → (∃ vs, oe.data = .fields vs) → PSs (X.suite a ((a, oe) :: pn)) (b₀ :: suite) (ts a cls d)) :
    PS X (.Try body [.ExceptHandler (some (.Name x np)) (some n) (b₀ :: suite) pos'] [] [] pos) (fun D σ H => tb (wAsK X.K c i ts Wout D) D σ H) := by
  refine ⟨fun pins s σ H D I h => ?_⟩
  have ok := I.ok
  have hfr : X.A.frames = some (X.env :: X.outer) := by rw [ok.frames, hs]
  have hloc : Loc X.env.scope n := .inl hln
  refine wpAny_Try_except ?_
  refine wpAny_mono ((hb (wAsK X.K c i ts Wout D) (X.pn ++ pins) (fun e s₁ => wpAny (model X.prog X.w) X.A (noteFrame e X.env) (fun _ s₂ => wpAny (model X.prog X.w) X.A (setFlight e none) (fun _ s₃ =>
    wpAny (model X.prog X.w) X.A (handleBy e X.env [.ExceptHandler (some (.Name x np)) (some n) (b₀ :: suite) pos']) (SP X pins D) X.xe s₃) X.xe s₂) X.xe s₁) (fun u s' xx => ?_) PassesOwn.looking).run [] s σ H D (I.toTry _) h) (fun f s1 hsp => ?_) (fun e s1 he => he)
  · -- the catch
    obtain ⟨a, B, sI, pins', σ', H', cls, d, rfl, J', nb, up, sky, na, os, ag, b, hb1, hyes, hno⟩ := xx
    have J : Inv X pins σ' H' sI := J'.ofTry ok
    have sky' : Sky B (X.env :: X.outer) a (Zc cls d) X.env.locals s'.heap := by rw [← hs]; exact sky
    show wpAny (model X.prog X.w) X.A (noteFrame (.ref a) X.env) _ _ _
    refine Sky.land Zc.steady hfr hf sky' fun h3 fl3 up3 => ?_
    have J3 : Inv X pins σ' H' { s' with heap := h3 } := J.landed nb fl3.1 (up.trans up3) os ag
    obtain ⟨oe3, vs3, he3, hz3, hd3⟩ := fl3.there
    have notFr : ∀ {h : Heap} {o : Obj} {vs : Array Value}, h.FunFrames B (X.env :: X.outer) → h.get? a = some o → o.data = .fields vs → a ∉ frs (X.env :: X.outer) := fun {h o vs} ff e dd hm => by
      obtain ⟨_, o', e', hnf⟩ := ff.mem hm
      rw [e] at e'; cases e'
      exact hnf _ dd
    have nfr := notFr fl3.2.2.1 he3 hd3
    have nL : a ≠ X.env.locals := fun z => nfr (List.mem_filterMap.mpr ⟨X.env, List.mem_cons_self, by rw [hf, z]⟩)
    have nF : a ∉ X.fs := fun hm => by
      obtain ⟨e, he, q⟩ := List.mem_filterMap.mp hm
      exact nfr (List.mem_filterMap.mpr ⟨e, List.mem_cons_of_mem _ he, q⟩)
    have noI : ∀ o, sI.heap.get? a = some o → False := fun o e => by
      have z := nb a o e (by rw [hs]; exact nfr)
      rw [fl3.2.1] at z
      cases z
    have h0 : ∀ o, X.s_0.heap.get? a = some o → a ∈ X.ex := fun o e => Classical.byContradiction fun hx => by
      obtain ⟨o', e'⟩ := J.base.there a o e hx
      exact noI o' e'
    have npp : ∀ p ∈ X.pn ++ pins, p.1 ≠ a := fun p hp z => by
      have e := (J.pin p hp).1
      rw [z] at e
      exact noI _ e
    have S3 := J3.suite he3 hd3 na nL nF
    refine wpAny_handleBy_cons (codeAny_handlers_test ?_) (by intro q; cases q)
    have LT : PySem.W.Looks (model X.prog X.w) h3 (typeOf (.ref a)) cls := fun A Q E s k q => wpAny_typeOf_ref (k _ _ he3) (by rw [hz3.1]; exact q)
    have LM := PySem.W.exm_one (M := model X.prog X.w) (J3.kIn) LT hb1
    have test : ∀ {Q : Value → Shared → Prop} {E : Value → Shared → Prop}, Q c { s' with heap := h3 } → wpAny (model X.prog X.w) (X.A.mark (some (.ref a))) (eval (.Name x np) X.env) Q E { s' with heap := h3 } := fun {Q E} q => by
      obtain ⟨hg, hdbg, hm | ⟨hm, hv, hnn⟩⟩ := hc
      · exact ld_glob (X := X.suite a ((a, oe3) :: (X.pn ++ pins))) S3 hg hm q hdbg
      · exact ld_blt (X := X.suite a ((a, oe3) :: (X.pn ++ pins))) S3 hg hm hv q hnn hdbg
    refine test (LM.here ?_)
    cases b with
    | true =>
      refine codeAny_handlers_suite_as ?_
      refine HandSPX.lands_againZ fl3 fun h4 fl4 up4 => ?_
      have J4 : Inv X pins σ' H' { s' with heap := h4 } := J.landed nb fl4.1 ((up.trans up3).trans up4) os ag
      obtain ⟨oe4, vs4, he4, hz4, hd4⟩ := fl4.there
      have S4 := J4.suite he4 hd4 na nL nF
      refine store_ok (X := X.suite a ((a, oe4) :: (X.pn ++ pins))) (v := .ref a) S4 hN hi hloc rfl (fun s5 S5 => ?_) (.inr hln)
      refine wpAny_mono ((hsu a oe4 cls d (X.pn ++ pins) hz4 ⟨_, hd4⟩).run [] s5 _ H' _ S5 (hyes rfl a na)) (fun f s6 hsp => ?_) (fun _ _ z => False.elim z)
      have end_ : ∀ {σ6 : L2.St} {H6 : Hp} {Q : Shared → Prop}, Inv (X.suite a ((a, oe4) :: (X.pn ++ pins))) [] σ6 H6 s6 → (H6 a = none → ∀ s7, Inv X pins (σ6.set i none) (upd H6 a (exv a cls d)) s7 → Q s7) →
          wpAny (model X.prog X.w) X.A (do bindName X.env n .none; unbindBehindTheSuite X.env n pos') (fun _ s7 => Q s7) X.xe s6 := fun {σ6 H6 Q} S6 hq => by
        obtain ⟨ha6, na6, _⟩ := S6.pin (a, oe4) (List.mem_append_left _ List.mem_cons_self)
        exact gone_ok (track (S6.unsuite ok) na6 ha6 hz4 hd4 h0 nL npp) hN hi hln (hq na6)
      cases f with
      | next =>
        obtain ⟨σ6, H6, S6, q6⟩ := hsp
        exact end_ S6 fun n6 s7 J7 => ⟨_, _, J7, q6 n6⟩
      | brk =>
        obtain ⟨σ6, H6, S6, q6⟩ := hsp
        exact end_ S6 fun n6 s7 J7 => ⟨_, _, J7, q6 n6⟩
      | cont =>
        obtain ⟨σ6, H6, S6, q6⟩ := hsp
        exact end_ S6 fun n6 s7 J7 => ⟨_, _, J7, q6 n6⟩
      | ret u =>
        obtain ⟨v6, σ6, H6, S6, r6, q6⟩ := hsp
        exact end_ S6 fun n6 s7 J7 => ⟨_, _, _, J7, r6, q6 n6⟩
    | false =>
      show wpAny _ X.A (handleBy (.ref a) X.env []) _ _ _
      refine wpAny_handleBy_nil ?_
      obtain ⟨k1, k2, k3, oe, vs, T, oT, ts', he, hz, hd, h1, hr⟩ := id fl3
      unfold PySem.passOn
      refine wpAny_bind (wpAny_field he hd h1 ?_)
      rw [if_neg (show ¬ ((Value.ref T == Value.none) = true) from by simp)]
      have fin : wpAny (model X.prog X.w) X.A (setFlight (.ref a) X.env.frame) (fun _ s4 => wpAny (model X.prog X.w) X.A (throw (.ref a) : Sem Flow) (SP X pins D) X.xe s4) X.xe { s' with heap := h3 } := by
        rw [hf]
        refine HandSPX.setFlight_upZ fl3 fun h4 hh4 up4 => wpAny_throw (tk _ _ ?_)
        exact ⟨a, B, sI, pins, σ', H', cls, d, rfl, J, nb, (up.trans up3).trans up4, .inr (.inr (by rw [hs]; exact hh4)), na, os, ag, hno rfl⟩
      first
        | exact wpAny_bind (wpAny_pure (wpAny_bind fin))
        | exact wpAny_bind fin
  · cases f with
    | next =>
      obtain ⟨σ', H', J', q⟩ := hsp
      exact wpAny_execs_nil ⟨σ', H', J'.ofTry ok, q⟩
    | brk =>
      obtain ⟨σ', H', J', q⟩ := hsp
      exact ⟨σ', H', J'.ofTry ok, q⟩
    | cont =>
      obtain ⟨σ', H', J', q⟩ := hsp
      exact ⟨σ', H', J'.ofTry ok, q⟩
    | ret u =>
      obtain ⟨v, σ', H', J', r, q⟩ := hsp
      exact ⟨v, σ', H', J'.ofTry ok, r, q⟩
end
/-! ### fields, isinstance of a kept exception -/
/-- e.f of a kept exception -/
def tXv (K : PySem.W.Frag) (n : Str) (te : TE) : TE := fun σ H Q => te σ H fun x H1 => ∃ (a C dd : Addr) (fs : List (Str × V)) (v : V), x = .ref a ∧ H1 a = some (exv a (.ref C) (some dd)) ∧ H1 dd = some (.xd fs) ∧ XfC K C ∧ PySem.W.findIn K (.ref C) n = some none ∧ fs.lookup n = some v ∧ Q v H1
theorem rd_xv {K : PySem.W.Frag} {n : Str} {te : TE} {σ : L2.St} {H : Hp} {Q : VK} (h : te σ H fun x H1 => ∃ (a C dd : Addr) (fs : List (Str × V)) (v : V), x = .ref a ∧ H1 a = some (exv a (.ref C) (some dd)) ∧ H1 dd = some (.xd fs) ∧ XfC K C ∧ PySem.W.findIn K (.ref C) n = some none ∧ fs.lookup n = some v ∧ Q v H1) : tXv K n te σ H Q := h
theorem inst_at {X : Cx} {pins : List (Addr × Obj)} {σ : L2.St} {H : Hp} {s : Shared} {a C dd : Addr} {fs : List (Str × V)} (I : Inv X pins σ H s) (ha : H a = some (exv a (.ref C) (some dd))) (ed : H dd = some (.xd fs)) :
    ∃ (oe od : Obj) (mA : Str → Option Value), PySem.W.InstAt s.heap a oe C (some od) ∧ (∀ f, RelO (fs.lookup f) (mA f)) ∧ ∀ n, PySem.W.lookIn n od = some (mA n) := by
  obtain ⟨oe, vs, e1, hz, hd⟩ := exv_at I ha
  have hx : ObjOk X.prog X.w H s.heap dd (.xd fs) := I.hok dd _ ed
  obtain ⟨mA, hns, hr⟩ := hx
  obtain ⟨od, ho, hl⟩ := lookIn_ns hns
  exact ⟨oe, od, mA, ⟨e1, hz.1, by unfold PySem.W.notCls; rw [hd] <;> rfl, by rw [hz.2]; exact ho⟩, hr, fun n => hl n⟩
theorem pe_xv {X : Cx} {e : Expr} {te : TE} {pos : Pos} {n : Str} (he : PE X e te) (hb : attributeBase e n X.env (eval e X.env) = eval e X.env := by rfl) : PE X (.Attribute e n pos) (tXv X.K n te) := by
  refine ⟨fun pins s σ H Q I h => ?_⟩
  refine attr_of hb (thn (he.run pins s σ H _ I h) fun u s1 hh => ?_)
  obtain ⟨x, H1, I1, rx, a, C, dd, fs, v, ex, ea, ed, T, hno, l, q⟩ := hh
  subst ex
  obtain rfl : u = Value.ref a := rx
  obtain ⟨oe, od, mA, J, hr, hl⟩ := inst_at I1 ea ed
  obtain ⟨u, hu, ru⟩ := RelO.some_of (v := v) (o := mA n) (by rw [← l]; exact hr n)
  exact HandSPX.exc_get I1.kIn J T.ga T.gg T.exC (PySem.W.findObj_own T.hdC hno rfl (by rw [hl, hu])) (handed_of ru) ⟨v, H1, I1.tok _, ru, q⟩
/-- a value's type, kept exceptions too -/
inductive TyW (K : PySem.W.Frag) (H : Hp) : V → Value → Prop
  | old {x : V} {t : Value} (h : TyX K H x t) : TyW K H x t
  | exc {a C d : Addr} {fs : List (Str × V)} (h : H a = some (exv a (.ref C) (some d))) (hd : H d = some (.xd fs)) (c : ExcC K C) : TyW K H (.ref a) (.ref C)
  | exn {a C : Addr} (h : H a = some (exv a (.ref C) none)) (c : ExcC K C) : TyW K H (.ref a) (.ref C)
theorem kit_ofW {X : Cx} {pins : List (Addr × Obj)} {σ : L2.St} {H : Hp} {s : Shared} {x : V} {u t : Value} (I : Inv X pins σ H s) (rx : RelV x u) (ty : TyW X.K H x t) : ∃ P : Heap → Prop, PySem.W.KitX X.K u t P ∧ P s.heap ∧ u ≠ .builtin "__main__.__loader__#opaque" := by
  cases ty with
  | old h => exact kit_of I rx h
  | @exc a C d fs ha hd c =>
    cases (show u = Value.ref a from rx)
    obtain ⟨oe, od, mA, J, _⟩ := inst_at I ha hd
    exact ⟨_, PySem.W.exv_kitx c.hg c.hk c.hs c.hd c.ha c.hn c.ht c.hm, J, fun z => nomatch z⟩
  | @exn a C ha c =>
    cases (show u = Value.ref a from rx)
    obtain ⟨oe, vs, e1, hz, hd⟩ := exv_at I ha
    have J : PySem.W.InstAt s.heap a oe C none := ⟨e1, hz.1, by unfold PySem.W.notCls; rw [hd] <;> rfl, by rw [hz.2]; exact trivial⟩
    exact ⟨_, PySem.W.exv_kitx c.hg c.hk c.hs c.hd c.ha c.hn c.ht c.hm, J, fun z => nomatch z⟩
def rIsiW (K : PySem.W.Frag) : List V → Hp → VK → Prop := fun xs H Q => ∃ (x c : V) (t u : Value) (b : Bool), xs = [x, c] ∧ ClsV c u ∧ TyW K H x t ∧ PySem.W.kitOne K t u = some b ∧ Q (.bl b) H
def rIsiTW (K : PySem.W.Frag) : List V → Hp → VK → Prop := fun xs H Q => ∃ (x : V) (tp : Addr) (cs : List V) (t : Value) (us : List Value) (b : Bool), xs = [x, .ref tp] ∧ H tp = some (.tup cs) ∧ Paired ClsV cs us ∧ TyW K H x t ∧ PySem.W.kitAny K t us = some b ∧ Q (.bl b) H
theorem rd_isiW {K : PySem.W.Frag} {H : Hp} {Q : VK} {x c : V} {t u : Value} (b : Bool) (hc : ClsV c u) (hx : TyW K H x t) (h : PySem.W.kitOne K t u = some b) (q : Q (.bl b) H) : rIsiW K [x, c] H Q := ⟨x, c, t, u, b, rfl, hc, hx, h, q⟩
theorem rd_isiTW {K : PySem.W.Frag} {H : Hp} {Q : VK} {x : V} {tp : Addr} {cs : List V} {t : Value} {us : List Value} (b : Bool) (ht : H tp = some (.tup cs)) (hc : Paired ClsV cs us) (hx : TyW K H x t) (h : PySem.W.kitAny K t us = some b) (q : Q (.bl b) H) : rIsiTW K [x, .ref tp] H Q := ⟨x, tp, cs, t, us, b, rfl, ht, hc, hx, h, q⟩
section
variable {X : Cx}
theorem call_isiW : CallR X (.builtin "isinstance") (rIsiW X.K) := by
  intro pins s σ H xs us Q I r h
  obtain ⟨x, c, t, u, b, rfl, k, ty, e, q⟩ := h
  obtain ⟨u1, u2, rfl, r1, r2⟩ := vals2 r
  have e2 := k.eq r2
  subst e2
  obtain ⟨P, Z, p, hx⟩ := kit_ofW I r1 ty
  exact PySem.W.kia_one Z I.kIn p e hx fun tk => ⟨.bl b, H, I.tok tk, rfl, q⟩
theorem call_isiTW : CallR X (.builtin "isinstance") (rIsiTW X.K) := by
  intro pins s σ H xs us Q I r h
  obtain ⟨x, tp, cs, t, ws, b, rfl, hT, k, ty, e, q⟩ := h
  obtain ⟨u1, u2, rfl, r1, r2⟩ := vals2 r
  cases (show u2 = Value.ref tp from r2)
  obtain ⟨P, Z, p, hx⟩ := kit_ofW I r1 ty
  obtain ⟨_, its, rv, o, h1, h2, n, h3⟩ := (show ObjOk X.prog X.w H s.heap tp (.tup cs) from I.hok tp _ hT)
  have e3 := ClsV.all k rv
  subst e3
  obtain ⟨oc, od, dt, sl⟩ := o
  simp only at h2 h3
  subst h2 h3
  exact PySem.W.kia_tup Z I.kIn p h1 e hx fun tk => ⟨.bl b, H, I.tok tk, rfl, q⟩
end
/-! ### an exception made, as a value -/
theorem pe_of_mk {X : Cx} {e : Expr} {t : L2.St → Hp → XK → Prop} (h : PMk X e t) : PE X e (fun σ H Q => t σ H fun cls d H1 => ∀ a, H1 a = none → Q (.ref a) (upd H1 a (exv a cls d))) := by
  refine ⟨fun pins s σ H Q I q => ?_⟩
  refine wpAny_mono (h pins s σ H _ I q) (fun u s1 hu => ?_) fun _ _ x => x
  obtain ⟨a, oe, vs, sI, H1, cls, d, rfl, J, k, hne, ha, hz, hd, h1, na, os, ag, _, qq⟩ := hu
  refine ⟨.ref a, upd H1 a (exv a cls d), ?_, rfl, qq a na⟩
  exact J.call' (ch := []) os (Un.laidN k hne na) (J.hok.laidN k na (exv_ok ha hz hd)) ag (fun b z => absurd z (by simp))
/-! ### an instance made where __init__ may raise: what is raised is wished for at the slots -/
def tMakeS (C : Addr) (sp : Sp) (dvs : List V) (E : L2.St → XK) (t : TA) : TE := fun σ H Q => t σ H fun vs H1 => ∀ x dx, H1 x = none → H1 dx = none → dx ≠ x →
  sp (.ref x :: (vs ++ dvs)) (upd (upd H1 dx (.own x)) x (.ins C dx [])) (fun v H2 => v = .non ∧ Q (.ref x) H2) (E σ)
theorem rd_makeS {C : Addr} {sp : Sp} {dvs : List V} {E : L2.St → XK} {t : TA} {σ : L2.St} {H : Hp} {Q : VK} (h : t σ H fun vs H1 => ∀ x dx, H1 x = none → H1 dx = none → dx ≠ x →
  sp (.ref x :: (vs ++ dvs)) (upd (upd H1 dx (.own x)) x (.ins C dx [])) (fun v H2 => v = .non ∧ Q (.ref x) H2) (E σ)) : tMakeS C sp dvs E t σ H Q := h
def tMakeKS (C : Addr) (n m : Nat) (sp : Sp) (gV : List V → List V → List V) (E : L2.St → XK) (t tk : TA) : TE := fun σ H Q => t σ H fun vs H1 => tk σ H1 fun zs H2 => vs.length = n ∧ zs.length = m ∧ ∀ x dx, H2 x = none → H2 dx = none → dx ≠ x →
  sp (gV (.ref x :: vs) zs) (upd (upd H2 dx (.own x)) x (.ins C dx [])) (fun v H3 => v = .non ∧ Q (.ref x) H3) (E σ)
theorem rd_makeKS {C : Addr} {n m : Nat} {sp : Sp} {gV : List V → List V → List V} {E : L2.St → XK} {t tk : TA} {σ : L2.St} {H : Hp} {Q : VK} (h : t σ H fun vs H1 => tk σ H1 fun zs H2 => vs.length = n ∧ zs.length = m ∧ ∀ x dx, H2 x = none → H2 dx = none → dx ≠ x →
  sp (gV (.ref x :: vs) zs) (upd (upd H2 dx (.own x)) x (.ins C dx [])) (fun v H3 => v = .non ∧ Q (.ref x) H3) (E σ)) : tMakeKS C n m sp gV E t tk σ H Q := h
section
variable {X : Cx} {CX : CXT} {k n : Nat} {f C : Addr} {fd : FuncData} {ps ks : List Str} {sp : Sp} {E : L2.St → XK} {x : Str} {p pos : Pos} {e : Expr} {es : List Expr} {kws : List Keyword} {t tk : TA} {g : List Value → List Value → List Value} {gV : List V → List V → List V} {ds : List Value} {dvs : List V}
theorem run_makeS {pins : List (Addr × Obj)} {σ : L2.St} {H : Hp} {s : Shared} {Q : VK} {us : List Value} {vs : List V} (M : Mk X.K C f) (F : FnOk X.prog X.w X.K X.mg X.base CX k f fd ps sp) (hr : Room (k + 1) X.A) (hb : Binds X.K fd ps ds) (hd : Vals dvs ds)
    (hx : PassesAt CX X σ (E σ)) (I : Inv X pins σ H s) (r : Vals vs us)
    (h : ∀ x dx, H x = none → H dx = none → dx ≠ x → sp (.ref x :: (vs ++ dvs)) (upd (upd H dx (.own x)) x (.ins C dx [])) (fun v H2 => v = .non ∧ Q (.ref x) H2) (E σ)) :
    wpAny (model X.prog X.w) X.A (call (.ref C) us) (EP X pins σ Q) X.xe s := by
  have hq := h (s.heap.objs.size + 1) s.heap.objs.size (I.hok.fresh (Nat.le_succ _)) (I.hok.fresh (Nat.le_refl _)) (Nat.ne_of_lt (Nat.lt_succ_self _))
  have I2 := Inv.made (C := C) I
  have r2 : Vals (V.ref (s.heap.objs.size + 1) :: (vs ++ dvs)) (Value.ref (s.heap.objs.size + 1) :: (us ++ ds)) := .cons rfl (r.append hd)
  have hl : (Value.ref (s.heap.objs.size + 1) :: us ++ ds).length = ps.length := by
    have e := r2.length
    rw [F.len _ _ _ _ hq] at e
    exact e.symm
  refine wpAny_call (make_map (f := f) I.kIn M.makes M.init (beq_iff_eq.mp M.fn) (codeAny_mono (F.run _ X.stack _ _ ⟨Value.ref (s.heap.objs.size + 1) :: us, []⟩ (Value.ref (s.heap.objs.size + 1) :: (us ++ ds)) _ _ (E σ) (hr.make C us [])
    (I2.env0.make C us []) (hb _ (Value.ref (s.heap.objs.size + 1) :: us) I2.kIn hl) r2 hq) fun r s' hq' => ?_))
  cases r with
  | error e => exact hx pins _ _ e s' I2 hq'
  | ok fl =>
    cases fl with
    | ret u =>
      obtain ⟨v, H', I3, rv, ev, q3⟩ := I2.after hq'
      subst ev
      exact ⟨rv, ⟨V.ref (s.heap.objs.size + 1), H', I3, rfl, q3⟩⟩
    | next => exact False.elim hq'
    | brk => exact False.elim hq'
    | cont => exact False.elim hq'
theorem pe_makeS (M : Mk X.K C f) (F : FnOk X.prog X.w X.K X.mg X.base CX k f fd ps sp) (hr : Room (k + 1) X.A) (hg : Gl X x) (hm : X.mg x = some (.ref C)) (hb : Binds X.K fd ps ds) (hd : Vals dvs ds) (hx : ∀ σ, PassesAt CX X σ (E σ))
    (ha : PA X (e :: es) t) (hdb : (x == ("__debug__" : Str)) = false := by decide) (he : starEach (e :: es) X.env = (false, eval e X.env) :: starEach es X.env := by rfl) (hpl : (backTo pos (starEach es X.env)).any (·.1) = false := by rfl) :
    PE X (.Call (.Name x p) (e :: es) [] pos) (tMakeS C sp dvs E t) := by
  refine ⟨fun pins s σ H Q I h => ?_⟩
  refine wpAny_Call_Name_kw (ld_glob I hg hm ?_ hdb)
  refine PySem.W.callWith_K (h₀ := X.base) I.ok.mod.kin M.kp (thn (ha.run pos pins s σ H _ I h) fun us s1 ⟨vs, H1, I1, r, q⟩ => ⟨I1.kIn, ?_⟩) he hpl
  exact run_makeS M F hr hb hd (hx σ) I1 r q
theorem run_makeKS {pins : List (Addr × Obj)} {σ : L2.St} {H : Hp} {s : Shared} {Q : VK} {us ws : List Value} {vs zs : List V} (M : Mk X.K C f) (F : FnOk X.prog X.w X.K X.mg X.base CX k f fd ps sp) (hr : Room (k + 1) X.A) (hb : KBn X.K fd ps (n + 1) ks g gV) (hx : PassesAt CX X σ (E σ))
    (I : Inv X pins σ H s) (r : Vals vs us) (rz : Vals zs ws) (l1 : vs.length = n) (l2 : zs.length = ks.length)
    (h : ∀ x dx, H x = none → H dx = none → dx ≠ x → sp (gV (.ref x :: vs) zs) (upd (upd H dx (.own x)) x (.ins C dx [])) (fun v H2 => v = .non ∧ Q (.ref x) H2) (E σ)) :
    wpAny (model X.prog X.w) X.A (call (.ref C) us (ks.zip ws)) (EP X pins σ Q) X.xe s := by
  have hq := h (s.heap.objs.size + 1) s.heap.objs.size (I.hok.fresh (Nat.le_succ _)) (I.hok.fresh (Nat.le_refl _)) (Nat.ne_of_lt (Nat.lt_succ_self _))
  have I2 := Inv.made (C := C) I
  have r1 : Vals (V.ref (s.heap.objs.size + 1) :: vs) (Value.ref (s.heap.objs.size + 1) :: us) := .cons rfl r
  have r2 := hb.rel r1 rz
  have n1 : (Value.ref (s.heap.objs.size + 1) :: us).length = n + 1 := by
    rw [List.length_cons, ← r.length, l1]
  refine wpAny_call (make_map (f := f) I.kIn M.makes M.init (beq_iff_eq.mp M.fn) (codeAny_mono (F.run _ X.stack _ _ ⟨Value.ref (s.heap.objs.size + 1) :: us, ks.zip ws⟩ (g (Value.ref (s.heap.objs.size + 1) :: us) ws) _ _ (E σ) (hr.make C us (ks.zip ws))
    (I2.env0.make C us (ks.zip ws)) (hb.to _ (Value.ref (s.heap.objs.size + 1) :: us) ws I2.kIn n1 (rz.length.symm.trans l2)) r2 hq) fun r s' hq' => ?_))
  cases r with
  | error e => exact hx pins _ _ e s' I2 hq'
  | ok fl =>
    cases fl with
    | ret u =>
      obtain ⟨v, H', I3, rv, ev, q3⟩ := I2.after hq'
      subst ev
      exact ⟨rv, ⟨V.ref (s.heap.objs.size + 1), H', I3, rfl, q3⟩⟩
    | next => exact False.elim hq'
    | brk => exact False.elim hq'
    | cont => exact False.elim hq'
/-- C(k = v, ..) -/
theorem pe_makeKS0 (M : Mk X.K C f) (F : FnOk X.prog X.w X.K X.mg X.base CX k f fd ps sp) (hr : Room (k + 1) X.A) (hg : Gl X x) (hm : X.mg x = some (.ref C)) (hb : KBn X.K fd ps 1 ks g gV) (hx : ∀ σ, PassesAt CX X σ (E σ)) (hkw : PK X kws tk)
    (hall : (backToKw pos (keywordEach kws X.env)).all (·.1.isSome) = true := by rfl) (hks : (backToKw pos (keywordEach kws X.env)).filterMap (·.1) = ks := by rfl) (hdb : (x == ("__debug__" : Str)) = false := by decide)
    (hpl : ((backTo pos (starEach [] X.env)).any (·.1) || (backToKw pos (keywordEach kws X.env)).any (·.1.isNone)) = false := by rfl) :
    PE X (.Call (.Name x p) [] kws pos) (tMakeKS C 0 ks.length sp gV E tNil tk) := by
  refine ⟨fun pins s σ H Q I h => ?_⟩
  refine wpAny_Call_Name_kw (ld_glob I hg hm ?_ hdb)
  refine PySem.W.callWith_KW0 (h₀ := X.base) I.ok.mod.kin M.kp hall ?_ hpl
  refine thn (hkw.run pos pins s σ H _ I h) fun ws s2 ⟨zs, H2, I2, rz, l1, l2, q2⟩ => ⟨I2.kIn, ?_⟩
  rw [hks]
  exact run_makeKS (us := []) (vs := []) M F hr hb (hx σ) I2 .nil rz rfl l2 q2
end
end Exv

namespace Lay
open PySem L2 PySem.Spec PyProof.Rows Exv
/-! ### text * number -/
def repS (z : Str) (n : Nat) : Str := ⟨(List.replicate n z.cps).foldl (· ++ ·) #[]⟩
def rMulS : R2 := fun x y H Q => ∃ z k, x = .str z ∧ y = .int k ∧ 1 ≤ k ∧ z.length * k.toNat ≤ 100000 ∧ k ≤ 100000 ∧ Q (.str (repS z k.toNat)) H
theorem rd_mulS {z : Str} {k : Int} {H : Hp} {Q : VK} (h1 : 1 ≤ k) (h2 : z.length * k.toNat ≤ 100000) (h3 : k ≤ 100000) (q : Q (.str (repS z k.toNat)) H) : rMulS (.str z) (.int k) H Q := ⟨z, k, rfl, rfl, h1, h2, h3, q⟩
theorem repS_len (z : Str) (n : Nat) : (repS z n).length = z.length * n := by
  have key : ∀ (n : Nat) (b : Array Nat), ((List.replicate n z.cps).foldl (· ++ ·) b).size = b.size + z.length * n := by
    intro n
    induction n with
    | zero => intro b; simp
    | succ n ih =>
      intro b
      rw [List.replicate_succ, List.foldl_cons, ih, Array.size_append, Nat.mul_succ]
      have : z.cps.size = z.length := rfl
      omega
  have := key n #[]
  rw [show (#[] : Array Nat).size = 0 from rfl, Nat.zero_add] at this
  exact this
theorem repS_one (z : Str) : repS z 1 = z := by
  unfold repS
  simp
theorem repS_zero {z : Str} (h : z.length = 0) (n : Nat) : repS z n = z := by
  have e : z.cps = #[] := Array.eq_empty_of_size_eq_zero h
  unfold repS
  obtain ⟨c⟩ := z
  cases e
  have : ∀ n : Nat, (List.replicate n (#[] : Array Nat)).foldl (· ++ ·) #[] = #[] := by
    intro n
    induction n with
    | zero => rfl
    | succ n ih => rw [List.replicate_succ, List.foldl_cons]; exact ih
  rw [this]
theorem op_mulS {X : Cx} : OpR X (binaryOp .Mult) rMulS := by
  intro pins s σ H x y v u Q I rx ry h
  obtain ⟨z, k, rfl, rfl, h1, h2, h3, q⟩ := h
  obtain ⟨t, rfl⟩ := rx
  obtain ⟨t', rfl⟩ := ry
  have hr : (decide (k < -(2 ^ 63 : Int)) || decide (k ≥ 2 ^ 63)) = false := by
    rw [decide_eq_false (by omega), decide_eq_false (by omega)]; rfl
  refine PySem.P.mul_str hr (fun _ _ => ?_) (fun _ _ => ?_) ?_
  · have h4 : (z.length : Int) ≤ 100000 := by
      have : z.length * 1 ≤ z.length * k.toNat := Nat.mul_le_mul_left _ (by omega)
      omega
    have : (100000 : Int) ≤ (2 ^ 63 - 1) / k := by
      refine Int.le_ediv_of_mul_le (by omega) ?_
      omega
    omega
  · unfold PySem.Builtin.Str.tooLong
    have := (show (100000 : Nat) ≤ sizeLine by decide)
    simp
    omega
  · rw [if_neg (by omega : ¬ k < 1)]
    split
    · rename_i hh
      have e : repS z k.toNat = z := by
        rcases Bool.or_eq_true_iff.mp hh with e | e
        · have e' := beq_iff_eq.mp e
          subst e'
          exact repS_one z
        · exact repS_zero (beq_iff_eq.mp e) _
      rw [e] at q
      exact ⟨.str z, H, I, ⟨_, rfl⟩, q⟩
    · exact ⟨by have e := repS_len z k.toNat; unfold repS at e; rw [e]; exact Nat.le_trans h2 (by decide), .str _, H, I.tok _, ⟨_, rfl⟩, q⟩
end Lay

namespace Lay
open PySem L2 PySem.Spec PyProof.Rows Exv
theorem kit_ownB {K : PySem.W.Frag} {C : Addr} {T : String} {b : Bool} (h : PySem.W.subIn K (.ref C) (.type T) = some b) (m : PySem.W.kitMeta T = true := by decide +kernel) : PySem.W.kitOne K (.ref C) (.type T) = some b := by
  unfold PySem.W.kitOne
  rw [if_neg (fun z => by cases eq_of_beq z)]
  unfold PySem.W.kitCls
  dsimp only
  rw [if_pos m]
  exact h
/-- an error of the class C that is kept, with its fields -/
def ErrAt (C : Addr) (H : Hp) (a : Addr) (fs : List (Str × V)) : Prop := ∃ d, H a = some (exv a (.ref C) (some d)) ∧ H d = some (.xd fs)
theorem ErrAt.mono {C : Addr} {H H' : Hp} {a : Addr} {fs : List (Str × V)} (s : Same H H') (h : ErrAt C H a fs) : ErrAt C H' a fs := by
  obtain ⟨d, h1, h2⟩ := h
  exact ⟨d, s _ _ h1, s _ _ h2⟩
theorem ErrAt.keep {C : Addr} {H H' : Hp} {p a : Addr} {fs : List (Str × V)} {xs : List V} (hp : H p = some (.lst xs)) (s : Keep p H H') (h : ErrAt C H a fs) : ErrAt C H' a fs := by
  obtain ⟨d, h1, h2⟩ := h
  refine ⟨d, s _ _ (fun z => ?_) h1, s _ _ (fun z => ?_) h2⟩
  · subst z; rw [h1] at hp; cases hp
  · subst z; rw [h2] at hp; cases hp
theorem ErrAt.ty {K : PySem.W.Frag} {C : Addr} {H : Hp} {a : Addr} {fs : List (Str × V)} (c : ExcC K C) (h : ErrAt C H a fs) : TyW K H (.ref a) (.ref C) := by
  obtain ⟨d, h1, h2⟩ := h
  exact .exc h1 h2 c
theorem rd_err {K : PySem.W.Frag} {C : Addr} {n : Str} {te : TE} {σ : L2.St} {H H1 : Hp} {Q : VK} {a : Addr} {fs : List (Str × V)} {v : V} (T : XfC K C) (hn : PySem.W.findIn K (.ref C) n = some none) (l : fs.lookup n = some v) (h : ErrAt C H1 a fs) (q : Q v H1) :
    ∃ (a' C' dd : Addr) (fs : List (Str × V)) (v : V), V.ref a = .ref a' ∧ H1 a' = some (exv a' (.ref C') (some dd)) ∧ H1 dd = some (.xd fs) ∧ XfC K C' ∧ PySem.W.findIn K (.ref C') n = some none ∧ fs.lookup n = some v ∧ Q v H1 := by
  obtain ⟨d, h1, h2⟩ := h
  exact ⟨a, C, d, fs, v, rfl, h1, h2, T, hn, l, q⟩
theorem rd_xvV {K : PySem.W.Frag} {C : Addr} {n : Str} {i : Nat} {σ : L2.St} {H : Hp} {Q : VK} {a : Addr} {fs : List (Str × V)} {v : V} (h : σ[i]? = some (some (.ref a))) (e : ErrAt C H a fs) (T : XfC K C) (hn : PySem.W.findIn K (.ref C) n = some none) (l : fs.lookup n = some v) (q : Q v H) : tXv K n (tVar i) σ H Q := by
  obtain ⟨d, h1, h2⟩ := e
  exact ⟨.ref a, h, a, C, d, fs, v, rfl, h1, h2, T, hn, l, q⟩
/-! ### __init__ of an error -/
def spErr2 (C : Addr) (f1 f2 : Str) : Sp := fun vs H Q _ => ∃ a v1 v2, vs = [.ref a, v1, v2] ∧ H a = some (exo a C none) ∧
  ∀ d H2, H d = none → d ≠ a → H2 a = some (exo a C (some d)) → H2 d = some (exd d [(f2, v2), (f1, v1)]) → (∀ b o, b ≠ a → H b = some o → H2 b = some o) → Q .non H2
def spErr1 (C : Addr) (f1 : Str) : Sp := fun vs H Q _ => ∃ a v1, vs = [.ref a, v1] ∧ H a = some (exo a C none) ∧
  ∀ d H2, H d = none → d ≠ a → H2 a = some (exo a C (some d)) → H2 d = some (exd d [(f1, v1)]) → (∀ b o, b ≠ a → H b = some o → H2 b = some o) → Q .non H2
theorem rd_ost {K : PySem.W.Frag} {f : Str} {to te : TE} {D : Ends} {σ : L2.St} {H : Hp} (h : te σ H fun y H1 => to σ H1 fun x H2 => ∃ a C : Addr, x = .ref a ∧ OexC K C ∧ PySem.W.findIn K (.ref C) f = some none ∧
  ((H2 a = some (exo a C none) ∧ ∀ dx, H2 dx = none → dx ≠ a → D.nx σ (upd (upd H2 dx (exd dx [(f, y)])) a (exo a C (some dx)))) ∨
    ∃ (dx : Addr) (fs : List (Str × V)), H2 a = some (exo a C (some dx)) ∧ H2 dx = some (exd dx fs) ∧ fs.length ≤ 900 ∧ D.nx σ (upd H2 dx (exd dx ((f, y) :: fs))))) : tOst K f to te D σ H := h
/-- what a def that raises wishes of the way out: an error of the class C with these fields, all else as it was -/
def ErrW (C : Addr) (E : XK) (H : Hp) (fs : List (Str × V)) : Prop := ∀ d H', H d = none → Same H H' → H' d = some (.xd fs) → E (.ref C) (some d) H'
theorem mk_err2 {C : Addr} {f1 f2 : Str} {v1 v2 : V} {H : Hp} {Q : XK} (q : ∀ d H', H d = none → Same H H' → H' d = some (.xd [(f2, v2), (f1, v1)]) → Q (.ref C) (some d) H') :
    [v1, v2].length ≤ 1000 ∧ ∀ a, H a = none → spErr2 C f1 f2 (.ref a :: ([v1, v2] ++ [])) (upd H a (exo a C none))
      (fun v H2 => v = .non ∧ ∃ (d : Addr) (fs : List (Str × V)), H2 a = some (exo a C (some d)) ∧ H2 d = some (exd d fs) ∧ H d = none ∧ Q (.ref C) (some d) (upd (del H2 a) d (.xd fs))) (fun _ _ _ => False) := by
  refine ⟨(by show 2 ≤ 1000; decide), fun a ha => ⟨a, v1, v2, rfl, upd_same, fun d H2 hd hne e1 e2 k => ?_⟩⟩
  have hd' : H d = none := by rw [upd_ne hne] at hd; exact hd
  refine ⟨rfl, d, _, e1, e2, hd', q d _ hd' (fun b o e => ?_) upd_same⟩
  have hba : b ≠ a := fun z => by subst z; rw [ha] at e; cases e
  have hbd : b ≠ d := fun z => by subst z; rw [hd'] at e; cases e
  rw [upd_ne hbd, del_ne hba]
  exact k b o hba (by rw [upd_ne hba]; exact e)
theorem mk_err1 {C : Addr} {f1 : Str} {v1 : V} {H : Hp} {Q : XK} (q : ∀ d H', H d = none → Same H H' → H' d = some (.xd [(f1, v1)]) → Q (.ref C) (some d) H') :
    [v1].length ≤ 1000 ∧ ∀ a, H a = none → spErr1 C f1 (.ref a :: ([v1] ++ [])) (upd H a (exo a C none))
      (fun v H2 => v = .non ∧ ∃ (d : Addr) (fs : List (Str × V)), H2 a = some (exo a C (some d)) ∧ H2 d = some (exd d fs) ∧ H d = none ∧ Q (.ref C) (some d) (upd (del H2 a) d (.xd fs))) (fun _ _ _ => False) := by
  refine ⟨(by show 1 ≤ 1000; decide), fun a ha => ⟨a, v1, rfl, upd_same, fun d H2 hd hne e1 e2 k => ?_⟩⟩
  have hd' : H d = none := by rw [upd_ne hne] at hd; exact hd
  refine ⟨rfl, d, _, e1, e2, hd', q d _ hd' (fun b o e => ?_) upd_same⟩
  have hba : b ≠ a := fun z => by subst z; rw [ha] at e; cases e
  have hbd : b ≠ d := fun z => by subst z; rw [hd'] at e; cases e
  rw [upd_ne hbd, del_ne hba]
  exact k b o hba (by rw [upd_ne hba]; exact e)
theorem rd_mkO {C : Addr} {sp : Sp} {dvs : List V} {ta : TA} {σ : L2.St} {H : Hp} {Q : XK} (h : ta σ H fun vs H1 => vs.length ≤ 1000 ∧ ∀ a, H1 a = none → sp (.ref a :: (vs ++ dvs)) (upd H1 a (exo a C none))
  (fun v H2 => v = .non ∧ ∃ (d : Addr) (fs : List (Str × V)), H2 a = some (exo a C (some d)) ∧ H2 d = some (exd d fs) ∧ H1 d = none ∧ Q (.ref C) (some d) (upd (del H2 a) d (.xd fs))) (fun _ _ _ => False)) : tMkO C sp dvs ta σ H Q := h
/-! ### a value of any kind, its texts short -/
def Kz (H : Hp) (v : V) : Prop := ∃ t, Kd H v t ∧ ∀ z, v = .str z → z.length ≤ 100
theorem Kz.same {H H' : Hp} {v : V} (s : ∀ b o, v = .ref b → H b = some o → H' b = some o) (k : Kz H v) : Kz H' v := by
  obtain ⟨t, h, l⟩ := k
  exact ⟨t, h.same s, l⟩
theorem Kz.mono {H H' : Hp} {v : V} (s : Same H H') (k : Kz H v) : Kz H' v := k.same fun b o _ h => s b o h
theorem Kz.str {H : Hp} {z : Str} (h : z.length ≤ 100) : Kz H (.str z) := ⟨_, .str z, fun z' e => by cases e; exact h⟩
theorem Kz.int {H : Hp} (i : Int) : Kz H (.int i) := ⟨_, .int i, fun z' e => by cases e⟩
theorem Kz.non {H : Hp} : Kz H .non := ⟨_, .non, fun z' e => by cases e⟩
theorem Kz.bl {H : Hp} (b : Bool) : Kz H (.bl b) := ⟨_, .bl b, fun z' e => by cases e⟩
theorem Kz.lst {H : Hp} {a : Addr} {xs : List V} (h : H a = some (.lst xs)) : Kz H (.ref a) := ⟨_, .lst h, fun z' e => by cases e⟩
theorem Kz.tup {H : Hp} {a : Addr} {xs : List V} (h : H a = some (.tup xs)) : Kz H (.ref a) := ⟨_, .tup h, fun z' e => by cases e⟩
theorem Kz.dK {H : Hp} {a : Addr} {xs : List (Key × V)} (h : H a = some (.dK xs)) : Kz H (.ref a) := ⟨_, .dK h, fun z' e => by cases e⟩
/-- the same, and not the pen -/
def Kp (p : Addr) (H : Hp) (v : V) : Prop := Kz H v ∧ v ≠ .ref p
theorem Kp.keep {p : Addr} {H H' : Hp} {v : V} (s : Keep p H H') (k : Kp p H v) : Kp p H' v := ⟨k.1.same fun b o e h => s b o (fun z => k.2 (by rw [e, z])) h, k.2⟩
theorem Kp.mono {p : Addr} {H H' : Hp} {v : V} (s : Same H H') (k : Kp p H v) : Kp p H' v := ⟨k.1.mono s, k.2⟩
theorem Kp.str {p : Addr} {H : Hp} {z : Str} (h : z.length ≤ 100) : Kp p H (.str z) := ⟨.str h, fun z => nomatch z⟩
theorem Kp.int {p : Addr} {H : Hp} (i : Int) : Kp p H (.int i) := ⟨.int i, fun z => nomatch z⟩
theorem Kp.non {p : Addr} {H : Hp} : Kp p H .non := ⟨.non, fun z => nomatch z⟩
theorem Kp.bl {p : Addr} {H : Hp} (b : Bool) : Kp p H (.bl b) := ⟨.bl b, fun z => nomatch z⟩
theorem Kp.ref {p : Addr} {H : Hp} {a : Addr} (k : Kz H (.ref a)) (n : a ≠ p) : Kp p H (.ref a) := ⟨k, fun z => n (V.ref.inj z)⟩
def Kps (p : Addr) (H : Hp) (xs : List V) : Prop := ∀ v ∈ xs, Kp p H v
theorem Kps.nil {p : Addr} {H : Hp} : Kps p H [] := fun v h => nomatch h
theorem Kps.cons {p : Addr} {H : Hp} {x : V} {xs : List V} (h : Kp p H x) (r : Kps p H xs) : Kps p H (x :: xs) := fun v m => by
  rcases List.mem_cons.mp m with e | m
  · subst e; exact h
  · exact r v m
theorem rd_ixZ {K : PySem.W.Frag} {H : Hp} {Q : VK} {p a : Addr} {xs : List V} {d : Int} (h : SqL K H a xs) (h0 : 0 ≤ d) (h1 : d < xs.length) (kd : Kps p H xs) (q : ∀ v, Kp p H v → Q v H) : rIxL K (.ref a) (.int d) H Q := by
  have hd : d.toNat < xs.length := by omega
  have k := kd xs[d.toNat] (List.getElem_mem hd)
  exact rd_ixL h (atI_int h0 (List.getElem?_eq_getElem hd)) (q _ k)
def spThing : Sp := fun vs H Q _ => ∃ (p : Addr) (n : Nat) (c : Addr), vs = [.ref p] ∧ PenAt c H p n ∧ n + 1 < 100000 ∧ ∀ v H', Kp p H' v → PenAt c H' p (n + 1) → Keep p H H' → Q v H'
theorem rd_ixStr {z : Str} {i : Int} {c : Nat} {H : Hp} {Q : VK} (hz : z.length ≤ 100000) (h0 : 0 ≤ i) (h : z.cps.toList[i.toNat]? = some c) (q : Q (.str ⟨#[c]⟩) H) : rIxS (.str z) (.int i) H Q :=
  ⟨z, i, c, rfl, rfl, Nat.le_trans hz (by decide), atI_int h0 h, q⟩
/-- a name of 1 to k signs, all of them one sign of a row of small letters -/
theorem nameOk_rep {c : Nat} {k : Nat} (h0 : 97 ≤ c) (h1 : c ≤ 122) (k0 : 1 ≤ k) (k1 : k ≤ 8) : nameOk (repS ⟨#[c]⟩ k) = true := by
  have key : ∀ (n : Nat) (b : Array Nat), (∀ x ∈ b.toList, 97 ≤ x ∧ x ≤ 122) → ∀ x ∈ ((List.replicate n (#[c] : Array Nat)).foldl (· ++ ·) b).toList, 97 ≤ x ∧ x ≤ 122 := by
    intro n
    induction n with
    | zero => intro b hb; exact hb
    | succ n ih =>
      intro b hb
      rw [List.replicate_succ, List.foldl_cons]
      refine ih _ fun x hx => ?_
      rw [Array.toList_append, List.mem_append] at hx
      rcases hx with hx | hx
      · exact hb x hx
      · rw [List.mem_singleton.mp hx]
        exact ⟨h0, h1⟩
  have el : (repS ⟨#[c]⟩ k).length = k := by
    rw [repS_len]
    show 1 * k = k
    omega
  unfold nameOk
  rw [el, decide_eq_true k0, decide_eq_true k1]
  show (true && true && _) = true
  rw [Bool.true_and, Bool.true_and, List.all_eq_true]
  intro x hx
  have := key k #[] (fun _ h => nomatch h) x hx
  rw [decide_eq_true this.1, decide_eq_true this.2]
  rfl
/-! ### signals -/
def sigF (v w : V) : List (Str × V) := [("name", v), ("tokens", w)]
theorem putF_sig (v w : V) : putF "tokens" w (putF "name" v []) = sigF v w := by
  have h : ¬ (("name" : Str) = "tokens") := by decide +kernel
  show (if ("name" : Str) = "tokens" then _ else (("name" : Str), v) :: putF "tokens" w []) = _
  rw [if_neg h]
  rfl
def spSigInit (C N : Addr) : Sp := fun vs H Q E => ∃ x dx v w, vs = [.ref x, v, w] ∧ H x = some (.ins C dx []) ∧ Kz H v ∧ Kz H w ∧
  (isName v = false → ErrW N E H [("place", .non), ("reason", .str "name")]) ∧
  (isName v = true → within w 0 3 = false → ErrW N E H [("place", .non), ("reason", .str "tokens")]) ∧
  (isName v = true → within w 0 3 = true → ∀ H', H' x = some (.ins C dx (sigF v w)) → Keep x H H' → Q .non H')
/-- signal == y -/
def spSigEq (K : PySem.W.Frag) (C : Addr) : Sp := fun vs H Q _ => ∃ a dx z i y, vs = [.ref a, y] ∧ H a = some (.ins C dx (sigF (.str z) (.int i))) ∧
  ((∃ t, TyX K H y t ∧ PySem.W.kitOne K t (.ref C) = some false ∧ Q (.bl false) H) ∨
   ∃ b dy z' i', y = .ref b ∧ H b = some (.ins C dy (sigF (.str z') (.int i'))) ∧ Q (.bl (decide (z = z') && decide (i = i'))) H)
/-- what asking for a signal gives -/
def spAsked (C N : Addr) : Sp := fun vs H Q _ => ∃ v w b, vs = [v, w, .bl b] ∧ Kz H v ∧ Kz H w ∧
  (isName v = false → ∀ a H', Same H H' → ErrAt N H' a [("place", .non), ("reason", .str "name")] → Q (.ref a) H') ∧
  (isName v = true → within (if b = true then .int 0 else w) 0 3 = false → ∀ a H', Same H H' → ErrAt N H' a [("place", .non), ("reason", .str "tokens")] → Q (.ref a) H') ∧
  (isName v = true → within (if b = true then .int 0 else w) 0 3 = true → ∀ x dx H', Same H H' → H' x = some (.ins C dx (sigF v (if b = true then .int 0 else w))) → Q (.ref x) H')
/-- the law's own words about a value -/
def spLawName : Sp := fun vs H Q _ => ∃ v, vs = [v] ∧ Kz H v ∧ ∀ H', Same H H' → Q (.bl (isName v)) H'
def spLawWithin : Sp := fun vs H Q _ => ∃ v lo hi, vs = [v, .int lo, .int hi] ∧ Kz H v ∧ Q (.bl (within v lo hi)) H
def spRefusal (N : Addr) : Sp := fun vs H Q _ => ∃ a r p, vs = [.ref a, .str r, p] ∧ ErrAt N H a [("place", p), ("reason", .str r)] ∧ (p = .non ∨ ∃ i, p = .int i) ∧ ∀ H', Same H H' → Q (.bl true) H'
def spNum (m : Nat) : Sp := fun vs H Q _ => ∃ (p : Addr) (n : Nat) (c : Addr), vs = [.ref p] ∧ PenAt c H p n ∧ n + m < 100000 ∧ ∀ H', PenAt c H' p (n + m) → Keep p H H' → Q (.bl true) H'
theorem isName_str {v : V} (h : isName v = true) : ∃ z, v = .str z ∧ nameOk z = true := by
  cases v with
  | str z => exact ⟨z, rfl, h⟩
  | _ => cases h
theorem within_int {v : V} {lo hi : Int} (h : within v lo hi = true) : ∃ i, v = .int i ∧ lo ≤ i ∧ i ≤ hi := by
  cases v with
  | int i =>
    have h' : (decide (lo ≤ i) && decide (i ≤ hi)) = true := h
    rw [Bool.and_eq_true] at h'
    exact ⟨i, rfl, of_decide_eq_true h'.1, of_decide_eq_true h'.2⟩
  | _ => cases h
theorem rd_eqV {x y : V} {H : Hp} {Q : VK} (b : Bool) (hs : scal x y = true) (hb : decide (x = y) = b) (q : Q (.bl b) H) : rEq x y H Q := ⟨hs, by rw [hb]; exact q⟩
end Lay
namespace Lay
open PySem L2 PySem.Spec PyProof.Rows Exv
theorem kitAny_no {K : PySem.W.Frag} {t c : Value} {cs : List Value} (h : PySem.W.kitOne K t c = some false) (hr : PySem.W.kitAny K t cs = some false) : PySem.W.kitAny K t (c :: cs) = some false := kitAny_cons h (fun _ => hr) (fun z => nomatch z)
end Lay
namespace Lay
open PySem L2 PySem.Spec PyProof.Rows Exv
theorem rd_make {C : Addr} {sp : Sp} {dvs : List V} {E : XK} {t : TA} {σ : L2.St} {H : Hp} {Q : VK} (h : t σ H fun vs H1 => ∀ x dx, H1 x = none → H1 dx = none → dx ≠ x →
  sp (.ref x :: (vs ++ dvs)) (upd (upd H1 dx (.own x)) x (.ins C dx [])) (fun v H2 => v = .non ∧ Q (.ref x) H2) E) : tMake C sp dvs E t σ H Q := h
theorem rd_inI {K : PySem.W.Frag} {H : Hp} {Q : VK} {d : Int} {t : Addr} {ns : List Int} (ht : SqT K H t (ns.map V.int)) (q : ∀ b, Q (.bl b) H) : rIn K false (.int d) (.ref t) H Q :=
  ⟨t, _, rfl, .inr ht, rfl, by rw [List.all_map]; simp [flatV], q _⟩
theorem row_at (z : Str) (h : z.cps.toList.all (fun c => decide (97 ≤ c) && decide (c ≤ 122)) = true) {d : Int} (h0 : 0 ≤ d) (h1 : d < z.length) : ∃ c, z.cps.toList[d.toNat]? = some c ∧ 97 ≤ c ∧ c ≤ 122 := by
  have hl : d.toNat < z.cps.toList.length := by
    have : z.cps.toList.length = z.length := by show z.cps.toList.length = z.cps.size; simp
    omega
  refine ⟨_, List.getElem?_eq_getElem hl, ?_⟩
  have := List.all_eq_true.mp h _ (List.getElem_mem hl)
  rw [Bool.and_eq_true] at this
  exact ⟨of_decide_eq_true this.1, of_decide_eq_true this.2⟩
theorem name_rep {c : Nat} {d : Int} (h0 : 97 ≤ c) (h1 : c ≤ 122) (d0 : 0 ≤ d) (d1 : d < 8) : nameOk (repS ⟨#[c]⟩ (1 + d).toNat) = true := nameOk_rep h0 h1 (by omega) (by omega)
/-- a signal stands at x -/
def SigAt (C : Addr) (H : Hp) (x : Addr) (z : Str) (i : Int) : Prop := ∃ dx, H x = some (.ins C dx (sigF (.str z) (.int i)))
theorem SigAt.mono {C : Addr} {H H' : Hp} {x : Addr} {z : Str} {i : Int} (s : Same H H') (h : SigAt C H x z i) : SigAt C H' x z i := by
  obtain ⟨dx, e⟩ := h
  exact ⟨dx, s _ _ e⟩
theorem SigAt.keep {C : Addr} {H H' : Hp} {p x : Addr} {z : Str} {i : Int} {xs : List V} (hp : H p = some (.lst xs)) (s : Keep p H H') (h : SigAt C H x z i) : SigAt C H' x z i := by
  obtain ⟨dx, e⟩ := h
  exact ⟨dx, s _ _ (fun z => by subst z; rw [e] at hp; cases hp) e⟩
/-- a signal of good values is made -/
theorem mk_sig {C N : Addr} {H : Hp} {z : Str} {i : Int} {Q : Addr → Hp → Prop} {E : XK} (hz : nameOk z = true) (i0 : 0 ≤ i) (i3 : i ≤ 3) (q : ∀ x H', Same H H' → SigAt C H' x z i → Q x H') :
    ∀ x dx, H x = none → H dx = none → dx ≠ x → spSigInit C N [.ref x, .str z, .int i] (upd (upd H dx (.own x)) x (.ins C dx [])) (fun v H2 => v = .non ∧ Q x H2) E := by
  intro x dx hx hdx hne
  have s0 : Same H (upd (upd H dx (.own x)) x (.ins C dx [])) := Lay.Same.upd' (Lay.Same.upd hdx) (by rw [upd_ne hne.symm]; exact hx)
  have hn : isName (.str z) = true := hz
  have hw : within (.int i) 0 3 = true := by show (decide (0 ≤ i) && decide (i ≤ 3)) = true; rw [decide_eq_true i0, decide_eq_true i3]; rfl
  refine ⟨x, dx, .str z, .int i, rfl, upd_same, .str (by have := nameOk_len hz; omega), .int _, fun h => ?_, fun _ h => ?_, fun _ _ H' e k => ⟨rfl, q x H' (fun b o hb => ?_) ⟨dx, e⟩⟩⟩
  · rw [hn] at h; cases h
  · rw [hw] at h; cases h
  · have hbx : b ≠ x := fun z => by subst z; rw [hx] at hb; cases hb
    exact k b o hbx (s0 b o hb)
/-- one of two -/
theorem two_at {i j d : Int} (d0 : 0 ≤ d) (d1 : d < 2) : ∃ k, atI [V.int i, V.int j] d = some (.int k) ∧ (k = i ∨ k = j) := by
  obtain rfl | rfl : d = 0 ∨ d = 1 := by omega
  · exact ⟨i, rfl, .inl rfl⟩
  · exact ⟨j, rfl, .inr rfl⟩
end Lay

namespace PySem
namespace RTL
open RT
section
variable {prog : Program} {w : World} {A : Around} {E : Value → Shared → Prop} {s : Shared}
/-- l.__init__(reversed(list)) -/
theorem extend_rev {R : Result → Shared → Prop} {it l : Addr} {items : Array Value} (hh : A.handled = none) (hit : s.heap.IsRevIter it l ((items.size : Int) - 1)) (hl : s.heap.IsList l items) (hne : l ≠ it) (hn : items.size ≤ sizeLine)
    (S : Addr) (res : Value) (c₀ : Nat) (hS : s.heap.get? S = some { cls := .type "list", data := .seq #[] c₀ }) (hSi : S ≠ it) (hSl : S ≠ l)
    (hR : ∀ h' tk acc' c', (∀ b o, b ≠ S → b ≠ it → s.heap.get? b = some o → h'.get? b = some o) → h'.get? S = some { cls := .type "list", dict := none, data := .seq acc' c', slots := #[] } →
      ItemsOf (fun i v => items[items.size - 1 - i]? = some v) acc' items.size → R (.ok (.ret res)) { s with heap := h', toks := tk }) :
    wpAny (model prog w) A.in1 (Builtin.List.listExtendWith (.ref S) (.ref it) res)
      (fun fin s' => match fin with | .done f => R (.ok f) s' | .again c' => c'.quiet = true ∧ codeAny (model prog w) A c' R s') (fun e s' => R (.error e) s') s := by
  have W := (Walks.listRev (prog := prog) (w := w) (A := A.in1) hh it l hne items).toS
  have hSf : S ∉ [it, l] := by simp only [List.mem_cons, List.not_mem_nil, or_false, not_or]; exact ⟨hSi, hSl⟩
  have hT : s.TypeIs (.ref it) "list_reverseiterator" := hit.typeIs
  have h1 : Builtin.List.listSameRef (.ref S) (.ref it) = false := by simp [Builtin.List.listSameRef, hSi]
  unfold Builtin.List.listExtendWith
  refine wpAny_bind (wpAny_typeOf hT ?_)
  rw [if_neg (by rw [h1]; decide)]
  refine wpAny_bind (wpAny_pyIter_revIter hit ?_)
  refine wpAny_bind (wpAny_holding ?_)
  unfold Builtin.List.listLengthHint
  refine wpAny_bind (wpAny_specialOf hT nolen_lri ?_)
  show wpAny _ A.in1 (specialOf (Value.ref it) (Str.ofString "__length_hint__") >>= _) _ _ _
  refine wpAny_bind (wpAny_specialOf hT hint_lri ?_)
  generalize hid : ("list_reverseiterator.__length_hint__" : String) = id0
  wp_delta
  rw [show splitId id0 = some ("list_reverseiterator", "__length_hint__") from by subst hid; decide +kernel]
  subst hid
  refine wpAny_bind (wpAny_isInstance (b := true) hT (by rw [isSubtype_type]; kernel_rfl) ?_)
  refine wpAny_pure ?_
  rw [if_neg (by decide)]
  have e0 : ((items.size : Nat) : Int) - 1 - ((0 : Nat) : Int) = (items.size : Int) - 1 := by omega
  refine wpAny_pure ⟨plainId_quiet F.plain_extend_loop _, codeAny_extend_loopS W hn _ hSf _ items.size 0 _ _ _ rfl (Nat.zero_le _) ⟨Nat.zero_le _, by rw [e0]; exact hit, hl⟩ hS (ItemsOf.nil _) fun s' acc' c' hm hS' hacc => ?_⟩
  rw [Moved.eq_with hm]
  refine hR s'.heap s'.toks acc' c' (fun b o hb hbi e => hm.heap b o (fun hmem => ?_) e) hS' hacc
  rcases List.mem_cons.mp hmem with e' | hmem
  · exact hb e'
  · exact hbi (List.mem_singleton.mp hmem)
theorem list_init_rev {R : Result → Shared → Prop} {it l : Addr} {items : Array Value} (hh : A.handled = none) (hit : s.heap.IsRevIter it l ((items.size : Int) - 1)) (hl : s.heap.IsList l items) (hne : l ≠ it) (hn : items.size ≤ sizeLine)
    (S : Addr) (hS : s.heap.get? S = some { cls := .type "list", data := .seq #[] }) (hSi : S ≠ it) (hSl : S ≠ l)
    (hR : ∀ h' tk acc' c', (∀ b o, b ≠ S → b ≠ it → s.heap.get? b = some o → h'.get? b = some o) → h'.get? S = some { cls := .type "list", dict := none, data := .seq acc' c', slots := #[] } →
      ItemsOf (fun i v => items[items.size - 1 - i]? = some v) acc' items.size → R (.ok (.ret .none)) { s with heap := h', toks := tk }) :
    wpAny (model prog w) A.in1 (Builtin.«list.__init__» ⟨[.ref S, .ref it], []⟩)
      (fun fin s' => match fin with | .done f => R (.ok f) s' | .again c' => c'.quiet = true ∧ codeAny (model prog w) A c' R s') (fun e s' => R (.error e) s') s := by
  show wpAny _ _ (do let old ← Builtin.List.listItems (.ref S); Builtin.List.listUpdate (.ref S) (fun _ => #[]); letGo old.toList.reverse; Builtin.List.listExtendWith (.ref S) (.ref it) .none) _ _ s
  refine wpAny_bind ?_
  unfold Builtin.List.listItems
  refine wpAny_bind (wpAny_seqItems hS rfl (wpAny_pure ?_))
  show wpAny _ _ (updateSeq S (fun _ => #[]) >>= fun _ => letGo (#[] : Array Value).toList.reverse >>= fun _ => Builtin.List.listExtendWith (.ref S) (.ref it) .none) _ _ s
  refine wpAny_bind (wpAny_updateSeq hS rfl ?_)
  have hS₂ := Heap.get?_update_self (Obj.mapSeq (fun _ => (#[] : Array Value))) hS rfl
  have oth : ∀ b o, b ≠ S → s.heap.get? b = some o → (s.heap.update S (Obj.mapSeq (fun _ => (#[] : Array Value)))).get? b = some o :=
    fun b o hb e => (Heap.get?_update_other _ _ (Ne.symm hb)).trans e
  refine wpAny_bind (wpAny_letGo ?_)
  refine extend_rev (s := { s with heap := s.heap.update S (Obj.mapSeq (fun _ => (#[] : Array Value))) }) hh (hit.at fun o e => oth it o (Ne.symm hSi) e) (hl.at fun o e => oth l o (Ne.symm hSl) e) hne hn S .none _ hS₂ hSi hSl fun h' tk acc' c' hk hS' hacc => ?_
  exact hR h' tk acc' c' (fun b o hb hbi e => hk b o hb hbi (oth b o hb e)) hS' hacc
theorem call_list_rev {it l : Addr} {items : Array Value} {Q : Value → Shared → Prop} (hh : A.handled = none) (hit : s.heap.IsRevIter it l ((items.size : Int) - 1)) (hl : s.heap.IsList l items) (hne : l ≠ it) (hn : items.size ≤ sizeLine)
    (hQ : ∀ h' tk acc' c', (∀ b o, b ≠ it → s.heap.get? b = some o → h'.get? b = some o) →
      h'.get? s.heap.objs.size = some { cls := .type "list", dict := none, data := .seq acc' c', slots := #[] } → ItemsOf (fun i v => items[items.size - 1 - i]? = some v) acc' items.size → Q (.ref s.heap.objs.size) { s with heap := h', toks := tk }) :
    wpAny (model prog w) A (call (.type "list") [.ref it]) Q E s := by
  refine callType_codes (Q₁ := fun obj s₁ => obj = .ref s.heap.objs.size ∧ s₁ = { s with heap := s.heap.push { cls := .type "list", data := .seq #[] } }) F.called_list (F.typeCall_list_1 _) F.entry_list_init
    (code_list_new _ ⟨rfl, rfl⟩) fun obj s₁ h₁ => ?_
  obtain ⟨rfl, rfl⟩ := h₁
  have hS : (s.heap.push { cls := .type "list", data := .seq #[] }).get? s.heap.objs.size = some { cls := .type "list", data := .seq #[] } := Heap.get?_push_size _ rfl
  have hSi : s.heap.objs.size ≠ it := by obtain ⟨o, ho, _⟩ := hit; exact Nat.ne_of_gt (Heap.lt_size ho)
  have hSl : s.heap.objs.size ≠ l := by obtain ⟨o, ho, _⟩ := hl; exact Nat.ne_of_gt (Heap.lt_size ho)
  refine ⟨⟨_, hS, rfl⟩, F.args_list_init_2 _ _, list_init_rev (A := A.in1) hh (hit.at fun o e => Heap.get?_push_of_some _ e) (hl.push _) hne hn _ hS hSi hSl fun h' tk acc' c' hk hS' hacc => ?_⟩
  exact ⟨rfl, hQ h' tk acc' c' (fun b o hb e => hk b o (Nat.ne_of_lt (Heap.lt_size e)) hb (Heap.get?_push_of_some _ e)) hS' hacc⟩
end
end RTL
end PySem
namespace Lay
open PySem PySem.Spec PyProof.Rows L2 RT
/-- list(reversed(x)), x a list: a new list -/
def tListRev (K : PySem.W.Frag) (te : TE) : TE := fun σ H Q => te σ H fun v H1 => ∃ (a : Addr) (xs : List V), v = .ref a ∧ SqL K H1 a xs ∧ ∀ q, H1 q = none → Q (.ref q) (upd H1 q (.lst xs.reverse))
theorem rd_listRev {K : PySem.W.Frag} {te : TE} {σ : L2.St} {H : Hp} {Q : VK} (h : te σ H fun v H1 => ∃ (a : Addr) (xs : List V), v = .ref a ∧ SqL K H1 a xs ∧ ∀ q, H1 q = none → Q (.ref q) (upd H1 q (.lst xs.reverse))) : tListRev K te σ H Q := h
theorem pe_listRev {X : Cx} {e : Expr} {te : TE} {p p2 pos pos2 : Pos} (hc : X.calm = true) (hg : Gl X "list") (hm : X.mg "list" = none) (hg2 : Gl X "reversed") (hm2 : X.mg "reversed" = none) (he : PE X e te)
    (hs : starEach [e] X.env = (false, eval e X.env) :: starEach [] X.env := by rfl)
    (hs2 : starEach [.Call (.Name "reversed" p2) [e] [] pos2] X.env = (false, eval (.Call (.Name "reversed" p2) [e] [] pos2) X.env) :: starEach [] X.env := by rfl) :
    PE X (.Call (.Name "list" p) [.Call (.Name "reversed" p2) [e] [] pos2] [] pos) (tListRev X.K te) := by
  refine ⟨fun pins s σ H Q I h => ?_⟩
  refine Call_ (ld_blt I hg hm boot_list (PyProof.Rows.callWith_type1 (args_cons (Call_ (ld_blt I hg2 hm2 PyProof.Rows.boot_reversed (PyProof.Rows.callWith_type1 (args_cons (thn (he.run pins s σ H _ I h) fun u s1 ⟨v, H1, I1, r1, q1⟩ => args_nil ?_) hs) hs rfl))) hs2) hs2 rfl))
  obtain ⟨a, xs, ev, hq, q⟩ := q1
  subst ev
  obtain rfl : u = Value.ref a := r1
  obtain ⟨its, rv, p', hz⟩ := I1.list hq
  refine call_reversed_list p'.isList (args_nil ?_)
  have k0 : ∀ b o, s1.heap.get? b = some o → (s1.heap.push (revObj a ((its.toArray.size : Int) - 1))).get? b = some o := fun b o e => Heap.get?_push_of_some _ e
  have I2 : Inv X pins σ H1 { s1 with heap := s1.heap.push (revObj a ((its.toArray.size : Int) - 1)) } := I1.kept (t' := s1.toks) k0
  obtain ⟨f0, f1, f2, f3, f4, f5⟩ := I1.fpOk (H' := H1) (b := s1.heap.objs.size) (Nat.le_refl _) (I1.hok.fresh (Nat.le_refl _))
  have hl := p'.isList
  obtain ⟨ol, hol, _⟩ := id hl
  have hne : a ≠ s1.heap.objs.size := Nat.ne_of_lt (Heap.lt_size hol)
  have hn : its.toArray.size ≤ sizeLine := by rw [List.size_toArray, ← rv.length]; exact hz
  refine PySem.RTL.call_list_rev (s := { s1 with heap := s1.heap.push (revObj a ((its.toArray.size : Int) - 1)) }) (I1.ok.hd hc) ⟨_, Heap.get?_push_size _ rfl, rfl, rfl⟩ (hl.push _) hne hn fun h' tk acc c' hk hS hi => ?_
  have I3 : Inv X pins σ H1 { s1 with heap := h', toks := tk } := I2.turned (t' := tk) (fun b o hb e => hk b o hb e) f0 f1 f3 f4 f5
  have hsz : (s1.heap.push (revObj a ((its.toArray.size : Int) - 1))).objs.size = s1.heap.objs.size + 1 := Heap.size_push ..
  have hnone : H1 (s1.heap.push (revObj a ((its.toArray.size : Int) - 1))).objs.size = none := I2.hok.fresh (Nat.le_refl _)
  have ob : ObjOk X.prog X.w (upd H1 (s1.heap.push (revObj a ((its.toArray.size : Int) - 1))).objs.size (.lst xs.reverse)) h' (s1.heap.push (revObj a ((its.toArray.size : Int) - 1))).objs.size (.lst xs.reverse) :=
    ⟨by rw [List.length_reverse]; exact hz, acc.toList, c', vals_rev rv hi, by rw [Array.toArray_toList]; exact hS⟩
  refine ⟨.ref _, upd H1 _ (.lst xs.reverse), ?_, rfl, q _ hnone⟩
  have hbig : s1.heap.objs.size ≤ (s1.heap.push (revObj a ((its.toArray.size : Int) - 1))).objs.size := by rw [hsz]; exact Nat.le_succ _
  refine I1.un (t' := tk) ⟨fun b o e n hf hx => hk b o (Nat.ne_of_lt (Heap.lt_size e)) (k0 b o e), fun b o e n hf hx => ⟨o.slots, hk b o (Nat.ne_of_lt (Heap.lt_size e)) (k0 b o e)⟩, fun b o e n hx => ?_, fun b o e hx => ⟨o, hk b o (Nat.ne_of_lt (Heap.lt_size e)) (k0 b o e)⟩, fun b ys e => ?_, fun b o u e => ?_, fun b ps e => ?_⟩ fun b o e => ?_
  · rw [upd_ne (Nat.ne_of_lt (Nat.lt_of_lt_of_le (Heap.lt_size e) hbig))]; exact n
  · rw [upd_ne (ne_of_none e hnone)]; exact e
  · rw [upd_ne (ne_of_none e hnone)]; exact e
  · exact ⟨#[], by rw [upd_ne (ne_of_none e hnone), e]; simp⟩
  · by_cases hb : b = (s1.heap.push (revObj a ((its.toArray.size : Int) - 1))).objs.size
    · subst hb
      rw [upd_same] at e
      cases e
      exact ob
    · rw [upd_ne hb] at e
      exact (I3.hok b o e).stay (fun _ _ _ z => z) (fun c z => by rw [upd_ne (ne_of_none z hnone)]; exact z) (fun c ys z => by rw [upd_ne (ne_of_none z hnone)]; exact z)
end Lay

namespace Exv
open PySem PySem.Spec PyProof.Rows L2
section
variable {X : Cx} {pins : List (Addr × Obj)} {σ : L2.St} {H : Hp} {s : Shared}
/-- a def by a positional promise, what is raised wished for at the slots -/
theorem run_fnRS {CX : CXT} {k : Nat} {f : Addr} {sp : Sp} {E : XK} {Q : VK} {us : List Value} {vs : List V} (F : FnR X.prog X.w X.K X.mg X.base CX k f sp) (hr : Room k X.A) (hx : PassesAt CX X σ E) (I : Inv X pins σ H s) (r : Vals vs us) (h : sp vs H Q E) :
    codeAny (model X.prog X.w) X.A (.call (.ref f) ⟨us, []⟩) (fun r s' => match r with | .ok (.ret v) => EP X pins σ Q v s' | .ok _ => False | .error e => X.xe e s') s := by
  refine codeAny_mono (F X.A X.stack s H us vs Q E hr I.env0 r h) fun r s' hq => ?_
  cases r with
  | error e => exact hx pins H s e s' I hq
  | ok fl =>
    cases fl with
    | ret u => exact I.after hq
    | next => exact False.elim hq
    | brk => exact False.elim hq
    | cont => exact False.elim hq
theorem run_cmS {CX : CXT} {k : Nat} {C g q : Addr} {sp : Sp} {E : XK} {Q : VK} {us : List Value} {vs : List V} (F : FnR X.prog X.w X.K X.mg X.base CX k g sp) (hr : Room k X.A) (hx : PassesAt CX X σ E) (I : Inv X ((q, PySem.W.methodObj (.ref g) (.ref C)) :: pins) σ H s)
    (r : Vals vs us) (h : sp (.ref C :: vs) H Q E) : wpAny (model X.prog X.w) X.A (call (.ref q) us) (EP X pins σ Q) X.xe s := by
  have z : wpAny (model X.prog X.w) X.A (call (.ref q) us) (EP X ((q, PySem.W.methodObj (.ref g) (.ref C)) :: pins) σ Q) X.xe s :=
    wpAny_call (PySem.W.method_call (ClX.pin_at I) (run_fnRS (us := .ref C :: us) (vs := .ref C :: vs) F hr hx I (.cons rfl r) h))
  exact thn z fun _ _ y => ClX.unpinE y
end
/-- e.m(..), e the class at C, m a classmethod, which may raise -/
def tCMethS (C : Addr) (sp : Sp) (E : L2.St → XK) (ta : TE) (t : TA) : TE := fun σ H Q => ta σ H fun x H1 => x = .ref C ∧ t σ H1 fun vs H2 => sp (.ref C :: vs) H2 Q (E σ)
theorem rd_cmethS {C : Addr} {sp : Sp} {E : L2.St → XK} {ta : TE} {t : TA} {σ : L2.St} {H : Hp} {Q : VK} (h : ta σ H fun x H1 => x = .ref C ∧ t σ H1 fun vs H2 => sp (.ref C :: vs) H2 Q (E σ)) : tCMethS C sp E ta t σ H Q := h
def tCMethKS (C : Addr) (m : Nat) (sp : Sp) (gV : List V → List V → List V) (E : L2.St → XK) (ta : TE) (tk : TA) : TE := fun σ H Q => ta σ H fun x H1 => x = .ref C ∧ tk σ H1 fun zs H2 => zs.length = m ∧ sp (gV [.ref C] zs) H2 Q (E σ)
theorem rd_cmethKS {C : Addr} {m : Nat} {sp : Sp} {gV : List V → List V → List V} {E : L2.St → XK} {ta : TE} {tk : TA} {σ : L2.St} {H : Hp} {Q : VK} (h : ta σ H fun x H1 => x = .ref C ∧ tk σ H1 fun zs H2 => zs.length = m ∧ sp (gV [.ref C] zs) H2 Q (E σ)) : tCMethKS C m sp gV E ta tk σ H Q := h
section
variable {X : Cx} {CX : CXT} {k : Nat} {C p g : Addr} {mc : Value} {sp : Sp} {E : L2.St → XK} {o e : Expr} {es : List Expr} {kws : List Keyword} {m : Str} {pos apos : Pos} {ta : TE} {t tk : TA} {pl : Sem Bool} {fd : FuncData} {ps ks : List Str} {gg : List Value → List Value → List Value} {gV : List V → List V → List V}
theorem pe_cmethS (he : PE X o ta) (r : ClX.CRead X.K C mc) (c : ClX.CMet X.K C mc m p g) (F : FnR X.prog X.w X.K X.mg X.base CX k g sp) (hr : Room k X.A) (hx : ∀ σ, PassesAt CX X σ (E σ)) (ha : PA X (e :: es) t)
    (hst : starEach (e :: es) X.env = (false, eval e X.env) :: starEach es X.env := by rfl) (hpl : (backTo pos (starEach es X.env)).any (·.1) = false := by rfl)
    (ht : eval (.Call (.Attribute o m apos) (e :: es) [] pos) X.env = (do
      let ov ← eval o X.env
      standAt apos.atName
      let (f, first) ← holding [ov] (getMethod ov m pl)
      callWith pos f first (backTo pos (starEach (e :: es) X.env)) (backToKw pos (keywordEach [] X.env))) := by rfl) :
    PE X (.Call (.Attribute o m apos) (e :: es) [] pos) (tCMethS C sp E ta t) := by
  refine ⟨fun pins s σ H Q I h => ?_⟩
  refine PySem.W.methodCall_KW (pl := pl) (thn (he.run pins s σ H _ I h) fun u s1 ⟨x, H1, I1, rx, ex, q⟩ => ?_) ht
  subst ex
  obtain rfl : u = Value.ref C := rx
  refine ClX.getmethcm_ok I1 r c fun s2 I2 => ?_
  refine ClX.callwith_cm I2 (ClX.base_none I1 (Nat.le_refl _)) c.fi (thn (ha.run pos _ s2 σ H1 _ I2 q) fun us s3 ⟨vs, H2, I3, rv, q2⟩ => ⟨⟨ClX.pin_at I3, I3.kIn⟩, ?_⟩) hst hpl
  exact run_cmS F hr (hx σ) I3 rv q2
/-- C.m(k = v, ..) -/
theorem pe_cmethKS (he : PE X o ta) (r : ClX.CRead X.K C mc) (c : ClX.CMet X.K C mc m p g) (F : FnOk X.prog X.w X.K X.mg X.base CX k g fd ps sp) (hr : Room k X.A) (hb : KBn X.K fd ps 1 ks gg gV) (hx : ∀ σ, PassesAt CX X σ (E σ)) (hkw : PK X kws tk)
    (hall : (backToKw pos (keywordEach kws X.env)).all (·.1.isSome) = true := by rfl) (hks : (backToKw pos (keywordEach kws X.env)).filterMap (·.1) = ks := by rfl)
    (hpl : ((backTo pos (starEach [] X.env)).any (·.1) || (backToKw pos (keywordEach kws X.env)).any (·.1.isNone)) = false := by rfl)
    (ht : eval (.Call (.Attribute o m apos) [] kws pos) X.env = (do
      let ov ← eval o X.env
      standAt apos.atName
      let (f, first) ← holding [ov] (getMethod ov m pl)
      callWith pos f first (backTo pos (starEach [] X.env)) (backToKw pos (keywordEach kws X.env))) := by rfl) :
    PE X (.Call (.Attribute o m apos) [] kws pos) (tCMethKS C ks.length sp gV E ta tk) := by
  refine ⟨fun pins s σ H Q I h => ?_⟩
  refine PySem.W.methodCall_KW (pl := pl) (thn (he.run pins s σ H _ I h) fun u s1 ⟨x, H1, I1, rx, ex, q⟩ => ?_) ht
  subst ex
  obtain rfl : u = Value.ref C := rx
  refine ClX.getmethcm_ok I1 r c fun s2 I2 => ?_
  have hq0 : X.base.get? s1.heap.objs.size = none := ClX.base_none I1 (Nat.le_refl _)
  refine PySem.W.callWith_of hpl (PySem.W.keeps_M (K := X.K) (self := .ref C) c.fi) (evalArgs_kw2_nil hall (thn (hkw.run pos _ s2 σ H1 _ I2 q) fun ws s3 ⟨zs, H2, I3, rz, l2, q2⟩ => ⟨⟨ClX.pin_at I3, I3.kIn⟩, ?_⟩))
  rw [hks]
  have e2 : ws.length = ks.length := rz.length.symm.trans l2
  have rC : Vals [V.ref C] [Value.ref C] := .cons rfl .nil
  have z : wpAny (model X.prog X.w) X.A (call (.ref s1.heap.objs.size) ([] ++ []) (ks.zip ws)) (EP X ((s1.heap.objs.size, PySem.W.methodObj (.ref g) (.ref C)) :: pins) σ Q) X.xe s3 := by
    refine wpAny_call (PySem.W.method_call (ClX.pin_at I3) (codeAny_mono (F.run X.A X.stack s3 H2 ⟨[.ref C], ks.zip ws⟩ (gg [.ref C] ws) (gV [.ref C] zs) Q (E σ) hr I3.env0 (hb.to s3 [.ref C] ws I3.kIn rfl e2) (hb.rel rC rz) q2) fun r s' hq => ?_))
    cases r with
    | error e => exact hx σ _ H2 s3 e s' I3 hq
    | ok fl =>
      cases fl with
      | ret u => exact I3.after hq
      | next => exact False.elim hq
      | brk => exact False.elim hq
      | cont => exact False.elim hq
  exact thn z fun _ _ y => ClX.unpinE y
end
end Exv

namespace Lay
open PySem PySem.Spec PyProof.Rows L2 Exv
/-! ### variables -/
/-- the first number below n of which p holds -/
def fst (p : Nat → Bool) : Nat → Option Nat
  | 0 => none
  | n + 1 => match fst p n with
    | some i => some i
    | none => if p n = true then some n else none
theorem fst_none {p : Nat → Bool} : ∀ {n : Nat}, (∀ j, j < n → p j = false) → fst p n = none
  | 0, _ => rfl
  | n + 1, h => by
    unfold fst
    rw [fst_none fun j hj => h j (Nat.lt_succ_of_lt hj)]
    dsimp only
    rw [h n (Nat.lt_succ_self n), if_neg Bool.false_ne_true]
theorem fst_some {p : Nat → Bool} {i : Nat} (h1 : p i = true) (h0 : ∀ j, j < i → p j = false) : ∀ {n : Nat}, i < n → fst p n = some i
  | 0, h => absurd h (Nat.not_lt_zero _)
  | n + 1, h => by
    unfold fst
    by_cases e : i < n
    · rw [fst_some h1 h0 e]
    · have : i = n := by omega
      subst this
      rw [fst_none h0]
      dsimp only
      rw [if_pos h1]
def near (s : Int) (x y : V) : Bool := match x, y with
  | .int a, .int b => decide ((if a - b < 0 then -(a - b) else a - b) < s)
  | _, _ => false
def aBad (s : Int) (xs : List V) (k : Nat) : Bool := match xs[k]? with
  | some x => !within x 0 (1024 - s)
  | none => false
def bBad (s : Int) (xs : List V) (k : Nat) : Bool := match xs[k]? with
  | some x => (xs.take k).any (near s x)
  | none => false
def er (r : Str) (p : V) : Option (Str × V) := some (r, p)
/-- what is wrong with a name, a size and addresses, the first thing of it -/
def wants (v w : V) (xs : List V) : Option (Str × V) :=
  if isName v = false then er "name" .non else
  match w with
  | .int s => if within (.int s) 1 8 = false then er "size" .non else if (decide (1 ≤ xs.length) && decide (xs.length ≤ 4)) = false then er "slots" .non else
    match fst (aBad s xs) xs.length with
    | some k => er "address" (.int k)
    | none => match fst (bBad s xs) xs.length with
      | some k => er "bytes" (.int k)
      | none => none
  | _ => er "size" .non
theorem wants_name {v w : V} {xs : List V} (h : isName v = false) : wants v w xs = er "name" .non := by unfold wants; rw [h]; rfl
theorem wants_size {v w : V} {xs : List V} (h : isName v = true) (hw : within w 1 8 = false) : wants v w xs = er "size" .non := by
  unfold wants
  rw [h, if_neg (by decide)]
  cases w with
  | int s => dsimp only; rw [hw, if_pos rfl]
  | _ => rfl
theorem wants_slots {v : V} {s : Int} {xs : List V} (h : isName v = true) (hw : within (.int s) 1 8 = true) (hl : (decide (1 ≤ xs.length) && decide (xs.length ≤ 4)) = false) : wants v (.int s) xs = er "slots" .non := by
  unfold wants
  rw [h, if_neg (by decide)]
  dsimp only
  rw [hw, if_neg (by decide), hl, if_pos rfl]
theorem wants_addr {v : V} {s : Int} {xs : List V} {k : Nat} (h : isName v = true) (hw : within (.int s) 1 8 = true) (hl : (decide (1 ≤ xs.length) && decide (xs.length ≤ 4)) = true) (ha : fst (aBad s xs) xs.length = some k) : wants v (.int s) xs = er "address" (.int k) := by
  unfold wants
  rw [h, if_neg (by decide)]
  dsimp only
  rw [hw, if_neg (by decide), hl, if_neg (by decide), ha]
theorem wants_bytes {v : V} {s : Int} {xs : List V} {k : Nat} (h : isName v = true) (hw : within (.int s) 1 8 = true) (hl : (decide (1 ≤ xs.length) && decide (xs.length ≤ 4)) = true) (ha : fst (aBad s xs) xs.length = none) (hb : fst (bBad s xs) xs.length = some k) : wants v (.int s) xs = er "bytes" (.int k) := by
  unfold wants
  rw [h, if_neg (by decide)]
  dsimp only
  rw [hw, if_neg (by decide), hl, if_neg (by decide), ha]
  dsimp only
  rw [hb]
theorem wants_none {v : V} {s : Int} {xs : List V} (h : isName v = true) (hw : within (.int s) 1 8 = true) (hl : (decide (1 ≤ xs.length) && decide (xs.length ≤ 4)) = true) (ha : fst (aBad s xs) xs.length = none) (hb : fst (bBad s xs) xs.length = none) : wants v (.int s) xs = none := by
  unfold wants
  rw [h, if_neg (by decide)]
  dsimp only
  rw [hw, if_neg (by decide), hl, if_neg (by decide), ha]
  dsimp only
  rw [hb]
theorem fst_none_at {p : Nat → Bool} : ∀ {n : Nat}, fst p n = none → ∀ j, j < n → p j = false
  | 0, _, j, h => absurd h (Nat.not_lt_zero _)
  | n + 1, e, j, h => by
    unfold fst at e
    cases hh : fst p n with
    | some i => rw [hh] at e; cases e
    | none =>
      rw [hh] at e
      dsimp only at e
      by_cases hp : p n = true
      · rw [if_pos hp] at e; cases e
      · by_cases e2 : j < n
        · exact fst_none_at hh j e2
        · have : j = n := by omega
          subst this
          exact Bool.eq_false_iff.mpr hp
/-- addresses that are none of them bad are numbers -/
theorem ints_of {s : Int} {xs : List V} (h : ∀ j, j < xs.length → aBad s xs j = false) : ∃ ns : List Int, xs = ns.map V.int ∧ ∀ n ∈ ns, 0 ≤ n ∧ n ≤ 1024 - s := by
  induction xs with
  | nil => exact ⟨[], rfl, fun n hn => nomatch hn⟩
  | cons x xs ih =>
    have h0 := h 0 (by simp)
    have h0' : within x 0 (1024 - s) = true := by
      have : (!within x 0 (1024 - s)) = false := h0
      simpa using this
    obtain ⟨i, rfl, i0, i1⟩ : ∃ i, x = .int i ∧ 0 ≤ i ∧ i ≤ 1024 - s := by
      cases x with
      | int i =>
        have h' : (decide (0 ≤ i) && decide (i ≤ 1024 - s)) = true := h0'
        rw [Bool.and_eq_true] at h'
        exact ⟨i, rfl, of_decide_eq_true h'.1, of_decide_eq_true h'.2⟩
      | _ => cases h0'
    obtain ⟨ns, rfl, hn⟩ := ih fun j hj => by
      have := h (j + 1) (by simpa using hj)
      unfold aBad at this ⊢
      simpa using this
    exact ⟨i :: ns, rfl, fun n m => by
      rcases List.mem_cons.mp m with e | m
      · subst e; exact ⟨i0, i1⟩
      · exact hn n m⟩
/-- a row of values of any kind -/
def KzL (H : Hp) (xs : List V) : Prop := ∀ x ∈ xs, Kz H x
theorem KzL.mono {H H' : Hp} {xs : List V} (s : Same H H') (h : KzL H xs) : KzL H' xs := fun x m => (h x m).mono s
def spChkAddr (N : Addr) : Sp := fun vs H Q E => ∃ (s : Int) (t : Addr) (xs : List V), vs = [.int s, .ref t] ∧ H t = some (.tup xs) ∧ KzL H xs ∧
  (∀ k, fst (aBad s xs) xs.length = some k → ErrW N E H [("place", .int (k : Nat)), ("reason", .str "address")]) ∧ (fst (aBad s xs) xs.length = none → ∀ H', Same H H' → Q .non H')
def spChkApart (N : Addr) : Sp := fun vs H Q E => ∃ (s : Int) (t : Addr) (ns : List Int), vs = [.int s, .ref t] ∧ H t = some (.tup (ns.map V.int)) ∧ ns.length ≤ 4 ∧
  (∀ k, fst (bBad s (ns.map V.int)) ns.length = some k → ErrW N E H [("place", .int (k : Nat)), ("reason", .str "bytes")]) ∧ (fst (bBad s (ns.map V.int)) ns.length = none → ∀ H', Same H H' → Q .non H')
def varF (v w : V) (t : Addr) : List (Str × V) := [("name", v), ("size", w), ("at", .ref t)]
theorem putF_var (v w : V) (t : Addr) : putF "at" (.ref t) (putF "size" w (putF "name" v [])) = varF v w t := by
  have h1 : ¬ (("name" : Str) = "size") := by decide +kernel
  have h2 : ¬ (("name" : Str) = "at") := by decide +kernel
  have h3 : ¬ (("size" : Str) = "at") := by decide +kernel
  have e1 : putF "size" w (putF "name" v []) = [(("name" : Str), v), (("size" : Str), w)] := by
    show (if ("name" : Str) = "size" then _ else (("name" : Str), v) :: putF "size" w []) = _
    rw [if_neg h1]
    rfl
  rw [e1]
  show (if ("name" : Str) = "at" then _ else (("name" : Str), v) :: putF "at" (.ref t) [(("size" : Str), w)]) = _
  rw [if_neg h2]
  show (("name" : Str), v) :: (if ("size" : Str) = "at" then _ else (("size" : Str), w) :: putF "at" (.ref t) []) = _
  rw [if_neg h3]
  rfl
/-- a variable -/
def VarAt (C : Addr) (H : Hp) (x : Addr) (v w : V) (xs : List V) : Prop := ∃ dx t, H x = some (.ins C dx (varF v w t)) ∧ H t = some (.tup xs)
theorem VarAt.mono {C : Addr} {H H' : Hp} {x : Addr} {v w : V} {xs : List V} (s : Same H H') (h : VarAt C H x v w xs) : VarAt C H' x v w xs := by
  obtain ⟨dx, t, e1, e2⟩ := h
  exact ⟨dx, t, s _ _ e1, s _ _ e2⟩
/-- __init__(self, name, size, *at), at laid -/
def spVarInit (C N : Addr) : Sp := fun vs H Q E => ∃ x dx v w t xs, vs = [.ref x, v, w, .ref t] ∧ H x = some (.ins C dx []) ∧ Kz H v ∧ Kz H w ∧ H t = some (.tup xs) ∧ KzL H xs ∧
  (∀ r p, wants v w xs = some (r, p) → ErrW N E H [("place", p), ("reason", .str r)]) ∧ (wants v w xs = none → ∀ H', VarAt C H' x v w xs → Keep x H H' → Q .non H')
/-- a variable is asked for, by a class or by made: what comes of it -/
def AskW (C N : Addr) (v w : V) (xs : List V) (H : Hp) (Q : VK) (E : XK) : Prop :=
  (∀ r p, wants v w xs = some (r, p) → ErrW N E H [("place", p), ("reason", .str r)]) ∧ (wants v w xs = none → ∀ x H', Same H H' → VarAt C H' x v w xs → Q (.ref x) H')
theorem mk_var {C N : Addr} {H : Hp} {v w : V} {xs : List V} {Q : Addr → Hp → Prop} {Q' : VK} {E : XK} (hQ : ∀ x H, Q' (.ref x) H → Q x H) (hv : Kz H v) (hw : Kz H w) (hx : KzL H xs) (hl : xs.length ≤ 100) (a : AskW C N v w xs H Q' E) :
    ∀ x dx, H x = none → H dx = none → dx ≠ x → spStar 3 (spVarInit C N) (.ref x :: v :: w :: xs) (upd (upd H dx (.own x)) x (.ins C dx [])) (fun v H2 => v = .non ∧ Q x H2) E := by
  intro x dx hx' hdx hne
  have s0 : Same H (upd (upd H dx (.own x)) x (.ins C dx [])) := Lay.Same.upd' (Lay.Same.upd hdx) (by rw [upd_ne hne.symm]; exact hx')
  refine ⟨[.ref x, v, w], xs, rfl, rfl, Nat.le_trans hl (by decide), fun t ht => ?_⟩
  have s1 := s0.trans (Lay.Same.upd (o := .tup xs) ht)
  refine ⟨x, dx, v, w, t, xs, rfl, upd_old ht upd_same, hv.mono s1, hw.mono s1, upd_same, hx.mono s1, fun r p e d H' hd s z => a.1 r p e d H' (none_of s1 hd) (s1.trans s) z, fun e H' va k => ⟨rfl, hQ _ _ (a.2 e x H' (fun b o hb => ?_) va)⟩⟩
  have hbx : b ≠ x := fun z => by subst z; rw [hx'] at hb; cases hb
  exact k b o hbx (s1 b o hb)
/-- made(cls, name, size, at) -/
def spVarMade (K : PySem.W.Frag) (C N : Addr) : Sp := fun vs H Q E => ∃ v w a xs, vs = [.ref C, v, w, .ref a] ∧ Kz H v ∧ Kz H w ∧ (SqT K H a xs ∨ SqL K H a xs) ∧ KzL H xs ∧ xs.length ≤ 100 ∧ AskW C N v w xs H Q E
end Lay
namespace Lay
open PySem PySem.Spec PyProof.Rows L2 Exv
theorem six_k {n k : Nat} (h : k ≤ n) : HT.sIx n n (some (k : Int)) = k := by
  unfold HT.sIx
  dsimp only
  split <;> omega
theorem cut_take {xs : List V} {k : Nat} (h : k ≤ xs.length) : cutV xs none (some (k : Int)) = xs.take k := by
  unfold cutV
  rw [six_k h]
  show List.take (k - 0) (List.drop 0 xs) = xs.take k
  simp
theorem rd_slA {K : PySem.W.Frag} {a : Addr} {xs : List V} {k : Nat} {H : Hp} {Q : VK} (h : SqT K H a xs) (hk : k < xs.length) (q : ∀ p, H p = none → Q (.ref p) (upd H p (.tup (xs.take k)))) : rSlA K (.ref a) none (some (k : Int)) H Q := by
  refine ⟨a, xs, rfl, h, fun e => ?_, fun _ p hp => by rw [cut_take (Nat.le_of_lt hk)]; exact q p hp⟩
  rw [six_k (Nat.le_of_lt hk)] at e
  exact absurd e.2 (by omega)
theorem abs_near {a b s : Int} : near s (.int a) (.int b) = decide ((if a - b < 0 then -(a - b) else a - b) < s) := rfl
end Lay
namespace Lay
open PySem PySem.Spec PyProof.Rows L2 Exv
theorem bind_star3 {B : List Value → Sem (List (Str × Value))} {p1 p2 p3 pv : Str} (h0 : ∀ a b c, B [a, b, c] = (newTuple [] >>= fun t => pure [(p1, a), (p2, b), (p3, c), (pv, t)])) (h1 : ∀ a b c r rs, B (a :: b :: c :: r :: rs) = (newTuple (r :: rs) >>= fun t => pure [(p1, a), (p2, b), (p3, c), (pv, t)])) :
    ∀ us rest : List Value, us.length = [p1, p2, p3].length → B (us ++ rest) = (newTuple rest >>= fun t => pure ([p1, p2, p3].zip us ++ [(pv, t)]))
  | [a, b, c], [], _ => h0 a b c
  | [a, b, c], r :: rs, _ => h1 a b c r rs
end Lay
namespace Lay
open PySem PySem.Spec PyProof.Rows L2 Exv
def spVarLen (C : Addr) : Sp := fun vs H Q _ => ∃ a v w xs, vs = [.ref a] ∧ VarAt C H a v w xs ∧ Q (.int xs.length) H
def spVarGet (C : Addr) : Sp := fun vs H Q _ => ∃ (a : Addr) (v w : V) (xs : List V) (i : Nat) (y : V), vs = [.ref a, .int i] ∧ VarAt C H a v w xs ∧ xs[i]? = some y ∧ Q y H
/-- the law's own word of what is wrong -/
def WantAt (H : Hp) (r : V) (o : Option (Str × V)) : Prop := match o with
  | none => r = .non
  | some (z, p) => ∃ t, r = .ref t ∧ H t = some (.tup [.str z, p])
def spWanted (K : PySem.W.Frag) : Sp := fun vs H Q _ => ∃ v w a xs, vs = [v, w, .ref a] ∧ Kz H v ∧ Kz H w ∧ H a = some (.lst xs) ∧ KzL H xs ∧ xs.length ≤ 5 ∧ ∀ r H', Same H H' → WantAt H' r (wants v w xs) → Q r H'
def spDirect (C N : Addr) : Sp := fun vs H Q E => ∃ v w a xs, vs = [v, w, .ref a] ∧ Kz H v ∧ Kz H w ∧ H a = some (.lst xs) ∧ KzL H xs ∧ xs.length ≤ 5 ∧ AskW C N v w xs H Q E
end Lay
namespace Lay
open PySem PySem.Spec PyProof.Rows L2 Exv
theorem rd_slLk {K : PySem.W.Frag} {a : Addr} {xs : List V} {k : Nat} {H : Hp} {Q : VK} (h : SqL K H a xs) (hk : k ≤ xs.length) (q : ∀ p, H p = none → Q (.ref p) (upd H p (.lst (xs.take k)))) : rSlL K (.ref a) none (some (k : Int)) H Q :=
  ⟨a, xs, rfl, h, fun p hp => by rw [cut_take hk]; exact q p hp⟩
theorem near_iff {a b s : Int} : (decide ((if a - b < 0 then -(a - b) else a - b) < s)) = (decide (b - s < a) && decide (a < b + s)) := by
  rw [Bool.eq_iff_iff, Bool.and_eq_true, decide_eq_true_iff, decide_eq_true_iff, decide_eq_true_iff]
  split <;> omega
theorem filt_any {α : Type} {p : α → Bool} : ∀ {l : List α}, decide ((0 : Int) < ((l.filter p).length : Nat)) = l.any p
  | [] => by simp
  | a :: l => by
    rw [List.filter_cons, List.any_cons]
    by_cases h : p a = true
    · rw [if_pos h, h, Bool.true_or]
      exact decide_eq_true (by rw [List.length_cons]; omega)
    · rw [if_neg h, Bool.eq_false_iff.mpr h, Bool.false_or]
      exact filt_any
/-- what asking for a variable gives, errors too -/
def spAskedV (C N : Addr) : Sp := fun vs H Q _ => ∃ (c : Int) (v w : V) (a : Addr) (xs : List V), vs = [.int c, v, w, .ref a] ∧ Kz H v ∧ Kz H w ∧ H a = some (.lst xs) ∧ KzL H xs ∧ xs.length ≤ 5 ∧
  (∀ r p, wants v w xs = some (r, p) → ∀ a' H', Same H H' → ErrAt N H' a' [("place", p), ("reason", .str r)] → Q (.ref a') H') ∧ (wants v w xs = none → ∀ x H', Same H H' → VarAt C H' x v w xs → Q (.ref x) H')
theorem wants_place {v w : V} {xs : List V} {r : Str} {p : V} (h : wants v w xs = some (r, p)) : p = .non ∨ ∃ i, p = .int i := by
  unfold wants at h
  split at h
  · cases h; exact .inl rfl
  · split at h
    · split at h
      · cases h; exact .inl rfl
      · split at h
        · cases h; exact .inl rfl
        · split at h
          · cases h; exact .inr ⟨_, rfl⟩
          · split at h
            · cases h; exact .inr ⟨_, rfl⟩
            · cases h
    · cases h; exact .inl rfl
end Lay
namespace Lay
open PySem PySem.Spec PyProof.Rows L2 Exv
theorem rd_callS {sp : Sp} {E : L2.St → XK} {t : TA} {σ : L2.St} {H : Hp} {Q : VK} (h : t σ H fun vs H1 => sp vs H1 Q (E σ)) : tCallS sp E t σ H Q := h
theorem VarAt.updL {C : Addr} {H : Hp} {x : Addr} {v w : V} {xs : List V} {t : Addr} {l l' : List V} (h : VarAt C H x v w xs) (ht : H t = some (.lst l)) : VarAt C (upd H t (.lst l')) x v w xs := by
  obtain ⟨dx, t2, e1, e2⟩ := h
  refine ⟨dx, t2, ?_, ?_⟩
  · rw [upd_ne (fun y => by subst y; rw [e1] at ht; cases ht)]; exact e1
  · rw [upd_ne (fun y => by subst y; rw [e2] at ht; cases ht)]; exact e2
end Lay
namespace Lay
open PySem PySem.Spec PyProof.Rows L2 Exv
theorem four_at {a b c d lo hi i : Int} (i0 : 0 ≤ i) (i1 : i < 4) (ha : lo ≤ a ∧ a ≤ hi) (hb : lo ≤ b ∧ b ≤ hi) (hc : lo ≤ c ∧ c ≤ hi) (hd : lo ≤ d ∧ d ≤ hi) : ∃ k, atI [V.int a, V.int b, V.int c, V.int d] i = some (.int k) ∧ lo ≤ k ∧ k ≤ hi := by
  obtain rfl | rfl | rfl | rfl : i = 0 ∨ i = 1 ∨ i = 2 ∨ i = 3 := by omega
  · exact ⟨a, rfl, ha⟩
  · exact ⟨b, rfl, hb⟩
  · exact ⟨c, rfl, hc⟩
  · exact ⟨d, rfl, hd⟩
/-- what is written into a list leaves values what they are -/
theorem Kz.updL {H : Hp} {D : Addr} {l l' : List V} {v : V} (hD : H D = some (.lst l)) (k : Kz H v) : Kz (upd H D (.lst l')) v := by
  obtain ⟨t, k, hz⟩ := k
  by_cases e : v = .ref D
  · subst e
    exact .lst upd_same
  · exact ⟨t, k.same fun b o eb h => by rw [upd_ne (fun z => e (by rw [eb, z]))]; exact h, hz⟩
theorem Kp.updL {p : Addr} {H : Hp} {D : Addr} {l l' : List V} {v : V} (hD : H D = some (.lst l)) (k : Kp p H v) : Kp p (upd H D (.lst l')) v := ⟨k.1.updL hD, k.2⟩
def KpL (p : Addr) (H : Hp) (xs : List V) : Prop := ∀ x ∈ xs, Kp p H x
theorem KpL.mono {p : Addr} {H H' : Hp} {xs : List V} (s : Same H H') (h : KpL p H xs) : KpL p H' xs := fun x m => (h x m).mono s
theorem KpL.keep {p : Addr} {H H' : Hp} {xs : List V} (s : Keep p H H') (h : KpL p H xs) : KpL p H' xs := fun x m => (h x m).keep s
theorem KpL.kz {p : Addr} {H : Hp} {xs : List V} (h : KpL p H xs) : KzL H xs := fun x m => (h x m).1
theorem KpL.ints {p : Addr} {H : Hp} (ns : List Int) : KpL p H (ns.map V.int) := fun x m => by
  obtain ⟨n, _, rfl⟩ := List.mem_map.mp m
  exact .int n
theorem KpL.set {p : Addr} {H : Hp} {xs : List V} {i : Nat} {y : V} (h : KpL p H xs) (hy : Kp p H y) : KpL p H (xs.set i y) := fun x m => by
  rcases List.mem_or_eq_of_mem_set m with e | e
  · exact h x e
  · rw [e]; exact hy
theorem wants_ok {v w : V} {xs : List V} (h : wants v w xs = none) : ∃ (z : Str) (s : Int) (ns : List Int), v = .str z ∧ nameOk z = true ∧ w = .int s ∧ xs = ns.map V.int := by
  by_cases hn : isName v = true
  case neg => rw [wants_name (Bool.eq_false_iff.mpr hn)] at h; cases h
  by_cases hw : within w 1 8 = true
  case neg => rw [wants_size hn (Bool.eq_false_iff.mpr hw)] at h; cases h
  obtain ⟨z, rfl, hz⟩ := isName_str hn
  obtain ⟨s, rfl, _, _⟩ := within_int hw
  by_cases hl : (decide (1 ≤ xs.length) && decide (xs.length ≤ 4)) = true
  case neg => rw [wants_slots hn hw (Bool.eq_false_iff.mpr hl)] at h; cases h
  cases ha : fst (aBad s xs) xs.length with
  | some k => rw [wants_addr hn hw hl ha] at h; cases h
  | none =>
    obtain ⟨ns, rfl, _⟩ := ints_of (fst_none_at ha)
    exact ⟨z, s, ns, rfl, hz, rfl, rfl⟩
theorem shaped_tints (ns : List Int) : SeqAt.shaped (.tuple (ns.map PyData.int)) = true := by
  have h := PySem.W.shaped_ints ns
  unfold SeqAt.shaped at h ⊢
  exact h
theorem eqv_self_ints (ns : List Int) : PyData.eqvAll (ns.map PyData.int) (ns.map PyData.int) = true := by
  induction ns with
  | nil => rfl
  | cons a r ih => rw [List.map_cons, PyData.eqvAll, ih, Bool.and_true]; simp [PyData.eqv]
theorem rd_neTI {K : PySem.W.Frag} {H : Hp} {Q : VK} {a b : Addr} {ns : List Int} (ha : SqT K H a (ns.map V.int)) (hb : SqT K H b (ns.map V.int)) (q : Q (.bl false) H) : rNeD K (.ref a) (.ref b) H Q :=
  dp_ne (.tuple (ns.map PyData.int)) (.tuple (ns.map PyData.int)) (.tup ha (dpAll_ints ns)) (.tup hb (dpAll_ints ns)) (shaped_tints ns) (shaped_tints ns) (by rw [PyData.eqv]; exact eqv_self_ints ns) q
theorem rd_neLI {K : PySem.W.Frag} {H : Hp} {Q : VK} {a b : Addr} {ns : List Int} (ha : SqL K H a (ns.map V.int)) (hb : SqL K H b (ns.map V.int)) (q : Q (.bl false) H) : rNeD K (.ref a) (.ref b) H Q :=
  dp_ne (.list (ns.map PyData.int)) (.list (ns.map PyData.int)) (.lst ha (dpAll_ints ns)) (.lst hb (dpAll_ints ns)) (PySem.W.shaped_ints ns) (PySem.W.shaped_ints ns) (by rw [PyData.eqv]; exact eqv_self_ints ns) q
theorem ixN_of {n : Nat} {d : Int} (h0 : 0 ≤ d) (h1 : d < n) : ixN n d = some d.toNat := by
  unfold ixN
  rw [if_pos h0, if_pos h1]
end Lay
namespace Lay
open PySem PySem.Spec PyProof.Rows L2 Exv
theorem for_go {J : It} {n : Nat} {G : Hp → Prop} {Y : Nat → Hp → V → Hp → Prop} (w : Walk J n G Y) {g : TG} {tb : TS} {nx : L2.St → Hp → Prop} {rt : VK} {σ : L2.St} {H1 : Hp} (Pv : Nat → L2.St → Hp → Prop) (h0 : Pv 0 σ H1)
    (hG : ∀ i σ H, i ≤ n → Pv i σ H → G H) (hs : ∀ i x σ H H', i < n → Pv i σ H → Y i H x H' → g x σ H' fun σ2 H2 => tb { nx := Pv (i + 1), rt := rt, bk := nx, ct := Pv (i + 1) } σ2 H2) (hd : ∀ σ H, Pv n σ H → nx σ H) :
    ∃ W : Nat → Nat → L2.St → Hp → Prop, (∃ m, W 0 m σ H1) ∧ ∀ i m σ H, W i m σ H →
    (J.stop i H ∧ nx σ H) ∨ (J.go i H ∧ ∃ N : L2.St → Hp → Prop, (∀ σ' H', N σ' H' → ∃ m', m' < m ∧ W (i + 1) m' σ' H') ∧ ∀ x H', J.yld i H x H' → g x σ H' fun σ2 H2 => tb { nx := N, rt := rt, bk := nx, ct := N } σ2 H2) :=
  for_it (D := { nx := nx, rt := rt, bk := nx, ct := nx }) w Pv h0 hG hs hd
end Lay

namespace SetL
open PySem PySem.Spec PyProof.Rows L2
section
variable {P : Program} {w : World} {A : Around} {E : Value → Shared → Prop} {s : Shared}
/-- the object of a set that is just made -/
abbrev newO (w : World) : Obj := { cls := .type "set", dict := none, data := .set #[] 0 (.fresh 0 0 (!w.params.followText "set-order")) }
/-- what set.__init__(S, l) leaves, l a list of whole numbers -/
def Filled (w : World) (s : Shared) (ns : List Int) (s2 : Shared) : Prop :=
  ∃ (h' : Heap) (tk c : Nat), s2 = { s with heap := h', toks := tk } ∧ SetR w h' s.heap.objs.size (fun j => decide (j ∈ ns)) c ∧ c ≤ ns.length ∧ ∀ b o, s.heap.get? b = some o → h'.get? b = some o
theorem init_ints {l : Addr} {items : Array Value} (ns : List Int) (hh : A.handled = none) (hl : s.heap.IsList l items) (hit : IntsAre items.toList ns) (hb : ns.length + 1 < scanBound) :
    codeAny (model P w) A (.call (.builtin "set.__init__") ⟨[.ref s.heap.objs.size, .ref l], []⟩) (wants (fun r s2 => r = .none ∧ Filled w s ns s2) E) { s with heap := s.heap.push (newO w) } := by
  have hisz : items.size = ns.length := by
    have q := IntsAre.length hit
    rwa [Array.length_toList] at q
  have hS : (s.heap.push (newO w)).get? s.heap.objs.size = some (newO w) := Heap.get?_push_size _ rfl
  have hT : Shared.TypeIs { s with heap := s.heap.push (newO w) } (.ref s.heap.objs.size) "set" := ⟨_, hS, rfl⟩
  refine codeAny_call_builtin F.called_set.init.plain F.entry_set_init (check_set_init_1 hT ?_)
  obtain ⟨⟨oc, od, odt, os⟩, hol, hcl, nl, hdl⟩ := hl
  simp only at hcl hdl
  subst hcl; subst hdl
  have hol' : (s.heap.push (newO w)).get? l = some { cls := .type "list", dict := od, data := .seq items nl, slots := os } := Heap.get?_push_of_some _ hol
  have f1 := PySem.F.sub_list_set
  have f2 := PySem.F.sub_list_frozenset
  have hne : (Value.type "list" == Value.type "dict") = false := by decide
  have hl1 : (s.heap.push (newO w)).IsList l items := ⟨_, hol', rfl, nl, rfl⟩
  unfold Builtin.«set.__init__» noKeywords Builtin.Frozenset.updateFrom
  generalize hPI : pyIter = PI
  wp_walk
  subst hPI
  refine wpAny_pyIter_list hl1 (wpAny_bind (wpAny_runValue ?_))
  have hlS : l < s.heap.objs.size := Heap.lt_size hol
  have hz : (s.heap.push (newO w)).objs.size = s.heap.objs.size + 1 := Heap.size_push ..
  have hneI : l ≠ (s.heap.push (newO w)).objs.size := by rw [hz]; exact Nat.ne_of_lt (Nat.lt_succ_of_lt hlS)
  have hSf : s.heap.objs.size ∉ [(s.heap.push (newO w)).objs.size, l] := by
    rw [hz]
    intro m
    rcases List.mem_cons.mp m with e | e
    · exact absurd e (Nat.ne_of_lt (Nat.lt_succ_self _))
    · exact absurd (List.mem_singleton.mp e) (Nat.ne_of_gt hlS)
  have hval : ∀ (i : Nat) (v : Value), items[i]? = some v → ∃ k t, ns[i]? = some k ∧ v = .int k t := fun i v hv => by
    have hi : i < ns.length := by rw [← hisz]; exact (Array.getElem?_eq_some_iff.mp hv).1
    obtain ⟨t, e⟩ := PyProof.Rows.IntsAre.int_at hit i v (by rw [Array.getElem?_toList]; exact hv)
    refine ⟨ns[i], t, List.getElem?_eq_getElem hi, ?_⟩
    rw [e, List.getD_eq_getElem?_getD, List.getElem?_eq_getElem hi] <;> rfl
  refine set_update_ints ((Walks.list (by simp [hh]) _ l hneI items).toS) s.heap.objs.size hSf ns hisz hb hval (items.size - 0) 0 _ (by omega) (Nat.zero_le _)
    ⟨⟨_, Heap.get?_push_size _ rfl, rfl, rfl⟩, hl1.push _⟩ ⟨0, Nat.le_refl 0, setR_new_at (Heap.get?_push_of_some _ hS)⟩ fun s' c hm hc hR => ?_
  obtain ⟨h', g', d', tk', os'⟩ := s'
  obtain rfl : g' = s.gens := hm.gens
  obtain rfl : d' = s.drawn := hm.drawn
  obtain rfl : os' = s.os := hm.os
  show wpAny _ _ _ _ _ _
  refine wpAny_pure ?_
  show wpAny _ _ (ret Value.none) _ _ _
  rw [hisz] at hc
  refine wpAny_pure ⟨rfl, h', tk', c, rfl, hR, hc, fun b o e => hm.heap b o (fun m => ?_) (Heap.get?_push_of_some _ (Heap.get?_push_of_some _ e))⟩
  have lt := Heap.lt_size e
  rcases List.mem_cons.mp m with q | q
  · exact absurd q (Nat.ne_of_lt lt)
  · exact absurd (List.mem_singleton.mp q) (by rw [hz]; exact Nat.ne_of_lt (Nat.lt_succ_of_lt lt))
theorem call_set_list {l : Addr} {items : Array Value} (ns : List Int) {Q : Value → Shared → Prop} (hh : A.handled = none) (hl : s.heap.IsList l items) (hit : IntsAre items.toList ns) (hb : ns.length + 1 < scanBound)
    (h : ∀ s2, Filled w s ns s2 → Q (.ref s.heap.objs.size) s2) : wpAny (model P w) A (call (.type "set") [.ref l]) Q E s := by
  obtain ⟨c, tl, hmro⟩ := F.called_set.mro
  have g1 := F.called_set.made
  have g2 := F.called_set.sub
  have g3 := F.called_set.notType
  have g4 := F.called_set.canCreate
  have g5 := F.typeCall_set_1 (.ref l)
  refine wpAny_call (codeAny_of_tree ?_)
  show wpAny _ _ (callAny (.type "set") _) _ _ _
  refine wpAny_pure ⟨Code.quiet_builtin _ (by decide +kernel), codeAny_builtin F.entry_type_call ?_⟩
  rw [Around.under_plain (weight_type_call_type "set" [.ref l] []) rfl]
  repeat (any_goals (first | assumption | wp_step))
  refine codeAny_mono (code_set_led1 (.ref l) (E := E) (Q₁ := fun obj s₁ => obj = .ref s.heap.objs.size ∧ s₁ = { s with heap := s.heap.push (newO w) }) ⟨rfl, rfl⟩) fun r s₁ hr => ?_
  rcases r with e | fl
  · exact hr
  cases fl with
  | ret obj =>
    obtain ⟨rfl, rfl⟩ := hr
    have hT : Shared.TypeIs { s with heap := s.heap.push (newO w) } (.ref s.heap.objs.size) "set" := ⟨_, Heap.get?_push_size _ rfl, rfl⟩
    have k1 := F.called_set.init.lookup
    have k2 := F.called_set.init.bind (.ref s.heap.objs.size)
    repeat (any_goals (first | assumption | wp_step))
    refine codeAny_mono (init_ints (E := E) ns (by simp [hh]) hl hit hb) fun r₂ s₂ hr₂ => ?_
    rcases r₂ with e | fl₂
    · exact hr₂
    cases fl₂ with
    | ret r =>
      obtain ⟨rfl, fl⟩ := hr₂
      repeat (any_goals (first | assumption | wp_step))
      exact h _ fl
    | _ => exact hr₂.elim
  | _ => exact hr.elim
end
end SetL
namespace Lay
open PySem PySem.Spec PyProof.Rows L2
/-- set(l), l a list of whole numbers -/
def rSetOfL (K : PySem.W.Frag) (w : World) : List V → Hp → VK → Prop := fun xs H Q => ∃ (a : Addr) (ns : List Int), xs = [.ref a] ∧ SqL K H a (ns.map V.int) ∧ ns.length ≤ 60 ∧
  ∀ (p : Addr) (n : Nat), H p = none → n ≤ ns.length → Q (.ref p) (upd H p (SetO w p (fun j => decide (j ∈ ns)) n))
theorem call_setL {X : Cx} (hc : X.calm = true) : CallR X (.type "set") (rSetOfL X.K X.w) := by
  intro pins s σ H xs us Q I r h
  obtain ⟨a, ns, rfl, hq, hl, q⟩ := h
  rw [Vals.ref1 r]
  obtain ⟨its, rv, p', hz⟩ := I.list hq
  refine SetL.call_set_list ns (I.ok.hd hc) p'.isList (by rw [List.toList_toArray]; exact ints_of_vals rv) (by unfold scanBound; omega) fun s2 f => ?_
  obtain ⟨h', tk, n, rfl, R, hn, k⟩ := f
  have hN : H s.heap.objs.size = none := I.hok.fresh (Nat.le_refl _)
  exact ⟨.ref _, _, I.laid (t' := tk) k (Nat.le_refl _) (setO_new R), rfl, q _ n hN hn⟩
theorem rd_setOfL {K : PySem.W.Frag} {w : World} {H : Hp} {Q : VK} {a : Addr} {ns : List Int} (h : SqL K H a (ns.map V.int)) (hl : ns.length ≤ 60) (q : ∀ (p : Addr) (n : Nat), H p = none → n ≤ ns.length → Q (.ref p) (upd H p (SetO w p (fun j => decide (j ∈ ns)) n))) : rSetOfL K w [.ref a] H Q := ⟨a, ns, rfl, h, hl, q⟩
end Lay

namespace Lay
open PySem PySem.Spec PyProof.Rows L2 Exv
/-! ### a list or a tuple, gone through -/
def iSeq (K : PySem.W.Frag) (tl : TE) : TI := fun σ H R => tl σ H fun x H1 => ∃ a, x = .ref a ∧ ((∃ xs, SqL K H1 a xs) ∧ R (Itl K a) H1 ∨ (∃ xs, SqT K H1 a xs) ∧ R (Itt K a) H1)
theorem pi_seq {X : Cx} {tg l : Expr} {tl : TE} (hl : PE X l tl) : PI X tg l (iSeq X.K tl) := by
  refine ⟨fun pins s σ H R I h => ?_⟩
  refine thn (hl.run pins s σ H _ I h) fun v s1 ⟨x, H1, I1, r1, q1⟩ => ?_
  obtain ⟨a, e, q⟩ := q1
  subst e
  have pos {b : Addr} {o : Obj} (hb : b ∈ [s1.heap.objs.size]) : b = s1.heap.objs.size := by simpa using hb
  rcases q with ⟨⟨xs, hq⟩, q⟩ | ⟨⟨xs, hq⟩, q⟩
  · cases r1
    obtain ⟨its, rv, p, hz⟩ := I1.list hq
    refine wpAny_pyIter_list p.isList ⟨s1.heap.objs.size, [s1.heap.objs.size], _, _, H1, rfl, I1.kept (t' := s1.toks) fun b o e => Heap.get?_push_of_some _ e, turn_list a _, ⟨_, Heap.get?_push_size _ rfl, rfl, rfl⟩, fun b hb => ?_, q⟩
    have e : b = s1.heap.objs.size := by simpa using hb
    rw [e]
    exact I1.fpOk (Nat.le_refl _) (I1.hok.fresh (Nat.le_refl _))
  · cases r1
    obtain ⟨its, rv, p, hz⟩ := I1.tuple hq
    refine wpAny_pyIter_tuple (show s1.heap.IsTuple a its.toArray from p) ⟨s1.heap.objs.size, [s1.heap.objs.size], _, _, H1, rfl, I1.kept (t' := s1.toks) fun b o e => Heap.get?_push_of_some _ e, turn_tuple a _, ⟨_, Heap.get?_push_size _ rfl, rfl, rfl⟩, fun b hb => ?_, q⟩
    have e : b = s1.heap.objs.size := by simpa using hb
    rw [e]
    exact I1.fpOk (Nat.le_refl _) (I1.hok.fresh (Nat.le_refl _))
theorem rd_iSeq {K : PySem.W.Frag} {tl : TE} {σ : L2.St} {H : Hp} {R : It → Hp → Prop} (h : tl σ H fun x H1 => ∃ a, x = .ref a ∧ ((∃ xs, SqL K H1 a xs) ∧ R (Itl K a) H1 ∨ (∃ xs, SqT K H1 a xs) ∧ R (Itt K a) H1)) : iSeq K tl σ H R := h
theorem rd_seqV {K : PySem.W.Frag} {tl : TE} {σ : L2.St} {a : Addr} {xs : List V} {H : Hp} {R : It → Hp → Prop} (ht : ∀ Q : VK, Q (.ref a) H → tl σ H Q) (h : H a = some (.lst xs) ∨ H a = some (.tup xs)) (q : ∀ J G, Walk J xs.length G (YAt xs) → (∀ H', Same H H' → G H') → R J H) : iSeq K tl σ H R := by
  refine ht _ ?_
  rcases h with h | h
  · exact ⟨a, rfl, .inl ⟨⟨xs, SqL.of h⟩, q _ _ (walk_list (K := K) (a := a) (xs := xs)) fun H' s => SqL.of (s _ _ h)⟩⟩
  · exact ⟨a, rfl, .inr ⟨⟨xs, SqT.of h⟩, q _ _ (walk_tup (K := K) (a := a) (xs := xs)) fun H' s => SqT.of (s _ _ h)⟩⟩
/-! ### == of variables -/
def VArg (K : PySem.W.Frag) (C : Addr) (z : Str) (s : Int) (ns : List Int) (H : Hp) (v : V) (r : Bool) : Prop :=
  (∃ T, TyX K H v T ∧ PySem.W.kitOne K T (.ref C) = some false ∧ r = false) ∨
  (∃ b z2 s2 ns2, v = .ref b ∧ VarAt C H b (.str z2) (.int s2) (ns2.map V.int) ∧ r = (decide (z = z2) && (decide (s = s2) && decide (ns = ns2))))
def spEqV (K : PySem.W.Frag) (C : Addr) : Sp := fun vs H Q _ => ∃ a v z s ns r, vs = [.ref a, v] ∧ VarAt C H a (.str z) (.int s) (ns.map V.int) ∧ VArg K C z s ns H v r ∧ Q (.bl r) H
theorem rd_eqTI {K : PySem.W.Frag} {H : Hp} {Q : VK} {a b : Addr} {ns ms : List Int} (ha : SqT K H a (ns.map V.int)) (hb : SqT K H b (ms.map V.int)) (q : Q (.bl (decide (ns = ms))) H) : rEqD K (.ref a) (.ref b) H Q :=
  ⟨.tuple (ns.map PyData.int), .tuple (ms.map PyData.int), .tup ha (dpAll_ints ns), .tup hb (dpAll_ints ms), shaped_tints ns, shaped_tints ms, by rw [PyData.eqv, PySem.W.ked_eqvAll]; exact q⟩
theorem rd_eqLI {K : PySem.W.Frag} {H : Hp} {Q : VK} {a b : Addr} {ns ms : List Int} (ha : SqL K H a (ns.map V.int)) (hb : SqL K H b (ms.map V.int)) (q : Q (.bl (decide (ns = ms))) H) : rEqD K (.ref a) (.ref b) H Q :=
  ⟨.list (ns.map PyData.int), .list (ms.map PyData.int), .lst ha (dpAll_ints ns), .lst hb (dpAll_ints ms), PySem.W.shaped_ints ns, PySem.W.shaped_ints ms, by rw [PyData.eqv, PySem.W.ked_eqvAll]; exact q⟩
/-! ### the lines of addresses -/
def spLinesOf (K : PySem.W.Frag) : Sp := fun vs H Q _ => ∃ (a : Addr) (ns : List Int) (m : Int), vs = [.ref a, .int m] ∧ (H a = some (.lst (ns.map V.int)) ∨ H a = some (.tup (ns.map V.int))) ∧ ns.length ≤ 20 ∧ 1 ≤ m ∧ m < 1000 ∧
  ∀ (p : Addr) (ms : List Int) (H' : Hp), Same H H' → H' p = some (.tup (ms.map V.int)) → ms.Pairwise (· < ·) → (∀ k, k ∈ ms ↔ ∃ n ∈ ns, n / m = k) → Q (.ref p) H'
/-! ### numbers for a variable -/
def NumAt (H : Hp) (r : Addr) (z : Str) (s : Int) (t : Addr) (ns : List Int) : Prop := H r = some (.lst [.str z, .int s, .ref t]) ∧ H t = some (.lst (ns.map V.int))
theorem NumAt.mono {H H' : Hp} {r : Addr} {z : Str} {s : Int} {t : Addr} {ns : List Int} (k : Same H H') (h : NumAt H r z s t ns) : NumAt H' r z s t ns := ⟨k _ _ h.1, k _ _ h.2⟩
theorem NumAt.keep {H H' : Hp} {p r : Addr} {z : Str} {s : Int} {t : Addr} {ns : List Int} (k : Keep p H H') (hr : r ≠ p) (ht : t ≠ p) (h : NumAt H r z s t ns) : NumAt H' r z s t ns := ⟨k _ _ hr h.1, k _ _ ht h.2⟩
def numD (z : Str) (s : Int) (ns : List Int) : PyData := .list [.str z, .int s, .list (ns.map PyData.int)]
theorem shaped_num {z : Str} {s : Int} {ns : List Int} (hz : PyData.strOk z = true) : SeqAt.shaped (numD z s ns) = true := by
  have h := PySem.W.shaped_ints ns
  unfold SeqAt.shaped at h ⊢
  obtain ⟨h1, h2⟩ := Bool.and_eq_true_iff.mp h
  simp only [PyData.canLay0] at h1
  have h3 : PyData.depthAll (ns.map PyData.int) = 0 := by
    clear h h1 h2
    induction ns with
    | nil => rfl
    | cons a r ih => rw [List.map_cons, PyData.depthAll, ih, PyData.depth]; rfl
  have e1 : PyData.canLay0 (numD z s ns) = true := by
    unfold numD
    simp only [PyData.canLay0, PyData.canLayAll0, hz, h1, Bool.and_self]
  have e2 : PyData.depth (numD z s ns) ≤ 64 := by
    unfold numD
    simp only [PyData.depth, PyData.depthAll, h3]
    omega
  rw [e1, decide_eq_true e2]
  rfl
theorem eqv_num {z z2 : Str} {s s2 : Int} {ns ns2 : List Int} : PyData.eqv (numD z s ns) (numD z2 s2 ns2) = (decide (z = z2) && (decide (s = s2) && decide (ns = ns2))) := by
  unfold numD
  simp only [PyData.eqv, PyData.eqvAll, PySem.W.ked_eqvAll, Bool.and_true]
  rw [beq_dec, beq_dec]
theorem rd_eqNum {K : PySem.W.Frag} {H : Hp} {Q : VK} {r r2 t t2 : Addr} {z z2 : Str} {s s2 : Int} {ns ns2 : List Int} (h : NumAt H r z s t ns) (h2 : NumAt H r2 z2 s2 t2 ns2) (hz : nameOk z = true) (hz2 : nameOk z2 = true)
    (q : Q (.bl (decide (z = z2) && (decide (s = s2) && decide (ns = ns2)))) H) : rEqD K (.ref r) (.ref r2) H Q :=
  ⟨numD z s ns, numD z2 s2 ns2, .lst (SqL.of h.1) (.cons (.str _) (.cons (.int _) (.cons (.lst (SqL.of h.2) (dpAll_ints ns)) .nil))), .lst (SqL.of h2.1) (.cons (.str _) (.cons (.int _) (.cons (.lst (SqL.of h2.2) (dpAll_ints ns2)) .nil))),
    shaped_num (name_strOk hz), shaped_num (name_strOk hz2), by rw [eqv_num]; exact q⟩
def Apart (ns : List Int) : Prop := ns.Pairwise fun a b => 8 ≤ a - b ∨ 8 ≤ b - a
def Good (ns : List Int) : Prop := 1 ≤ ns.length ∧ ns.length ≤ 4 ∧ (∀ n ∈ ns, 0 ≤ n ∧ n ≤ 1016) ∧ Apart ns
def Tight (ns : List Int) : Prop := 1 ≤ ns.length ∧ ns.length ≤ 4 ∧ (∀ n ∈ ns, 0 ≤ n ∧ n ≤ 180) ∧ Apart ns
theorem Tight.good {ns : List Int} (h : Tight ns) : Good ns := ⟨h.1, h.2.1, fun n m => ⟨(h.2.2.1 n m).1, by have := (h.2.2.1 n m).2; omega⟩, h.2.2.2⟩
theorem Good.rev {ns : List Int} (h : Good ns) : Good ns.reverse :=
  ⟨by rw [List.length_reverse]; exact h.1, by rw [List.length_reverse]; exact h.2.1, fun n m => h.2.2.1 n (List.mem_reverse.mp m), List.pairwise_reverse.mpr (h.2.2.2.imp fun e => e.symm)⟩
theorem Good.tail {ns : List Int} (h : Good ns) (h2 : 1 < ns.length) : Good (ns.drop 1) :=
  ⟨by rw [List.length_drop]; omega, by rw [List.length_drop]; have := h.2.1; omega, fun n m => h.2.2.1 n (List.mem_of_mem_drop m), h.2.2.2.sublist (List.drop_sublist _ _)⟩
/-- one of the numbers moved far away -/
def moved (ns : List Int) (c : Int) (k : Nat) : List Int := ((List.range ns.length).take k).map fun i => ns.getD i 0 + 200 * (if (i : Int) = c then 1 else 0)
theorem moved_len (ns : List Int) (c : Int) {k : Nat} (h : k ≤ ns.length) : (moved ns c k).length = k := by unfold moved; simp [h]
theorem moved_succ (ns : List Int) (c : Int) {k : Nat} (h : k < ns.length) : moved ns c (k + 1) = moved ns c k ++ [ns[k] + 200 * (if (k : Int) = c then 1 else 0)] := by
  unfold moved
  rw [List.take_add_one, List.map_append]
  simp [h, List.getElem?_range]
theorem Tight.moved {ns : List Int} (h : Tight ns) (c : Int) : Good (moved ns c ns.length) := by
  have hl := moved_len ns c (Nat.le_refl _)
  have hg : ∀ (i : Nat) (hi : i < (Lay.moved ns c ns.length).length), (Lay.moved ns c ns.length)[i] = ns[i]'(by omega) + 200 * (if (i : Int) = c then 1 else 0) := by
    intro i hi
    have hi' : i < ns.length := by omega
    unfold Lay.moved
    simp [hi']
  refine ⟨by rw [hl]; exact h.1, by rw [hl]; exact h.2.1, fun n hn => ?_, ?_⟩
  · obtain ⟨i, hi, rfl⟩ := List.getElem_of_mem hn
    rw [hg]
    have := h.2.2.1 _ (List.getElem_mem (show i < ns.length by omega))
    split <;> omega
  · refine List.pairwise_iff_getElem.mpr fun i j hi hj hij => ?_
    rw [hg, hg]
    have hi' : i < ns.length := by omega
    have hj' : j < ns.length := by omega
    have e := List.pairwise_iff_getElem.mp h.2.2.2 i j hi' hj' hij
    have a1 := h.2.2.1 _ (List.getElem_mem hi')
    have a2 := h.2.2.1 _ (List.getElem_mem hj')
    split <;> split <;> omega
theorem Good.wants {z : Str} {s : Int} {ns : List Int} (hz : nameOk z = true) (h1 : 1 ≤ s) (h8 : s ≤ 8) (h : Good ns) : wants (.str z) (.int s) (ns.map V.int) = none := by
  have hw : within (.int s) 1 8 = true := by
    show (decide (1 ≤ s) && decide (s ≤ 8)) = true
    rw [decide_eq_true h1, decide_eq_true h8]; rfl
  refine wants_none hz hw (by rw [List.length_map, decide_eq_true h.1, decide_eq_true h.2.1]; rfl) (fst_none fun j hj => ?_) (fst_none fun j hj => ?_)
  · rw [List.length_map] at hj
    unfold aBad
    rw [List.getElem?_map, List.getElem?_eq_getElem hj]
    have := h.2.2.1 _ (List.getElem_mem hj)
    show (!(decide (0 ≤ ns[j]) && decide (ns[j] ≤ 1024 - s))) = false
    rw [decide_eq_true this.1, decide_eq_true (by omega)]; rfl
  · rw [List.length_map] at hj
    unfold bBad
    rw [List.getElem?_map, List.getElem?_eq_getElem hj]
    show ((ns.map V.int).take j).any (near s (.int ns[j])) = false
    rw [← List.map_take, List.any_map, List.any_eq_false]
    intro x hx
    obtain ⟨i, hi, rfl⟩ := List.getElem_of_mem hx
    rw [List.length_take] at hi
    have e := List.pairwise_iff_getElem.mp h.2.2.2 i j (by omega) hj (by omega)
    rw [List.getElem_take]
    show ¬ decide ((if ns[j] - ns[i] < 0 then -(ns[j] - ns[i]) else ns[j] - ns[i]) < s) = true
    rw [decide_eq_true_iff]
    split <;> omega
theorem nameOk_q {z : Str} (h : nameOk z = true) (hl : z.length ≤ 7) : nameOk (z ++ ("q" : Str)) = true := by
  unfold nameOk at h ⊢
  obtain ⟨h1, h2⟩ := Bool.and_eq_true_iff.mp h
  have e : (z ++ ("q" : Str)).cps = z.cps ++ #[113] := rfl
  have e2 : (z ++ ("q" : Str)).length = z.length + 1 := by
    show (z ++ ("q" : Str)).cps.size = _
    rw [e, Array.size_append]; rfl
  rw [e2, e, Array.toList_append, List.all_append, h2, decide_eq_true (by omega), decide_eq_true (by omega)]
  rfl
def spNumbers : Sp := fun vs H Q _ => ∃ (p : Addr) (n : Nat) (c : Addr), vs = [.ref p] ∧ PenAt c H p n ∧ n + 20 < 100000 ∧
  ∀ (r t : Addr) (z : Str) (s : Int) (ns : List Int) (H' : Hp), NumAt H' r z s t ns → r ≠ p → t ≠ p → nameOk z = true → z.length ≤ 7 → 1 ≤ s → s ≤ 8 → Tight ns → PenAt c H' p (n + 12) → Keep p H H' → Q (.ref r) H'
def spOtherV : Sp := fun vs H Q _ => ∃ (p : Addr) (n : Nat) (c : Addr) (ch : Int) (r t : Addr) (z : Str) (s : Int) (ns : List Int), vs = [.ref p, .int ch, .ref r] ∧ PenAt c H p n ∧ n + 20 < 100000 ∧ NumAt H r z s t ns ∧ r ≠ p ∧ t ≠ p ∧ nameOk z = true ∧ z.length ≤ 7 ∧ 1 ≤ s ∧ s ≤ 8 ∧ Tight ns ∧
  ∀ (r2 t2 : Addr) (z2 : Str) (s2 : Int) (ns2 : List Int) (H' : Hp), NumAt H' r2 z2 s2 t2 ns2 → r2 ≠ p → t2 ≠ p → nameOk z2 = true → 1 ≤ s2 → s2 ≤ 8 → Good ns2 → PenAt c H' p (n + 1) → Keep p H H' → Q (.ref r2) H'
end Lay

namespace Lay
open PySem PySem.Spec PyProof.Rows L2 Exv
def Bnd (ns : List Int) : Prop := ∀ (j : Nat) (v : Int), ns[j]? = some v → 40 * (j : Int) ≤ v ∧ v ≤ 44 * (j : Int) + 19
theorem Bnd.nil : Bnd [] := fun j v h => by cases h
theorem Bnd.app {ns : List Int} {v : Int} {i : Nat} (h : Bnd ns) (hl : ns.length = i) (h1 : 40 * (i : Int) ≤ v) (h2 : v ≤ 44 * (i : Int) + 19) : Bnd (ns ++ [v]) := by
  intro j u e
  by_cases hj : j < ns.length
  · rw [List.getElem?_append_left hj] at e
    exact h j u e
  · rw [List.getElem?_append_right (by omega)] at e
    have : j - ns.length = 0 := by
      by_cases z : j - ns.length = 0
      · exact z
      · rw [List.getElem?_eq_none (by simp; omega)] at e; cases e
    rw [this] at e
    cases e
    have : j = i := by omega
    subst this
    exact ⟨h1, h2⟩
theorem Bnd.tight {ns : List Int} (h : Bnd ns) (h1 : 1 ≤ ns.length) (h4 : ns.length ≤ 4) : Tight ns := by
  refine ⟨h1, h4, fun n m => ?_, List.pairwise_iff_getElem.mpr fun i j hi hj hij => ?_⟩
  · obtain ⟨i, hi, rfl⟩ := List.getElem_of_mem m
    have := h i _ (List.getElem?_eq_getElem hi)
    omega
  · have a := h i _ (List.getElem?_eq_getElem hi)
    have b := h j _ (List.getElem?_eq_getElem hj)
    omega
theorem spot_ok {i : Nat} {d e : Int} (hi : i < 4) (d0 : 0 ≤ d) (d1 : d < 5) (e0 : 0 ≤ e) (e1 : e < 20) : 40 * (i : Int) ≤ (40 + d) * (0 + (i : Int)) + e ∧ (40 + d) * (0 + (i : Int)) + e ≤ 44 * (i : Int) + 19 := by
  obtain rfl | rfl | rfl | rfl : i = 0 ∨ i = 1 ∨ i = 2 ∨ i = 3 := by omega
  all_goals omega
end Lay
namespace Lay
open PySem PySem.Spec PyProof.Rows L2 Exv
theorem cut_drop1 {xs : List V} (h : 1 ≤ xs.length) : cutV xs (some 1) none = xs.drop 1 := by
  have e : HT.sIx xs.length 0 (some (1 : Int)) = 1 := by
    unfold HT.sIx
    dsimp only
    split <;> omega
  have e2 : HT.sIx xs.length xs.length none = xs.length := rfl
  unfold cutV
  rw [e, e2]
  exact List.take_of_length_le (by rw [List.length_drop]; exact Nat.le_refl _)
theorem rd_slD {K : PySem.W.Frag} {a : Addr} {xs : List V} {H : Hp} {Q : VK} (h : SqL K H a xs) (hk : 1 ≤ xs.length) (q : ∀ p, H p = none → Q (.ref p) (upd H p (.lst (xs.drop 1)))) : rSlL K (.ref a) (some 1) none H Q :=
  ⟨a, xs, rfl, h, fun p hp => by rw [cut_drop1 hk]; exact q p hp⟩
end Lay
namespace Lay
open PySem PySem.Spec PyProof.Rows L2 Exv
theorem asc_eq : ∀ {xs ys : List Int}, xs.Pairwise (· < ·) → ys.Pairwise (· < ·) → (∀ k, k ∈ xs ↔ k ∈ ys) → xs = ys
  | [], [], _, _, _ => rfl
  | [], b :: _, _, _, h => absurd ((h b).mpr (List.mem_cons_self ..)) (List.not_mem_nil)
  | a :: _, [], _, _, h => absurd ((h a).mp (List.mem_cons_self ..)) (List.not_mem_nil)
  | a :: r, b :: t, hx, hy, h => by
    obtain ⟨a1, a2⟩ := List.pairwise_cons.mp hx
    obtain ⟨b1, b2⟩ := List.pairwise_cons.mp hy
    have e : a = b := by
      rcases List.mem_cons.mp ((h a).mp (List.mem_cons_self ..)) with e | e
      · exact e
      · rcases List.mem_cons.mp ((h b).mpr (List.mem_cons_self ..)) with e2 | e2
        · exact e2.symm
        · have x1 := b1 a e
          have x2 := a1 b e2
          omega
    subst e
    rw [asc_eq a2 b2 fun k => ⟨fun m => ?_, fun m => ?_⟩]
    · rcases List.mem_cons.mp ((h k).mp (List.mem_cons_of_mem _ m)) with e | e
      · subst e; exact absurd (a1 _ m) (Int.lt_irrefl _)
      · exact e
    · rcases List.mem_cons.mp ((h k).mpr (List.mem_cons_of_mem _ m)) with e | e
      · subst e; exact absurd (b1 _ m) (Int.lt_irrefl _)
      · exact e
theorem on_line {k w n : Int} (hw : 0 < w) : (decide (k * w ≤ n) && decide (n < k * w + w)) = decide (n / w = k) := by
  have h1 := Int.le_ediv_iff_mul_le (a := k) (b := n) hw
  have h2 := Int.ediv_lt_iff_lt_mul (a := n) (b := k + 1) hw
  have h3 : (k + 1) * w = k * w + w := by rw [Int.add_mul, Int.one_mul]
  rw [h3] at h2
  rw [Bool.eq_iff_iff, Bool.and_eq_true, decide_eq_true_iff, decide_eq_true_iff, decide_eq_true_iff, ← h1, ← h2]
  omega
theorem line_in {n w : Int} (h : w = 1 ∨ w = 2 ∨ w = 4 ∨ w = 8 ∨ w = 16) (h0 : 0 ≤ n) (h1 : n < 1024) : 0 ≤ n / w ∧ n / w < 1024 / w := by
  rcases h with rfl | rfl | rfl | rfl | rfl <;> omega
def Spots (ns : List Int) : Prop := ns.length ≤ 9 ∧ ∀ n ∈ ns, 0 ≤ n ∧ n < 1024
theorem Spots.nil : Spots [] := ⟨by decide, fun n m => nomatch m⟩
theorem Spots.app {ns : List Int} {v : Int} {i : Nat} (h : Spots ns) (hl : ns.length = i) (hi : i < 9) (h0 : 0 ≤ v) (h1 : v < 1024) : Spots (ns ++ [v]) :=
  ⟨by rw [List.length_append, hl]; exact hi, fun n m => by
    rcases List.mem_append.mp m with e | e
    · exact h.2 n e
    · rw [List.mem_singleton.mp e]; exact ⟨h0, h1⟩⟩
theorem Spots.put {ns : List Int} {v : Int} {i : Nat} (h : Spots ns) (h0 : 0 ≤ v) (h1 : v < 1024) : Spots (ns.set i v) :=
  ⟨by rw [List.length_set]; exact h.1, fun n m => by
    rcases List.mem_or_eq_of_mem_set m with e | e
    · exact h.2 n e
    · rw [e]; exact ⟨h0, h1⟩⟩
/-- the numbers of the lines gone through so far that have one of these addresses -/
def Lines (ns : List Int) (w : Int) (i : Nat) (ws : List Int) : Prop := ws.length ≤ i ∧ ws.Pairwise (· < ·) ∧ ∀ k : Int, k ∈ ws ↔ (0 ≤ k ∧ k < (i : Int) ∧ ∃ n ∈ ns, n / w = k)
theorem Lines.nil {ns : List Int} {w : Int} : Lines ns w 0 [] := ⟨Nat.le_refl _, .nil, fun k => ⟨fun h => (nomatch h), fun h => by have := h.1; have := h.2.1; omega⟩⟩
theorem Lines.yes {ns ws : List Int} {w : Int} {i : Nat} (h : Lines ns w i ws) (e : ∃ n ∈ ns, n / w = (i : Int)) : Lines ns w (i + 1) (ws ++ [(i : Int)]) := by
  refine ⟨by rw [List.length_append]; exact Nat.succ_le_succ h.1, List.pairwise_append.mpr ⟨h.2.1, List.pairwise_singleton .., fun a ha b hb => ?_⟩, fun k => ?_⟩
  · rw [List.mem_singleton.mp hb]
    exact ((h.2.2 a).mp ha).2.1
  · rw [List.mem_append, List.mem_singleton, h.2.2 k]
    constructor
    · rintro (⟨a, b, c⟩ | rfl)
      · exact ⟨a, by omega, c⟩
      · exact ⟨by omega, by omega, e⟩
    · rintro ⟨a, b, c⟩
      by_cases z : k = (i : Int)
      · exact .inr z
      · exact .inl ⟨a, by omega, c⟩
theorem Lines.no {ns ws : List Int} {w : Int} {i : Nat} (h : Lines ns w i ws) (e : ¬ ∃ n ∈ ns, n / w = (i : Int)) : Lines ns w (i + 1) ws := by
  refine ⟨Nat.le_succ_of_le h.1, h.2.1, fun k => ?_⟩
  rw [h.2.2 k]
  constructor
  · rintro ⟨a, b, c⟩
    exact ⟨a, by omega, c⟩
  · rintro ⟨a, b, c⟩
    by_cases z : k = (i : Int)
    · subst z; exact absurd c e
    · exact ⟨a, by omega, c⟩
theorem Lines.all {ns ws ms : List Int} {w : Int} (hw : w = 1 ∨ w = 2 ∨ w = 4 ∨ w = 8 ∨ w = 16) (hs : Spots ns) (h : Lines ns w (1024 / w).toNat ws) (pw : ms.Pairwise (· < ·)) (mem : ∀ k, k ∈ ms ↔ ∃ n ∈ ns, n / w = k) : ms = ws := by
  refine asc_eq pw h.2.1 fun k => ?_
  rw [mem, h.2.2]
  constructor
  · rintro ⟨n, hn, rfl⟩
    have b := hs.2 n hn
    have l := line_in hw b.1 b.2
    exact ⟨l.1, by omega, n, hn, rfl⟩
  · exact fun x => x.2.2
end Lay

namespace Lay
open PySem PySem.Spec PyProof.Rows L2 Exv
/-! ### agents of any steps -/
theorem Kd.updL {H : Hp} {D : Addr} {l l' : List V} {v : V} {t : Kn} (hD : H D = some (.lst l)) (k : Kd H v t) : Kd (upd H D (.lst l')) v t := by
  cases k with
  | non => exact .non
  | bl b => exact .bl b
  | int i => exact .int i
  | str z => exact .str z
  | @lst a xs h =>
    by_cases e : a = D
    · subst e; exact .lst upd_same
    · exact .lst (by rw [upd_ne e]; exact h)
  | @tup a xs h => exact .tup (by rw [upd_ne (fun e => by subst e; rw [hD] at h; cases h)]; exact h)
  | @dK a xs h => exact .dK (by rw [upd_ne (fun e => by subst e; rw [hD] at h; cases h)]; exact h)
/-- a value that may be a step: its parts, if it is a tuple -/
def SV (H : Hp) (v : V) (o : Option (List V)) : Prop := Kz H v ∧ match o with
  | some xs => (∃ p, v = .ref p ∧ H p = some (.tup xs)) ∧ ∀ x ∈ xs, Kz H x
  | none => ∃ t, Kd H v t ∧ isTy t .tuple = false
theorem SV.mono {H H' : Hp} {v : V} {o : Option (List V)} (s : Same H H') (h : SV H v o) : SV H' v o := by
  cases o with
  | none =>
    obtain ⟨h1, t, h2, h3⟩ := h
    exact ⟨h1.mono s, t, h2.mono s, h3⟩
  | some xs =>
    obtain ⟨h1, ⟨p, e, h2⟩, h3⟩ := h
    exact ⟨h1.mono s, ⟨p, e, s _ _ h2⟩, fun x m => (h3 x m).mono s⟩
theorem SV.tup {H : Hp} {p : Addr} {xs : List V} (h : H p = some (.tup xs)) (k : ∀ x ∈ xs, Kz H x) : SV H (.ref p) (some xs) := ⟨.tup h, ⟨p, rfl, h⟩, k⟩
def SVs (H : Hp) (xs : List V) (os : List (Option (List V))) : Prop := xs.length = os.length ∧ ∀ (i : Nat) (v : V), xs[i]? = some v → ∃ o, os[i]? = some o ∧ SV H v o
theorem SVs.mono {H H' : Hp} {xs : List V} {os : List (Option (List V))} (s : Same H H') (h : SVs H xs os) : SVs H' xs os := ⟨h.1, fun i v e => by
  obtain ⟨o, e1, e2⟩ := h.2 i v e
  exact ⟨o, e1, e2.mono s⟩⟩
/-- the same, with nothing at p -/
def SVp (p : Addr) (H : Hp) (v : V) (o : Option (List V)) : Prop := SV H v o ∧ v ≠ .ref p ∧ ∀ xs, o = some xs → ∀ x ∈ xs, x ≠ .ref p
theorem SVp.keep {p : Addr} {H H' : Hp} {v : V} {o : Option (List V)} (s : Keep p H H') (h : SVp p H v o) : SVp p H' v o := by
  obtain ⟨h1, h2, h3⟩ := h
  refine ⟨?_, h2, h3⟩
  cases o with
  | none =>
    obtain ⟨k1, t, k2, k3⟩ := h1
    exact ⟨(Kp.keep s ⟨k1, h2⟩).1, t, k2.same fun b u e hb => s b u (fun z => h2 (by rw [e, z])) hb, k3⟩
  | some xs =>
    obtain ⟨k1, ⟨q, e, k2⟩, k3⟩ := h1
    refine ⟨(Kp.keep s ⟨k1, h2⟩).1, ⟨q, e, s _ _ (fun z => h2 (by rw [e, z])) k2⟩, fun x m => (Kp.keep s ⟨k3 x m, h3 xs rfl x m⟩).1⟩
theorem SVp.mono {p : Addr} {H H' : Hp} {v : V} {o : Option (List V)} (s : Same H H') (h : SVp p H v o) : SVp p H' v o := ⟨h.1.mono s, h.2⟩
theorem SV.updL {H : Hp} {D : Addr} {l l' : List V} {v : V} {o : Option (List V)} (hD : H D = some (.lst l)) (h : SV H v o) : SV (upd H D (.lst l')) v o := by
  cases o with
  | none =>
    obtain ⟨h1, t, h2, h3⟩ := h
    exact ⟨h1.updL hD, t, h2.updL hD, h3⟩
  | some xs =>
    obtain ⟨h1, ⟨p, e, h2⟩, h3⟩ := h
    exact ⟨h1.updL hD, ⟨p, e, by rw [upd_ne (fun z => by subst z; rw [hD] at h2; cases h2)]; exact h2⟩, fun x m => (h3 x m).updL hD⟩
theorem SVp.updL {p : Addr} {H : Hp} {D : Addr} {l l' : List V} {v : V} {o : Option (List V)} (hD : H D = some (.lst l)) (h : SVp p H v o) : SVp p (upd H D (.lst l')) v o := ⟨h.1.updL hD, h.2⟩
def SVsp (p : Addr) (H : Hp) (xs : List V) (os : List (Option (List V))) : Prop := xs.length = os.length ∧ ∀ (i : Nat) (v : V), xs[i]? = some v → ∃ o, os[i]? = some o ∧ SVp p H v o
theorem SVsp.mono {p : Addr} {H H' : Hp} {xs : List V} {os : List (Option (List V))} (s : Same H H') (h : SVsp p H xs os) : SVsp p H' xs os := ⟨h.1, fun i v e => by
  obtain ⟨o, e1, e2⟩ := h.2 i v e
  exact ⟨o, e1, e2.mono s⟩⟩
theorem SVsp.keep {p : Addr} {H H' : Hp} {xs : List V} {os : List (Option (List V))} (s : Keep p H H') (h : SVsp p H xs os) : SVsp p H' xs os := ⟨h.1, fun i v e => by
  obtain ⟨o, e1, e2⟩ := h.2 i v e
  exact ⟨o, e1, e2.keep s⟩⟩
theorem SVsp.updL {p : Addr} {H : Hp} {D : Addr} {l l' : List V} {xs : List V} {os : List (Option (List V))} (hD : H D = some (.lst l)) (h : SVsp p H xs os) : SVsp p (upd H D (.lst l')) xs os := ⟨h.1, fun i v e => by
  obtain ⟨o, e1, e2⟩ := h.2 i v e
  exact ⟨o, e1, e2.updL hD⟩⟩
theorem SVsp.s {p : Addr} {H : Hp} {xs : List V} {os : List (Option (List V))} (h : SVsp p H xs os) : SVs H xs os := ⟨h.1, fun i v e => by
  obtain ⟨o, e1, e2⟩ := h.2 i v e
  exact ⟨o, e1, e2.1⟩⟩
theorem SVsp.nil {p : Addr} {H : Hp} : SVsp p H [] [] := ⟨rfl, fun i v e => by simp at e⟩
theorem SVsp.app {p : Addr} {H : Hp} {xs : List V} {os : List (Option (List V))} {v : V} {o : Option (List V)} (h : SVsp p H xs os) (k : SVp p H v o) : SVsp p H (xs ++ [v]) (os ++ [o]) := by
  refine ⟨by simp [h.1], fun i w e => ?_⟩
  by_cases hi : i < xs.length
  · rw [List.getElem?_append_left hi] at e
    obtain ⟨o', e1, e2⟩ := h.2 i w e
    exact ⟨o', by rw [List.getElem?_append_left (by rw [← h.1]; exact hi)]; exact e1, e2⟩
  · rw [List.getElem?_append_right (by omega)] at e
    have : i - xs.length = 0 := by
      cases hj : i - xs.length with
      | zero => rfl
      | succ j => rw [hj] at e; simp at e
    rw [this] at e
    obtain rfl : v = w := by simpa using e
    exact ⟨o, by rw [List.getElem?_append_right (by rw [← h.1]; omega), ← h.1, this]; rfl, k⟩
theorem SVsp.set {p : Addr} {H : Hp} {xs : List V} {os : List (Option (List V))} {v : V} {o : Option (List V)} (h : SVsp p H xs os) (k : SVp p H v o) (n : Nat) : SVsp p H (xs.set n v) (os.set n o) := by
  refine ⟨by simp [h.1], fun i w e => ?_⟩
  rw [List.getElem?_set] at e ⊢
  by_cases hi : n = i
  · rw [if_pos hi] at e ⊢
    by_cases hl : i < xs.length
    · have e1 : n < xs.length := by omega
      rw [if_pos e1] at e
      have e2 : n < os.length := by rw [← h.1]; exact e1
      rw [if_pos e2]
      cases e
      exact ⟨o, rfl, k⟩
    · have e1 : ¬ n < xs.length := by omega
      rw [if_neg e1] at e; cases e
  · rw [if_neg hi] at e ⊢
    exact h.2 i w e
theorem SVsp.rep {p : Addr} {H : Hp} {v : V} {o : Option (List V)} (k : SVp p H v o) (n : Nat) : SVsp p H (List.replicate n v) (List.replicate n o) := by
  refine ⟨by simp, fun i w e => ?_⟩
  rw [List.getElem?_replicate] at e ⊢
  by_cases hi : i < n
  · rw [if_pos hi] at e ⊢
    cases e
    exact ⟨o, rfl, k⟩
  · rw [if_neg hi] at e; cases e
/-! ### what the check of an agent says -/
def lastOk (f l : V) : Bool := match l with
  | .int k => within f 0 k
  | _ => false
def memOk (w n s f l : V) : Bool := inStrs w memWords && (isName n && (within s 0 3 && (within l 0 7 && lastOk f l)))
def stepOk : Option (List V) → Bool
  | some [w, n] => inStrs w sigWords && isName n
  | some [w, n, s, f, l] => memOk w n s f l
  | _ => false
def headIn (ws : List Str) : Option (List V) → Bool
  | some (w :: _) => inStrs w ws
  | _ => false
def sBad (ws : List Str) (os : List (Option (List V))) (k : Nat) : Bool := match os[k]? with
  | some o => !(stepOk o && headIn ws o)
  | none => false
def refuses (ws : List Str) (nm : V) (os : List (Option (List V))) : Option (Str × V) :=
  if isName nm = false then er "name" .non else
  if (decide (1 ≤ os.length) && decide (os.length ≤ 24)) = false then er "steps" .non else
  match fst (sBad ws os) os.length with
  | some k => er "step" (.int k)
  | none => none
theorem refuses_name {ws : List Str} {nm : V} {os : List (Option (List V))} (h : isName nm = false) : refuses ws nm os = er "name" .non := by unfold refuses; rw [h]; rfl
theorem refuses_steps {ws : List Str} {nm : V} {os : List (Option (List V))} (h : isName nm = true) (hl : (decide (1 ≤ os.length) && decide (os.length ≤ 24)) = false) : refuses ws nm os = er "steps" .non := by
  unfold refuses
  rw [h, if_neg (by decide), hl, if_pos rfl]
theorem refuses_step {ws : List Str} {nm : V} {os : List (Option (List V))} {k : Nat} (h : isName nm = true) (hl : (decide (1 ≤ os.length) && decide (os.length ≤ 24)) = true) (hk : fst (sBad ws os) os.length = some k) : refuses ws nm os = er "step" (.int k) := by
  unfold refuses
  rw [h, if_neg (by decide), hl, if_neg (by decide), hk]
theorem refuses_none {ws : List Str} {nm : V} {os : List (Option (List V))} (h : isName nm = true) (hl : (decide (1 ≤ os.length) && decide (os.length ≤ 24)) = true) (hk : fst (sBad ws os) os.length = none) : refuses ws nm os = none := by
  unfold refuses
  rw [h, if_neg (by decide), hl, if_neg (by decide), hk]
theorem mem_words (w : V) : inStrs w memWords = (inStrs w ["read", "write", "get", "put"] || inStrs w ["clean", "drop", "flush"]) := by
  cases w with
  | str z =>
    show memWords.contains z = (List.contains _ z || List.contains _ z)
    rw [Bool.eq_iff_iff, Bool.or_eq_true, List.contains_iff_mem, List.contains_iff_mem, List.contains_iff_mem]
    unfold memWords
    simp only [List.mem_cons, List.not_mem_nil, or_false]
    constructor
    · rintro (h | h | h | h | h | h | h) <;> simp [h]
    · rintro ((h | h | h | h) | (h | h | h)) <;> simp [h]
  | _ => rfl
def spMemX : Sp := fun vs H Q _ => ∃ p w n s f e, vs = [.ref p] ∧ H p = some (.tup [w, n, s, f, e]) ∧ Kz H w ∧ Kz H n ∧ Kz H s ∧ Kz H f ∧ Kz H e ∧ ∀ H', Same H H' → Q (.bl (memOk w n s f e)) H'
def spStepX : Sp := fun vs H Q _ => ∃ v o, vs = [v] ∧ SV H v o ∧ ∀ H', Same H H' → Q (.bl (stepOk o)) H'
def spChkAgX (K : PySem.W.Frag) (N : Addr) : Sp := fun vs H Q E => ∃ nm t wt ws xs os, vs = [nm, .ref t, .ref wt] ∧ Kz H nm ∧ H t = some (.tup xs) ∧ SVs H xs os ∧ SqT K H wt (ws.map V.str) ∧
  (∀ r p, refuses ws nm os = some (r, p) → ErrW N E H [("place", p), ("reason", .str r)]) ∧ (refuses ws nm os = none → ∀ H', Same H H' → Q .non H')
def agX (v : V) (t : Addr) : List (Str × V) := [("name", v), ("steps", .ref t)]
theorem putF_agX (v : V) (t : Addr) : putF "steps" (.ref t) (putF "name" v []) = agX v t := by
  have h1 : ¬ (("name" : Str) = "steps") := by decide +kernel
  show (if ("name" : Str) = "steps" then _ else (("name" : Str), v) :: putF "steps" (.ref t) []) = _
  rw [if_neg h1]
  rfl
def AgX (C : Addr) (H : Hp) (x : Addr) (v : V) (xs : List V) : Prop := ∃ dx t, H x = some (.ins C dx (agX v t)) ∧ H t = some (.tup xs)
theorem AgX.mono {C : Addr} {H H' : Hp} {x : Addr} {v : V} {xs : List V} (s : Same H H') (h : AgX C H x v xs) : AgX C H' x v xs := by
  obtain ⟨dx, t, e1, e2⟩ := h
  exact ⟨dx, t, s _ _ e1, s _ _ e2⟩
def spAgInitX (C N : Addr) (ws : List Str) : Sp := fun vs H Q E => ∃ x dx v t xs os, vs = [.ref x, v, .ref t] ∧ H x = some (.ins C dx []) ∧ Kz H v ∧ H t = some (.tup xs) ∧ SVs H xs os ∧
  (∀ r p, refuses ws v os = some (r, p) → ErrW N E H [("place", p), ("reason", .str r)]) ∧ (refuses ws v os = none → ∀ H', AgX C H' x v xs → Keep x H H' → Q .non H')
/-- an agent is asked for: what comes of it -/
def AskA (C N : Addr) (ws : List Str) (v : V) (xs : List V) (os : List (Option (List V))) (H : Hp) (Q : VK) (E : XK) : Prop :=
  (∀ r p, refuses ws v os = some (r, p) → ErrW N E H [("place", p), ("reason", .str r)]) ∧ (refuses ws v os = none → ∀ x H', Same H H' → AgX C H' x v xs → Q (.ref x) H')
theorem AskA.mono {C N : Addr} {ws : List Str} {v : V} {xs : List V} {os : List (Option (List V))} {H H1 : Hp} {Q : VK} {E : XK} (s : Same H H1) (a : AskA C N ws v xs os H Q E) : AskA C N ws v xs os H1 Q E :=
  ⟨fun r p e d H' hd s' z => a.1 r p e d H' (none_of s hd) (s.trans s') z, fun e x H' s' z => a.2 e x H' (s.trans s') z⟩
theorem mk_agX {C N : Addr} {ws : List Str} {H : Hp} {v : V} {xs : List V} {os : List (Option (List V))} {Q : Addr → Hp → Prop} {Q' : VK} {E : XK} (hQ : ∀ x H, Q' (.ref x) H → Q x H) (hv : Kz H v) (hx : SVs H xs os) (hl : xs.length ≤ 1000) (a : AskA C N ws v xs os H Q' E) :
    ∀ x dx, H x = none → H dx = none → dx ≠ x → spStar 2 (spAgInitX C N ws) (.ref x :: v :: xs) (upd (upd H dx (.own x)) x (.ins C dx [])) (fun v H2 => v = .non ∧ Q x H2) E := by
  intro x dx hx' hdx hne
  have s0 : Same H (upd (upd H dx (.own x)) x (.ins C dx [])) := Lay.Same.upd' (Lay.Same.upd hdx) (by rw [upd_ne hne.symm]; exact hx')
  refine ⟨[.ref x, v], xs, rfl, rfl, Nat.le_trans hl (by decide), fun t ht => ?_⟩
  have s1 := s0.trans (Lay.Same.upd (o := .tup xs) ht)
  refine ⟨x, dx, v, t, xs, os, rfl, upd_old ht upd_same, hv.mono s1, upd_same, hx.mono s1, fun r p e d H' hd s z => a.1 r p e d H' (none_of s1 hd) (s1.trans s) z, fun e H' va k => ⟨rfl, hQ _ _ (a.2 e x H' (fun b o hb => ?_) va)⟩⟩
  have hbx : b ≠ x := fun z => by subst z; rw [hx'] at hb; cases hb
  exact k b o hbx (s1 b o hb)
def spAgMadeX (K : PySem.W.Frag) (C N : Addr) (ws : List Str) : Sp := fun vs H Q E => ∃ v a xs os, vs = [.ref C, v, .ref a] ∧ Kz H v ∧ (SqT K H a xs ∨ SqL K H a xs) ∧ SVs H xs os ∧ xs.length ≤ 1000 ∧ AskA C N ws v xs os H Q E
def spAgWithX (C N : Addr) (ws : List Str) : Sp := fun vs H Q E => ∃ a v t xs0 xs os, vs = [.ref a, .ref t] ∧ AgX C H a v xs0 ∧ Kz H v ∧ H t = some (.tup xs) ∧ SVs H xs os ∧ xs.length ≤ 1000 ∧ AskA C N ws v xs os H Q E
end Lay

namespace Lay
open PySem PySem.Spec PyProof.Rows L2 Exv
/-! ### tuples put together and cut -/
theorem cut_all {xs : List V} {lo hi : Option Int} (h : HT.sIx xs.length 0 lo = 0 ∧ HT.sIx xs.length xs.length hi = xs.length) : cutV xs lo hi = xs := by
  unfold cutV
  rw [h.1, h.2]
  show List.take (xs.length - 0) (List.drop 0 xs) = xs
  simp
theorem cut_drop {xs : List V} {k : Nat} (h : k ≤ xs.length) : cutV xs (some (k : Int)) none = xs.drop k := by
  have e : HT.sIx xs.length 0 (some (k : Int)) = k := by
    unfold HT.sIx
    dsimp only
    split <;> omega
  unfold cutV
  rw [e]
  show List.take (xs.length - k) (List.drop k xs) = xs.drop k
  rw [List.take_of_length_le (by simp)]
theorem rd_catT {K : PySem.W.Frag} {a b : Addr} {xs ys : List V} {H : Hp} {Q : VK} (ha : H a = some (.tup xs)) (hb : H b = some (.tup ys)) (hl : xs.length + ys.length ≤ 1000)
    (q : ∀ p H', Same H H' → H' p = some (.tup (xs ++ ys)) → (p = a ∨ p = b ∨ H p = none) → Q (.ref p) H') : rCatA K (.ref a) (.ref b) H Q := by
  refine ⟨a, b, xs, ys, rfl, rfl, SqT.of ha, SqT.of hb, Nat.le_trans hl (by decide), fun e => ?_, fun _ e => ?_, fun _ _ p hp => q p _ (Same.upd hp) upd_same (.inr (.inr hp))⟩
  · subst e; exact q b H (L2.Same.refl H) hb (.inr (.inl rfl))
  · subst e; exact q a H (L2.Same.refl H) (by rw [List.append_nil]; exact ha) (.inl rfl)
theorem rd_slT {K : PySem.W.Frag} {a : Addr} {xs ys : List V} {lo hi : Option Int} {H : Hp} {Q : VK} (ha : H a = some (.tup xs)) (e : cutV xs lo hi = ys)
    (q : ∀ p H', Same H H' → H' p = some (.tup ys) → (p = a ∨ H p = none) → Q (.ref p) H') : rSlA K (.ref a) lo hi H Q := by
  refine ⟨a, xs, rfl, SqT.of ha, fun w => ?_, fun _ p hp => ?_⟩
  · rw [cut_all w] at e
    subst e
    exact q a H (L2.Same.refl H) ha (.inl rfl)
  · rw [e]
    exact q p _ (Same.upd hp) upd_same (.inr hp)
theorem rd_notInI {K : PySem.W.Frag} {H : Hp} {Q : VK} {d : Int} {t : Addr} {ns : List Int} (ht : SqT K H t (ns.map V.int)) (q : Q (.bl (!decide (d ∈ ns))) H) : rIn K true (.int d) (.ref t) H Q := by
  refine ⟨t, _, rfl, .inr ht, rfl, by rw [List.all_map]; simp [flatV], ?_⟩
  have e : inV (.int d) (ns.map V.int) = decide (d ∈ ns) := by
    unfold inV
    rw [List.any_map, Bool.eq_iff_iff, List.any_eq_true, decide_eq_true_iff]
    constructor
    · rintro ⟨x, m, h⟩
      have h : (x == d) = true := h
      rw [← beq_iff_eq.mp h]; exact m
    · intro m
      exact ⟨d, m, show (d == d) = true from beq_self_eq_true d⟩
  show Q (.bl (!inV (.int d) (ns.map V.int))) H
  rw [e]
  exact q
theorem SVp.tup {p q : Addr} {H : Hp} {xs : List V} (h : H q = some (.tup xs)) (n : q ≠ p) (k : ∀ x ∈ xs, Kp p H x) : SVp p H (.ref q) (some xs) :=
  ⟨.tup h fun x m => (k x m).1, fun z => n (V.ref.inj z), fun ys e x m => by cases e; exact (k x m).2⟩
theorem SVp.no {p : Addr} {H : Hp} {v : V} {t : Kn} (h : Kz H v) (k : Kd H v t) (nt : isTy t .tuple = false) (n : v ≠ .ref p) : SVp p H v none := ⟨⟨h, t, k, nt⟩, n, fun ys e => nomatch e⟩
/-- any value of a known kind may be a step -/
theorem SVp.any {p : Addr} {H : Hp} {v : V} (h : Kp p H v) (ht : ∀ q xs, v = .ref q → H q = some (.tup xs) → ∀ x ∈ xs, Kp p H x) : ∃ o, SVp p H v o := by
  obtain ⟨⟨t, k, z⟩, n⟩ := h
  cases k with
  | @tup a xs e => exact ⟨_, .tup e (fun q => n (by rw [q])) (ht a xs rfl e)⟩
  | non => exact ⟨_, .no ⟨_, .non, z⟩ .non rfl n⟩
  | bl b => exact ⟨_, .no ⟨_, .bl b, z⟩ (.bl b) rfl n⟩
  | int i => exact ⟨_, .no ⟨_, .int i, z⟩ (.int i) rfl n⟩
  | str x => exact ⟨_, .no ⟨_, .str x, z⟩ (.str x) rfl n⟩
  | lst e => exact ⟨_, .no ⟨_, .lst e, z⟩ (.lst e) rfl n⟩
  | dK e => exact ⟨_, .no ⟨_, .dK e, z⟩ (.dK e) rfl n⟩
def SVL (p : Addr) (H : Hp) (xs : List V) : Prop := ∀ v ∈ xs, ∃ o, SVp p H v o
theorem SVL.nil {p : Addr} {H : Hp} : SVL p H [] := fun v h => nomatch h
theorem SVL.cons {p : Addr} {H : Hp} {x : V} {xs : List V} (h : ∃ o, SVp p H x o) (r : SVL p H xs) : SVL p H (x :: xs) := fun v m => by
  rcases List.mem_cons.mp m with e | m
  · subst e; exact h
  · exact r v m
theorem SVp.non {p : Addr} {H : Hp} : ∃ o, SVp p H .non o := ⟨_, .no .non .non rfl (fun z => nomatch z)⟩
theorem SVp.bl {p : Addr} {H : Hp} (b : Bool) : ∃ o, SVp p H (.bl b) o := ⟨_, .no (.bl b) (.bl b) rfl (fun z => nomatch z)⟩
theorem SVp.int {p : Addr} {H : Hp} (i : Int) : ∃ o, SVp p H (.int i) o := ⟨_, .no (.int i) (.int i) rfl (fun z => nomatch z)⟩
theorem SVp.str {p : Addr} {H : Hp} {z : Str} (h : z.length ≤ 100) : ∃ o, SVp p H (.str z) o := ⟨_, .no (.str h) (.str z) rfl (fun z => nomatch z)⟩
theorem rd_ixS {K : PySem.W.Frag} {H : Hp} {Q : VK} {p a : Addr} {xs : List V} {d : Int} (h : SqL K H a xs) (h0 : 0 ≤ d) (h1 : d < xs.length) (kd : SVL p H xs) (q : ∀ v o, SVp p H v o → Q v H) : rIxL K (.ref a) (.int d) H Q := by
  have hd : d.toNat < xs.length := by omega
  obtain ⟨o, ho⟩ := kd xs[d.toNat] (List.getElem_mem hd)
  exact rd_ixL h (atI_int h0 (List.getElem?_eq_getElem hd)) (q _ o ho)
theorem good_kp {p : Addr} {H : Hp} {ws : List Str} {l : List V} (g : GoodStep ws l) : ∀ x ∈ l, Kp p H x := by
  have hs : ∀ w ∈ sigWords, w.length ≤ 100 := by decide +kernel
  have hm : ∀ w ∈ memWords, w.length ≤ 100 := by decide +kernel
  rcases g with ⟨w, n, rfl, h1, _, h2⟩ | ⟨w, n, s, f, e, rfl, h1, _, h2, _⟩
  · have := (nameOk_len h2).2
    intro x m
    simp only [List.mem_cons, List.not_mem_nil, or_false] at m
    rcases m with rfl | rfl
    · exact .str (hs w h1)
    · exact .str (by omega)
  · have := (nameOk_len h2).2
    intro x m
    simp only [List.mem_cons, List.not_mem_nil, or_false] at m
    rcases m with rfl | rfl | rfl | rfl | rfl
    · exact .str (hm w h1)
    · exact .str (by omega)
    · exact .int _
    · exact .int _
    · exact .int _
theorem good_many {ws : List Str} {l : List V} (g : GoodStep ws l) : 2 ≤ l.length ∧ l.length ≤ 5 := by
  rcases g with ⟨w, n, rfl, _⟩ | ⟨w, n, s, f, e, rfl, _⟩ <;> simp
def spBentX : Sp := fun vs H Q _ => ∃ (p : Addr) (k : Int) (n : Nat) (c : Addr), vs = [.ref p, .int k] ∧ PenAt c H p n ∧ n + 10 < 100000 ∧ ∀ v o H', SVp p H' v o → PenAt c H' p (n + 10) → Keep p H H' → Q v H'
def spThingX : Sp := fun vs H Q _ => ∃ (p : Addr) (n : Nat) (c : Addr), vs = [.ref p] ∧ PenAt c H p n ∧ n + 1 < 100000 ∧ ∀ v o H', SVp p H' v o → PenAt c H' p (n + 1) → Keep p H H' → Q v H'
/-! ### the law's own look at a step -/
def stepK (k : Int) (o : Option (List V)) : Bool := stepOk o && headIn (wsK k) o
def spLawStep : Sp := fun vs H Q _ => ∃ v o k, vs = [v, .int k] ∧ SV H v o ∧ ∀ H', Same H H' → Q (.bl (stepK k o)) H'
theorem inStrs_of_str {v : V} {zs : List Str} (h : inStrs v zs = true) : ∃ z, v = .str z ∧ z ∈ zs := by
  cases v with
  | str z => exact ⟨z, rfl, by rw [← List.contains_iff_mem]; exact h⟩
  | _ => cases h
def lastIn (f l : V) : Bool := match f with
  | .int i => within l i 7
  | _ => false
theorem lastOk_eq (f l : V) : (within l 0 7 && lastOk f l) = (within f 0 7 && lastIn f l) := by
  have w1 : ∀ (v : V) (a b : Int), within v a b = match v with | .int i => decide (a ≤ i) && decide (i ≤ b) | _ => false := fun v a b => by cases v <;> rfl
  cases l with
  | int j =>
    cases f with
    | int i =>
      show ((decide (0 ≤ j) && decide (j ≤ 7)) && (decide (0 ≤ i) && decide (i ≤ j))) = ((decide (0 ≤ i) && decide (i ≤ 7)) && (decide (i ≤ j) && decide (j ≤ 7)))
      rw [Bool.eq_iff_iff]
      simp only [Bool.and_eq_true, decide_eq_true_iff]
      omega
    | _ => simp [lastOk, lastIn, w1]
  | _ =>
    cases f with
    | int i => simp [lastOk, lastIn, w1]
    | _ => simp [lastOk, lastIn, w1]
end Lay
namespace Lay
open PySem PySem.Spec PyProof.Rows L2 Exv
theorem sig_in (k : Int) {w : V} (h : inStrs w ["post", "wait"] = true) : inStrs w (wsK k) = true := by
  obtain ⟨z, rfl, m⟩ := inStrs_of_str h
  refine inStrs_of ?_
  unfold wsK
  simp only [List.mem_cons, List.not_mem_nil, or_false] at m
  rcases m with rfl | rfl <;> split <;> simp [plainWs, cacheWs]
theorem mem_in (k : Int) {w : V} (h : inStrs w memWords = true) : inStrs w (wsK k) = (if k = 0 then inStrs w ["read", "write"] else true) := by
  obtain ⟨z, rfl, m⟩ := inStrs_of_str h
  unfold wsK
  by_cases e : k = 0
  · rw [if_pos e, if_pos e]
    have no : ∀ z : Str, z ∈ memWords → plainWs.contains z = List.contains (["read", "write"] : List Str) z := by decide +kernel
    exact no z m
  · rw [if_neg e, if_neg e]
    refine inStrs_of ?_
    have no : ∀ z : Str, z ∈ memWords → z ∈ cacheWs := by decide +kernel
    exact no z m
theorem stepK_two {k : Int} {w n : V} (hn : isName n = true) : stepK k (some [w, n]) = inStrs w ["post", "wait"] := by
  show (inStrs w sigWords && isName n && inStrs w (wsK k)) = _
  rw [hn, Bool.and_true]
  cases e : inStrs w ["post", "wait"] with
  | true => rw [sig_in k e]; show (inStrs w sigWords && true) = true; rw [Bool.and_true]; exact e
  | false => show (inStrs w sigWords && _) = false; rw [show inStrs w sigWords = false from e]; rfl
theorem stepK_five {k : Int} {w n s f l : V} (hn : isName n = true) (hm : inStrs w memWords = true) : stepK k (some [w, n, s, f, l]) = ((if k = 0 then inStrs w ["read", "write"] else true) && (within s 0 3 && (within f 0 7 && lastIn f l))) := by
  show (memOk w n s f l && inStrs w (wsK k)) = _
  rw [mem_in k hm, ← lastOk_eq]
  unfold memOk
  rw [hn, hm, Bool.true_and, Bool.true_and, Bool.and_comm]
theorem stepK_no {k : Int} {o : Option (List V)} (h : stepOk o = false) : stepK k o = false := by unfold stepK; rw [h]; rfl
theorem stepOk_name {xs : List V} {n : V} (h : xs[1]? = some n) (hn : isName n = false) : stepOk (some xs) = false := by
  match xs, h with
  | [_, m], h =>
    obtain rfl : m = n := by simpa using h
    show (_ && isName m) = false
    rw [hn, Bool.and_false]
  | [_, m, _, _, _], h =>
    obtain rfl : m = n := by simpa using h
    show memOk _ m _ _ _ = false
    unfold memOk
    rw [hn, Bool.false_and, Bool.and_false]
  | [_, _, _], _ => rfl
  | [_, _, _, _], _ => rfl
  | _ :: _ :: _ :: _ :: _ :: _ :: _, _ => rfl
theorem stepOk_head {xs : List V} {w : V} (h : xs[0]? = some w) (hw : ∀ zs, inStrs w zs = false) : stepOk (some xs) = false := by
  match xs, h with
  | [_], _ => rfl
  | [m, _], h =>
    obtain rfl : m = w := by simpa using h
    show (inStrs m _ && _) = false
    rw [hw, Bool.false_and]
  | [m, _, _, _, _], h =>
    obtain rfl : m = w := by simpa using h
    show memOk m _ _ _ _ = false
    unfold memOk
    rw [hw, Bool.false_and]
  | [_, _, _], _ => rfl
  | [_, _, _, _], _ => rfl
  | _ :: _ :: _ :: _ :: _ :: _ :: _, _ => rfl
theorem stepOk_many {xs : List V} (h2 : xs.length ≠ 2) (h5 : xs.length ≠ 5) : stepOk (some xs) = false := by
  match xs, h2, h5 with
  | [], _, _ => rfl
  | [_], _, _ => rfl
  | [_, _], c, _ => exact absurd rfl c
  | [_, _, _], _, _ => rfl
  | [_, _, _, _], _, _ => rfl
  | [_, _, _, _, _], _, c => exact absurd rfl c
  | _ :: _ :: _ :: _ :: _ :: _ :: _, _, _ => rfl
end Lay

namespace OwnC
open PySem L2 PySem.Spec PyProof.Rows
/-- o.m(e, ..) of an instance of whatever class, by a positional promise; what is raised is wished for at the slots -/
def tMethW (P : Program) (w : World) (K : PySem.W.Frag) (mg : Str → Option Value) (base : Heap) (CX : CXT) (n : Nat) (m : Str) (E : L2.St → XK) (ta : TE) (t : TA) : TE := fun σ H Q => ta σ H fun x H1 => ∃ a C dx fs f sp, x = .ref a ∧ H1 a = some (.ins C dx fs) ∧
  fs.lookup m = none ∧ Cls K C ∧ Meth K C m f ∧ FnR P w K mg base CX n f sp ∧ t σ H1 fun vs H2 => sp (x :: vs) H2 Q (E σ)
theorem rd_methW {P : Program} {w : World} {K : PySem.W.Frag} {mg : Str → Option Value} {base : Heap} {CX : CXT} {n : Nat} {m : Str} {E : L2.St → XK} {ta : TE} {t : TA} {σ : L2.St} {H : Hp} {Q : VK}
    (h : ta σ H fun x H1 => ∃ a C dx fs f sp, x = .ref a ∧ H1 a = some (.ins C dx fs) ∧ fs.lookup m = none ∧ Cls K C ∧ Meth K C m f ∧ FnR P w K mg base CX n f sp ∧ t σ H1 fun vs H2 => sp (x :: vs) H2 Q (E σ)) :
    tMethW P w K mg base CX n m E ta t σ H Q := h
section
variable {X : Cx} {CX : CXT} {n : Nat} {m : Str} {o e : Expr} {es : List Expr} {ta : TE} {t : TA} {apos pos : Pos} {pl : Sem Bool} {E : L2.St → XK}
theorem pe_methW (P : Program) (w : World) (K : PySem.W.Frag) (mg : Str → Option Value) (base : Heap) (he : PE X o ta) (hr : Room n X.A) (hx : ∀ σ, PassesAt CX X σ (E σ)) (ha : PA X (e :: es) t)
    (e1 : X.prog = P := by rfl) (e2 : X.w = w := by rfl) (e3 : X.K = K := by rfl) (e4 : X.mg = mg := by rfl) (e5 : X.base = base := by rfl)
    (hst : starEach (e :: es) X.env = (false, eval e X.env) :: starEach es X.env := by rfl) (hpl : (backTo pos (starEach es X.env)).any (·.1) = false := by rfl)
    (ht : eval (.Call (.Attribute o m apos) (e :: es) [] pos) X.env = (do let ov ← eval o X.env; standAt apos.atName; let (f, first) ← holding [ov] (getMethod ov m pl); callWith pos f first (backTo pos (starEach (e :: es) X.env)) (backToKw pos (keywordEach [] X.env))) := by rfl) :
    PE X (.Call (.Attribute o m apos) (e :: es) [] pos) (tMethW P w K mg base CX n m E ta t) := by
  subst e1 e2 e3 e4 e5
  constructor
  intro pins s σ H Q I h
  refine PySem.W.methodCall_KW (pl := pl) (thn (he.run pins s σ H _ I h) ?_) ht
  rintro u s1 ⟨x, H1, I1, rx, a, C, dx, fs, f, sp, rfl, ea, l, c, hm, F, q⟩
  cases rx
  refine getmeth_ok I1 ea c hm l (PySem.W.callWith_K (first := [.ref a]) (h₀ := X.base) I.ok.mod.kin hm.kp (thn (ha.run pos pins s1 σ H1 _ I1 q) ?_) hst hpl)
  rintro us s2 ⟨vs, H2, I2, r, q2⟩
  exact ⟨I2.kIn, wpAny_call (Exv.run_fnRS (us := .ref a :: us) (vs := .ref a :: vs) F hr (hx σ) I2 (.cons rfl r) q2)⟩
theorem pe_methW0 (P : Program) (w : World) (K : PySem.W.Frag) (mg : Str → Option Value) (base : Heap) (he : PE X o ta) (hr : Room n X.A) (hx : ∀ σ, PassesAt CX X σ (E σ))
    (e1 : X.prog = P := by rfl) (e2 : X.w = w := by rfl) (e3 : X.K = K := by rfl) (e4 : X.mg = mg := by rfl) (e5 : X.base = base := by rfl)
    (ht : eval (.Call (.Attribute o m apos) [] [] pos) X.env = (do let ov ← eval o X.env; standAt apos.atName; let (f, first) ← holding [ov] (getMethod ov m pl); callWith pos f first (backTo pos (starEach [] X.env)) (backToKw pos (keywordEach [] X.env))) := by rfl) :
    PE X (.Call (.Attribute o m apos) [] [] pos) (tMethW P w K mg base CX n m E ta tNil) := by
  subst e1 e2 e3 e4 e5
  constructor
  intro pins s σ H Q I h
  refine PySem.W.methodCall_KW (pl := pl) (thn (he.run pins s σ H _ I h) ?_) ht
  rintro u s1 ⟨x, H1, I1, rx, a, C, dx, fs, f, sp, rfl, ea, l, c, hm, F, q⟩
  cases rx
  exact getmeth_ok I1 ea c hm l (PySem.W.callWith_K0 (first := [.ref a]) I1.kIn hm.kp (wpAny_call (Exv.run_fnRS (us := [.ref a]) (vs := [.ref a]) F hr (hx σ) I1 (.cons rfl .nil) q)))
end
end OwnC
namespace Lay
open PySem PySem.Spec PyProof.Rows L2 Exv
/-! ### equality: anything is equal to itself; lists and tuples by their items -/
/-- x == y answers b, whatever runs, with n to spare -/
def EqW (K : PySem.W.Frag) (H : Hp) (n : Nat) (x y : V) (b : Bool) : Prop :=
  ∀ (X : Cx) (pins : List (Addr × Obj)) (σ : L2.St) (s : Shared) (u v : Value) (A : Around), X.K = K → Inv X pins σ H s → RelV x u → RelV y v → A.units + n < cLine → SeqAt.EqAt A s u v b
def RcW (K : PySem.W.Frag) (H : Hp) (n : Nat) (x y : V) (b : Bool) : Prop :=
  ∀ (X : Cx) (pins : List (Addr × Obj)) (σ : L2.St) (s : Shared) (u v : Value) (A : Around), X.K = K → Inv X pins σ H s → RelV x u → RelV y v → A.units + n < cLine → SeqAt.RcAt A s u v b ∧ SeqAt.RcNeAt A s u v (!b)
section
variable {K : PySem.W.Frag} {H : Hp} {n : Nat}
theorem EqW.flat {x y : V} (hx : flatV x = true) (hy : flatV y = true) : EqW K H n x y (eqV x y) := fun X pins σ s u v A _ I rx ry _ => eqAt_V rx ry hx hy
theorem eqV_self {x : V} (h : flatV x = true) : eqV x x = true := by
  cases x with
  | non => rfl
  | bl b => cases b <;> rfl
  | int i => exact beq_self_eq_true i
  | str z => exact beq_self_eq_true z
  | _ => cases h
theorem EqW.same {x : V} (h : flatV x = true ∨ ∃ a, x = .ref a) : EqW K H n x x true := by
  rcases h with h | ⟨a, rfl⟩
  · have e := EqW.flat (K := K) (H := H) (n := n) h h
    rw [eqV_self h] at e
    exact e
  · intro X pins σ s u v A _ I rx ry _
    cases rx
    cases ry
    exact SeqAt.EqAt.same _
theorem items_at {xs ys : List V} {its its2 : List Value} {e : Nat → Bool} (h : ∀ i x y, xs[i]? = some x → ys[i]? = some y → EqW K H n x y (e i)) {X : Cx} {pins : List (Addr × Obj)} {σ : L2.St} {s : Shared} {A : Around} (eK : X.K = K) (I : Inv X pins σ H s)
    (r : Vals xs its) (r2 : Vals ys its2) (hu : A.units + 1 + n < cLine) : ∀ j (h1 : j < its.toArray.size) (h2 : j < its2.toArray.size), SeqAt.EqAt A.in1 s its.toArray[j] its2.toArray[j] (e j) := by
  intro j h1 h2
  have l1 : j < its.length := by simpa using h1
  have l2 : j < its2.length := by simpa using h2
  have k1 : j < xs.length := by rw [r.length]; exact l1
  have k2 : j < ys.length := by rw [r2.length]; exact l2
  obtain ⟨u, eu, ru⟩ := r.get (List.getElem?_eq_getElem k1)
  obtain ⟨v, ev, rv⟩ := r2.get (List.getElem?_eq_getElem k2)
  have e1 : its.toArray[j] = u := by
    rw [List.getElem?_eq_getElem l1] at eu
    simpa using eu
  have e2 : its2.toArray[j] = v := by
    rw [List.getElem?_eq_getElem l2] at ev
    simpa using ev
  rw [e1, e2]
  exact h j _ _ (List.getElem?_eq_getElem k1) (List.getElem?_eq_getElem k2) X pins σ s u v A.in1 eK I ru rv (by show A.units + 1 + n < cLine; omega)
/-- two lists of one length -/
theorem RcW.lists {a b : Addr} {xs ys : List V} {e : Nat → Bool} (ha : SqL K H a xs) (hb : SqL K H b ys) (hl : xs.length = ys.length) (h : ∀ i x y, xs[i]? = some x → ys[i]? = some y → EqW K H n x y (e i)) : RcW K H (n + 1) (.ref a) (.ref b) ((List.range xs.length).all e) := by
  intro X pins σ s u v A eK I rx ry hu
  subst eK
  cases rx
  cases ry
  obtain ⟨its, r, pl, _⟩ := I.list ha
  obtain ⟨its2, r2, pl2, _⟩ := I.list hb
  have e1 : xs.length = its.toArray.size := by rw [List.size_toArray]; exact r.length
  rw [e1]
  have hs : its.toArray.size = its2.toArray.size := by rw [List.size_toArray, List.size_toArray, ← r.length, ← r2.length]; exact hl
  exact ⟨SeqAt.RcAt.lists pl.isList pl2.isList hs (by omega) (items_at h rfl I r r2 (by omega)), SeqAt.RcNeAt.lists pl.isList pl2.isList hs (by omega) (items_at h rfl I r r2 (by omega))⟩
theorem RcW.tuples {a b : Addr} {xs ys : List V} {e : Nat → Bool} (ha : SqT K H a xs) (hb : SqT K H b ys) (h : ∀ i x y, xs[i]? = some x → ys[i]? = some y → EqW K H n x y (e i)) :
    RcW K H (n + 1) (.ref a) (.ref b) ((List.range (min xs.length ys.length)).all e && (xs.length == ys.length)) := by
  intro X pins σ s u v A eK I rx ry hu
  subst eK
  cases rx
  cases ry
  obtain ⟨its, r, pl, _⟩ := I.tuple ha
  obtain ⟨its2, r2, pl2, _⟩ := I.tuple hb
  have e1 : xs.length = its.toArray.size := by rw [List.size_toArray]; exact r.length
  have e2 : ys.length = its2.toArray.size := by rw [List.size_toArray]; exact r2.length
  obtain ⟨o, h1, h2, n1, h3⟩ := id pl
  obtain ⟨o2, g1, g2, n2, g3⟩ := id pl2
  rw [e1, e2]
  have t1 : s.heap.IsTuple a its.toArray := ⟨o, h1, h2, n1, h3⟩
  have t2 : s.heap.IsTuple b its2.toArray := ⟨o2, g1, g2, n2, g3⟩
  exact ⟨SeqAt.RcAt.tuples t1 t2 (by omega) (items_at h rfl I r r2 (by omega)), SeqAt.RcNeAt.tuples t1 t2 (by omega) (items_at h rfl I r r2 (by omega))⟩
/-- the same items, each an object or a flat value -/
theorem RcW.listsSame {a b : Addr} {xs : List V} (ha : SqL K H a xs) (hb : SqL K H b xs) (h : ∀ x ∈ xs, flatV x = true ∨ ∃ c, x = .ref c) : RcW K H (n + 1) (.ref a) (.ref b) true := by
  have z := RcW.lists (n := n) (e := fun _ => true) ha hb rfl fun i x y ex ey => by
    rw [ex] at ey
    cases ey
    exact EqW.same (h x (List.mem_of_getElem? ex))
  rw [show (List.range xs.length).all (fun _ => true) = true from List.all_eq_true.mpr fun _ _ => rfl] at z
  exact z
theorem RcW.tuplesSame {a b : Addr} {xs : List V} (ha : SqT K H a xs) (hb : SqT K H b xs) (h : ∀ x ∈ xs, flatV x = true ∨ ∃ c, x = .ref c) : RcW K H (n + 1) (.ref a) (.ref b) true := by
  have z := RcW.tuples (n := n) (e := fun _ => true) ha hb fun i x y ex ey => by
    rw [ex] at ey
    cases ey
    exact EqW.same (h x (List.mem_of_getElem? ex))
  rw [show (List.range (min xs.length xs.length)).all (fun _ => true) = true from List.all_eq_true.mpr fun _ _ => rfl, Bool.true_and, beq_self_eq_true] at z
  exact z
end
def rEqW (K : PySem.W.Frag) (neg : Bool) : R2 := fun x y H Q => ∃ b, RcW K H 40 x y b ∧ Q (.bl (if neg then !b else b)) H
theorem op_eqW {X : Cx} (hu : X.A.units + 64 < cLine) : OpR X (compareOp .Eq) (rEqW X.K false) := by
  intro pins s σ H x y v u Q I rx ry h
  obtain ⟨b, hb, q⟩ := h
  exact (hb X pins σ s v u X.A rfl I rx ry (by omega)).1 _ _ _ _ ⟨.bl _, H, I, rfl, q⟩
theorem op_neW {X : Cx} (hu : X.A.units + 64 < cLine) : OpR X (compareOp .NotEq) (rEqW X.K true) := by
  intro pins s σ H x y v u Q I rx ry h
  obtain ⟨b, hb, q⟩ := h
  exact (hb X pins σ s v u X.A rfl I rx ry (by omega)).2 _ _ _ _ ⟨.bl _, H, I, rfl, q⟩
theorem rd_eqW {K : PySem.W.Frag} {H : Hp} {Q : VK} {x y : V} (b : Bool) (h : RcW K H 40 x y b) (q : Q (.bl b) H) : rEqW K false x y H Q := ⟨b, h, q⟩
theorem rd_neW {K : PySem.W.Frag} {H : Hp} {Q : VK} {x y : V} (b : Bool) (h : RcW K H 40 x y b) (q : Q (.bl (!b)) H) : rEqW K true x y H Q := ⟨b, h, q⟩
theorem Kz.fl {H : Hp} {v : V} (k : Kz H v) : flatV v = true ∨ ∃ c, v = .ref c := by
  obtain ⟨t, h, _⟩ := k
  cases h with
  | lst h => exact .inr ⟨_, rfl⟩
  | tup h => exact .inr ⟨_, rfl⟩
  | dK h => exact .inr ⟨_, rfl⟩
  | _ => exact .inl rfl
/-! ### agents asked for in the law -/
def kAg {α : Type} (a b c : α) (k : Int) : α := if k = 0 then a else if k = 1 then b else c
def spDirectX (C : Int → Addr) (N : Addr) : Sp := fun vs H Q E => ∃ k v a xs os, vs = [.int k, v, .ref a] ∧ 0 ≤ k ∧ k ≤ 2 ∧ Kz H v ∧ H a = some (.lst xs) ∧ SVs H xs os ∧ 1 ≤ xs.length ∧ xs.length ≤ 2 ∧ AskA (C k) N (wsK k) v xs os H Q E
def spLawMade (C : Int → Addr) (N : Addr) : Sp := fun vs H Q E => ∃ k v a xs os, vs = [.int k, v, .ref a] ∧ 0 ≤ k ∧ k ≤ 2 ∧ Kz H v ∧ H a = some (.lst xs) ∧ SVs H xs os ∧ xs.length ≤ 1000 ∧ AskA (C k) N (wsK k) v xs os H Q E
/-- what is found: the error or the agent -/
def Found (C N : Addr) (ws : List Str) (v : V) (xs : List V) (os : List (Option (List V))) (H : Hp) (e : Addr) : Prop :=
  (∃ r p, refuses ws v os = some (r, p) ∧ ErrAt N H e [("place", p), ("reason", .str r)]) ∨ (refuses ws v os = none ∧ AgX C H e v xs)
theorem Found.mono {C N : Addr} {ws : List Str} {v : V} {xs : List V} {os : List (Option (List V))} {H H' : Hp} {e : Addr} (s : Same H H') (h : Found C N ws v xs os H e) : Found C N ws v xs os H' e := by
  rcases h with ⟨r, p, h1, h2⟩ | ⟨h1, h2⟩
  · exact .inl ⟨r, p, h1, h2.mono s⟩
  · exact .inr ⟨h1, h2.mono s⟩
def spAskedX (C : Int → Addr) (N : Addr) : Sp := fun vs H Q _ => ∃ k v a xs os b, vs = [.int k, v, .ref a, .bl b] ∧ 0 ≤ k ∧ k ≤ 2 ∧ Kz H v ∧ H a = some (.lst xs) ∧ SVs H xs os ∧ xs.length ≤ 1000 ∧ (b = true → 1 ≤ xs.length ∧ xs.length ≤ 2) ∧
  ∀ e H', Same H H' → Found (C k) N (wsK k) v xs os H' e → Q (.ref e) H'
def spAgainX (C : Int → Addr) (N : Addr) : Sp := fun vs H Q _ => ∃ k a xs os, vs = [.int k, .ref a] ∧ 0 ≤ k ∧ k ≤ 2 ∧ H a = some (.lst xs) ∧ SVs H xs os ∧ xs.length = 2 ∧ ∀ e H', Same H H' → Found (C k) N (wsK k) (.str "good") xs os H' e → Q (.ref e) H'
def spNoStepsX (N : Addr) : Sp := fun vs H Q _ => ∃ k, vs = [.int k] ∧ 0 ≤ k ∧ k ≤ 2 ∧ ∀ e H', Same H H' → ErrAt N H' e [("place", .non), ("reason", .str "steps")] → Q (.ref e) H'
def spRightX (C : Int → Addr) (N : Addr) : Sp := fun vs H Q _ => ∃ e k v a xs os, vs = [.ref e, .int k, v, .ref a] ∧ 0 ≤ k ∧ k ≤ 2 ∧ Kz H v ∧ H a = some (.lst xs) ∧ SVs H xs os ∧ xs.length ≤ 1000 ∧ Found (C k) N (wsK k) v xs os H e ∧ ∀ H', Same H H' → Q (.bl true) H'
end Lay
namespace Lay
open PySem PySem.Spec PyProof.Rows L2 Exv
theorem good_one (k : Int) {w : Str} (h : w = "post" ∨ w = "wait") : refuses (wsK k) (.str "good") [some [.str w, .str "s"]] = none := by
  refine refuses_none (by decide +kernel) rfl ?_
  have e : inStrs (.str w) ["post", "wait"] = true := by rcases h with rfl | rfl <;> decide +kernel
  refine fst_none fun j hj => ?_
  obtain rfl : j = 0 := by simpa using hj
  show (!(inStrs (.str w) sigWords && isName (.str "s") && inStrs (.str w) (wsK k))) = false
  rw [sig_in k e, show inStrs (.str w) sigWords = true from e, show isName (.str "s") = true by decide +kernel]
  rfl
theorem good_none (k : Int) : refuses (wsK k) (.str "good") [] = er "steps" .non := refuses_steps (by decide +kernel) (by decide)
theorem SVs.one {H : Hp} {p : Addr} {xs : List V} (h : H p = some (.tup xs)) (k : ∀ x ∈ xs, Kz H x) : SVs H [.ref p] [some xs] := ⟨rfl, fun i v e => by
  cases i with
  | zero => obtain rfl : V.ref p = v := by simpa using e
            exact ⟨_, rfl, .tup h k⟩
  | succ j => simp at e⟩
theorem SVs.nil {H : Hp} : SVs H [] [] := ⟨rfl, fun i v e => by simp at e⟩
end Lay
namespace Lay
open PySem PySem.Spec PyProof.Rows L2 Exv
theorem SVs.mem {H : Hp} {xs : List V} {os : List (Option (List V))} (h : SVs H xs os) : ∀ x ∈ xs, Kz H x := fun x m => by
  obtain ⟨i, hi, e⟩ := List.getElem_of_mem m
  obtain ⟨o, _, ho⟩ := h.2 i x (by rw [List.getElem?_eq_getElem hi, e])
  exact ho.1
theorem sBad_eq {k : Int} {os : List (Option (List V))} {i : Nat} {o : Option (List V)} (h : os[i]? = some o) : sBad (wsK k) os i = !stepK k o := by unfold sBad stepK; rw [h]
end Lay
namespace Lay
open PySem PySem.Spec PyProof.Rows L2 Exv
theorem RcW.lens {K : PySem.W.Frag} {H : Hp} {n : Nat} {a b : Addr} {xs ys : List V} (ha : SqL K H a xs) (hb : SqL K H b ys) (hl : xs.length ≠ ys.length) : RcW K H (n + 1) (.ref a) (.ref b) false := by
  intro X pins σ s u v A eK I rx ry hu
  subst eK
  cases rx
  cases ry
  obtain ⟨its, r, pl, _⟩ := I.list ha
  obtain ⟨its2, r2, pl2, _⟩ := I.list hb
  have hs : (its.toArray.size != its2.toArray.size) = true := by
    rw [List.size_toArray, List.size_toArray, ← r.length, ← r2.length]
    exact bne_iff_ne.mpr hl
  exact ⟨SeqAt.RcAt.lists_lengths pl.isList pl2.isList hs (by omega), SeqAt.RcNeAt.lists_lengths pl.isList pl2.isList hs (by omega)⟩
theorem rd_inD {K : PySem.W.Frag} {H : Hp} {Q : VK} {d : Int} {t : Addr} {ns : List Int} (ht : SqT K H t (ns.map V.int)) (q : Q (.bl (decide (d ∈ ns))) H) : rIn K false (.int d) (.ref t) H Q := by
  refine ⟨t, _, rfl, .inr ht, rfl, by rw [List.all_map]; simp [flatV], ?_⟩
  have e : inV (.int d) (ns.map V.int) = decide (d ∈ ns) := by
    unfold inV
    rw [List.any_map, Bool.eq_iff_iff, List.any_eq_true, decide_eq_true_iff]
    constructor
    · rintro ⟨x, m, h⟩
      have h : (x == d) = true := h
      rw [← beq_iff_eq.mp h]; exact m
    · intro m
      exact ⟨d, m, show (d == d) = true from beq_self_eq_true d⟩
  show Q (.bl (inV (.int d) (ns.map V.int))) H
  rw [e]
  exact q
theorem rd_rep {H : Hp} {Q : VK} {l : Addr} {x : V} {k : Int} (h : H l = some (.lst [x])) (h0 : 0 ≤ k) (h1 : k ≤ 1000) (q : ∀ p, H p = none → Q (.ref p) (upd H p (.lst (List.replicate k.toNat x)))) : rRep (.ref l) (.int k) H Q := by
  refine ⟨l, k, [x], rfl, rfl, h, by omega, by omega, ?_, fun p hp => ?_⟩
  · have : [x].length * k.toNat ≤ 1000 := by show 1 * _ ≤ _; omega
    exact Nat.le_trans this (by decide)
  · rw [List.flatten_replicate_singleton]
    exact q p hp
end Lay
local macro_rules | `(tactic| walk_at "kd") => `(tactic| repeat first
  | exact Lay.Kds.nil
  | refine Lay.Kds.cons (.int _) ?_
  | refine Lay.Kds.cons (.str _) ?_
  | refine Lay.Kds.cons .non ?_
  | refine Lay.Kds.cons (.bl _) ?_
  | refine Lay.Kds.cons (.lst (by assumption)) ?_
  | refine Lay.Kds.cons (.tup (by assumption)) ?_
  | refine Lay.Kds.cons (.dK (by assumption)) ?_)
local macro_rules | `(tactic| walk_at "sm") => `(tactic| first
  | exact L2.Same.refl _
  | assumption
  | ((with_reducible refine' Lay.Same.upd' ?_ ?_); (focus walk_at "sm"); (focus assumption)))
local macro_rules | `(tactic| walk_at "hp") => `(tactic| first
  | assumption
  | with_reducible exact L2.upd_same
  | ((with_reducible apply Lay.upd_old); (focus assumption); walk_at "hp")
  | ((with_reducible apply Lay.sqL_of); walk_at "hp")
  | ((with_reducible apply Lay.sqT_of); walk_at "hp")
  | ((with_reducible apply Lay.sqL_upd); (focus assumption); walk_at "hp")
  | ((with_reducible apply Lay.sqT_upd); (focus assumption); walk_at "hp"))
local macro_rules | `(tactic| walk_at "ar") => `(tactic| first
  | (show _ ≠ _; omega)
  | (show L2.CDivN _ _; exact ⟨by omega, by omega⟩)
  | (show L2.CMul _ _; exact .inl ⟨by omega, by omega⟩)
  | (show L2.CMul _ _; exact .inr ⟨by omega, by omega⟩)
  | (show L2.CPow _ _; exact ⟨by omega, by omega, by omega⟩))
local macro_rules | `(tactic| walk_at "r1") => `(tactic| first
  | with_reducible refine Lay.rd_seq ?_
  | with_reducible refine Lay.rd_asg ?_
  | with_reducible refine Lay.rd_ifS ?_
  | with_reducible refine Lay.rd_ret ?_
  | with_reducible refine Lay.rd_retN ?_
  | with_reducible refine Lay.rd_next ?_
  | with_reducible refine Lay.rd_drop ?_
  | with_reducible refine Lay.rd_name ?_
  | with_reducible refine Lay.rd_sub ?_
  | ((with_reducible refine' Lay.rd_var ?k1 ?_); (case k1 => rfl))
  | with_reducible refine Lay.rd_c ?_
  | with_reducible refine Lay.rd_op ?_
  | with_reducible refine Lay.rd_un ?_
  | with_reducible refine Lay.rd_I0 ?_
  | with_reducible refine Lay.rd_U ?_
  | with_reducible refine Lay.rd_tup ?_
  | with_reducible refine Lay.rd_lst ?_
  | with_reducible refine Lay.rd_cons ?_
  | with_reducible refine Lay.rd_nil ?_
  | with_reducible refine Lay.rd_star ?_
  | with_reducible refine Lay.rd_call ?_
  | with_reducible refine Lay.rd_CB ?_
  | with_reducible refine Lay.rd_test ?_
  | with_reducible refine Lay.rd_tB ?_
  | with_reducible refine Lay.rd_and ?_
  | with_reducible refine Lay.rd_or ?_
  | with_reducible refine Lay.rd_not ?_
  | with_reducible refine Lay.rd_andV ?_
  | with_reducible refine Lay.rd_orV ?_
  | with_reducible refine Lay.rd_notV ?_
  | with_reducible refine Lay.rd_tIf ?_
  | with_reducible refine Lay.rd_sl ?_
  | with_reducible refine Lay.rd_noP ?_
  | with_reducible refine Lay.rd_part ?_
  | with_reducible refine Lay.rd_int ?_
  | with_reducible refine Lay.rd_intB ?_
  | with_reducible refine Lay.rd_abs ?_
  | ((with_reducible refine' Lay.rd_ixL ?k1 ?k2 ?_); (case k1 => walk_at "hp"); (case k2 => rfl))
  | ((with_reducible refine' Lay.rd_ixT ?k1 ?k2 ?_); (case k1 => walk_at "hp"); (case k2 => rfl))
  | ((with_reducible refine' Lay.rd_setL ?k1 ?k2 ?_); (case k1 => walk_at "hp"); (case k2 => rfl))
  | ((with_reducible refine' Lay.rd_lenL ?k1 ?_); (case k1 => walk_at "hp"))
  | ((with_reducible refine' Lay.rd_lenT ?k1 ?_); (case k1 => walk_at "hp"))
  | ((with_reducible refine' Lay.rd_I ?k1 ?_); (case k1 => walk_at "ar"))
  | with_reducible refine Lay.rd_lc ?_
  | with_reducible refine Lay.rd_iStr ?_
  | with_reducible refine Lay.rd_iList ?_
  | with_reducible refine Lay.rd_iTup ?_
  | with_reducible refine Lay.rd_iRng1 ?_
  | with_reducible refine Lay.rd_iEnumT ?_
  | with_reducible refine Lay.rd_yes ?_
  | with_reducible refine Lay.rd_sign ?_
  | with_reducible refine Lay.rd_chain ?_
  | with_reducible refine Lay.rd_gcons ?_
  | with_reducible refine Lay.rd_gnil ?_
  | ((with_reducible refine' Lay.rd_gtup ?k1 ?k2 ?_); (case k1 => walk_at "hp"); (case k2 => rfl))
  | with_reducible refine Lay.rd_eqI ?_
  | with_reducible refine Lay.rd_neI ?_
  | with_reducible refine Lay.rd_eqS ?_
  | with_reducible refine Lay.rd_neS ?_
  | with_reducible refine Lay.rd_eqB ?_
  | with_reducible refine Lay.rd_neB ?_
  | with_reducible refine Lay.rd_exb ?_
  | with_reducible refine Lay.rd_exi ?_
  | with_reducible refine Lay.rd_exs ?_
  | with_reducible refine Lay.rd_exr ?_)
local macro_rules | `(tactic| walk_at "rd") => `(tactic| ((repeat walk_at "r1"); (try dsimp only [List.set, Int.reduceToNat, List.length_cons, List.length_nil, List.nil_append, List.cons_append, List.append_nil])))
local macro_rules | `(tactic| walk_at "in") => `(tactic| (dsimp only [L2.cxOf, L2.start, List.map, List.length_cons, List.length_nil, Nat.reduceAdd, Nat.reduceSub, List.replicate_succ, List.replicate_zero, List.cons_append, List.nil_append]))
local macro_rules | `(tactic| walk_at "it") => `(tactic| ((repeat first | walk_at "r1" | with_reducible refine L2.iteT ?_ | with_reducible refine L2.iteF ?_ | with_reducible refine Lay.iteNT ?_ | with_reducible refine Lay.iteNF ?_); (try dsimp only [List.set, Int.reduceToNat, List.length_cons, List.length_nil, List.nil_append, List.cons_append, List.append_nil])))
namespace My
open PySem L2
def top (i : Nat) : Stmt := PySem.Challenge.pw_unkeptlines_k04_agents_refused.main.body.getD i (.Pass ⟨0, 0, 0, 0⟩)
abbrev s_NoPart_init : Stmt := inClass (top 2) 0
abbrev s_is_integer : Stmt := top 12
abbrev s_is_within : Stmt := top 13
abbrev s_is_name : Stmt := top 14
abbrev s_is_step : Stmt := top 23
abbrev s_is_memory_step : Stmt := top 24
abbrev s_check_agent : Stmt := top 27
abbrev s_Agent_init : Stmt := inClass (top 28) 2
abbrev s_Agent_made : Stmt := inClass (top 28) 3
abbrev s_Agent_with_steps : Stmt := inClass (top 28) 9
abbrev s_Through_init : Stmt := inClass (top 29) 2
abbrev s_Through_made : Stmt := inClass (top 29) 3
abbrev s_Through_with_steps : Stmt := inClass (top 29) 9
abbrev s_Back_init : Stmt := inClass (top 30) 2
abbrev s_Back_made : Stmt := inClass (top 30) 3
abbrev s_Back_with_steps : Stmt := inClass (top 30) 9
abbrev s_pen : Stmt := top 32
abbrev s_draw : Stmt := top 33
abbrev s_thing : Stmt := top 34
abbrev s_law_is_name : Stmt := top 35
abbrev s_within : Stmt := top 36
abbrev s_refusal : Stmt := top 37
abbrev s_good_step : Stmt := top 38
abbrev s_bent_step : Stmt := top 39
abbrev s_law_is_step : Stmt := top 40
abbrev s_direct : Stmt := top 41
abbrev s_made : Stmt := top 42
abbrev s_asked : Stmt := top 43
abbrev s_again : Stmt := top 44
abbrev s_no_steps : Stmt := top 45
abbrev s_right : Stmt := top 46
abbrev s_round : Stmt := top 47
abbrev s_law : Stmt := top 48
theorem sc_NoPart_init : FnScope ["self", "reason", "place"] ["self", "reason", "place"] (defScope s_NoPart_init) := ⟨rfl, rfl, rfl, by decide +kernel, rfl, by decide +kernel, by decide +kernel⟩
theorem sc_is_integer : FnScope ["value"] ["value"] (defScope s_is_integer) := ⟨rfl, rfl, rfl, by decide +kernel, rfl, by decide +kernel, by decide +kernel⟩
theorem sc_is_within : FnScope ["value", "low", "high"] ["value", "low", "high"] (defScope s_is_within) := ⟨rfl, rfl, rfl, by decide +kernel, rfl, by decide +kernel, by decide +kernel⟩
theorem sc_is_name : FnScope ["value", "sign"] ["value"] (defScope s_is_name) := ⟨rfl, rfl, rfl, by decide +kernel, rfl, by decide +kernel, by decide +kernel⟩
theorem sc_is_step : FnScope ["value"] ["value"] (defScope s_is_step) := ⟨rfl, rfl, rfl, by decide +kernel, rfl, by decide +kernel, by decide +kernel⟩
theorem sc_is_memory_step : FnScope ["value", "word", "variable", "shift", "first", "last"] ["value"] (defScope s_is_memory_step) := ⟨rfl, rfl, rfl, by decide +kernel, rfl, by decide +kernel, by decide +kernel⟩
theorem sc_check_agent : FnScope ["name", "steps", "words", "k", "step"] ["name", "steps", "words"] (defScope s_check_agent) := ⟨rfl, rfl, rfl, by decide +kernel, rfl, by decide +kernel, by decide +kernel⟩
theorem sc_Agent_init : FnScope ["self", "name", "steps"] ["self", "name", "steps"] (defScope s_Agent_init) := ⟨rfl, rfl, rfl, by decide +kernel, rfl, by decide +kernel, by decide +kernel⟩
theorem sc_Agent_made : FnScope ["cls", "name", "steps"] ["cls", "name", "steps"] (defScope s_Agent_made) := ⟨rfl, rfl, rfl, by decide +kernel, rfl, by decide +kernel, by decide +kernel⟩
theorem sc_Agent_with_steps : FnScope ["self", "steps"] ["self", "steps"] (defScope s_Agent_with_steps) := ⟨rfl, rfl, rfl, by decide +kernel, rfl, by decide +kernel, by decide +kernel⟩
theorem sc_Through_init : FnScope ["self", "name", "steps"] ["self", "name", "steps"] (defScope s_Through_init) := ⟨rfl, rfl, rfl, by decide +kernel, rfl, by decide +kernel, by decide +kernel⟩
theorem sc_Through_made : FnScope ["cls", "name", "steps"] ["cls", "name", "steps"] (defScope s_Through_made) := ⟨rfl, rfl, rfl, by decide +kernel, rfl, by decide +kernel, by decide +kernel⟩
theorem sc_Through_with_steps : FnScope ["self", "steps"] ["self", "steps"] (defScope s_Through_with_steps) := ⟨rfl, rfl, rfl, by decide +kernel, rfl, by decide +kernel, by decide +kernel⟩
theorem sc_Back_init : FnScope ["self", "name", "steps"] ["self", "name", "steps"] (defScope s_Back_init) := ⟨rfl, rfl, rfl, by decide +kernel, rfl, by decide +kernel, by decide +kernel⟩
theorem sc_Back_made : FnScope ["cls", "name", "steps"] ["cls", "name", "steps"] (defScope s_Back_made) := ⟨rfl, rfl, rfl, by decide +kernel, rfl, by decide +kernel, by decide +kernel⟩
theorem sc_Back_with_steps : FnScope ["self", "steps"] ["self", "steps"] (defScope s_Back_with_steps) := ⟨rfl, rfl, rfl, by decide +kernel, rfl, by decide +kernel, by decide +kernel⟩
theorem sc_pen : FnScope ["_law_script"] ["_law_script"] (defScope s_pen) := ⟨rfl, rfl, rfl, by decide +kernel, rfl, by decide +kernel, by decide +kernel⟩
theorem sc_draw : FnScope ["_law_pen_here", "_law_many", "_law_digit", "_law_begun", "_law_cell", "_law_great", "_law_mixed"] ["_law_pen_here", "_law_many"] (defScope s_draw) := ⟨rfl, rfl, rfl, by decide +kernel, rfl, by decide +kernel, by decide +kernel⟩
theorem sc_thing : FnScope ["_law_pen_here", "_law_some"] ["_law_pen_here"] (defScope s_thing) := ⟨rfl, rfl, rfl, by decide +kernel, rfl, by decide +kernel, by decide +kernel⟩
theorem sc_law_is_name : FnScope ["_law_value", "_law_letter"] ["_law_value"] (defScope s_law_is_name) := ⟨rfl, rfl, rfl, by decide +kernel, rfl, by decide +kernel, by decide +kernel⟩
theorem sc_within : FnScope ["_law_value", "_law_least", "_law_greatest"] ["_law_value", "_law_least", "_law_greatest"] (defScope s_within) := ⟨rfl, rfl, rfl, by decide +kernel, rfl, by decide +kernel, by decide +kernel⟩
theorem sc_refusal : FnScope ["_law_caught", "_law_reason", "_law_spot"] ["_law_caught", "_law_reason", "_law_spot"] (defScope s_refusal) := ⟨rfl, rfl, rfl, by decide +kernel, rfl, by decide +kernel, by decide +kernel⟩
theorem sc_good_step : FnScope ["_law_pen_here", "_law_kind", "_law_words", "_law_word", "_law_called", "_law_first"] ["_law_pen_here", "_law_kind"] (defScope s_good_step) := ⟨rfl, rfl, rfl, by decide +kernel, rfl, by decide +kernel, by decide +kernel⟩
theorem sc_bent_step : FnScope ["_law_pen_here", "_law_kind", "_law_step", "_law_choice", "_law_some", "_law_spot"] ["_law_pen_here", "_law_kind"] (defScope s_bent_step) := ⟨rfl, rfl, rfl, by decide +kernel, rfl, by decide +kernel, by decide +kernel⟩
theorem sc_law_is_step : FnScope ["_law_value", "_law_kind"] ["_law_value", "_law_kind"] (defScope s_law_is_step) := ⟨rfl, rfl, rfl, by decide +kernel, rfl, by decide +kernel, by decide +kernel⟩
theorem sc_direct : FnScope ["_law_kind", "_law_called", "_law_handed"] ["_law_kind", "_law_called", "_law_handed"] (defScope s_direct) := ⟨rfl, rfl, rfl, by decide +kernel, rfl, by decide +kernel, by decide +kernel⟩
theorem sc_made : FnScope ["_law_kind", "_law_called", "_law_handed"] ["_law_kind", "_law_called", "_law_handed"] (defScope s_made) := ⟨rfl, rfl, rfl, by decide +kernel, rfl, by decide +kernel, by decide +kernel⟩
theorem sc_asked : FnScope ["_law_kind", "_law_called", "_law_handed", "_law_direct_here", "_law_found", "e"] ["_law_kind", "_law_called", "_law_handed", "_law_direct_here"] (defScope s_asked) := ⟨rfl, rfl, rfl, by decide +kernel, rfl, by decide +kernel, by decide +kernel⟩
theorem sc_again : FnScope ["_law_kind", "_law_handed", "_law_found", "_law_good", "e"] ["_law_kind", "_law_handed"] (defScope s_again) := ⟨rfl, rfl, rfl, by decide +kernel, rfl, by decide +kernel, by decide +kernel⟩
theorem sc_no_steps : FnScope ["_law_kind", "_law_found", "e"] ["_law_kind"] (defScope s_no_steps) := ⟨rfl, rfl, rfl, by decide +kernel, rfl, by decide +kernel, by decide +kernel⟩
theorem sc_right : FnScope ["_law_found", "_law_kind", "_law_called", "_law_handed", "_law_k"] ["_law_found", "_law_kind", "_law_called", "_law_handed"] (defScope s_right) := ⟨rfl, rfl, rfl, by decide +kernel, rfl, by decide +kernel, by decide +kernel⟩
theorem sc_round : FnScope ["_law_pen_here", "_law_kind", "_law_handed", "_law_k", "_law_size_choice", "_law_called", "_law_kept", "_law_found"] ["_law_pen_here"] (defScope s_round) := ⟨rfl, rfl, rfl, by decide +kernel, rfl, by decide +kernel, by decide +kernel⟩
theorem sc_law : FnScope ["_law_script", "_law_pen_here", "_law_k"] ["_law_script"] (defScope s_law) := ⟨rfl, rfl, rfl, by decide +kernel, rfl, by decide +kernel, by decide +kernel⟩
structure Adr where
  a_NoPart_init : Addr
  d_NoPart_init : FuncData
  a_is_integer : Addr
  d_is_integer : FuncData
  a_is_within : Addr
  d_is_within : FuncData
  a_is_name : Addr
  d_is_name : FuncData
  a_is_step : Addr
  d_is_step : FuncData
  a_is_memory_step : Addr
  d_is_memory_step : FuncData
  a_check_agent : Addr
  d_check_agent : FuncData
  a_Agent_init : Addr
  d_Agent_init : FuncData
  a_Agent_made : Addr
  d_Agent_made : FuncData
  a_Agent_with_steps : Addr
  d_Agent_with_steps : FuncData
  a_Through_init : Addr
  d_Through_init : FuncData
  a_Through_made : Addr
  d_Through_made : FuncData
  a_Through_with_steps : Addr
  d_Through_with_steps : FuncData
  a_Back_init : Addr
  d_Back_init : FuncData
  a_Back_made : Addr
  d_Back_made : FuncData
  a_Back_with_steps : Addr
  d_Back_with_steps : FuncData
  a_pen : Addr
  d_pen : FuncData
  a_draw : Addr
  d_draw : FuncData
  a_thing : Addr
  d_thing : FuncData
  a_law_is_name : Addr
  d_law_is_name : FuncData
  a_within : Addr
  d_within : FuncData
  a_refusal : Addr
  d_refusal : FuncData
  a_good_step : Addr
  d_good_step : FuncData
  a_bent_step : Addr
  d_bent_step : FuncData
  a_law_is_step : Addr
  d_law_is_step : FuncData
  a_direct : Addr
  d_direct : FuncData
  a_made : Addr
  d_made : FuncData
  a_asked : Addr
  d_asked : FuncData
  a_again : Addr
  d_again : FuncData
  a_no_steps : Addr
  d_no_steps : FuncData
  a_right : Addr
  d_right : FuncData
  a_round : Addr
  d_round : FuncData
  a_law : Addr
  d_law : FuncData
  c_UnkeptError : Addr
  c_NoPart : Addr
  c_NoNet : Addr
  c_NoName : Addr
  c_NoStep : Addr
  c_NoDeed : Addr
  c_NoText : Addr
  c_NoRow : Addr
  c_Agent : Addr
  c_Through : Addr
  c_Back : Addr
  t_LETTERS : Tok
  t_LONGEST_NAME : Tok
  t_ACCESS_WORDS : Addr
  t_UPKEEP_WORDS : Addr
  t_SIGNAL_WORDS : Addr
  t_PLAIN_WORDS : Addr
  t_CACHE_WORDS : Addr
  t_GREATEST_SHIFT : Tok
  t_GREATEST_BYTE : Tok
  t_MOST_STEPS : Tok
structure Txt (K : PySem.W.Frag) (mg : Str → Option Value) (A : Adr) : Prop where
  n_list : mg "list" = none
  n_int : mg "int" = none
  n_len : mg "len" = none
  n_abs : mg "abs" = none
  n_isinstance : mg "isinstance" = none
  n_str : mg "str" = none
  n_bool : mg "bool" = none
  n_tuple : mg "tuple" = none
  n_all : mg "all" = none
  n_enumerate : mg "enumerate" = none
  n_range : mg "range" = none
  n_ValueError : mg "ValueError" = none
  k_LETTERS : mg "LETTERS" = some (.str "abcdefghijklmnopqrstuvwxyz" A.t_LETTERS)
  k_LONGEST_NAME : mg "LONGEST_NAME" = some (.int 8 A.t_LONGEST_NAME)
  k_ACCESS_WORDS : mg "ACCESS_WORDS" = some (.ref A.t_ACCESS_WORDS)
  q_ACCESS_WORDS : ∀ H, SqT K H A.t_ACCESS_WORDS [V.str "read", V.str "write", V.str "get", V.str "put"]
  k_UPKEEP_WORDS : mg "UPKEEP_WORDS" = some (.ref A.t_UPKEEP_WORDS)
  q_UPKEEP_WORDS : ∀ H, SqT K H A.t_UPKEEP_WORDS [V.str "clean", V.str "drop", V.str "flush"]
  k_SIGNAL_WORDS : mg "SIGNAL_WORDS" = some (.ref A.t_SIGNAL_WORDS)
  q_SIGNAL_WORDS : ∀ H, SqT K H A.t_SIGNAL_WORDS [V.str "post", V.str "wait"]
  k_PLAIN_WORDS : mg "PLAIN_WORDS" = some (.ref A.t_PLAIN_WORDS)
  q_PLAIN_WORDS : ∀ H, SqT K H A.t_PLAIN_WORDS [V.str "read", V.str "write", V.str "post", V.str "wait"]
  k_CACHE_WORDS : mg "CACHE_WORDS" = some (.ref A.t_CACHE_WORDS)
  q_CACHE_WORDS : ∀ H, SqT K H A.t_CACHE_WORDS [V.str "read", V.str "write", V.str "get", V.str "put", V.str "clean", V.str "drop", V.str "flush", V.str "post", V.str "wait"]
  k_GREATEST_SHIFT : mg "GREATEST_SHIFT" = some (.int 3 A.t_GREATEST_SHIFT)
  k_GREATEST_BYTE : mg "GREATEST_BYTE" = some (.int 7 A.t_GREATEST_BYTE)
  k_MOST_STEPS : mg "MOST_STEPS" = some (.int 24 A.t_MOST_STEPS)
  F_NoPart_init : Fun K "__init__" "NoPart.__init__" s_NoPart_init A.a_NoPart_init A.d_NoPart_init
  b_NoPart_init : Binds K A.d_NoPart_init ["self", "reason", "place"] []
  F_is_integer : Fun K "is_integer" "is_integer" s_is_integer A.a_is_integer A.d_is_integer
  g_is_integer : mg "is_integer" = some (.ref A.a_is_integer)
  b_is_integer : Binds K A.d_is_integer ["value"] []
  F_is_within : Fun K "is_within" "is_within" s_is_within A.a_is_within A.d_is_within
  g_is_within : mg "is_within" = some (.ref A.a_is_within)
  b_is_within : Binds K A.d_is_within ["value", "low", "high"] []
  F_is_name : Fun K "is_name" "is_name" s_is_name A.a_is_name A.d_is_name
  g_is_name : mg "is_name" = some (.ref A.a_is_name)
  b_is_name : Binds K A.d_is_name ["value"] []
  F_is_step : Fun K "is_step" "is_step" s_is_step A.a_is_step A.d_is_step
  g_is_step : mg "is_step" = some (.ref A.a_is_step)
  b_is_step : Binds K A.d_is_step ["value"] []
  F_is_memory_step : Fun K "_is_memory_step" "_is_memory_step" s_is_memory_step A.a_is_memory_step A.d_is_memory_step
  g_is_memory_step : mg "_is_memory_step" = some (.ref A.a_is_memory_step)
  b_is_memory_step : Binds K A.d_is_memory_step ["value"] []
  F_check_agent : Fun K "_check_agent" "_check_agent" s_check_agent A.a_check_agent A.d_check_agent
  g_check_agent : mg "_check_agent" = some (.ref A.a_check_agent)
  b_check_agent : Binds K A.d_check_agent ["name", "steps", "words"] []
  F_Agent_init : Fun K "__init__" "Agent.__init__" s_Agent_init A.a_Agent_init A.d_Agent_init
  F_Agent_made : Fun K "made" "Agent.made" s_Agent_made A.a_Agent_made A.d_Agent_made
  cm_Agent_made : ∃ p, ClX.CMet K A.c_Agent (.type "type") "made" p A.a_Agent_made
  b_Agent_made : Binds K A.d_Agent_made ["cls", "name", "steps"] []
  F_Agent_with_steps : Fun K "with_steps" "Agent.with_steps" s_Agent_with_steps A.a_Agent_with_steps A.d_Agent_with_steps
  F_Through_init : Fun K "__init__" "Through.__init__" s_Through_init A.a_Through_init A.d_Through_init
  F_Through_made : Fun K "made" "Through.made" s_Through_made A.a_Through_made A.d_Through_made
  cm_Through_made : ∃ p, ClX.CMet K A.c_Through (.type "type") "made" p A.a_Through_made
  b_Through_made : Binds K A.d_Through_made ["cls", "name", "steps"] []
  F_Through_with_steps : Fun K "with_steps" "Through.with_steps" s_Through_with_steps A.a_Through_with_steps A.d_Through_with_steps
  F_Back_init : Fun K "__init__" "Back.__init__" s_Back_init A.a_Back_init A.d_Back_init
  F_Back_made : Fun K "made" "Back.made" s_Back_made A.a_Back_made A.d_Back_made
  cm_Back_made : ∃ p, ClX.CMet K A.c_Back (.type "type") "made" p A.a_Back_made
  b_Back_made : Binds K A.d_Back_made ["cls", "name", "steps"] []
  F_Back_with_steps : Fun K "with_steps" "Back.with_steps" s_Back_with_steps A.a_Back_with_steps A.d_Back_with_steps
  F_pen : Fun K "_law_pen" "_law_pen" s_pen A.a_pen A.d_pen
  g_pen : mg "_law_pen" = some (.ref A.a_pen)
  b_pen : Binds K A.d_pen ["_law_script"] []
  F_draw : Fun K "_law_draw" "_law_draw" s_draw A.a_draw A.d_draw
  g_draw : mg "_law_draw" = some (.ref A.a_draw)
  b_draw : Binds K A.d_draw ["_law_pen_here", "_law_many"] []
  F_thing : Fun K "_law_thing" "_law_thing" s_thing A.a_thing A.d_thing
  g_thing : mg "_law_thing" = some (.ref A.a_thing)
  b_thing : Binds K A.d_thing ["_law_pen_here"] []
  F_law_is_name : Fun K "_law_is_name" "_law_is_name" s_law_is_name A.a_law_is_name A.d_law_is_name
  g_law_is_name : mg "_law_is_name" = some (.ref A.a_law_is_name)
  b_law_is_name : Binds K A.d_law_is_name ["_law_value"] []
  F_within : Fun K "_law_within" "_law_within" s_within A.a_within A.d_within
  g_within : mg "_law_within" = some (.ref A.a_within)
  b_within : Binds K A.d_within ["_law_value", "_law_least", "_law_greatest"] []
  F_refusal : Fun K "_law_refusal" "_law_refusal" s_refusal A.a_refusal A.d_refusal
  g_refusal : mg "_law_refusal" = some (.ref A.a_refusal)
  b_refusal : Binds K A.d_refusal ["_law_caught", "_law_reason", "_law_spot"] []
  F_good_step : Fun K "_law_good_step" "_law_good_step" s_good_step A.a_good_step A.d_good_step
  g_good_step : mg "_law_good_step" = some (.ref A.a_good_step)
  b_good_step : Binds K A.d_good_step ["_law_pen_here", "_law_kind"] []
  F_bent_step : Fun K "_law_bent_step" "_law_bent_step" s_bent_step A.a_bent_step A.d_bent_step
  g_bent_step : mg "_law_bent_step" = some (.ref A.a_bent_step)
  b_bent_step : Binds K A.d_bent_step ["_law_pen_here", "_law_kind"] []
  F_law_is_step : Fun K "_law_is_step" "_law_is_step" s_law_is_step A.a_law_is_step A.d_law_is_step
  g_law_is_step : mg "_law_is_step" = some (.ref A.a_law_is_step)
  b_law_is_step : Binds K A.d_law_is_step ["_law_value", "_law_kind"] []
  F_direct : Fun K "_law_direct" "_law_direct" s_direct A.a_direct A.d_direct
  g_direct : mg "_law_direct" = some (.ref A.a_direct)
  b_direct : Binds K A.d_direct ["_law_kind", "_law_called", "_law_handed"] []
  F_made : Fun K "_law_made" "_law_made" s_made A.a_made A.d_made
  g_made : mg "_law_made" = some (.ref A.a_made)
  b_made : Binds K A.d_made ["_law_kind", "_law_called", "_law_handed"] []
  F_asked : Fun K "_law_asked" "_law_asked" s_asked A.a_asked A.d_asked
  g_asked : mg "_law_asked" = some (.ref A.a_asked)
  b_asked : Binds K A.d_asked ["_law_kind", "_law_called", "_law_handed", "_law_direct_here"] []
  F_again : Fun K "_law_again" "_law_again" s_again A.a_again A.d_again
  g_again : mg "_law_again" = some (.ref A.a_again)
  b_again : Binds K A.d_again ["_law_kind", "_law_handed"] []
  F_no_steps : Fun K "_law_no_steps" "_law_no_steps" s_no_steps A.a_no_steps A.d_no_steps
  g_no_steps : mg "_law_no_steps" = some (.ref A.a_no_steps)
  b_no_steps : Binds K A.d_no_steps ["_law_kind"] []
  F_right : Fun K "_law_right" "_law_right" s_right A.a_right A.d_right
  g_right : mg "_law_right" = some (.ref A.a_right)
  b_right : Binds K A.d_right ["_law_found", "_law_kind", "_law_called", "_law_handed"] []
  F_round : Fun K "_law_round" "_law_round" s_round A.a_round A.d_round
  g_round : mg "_law_round" = some (.ref A.a_round)
  b_round : Binds K A.d_round ["_law_pen_here"] []
  F_law : Fun K "law" "law" s_law A.a_law A.d_law
  g_law : mg "law" = some (.ref A.a_law)
  b_law : Binds K A.d_law ["_law_script"] []
  g_UnkeptError : mg "UnkeptError" = some (.ref A.c_UnkeptError)
  g_NoPart : mg "NoPart" = some (.ref A.c_NoPart)
  g_NoNet : mg "NoNet" = some (.ref A.c_NoNet)
  g_NoName : mg "NoName" = some (.ref A.c_NoName)
  g_NoStep : mg "NoStep" = some (.ref A.c_NoStep)
  g_NoDeed : mg "NoDeed" = some (.ref A.c_NoDeed)
  g_NoText : mg "NoText" = some (.ref A.c_NoText)
  g_NoRow : mg "NoRow" = some (.ref A.c_NoRow)
  g_Agent : mg "Agent" = some (.ref A.c_Agent)
  cl_Agent : Cls K A.c_Agent
  na_Agent_name : NoAttr K A.c_Agent "name"
  na_Agent_steps : NoAttr K A.c_Agent "steps"
  me_Agent_with_steps : Meth K A.c_Agent "with_steps" A.a_Agent_with_steps
  mk_Agent : Mk K A.c_Agent A.a_Agent_init
  g_Through : mg "Through" = some (.ref A.c_Through)
  cl_Through : Cls K A.c_Through
  na_Through_name : NoAttr K A.c_Through "name"
  na_Through_steps : NoAttr K A.c_Through "steps"
  me_Through_with_steps : Meth K A.c_Through "with_steps" A.a_Through_with_steps
  mk_Through : Mk K A.c_Through A.a_Through_init
  g_Back : mg "Back" = some (.ref A.c_Back)
  cl_Back : Cls K A.c_Back
  na_Back_name : NoAttr K A.c_Back "name"
  na_Back_steps : NoAttr K A.c_Back "steps"
  me_Back_with_steps : Meth K A.c_Back "with_steps" A.a_Back_with_steps
  mk_Back : Mk K A.c_Back A.a_Back_init
  ox_NoPart : OexC K A.c_NoPart
  xf_NoPart : XfC K A.c_NoPart
  xc_NoPart : ExcC K A.c_NoPart
  ie_NoPart : PySem.W.findIn K (.ref A.c_NoPart) "__init__" = some (some (.ref A.a_NoPart_init))
  it_NoPart : PySem.W.typeIn K (.ref A.a_NoPart_init) = some (.type "function")
  nf_NoPart_reason : PySem.W.findIn K (.ref A.c_NoPart) "reason" = some none
  nf_NoPart_place : PySem.W.findIn K (.ref A.c_NoPart) "place" = some none
  em_NoPart : PySem.W.exmOne K (.ref A.c_NoPart) (.ref A.c_UnkeptError) = some true
  ki_NoPart_NoPart : PySem.W.kitOne K (.ref A.c_NoPart) (.ref A.c_NoPart) = some true
  ki_NoPart_NoNet : PySem.W.kitOne K (.ref A.c_NoPart) (.ref A.c_NoNet) = some false
  ki_NoPart_NoName : PySem.W.kitOne K (.ref A.c_NoPart) (.ref A.c_NoName) = some false
  ki_NoPart_NoStep : PySem.W.kitOne K (.ref A.c_NoPart) (.ref A.c_NoStep) = some false
  ki_NoPart_NoDeed : PySem.W.kitOne K (.ref A.c_NoPart) (.ref A.c_NoDeed) = some false
  ki_NoPart_NoText : PySem.W.kitOne K (.ref A.c_NoPart) (.ref A.c_NoText) = some false
  ki_NoPart_NoRow : PySem.W.kitOne K (.ref A.c_NoPart) (.ref A.c_NoRow) = some false
  kt_NoPart_ValueError : PySem.W.kitOne K (.ref A.c_NoPart) (.type "ValueError") = some true
  ki_Agent_Agent : PySem.W.kitOne K (.ref A.c_Agent) (.ref A.c_Agent) = some true
  in_Agent : ∀ (H : Hp) (a dx : Addr) (fs : List (Str × V)), H a = some (.ins A.c_Agent dx fs) → TyX K H (.ref a) (.ref A.c_Agent)
  co_Agent : ∃ u, Con K A.c_Agent "KIND" (.str "plain") u
  cr_Agent : ClX.CRead K A.c_Agent (.type "type")
  ki_Through_Agent : PySem.W.kitOne K (.ref A.c_Through) (.ref A.c_Agent) = some true
  in_Through : ∀ (H : Hp) (a dx : Addr) (fs : List (Str × V)), H a = some (.ins A.c_Through dx fs) → TyX K H (.ref a) (.ref A.c_Through)
  co_Through : ∃ u, Con K A.c_Through "KIND" (.str "through") u
  cr_Through : ClX.CRead K A.c_Through (.type "type")
  ki_Back_Agent : PySem.W.kitOne K (.ref A.c_Back) (.ref A.c_Agent) = some true
  in_Back : ∀ (H : Hp) (a dx : Addr) (fs : List (Str × V)), H a = some (.ins A.c_Back dx fs) → TyX K H (.ref a) (.ref A.c_Back)
  co_Back : ∃ u, Con K A.c_Back "KIND" (.str "back") u
  cr_Back : ClX.CRead K A.c_Back (.type "type")
theorem all_mk {K : PySem.W.Frag} {h : Heap} {mg : Str → Option Value} (X : K.In h) (G : h.Ns mainGlobals mg)
    {c_UnkeptError : Addr} {c_NoPart : Addr} {c_NoNet : Addr} {c_NoName : Addr} {c_NoStep : Addr} {c_NoDeed : Addr} {c_NoText : Addr} {c_NoRow : Addr} {c_Agent : Addr} {c_Through : Addr} {c_Back : Addr} {nm_NoPart q_NoPart : Str} {N_NoPart : Addr} {bs_NoPart bm_NoPart : List Value} {sn_NoPart : List Str} {sub_NoPart : List Value} {ab_NoPart : Bool} {col_NoPart : Option Bool} {dd_NoPart : Option Addr} {m0_NoPart m1_NoPart m2_NoPart m3_NoPart m5_NoPart : Option Value} {kt_Agent : Tok} {kt_Through : Tok} {kt_Back : Tok}
    {f_NoPart_init : Addr} {od_NoPart_init an_NoPart_init : Option Addr} {sl_NoPart_init : Array (Option Value)} {oc_NoPart_init kV_NoPart_init dc_NoPart_init pm_NoPart_init cd_NoPart_init ct_NoPart_init : Value}
    {f_is_integer : Addr} {od_is_integer an_is_integer : Option Addr} {sl_is_integer : Array (Option Value)} {oc_is_integer kV_is_integer dc_is_integer pm_is_integer cd_is_integer ct_is_integer : Value}
    {f_is_within : Addr} {od_is_within an_is_within : Option Addr} {sl_is_within : Array (Option Value)} {oc_is_within kV_is_within dc_is_within pm_is_within cd_is_within ct_is_within : Value}
    {f_is_name : Addr} {od_is_name an_is_name : Option Addr} {sl_is_name : Array (Option Value)} {oc_is_name kV_is_name dc_is_name pm_is_name cd_is_name ct_is_name : Value}
    {f_is_step : Addr} {od_is_step an_is_step : Option Addr} {sl_is_step : Array (Option Value)} {oc_is_step kV_is_step dc_is_step pm_is_step cd_is_step ct_is_step : Value}
    {f_is_memory_step : Addr} {od_is_memory_step an_is_memory_step : Option Addr} {sl_is_memory_step : Array (Option Value)} {oc_is_memory_step kV_is_memory_step dc_is_memory_step pm_is_memory_step cd_is_memory_step ct_is_memory_step : Value}
    {f_check_agent : Addr} {od_check_agent an_check_agent : Option Addr} {sl_check_agent : Array (Option Value)} {oc_check_agent kV_check_agent dc_check_agent pm_check_agent cd_check_agent ct_check_agent : Value}
    {f_Agent_init : Addr} {od_Agent_init an_Agent_init : Option Addr} {sl_Agent_init : Array (Option Value)} {oc_Agent_init kV_Agent_init dc_Agent_init pm_Agent_init cd_Agent_init ct_Agent_init : Value}
    {f_Agent_made : Addr} {od_Agent_made an_Agent_made : Option Addr} {sl_Agent_made : Array (Option Value)} {oc_Agent_made kV_Agent_made dc_Agent_made pm_Agent_made cd_Agent_made ct_Agent_made : Value}
    {cm_Agent_made : Addr} {rs_Agent_made : List Value}
    {f_Agent_with_steps : Addr} {od_Agent_with_steps an_Agent_with_steps : Option Addr} {sl_Agent_with_steps : Array (Option Value)} {oc_Agent_with_steps kV_Agent_with_steps dc_Agent_with_steps pm_Agent_with_steps cd_Agent_with_steps ct_Agent_with_steps : Value}
    {f_Through_init : Addr} {od_Through_init an_Through_init : Option Addr} {sl_Through_init : Array (Option Value)} {oc_Through_init kV_Through_init dc_Through_init pm_Through_init cd_Through_init ct_Through_init : Value}
    {f_Through_made : Addr} {od_Through_made an_Through_made : Option Addr} {sl_Through_made : Array (Option Value)} {oc_Through_made kV_Through_made dc_Through_made pm_Through_made cd_Through_made ct_Through_made : Value}
    {cm_Through_made : Addr} {rs_Through_made : List Value}
    {f_Through_with_steps : Addr} {od_Through_with_steps an_Through_with_steps : Option Addr} {sl_Through_with_steps : Array (Option Value)} {oc_Through_with_steps kV_Through_with_steps dc_Through_with_steps pm_Through_with_steps cd_Through_with_steps ct_Through_with_steps : Value}
    {f_Back_init : Addr} {od_Back_init an_Back_init : Option Addr} {sl_Back_init : Array (Option Value)} {oc_Back_init kV_Back_init dc_Back_init pm_Back_init cd_Back_init ct_Back_init : Value}
    {f_Back_made : Addr} {od_Back_made an_Back_made : Option Addr} {sl_Back_made : Array (Option Value)} {oc_Back_made kV_Back_made dc_Back_made pm_Back_made cd_Back_made ct_Back_made : Value}
    {cm_Back_made : Addr} {rs_Back_made : List Value}
    {f_Back_with_steps : Addr} {od_Back_with_steps an_Back_with_steps : Option Addr} {sl_Back_with_steps : Array (Option Value)} {oc_Back_with_steps kV_Back_with_steps dc_Back_with_steps pm_Back_with_steps cd_Back_with_steps ct_Back_with_steps : Value}
    {f_pen : Addr} {od_pen an_pen : Option Addr} {sl_pen : Array (Option Value)} {oc_pen kV_pen dc_pen pm_pen cd_pen ct_pen : Value}
    {f_draw : Addr} {od_draw an_draw : Option Addr} {sl_draw : Array (Option Value)} {oc_draw kV_draw dc_draw pm_draw cd_draw ct_draw : Value}
    {f_thing : Addr} {od_thing an_thing : Option Addr} {sl_thing : Array (Option Value)} {oc_thing kV_thing dc_thing pm_thing cd_thing ct_thing : Value}
    {f_law_is_name : Addr} {od_law_is_name an_law_is_name : Option Addr} {sl_law_is_name : Array (Option Value)} {oc_law_is_name kV_law_is_name dc_law_is_name pm_law_is_name cd_law_is_name ct_law_is_name : Value}
    {f_within : Addr} {od_within an_within : Option Addr} {sl_within : Array (Option Value)} {oc_within kV_within dc_within pm_within cd_within ct_within : Value}
    {f_refusal : Addr} {od_refusal an_refusal : Option Addr} {sl_refusal : Array (Option Value)} {oc_refusal kV_refusal dc_refusal pm_refusal cd_refusal ct_refusal : Value}
    {f_good_step : Addr} {od_good_step an_good_step : Option Addr} {sl_good_step : Array (Option Value)} {oc_good_step kV_good_step dc_good_step pm_good_step cd_good_step ct_good_step : Value}
    {f_bent_step : Addr} {od_bent_step an_bent_step : Option Addr} {sl_bent_step : Array (Option Value)} {oc_bent_step kV_bent_step dc_bent_step pm_bent_step cd_bent_step ct_bent_step : Value}
    {f_law_is_step : Addr} {od_law_is_step an_law_is_step : Option Addr} {sl_law_is_step : Array (Option Value)} {oc_law_is_step kV_law_is_step dc_law_is_step pm_law_is_step cd_law_is_step ct_law_is_step : Value}
    {f_direct : Addr} {od_direct an_direct : Option Addr} {sl_direct : Array (Option Value)} {oc_direct kV_direct dc_direct pm_direct cd_direct ct_direct : Value}
    {f_made : Addr} {od_made an_made : Option Addr} {sl_made : Array (Option Value)} {oc_made kV_made dc_made pm_made cd_made ct_made : Value}
    {f_asked : Addr} {od_asked an_asked : Option Addr} {sl_asked : Array (Option Value)} {oc_asked kV_asked dc_asked pm_asked cd_asked ct_asked : Value}
    {f_again : Addr} {od_again an_again : Option Addr} {sl_again : Array (Option Value)} {oc_again kV_again dc_again pm_again cd_again ct_again : Value}
    {f_no_steps : Addr} {od_no_steps an_no_steps : Option Addr} {sl_no_steps : Array (Option Value)} {oc_no_steps kV_no_steps dc_no_steps pm_no_steps cd_no_steps ct_no_steps : Value}
    {f_right : Addr} {od_right an_right : Option Addr} {sl_right : Array (Option Value)} {oc_right kV_right dc_right pm_right cd_right ct_right : Value}
    {f_round : Addr} {od_round an_round : Option Addr} {sl_round : Array (Option Value)} {oc_round kV_round dc_round pm_round cd_round ct_round : Value}
    {f_law : Addr} {od_law an_law : Option Addr} {sl_law : Array (Option Value)} {oc_law kV_law dc_law pm_law cd_law ct_law : Value}
    {t_LETTERS : Tok}
    {t_LONGEST_NAME : Tok}
    {t_ACCESS_WORDS : Addr} {o_ACCESS_WORDS : Obj} {its_ACCESS_WORDS : Array Value} {n_ACCESS_WORDS : Nat}
    {t_UPKEEP_WORDS : Addr} {o_UPKEEP_WORDS : Obj} {its_UPKEEP_WORDS : Array Value} {n_UPKEEP_WORDS : Nat}
    {t_SIGNAL_WORDS : Addr} {o_SIGNAL_WORDS : Obj} {its_SIGNAL_WORDS : Array Value} {n_SIGNAL_WORDS : Nat}
    {t_PLAIN_WORDS : Addr} {o_PLAIN_WORDS : Obj} {its_PLAIN_WORDS : Array Value} {n_PLAIN_WORDS : Nat}
    {t_CACHE_WORDS : Addr} {o_CACHE_WORDS : Obj} {its_CACHE_WORDS : Array Value} {n_CACHE_WORDS : Nat}
    {t_GREATEST_SHIFT : Tok}
    {t_GREATEST_BYTE : Tok}
    {t_MOST_STEPS : Tok}
    (a_UnkeptError : PySem.W.nsIn K mainGlobals "UnkeptError" = some (some (.ref c_UnkeptError)))
    (a_NoPart : PySem.W.nsIn K mainGlobals "NoPart" = some (some (.ref c_NoPart)))
    (a_NoNet : PySem.W.nsIn K mainGlobals "NoNet" = some (some (.ref c_NoNet)))
    (a_NoName : PySem.W.nsIn K mainGlobals "NoName" = some (some (.ref c_NoName)))
    (a_NoStep : PySem.W.nsIn K mainGlobals "NoStep" = some (some (.ref c_NoStep)))
    (a_NoDeed : PySem.W.nsIn K mainGlobals "NoDeed" = some (some (.ref c_NoDeed)))
    (a_NoText : PySem.W.nsIn K mainGlobals "NoText" = some (some (.ref c_NoText)))
    (a_NoRow : PySem.W.nsIn K mainGlobals "NoRow" = some (some (.ref c_NoRow)))
    (a_Agent : PySem.W.nsIn K mainGlobals "Agent" = some (some (.ref c_Agent)))
    (pg_Agent : PySem.W.plainGet K c_Agent Str.empty = true) (hd_Agent : PySem.W.hasDictIn K c_Agent = true) (po_Agent : PySem.W.plainOver K c_Agent = true) (sa_Agent : PySem.W.findIn K (.ref c_Agent) "__setattr__" = some (some (.builtin "object.__setattr__")))
    (na_Agent_name : PySem.W.findIn K (.ref c_Agent) "name" = some none)
    (na_Agent_steps : PySem.W.findIn K (.ref c_Agent) "steps" = some none)
    (mk_Agent : PySem.W.makesIn K c_Agent = true) (kc_Agent : PySem.W.keepIn K (.ref c_Agent) = true)
    (a_Through : PySem.W.nsIn K mainGlobals "Through" = some (some (.ref c_Through)))
    (pg_Through : PySem.W.plainGet K c_Through Str.empty = true) (hd_Through : PySem.W.hasDictIn K c_Through = true) (po_Through : PySem.W.plainOver K c_Through = true) (sa_Through : PySem.W.findIn K (.ref c_Through) "__setattr__" = some (some (.builtin "object.__setattr__")))
    (na_Through_name : PySem.W.findIn K (.ref c_Through) "name" = some none)
    (na_Through_steps : PySem.W.findIn K (.ref c_Through) "steps" = some none)
    (mk_Through : PySem.W.makesIn K c_Through = true) (kc_Through : PySem.W.keepIn K (.ref c_Through) = true)
    (a_Back : PySem.W.nsIn K mainGlobals "Back" = some (some (.ref c_Back)))
    (pg_Back : PySem.W.plainGet K c_Back Str.empty = true) (hd_Back : PySem.W.hasDictIn K c_Back = true) (po_Back : PySem.W.plainOver K c_Back = true) (sa_Back : PySem.W.findIn K (.ref c_Back) "__setattr__" = some (some (.builtin "object.__setattr__")))
    (na_Back_name : PySem.W.findIn K (.ref c_Back) "name" = some none)
    (na_Back_steps : PySem.W.findIn K (.ref c_Back) "steps" = some none)
    (mk_Back : PySem.W.makesIn K c_Back = true) (kc_Back : PySem.W.keepIn K (.ref c_Back) = true)
    (gg : PySem.W.specialIn K (.builtin "object.__class__") "__get__" = some (some (.builtin "getset_descriptor.__get__"))) (tk : PySem.W.takesIn K (.builtin "object.__class__") = some true)
    (ec_UnkeptError : PySem.W.subIn K (.ref c_UnkeptError) (.type "BaseException") = some true)
    (hd_UnkeptError : PySem.W.hasDictIn K c_UnkeptError = true)
    (ty_UnkeptError : PySem.W.typeIn K (.ref c_UnkeptError) = some (.type "type"))
    (mo_NoPart : PySem.W.mroIn K c_NoPart (.type "object") = some true)
    (ty_NoPart : PySem.W.typeIn K (.ref c_NoPart) = some (.type "type"))
    (ss_NoPart : PySem.W.subIn K (.ref c_NoPart) (.ref c_NoPart) = some true)
    (mo_NoNet : PySem.W.mroIn K c_NoNet (.type "object") = some true)
    (ty_NoNet : PySem.W.typeIn K (.ref c_NoNet) = some (.type "type"))
    (ss_NoNet : PySem.W.subIn K (.ref c_NoNet) (.ref c_NoNet) = some true)
    (mo_NoName : PySem.W.mroIn K c_NoName (.type "object") = some true)
    (ty_NoName : PySem.W.typeIn K (.ref c_NoName) = some (.type "type"))
    (ss_NoName : PySem.W.subIn K (.ref c_NoName) (.ref c_NoName) = some true)
    (mo_NoStep : PySem.W.mroIn K c_NoStep (.type "object") = some true)
    (ty_NoStep : PySem.W.typeIn K (.ref c_NoStep) = some (.type "type"))
    (ss_NoStep : PySem.W.subIn K (.ref c_NoStep) (.ref c_NoStep) = some true)
    (mo_NoDeed : PySem.W.mroIn K c_NoDeed (.type "object") = some true)
    (ty_NoDeed : PySem.W.typeIn K (.ref c_NoDeed) = some (.type "type"))
    (ss_NoDeed : PySem.W.subIn K (.ref c_NoDeed) (.ref c_NoDeed) = some true)
    (mo_NoText : PySem.W.mroIn K c_NoText (.type "object") = some true)
    (ty_NoText : PySem.W.typeIn K (.ref c_NoText) = some (.type "type"))
    (ss_NoText : PySem.W.subIn K (.ref c_NoText) (.ref c_NoText) = some true)
    (mo_NoRow : PySem.W.mroIn K c_NoRow (.type "object") = some true)
    (ty_NoRow : PySem.W.typeIn K (.ref c_NoRow) = some (.type "type"))
    (ss_NoRow : PySem.W.subIn K (.ref c_NoRow) (.ref c_NoRow) = some true)
    (mo_Agent : PySem.W.mroIn K c_Agent (.type "object") = some true)
    (ty_Agent : PySem.W.typeIn K (.ref c_Agent) = some (.type "type"))
    (ss_Agent : PySem.W.subIn K (.ref c_Agent) (.ref c_Agent) = some true)
    (mo_Through : PySem.W.mroIn K c_Through (.type "object") = some true)
    (ty_Through : PySem.W.typeIn K (.ref c_Through) = some (.type "type"))
    (ss_Through : PySem.W.subIn K (.ref c_Through) (.ref c_Through) = some true)
    (mo_Back : PySem.W.mroIn K c_Back (.type "object") = some true)
    (ty_Back : PySem.W.typeIn K (.ref c_Back) = some (.type "type"))
    (ss_Back : PySem.W.subIn K (.ref c_Back) (.ref c_Back) = some true)
    (xl_NoPart : K.lookup c_NoPart = some (excClassObj nm_NoPart q_NoPart c_NoPart N_NoPart bs_NoPart bm_NoPart true sn_NoPart sub_NoPart ab_NoPart col_NoPart dd_NoPart m0_NoPart m1_NoPart m2_NoPart m3_NoPart m5_NoPart "ValueError.__new__"))
    (xb_NoPart : PySem.HandSPX.refsVE bm_NoPart = true)
    (sa_NoPart : PySem.W.findIn K (.ref c_NoPart) "__setattr__" = some (some (.builtin "object.__setattr__")))
    (ga_NoPart : PySem.W.findIn K (.ref c_NoPart) "__getattribute__" = some (some (.builtin "BaseException.__getattribute__")))
    (gn_NoPart : PySem.W.findIn K (.ref c_NoPart) "__getattr__" = some none)
    (ec_NoPart : PySem.W.subIn K (.ref c_NoPart) (.type "BaseException") = some true)
    (ke_NoPart : PySem.W.keepIn K (.ref c_NoPart) = true)
    (hd_NoPart : PySem.W.hasDictIn K c_NoPart = true)
    (ci_NoPart : PySem.W.findIn K (.ref c_NoPart) "__class__" = some (some (.builtin "object.__class__")))
    (nf_NoPart_reason : PySem.W.findIn K (.ref c_NoPart) "reason" = some none)
    (nf_NoPart_place : PySem.W.findIn K (.ref c_NoPart) "place" = some none)
    (su_NoPart : PySem.W.subIn K (.ref c_NoPart) (.ref c_UnkeptError) = some true)
    (sb_NoPart_NoNet : PySem.W.subIn K (.ref c_NoPart) (.ref c_NoNet) = some false)
    (sb_NoPart_NoName : PySem.W.subIn K (.ref c_NoPart) (.ref c_NoName) = some false)
    (sb_NoPart_NoStep : PySem.W.subIn K (.ref c_NoPart) (.ref c_NoStep) = some false)
    (sb_NoPart_NoDeed : PySem.W.subIn K (.ref c_NoPart) (.ref c_NoDeed) = some false)
    (sb_NoPart_NoText : PySem.W.subIn K (.ref c_NoPart) (.ref c_NoText) = some false)
    (sb_NoPart_NoRow : PySem.W.subIn K (.ref c_NoPart) (.ref c_NoRow) = some false)
    (st_NoPart_ValueError : PySem.W.subIn K (.ref c_NoPart) (.type "ValueError") = some true)
    (ci_Agent : PySem.W.findIn K (.ref c_Agent) "__class__" = some (some (.builtin "object.__class__")))
    (co_Agent : PySem.W.findIn K (.ref c_Agent) "KIND" = some (some (.str "plain" kt_Agent)))
    (cg_Agent : PySem.W.specialIn K (.str "plain" kt_Agent) "__get__" = some none)
    (rd_Agent : PySem.W.readsIn K c_Agent (.type "type") = true)
    (gc_Agent : PySem.W.specialIn K (.ref c_Agent) "__getattribute__" = some (some (.builtin "type.__getattribute__")))
    (sb_Through_Agent : PySem.W.subIn K (.ref c_Through) (.ref c_Agent) = some true)
    (ci_Through : PySem.W.findIn K (.ref c_Through) "__class__" = some (some (.builtin "object.__class__")))
    (co_Through : PySem.W.findIn K (.ref c_Through) "KIND" = some (some (.str "through" kt_Through)))
    (cg_Through : PySem.W.specialIn K (.str "through" kt_Through) "__get__" = some none)
    (rd_Through : PySem.W.readsIn K c_Through (.type "type") = true)
    (gc_Through : PySem.W.specialIn K (.ref c_Through) "__getattribute__" = some (some (.builtin "type.__getattribute__")))
    (sb_Back_Agent : PySem.W.subIn K (.ref c_Back) (.ref c_Agent) = some true)
    (ci_Back : PySem.W.findIn K (.ref c_Back) "__class__" = some (some (.builtin "object.__class__")))
    (co_Back : PySem.W.findIn K (.ref c_Back) "KIND" = some (some (.str "back" kt_Back)))
    (cg_Back : PySem.W.specialIn K (.str "back" kt_Back) "__get__" = some none)
    (rd_Back : PySem.W.readsIn K c_Back (.type "type") = true)
    (gc_Back : PySem.W.specialIn K (.ref c_Back) "__getattribute__" = some (some (.builtin "type.__getattribute__")))
    (n_list : PySem.W.nsIn K mainGlobals "list" = some none)
    (n_int : PySem.W.nsIn K mainGlobals "int" = some none)
    (n_len : PySem.W.nsIn K mainGlobals "len" = some none)
    (n_abs : PySem.W.nsIn K mainGlobals "abs" = some none)
    (n_isinstance : PySem.W.nsIn K mainGlobals "isinstance" = some none)
    (n_str : PySem.W.nsIn K mainGlobals "str" = some none)
    (n_bool : PySem.W.nsIn K mainGlobals "bool" = some none)
    (n_tuple : PySem.W.nsIn K mainGlobals "tuple" = some none)
    (n_all : PySem.W.nsIn K mainGlobals "all" = some none)
    (n_enumerate : PySem.W.nsIn K mainGlobals "enumerate" = some none)
    (n_range : PySem.W.nsIn K mainGlobals "range" = some none)
    (n_ValueError : PySem.W.nsIn K mainGlobals "ValueError" = some none)
    (a_NoPart_init : PySem.W.findIn K (.ref c_NoPart) "__init__" = some (some (.ref f_NoPart_init)))
    (i_NoPart_init : PySem.W.isFn K (.ref f_NoPart_init) = true)
    (l_NoPart_init : K.lookup f_NoPart_init = some ⟨oc_NoPart_init, od_NoPart_init, .func (PySem.W.fnOf "__init__" "NoPart.__init__" (defArgs s_NoPart_init) (defBody s_NoPart_init) (defScope s_NoPart_init) .none kV_NoPart_init dc_NoPart_init pm_NoPart_init an_NoPart_init cd_NoPart_init ct_NoPart_init), sl_NoPart_init⟩)
    (e_NoPart_init : PySem.W.codeIn K cd_NoPart_init "NoPart.__init__" = true)
    (p_NoPart_init : PySem.W.keepIn K (.ref f_NoPart_init) = true)
    (a_is_integer : PySem.W.nsIn K mainGlobals "is_integer" = some (some (.ref f_is_integer)))
    (l_is_integer : K.lookup f_is_integer = some ⟨oc_is_integer, od_is_integer, .func (PySem.W.fnOf "is_integer" "is_integer" (defArgs s_is_integer) (defBody s_is_integer) (defScope s_is_integer) .none kV_is_integer dc_is_integer pm_is_integer an_is_integer cd_is_integer ct_is_integer), sl_is_integer⟩)
    (e_is_integer : PySem.W.codeIn K cd_is_integer "is_integer" = true)
    (p_is_integer : PySem.W.keepIn K (.ref f_is_integer) = true)
    (a_is_within : PySem.W.nsIn K mainGlobals "is_within" = some (some (.ref f_is_within)))
    (l_is_within : K.lookup f_is_within = some ⟨oc_is_within, od_is_within, .func (PySem.W.fnOf "is_within" "is_within" (defArgs s_is_within) (defBody s_is_within) (defScope s_is_within) .none kV_is_within dc_is_within pm_is_within an_is_within cd_is_within ct_is_within), sl_is_within⟩)
    (e_is_within : PySem.W.codeIn K cd_is_within "is_within" = true)
    (p_is_within : PySem.W.keepIn K (.ref f_is_within) = true)
    (a_is_name : PySem.W.nsIn K mainGlobals "is_name" = some (some (.ref f_is_name)))
    (l_is_name : K.lookup f_is_name = some ⟨oc_is_name, od_is_name, .func (PySem.W.fnOf "is_name" "is_name" (defArgs s_is_name) (defBody s_is_name) (defScope s_is_name) .none kV_is_name dc_is_name pm_is_name an_is_name cd_is_name ct_is_name), sl_is_name⟩)
    (e_is_name : PySem.W.codeIn K cd_is_name "is_name" = true)
    (p_is_name : PySem.W.keepIn K (.ref f_is_name) = true)
    (a_is_step : PySem.W.nsIn K mainGlobals "is_step" = some (some (.ref f_is_step)))
    (l_is_step : K.lookup f_is_step = some ⟨oc_is_step, od_is_step, .func (PySem.W.fnOf "is_step" "is_step" (defArgs s_is_step) (defBody s_is_step) (defScope s_is_step) .none kV_is_step dc_is_step pm_is_step an_is_step cd_is_step ct_is_step), sl_is_step⟩)
    (e_is_step : PySem.W.codeIn K cd_is_step "is_step" = true)
    (p_is_step : PySem.W.keepIn K (.ref f_is_step) = true)
    (a_is_memory_step : PySem.W.nsIn K mainGlobals "_is_memory_step" = some (some (.ref f_is_memory_step)))
    (l_is_memory_step : K.lookup f_is_memory_step = some ⟨oc_is_memory_step, od_is_memory_step, .func (PySem.W.fnOf "_is_memory_step" "_is_memory_step" (defArgs s_is_memory_step) (defBody s_is_memory_step) (defScope s_is_memory_step) .none kV_is_memory_step dc_is_memory_step pm_is_memory_step an_is_memory_step cd_is_memory_step ct_is_memory_step), sl_is_memory_step⟩)
    (e_is_memory_step : PySem.W.codeIn K cd_is_memory_step "_is_memory_step" = true)
    (p_is_memory_step : PySem.W.keepIn K (.ref f_is_memory_step) = true)
    (a_check_agent : PySem.W.nsIn K mainGlobals "_check_agent" = some (some (.ref f_check_agent)))
    (l_check_agent : K.lookup f_check_agent = some ⟨oc_check_agent, od_check_agent, .func (PySem.W.fnOf "_check_agent" "_check_agent" (defArgs s_check_agent) (defBody s_check_agent) (defScope s_check_agent) .none kV_check_agent dc_check_agent pm_check_agent an_check_agent cd_check_agent ct_check_agent), sl_check_agent⟩)
    (e_check_agent : PySem.W.codeIn K cd_check_agent "_check_agent" = true)
    (p_check_agent : PySem.W.keepIn K (.ref f_check_agent) = true)
    (a_Agent_init : PySem.W.findIn K (.ref c_Agent) "__init__" = some (some (.ref f_Agent_init)))
    (i_Agent_init : PySem.W.isFn K (.ref f_Agent_init) = true)
    (l_Agent_init : K.lookup f_Agent_init = some ⟨oc_Agent_init, od_Agent_init, .func (PySem.W.fnOf "__init__" "Agent.__init__" (defArgs s_Agent_init) (defBody s_Agent_init) (defScope s_Agent_init) .none kV_Agent_init dc_Agent_init pm_Agent_init an_Agent_init cd_Agent_init ct_Agent_init), sl_Agent_init⟩)
    (e_Agent_init : PySem.W.codeIn K cd_Agent_init "Agent.__init__" = true)
    (p_Agent_init : PySem.W.keepIn K (.ref f_Agent_init) = true)
    (a_Agent_made : PySem.W.findCls K (.ref c_Agent) (.type "type") "made" = some (.get (.builtin "classmethod.__get__") (.ref cm_Agent_made) .none (.ref c_Agent)))
    (i_Agent_made : PySem.W.recIn K cm_Agent_made "classmethod" = some (.ref f_Agent_made :: rs_Agent_made))
    (j_Agent_made : PySem.W.fnIn K f_Agent_made = true)
    (l_Agent_made : K.lookup f_Agent_made = some ⟨oc_Agent_made, od_Agent_made, .func (PySem.W.fnOf "made" "Agent.made" (defArgs s_Agent_made) (defBody s_Agent_made) (defScope s_Agent_made) .none kV_Agent_made dc_Agent_made pm_Agent_made an_Agent_made cd_Agent_made ct_Agent_made), sl_Agent_made⟩)
    (e_Agent_made : PySem.W.codeIn K cd_Agent_made "Agent.made" = true)
    (p_Agent_made : PySem.W.keepIn K (.ref f_Agent_made) = true)
    (a_Agent_with_steps : PySem.W.findIn K (.ref c_Agent) "with_steps" = some (some (.ref f_Agent_with_steps)))
    (i_Agent_with_steps : PySem.W.isFn K (.ref f_Agent_with_steps) = true)
    (l_Agent_with_steps : K.lookup f_Agent_with_steps = some ⟨oc_Agent_with_steps, od_Agent_with_steps, .func (PySem.W.fnOf "with_steps" "Agent.with_steps" (defArgs s_Agent_with_steps) (defBody s_Agent_with_steps) (defScope s_Agent_with_steps) .none kV_Agent_with_steps dc_Agent_with_steps pm_Agent_with_steps an_Agent_with_steps cd_Agent_with_steps ct_Agent_with_steps), sl_Agent_with_steps⟩)
    (e_Agent_with_steps : PySem.W.codeIn K cd_Agent_with_steps "Agent.with_steps" = true)
    (p_Agent_with_steps : PySem.W.keepIn K (.ref f_Agent_with_steps) = true)
    (a_Through_init : PySem.W.findIn K (.ref c_Through) "__init__" = some (some (.ref f_Through_init)))
    (i_Through_init : PySem.W.isFn K (.ref f_Through_init) = true)
    (l_Through_init : K.lookup f_Through_init = some ⟨oc_Through_init, od_Through_init, .func (PySem.W.fnOf "__init__" "Through.__init__" (defArgs s_Through_init) (defBody s_Through_init) (defScope s_Through_init) .none kV_Through_init dc_Through_init pm_Through_init an_Through_init cd_Through_init ct_Through_init), sl_Through_init⟩)
    (e_Through_init : PySem.W.codeIn K cd_Through_init "Through.__init__" = true)
    (p_Through_init : PySem.W.keepIn K (.ref f_Through_init) = true)
    (a_Through_made : PySem.W.findCls K (.ref c_Through) (.type "type") "made" = some (.get (.builtin "classmethod.__get__") (.ref cm_Through_made) .none (.ref c_Through)))
    (i_Through_made : PySem.W.recIn K cm_Through_made "classmethod" = some (.ref f_Through_made :: rs_Through_made))
    (j_Through_made : PySem.W.fnIn K f_Through_made = true)
    (l_Through_made : K.lookup f_Through_made = some ⟨oc_Through_made, od_Through_made, .func (PySem.W.fnOf "made" "Through.made" (defArgs s_Through_made) (defBody s_Through_made) (defScope s_Through_made) .none kV_Through_made dc_Through_made pm_Through_made an_Through_made cd_Through_made ct_Through_made), sl_Through_made⟩)
    (e_Through_made : PySem.W.codeIn K cd_Through_made "Through.made" = true)
    (p_Through_made : PySem.W.keepIn K (.ref f_Through_made) = true)
    (a_Through_with_steps : PySem.W.findIn K (.ref c_Through) "with_steps" = some (some (.ref f_Through_with_steps)))
    (i_Through_with_steps : PySem.W.isFn K (.ref f_Through_with_steps) = true)
    (l_Through_with_steps : K.lookup f_Through_with_steps = some ⟨oc_Through_with_steps, od_Through_with_steps, .func (PySem.W.fnOf "with_steps" "Through.with_steps" (defArgs s_Through_with_steps) (defBody s_Through_with_steps) (defScope s_Through_with_steps) .none kV_Through_with_steps dc_Through_with_steps pm_Through_with_steps an_Through_with_steps cd_Through_with_steps ct_Through_with_steps), sl_Through_with_steps⟩)
    (e_Through_with_steps : PySem.W.codeIn K cd_Through_with_steps "Through.with_steps" = true)
    (p_Through_with_steps : PySem.W.keepIn K (.ref f_Through_with_steps) = true)
    (a_Back_init : PySem.W.findIn K (.ref c_Back) "__init__" = some (some (.ref f_Back_init)))
    (i_Back_init : PySem.W.isFn K (.ref f_Back_init) = true)
    (l_Back_init : K.lookup f_Back_init = some ⟨oc_Back_init, od_Back_init, .func (PySem.W.fnOf "__init__" "Back.__init__" (defArgs s_Back_init) (defBody s_Back_init) (defScope s_Back_init) .none kV_Back_init dc_Back_init pm_Back_init an_Back_init cd_Back_init ct_Back_init), sl_Back_init⟩)
    (e_Back_init : PySem.W.codeIn K cd_Back_init "Back.__init__" = true)
    (p_Back_init : PySem.W.keepIn K (.ref f_Back_init) = true)
    (a_Back_made : PySem.W.findCls K (.ref c_Back) (.type "type") "made" = some (.get (.builtin "classmethod.__get__") (.ref cm_Back_made) .none (.ref c_Back)))
    (i_Back_made : PySem.W.recIn K cm_Back_made "classmethod" = some (.ref f_Back_made :: rs_Back_made))
    (j_Back_made : PySem.W.fnIn K f_Back_made = true)
    (l_Back_made : K.lookup f_Back_made = some ⟨oc_Back_made, od_Back_made, .func (PySem.W.fnOf "made" "Back.made" (defArgs s_Back_made) (defBody s_Back_made) (defScope s_Back_made) .none kV_Back_made dc_Back_made pm_Back_made an_Back_made cd_Back_made ct_Back_made), sl_Back_made⟩)
    (e_Back_made : PySem.W.codeIn K cd_Back_made "Back.made" = true)
    (p_Back_made : PySem.W.keepIn K (.ref f_Back_made) = true)
    (a_Back_with_steps : PySem.W.findIn K (.ref c_Back) "with_steps" = some (some (.ref f_Back_with_steps)))
    (i_Back_with_steps : PySem.W.isFn K (.ref f_Back_with_steps) = true)
    (l_Back_with_steps : K.lookup f_Back_with_steps = some ⟨oc_Back_with_steps, od_Back_with_steps, .func (PySem.W.fnOf "with_steps" "Back.with_steps" (defArgs s_Back_with_steps) (defBody s_Back_with_steps) (defScope s_Back_with_steps) .none kV_Back_with_steps dc_Back_with_steps pm_Back_with_steps an_Back_with_steps cd_Back_with_steps ct_Back_with_steps), sl_Back_with_steps⟩)
    (e_Back_with_steps : PySem.W.codeIn K cd_Back_with_steps "Back.with_steps" = true)
    (p_Back_with_steps : PySem.W.keepIn K (.ref f_Back_with_steps) = true)
    (a_pen : PySem.W.nsIn K mainGlobals "_law_pen" = some (some (.ref f_pen)))
    (l_pen : K.lookup f_pen = some ⟨oc_pen, od_pen, .func (PySem.W.fnOf "_law_pen" "_law_pen" (defArgs s_pen) (defBody s_pen) (defScope s_pen) .none kV_pen dc_pen pm_pen an_pen cd_pen ct_pen), sl_pen⟩)
    (e_pen : PySem.W.codeIn K cd_pen "_law_pen" = true)
    (p_pen : PySem.W.keepIn K (.ref f_pen) = true)
    (a_draw : PySem.W.nsIn K mainGlobals "_law_draw" = some (some (.ref f_draw)))
    (l_draw : K.lookup f_draw = some ⟨oc_draw, od_draw, .func (PySem.W.fnOf "_law_draw" "_law_draw" (defArgs s_draw) (defBody s_draw) (defScope s_draw) .none kV_draw dc_draw pm_draw an_draw cd_draw ct_draw), sl_draw⟩)
    (e_draw : PySem.W.codeIn K cd_draw "_law_draw" = true)
    (p_draw : PySem.W.keepIn K (.ref f_draw) = true)
    (a_thing : PySem.W.nsIn K mainGlobals "_law_thing" = some (some (.ref f_thing)))
    (l_thing : K.lookup f_thing = some ⟨oc_thing, od_thing, .func (PySem.W.fnOf "_law_thing" "_law_thing" (defArgs s_thing) (defBody s_thing) (defScope s_thing) .none kV_thing dc_thing pm_thing an_thing cd_thing ct_thing), sl_thing⟩)
    (e_thing : PySem.W.codeIn K cd_thing "_law_thing" = true)
    (p_thing : PySem.W.keepIn K (.ref f_thing) = true)
    (a_law_is_name : PySem.W.nsIn K mainGlobals "_law_is_name" = some (some (.ref f_law_is_name)))
    (l_law_is_name : K.lookup f_law_is_name = some ⟨oc_law_is_name, od_law_is_name, .func (PySem.W.fnOf "_law_is_name" "_law_is_name" (defArgs s_law_is_name) (defBody s_law_is_name) (defScope s_law_is_name) .none kV_law_is_name dc_law_is_name pm_law_is_name an_law_is_name cd_law_is_name ct_law_is_name), sl_law_is_name⟩)
    (e_law_is_name : PySem.W.codeIn K cd_law_is_name "_law_is_name" = true)
    (p_law_is_name : PySem.W.keepIn K (.ref f_law_is_name) = true)
    (a_within : PySem.W.nsIn K mainGlobals "_law_within" = some (some (.ref f_within)))
    (l_within : K.lookup f_within = some ⟨oc_within, od_within, .func (PySem.W.fnOf "_law_within" "_law_within" (defArgs s_within) (defBody s_within) (defScope s_within) .none kV_within dc_within pm_within an_within cd_within ct_within), sl_within⟩)
    (e_within : PySem.W.codeIn K cd_within "_law_within" = true)
    (p_within : PySem.W.keepIn K (.ref f_within) = true)
    (a_refusal : PySem.W.nsIn K mainGlobals "_law_refusal" = some (some (.ref f_refusal)))
    (l_refusal : K.lookup f_refusal = some ⟨oc_refusal, od_refusal, .func (PySem.W.fnOf "_law_refusal" "_law_refusal" (defArgs s_refusal) (defBody s_refusal) (defScope s_refusal) .none kV_refusal dc_refusal pm_refusal an_refusal cd_refusal ct_refusal), sl_refusal⟩)
    (e_refusal : PySem.W.codeIn K cd_refusal "_law_refusal" = true)
    (p_refusal : PySem.W.keepIn K (.ref f_refusal) = true)
    (a_good_step : PySem.W.nsIn K mainGlobals "_law_good_step" = some (some (.ref f_good_step)))
    (l_good_step : K.lookup f_good_step = some ⟨oc_good_step, od_good_step, .func (PySem.W.fnOf "_law_good_step" "_law_good_step" (defArgs s_good_step) (defBody s_good_step) (defScope s_good_step) .none kV_good_step dc_good_step pm_good_step an_good_step cd_good_step ct_good_step), sl_good_step⟩)
    (e_good_step : PySem.W.codeIn K cd_good_step "_law_good_step" = true)
    (p_good_step : PySem.W.keepIn K (.ref f_good_step) = true)
    (a_bent_step : PySem.W.nsIn K mainGlobals "_law_bent_step" = some (some (.ref f_bent_step)))
    (l_bent_step : K.lookup f_bent_step = some ⟨oc_bent_step, od_bent_step, .func (PySem.W.fnOf "_law_bent_step" "_law_bent_step" (defArgs s_bent_step) (defBody s_bent_step) (defScope s_bent_step) .none kV_bent_step dc_bent_step pm_bent_step an_bent_step cd_bent_step ct_bent_step), sl_bent_step⟩)
    (e_bent_step : PySem.W.codeIn K cd_bent_step "_law_bent_step" = true)
    (p_bent_step : PySem.W.keepIn K (.ref f_bent_step) = true)
    (a_law_is_step : PySem.W.nsIn K mainGlobals "_law_is_step" = some (some (.ref f_law_is_step)))
    (l_law_is_step : K.lookup f_law_is_step = some ⟨oc_law_is_step, od_law_is_step, .func (PySem.W.fnOf "_law_is_step" "_law_is_step" (defArgs s_law_is_step) (defBody s_law_is_step) (defScope s_law_is_step) .none kV_law_is_step dc_law_is_step pm_law_is_step an_law_is_step cd_law_is_step ct_law_is_step), sl_law_is_step⟩)
    (e_law_is_step : PySem.W.codeIn K cd_law_is_step "_law_is_step" = true)
    (p_law_is_step : PySem.W.keepIn K (.ref f_law_is_step) = true)
    (a_direct : PySem.W.nsIn K mainGlobals "_law_direct" = some (some (.ref f_direct)))
    (l_direct : K.lookup f_direct = some ⟨oc_direct, od_direct, .func (PySem.W.fnOf "_law_direct" "_law_direct" (defArgs s_direct) (defBody s_direct) (defScope s_direct) .none kV_direct dc_direct pm_direct an_direct cd_direct ct_direct), sl_direct⟩)
    (e_direct : PySem.W.codeIn K cd_direct "_law_direct" = true)
    (p_direct : PySem.W.keepIn K (.ref f_direct) = true)
    (a_made : PySem.W.nsIn K mainGlobals "_law_made" = some (some (.ref f_made)))
    (l_made : K.lookup f_made = some ⟨oc_made, od_made, .func (PySem.W.fnOf "_law_made" "_law_made" (defArgs s_made) (defBody s_made) (defScope s_made) .none kV_made dc_made pm_made an_made cd_made ct_made), sl_made⟩)
    (e_made : PySem.W.codeIn K cd_made "_law_made" = true)
    (p_made : PySem.W.keepIn K (.ref f_made) = true)
    (a_asked : PySem.W.nsIn K mainGlobals "_law_asked" = some (some (.ref f_asked)))
    (l_asked : K.lookup f_asked = some ⟨oc_asked, od_asked, .func (PySem.W.fnOf "_law_asked" "_law_asked" (defArgs s_asked) (defBody s_asked) (defScope s_asked) .none kV_asked dc_asked pm_asked an_asked cd_asked ct_asked), sl_asked⟩)
    (e_asked : PySem.W.codeIn K cd_asked "_law_asked" = true)
    (p_asked : PySem.W.keepIn K (.ref f_asked) = true)
    (a_again : PySem.W.nsIn K mainGlobals "_law_again" = some (some (.ref f_again)))
    (l_again : K.lookup f_again = some ⟨oc_again, od_again, .func (PySem.W.fnOf "_law_again" "_law_again" (defArgs s_again) (defBody s_again) (defScope s_again) .none kV_again dc_again pm_again an_again cd_again ct_again), sl_again⟩)
    (e_again : PySem.W.codeIn K cd_again "_law_again" = true)
    (p_again : PySem.W.keepIn K (.ref f_again) = true)
    (a_no_steps : PySem.W.nsIn K mainGlobals "_law_no_steps" = some (some (.ref f_no_steps)))
    (l_no_steps : K.lookup f_no_steps = some ⟨oc_no_steps, od_no_steps, .func (PySem.W.fnOf "_law_no_steps" "_law_no_steps" (defArgs s_no_steps) (defBody s_no_steps) (defScope s_no_steps) .none kV_no_steps dc_no_steps pm_no_steps an_no_steps cd_no_steps ct_no_steps), sl_no_steps⟩)
    (e_no_steps : PySem.W.codeIn K cd_no_steps "_law_no_steps" = true)
    (p_no_steps : PySem.W.keepIn K (.ref f_no_steps) = true)
    (a_right : PySem.W.nsIn K mainGlobals "_law_right" = some (some (.ref f_right)))
    (l_right : K.lookup f_right = some ⟨oc_right, od_right, .func (PySem.W.fnOf "_law_right" "_law_right" (defArgs s_right) (defBody s_right) (defScope s_right) .none kV_right dc_right pm_right an_right cd_right ct_right), sl_right⟩)
    (e_right : PySem.W.codeIn K cd_right "_law_right" = true)
    (p_right : PySem.W.keepIn K (.ref f_right) = true)
    (a_round : PySem.W.nsIn K mainGlobals "_law_round" = some (some (.ref f_round)))
    (l_round : K.lookup f_round = some ⟨oc_round, od_round, .func (PySem.W.fnOf "_law_round" "_law_round" (defArgs s_round) (defBody s_round) (defScope s_round) .none kV_round dc_round pm_round an_round cd_round ct_round), sl_round⟩)
    (e_round : PySem.W.codeIn K cd_round "_law_round" = true)
    (p_round : PySem.W.keepIn K (.ref f_round) = true)
    (a_law : PySem.W.nsIn K mainGlobals "law" = some (some (.ref f_law)))
    (l_law : K.lookup f_law = some ⟨oc_law, od_law, .func (PySem.W.fnOf "law" "law" (defArgs s_law) (defBody s_law) (defScope s_law) .none kV_law dc_law pm_law an_law cd_law ct_law), sl_law⟩)
    (e_law : PySem.W.codeIn K cd_law "law" = true)
    (p_law : PySem.W.keepIn K (.ref f_law) = true)
    (k_LETTERS : PySem.W.nsIn K mainGlobals "LETTERS" = some (some (.str "abcdefghijklmnopqrstuvwxyz" t_LETTERS)))
    (k_LONGEST_NAME : PySem.W.nsIn K mainGlobals "LONGEST_NAME" = some (some (.int 8 t_LONGEST_NAME)))
    (k_ACCESS_WORDS : PySem.W.nsIn K mainGlobals "ACCESS_WORDS" = some (some (.ref t_ACCESS_WORDS)))
    (lk_ACCESS_WORDS : K.lookup t_ACCESS_WORDS = some o_ACCESS_WORDS) (oc_ACCESS_WORDS : o_ACCESS_WORDS.cls = .type "tuple") (od_ACCESS_WORDS : o_ACCESS_WORDS.data = .seq its_ACCESS_WORDS n_ACCESS_WORDS) (oz_ACCESS_WORDS : its_ACCESS_WORDS.size ≤ sizeLine) (ov_ACCESS_WORDS : Vals [V.str "read", V.str "write", V.str "get", V.str "put"] its_ACCESS_WORDS.toList)
    (k_UPKEEP_WORDS : PySem.W.nsIn K mainGlobals "UPKEEP_WORDS" = some (some (.ref t_UPKEEP_WORDS)))
    (lk_UPKEEP_WORDS : K.lookup t_UPKEEP_WORDS = some o_UPKEEP_WORDS) (oc_UPKEEP_WORDS : o_UPKEEP_WORDS.cls = .type "tuple") (od_UPKEEP_WORDS : o_UPKEEP_WORDS.data = .seq its_UPKEEP_WORDS n_UPKEEP_WORDS) (oz_UPKEEP_WORDS : its_UPKEEP_WORDS.size ≤ sizeLine) (ov_UPKEEP_WORDS : Vals [V.str "clean", V.str "drop", V.str "flush"] its_UPKEEP_WORDS.toList)
    (k_SIGNAL_WORDS : PySem.W.nsIn K mainGlobals "SIGNAL_WORDS" = some (some (.ref t_SIGNAL_WORDS)))
    (lk_SIGNAL_WORDS : K.lookup t_SIGNAL_WORDS = some o_SIGNAL_WORDS) (oc_SIGNAL_WORDS : o_SIGNAL_WORDS.cls = .type "tuple") (od_SIGNAL_WORDS : o_SIGNAL_WORDS.data = .seq its_SIGNAL_WORDS n_SIGNAL_WORDS) (oz_SIGNAL_WORDS : its_SIGNAL_WORDS.size ≤ sizeLine) (ov_SIGNAL_WORDS : Vals [V.str "post", V.str "wait"] its_SIGNAL_WORDS.toList)
    (k_PLAIN_WORDS : PySem.W.nsIn K mainGlobals "PLAIN_WORDS" = some (some (.ref t_PLAIN_WORDS)))
    (lk_PLAIN_WORDS : K.lookup t_PLAIN_WORDS = some o_PLAIN_WORDS) (oc_PLAIN_WORDS : o_PLAIN_WORDS.cls = .type "tuple") (od_PLAIN_WORDS : o_PLAIN_WORDS.data = .seq its_PLAIN_WORDS n_PLAIN_WORDS) (oz_PLAIN_WORDS : its_PLAIN_WORDS.size ≤ sizeLine) (ov_PLAIN_WORDS : Vals [V.str "read", V.str "write", V.str "post", V.str "wait"] its_PLAIN_WORDS.toList)
    (k_CACHE_WORDS : PySem.W.nsIn K mainGlobals "CACHE_WORDS" = some (some (.ref t_CACHE_WORDS)))
    (lk_CACHE_WORDS : K.lookup t_CACHE_WORDS = some o_CACHE_WORDS) (oc_CACHE_WORDS : o_CACHE_WORDS.cls = .type "tuple") (od_CACHE_WORDS : o_CACHE_WORDS.data = .seq its_CACHE_WORDS n_CACHE_WORDS) (oz_CACHE_WORDS : its_CACHE_WORDS.size ≤ sizeLine) (ov_CACHE_WORDS : Vals [V.str "read", V.str "write", V.str "get", V.str "put", V.str "clean", V.str "drop", V.str "flush", V.str "post", V.str "wait"] its_CACHE_WORDS.toList)
    (k_GREATEST_SHIFT : PySem.W.nsIn K mainGlobals "GREATEST_SHIFT" = some (some (.int 3 t_GREATEST_SHIFT)))
    (k_GREATEST_BYTE : PySem.W.nsIn K mainGlobals "GREATEST_BYTE" = some (some (.int 7 t_GREATEST_BYTE)))
    (k_MOST_STEPS : PySem.W.nsIn K mainGlobals "MOST_STEPS" = some (some (.int 24 t_MOST_STEPS))) :
    ∃ A : Adr, Txt K mg A :=
  ⟨{ a_NoPart_init := f_NoPart_init,
     d_NoPart_init := PySem.W.fnOf "__init__" "NoPart.__init__" (defArgs s_NoPart_init) (defBody s_NoPart_init) (defScope s_NoPart_init) .none kV_NoPart_init dc_NoPart_init pm_NoPart_init an_NoPart_init cd_NoPart_init ct_NoPart_init,
     a_is_integer := f_is_integer,
     d_is_integer := PySem.W.fnOf "is_integer" "is_integer" (defArgs s_is_integer) (defBody s_is_integer) (defScope s_is_integer) .none kV_is_integer dc_is_integer pm_is_integer an_is_integer cd_is_integer ct_is_integer,
     a_is_within := f_is_within,
     d_is_within := PySem.W.fnOf "is_within" "is_within" (defArgs s_is_within) (defBody s_is_within) (defScope s_is_within) .none kV_is_within dc_is_within pm_is_within an_is_within cd_is_within ct_is_within,
     a_is_name := f_is_name,
     d_is_name := PySem.W.fnOf "is_name" "is_name" (defArgs s_is_name) (defBody s_is_name) (defScope s_is_name) .none kV_is_name dc_is_name pm_is_name an_is_name cd_is_name ct_is_name,
     a_is_step := f_is_step,
     d_is_step := PySem.W.fnOf "is_step" "is_step" (defArgs s_is_step) (defBody s_is_step) (defScope s_is_step) .none kV_is_step dc_is_step pm_is_step an_is_step cd_is_step ct_is_step,
     a_is_memory_step := f_is_memory_step,
     d_is_memory_step := PySem.W.fnOf "_is_memory_step" "_is_memory_step" (defArgs s_is_memory_step) (defBody s_is_memory_step) (defScope s_is_memory_step) .none kV_is_memory_step dc_is_memory_step pm_is_memory_step an_is_memory_step cd_is_memory_step ct_is_memory_step,
     a_check_agent := f_check_agent,
     d_check_agent := PySem.W.fnOf "_check_agent" "_check_agent" (defArgs s_check_agent) (defBody s_check_agent) (defScope s_check_agent) .none kV_check_agent dc_check_agent pm_check_agent an_check_agent cd_check_agent ct_check_agent,
     a_Agent_init := f_Agent_init,
     d_Agent_init := PySem.W.fnOf "__init__" "Agent.__init__" (defArgs s_Agent_init) (defBody s_Agent_init) (defScope s_Agent_init) .none kV_Agent_init dc_Agent_init pm_Agent_init an_Agent_init cd_Agent_init ct_Agent_init,
     a_Agent_made := f_Agent_made,
     d_Agent_made := PySem.W.fnOf "made" "Agent.made" (defArgs s_Agent_made) (defBody s_Agent_made) (defScope s_Agent_made) .none kV_Agent_made dc_Agent_made pm_Agent_made an_Agent_made cd_Agent_made ct_Agent_made,
     a_Agent_with_steps := f_Agent_with_steps,
     d_Agent_with_steps := PySem.W.fnOf "with_steps" "Agent.with_steps" (defArgs s_Agent_with_steps) (defBody s_Agent_with_steps) (defScope s_Agent_with_steps) .none kV_Agent_with_steps dc_Agent_with_steps pm_Agent_with_steps an_Agent_with_steps cd_Agent_with_steps ct_Agent_with_steps,
     a_Through_init := f_Through_init,
     d_Through_init := PySem.W.fnOf "__init__" "Through.__init__" (defArgs s_Through_init) (defBody s_Through_init) (defScope s_Through_init) .none kV_Through_init dc_Through_init pm_Through_init an_Through_init cd_Through_init ct_Through_init,
     a_Through_made := f_Through_made,
     d_Through_made := PySem.W.fnOf "made" "Through.made" (defArgs s_Through_made) (defBody s_Through_made) (defScope s_Through_made) .none kV_Through_made dc_Through_made pm_Through_made an_Through_made cd_Through_made ct_Through_made,
     a_Through_with_steps := f_Through_with_steps,
     d_Through_with_steps := PySem.W.fnOf "with_steps" "Through.with_steps" (defArgs s_Through_with_steps) (defBody s_Through_with_steps) (defScope s_Through_with_steps) .none kV_Through_with_steps dc_Through_with_steps pm_Through_with_steps an_Through_with_steps cd_Through_with_steps ct_Through_with_steps,
     a_Back_init := f_Back_init,
     d_Back_init := PySem.W.fnOf "__init__" "Back.__init__" (defArgs s_Back_init) (defBody s_Back_init) (defScope s_Back_init) .none kV_Back_init dc_Back_init pm_Back_init an_Back_init cd_Back_init ct_Back_init,
     a_Back_made := f_Back_made,
     d_Back_made := PySem.W.fnOf "made" "Back.made" (defArgs s_Back_made) (defBody s_Back_made) (defScope s_Back_made) .none kV_Back_made dc_Back_made pm_Back_made an_Back_made cd_Back_made ct_Back_made,
     a_Back_with_steps := f_Back_with_steps,
     d_Back_with_steps := PySem.W.fnOf "with_steps" "Back.with_steps" (defArgs s_Back_with_steps) (defBody s_Back_with_steps) (defScope s_Back_with_steps) .none kV_Back_with_steps dc_Back_with_steps pm_Back_with_steps an_Back_with_steps cd_Back_with_steps ct_Back_with_steps,
     a_pen := f_pen,
     d_pen := PySem.W.fnOf "_law_pen" "_law_pen" (defArgs s_pen) (defBody s_pen) (defScope s_pen) .none kV_pen dc_pen pm_pen an_pen cd_pen ct_pen,
     a_draw := f_draw,
     d_draw := PySem.W.fnOf "_law_draw" "_law_draw" (defArgs s_draw) (defBody s_draw) (defScope s_draw) .none kV_draw dc_draw pm_draw an_draw cd_draw ct_draw,
     a_thing := f_thing,
     d_thing := PySem.W.fnOf "_law_thing" "_law_thing" (defArgs s_thing) (defBody s_thing) (defScope s_thing) .none kV_thing dc_thing pm_thing an_thing cd_thing ct_thing,
     a_law_is_name := f_law_is_name,
     d_law_is_name := PySem.W.fnOf "_law_is_name" "_law_is_name" (defArgs s_law_is_name) (defBody s_law_is_name) (defScope s_law_is_name) .none kV_law_is_name dc_law_is_name pm_law_is_name an_law_is_name cd_law_is_name ct_law_is_name,
     a_within := f_within,
     d_within := PySem.W.fnOf "_law_within" "_law_within" (defArgs s_within) (defBody s_within) (defScope s_within) .none kV_within dc_within pm_within an_within cd_within ct_within,
     a_refusal := f_refusal,
     d_refusal := PySem.W.fnOf "_law_refusal" "_law_refusal" (defArgs s_refusal) (defBody s_refusal) (defScope s_refusal) .none kV_refusal dc_refusal pm_refusal an_refusal cd_refusal ct_refusal,
     a_good_step := f_good_step,
     d_good_step := PySem.W.fnOf "_law_good_step" "_law_good_step" (defArgs s_good_step) (defBody s_good_step) (defScope s_good_step) .none kV_good_step dc_good_step pm_good_step an_good_step cd_good_step ct_good_step,
     a_bent_step := f_bent_step,
     d_bent_step := PySem.W.fnOf "_law_bent_step" "_law_bent_step" (defArgs s_bent_step) (defBody s_bent_step) (defScope s_bent_step) .none kV_bent_step dc_bent_step pm_bent_step an_bent_step cd_bent_step ct_bent_step,
     a_law_is_step := f_law_is_step,
     d_law_is_step := PySem.W.fnOf "_law_is_step" "_law_is_step" (defArgs s_law_is_step) (defBody s_law_is_step) (defScope s_law_is_step) .none kV_law_is_step dc_law_is_step pm_law_is_step an_law_is_step cd_law_is_step ct_law_is_step,
     a_direct := f_direct,
     d_direct := PySem.W.fnOf "_law_direct" "_law_direct" (defArgs s_direct) (defBody s_direct) (defScope s_direct) .none kV_direct dc_direct pm_direct an_direct cd_direct ct_direct,
     a_made := f_made,
     d_made := PySem.W.fnOf "_law_made" "_law_made" (defArgs s_made) (defBody s_made) (defScope s_made) .none kV_made dc_made pm_made an_made cd_made ct_made,
     a_asked := f_asked,
     d_asked := PySem.W.fnOf "_law_asked" "_law_asked" (defArgs s_asked) (defBody s_asked) (defScope s_asked) .none kV_asked dc_asked pm_asked an_asked cd_asked ct_asked,
     a_again := f_again,
     d_again := PySem.W.fnOf "_law_again" "_law_again" (defArgs s_again) (defBody s_again) (defScope s_again) .none kV_again dc_again pm_again an_again cd_again ct_again,
     a_no_steps := f_no_steps,
     d_no_steps := PySem.W.fnOf "_law_no_steps" "_law_no_steps" (defArgs s_no_steps) (defBody s_no_steps) (defScope s_no_steps) .none kV_no_steps dc_no_steps pm_no_steps an_no_steps cd_no_steps ct_no_steps,
     a_right := f_right,
     d_right := PySem.W.fnOf "_law_right" "_law_right" (defArgs s_right) (defBody s_right) (defScope s_right) .none kV_right dc_right pm_right an_right cd_right ct_right,
     a_round := f_round,
     d_round := PySem.W.fnOf "_law_round" "_law_round" (defArgs s_round) (defBody s_round) (defScope s_round) .none kV_round dc_round pm_round an_round cd_round ct_round,
     a_law := f_law,
     d_law := PySem.W.fnOf "law" "law" (defArgs s_law) (defBody s_law) (defScope s_law) .none kV_law dc_law pm_law an_law cd_law ct_law,
     c_UnkeptError := c_UnkeptError,
     c_NoPart := c_NoPart,
     c_NoNet := c_NoNet,
     c_NoName := c_NoName,
     c_NoStep := c_NoStep,
     c_NoDeed := c_NoDeed,
     c_NoText := c_NoText,
     c_NoRow := c_NoRow,
     c_Agent := c_Agent,
     c_Through := c_Through,
     c_Back := c_Back,
     t_LETTERS := t_LETTERS,
     t_LONGEST_NAME := t_LONGEST_NAME,
     t_ACCESS_WORDS := t_ACCESS_WORDS,
     t_UPKEEP_WORDS := t_UPKEEP_WORDS,
     t_SIGNAL_WORDS := t_SIGNAL_WORDS,
     t_PLAIN_WORDS := t_PLAIN_WORDS,
     t_CACHE_WORDS := t_CACHE_WORDS,
     t_GREATEST_SHIFT := t_GREATEST_SHIFT,
     t_GREATEST_BYTE := t_GREATEST_BYTE,
     t_MOST_STEPS := t_MOST_STEPS },
   { n_list := PySem.W.mg_none_of X G n_list,
     n_int := PySem.W.mg_none_of X G n_int,
     n_len := PySem.W.mg_none_of X G n_len,
     n_abs := PySem.W.mg_none_of X G n_abs,
     n_isinstance := PySem.W.mg_none_of X G n_isinstance,
     n_str := PySem.W.mg_none_of X G n_str,
     n_bool := PySem.W.mg_none_of X G n_bool,
     n_tuple := PySem.W.mg_none_of X G n_tuple,
     n_all := PySem.W.mg_none_of X G n_all,
     n_enumerate := PySem.W.mg_none_of X G n_enumerate,
     n_range := PySem.W.mg_none_of X G n_range,
     n_ValueError := PySem.W.mg_none_of X G n_ValueError,
     F_NoPart_init := fun_mk (st := s_NoPart_init) l_NoPart_init e_NoPart_init p_NoPart_init,
     b_NoPart_init := (fun_mk (st := s_NoPart_init) l_NoPart_init e_NoPart_init p_NoPart_init).binds (ps := ["self", "reason", "place"]) fun _ _ _ _ _ _ us hl => match us, hl with | [_, _, _], _ => rfl,
     F_is_integer := fun_mk (st := s_is_integer) l_is_integer e_is_integer p_is_integer,
     g_is_integer := PySem.W.mg_of X G a_is_integer,
     b_is_integer := (fun_mk (st := s_is_integer) l_is_integer e_is_integer p_is_integer).binds (ps := ["value"]) fun _ _ _ _ _ _ us hl => match us, hl with | [_], _ => rfl,
     F_is_within := fun_mk (st := s_is_within) l_is_within e_is_within p_is_within,
     g_is_within := PySem.W.mg_of X G a_is_within,
     b_is_within := (fun_mk (st := s_is_within) l_is_within e_is_within p_is_within).binds (ps := ["value", "low", "high"]) fun _ _ _ _ _ _ us hl => match us, hl with | [_, _, _], _ => rfl,
     F_is_name := fun_mk (st := s_is_name) l_is_name e_is_name p_is_name,
     g_is_name := PySem.W.mg_of X G a_is_name,
     b_is_name := (fun_mk (st := s_is_name) l_is_name e_is_name p_is_name).binds (ps := ["value"]) fun _ _ _ _ _ _ us hl => match us, hl with | [_], _ => rfl,
     F_is_step := fun_mk (st := s_is_step) l_is_step e_is_step p_is_step,
     g_is_step := PySem.W.mg_of X G a_is_step,
     b_is_step := (fun_mk (st := s_is_step) l_is_step e_is_step p_is_step).binds (ps := ["value"]) fun _ _ _ _ _ _ us hl => match us, hl with | [_], _ => rfl,
     F_is_memory_step := fun_mk (st := s_is_memory_step) l_is_memory_step e_is_memory_step p_is_memory_step,
     g_is_memory_step := PySem.W.mg_of X G a_is_memory_step,
     b_is_memory_step := (fun_mk (st := s_is_memory_step) l_is_memory_step e_is_memory_step p_is_memory_step).binds (ps := ["value"]) fun _ _ _ _ _ _ us hl => match us, hl with | [_], _ => rfl,
     F_check_agent := fun_mk (st := s_check_agent) l_check_agent e_check_agent p_check_agent,
     g_check_agent := PySem.W.mg_of X G a_check_agent,
     b_check_agent := (fun_mk (st := s_check_agent) l_check_agent e_check_agent p_check_agent).binds (ps := ["name", "steps", "words"]) fun _ _ _ _ _ _ us hl => match us, hl with | [_, _, _], _ => rfl,
     F_Agent_init := fun_mk (st := s_Agent_init) l_Agent_init e_Agent_init p_Agent_init,
     cm_Agent_made := ⟨cm_Agent_made, a_Agent_made, ⟨_, i_Agent_made⟩, j_Agent_made⟩,
     F_Agent_made := fun_mk (st := s_Agent_made) l_Agent_made e_Agent_made p_Agent_made,
     b_Agent_made := (fun_mk (st := s_Agent_made) l_Agent_made e_Agent_made p_Agent_made).binds (ps := ["cls", "name", "steps"]) fun _ _ _ _ _ _ us hl => match us, hl with | [_, _, _], _ => rfl,
     F_Agent_with_steps := fun_mk (st := s_Agent_with_steps) l_Agent_with_steps e_Agent_with_steps p_Agent_with_steps,
     F_Through_init := fun_mk (st := s_Through_init) l_Through_init e_Through_init p_Through_init,
     cm_Through_made := ⟨cm_Through_made, a_Through_made, ⟨_, i_Through_made⟩, j_Through_made⟩,
     F_Through_made := fun_mk (st := s_Through_made) l_Through_made e_Through_made p_Through_made,
     b_Through_made := (fun_mk (st := s_Through_made) l_Through_made e_Through_made p_Through_made).binds (ps := ["cls", "name", "steps"]) fun _ _ _ _ _ _ us hl => match us, hl with | [_, _, _], _ => rfl,
     F_Through_with_steps := fun_mk (st := s_Through_with_steps) l_Through_with_steps e_Through_with_steps p_Through_with_steps,
     F_Back_init := fun_mk (st := s_Back_init) l_Back_init e_Back_init p_Back_init,
     cm_Back_made := ⟨cm_Back_made, a_Back_made, ⟨_, i_Back_made⟩, j_Back_made⟩,
     F_Back_made := fun_mk (st := s_Back_made) l_Back_made e_Back_made p_Back_made,
     b_Back_made := (fun_mk (st := s_Back_made) l_Back_made e_Back_made p_Back_made).binds (ps := ["cls", "name", "steps"]) fun _ _ _ _ _ _ us hl => match us, hl with | [_, _, _], _ => rfl,
     F_Back_with_steps := fun_mk (st := s_Back_with_steps) l_Back_with_steps e_Back_with_steps p_Back_with_steps,
     F_pen := fun_mk (st := s_pen) l_pen e_pen p_pen,
     g_pen := PySem.W.mg_of X G a_pen,
     b_pen := (fun_mk (st := s_pen) l_pen e_pen p_pen).binds (ps := ["_law_script"]) fun _ _ _ _ _ _ us hl => match us, hl with | [_], _ => rfl,
     F_draw := fun_mk (st := s_draw) l_draw e_draw p_draw,
     g_draw := PySem.W.mg_of X G a_draw,
     b_draw := (fun_mk (st := s_draw) l_draw e_draw p_draw).binds (ps := ["_law_pen_here", "_law_many"]) fun _ _ _ _ _ _ us hl => match us, hl with | [_, _], _ => rfl,
     F_thing := fun_mk (st := s_thing) l_thing e_thing p_thing,
     g_thing := PySem.W.mg_of X G a_thing,
     b_thing := (fun_mk (st := s_thing) l_thing e_thing p_thing).binds (ps := ["_law_pen_here"]) fun _ _ _ _ _ _ us hl => match us, hl with | [_], _ => rfl,
     F_law_is_name := fun_mk (st := s_law_is_name) l_law_is_name e_law_is_name p_law_is_name,
     g_law_is_name := PySem.W.mg_of X G a_law_is_name,
     b_law_is_name := (fun_mk (st := s_law_is_name) l_law_is_name e_law_is_name p_law_is_name).binds (ps := ["_law_value"]) fun _ _ _ _ _ _ us hl => match us, hl with | [_], _ => rfl,
     F_within := fun_mk (st := s_within) l_within e_within p_within,
     g_within := PySem.W.mg_of X G a_within,
     b_within := (fun_mk (st := s_within) l_within e_within p_within).binds (ps := ["_law_value", "_law_least", "_law_greatest"]) fun _ _ _ _ _ _ us hl => match us, hl with | [_, _, _], _ => rfl,
     F_refusal := fun_mk (st := s_refusal) l_refusal e_refusal p_refusal,
     g_refusal := PySem.W.mg_of X G a_refusal,
     b_refusal := (fun_mk (st := s_refusal) l_refusal e_refusal p_refusal).binds (ps := ["_law_caught", "_law_reason", "_law_spot"]) fun _ _ _ _ _ _ us hl => match us, hl with | [_, _, _], _ => rfl,
     F_good_step := fun_mk (st := s_good_step) l_good_step e_good_step p_good_step,
     g_good_step := PySem.W.mg_of X G a_good_step,
     b_good_step := (fun_mk (st := s_good_step) l_good_step e_good_step p_good_step).binds (ps := ["_law_pen_here", "_law_kind"]) fun _ _ _ _ _ _ us hl => match us, hl with | [_, _], _ => rfl,
     F_bent_step := fun_mk (st := s_bent_step) l_bent_step e_bent_step p_bent_step,
     g_bent_step := PySem.W.mg_of X G a_bent_step,
     b_bent_step := (fun_mk (st := s_bent_step) l_bent_step e_bent_step p_bent_step).binds (ps := ["_law_pen_here", "_law_kind"]) fun _ _ _ _ _ _ us hl => match us, hl with | [_, _], _ => rfl,
     F_law_is_step := fun_mk (st := s_law_is_step) l_law_is_step e_law_is_step p_law_is_step,
     g_law_is_step := PySem.W.mg_of X G a_law_is_step,
     b_law_is_step := (fun_mk (st := s_law_is_step) l_law_is_step e_law_is_step p_law_is_step).binds (ps := ["_law_value", "_law_kind"]) fun _ _ _ _ _ _ us hl => match us, hl with | [_, _], _ => rfl,
     F_direct := fun_mk (st := s_direct) l_direct e_direct p_direct,
     g_direct := PySem.W.mg_of X G a_direct,
     b_direct := (fun_mk (st := s_direct) l_direct e_direct p_direct).binds (ps := ["_law_kind", "_law_called", "_law_handed"]) fun _ _ _ _ _ _ us hl => match us, hl with | [_, _, _], _ => rfl,
     F_made := fun_mk (st := s_made) l_made e_made p_made,
     g_made := PySem.W.mg_of X G a_made,
     b_made := (fun_mk (st := s_made) l_made e_made p_made).binds (ps := ["_law_kind", "_law_called", "_law_handed"]) fun _ _ _ _ _ _ us hl => match us, hl with | [_, _, _], _ => rfl,
     F_asked := fun_mk (st := s_asked) l_asked e_asked p_asked,
     g_asked := PySem.W.mg_of X G a_asked,
     b_asked := (fun_mk (st := s_asked) l_asked e_asked p_asked).binds (ps := ["_law_kind", "_law_called", "_law_handed", "_law_direct_here"]) fun _ _ _ _ _ _ us hl => match us, hl with | [_, _, _, _], _ => rfl,
     F_again := fun_mk (st := s_again) l_again e_again p_again,
     g_again := PySem.W.mg_of X G a_again,
     b_again := (fun_mk (st := s_again) l_again e_again p_again).binds (ps := ["_law_kind", "_law_handed"]) fun _ _ _ _ _ _ us hl => match us, hl with | [_, _], _ => rfl,
     F_no_steps := fun_mk (st := s_no_steps) l_no_steps e_no_steps p_no_steps,
     g_no_steps := PySem.W.mg_of X G a_no_steps,
     b_no_steps := (fun_mk (st := s_no_steps) l_no_steps e_no_steps p_no_steps).binds (ps := ["_law_kind"]) fun _ _ _ _ _ _ us hl => match us, hl with | [_], _ => rfl,
     F_right := fun_mk (st := s_right) l_right e_right p_right,
     g_right := PySem.W.mg_of X G a_right,
     b_right := (fun_mk (st := s_right) l_right e_right p_right).binds (ps := ["_law_found", "_law_kind", "_law_called", "_law_handed"]) fun _ _ _ _ _ _ us hl => match us, hl with | [_, _, _, _], _ => rfl,
     F_round := fun_mk (st := s_round) l_round e_round p_round,
     g_round := PySem.W.mg_of X G a_round,
     b_round := (fun_mk (st := s_round) l_round e_round p_round).binds (ps := ["_law_pen_here"]) fun _ _ _ _ _ _ us hl => match us, hl with | [_], _ => rfl,
     F_law := fun_mk (st := s_law) l_law e_law p_law,
     g_law := PySem.W.mg_of X G a_law,
     b_law := (fun_mk (st := s_law) l_law e_law p_law).binds (ps := ["_law_script"]) fun _ _ _ _ _ _ us hl => match us, hl with | [_], _ => rfl,
     g_UnkeptError := PySem.W.mg_of X G a_UnkeptError,
     g_NoPart := PySem.W.mg_of X G a_NoPart,
     g_NoNet := PySem.W.mg_of X G a_NoNet,
     g_NoName := PySem.W.mg_of X G a_NoName,
     g_NoStep := PySem.W.mg_of X G a_NoStep,
     g_NoDeed := PySem.W.mg_of X G a_NoDeed,
     g_NoText := PySem.W.mg_of X G a_NoText,
     g_NoRow := PySem.W.mg_of X G a_NoRow,
     g_Agent := PySem.W.mg_of X G a_Agent,
     cl_Agent := ⟨pg_Agent, hd_Agent, po_Agent, sa_Agent⟩,
     na_Agent_name := na_Agent_name,
     na_Agent_steps := na_Agent_steps,
     mk_Agent := ⟨mk_Agent, a_Agent_init, i_Agent_init, kc_Agent⟩,
     me_Agent_with_steps := ⟨a_Agent_with_steps, i_Agent_with_steps, p_Agent_with_steps⟩,
     g_Through := PySem.W.mg_of X G a_Through,
     cl_Through := ⟨pg_Through, hd_Through, po_Through, sa_Through⟩,
     na_Through_name := na_Through_name,
     na_Through_steps := na_Through_steps,
     mk_Through := ⟨mk_Through, a_Through_init, i_Through_init, kc_Through⟩,
     me_Through_with_steps := ⟨a_Through_with_steps, i_Through_with_steps, p_Through_with_steps⟩,
     g_Back := PySem.W.mg_of X G a_Back,
     cl_Back := ⟨pg_Back, hd_Back, po_Back, sa_Back⟩,
     na_Back_name := na_Back_name,
     na_Back_steps := na_Back_steps,
     mk_Back := ⟨mk_Back, a_Back_init, i_Back_init, kc_Back⟩,
     me_Back_with_steps := ⟨a_Back_with_steps, i_Back_with_steps, p_Back_with_steps⟩,
     k_LETTERS := PySem.W.mg_of X G k_LETTERS,
     k_LONGEST_NAME := PySem.W.mg_of X G k_LONGEST_NAME,
     k_ACCESS_WORDS := PySem.W.mg_of X G k_ACCESS_WORDS,
     q_ACCESS_WORDS := fun _ => .inr ⟨o_ACCESS_WORDS, its_ACCESS_WORDS, n_ACCESS_WORDS, lk_ACCESS_WORDS, oc_ACCESS_WORDS, od_ACCESS_WORDS, oz_ACCESS_WORDS, ov_ACCESS_WORDS⟩,
     k_UPKEEP_WORDS := PySem.W.mg_of X G k_UPKEEP_WORDS,
     q_UPKEEP_WORDS := fun _ => .inr ⟨o_UPKEEP_WORDS, its_UPKEEP_WORDS, n_UPKEEP_WORDS, lk_UPKEEP_WORDS, oc_UPKEEP_WORDS, od_UPKEEP_WORDS, oz_UPKEEP_WORDS, ov_UPKEEP_WORDS⟩,
     k_SIGNAL_WORDS := PySem.W.mg_of X G k_SIGNAL_WORDS,
     q_SIGNAL_WORDS := fun _ => .inr ⟨o_SIGNAL_WORDS, its_SIGNAL_WORDS, n_SIGNAL_WORDS, lk_SIGNAL_WORDS, oc_SIGNAL_WORDS, od_SIGNAL_WORDS, oz_SIGNAL_WORDS, ov_SIGNAL_WORDS⟩,
     k_PLAIN_WORDS := PySem.W.mg_of X G k_PLAIN_WORDS,
     q_PLAIN_WORDS := fun _ => .inr ⟨o_PLAIN_WORDS, its_PLAIN_WORDS, n_PLAIN_WORDS, lk_PLAIN_WORDS, oc_PLAIN_WORDS, od_PLAIN_WORDS, oz_PLAIN_WORDS, ov_PLAIN_WORDS⟩,
     k_CACHE_WORDS := PySem.W.mg_of X G k_CACHE_WORDS,
     q_CACHE_WORDS := fun _ => .inr ⟨o_CACHE_WORDS, its_CACHE_WORDS, n_CACHE_WORDS, lk_CACHE_WORDS, oc_CACHE_WORDS, od_CACHE_WORDS, oz_CACHE_WORDS, ov_CACHE_WORDS⟩,
     k_GREATEST_SHIFT := PySem.W.mg_of X G k_GREATEST_SHIFT,
     k_GREATEST_BYTE := PySem.W.mg_of X G k_GREATEST_BYTE,
     k_MOST_STEPS := PySem.W.mg_of X G k_MOST_STEPS,
     ox_NoPart := ⟨⟨_, _, _, _, _, _, _, _, _, _, _, _, _, _, _, xl_NoPart, xb_NoPart⟩, sa_NoPart, ec_NoPart, ty_NoPart, ke_NoPart⟩,
     xf_NoPart := ⟨ga_NoPart, gn_NoPart, ec_NoPart, hd_NoPart⟩,
     xc_NoPart := ⟨ga_NoPart, gn_NoPart, ec_NoPart, hd_NoPart, ci_NoPart, gg, tk, mo_NoPart⟩,
     ie_NoPart := a_NoPart_init,
     it_NoPart := beq_iff_eq.mp i_NoPart_init,
     nf_NoPart_reason := nf_NoPart_reason,
     nf_NoPart_place := nf_NoPart_place,
     em_NoPart := PySem.W.exm_ref ec_UnkeptError hd_UnkeptError ty_UnkeptError su_NoPart,
     ki_NoPart_NoPart := Lay.kit_own mo_NoPart ty_NoPart ss_NoPart ss_NoPart,
     ki_NoPart_NoNet := Lay.kit_own mo_NoNet ty_NoNet ss_NoNet sb_NoPart_NoNet,
     ki_NoPart_NoName := Lay.kit_own mo_NoName ty_NoName ss_NoName sb_NoPart_NoName,
     ki_NoPart_NoStep := Lay.kit_own mo_NoStep ty_NoStep ss_NoStep sb_NoPart_NoStep,
     ki_NoPart_NoDeed := Lay.kit_own mo_NoDeed ty_NoDeed ss_NoDeed sb_NoPart_NoDeed,
     ki_NoPart_NoText := Lay.kit_own mo_NoText ty_NoText ss_NoText sb_NoPart_NoText,
     ki_NoPart_NoRow := Lay.kit_own mo_NoRow ty_NoRow ss_NoRow sb_NoPart_NoRow,
     kt_NoPart_ValueError := Lay.kit_ownB st_NoPart_ValueError,
     ki_Agent_Agent := Lay.kit_own mo_Agent ty_Agent ss_Agent ss_Agent,
     in_Agent := fun H a dx fs h => .base (.ins h ⟨pg_Agent, hd_Agent, po_Agent, sa_Agent⟩ ci_Agent gg tk mo_Agent),
     co_Agent := ⟨_, co_Agent, ⟨_, rfl⟩, cg_Agent, by decide⟩,
     cr_Agent := ⟨rd_Agent, gc_Agent⟩,
     ki_Through_Agent := Lay.kit_own mo_Agent ty_Agent ss_Agent sb_Through_Agent,
     in_Through := fun H a dx fs h => .base (.ins h ⟨pg_Through, hd_Through, po_Through, sa_Through⟩ ci_Through gg tk mo_Through),
     co_Through := ⟨_, co_Through, ⟨_, rfl⟩, cg_Through, by decide⟩,
     cr_Through := ⟨rd_Through, gc_Through⟩,
     ki_Back_Agent := Lay.kit_own mo_Agent ty_Agent ss_Agent sb_Back_Agent,
     in_Back := fun H a dx fs h => .base (.ins h ⟨pg_Back, hd_Back, po_Back, sa_Back⟩ ci_Back gg tk mo_Back),
     co_Back := ⟨_, co_Back, ⟨_, rfl⟩, cg_Back, by decide⟩,
     cr_Back := ⟨rd_Back, gc_Back⟩ }⟩
end My

namespace My
open PySem L2
section
variable {P : Program} {w : World} {K : PySem.W.Frag} {mg : Str → Option Value} {base : Heap} {A : Adr}
theorem ok_NoPart_init (T : Txt K mg A) : FnOk P w K mg base CX0 1 A.a_NoPart_init A.d_NoPart_init ["self", "reason", "place"] (Lay.spErr2 A.c_NoPart "reason" "place") := by
  refine T.F_NoPart_init.ok sc_NoPart_init (fun vs H Q E h => ?_) (fun cdv A0 outer s H vs Q E hr h => ?_)
  · obtain ⟨a, v1, v2, rfl, _⟩ := h
    rfl
  · obtain ⟨a, v1, v2, rfl, ha, q⟩ := h
    refine ⟨_, (pss_cons (ps_ost (pv 0) (pv 1))
    (pss_one (ps_ost (pv 0) (pv 2)))), ?_⟩
    walk_at "in"
    walk_at "rd"
    refine Lay.rd_ost ?_
    walk_at "rd"
    refine ⟨a, A.c_NoPart, rfl, T.ox_NoPart, T.nf_NoPart_reason, .inl ⟨ha, fun d hd hne => ?_⟩⟩
    walk_at "rd"
    refine Lay.rd_ost ?_
    walk_at "rd"
    refine ⟨a, A.c_NoPart, rfl, T.ox_NoPart, T.nf_NoPart_place, .inr ⟨d, _, upd_same, (by rw [upd_ne hne]; exact upd_same), (by show 1 ≤ 900; decide), ?_⟩⟩
    refine q d _ hd hne (by rw [upd_ne hne.symm]; exact upd_same) upd_same (fun b o hb e => ?_)
    have hbd : b ≠ d := fun z => by subst z; rw [hd] at e; cases e
    rw [upd_ne hbd, upd_ne hb, upd_ne hbd]
    exact e
theorem ok_is_integer (T : Txt K mg A) : FnOk P w K mg base CX0 1 A.a_is_integer A.d_is_integer ["value"] Lay.spIsInteger := by
  refine T.F_is_integer.ok sc_is_integer (fun vs H Q E h => ?_) (fun cdv A0 outer s H vs Q E hr h => ?_)
  · obtain ⟨v, t, rfl, _⟩ := h
    rfl
  · obtain ⟨v, t, rfl, k, q⟩ := h
    refine ⟨_, (pss_one (ps_ret (pe_and (pe_callB call_isi (by rfl) T.n_isinstance (by decide +kernel) (pa_cons (pv 0) (pa_cons (pe_bltn (v := .ty "int") (by rfl) T.n_int (by decide +kernel) rfl) pa_nil))) (pe_one (pe_not (pe_callB call_isi (by rfl) T.n_isinstance (by decide +kernel) (pa_cons (pv 0) (pa_cons (pe_bltn (v := .ty "bool") (by rfl) T.n_bool (by decide +kernel) rfl) pa_nil)))))))), ?_⟩
    walk_at "in"
    cases k
    all_goals
      walk_at "rd"
      refine Lay.rd_isi .int (by first | exact .non | exact .bl _ | exact .int _ | exact .str _ | exact .lst (by assumption) | exact .tup (by assumption) | exact .dK (by assumption)) ?_
      walk_at "rd"
      first
        | exact iteF q
        | (refine iteT ?_
           walk_at "rd"
           refine Lay.rd_isi .bool (by first | exact .bl _ | exact .int _) ?_
           walk_at "rd"
           exact q)
theorem ok_is_within (T : Txt K mg A) (G_is_integer : FnOk P w K mg base CX0 1 A.a_is_integer A.d_is_integer ["value"] Lay.spIsInteger) : FnOk P w K mg base CX0 2 A.a_is_within A.d_is_within ["value", "low", "high"] Lay.spIsWithin := by
  refine T.F_is_within.ok sc_is_within (fun vs H Q E h => ?_) (fun cdv A0 outer s H vs Q E hr h => ?_)
  · obtain ⟨v, t, lo, hi, rfl, _⟩ := h
    rfl
  · obtain ⟨v, t, lo, hi, rfl, k, q⟩ := h
    refine ⟨_, (pss_one (ps_ret (pe_and (pe_call G_is_integer (hr.mono (by decide)) rfl T.g_is_integer T.F_is_integer.kp T.b_is_integer .nil pass0 (pa_cons (pv 0) pa_nil)) (pe_one (pe_chain op_le op_le (pv 1) (pv 0) (pv 2)))))), ?_⟩
    walk_at "in"
    walk_at "rd"
    refine ⟨v, t, rfl, k, ?_⟩
    walk_at "rd"
    cases k with
    | int i =>
      refine iteT ?_
      walk_at "rd"
      refine Lay.ite_d (fun c => ?_) (fun c => ?_)
      · walk_at "rd"
        have e : Lay.within (.int i) lo hi = decide (i ≤ hi) := by show (decide (lo ≤ i) && decide (i ≤ hi)) = _; rw [decide_eq_true c]; rfl
        rw [e] at q
        exact q
      · have e : Lay.within (.int i) lo hi = false := by show (decide (lo ≤ i) && decide (i ≤ hi)) = _; rw [decide_eq_false c]; rfl
        rw [e] at q
        exact q
    | _ => exact iteF q
theorem ok_is_name (T : Txt K mg A) : FnOk P w K mg base CX0 1 A.a_is_name A.d_is_name ["value"] Lay.spIsName := by
  refine T.F_is_name.ok sc_is_name (fun vs H Q E h => ?_) (fun cdv A0 outer s H vs Q E hr h => ?_)
  · obtain ⟨v, t, rfl, _⟩ := h
    rfl
  · obtain ⟨v, t, rfl, k, hz, q⟩ := h
    refine ⟨_, (pss_cons (ps_if (PW.pt (pw_or (pt_not (pt_val (pe_callB call_isi (by rfl) T.n_isinstance (by decide +kernel) (pa_cons (pv 0) (pa_cons (pe_bltn (v := .ty "str") (by rfl) T.n_str (by decide +kernel) rfl) pa_nil))))) (pw_or1 (pt_not (pt_chain op_le op_le pe_int (pe_callB Lay.call_lenStr (by rfl) T.n_len PySem.boot_len (pa_cons (pv 0) pa_nil)) (pe_glob (v := .int 8) rfl T.k_LONGEST_NAME ⟨_, rfl⟩))))))
      (pss_one (ps_ret pe_bl))
      pss_nil)
    (pss_one (ps_ret (pe_callB (cr_all rfl) (by rfl) T.n_all (by decide +kernel) (pa_cons (pe_lc (own := [("sign", 1)]) (g := gName 1) (tt := tYes) rfl sc_is_name.nd (pi_str (pv 0)) (blkOk_by (own := [("sign", 1)]) (N := ["value", "sign"]) (sc := defScope s_is_name) (by decide +kernel)) (fun _ _ _ _ _ => pg_name (i := 1) sc_is_name.nd rfl (Or.inl rfl)) (fun _ _ _ _ _ => pts_nil) (fun _ _ _ _ _ => (pe_cmpR Lay.op_sign (pv 1) (pe_glob (v := .str "abcdefghijklmnopqrstuvwxyz") rfl T.k_LETTERS ⟨_, rfl⟩) rfl))) pa_nil))))), ?_⟩
    walk_at "in"
    by_cases hs : ∃ z, v = .str z
    · obtain ⟨z, rfl⟩ := hs
      have hl := hz z rfl
      walk_at "rd"
      refine Lay.rd_isi .str (.str z) ?_
      walk_at "rd"
      refine iteF ?_
      walk_at "rd"
      refine Lay.rd_lenV hl ?_
      walk_at "rd"
      refine Lay.ite_d (fun c1 => ?_) (fun c1 => ?_)
      · walk_at "rd"
        refine Lay.ite_n (fun c2 => ?_) (fun c2 => ?_)
        · walk_at "rd"
          have e : Lay.isName (.str z) = false := by
            show Lay.nameOk z = false
            unfold Lay.nameOk
            have : ¬ z.length ≤ 8 := by omega
            rw [decide_eq_false this]
            simp
          rw [e] at q
          exact q H (Same.refl H)
        · walk_at "rd"
          intro D hD
          refine Lay.lc_go walk_str (fun i l H' => Same H H' ∧ l = (z.cps.toList.take i).map fun c => V.bl (decide (97 ≤ c) && decide (c ≤ 122))) ⟨Lay.Same.upd hD, rfl⟩ (fun _ _ _ _ _ => trivial) ?_ ?_
          · rintro i l x H1 H2 hi hl hz' ⟨r1, r2⟩ ⟨rfl, c, hc, rfl⟩
            walk_at "rd"
            refine ⟨rfl, ?_⟩
            walk_at "rd"
            refine iteT ?_
            walk_at "rd"
            refine Lay.lc_put hl hz' (by have : z.cps.size = z.length := rfl; omega) ⟨fun b o hb => ?_, ?_⟩
            · by_cases e : b = D
              · rw [e, hD] at hb; cases hb
              · rw [upd_ne e]; exact r1 b o hb
            · have hc' : z.cps.toList[i]? = some c := by simpa using hc
              rw [r2, Lay.take_succ hc', List.map_append, List.map_cons, List.map_nil, ← Lay.in_alphabet c]
              rfl
          · rintro l H1 hl hz' ⟨r1, rfl⟩
            walk_at "rd"
            have el : (z.cps.toList.take z.cps.size).map (fun c => V.bl (decide (97 ≤ c) && decide (c ≤ 122))) = (z.cps.toList.map fun c => decide (97 ≤ c) && decide (c ≤ 122)).map V.bl := by
              rw [List.take_of_length_le (by simp), List.map_map]
              rfl
            rw [el] at hl
            refine Lay.rd_alls (SqL.of hl) ?_
            have e : Lay.isName (.str z) = (z.cps.toList.map fun c => decide (97 ≤ c) && decide (c ≤ 122)).all id := by
              show Lay.nameOk z = _
              unfold Lay.nameOk
              have c1' : 1 ≤ z.length := by omega
              have c2' : z.length ≤ 8 := by omega
              rw [decide_eq_true c1', decide_eq_true c2', List.all_map]
              rfl
            rw [← e]
            exact q H1 r1
      · walk_at "rd"
        refine iteT ?_
        walk_at "rd"
        have e : Lay.isName (.str z) = false := by
          show Lay.nameOk z = false
          unfold Lay.nameOk
          have : ¬ 1 ≤ z.length := by omega
          rw [decide_eq_false this]
          rfl
        rw [e] at q
        exact q H (Same.refl H)
    · have e : Lay.isName v = false := by
        cases v with
        | str z => exact absurd ⟨z, rfl⟩ hs
        | _ => rfl
      rw [e] at q
      have t1 : Lay.isTy t .str = false := by
        cases k with
        | str z => exact absurd ⟨z, rfl⟩ hs
        | _ => rfl
      walk_at "rd"
      refine Lay.rd_isi .str k ?_
      rw [t1]
      walk_at "rd"
      refine iteT ?_
      refine iteT ?_
      walk_at "rd"
      exact q H (Same.refl H)
theorem ok_is_memory_step (T : Txt K mg A) (G_is_name : FnOk P w K mg base CX0 1 A.a_is_name A.d_is_name ["value"] Lay.spIsName) (G_is_within : FnOk P w K mg base CX0 2 A.a_is_within A.d_is_within ["value", "low", "high"] Lay.spIsWithin) : FnOk P w K mg base CX0 3 A.a_is_memory_step A.d_is_memory_step ["value"] Lay.spMemX := by
  refine T.F_is_memory_step.ok sc_is_memory_step (fun vs H Q E h => ?_) (fun cdv A0 outer s H vs Q E hr h => ?_)
  · obtain ⟨p, w, n, s, f, e, rfl, _⟩ := h
    rfl
  · obtain ⟨p, wd, n, s0, f, e, rfl, hp, ⟨tw, kw, _⟩, ⟨tn, kn, zn⟩, ⟨ts, ks, _⟩, ⟨tf, kf, _⟩, ⟨te, ke, _⟩, q⟩ := h
    refine ⟨_, (pss_cons (ps_asg (pv 0) (pg_tup (by rfl) (pgs_cons (pg_name (i := 1) sc_is_memory_step.nd rfl (Or.inl rfl)) (pgs_cons (pg_name (i := 2) sc_is_memory_step.nd rfl (Or.inl rfl)) (pgs_cons (pg_name (i := 3) sc_is_memory_step.nd rfl (Or.inl rfl)) (pgs_cons (pg_name (i := 4) sc_is_memory_step.nd rfl (Or.inl rfl)) (pgs_cons (pg_name (i := 5) sc_is_memory_step.nd rfl (Or.inl rfl)) pgs_nil)))))))
    (Evl.pss_cut (ps_if (PW.pt (pw_and (pt_cmpR (Lay.op_notInS hr.units) (pv 1) (pe_glob (v := .ref A.t_ACCESS_WORDS) rfl T.k_ACCESS_WORDS rfl) rfl) (pw_and1 (pt_cmpR (Lay.op_notInS hr.units) (pv 1) (pe_glob (v := .ref A.t_UPKEEP_WORDS) rfl T.k_UPKEEP_WORDS rfl) rfl))))
      (pss_one (ps_ret pe_bl))
      pss_nil)
    (pss_cons (ps_if (PW.pt (pw_or (pt_not (pt_val (pe_call G_is_name (hr.mono (by decide)) rfl T.g_is_name T.F_is_name.kp T.b_is_name .nil pass0 (pa_cons (pv 2) pa_nil)))) (pw_or1 (pt_not (pt_val (pe_call G_is_within (hr.mono (by decide)) rfl T.g_is_within T.F_is_within.kp T.b_is_within .nil pass0 (pa_cons (pv 3) (pa_cons pe_int (pa_cons (pe_glob (v := .int 3) rfl T.k_GREATEST_SHIFT ⟨_, rfl⟩) pa_nil)))))))))
      (pss_one (ps_ret pe_bl))
      pss_nil)
    (pss_one (ps_ret (pe_and (pe_call G_is_within (hr.mono (by decide)) rfl T.g_is_within T.F_is_within.kp T.b_is_within .nil pass0 (pa_cons (pv 5) (pa_cons pe_int (pa_cons (pe_glob (v := .int 7) rfl T.k_GREATEST_BYTE ⟨_, rfl⟩) pa_nil)))) (pe_one (pe_call G_is_within (hr.mono (by decide)) rfl T.g_is_within T.F_is_within.kp T.b_is_within .nil pass0 (pa_cons (pv 4) (pa_cons pe_int (pa_cons (pv 5) pa_nil))))))))))), ?_⟩
    walk_at "in"
    walk_at "rd"
    have no : Lay.memOk wd n s0 f e = false → Q (.bl false) H := fun z => by
      rw [z] at q
      exact q H (L2.Same.refl H)
    refine ⟨fun σ' H' => σ' = [some (V.ref p), some wd, some n, some s0, some f, some e] ∧ H' = H ∧ Lay.inStrs wd Lay.memWords = true, ?_, ?_⟩
    · walk_at "rd"
      refine Lay.rd_notInS (zs := ["read", "write", "get", "put"]) (T.q_ACCESS_WORDS _) kw ?_
      walk_at "rd"
      refine Lay.ite_nb (fun c1 => ?_) (fun c1 => ?_)
      · walk_at "rd"
        refine Lay.rd_notInS (zs := ["clean", "drop", "flush"]) (T.q_UPKEEP_WORDS _) kw ?_
        walk_at "rd"
        refine Lay.ite_nb (fun c2 => ?_) (fun c2 => ?_)
        · walk_at "rd"
          exact no (by unfold Lay.memOk; rw [Lay.mem_words, c1, c2]; rfl)
        · walk_at "rd"
          exact ⟨rfl, rfl, by rw [Lay.mem_words, c2, Bool.or_true]⟩
      · refine iteF ?_
        walk_at "rd"
        exact ⟨rfl, rfl, by rw [Lay.mem_words, c1, Bool.true_or]⟩
    · rintro σ' H' ⟨rfl, rfl, hm⟩
      have em : Lay.memOk wd n s0 f e = (Lay.isName n && (Lay.within s0 0 3 && (Lay.within e 0 7 && Lay.lastOk f e))) := by unfold Lay.memOk; rw [hm, Bool.true_and]
      rw [em] at no q
      walk_at "rd"
      refine ⟨n, tn, rfl, kn, (fun z ez => Nat.le_trans (zn z ez) (by decide)), fun H1 s1 => ?_⟩
      have no1 : (Lay.isName n && (Lay.within s0 0 3 && (Lay.within e 0 7 && Lay.lastOk f e))) = false → Q (.bl false) H1 := fun z => by
        rw [z] at q
        exact q H1 s1
      by_cases c1 : Lay.isName n = true
      case neg =>
        rw [Bool.eq_false_iff.mpr c1] at no1 ⊢
        walk_at "it"
        exact no1 rfl
      rw [c1] at no1 q ⊢
      rw [Bool.true_and] at no1 q
      walk_at "it"
      refine ⟨s0, ts, 0, 3, rfl, ks.mono s1, ?_⟩
      by_cases c2 : Lay.within s0 0 3 = true
      case neg =>
        rw [Bool.eq_false_iff.mpr c2] at no1 ⊢
        walk_at "it"
        exact no1 rfl
      rw [c2] at no1 q ⊢
      rw [Bool.true_and] at no1 q
      walk_at "it"
      refine ⟨e, te, 0, 7, rfl, ke.mono s1, ?_⟩
      walk_at "rd"
      by_cases c3 : Lay.within e 0 7 = true
      case neg =>
        rw [Bool.eq_false_iff.mpr c3] at no1 ⊢
        walk_at "it"
        exact no1 rfl
      obtain ⟨k, rfl, _, _⟩ := Lay.within_int c3
      rw [c3] at no1 q ⊢
      rw [Bool.true_and] at no1 q
      walk_at "it"
      refine ⟨f, tf, 0, k, rfl, kf.mono s1, ?_⟩
      exact q H1 s1
theorem ok_is_step (T : Txt K mg A) (G_is_memory_step : FnOk P w K mg base CX0 3 A.a_is_memory_step A.d_is_memory_step ["value"] Lay.spMemX) (G_is_name : FnOk P w K mg base CX0 1 A.a_is_name A.d_is_name ["value"] Lay.spIsName) : FnOk P w K mg base CX0 4 A.a_is_step A.d_is_step ["value"] Lay.spStepX := by
  refine T.F_is_step.ok sc_is_step (fun vs H Q E h => ?_) (fun cdv A0 outer s H vs Q E hr h => ?_)
  · obtain ⟨v, o, rfl, _⟩ := h
    rfl
  · obtain ⟨v, o, rfl, hv, q⟩ := h
    refine ⟨_, (pss_cons (ps_if (pt_not (pt_val (pe_callB call_isi (by rfl) T.n_isinstance (by decide +kernel) (pa_cons (pv 0) (pa_cons (pe_bltn (v := .ty "tuple") (by rfl) T.n_tuple (by decide +kernel) rfl) pa_nil)))))
      (pss_one (ps_ret pe_bl))
      pss_nil)
    (pss_cons (ps_if (pt_cmpR op_eq (pe_callB Lay.call_lenS (by rfl) T.n_len PySem.boot_len (pa_cons (pv 0) pa_nil)) pe_int (nomark _))
      (pss_one (ps_ret (pe_call G_is_memory_step (hr.mono (by decide)) rfl T.g_is_memory_step T.F_is_memory_step.kp T.b_is_memory_step .nil pass0 (pa_cons (pv 0) pa_nil))))
      pss_nil)
    (pss_one (ps_ret (pe_and (pe_cmpR op_eq (pe_callB Lay.call_lenS (by rfl) T.n_len PySem.boot_len (pa_cons (pv 0) pa_nil)) pe_int (nomark _)) (pe_and (pe_cmpR (Lay.op_inS hr.units) (pe_ix ix_tup (pv 0) pe_int (fun _ _ => rfl)) (pe_glob (v := .ref A.t_SIGNAL_WORDS) rfl T.k_SIGNAL_WORDS rfl) rfl) (pe_one (pe_call G_is_name (hr.mono (by decide)) rfl T.g_is_name T.F_is_name.kp T.b_is_name .nil pass0 (pa_cons (pe_ix ix_tup (pv 0) pe_int (fun _ _ => rfl)) pa_nil))))))))), ?_⟩
    walk_at "in"
    cases o with
    | none =>
      obtain ⟨_, t, kt, nt⟩ := hv
      walk_at "rd"
      refine Lay.rd_isi .tuple kt ?_
      rw [nt]
      walk_at "it"
      exact q H (L2.Same.refl H)
    | some xs =>
      obtain ⟨_, ⟨p, rfl, hp⟩, hk⟩ := hv
      walk_at "rd"
      refine Lay.rd_isi .tuple (.tup hp) ?_
      walk_at "rd"
      refine iteF ?_
      walk_at "it"
      refine Lay.ite_d (fun c5 => ?_) (fun c5 => ?_)
      · walk_at "it"
        have l5 : xs.length = 5 := by omega
        match xs, l5 with
        | [wd, n, s0, f, e], _ =>
          exact ⟨p, wd, n, s0, f, e, rfl, hp, hk _ (by simp), hk _ (by simp), hk _ (by simp), hk _ (by simp), hk _ (by simp), q⟩
      · walk_at "it"
        refine Lay.ite_d (fun c2 => ?_) (fun c2 => ?_)
        · have l2 : xs.length = 2 := by omega
          match xs, l2 with
          | [wd, n], _ =>
            obtain ⟨tw, kw, _⟩ := hk wd (by simp)
            obtain ⟨tn, kn, zn⟩ := hk n (by simp)
            walk_at "it"
            refine Lay.rd_inS (zs := ["post", "wait"]) (T.q_SIGNAL_WORDS _) kw ?_
            walk_at "rd"
            have e0 : Lay.stepOk (some [wd, n]) = (Lay.inStrs wd ["post", "wait"] && Lay.isName n) := rfl
            rw [e0] at q
            refine Lay.ite_b (fun c3 => ?_) (fun c3 => ?_)
            · rw [c3] at q
              walk_at "it"
              exact ⟨n, tn, rfl, kn, (fun z ez => Nat.le_trans (zn z ez) (by decide)), fun H1 s1 => q H1 s1⟩
            · rw [c3] at q
              exact q H (L2.Same.refl H)
        · have e0 : Lay.stepOk (some xs) = false := by
            match xs, c2, c5 with
            | [], _, _ => rfl
            | [_], _, _ => rfl
            | [_, _], c, _ => exact absurd rfl c
            | [_, _, _], _, _ => rfl
            | [_, _, _, _], _, _ => rfl
            | [_, _, _, _, _], _, c => exact absurd rfl c
            | _ :: _ :: _ :: _ :: _ :: _ :: _, _, _ => rfl
          rw [e0] at q
          exact q H (L2.Same.refl H)
theorem ok_check_agent (T : Txt K mg A) (G_NoPart_init : FnOk P w K mg base CX0 1 A.a_NoPart_init A.d_NoPart_init ["self", "reason", "place"] (Lay.spErr2 A.c_NoPart "reason" "place")) (G_is_name : FnOk P w K mg base CX0 1 A.a_is_name A.d_is_name ["value"] Lay.spIsName) (G_is_step : FnOk P w K mg base CX0 4 A.a_is_step A.d_is_step ["value"] Lay.spStepX) : FnOk P w K mg base (L2.CX P w) 5 A.a_check_agent A.d_check_agent ["name", "steps", "words"] (Lay.spChkAgX K A.c_NoPart) := by
  refine T.F_check_agent.okX sc_check_agent (fun vs H Q E h => ?_) (fun cdv A0 outer s H vs Q E hr h => ?_)
  · obtain ⟨nm, t, wt, ws, xs, os, rfl, _⟩ := h
    rfl
  · obtain ⟨nm, t, wt, ws, xs, os, rfl, ⟨tn, kn, zn⟩, ht, hx, hw, qe, q⟩ := h
    refine ⟨_, (pss_cons (ps_if (pt_not (pt_val (pe_call G_is_name (hr.mono (by decide)) rfl T.g_is_name T.F_is_name.kp T.b_is_name .nil pass0 (pa_cons (pv 0) pa_nil))))
      (pss_one (ps_raise rfl (takes_of rfl rfl rfl rfl) (pmk_oex T.ox_NoPart T.ie_NoPart T.it_NoPart G_NoPart_init (hr.mono (by decide)) T.b_NoPart_init .nil pass0 rfl T.g_NoPart (pa_cons pe_str (pa_cons pe_non pa_nil)))))
      pss_nil)
    (pss_cons (ps_if (pt_not (pt_chain op_le op_le pe_int (pe_callB Lay.call_lenS (by rfl) T.n_len PySem.boot_len (pa_cons (pv 1) pa_nil)) (pe_glob (v := .int 24) rfl T.k_MOST_STEPS ⟨_, rfl⟩)))
      (pss_one (ps_raise rfl (takes_of rfl rfl rfl rfl) (pmk_oex T.ox_NoPart T.ie_NoPart T.it_NoPart G_NoPart_init (hr.mono (by decide)) T.b_NoPart_init .nil pass0 rfl T.g_NoPart (pa_cons pe_str (pa_cons pe_non pa_nil)))))
      pss_nil)
    (pss_one (ps_for (passes_of rfl) rfl (Lay.pi_enumT (by rfl) T.n_enumerate (pa_cons (pv 1) pa_nil)) (pg_tup (by rfl) (pgs_cons (pg_name (i := 3) sc_check_agent.nd rfl (Or.inl rfl)) (pgs_cons (pg_name (i := 4) sc_check_agent.nd rfl (Or.inl rfl)) pgs_nil)))
      (pss_one (ps_if (PW.pt (pw_or (pt_not (pt_val (pe_call G_is_step (hr.mono (by decide)) rfl T.g_is_step T.F_is_step.kp T.b_is_step .nil pass0 (pa_cons (pv 4) pa_nil)))) (pw_or1 (pt_cmpR (Lay.op_notInS hr.units) (pe_ix ix_tup (pv 4) pe_int (fun _ _ => rfl)) (pv 2) rfl))))
        (pss_one (ps_raise rfl (takes_of rfl rfl rfl rfl) (pmk_oex T.ox_NoPart T.ie_NoPart T.it_NoPart G_NoPart_init (hr.mono (by decide)) T.b_NoPart_init .nil pass0 rfl T.g_NoPart (pa_cons pe_str (pa_cons (pv 3) pa_nil)))))
        pss_nil)))))), ?_⟩
    walk_at "in"
    walk_at "rd"
    refine ⟨nm, tn, rfl, kn, (fun z ez => Nat.le_trans (zn z ez) (by decide)), fun H1 s1 => ?_⟩
    by_cases hn : Lay.isName nm = true
    case neg =>
      rw [Bool.eq_false_iff.mpr hn]
      walk_at "it"
      refine Lay.rd_mkO ?_
      walk_at "rd"
      exact Lay.mk_err2 fun d H' hd s e => qe _ _ (Lay.refuses_name (Bool.eq_false_iff.mpr hn)) d H' (Lay.none_of s1 hd) (s1.trans s) e
    rw [hn]
    walk_at "it"
    have ht1 := s1 _ _ ht
    refine Lay.rd_lenT (SqT.of ht1) ?_
    walk_at "rd"
    have lo := hx.1
    have slots : (decide (1 ≤ os.length) && decide (os.length ≤ 24)) = false → ∀ d H', H1 d = none → L2.Same H1 H' → H' d = some (.xd [("place", .non), ("reason", .str "steps")]) → E (.ref A.c_NoPart) (some d) H' :=
      fun hl d H' hd s e => qe _ _ (Lay.refuses_steps hn hl) d H' (Lay.none_of s1 hd) (s1.trans s) e
    refine Lay.ite_d (fun c1 => ?_) (fun c1 => ?_)
    case refine_2 =>
      walk_at "it"
      refine Lay.rd_mkO ?_
      walk_at "rd"
      exact Lay.mk_err2 (slots (by rw [decide_eq_false (fun z : 1 ≤ os.length => c1 (by omega))]; rfl))
    walk_at "rd"
    refine Lay.ite_n (fun c2 => ?_) (fun c2 => ?_)
    · walk_at "it"
      refine Lay.rd_mkO ?_
      walk_at "rd"
      exact Lay.mk_err2 (slots (by rw [decide_eq_false (fun z : os.length ≤ 24 => c2 (by omega)), Bool.and_false]))
    have hl : (decide (1 ≤ os.length) && decide (os.length ≤ 24)) = true := by rw [decide_eq_true (show 1 ≤ os.length by omega), decide_eq_true (show os.length ≤ 24 by omega)]; rfl
    walk_at "it"
    refine Lay.rd_forW (J := Lay.Itet K t) (H1 := H1) (fun R r => ?_) (Lay.walk_enumT (xs := xs)) (fun i σ' H' => (∃ a b, σ' = [some nm, some (V.ref t), some (V.ref wt), a, b]) ∧ L2.Same H H' ∧ ∀ j, j < i → Lay.sBad ws os j = false) ⟨⟨_, _, rfl⟩, s1, fun j hj => absurd hj (Nat.not_lt_zero _)⟩ (fun i σ' H' _ ⟨_, s2, _⟩ => SqT.of (s2 _ _ ht)) ?_ ?_
    · walk_at "rd"
      exact ⟨t, xs, rfl, SqT.of ht1, r⟩
    · rintro i x σ' H2 H3 hi ⟨⟨a, b, rfl⟩, s2, hno⟩ ⟨T0, x1, y1, rfl, hT, rfl, ex, ey⟩
      cases ex
      have s3 : L2.Same H (upd H2 T0 (.tup [.int (i : Nat), y1])) := s2.trans (Lay.Same.upd hT)
      walk_at "rd"
      have ey' : xs[i]? = some y1 := ey
      obtain ⟨o, eo, ho⟩ := hx.2 i y1 ey'
      have eb : Lay.sBad ws os i = !(Lay.stepOk o && Lay.headIn ws o) := by unfold Lay.sBad; rw [eo]
      have hio : i < os.length := by omega
      have stop : Lay.sBad ws os i = true → ∀ H5, L2.Same H H5 → ∀ d H', H5 d = none → L2.Same H5 H' → H' d = some (.xd [("place", .int (i : Nat)), ("reason", .str "step")]) → E (.ref A.c_NoPart) (some d) H' :=
        fun z H5 s5 d H' hd s e => qe _ _ (Lay.refuses_step hn hl (Lay.fst_some z hno hio)) d H' (Lay.none_of s5 hd) (s5.trans s) e
      refine ⟨y1, o, rfl, ho.mono s3, fun H4 s4 => ?_⟩
      have s5 := s3.trans s4
      by_cases c3 : Lay.stepOk o = true
      case neg =>
        rw [Bool.eq_false_iff.mpr c3]
        walk_at "it"
        refine Lay.rd_mkO ?_
        walk_at "rd"
        exact Lay.mk_err2 (stop (by rw [eb, Bool.eq_false_iff.mpr c3]; rfl) _ s5)
      rw [c3]
      walk_at "it"
      cases o with
      | none => cases c3
      | some l =>
        cases l with
        | nil => cases c3
        | cons wd r =>
          obtain ⟨_, ⟨p, rfl, hp⟩, hk⟩ := ho.mono s5
          obtain ⟨tw, kw, _⟩ := hk wd (by simp)
          refine Lay.rd_ixT (SqT.of hp) (Lay.atI_nat (i := 0) rfl) ?_
          walk_at "rd"
          refine Lay.rd_notInS (Lay.same_sqT s5 hw) kw ?_
          walk_at "rd"
          refine Lay.ite_nb (fun c4 => ?_) (fun c4 => ?_)
          · walk_at "it"
            refine Lay.rd_mkO ?_
            walk_at "rd"
            exact Lay.mk_err2 (stop (by rw [eb, c3, show Lay.headIn ws (some (wd :: r)) = Lay.inStrs wd ws from rfl, c4]; rfl) _ s5)
          · walk_at "it"
            refine ⟨⟨_, _, rfl⟩, s5, fun j hj => ?_⟩
            by_cases e : j = i
            · subst e; rw [eb, c3, show Lay.headIn ws (some (wd :: r)) = Lay.inStrs wd ws from rfl, c4]; rfl
            · exact hno j (by omega)
    · rintro σ' H2 ⟨⟨a, b, rfl⟩, s2, hno⟩
      exact q (Lay.refuses_none hn hl (Lay.fst_none fun j hj => hno j (by omega))) H2 s2
theorem ok_Agent_init (T : Txt K mg A) (G_check_agent : FnOk P w K mg base (L2.CX P w) 5 A.a_check_agent A.d_check_agent ["name", "steps", "words"] (Lay.spChkAgX K A.c_NoPart)) : FnR P w K mg base (L2.CX P w) 6 A.a_Agent_init (Lay.spStar 2 (Lay.spAgInitX A.c_Agent A.c_NoPart Lay.plainWs)) := by
  obtain ⟨oc, od, kV, doc, pm, an, cdv, ct, osl, hfd, lk, hcd⟩ := T.F_Agent_init.ex
  rw [hfd] at lk
  refine StX.fn_star (ps := ["self", "name"]) (pv := "steps") (sp := Lay.spAgInitX A.c_Agent A.c_NoPart Lay.plainWs) lk hcd sc_Agent_init StX.cxUp (StX.bind_star2 (B := fun us => bindArgs (PySem.W.fnOf "__init__" "Agent.__init__" (defArgs s_Agent_init) (defBody s_Agent_init) (defScope s_Agent_init) .none kV doc pm an cdv ct) ⟨us, []⟩) (fun a b => by rfl) (fun a b r rs => by rfl)) (fun A0 outer s H vs Q E hr h => ?_)
  obtain ⟨x, dx, v, t, xs, os, rfl, hx, hv, ht, hs, qe, q⟩ := h
  refine ⟨_, (show PSs (cxOf (L2.CX P w) P w K mg base ["self", "name", "steps"] "Agent.__init__" (defScope s_Agent_init) A.a_Agent_init cdv A0 outer s H E) (defBody s_Agent_init) _ from (pss_cons (ps_expr (pe_call (E := E) G_check_agent (hr.mono (by decide)) rfl T.g_check_agent T.F_check_agent.kp T.b_check_agent .nil (passes_call (takes_of rfl rfl rfl rfl) (fun _ _ _ _ h => h)) (pa_cons (pv 1) (pa_cons (pv 2) (pa_cons (pe_glob (v := .ref A.t_PLAIN_WORDS) rfl T.k_PLAIN_WORDS rfl) pa_nil)))))
    (pss_cons (ps_fld (pv 0) (pv 1) rfl)
    (pss_one (ps_fld (pv 0) (pv 2) rfl))))), ?_⟩
  walk_at "in"
  walk_at "rd"
  refine ⟨v, t, A.t_PLAIN_WORDS, Lay.plainWs, xs, os, rfl, hv, ht, hs, T.q_PLAIN_WORDS _, qe, fun hq H1 s1 => ?_⟩
  walk_at "rd"
  refine Lay.rd_sFld ?_
  walk_at "rd"
  refine ⟨x, A.c_Agent, dx, [], rfl, s1 _ _ hx, T.cl_Agent, T.na_Agent_name, by decide, ?_⟩
  walk_at "rd"
  refine Lay.rd_sFld ?_
  walk_at "rd"
  refine ⟨x, A.c_Agent, dx, _, rfl, upd_same, T.cl_Agent, T.na_Agent_steps, (by show 1 < 1000; decide), ?_⟩
  have htx : t ≠ x := ne_of ht hx (by intro y; cases y)
  refine q hq _ ⟨dx, t, ?_, ?_⟩ (fun b o hb e => ?_)
  · rw [upd_same, Lay.putF_agX]
  · rw [upd_ne htx, upd_ne htx]; exact s1 _ _ ht
  · rw [upd_ne hb, upd_ne hb]; exact s1 _ _ e
theorem ok_Through_init (T : Txt K mg A) (G_check_agent : FnOk P w K mg base (L2.CX P w) 5 A.a_check_agent A.d_check_agent ["name", "steps", "words"] (Lay.spChkAgX K A.c_NoPart)) : FnR P w K mg base (L2.CX P w) 6 A.a_Through_init (Lay.spStar 2 (Lay.spAgInitX A.c_Through A.c_NoPart Lay.cacheWs)) := by
  obtain ⟨oc, od, kV, doc, pm, an, cdv, ct, osl, hfd, lk, hcd⟩ := T.F_Through_init.ex
  rw [hfd] at lk
  refine StX.fn_star (ps := ["self", "name"]) (pv := "steps") (sp := Lay.spAgInitX A.c_Through A.c_NoPart Lay.cacheWs) lk hcd sc_Through_init StX.cxUp (StX.bind_star2 (B := fun us => bindArgs (PySem.W.fnOf "__init__" "Through.__init__" (defArgs s_Through_init) (defBody s_Through_init) (defScope s_Through_init) .none kV doc pm an cdv ct) ⟨us, []⟩) (fun a b => by rfl) (fun a b r rs => by rfl)) (fun A0 outer s H vs Q E hr h => ?_)
  obtain ⟨x, dx, v, t, xs, os, rfl, hx, hv, ht, hs, qe, q⟩ := h
  refine ⟨_, (show PSs (cxOf (L2.CX P w) P w K mg base ["self", "name", "steps"] "Through.__init__" (defScope s_Through_init) A.a_Through_init cdv A0 outer s H E) (defBody s_Through_init) _ from (pss_cons (ps_expr (pe_call (E := E) G_check_agent (hr.mono (by decide)) rfl T.g_check_agent T.F_check_agent.kp T.b_check_agent .nil (passes_call (takes_of rfl rfl rfl rfl) (fun _ _ _ _ h => h)) (pa_cons (pv 1) (pa_cons (pv 2) (pa_cons (pe_glob (v := .ref A.t_CACHE_WORDS) rfl T.k_CACHE_WORDS rfl) pa_nil)))))
    (pss_cons (ps_fld (pv 0) (pv 1) rfl)
    (pss_one (ps_fld (pv 0) (pv 2) rfl))))), ?_⟩
  walk_at "in"
  walk_at "rd"
  refine ⟨v, t, A.t_CACHE_WORDS, Lay.cacheWs, xs, os, rfl, hv, ht, hs, T.q_CACHE_WORDS _, qe, fun hq H1 s1 => ?_⟩
  walk_at "rd"
  refine Lay.rd_sFld ?_
  walk_at "rd"
  refine ⟨x, A.c_Through, dx, [], rfl, s1 _ _ hx, T.cl_Through, T.na_Through_name, by decide, ?_⟩
  walk_at "rd"
  refine Lay.rd_sFld ?_
  walk_at "rd"
  refine ⟨x, A.c_Through, dx, _, rfl, upd_same, T.cl_Through, T.na_Through_steps, (by show 1 < 1000; decide), ?_⟩
  have htx : t ≠ x := ne_of ht hx (by intro y; cases y)
  refine q hq _ ⟨dx, t, ?_, ?_⟩ (fun b o hb e => ?_)
  · rw [upd_same, Lay.putF_agX]
  · rw [upd_ne htx, upd_ne htx]; exact s1 _ _ ht
  · rw [upd_ne hb, upd_ne hb]; exact s1 _ _ e
theorem ok_Back_init (T : Txt K mg A) (G_check_agent : FnOk P w K mg base (L2.CX P w) 5 A.a_check_agent A.d_check_agent ["name", "steps", "words"] (Lay.spChkAgX K A.c_NoPart)) : FnR P w K mg base (L2.CX P w) 6 A.a_Back_init (Lay.spStar 2 (Lay.spAgInitX A.c_Back A.c_NoPart Lay.cacheWs)) := by
  obtain ⟨oc, od, kV, doc, pm, an, cdv, ct, osl, hfd, lk, hcd⟩ := T.F_Back_init.ex
  rw [hfd] at lk
  refine StX.fn_star (ps := ["self", "name"]) (pv := "steps") (sp := Lay.spAgInitX A.c_Back A.c_NoPart Lay.cacheWs) lk hcd sc_Back_init StX.cxUp (StX.bind_star2 (B := fun us => bindArgs (PySem.W.fnOf "__init__" "Back.__init__" (defArgs s_Back_init) (defBody s_Back_init) (defScope s_Back_init) .none kV doc pm an cdv ct) ⟨us, []⟩) (fun a b => by rfl) (fun a b r rs => by rfl)) (fun A0 outer s H vs Q E hr h => ?_)
  obtain ⟨x, dx, v, t, xs, os, rfl, hx, hv, ht, hs, qe, q⟩ := h
  refine ⟨_, (show PSs (cxOf (L2.CX P w) P w K mg base ["self", "name", "steps"] "Back.__init__" (defScope s_Back_init) A.a_Back_init cdv A0 outer s H E) (defBody s_Back_init) _ from (pss_cons (ps_expr (pe_call (E := E) G_check_agent (hr.mono (by decide)) rfl T.g_check_agent T.F_check_agent.kp T.b_check_agent .nil (passes_call (takes_of rfl rfl rfl rfl) (fun _ _ _ _ h => h)) (pa_cons (pv 1) (pa_cons (pv 2) (pa_cons (pe_glob (v := .ref A.t_CACHE_WORDS) rfl T.k_CACHE_WORDS rfl) pa_nil)))))
    (pss_cons (ps_fld (pv 0) (pv 1) rfl)
    (pss_one (ps_fld (pv 0) (pv 2) rfl))))), ?_⟩
  walk_at "in"
  walk_at "rd"
  refine ⟨v, t, A.t_CACHE_WORDS, Lay.cacheWs, xs, os, rfl, hv, ht, hs, T.q_CACHE_WORDS _, qe, fun hq H1 s1 => ?_⟩
  walk_at "rd"
  refine Lay.rd_sFld ?_
  walk_at "rd"
  refine ⟨x, A.c_Back, dx, [], rfl, s1 _ _ hx, T.cl_Back, T.na_Back_name, by decide, ?_⟩
  walk_at "rd"
  refine Lay.rd_sFld ?_
  walk_at "rd"
  refine ⟨x, A.c_Back, dx, _, rfl, upd_same, T.cl_Back, T.na_Back_steps, (by show 1 < 1000; decide), ?_⟩
  have htx : t ≠ x := ne_of ht hx (by intro y; cases y)
  refine q hq _ ⟨dx, t, ?_, ?_⟩ (fun b o hb e => ?_)
  · rw [upd_same, Lay.putF_agX]
  · rw [upd_ne htx, upd_ne htx]; exact s1 _ _ ht
  · rw [upd_ne hb, upd_ne hb]; exact s1 _ _ e
theorem ok_Agent_made (T : Txt K mg A) (G_Agent_init : FnR P w K mg base (L2.CX P w) 6 A.a_Agent_init (Lay.spStar 2 (Lay.spAgInitX A.c_Agent A.c_NoPart Lay.plainWs))) : FnOk P w K mg base (L2.CX P w) 8 A.a_Agent_made A.d_Agent_made ["cls", "name", "steps"] (Lay.spAgMadeX K A.c_Agent A.c_NoPart Lay.plainWs) := by
  refine T.F_Agent_made.okX sc_Agent_made (fun vs H Q E h => ?_) (fun cdv A0 outer s H vs Q E hr h => ?_)
  · obtain ⟨v, a, xs, os, rfl, _⟩ := h
    rfl
  · obtain ⟨v, a, xs, os, rfl, hv, hs, hx, hl, q⟩ := h
    refine ⟨_, (pss_one (ps_ret (OwnC.pe_makeV (E := E) (pv 0) T.mk_Agent G_Agent_init (hr.mono (by decide)) (passes_call (takes_of rfl rfl rfl rfl) (fun _ _ _ _ h => h)) (pa_cons (pv 1) (StX.pa_star (pv 2) pa_nil))))), ?_⟩
    walk_at "in"
    walk_at "rd"
    refine Lay.rd_makeV ?_
    walk_at "rd"
    refine ⟨rfl, Lay.rd_makeR ?_⟩
    walk_at "rd"
    refine ⟨a, xs, rfl, hs, ?_⟩
    walk_at "rd"
    simp only [List.append_nil]
    exact Lay.mk_agX (Q' := Q) (Q := fun x H => Q (.ref x) H) (fun _ _ h => h) hv hx hl q
theorem ok_Through_made (T : Txt K mg A) (G_Through_init : FnR P w K mg base (L2.CX P w) 6 A.a_Through_init (Lay.spStar 2 (Lay.spAgInitX A.c_Through A.c_NoPart Lay.cacheWs))) : FnOk P w K mg base (L2.CX P w) 8 A.a_Through_made A.d_Through_made ["cls", "name", "steps"] (Lay.spAgMadeX K A.c_Through A.c_NoPart Lay.cacheWs) := by
  refine T.F_Through_made.okX sc_Through_made (fun vs H Q E h => ?_) (fun cdv A0 outer s H vs Q E hr h => ?_)
  · obtain ⟨v, a, xs, os, rfl, _⟩ := h
    rfl
  · obtain ⟨v, a, xs, os, rfl, hv, hs, hx, hl, q⟩ := h
    refine ⟨_, (pss_one (ps_ret (OwnC.pe_makeV (E := E) (pv 0) T.mk_Through G_Through_init (hr.mono (by decide)) (passes_call (takes_of rfl rfl rfl rfl) (fun _ _ _ _ h => h)) (pa_cons (pv 1) (StX.pa_star (pv 2) pa_nil))))), ?_⟩
    walk_at "in"
    walk_at "rd"
    refine Lay.rd_makeV ?_
    walk_at "rd"
    refine ⟨rfl, Lay.rd_makeR ?_⟩
    walk_at "rd"
    refine ⟨a, xs, rfl, hs, ?_⟩
    walk_at "rd"
    simp only [List.append_nil]
    exact Lay.mk_agX (Q' := Q) (Q := fun x H => Q (.ref x) H) (fun _ _ h => h) hv hx hl q
theorem ok_Back_made (T : Txt K mg A) (G_Back_init : FnR P w K mg base (L2.CX P w) 6 A.a_Back_init (Lay.spStar 2 (Lay.spAgInitX A.c_Back A.c_NoPart Lay.cacheWs))) : FnOk P w K mg base (L2.CX P w) 8 A.a_Back_made A.d_Back_made ["cls", "name", "steps"] (Lay.spAgMadeX K A.c_Back A.c_NoPart Lay.cacheWs) := by
  refine T.F_Back_made.okX sc_Back_made (fun vs H Q E h => ?_) (fun cdv A0 outer s H vs Q E hr h => ?_)
  · obtain ⟨v, a, xs, os, rfl, _⟩ := h
    rfl
  · obtain ⟨v, a, xs, os, rfl, hv, hs, hx, hl, q⟩ := h
    refine ⟨_, (pss_one (ps_ret (OwnC.pe_makeV (E := E) (pv 0) T.mk_Back G_Back_init (hr.mono (by decide)) (passes_call (takes_of rfl rfl rfl rfl) (fun _ _ _ _ h => h)) (pa_cons (pv 1) (StX.pa_star (pv 2) pa_nil))))), ?_⟩
    walk_at "in"
    walk_at "rd"
    refine Lay.rd_makeV ?_
    walk_at "rd"
    refine ⟨rfl, Lay.rd_makeR ?_⟩
    walk_at "rd"
    refine ⟨a, xs, rfl, hs, ?_⟩
    walk_at "rd"
    simp only [List.append_nil]
    exact Lay.mk_agX (Q' := Q) (Q := fun x H => Q (.ref x) H) (fun _ _ h => h) hv hx hl q
theorem ok_Agent_with_steps (T : Txt K mg A) (G_Agent_init : FnR P w K mg base (L2.CX P w) 6 A.a_Agent_init (Lay.spStar 2 (Lay.spAgInitX A.c_Agent A.c_NoPart Lay.plainWs))) : FnR P w K mg base (L2.CX P w) 8 A.a_Agent_with_steps (Lay.spStar 1 (Lay.spAgWithX A.c_Agent A.c_NoPart Lay.plainWs)) := by
  obtain ⟨oc, od, kV, doc, pm, an, cdv, ct, osl, hfd, lk, hcd⟩ := T.F_Agent_with_steps.ex
  rw [hfd] at lk
  refine StX.fn_star (ps := ["self"]) (pv := "steps") (sp := Lay.spAgWithX A.c_Agent A.c_NoPart Lay.plainWs) lk hcd sc_Agent_with_steps StX.cxUp (StX.bind_star1 (B := fun us => bindArgs (PySem.W.fnOf "with_steps" "Agent.with_steps" (defArgs s_Agent_with_steps) (defBody s_Agent_with_steps) (defScope s_Agent_with_steps) .none kV doc pm an cdv ct) ⟨us, []⟩) (fun a => by rfl) (fun a r rs => by rfl)) (fun A0 outer s H vs Q E hr h => ?_)
  obtain ⟨a, v, t, xs0, xs, os, rfl, ⟨dx, t0, h1, h2⟩, hv, ht, hx, hl, q⟩ := h
  refine ⟨_, (show PSs (cxOf (L2.CX P w) P w K mg base ["self", "steps"] "Agent.with_steps" (defScope s_Agent_with_steps) A.a_Agent_with_steps cdv A0 outer s H E) (defBody s_Agent_with_steps) _ from (pss_one (ps_ret (OwnC.pe_makeG (E := E) T.mk_Agent G_Agent_init (hr.mono (by decide)) rfl T.g_Agent (passes_call (takes_of rfl rfl rfl rfl) (fun _ _ _ _ h => h)) (pa_cons (pe_fld (pv 0) rfl) (StX.pa_star (pv 1) pa_nil)))))), ?_⟩
  walk_at "in"
  walk_at "rd"
  refine Lay.rd_makeR ?_
  walk_at "rd"
  refine Lay.rd_tFld ?_
  walk_at "rd"
  refine ⟨a, _, dx, _, v, rfl, h1, T.cl_Agent, T.na_Agent_name, by rfl, ?_⟩
  walk_at "rd"
  refine ⟨t, xs, rfl, .inl (SqT.of ht), ?_⟩
  walk_at "rd"
  simp only [List.append_nil]
  exact Lay.mk_agX (Q' := Q) (Q := fun x H => Q (.ref x) H) (fun _ _ h => h) hv hx hl q
theorem ok_Through_with_steps (T : Txt K mg A) (G_Through_init : FnR P w K mg base (L2.CX P w) 6 A.a_Through_init (Lay.spStar 2 (Lay.spAgInitX A.c_Through A.c_NoPart Lay.cacheWs))) : FnR P w K mg base (L2.CX P w) 8 A.a_Through_with_steps (Lay.spStar 1 (Lay.spAgWithX A.c_Through A.c_NoPart Lay.cacheWs)) := by
  obtain ⟨oc, od, kV, doc, pm, an, cdv, ct, osl, hfd, lk, hcd⟩ := T.F_Through_with_steps.ex
  rw [hfd] at lk
  refine StX.fn_star (ps := ["self"]) (pv := "steps") (sp := Lay.spAgWithX A.c_Through A.c_NoPart Lay.cacheWs) lk hcd sc_Through_with_steps StX.cxUp (StX.bind_star1 (B := fun us => bindArgs (PySem.W.fnOf "with_steps" "Through.with_steps" (defArgs s_Through_with_steps) (defBody s_Through_with_steps) (defScope s_Through_with_steps) .none kV doc pm an cdv ct) ⟨us, []⟩) (fun a => by rfl) (fun a r rs => by rfl)) (fun A0 outer s H vs Q E hr h => ?_)
  obtain ⟨a, v, t, xs0, xs, os, rfl, ⟨dx, t0, h1, h2⟩, hv, ht, hx, hl, q⟩ := h
  refine ⟨_, (show PSs (cxOf (L2.CX P w) P w K mg base ["self", "steps"] "Through.with_steps" (defScope s_Through_with_steps) A.a_Through_with_steps cdv A0 outer s H E) (defBody s_Through_with_steps) _ from (pss_one (ps_ret (OwnC.pe_makeG (E := E) T.mk_Through G_Through_init (hr.mono (by decide)) rfl T.g_Through (passes_call (takes_of rfl rfl rfl rfl) (fun _ _ _ _ h => h)) (pa_cons (pe_fld (pv 0) rfl) (StX.pa_star (pv 1) pa_nil)))))), ?_⟩
  walk_at "in"
  walk_at "rd"
  refine Lay.rd_makeR ?_
  walk_at "rd"
  refine Lay.rd_tFld ?_
  walk_at "rd"
  refine ⟨a, _, dx, _, v, rfl, h1, T.cl_Through, T.na_Through_name, by rfl, ?_⟩
  walk_at "rd"
  refine ⟨t, xs, rfl, .inl (SqT.of ht), ?_⟩
  walk_at "rd"
  simp only [List.append_nil]
  exact Lay.mk_agX (Q' := Q) (Q := fun x H => Q (.ref x) H) (fun _ _ h => h) hv hx hl q
theorem ok_Back_with_steps (T : Txt K mg A) (G_Back_init : FnR P w K mg base (L2.CX P w) 6 A.a_Back_init (Lay.spStar 2 (Lay.spAgInitX A.c_Back A.c_NoPart Lay.cacheWs))) : FnR P w K mg base (L2.CX P w) 8 A.a_Back_with_steps (Lay.spStar 1 (Lay.spAgWithX A.c_Back A.c_NoPart Lay.cacheWs)) := by
  obtain ⟨oc, od, kV, doc, pm, an, cdv, ct, osl, hfd, lk, hcd⟩ := T.F_Back_with_steps.ex
  rw [hfd] at lk
  refine StX.fn_star (ps := ["self"]) (pv := "steps") (sp := Lay.spAgWithX A.c_Back A.c_NoPart Lay.cacheWs) lk hcd sc_Back_with_steps StX.cxUp (StX.bind_star1 (B := fun us => bindArgs (PySem.W.fnOf "with_steps" "Back.with_steps" (defArgs s_Back_with_steps) (defBody s_Back_with_steps) (defScope s_Back_with_steps) .none kV doc pm an cdv ct) ⟨us, []⟩) (fun a => by rfl) (fun a r rs => by rfl)) (fun A0 outer s H vs Q E hr h => ?_)
  obtain ⟨a, v, t, xs0, xs, os, rfl, ⟨dx, t0, h1, h2⟩, hv, ht, hx, hl, q⟩ := h
  refine ⟨_, (show PSs (cxOf (L2.CX P w) P w K mg base ["self", "steps"] "Back.with_steps" (defScope s_Back_with_steps) A.a_Back_with_steps cdv A0 outer s H E) (defBody s_Back_with_steps) _ from (pss_one (ps_ret (OwnC.pe_makeG (E := E) T.mk_Back G_Back_init (hr.mono (by decide)) rfl T.g_Back (passes_call (takes_of rfl rfl rfl rfl) (fun _ _ _ _ h => h)) (pa_cons (pe_fld (pv 0) rfl) (StX.pa_star (pv 1) pa_nil)))))), ?_⟩
  walk_at "in"
  walk_at "rd"
  refine Lay.rd_makeR ?_
  walk_at "rd"
  refine Lay.rd_tFld ?_
  walk_at "rd"
  refine ⟨a, _, dx, _, v, rfl, h1, T.cl_Back, T.na_Back_name, by rfl, ?_⟩
  walk_at "rd"
  refine ⟨t, xs, rfl, .inl (SqT.of ht), ?_⟩
  walk_at "rd"
  simp only [List.append_nil]
  exact Lay.mk_agX (Q' := Q) (Q := fun x H => Q (.ref x) H) (fun _ _ h => h) hv hx hl q
theorem ok_pen (T : Txt K mg A) : FnOk P w K mg base CX0 1 A.a_pen A.d_pen ["_law_script"] (Lay.spPen K) := by
  refine T.F_pen.ok sc_pen (fun vs H Q E h => ?_) (fun cdv A0 outer s H vs Q E hr h => ?_)
  · obtain ⟨a, ns, rfl, _⟩ := h
    rfl
  · obtain ⟨a, ns, rfl, hS, hl, q⟩ := h
    refine ⟨_, (pss_one (ps_ret (pe_lst (pa_cons (pe_callTy Lay.call_listS (by rfl) T.n_list (by decide +kernel) (pa_cons (pe_slice sl_list (pv 0) po_none (po_some pe_int)) pa_nil)) (pa_cons pe_int (pa_cons pe_int pa_nil)))))), ?_⟩
    walk_at "in"
    walk_at "rd"
    refine Lay.rd_slL hS (fun r hr1 => ?_)
    rw [Lay.cut63 (by rw [List.length_map]; exact hl)]
    walk_at "rd"
    refine Lay.rd_listL (SqL.of upd_same) (fun l hl1 => ?_)
    walk_at "rd"
    refine ⟨by decide, fun p hp => ?_⟩
    have s1 := (Lay.Same.upd (o := .lst (ns.map V.int)) hr1).trans (Lay.Same.upd (o := .lst (ns.map V.int)) hl1)
    exact q _ p _ (Lay.none_of s1 hp) (Lay.pen_at upd_same (Lay.upd_old hp upd_same) hl) (s1.trans (Lay.Same.upd hp))
theorem ok_draw (T : Txt K mg A) : FnOk P w K mg base CX0 1 A.a_draw A.d_draw ["_law_pen_here", "_law_many"] Lay.spDraw := by
  refine T.F_draw.ok sc_draw (fun vs H Q E h => ?_) (fun cdv A0 outer s H vs Q E hr h => ?_)
  · obtain ⟨p, m, n, c, rfl, _⟩ := h
    rfl
  · obtain ⟨p, m, n, c, rfl, ⟨ns, b, l, h1, h2, h3, h4, h5, h6⟩, hn, hm, hm2, k⟩ := h
    have hc : c ≠ p := ne_of h2 h1 (by intro q; cases ns <;> cases q)
    refine ⟨_, (pss_cons (ps_if (pt_cmpR op_gt (pe_ix ix_list (pv 0) pe_int (fun _ _ => rfl)) pe_int (nomark _))
      (pss_cons (ps_set (i := 2) sc_draw.nd rfl (Or.inl rfl) (pe_op Lay.op_modP (pe_callTy Lay.call_intI (by rfl) T.n_int (by decide +kernel) (pa_cons (pe_ix ix_list (pv 0) pe_int (fun _ _ => rfl)) pa_nil)) (pv 1)))
      (pss_cons (ps_asg (pe_op Lay.op_divP (pe_callTy Lay.call_intI (by rfl) T.n_int (by decide +kernel) (pa_cons (pe_ix ix_list (pv 0) pe_int (fun _ _ => rfl)) pa_nil)) (pv 1)) (pg_sub (pv 0) pe_int set_list))
      (pss_one (ps_ret (pv 2)))))
      pss_nil)
    (pss_cons (ps_set (i := 3) sc_draw.nd rfl (Or.inl rfl) (pe_ix ix_list (pv 0) pe_int (fun _ _ => rfl)))
    (pss_cons (ps_asg (pe_op op_add (pv 3) pe_int) (pg_sub (pv 0) pe_int set_list))
    (pss_cons (ps_set (i := 4) sc_draw.nd rfl (Or.inl rfl) (pe_op op_add (pe_op op_mul pe_int (pv 3)) pe_int))
    (Evl.pss_cut (ps_if (pt_cmpR (op_neD hr.units) (pe_ix ix_list (pv 0) pe_int (fun _ _ => rfl)) (pe_lst pa_nil) (nomark _))
      (pss_one (ps_set (i := 4) sc_draw.nd rfl (Or.inl rfl) (pe_ix ix_list (pe_ix ix_list (pv 0) pe_int (fun _ _ => rfl)) (pe_op Lay.op_modP (pe_callTy Lay.call_intI (by rfl) T.n_int (by decide +kernel) (pa_cons (pv 3) pa_nil)) (pe_callB Lay.call_lenS (by rfl) T.n_len PySem.boot_len (pa_cons (pe_ix ix_list (pv 0) pe_int (fun _ _ => rfl)) pa_nil))) (fun _ _ => rfl))))
      pss_nil)
    (pss_cons (ps_if (PW.pt (pw_and (pt_cmpR op_lt (pv 3) (pe_callB Lay.call_lenS (by rfl) T.n_len PySem.boot_len (pa_cons (pe_ix ix_list (pv 0) pe_int (fun _ _ => rfl)) pa_nil)) (nomark _)) (pw_and1 (pt_cmpR op_ge (pe_callB Lay.call_absI (by rfl) T.n_abs (by decide +kernel) (pa_cons (pv 4) pa_nil)) (pe_op op_pow pe_int pe_int) (nomark _)))))
      (pss_cons (ps_set (i := 5) sc_draw.nd rfl (Or.inl rfl) (pe_op op_add (pe_op op_mul pe_int (pe_op op_sub (pe_callB Lay.call_absI (by rfl) T.n_abs (by decide +kernel) (pa_cons (pv 4) pa_nil)) (pe_op op_pow pe_int pe_int))) (pe_callTy Lay.call_intI (by rfl) T.n_int (by decide +kernel) (pa_cons (pe_cmpR op_lt (pv 4) pe_int (nomark _)) pa_nil))))
      (pss_cons (ps_asg (pe_op Lay.op_divP (pe_callTy Lay.call_intI (by rfl) T.n_int (by decide +kernel) (pa_cons (pv 5) pa_nil)) (pv 1)) (pg_sub (pv 0) pe_int set_list))
      (pss_one (ps_ret (pe_op Lay.op_modP (pe_callTy Lay.call_intI (by rfl) T.n_int (by decide +kernel) (pa_cons (pv 5) pa_nil)) (pv 1))))))
      pss_nil)
    (pss_cons (ps_set (i := 6) sc_draw.nd rfl (Or.inl rfl) (pe_op Lay.op_modP (pe_callTy Lay.call_intI (by rfl) T.n_int (by decide +kernel) (pa_cons (pe_op op_pow (pe_op op_add (pe_op op_add (pe_op Lay.op_modP (pe_callTy Lay.call_intI (by rfl) T.n_int (by decide +kernel) (pa_cons (pv 4) pa_nil)) pe_int) (pe_op op_mul pe_int (pv 3))) pe_int) pe_int) pa_nil)) pe_int))
    (pss_cons (ps_set (i := 6) sc_draw.nd rfl (Or.inl rfl) (pe_op Lay.op_modP (pe_callTy Lay.call_intI (by rfl) T.n_int (by decide +kernel) (pa_cons (pe_op op_pow (pe_op op_add (pe_op op_add (pe_op op_mul (pv 6) (pe_op op_add (pe_op op_mul pe_int (pv 3)) pe_int)) (pe_op op_mul (pe_op op_mul pe_int (pv 3)) (pv 3))) pe_int) pe_int) pa_nil)) pe_int))
    (pss_one (ps_ret (pe_op Lay.op_modP (pe_op Lay.op_divP (pe_callTy Lay.call_intI (by rfl) T.n_int (by decide +kernel) (pa_cons (pv 6) pa_nil)) pe_int) (pv 1)))))))))))), ?_⟩
    have pen : ∀ H' : Hp, ∀ b' l' : Int, H' p = some (.lst [.ref c, .int b', .int l']) → H' c = some (.lst (ns.map V.int)) → 0 ≤ b' → b' ≤ ((n + 1 : Nat) : Int) → 0 ≤ l' → Lay.PenAt c H' p (n + 1) :=
      fun H' b' l' e1 e2 e3 e4 e5 => ⟨ns, b', l', e1, e2, h3, e3, e4, e5⟩
    have keep1 : ∀ o, Lay.Keep p H (upd H p o) := fun o => Lay.Keep.upd
    walk_at "in"
    walk_at "rd"
    refine Lay.ite_d (fun c0 => ?_) (fun c0 => ?_)
    · walk_at "rd"
      refine Lay.rd_modP hm (fun d0 e0 d1 d2 => ?_)
      walk_at "rd"
      refine Lay.rd_divP ⟨hm, hm2⟩ (fun d3 e3 => ?_)
      walk_at "rd"
      exact k _ _ d1 d2 (pen _ _ _ upd_same (by rw [upd_ne hc]; exact h2) h4 (by omega) (by rw [e3]; exact Int.ediv_nonneg h6 (by omega))) (keep1 _)
    · walk_at "rd"
      have hc1 : ∀ o, upd H p o c = some (.lst (ns.map V.int)) := fun o => by rw [upd_ne hc]; exact h2
      refine ⟨fun σ' H' => ∃ v : Int, σ' = [some (V.ref p), some (V.int m), none, some (V.int b), some (V.int v), none, none] ∧ H' p = some (.lst [.ref c, .int (b + 1), .int l]) ∧ H' c = some (.lst (ns.map V.int)) ∧ Lay.Keep p H H', ?_, ?_⟩
      · walk_at "rd"
        refine ⟨by decide, fun q hq => ?_⟩
        have q1 : (upd (upd H p (HO.lst [V.ref c, V.int (b + 1), V.int l])) q (.lst [])) c = some (.lst (ns.map V.int)) := Lay.upd_old hq (hc1 _)
        have q2 : (upd (upd H p (HO.lst [V.ref c, V.int (b + 1), V.int l])) q (.lst [])) p = some (.lst [.ref c, .int (b + 1), .int l]) := Lay.upd_old hq upd_same
        have q3 : Lay.Keep p H (upd (upd H p (HO.lst [V.ref c, V.int (b + 1), V.int l])) q (.lst [])) := (keep1 _).trans (Lay.Keep.of (Lay.Same.upd hq))
        refine Lay.rd_ne_nil (SqL.of q1) (SqL.of upd_same) (fun hne => ?_) (fun hne => ?_)
        · walk_at "rd"
          refine iteT ?_
          walk_at "rd"
          have hl : 0 < (ns.map V.int).length := by
            cases ns with
            | nil => exact absurd rfl hne
            | cons a r => simp
          refine Lay.rd_modP (by omega) (fun d0 e0 d1 d2 => ?_)
          have hd : d0.toNat < ns.length := by rw [List.length_map] at d2; omega
          refine Lay.rd_ixL (SqL.of q1) (v := .int ns[d0.toNat]) ?_ ?_
          · exact Lay.atI_int d1 (by rw [List.getElem?_map, List.getElem?_eq_getElem hd]; rfl)
          walk_at "rd"
          exact ⟨_, rfl, q2, q1, q3⟩
        · walk_at "rd"
          refine iteF ?_
          walk_at "rd"
          exact ⟨_, rfl, q2, q1, q3⟩
      · rintro σ' H' ⟨v, rfl, p1, p2, p3⟩
        have fin : (tSeq
            (tAsg (tOp Lay.rModP (tCB Lay.rInt1 (tCons (tOp (rI CPow fun i j => V.int (i ^ j.toNat)) (tOp (rI0 fun i j => V.int (i + j)) (tOp (rI0 fun i j => V.int (i + j)) (tOp Lay.rModP (tCB Lay.rInt1 (tCons (tVar 4) tNil)) (tC (V.int 2147483579))) (tOp (rI CMul fun i j => V.int (i * j)) (tC (V.int 50207)) (tVar 3))) (tC (V.int 41))) (tC (V.int 5))) tNil)) (tC (V.int 2147483647))) (gName 6))
            (tSeq
            (tAsg (tOp Lay.rModP (tCB Lay.rInt1 (tCons (tOp (rI CPow fun i j => V.int (i ^ j.toNat)) (tOp (rI0 fun i j => V.int (i + j)) (tOp (rI0 fun i j => V.int (i + j)) (tOp (rI CMul fun i j => V.int (i * j)) (tVar 6) (tOp (rI0 fun i j => V.int (i + j)) (tOp (rI CMul fun i j => V.int (i * j)) (tC (V.int 2)) (tVar 3)) (tC (V.int 31)))) (tOp (rI CMul fun i j => V.int (i * j)) (tOp (rI CMul fun i j => V.int (i * j)) (tC (V.int 60133)) (tVar 3)) (tVar 3))) (tC (V.int 13))) (tC (V.int 3))) tNil)) (tC (V.int 2147483563))) (gName 6))
            (tRet (tOp Lay.rModP (tOp Lay.rDivP (tCB Lay.rInt1 (tCons (tVar 6) tNil)) (tC (V.int 32))) (tVar 1))))) { nx := fun x H' => Q V.non H', rt := Q } [some (V.ref p), some (V.int m), none, some (V.int b), some (V.int v), none, none] H' := by
          walk_at "rd"
          refine Lay.rd_modP (by decide) (fun d0 e0 d1 d2 => ?_)
          walk_at "rd"
          refine Lay.rd_modP (by decide) (fun d3 e3 d4 d5 => ?_)
          walk_at "rd"
          refine Lay.rd_I (Lay.mix_ok d4 (by omega) h4 (by omega) (by decide) (by decide) (by decide) (by decide) (by decide) (by decide) (by decide) (by decide)) ?_
          walk_at "rd"
          refine Lay.rd_modP (by decide) (fun d6 e6 d7 d8 => ?_)
          walk_at "rd"
          refine Lay.rd_divP ⟨by decide, by decide⟩ (fun d9 e9 => ?_)
          walk_at "rd"
          refine Lay.rd_modP hm (fun d10 e10 d11 d12 => ?_)
          exact k _ _ d11 d12 (pen _ _ _ p1 p2 (by omega) (by omega) h6) p3
        walk_at "rd"
        refine Lay.ite_d (fun c1 => ?_) (fun c1 => ?_)
        · walk_at "rd"
          refine Lay.ite_d (fun c2 => ?_) (fun c2 => ?_)
          · walk_at "rd"
            refine Lay.rd_divP ⟨hm, hm2⟩ (fun d3 e3 => ?_)
            walk_at "rd"
            refine Lay.rd_modP hm (fun d4 e4 d5 d6 => ?_)
            refine k _ _ d5 d6 (pen _ _ _ upd_same (by rw [upd_ne hc]; exact p2) (by omega) (by omega) ?_) (p3.trans Lay.Keep.upd)
            rw [e3]
            refine Int.ediv_nonneg ?_ (by omega)
            have : (0 : Int) ≤ (if decide (v < 0) = true then 1 else 0) := by split <;> decide
            have c2' : (10 : Int) ^ 18 ≤ (if v < 0 then -v else v) := c2
            have : (0 : Int) ≤ (if v < 0 then -v else v) - 10 ^ 18 := by omega
            show (0 : Int) ≤ 2 * ((if v < 0 then -v else v) - 10 ^ 18) + (if decide (v < 0) = true then 1 else 0)
            omega
          · exact fin
        · exact fin
local macro_rules | `(tactic| walk_at "kz") => `(tactic| repeat first
  | exact Lay.Kps.nil
  | refine Lay.Kps.cons (.int _) ?_
  | refine Lay.Kps.cons (.str (by decide +kernel)) ?_
  | refine Lay.Kps.cons .non ?_
  | refine Lay.Kps.cons (.bl _) ?_
  | refine Lay.Kps.cons (.ref (.lst (by assumption)) (by assumption)) ?_
  | refine Lay.Kps.cons (.ref (.tup (by assumption)) (by assumption)) ?_
  | refine Lay.Kps.cons (.ref (.dK (by assumption)) (by assumption)) ?_)
theorem ok_thing (T : Txt K mg A)  (G_draw : FnOk P w K mg base CX0 1 A.a_draw A.d_draw ["_law_pen_here", "_law_many"] Lay.spDraw) : FnOk P w K mg base CX0 2 A.a_thing A.d_thing ["_law_pen_here"] Lay.spThing := by
  refine T.F_thing.ok sc_thing (fun vs H Q E h => ?_) (fun cdv A0 outer s H vs Q E hr h => ?_)
  · obtain ⟨p, n, c, rfl, _⟩ := h
    rfl
  · obtain ⟨p, n, c, rfl, hp, hn, q⟩ := h
    refine ⟨_, (pss_cons (ps_set (i := 1) sc_thing.nd rfl (Or.inl rfl) (pe_lst (pa_cons pe_non (pa_cons pe_bl (pa_cons pe_bl (pa_cons (pe_un un_neg pe_int) (pa_cons pe_int (pa_cons pe_int (pa_cons pe_int (pa_cons pe_int (pa_cons pe_int (pa_cons pe_int (pa_cons pe_int (pa_cons pe_int (pa_cons pe_int (pa_cons pe_int (pa_cons pe_int (pa_cons pe_int (pa_cons (pe_op op_pow pe_int pe_int) (pa_cons pe_str (pa_cons pe_str (pa_cons pe_str pa_nil))))))))))))))))))))))
    (pss_cons (ps_set (i := 1) sc_thing.nd rfl (Or.inl rfl) (pe_op op_cat (pv 1) (pe_lst (pa_cons pe_str (pa_cons pe_str (pa_cons pe_str (pa_cons pe_str (pa_cons pe_str (pa_cons pe_str (pa_cons pe_str (pa_cons pe_str (pa_cons (pe_tup pa_nil) (pa_cons (pe_lst pa_nil) (pa_cons pe_dnewK pa_nil))))))))))))))
    (pss_cons (ps_set (i := 1) sc_thing.nd rfl (Or.inl rfl) (pe_op op_cat (pv 1) (pe_lst (pa_cons (pe_tup (pa_cons pe_str pa_nil)) (pa_cons (pe_lst (pa_cons pe_int pa_nil)) (pa_cons (pe_disp (pps_cons pe_str pe_int pps_nil) (by rfl) (by rfl) (fun z => by cases z) (by decide)) (pa_cons (pe_tup (pa_cons pe_int (pa_cons pe_int pa_nil))) pa_nil)))))))
    (pss_one (ps_ret (pe_ix ix_list (pv 1) (pe_call G_draw (hr.mono (by decide)) rfl T.g_draw T.F_draw.kp T.b_draw .nil pass0 (pa_cons (pv 0) (pa_cons (pe_callB Lay.call_lenS (by rfl) T.n_len PySem.boot_len (pa_cons (pv 1) pa_nil)) pa_nil))) (fun _ _ => rfl))))))), ?_⟩
    walk_at "in"
    walk_at "rd"
    refine ⟨by decide, fun a1 h1 => ?_⟩
    walk_at "rd"
    refine ⟨by decide, fun a2 h2 => ?_⟩
    walk_at "rd"
    refine ⟨by decide, fun a3 h3 => ?_⟩
    walk_at "rd"
    refine Lay.rd_dnew (fun a4 h4 => ?_)
    walk_at "rd"
    refine ⟨by decide, fun a5 h5 => ?_⟩
    refine Lay.rd_cat (by walk_at "hp") upd_same (by simp only [List.length_cons, List.length_nil, List.length_append]; decide) (fun a6 h6 => ?_)
    walk_at "rd"
    refine ⟨by decide, fun a7 h7 => ?_⟩
    walk_at "rd"
    refine ⟨by decide, fun a8 h8 => ?_⟩
    walk_at "rd"
    refine Lay.rd_disp (fun a9 h9 => ?_)
    refine Lay.rd_pcons ?_
    walk_at "rd"
    refine Lay.rd_pnil ⟨upd_same, [(.inr "a", .int 0)], rfl, by decide, ?_⟩
    rw [Lay.upd2]
    walk_at "rd"
    refine ⟨by decide, fun a10 h10 => ?_⟩
    walk_at "rd"
    refine ⟨by decide, fun a11 h11 => ?_⟩
    refine Lay.rd_cat (by walk_at "hp") upd_same (by simp only [List.length_cons, List.length_nil, List.length_append]; decide) (fun a12 h12 => ?_)
    walk_at "rd"
    obtain ⟨xs0, hP⟩ := hp.at_
    refine Lay.rd_draw hp (by walk_at "sm") (by omega) (by decide) (by decide) (fun d H' d1 d2 hp' k' => ?_)
    refine Lay.rd_ixZ (SqL.of (k' _ _ (Lay.ne_none h12 (by walk_at "hp")) upd_same)) d1 d2 ?_ (fun v kv => q v H' kv hp' (Lay.Same.keep (by walk_at "sm") k'))
    have n2 := Lay.ne_none h2 (show _ = some (.lst xs0) by walk_at "hp")
    have q2 := k' a2 _ (Lay.ne_none h2 (by walk_at "hp")) (by walk_at "hp")
    have n3 := Lay.ne_none h3 (show _ = some (.lst xs0) by walk_at "hp")
    have q3 := k' a3 _ (Lay.ne_none h3 (by walk_at "hp")) (by walk_at "hp")
    have n4 := Lay.ne_none h4 (show _ = some (.lst xs0) by walk_at "hp")
    have q4 := k' a4 _ (Lay.ne_none h4 (by walk_at "hp")) (by walk_at "hp")
    have n7 := Lay.ne_none h7 (show _ = some (.lst xs0) by walk_at "hp")
    have q7 := k' a7 _ (Lay.ne_none h7 (by walk_at "hp")) (by walk_at "hp")
    have n8 := Lay.ne_none h8 (show _ = some (.lst xs0) by walk_at "hp")
    have q8 := k' a8 _ (Lay.ne_none h8 (by walk_at "hp")) (by walk_at "hp")
    have n9 := Lay.ne_none h9 (show _ = some (.lst xs0) by walk_at "hp")
    have q9 := k' a9 _ (Lay.ne_none h9 (by walk_at "hp")) (by walk_at "hp")
    have n10 := Lay.ne_none h10 (show _ = some (.lst xs0) by walk_at "hp")
    have q10 := k' a10 _ (Lay.ne_none h10 (by walk_at "hp")) (by walk_at "hp")
    walk_at "kz"
theorem ok_law_is_name (T : Txt K mg A) : FnOk P w K mg base CX0 1 A.a_law_is_name A.d_law_is_name ["_law_value"] Lay.spLawName := by
  refine T.F_law_is_name.ok sc_law_is_name (fun vs H Q E h => ?_) (fun cdv A0 outer s H vs Q E hr h => ?_)
  · obtain ⟨v, rfl, _⟩ := h
    rfl
  · obtain ⟨v, rfl, ⟨t, k, hz⟩, q⟩ := h
    refine ⟨_, (pss_cons (ps_if (PW.pt (pw_or (pt_not (pt_val (pe_callB call_isi (by rfl) T.n_isinstance (by decide +kernel) (pa_cons (pv 0) (pa_cons (pe_bltn (v := .ty "str") (by rfl) T.n_str (by decide +kernel) rfl) pa_nil))))) (pw_or (pt_cmpR op_lt (pe_callB Lay.call_lenStr (by rfl) T.n_len PySem.boot_len (pa_cons (pv 0) pa_nil)) pe_int (nomark _)) (pw_or1 (pt_cmpR op_gt (pe_callB Lay.call_lenStr (by rfl) T.n_len PySem.boot_len (pa_cons (pv 0) pa_nil)) pe_int (nomark _))))))
      (pss_one (ps_ret pe_bl))
      pss_nil)
    (pss_one (ps_ret (pe_callB (cr_all rfl) (by rfl) T.n_all (by decide +kernel) (pa_cons (pe_lc (own := [("_law_letter", 1)]) (g := gName 1) (tt := tYes) rfl sc_law_is_name.nd (pi_str (pv 0)) (blkOk_by (own := [("_law_letter", 1)]) (N := ["_law_value", "_law_letter"]) (sc := defScope s_law_is_name) (by decide +kernel)) (fun _ _ _ _ _ => pg_name (i := 1) sc_law_is_name.nd rfl (Or.inl rfl)) (fun _ _ _ _ _ => pts_nil) (fun _ _ _ _ _ => (pe_cmpR Lay.op_sign (pv 1) pe_str rfl))) pa_nil))))), ?_⟩
    walk_at "in"
    by_cases hs : ∃ z, v = .str z
    · obtain ⟨z, rfl⟩ := hs
      have hl := hz z rfl
      walk_at "rd"
      refine Lay.rd_isi .str (.str z) ?_
      walk_at "rd"
      refine iteF ?_
      walk_at "it"
      refine Lay.rd_lenV (by omega) ?_
      walk_at "rd"
      refine Lay.ite_d (fun c1 => ?_) (fun c1 => ?_)
      · walk_at "it"
        have e : Lay.isName (.str z) = false := by
          show Lay.nameOk z = false
          unfold Lay.nameOk
          have : ¬ 1 ≤ z.length := by omega
          rw [decide_eq_false this]
          rfl
        rw [e] at q
        exact q H (L2.Same.refl H)
      · walk_at "it"
        refine Lay.rd_lenV (by omega) ?_
        walk_at "rd"
        refine Lay.ite_d (fun c2 => ?_) (fun c2 => ?_)
        · walk_at "it"
          have e : Lay.isName (.str z) = false := by
            show Lay.nameOk z = false
            unfold Lay.nameOk
            have : ¬ z.length ≤ 8 := by omega
            rw [decide_eq_false this]
            simp
          rw [e] at q
          exact q H (L2.Same.refl H)
        · walk_at "it"
          intro D hD
          refine Lay.lc_go walk_str (fun i l H' => L2.Same H H' ∧ l = (z.cps.toList.take i).map fun c => V.bl (decide (97 ≤ c) && decide (c ≤ 122))) ⟨Lay.Same.upd hD, rfl⟩ (fun _ _ _ _ _ => trivial) ?_ ?_
          · rintro i l x H1 H2 hi hl hz' ⟨r1, r2⟩ ⟨rfl, c, hc, rfl⟩
            walk_at "rd"
            refine ⟨rfl, ?_⟩
            walk_at "it"
            refine Lay.lc_put hl hz' (by have : z.cps.size = z.length := rfl; omega) ⟨fun b o hb => ?_, ?_⟩
            · by_cases e : b = D
              · rw [e, hD] at hb; cases hb
              · rw [upd_ne e]; exact r1 b o hb
            · have hc' : z.cps.toList[i]? = some c := by simpa using hc
              rw [r2, Lay.take_succ hc', List.map_append, List.map_cons, List.map_nil, ← Lay.in_alphabet c]
              rfl
          · rintro l H1 hl hz' ⟨r1, rfl⟩
            walk_at "rd"
            have el : (z.cps.toList.take z.cps.size).map (fun c => V.bl (decide (97 ≤ c) && decide (c ≤ 122))) = (z.cps.toList.map fun c => decide (97 ≤ c) && decide (c ≤ 122)).map V.bl := by
              rw [List.take_of_length_le (by simp), List.map_map]
              rfl
            rw [el] at hl
            refine Lay.rd_alls (SqL.of hl) ?_
            have e : Lay.isName (.str z) = (z.cps.toList.map fun c => decide (97 ≤ c) && decide (c ≤ 122)).all id := by
              show Lay.nameOk z = _
              unfold Lay.nameOk
              have c1' : 1 ≤ z.length := by omega
              have c2' : z.length ≤ 8 := by omega
              rw [decide_eq_true c1', decide_eq_true c2', List.all_map]
              rfl
            rw [← e]
            exact q H1 r1
    · have e : Lay.isName v = false := by
        cases v with
        | str z => exact absurd ⟨z, rfl⟩ hs
        | _ => rfl
      rw [e] at q
      have t1 : Lay.isTy t .str = false := by
        cases k with
        | str z => exact absurd ⟨z, rfl⟩ hs
        | _ => rfl
      walk_at "rd"
      refine Lay.rd_isi .str k ?_
      rw [t1]
      walk_at "rd"
      refine iteT ?_
      walk_at "it"
      exact q H (L2.Same.refl H)
theorem ok_within (T : Txt K mg A) : FnOk P w K mg base CX0 1 A.a_within A.d_within ["_law_value", "_law_least", "_law_greatest"] Lay.spLawWithin := by
  refine T.F_within.ok sc_within (fun vs H Q E h => ?_) (fun cdv A0 outer s H vs Q E hr h => ?_)
  · obtain ⟨v, lo, hi, rfl, _⟩ := h
    rfl
  · obtain ⟨v, lo, hi, rfl, ⟨t, k, hz⟩, q⟩ := h
    clear hz
    refine ⟨_, (pss_one (ps_ret (pe_and (pe_callB call_isi (by rfl) T.n_isinstance (by decide +kernel) (pa_cons (pv 0) (pa_cons (pe_bltn (v := .ty "int") (by rfl) T.n_int (by decide +kernel) rfl) pa_nil))) (pe_and (pe_not (pe_callB call_isi (by rfl) T.n_isinstance (by decide +kernel) (pa_cons (pv 0) (pa_cons (pe_bltn (v := .ty "bool") (by rfl) T.n_bool (by decide +kernel) rfl) pa_nil)))) (pe_one (pe_chain op_le op_le (pv 1) (pv 0) (pv 2))))))), ?_⟩
    walk_at "in"
    cases k
    all_goals
      walk_at "rd"
      refine Lay.rd_isi .int (by first | exact .non | exact .bl _ | exact .int _ | exact .str _ | exact .lst (by assumption) | exact .tup (by assumption) | exact .dK (by assumption)) ?_
      walk_at "rd"
      first
        | exact iteF q
        | (refine iteT ?_
           walk_at "rd"
           refine Lay.rd_isi .bool (by first | exact .bl _ | exact .int _) ?_
           walk_at "rd"
           first
             | exact iteF q
             | (rename_i i
                refine iteT ?_
                walk_at "rd"
                refine Lay.ite_d (fun c => ?_) (fun c => ?_)
                · walk_at "rd"
                  have e : Lay.within (.int i) lo hi = decide (i ≤ hi) := by show (decide (lo ≤ i) && decide (i ≤ hi)) = _; rw [decide_eq_true c]; rfl
                  rw [e] at q
                  exact q
                · have e : Lay.within (.int i) lo hi = false := by show (decide (lo ≤ i) && decide (i ≤ hi)) = _; rw [decide_eq_false c]; rfl
                  rw [e] at q
                  exact q))
theorem ok_refusal (T : Txt K mg A) : FnOk P w K mg base CX0 1 A.a_refusal A.d_refusal ["_law_caught", "_law_reason", "_law_spot"] (Lay.spRefusal A.c_NoPart) := by
  refine T.F_refusal.ok sc_refusal (fun vs H Q E h => ?_) (fun cdv A0 outer s H vs Q E hr h => ?_)
  · obtain ⟨a, r, p, rfl, _⟩ := h
    rfl
  · obtain ⟨a, r, p, rfl, ha, hp, q⟩ := h
    refine ⟨_, (pss_cons (ps_if (PW.pt (pw_or (pt_not (pt_val (pe_callB Exv.call_isiW (by rfl) T.n_isinstance (by decide +kernel) (pa_cons (pv 0) (pa_cons (pe_glob (v := .ref A.c_NoPart) rfl T.g_NoPart rfl) pa_nil))))) (pw_or1 (pt_not (pt_val (pe_callB Exv.call_isiW (by rfl) T.n_isinstance (by decide +kernel) (pa_cons (pv 0) (pa_cons (pe_bltn (v := .ty "ValueError") (by rfl) T.n_ValueError (by decide +kernel) rfl) pa_nil))))))))
      (pss_one (ps_ret pe_bl))
      pss_nil)
    (pss_cons (ps_if (pt_val (pe_callB Exv.call_isiTW (by rfl) T.n_isinstance (by decide +kernel) (pa_cons (pv 0) (pa_cons (pe_tup (pa_cons (pe_glob (v := .ref A.c_NoNet) rfl T.g_NoNet rfl) (pa_cons (pe_glob (v := .ref A.c_NoName) rfl T.g_NoName rfl) (pa_cons (pe_glob (v := .ref A.c_NoStep) rfl T.g_NoStep rfl) (pa_cons (pe_glob (v := .ref A.c_NoDeed) rfl T.g_NoDeed rfl) (pa_cons (pe_glob (v := .ref A.c_NoText) rfl T.g_NoText rfl) (pa_cons (pe_glob (v := .ref A.c_NoRow) rfl T.g_NoRow rfl) pa_nil))))))) pa_nil))))
      (pss_one (ps_ret pe_bl))
      pss_nil)
    (pss_one (ps_ret (pe_and (pe_cmpR op_eq (Exv.pe_xv (pv 0)) (pv 1) (nomark _)) (pe_and (pe_cmpR op_eq (Exv.pe_xv (pv 0)) (pv 2) (nomark _)) (pe_one (pe_cmpR op_isBl (pe_callB call_isi (by rfl) T.n_isinstance (by decide +kernel) (pa_cons (Exv.pe_xv (pv 0)) (pa_cons (pe_bltn (v := .ty "bool") (by rfl) T.n_bool (by decide +kernel) rfl) pa_nil))) pe_bl (nomark _))))))))), ?_⟩
    walk_at "in"
    walk_at "rd"
    refine Exv.rd_isiW true (.own _) (ha.ty T.xc_NoPart) T.ki_NoPart_NoPart ?_
    walk_at "it"
    refine Exv.rd_isiW true (.ty _) (ha.ty T.xc_NoPart) T.kt_NoPart_ValueError ?_
    walk_at "it"
    refine ⟨by decide, fun tp htp => ?_⟩
    have s1 := Lay.Same.upd (o := .tup [V.ref A.c_NoNet, V.ref A.c_NoName, V.ref A.c_NoStep, V.ref A.c_NoDeed, V.ref A.c_NoText, V.ref A.c_NoRow]) htp
    have h1 := ha.mono s1
    walk_at "rd"
    refine Exv.rd_isiTW false upd_same (Paired.cons (.own _) (Paired.cons (.own _) (Paired.cons (.own _) (Paired.cons (.own _) (Paired.cons (.own _) (Paired.cons (.own _) (Paired.nil))))))) (h1.ty T.xc_NoPart) (Lay.kitAny_no T.ki_NoPart_NoNet (Lay.kitAny_no T.ki_NoPart_NoName (Lay.kitAny_no T.ki_NoPart_NoStep (Lay.kitAny_no T.ki_NoPart_NoDeed (Lay.kitAny_no T.ki_NoPart_NoText (Lay.kitAny_no T.ki_NoPart_NoRow kitAny_nil)))))) ?_
    walk_at "it"
    refine Lay.rd_xvV rfl h1 T.xf_NoPart T.nf_NoPart_reason (by rfl) ?_
    walk_at "rd"
    refine Lay.ite_d (fun _ => ?_) (fun c => absurd rfl c)
    walk_at "it"
    refine Lay.rd_xvV rfl h1 T.xf_NoPart T.nf_NoPart_place (by rfl) ?_
    walk_at "rd"
    rcases hp with rfl | ⟨i, rfl⟩
    · refine Lay.rd_eqV true rfl (decide_eq_true rfl) ?_
      walk_at "it"
      refine Lay.rd_xvV rfl h1 T.xf_NoPart T.nf_NoPart_place (by rfl) ?_
      walk_at "rd"
      refine Lay.rd_isi .bool .non ?_
      walk_at "rd"
      exact ⟨_, _, rfl, rfl, q _ s1⟩
    · refine Lay.rd_eqV true rfl (decide_eq_true rfl) ?_
      walk_at "it"
      refine Lay.rd_xvV rfl h1 T.xf_NoPart T.nf_NoPart_place (by rfl) ?_
      walk_at "rd"
      refine Lay.rd_isi .bool (.int _) ?_
      walk_at "rd"
      exact ⟨_, _, rfl, rfl, q _ s1⟩
theorem ok_good_step (T : Txt K mg A) (G_draw : FnOk P w K mg base CX0 1 A.a_draw A.d_draw ["_law_pen_here", "_law_many"] Lay.spDraw) : FnOk P w K mg base CX0 2 A.a_good_step A.d_good_step ["_law_pen_here", "_law_kind"] Lay.spGoodStep := by
  refine T.F_good_step.ok sc_good_step (fun vs H Q E h => ?_) (fun cdv A0 outer s H vs Q E hr h => ?_)
  · obtain ⟨p, k, n, c, rfl, _⟩ := h
    rfl
  · obtain ⟨p, k, n, c, rfl, hp, hn, q⟩ := h
    refine ⟨_, (pss_cons (ps_set (i := 2) sc_good_step.nd rfl (Or.inl rfl) (pe_lst (pa_cons pe_str (pa_cons pe_str (pa_cons pe_str (pa_cons pe_str (pa_cons pe_str (pa_cons pe_str (pa_cons pe_str (pa_cons pe_str (pa_cons pe_str (pa_cons pe_str (pa_cons pe_str pa_nil)))))))))))))
    (pss_cons (ps_set (i := 3) sc_good_step.nd rfl (Or.inl rfl) (pe_ix ix_list (pv 2) (pe_call G_draw (hr.mono (by decide)) rfl T.g_draw T.F_draw.kp T.b_draw .nil pass0 (pa_cons (pv 0) (pa_cons (pe_op op_sub pe_int (pe_op op_mul pe_int (pe_callTy Lay.call_intI (by rfl) T.n_int (by decide +kernel) (pa_cons (pe_cmpR op_eq (pv 1) pe_int (nomark _)) pa_nil)))) pa_nil))) (fun _ _ => rfl)))
    (pss_cons (ps_set (i := 4) sc_good_step.nd rfl (Or.inl rfl) (pe_op op_add_str pe_str (pe_slice sl_str pe_str po_none (po_some (pe_call G_draw (hr.mono (by decide)) rfl T.g_draw T.F_draw.kp T.b_draw .nil pass0 (pa_cons (pv 0) (pa_cons pe_int pa_nil)))))))
    (pss_cons (ps_if (pt_cmpR (Lay.op_inS hr.units) (pv 3) (pe_tup (pa_cons pe_str (pa_cons pe_str pa_nil))) rfl)
      (pss_one (ps_ret (pe_tup (pa_cons (pv 3) (pa_cons (pv 4) pa_nil)))))
      pss_nil)
    (pss_cons (ps_set (i := 5) sc_good_step.nd rfl (Or.inl rfl) (pe_call G_draw (hr.mono (by decide)) rfl T.g_draw T.F_draw.kp T.b_draw .nil pass0 (pa_cons (pv 0) (pa_cons pe_int pa_nil))))
    (pss_one (ps_ret (pe_tup (pa_cons (pv 3) (pa_cons (pv 4) (pa_cons (pe_call G_draw (hr.mono (by decide)) rfl T.g_draw T.F_draw.kp T.b_draw .nil pass0 (pa_cons (pv 0) (pa_cons pe_int pa_nil))) (pa_cons (pv 5) (pa_cons (pe_op op_add (pv 5) (pe_call G_draw (hr.mono (by decide)) rfl T.g_draw T.F_draw.kp T.b_draw .nil pass0 (pa_cons (pv 0) (pa_cons (pe_op op_sub pe_int (pv 5)) pa_nil)))) pa_nil))))))))))))), ?_⟩
    walk_at "in"
    walk_at "rd"
    refine ⟨by decide, fun a1 h1 => ?_⟩
    obtain ⟨xs0, hP⟩ := hp.at_
    have s1 := Lay.Same.upd (o := .lst (Lay.drawnWs.map V.str)) h1
    walk_at "rd"
    have hm : (if decide (k = 0) = true then (1 : Int) else 0) = (if k = 0 then 1 else 0) := by by_cases e : k = 0 <;> simp [e]
    rw [hm]
    have hm1 : (0 : Int) < 11 - 5 * (if k = 0 then 1 else 0) ∧ 11 - 5 * (if k = 0 then 1 else 0) < (1073741824 : Int) := by split <;> omega
    refine Lay.rd_draw hp s1 (by omega) hm1.1 hm1.2 (fun d H1 d1 d2 p1 k1 => ?_)
    obtain ⟨w', e1, hw, hcase⟩ := Lay.drawn_word d1 d2
    have kk1 := Lay.Same.keep s1 k1
    have q1 := k1 a1 _ (Lay.ne_none h1 hP) upd_same
    refine Lay.rd_ixL (SqL.of q1) (v := .str w') (Lay.atI_int d1 (by show (List.map V.str Lay.drawnWs)[d.toNat]? = _; rw [List.getElem?_map, e1]; rfl)) ?_
    walk_at "rd"
    refine Lay.rd_draw p1 (L2.Same.refl _) (by omega) (by decide) (by decide) (fun d' H2 d3 d4 p2 k2 => ?_)
    walk_at "rd"
    refine ⟨_, rfl, by decide, ?_⟩
    obtain ⟨hz, hzl⟩ := Lay.abz_ok d3 d4
    refine ⟨_, _, rfl, rfl, hzl, ?_⟩
    generalize ("buf" : Str) ++ cutS "abz" none (some d') = z at hz ⊢
    walk_at "rd"
    refine ⟨by decide, fun a2 h2 => ?_⟩
    refine Lay.rd_inS (zs := ["post", "wait"]) (SqT.of upd_same) (.str w') ?_
    have kk2 := kk1.trans k2
    rcases hcase with ⟨hs, hi⟩ | ⟨hs, hi⟩
    · rw [hi]
      walk_at "it"
      refine ⟨by decide, fun a3 h3 => ?_⟩
      obtain ⟨xs2, hP2⟩ := p2.at_
      have s3 := (Lay.Same.upd h2).trans (Lay.Same.upd (o := .tup [.str w', .str z]) h3)
      exact q a3 [.str w', .str z] _ (kk2.none hP2 (Lay.none_of (Lay.Same.upd h2) h3)) upd_same (.inl ⟨_, _, rfl, hs, hw, hz⟩) ((p2.mono s3).le (by omega)) (kk2.trans (Lay.Keep.of s3))
    · rw [hi]
      walk_at "it"
      refine Lay.rd_draw p2 (Lay.Same.upd h2) (by omega) (by decide) (by decide) (fun d5 H3 d6 d7 p3 k3 => ?_)
      have kk3 := kk2.trans (Lay.Same.keep (Lay.Same.upd h2) k3)
      walk_at "rd"
      refine Lay.rd_draw p3 (L2.Same.refl _) (by omega) (by decide) (by decide) (fun d8 H4 d9 d10 p4 k4 => ?_)
      walk_at "rd"
      refine Lay.rd_draw p4 (L2.Same.refl _) (by omega) (by omega) (by omega) (fun d11 H5 d12 d13 p5 k5 => ?_)
      walk_at "rd"
      refine ⟨by decide, fun a3 h3 => ?_⟩
      obtain ⟨xs5, hP5⟩ := p5.at_
      have kk5 := (kk3.trans k4).trans k5
      exact q a3 [.str w', .str z, .int d8, .int d5, .int (d5 + d11)] _ (kk5.none hP5 h3) upd_same (.inr ⟨_, _, _, _, _, rfl, hs, hw, hz, by omega, by omega, by omega, by omega, by omega⟩) (p5.mono (Lay.Same.upd h3)) (kk5.trans (Lay.Keep.of (Lay.Same.upd h3)))
theorem ok_law_is_step (T : Txt K mg A) (G_law_is_name : FnOk P w K mg base CX0 1 A.a_law_is_name A.d_law_is_name ["_law_value"] Lay.spLawName) (G_within : FnOk P w K mg base CX0 1 A.a_within A.d_within ["_law_value", "_law_least", "_law_greatest"] Lay.spLawWithin) : FnOk P w K mg base CX0 2 A.a_law_is_step A.d_law_is_step ["_law_value", "_law_kind"] Lay.spLawStep := by
  refine T.F_law_is_step.ok sc_law_is_step (fun vs H Q E h => ?_) (fun cdv A0 outer s H vs Q E hr h => ?_)
  · obtain ⟨v, o, k, rfl, _⟩ := h
    rfl
  · obtain ⟨v, o, k, rfl, hv, q⟩ := h
    refine ⟨_, (pss_cons (ps_if (PW.pt (pw_or (pt_not (pt_val (pe_callB call_isi (by rfl) T.n_isinstance (by decide +kernel) (pa_cons (pv 0) (pa_cons (pe_bltn (v := .ty "tuple") (by rfl) T.n_tuple (by decide +kernel) rfl) pa_nil))))) (pw_or (pt_cmpR op_notIn_seq (pe_callB Lay.call_lenS (by rfl) T.n_len PySem.boot_len (pa_cons (pv 0) pa_nil)) (pe_tup (pa_cons pe_int (pa_cons pe_int pa_nil))) rfl) (pw_or1 (pt_not (pt_val (pe_callB call_isi (by rfl) T.n_isinstance (by decide +kernel) (pa_cons (pe_ix ix_tup (pv 0) pe_int (fun _ _ => rfl)) (pa_cons (pe_bltn (v := .ty "str") (by rfl) T.n_str (by decide +kernel) rfl) pa_nil)))))))))
      (pss_one (ps_ret pe_bl))
      pss_nil)
    (pss_cons (ps_if (pt_not (pt_val (pe_call G_law_is_name (hr.mono (by decide)) rfl T.g_law_is_name T.F_law_is_name.kp T.b_law_is_name .nil pass0 (pa_cons (pe_ix ix_tup (pv 0) pe_int (fun _ _ => rfl)) pa_nil))))
      (pss_one (ps_ret pe_bl))
      pss_nil)
    (pss_cons (ps_if (pt_cmpR op_eq (pe_callB Lay.call_lenS (by rfl) T.n_len PySem.boot_len (pa_cons (pv 0) pa_nil)) pe_int (nomark _))
      (pss_one (ps_ret (pe_cmpR (Lay.op_inS hr.units) (pe_ix ix_tup (pv 0) pe_int (fun _ _ => rfl)) (pe_tup (pa_cons pe_str (pa_cons pe_str pa_nil))) rfl)))
      pss_nil)
    (pss_cons (ps_if (pt_cmpR (Lay.op_notInS hr.units) (pe_ix ix_tup (pv 0) pe_int (fun _ _ => rfl)) (pe_tup (pa_cons pe_str (pa_cons pe_str (pa_cons pe_str (pa_cons pe_str (pa_cons pe_str (pa_cons pe_str (pa_cons pe_str pa_nil)))))))) rfl)
      (pss_one (ps_ret pe_bl))
      pss_nil)
    (pss_cons (ps_if (PW.pt (pw_and (pt_cmpR op_eq (pv 1) pe_int (nomark _)) (pw_and1 (pt_cmpR (Lay.op_notInS hr.units) (pe_ix ix_tup (pv 0) pe_int (fun _ _ => rfl)) (pe_tup (pa_cons pe_str (pa_cons pe_str pa_nil))) rfl))))
      (pss_one (ps_ret pe_bl))
      pss_nil)
    (pss_one (ps_ret (pe_and (pe_call G_within (hr.mono (by decide)) rfl T.g_within T.F_within.kp T.b_within .nil pass0 (pa_cons (pe_ix ix_tup (pv 0) pe_int (fun _ _ => rfl)) (pa_cons pe_int (pa_cons pe_int pa_nil)))) (pe_and (pe_call G_within (hr.mono (by decide)) rfl T.g_within T.F_within.kp T.b_within .nil pass0 (pa_cons (pe_ix ix_tup (pv 0) pe_int (fun _ _ => rfl)) (pa_cons pe_int (pa_cons pe_int pa_nil)))) (pe_one (pe_call G_within (hr.mono (by decide)) rfl T.g_within T.F_within.kp T.b_within .nil pass0 (pa_cons (pe_ix ix_tup (pv 0) pe_int (fun _ _ => rfl)) (pa_cons (pe_ix ix_tup (pv 0) pe_int (fun _ _ => rfl)) (pa_cons pe_int pa_nil)))))))))))))), ?_⟩
    walk_at "in"
    have no : Lay.stepOk o = false → ∀ H', L2.Same H H' → Q (.bl false) H' := fun z => by
      rw [Lay.stepK_no z] at q
      exact q
    cases o with
    | none =>
      obtain ⟨_, t, kt, nt⟩ := hv
      walk_at "rd"
      refine Lay.rd_isi .tuple kt ?_
      rw [nt]
      walk_at "it"
      exact no rfl H (L2.Same.refl H)
    | some xs =>
      obtain ⟨_, ⟨p, rfl, hp⟩, hk⟩ := hv
      walk_at "rd"
      refine Lay.rd_isi .tuple (.tup hp) ?_
      walk_at "rd"
      refine iteF ?_
      walk_at "it"
      refine ⟨by decide, fun a1 h1 => ?_⟩
      have s1 := Lay.Same.upd (o := .tup [.int 2, .int 5]) h1
      refine Lay.rd_notInI (ns := [2, 5]) (SqT.of upd_same) ?_
      walk_at "rd"
      refine Lay.ite_n (fun cl => ?_) (fun cl => ?_)
      · walk_at "it"
        exact no (Lay.stepOk_many (fun z => cl (by rw [z]; decide)) (fun z => cl (by rw [z]; decide))) _ s1
      have l25 : xs.length = 2 ∨ xs.length = 5 := by
        simp only [List.mem_cons, List.not_mem_nil, or_false] at cl
        omega
      have hp1 := s1 _ _ hp
      obtain ⟨wd, n, r, ex⟩ : ∃ wd n r, xs = wd :: n :: r := by
        match xs, l25 with
        | [a, b], _ => exact ⟨a, b, _, rfl⟩
        | [a, b, _, _, _], _ => exact ⟨a, b, _, rfl⟩
      have e0 : xs[0]? = some wd := by rw [ex]; rfl
      have e1 : xs[1]? = some n := by rw [ex]; rfl
      have kwd := hk wd (List.mem_of_getElem? e0)
      have kn := hk n (List.mem_of_getElem? e1)
      walk_at "it"
      refine Lay.rd_ixT (SqT.of hp1) (Lay.atI_nat (i := 0) e0) ?_
      walk_at "rd"
      obtain ⟨tw, kw, _⟩ := kwd
      by_cases hs : ∃ z, wd = .str z
      case neg =>
        have t1 : Lay.isTy tw .str = false := by
          cases kw with
          | str z => exact absurd ⟨z, rfl⟩ hs
          | _ => rfl
        refine Lay.rd_isi .str (kw.mono s1) ?_
        rw [t1]
        walk_at "it"
        refine no (Lay.stepOk_head e0 fun zs => ?_) _ s1
        cases wd with
        | str z => exact absurd ⟨z, rfl⟩ hs
        | _ => rfl
      obtain ⟨z, rfl⟩ := hs
      refine Lay.rd_isi .str (.str z) ?_
      walk_at "rd"
      refine iteF ?_
      walk_at "it"
      refine Lay.rd_ixT (SqT.of hp1) (Lay.atI_nat (i := 1) e1) ?_
      walk_at "rd"
      refine ⟨n, rfl, kn.mono s1, fun H2 s2 => ?_⟩
      have s12 := s1.trans s2
      by_cases hn : Lay.isName n = true
      case neg =>
        rw [Bool.eq_false_iff.mpr hn]
        walk_at "it"
        exact no (Lay.stepOk_name e1 (Bool.eq_false_iff.mpr hn)) _ s12
      rw [hn]
      have hp2 := s12 _ _ hp
      walk_at "it"
      refine Lay.ite_d (fun c2 => ?_) (fun c2 => ?_)
      · have l2 : xs.length = 2 := by omega
        match xs, l2, e0, e1 with
        | [_, _], _, e0, e1 =>
          cases e0
          cases e1
          rw [Lay.stepK_two hn] at q
          walk_at "it"
          refine ⟨by decide, fun a3 h3 => ?_⟩
          refine Lay.rd_inS (zs := ["post", "wait"]) (SqT.of upd_same) (.str z) ?_
          exact q _ (s12.trans (Lay.Same.upd h3))
      · have l5 : xs.length = 5 := by omega
        match xs, l5, e0, e1 with
        | [_, _, s0, f, l], _, e0, e1 =>
          cases e0
          cases e1
          have ks := hk s0 (by simp)
          have kf := hk f (by simp)
          have kl := hk l (by simp)
          walk_at "it"
          refine ⟨by decide, fun a3 h3 => ?_⟩
          have s3 := s12.trans (Lay.Same.upd (o := .tup (Lay.memWords.map V.str)) h3)
          refine Lay.rd_notInS (zs := Lay.memWords) (SqT.of upd_same) (.str z) ?_
          walk_at "rd"
          by_cases hm : Lay.inStrs (.str z) Lay.memWords = true
          case neg =>
            rw [Bool.eq_false_iff.mpr hm]
            walk_at "it"
            refine no ?_ _ s3
            show Lay.memOk _ _ _ _ _ = false
            unfold Lay.memOk
            rw [Bool.eq_false_iff.mpr hm, Bool.false_and]
          rw [hm]
          rw [Lay.stepK_five hn hm] at q
          walk_at "it"
          have hp3 := s3 _ _ hp
          have last : ∀ H4, L2.Same H H4 → (∀ H', L2.Same H H' → Q (.bl (Lay.within s0 0 3 && (Lay.within f 0 7 && Lay.lastIn f l))) H') →
              (tRet (tAndV (tCall Lay.spLawWithin [] E0 (tCons (tOp (rIxT K) (tVar 0) (tC (V.int 2))) (tCons (tC (V.int 0)) (tCons (tC (V.int 3)) tNil))))
                (tAndV (tCall Lay.spLawWithin [] E0 (tCons (tOp (rIxT K) (tVar 0) (tC (V.int 3))) (tCons (tC (V.int 0)) (tCons (tC (V.int 7)) tNil))))
                  (tCall Lay.spLawWithin [] E0 (tCons (tOp (rIxT K) (tVar 0) (tC (V.int 4))) (tCons (tOp (rIxT K) (tVar 0) (tC (V.int 3))) (tCons (tC (V.int 7)) tNil))))))) { nx := fun x H' => Q V.non H', rt := Q } [some (V.ref p), some (V.int k)] H4 := by
            intro H4 s4 q
            have hp4 := s4 _ _ hp
            walk_at "rd"
            refine ⟨s0, 0, 3, rfl, ks.mono s4, ?_⟩
            walk_at "rd"
            by_cases c6 : Lay.within s0 0 3 = true
            case neg =>
              rw [Bool.eq_false_iff.mpr c6] at q ⊢
              walk_at "it"
              exact q _ s4
            rw [c6] at q ⊢
            rw [Bool.true_and] at q
            walk_at "it"
            refine ⟨f, 0, 7, rfl, kf.mono s4, ?_⟩
            walk_at "rd"
            by_cases c7 : Lay.within f 0 7 = true
            case neg =>
              rw [Bool.eq_false_iff.mpr c7] at q ⊢
              walk_at "it"
              exact q _ s4
            obtain ⟨i, rfl, _, _⟩ := Lay.within_int c7
            rw [c7] at q ⊢
            rw [Bool.true_and] at q
            walk_at "it"
            exact ⟨l, i, 7, rfl, kl.mono s4, q _ s4⟩
          refine Lay.ite_d (fun c4 => ?_) (fun c4 => ?_)
          · rw [if_pos c4] at q
            walk_at "it"
            refine ⟨by decide, fun a4 h4 => ?_⟩
            have s4 := s3.trans (Lay.Same.upd (o := .tup [.str "read", .str "write"]) h4)
            refine Lay.rd_notInS (zs := ["read", "write"]) (SqT.of upd_same) (.str z) ?_
            walk_at "rd"
            by_cases c5 : Lay.inStrs (.str z) ["read", "write"] = true
            case neg =>
              rw [Bool.eq_false_iff.mpr c5] at q ⊢
              walk_at "it"
              exact q _ s4
            rw [c5] at q ⊢
            rw [Bool.true_and] at q
            refine iteF ?_
            refine Lay.rd_next ?_
            exact last _ s4 q
          · rw [if_neg c4, Bool.true_and] at q
            refine iteF ?_
            refine Lay.rd_next ?_
            exact last _ s3 q
local macro_rules | `(tactic| walk_at "sv") => `(tactic| repeat first
  | exact Lay.SVL.nil
  | refine Lay.SVL.cons (Lay.SVp.int _) ?_
  | refine Lay.SVL.cons (Lay.SVp.str (by decide +kernel)) ?_
  | refine Lay.SVL.cons Lay.SVp.non ?_
  | refine Lay.SVL.cons (Lay.SVp.bl _) ?_
  | refine Lay.SVL.cons ⟨_, Lay.SVp.tup (by assumption) (by assumption) (by walk_at "kz")⟩ ?_)
theorem ok_bent_step (T : Txt K mg A) (G_draw : FnOk P w K mg base CX0 1 A.a_draw A.d_draw ["_law_pen_here", "_law_many"] Lay.spDraw) (G_good_step : FnOk P w K mg base CX0 2 A.a_good_step A.d_good_step ["_law_pen_here", "_law_kind"] Lay.spGoodStep) (G_thing : FnOk P w K mg base CX0 2 A.a_thing A.d_thing ["_law_pen_here"] Lay.spThing) : FnOk P w K mg base CX0 3 A.a_bent_step A.d_bent_step ["_law_pen_here", "_law_kind"] Lay.spBentX := by
  refine T.F_bent_step.ok sc_bent_step (fun vs H Q E h => ?_) (fun cdv A0 outer s H vs Q E hr h => ?_)
  · obtain ⟨p, k, n, c, rfl, _⟩ := h
    rfl
  · obtain ⟨p, k, n, c, rfl, hp, hn, q⟩ := h
    refine ⟨_, (pss_cons (ps_set (i := 2) sc_bent_step.nd rfl (Or.inl rfl) (pe_call G_good_step (hr.mono (by decide)) rfl T.g_good_step T.F_good_step.kp T.b_good_step .nil pass0 (pa_cons (pv 0) (pa_cons (pv 1) pa_nil))))
    (pss_cons (ps_set (i := 3) sc_bent_step.nd rfl (Or.inl rfl) (pe_call G_draw (hr.mono (by decide)) rfl T.g_draw T.F_draw.kp T.b_draw .nil pass0 (pa_cons (pv 0) (pa_cons pe_int pa_nil))))
    (pss_cons (ps_if (pt_cmpR op_eq (pv 3) pe_int (nomark _))
      (pss_one (ps_ret (pe_callTy Lay.call_listS (by rfl) T.n_list (by decide +kernel) (pa_cons (pv 2) pa_nil))))
      pss_nil)
    (pss_cons (ps_if (pt_cmpR op_eq (pv 3) pe_int (nomark _))
      (pss_one (ps_ret (pe_op op_catA (pv 2) (pe_tup (pa_cons pe_int pa_nil)))))
      pss_nil)
    (pss_cons (ps_if (pt_cmpR op_eq (pv 3) pe_int (nomark _))
      (pss_one (ps_ret (pe_slice sl_tupA (pv 2) po_none (po_some (pe_op op_sub (pe_callB Lay.call_lenS (by rfl) T.n_len PySem.boot_len (pa_cons (pv 2) pa_nil)) pe_int)))))
      pss_nil)
    (pss_cons (ps_if (pt_cmpR op_eq (pv 3) pe_int (nomark _))
      (pss_cons (ps_set (i := 4) sc_bent_step.nd rfl (Or.inl rfl) (pe_lst (pa_cons (pe_tup pa_nil) (pa_cons pe_non (pa_cons pe_str (pa_cons (pe_tup (pa_cons pe_str pa_nil)) (pa_cons pe_int (pa_cons (pe_tup (pa_cons pe_str (pa_cons pe_str pa_nil))) (pa_cons (pe_tup (pa_cons pe_str (pa_cons pe_str (pa_cons pe_int (pa_cons pe_int (pa_cons pe_int pa_nil)))))) (pa_cons (pe_tup (pa_cons pe_bl (pa_cons pe_str pa_nil))) pa_nil))))))))))
      (pss_one (ps_ret (pe_ix ix_list (pv 4) (pe_call G_draw (hr.mono (by decide)) rfl T.g_draw T.F_draw.kp T.b_draw .nil pass0 (pa_cons (pv 0) (pa_cons pe_int pa_nil))) (fun _ _ => rfl)))))
      pss_nil)
    (pss_cons (ps_if (pt_cmpR op_eq (pv 3) pe_int (nomark _))
      (pss_one (ps_ret (pe_op op_catA (pe_tup (pa_cons (pe_ix ix_list (pe_lst (pa_cons pe_str (pa_cons pe_str (pa_cons pe_str (pa_cons pe_str (pa_cons pe_str (pa_cons pe_str (pa_cons pe_str (pa_cons pe_str pa_nil))))))))) (pe_call G_draw (hr.mono (by decide)) rfl T.g_draw T.F_draw.kp T.b_draw .nil pass0 (pa_cons (pv 0) (pa_cons pe_int pa_nil))) (fun _ _ => rfl)) pa_nil)) (pe_slice sl_tupA (pv 2) (po_some pe_int) po_none))))
      pss_nil)
    (pss_cons (ps_set (i := 5) sc_bent_step.nd rfl (Or.inl rfl) (pe_call G_draw (hr.mono (by decide)) rfl T.g_draw T.F_draw.kp T.b_draw .nil pass0 (pa_cons (pv 0) (pa_cons (pe_callB Lay.call_lenS (by rfl) T.n_len PySem.boot_len (pa_cons (pv 2) pa_nil)) pa_nil))))
    (pss_one (ps_ret (pe_op op_catA (pe_op op_catA (pe_slice sl_tupA (pv 2) po_none (po_some (pv 5))) (pe_tup (pa_cons (pe_call G_thing (hr.mono (by decide)) rfl T.g_thing T.F_thing.kp T.b_thing .nil pass0 (pa_cons (pv 0) pa_nil)) pa_nil))) (pe_slice sl_tupA (pv 2) (po_some (pe_op op_add (pv 5) pe_int)) po_none)))))))))))), ?_⟩
    walk_at "in"
    walk_at "rd"
    refine ⟨p, k, n, c, rfl, hp, by omega, fun a l H1 ha hl gl p1 k1 => ?_⟩
    obtain ⟨xs0, hP0⟩ := hp.at_
    have nap : a ≠ p := Lay.ne_none ha hP0
    have hl2 := Lay.good_many gl
    have kp1 : ∀ H', ∀ x ∈ l, Lay.Kp p H' x := fun H' => Lay.good_kp gl
    walk_at "rd"
    refine Lay.rd_draw p1 (L2.Same.refl _) (by omega) (by decide) (by decide) (fun ch H2 c0 c1 p2 k2 => ?_)
    have K2 := k1.trans k2
    have hl' := k2 _ _ nap hl
    have pend : ∀ H', Lay.PenAt c H' p (n + 6) → Lay.PenAt c H' p (n + 10) := fun H' z => z.le (by omega)
    clear hl k1 k2 p1
    obtain ⟨xs2, hP2⟩ := p2.at_
    walk_at "rd"
    refine Lay.ite_d (fun _ => ?_) (fun _ => ?_)
    · -- a list
      walk_at "it"
      refine Lay.rd_listT (SqT.of hl') (fun r hr1 => ?_)
      have nrp := Lay.ne_none hr1 hP2
      exact q _ _ _ (Lay.SVp.no (.lst upd_same) (.lst upd_same) rfl (fun z => nrp (V.ref.inj z))) (pend _ (p2.mono (Lay.Same.upd hr1))) (K2.trans (Lay.Keep.of (Lay.Same.upd hr1)))
    walk_at "it"
    refine Lay.ite_d (fun _ => ?_) (fun _ => ?_)
    · -- one more
      walk_at "it"
      refine ⟨by decide, fun b hb => ?_⟩
      have s1 := Lay.Same.upd (o := .tup [.int 0]) hb
      refine Lay.rd_catT (s1 _ _ hl') upd_same (by show l.length + 1 ≤ 1000; omega) (fun r H3 s2 e3 w => ?_)
      have s12 := s1.trans s2
      have nrp : r ≠ p := fun z => by
        subst z
        rw [s12 _ _ hP2] at e3; cases e3
      refine q _ _ _ (Lay.SVp.tup e3 nrp fun x m => ?_) (pend _ (p2.mono s12)) (K2.trans (Lay.Keep.of s12))
      rcases List.mem_append.mp m with m | m
      · exact kp1 _ x m
      · obtain rfl : x = .int 0 := by simpa using m
        exact .int _
    walk_at "it"
    refine Lay.ite_d (fun _ => ?_) (fun _ => ?_)
    · -- one fewer
      walk_at "it"
      have el : ((l.length : Int) - 1) = ((l.length - 1 : Nat) : Int) := by omega
      rw [el]
      refine Lay.rd_slT hl' (Lay.cut_take (by omega)) (fun r H3 s2 e3 w => ?_)
      have nrp : r ≠ p := fun z => by
        subst z
        rw [s2 _ _ hP2] at e3; cases e3
      exact q _ _ _ (Lay.SVp.tup e3 nrp fun x m => kp1 _ x (List.mem_of_mem_take m)) (pend _ (p2.mono s2)) (K2.trans (Lay.Keep.of s2))
    walk_at "it"
    refine Lay.ite_d (fun _ => ?_) (fun _ => ?_)
    · -- something else
      walk_at "it"
      refine ⟨by decide, fun b1 h1 => ?_⟩
      walk_at "rd"
      refine ⟨by decide, fun b2 h2 => ?_⟩
      walk_at "rd"
      refine ⟨by decide, fun b3 h3 => ?_⟩
      walk_at "rd"
      refine ⟨by decide, fun b4 h4 => ?_⟩
      walk_at "rd"
      refine ⟨by decide, fun b5 h5 => ?_⟩
      walk_at "rd"
      refine ⟨by decide, fun b6 h6 => ?_⟩
      walk_at "rd"
      refine Lay.rd_draw p2 (by walk_at "sm") (by omega) (by decide) (by decide) (fun d H4 d1 d2 p4 k4 => ?_)
      have n1 := Lay.ne_none h1 (show _ = some (.lst xs2) by walk_at "hp")
      have n2 := Lay.ne_none h2 (show _ = some (.lst xs2) by walk_at "hp")
      have n3 := Lay.ne_none h3 (show _ = some (.lst xs2) by walk_at "hp")
      have n4 := Lay.ne_none h4 (show _ = some (.lst xs2) by walk_at "hp")
      have n5 := Lay.ne_none h5 (show _ = some (.lst xs2) by walk_at "hp")
      have n6 := Lay.ne_none h6 (show _ = some (.lst xs2) by walk_at "hp")
      refine Lay.rd_ixS (SqL.of (k4 _ _ n6 upd_same)) d1 d2 ?_ (fun v o hv => q v o H4 hv (p4.le (by omega)) (K2.trans (Lay.Same.keep (by walk_at "sm") k4)))
      have q1 := k4 b1 _ n1 (by walk_at "hp")
      have q2 := k4 b2 _ n2 (by walk_at "hp")
      have q3 := k4 b3 _ n3 (by walk_at "hp")
      have q4 := k4 b4 _ n4 (by walk_at "hp")
      have q5 := k4 b5 _ n5 (by walk_at "hp")
      walk_at "sv"
    walk_at "it"
    refine Lay.ite_d (fun _ => ?_) (fun _ => ?_)
    · -- another word
      walk_at "it"
      refine ⟨by decide, fun b1 h1 => ?_⟩
      walk_at "rd"
      refine Lay.rd_draw p2 (by walk_at "sm") (by omega) (by decide) (by decide) (fun d H4 d1 d2 p4 k4 => ?_)
      have n1 := Lay.ne_none h1 hP2
      have K4 := K2.trans (Lay.Same.keep (by walk_at "sm") k4)
      have hl4 := k4 a _ nap (Lay.upd_old h1 hl')
      obtain ⟨xs4, hP4⟩ := p4.at_
      have p4' := p4.le (show n + 5 + 1 + 1 ≤ n + 10 by omega)
      refine Lay.rd_ixZ (p := p) (SqL.of (k4 _ _ n1 upd_same)) d1 d2 (by walk_at "kz") (fun v kv => ?_)
      walk_at "rd"
      refine ⟨by decide, fun b2 h2 => ?_⟩
      have s2 := Lay.Same.upd (o := .tup [v]) h2
      walk_at "rd"
      refine Lay.rd_slT (s2 _ _ hl4) (Lay.cut_drop (k := 1) (by omega)) (fun b3 H5 s3 e5 w3 => ?_)
      have s23 := s2.trans s3
      refine Lay.rd_catT (s3 _ _ upd_same) e5 (by rw [List.length_drop]; show 1 + _ ≤ 1000; omega) (fun r H6 s4 e6 w => ?_)
      have s24 := s23.trans s4
      have nrp : r ≠ p := fun z => by
        subst z
        rw [s24 _ _ hP4] at e6; cases e6
      refine q _ _ _ (Lay.SVp.tup e6 nrp fun x m => ?_) (p4'.mono s24) (K4.trans (Lay.Keep.of s24))
      rcases List.mem_append.mp m with m | m
      · obtain rfl : x = v := by simpa using m
        exact kv.mono s24
      · exact kp1 _ x (List.mem_of_mem_drop m)
    -- some other value in one part
    walk_at "it"
    refine Lay.rd_draw p2 (L2.Same.refl _) (by omega) (by omega) (by omega) (fun d H4 d1 d2 p4 k4 => ?_)
    have K4 := K2.trans k4
    have hl4 := k4 a _ nap hl'
    obtain ⟨xs4, hP4⟩ := p4.at_
    obtain ⟨i, rfl⟩ : ∃ i : Nat, d = (i : Int) := ⟨d.toNat, by omega⟩
    walk_at "rd"
    refine Lay.rd_slT hl4 (Lay.cut_take (k := i) (by omega)) (fun b1 H5 s1 e5 w1 => ?_)
    obtain ⟨xs5, hP5⟩ := (p4.mono s1).at_
    have nb1 : b1 ≠ p := fun z => by
      subst z
      rw [hP5] at e5; cases e5
    walk_at "rd"
    refine ⟨p, n + 5 + 1 + 1, c, rfl, p4.mono s1, by omega, fun v H6 kv p6 k6 => ?_⟩
    have e6 := k6 _ _ nb1 e5
    have K6 := (K4.trans (Lay.Keep.of s1)).trans k6
    have hl6 := k6 _ _ nap (s1 _ _ hl4)
    have p6' := p6.le (show n + 5 + 1 + 1 + 1 ≤ n + 10 by omega)
    obtain ⟨xs6, hP6⟩ := p6.at_
    walk_at "rd"
    refine ⟨by decide, fun b2 h2 => ?_⟩
    have s2 := Lay.Same.upd (o := .tup [v]) h2
    refine Lay.rd_catT (s2 _ _ e6) upd_same (by rw [List.length_take]; show _ + 1 ≤ 1000; omega) (fun b3 H7 s3 e7 w3 => ?_)
    have s23 := s2.trans s3
    walk_at "rd"
    have ei : ((i : Int) + 1) = ((i + 1 : Nat) : Int) := by omega
    rw [ei]
    refine Lay.rd_slT (s23 _ _ hl6) (Lay.cut_drop (k := i + 1) (by omega)) (fun b4 H8 s4 e8 w4 => ?_)
    have s24 := s23.trans s4
    refine Lay.rd_catT (s4 _ _ e7) e8 (by rw [List.length_append, List.length_take, List.length_drop]; show _ + 1 + _ ≤ 1000; omega) (fun r H9 s5 e9 w => ?_)
    have s25 := s24.trans s5
    have nrp : r ≠ p := fun z => by
      subst z
      rw [s25 _ _ hP6] at e9; cases e9
    refine q _ _ _ (Lay.SVp.tup e9 nrp fun x m => ?_) (p6'.mono s25) (K6.trans (Lay.Keep.of s25))
    rcases List.mem_append.mp m with m | m
    · rcases List.mem_append.mp m with m | m
      · exact kp1 _ x (List.mem_of_mem_take m)
      · obtain rfl : x = v := by simpa using m
        exact kv.mono s25
    · exact kp1 _ x (List.mem_of_mem_drop m)
local macro_rules | `(tactic| walk_at "dc") => `(tactic| first
  | refine Lay.ite_d (fun _ => ?_) (fun c => absurd rfl c)
  | refine Lay.ite_d (fun c => absurd c (by decide)) (fun _ => ?_))
local macro_rules | `(tactic| walk_at "itd") => `(tactic| ((try walk_at "it"); (repeat (walk_at "dc"; (try walk_at "it")))))
theorem ok_direct (T : Txt K mg A) (G_Agent_init : FnR P w K mg base (L2.CX P w) 6 A.a_Agent_init (Lay.spStar 2 (Lay.spAgInitX A.c_Agent A.c_NoPart Lay.plainWs))) (G_Through_init : FnR P w K mg base (L2.CX P w) 6 A.a_Through_init (Lay.spStar 2 (Lay.spAgInitX A.c_Through A.c_NoPart Lay.cacheWs))) (G_Back_init : FnR P w K mg base (L2.CX P w) 6 A.a_Back_init (Lay.spStar 2 (Lay.spAgInitX A.c_Back A.c_NoPart Lay.cacheWs))) : FnOk P w K mg base (L2.CX P w) 8 A.a_direct A.d_direct ["_law_kind", "_law_called", "_law_handed"] (Lay.spDirectX (Lay.kAg A.c_Agent A.c_Through A.c_Back) A.c_NoPart) := by
  refine T.F_direct.okX sc_direct (fun vs H Q E h => ?_) (fun cdv A0 outer s H vs Q E hr h => ?_)
  · obtain ⟨k, v, a, xs, os, rfl, _⟩ := h
    rfl
  · obtain ⟨k, v, a, xs, os, rfl, k0, k2, hv, ha, hx, l1, l2, q⟩ := h
    refine ⟨_, (pss_cons (ps_if (PW.pt (pw_and (pt_cmpR op_eq (pe_callB Lay.call_lenS (by rfl) T.n_len PySem.boot_len (pa_cons (pv 2) pa_nil)) pe_int (nomark _)) (pw_and1 (pt_cmpR op_eq (pv 0) pe_int (nomark _)))))
      (pss_one (ps_ret (StX.pe_makeR (E := E) T.mk_Agent G_Agent_init (hr.mono (by decide)) rfl T.g_Agent (passes_call (takes_of rfl rfl rfl rfl) (fun _ _ _ _ h => h)) (pa_cons (pv 1) (pa_cons (pe_ix ix_list (pv 2) pe_int (fun _ _ => rfl)) pa_nil)))))
      pss_nil)
    (pss_cons (ps_if (PW.pt (pw_and (pt_cmpR op_eq (pe_callB Lay.call_lenS (by rfl) T.n_len PySem.boot_len (pa_cons (pv 2) pa_nil)) pe_int (nomark _)) (pw_and1 (pt_cmpR op_eq (pv 0) pe_int (nomark _)))))
      (pss_one (ps_ret (StX.pe_makeR (E := E) T.mk_Through G_Through_init (hr.mono (by decide)) rfl T.g_Through (passes_call (takes_of rfl rfl rfl rfl) (fun _ _ _ _ h => h)) (pa_cons (pv 1) (pa_cons (pe_ix ix_list (pv 2) pe_int (fun _ _ => rfl)) pa_nil)))))
      pss_nil)
    (pss_cons (ps_if (pt_cmpR op_eq (pe_callB Lay.call_lenS (by rfl) T.n_len PySem.boot_len (pa_cons (pv 2) pa_nil)) pe_int (nomark _))
      (pss_one (ps_ret (StX.pe_makeR (E := E) T.mk_Back G_Back_init (hr.mono (by decide)) rfl T.g_Back (passes_call (takes_of rfl rfl rfl rfl) (fun _ _ _ _ h => h)) (pa_cons (pv 1) (pa_cons (pe_ix ix_list (pv 2) pe_int (fun _ _ => rfl)) pa_nil)))))
      pss_nil)
    (pss_cons (ps_if (pt_cmpR op_eq (pv 0) pe_int (nomark _))
      (pss_one (ps_ret (StX.pe_makeR (E := E) T.mk_Agent G_Agent_init (hr.mono (by decide)) rfl T.g_Agent (passes_call (takes_of rfl rfl rfl rfl) (fun _ _ _ _ h => h)) (pa_cons (pv 1) (pa_cons (pe_ix ix_list (pv 2) pe_int (fun _ _ => rfl)) (pa_cons (pe_ix ix_list (pv 2) pe_int (fun _ _ => rfl)) pa_nil))))))
      pss_nil)
    (pss_cons (ps_if (pt_cmpR op_eq (pv 0) pe_int (nomark _))
      (pss_one (ps_ret (StX.pe_makeR (E := E) T.mk_Through G_Through_init (hr.mono (by decide)) rfl T.g_Through (passes_call (takes_of rfl rfl rfl rfl) (fun _ _ _ _ h => h)) (pa_cons (pv 1) (pa_cons (pe_ix ix_list (pv 2) pe_int (fun _ _ => rfl)) (pa_cons (pe_ix ix_list (pv 2) pe_int (fun _ _ => rfl)) pa_nil))))))
      pss_nil)
    (pss_one (ps_ret (StX.pe_makeR (E := E) T.mk_Back G_Back_init (hr.mono (by decide)) rfl T.g_Back (passes_call (takes_of rfl rfl rfl rfl) (fun _ _ _ _ h => h)) (pa_cons (pv 1) (pa_cons (pe_ix ix_list (pv 2) pe_int (fun _ _ => rfl)) (pa_cons (pe_ix ix_list (pv 2) pe_int (fun _ _ => rfl)) pa_nil))))))))))), ?_⟩
    walk_at "in"
    have hk : k = 0 ∨ k = 1 ∨ k = 2 := by omega
    rcases xs with _ | ⟨y0, _ | ⟨y1, _ | ⟨y2, r⟩⟩⟩
    · exact absurd l1 (by decide)
    · rcases hk with rfl | rfl | rfl
      · walk_at "itd"
        refine Lay.rd_makeR ?_
        walk_at "rd"
        exact Lay.mk_agX (Q' := Q) (Q := fun x H => Q (.ref x) H) (fun _ _ h => h) hv hx (by simp) q
      · walk_at "itd"
        refine Lay.rd_makeR ?_
        walk_at "rd"
        exact Lay.mk_agX (Q' := Q) (Q := fun x H => Q (.ref x) H) (fun _ _ h => h) hv hx (by simp) q
      · walk_at "itd"
        refine Lay.rd_makeR ?_
        walk_at "rd"
        exact Lay.mk_agX (Q' := Q) (Q := fun x H => Q (.ref x) H) (fun _ _ h => h) hv hx (by simp) q
    · rcases hk with rfl | rfl | rfl
      · walk_at "itd"
        refine Lay.rd_makeR ?_
        walk_at "rd"
        exact Lay.mk_agX (Q' := Q) (Q := fun x H => Q (.ref x) H) (fun _ _ h => h) hv hx (by simp) q
      · walk_at "itd"
        refine Lay.rd_makeR ?_
        walk_at "rd"
        exact Lay.mk_agX (Q' := Q) (Q := fun x H => Q (.ref x) H) (fun _ _ h => h) hv hx (by simp) q
      · walk_at "itd"
        refine Lay.rd_makeR ?_
        walk_at "rd"
        exact Lay.mk_agX (Q' := Q) (Q := fun x H => Q (.ref x) H) (fun _ _ h => h) hv hx (by simp) q
    · exact absurd l2 (by simp only [List.length_cons]; omega)
def gNS {α : Type} (us zs : List α) : List α := match zs with
  | [n, s] => us ++ [n, s]
  | _ => []
def gSN {α : Type} (us zs : List α) : List α := match zs with
  | [s, n] => us ++ [n, s]
  | _ => []
theorem bind_Agent (T : Txt K mg A) : KBn K A.d_Agent_made ["cls", "name", "steps"] 1 ["name", "steps"] (fun us ws => gNS us ws) (fun vs zs => gNS vs zs) := by
  obtain ⟨oc, od, kV, doc, pm, an, cdv, ct, osl, hfd, lk, hcd⟩ := T.F_Agent_made.ex
  refine ⟨fun s us ws X l1 l2 => ?_, fun {vs us zs ws} r1 r2 => ?_⟩
  · rw [hfd]
    match us, ws, l1, l2 with
    | [_], [_, _], _, _ => exact .of_eq rfl
  · cases r2 with
    | nil => exact .nil
    | cons a r =>
      cases r with
      | nil => exact .nil
      | cons b r =>
        cases r with
        | nil => exact r1.append (.cons a (.cons b .nil))
        | cons d r => exact .nil
theorem bind_Through (T : Txt K mg A) : KBn K A.d_Through_made ["cls", "name", "steps"] 1 ["steps", "name"] (fun us ws => gSN us ws) (fun vs zs => gSN vs zs) := by
  obtain ⟨oc, od, kV, doc, pm, an, cdv, ct, osl, hfd, lk, hcd⟩ := T.F_Through_made.ex
  refine ⟨fun s us ws X l1 l2 => ?_, fun {vs us zs ws} r1 r2 => ?_⟩
  · rw [hfd]
    match us, ws, l1, l2 with
    | [_], [_, _], _, _ => exact .of_eq rfl
  · cases r2 with
    | nil => exact .nil
    | cons a r =>
      cases r with
      | nil => exact .nil
      | cons b r =>
        cases r with
        | nil => exact r1.append (.cons b (.cons a .nil))
        | cons d r => exact .nil
theorem bind_Back (T : Txt K mg A) : KBn K A.d_Back_made ["cls", "name", "steps"] 1 ["name", "steps"] (fun us ws => gNS us ws) (fun vs zs => gNS vs zs) := by
  obtain ⟨oc, od, kV, doc, pm, an, cdv, ct, osl, hfd, lk, hcd⟩ := T.F_Back_made.ex
  refine ⟨fun s us ws X l1 l2 => ?_, fun {vs us zs ws} r1 r2 => ?_⟩
  · rw [hfd]
    match us, ws, l1, l2 with
    | [_], [_, _], _, _ => exact .of_eq rfl
  · cases r2 with
    | nil => exact .nil
    | cons a r =>
      cases r with
      | nil => exact .nil
      | cons b r =>
        cases r with
        | nil => exact r1.append (.cons a (.cons b .nil))
        | cons d r => exact .nil
theorem ok_made (T : Txt K mg A) (G_Agent_made : FnOk P w K mg base (L2.CX P w) 8 A.a_Agent_made A.d_Agent_made ["cls", "name", "steps"] (Lay.spAgMadeX K A.c_Agent A.c_NoPart Lay.plainWs)) (G_Through_made : FnOk P w K mg base (L2.CX P w) 8 A.a_Through_made A.d_Through_made ["cls", "name", "steps"] (Lay.spAgMadeX K A.c_Through A.c_NoPart Lay.cacheWs)) (G_Back_made : FnOk P w K mg base (L2.CX P w) 8 A.a_Back_made A.d_Back_made ["cls", "name", "steps"] (Lay.spAgMadeX K A.c_Back A.c_NoPart Lay.cacheWs)) : FnOk P w K mg base (L2.CX P w) 9 A.a_made A.d_made ["_law_kind", "_law_called", "_law_handed"] (Lay.spLawMade (Lay.kAg A.c_Agent A.c_Through A.c_Back) A.c_NoPart) := by
  refine T.F_made.okX sc_made (fun vs H Q E h => ?_) (fun cdv A0 outer s H vs Q E hr h => ?_)
  · obtain ⟨k, v, a, xs, os, rfl, _⟩ := h
    rfl
  · obtain ⟨k, v, a, xs, os, rfl, k0, k2, hv, ha, hx, hl, q⟩ := h
    refine ⟨_, (pss_cons (ps_if (pt_cmpR op_eq (pv 0) pe_int (nomark _))
      (pss_one (ps_ret (Exv.pe_cmethKS (E := fun _ => E) (pe_glob (v := .ref A.c_Agent) rfl T.g_Agent rfl) T.cr_Agent T.cm_Agent_made.choose_spec G_Agent_made (hr.mono (by decide)) (bind_Agent T) (fun σ pins H s e s2 I h => (passes_call (takes_of rfl rfl rfl rfl) (fun _ _ _ _ h => h)) pins σ H s e s2 I h) (pk_cons (pv 1) (pk_cons (pv 2) pk_nil)))))
      pss_nil)
    (pss_cons (ps_if (pt_cmpR op_eq (pv 0) pe_int (nomark _))
      (pss_one (ps_ret (Exv.pe_cmethKS (E := fun _ => E) (pe_glob (v := .ref A.c_Through) rfl T.g_Through rfl) T.cr_Through T.cm_Through_made.choose_spec G_Through_made (hr.mono (by decide)) (bind_Through T) (fun σ pins H s e s2 I h => (passes_call (takes_of rfl rfl rfl rfl) (fun _ _ _ _ h => h)) pins σ H s e s2 I h) (pk_cons (pv 2) (pk_cons (pv 1) pk_nil)))))
      pss_nil)
    (pss_one (ps_ret (Exv.pe_cmethKS (E := fun _ => E) (pe_glob (v := .ref A.c_Back) rfl T.g_Back rfl) T.cr_Back T.cm_Back_made.choose_spec G_Back_made (hr.mono (by decide)) (bind_Back T) (fun σ pins H s e s2 I h => (passes_call (takes_of rfl rfl rfl rfl) (fun _ _ _ _ h => h)) pins σ H s e s2 I h) (pk_cons (pv 1) (pk_cons (pv 2) pk_nil))))))), ?_⟩
    walk_at "in"
    have hk : k = 0 ∨ k = 1 ∨ k = 2 := by omega
    rcases hk with rfl | rfl | rfl
    all_goals
      walk_at "itd"
      refine Exv.rd_cmethKS ?_
      walk_at "rd"
      refine ⟨rfl, ?_⟩
      walk_at "rd"
      exact ⟨rfl, v, a, xs, os, rfl, hv, .inr (SqL.of ha), hx, hl, q⟩
theorem ok_asked (T : Txt K mg A) (G_direct : FnOk P w K mg base (L2.CX P w) 8 A.a_direct A.d_direct ["_law_kind", "_law_called", "_law_handed"] (Lay.spDirectX (Lay.kAg A.c_Agent A.c_Through A.c_Back) A.c_NoPart)) (G_made : FnOk P w K mg base (L2.CX P w) 9 A.a_made A.d_made ["_law_kind", "_law_called", "_law_handed"] (Lay.spLawMade (Lay.kAg A.c_Agent A.c_Through A.c_Back) A.c_NoPart)) : FnOk P w K mg base CX0 10 A.a_asked A.d_asked ["_law_kind", "_law_called", "_law_handed", "_law_direct_here"] (Lay.spAskedX (Lay.kAg A.c_Agent A.c_Through A.c_Back) A.c_NoPart) := by
  refine T.F_asked.ok sc_asked (fun vs H Q E h => ?_) (fun cdv A0 outer s H vs Q E hr h => ?_)
  · obtain ⟨k, v, a, xs, os, b, rfl, _⟩ := h
    rfl
  · obtain ⟨k, v, a, xs, os, b, rfl, k0, k2, hv, ha, hx, hl, hb, q⟩ := h
    refine ⟨_, (pss_cons (ps_set (i := 4) sc_asked.nd rfl (Or.inl rfl) pe_non)
      (pss_cons (Exv.ps_try_asK (i := 5) (Wout := fun _ _ _ _ => False) rfl rfl sc_asked.nd rfl rfl ⟨rfl, by decide, Or.inl T.g_UnkeptError⟩ takes0
        (fun W pn xe tk _ => pss_one (ps_if (pt_val (pv 3)) (pss_one (ps_set (i := 4) sc_asked.nd rfl (Or.inl rfl) (pe_callS (E := WE W) G_direct (hr.mono (by decide)) rfl T.g_direct T.F_direct.kp T.b_direct (fun σ => passAt tk σ) (pa_cons (pv 0) (pa_cons (pv 1) (pa_cons (pv 2) pa_nil)))))) (pss_one (ps_set (i := 4) sc_asked.nd rfl (Or.inl rfl) (pe_callS (E := WE W) G_made (hr.mono (by decide)) rfl T.g_made T.F_made.kp T.b_made (fun σ => passAt tk σ) (pa_cons (pv 0) (pa_cons (pv 1) (pa_cons (pv 2) pa_nil))))))))
        (fun a oe cls d pn hz hf => pss_one (ps_set (i := 4) sc_asked.nd rfl (Or.inl rfl) (pv 5))))
      (pss_one (ps_ret (pv 4))))), ?_⟩
    walk_at "in"
    walk_at "rd"
    refine Lay.ite_b (fun eb => ?_) (fun eb => ?_)
    · subst eb
      walk_at "rd"
      refine Lay.rd_callS ?_
      walk_at "rd"
      refine ⟨k, v, a, xs, os, rfl, k0, k2, hv, ha, hx, (hb rfl).1, (hb rfl).2, fun r p e d H' hd s z => ?_, fun e x H' s va => ?_⟩
      · refine ⟨true, T.em_NoPart, fun _ a2 h2 => ?_, fun z => nomatch z⟩
        walk_at "rd"
        intro hn2
        walk_at "rd"
        exact q a2 _ (Lay.Same.upd' s h2) (.inl ⟨r, p, e, d, upd_same, by rw [upd_ne (Lay.ne_none h2 z).symm]; exact z⟩)
      · walk_at "rd"
        exact q x H' s (.inr ⟨e, va⟩)
    · subst eb
      walk_at "rd"
      refine Lay.rd_callS ?_
      walk_at "rd"
      refine ⟨k, v, a, xs, os, rfl, k0, k2, hv, ha, hx, hl, fun r p e d H' hd s z => ?_, fun e x H' s va => ?_⟩
      · refine ⟨true, T.em_NoPart, fun _ a2 h2 => ?_, fun z => nomatch z⟩
        walk_at "rd"
        intro hn2
        walk_at "rd"
        exact q a2 _ (Lay.Same.upd' s h2) (.inl ⟨r, p, e, d, upd_same, by rw [upd_ne (Lay.ne_none h2 z).symm]; exact z⟩)
      · walk_at "rd"
        exact q x H' s (.inr ⟨e, va⟩)
theorem ok_again (T : Txt K mg A) (G_made : FnOk P w K mg base (L2.CX P w) 9 A.a_made A.d_made ["_law_kind", "_law_called", "_law_handed"] (Lay.spLawMade (Lay.kAg A.c_Agent A.c_Through A.c_Back) A.c_NoPart)) (G_Agent_with_steps : FnR P w K mg base (L2.CX P w) 8 A.a_Agent_with_steps (Lay.spStar 1 (Lay.spAgWithX A.c_Agent A.c_NoPart Lay.plainWs))) (G_Through_with_steps : FnR P w K mg base (L2.CX P w) 8 A.a_Through_with_steps (Lay.spStar 1 (Lay.spAgWithX A.c_Through A.c_NoPart Lay.cacheWs))) (G_Back_with_steps : FnR P w K mg base (L2.CX P w) 8 A.a_Back_with_steps (Lay.spStar 1 (Lay.spAgWithX A.c_Back A.c_NoPart Lay.cacheWs))) : FnOk P w K mg base CX0 10 A.a_again A.d_again ["_law_kind", "_law_handed"] (Lay.spAgainX (Lay.kAg A.c_Agent A.c_Through A.c_Back) A.c_NoPart) := by
  refine T.F_again.ok sc_again (fun vs H Q E h => ?_) (fun cdv A0 outer s H vs Q E hr h => ?_)
  · obtain ⟨k, a, xs, os, rfl, _⟩ := h
    rfl
  · obtain ⟨k, a, xs, os, rfl, k0, k2, ha, hx, hl, q⟩ := h
    refine ⟨_, (pss_cons (ps_set (i := 2) sc_again.nd rfl (Or.inl rfl) pe_non)
      (pss_cons (ps_set (i := 3) sc_again.nd rfl (Or.inl rfl) (pe_call (E := fun _ _ _ => False) G_made (hr.mono (by decide)) rfl T.g_made T.F_made.kp T.b_made .nil passL (pa_cons (pv 0) (pa_cons pe_str (pa_cons (pe_lst (pa_cons (pe_tup (pa_cons pe_str (pa_cons pe_str pa_nil))) pa_nil)) pa_nil)))))
      (pss_cons (Exv.ps_try_asK (i := 4) (Wout := fun _ _ _ _ => False) rfl rfl sc_again.nd rfl rfl ⟨rfl, by decide, Or.inl T.g_UnkeptError⟩ takes0
        (fun W pn xe tk _ => pss_one (ps_set (i := 2) sc_again.nd rfl (Or.inl rfl) (by exact (OwnC.pe_methW (CX := L2.CX P w) (E := WE W) (n := 8) P w K mg base (pv 3) (hr.mono (by decide)) (fun σ => passAt tk σ) (pa_cons (pe_ix (r := rIxL K) ix_list (pv 1) pe_int (fun _ _ => rfl)) (pa_cons (pe_ix (r := rIxL K) ix_list (pv 1) pe_int (fun _ _ => rfl)) pa_nil))))))
        (fun a oe cls d pn hz hf => pss_one (ps_set (i := 2) sc_again.nd rfl (Or.inl rfl) (pv 4))))
      (pss_one (ps_ret (pv 2)))))), ?_⟩
    walk_at "in"
    walk_at "rd"
    refine ⟨by decide, fun t ht => ?_⟩
    walk_at "rd"
    refine ⟨by decide, fun l hl0 => ?_⟩
    have s0 := Lay.Same.upd' (o := .lst [.ref t]) (Lay.Same.upd (o := .tup [.str "post", .str "s"]) ht) hl0
    have sv0 : Lay.SVs (upd (upd H t (.tup [.str "post", .str "s"])) l (.lst [.ref t])) [.ref t] [some [.str "post", .str "s"]] := .one (Lay.upd_old hl0 upd_same) (by
      intro x m
      simp only [List.mem_cons, List.not_mem_nil, or_false] at m
      rcases m with rfl | rfl <;> exact .str (by decide))
    refine ⟨k, .str "good", l, [.ref t], [some [.str "post", .str "s"]], rfl, k0, k2, .str (by decide), upd_same, sv0, (by show 1 ≤ 1000; decide), ⟨fun r p e => (by rw [Lay.good_one k (.inl rfl)] at e; cases e), fun _ x H1 s1 va => ?_⟩⟩
    have s01 := s0.trans s1
    obtain ⟨dx, t0, hx1, ht1⟩ := va
    have hk : k = 0 ∨ k = 1 ∨ k = 2 := by omega
    obtain ⟨y0, y1, rfl⟩ : ∃ y0 y1, xs = [y0, y1] := by
      match xs, hl with
      | [a, b], _ => exact ⟨a, b, rfl⟩
    walk_at "rd"
    rcases hk with rfl | rfl | rfl
    · skip
      refine OwnC.rd_methW ?_
      walk_at "rd"
      refine ⟨x, _, dx, _, _, _, rfl, hx1, by rfl, T.cl_Agent, T.me_Agent_with_steps, G_Agent_with_steps, ?_⟩
      have ha1 := s01 _ _ ha
      walk_at "rd"
      refine ⟨[.ref x], [y0, y1], rfl, rfl, (by show 2 ≤ sizeLine; decide), fun p hp => ?_⟩
      have s2 := Lay.Same.upd (o := .tup [y0, y1]) hp
      have s012 := s01.trans s2
      refine ⟨x, .str "good", p, [.ref t], [y0, y1], os, rfl, ⟨dx, t0, s2 _ _ hx1, s2 _ _ ht1⟩, .str (by decide), upd_same, hx.mono s012, (by show 2 ≤ 1000; decide), ⟨fun r p e d H' hd s z => ?_, fun e x H' s va => ?_⟩⟩
      · refine ⟨true, T.em_NoPart, fun _ a2 h2 => ?_, fun z => nomatch z⟩
        walk_at "rd"
        intro hn2
        walk_at "rd"
        exact q a2 _ (Lay.Same.upd' (s012.trans s) h2) (.inl ⟨r, p, e, d, upd_same, by rw [upd_ne (Lay.ne_none h2 z).symm]; exact z⟩)
      · walk_at "rd"
        exact q x H' (s012.trans s) (.inr ⟨e, va⟩)
    · skip
      refine OwnC.rd_methW ?_
      walk_at "rd"
      refine ⟨x, _, dx, _, _, _, rfl, hx1, by rfl, T.cl_Through, T.me_Through_with_steps, G_Through_with_steps, ?_⟩
      have ha1 := s01 _ _ ha
      walk_at "rd"
      refine ⟨[.ref x], [y0, y1], rfl, rfl, (by show 2 ≤ sizeLine; decide), fun p hp => ?_⟩
      have s2 := Lay.Same.upd (o := .tup [y0, y1]) hp
      have s012 := s01.trans s2
      refine ⟨x, .str "good", p, [.ref t], [y0, y1], os, rfl, ⟨dx, t0, s2 _ _ hx1, s2 _ _ ht1⟩, .str (by decide), upd_same, hx.mono s012, (by show 2 ≤ 1000; decide), ⟨fun r p e d H' hd s z => ?_, fun e x H' s va => ?_⟩⟩
      · refine ⟨true, T.em_NoPart, fun _ a2 h2 => ?_, fun z => nomatch z⟩
        walk_at "rd"
        intro hn2
        walk_at "rd"
        exact q a2 _ (Lay.Same.upd' (s012.trans s) h2) (.inl ⟨r, p, e, d, upd_same, by rw [upd_ne (Lay.ne_none h2 z).symm]; exact z⟩)
      · walk_at "rd"
        exact q x H' (s012.trans s) (.inr ⟨e, va⟩)
    · skip
      refine OwnC.rd_methW ?_
      walk_at "rd"
      refine ⟨x, _, dx, _, _, _, rfl, hx1, by rfl, T.cl_Back, T.me_Back_with_steps, G_Back_with_steps, ?_⟩
      have ha1 := s01 _ _ ha
      walk_at "rd"
      refine ⟨[.ref x], [y0, y1], rfl, rfl, (by show 2 ≤ sizeLine; decide), fun p hp => ?_⟩
      have s2 := Lay.Same.upd (o := .tup [y0, y1]) hp
      have s012 := s01.trans s2
      refine ⟨x, .str "good", p, [.ref t], [y0, y1], os, rfl, ⟨dx, t0, s2 _ _ hx1, s2 _ _ ht1⟩, .str (by decide), upd_same, hx.mono s012, (by show 2 ≤ 1000; decide), ⟨fun r p e d H' hd s z => ?_, fun e x H' s va => ?_⟩⟩
      · refine ⟨true, T.em_NoPart, fun _ a2 h2 => ?_, fun z => nomatch z⟩
        walk_at "rd"
        intro hn2
        walk_at "rd"
        exact q a2 _ (Lay.Same.upd' (s012.trans s) h2) (.inl ⟨r, p, e, d, upd_same, by rw [upd_ne (Lay.ne_none h2 z).symm]; exact z⟩)
      · walk_at "rd"
        exact q x H' (s012.trans s) (.inr ⟨e, va⟩)

theorem ok_no_steps (T : Txt K mg A) (G_made : FnOk P w K mg base (L2.CX P w) 9 A.a_made A.d_made ["_law_kind", "_law_called", "_law_handed"] (Lay.spLawMade (Lay.kAg A.c_Agent A.c_Through A.c_Back) A.c_NoPart)) (G_Agent_with_steps : FnR P w K mg base (L2.CX P w) 8 A.a_Agent_with_steps (Lay.spStar 1 (Lay.spAgWithX A.c_Agent A.c_NoPart Lay.plainWs))) (G_Through_with_steps : FnR P w K mg base (L2.CX P w) 8 A.a_Through_with_steps (Lay.spStar 1 (Lay.spAgWithX A.c_Through A.c_NoPart Lay.cacheWs))) (G_Back_with_steps : FnR P w K mg base (L2.CX P w) 8 A.a_Back_with_steps (Lay.spStar 1 (Lay.spAgWithX A.c_Back A.c_NoPart Lay.cacheWs))) : FnOk P w K mg base CX0 10 A.a_no_steps A.d_no_steps ["_law_kind"] (Lay.spNoStepsX A.c_NoPart) := by
  refine T.F_no_steps.ok sc_no_steps (fun vs H Q E h => ?_) (fun cdv A0 outer s H vs Q E hr h => ?_)
  · obtain ⟨k, rfl, _⟩ := h
    rfl
  · obtain ⟨k, rfl, k0, k2, q⟩ := h
    refine ⟨_, (pss_cons (ps_set (i := 1) sc_no_steps.nd rfl (Or.inl rfl) pe_non)
      (pss_cons (Exv.ps_try_asK (i := 2) (Wout := fun _ _ _ _ => False) rfl rfl sc_no_steps.nd rfl rfl ⟨rfl, by decide, Or.inl T.g_UnkeptError⟩ takes0
        (fun W pn xe tk _ => pss_one (ps_set (i := 1) sc_no_steps.nd rfl (Or.inl rfl) (by exact (OwnC.pe_methW0 (CX := L2.CX P w) (E := WE W) (n := 8) P w K mg base (pe_callS (E := WE W) G_made (hr.mono (by decide)) rfl T.g_made T.F_made.kp T.b_made (fun σ => passAt tk σ) (pa_cons (pv 0) (pa_cons pe_str (pa_cons (pe_lst (pa_cons (pe_tup (pa_cons pe_str (pa_cons pe_str pa_nil))) pa_nil)) pa_nil)))) (hr.mono (by decide)) (fun σ => passAt tk σ)))))
        (fun a oe cls d pn hz hf => pss_one (ps_set (i := 1) sc_no_steps.nd rfl (Or.inl rfl) (pv 2))))
      (pss_one (ps_ret (pv 1))))), ?_⟩
    walk_at "in"
    walk_at "rd"
    refine OwnC.rd_methW ?_
    refine Lay.rd_callS ?_
    walk_at "rd"
    refine ⟨by decide, fun t ht => ?_⟩
    walk_at "rd"
    refine ⟨by decide, fun l hl0 => ?_⟩
    have s0 := Lay.Same.upd' (o := .lst [.ref t]) (Lay.Same.upd (o := .tup [.str "wait", .str "s"]) ht) hl0
    have sv0 : Lay.SVs (upd (upd H t (.tup [.str "wait", .str "s"])) l (.lst [.ref t])) [.ref t] [some [.str "wait", .str "s"]] := .one (Lay.upd_old hl0 upd_same) (by
      intro x m
      simp only [List.mem_cons, List.not_mem_nil, or_false] at m
      rcases m with rfl | rfl <;> exact .str (by decide))
    refine ⟨k, .str "good", l, [.ref t], [some [.str "wait", .str "s"]], rfl, k0, k2, .str (by decide), upd_same, sv0, (by show 1 ≤ 1000; decide), ⟨fun r p e => (by rw [Lay.good_one k (.inr rfl)] at e; cases e), fun _ x H1 s1 va => ?_⟩⟩
    have s01 := s0.trans s1
    obtain ⟨dx, t0, hx1, ht1⟩ := va
    have hk : k = 0 ∨ k = 1 ∨ k = 2 := by omega
    rcases hk with rfl | rfl | rfl
    · skip
      refine ⟨x, _, dx, _, _, _, rfl, hx1, by rfl, T.cl_Agent, T.me_Agent_with_steps, G_Agent_with_steps, ?_⟩
      walk_at "rd"
      refine ⟨[.ref x], [], rfl, rfl, by decide, fun p hp => ?_⟩
      have s2 := Lay.Same.upd (o := .tup []) hp
      have s012 := s01.trans s2
      refine ⟨x, .str "good", p, [.ref t], [], [], rfl, ⟨dx, t0, s2 _ _ hx1, s2 _ _ ht1⟩, .str (by decide), upd_same, .nil, by decide, ⟨fun r p e d H' hd s z => ?_, fun e => ?_⟩⟩
      · have e' := (Lay.good_none 0).symm.trans e
        cases e'
        refine ⟨true, T.em_NoPart, fun _ a2 h2 => ?_, fun z => nomatch z⟩
        walk_at "rd"
        intro hn2
        walk_at "rd"
        exact q a2 _ (Lay.Same.upd' (s012.trans s) h2) ⟨d, upd_same, by rw [upd_ne (Lay.ne_none h2 z).symm]; exact z⟩
      · have e' := (Lay.good_none 0).symm.trans e
        cases e'
    · skip
      refine ⟨x, _, dx, _, _, _, rfl, hx1, by rfl, T.cl_Through, T.me_Through_with_steps, G_Through_with_steps, ?_⟩
      walk_at "rd"
      refine ⟨[.ref x], [], rfl, rfl, by decide, fun p hp => ?_⟩
      have s2 := Lay.Same.upd (o := .tup []) hp
      have s012 := s01.trans s2
      refine ⟨x, .str "good", p, [.ref t], [], [], rfl, ⟨dx, t0, s2 _ _ hx1, s2 _ _ ht1⟩, .str (by decide), upd_same, .nil, by decide, ⟨fun r p e d H' hd s z => ?_, fun e => ?_⟩⟩
      · have e' := (Lay.good_none 1).symm.trans e
        cases e'
        refine ⟨true, T.em_NoPart, fun _ a2 h2 => ?_, fun z => nomatch z⟩
        walk_at "rd"
        intro hn2
        walk_at "rd"
        exact q a2 _ (Lay.Same.upd' (s012.trans s) h2) ⟨d, upd_same, by rw [upd_ne (Lay.ne_none h2 z).symm]; exact z⟩
      · have e' := (Lay.good_none 1).symm.trans e
        cases e'
    · skip
      refine ⟨x, _, dx, _, _, _, rfl, hx1, by rfl, T.cl_Back, T.me_Back_with_steps, G_Back_with_steps, ?_⟩
      walk_at "rd"
      refine ⟨[.ref x], [], rfl, rfl, by decide, fun p hp => ?_⟩
      have s2 := Lay.Same.upd (o := .tup []) hp
      have s012 := s01.trans s2
      refine ⟨x, .str "good", p, [.ref t], [], [], rfl, ⟨dx, t0, s2 _ _ hx1, s2 _ _ ht1⟩, .str (by decide), upd_same, .nil, by decide, ⟨fun r p e d H' hd s z => ?_, fun e => ?_⟩⟩
      · have e' := (Lay.good_none 2).symm.trans e
        cases e'
        refine ⟨true, T.em_NoPart, fun _ a2 h2 => ?_, fun z => nomatch z⟩
        walk_at "rd"
        intro hn2
        walk_at "rd"
        exact q a2 _ (Lay.Same.upd' (s012.trans s) h2) ⟨d, upd_same, by rw [upd_ne (Lay.ne_none h2 z).symm]; exact z⟩
      · have e' := (Lay.good_none 2).symm.trans e
        cases e'

theorem ok_right (T : Txt K mg A) (G_law_is_name : FnOk P w K mg base CX0 1 A.a_law_is_name A.d_law_is_name ["_law_value"] Lay.spLawName) (G_law_is_step : FnOk P w K mg base CX0 2 A.a_law_is_step A.d_law_is_step ["_law_value", "_law_kind"] Lay.spLawStep) (G_refusal : FnOk P w K mg base CX0 1 A.a_refusal A.d_refusal ["_law_caught", "_law_reason", "_law_spot"] (Lay.spRefusal A.c_NoPart)) : FnOk P w K mg base CX0 3 A.a_right A.d_right ["_law_found", "_law_kind", "_law_called", "_law_handed"] (Lay.spRightX (Lay.kAg A.c_Agent A.c_Through A.c_Back) A.c_NoPart) := by
  refine T.F_right.ok sc_right (fun vs H Q E h => ?_) (fun cdv A0 outer s H vs Q E hr h => ?_)
  · obtain ⟨e, k, v, a, xs, os, rfl, _⟩ := h
    rfl
  · obtain ⟨e, k, v, a, xs, os, rfl, k0, k2, hv, ha, hx, hl, hf, q⟩ := h
    refine ⟨_, (pss_cons (ps_if (pt_not (pt_val (pe_call G_law_is_name (hr.mono (by decide)) rfl T.g_law_is_name T.F_law_is_name.kp T.b_law_is_name .nil pass0 (pa_cons (pv 2) pa_nil))))
      (pss_one (ps_ret (pe_call G_refusal (hr.mono (by decide)) rfl T.g_refusal T.F_refusal.kp T.b_refusal .nil pass0 (pa_cons (pv 0) (pa_cons pe_str (pa_cons pe_non pa_nil))))))
      pss_nil)
    (pss_cons (ps_if (pt_not (pt_chain op_le op_le pe_int (pe_callB Lay.call_lenS (by rfl) T.n_len PySem.boot_len (pa_cons (pv 3) pa_nil)) pe_int))
      (pss_one (ps_ret (pe_call G_refusal (hr.mono (by decide)) rfl T.g_refusal T.F_refusal.kp T.b_refusal .nil pass0 (pa_cons (pv 0) (pa_cons pe_str (pa_cons pe_non pa_nil))))))
      pss_nil)
    (pss_cons (ps_for PassesOwn.never rfl (pi_range1 rfl T.n_range (pa_cons (pe_callB Lay.call_lenS (by rfl) T.n_len PySem.boot_len (pa_cons (pv 3) pa_nil)) pa_nil)) (pg_name (i := 4) sc_right.nd rfl (Or.inl rfl))
      (pss_one (ps_if (pt_not (pt_val (pe_call G_law_is_step (hr.mono (by decide)) rfl T.g_law_is_step T.F_law_is_step.kp T.b_law_is_step .nil pass0 (pa_cons (pe_ix ix_list (pv 3) (pv 4) (fun _ _ => rfl)) (pa_cons (pv 1) pa_nil)))))
        (pss_one (ps_ret (pe_call G_refusal (hr.mono (by decide)) rfl T.g_refusal T.F_refusal.kp T.b_refusal .nil pass0 (pa_cons (pv 0) (pa_cons pe_str (pa_cons (pv 4) pa_nil))))))
        pss_nil)))
    (pss_cons (ps_if (PW.pt (pw_or (pt_not (pt_val (pe_callB call_isi (by rfl) T.n_isinstance (by decide +kernel) (pa_cons (pv 0) (pa_cons (pe_glob (v := .ref A.c_Agent) rfl T.g_Agent rfl) pa_nil))))) (pw_or (pt_cmpR op_ne (pe_con (pv 0) rfl) (pe_ix ix_list (pe_lst (pa_cons pe_str (pa_cons pe_str (pa_cons pe_str pa_nil)))) (pv 1) (fun _ _ => rfl)) (nomark _)) (pw_or1 (pt_cmpR op_ne (pe_fld (pv 0) rfl) (pv 2) (nomark _))))))
      (pss_one (ps_ret pe_bl))
      pss_nil)
    (pss_one (ps_ret (pe_cmpR (Lay.op_eqW hr.units) (pe_fld (pv 0) rfl) (pe_callTy Lay.call_tupS (by rfl) T.n_tuple (by decide +kernel) (pa_cons (pv 3) pa_nil)) (nomark _)))))))), ?_⟩
    walk_at "in"
    have lo := hx.1
    have er : ∀ r p H', Lay.refuses (Lay.wsK k) v os = some (r, p) → L2.Same H H' → Lay.ErrAt A.c_NoPart H' e [("place", p), ("reason", .str r)] := by
      intro r p H' h1 s
      rcases hf with ⟨r', p', h2, h3⟩ | ⟨h2, _⟩
      · rw [h1] at h2
        cases h2
        exact h3.mono s
      · rw [h1] at h2; cases h2
    walk_at "rd"
    refine ⟨v, rfl, hv, fun H1 s1 => ?_⟩
    by_cases hn : Lay.isName v = true
    case neg =>
      rw [Bool.eq_false_iff.mpr hn]
      walk_at "it"
      exact ⟨e, "name", .non, rfl, er _ _ _ (Lay.refuses_name (Bool.eq_false_iff.mpr hn)) s1, .inl rfl, fun H' s => q H' (s1.trans s)⟩
    rw [hn]
    walk_at "it"
    refine Lay.rd_lenL (SqL.of (s1 _ _ ha)) ?_
    walk_at "rd"
    have slots : (decide (1 ≤ os.length) && decide (os.length ≤ 24)) = false → Lay.spRefusal A.c_NoPart [.ref e, .str "steps", .non] H1 Q E0 :=
      fun z => ⟨e, "steps", .non, rfl, er _ _ _ (Lay.refuses_steps hn z) s1, .inl rfl, fun H' s => q H' (s1.trans s)⟩
    refine Lay.ite_d (fun c1 => ?_) (fun c1 => ?_)
    case refine_2 =>
      walk_at "it"
      exact slots (by rw [decide_eq_false (fun z : 1 ≤ os.length => c1 (by omega))]; rfl)
    walk_at "rd"
    refine Lay.ite_n (fun c2 => ?_) (fun c2 => ?_)
    · walk_at "it"
      exact slots (by rw [decide_eq_false (fun z : os.length ≤ 24 => c2 (by omega)), Bool.and_false])
    have hl2 : (decide (1 ≤ os.length) && decide (os.length ≤ 24)) = true := by rw [decide_eq_true (show 1 ≤ os.length by omega), decide_eq_true (show os.length ≤ 24 by omega)]; rfl
    walk_at "it"
    refine Lay.rd_forW (J := Itr 0 xs.length) (H1 := H1) (fun R r => ?_) (walk_range (lo := 0) (n := xs.length)) (fun i σ' H' => (∃ b, σ' = [some (V.ref e), some (V.int k), some v, some (V.ref a), b]) ∧ L2.Same H H' ∧ ∀ j, j < i → Lay.sBad (Lay.wsK k) os j = false) ⟨⟨_, rfl⟩, s1, fun j hj => absurd hj (Nat.not_lt_zero _)⟩ (fun _ _ _ _ _ => trivial) ?_ ?_
    · walk_at "rd"
      refine Lay.rd_lenL (SqL.of (s1 _ _ ha)) ?_
      walk_at "rd"
      exact ⟨_, rfl, by omega, by omega, r⟩
    · rintro i x σ' H2 H3 hi ⟨⟨b, rfl⟩, s2, hno⟩ hy
      obtain ⟨rfl, rfl⟩ := hy
      dsimp only
      rw [Int.zero_add]
      have ey : xs[i]? = some xs[i] := List.getElem?_eq_getElem hi
      generalize xs[i] = y1 at ey
      obtain ⟨o, eo, ho⟩ := hx.2 i y1 ey
      walk_at "rd"
      refine Lay.rd_ixL (SqL.of (s2 _ _ ha)) (Lay.atI_nat ey) ?_
      walk_at "rd"
      refine ⟨y1, o, k, rfl, ho.mono s2, fun H4 s4 => ?_⟩
      have s24 := s2.trans s4
      have eb := Lay.sBad_eq (k := k) eo
      by_cases c3 : Lay.stepK k o = true
      · rw [c3] at eb ⊢
        walk_at "it"
        refine ⟨⟨_, rfl⟩, s24, fun j hj => ?_⟩
        by_cases e' : j = i
        · subst e'; exact eb
        · exact hno j (by omega)
      · rw [Bool.eq_false_iff.mpr c3] at eb ⊢
        walk_at "it"
        exact ⟨e, "step", .int i, rfl, er _ _ _ (Lay.refuses_step hn hl2 (Lay.fst_some eb hno (by omega))) s24, .inr ⟨_, rfl⟩, fun H' s => q H' (s24.trans s)⟩
    · rintro σ' H2 ⟨⟨b, rfl⟩, s2, hno⟩
      have hnone := Lay.refuses_none hn hl2 (Lay.fst_none fun j hj => hno j (by omega))
      have ag : Lay.AgX ((Lay.kAg A.c_Agent A.c_Through A.c_Back) k) H2 e v xs := by
        rcases hf with ⟨r', p', h2, _⟩ | ⟨_, h3⟩
        · rw [hnone] at h2; cases h2
        · exact h3.mono s2
      obtain ⟨z, rfl, hz⟩ := Lay.isName_str hn
      have hk : k = 0 ∨ k = 1 ∨ k = 2 := by omega
      rcases hk with rfl | rfl | rfl
      · obtain ⟨dx, t0, hx2, ht2⟩ := ag
        walk_at "rd"
        refine Lay.rd_isiC (T.in_Agent _ e dx _ hx2) T.ki_Agent_Agent ?_
        walk_at "it"
        obtain ⟨_, co⟩ := T.co_Agent
        refine Lay.rd_tCon ?_
        walk_at "rd"
        refine ⟨e, _, dx, _, _, _, rfl, hx2, T.cl_Agent, co, by rfl, ?_⟩
        walk_at "rd"
        refine ⟨by decide, fun b1 h1 => ?_⟩
        walk_at "rd"
        have s3 := s2.trans (Lay.Same.upd (o := .lst [.str "plain", .str "through", .str "back"]) h1)
        have hx3 := Lay.upd_old (o := .lst [.str "plain", .str "through", .str "back"]) h1 hx2
        have ht3 := Lay.upd_old (o := .lst [.str "plain", .str "through", .str "back"]) h1 ht2
        walk_at "rd"
        refine Lay.ite_n (fun c => absurd rfl c) (fun _ => ?_)
        walk_at "it"
        refine Lay.rd_tFld ?_
        walk_at "rd"
        refine ⟨e, _, dx, _, .str z, rfl, hx3, T.cl_Agent, T.na_Agent_name, by rfl, ?_⟩
        walk_at "rd"
        refine Lay.ite_n (fun c => absurd rfl c) (fun _ => ?_)
        walk_at "it"
        refine Lay.rd_tFld ?_
        walk_at "rd"
        refine ⟨e, _, dx, _, .ref t0, rfl, hx3, T.cl_Agent, T.na_Agent_steps, by rfl, ?_⟩
        walk_at "rd"
        refine Lay.rd_tupL (SqL.of (s3 _ _ ha)) (fun b2 h2 => ?_)
        have s4 := s3.trans (Lay.Same.upd (o := .tup xs) h2)
        refine Lay.rd_eqW true (Lay.RcW.tuplesSame (SqT.of (Lay.upd_old h2 ht3)) (SqT.of upd_same) (fun x m => (hx.mem x m).fl)) ?_
        exact q _ s4
      · obtain ⟨dx, t0, hx2, ht2⟩ := ag
        walk_at "rd"
        refine Lay.rd_isiC (T.in_Through _ e dx _ hx2) T.ki_Through_Agent ?_
        walk_at "it"
        obtain ⟨_, co⟩ := T.co_Through
        refine Lay.rd_tCon ?_
        walk_at "rd"
        refine ⟨e, _, dx, _, _, _, rfl, hx2, T.cl_Through, co, by rfl, ?_⟩
        walk_at "rd"
        refine ⟨by decide, fun b1 h1 => ?_⟩
        walk_at "rd"
        have s3 := s2.trans (Lay.Same.upd (o := .lst [.str "plain", .str "through", .str "back"]) h1)
        have hx3 := Lay.upd_old (o := .lst [.str "plain", .str "through", .str "back"]) h1 hx2
        have ht3 := Lay.upd_old (o := .lst [.str "plain", .str "through", .str "back"]) h1 ht2
        walk_at "rd"
        refine Lay.ite_n (fun c => absurd rfl c) (fun _ => ?_)
        walk_at "it"
        refine Lay.rd_tFld ?_
        walk_at "rd"
        refine ⟨e, _, dx, _, .str z, rfl, hx3, T.cl_Through, T.na_Through_name, by rfl, ?_⟩
        walk_at "rd"
        refine Lay.ite_n (fun c => absurd rfl c) (fun _ => ?_)
        walk_at "it"
        refine Lay.rd_tFld ?_
        walk_at "rd"
        refine ⟨e, _, dx, _, .ref t0, rfl, hx3, T.cl_Through, T.na_Through_steps, by rfl, ?_⟩
        walk_at "rd"
        refine Lay.rd_tupL (SqL.of (s3 _ _ ha)) (fun b2 h2 => ?_)
        have s4 := s3.trans (Lay.Same.upd (o := .tup xs) h2)
        refine Lay.rd_eqW true (Lay.RcW.tuplesSame (SqT.of (Lay.upd_old h2 ht3)) (SqT.of upd_same) (fun x m => (hx.mem x m).fl)) ?_
        exact q _ s4
      · obtain ⟨dx, t0, hx2, ht2⟩ := ag
        walk_at "rd"
        refine Lay.rd_isiC (T.in_Back _ e dx _ hx2) T.ki_Back_Agent ?_
        walk_at "it"
        obtain ⟨_, co⟩ := T.co_Back
        refine Lay.rd_tCon ?_
        walk_at "rd"
        refine ⟨e, _, dx, _, _, _, rfl, hx2, T.cl_Back, co, by rfl, ?_⟩
        walk_at "rd"
        refine ⟨by decide, fun b1 h1 => ?_⟩
        walk_at "rd"
        have s3 := s2.trans (Lay.Same.upd (o := .lst [.str "plain", .str "through", .str "back"]) h1)
        have hx3 := Lay.upd_old (o := .lst [.str "plain", .str "through", .str "back"]) h1 hx2
        have ht3 := Lay.upd_old (o := .lst [.str "plain", .str "through", .str "back"]) h1 ht2
        walk_at "rd"
        refine Lay.ite_n (fun c => absurd rfl c) (fun _ => ?_)
        walk_at "it"
        refine Lay.rd_tFld ?_
        walk_at "rd"
        refine ⟨e, _, dx, _, .str z, rfl, hx3, T.cl_Back, T.na_Back_name, by rfl, ?_⟩
        walk_at "rd"
        refine Lay.ite_n (fun c => absurd rfl c) (fun _ => ?_)
        walk_at "it"
        refine Lay.rd_tFld ?_
        walk_at "rd"
        refine ⟨e, _, dx, _, .ref t0, rfl, hx3, T.cl_Back, T.na_Back_steps, by rfl, ?_⟩
        walk_at "rd"
        refine Lay.rd_tupL (SqL.of (s3 _ _ ha)) (fun b2 h2 => ?_)
        have s4 := s3.trans (Lay.Same.upd (o := .tup xs) h2)
        refine Lay.rd_eqW true (Lay.RcW.tuplesSame (SqT.of (Lay.upd_old h2 ht3)) (SqT.of upd_same) (fun x m => (hx.mem x m).fl)) ?_
        exact q _ s4

theorem pre_ok {d : Int} (h0 : 0 ≤ d) (h1 : d < 6) : Lay.nameOk (cutS "devcpu" none (some (1 + d))) = true := by
  obtain rfl | rfl | rfl | rfl | rfl | rfl : d = 0 ∨ d = 1 ∨ d = 2 ∨ d = 3 ∨ d = 4 ∨ d = 5 := by omega
  all_goals decide +kernel
theorem ok_round (T : Txt K mg A) (G_draw : FnOk P w K mg base CX0 1 A.a_draw A.d_draw ["_law_pen_here", "_law_many"] Lay.spDraw) (G_thing : FnOk P w K mg base CX0 2 A.a_thing A.d_thing ["_law_pen_here"] Lay.spThing) (G_refusal : FnOk P w K mg base CX0 1 A.a_refusal A.d_refusal ["_law_caught", "_law_reason", "_law_spot"] (Lay.spRefusal A.c_NoPart)) (G_good_step : FnOk P w K mg base CX0 2 A.a_good_step A.d_good_step ["_law_pen_here", "_law_kind"] Lay.spGoodStep) (G_bent_step : FnOk P w K mg base CX0 3 A.a_bent_step A.d_bent_step ["_law_pen_here", "_law_kind"] Lay.spBentX) (G_asked : FnOk P w K mg base CX0 10 A.a_asked A.d_asked ["_law_kind", "_law_called", "_law_handed", "_law_direct_here"] (Lay.spAskedX (Lay.kAg A.c_Agent A.c_Through A.c_Back) A.c_NoPart)) (G_again : FnOk P w K mg base CX0 10 A.a_again A.d_again ["_law_kind", "_law_handed"] (Lay.spAgainX (Lay.kAg A.c_Agent A.c_Through A.c_Back) A.c_NoPart)) (G_no_steps : FnOk P w K mg base CX0 10 A.a_no_steps A.d_no_steps ["_law_kind"] (Lay.spNoStepsX A.c_NoPart)) (G_right : FnOk P w K mg base CX0 3 A.a_right A.d_right ["_law_found", "_law_kind", "_law_called", "_law_handed"] (Lay.spRightX (Lay.kAg A.c_Agent A.c_Through A.c_Back) A.c_NoPart)) : FnOk P w K mg base CX0 11 A.a_round A.d_round ["_law_pen_here"] (Lay.spNum 70) := by
  refine T.F_round.ok sc_round (fun vs H Q E h => ?_) (fun cdv A0 outer s H vs Q E hr h => ?_)
  · obtain ⟨p, n, c, rfl, _⟩ := h
    rfl
  · obtain ⟨p, n, c, rfl, hp, hn, q⟩ := h
    refine ⟨_, (pss_cons (ps_set (i := 1) sc_round.nd rfl (Or.inr rfl) (pe_call G_draw (hr.mono (by decide)) rfl T.g_draw T.F_draw.kp T.b_draw .nil pass0 (pa_cons (pv 0) (pa_cons pe_int pa_nil))))
    (pss_cons (ps_setLc (i := 2) (own := [("_law_k", 3)]) (g := gName 3) (tt := tYes) rfl sc_round.nd rfl rfl (sw_true rfl rfl rfl (by decide +kernel)) (pi_range1 rfl T.n_range (pa_cons (pe_op op_add pe_int (pe_call G_draw (hr.mono (by decide)) rfl T.g_draw T.F_draw.kp T.b_draw .nil pass0 (pa_cons (pv 0) (pa_cons pe_int pa_nil)))) pa_nil)) (blkOk_by (own := [("_law_k", 3)]) (N := ["_law_pen_here", "_law_kind", "_law_handed", "_law_k", "_law_size_choice", "_law_called", "_law_kept", "_law_found"]) (sc := defScope s_round) (by decide +kernel)) (fun _ _ _ _ _ => pg_name (i := 3) sc_round.nd rfl (Or.inl rfl)) (fun _ _ _ _ _ => pts_nil) (fun _ _ _ _ _ => (pe_call G_good_step (hr.mono (by decide)) rfl T.g_good_step T.F_good_step.kp T.b_good_step .nil pass0 (pa_cons (pv 0) (pa_cons (pv 1) pa_nil)))))
    (pss_cons (ps_set (i := 4) sc_round.nd rfl (Or.inl rfl) (pe_call G_draw (hr.mono (by decide)) rfl T.g_draw T.F_draw.kp T.b_draw .nil pass0 (pa_cons (pv 0) (pa_cons pe_int pa_nil))))
    (Evl.pss_cut (ps_if (pt_cmpR op_lt (pv 4) pe_int (nomark _))
      (pss_one (ps_set (i := 2) sc_round.nd rfl (Or.inl rfl) (pe_op op_rep (pe_lst (pa_cons (pe_call G_good_step (hr.mono (by decide)) rfl T.g_good_step T.F_good_step.kp T.b_good_step .nil pass0 (pa_cons (pv 0) (pa_cons (pv 1) pa_nil))) pa_nil)) (pe_op op_add pe_int (pv 4)))))
      (pss_one (ps_if (pt_cmpR op_eq (pv 4) pe_int (nomark _))
        (pss_one (ps_set (i := 2) sc_round.nd rfl (Or.inl rfl) (pe_lst pa_nil)))
        pss_nil)))
    (pss_cons (ps_for PassesOwn.never rfl (pi_range1 rfl T.n_range (pa_cons (pe_ix ix_list (pe_lst (pa_cons pe_int (pa_cons pe_int (pa_cons pe_int (pa_cons pe_int pa_nil))))) (pe_call G_draw (hr.mono (by decide)) rfl T.g_draw T.F_draw.kp T.b_draw .nil pass0 (pa_cons (pv 0) (pa_cons pe_int pa_nil))) (fun _ _ => rfl)) pa_nil)) (pg_name (i := 3) sc_round.nd rfl (Or.inl rfl))
      (pss_one (ps_if (pt_cmpR (Lay.op_neW hr.units) (pv 2) (pe_lst pa_nil) (nomark _))
        (pss_one (ps_asg (pe_call G_bent_step (hr.mono (by decide)) rfl T.g_bent_step T.F_bent_step.kp T.b_bent_step .nil pass0 (pa_cons (pv 0) (pa_cons (pv 1) pa_nil))) (pg_sub (pv 2) (pe_call G_draw (hr.mono (by decide)) rfl T.g_draw T.F_draw.kp T.b_draw .nil pass0 (pa_cons (pv 0) (pa_cons (pe_callB Lay.call_lenS (by rfl) T.n_len PySem.boot_len (pa_cons (pv 2) pa_nil)) pa_nil))) set_list)))
        pss_nil)))
    (pss_cons (ps_set (i := 5) sc_round.nd rfl (Or.inl rfl) (pe_slice sl_str pe_str po_none (po_some (pe_op op_add pe_int (pe_call G_draw (hr.mono (by decide)) rfl T.g_draw T.F_draw.kp T.b_draw .nil pass0 (pa_cons (pv 0) (pa_cons pe_int pa_nil)))))))
    (Evl.pss_cut (ps_if (pt_cmpR op_eq (pe_call G_draw (hr.mono (by decide)) rfl T.g_draw T.F_draw.kp T.b_draw .nil pass0 (pa_cons (pv 0) (pa_cons pe_int pa_nil))) pe_int (nomark _))
      (pss_one (ps_set (i := 5) sc_round.nd rfl (Or.inl rfl) (pe_call G_thing (hr.mono (by decide)) rfl T.g_thing T.F_thing.kp T.b_thing .nil pass0 (pa_cons (pv 0) pa_nil))))
      pss_nil)
    (pss_cons (ps_set (i := 6) sc_round.nd rfl (Or.inl rfl) (pe_callTy Lay.call_listS (by rfl) T.n_list (by decide +kernel) (pa_cons (pv 2) pa_nil)))
    (pss_cons (ps_set (i := 7) sc_round.nd rfl (Or.inl rfl) (pe_call G_asked (hr.mono (by decide)) rfl T.g_asked T.F_asked.kp T.b_asked .nil pass0 (pa_cons (pv 1) (pa_cons (pv 5) (pa_cons (pv 2) (pa_cons pe_bl pa_nil))))))
    (pss_cons (ps_if (PW.pt (pw_or (pt_not (pt_val (pe_call G_right (hr.mono (by decide)) rfl T.g_right T.F_right.kp T.b_right .nil pass0 (pa_cons (pv 7) (pa_cons (pv 1) (pa_cons (pv 5) (pa_cons (pv 6) pa_nil))))))) (pw_or1 (pt_cmpR (Lay.op_neW hr.units) (pv 2) (pv 6) (nomark _)))))
      (pss_one (ps_ret pe_bl))
      pss_nil)
    (Evl.pss_cut (ps_if (pt_cmpR op_in_seq (pe_callB Lay.call_lenS (by rfl) T.n_len PySem.boot_len (pa_cons (pv 2) pa_nil)) (pe_tup (pa_cons pe_int (pa_cons pe_int pa_nil))) rfl)
      (pss_cons (ps_set (i := 7) sc_round.nd rfl (Or.inl rfl) (pe_call G_asked (hr.mono (by decide)) rfl T.g_asked T.F_asked.kp T.b_asked .nil pass0 (pa_cons (pv 1) (pa_cons (pv 5) (pa_cons (pv 2) (pa_cons pe_bl pa_nil))))))
      (pss_one (ps_if (pt_not (pt_val (pe_call G_right (hr.mono (by decide)) rfl T.g_right T.F_right.kp T.b_right .nil pass0 (pa_cons (pv 7) (pa_cons (pv 1) (pa_cons (pv 5) (pa_cons (pv 6) pa_nil)))))))
        (pss_one (ps_ret pe_bl))
        pss_nil)))
      pss_nil)
    (pss_cons (ps_if (pt_not (pt_val (pe_call G_refusal (hr.mono (by decide)) rfl T.g_refusal T.F_refusal.kp T.b_refusal .nil pass0 (pa_cons (pe_call G_no_steps (hr.mono (by decide)) rfl T.g_no_steps T.F_no_steps.kp T.b_no_steps .nil pass0 (pa_cons (pv 1) pa_nil)) (pa_cons pe_str (pa_cons pe_non pa_nil))))))
      (pss_one (ps_ret pe_bl))
      pss_nil)
    (pss_cons (ps_if (PW.pt (pw_and (pt_cmpR op_eq (pe_callB Lay.call_lenS (by rfl) T.n_len PySem.boot_len (pa_cons (pv 2) pa_nil)) pe_int (nomark _)) (pw_and1 (pt_not (pt_val (pe_call G_right (hr.mono (by decide)) rfl T.g_right T.F_right.kp T.b_right .nil pass0 (pa_cons (pe_call G_again (hr.mono (by decide)) rfl T.g_again T.F_again.kp T.b_again .nil pass0 (pa_cons (pv 1) (pa_cons (pv 2) pa_nil))) (pa_cons (pv 1) (pa_cons pe_str (pa_cons (pv 6) pa_nil))))))))))
      (pss_one (ps_ret pe_bl))
      pss_nil)
    (pss_one (ps_ret pe_bl))))))))))))))), ?_⟩
    walk_at "in"
    walk_at "rd"
    refine Lay.rd_draw hp (L2.Same.refl _) (by omega) (by decide) (by decide) (fun k H1 k0 k2 p1 k1 => ?_)
    walk_at "rd"
    refine Lay.rd_draw p1 (L2.Same.refl _) (by omega) (by decide) (by decide) (fun m H3 m0 m1 p3 k3 => ?_)
    have K3 := k1.trans k3
    clear p1 k1 k3
    walk_at "rd"
    refine ⟨_, rfl, by omega, by omega, ?_⟩
    intro D hD
    obtain ⟨xs3, hP3⟩ := p3.at_
    obtain ⟨xs4, hC3⟩ := p3.cell
    have Dp := Lay.ne_none hD hP3
    have DH : H D = none := K3.none hP3 hD
    have Dc := Lay.ne_none hD hC3
    refine Lay.lc_go (walk_range (lo := 0) (n := (1 + m).toNat)) (fun i l H' => Lay.PenAt c H' p (n + 2 + 5 * i) ∧ Lay.Keep p H3 H' ∧ ∃ os, Lay.SVsp p H' l os ∧ os.length = i)
      ⟨p3.mono (Lay.Same.upd hD), Lay.Keep.of (Lay.Same.upd hD), [], .nil, rfl⟩ (fun _ _ _ _ _ => trivial) ?_ ?_
    · rintro i l x H4 H5 hi hl' hz' ⟨r1, r2, os, r3, r4⟩ hy
      obtain ⟨rfl, rfl⟩ := hy
      walk_at "rd"
      refine ⟨rfl, ?_⟩
      walk_at "it"
      refine ⟨p, k, n + 2 + 5 * i, c, rfl, r1, by omega, fun a l2 H6 ha hl6 hg6 p6 k6 => ?_⟩
      obtain ⟨ys5, hP5⟩ := r1.at_
      have nap : a ≠ p := Lay.ne_none ha hP5
      have e6 := k6 D _ Dp hl'
      refine Lay.lc_put e6 hz' (by omega) ⟨p6.other Dp Dc, ?_, os ++ [some l2], ((r3.keep k6).app (Lay.SVp.tup hl6 nap (Lay.good_kp hg6))).updL e6, by rw [List.length_append, r4]; rfl⟩
      intro b o hb hH
      rw [upd_ne (fun y => by subst y; rw [hD] at hH; cases hH)]
      exact k6 b o hb (r2 b o hb hH)
    rintro l H4 hl' hz' ⟨p4, r2, os, r3, r4⟩
    have K4 := K3.trans r2
    have p4' := p4.le (show n + 2 + 5 * (1 + m).toNat ≤ n + 37 by omega)
    have llen : l.length ≤ 7 := by rw [r3.1, r4]; omega
    clear p4 r2 K3 p3
    walk_at "rd"
    refine Lay.rd_draw p4' (L2.Same.refl _) (by omega) (by decide) (by decide) (fun sc H5 c0 c1 p5 k5 => ?_)
    have K5 := K4.trans k5
    have e5 := k5 D _ Dp hl'
    have r5 := r3.keep k5
    obtain ⟨xs5, hP5⟩ := p5.at_
    obtain ⟨xc5, hC5⟩ := p5.cell
    clear p4' K4 k5 hl' r3
    walk_at "rd"
    refine ⟨fun σ' H' => ∃ t xs os, σ' = [some (.ref p), some (.int k), some (.ref t), none, some (.int sc), none, none, none] ∧ Lay.PenAt c H' p (n + 43) ∧ Lay.Keep p H H' ∧ H' t = some (.lst xs) ∧ t ≠ p ∧ t ≠ c ∧ H t = none ∧ Lay.SVsp p H' xs os ∧ xs.length ≤ 25, ?_, ?_⟩
    · walk_at "rd"
      refine Lay.ite_d (fun c2 => ?_) (fun c2 => ?_)
      · walk_at "rd"
        refine ⟨p, k, n + 37 + 1, c, rfl, p5, by omega, fun a l2 H6 ha hl6 hg6 p6 k6 => ?_⟩
        have nap : a ≠ p := Lay.ne_none ha hP5
        walk_at "rd"
        refine ⟨by decide, fun b1 h1 => ?_⟩
        have s1 := Lay.Same.upd (o := .lst [.ref a]) h1
        walk_at "rd"
        refine Lay.rd_rep upd_same (by omega) (by omega) (fun t ht => ?_)
        have s2 := Lay.Same.upd' (o := .lst (List.replicate (24 + sc).toNat (.ref a))) s1 ht
        obtain ⟨xs6, hP6⟩ := p6.at_
        obtain ⟨xc6, hC6⟩ := p6.cell
        have K6 := K5.trans k6
        walk_at "rd"
        exact ⟨t, _, List.replicate (24 + sc).toNat (some l2), rfl, (p6.mono s2).le (by omega), K6.trans (Lay.Keep.of s2), upd_same, Lay.ne_none ht (s1 _ _ hP6), Lay.ne_none ht (s1 _ _ hC6), K6.none hP6 (Lay.none_of s1 ht), .rep (Lay.SVp.tup (s2 _ _ hl6) nap (Lay.good_kp hg6)) _, by rw [List.length_replicate]; omega⟩
      · walk_at "rd"
        refine Lay.ite_d (fun c3 => ?_) (fun c3 => ?_)
        · walk_at "rd"
          refine ⟨by decide, fun t ht => ?_⟩
          have s1 := Lay.Same.upd (o := .lst []) ht
          walk_at "rd"
          exact ⟨t, [], [], rfl, (p5.mono s1).le (by omega), K5.trans (Lay.Keep.of s1), upd_same, Lay.ne_none ht hP5, Lay.ne_none ht hC5, K5.none hP5 ht, .nil, by decide⟩
        · walk_at "rd"
          exact ⟨D, l, os, rfl, p5.le (by omega), K5, e5, Dp, Dc, DH, r5, by omega⟩
    rintro σ' H7 ⟨t, xs7, os7, rfl, p7, K7, ht7, tp, tc, tH, sv7, len7⟩
    clear p5 K5 e5 r5 hP5 hC5 hP3 hC3 r4 os llen
    walk_at "rd"
    refine Lay.rd_for ?_
    walk_at "rd"
    refine ⟨by decide, fun b1 h1 => ?_⟩
    have s1 := Lay.Same.upd (o := .lst [.int 0, .int 1, .int 1, .int 2]) h1
    obtain ⟨xs8, hP8⟩ := p7.at_
    have n1 := Lay.ne_none h1 hP8
    walk_at "rd"
    refine Lay.rd_draw p7 s1 (by omega) (by decide) (by decide) (fun d4 H8 d40 d41 p8 k8 => ?_)
    have K8 := K7.trans (Lay.Same.keep s1 k8)
    have ht8 := k8 t _ tp (s1 _ _ ht7)
    have sv8 := (sv7.mono s1).keep k8
    obtain ⟨cnt, ec, q0, q2⟩ := Lay.four_at (lo := 0) (hi := 2) (a := 0) (b := 1) (c := 1) (d := 2) d40 d41 (by decide) (by decide) (by decide) (by decide)
    refine Lay.rd_ixL (SqL.of (k8 _ _ n1 upd_same)) ec ?_
    clear p7 K7 ht7 sv7 hP8 k8
    walk_at "rd"
    refine ⟨_, rfl, by omega, by omega, ?_⟩
    refine Lay.for_go (walk_range (lo := 0) (n := cnt.toNat)) (fun i σ' H' => ∃ xs os b, σ' = [some (.ref p), some (.int k), some (.ref t), b, some (.int sc), none, none, none] ∧ Lay.PenAt c H' p (n + 44 + 11 * i) ∧ Lay.Keep p H H' ∧ H' t = some (.lst xs) ∧ Lay.SVsp p H' xs os ∧ xs.length ≤ 25) ⟨xs7, os7, _, rfl, p8, K8, ht8, sv8, len7⟩ (fun _ _ _ _ _ => trivial) ?_ ?_
    · rintro i x σ' H9 H10 hi ⟨xs, os, b, rfl, p9, K9, ht9, sv9, len9⟩ hy
      obtain ⟨rfl, rfl⟩ := hy
      walk_at "rd"
      refine ⟨by decide, fun b2 h2 => ?_⟩
      have s2 := Lay.Same.upd (o := .lst []) h2
      by_cases hx : xs = []
      · subst hx
        refine Lay.rd_neW true (Lay.RcW.listsSame (SqL.of (s2 _ _ ht9)) (SqL.of upd_same) (fun x m => nomatch m)) ?_
        walk_at "it"
        exact ⟨[], os, _, rfl, (p9.mono s2).le (by omega), K9.trans (Lay.Keep.of s2), s2 _ _ ht9, sv9.mono s2, len9⟩
      · have hx1 : xs.length ≠ 0 := fun z => hx (List.length_eq_zero_iff.mp z)
        refine Lay.rd_neW false (Lay.RcW.lens (SqL.of (s2 _ _ ht9)) (SqL.of upd_same) hx1) ?_
        walk_at "it"
        refine ⟨p, k, n + 44 + 11 * i, c, rfl, p9.mono s2, by omega, fun v o H11 hv p11 k11 => ?_⟩
        have ht11 := k11 t _ tp (s2 _ _ ht9)
        have sv11 := (sv9.mono s2).keep k11
        have K11 := (K9.trans (Lay.Keep.of s2)).trans k11
        walk_at "rd"
        refine Lay.rd_draw p11 (L2.Same.refl _) (by omega) (by omega) (by omega) (fun d H12 d0 d1 p12 k12 => ?_)
        have ht12 := k12 t _ tp ht11
        have sv12 := sv11.keep k12
        have K12 := K11.trans k12
        obtain ⟨j, rfl⟩ : ∃ j : Nat, d = (j : Int) := ⟨d.toNat, by omega⟩
        refine Lay.rd_setL ht12 (k := j) (Lay.ixN_of d0 d1) ?_
        refine ⟨_, os.set j o, _, rfl, (p12.other tp tc).le (by omega), ?_, upd_same, (sv12.set (hv.keep k12) j).updL ht12, by rw [List.length_set]; exact len9⟩
        intro b3 o3 hb hH
        rw [upd_ne (fun y => by subst y; rw [tH] at hH; cases hH)]
        exact K12 b3 o3 hb hH
    rintro σ' H9 ⟨xs, os, b, rfl, p9', K9, ht9, sv9, len9⟩
    have p9 := p9'.le (show n + 44 + 11 * cnt.toNat ≤ n + 66 by omega)
    clear p9' p8 K8 ht8 sv8 len7
    walk_at "rd"
    refine Lay.rd_draw p9 (L2.Same.refl _) (by omega) (by decide) (by decide) (fun d6 H10 d60 d61 p10 k10 => ?_)
    have K10 := K9.trans k10
    have ht10 := k10 t _ tp ht9
    have sv10 := sv9.keep k10
    clear p9 K9 ht9 sv9 k10
    walk_at "rd"
    refine ⟨_, rfl, by decide, ?_⟩
    have hz := pre_ok d60 d61
    generalize cutS "devcpu" none (some (1 + d6)) = z at hz ⊢
    have hzl := (Lay.nameOk_len hz).2
    walk_at "rd"
    refine ⟨fun σ' H' => ∃ cv, σ' = [some (.ref p), some (.int k), some (.ref t), b, some (.int sc), some cv, none, none] ∧ Lay.PenAt c H' p (n + 69) ∧ Lay.Keep p H H' ∧ H' t = some (.lst xs) ∧ Lay.SVsp p H' xs os ∧ Lay.Kp p H' cv, ?_, ?_⟩
    · walk_at "rd"
      refine Lay.rd_draw p10 (L2.Same.refl _) (by omega) (by decide) (by decide) (fun d7 H11 _ _ p11 k11 => ?_)
      have K11 := K10.trans k11
      have ht11 := k11 t _ tp ht10
      have sv11 := sv10.keep k11
      walk_at "rd"
      refine Lay.ite_d (fun _ => ?_) (fun _ => ?_)
      · walk_at "rd"
        refine ⟨p, n + 66 + 1 + 1, c, rfl, p11, by omega, fun v H12 kv p12 k12 => ?_⟩
        walk_at "rd"
        exact ⟨v, rfl, p12.le (by omega), K11.trans k12, k12 t _ tp ht11, sv11.keep k12, kv⟩
      · walk_at "rd"
        exact ⟨_, rfl, p11.le (by omega), K11, ht11, sv11, .str (by omega)⟩
    rintro σ' H12 ⟨cv, rfl, p12, K12, ht12, sv12, kcv⟩
    clear p10 K10 ht10 sv10 hz hzl z
    obtain ⟨xs12, hP12⟩ := p12.at_
    walk_at "rd"
    refine Lay.rd_listL (SqL.of ht12) (fun u hu => ?_)
    have su := Lay.Same.upd (o := .lst xs) hu
    have sv := (sv12.mono su).s
    walk_at "rd"
    refine ⟨k, cv, t, xs, os, false, rfl, k0, by omega, kcv.1.mono su, su _ _ ht12, sv, by omega, (fun z => nomatch z), fun e H13 s13 f13 => ?_⟩
    have s1213 := su.trans s13
    have hu13 := s13 u _ upd_same
    have ht13 := s1213 t _ ht12
    have sv13 := sv.mono s13
    walk_at "rd"
    refine ⟨e, k, cv, u, xs, os, rfl, k0, by omega, kcv.1.mono s1213, hu13, sv13, by omega, f13, fun H14 s14 => ?_⟩
    have s1214 := s1213.trans s14
    walk_at "rd"
    refine iteF ?_
    walk_at "it"
    have same14 : ∀ H', L2.Same H13 H' → Lay.RcW K H' 40 (.ref t) (.ref u) true := fun H' s => Lay.RcW.listsSame (SqL.of (s _ _ ht13)) (SqL.of (s _ _ hu13)) (fun x m => (sv13.mem x m).fl)
    refine Lay.rd_neW true (same14 _ s14) ?_
    walk_at "it"
    refine ⟨fun σ' H' => ∃ e, σ' = [some (.ref p), some (.int k), some (.ref t), b, some (.int sc), some cv, some (.ref u), some (.ref e)] ∧ L2.Same H14 H', ?_, ?_⟩
    · walk_at "rd"
      refine Lay.rd_lenL (SqL.of (s14 _ _ ht13)) ?_
      walk_at "rd"
      refine ⟨by decide, fun b3 h3 => ?_⟩
      have s3 := Lay.Same.upd (o := .tup [.int 1, .int 2]) h3
      have s123 := s1214.trans s3
      refine Lay.rd_inD (ns := [1, 2]) (SqT.of upd_same) ?_
      walk_at "rd"
      refine Lay.ite_d (fun c4 => ?_) (fun c4 => ?_)
      · have l12 : 1 ≤ xs.length ∧ xs.length ≤ 2 := by
          simp only [List.mem_cons, List.not_mem_nil, or_false] at c4
          omega
        walk_at "rd"
        refine ⟨k, cv, t, xs, os, true, rfl, k0, by omega, kcv.1.mono s123, s123 _ _ ht12, sv13.mono (s14.trans s3), by omega, (fun _ => l12), fun e2 H15 s15 f15 => ?_⟩
        have s1215 := s123.trans s15
        walk_at "rd"
        refine ⟨e2, k, cv, u, xs, os, rfl, k0, by omega, kcv.1.mono s1215, s15 _ _ (s3 _ _ (s14 _ _ hu13)), sv13.mono ((s14.trans s3).trans s15), by omega, f15, fun H16 s16 => ?_⟩
        walk_at "rd"
        refine iteF ?_
        walk_at "rd"
        exact ⟨e2, rfl, (s3.trans s15).trans s16⟩
      · walk_at "rd"
        exact ⟨e, rfl, s3⟩
    rintro σ' H15 ⟨e3, rfl, s15⟩
    have s1215 := s1214.trans s15
    walk_at "rd"
    refine ⟨k, rfl, k0, by omega, fun e4 H16 s16 f16 => ?_⟩
    walk_at "rd"
    refine ⟨e4, "steps", .non, rfl, f16, .inl rfl, fun H17 s17 => ?_⟩
    have s1217 := (s1215.trans s16).trans s17
    walk_at "rd"
    refine iteF ?_
    walk_at "it"
    refine Lay.rd_lenL (SqL.of (s1217 _ _ ht12)) ?_
    walk_at "rd"
    have fin : ∀ H', L2.Same H12 H' → Q (.bl true) H' := fun H' s => q H' ((p12.mono s).le (by omega)) (K12.trans (Lay.Keep.of s))
    refine Lay.ite_d (fun c5 => ?_) (fun c5 => ?_)
    · have l2 : xs.length = 2 := by omega
      walk_at "rd"
      refine ⟨k, t, xs, os, rfl, k0, by omega, s1217 _ _ ht12, sv.mono (((((s13.trans s14).trans s15).trans s16).trans s17)), l2, fun e5 H18 s18 f18 => ?_⟩
      have s1218 := s1217.trans s18
      walk_at "rd"
      refine ⟨e5, k, .str "good", u, xs, os, rfl, k0, by omega, .str (by decide), s18 _ _ (s17 _ _ (s16 _ _ (s15 _ _ (s14 _ _ hu13)))), sv.mono ((((((s13.trans s14).trans s15).trans s16).trans s17).trans s18)), by omega, f18, fun H19 s19 => ?_⟩
      walk_at "rd"
      refine iteF ?_
      walk_at "it"
      exact fin _ (s1218.trans s19)
    · walk_at "it"
      exact fin _ s1217
def spLaw (K : PySem.W.Frag) : Sp := fun vs H Q _ => ∃ (a : Addr) (ns : List Int), vs = [.ref a] ∧ SqL K H a (ns.map V.int) ∧ ns.length ≤ 63 ∧ ∀ H', Q (.bl true) H'
theorem ok_law (T : Txt K mg A) (G_pen : FnOk P w K mg base CX0 1 A.a_pen A.d_pen ["_law_script"] (Lay.spPen K)) (G_round : FnOk P w K mg base CX0 11 A.a_round A.d_round ["_law_pen_here"] (Lay.spNum 70)) : FnOk P w K mg base CX0 12 A.a_law A.d_law ["_law_script"] (spLaw K) := by
  refine T.F_law.ok sc_law (fun vs H Q E h => ?_) (fun cdv A0 outer s H vs Q E hr h => ?_)
  · obtain ⟨a, ns, rfl, _⟩ := h
    rfl
  · obtain ⟨a, ns, rfl, hS, hl, q⟩ := h
    refine ⟨_, (pss_cons (ps_set (i := 1) sc_law.nd rfl (Or.inr rfl) (pe_call G_pen (hr.mono (by decide)) rfl T.g_pen T.F_pen.kp T.b_pen .nil pass0 (pa_cons (pv 0) pa_nil)))
    (pss_one (ps_ret (pe_callB (cr_all rfl) (by rfl) T.n_all (by decide +kernel) (pa_cons (pe_lc (own := [("_law_k", 2)]) (g := gName 2) (tt := tYes) rfl sc_law.nd (pi_range1 rfl T.n_range (pa_cons pe_int pa_nil)) (blkOk_by (own := [("_law_k", 2)]) (N := ["_law_script", "_law_pen_here", "_law_k"]) (sc := defScope s_law) (by decide +kernel)) (fun _ _ _ _ _ => pg_name (i := 2) sc_law.nd rfl (Or.inl rfl)) (fun _ _ _ _ _ => pts_nil) (fun _ _ _ _ _ => (pe_call G_round (hr.mono (by decide)) rfl T.g_round T.F_round.kp T.b_round .nil pass0 (pa_cons (pv 1) pa_nil)))) pa_nil))))), ?_⟩
    walk_at "in"
    walk_at "rd"
    refine ⟨a, ns, rfl, hS, hl, fun c p H1 hp pen s1 => ?_⟩
    walk_at "rd"
    refine ⟨_, rfl, by decide, by decide, ?_⟩
    intro D hD
    obtain ⟨x1, hx1⟩ := pen.at_
    obtain ⟨x2, hx2⟩ := pen.cell
    have n1 := Lay.ne_none hD hx1
    have n2 := Lay.ne_none hD hx2
    refine Lay.lc_go (walk_range (lo := 0) (n := 5)) (fun i l H' => Lay.PenAt c H' p (70 * i) ∧ l = List.replicate i (V.bl true)) ⟨pen.mono (Lay.Same.upd hD), rfl⟩ (fun _ _ _ _ _ => trivial) ?_ ?_
    · rintro i l x H2 H3 hi hl' hz' ⟨r1, r2⟩ hy
      obtain ⟨rfl, rfl⟩ := hy
      walk_at "rd"
      refine ⟨rfl, ?_⟩
      walk_at "it"
      refine ⟨p, 70 * i, c, rfl, r1, by omega, fun H4 p4 k4 => ?_⟩
      refine Lay.lc_put (k4 _ _ n1 hl') hz' (by omega) ⟨p4.other n1 n2, ?_⟩
      rw [r2, List.replicate_succ']
    · rintro l H4 hl' hz' ⟨r1, rfl⟩
      walk_at "rd"
      exact Lay.rd_alls (bs := [true, true, true, true, true]) (SqL.of hl') (q H4)
theorem ok_all (T : Txt K mg A) : FnOk P w K mg base CX0 12 A.a_law A.d_law ["_law_script"] (spLaw K) := by
  have N1 := ok_NoPart_init (P := P) (w := w) (base := base) T
  have G1 := ok_is_integer (P := P) (w := w) (base := base) T
  have G2 := ok_is_within (P := P) (w := w) (base := base) T G1
  have G3 := ok_is_name (P := P) (w := w) (base := base) T
  have G4 := ok_is_memory_step (P := P) (w := w) (base := base) T G3 G2
  have G5 := ok_is_step (P := P) (w := w) (base := base) T G4 G3
  have G6 := ok_check_agent (P := P) (w := w) (base := base) T N1 G3 G5
  have A1 := ok_Agent_init (P := P) (w := w) (base := base) T G6
  have A2 := ok_Through_init (P := P) (w := w) (base := base) T G6
  have A3 := ok_Back_init (P := P) (w := w) (base := base) T G6
  have M1 := ok_Agent_made (P := P) (w := w) (base := base) T A1
  have M2 := ok_Through_made (P := P) (w := w) (base := base) T A2
  have M3 := ok_Back_made (P := P) (w := w) (base := base) T A3
  have W1 := ok_Agent_with_steps (P := P) (w := w) (base := base) T A1
  have W2 := ok_Through_with_steps (P := P) (w := w) (base := base) T A2
  have W3 := ok_Back_with_steps (P := P) (w := w) (base := base) T A3
  have D1 := ok_draw (P := P) (w := w) (base := base) T
  have D2 := ok_pen (P := P) (w := w) (base := base) T
  have D3 := ok_thing (P := P) (w := w) (base := base) T D1
  have L1 := ok_law_is_name (P := P) (w := w) (base := base) T
  have L2 := ok_within (P := P) (w := w) (base := base) T
  have L3 := ok_refusal (P := P) (w := w) (base := base) T
  have L4 := ok_good_step (P := P) (w := w) (base := base) T D1
  have L5 := ok_law_is_step (P := P) (w := w) (base := base) T L1 L2
  have L6 := ok_bent_step (P := P) (w := w) (base := base) T D1 L4 D3
  have X1 := ok_direct (P := P) (w := w) (base := base) T A1 A2 A3
  have X2 := ok_made (P := P) (w := w) (base := base) T M1 M2 M3
  have X3 := ok_asked (P := P) (w := w) (base := base) T X1 X2
  have X4 := ok_again (P := P) (w := w) (base := base) T X2 W1 W2 W3
  have X5 := ok_no_steps (P := P) (w := w) (base := base) T X2 W1 W2 W3
  have X6 := ok_right (P := P) (w := w) (base := base) T L1 L5 L3
  have R1 := ok_round (P := P) (w := w) (base := base) T D1 D3 L3 L4 L6 X3 X4 X5 X6
  exact ok_law T D2 R1
theorem walk {l : PySem.W.OpenLaw} {q : Program} {loose : List Str} {XP : (Str → Option Value) → Heap → Prop} {YP : World → Heap → Prop} {d : DefRec} {K : Params → PySem.W.Frag} (hn : l.most = some 63) (hdf : d.params.defaults = [])
    (hY : ∀ (w : World) (h : Heap), YP w h → (K w.params).In h)
    (F : ∀ (w : World) (mg : Str → Option Value) (fa : Addr) (h : Heap), (K w.params).In h → h.Ns mainGlobals mg → mg d.name = some (.ref fa) →
      ∃ fd : FuncData, (∀ (s : Shared) (u : Value), BindsTo s fd ⟨[u], []⟩ [("_law_script", u)]) ∧ ∀ base : Heap, (K w.params).In base → base.Ns mainGlobals mg → FnOk l.prog w (K w.params) mg base CX0 12 fa fd ["_law_script"] (spLaw (K w.params))) :
    PySem.W.WalkO q loose XP YP l.row.toRowW d [] (fun f vs => PySem.call f vs) :=
  L2.walk_of (n := 63) (k := 12) (x := "_law_script") (CX := fun _ => CX0) (sp := fun w => spLaw (K w.params)) hn (by decide) hdf ⟨rfl, by decide, by decide⟩ hY F (fun _ _ a ns hl _ hS => ⟨a, ns, rfl, hS, hl, fun _ => rfl⟩) fun _ _ _ _ _ z => z
theorem use {P : Program} {w : World} {K : PySem.W.Frag} {mg : Str → Option Value} {fa : Addr} (h : ∃ A : Adr, Txt K mg A) (hmg : mg "law" = some (.ref fa)) :
    ∃ fd : FuncData, (∀ (s : Shared) (u : Value), BindsTo s fd ⟨[u], []⟩ [("_law_script", u)]) ∧ ∀ base : Heap, K.In base → base.Ns mainGlobals mg → FnOk P w K mg base CX0 12 fa fd ["_law_script"] (spLaw K) := by
  obtain ⟨A, T⟩ := h
  have e := hmg.symm.trans T.g_law
  cases e
  obtain ⟨oc, od, kV, doc, pm, an, cdv, ct, osl, hfd, lk, hcd⟩ := T.F_law.ex
  refine ⟨A.d_law, fun s u => ?_, fun base _ _ => ok_all T⟩
  rw [hfd]
  exact .of_eq rfl
end
end My
set_option maxRecDepth 100000 in
set_option maxHeartbeats 0 in
theorem PySem.Challenge.cw_unkeptlines_k04_agents_refused_holds : PySem.Challenge.rw_unkeptlines_k04_agents_refused.Holds := by
  w_on; o_law; k_head; (case hw => w_witness2)
  k_fill
  refine My.walk (l := PySem.Challenge.rw_unkeptlines_k04_agents_refused) rfl rfl (fun w h Y => PySem.W.kIn_of Y) ?F
  case F =>
    intro w mg fa h KX G hmg
    refine My.use ?_ hmg
    refine' My.all_mk KX G ?a_UnkeptError ?a_NoPart ?a_NoNet ?a_NoName ?a_NoStep ?a_NoDeed ?a_NoText ?a_NoRow ?a_Agent ?pg_Agent ?hd_Agent ?po_Agent ?sa_Agent ?na_Agent_name ?na_Agent_steps ?mk_Agent ?kc_Agent ?a_Through ?pg_Through ?hd_Through ?po_Through ?sa_Through ?na_Through_name ?na_Through_steps ?mk_Through ?kc_Through ?a_Back ?pg_Back ?hd_Back ?po_Back ?sa_Back ?na_Back_name ?na_Back_steps ?mk_Back ?kc_Back ?gg ?tk ?ec_UnkeptError ?hd_UnkeptError ?ty_UnkeptError ?mo_NoPart ?ty_NoPart ?ss_NoPart ?mo_NoNet ?ty_NoNet ?ss_NoNet ?mo_NoName ?ty_NoName ?ss_NoName ?mo_NoStep ?ty_NoStep ?ss_NoStep ?mo_NoDeed ?ty_NoDeed ?ss_NoDeed ?mo_NoText ?ty_NoText ?ss_NoText ?mo_NoRow ?ty_NoRow ?ss_NoRow ?mo_Agent ?ty_Agent ?ss_Agent ?mo_Through ?ty_Through ?ss_Through ?mo_Back ?ty_Back ?ss_Back ?xl_NoPart ?xb_NoPart ?sa_NoPart ?ga_NoPart ?gn_NoPart ?ec_NoPart ?ke_NoPart ?hd_NoPart ?ci_NoPart ?nf_NoPart_reason ?nf_NoPart_place ?su_NoPart ?sb_NoPart_NoNet ?sb_NoPart_NoName ?sb_NoPart_NoStep ?sb_NoPart_NoDeed ?sb_NoPart_NoText ?sb_NoPart_NoRow ?st_NoPart_ValueError ?ci_Agent ?co_Agent ?cg_Agent ?rd_Agent ?gc_Agent ?sb_Through_Agent ?ci_Through ?co_Through ?cg_Through ?rd_Through ?gc_Through ?sb_Back_Agent ?ci_Back ?co_Back ?cg_Back ?rd_Back ?gc_Back ?n_list ?n_int ?n_len ?n_abs ?n_isinstance ?n_str ?n_bool ?n_tuple ?n_all ?n_enumerate ?n_range ?n_ValueError ?a_NoPart_init ?i_NoPart_init ?l_NoPart_init ?e_NoPart_init ?p_NoPart_init ?a_is_integer ?l_is_integer ?e_is_integer ?p_is_integer ?a_is_within ?l_is_within ?e_is_within ?p_is_within ?a_is_name ?l_is_name ?e_is_name ?p_is_name ?a_is_step ?l_is_step ?e_is_step ?p_is_step ?a_is_memory_step ?l_is_memory_step ?e_is_memory_step ?p_is_memory_step ?a_check_agent ?l_check_agent ?e_check_agent ?p_check_agent ?a_Agent_init ?i_Agent_init ?l_Agent_init ?e_Agent_init ?p_Agent_init ?a_Agent_made ?i_Agent_made ?j_Agent_made ?l_Agent_made ?e_Agent_made ?p_Agent_made ?a_Agent_with_steps ?i_Agent_with_steps ?l_Agent_with_steps ?e_Agent_with_steps ?p_Agent_with_steps ?a_Through_init ?i_Through_init ?l_Through_init ?e_Through_init ?p_Through_init ?a_Through_made ?i_Through_made ?j_Through_made ?l_Through_made ?e_Through_made ?p_Through_made ?a_Through_with_steps ?i_Through_with_steps ?l_Through_with_steps ?e_Through_with_steps ?p_Through_with_steps ?a_Back_init ?i_Back_init ?l_Back_init ?e_Back_init ?p_Back_init ?a_Back_made ?i_Back_made ?j_Back_made ?l_Back_made ?e_Back_made ?p_Back_made ?a_Back_with_steps ?i_Back_with_steps ?l_Back_with_steps ?e_Back_with_steps ?p_Back_with_steps ?a_pen ?l_pen ?e_pen ?p_pen ?a_draw ?l_draw ?e_draw ?p_draw ?a_thing ?l_thing ?e_thing ?p_thing ?a_law_is_name ?l_law_is_name ?e_law_is_name ?p_law_is_name ?a_within ?l_within ?e_within ?p_within ?a_refusal ?l_refusal ?e_refusal ?p_refusal ?a_good_step ?l_good_step ?e_good_step ?p_good_step ?a_bent_step ?l_bent_step ?e_bent_step ?p_bent_step ?a_law_is_step ?l_law_is_step ?e_law_is_step ?p_law_is_step ?a_direct ?l_direct ?e_direct ?p_direct ?a_made ?l_made ?e_made ?p_made ?a_asked ?l_asked ?e_asked ?p_asked ?a_again ?l_again ?e_again ?p_again ?a_no_steps ?l_no_steps ?e_no_steps ?p_no_steps ?a_right ?l_right ?e_right ?p_right ?a_round ?l_round ?e_round ?p_round ?a_law ?l_law ?e_law ?p_law ?k_LETTERS ?k_LONGEST_NAME ?k_ACCESS_WORDS ?lk_ACCESS_WORDS ?oc_ACCESS_WORDS ?od_ACCESS_WORDS ?oz_ACCESS_WORDS ?ov_ACCESS_WORDS ?k_UPKEEP_WORDS ?lk_UPKEEP_WORDS ?oc_UPKEEP_WORDS ?od_UPKEEP_WORDS ?oz_UPKEEP_WORDS ?ov_UPKEEP_WORDS ?k_SIGNAL_WORDS ?lk_SIGNAL_WORDS ?oc_SIGNAL_WORDS ?od_SIGNAL_WORDS ?oz_SIGNAL_WORDS ?ov_SIGNAL_WORDS ?k_PLAIN_WORDS ?lk_PLAIN_WORDS ?oc_PLAIN_WORDS ?od_PLAIN_WORDS ?oz_PLAIN_WORDS ?ov_PLAIN_WORDS ?k_CACHE_WORDS ?lk_CACHE_WORDS ?oc_CACHE_WORDS ?od_CACHE_WORDS ?oz_CACHE_WORDS ?ov_CACHE_WORDS ?k_GREATEST_SHIFT ?k_GREATEST_BYTE ?k_MOST_STEPS
    (case a_UnkeptError => k_is)
    (case a_NoPart => k_is)
    (case a_NoNet => k_is)
    (case a_NoName => k_is)
    (case a_NoStep => k_is)
    (case a_NoDeed => k_is)
    (case a_NoText => k_is)
    (case a_NoRow => k_is)
    (case a_Agent => k_is)
    (case pg_Agent => k_is)
    (case hd_Agent => k_is)
    (case po_Agent => k_is)
    (case sa_Agent => k_is)
    (case na_Agent_name => k_is)
    (case na_Agent_steps => k_is)
    (case mk_Agent => k_is)
    (case kc_Agent => k_is)
    (case a_Through => k_is)
    (case pg_Through => k_is)
    (case hd_Through => k_is)
    (case po_Through => k_is)
    (case sa_Through => k_is)
    (case na_Through_name => k_is)
    (case na_Through_steps => k_is)
    (case mk_Through => k_is)
    (case kc_Through => k_is)
    (case a_Back => k_is)
    (case pg_Back => k_is)
    (case hd_Back => k_is)
    (case po_Back => k_is)
    (case sa_Back => k_is)
    (case na_Back_name => k_is)
    (case na_Back_steps => k_is)
    (case mk_Back => k_is)
    (case kc_Back => k_is)
    (case gg => k_is)
    (case tk => k_is)
    (case ec_UnkeptError => k_is)
    (case hd_UnkeptError => k_is)
    (case ty_UnkeptError => k_is)
    (case mo_NoPart => k_is)
    (case ty_NoPart => k_is)
    (case ss_NoPart => k_is)
    (case mo_NoNet => k_is)
    (case ty_NoNet => k_is)
    (case ss_NoNet => k_is)
    (case mo_NoName => k_is)
    (case ty_NoName => k_is)
    (case ss_NoName => k_is)
    (case mo_NoStep => k_is)
    (case ty_NoStep => k_is)
    (case ss_NoStep => k_is)
    (case mo_NoDeed => k_is)
    (case ty_NoDeed => k_is)
    (case ss_NoDeed => k_is)
    (case mo_NoText => k_is)
    (case ty_NoText => k_is)
    (case ss_NoText => k_is)
    (case mo_NoRow => k_is)
    (case ty_NoRow => k_is)
    (case ss_NoRow => k_is)
    (case mo_Agent => k_is)
    (case ty_Agent => k_is)
    (case ss_Agent => k_is)
    (case mo_Through => k_is)
    (case ty_Through => k_is)
    (case ss_Through => k_is)
    (case mo_Back => k_is)
    (case ty_Back => k_is)
    (case ss_Back => k_is)
    (case xl_NoPart => k_is)
    (case xb_NoPart => exact (by first | rfl | decide +kernel))
    (case sa_NoPart => k_is)
    (case ga_NoPart => k_is)
    (case gn_NoPart => k_is)
    (case ec_NoPart => k_is)
    (case ke_NoPart => k_is)
    (case hd_NoPart => k_is)
    (case ci_NoPart => k_is)
    (case nf_NoPart_reason => k_is)
    (case nf_NoPart_place => k_is)
    (case su_NoPart => k_is)
    (case sb_NoPart_NoNet => k_is)
    (case sb_NoPart_NoName => k_is)
    (case sb_NoPart_NoStep => k_is)
    (case sb_NoPart_NoDeed => k_is)
    (case sb_NoPart_NoText => k_is)
    (case sb_NoPart_NoRow => k_is)
    (case st_NoPart_ValueError => k_is)
    (case ci_Agent => k_is)
    (case co_Agent => k_is)
    (case cg_Agent => k_is)
    (case rd_Agent => k_is)
    (case gc_Agent => k_is)
    (case sb_Through_Agent => k_is)
    (case ci_Through => k_is)
    (case co_Through => k_is)
    (case cg_Through => k_is)
    (case rd_Through => k_is)
    (case gc_Through => k_is)
    (case sb_Back_Agent => k_is)
    (case ci_Back => k_is)
    (case co_Back => k_is)
    (case cg_Back => k_is)
    (case rd_Back => k_is)
    (case gc_Back => k_is)
    (case n_list => k_is)
    (case n_int => k_is)
    (case n_len => k_is)
    (case n_abs => k_is)
    (case n_isinstance => k_is)
    (case n_str => k_is)
    (case n_bool => k_is)
    (case n_tuple => k_is)
    (case n_all => k_is)
    (case n_enumerate => k_is)
    (case n_range => k_is)
    (case n_ValueError => k_is)
    (case a_is_integer => k_is)
    (case a_is_within => k_is)
    (case a_is_name => k_is)
    (case a_is_step => k_is)
    (case a_is_memory_step => k_is)
    (case a_check_agent => k_is)
    (case a_pen => k_is)
    (case a_draw => k_is)
    (case a_thing => k_is)
    (case a_law_is_name => k_is)
    (case a_within => k_is)
    (case a_refusal => k_is)
    (case a_good_step => k_is)
    (case a_bent_step => k_is)
    (case a_law_is_step => k_is)
    (case a_direct => k_is)
    (case a_made => k_is)
    (case a_asked => k_is)
    (case a_again => k_is)
    (case a_no_steps => k_is)
    (case a_right => k_is)
    (case a_round => k_is)
    (case a_law => k_is)
    (case a_NoPart_init => k_is)
    (case i_NoPart_init => k_is)
    (case l_NoPart_init => k_is)
    (case e_NoPart_init => k_is)
    (case p_NoPart_init => k_is)
    (case l_is_integer => k_is)
    (case e_is_integer => k_is)
    (case p_is_integer => k_is)
    (case l_is_within => k_is)
    (case e_is_within => k_is)
    (case p_is_within => k_is)
    (case l_is_name => k_is)
    (case e_is_name => k_is)
    (case p_is_name => k_is)
    (case l_is_step => k_is)
    (case e_is_step => k_is)
    (case p_is_step => k_is)
    (case l_is_memory_step => k_is)
    (case e_is_memory_step => k_is)
    (case p_is_memory_step => k_is)
    (case l_check_agent => k_is)
    (case e_check_agent => k_is)
    (case p_check_agent => k_is)
    (case a_Agent_init => k_is)
    (case i_Agent_init => k_is)
    (case l_Agent_init => k_is)
    (case e_Agent_init => k_is)
    (case p_Agent_init => k_is)
    (case a_Agent_made => k_is)
    (case i_Agent_made => k_is)
    (case j_Agent_made => k_is)
    (case l_Agent_made => k_is)
    (case e_Agent_made => k_is)
    (case p_Agent_made => k_is)
    (case a_Agent_with_steps => k_is)
    (case i_Agent_with_steps => k_is)
    (case l_Agent_with_steps => k_is)
    (case e_Agent_with_steps => k_is)
    (case p_Agent_with_steps => k_is)
    (case a_Through_init => k_is)
    (case i_Through_init => k_is)
    (case l_Through_init => k_is)
    (case e_Through_init => k_is)
    (case p_Through_init => k_is)
    (case a_Through_made => k_is)
    (case i_Through_made => k_is)
    (case j_Through_made => k_is)
    (case l_Through_made => k_is)
    (case e_Through_made => k_is)
    (case p_Through_made => k_is)
    (case a_Through_with_steps => k_is)
    (case i_Through_with_steps => k_is)
    (case l_Through_with_steps => k_is)
    (case e_Through_with_steps => k_is)
    (case p_Through_with_steps => k_is)
    (case a_Back_init => k_is)
    (case i_Back_init => k_is)
    (case l_Back_init => k_is)
    (case e_Back_init => k_is)
    (case p_Back_init => k_is)
    (case a_Back_made => k_is)
    (case i_Back_made => k_is)
    (case j_Back_made => k_is)
    (case l_Back_made => k_is)
    (case e_Back_made => k_is)
    (case p_Back_made => k_is)
    (case a_Back_with_steps => k_is)
    (case i_Back_with_steps => k_is)
    (case l_Back_with_steps => k_is)
    (case e_Back_with_steps => k_is)
    (case p_Back_with_steps => k_is)
    (case l_pen => k_is)
    (case e_pen => k_is)
    (case p_pen => k_is)
    (case l_draw => k_is)
    (case e_draw => k_is)
    (case p_draw => k_is)
    (case l_thing => k_is)
    (case e_thing => k_is)
    (case p_thing => k_is)
    (case l_law_is_name => k_is)
    (case e_law_is_name => k_is)
    (case p_law_is_name => k_is)
    (case l_within => k_is)
    (case e_within => k_is)
    (case p_within => k_is)
    (case l_refusal => k_is)
    (case e_refusal => k_is)
    (case p_refusal => k_is)
    (case l_good_step => k_is)
    (case e_good_step => k_is)
    (case p_good_step => k_is)
    (case l_bent_step => k_is)
    (case e_bent_step => k_is)
    (case p_bent_step => k_is)
    (case l_law_is_step => k_is)
    (case e_law_is_step => k_is)
    (case p_law_is_step => k_is)
    (case l_direct => k_is)
    (case e_direct => k_is)
    (case p_direct => k_is)
    (case l_made => k_is)
    (case e_made => k_is)
    (case p_made => k_is)
    (case l_asked => k_is)
    (case e_asked => k_is)
    (case p_asked => k_is)
    (case l_again => k_is)
    (case e_again => k_is)
    (case p_again => k_is)
    (case l_no_steps => k_is)
    (case e_no_steps => k_is)
    (case p_no_steps => k_is)
    (case l_right => k_is)
    (case e_right => k_is)
    (case p_right => k_is)
    (case l_round => k_is)
    (case e_round => k_is)
    (case p_round => k_is)
    (case l_law => k_is)
    (case e_law => k_is)
    (case p_law => k_is)
    (case k_LETTERS => k_is)
    (case k_LONGEST_NAME => k_is)
    (case k_ACCESS_WORDS => k_is)
    (case lk_ACCESS_WORDS => k_is)
    (case oc_ACCESS_WORDS => exact rfl)
    (case od_ACCESS_WORDS => exact rfl)
    (case oz_ACCESS_WORDS => exact (by decide))
    (case ov_ACCESS_WORDS => exact Paired.cons ⟨_, rfl⟩ (Paired.cons ⟨_, rfl⟩ (Paired.cons ⟨_, rfl⟩ (Paired.cons ⟨_, rfl⟩ (Paired.nil)))))
    (case k_UPKEEP_WORDS => k_is)
    (case lk_UPKEEP_WORDS => k_is)
    (case oc_UPKEEP_WORDS => exact rfl)
    (case od_UPKEEP_WORDS => exact rfl)
    (case oz_UPKEEP_WORDS => exact (by decide))
    (case ov_UPKEEP_WORDS => exact Paired.cons ⟨_, rfl⟩ (Paired.cons ⟨_, rfl⟩ (Paired.cons ⟨_, rfl⟩ (Paired.nil))))
    (case k_SIGNAL_WORDS => k_is)
    (case lk_SIGNAL_WORDS => k_is)
    (case oc_SIGNAL_WORDS => exact rfl)
    (case od_SIGNAL_WORDS => exact rfl)
    (case oz_SIGNAL_WORDS => exact (by decide))
    (case ov_SIGNAL_WORDS => exact Paired.cons ⟨_, rfl⟩ (Paired.cons ⟨_, rfl⟩ (Paired.nil)))
    (case k_PLAIN_WORDS => k_is)
    (case lk_PLAIN_WORDS => k_is)
    (case oc_PLAIN_WORDS => exact rfl)
    (case od_PLAIN_WORDS => exact rfl)
    (case oz_PLAIN_WORDS => exact (by decide))
    (case ov_PLAIN_WORDS => exact Paired.cons ⟨_, rfl⟩ (Paired.cons ⟨_, rfl⟩ (Paired.cons ⟨_, rfl⟩ (Paired.cons ⟨_, rfl⟩ (Paired.nil)))))
    (case k_CACHE_WORDS => k_is)
    (case lk_CACHE_WORDS => k_is)
    (case oc_CACHE_WORDS => exact rfl)
    (case od_CACHE_WORDS => exact rfl)
    (case oz_CACHE_WORDS => exact (by decide))
    (case ov_CACHE_WORDS => exact Paired.cons ⟨_, rfl⟩ (Paired.cons ⟨_, rfl⟩ (Paired.cons ⟨_, rfl⟩ (Paired.cons ⟨_, rfl⟩ (Paired.cons ⟨_, rfl⟩ (Paired.cons ⟨_, rfl⟩ (Paired.cons ⟨_, rfl⟩ (Paired.cons ⟨_, rfl⟩ (Paired.cons ⟨_, rfl⟩ (Paired.nil))))))))))
    (case k_GREATEST_SHIFT => k_is)
    (case k_GREATEST_BYTE => k_is)
    (case k_MOST_STEPS => k_is)
