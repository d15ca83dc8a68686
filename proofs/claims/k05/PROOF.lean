import PyProof.Rows.All
import Wide.All
import OpenK.AllK
import Wide.FinOn
import HandS.ForMost
import HandS.Exc
import HandS.Walk
import HandS.IsInst
import HandS.Star
import HandS.ClsMeth
import HandS.Style
import HandS.OwnEq
import HandS.Strs
import HandS.TupAny
import HandS.Evl
import KE.GoesEnum
import PySem.Challenge.RW_unkeptlines_k05_words_allowed
set_option Elab.async false
set_option linter.all false
set_option maxRecDepth 100000
set_option maxHeartbeats 4000000
namespace Lay
open PySem L2
theorem upd_old {H : Hp} {p a : Addr} {o u : HO} (hp : H p = none) (ha : H a = some u) : upd H p o a = some u := by
  rw [upd_ne (ne_of_none ha hp)]; exact ha
/-- all that was tracked but p is as it was -/
def Keep (p : Addr) (H H' : Hp) : Prop := ∀ b o, b ≠ p → H b = some o → H' b = some o
theorem Keep.refl {p : Addr} {H : Hp} : Keep p H H := fun _ _ _ h => h
theorem Keep.trans {p : Addr} {H H1 H2 : Hp} (a : Keep p H H1) (b : Keep p H1 H2) : Keep p H H2 := fun c o n h => b c o n (a c o n h)
theorem Keep.of {p : Addr} {H H1 : Hp} (a : Same H H1) : Keep p H H1 := fun c o _ h => a c o h
theorem Keep.upd {p : Addr} {H : Hp} {o : HO} : Keep p H (upd H p o) := fun c u n h => by rw [upd_ne n]; exact h
theorem Same.upd {H : Hp} {p : Addr} {o : HO} (h : H p = none) : Same H (upd H p o) := fun _ _ e => upd_old h e
theorem Same.upd' {H H1 : Hp} {p : Addr} {o : HO} (s : Same H H1) (h : H1 p = none) : Same H (L2.upd H1 p o) := s.trans (Same.upd h)
/-- the pen: its cells, how many draws were begun (at most n), what is left -/
def PenAt (c : Addr) (H : Hp) (p : Addr) (n : Nat) : Prop := ∃ (ns : List Int) (b l : Int), H p = some (.lst [.ref c, .int b, .int l]) ∧ H c = some (.lst (ns.map V.int)) ∧ ns.length ≤ 63 ∧ 0 ≤ b ∧ b ≤ n ∧ 0 ≤ l
theorem PenAt.mono {c : Addr} {H H' : Hp} {p : Addr} {n : Nat} (s : Same H H') (h : PenAt c H p n) : PenAt c H' p n := by
  obtain ⟨ns, b, l, h1, h2, r⟩ := h
  exact ⟨ns, b, l, s _ _ h1, s _ _ h2, r⟩
theorem PenAt.le {c : Addr} {H : Hp} {p : Addr} {n m : Nat} (h : PenAt c H p n) (e : n ≤ m) : PenAt c H p m := by
  obtain ⟨ns, b, l, h1, h2, h3, h4, h5, h6⟩ := h
  exact ⟨ns, b, l, h1, h2, h3, h4, by omega, h6⟩
/-- a draw -/
def spDraw : Sp := fun vs H Q _ => ∃ (p : Addr) (m : Int) (n : Nat) (c : Addr), vs = [.ref p, .int m] ∧ PenAt c H p n ∧ n < 100000 ∧ 0 < m ∧ m < 1073741824 ∧
  ∀ (d : Int) (H' : Hp), 0 ≤ d → d < m → PenAt c H' p (n + 1) → Keep p H H' → Q (.int d) H'
/-- the pen is made -/
def spPen (K : PySem.W.Frag) : Sp := fun vs H Q _ => ∃ (a : Addr) (ns : List Int), vs = [.ref a] ∧ SqL K H a (ns.map V.int) ∧ ns.length ≤ 63 ∧
  ∀ (c p : Addr) (H' : Hp), H p = none → PenAt c H' p 0 → Same H H' → Q (.ref p) H'

/-! ### readings, a step a rule -/
section
variable {K : PySem.W.Frag} {σ : St} {H : Hp} {Q : VK} {ta tb tc te : TE} {t u : TT} {D : Ends} {ts us : TS} {v x y : V} {i j : Int} {n : Nat} {tA : TA} {QA : List V → Hp → Prop} {QT : Bool → Hp → Prop} {E : XK}
theorem rd_seq (h : ts { D with nx := us D } σ H) : tSeq ts us D σ H := h
theorem rd_asg {g : TG} (h : te σ H fun x H1 => g x σ H1 D.nx) : tAsg te g D σ H := h
theorem rd_ifS (h : t σ H fun b H1 => if b = true then ts D σ H1 else us D σ H1) : tIfS t ts us D σ H := h
theorem rd_ret (h : te σ H D.rt) : tRet te D σ H := h
theorem rd_retN (h : D.rt .non H) : tRetN D σ H := h
theorem rd_next (h : D.nx σ H) : tNext D σ H := h
theorem rd_drop (h : te σ H fun _ H1 => D.nx σ H1) : tDrop te D σ H := h
theorem rd_name (h : R (σ.set n (some v)) H) : gName n v σ H R := h
theorem rd_sub {g : TSet} {R : St → Hp → Prop} (h : ta σ H fun o H1 => tb σ H1 fun i H2 => g o i v H2 fun H3 => R σ H3) : gSub ta tb g v σ H R := h
theorem rd_var (h : σ[n]? = some (some v)) (q : Q v H) : tVar n σ H Q := ⟨v, h, q⟩
theorem rd_c (q : Q v H) : tC v σ H Q := q
theorem rd_op {r : R2} (h : ta σ H fun x H1 => tb σ H1 fun y H2 => r x y H2 Q) : tOp r ta tb σ H Q := h
theorem rd_un {r : V → Hp → VK → Prop} (h : ta σ H fun x H1 => r x H1 Q) : tUn r ta σ H Q := h
theorem rd_I0 {g : Int → Int → V} (q : Q (g i j) H) : rI0 g (.int i) (.int j) H Q := ⟨i, j, rfl, rfl, q⟩
theorem rd_I {C : Int → Int → Prop} {g : Int → Int → V} (hc : C i j) (q : Q (g i j) H) : rI C g (.int i) (.int j) H Q := ⟨i, j, rfl, rfl, hc, q⟩
theorem rd_U {g : Int → V} (q : Q (g i) H) : rU g (.int i) H Q := ⟨i, rfl, q⟩
theorem rd_eq (hs : scal x y = true) (q : Q (.bl (decide (x = y))) H) : rEq x y H Q := ⟨hs, q⟩
theorem rd_ne (hs : scal x y = true) (q : Q (.bl (!decide (x = y))) H) : rNe x y H Q := ⟨hs, q⟩
theorem rd_ixL {p : Addr} {xs : List V} (h : SqL K H p xs) (ha : atI xs i = some v) (q : Q v H) : rIxL K (.ref p) (.int i) H Q := ⟨p, xs, i, v, rfl, rfl, h, ha, q⟩
theorem rd_ixT {p : Addr} {xs : List V} (h : SqT K H p xs) (ha : atI xs i = some v) (q : Q v H) : rIxT K (.ref p) (.int i) H Q := ⟨p, xs, i, v, rfl, rfl, h, ha, q⟩
theorem rd_setL {p : Addr} {xs : List V} {k : Nat} {R : Hp → Prop} (h : H p = some (.lst xs)) (ha : ixN xs.length i = some k) (q : R (upd H p (.lst (xs.set k v)))) : rSetL (.ref p) (.int i) v H R := ⟨p, xs, i, k, rfl, rfl, h, ha, q⟩
theorem rd_tup (h : tA σ H fun xs H1 => xs.length ≤ sizeLine ∧ ∀ p, H1 p = none → Q (.ref p) (upd H1 p (.tup xs))) : tTup tA σ H Q := h
theorem rd_lst (h : tA σ H fun xs H1 => xs.length ≤ sizeLine ∧ ∀ p, H1 p = none → Q (.ref p) (upd H1 p (.lst xs))) : tLst tA σ H Q := h
theorem rd_cons (h : ta σ H fun x H1 => tA σ H1 fun xs H2 => QA (x :: xs) H2) : tCons ta tA σ H QA := h
theorem rd_nil (h : QA [] H) : tNil σ H QA := h
theorem rd_star (h : ta σ H fun x H1 => ∃ p xs, x = V.ref p ∧ (SqT K H1 p xs ∨ SqL K H1 p xs) ∧ tA σ H1 fun ys H2 => QA (xs ++ ys) H2) : StX.tStar K ta tA σ H QA := h
theorem rd_call {sp : Sp} {dvs : List V} (h : tA σ H fun vs H1 => sp (vs ++ dvs) H1 Q E) : tCall sp dvs E tA σ H Q := h
theorem rd_CB {r : List V → Hp → VK → Prop} (h : tA σ H fun vs H1 => r vs H1 Q) : tCB r tA σ H Q := h
theorem rd_test (h : ta σ H fun x H' => ∃ k, x = .bl k ∧ QT k H') : tTest ta σ H QT := h
theorem rd_tB (h : ta σ H fun x H' => ∃ k, x = .bl k ∧ QT k H') : tB ta σ H QT := h
theorem rd_and (h : t σ H fun c H1 => if c = true then u σ H1 QT else QT false H1) : tAnd t u σ H QT := h
theorem rd_or (h : t σ H fun c H1 => if c = true then QT true H1 else u σ H1 QT) : tOr t u σ H QT := h
theorem rd_not (h : t σ H fun c H1 => QT (!c) H1) : tNot t σ H QT := h
theorem rd_andV (h : ta σ H fun x H1 => ∃ c, x = .bl c ∧ if c = true then tb σ H1 Q else Q (.bl false) H1) : tAndV ta tb σ H Q := h
theorem rd_orV (h : ta σ H fun x H1 => ∃ c, x = .bl c ∧ if c = true then Q (.bl true) H1 else tb σ H1 Q) : tOrV ta tb σ H Q := h
theorem rd_notV (h : ta σ H fun x H1 => ∃ c, x = .bl c ∧ Q (.bl (!c)) H1) : tNotV ta σ H Q := h
theorem rd_tIf (h : t σ H fun c H1 => if c = true then ta σ H1 Q else tb σ H1 Q) : tIf t ta tb σ H Q := h
theorem rd_fld {a C dx : Addr} {fs : List (Str × V)} {f : Str} (h : ta σ H fun x H1 => ∃ a C dx fs v, x = .ref a ∧ H1 a = some (.ins C dx fs) ∧ Cls K C ∧ NoAttr K C f ∧ fs.lookup f = some v ∧ Q v H1) : tFld K ta f σ H Q := h
theorem rd_slL {p : Addr} {xs : List V} {lo hi : Option Int} (h : SqL K H p xs) (q : ∀ r, H r = none → Q (.ref r) (upd H r (.lst (cutV xs lo hi)))) : rSlL K (.ref p) lo hi H Q := ⟨p, xs, rfl, h, q⟩
theorem rd_sl {r : V → Option Int → Option Int → Hp → VK → Prop} {tl th : TO} (h : te σ H fun x H1 => tl σ H1 fun l H2 => th σ H2 fun u H3 => r x l u H3 Q) : tSl r te tl th σ H Q := h
theorem rd_noP {QO : Option Int → Hp → Prop} (q : QO none H) : tNoPart σ H QO := q
theorem rd_part {QO : Option Int → Hp → Prop} (q : te σ H fun x H1 => ∃ i, x = .int i ∧ QO (some i) H1) : tPart te σ H QO := q
theorem rd_BM {T : String} {r : V → List V → Hp → VK → Prop} (h : ta σ H fun x H1 => tyV K T x H1 ∧ tA σ H1 fun xs H2 => r x xs H2 Q) : tBM K T r ta tA σ H Q := h
theorem rd_app {p : Addr} {xs : List V} (h : H p = some (.lst xs)) (hl : xs.length < sizeLine) (q : Q .non (upd H p (.lst (xs ++ [y])))) : rAppend (.ref p) [y] H Q := ⟨p, xs, y, rfl, rfl, h, hl, q⟩
/-! ways -/
theorem ite_d {p : Prop} [Decidable p] {A B : Prop} (h1 : p → A) (h2 : ¬ p → B) : if decide p = true then A else B := by
  by_cases c : p
  · rw [if_pos (by simpa using c)]; exact h1 c
  · rw [if_neg (by simpa using c)]; exact h2 c
theorem ite_n {p : Prop} [Decidable p] {A B : Prop} (h1 : ¬ p → A) (h2 : p → B) : if (!decide p) = true then A else B := by
  by_cases c : p
  · rw [if_neg (by simp [c])]; exact h2 c
  · rw [if_pos (by simp [c])]; exact h1 c
theorem ite_b {b : Bool} {A B : Prop} (h1 : b = true → A) (h2 : b = false → B) : if b = true then A else B := by
  cases b
  · rw [if_neg Bool.false_ne_true]; exact h2 rfl
  · rw [if_pos rfl]; exact h1 rfl
end
/-! ### built-ins by name -/
def rLenS (K : PySem.W.Frag) : List V → Hp → VK → Prop := fun xs H Q => ∃ p ys, xs = [.ref p] ∧ (SqL K H p ys ∨ SqT K H p ys) ∧ Q (.int ys.length) H
theorem call_lenS {X : Cx} : CallR X (.builtin "len") (rLenS X.K) := call_len_seq
theorem rd_lenL {K : PySem.W.Frag} {H : Hp} {Q : VK} {p : Addr} {xs : List V} (h : SqL K H p xs) (q : Q (.int xs.length) H) : rLenS K [.ref p] H Q := ⟨p, xs, rfl, .inl h, q⟩
theorem rd_lenT {K : PySem.W.Frag} {H : Hp} {Q : VK} {p : Addr} {xs : List V} (h : SqT K H p xs) (q : Q (.int xs.length) H) : rLenS K [.ref p] H Q := ⟨p, xs, rfl, .inr h, q⟩
def rInt1 : List V → Hp → VK → Prop := fun xs H Q => (∃ i, xs = [.int i] ∧ Q (.int i) H) ∨ ∃ k, xs = [.bl k] ∧ Q (.int (if k then 1 else 0)) H
theorem call_intI {X : Cx} : CallR X (.type "int") rInt1 := call_int1
theorem rd_int {H : Hp} {Q : VK} {i : Int} (q : Q (.int i) H) : rInt1 [.int i] H Q := .inl ⟨i, rfl, q⟩
theorem rd_intB {H : Hp} {Q : VK} {k : Bool} (q : Q (.int (if k then 1 else 0)) H) : rInt1 [.bl k] H Q := .inr ⟨k, rfl, q⟩
def rAbs : List V → Hp → VK → Prop := fun xs H Q => ∃ i, xs = [.int i] ∧ Q (.int (if i < 0 then -i else i)) H
theorem call_absI {X : Cx} : CallR X (.builtin "abs") rAbs := call_abs
theorem rd_abs {H : Hp} {Q : VK} {i : Int} (q : Q (.int (if i < 0 then -i else i)) H) : rAbs [.int i] H Q := ⟨i, rfl, q⟩
def rListOf (K : PySem.W.Frag) : List V → Hp → VK → Prop := fun xs H Q => ∃ p ys, xs = [.ref p] ∧ (SqL K H p ys ∨ SqT K H p ys) ∧ ∀ l, H l = none → Q (.ref l) (upd H l (.lst ys))
theorem call_listS {X : Cx} : CallR X (.type "list") (rListOf X.K) := call_list_of
theorem rd_listL {K : PySem.W.Frag} {H : Hp} {Q : VK} {p : Addr} {xs : List V} (h : SqL K H p xs) (q : ∀ l, H l = none → Q (.ref l) (upd H l (.lst xs))) : rListOf K [.ref p] H Q := ⟨p, xs, rfl, .inl h, q⟩
theorem rd_listT {K : PySem.W.Frag} {H : Hp} {Q : VK} {p : Addr} {xs : List V} (h : SqT K H p xs) (q : ∀ l, H l = none → Q (.ref l) (upd H l (.lst xs))) : rListOf K [.ref p] H Q := ⟨p, xs, rfl, .inr h, q⟩
def rTupOf (K : PySem.W.Frag) : List V → Hp → VK → Prop := fun xs H Q => ∃ p ys, xs = [.ref p] ∧ ((SqL K H p ys ∧ ∀ l, H l = none → Q (.ref l) (upd H l (.tup ys))) ∨ (SqT K H p ys ∧ Q (.ref p) H))
theorem call_tupS {X : Cx} : CallR X (.type "tuple") (rTupOf X.K) := call_tuple_of
theorem rd_tupL {K : PySem.W.Frag} {H : Hp} {Q : VK} {p : Addr} {xs : List V} (h : SqL K H p xs) (q : ∀ l, H l = none → Q (.ref l) (upd H l (.tup xs))) : rTupOf K [.ref p] H Q := ⟨p, xs, rfl, .inl ⟨h, q⟩⟩
theorem rd_tupT {K : PySem.W.Frag} {H : Hp} {Q : VK} {p : Addr} {xs : List V} (h : SqT K H p xs) (q : Q (.ref p) H) : rTupOf K [.ref p] H Q := ⟨p, xs, rfl, .inr ⟨h, q⟩⟩
def rLenStr : List V → Hp → VK → Prop := fun xs H Q => ∃ z, xs = [.str z] ∧ z.length ≤ sizeLine ∧ Q (.int z.length) H
theorem call_lenStr {X : Cx} : CallR X (.builtin "len") rLenStr := call_len_str
theorem rd_lenStr {H : Hp} {Q : VK} {z : Str} (h : z.length ≤ sizeLine) (q : Q (.int z.length) H) : rLenStr [.str z] H Q := ⟨z, rfl, h, q⟩
theorem sqL_of {K : PySem.W.Frag} {H : Hp} {a : Addr} {xs : List V} (h : H a = some (.lst xs)) : SqL K H a xs := .inl (.inl h)
theorem sqT_of {K : PySem.W.Frag} {H : Hp} {a : Addr} {xs : List V} (h : H a = some (.tup xs)) : SqT K H a xs := .inl (.inl h)
theorem sqL_upd {K : PySem.W.Frag} {H : Hp} {a p : Addr} {o : HO} {xs : List V} (hp : H p = none) (h : SqL K H a xs) : SqL K (upd H p o) a xs := (Same.upd hp).seq h
theorem same_sqT {K : PySem.W.Frag} {H H' : Hp} {a : Addr} {xs : List V} (e : Same H H') (h : SqT K H a xs) : SqT K H' a xs := by
  rcases h with (h | ⟨o, h⟩) | h
  · exact .inl (.inl (e _ _ h))
  · exact .inl (.inr ⟨o, e _ _ h⟩)
  · exact .inr h
theorem sqT_upd {K : PySem.W.Frag} {H : Hp} {a p : Addr} {o : HO} {xs : List V} (hp : H p = none) (h : SqT K H a xs) : SqT K (upd H p o) a xs := same_sqT (Same.upd hp) h

/-! ### remainders and quotients by positive numbers, as letters -/
def rModP : R2 := fun x y H Q => ∃ i j, x = .int i ∧ y = .int j ∧ 0 < j ∧ ∀ d : Int, d = i % j → 0 ≤ d → d < j → Q (.int d) H
theorem op_modP {X : Cx} : OpR X (binaryOp .Mod) rModP := fun pins s σ H x y v u Q I rx ry h => by
  obtain ⟨i, j, ex, ey, hj, q⟩ := h
  refine op_mod pins s σ H x y v u Q I rx ry ⟨i, j, ex, ey, hj, q _ rfl (Int.emod_nonneg _ (by omega)) (Int.emod_lt_of_pos _ hj)⟩
def rDivP : R2 := fun x y H Q => ∃ i j, x = .int i ∧ y = .int j ∧ (0 < j ∧ j < 1073741824) ∧ ∀ d : Int, d = i / j → Q (.int d) H
theorem op_divP {X : Cx} : OpR X (binaryOp .FloorDiv) rDivP := fun pins s σ H x y v u Q I rx ry h => by
  obtain ⟨i, j, ex, ey, hj, q⟩ := h
  exact op_fdiv pins s σ H x y v u Q I rx ry ⟨i, j, ex, ey, hj, q _ rfl⟩
theorem rd_modP {i j : Int} {H : Hp} {Q : VK} (hj : 0 < j) (q : ∀ d : Int, d = i % j → 0 ≤ d → d < j → Q (.int d) H) : rModP (.int i) (.int j) H Q := ⟨i, j, rfl, rfl, hj, q⟩
theorem rd_divP {i j : Int} {H : Hp} {Q : VK} (hj : 0 < j ∧ j < 1073741824) (q : ∀ d : Int, d = i / j → Q (.int d) H) : rDivP (.int i) (.int j) H Q := ⟨i, j, rfl, rfl, hj, q⟩
/-- a list of numbers beside an empty one -/
theorem dpAll_ints {K : PySem.W.Frag} {H : Hp} : ∀ ns : List Int, DpAll K H (ns.map V.int) (ns.map PyData.int)
  | [] => .nil
  | n :: r => .cons (.int n) (dpAll_ints r)
theorem rd_ne_nil {K : PySem.W.Frag} {H : Hp} {Q : VK} {c p : Addr} {ns : List Int} (h : SqL K H c (ns.map V.int)) (hp : SqL K H p []) (q1 : ns ≠ [] → Q (.bl true) H) (q2 : ns = [] → Q (.bl false) H) : rNeD K (.ref c) (.ref p) H Q := by
  refine ⟨.list (ns.map PyData.int), .list [], .lst h (dpAll_ints ns), .lst hp .nil, ?_, by decide, ?_⟩
  · exact PySem.W.shaped_ints ns
  · cases ns with
    | nil => exact q2 rfl
    | cons a r => exact q1 (by simp)

theorem pow_ok {a : Int} {k : Int} (hk : 0 ≤ k) (hk2 : k ≤ 1000000) (h0 : 0 ≤ a) (h1 : a < 18446744073709551616) : CPow a k := ⟨hk, hk2, by omega⟩
theorem mix_ok {x b c d e k : Int} (hx : 0 ≤ x) (hx2 : x < 4294967296) (hb : 0 ≤ b) (hb2 : b < 200000) (hc : 0 ≤ c) (hc2 : c < 1000) (hd : 0 ≤ d) (hd2 : d < 1000000) (he : 0 ≤ e) (he2 : e < 1000000) (hk : 0 ≤ k) (hk2 : k ≤ 1000000) :
    CPow (x * (2 * b + c) + d * b * b + e) k := by
  have h1 : x * (2 * b + c) ≤ 4294967296 * (2 * b + c) := Int.mul_le_mul_of_nonneg_right (by omega) (by omega)
  have h0 : 0 ≤ x * (2 * b + c) := Int.mul_nonneg hx (by omega)
  have h2 : 0 ≤ d * b := Int.mul_nonneg hd hb
  have h3 : d * b ≤ 1000000 * b := Int.mul_le_mul_of_nonneg_right (by omega) hb
  have h4 : 0 ≤ d * b * b := Int.mul_nonneg h2 hb
  have h5 : d * b * b ≤ (1000000 * 200000) * b := Int.mul_le_mul_of_nonneg_right (by omega) hb
  exact pow_ok hk hk2 (by omega) (by omega)
theorem dbb_ok {d b : Int} (hb : 0 ≤ b) (hb2 : b < 200000) (hd : 0 ≤ d) (hd2 : d < 1000000) : CMul (d * b) b := .inr ⟨by omega, by omega⟩

theorem rd_exb {b : Bool} {P : Bool → Prop} (q : P b) : ∃ k, V.bl b = V.bl k ∧ P k := ⟨b, rfl, q⟩
theorem rd_exi {b : Int} {P : Int → Prop} (q : P b) : ∃ k, V.int b = V.int k ∧ P k := ⟨b, rfl, q⟩

theorem atI_int {α : Type} {xs : List α} {d : Int} {v : α} (h0 : 0 ≤ d) (h : xs[d.toNat]? = some v) : atI xs d = some v := by
  have q := atI_nat h
  rw [Int.toNat_of_nonneg h0] at q
  exact q
theorem rd_exs {z : Str} {P : Str → Prop} (q : P z) : ∃ k, V.str z = V.str k ∧ P k := ⟨z, rfl, q⟩
theorem rd_exr {a : Addr} {P : Addr → Prop} (q : P a) : ∃ k, V.ref a = V.ref k ∧ P k := ⟨a, rfl, q⟩
theorem rd_eqI {i j : Int} {H : Hp} {Q : VK} (q : Q (.bl (decide (i = j))) H) : rEq (.int i) (.int j) H Q := ⟨rfl, by
  rw [show decide (V.int i = V.int j) = decide (i = j) from by
    by_cases h : i = j
    · rw [decide_eq_true h, h]; exact decide_eq_true rfl
    · rw [decide_eq_false h]; exact decide_eq_false fun z => h (V.int.inj z)]
  exact q⟩
theorem rd_neI {i j : Int} {H : Hp} {Q : VK} (q : Q (.bl (!decide (i = j))) H) : rNe (.int i) (.int j) H Q := ⟨rfl, by
  rw [show decide (V.int i = V.int j) = decide (i = j) from by
    by_cases h : i = j
    · rw [decide_eq_true h, h]; exact decide_eq_true rfl
    · rw [decide_eq_false h]; exact decide_eq_false fun z => h (V.int.inj z)]
  exact q⟩
theorem rd_eqS {i j : Str} {H : Hp} {Q : VK} (q : Q (.bl (decide (i = j))) H) : rEq (.str i) (.str j) H Q := ⟨rfl, by
  rw [show decide (V.str i = V.str j) = decide (i = j) from by
    by_cases h : i = j
    · rw [decide_eq_true h, h]; exact decide_eq_true rfl
    · rw [decide_eq_false h]; exact decide_eq_false fun z => h (V.str.inj z)]
  exact q⟩
theorem rd_neS {i j : Str} {H : Hp} {Q : VK} (q : Q (.bl (!decide (i = j))) H) : rNe (.str i) (.str j) H Q := ⟨rfl, by
  rw [show decide (V.str i = V.str j) = decide (i = j) from by
    by_cases h : i = j
    · rw [decide_eq_true h, h]; exact decide_eq_true rfl
    · rw [decide_eq_false h]; exact decide_eq_false fun z => h (V.str.inj z)]
  exact q⟩
theorem rd_eqB {i j : Bool} {H : Hp} {Q : VK} (q : Q (.bl (i == j)) H) : rEq (.bl i) (.bl j) H Q := ⟨rfl, by
  rw [show decide (V.bl i = V.bl j) = (i == j) from by cases i <;> cases j <;> rfl]
  exact q⟩
theorem rd_neB {i j : Bool} {H : Hp} {Q : VK} (q : Q (.bl (!(i == j))) H) : rNe (.bl i) (.bl j) H Q := ⟨rfl, by
  rw [show decide (V.bl i = V.bl j) = (i == j) from by cases i <;> cases j <;> rfl]
  exact q⟩
end Lay

namespace PySem
namespace OpsM
/-- enumerate(v) alone, v begun by B -/
theorem meets_enum1 {v : Value} {o : Obj} {Hq : Heap → Prop} (B : Begins v o Hq) :
    Meets (Builtin.«enumerate.__new__» ⟨[.type "enumerate", v], []⟩) (fun _ R s => Hq s.heap ∧
      R (.ok (.ret (.ref (s.heap.push o).objs.size))) { s with heap := (s.heap.push o).push { cls := .type "enumerate", data := .fields #[.none, .bool false, .ref s.heap.objs.size, rawInt 0, .none, .none] } }) := by
  refine .of_wp fun prog w A R s hR => ?_
  obtain ⟨hp, g, d, tk, os⟩ := s
  obtain ⟨hq0, hR⟩ := hR
  have subE := sub_enumerate
  have its : ∀ {A1 : Around} {E1 : Value → Shared → Prop} {Q1 : Value → Shared → Prop}, Q1 (.ref hp.objs.size) ⟨hp.push o, g, d, tk, os⟩ → wpAny (model prog w) A1 (pyIter v) Q1 E1 ⟨hp, g, d, tk, os⟩ :=
    fun z => B.iter prog w _ _ ⟨hp, g, d, tk, os⟩ _ hq0 z
  wp_walk using its
  refine wpAny_stack_any fun stk => wpAny_pure ?_
  split
  · rename_i cl _ _ _ _ _
    cases (cl == Value.type "enumerate")
    all_goals (wp_walk using its; exact ⟨_, rfl, hR⟩)
  · wp_walk using its; exact ⟨_, rfl, hR⟩
theorem call_enum1 {prog : Program} {w : World} {A : Around} {E : Value → Shared → Prop} {s : Shared} {v : Value} {o : Obj} {Hq : Heap → Prop} {Q : Value → Shared → Prop} (B : Begins v o Hq) (h1 : Hq s.heap)
    (h : ∀ h2, IsEnum h2 (s.heap.objs.size + 1) s.heap.objs.size 0 .none → h2.get? s.heap.objs.size = some o → (∀ b u, s.heap.get? b = some u → h2.get? b = some u) → Q (.ref (s.heap.objs.size + 1)) { s with heap := h2 }) :
    wpAny (model prog w) A (call (.type "enumerate") [v]) Q E s := by
  refine callType_new F.called_enumerate (by decide) (F.typeCall_enumerate_1 _) (F.newCall_enumerate_1 _) (fun obj => F.args_object_init_2 obj _) F.entry_enumerate_new (meets_enum1 B) ⟨h1, ?_⟩
  have hz : (s.heap.push o).objs.size = s.heap.objs.size + 1 := Heap.size_push ..
  show _ ∧ _
  rw [hz]
  have he : IsEnum ((s.heap.push o).push { cls := .type "enumerate", data := .fields #[.none, .bool false, .ref s.heap.objs.size, rawInt 0, .none, .none] }) (s.heap.objs.size + 1) s.heap.objs.size 0 .none := by
    have z := Heap.get?_push_size (s.heap.push o) (o := { cls := .type "enumerate", data := .fields #[.none, .bool false, .ref s.heap.objs.size, rawInt 0, .none, .none] }) rfl
    rw [hz] at z
    exact z
  exact ⟨⟨_, he, rfl⟩, h _ he (Heap.get?_push_of_some _ (Heap.get?_push_size _ B.free)) fun b u z => Heap.get?_push_of_some _ (Heap.get?_push_of_some _ z)⟩
end OpsM
end PySem
namespace Lay
open PySem PySem.Spec PyProof.Rows L2
/-! ### enumerate(tuple) -/
def Itet (K : PySem.W.Frag) (a : Addr) : It :=
  ⟨fun i H => ∃ (xs : List V) (x : V), SqT K H a xs ∧ xs[i]? = some x, fun i H v H' => ∃ T x, v = .ref T ∧ H T = none ∧ H' = upd H T (.tup [.int (i : Nat), x]) ∧ ∀ xs, SqT K H a xs → xs[i]? = some x, fun i H => ∃ xs : List V, SqT K H a xs ∧ xs.length ≤ i⟩
theorem tuple_iter_ne {h : Heap} {it a : Addr} {i : Nat} {its : Array Value} (h1 : h.IsTupleIter it a i) (h2 : h.IsTuple a its) : a ≠ it := fun z => by
  obtain ⟨o, e, c, d⟩ := h1
  obtain ⟨u, e2, c2, _⟩ := h2
  rw [z, e] at e2
  cases e2
  rw [c] at c2
  injection c2 with y
  exact absurd y (by decide)
theorem enum_ne {h : Heap} {e it a : Addr} {c : Int} {old : Value} {its : Array Value} (h1 : IsEnum h e it c old) (h2 : h.IsTuple a its) : e ≠ a := fun z => by
  obtain ⟨u, e2, c2, _⟩ := h2
  have h1' : h.get? e = some _ := h1
  rw [← z, h1'] at e2
  cases e2
  injection c2 with y
  exact absurd y (by decide)
theorem turn_enumT {P : Program} {w : World} {K : PySem.W.Frag} {elts : List Expr} {kk : Nat} {tpos : Pos} (a e it : Addr) :
    Turn P w K (.Tuple elts kk tpos) (Itet K a) [e, it] e (fun i h => (∃ old, IsEnum h e it ((i : Nat) : Int) old) ∧ h.IsTupleIter it a i ∧ e ≠ it) where
  mem := List.mem_cons_self ..
  obj := fun i h st b hb => by
    obtain ⟨⟨old, he⟩, ⟨o, ho, hc, hd⟩, _⟩ := st
    rcases List.mem_cons.mp hb with z | z
    · subst z; exact ⟨_, he, fun v q => nomatch q⟩
    · rw [List.mem_singleton.mp z]; exact ⟨o, ho, fun v q => by rw [hd] at q; cases q⟩
  keep := fun i h h2 st k => ⟨let ⟨old, he⟩ := st.1; ⟨old, k e (List.mem_cons_self ..) _ he⟩, st.2.1.at fun o q => k it (by simp) o q, st.2.2⟩
  item := by
    intro X hP hw hK hc i pins s σ H E I hf st hg
    subst hP hw hK
    obtain ⟨⟨old, he⟩, hit, hne⟩ := st
    obtain ⟨xs, x, hq, hx⟩ := hg
    obtain ⟨its, rv, p, hz⟩ := I.tuple hq
    obtain ⟨u, hu, ru⟩ := rv.get hx
    have hT : s.heap.IsTuple a its.toArray := p
    have hel : e < s.heap.objs.size := Heap.lt_size he
    have hil : it < s.heap.objs.size := by obtain ⟨_, q, _⟩ := hit; exact Heap.lt_size q
    have hei : e ∉ [it, a] := by
      intro z
      rcases List.mem_cons.mp z with z | z
      · exact hne z
      · exact enum_ne he hT (List.mem_singleton.mp z)
    have hlt : i < its.toArray.size := by
      have z := (List.getElem?_eq_some_iff.mp hu).1
      simpa using z
    refine wpAny_pyNext_enum_itemC (Draws.tuple (prog := X.prog) (w := X.w) (A := X.A.in1) (I.ok.hd hc) it a (tuple_iter_ne hit hT) its.toArray) he ⟨hit, hT⟩ hlt hne hei fun y h2 tk hy ho hst hTn hsz hk => ?_
    have ey : y = u := by
      have z : its.toArray[i]? = some u := by simpa using hu
      rw [z] at hy
      exact (Option.some.inj hy).symm
    subst ey
    refine ⟨_, rfl, wpAny_letOwnedTupleGo_enum (s := { s with heap := h2, toks := tk + 1 }) ho fun h3 he3 sb => ?_⟩
    have hT3 : h3.get? s.heap.objs.size = some { cls := .type "tuple", data := .seq #[.int i tk, y] } := (sb.2 _ (Nat.ne_of_gt hel)).trans hTn
    have new : ObjOk X.prog X.w (upd H s.heap.objs.size (.tup [.int (i : Nat), x])) h3 s.heap.objs.size (.tup [.int (i : Nat), x]) :=
      ⟨by show 2 ≤ sizeLine; decide, [.int i tk, y], .cons ⟨_, rfl⟩ (.cons ru .nil), ⟨_, hT3, rfl, _, rfl⟩⟩
    have I1 : Inv X pins σ (upd H s.heap.objs.size (.tup [.int (i : Nat), x])) { s with heap := h3, toks := tk + 1 } :=
      I.turnedNew (ch := [e, it]) (fun b ob hb q => (sb.2 b (fun z => hb (by rw [z]; exact List.mem_cons_self ..))).trans (hk b ob (fun z => hb (by rw [z]; exact List.mem_cons_self ..)) (fun z => hb (by simp [z])) q)) hf (Nat.le_refl _) new
    refine ⟨.ref s.heap.objs.size, _, I1, rfl, ⟨_, x, rfl, I.hok.fresh (Nat.le_refl _), rfl, fun ys hy => by rw [I.tuple_inj hy hq]; exact hx⟩, ⟨⟨y, ?_⟩, hst.1.at fun o q => (sb.2 it (Ne.symm hne)).trans q, hne⟩, fun b hb => ?_⟩
    · rw [show ((i + 1 : Nat) : Int) = (i : Int) + 1 from by omega]
      exact he3
    · have hlb : b < s.heap.objs.size := by
        rcases List.mem_cons.mp hb with z | z
        · rw [z]; exact hel
        · rw [List.mem_singleton.mp z]; exact hil
      rw [upd_ne (Nat.ne_of_lt hlb)]
      exact (hf b hb).1
  done := by
    intro X hP hw hK hc i pins s σ H E I hf st hg
    subst hP hw hK
    obtain ⟨⟨old, he⟩, hit, hne⟩ := st
    obtain ⟨xs, hq, hx⟩ := hg
    obtain ⟨its, rv, p, hz⟩ := I.tuple hq
    have hT : s.heap.IsTuple a its.toArray := p
    obtain ⟨f0, f1, f2, f3, f4, f5⟩ := hf it (by simp)
    have hn : its.toArray[i]? = none := by
      have z := rv.length
      simp only [List.getElem?_toArray, List.getElem?_eq_none_iff]
      omega
    have Dn : Draws X.prog X.w X.A.in1 it [it, a] i (fun _ _ => False) (fun j h => j = i ∧ h.IsTupleIter it a i ∧ h.IsTuple a its.toArray) :=
      ⟨fun j h z => let ⟨o, ho, _⟩ := z.2.1; ⟨o, ho⟩, fun j h h2 z k => ⟨z.1, z.2.1.at fun o q => k it (by simp) o q, z.2.2.at fun o q => k a (by simp) o q⟩,
        fun j s1 Q1 E1 hj z _ => absurd hj (by rw [z.1]; exact Nat.lt_irrefl _), fun s1 Q1 E1 z hE => wpAny_nextOf_tuple_end (I.ok.hd hc) z.2.1 z.2.2 hn hE⟩
    exact wpAny_pyNext_enum_endD Dn he ⟨rfl, hit, hT⟩ fun h2 eb => ⟨rfl, I.turned (t' := s.toks) (fun b o hb q => eb b o hb q) f0 f1 f3 f4 f5⟩
  self := fun A i s Q E st h => let ⟨⟨_, he⟩, _⟩ := st; wpAny_pyIter_enum he h
def iEnumT (K : PySem.W.Frag) (ta : TA) : TI := fun σ H R => ta σ H fun vs H1 => ∃ a xs, vs = [.ref a] ∧ SqT K H1 a xs ∧ R (Itet K a) H1
theorem pi_enumT {X : Cx} {e : Expr} {ta : TA} {p pos tpos : Pos} {elts : List Expr} {kk : Nat} (hg : Gl X "enumerate") (hm : X.mg "enumerate" = none) (ha : PA X [e] ta) (hs : starEach [e] X.env = [(false, eval e X.env)] := by rfl) :
    PI X (.Tuple elts kk tpos) (.Call (.Name "enumerate" p) [e] [] pos) (iEnumT X.K ta) := by
  refine ⟨fun pins s σ H R I h => ?_⟩
  refine Call_ (ld_blt I hg hm boot_enumerate (PyProof.Rows.callWith_type1 (thn (ha.run pos pins s σ H _ I h) fun us s1 ⟨vs, H1, I1, r1, a, xs, ex, hq, q⟩ => ?_) hs rfl))
  subst ex
  cases r1 with
  | cons r rr =>
    cases rr
    cases r
    obtain ⟨its, rv, pt, hz⟩ := I1.tuple hq
    have hT : s1.heap.IsTuple a its.toArray := pt
    refine OpsM.call_enum1 (begins_tuple a its.toArray) hT fun h2 he hit hk => wpAny_pyIter_enum he ?_
    have I2 : Inv X pins σ H1 { s1 with heap := h2 } := I1.kept (t' := s1.toks) hk
    refine ⟨s1.heap.objs.size + 1, [s1.heap.objs.size + 1, s1.heap.objs.size], _, _, H1, rfl, I2, turn_enumT a (s1.heap.objs.size + 1) s1.heap.objs.size, ⟨⟨.none, he⟩, ⟨_, hit, rfl, rfl⟩, Nat.succ_ne_self _⟩, fun b hb => ?_, q⟩
    have hle : s1.heap.objs.size ≤ b := by
      rcases List.mem_cons.mp hb with z | z
      · rw [z]; exact Nat.le_add_right _ _
      · rw [List.mem_singleton.mp z]; exact Nat.le_refl _
    exact I1.fpOk hle (I1.hok.fresh hle)
theorem walk_enumT {K : PySem.W.Frag} {a : Addr} {xs : List V} : Walk (Itet K a) xs.length (fun H => SqT K H a xs) (YPair (fun i => some (.int (i : Nat))) (fun i => xs[i]?)) := by
  refine ⟨fun i _ hi q => ⟨xs, xs[i], q, by simp [hi]⟩, fun _ q => ⟨xs, q, Nat.le_refl _⟩, fun i H v H' _ q y => ?_⟩
  obtain ⟨T, x, h1, h2, h3, h4⟩ := y
  exact ⟨T, _, x, h1, h2, h3, rfl, h4 xs q⟩
end Lay

namespace PySem
namespace OpsM
open SeqAt
open AutoSeq1 (wpAny_loadPart')
theorem str_eq_any (b : Str) (u : Tok) (l : Addr) (c : Value) (dd : Option Addr) (es : Array DictEntry) (ep : Nat) (sl : Array (Option Value)) :
    Meets (Builtin.«str.__eq__» ⟨[.str b u, .ref l], []⟩) (fun _ R s => s.heap.get? l = some { cls := c, dict := dd, data := .dict es ep, slots := sl } ∧ R (.ok (.ret .notImplemented)) s) := by
  refine .of_wp fun prog w A R s h => ?_
  obtain ⟨hp, g, d, tk, os⟩ := s
  obtain ⟨hl, hR⟩ := h
  wp_walk using wpAny_loadPart' hl, wpAny_load hl
  exact ⟨_, rfl, hR⟩
section
variable {prog : Program} {w : World} {A : Around} {E : Value → Shared → Prop} {s : Shared}
theorem dict_eq_str {d : Addr} {b : Str} {u : Tok} {Q : Value → Shared → Prop} (hd : s.TypeIs (.ref d) "dict") (h : Q .notImplemented s) : wpAny (model prog w) A (call (.builtin "dict.__eq__") [.ref d, .str b u]) Q E s := by
  refine wpAny_call_entry PySem.F.slot_dict_eq hd PySem.F.entry_dict_eq ?_ (PySem.F.args_dict_eq_2 _ _)
  show wpAny _ _ (Builtin.Dict.dictSlotArgs "__eq__" ⟨[.ref d, .str b u], []⟩ >>= _) _ _ s
  refine wpAny_bind ?_
  unfold Builtin.Dict.dictSlotArgs
  refine wpAny_bind (wpAny_notOrdered_dict hd ?_)
  show wpAny _ _ (pure (Value.ref d, Value.str b u)) _ _ s
  refine wpAny_pure ?_
  refine wpAny_bind (wpAny_isInstance (T := "str") (typeIs_str s b u) PySem.F.sub_str_dict ?_)
  simp only [Bool.not_false, if_true]
  exact wpAny_bind (wpAny_rule (wpAny_pure ⟨_, rfl, h⟩))
theorem rc_str_dict {d : Addr} {o : Obj} (b : Str) (u : Tok) (ho : s.heap.get? d = some o) (hc : o.cls = .type "dict") (hd : ∃ es ep, o.data = .dict es ep) (hu : A.units < cLine) : RcAt A s (.str b u) (.ref d) false := fun prog w E Q h => by
  obtain ⟨es, ep, hd⟩ := hd
  obtain ⟨c, dd, dt, sl⟩ := o
  simp only at hc hd
  subst hc hd
  have hT : s.TypeIs (.ref d) "dict" := ⟨_, ho, rfl⟩
  exact rc_eq_decline_or (k := false) (typeIs_str s b u) hT (by decide) F.sub_dict_str F.slot_str_eq F.slot_dict_eq_refl
    (fun _ hq => call_meets F.slot_str_eq (typeIs_str s b u) F.entry_str_eq (F.args_str_eq_2 _ _) (str_eq_any b u d _ dd es ep sl) ⟨ho, hq⟩)
    (fun _ hq => dict_eq_str hT hq) (fun _ hq => wpAny_of_eq (rfl : isSame (.str b u) (.ref d) = pure false) hq) (.inr hu) h
theorem eq_str_dict {d : Addr} {o : Obj} (b : Str) (u : Tok) (ho : s.heap.get? d = some o) (hc : o.cls = .type "dict") (hd : ∃ es ep, o.data = .dict es ep) (hu : A.units < cLine) : EqAt A s (.str b u) (.ref d) false := fun prog w E Q h => by
  unfold eqBool
  refine wpAny_holding (wpAny_ite_split (fun z => absurd (eq_of_beq z) nofun) fun _ => ?_)
  exact wpAny_bind (rc_str_dict b u ho hc hd hu prog w E _ (wpAny_truthy_bool h))
end
end OpsM
end PySem
namespace Lay
open PySem PySem.Spec PyProof.Rows L2
/-! ### the kinds of any value -/
inductive Kn where
  | non | bool | int | str | list | tuple | dict
def Kn.name : Kn → String
  | .non => "NoneType"
  | .bool => "bool"
  | .int => "int"
  | .str => "str"
  | .list => "list"
  | .tuple => "tuple"
  | .dict => "dict"
/-- a value of the kind t is an instance of the class n -/
def isTy : Kn → Kn → Bool
  | .non, .non => true
  | .bool, .bool => true
  | .bool, .int => true
  | .int, .int => true
  | .str, .str => true
  | .list, .list => true
  | .tuple, .tuple => true
  | .dict, .dict => true
  | _, _ => false
theorem isTy_ok {K : PySem.W.Frag} (t n : Kn) : PySem.W.kitOne K (.type t.name) (.type n.name) = some (isTy t n) := by
  cases t <;> cases n <;> exact kit_ty (by decide +kernel)
inductive Kd (H : Hp) : V → Kn → Prop
  | non : Kd H .non .non
  | bl (b : Bool) : Kd H (.bl b) .bool
  | int (i : Int) : Kd H (.int i) .int
  | str (z : Str) : Kd H (.str z) .str
  | lst {a : Addr} {xs : List V} (h : H a = some (.lst xs)) : Kd H (.ref a) .list
  | tup {a : Addr} {xs : List V} (h : H a = some (.tup xs)) : Kd H (.ref a) .tuple
  | dK {a : Addr} {kvs : List (Key × V)} (h : H a = some (.dK kvs)) : Kd H (.ref a) .dict
theorem Kd.same {H H' : Hp} {v : V} {t : Kn} (s : ∀ b o, v = .ref b → H b = some o → H' b = some o) (k : Kd H v t) : Kd H' v t := by
  cases k with
  | non => exact .non
  | bl b => exact .bl b
  | int i => exact .int i
  | str z => exact .str z
  | lst h => exact .lst (s _ _ rfl h)
  | tup h => exact .tup (s _ _ rfl h)
  | dK h => exact .dK (s _ _ rfl h)
theorem Kd.mono {H H' : Hp} {v : V} {t : Kn} (s : Same H H') (k : Kd H v t) : Kd H' v t := k.same fun b o _ h => s b o h
theorem Kd.ty {K : PySem.W.Frag} {H : Hp} {v : V} {t : Kn} (k : Kd H v t) : TyX K H v (.type t.name) := by
  cases k with
  | non => exact .base .non
  | bl b => exact .base (.bl b)
  | int i => exact .base (.int i)
  | str z => exact .base (.str z)
  | lst h => exact .base (.lst h)
  | tup h => exact .base (.tup h)
  | dK h => exact .base (.dK h)
theorem rd_isi {K : PySem.W.Frag} {H : Hp} {Q : VK} {x : V} {t : Kn} (n : Kn) (k : Kd H x t) (q : Q (.bl (isTy t n)) H) : rIsi K [x, .ty n.name] H Q :=
  ⟨x, .ty n.name, .type t.name, .type n.name, isTy t n, rfl, .ty n.name, k.ty, isTy_ok t n, q⟩
/-! ### any value in a row of texts -/
def inStrs (x : V) (zs : List Str) : Bool := match x with | .str z => zs.contains z | _ => false
theorem memS {X : Cx} {pins : List (Addr × Obj)} {σ : L2.St} {H : Hp} {s : Shared} {A : Around} (I : Inv X pins σ H s) (hu : A.units < cLine) {x : V} {v : Value} {t : Kn} (rx : RelV x v) (k : Kd H x t) :
    ∀ (zs : List Str) (us : List Value), Vals (zs.map V.str) us → ∃ f : Value → Bool, us.any f = inStrs x zs ∧ ∀ u ∈ us, SeqAt.EqAt A s u v (f u) := by
  by_cases hx : ∃ z, x = .str z
  · obtain ⟨z, rfl⟩ := hx
    intro zs us r
    have fl : (zs.map V.str).all flatV = true := by
      rw [List.all_eq_true]
      intro y hy
      obtain ⟨w, _, rfl⟩ := List.mem_map.mp hy
      rfl
    refine ⟨eqU (.str z), ?_, fun u hu => mem_eqAt rx rfl r fl u hu⟩
    rw [any_eqU r fl]
    show ((zs.map V.str).any fun y => eqV y (.str z)) = zs.contains z
    clear r fl
    induction zs with
    | nil => rfl
    | cons a l ih =>
      rw [List.map_cons, List.any_cons, ih, List.contains_cons]
      congr 1
      show eqV (.str a) (.str z) = (z == a)
      by_cases h : a = z
      · subst h
        simp [eqV]
      · have h2 : ¬ z = a := fun y => h y.symm
        rw [show (z == a) = false from by simpa using h2]
        simp [eqV, h]
  · have no : ∀ zs, inStrs x zs = false := fun zs => by
      cases x with
      | str z => exact absurd ⟨z, rfl⟩ hx
      | _ => rfl
    have one : ∀ (z : Str) (u : Value), RelV (.str z) u → SeqAt.EqAt A s u v false := by
      intro z u ru
      obtain ⟨tk, rfl⟩ := ru
      cases k with
      | non => cases rx; exact SeqAt.EqAt.str_none z tk
      | bl b => cases rx; exact SeqAt.EqAt.str_bool z tk b
      | int i => obtain ⟨t', rfl⟩ := rx; exact SeqAt.EqAt.str_int z tk i t'
      | str y => exact absurd ⟨y, rfl⟩ hx
      | lst h =>
        cases rx
        obtain ⟨_, its, n, _, e⟩ := I.hok _ _ h
        exact SeqAt.EqAt.str_list z tk (items := its.toArray) ⟨_, e, rfl, _, rfl⟩ hu
      | tup h =>
        cases rx
        obtain ⟨_, its, _, e⟩ := I.hok _ _ h
        exact SeqAt.EqAt.str_tuple z tk (items := its.toArray) e hu
      | dK h =>
        cases rx
        obtain ⟨_, _, vs, _, o, es, ep, e, ex, hd, _⟩ := I.hok _ _ h
        exact OpsM.eq_str_dict z tk e ex.1 ⟨_, _, hd⟩ hu
    intro zs us r
    refine ⟨fun _ => false, by rw [no]; simp, ?_⟩
    induction zs generalizing us with
    | nil => cases r; exact fun u hu => nomatch hu
    | cons a l ih =>
      cases r with
      | cons r1 r2 =>
        intro u hm
        rcases List.mem_cons.mp hm with e | hm
        · subst e; exact one a _ r1
        · exact ih _ r2 u hm
def rInS (K : PySem.W.Frag) : R2 := fun x y H Q => ∃ (p : Addr) (zs : List Str) (t : Kn), y = .ref p ∧ (SqT K H p (zs.map V.str) ∨ SqL K H p (zs.map V.str)) ∧ Kd H x t ∧ Q (.bl (inStrs x zs)) H
def rNotInS (K : PySem.W.Frag) : R2 := fun x y H Q => ∃ (p : Addr) (zs : List Str) (t : Kn), y = .ref p ∧ (SqT K H p (zs.map V.str) ∨ SqL K H p (zs.map V.str)) ∧ Kd H x t ∧ Q (.bl (!inStrs x zs)) H
theorem op_inS {X : Cx} (hu : X.A.units + 64 < cLine) : OpR X (compareOp .In) (rInS X.K) := by
  intro pins s σ H x y v u Q I rx ry h
  obtain ⟨p, zs, t, rfl, hq, k, q⟩ := h
  cases ry
  have hu1 : X.A.in1.units < cLine := by show X.A.units + 1 < cLine; omega
  rcases hq with hq | hq
  · obtain ⟨its, r, pl, hz⟩ := I.tuple hq
    obtain ⟨f, e, m⟩ := memS I hu1 rx k _ _ r
    refine SeqAt.in_tupleAt f pl (fun w hw => m w (by simpa using hw)) ⟨.bl _, H, I, rfl, ?_⟩
    rw [show its.toArray.any f = its.any f by simp, e]
    exact q
  · obtain ⟨its, r, pl, hz⟩ := I.list hq
    obtain ⟨f, e, m⟩ := memS I hu1 rx k _ _ r
    refine SeqAt.in_listAt f pl.isList (fun w hw => m w (by simpa using hw)) ⟨.bl _, H, I, rfl, ?_⟩
    rw [show its.toArray.any f = its.any f by simp, e]
    exact q
theorem op_notInS {X : Cx} (hu : X.A.units + 64 < cLine) : OpR X (compareOp .NotIn) (rNotInS X.K) := by
  intro pins s σ H x y v u Q I rx ry h
  obtain ⟨p, zs, t, rfl, hq, k, q⟩ := h
  cases ry
  have hu1 : X.A.in1.units < cLine := by show X.A.units + 1 < cLine; omega
  rcases hq with hq | hq
  · obtain ⟨its, r, pl, hz⟩ := I.tuple hq
    obtain ⟨f, e, m⟩ := memS I hu1 rx k _ _ r
    refine SeqAt.notIn_tupleAt f pl (fun w hw => m w (by simpa using hw)) ⟨.bl _, H, I, rfl, ?_⟩
    rw [show its.toArray.any f = its.any f by simp, e]
    exact q
  · obtain ⟨its, r, pl, hz⟩ := I.list hq
    obtain ⟨f, e, m⟩ := memS I hu1 rx k _ _ r
    refine SeqAt.notIn_listAt f pl.isList (fun w hw => m w (by simpa using hw)) ⟨.bl _, H, I, rfl, ?_⟩
    rw [show its.toArray.any f = its.any f by simp, e]
    exact q
theorem rd_inS {K : PySem.W.Frag} {H : Hp} {Q : VK} {x : V} {p : Addr} {zs : List Str} {t : Kn} (h : SqT K H p (zs.map V.str)) (k : Kd H x t) (q : Q (.bl (inStrs x zs)) H) : rInS K x (.ref p) H Q := ⟨p, zs, t, rfl, .inl h, k, q⟩
theorem rd_inSL {K : PySem.W.Frag} {H : Hp} {Q : VK} {x : V} {p : Addr} {zs : List Str} {t : Kn} (h : SqL K H p (zs.map V.str)) (k : Kd H x t) (q : Q (.bl (inStrs x zs)) H) : rInS K x (.ref p) H Q := ⟨p, zs, t, rfl, .inr h, k, q⟩
theorem rd_notInS {K : PySem.W.Frag} {H : Hp} {Q : VK} {x : V} {p : Addr} {zs : List Str} {t : Kn} (h : SqT K H p (zs.map V.str)) (k : Kd H x t) (q : Q (.bl (!inStrs x zs)) H) : rNotInS K x (.ref p) H Q := ⟨p, zs, t, rfl, .inl h, k, q⟩
theorem rd_notInSL {K : PySem.W.Frag} {H : Hp} {Q : VK} {x : V} {p : Addr} {zs : List Str} {t : Kn} (h : SqL K H p (zs.map V.str)) (k : Kd H x t) (q : Q (.bl (!inStrs x zs)) H) : rNotInS K x (.ref p) H Q := ⟨p, zs, t, rfl, .inr h, k, q⟩
end Lay

namespace Lay
open PySem PySem.Spec PyProof.Rows L2
/-! ### comprehensions: D the new list, R what holds of what it has so far and of all else -/
def PvL (D : Addr) (R : Nat → List V → Hp → Prop) (i : Nat) (H : Hp) : Prop := ∃ l, H D = some (.lst l) ∧ l.length ≤ i ∧ R i l H
theorem lc_put {D : Addr} {R : Nat → List V → Hp → Prop} {i : Nat} {l : List V} {y : V} {H : Hp} (h : H D = some (.lst l)) (hl : l.length ≤ i) (hi : i < 100000) (r : R (i + 1) (l ++ [y]) (upd H D (.lst (l ++ [y])))) :
    ∃ acc, H D = some (.lst acc) ∧ acc.length < sizeLine ∧ PvL D R (i + 1) (upd H D (.lst (acc ++ [y]))) :=
  ⟨l, h, Nat.lt_of_le_of_lt hl (Nat.lt_of_lt_of_le hi (by decide)), l ++ [y], upd_same, by rw [List.length_append]; exact Nat.add_le_add_right hl 1, r⟩
theorem lc_skip {D : Addr} {R : Nat → List V → Hp → Prop} {i : Nat} {l : List V} {H : Hp} (h : H D = some (.lst l)) (hl : l.length ≤ i) (r : R (i + 1) l H) : PvL D R (i + 1) H := ⟨l, h, Nat.le_succ_of_le hl, r⟩
theorem lc_go {J : It} {n : Nat} {G : Hp → Prop} {Y : Nat → Hp → V → Hp → Prop} (w : Walk J n G Y) {g : TG} {tt : TT} {te : TE} {vs : List Nat} {σ : L2.St} {H1 : Hp} {D : Addr} {Qd : Hp → Prop}
    (R : Nat → List V → Hp → Prop) (h0 : R 0 [] (upd H1 D (.lst []))) (hG : ∀ i l H, i ≤ n → R i l H → G H)
    (hs : ∀ i l x H H', i < n → H D = some (.lst l) → l.length ≤ i → R i l H → Y i H x H' → g x (wipe σ vs) H' fun σ2 H2 => wipe σ2 vs = wipe σ vs ∧ tt σ2 H2 fun b H3 =>
      if b = true then te σ2 H3 fun y H4 => ∃ acc, H4 D = some (.lst acc) ∧ acc.length < sizeLine ∧ PvL D R (i + 1) (upd H4 D (.lst (acc ++ [y]))) else PvL D R (i + 1) H3)
    (hd : ∀ l H, H D = some (.lst l) → l.length ≤ n → R n l H → Qd H) :
    ∃ W : Nat → Nat → Hp → Prop, (∃ m, W 0 m (upd H1 D (.lst []))) ∧ ∀ i m H, W i m H →
      (J.stop i H ∧ Qd H) ∨ (J.go i H ∧ ∃ Nx : Hp → Prop, (∀ H', Nx H' → ∃ m', m' < m ∧ W (i + 1) m' H') ∧ ∀ x H', J.yld i H x H' → g x (wipe σ vs) H' fun σ2 H2 => wipe σ2 vs = wipe σ vs ∧ tt σ2 H2 fun b H3 =>
        if b = true then te σ2 H3 fun y H4 => ∃ acc, H4 D = some (.lst acc) ∧ acc.length < sizeLine ∧ Nx (upd H4 D (.lst (acc ++ [y]))) else Nx H3) :=
  lc_it w (PvL D R) ⟨[], upd_same, Nat.le_refl _, h0⟩ (fun i H hi ⟨l, _, _, r⟩ => hG i l H hi r) (fun i x H H' hi ⟨l, hl, hz, r⟩ y => hs i l x H H' hi hl hz r y) (fun H ⟨l, hl, hz, r⟩ => hd l H hl hz r)
section
variable {K : PySem.W.Frag} {σ : L2.St} {H : Hp} {Q : VK} {tA : TA} {te : TE} {R : It → Hp → Prop}
theorem rd_lc {wi : TI} {g : TG} {tt : TT} {vs : List Nat} (h : wi σ H fun J H1 => ∀ D, H1 D = none → ∃ W : Nat → Nat → Hp → Prop, (∃ m, W 0 m (upd H1 D (.lst []))) ∧ ∀ i m H, W i m H →
    (J.stop i H ∧ Q (.ref D) H) ∨ (J.go i H ∧ ∃ Nx : Hp → Prop, (∀ H', Nx H' → ∃ m', m' < m ∧ W (i + 1) m' H') ∧ ∀ x H', J.yld i H x H' → g x (wipe σ vs) H' fun σ2 H2 => wipe σ2 vs = wipe σ vs ∧ tt σ2 H2 fun b H3 =>
      if b = true then te σ2 H3 fun y H4 => ∃ acc, H4 D = some (.lst acc) ∧ acc.length < sizeLine ∧ Nx (upd H4 D (.lst (acc ++ [y]))) else Nx H3)) : tLc wi g tt te vs σ H Q := h
theorem rd_for {wi : TI} {g : TG} {tb : TS} {D : Ends} (h : wi σ H fun J H1 => ∃ W : Nat → Nat → L2.St → Hp → Prop, (∃ m, W 0 m σ H1) ∧ ∀ i m σ H, W i m σ H →
    (J.stop i H ∧ D.nx σ H) ∨ (J.go i H ∧ ∃ N : L2.St → Hp → Prop, (∀ σ' H', N σ' H' → ∃ m', m' < m ∧ W (i + 1) m' σ' H') ∧ ∀ x H', J.yld i H x H' → g x σ H' fun σ2 H2 => tb { D with nx := N, ct := N, bk := D.nx } σ2 H2)) : tFor wi g tb D σ H := h
theorem rd_iStr (h : te σ H fun x H1 => ∃ z, x = .str z ∧ R (Its z) H1) : iStr te σ H R := h
theorem rd_iList (h : te σ H fun x H1 => ∃ a, x = .ref a ∧ (∃ xs, SqL K H1 a xs) ∧ R (Itl K a) H1) : iList K te σ H R := h
theorem rd_iTup (h : te σ H fun x H1 => ∃ a, x = .ref a ∧ (∃ xs, SqT K H1 a xs) ∧ R (Itt K a) H1) : iTup K te σ H R := h
theorem rd_iRng1 (h : tA σ H fun vs H1 => ∃ j : Int, vs = [.int j] ∧ -(2 ^ 62) ≤ j ∧ j < 2 ^ 62 ∧ R (Itr 0 j.toNat) H1) : iRng1 tA σ H R := h
theorem rd_iEnumT (h : tA σ H fun vs H1 => ∃ a xs, vs = [.ref a] ∧ SqT K H1 a xs ∧ R (Itet K a) H1) : iEnumT K tA σ H R := h
theorem rd_yes {QT : Bool → Hp → Prop} (h : QT true H) : tYes H' H QT := h
def rSign : R2 := fun x y H Q => ∃ (c : Nat) (z : Str), x = .str ⟨#[c]⟩ ∧ y = .str z ∧ Q (.bl (decide (c ∈ z.cps.toList))) H
theorem op_sign {X : Cx} : OpR X (compareOp .In) rSign := op_in_sign
theorem rd_sign {H : Hp} {Q : VK} {c : Nat} {z : Str} (q : Q (.bl (decide (c ∈ z.cps.toList))) H) : rSign (.str ⟨#[c]⟩) (.str z) H Q := ⟨c, z, rfl, rfl, q⟩
theorem rd_in_sign {H : Hp} {Q : VK} {c : Nat} {z : Str} (q : Q (.bl (decide (c ∈ z.cps.toList))) H) : ∃ (c' : Nat) (z' : Str), V.str ⟨#[c]⟩ = V.str ⟨#[c']⟩ ∧ V.str z = V.str z' ∧ Q (.bl (decide (c' ∈ z'.cps.toList))) H := ⟨c, z, rfl, rfl, q⟩
theorem rd_lenV {H : Hp} {Q : VK} {z : Str} (h : z.length ≤ 100000) (q : Q (.int z.length) H) : rLenStr [.str z] H Q := ⟨z, rfl, Nat.le_trans h (by decide), q⟩
theorem rd_chain {r r' : R2} {ta tb tc : TE} (h : ta σ H fun x H1 => tb σ H1 fun y H2 => r x y H2 fun z H3 => ∃ k, z = .bl k ∧ (if k = true then tc σ H3 fun w' H4 => r' y w' H4 Q else Q (.bl false) H3)) : tChain r r' ta tb tc σ H Q := h
end

theorem rd_alls {K : PySem.W.Frag} {H : Hp} {Q : VK} {a : Addr} {bs : List Bool} (h : SqL K H a (bs.map V.bl)) (q : Q (.bl (bs.all id)) H) : rAll K [.ref a] H Q := ⟨a, bs, rfl, h, q⟩
theorem rd_anys {K : PySem.W.Frag} {H : Hp} {Q : VK} {a : Addr} {bs : List Bool} (h : SqL K H a (bs.map V.bl)) (q : Q (.bl (bs.any id)) H) : rAny K [.ref a] H Q := ⟨a, bs, rfl, h, q⟩
theorem take_succ {α : Type} {xs : List α} {i : Nat} {x : α} (h : xs[i]? = some x) : xs.take (i + 1) = xs.take i ++ [x] := by
  rw [List.take_add_one, h]; rfl
/-! ### names -/
def nameOk (z : Str) : Bool := decide (1 ≤ z.length) && decide (z.length ≤ 8) && z.cps.toList.all fun c => decide (97 ≤ c) && decide (c ≤ 122)
def isInt : V → Bool
  | .int _ => true
  | _ => false
def within (v : V) (lo hi : Int) : Bool := match v with
  | .int i => decide (lo ≤ i) && decide (i ≤ hi)
  | _ => false
def isName (v : V) : Bool := match v with
  | .str z => nameOk z
  | _ => false
def alphabet : Str := "abcdefghijklmnopqrstuvwxyz"
theorem in_alphabet (c : Nat) : decide (c ∈ alphabet.cps.toList) = (decide (97 ≤ c) && decide (c ≤ 122)) := by
  have e : alphabet.cps.toList = [97, 98, 99, 100, 101, 102, 103, 104, 105, 106, 107, 108, 109, 110, 111, 112, 113, 114, 115, 116, 117, 118, 119, 120, 121, 122] := by decide +kernel
  rw [e]
  by_cases h : 97 ≤ c ∧ c ≤ 122
  · rw [decide_eq_true h.1, decide_eq_true h.2]
    refine decide_eq_true ?_
    simp only [List.mem_cons, List.not_mem_nil, or_false]
    omega
  · have z : (decide (97 ≤ c) && decide (c ≤ 122)) = false := by
      rw [Bool.and_eq_false_iff]
      by_cases h1 : 97 ≤ c
      · right; exact decide_eq_false fun h2 => h ⟨h1, h2⟩
      · left; exact decide_eq_false h1
    rw [z]
    refine decide_eq_false ?_
    simp only [List.mem_cons, List.not_mem_nil, or_false]
    omega
def spIsInteger : Sp := fun vs H Q _ => ∃ v t, vs = [v] ∧ Kd H v t ∧ Q (.bl (isInt v)) H
def spIsWithin : Sp := fun vs H Q _ => ∃ v t lo hi, vs = [v, .int lo, .int hi] ∧ Kd H v t ∧ Q (.bl (within v lo hi)) H
def spIsName : Sp := fun vs H Q _ => ∃ v t, vs = [v] ∧ Kd H v t ∧ (∀ z, v = .str z → z.length ≤ 100000) ∧ ∀ H', Same H H' → Q (.bl (isName v)) H'
theorem rd_forW {J : It} {n : Nat} {G : Hp → Prop} {Y : Nat → Hp → V → Hp → Prop} {wi : TI} {g : TG} {tb : TS} {D : Ends} {σ : L2.St} {H H1 : Hp} (hw : ∀ R : It → Hp → Prop, R J H1 → wi σ H R) (w : Walk J n G Y) (Pv : Nat → L2.St → Hp → Prop) (h0 : Pv 0 σ H1)
    (hG : ∀ i σ H, i ≤ n → Pv i σ H → G H) (hs : ∀ i x σ H H', i < n → Pv i σ H → Y i H x H' → g x σ H' fun σ2 H2 => tb { D with nx := Pv (i + 1), ct := Pv (i + 1), bk := D.nx } σ2 H2) (hd : ∀ σ H, Pv n σ H → D.nx σ H) : tFor wi g tb D σ H :=
  hw _ (for_it w Pv h0 hG hs hd)
end Lay

namespace Lay
open PySem PySem.Spec PyProof.Rows L2
theorem ite_nb {b : Bool} {A B : Prop} (h1 : b = false → A) (h2 : b = true → B) : if (!b) = true then A else B := by
  cases b
  · exact iteT (h1 rfl)
  · exact iteF (h2 rfl)
theorem rd_gtup {K : PySem.W.Frag} {n : Nat} {t : TGs} {a : Addr} {xs : List V} {σ : L2.St} {H : Hp} {Q : L2.St → Hp → Prop} (h : SqT K H a xs) (hn : xs.length = n) (q : t xs σ H Q) : gTup K n t (.ref a) σ H Q := ⟨a, xs, rfl, h, hn, q⟩
theorem rd_gcons {t : TG} {u : TGs} {v : V} {r : List V} {σ : L2.St} {H : Hp} {Q : L2.St → Hp → Prop} (q : t v σ H fun σ' H' => u r σ' H' Q) : gCons t u (v :: r) σ H Q := ⟨v, r, rfl, q⟩
theorem rd_gnil {σ : L2.St} {H : Hp} {Q : L2.St → Hp → Prop} (q : Q σ H) : gNil [] σ H Q := ⟨rfl, q⟩
/-! ### steps -/
def memWords : List Str := ["read", "write", "get", "put", "clean", "drop", "flush"]
def sigWords : List Str := ["post", "wait"]
def GoodStep (ws : List Str) (l : List V) : Prop :=
  (∃ w n, l = [.str w, .str n] ∧ w ∈ sigWords ∧ w ∈ ws ∧ nameOk n = true) ∨
  (∃ w n s f e, l = [.str w, .str n, .int s, .int f, .int e] ∧ w ∈ memWords ∧ w ∈ ws ∧ nameOk n = true ∧ 0 ≤ s ∧ s ≤ 3 ∧ 0 ≤ f ∧ f ≤ e ∧ e ≤ 7)
def StepAt (H : Hp) (ws : List Str) (v : V) : Prop := ∃ p l, v = .ref p ∧ H p = some (.tup l) ∧ GoodStep ws l
theorem StepAt.mono {H H' : Hp} {ws : List Str} {v : V} (s : Same H H') (h : StepAt H ws v) : StepAt H' ws v := by
  obtain ⟨p, l, e, h, g⟩ := h
  exact ⟨p, l, e, s _ _ h, g⟩
theorem nameOk_len {z : Str} (h : nameOk z = true) : 1 ≤ z.length ∧ z.length ≤ 8 := by
  unfold nameOk at h
  rw [Bool.and_eq_true, Bool.and_eq_true] at h
  exact ⟨of_decide_eq_true h.1.1, of_decide_eq_true h.1.2⟩
def spMemStep : Sp := fun vs H Q _ => ∃ p w n s f e, vs = [.ref p] ∧ H p = some (.tup [.str w, .str n, .int s, .int f, .int e]) ∧ w ∈ memWords ∧ nameOk n = true ∧ 0 ≤ s ∧ s ≤ 3 ∧ 0 ≤ f ∧ f ≤ e ∧ e ≤ 7 ∧ ∀ H', Same H H' → Q (.bl true) H'
def spIsStep : Sp := fun vs H Q _ => ∃ p l ws, vs = [.ref p] ∧ H p = some (.tup l) ∧ GoodStep ws l ∧ ∀ H', Same H H' → Q (.bl true) H'
def spCheckAgent (K : PySem.W.Frag) : Sp := fun vs H Q _ => ∃ z t wt ws steps, vs = [.str z, .ref t, .ref wt] ∧ nameOk z = true ∧ H t = some (.tup steps) ∧ 1 ≤ steps.length ∧ steps.length ≤ 24 ∧ SqT K H wt (ws.map V.str) ∧
  (∀ s ∈ steps, StepAt H ws s) ∧ ∀ H', Same H H' → Q .non H'
theorem inStrs_of {w : Str} {zs : List Str} (h : w ∈ zs) : inStrs (.str w) zs = true := by
  show zs.contains w = true
  rw [List.contains_iff_mem]; exact h
theorem of_inStrs {w : Str} {zs : List Str} (h : inStrs (.str w) zs = false) : w ∉ zs := fun m => by
  rw [inStrs_of m] at h; cases h
end Lay
namespace Lay
open PySem PySem.Spec PyProof.Rows L2
section
variable {K : PySem.W.Frag} {σ : L2.St} {H : Hp} {D : Ends} {ta tv : TE} {f : Str}
theorem rd_sFld (h : tv σ H fun y H1 => ta σ H1 fun x H2 => ∃ a C dx fs, x = .ref a ∧ H2 a = some (.ins C dx fs) ∧ Cls K C ∧ NoAttr K C f ∧ fs.length < 1000 ∧ D.nx σ (upd H2 a (.ins C dx (putF f y fs)))) : sFld K ta tv f D σ H := h
theorem rd_tFld {Q : VK} (h : ta σ H fun x H1 => ∃ a C dx fs v, x = .ref a ∧ H1 a = some (.ins C dx fs) ∧ Cls K C ∧ NoAttr K C f ∧ fs.lookup f = some v ∧ Q v H1) : tFld K ta f σ H Q := h
theorem rd_tCon {Q : VK} (h : ta σ H fun x H1 => ∃ a C dx fs v u, x = .ref a ∧ H1 a = some (.ins C dx fs) ∧ Cls K C ∧ Con K C f v u ∧ fs.lookup f = none ∧ Q v H1) : tCon K ta f σ H Q := h
theorem rd_makeR {C : Addr} {sp : Sp} {E : XK} {t : TA} {Q : VK} (h : t σ H fun vs H1 => ∀ x dx, H1 x = none → H1 dx = none → dx ≠ x →
  sp (V.ref x :: vs) (upd (upd H1 dx (.own x)) x (.ins C dx [])) (fun v H2 => v = .non ∧ Q (.ref x) H2) E) : StX.tMakeR C sp E t σ H Q := h
theorem rd_cval {Q : VK} (h : ta σ H fun x H1 => ∃ C mc v u, x = .ref C ∧ ClX.CRead K C mc ∧ ClX.CVal K C mc f v u ∧ Q v H1) : ClX.tCVal K ta f σ H Q := h
theorem rd_meth {C : Addr} {m : Str} {sp : Sp} {dvs : List V} {E : XK} {t : TA} {Q : VK} (h : ta σ H fun x H1 => ∃ a dx fs, x = .ref a ∧ H1 a = some (.ins C dx fs) ∧ fs.lookup m = none ∧ t σ H1 fun vs H2 => sp (x :: (vs ++ dvs)) H2 Q E) : tMeth C m sp dvs E ta t σ H Q := h
end
/-- an agent's fields -/
def agentF (z : Str) (t : Addr) : List (Str × V) := [("name", .str z), ("steps", .ref t)]
theorem putF_agent (z : Str) (t : Addr) : putF "steps" (.ref t) (putF "name" (.str z) []) = agentF z t := by
  have h : ¬ (("name" : Str) = "steps") := by decide +kernel
  show (if ("name" : Str) = "steps" then _ else (("name" : Str), V.str z) :: putF "steps" (V.ref t) []) = _
  rw [if_neg h]
  rfl
/-- an agent of the class C, of the name z, with these steps -/
def AgentAt (C : Addr) (H : Hp) (a : Addr) (z : Str) (steps : List V) : Prop := ∃ dx t, H a = some (.ins C dx (agentF z t)) ∧ H t = some (.tup steps)
theorem AgentAt.mono {C : Addr} {H H' : Hp} {a : Addr} {z : Str} {steps : List V} (s : Same H H') (h : AgentAt C H a z steps) : AgentAt C H' a z steps := by
  obtain ⟨dx, t, h1, h2⟩ := h
  exact ⟨dx, t, s _ _ h1, s _ _ h2⟩
/-- __init__(self, name, *steps), the steps good ones -/
def spAgentInit (C : Addr) (ws : List Str) : Sp := fun vs H Q _ => ∃ x dx z t steps, vs = [.ref x, .str z, .ref t] ∧ H x = some (.ins C dx []) ∧ nameOk z = true ∧ H t = some (.tup steps) ∧ 1 ≤ steps.length ∧ steps.length ≤ 24 ∧ (∀ s ∈ steps, StepAt H ws s) ∧
  ∀ H', AgentAt C H' x z steps → Keep x H H' → Q .non H'
def spStar (n : Nat) (sp : Sp) : Sp := fun vs H Q E => ∃ ws rest, vs = ws ++ rest ∧ ws.length = n ∧ rest.length ≤ sizeLine ∧ ∀ p, H p = none → sp (ws ++ [V.ref p]) (upd H p (.tup rest)) Q E
end Lay

namespace Lay
open PySem PySem.Spec PyProof.Rows L2
def spMay (zs : List Str) : Sp := fun vs H Q _ => ∃ x v t, vs = [x, v] ∧ Kd H v t ∧ Q (.bl (inStrs v zs)) H
/-- a value of some kind is drawn from a pen of which at most n cells were begun; m cells are begun by it -/
def spAny (m : Nat) : Sp := fun vs H Q _ => ∃ (p : Addr) (n : Nat) (c : Addr), vs = [.ref p] ∧ PenAt c H p n ∧ n + m < 100000 ∧ ∀ v t H', Kd H' v t → PenAt c H' p (n + m) → Keep p H H' → Q v H'
theorem inStrs_same {v : V} {zs ys : List Str} (h : ∀ z, z ∈ zs ↔ z ∈ ys) : inStrs v zs = inStrs v ys := by
  cases v with
  | str z =>
    show zs.contains z = ys.contains z
    rw [Bool.eq_iff_iff, List.contains_iff_mem, List.contains_iff_mem]
    exact h z
  | _ => rfl
theorem PenAt.at_ {c : Addr} {H : Hp} {p : Addr} {n : Nat} (h : PenAt c H p n) : ∃ xs, H p = some (.lst xs) := by
  obtain ⟨ns, b, l, e, _⟩ := h
  exact ⟨_, e⟩
theorem PenAt.cell {c : Addr} {H : Hp} {p : Addr} {n : Nat} (h : PenAt c H p n) : ∃ xs, H c = some (.lst xs) := by
  obtain ⟨ns, b, l, _, e, _⟩ := h
  exact ⟨_, e⟩
theorem PenAt.other {c : Addr} {H : Hp} {p a : Addr} {o : HO} {n : Nat} (h : PenAt c H p n) (h1 : a ≠ p) (h2 : a ≠ c) : PenAt c (upd H a o) p n := by
  obtain ⟨ns, b, l, e1, e2, r⟩ := h
  exact ⟨ns, b, l, by rw [upd_ne h1.symm]; exact e1, by rw [upd_ne h2.symm]; exact e2, r⟩
theorem Same.keep {p : Addr} {H H1 H2 : Hp} (a : Same H H1) (b : Keep p H1 H2) : Keep p H H2 := fun c o n h => b c o n (a c o h)
theorem Keep.frz {p : Addr} {H H1 : Hp} (k : Keep p H H1) {b : Addr} {o : HO} (hb : b ≠ p) (h : H b = some o) : H1 b = some o := k b o hb h
theorem rd_disp {trs : List (TE × TE)} {σ : L2.St} {H : Hp} {Q : VK} (h : ∀ p, H p = none → tPairs trs σ (upd H p (.dK [])) fun ps H2 => H2 p = some (.dK []) ∧ ∃ kvs : List (Key × V), ps = kvs.map (fun kv => (kV kv.1, kv.2)) ∧ kvs.length ≤ 15 ∧ Q (.ref p) (upd H2 p (.dK (mergeK [] kvs)))) : tDisp trs σ H Q := h
theorem rd_dnew {σ : L2.St} {H : Hp} {Q : VK} (h : ∀ p, H p = none → Q (.ref p) (upd H p (.dK []))) : tDNewK σ H Q := h
theorem rd_pcons {tk tv : TE} {r : List (TE × TE)} {σ : L2.St} {H : Hp} {Q : List (V × V) → Hp → Prop} (h : tk σ H fun x H1 => tv σ H1 fun y H2 => tPairs r σ H2 fun ps H3 => Q ((x, y) :: ps) H3) : tPairs ((tk, tv) :: r) σ H Q := h
theorem rd_pnil {σ : L2.St} {H : Hp} {Q : List (V × V) → Hp → Prop} (h : Q [] H) : tPairs [] σ H Q := h
theorem rd_cat {l b : Addr} {xs zs : List V} {H : Hp} {Q : VK} (hl : H l = some (.lst xs)) (hb : H b = some (.lst zs)) (hz : xs.length + zs.length ≤ sizeLine) (q : ∀ p, H p = none → Q (.ref p) (upd H p (.lst (xs ++ zs)))) : rCat (.ref l) (.ref b) H Q := ⟨l, b, xs, zs, rfl, rfl, hl, hb, hz, q⟩
theorem none_of {H H' : Hp} {p : Addr} (s : Same H H') (h : H' p = none) : H p = none := by
  cases e : H p with
  | none => rfl
  | some o => rw [s _ _ e] at h; cases h
theorem cut63 {xs : List V} (h : xs.length ≤ 63) : cutV xs none (some 63) = xs := by
  have e : HT.sIx xs.length xs.length (some 63) = xs.length := by
    unfold HT.sIx
    dsimp only
    split <;> omega
  unfold cutV
  rw [e]
  show List.take (xs.length - 0) (List.drop 0 xs) = xs
  simp
theorem pen_at {H : Hp} {p l : Addr} {ns : List Int} (h1 : H p = some (.lst [.ref l, .int 0, .int 0])) (h2 : H l = some (.lst (ns.map V.int))) (h3 : ns.length ≤ 63) : PenAt l H p 0 := ⟨ns, 0, 0, h1, h2, h3, by decide, by decide, by decide⟩
/-- each value of a row is of some kind -/
def Kds (H : Hp) (xs : List V) : Prop := ∀ v ∈ xs, ∃ t, Kd H v t
theorem Kds.nil {H : Hp} : Kds H [] := fun v h => nomatch h
theorem Kds.cons {H : Hp} {x : V} {t : Kn} {xs : List V} (h : Kd H x t) (r : Kds H xs) : Kds H (x :: xs) := fun v m => by
  rcases List.mem_cons.mp m with e | m
  · subst e; exact ⟨t, h⟩
  · exact r v m
theorem upd2 {H : Hp} {p : Addr} {o u : HO} : upd (upd H p o) p u = upd H p u := by
  funext b
  by_cases e : b = p
  · subst e; rw [upd_same, upd_same]
  · rw [upd_ne e, upd_ne e, upd_ne e]
theorem rd_draw {p c : Addr} {m : Int} {n : Nat} {H0 H : Hp} {Q : VK} {E : XK} (h0 : PenAt c H0 p n) (s : Same H0 H) (hn : n < 100000) (hm : 0 < m) (hm2 : m < 1073741824) (q : ∀ (d : Int) (H' : Hp), 0 ≤ d → d < m → PenAt c H' p (n + 1) → Keep p H H' → Q (.int d) H') : spDraw [.ref p, .int m] H Q E := ⟨p, m, n, c, rfl, h0.mono s, hn, hm, hm2, q⟩
theorem ne_none {H : Hp} {a p : Addr} {o : HO} (h : H a = none) (h' : H p = some o) : a ≠ p := fun e => by
  subst e; rw [h] at h'; cases h'
theorem rd_ixK {K : PySem.W.Frag} {H : Hp} {Q : VK} {a : Addr} {xs : List V} {d : Int} (h : SqL K H a xs) (h0 : 0 ≤ d) (h1 : d < xs.length) (kd : Kds H xs) (q : ∀ v t, Kd H v t → Q v H) : rIxL K (.ref a) (.int d) H Q := by
  have hd : d.toNat < xs.length := by omega
  obtain ⟨t, k⟩ := kd xs[d.toNat] (List.getElem_mem hd)
  exact rd_ixL h (atI_int h0 (List.getElem?_eq_getElem hd)) (q _ t k)
/-- an agent: a name and steps, at a heap -/
def InsAt (C : Addr) (H : Hp) (a : Addr) : Prop := ∃ dx z t, H a = some (.ins C dx (agentF z t))
theorem InsAt.keep {C p : Addr} {H H' : Hp} {a : Addr} (h : InsAt C H a) (k : Keep p H H') (n : a ≠ p) : InsAt C H' a := by
  obtain ⟨dx, z, t, e⟩ := h
  exact ⟨dx, z, t, k _ _ n e⟩
theorem InsAt.mono {C : Addr} {H H' : Hp} {a : Addr} (h : InsAt C H a) (s : Same H H') : InsAt C H' a := by
  obtain ⟨dx, z, t, e⟩ := h
  exact ⟨dx, z, t, s _ _ e⟩
def spRight (C : Addr) (m : Int) : Sp := fun vs H Q _ => ∃ a v t, vs = [.ref a, .int m, v] ∧ InsAt C H a ∧ Kd H v t ∧ ∀ H', Same H H' → Q (.bl true) H'
def spFamily : Sp := fun vs H Q _ => ∃ (p : Addr) (n : Nat) (c : Addr), vs = [.ref p] ∧ PenAt c H p n ∧ n + 19 < 100000 ∧ ∀ H', PenAt c H' p (n + 19) → Keep p H H' → Q (.bl true) H'
theorem rd_isiV {K : PySem.W.Frag} {H : Hp} {Q : VK} {x : V} {t : Kn} (n : Kn) (b : Bool) (k : Kd H x t) (e : isTy t n = b) (q : Q (.bl b) H) : rIsi K [x, .ty n.name] H Q := rd_isi n k (by rw [e]; exact q)
theorem rd_meth1 {C a dx : Addr} {m : Str} {sp : Sp} {E : XK} {t : TA} {ta : TE} {fs : List (Str × V)} {σ : L2.St} {H H1 : Hp} {Q : VK} (ha : ∀ Q' : VK, Q' (.ref a) H1 → ta σ H Q') (h : H1 a = some (.ins C dx fs)) (hl : fs.lookup m = none) (q : t σ H1 fun vs H2 => sp (.ref a :: vs) H2 Q E) : tMeth C m sp [] E ta t σ H Q :=
  ha _ ⟨a, dx, fs, rfl, h, hl, by simpa using q⟩
theorem q_true {Q : VK} {b : Bool} {H : Hp} (e : b = true) (q : Q (.bl true) H) : Q (.bl b) H := by rw [e]; exact q
theorem same_words (v : V) : (inStrs v ["read", "write", "get", "put", "clean", "drop", "flush", "post", "wait"] == inStrs v ["read", "write", "post", "wait", "clean", "drop", "flush", "get", "put"]) = true := by
  rw [inStrs_same (ys := ["read", "write", "post", "wait", "clean", "drop", "flush", "get", "put"]) (fun z => by
    simp only [List.mem_cons, List.not_mem_nil, or_false]
    constructor
    · rintro (h | h | h | h | h | h | h | h | h) <;> simp [h]
    · rintro (h | h | h | h | h | h | h | h | h) <;> simp [h])]
  exact beq_self_eq_true _
theorem kit_own {K : PySem.W.Frag} {C D : Addr} {b : Bool} (h1 : PySem.W.mroIn K D (.type "object") = some true) (h2 : PySem.W.typeIn K (.ref D) = some (.type "type")) (h4 : PySem.W.subIn K (.ref D) (.ref D) = some true) (h3 : PySem.W.subIn K (.ref C) (.ref D) = some b) : PySem.W.kitOne K (.ref C) (.ref D) = some b := by
  unfold PySem.W.kitOne
  by_cases e : C = D
  · subst e
    rw [h4] at h3
    cases h3
    exact if_pos (beq_self_eq_true _)
  · rw [if_neg (fun z => e (by injection eq_of_beq z))]
    unfold PySem.W.kitCls
    have h5 : (PySem.W.clsIn K D).isSome = true := by
      unfold PySem.W.mroIn at h1
      cases hh : PySem.W.clsIn K D with
      | none => rw [hh] at h1; cases h1
      | some _ => rfl
    dsimp only
    rw [h5, h2]
    exact h3
theorem rd_isiC {K : PySem.W.Frag} {H : Hp} {Q : VK} {x : V} {t : Value} {D : Addr} {b : Bool} (hx : TyX K H x t) (h : PySem.W.kitOne K t (.ref D) = some b) (q : Q (.bl b) H) : rIsi K [x, .ref D] H Q :=
  ⟨x, .ref D, t, .ref D, b, rfl, .own D, hx, h, q⟩
end Lay
namespace Lay
open PySem PySem.Spec PyProof.Rows L2
theorem mk_agent {C : Addr} {ws : List Str} {H : Hp} {z : Str} {t0 : Addr} {Q : Addr → Hp → Prop} {E : XK} (hz : nameOk z = true) (h0 : H t0 = some (.tup [.str "post", .str "s"])) (hw : Str.ofString "post" ∈ ws) (q : ∀ x H', H x = none → Same H H' → InsAt C H' x → Q x H') :
    ∀ x dx, H x = none → H dx = none → dx ≠ x → spStar 2 (spAgentInit C ws) [.ref x, .str z, .ref t0] (upd (upd H dx (.own x)) x (.ins C dx [])) (fun v H2 => v = .non ∧ Q x H2) E := by
  intro x dx hx hd hne
  have s1 : Same H (upd (upd H dx (.own x)) x (.ins C dx [])) := Lay.Same.upd' (Same.upd hd) (by rw [upd_ne hne.symm]; exact hx)
  refine ⟨[.ref x, .str z], [.ref t0], rfl, rfl, (by show 1 ≤ sizeLine; decide), fun p hp => ?_⟩
  have s2 := Lay.Same.upd' (o := .tup [.ref t0]) s1 hp
  refine ⟨x, dx, z, p, [.ref t0], rfl, upd_old hp upd_same, hz, upd_same, (by show 1 ≤ 1; decide), (by show 1 ≤ 24; decide), ?_, ?_⟩
  · intro s m
    rw [List.mem_singleton] at m
    subst m
    exact ⟨t0, _, rfl, s2 _ _ h0, .inl ⟨_, _, rfl, (by decide), hw, (by decide +kernel)⟩⟩
  · rintro H' ⟨dx', t, e1, e2⟩ keep
    refine ⟨rfl, q x H' hx (fun b o e => keep b o (fun y => by subst y; rw [hx] at e; cases e) (s2 _ _ e)) ⟨dx', z, t, e1⟩⟩
theorem iteNT {A B : Prop} (h : B) : if (!true) = true then A else B := h
theorem iteNF {A B : Prop} (h : A) : if (!false) = true then A else B := h
theorem dma_ok {d : Int} (h0 : 0 ≤ d) (h1 : d < 3) : nameOk (cutS "dma" none (some (1 + d))) = true := by
  obtain rfl | rfl | rfl : d = 0 ∨ d = 1 ∨ d = 2 := by omega
  all_goals decide +kernel
theorem dp_ne {K : PySem.W.Frag} {H : Hp} {Q : VK} {x y : V} (d e : PyData) (hx : Dp K H x d) (hy : Dp K H y e) (h1 : SeqAt.shaped d = true) (h2 : SeqAt.shaped e = true) (h3 : PyData.eqv d e = true) (q : Q (.bl false) H) : rNeD K x y H Q := ⟨d, e, hx, hy, h1, h2, by rw [h3]; exact q⟩
end Lay
local macro_rules | `(tactic| walk_at "kd") => `(tactic| repeat first
  | exact Lay.Kds.nil
  | refine Lay.Kds.cons (.int _) ?_
  | refine Lay.Kds.cons (.str _) ?_
  | refine Lay.Kds.cons .non ?_
  | refine Lay.Kds.cons (.bl _) ?_
  | refine Lay.Kds.cons (.lst (by assumption)) ?_
  | refine Lay.Kds.cons (.tup (by assumption)) ?_
  | refine Lay.Kds.cons (.dK (by assumption)) ?_)
local macro_rules | `(tactic| walk_at "sm") => `(tactic| first
  | exact L2.Same.refl _
  | assumption
  | ((with_reducible refine' Lay.Same.upd' ?_ ?_); (focus walk_at "sm"); (focus assumption)))
local macro_rules | `(tactic| walk_at "hp") => `(tactic| first
  | assumption
  | with_reducible exact L2.upd_same
  | ((with_reducible apply Lay.upd_old); (focus assumption); walk_at "hp")
  | ((with_reducible apply Lay.sqL_of); walk_at "hp")
  | ((with_reducible apply Lay.sqT_of); walk_at "hp")
  | ((with_reducible apply Lay.sqL_upd); (focus assumption); walk_at "hp")
  | ((with_reducible apply Lay.sqT_upd); (focus assumption); walk_at "hp"))
local macro_rules | `(tactic| walk_at "ar") => `(tactic| first
  | (show _ ≠ _; omega)
  | (show L2.CDivN _ _; exact ⟨by omega, by omega⟩)
  | (show L2.CMul _ _; exact .inl ⟨by omega, by omega⟩)
  | (show L2.CMul _ _; exact .inr ⟨by omega, by omega⟩)
  | (show L2.CPow _ _; exact ⟨by omega, by omega, by omega⟩))
local macro_rules | `(tactic| walk_at "r1") => `(tactic| first
  | with_reducible refine Lay.rd_seq ?_
  | with_reducible refine Lay.rd_asg ?_
  | with_reducible refine Lay.rd_ifS ?_
  | with_reducible refine Lay.rd_ret ?_
  | with_reducible refine Lay.rd_retN ?_
  | with_reducible refine Lay.rd_next ?_
  | with_reducible refine Lay.rd_drop ?_
  | with_reducible refine Lay.rd_name ?_
  | with_reducible refine Lay.rd_sub ?_
  | ((with_reducible refine' Lay.rd_var ?k1 ?_); (case k1 => rfl))
  | with_reducible refine Lay.rd_c ?_
  | with_reducible refine Lay.rd_op ?_
  | with_reducible refine Lay.rd_un ?_
  | with_reducible refine Lay.rd_I0 ?_
  | with_reducible refine Lay.rd_U ?_
  | with_reducible refine Lay.rd_tup ?_
  | with_reducible refine Lay.rd_lst ?_
  | with_reducible refine Lay.rd_cons ?_
  | with_reducible refine Lay.rd_nil ?_
  | with_reducible refine Lay.rd_star ?_
  | with_reducible refine Lay.rd_call ?_
  | with_reducible refine Lay.rd_CB ?_
  | with_reducible refine Lay.rd_test ?_
  | with_reducible refine Lay.rd_tB ?_
  | with_reducible refine Lay.rd_and ?_
  | with_reducible refine Lay.rd_or ?_
  | with_reducible refine Lay.rd_not ?_
  | with_reducible refine Lay.rd_andV ?_
  | with_reducible refine Lay.rd_orV ?_
  | with_reducible refine Lay.rd_notV ?_
  | with_reducible refine Lay.rd_tIf ?_
  | with_reducible refine Lay.rd_sl ?_
  | with_reducible refine Lay.rd_noP ?_
  | with_reducible refine Lay.rd_part ?_
  | with_reducible refine Lay.rd_int ?_
  | with_reducible refine Lay.rd_intB ?_
  | with_reducible refine Lay.rd_abs ?_
  | ((with_reducible refine' Lay.rd_ixL ?k1 ?k2 ?_); (case k1 => walk_at "hp"); (case k2 => rfl))
  | ((with_reducible refine' Lay.rd_ixT ?k1 ?k2 ?_); (case k1 => walk_at "hp"); (case k2 => rfl))
  | ((with_reducible refine' Lay.rd_setL ?k1 ?k2 ?_); (case k1 => walk_at "hp"); (case k2 => rfl))
  | ((with_reducible refine' Lay.rd_lenL ?k1 ?_); (case k1 => walk_at "hp"))
  | ((with_reducible refine' Lay.rd_lenT ?k1 ?_); (case k1 => walk_at "hp"))
  | ((with_reducible refine' Lay.rd_I ?k1 ?_); (case k1 => walk_at "ar"))
  | with_reducible refine Lay.rd_lc ?_
  | with_reducible refine Lay.rd_iStr ?_
  | with_reducible refine Lay.rd_iList ?_
  | with_reducible refine Lay.rd_iTup ?_
  | with_reducible refine Lay.rd_iRng1 ?_
  | with_reducible refine Lay.rd_iEnumT ?_
  | with_reducible refine Lay.rd_yes ?_
  | with_reducible refine Lay.rd_sign ?_
  | with_reducible refine Lay.rd_chain ?_
  | with_reducible refine Lay.rd_gcons ?_
  | with_reducible refine Lay.rd_gnil ?_
  | ((with_reducible refine' Lay.rd_gtup ?k1 ?k2 ?_); (case k1 => walk_at "hp"); (case k2 => rfl))
  | with_reducible refine Lay.rd_eqI ?_
  | with_reducible refine Lay.rd_neI ?_
  | with_reducible refine Lay.rd_eqS ?_
  | with_reducible refine Lay.rd_neS ?_
  | with_reducible refine Lay.rd_eqB ?_
  | with_reducible refine Lay.rd_neB ?_
  | with_reducible refine Lay.rd_exb ?_
  | with_reducible refine Lay.rd_exi ?_
  | with_reducible refine Lay.rd_exs ?_
  | with_reducible refine Lay.rd_exr ?_)
local macro_rules | `(tactic| walk_at "rd") => `(tactic| ((repeat walk_at "r1"); (try dsimp only [List.set, Int.reduceToNat, List.length_cons, List.length_nil, List.nil_append, List.cons_append, List.append_nil])))
local macro_rules | `(tactic| walk_at "in") => `(tactic| (dsimp only [L2.cxOf, L2.start, List.map, List.length_cons, List.length_nil, Nat.reduceAdd, Nat.reduceSub, List.replicate_succ, List.replicate_zero, List.cons_append, List.nil_append]))
local macro_rules | `(tactic| walk_at "it") => `(tactic| ((repeat first | walk_at "r1" | with_reducible refine L2.iteT ?_ | with_reducible refine L2.iteF ?_ | with_reducible refine Lay.iteNT ?_ | with_reducible refine Lay.iteNF ?_); (try dsimp only [List.set, Int.reduceToNat, List.length_cons, List.length_nil, List.nil_append, List.cons_append, List.append_nil])))
namespace My
open PySem L2
def top (i : Nat) : Stmt := PySem.Challenge.pw_unkeptlines_k05_words_allowed.main.body.getD i (.Pass ⟨0, 0, 0, 0⟩)
abbrev s_is_integer : Stmt := top 7
abbrev s_is_within : Stmt := top 8
abbrev s_is_name : Stmt := top 9
abbrev s_is_step : Stmt := top 18
abbrev s_is_memory_step : Stmt := top 19
abbrev s_check_agent : Stmt := top 22
abbrev s_Agent_init : Stmt := inClass (top 23) 2
abbrev s_Agent_may : Stmt := inClass (top 23) 8
abbrev s_Through_init : Stmt := inClass (top 24) 2
abbrev s_Through_may : Stmt := inClass (top 24) 8
abbrev s_Back_init : Stmt := inClass (top 25) 2
abbrev s_Back_may : Stmt := inClass (top 25) 8
abbrev s_pen : Stmt := top 27
abbrev s_draw : Stmt := top 28
abbrev s_thing : Stmt := top 29
abbrev s_word : Stmt := top 30
abbrev s_right : Stmt := top 31
abbrev s_family : Stmt := top 32
abbrev s_law : Stmt := top 33
theorem sc_is_integer : FnScope ["value"] ["value"] (defScope s_is_integer) := ⟨rfl, rfl, rfl, by decide +kernel, rfl, by decide +kernel, by decide +kernel⟩
theorem sc_is_within : FnScope ["value", "low", "high"] ["value", "low", "high"] (defScope s_is_within) := ⟨rfl, rfl, rfl, by decide +kernel, rfl, by decide +kernel, by decide +kernel⟩
theorem sc_is_name : FnScope ["value", "sign"] ["value"] (defScope s_is_name) := ⟨rfl, rfl, rfl, by decide +kernel, rfl, by decide +kernel, by decide +kernel⟩
theorem sc_is_step : FnScope ["value"] ["value"] (defScope s_is_step) := ⟨rfl, rfl, rfl, by decide +kernel, rfl, by decide +kernel, by decide +kernel⟩
theorem sc_is_memory_step : FnScope ["value", "word", "variable", "shift", "first", "last"] ["value"] (defScope s_is_memory_step) := ⟨rfl, rfl, rfl, by decide +kernel, rfl, by decide +kernel, by decide +kernel⟩
theorem sc_check_agent : FnScope ["name", "steps", "words", "k", "step"] ["name", "steps", "words"] (defScope s_check_agent) := ⟨rfl, rfl, rfl, by decide +kernel, rfl, by decide +kernel, by decide +kernel⟩
theorem sc_Agent_init : FnScope ["self", "name", "steps"] ["self", "name", "steps"] (defScope s_Agent_init) := ⟨rfl, rfl, rfl, by decide +kernel, rfl, by decide +kernel, by decide +kernel⟩
theorem sc_Agent_may : FnScope ["self", "word"] ["self", "word"] (defScope s_Agent_may) := ⟨rfl, rfl, rfl, by decide +kernel, rfl, by decide +kernel, by decide +kernel⟩
theorem sc_Through_init : FnScope ["self", "name", "steps"] ["self", "name", "steps"] (defScope s_Through_init) := ⟨rfl, rfl, rfl, by decide +kernel, rfl, by decide +kernel, by decide +kernel⟩
theorem sc_Through_may : FnScope ["self", "word"] ["self", "word"] (defScope s_Through_may) := ⟨rfl, rfl, rfl, by decide +kernel, rfl, by decide +kernel, by decide +kernel⟩
theorem sc_Back_init : FnScope ["self", "name", "steps"] ["self", "name", "steps"] (defScope s_Back_init) := ⟨rfl, rfl, rfl, by decide +kernel, rfl, by decide +kernel, by decide +kernel⟩
theorem sc_Back_may : FnScope ["self", "word"] ["self", "word"] (defScope s_Back_may) := ⟨rfl, rfl, rfl, by decide +kernel, rfl, by decide +kernel, by decide +kernel⟩
theorem sc_pen : FnScope ["_law_script"] ["_law_script"] (defScope s_pen) := ⟨rfl, rfl, rfl, by decide +kernel, rfl, by decide +kernel, by decide +kernel⟩
theorem sc_draw : FnScope ["_law_pen_here", "_law_many", "_law_digit", "_law_begun", "_law_cell", "_law_great", "_law_mixed"] ["_law_pen_here", "_law_many"] (defScope s_draw) := ⟨rfl, rfl, rfl, by decide +kernel, rfl, by decide +kernel, by decide +kernel⟩
theorem sc_thing : FnScope ["_law_pen_here", "_law_some"] ["_law_pen_here"] (defScope s_thing) := ⟨rfl, rfl, rfl, by decide +kernel, rfl, by decide +kernel, by decide +kernel⟩
theorem sc_word : FnScope ["_law_pen_here", "_law_some", "_law_choice"] ["_law_pen_here"] (defScope s_word) := ⟨rfl, rfl, rfl, by decide +kernel, rfl, by decide +kernel, by decide +kernel⟩
theorem sc_right : FnScope ["_law_agent", "_law_kind", "_law_word_here", "_law_words", "_law_wanted", "_law_found"] ["_law_agent", "_law_kind", "_law_word_here"] (defScope s_right) := ⟨rfl, rfl, rfl, by decide +kernel, rfl, by decide +kernel, by decide +kernel⟩
theorem sc_family : FnScope ["_law_pen_here", "_law_called", "_law_plain", "_law_through", "_law_back", "_law_k", "_law_word_here"] ["_law_pen_here"] (defScope s_family) := ⟨rfl, rfl, rfl, by decide +kernel, rfl, by decide +kernel, by decide +kernel⟩
theorem sc_law : FnScope ["_law_script", "_law_pen_here", "_law_k"] ["_law_script"] (defScope s_law) := ⟨rfl, rfl, rfl, by decide +kernel, rfl, by decide +kernel, by decide +kernel⟩
structure Adr where
  a_is_integer : Addr
  d_is_integer : FuncData
  a_is_within : Addr
  d_is_within : FuncData
  a_is_name : Addr
  d_is_name : FuncData
  a_is_step : Addr
  d_is_step : FuncData
  a_is_memory_step : Addr
  d_is_memory_step : FuncData
  a_check_agent : Addr
  d_check_agent : FuncData
  a_Agent_init : Addr
  d_Agent_init : FuncData
  a_Agent_may : Addr
  d_Agent_may : FuncData
  a_Through_init : Addr
  d_Through_init : FuncData
  a_Through_may : Addr
  d_Through_may : FuncData
  a_Back_init : Addr
  d_Back_init : FuncData
  a_Back_may : Addr
  d_Back_may : FuncData
  a_pen : Addr
  d_pen : FuncData
  a_draw : Addr
  d_draw : FuncData
  a_thing : Addr
  d_thing : FuncData
  a_word : Addr
  d_word : FuncData
  a_right : Addr
  d_right : FuncData
  a_family : Addr
  d_family : FuncData
  a_law : Addr
  d_law : FuncData
  c_Agent : Addr
  c_Through : Addr
  c_Back : Addr
  t_LETTERS : Tok
  t_LONGEST_NAME : Tok
  t_ACCESS_WORDS : Addr
  t_UPKEEP_WORDS : Addr
  t_SIGNAL_WORDS : Addr
  t_PLAIN_WORDS : Addr
  t_CACHE_WORDS : Addr
  t_GREATEST_SHIFT : Tok
  t_GREATEST_BYTE : Tok
  t_MOST_STEPS : Tok
structure Txt (K : PySem.W.Frag) (mg : Str → Option Value) (A : Adr) : Prop where
  n_list : mg "list" = none
  n_int : mg "int" = none
  n_len : mg "len" = none
  n_abs : mg "abs" = none
  n_isinstance : mg "isinstance" = none
  n_str : mg "str" = none
  n_bool : mg "bool" = none
  n_tuple : mg "tuple" = none
  n_all : mg "all" = none
  n_enumerate : mg "enumerate" = none
  n_range : mg "range" = none
  k_LETTERS : mg "LETTERS" = some (.str "abcdefghijklmnopqrstuvwxyz" A.t_LETTERS)
  k_LONGEST_NAME : mg "LONGEST_NAME" = some (.int 8 A.t_LONGEST_NAME)
  k_ACCESS_WORDS : mg "ACCESS_WORDS" = some (.ref A.t_ACCESS_WORDS)
  q_ACCESS_WORDS : ∀ H, SqT K H A.t_ACCESS_WORDS [V.str "read", V.str "write", V.str "get", V.str "put"]
  k_UPKEEP_WORDS : mg "UPKEEP_WORDS" = some (.ref A.t_UPKEEP_WORDS)
  q_UPKEEP_WORDS : ∀ H, SqT K H A.t_UPKEEP_WORDS [V.str "clean", V.str "drop", V.str "flush"]
  k_SIGNAL_WORDS : mg "SIGNAL_WORDS" = some (.ref A.t_SIGNAL_WORDS)
  q_SIGNAL_WORDS : ∀ H, SqT K H A.t_SIGNAL_WORDS [V.str "post", V.str "wait"]
  k_PLAIN_WORDS : mg "PLAIN_WORDS" = some (.ref A.t_PLAIN_WORDS)
  q_PLAIN_WORDS : ∀ H, SqT K H A.t_PLAIN_WORDS [V.str "read", V.str "write", V.str "post", V.str "wait"]
  k_CACHE_WORDS : mg "CACHE_WORDS" = some (.ref A.t_CACHE_WORDS)
  q_CACHE_WORDS : ∀ H, SqT K H A.t_CACHE_WORDS [V.str "read", V.str "write", V.str "get", V.str "put", V.str "clean", V.str "drop", V.str "flush", V.str "post", V.str "wait"]
  k_GREATEST_SHIFT : mg "GREATEST_SHIFT" = some (.int 3 A.t_GREATEST_SHIFT)
  k_GREATEST_BYTE : mg "GREATEST_BYTE" = some (.int 7 A.t_GREATEST_BYTE)
  k_MOST_STEPS : mg "MOST_STEPS" = some (.int 24 A.t_MOST_STEPS)
  F_is_integer : Fun K "is_integer" "is_integer" s_is_integer A.a_is_integer A.d_is_integer
  g_is_integer : mg "is_integer" = some (.ref A.a_is_integer)
  b_is_integer : Binds K A.d_is_integer ["value"] []
  F_is_within : Fun K "is_within" "is_within" s_is_within A.a_is_within A.d_is_within
  g_is_within : mg "is_within" = some (.ref A.a_is_within)
  b_is_within : Binds K A.d_is_within ["value", "low", "high"] []
  F_is_name : Fun K "is_name" "is_name" s_is_name A.a_is_name A.d_is_name
  g_is_name : mg "is_name" = some (.ref A.a_is_name)
  b_is_name : Binds K A.d_is_name ["value"] []
  F_is_step : Fun K "is_step" "is_step" s_is_step A.a_is_step A.d_is_step
  g_is_step : mg "is_step" = some (.ref A.a_is_step)
  b_is_step : Binds K A.d_is_step ["value"] []
  F_is_memory_step : Fun K "_is_memory_step" "_is_memory_step" s_is_memory_step A.a_is_memory_step A.d_is_memory_step
  g_is_memory_step : mg "_is_memory_step" = some (.ref A.a_is_memory_step)
  b_is_memory_step : Binds K A.d_is_memory_step ["value"] []
  F_check_agent : Fun K "_check_agent" "_check_agent" s_check_agent A.a_check_agent A.d_check_agent
  g_check_agent : mg "_check_agent" = some (.ref A.a_check_agent)
  b_check_agent : Binds K A.d_check_agent ["name", "steps", "words"] []
  F_Agent_init : Fun K "__init__" "Agent.__init__" s_Agent_init A.a_Agent_init A.d_Agent_init
  F_Agent_may : Fun K "may" "Agent.may" s_Agent_may A.a_Agent_may A.d_Agent_may
  b_Agent_may : Binds K A.d_Agent_may ["self", "word"] []
  F_Through_init : Fun K "__init__" "Through.__init__" s_Through_init A.a_Through_init A.d_Through_init
  F_Through_may : Fun K "may" "Through.may" s_Through_may A.a_Through_may A.d_Through_may
  b_Through_may : Binds K A.d_Through_may ["self", "word"] []
  F_Back_init : Fun K "__init__" "Back.__init__" s_Back_init A.a_Back_init A.d_Back_init
  F_Back_may : Fun K "may" "Back.may" s_Back_may A.a_Back_may A.d_Back_may
  b_Back_may : Binds K A.d_Back_may ["self", "word"] []
  F_pen : Fun K "_law_pen" "_law_pen" s_pen A.a_pen A.d_pen
  g_pen : mg "_law_pen" = some (.ref A.a_pen)
  b_pen : Binds K A.d_pen ["_law_script"] []
  F_draw : Fun K "_law_draw" "_law_draw" s_draw A.a_draw A.d_draw
  g_draw : mg "_law_draw" = some (.ref A.a_draw)
  b_draw : Binds K A.d_draw ["_law_pen_here", "_law_many"] []
  F_thing : Fun K "_law_thing" "_law_thing" s_thing A.a_thing A.d_thing
  g_thing : mg "_law_thing" = some (.ref A.a_thing)
  b_thing : Binds K A.d_thing ["_law_pen_here"] []
  F_word : Fun K "_law_word" "_law_word" s_word A.a_word A.d_word
  g_word : mg "_law_word" = some (.ref A.a_word)
  b_word : Binds K A.d_word ["_law_pen_here"] []
  F_right : Fun K "_law_right" "_law_right" s_right A.a_right A.d_right
  g_right : mg "_law_right" = some (.ref A.a_right)
  b_right : Binds K A.d_right ["_law_agent", "_law_kind", "_law_word_here"] []
  F_family : Fun K "_law_family" "_law_family" s_family A.a_family A.d_family
  g_family : mg "_law_family" = some (.ref A.a_family)
  b_family : Binds K A.d_family ["_law_pen_here"] []
  F_law : Fun K "law" "law" s_law A.a_law A.d_law
  g_law : mg "law" = some (.ref A.a_law)
  b_law : Binds K A.d_law ["_law_script"] []
  g_Agent : mg "Agent" = some (.ref A.c_Agent)
  cl_Agent : Cls K A.c_Agent
  na_Agent_name : NoAttr K A.c_Agent "name"
  na_Agent_steps : NoAttr K A.c_Agent "steps"
  me_Agent_may : Meth K A.c_Agent "may" A.a_Agent_may
  mk_Agent : Mk K A.c_Agent A.a_Agent_init
  g_Through : mg "Through" = some (.ref A.c_Through)
  cl_Through : Cls K A.c_Through
  na_Through_name : NoAttr K A.c_Through "name"
  na_Through_steps : NoAttr K A.c_Through "steps"
  me_Through_may : Meth K A.c_Through "may" A.a_Through_may
  mk_Through : Mk K A.c_Through A.a_Through_init
  g_Back : mg "Back" = some (.ref A.c_Back)
  cl_Back : Cls K A.c_Back
  na_Back_name : NoAttr K A.c_Back "name"
  na_Back_steps : NoAttr K A.c_Back "steps"
  me_Back_may : Meth K A.c_Back "may" A.a_Back_may
  mk_Back : Mk K A.c_Back A.a_Back_init
  in_Agent : ∀ (H : Hp) (a dx : Addr) (fs : List (Str × V)), H a = some (.ins A.c_Agent dx fs) → TyX K H (.ref a) (.ref A.c_Agent)
  co_Agent_KIND : ∃ u, Con K A.c_Agent "KIND" (.str "plain") u
  co_Agent_CACHED : ∃ u, Con K A.c_Agent "CACHED" (.bl false) u
  cr_Agent : ClX.CRead K A.c_Agent (.type "type")
  cv_Agent_KIND : ∃ u, ClX.CVal K A.c_Agent (.type "type") "KIND" (.str "plain") u
  cv_Agent_CACHED : ∃ u, ClX.CVal K A.c_Agent (.type "type") "CACHED" (.bl false) u
  in_Through : ∀ (H : Hp) (a dx : Addr) (fs : List (Str × V)), H a = some (.ins A.c_Through dx fs) → TyX K H (.ref a) (.ref A.c_Through)
  co_Through_KIND : ∃ u, Con K A.c_Through "KIND" (.str "through") u
  co_Through_CACHED : ∃ u, Con K A.c_Through "CACHED" (.bl true) u
  cr_Through : ClX.CRead K A.c_Through (.type "type")
  cv_Through_KIND : ∃ u, ClX.CVal K A.c_Through (.type "type") "KIND" (.str "through") u
  cv_Through_CACHED : ∃ u, ClX.CVal K A.c_Through (.type "type") "CACHED" (.bl true) u
  in_Back : ∀ (H : Hp) (a dx : Addr) (fs : List (Str × V)), H a = some (.ins A.c_Back dx fs) → TyX K H (.ref a) (.ref A.c_Back)
  co_Back_KIND : ∃ u, Con K A.c_Back "KIND" (.str "back") u
  co_Back_CACHED : ∃ u, Con K A.c_Back "CACHED" (.bl true) u
  cr_Back : ClX.CRead K A.c_Back (.type "type")
  cv_Back_KIND : ∃ u, ClX.CVal K A.c_Back (.type "type") "KIND" (.str "back") u
  cv_Back_CACHED : ∃ u, ClX.CVal K A.c_Back (.type "type") "CACHED" (.bl true) u
  ki_Agent_Through : PySem.W.kitOne K (.ref A.c_Agent) (.ref A.c_Through) = some false
  ki_Through_Back : PySem.W.kitOne K (.ref A.c_Through) (.ref A.c_Back) = some false
  ki_Back_Through : PySem.W.kitOne K (.ref A.c_Back) (.ref A.c_Through) = some true
  ki_Back_Agent : PySem.W.kitOne K (.ref A.c_Back) (.ref A.c_Agent) = some true
  ki_Through_Agent : PySem.W.kitOne K (.ref A.c_Through) (.ref A.c_Agent) = some true
theorem all_mk {K : PySem.W.Frag} {h : Heap} {mg : Str → Option Value} (X : K.In h) (G : h.Ns mainGlobals mg)
    {c_Agent : Addr} {c_Through : Addr} {c_Back : Addr} {kt_Agent : Tok} {kt_Through : Tok} {kt_Back : Tok}
    {f_is_integer : Addr} {od_is_integer an_is_integer : Option Addr} {sl_is_integer : Array (Option Value)} {oc_is_integer kV_is_integer dc_is_integer pm_is_integer cd_is_integer ct_is_integer : Value}
    {f_is_within : Addr} {od_is_within an_is_within : Option Addr} {sl_is_within : Array (Option Value)} {oc_is_within kV_is_within dc_is_within pm_is_within cd_is_within ct_is_within : Value}
    {f_is_name : Addr} {od_is_name an_is_name : Option Addr} {sl_is_name : Array (Option Value)} {oc_is_name kV_is_name dc_is_name pm_is_name cd_is_name ct_is_name : Value}
    {f_is_step : Addr} {od_is_step an_is_step : Option Addr} {sl_is_step : Array (Option Value)} {oc_is_step kV_is_step dc_is_step pm_is_step cd_is_step ct_is_step : Value}
    {f_is_memory_step : Addr} {od_is_memory_step an_is_memory_step : Option Addr} {sl_is_memory_step : Array (Option Value)} {oc_is_memory_step kV_is_memory_step dc_is_memory_step pm_is_memory_step cd_is_memory_step ct_is_memory_step : Value}
    {f_check_agent : Addr} {od_check_agent an_check_agent : Option Addr} {sl_check_agent : Array (Option Value)} {oc_check_agent kV_check_agent dc_check_agent pm_check_agent cd_check_agent ct_check_agent : Value}
    {f_Agent_init : Addr} {od_Agent_init an_Agent_init : Option Addr} {sl_Agent_init : Array (Option Value)} {oc_Agent_init kV_Agent_init dc_Agent_init pm_Agent_init cd_Agent_init ct_Agent_init : Value}
    {f_Agent_may : Addr} {od_Agent_may an_Agent_may : Option Addr} {sl_Agent_may : Array (Option Value)} {oc_Agent_may kV_Agent_may dc_Agent_may pm_Agent_may cd_Agent_may ct_Agent_may : Value}
    {f_Through_init : Addr} {od_Through_init an_Through_init : Option Addr} {sl_Through_init : Array (Option Value)} {oc_Through_init kV_Through_init dc_Through_init pm_Through_init cd_Through_init ct_Through_init : Value}
    {f_Through_may : Addr} {od_Through_may an_Through_may : Option Addr} {sl_Through_may : Array (Option Value)} {oc_Through_may kV_Through_may dc_Through_may pm_Through_may cd_Through_may ct_Through_may : Value}
    {f_Back_init : Addr} {od_Back_init an_Back_init : Option Addr} {sl_Back_init : Array (Option Value)} {oc_Back_init kV_Back_init dc_Back_init pm_Back_init cd_Back_init ct_Back_init : Value}
    {f_Back_may : Addr} {od_Back_may an_Back_may : Option Addr} {sl_Back_may : Array (Option Value)} {oc_Back_may kV_Back_may dc_Back_may pm_Back_may cd_Back_may ct_Back_may : Value}
    {f_pen : Addr} {od_pen an_pen : Option Addr} {sl_pen : Array (Option Value)} {oc_pen kV_pen dc_pen pm_pen cd_pen ct_pen : Value}
    {f_draw : Addr} {od_draw an_draw : Option Addr} {sl_draw : Array (Option Value)} {oc_draw kV_draw dc_draw pm_draw cd_draw ct_draw : Value}
    {f_thing : Addr} {od_thing an_thing : Option Addr} {sl_thing : Array (Option Value)} {oc_thing kV_thing dc_thing pm_thing cd_thing ct_thing : Value}
    {f_word : Addr} {od_word an_word : Option Addr} {sl_word : Array (Option Value)} {oc_word kV_word dc_word pm_word cd_word ct_word : Value}
    {f_right : Addr} {od_right an_right : Option Addr} {sl_right : Array (Option Value)} {oc_right kV_right dc_right pm_right cd_right ct_right : Value}
    {f_family : Addr} {od_family an_family : Option Addr} {sl_family : Array (Option Value)} {oc_family kV_family dc_family pm_family cd_family ct_family : Value}
    {f_law : Addr} {od_law an_law : Option Addr} {sl_law : Array (Option Value)} {oc_law kV_law dc_law pm_law cd_law ct_law : Value}
    {t_LETTERS : Tok}
    {t_LONGEST_NAME : Tok}
    {t_ACCESS_WORDS : Addr} {o_ACCESS_WORDS : Obj} {its_ACCESS_WORDS : Array Value} {n_ACCESS_WORDS : Nat}
    {t_UPKEEP_WORDS : Addr} {o_UPKEEP_WORDS : Obj} {its_UPKEEP_WORDS : Array Value} {n_UPKEEP_WORDS : Nat}
    {t_SIGNAL_WORDS : Addr} {o_SIGNAL_WORDS : Obj} {its_SIGNAL_WORDS : Array Value} {n_SIGNAL_WORDS : Nat}
    {t_PLAIN_WORDS : Addr} {o_PLAIN_WORDS : Obj} {its_PLAIN_WORDS : Array Value} {n_PLAIN_WORDS : Nat}
    {t_CACHE_WORDS : Addr} {o_CACHE_WORDS : Obj} {its_CACHE_WORDS : Array Value} {n_CACHE_WORDS : Nat}
    {t_GREATEST_SHIFT : Tok}
    {t_GREATEST_BYTE : Tok}
    {t_MOST_STEPS : Tok}
    (a_Agent : PySem.W.nsIn K mainGlobals "Agent" = some (some (.ref c_Agent)))
    (pg_Agent : PySem.W.plainGet K c_Agent Str.empty = true) (hd_Agent : PySem.W.hasDictIn K c_Agent = true) (po_Agent : PySem.W.plainOver K c_Agent = true) (sa_Agent : PySem.W.findIn K (.ref c_Agent) "__setattr__" = some (some (.builtin "object.__setattr__")))
    (na_Agent_name : PySem.W.findIn K (.ref c_Agent) "name" = some none)
    (na_Agent_steps : PySem.W.findIn K (.ref c_Agent) "steps" = some none)
    (mk_Agent : PySem.W.makesIn K c_Agent = true) (kc_Agent : PySem.W.keepIn K (.ref c_Agent) = true)
    (a_Through : PySem.W.nsIn K mainGlobals "Through" = some (some (.ref c_Through)))
    (pg_Through : PySem.W.plainGet K c_Through Str.empty = true) (hd_Through : PySem.W.hasDictIn K c_Through = true) (po_Through : PySem.W.plainOver K c_Through = true) (sa_Through : PySem.W.findIn K (.ref c_Through) "__setattr__" = some (some (.builtin "object.__setattr__")))
    (na_Through_name : PySem.W.findIn K (.ref c_Through) "name" = some none)
    (na_Through_steps : PySem.W.findIn K (.ref c_Through) "steps" = some none)
    (mk_Through : PySem.W.makesIn K c_Through = true) (kc_Through : PySem.W.keepIn K (.ref c_Through) = true)
    (a_Back : PySem.W.nsIn K mainGlobals "Back" = some (some (.ref c_Back)))
    (pg_Back : PySem.W.plainGet K c_Back Str.empty = true) (hd_Back : PySem.W.hasDictIn K c_Back = true) (po_Back : PySem.W.plainOver K c_Back = true) (sa_Back : PySem.W.findIn K (.ref c_Back) "__setattr__" = some (some (.builtin "object.__setattr__")))
    (na_Back_name : PySem.W.findIn K (.ref c_Back) "name" = some none)
    (na_Back_steps : PySem.W.findIn K (.ref c_Back) "steps" = some none)
    (mk_Back : PySem.W.makesIn K c_Back = true) (kc_Back : PySem.W.keepIn K (.ref c_Back) = true)
    (gg : PySem.W.specialIn K (.builtin "object.__class__") "__get__" = some (some (.builtin "getset_descriptor.__get__"))) (tk : PySem.W.takesIn K (.builtin "object.__class__") = some true)
    (ci_Agent : PySem.W.findIn K (.ref c_Agent) "__class__" = some (some (.builtin "object.__class__"))) (mo_Agent : PySem.W.mroIn K c_Agent (.type "object") = some true)
    (co_Agent : PySem.W.findIn K (.ref c_Agent) "KIND" = some (some (.str "plain" kt_Agent))) (cg_Agent : PySem.W.specialIn K (.str "plain" kt_Agent) "__get__" = some none)
    (cb_Agent : PySem.W.findIn K (.ref c_Agent) "CACHED" = some (some (.bool false))) (ch_Agent : PySem.W.specialIn K (.bool false) "__get__" = some none)
    (rd_Agent : PySem.W.readsIn K c_Agent (.type "type") = true) (ga_Agent : PySem.W.specialIn K (.ref c_Agent) "__getattribute__" = some (some (.builtin "type.__getattribute__")))
    (cv_Agent : PySem.W.findCls K (.ref c_Agent) (.type "type") "KIND" = some (.val (.str "plain" kt_Agent))) (cw_Agent : PySem.W.findCls K (.ref c_Agent) (.type "type") "CACHED" = some (.val (.bool false)))
    (ci_Through : PySem.W.findIn K (.ref c_Through) "__class__" = some (some (.builtin "object.__class__"))) (mo_Through : PySem.W.mroIn K c_Through (.type "object") = some true)
    (co_Through : PySem.W.findIn K (.ref c_Through) "KIND" = some (some (.str "through" kt_Through))) (cg_Through : PySem.W.specialIn K (.str "through" kt_Through) "__get__" = some none)
    (cb_Through : PySem.W.findIn K (.ref c_Through) "CACHED" = some (some (.bool true))) (ch_Through : PySem.W.specialIn K (.bool true) "__get__" = some none)
    (rd_Through : PySem.W.readsIn K c_Through (.type "type") = true) (ga_Through : PySem.W.specialIn K (.ref c_Through) "__getattribute__" = some (some (.builtin "type.__getattribute__")))
    (cv_Through : PySem.W.findCls K (.ref c_Through) (.type "type") "KIND" = some (.val (.str "through" kt_Through))) (cw_Through : PySem.W.findCls K (.ref c_Through) (.type "type") "CACHED" = some (.val (.bool true)))
    (ci_Back : PySem.W.findIn K (.ref c_Back) "__class__" = some (some (.builtin "object.__class__"))) (mo_Back : PySem.W.mroIn K c_Back (.type "object") = some true)
    (co_Back : PySem.W.findIn K (.ref c_Back) "KIND" = some (some (.str "back" kt_Back))) (cg_Back : PySem.W.specialIn K (.str "back" kt_Back) "__get__" = some none)
    (cb_Back : PySem.W.findIn K (.ref c_Back) "CACHED" = some (some (.bool true))) (ch_Back : PySem.W.specialIn K (.bool true) "__get__" = some none)
    (rd_Back : PySem.W.readsIn K c_Back (.type "type") = true) (ga_Back : PySem.W.specialIn K (.ref c_Back) "__getattribute__" = some (some (.builtin "type.__getattribute__")))
    (cv_Back : PySem.W.findCls K (.ref c_Back) (.type "type") "KIND" = some (.val (.str "back" kt_Back))) (cw_Back : PySem.W.findCls K (.ref c_Back) (.type "type") "CACHED" = some (.val (.bool true)))
    (ty_Agent : PySem.W.typeIn K (.ref c_Agent) = some (.type "type")) (ss_Agent : PySem.W.subIn K (.ref c_Agent) (.ref c_Agent) = some true)
    (ty_Through : PySem.W.typeIn K (.ref c_Through) = some (.type "type")) (ss_Through : PySem.W.subIn K (.ref c_Through) (.ref c_Through) = some true)
    (ty_Back : PySem.W.typeIn K (.ref c_Back) = some (.type "type")) (ss_Back : PySem.W.subIn K (.ref c_Back) (.ref c_Back) = some true)
    (sb_Agent_Through : PySem.W.subIn K (.ref c_Agent) (.ref c_Through) = some false)
    (sb_Through_Back : PySem.W.subIn K (.ref c_Through) (.ref c_Back) = some false)
    (sb_Back_Through : PySem.W.subIn K (.ref c_Back) (.ref c_Through) = some true)
    (sb_Back_Agent : PySem.W.subIn K (.ref c_Back) (.ref c_Agent) = some true)
    (sb_Through_Agent : PySem.W.subIn K (.ref c_Through) (.ref c_Agent) = some true)
    (n_list : PySem.W.nsIn K mainGlobals "list" = some none)
    (n_int : PySem.W.nsIn K mainGlobals "int" = some none)
    (n_len : PySem.W.nsIn K mainGlobals "len" = some none)
    (n_abs : PySem.W.nsIn K mainGlobals "abs" = some none)
    (n_isinstance : PySem.W.nsIn K mainGlobals "isinstance" = some none)
    (n_str : PySem.W.nsIn K mainGlobals "str" = some none)
    (n_bool : PySem.W.nsIn K mainGlobals "bool" = some none)
    (n_tuple : PySem.W.nsIn K mainGlobals "tuple" = some none)
    (n_all : PySem.W.nsIn K mainGlobals "all" = some none)
    (n_enumerate : PySem.W.nsIn K mainGlobals "enumerate" = some none)
    (n_range : PySem.W.nsIn K mainGlobals "range" = some none)
    (a_is_integer : PySem.W.nsIn K mainGlobals "is_integer" = some (some (.ref f_is_integer)))
    (l_is_integer : K.lookup f_is_integer = some ⟨oc_is_integer, od_is_integer, .func (PySem.W.fnOf "is_integer" "is_integer" (defArgs s_is_integer) (defBody s_is_integer) (defScope s_is_integer) .none kV_is_integer dc_is_integer pm_is_integer an_is_integer cd_is_integer ct_is_integer), sl_is_integer⟩)
    (e_is_integer : PySem.W.codeIn K cd_is_integer "is_integer" = true)
    (p_is_integer : PySem.W.keepIn K (.ref f_is_integer) = true)
    (a_is_within : PySem.W.nsIn K mainGlobals "is_within" = some (some (.ref f_is_within)))
    (l_is_within : K.lookup f_is_within = some ⟨oc_is_within, od_is_within, .func (PySem.W.fnOf "is_within" "is_within" (defArgs s_is_within) (defBody s_is_within) (defScope s_is_within) .none kV_is_within dc_is_within pm_is_within an_is_within cd_is_within ct_is_within), sl_is_within⟩)
    (e_is_within : PySem.W.codeIn K cd_is_within "is_within" = true)
    (p_is_within : PySem.W.keepIn K (.ref f_is_within) = true)
    (a_is_name : PySem.W.nsIn K mainGlobals "is_name" = some (some (.ref f_is_name)))
    (l_is_name : K.lookup f_is_name = some ⟨oc_is_name, od_is_name, .func (PySem.W.fnOf "is_name" "is_name" (defArgs s_is_name) (defBody s_is_name) (defScope s_is_name) .none kV_is_name dc_is_name pm_is_name an_is_name cd_is_name ct_is_name), sl_is_name⟩)
    (e_is_name : PySem.W.codeIn K cd_is_name "is_name" = true)
    (p_is_name : PySem.W.keepIn K (.ref f_is_name) = true)
    (a_is_step : PySem.W.nsIn K mainGlobals "is_step" = some (some (.ref f_is_step)))
    (l_is_step : K.lookup f_is_step = some ⟨oc_is_step, od_is_step, .func (PySem.W.fnOf "is_step" "is_step" (defArgs s_is_step) (defBody s_is_step) (defScope s_is_step) .none kV_is_step dc_is_step pm_is_step an_is_step cd_is_step ct_is_step), sl_is_step⟩)
    (e_is_step : PySem.W.codeIn K cd_is_step "is_step" = true)
    (p_is_step : PySem.W.keepIn K (.ref f_is_step) = true)
    (a_is_memory_step : PySem.W.nsIn K mainGlobals "_is_memory_step" = some (some (.ref f_is_memory_step)))
    (l_is_memory_step : K.lookup f_is_memory_step = some ⟨oc_is_memory_step, od_is_memory_step, .func (PySem.W.fnOf "_is_memory_step" "_is_memory_step" (defArgs s_is_memory_step) (defBody s_is_memory_step) (defScope s_is_memory_step) .none kV_is_memory_step dc_is_memory_step pm_is_memory_step an_is_memory_step cd_is_memory_step ct_is_memory_step), sl_is_memory_step⟩)
    (e_is_memory_step : PySem.W.codeIn K cd_is_memory_step "_is_memory_step" = true)
    (p_is_memory_step : PySem.W.keepIn K (.ref f_is_memory_step) = true)
    (a_check_agent : PySem.W.nsIn K mainGlobals "_check_agent" = some (some (.ref f_check_agent)))
    (l_check_agent : K.lookup f_check_agent = some ⟨oc_check_agent, od_check_agent, .func (PySem.W.fnOf "_check_agent" "_check_agent" (defArgs s_check_agent) (defBody s_check_agent) (defScope s_check_agent) .none kV_check_agent dc_check_agent pm_check_agent an_check_agent cd_check_agent ct_check_agent), sl_check_agent⟩)
    (e_check_agent : PySem.W.codeIn K cd_check_agent "_check_agent" = true)
    (p_check_agent : PySem.W.keepIn K (.ref f_check_agent) = true)
    (a_Agent_init : PySem.W.findIn K (.ref c_Agent) "__init__" = some (some (.ref f_Agent_init)))
    (i_Agent_init : PySem.W.isFn K (.ref f_Agent_init) = true)
    (l_Agent_init : K.lookup f_Agent_init = some ⟨oc_Agent_init, od_Agent_init, .func (PySem.W.fnOf "__init__" "Agent.__init__" (defArgs s_Agent_init) (defBody s_Agent_init) (defScope s_Agent_init) .none kV_Agent_init dc_Agent_init pm_Agent_init an_Agent_init cd_Agent_init ct_Agent_init), sl_Agent_init⟩)
    (e_Agent_init : PySem.W.codeIn K cd_Agent_init "Agent.__init__" = true)
    (p_Agent_init : PySem.W.keepIn K (.ref f_Agent_init) = true)
    (a_Agent_may : PySem.W.findIn K (.ref c_Agent) "may" = some (some (.ref f_Agent_may)))
    (i_Agent_may : PySem.W.isFn K (.ref f_Agent_may) = true)
    (l_Agent_may : K.lookup f_Agent_may = some ⟨oc_Agent_may, od_Agent_may, .func (PySem.W.fnOf "may" "Agent.may" (defArgs s_Agent_may) (defBody s_Agent_may) (defScope s_Agent_may) .none kV_Agent_may dc_Agent_may pm_Agent_may an_Agent_may cd_Agent_may ct_Agent_may), sl_Agent_may⟩)
    (e_Agent_may : PySem.W.codeIn K cd_Agent_may "Agent.may" = true)
    (p_Agent_may : PySem.W.keepIn K (.ref f_Agent_may) = true)
    (a_Through_init : PySem.W.findIn K (.ref c_Through) "__init__" = some (some (.ref f_Through_init)))
    (i_Through_init : PySem.W.isFn K (.ref f_Through_init) = true)
    (l_Through_init : K.lookup f_Through_init = some ⟨oc_Through_init, od_Through_init, .func (PySem.W.fnOf "__init__" "Through.__init__" (defArgs s_Through_init) (defBody s_Through_init) (defScope s_Through_init) .none kV_Through_init dc_Through_init pm_Through_init an_Through_init cd_Through_init ct_Through_init), sl_Through_init⟩)
    (e_Through_init : PySem.W.codeIn K cd_Through_init "Through.__init__" = true)
    (p_Through_init : PySem.W.keepIn K (.ref f_Through_init) = true)
    (a_Through_may : PySem.W.findIn K (.ref c_Through) "may" = some (some (.ref f_Through_may)))
    (i_Through_may : PySem.W.isFn K (.ref f_Through_may) = true)
    (l_Through_may : K.lookup f_Through_may = some ⟨oc_Through_may, od_Through_may, .func (PySem.W.fnOf "may" "Through.may" (defArgs s_Through_may) (defBody s_Through_may) (defScope s_Through_may) .none kV_Through_may dc_Through_may pm_Through_may an_Through_may cd_Through_may ct_Through_may), sl_Through_may⟩)
    (e_Through_may : PySem.W.codeIn K cd_Through_may "Through.may" = true)
    (p_Through_may : PySem.W.keepIn K (.ref f_Through_may) = true)
    (a_Back_init : PySem.W.findIn K (.ref c_Back) "__init__" = some (some (.ref f_Back_init)))
    (i_Back_init : PySem.W.isFn K (.ref f_Back_init) = true)
    (l_Back_init : K.lookup f_Back_init = some ⟨oc_Back_init, od_Back_init, .func (PySem.W.fnOf "__init__" "Back.__init__" (defArgs s_Back_init) (defBody s_Back_init) (defScope s_Back_init) .none kV_Back_init dc_Back_init pm_Back_init an_Back_init cd_Back_init ct_Back_init), sl_Back_init⟩)
    (e_Back_init : PySem.W.codeIn K cd_Back_init "Back.__init__" = true)
    (p_Back_init : PySem.W.keepIn K (.ref f_Back_init) = true)
    (a_Back_may : PySem.W.findIn K (.ref c_Back) "may" = some (some (.ref f_Back_may)))
    (i_Back_may : PySem.W.isFn K (.ref f_Back_may) = true)
    (l_Back_may : K.lookup f_Back_may = some ⟨oc_Back_may, od_Back_may, .func (PySem.W.fnOf "may" "Back.may" (defArgs s_Back_may) (defBody s_Back_may) (defScope s_Back_may) .none kV_Back_may dc_Back_may pm_Back_may an_Back_may cd_Back_may ct_Back_may), sl_Back_may⟩)
    (e_Back_may : PySem.W.codeIn K cd_Back_may "Back.may" = true)
    (p_Back_may : PySem.W.keepIn K (.ref f_Back_may) = true)
    (a_pen : PySem.W.nsIn K mainGlobals "_law_pen" = some (some (.ref f_pen)))
    (l_pen : K.lookup f_pen = some ⟨oc_pen, od_pen, .func (PySem.W.fnOf "_law_pen" "_law_pen" (defArgs s_pen) (defBody s_pen) (defScope s_pen) .none kV_pen dc_pen pm_pen an_pen cd_pen ct_pen), sl_pen⟩)
    (e_pen : PySem.W.codeIn K cd_pen "_law_pen" = true)
    (p_pen : PySem.W.keepIn K (.ref f_pen) = true)
    (a_draw : PySem.W.nsIn K mainGlobals "_law_draw" = some (some (.ref f_draw)))
    (l_draw : K.lookup f_draw = some ⟨oc_draw, od_draw, .func (PySem.W.fnOf "_law_draw" "_law_draw" (defArgs s_draw) (defBody s_draw) (defScope s_draw) .none kV_draw dc_draw pm_draw an_draw cd_draw ct_draw), sl_draw⟩)
    (e_draw : PySem.W.codeIn K cd_draw "_law_draw" = true)
    (p_draw : PySem.W.keepIn K (.ref f_draw) = true)
    (a_thing : PySem.W.nsIn K mainGlobals "_law_thing" = some (some (.ref f_thing)))
    (l_thing : K.lookup f_thing = some ⟨oc_thing, od_thing, .func (PySem.W.fnOf "_law_thing" "_law_thing" (defArgs s_thing) (defBody s_thing) (defScope s_thing) .none kV_thing dc_thing pm_thing an_thing cd_thing ct_thing), sl_thing⟩)
    (e_thing : PySem.W.codeIn K cd_thing "_law_thing" = true)
    (p_thing : PySem.W.keepIn K (.ref f_thing) = true)
    (a_word : PySem.W.nsIn K mainGlobals "_law_word" = some (some (.ref f_word)))
    (l_word : K.lookup f_word = some ⟨oc_word, od_word, .func (PySem.W.fnOf "_law_word" "_law_word" (defArgs s_word) (defBody s_word) (defScope s_word) .none kV_word dc_word pm_word an_word cd_word ct_word), sl_word⟩)
    (e_word : PySem.W.codeIn K cd_word "_law_word" = true)
    (p_word : PySem.W.keepIn K (.ref f_word) = true)
    (a_right : PySem.W.nsIn K mainGlobals "_law_right" = some (some (.ref f_right)))
    (l_right : K.lookup f_right = some ⟨oc_right, od_right, .func (PySem.W.fnOf "_law_right" "_law_right" (defArgs s_right) (defBody s_right) (defScope s_right) .none kV_right dc_right pm_right an_right cd_right ct_right), sl_right⟩)
    (e_right : PySem.W.codeIn K cd_right "_law_right" = true)
    (p_right : PySem.W.keepIn K (.ref f_right) = true)
    (a_family : PySem.W.nsIn K mainGlobals "_law_family" = some (some (.ref f_family)))
    (l_family : K.lookup f_family = some ⟨oc_family, od_family, .func (PySem.W.fnOf "_law_family" "_law_family" (defArgs s_family) (defBody s_family) (defScope s_family) .none kV_family dc_family pm_family an_family cd_family ct_family), sl_family⟩)
    (e_family : PySem.W.codeIn K cd_family "_law_family" = true)
    (p_family : PySem.W.keepIn K (.ref f_family) = true)
    (a_law : PySem.W.nsIn K mainGlobals "law" = some (some (.ref f_law)))
    (l_law : K.lookup f_law = some ⟨oc_law, od_law, .func (PySem.W.fnOf "law" "law" (defArgs s_law) (defBody s_law) (defScope s_law) .none kV_law dc_law pm_law an_law cd_law ct_law), sl_law⟩)
    (e_law : PySem.W.codeIn K cd_law "law" = true)
    (p_law : PySem.W.keepIn K (.ref f_law) = true)
    (k_LETTERS : PySem.W.nsIn K mainGlobals "LETTERS" = some (some (.str "abcdefghijklmnopqrstuvwxyz" t_LETTERS)))
    (k_LONGEST_NAME : PySem.W.nsIn K mainGlobals "LONGEST_NAME" = some (some (.int 8 t_LONGEST_NAME)))
    (k_ACCESS_WORDS : PySem.W.nsIn K mainGlobals "ACCESS_WORDS" = some (some (.ref t_ACCESS_WORDS)))
    (lk_ACCESS_WORDS : K.lookup t_ACCESS_WORDS = some o_ACCESS_WORDS) (oc_ACCESS_WORDS : o_ACCESS_WORDS.cls = .type "tuple") (od_ACCESS_WORDS : o_ACCESS_WORDS.data = .seq its_ACCESS_WORDS n_ACCESS_WORDS) (oz_ACCESS_WORDS : its_ACCESS_WORDS.size ≤ sizeLine) (ov_ACCESS_WORDS : Vals [V.str "read", V.str "write", V.str "get", V.str "put"] its_ACCESS_WORDS.toList)
    (k_UPKEEP_WORDS : PySem.W.nsIn K mainGlobals "UPKEEP_WORDS" = some (some (.ref t_UPKEEP_WORDS)))
    (lk_UPKEEP_WORDS : K.lookup t_UPKEEP_WORDS = some o_UPKEEP_WORDS) (oc_UPKEEP_WORDS : o_UPKEEP_WORDS.cls = .type "tuple") (od_UPKEEP_WORDS : o_UPKEEP_WORDS.data = .seq its_UPKEEP_WORDS n_UPKEEP_WORDS) (oz_UPKEEP_WORDS : its_UPKEEP_WORDS.size ≤ sizeLine) (ov_UPKEEP_WORDS : Vals [V.str "clean", V.str "drop", V.str "flush"] its_UPKEEP_WORDS.toList)
    (k_SIGNAL_WORDS : PySem.W.nsIn K mainGlobals "SIGNAL_WORDS" = some (some (.ref t_SIGNAL_WORDS)))
    (lk_SIGNAL_WORDS : K.lookup t_SIGNAL_WORDS = some o_SIGNAL_WORDS) (oc_SIGNAL_WORDS : o_SIGNAL_WORDS.cls = .type "tuple") (od_SIGNAL_WORDS : o_SIGNAL_WORDS.data = .seq its_SIGNAL_WORDS n_SIGNAL_WORDS) (oz_SIGNAL_WORDS : its_SIGNAL_WORDS.size ≤ sizeLine) (ov_SIGNAL_WORDS : Vals [V.str "post", V.str "wait"] its_SIGNAL_WORDS.toList)
    (k_PLAIN_WORDS : PySem.W.nsIn K mainGlobals "PLAIN_WORDS" = some (some (.ref t_PLAIN_WORDS)))
    (lk_PLAIN_WORDS : K.lookup t_PLAIN_WORDS = some o_PLAIN_WORDS) (oc_PLAIN_WORDS : o_PLAIN_WORDS.cls = .type "tuple") (od_PLAIN_WORDS : o_PLAIN_WORDS.data = .seq its_PLAIN_WORDS n_PLAIN_WORDS) (oz_PLAIN_WORDS : its_PLAIN_WORDS.size ≤ sizeLine) (ov_PLAIN_WORDS : Vals [V.str "read", V.str "write", V.str "post", V.str "wait"] its_PLAIN_WORDS.toList)
    (k_CACHE_WORDS : PySem.W.nsIn K mainGlobals "CACHE_WORDS" = some (some (.ref t_CACHE_WORDS)))
    (lk_CACHE_WORDS : K.lookup t_CACHE_WORDS = some o_CACHE_WORDS) (oc_CACHE_WORDS : o_CACHE_WORDS.cls = .type "tuple") (od_CACHE_WORDS : o_CACHE_WORDS.data = .seq its_CACHE_WORDS n_CACHE_WORDS) (oz_CACHE_WORDS : its_CACHE_WORDS.size ≤ sizeLine) (ov_CACHE_WORDS : Vals [V.str "read", V.str "write", V.str "get", V.str "put", V.str "clean", V.str "drop", V.str "flush", V.str "post", V.str "wait"] its_CACHE_WORDS.toList)
    (k_GREATEST_SHIFT : PySem.W.nsIn K mainGlobals "GREATEST_SHIFT" = some (some (.int 3 t_GREATEST_SHIFT)))
    (k_GREATEST_BYTE : PySem.W.nsIn K mainGlobals "GREATEST_BYTE" = some (some (.int 7 t_GREATEST_BYTE)))
    (k_MOST_STEPS : PySem.W.nsIn K mainGlobals "MOST_STEPS" = some (some (.int 24 t_MOST_STEPS))) :
    ∃ A : Adr, Txt K mg A :=
  ⟨{ a_is_integer := f_is_integer,
     d_is_integer := PySem.W.fnOf "is_integer" "is_integer" (defArgs s_is_integer) (defBody s_is_integer) (defScope s_is_integer) .none kV_is_integer dc_is_integer pm_is_integer an_is_integer cd_is_integer ct_is_integer,
     a_is_within := f_is_within,
     d_is_within := PySem.W.fnOf "is_within" "is_within" (defArgs s_is_within) (defBody s_is_within) (defScope s_is_within) .none kV_is_within dc_is_within pm_is_within an_is_within cd_is_within ct_is_within,
     a_is_name := f_is_name,
     d_is_name := PySem.W.fnOf "is_name" "is_name" (defArgs s_is_name) (defBody s_is_name) (defScope s_is_name) .none kV_is_name dc_is_name pm_is_name an_is_name cd_is_name ct_is_name,
     a_is_step := f_is_step,
     d_is_step := PySem.W.fnOf "is_step" "is_step" (defArgs s_is_step) (defBody s_is_step) (defScope s_is_step) .none kV_is_step dc_is_step pm_is_step an_is_step cd_is_step ct_is_step,
     a_is_memory_step := f_is_memory_step,
     d_is_memory_step := PySem.W.fnOf "_is_memory_step" "_is_memory_step" (defArgs s_is_memory_step) (defBody s_is_memory_step) (defScope s_is_memory_step) .none kV_is_memory_step dc_is_memory_step pm_is_memory_step an_is_memory_step cd_is_memory_step ct_is_memory_step,
     a_check_agent := f_check_agent,
     d_check_agent := PySem.W.fnOf "_check_agent" "_check_agent" (defArgs s_check_agent) (defBody s_check_agent) (defScope s_check_agent) .none kV_check_agent dc_check_agent pm_check_agent an_check_agent cd_check_agent ct_check_agent,
     a_Agent_init := f_Agent_init,
     d_Agent_init := PySem.W.fnOf "__init__" "Agent.__init__" (defArgs s_Agent_init) (defBody s_Agent_init) (defScope s_Agent_init) .none kV_Agent_init dc_Agent_init pm_Agent_init an_Agent_init cd_Agent_init ct_Agent_init,
     a_Agent_may := f_Agent_may,
     d_Agent_may := PySem.W.fnOf "may" "Agent.may" (defArgs s_Agent_may) (defBody s_Agent_may) (defScope s_Agent_may) .none kV_Agent_may dc_Agent_may pm_Agent_may an_Agent_may cd_Agent_may ct_Agent_may,
     a_Through_init := f_Through_init,
     d_Through_init := PySem.W.fnOf "__init__" "Through.__init__" (defArgs s_Through_init) (defBody s_Through_init) (defScope s_Through_init) .none kV_Through_init dc_Through_init pm_Through_init an_Through_init cd_Through_init ct_Through_init,
     a_Through_may := f_Through_may,
     d_Through_may := PySem.W.fnOf "may" "Through.may" (defArgs s_Through_may) (defBody s_Through_may) (defScope s_Through_may) .none kV_Through_may dc_Through_may pm_Through_may an_Through_may cd_Through_may ct_Through_may,
     a_Back_init := f_Back_init,
     d_Back_init := PySem.W.fnOf "__init__" "Back.__init__" (defArgs s_Back_init) (defBody s_Back_init) (defScope s_Back_init) .none kV_Back_init dc_Back_init pm_Back_init an_Back_init cd_Back_init ct_Back_init,
     a_Back_may := f_Back_may,
     d_Back_may := PySem.W.fnOf "may" "Back.may" (defArgs s_Back_may) (defBody s_Back_may) (defScope s_Back_may) .none kV_Back_may dc_Back_may pm_Back_may an_Back_may cd_Back_may ct_Back_may,
     a_pen := f_pen,
     d_pen := PySem.W.fnOf "_law_pen" "_law_pen" (defArgs s_pen) (defBody s_pen) (defScope s_pen) .none kV_pen dc_pen pm_pen an_pen cd_pen ct_pen,
     a_draw := f_draw,
     d_draw := PySem.W.fnOf "_law_draw" "_law_draw" (defArgs s_draw) (defBody s_draw) (defScope s_draw) .none kV_draw dc_draw pm_draw an_draw cd_draw ct_draw,
     a_thing := f_thing,
     d_thing := PySem.W.fnOf "_law_thing" "_law_thing" (defArgs s_thing) (defBody s_thing) (defScope s_thing) .none kV_thing dc_thing pm_thing an_thing cd_thing ct_thing,
     a_word := f_word,
     d_word := PySem.W.fnOf "_law_word" "_law_word" (defArgs s_word) (defBody s_word) (defScope s_word) .none kV_word dc_word pm_word an_word cd_word ct_word,
     a_right := f_right,
     d_right := PySem.W.fnOf "_law_right" "_law_right" (defArgs s_right) (defBody s_right) (defScope s_right) .none kV_right dc_right pm_right an_right cd_right ct_right,
     a_family := f_family,
     d_family := PySem.W.fnOf "_law_family" "_law_family" (defArgs s_family) (defBody s_family) (defScope s_family) .none kV_family dc_family pm_family an_family cd_family ct_family,
     a_law := f_law,
     d_law := PySem.W.fnOf "law" "law" (defArgs s_law) (defBody s_law) (defScope s_law) .none kV_law dc_law pm_law an_law cd_law ct_law,
     c_Agent := c_Agent,
     c_Through := c_Through,
     c_Back := c_Back,
     t_LETTERS := t_LETTERS,
     t_LONGEST_NAME := t_LONGEST_NAME,
     t_ACCESS_WORDS := t_ACCESS_WORDS,
     t_UPKEEP_WORDS := t_UPKEEP_WORDS,
     t_SIGNAL_WORDS := t_SIGNAL_WORDS,
     t_PLAIN_WORDS := t_PLAIN_WORDS,
     t_CACHE_WORDS := t_CACHE_WORDS,
     t_GREATEST_SHIFT := t_GREATEST_SHIFT,
     t_GREATEST_BYTE := t_GREATEST_BYTE,
     t_MOST_STEPS := t_MOST_STEPS },
   { n_list := PySem.W.mg_none_of X G n_list,
     n_int := PySem.W.mg_none_of X G n_int,
     n_len := PySem.W.mg_none_of X G n_len,
     n_abs := PySem.W.mg_none_of X G n_abs,
     n_isinstance := PySem.W.mg_none_of X G n_isinstance,
     n_str := PySem.W.mg_none_of X G n_str,
     n_bool := PySem.W.mg_none_of X G n_bool,
     n_tuple := PySem.W.mg_none_of X G n_tuple,
     n_all := PySem.W.mg_none_of X G n_all,
     n_enumerate := PySem.W.mg_none_of X G n_enumerate,
     n_range := PySem.W.mg_none_of X G n_range,
     F_is_integer := fun_mk (st := s_is_integer) l_is_integer e_is_integer p_is_integer,
     g_is_integer := PySem.W.mg_of X G a_is_integer,
     b_is_integer := (fun_mk (st := s_is_integer) l_is_integer e_is_integer p_is_integer).binds (ps := ["value"]) fun _ _ _ _ _ _ us hl => match us, hl with | [_], _ => rfl,
     F_is_within := fun_mk (st := s_is_within) l_is_within e_is_within p_is_within,
     g_is_within := PySem.W.mg_of X G a_is_within,
     b_is_within := (fun_mk (st := s_is_within) l_is_within e_is_within p_is_within).binds (ps := ["value", "low", "high"]) fun _ _ _ _ _ _ us hl => match us, hl with | [_, _, _], _ => rfl,
     F_is_name := fun_mk (st := s_is_name) l_is_name e_is_name p_is_name,
     g_is_name := PySem.W.mg_of X G a_is_name,
     b_is_name := (fun_mk (st := s_is_name) l_is_name e_is_name p_is_name).binds (ps := ["value"]) fun _ _ _ _ _ _ us hl => match us, hl with | [_], _ => rfl,
     F_is_step := fun_mk (st := s_is_step) l_is_step e_is_step p_is_step,
     g_is_step := PySem.W.mg_of X G a_is_step,
     b_is_step := (fun_mk (st := s_is_step) l_is_step e_is_step p_is_step).binds (ps := ["value"]) fun _ _ _ _ _ _ us hl => match us, hl with | [_], _ => rfl,
     F_is_memory_step := fun_mk (st := s_is_memory_step) l_is_memory_step e_is_memory_step p_is_memory_step,
     g_is_memory_step := PySem.W.mg_of X G a_is_memory_step,
     b_is_memory_step := (fun_mk (st := s_is_memory_step) l_is_memory_step e_is_memory_step p_is_memory_step).binds (ps := ["value"]) fun _ _ _ _ _ _ us hl => match us, hl with | [_], _ => rfl,
     F_check_agent := fun_mk (st := s_check_agent) l_check_agent e_check_agent p_check_agent,
     g_check_agent := PySem.W.mg_of X G a_check_agent,
     b_check_agent := (fun_mk (st := s_check_agent) l_check_agent e_check_agent p_check_agent).binds (ps := ["name", "steps", "words"]) fun _ _ _ _ _ _ us hl => match us, hl with | [_, _, _], _ => rfl,
     F_Agent_init := fun_mk (st := s_Agent_init) l_Agent_init e_Agent_init p_Agent_init,
     F_Agent_may := fun_mk (st := s_Agent_may) l_Agent_may e_Agent_may p_Agent_may,
     b_Agent_may := (fun_mk (st := s_Agent_may) l_Agent_may e_Agent_may p_Agent_may).binds (ps := ["self", "word"]) fun _ _ _ _ _ _ us hl => match us, hl with | [_, _], _ => rfl,
     F_Through_init := fun_mk (st := s_Through_init) l_Through_init e_Through_init p_Through_init,
     F_Through_may := fun_mk (st := s_Through_may) l_Through_may e_Through_may p_Through_may,
     b_Through_may := (fun_mk (st := s_Through_may) l_Through_may e_Through_may p_Through_may).binds (ps := ["self", "word"]) fun _ _ _ _ _ _ us hl => match us, hl with | [_, _], _ => rfl,
     F_Back_init := fun_mk (st := s_Back_init) l_Back_init e_Back_init p_Back_init,
     F_Back_may := fun_mk (st := s_Back_may) l_Back_may e_Back_may p_Back_may,
     b_Back_may := (fun_mk (st := s_Back_may) l_Back_may e_Back_may p_Back_may).binds (ps := ["self", "word"]) fun _ _ _ _ _ _ us hl => match us, hl with | [_, _], _ => rfl,
     F_pen := fun_mk (st := s_pen) l_pen e_pen p_pen,
     g_pen := PySem.W.mg_of X G a_pen,
     b_pen := (fun_mk (st := s_pen) l_pen e_pen p_pen).binds (ps := ["_law_script"]) fun _ _ _ _ _ _ us hl => match us, hl with | [_], _ => rfl,
     F_draw := fun_mk (st := s_draw) l_draw e_draw p_draw,
     g_draw := PySem.W.mg_of X G a_draw,
     b_draw := (fun_mk (st := s_draw) l_draw e_draw p_draw).binds (ps := ["_law_pen_here", "_law_many"]) fun _ _ _ _ _ _ us hl => match us, hl with | [_, _], _ => rfl,
     F_thing := fun_mk (st := s_thing) l_thing e_thing p_thing,
     g_thing := PySem.W.mg_of X G a_thing,
     b_thing := (fun_mk (st := s_thing) l_thing e_thing p_thing).binds (ps := ["_law_pen_here"]) fun _ _ _ _ _ _ us hl => match us, hl with | [_], _ => rfl,
     F_word := fun_mk (st := s_word) l_word e_word p_word,
     g_word := PySem.W.mg_of X G a_word,
     b_word := (fun_mk (st := s_word) l_word e_word p_word).binds (ps := ["_law_pen_here"]) fun _ _ _ _ _ _ us hl => match us, hl with | [_], _ => rfl,
     F_right := fun_mk (st := s_right) l_right e_right p_right,
     g_right := PySem.W.mg_of X G a_right,
     b_right := (fun_mk (st := s_right) l_right e_right p_right).binds (ps := ["_law_agent", "_law_kind", "_law_word_here"]) fun _ _ _ _ _ _ us hl => match us, hl with | [_, _, _], _ => rfl,
     F_family := fun_mk (st := s_family) l_family e_family p_family,
     g_family := PySem.W.mg_of X G a_family,
     b_family := (fun_mk (st := s_family) l_family e_family p_family).binds (ps := ["_law_pen_here"]) fun _ _ _ _ _ _ us hl => match us, hl with | [_], _ => rfl,
     F_law := fun_mk (st := s_law) l_law e_law p_law,
     g_law := PySem.W.mg_of X G a_law,
     b_law := (fun_mk (st := s_law) l_law e_law p_law).binds (ps := ["_law_script"]) fun _ _ _ _ _ _ us hl => match us, hl with | [_], _ => rfl,
     g_Agent := PySem.W.mg_of X G a_Agent,
     cl_Agent := ⟨pg_Agent, hd_Agent, po_Agent, sa_Agent⟩,
     na_Agent_name := na_Agent_name,
     na_Agent_steps := na_Agent_steps,
     mk_Agent := ⟨mk_Agent, a_Agent_init, i_Agent_init, kc_Agent⟩,
     me_Agent_may := ⟨a_Agent_may, i_Agent_may, p_Agent_may⟩,
     g_Through := PySem.W.mg_of X G a_Through,
     cl_Through := ⟨pg_Through, hd_Through, po_Through, sa_Through⟩,
     na_Through_name := na_Through_name,
     na_Through_steps := na_Through_steps,
     mk_Through := ⟨mk_Through, a_Through_init, i_Through_init, kc_Through⟩,
     me_Through_may := ⟨a_Through_may, i_Through_may, p_Through_may⟩,
     g_Back := PySem.W.mg_of X G a_Back,
     cl_Back := ⟨pg_Back, hd_Back, po_Back, sa_Back⟩,
     na_Back_name := na_Back_name,
     na_Back_steps := na_Back_steps,
     mk_Back := ⟨mk_Back, a_Back_init, i_Back_init, kc_Back⟩,
     me_Back_may := ⟨a_Back_may, i_Back_may, p_Back_may⟩,
     k_LETTERS := PySem.W.mg_of X G k_LETTERS,
     k_LONGEST_NAME := PySem.W.mg_of X G k_LONGEST_NAME,
     k_ACCESS_WORDS := PySem.W.mg_of X G k_ACCESS_WORDS,
     q_ACCESS_WORDS := fun _ => .inr ⟨o_ACCESS_WORDS, its_ACCESS_WORDS, n_ACCESS_WORDS, lk_ACCESS_WORDS, oc_ACCESS_WORDS, od_ACCESS_WORDS, oz_ACCESS_WORDS, ov_ACCESS_WORDS⟩,
     k_UPKEEP_WORDS := PySem.W.mg_of X G k_UPKEEP_WORDS,
     q_UPKEEP_WORDS := fun _ => .inr ⟨o_UPKEEP_WORDS, its_UPKEEP_WORDS, n_UPKEEP_WORDS, lk_UPKEEP_WORDS, oc_UPKEEP_WORDS, od_UPKEEP_WORDS, oz_UPKEEP_WORDS, ov_UPKEEP_WORDS⟩,
     k_SIGNAL_WORDS := PySem.W.mg_of X G k_SIGNAL_WORDS,
     q_SIGNAL_WORDS := fun _ => .inr ⟨o_SIGNAL_WORDS, its_SIGNAL_WORDS, n_SIGNAL_WORDS, lk_SIGNAL_WORDS, oc_SIGNAL_WORDS, od_SIGNAL_WORDS, oz_SIGNAL_WORDS, ov_SIGNAL_WORDS⟩,
     k_PLAIN_WORDS := PySem.W.mg_of X G k_PLAIN_WORDS,
     q_PLAIN_WORDS := fun _ => .inr ⟨o_PLAIN_WORDS, its_PLAIN_WORDS, n_PLAIN_WORDS, lk_PLAIN_WORDS, oc_PLAIN_WORDS, od_PLAIN_WORDS, oz_PLAIN_WORDS, ov_PLAIN_WORDS⟩,
     k_CACHE_WORDS := PySem.W.mg_of X G k_CACHE_WORDS,
     q_CACHE_WORDS := fun _ => .inr ⟨o_CACHE_WORDS, its_CACHE_WORDS, n_CACHE_WORDS, lk_CACHE_WORDS, oc_CACHE_WORDS, od_CACHE_WORDS, oz_CACHE_WORDS, ov_CACHE_WORDS⟩,
     k_GREATEST_SHIFT := PySem.W.mg_of X G k_GREATEST_SHIFT,
     k_GREATEST_BYTE := PySem.W.mg_of X G k_GREATEST_BYTE,
     k_MOST_STEPS := PySem.W.mg_of X G k_MOST_STEPS,
     in_Agent := fun H a dx fs h => .base (.ins h ⟨pg_Agent, hd_Agent, po_Agent, sa_Agent⟩ ci_Agent gg tk mo_Agent),
     co_Agent_KIND := ⟨_, co_Agent, ⟨_, rfl⟩, cg_Agent, by decide⟩,
     co_Agent_CACHED := ⟨_, cb_Agent, rfl, ch_Agent, by decide⟩,
     cr_Agent := ⟨rd_Agent, ga_Agent⟩,
     cv_Agent_KIND := ⟨_, cv_Agent, ⟨_, rfl⟩⟩,
     cv_Agent_CACHED := ⟨_, cw_Agent, rfl⟩,
     in_Through := fun H a dx fs h => .base (.ins h ⟨pg_Through, hd_Through, po_Through, sa_Through⟩ ci_Through gg tk mo_Through),
     co_Through_KIND := ⟨_, co_Through, ⟨_, rfl⟩, cg_Through, by decide⟩,
     co_Through_CACHED := ⟨_, cb_Through, rfl, ch_Through, by decide⟩,
     cr_Through := ⟨rd_Through, ga_Through⟩,
     cv_Through_KIND := ⟨_, cv_Through, ⟨_, rfl⟩⟩,
     cv_Through_CACHED := ⟨_, cw_Through, rfl⟩,
     in_Back := fun H a dx fs h => .base (.ins h ⟨pg_Back, hd_Back, po_Back, sa_Back⟩ ci_Back gg tk mo_Back),
     co_Back_KIND := ⟨_, co_Back, ⟨_, rfl⟩, cg_Back, by decide⟩,
     co_Back_CACHED := ⟨_, cb_Back, rfl, ch_Back, by decide⟩,
     cr_Back := ⟨rd_Back, ga_Back⟩,
     cv_Back_KIND := ⟨_, cv_Back, ⟨_, rfl⟩⟩,
     cv_Back_CACHED := ⟨_, cw_Back, rfl⟩,
     ki_Agent_Through := Lay.kit_own mo_Through ty_Through ss_Through sb_Agent_Through,
     ki_Through_Back := Lay.kit_own mo_Back ty_Back ss_Back sb_Through_Back,
     ki_Back_Through := Lay.kit_own mo_Through ty_Through ss_Through sb_Back_Through,
     ki_Back_Agent := Lay.kit_own mo_Agent ty_Agent ss_Agent sb_Back_Agent,
     ki_Through_Agent := Lay.kit_own mo_Agent ty_Agent ss_Agent sb_Through_Agent }⟩
end My

namespace My
open PySem L2
section
variable {P : Program} {w : World} {K : PySem.W.Frag} {mg : Str → Option Value} {base : Heap} {A : Adr}
theorem ok_is_integer (T : Txt K mg A) : FnOk P w K mg base CX0 1 A.a_is_integer A.d_is_integer ["value"] Lay.spIsInteger := by
  refine T.F_is_integer.ok sc_is_integer (fun vs H Q E h => ?_) (fun cdv A0 outer s H vs Q E hr h => ?_)
  · obtain ⟨v, t, rfl, _⟩ := h
    rfl
  · obtain ⟨v, t, rfl, k, q⟩ := h
    refine ⟨_, (pss_one (ps_ret (pe_and (pe_callB call_isi (by rfl) T.n_isinstance (by decide +kernel) (pa_cons (pv 0) (pa_cons (pe_bltn (v := .ty "int") (by rfl) T.n_int (by decide +kernel) rfl) pa_nil))) (pe_one (pe_not (pe_callB call_isi (by rfl) T.n_isinstance (by decide +kernel) (pa_cons (pv 0) (pa_cons (pe_bltn (v := .ty "bool") (by rfl) T.n_bool (by decide +kernel) rfl) pa_nil)))))))), ?_⟩
    walk_at "in"
    cases k
    all_goals
      walk_at "rd"
      refine Lay.rd_isi .int (by first | exact .non | exact .bl _ | exact .int _ | exact .str _ | exact .lst (by assumption) | exact .tup (by assumption) | exact .dK (by assumption)) ?_
      walk_at "rd"
      first
        | exact iteF q
        | (refine iteT ?_
           walk_at "rd"
           refine Lay.rd_isi .bool (by first | exact .bl _ | exact .int _) ?_
           walk_at "rd"
           exact q)
theorem ok_is_within (T : Txt K mg A) (G_is_integer : FnOk P w K mg base CX0 1 A.a_is_integer A.d_is_integer ["value"] Lay.spIsInteger) : FnOk P w K mg base CX0 2 A.a_is_within A.d_is_within ["value", "low", "high"] Lay.spIsWithin := by
  refine T.F_is_within.ok sc_is_within (fun vs H Q E h => ?_) (fun cdv A0 outer s H vs Q E hr h => ?_)
  · obtain ⟨v, t, lo, hi, rfl, _⟩ := h
    rfl
  · obtain ⟨v, t, lo, hi, rfl, k, q⟩ := h
    refine ⟨_, (pss_one (ps_ret (pe_and (pe_call G_is_integer (hr.mono (by decide)) rfl T.g_is_integer T.F_is_integer.kp T.b_is_integer .nil pass0 (pa_cons (pv 0) pa_nil)) (pe_one (pe_chain op_le op_le (pv 1) (pv 0) (pv 2)))))), ?_⟩
    walk_at "in"
    walk_at "rd"
    refine ⟨v, t, rfl, k, ?_⟩
    walk_at "rd"
    cases k with
    | int i =>
      refine iteT ?_
      walk_at "rd"
      refine Lay.ite_d (fun c => ?_) (fun c => ?_)
      · walk_at "rd"
        have e : Lay.within (.int i) lo hi = decide (i ≤ hi) := by show (decide (lo ≤ i) && decide (i ≤ hi)) = _; rw [decide_eq_true c]; rfl
        rw [e] at q
        exact q
      · have e : Lay.within (.int i) lo hi = false := by show (decide (lo ≤ i) && decide (i ≤ hi)) = _; rw [decide_eq_false c]; rfl
        rw [e] at q
        exact q
    | _ => exact iteF q
theorem ok_is_name (T : Txt K mg A) : FnOk P w K mg base CX0 1 A.a_is_name A.d_is_name ["value"] Lay.spIsName := by
  refine T.F_is_name.ok sc_is_name (fun vs H Q E h => ?_) (fun cdv A0 outer s H vs Q E hr h => ?_)
  · obtain ⟨v, t, rfl, _⟩ := h
    rfl
  · obtain ⟨v, t, rfl, k, hz, q⟩ := h
    refine ⟨_, (pss_cons (ps_if (PW.pt (pw_or (pt_not (pt_val (pe_callB call_isi (by rfl) T.n_isinstance (by decide +kernel) (pa_cons (pv 0) (pa_cons (pe_bltn (v := .ty "str") (by rfl) T.n_str (by decide +kernel) rfl) pa_nil))))) (pw_or1 (pt_not (pt_chain op_le op_le pe_int (pe_callB Lay.call_lenStr (by rfl) T.n_len PySem.boot_len (pa_cons (pv 0) pa_nil)) (pe_glob (v := .int 8) rfl T.k_LONGEST_NAME ⟨_, rfl⟩))))))
      (pss_one (ps_ret pe_bl))
      pss_nil)
    (pss_one (ps_ret (pe_callB (cr_all rfl) (by rfl) T.n_all (by decide +kernel) (pa_cons (pe_lc (own := [("sign", 1)]) (g := gName 1) (tt := tYes) rfl sc_is_name.nd (pi_str (pv 0)) (blkOk_by (own := [("sign", 1)]) (N := ["value", "sign"]) (sc := defScope s_is_name) (by decide +kernel)) (fun _ _ _ _ _ => pg_name (i := 1) sc_is_name.nd rfl (Or.inl rfl)) (fun _ _ _ _ _ => pts_nil) (fun _ _ _ _ _ => (pe_cmpR Lay.op_sign (pv 1) (pe_glob (v := .str "abcdefghijklmnopqrstuvwxyz") rfl T.k_LETTERS ⟨_, rfl⟩) rfl))) pa_nil))))), ?_⟩
    walk_at "in"
    by_cases hs : ∃ z, v = .str z
    · obtain ⟨z, rfl⟩ := hs
      have hl := hz z rfl
      walk_at "rd"
      refine Lay.rd_isi .str (.str z) ?_
      walk_at "rd"
      refine iteF ?_
      walk_at "rd"
      refine Lay.rd_lenV hl ?_
      walk_at "rd"
      refine Lay.ite_d (fun c1 => ?_) (fun c1 => ?_)
      · walk_at "rd"
        refine Lay.ite_n (fun c2 => ?_) (fun c2 => ?_)
        · walk_at "rd"
          have e : Lay.isName (.str z) = false := by
            show Lay.nameOk z = false
            unfold Lay.nameOk
            have : ¬ z.length ≤ 8 := by omega
            rw [decide_eq_false this]
            simp
          rw [e] at q
          exact q H (Same.refl H)
        · walk_at "rd"
          intro D hD
          refine Lay.lc_go walk_str (fun i l H' => Same H H' ∧ l = (z.cps.toList.take i).map fun c => V.bl (decide (97 ≤ c) && decide (c ≤ 122))) ⟨Lay.Same.upd hD, rfl⟩ (fun _ _ _ _ _ => trivial) ?_ ?_
          · rintro i l x H1 H2 hi hl hz' ⟨r1, r2⟩ ⟨rfl, c, hc, rfl⟩
            walk_at "rd"
            refine ⟨rfl, ?_⟩
            walk_at "rd"
            refine iteT ?_
            walk_at "rd"
            refine Lay.lc_put hl hz' (by have : z.cps.size = z.length := rfl; omega) ⟨fun b o hb => ?_, ?_⟩
            · by_cases e : b = D
              · rw [e, hD] at hb; cases hb
              · rw [upd_ne e]; exact r1 b o hb
            · have hc' : z.cps.toList[i]? = some c := by simpa using hc
              rw [r2, Lay.take_succ hc', List.map_append, List.map_cons, List.map_nil, ← Lay.in_alphabet c]
              rfl
          · rintro l H1 hl hz' ⟨r1, rfl⟩
            walk_at "rd"
            have el : (z.cps.toList.take z.cps.size).map (fun c => V.bl (decide (97 ≤ c) && decide (c ≤ 122))) = (z.cps.toList.map fun c => decide (97 ≤ c) && decide (c ≤ 122)).map V.bl := by
              rw [List.take_of_length_le (by simp), List.map_map]
              rfl
            rw [el] at hl
            refine Lay.rd_alls (SqL.of hl) ?_
            have e : Lay.isName (.str z) = (z.cps.toList.map fun c => decide (97 ≤ c) && decide (c ≤ 122)).all id := by
              show Lay.nameOk z = _
              unfold Lay.nameOk
              have c1' : 1 ≤ z.length := by omega
              have c2' : z.length ≤ 8 := by omega
              rw [decide_eq_true c1', decide_eq_true c2', List.all_map]
              rfl
            rw [← e]
            exact q H1 r1
      · walk_at "rd"
        refine iteT ?_
        walk_at "rd"
        have e : Lay.isName (.str z) = false := by
          show Lay.nameOk z = false
          unfold Lay.nameOk
          have : ¬ 1 ≤ z.length := by omega
          rw [decide_eq_false this]
          rfl
        rw [e] at q
        exact q H (Same.refl H)
    · have e : Lay.isName v = false := by
        cases v with
        | str z => exact absurd ⟨z, rfl⟩ hs
        | _ => rfl
      rw [e] at q
      have t1 : Lay.isTy t .str = false := by
        cases k with
        | str z => exact absurd ⟨z, rfl⟩ hs
        | _ => rfl
      walk_at "rd"
      refine Lay.rd_isi .str k ?_
      rw [t1]
      walk_at "rd"
      refine iteT ?_
      refine iteT ?_
      walk_at "rd"
      exact q H (Same.refl H)
theorem ok_is_memory_step (T : Txt K mg A) (G_is_name : FnOk P w K mg base CX0 1 A.a_is_name A.d_is_name ["value"] Lay.spIsName) (G_is_within : FnOk P w K mg base CX0 2 A.a_is_within A.d_is_within ["value", "low", "high"] Lay.spIsWithin) : FnOk P w K mg base CX0 3 A.a_is_memory_step A.d_is_memory_step ["value"] Lay.spMemStep := by
  refine T.F_is_memory_step.ok sc_is_memory_step (fun vs H Q E h => ?_) (fun cdv A0 outer s H vs Q E hr h => ?_)
  · obtain ⟨p, w, n, s, f, e, rfl, _⟩ := h
    rfl
  · obtain ⟨p, wd, n, s0, f, e, rfl, hp, hw, hn, s1, s2, f1, f2, e1, q⟩ := h
    have hl := Lay.nameOk_len hn
    refine ⟨_, (pss_cons (ps_asg (pv 0) (pg_tup (by rfl) (pgs_cons (pg_name (i := 1) sc_is_memory_step.nd rfl (Or.inl rfl)) (pgs_cons (pg_name (i := 2) sc_is_memory_step.nd rfl (Or.inl rfl)) (pgs_cons (pg_name (i := 3) sc_is_memory_step.nd rfl (Or.inl rfl)) (pgs_cons (pg_name (i := 4) sc_is_memory_step.nd rfl (Or.inl rfl)) (pgs_cons (pg_name (i := 5) sc_is_memory_step.nd rfl (Or.inl rfl)) pgs_nil)))))))
    (Evl.pss_cut (ps_if (PW.pt (pw_and (pt_cmpR (Lay.op_notInS hr.units) (pv 1) (pe_glob (v := .ref A.t_ACCESS_WORDS) rfl T.k_ACCESS_WORDS rfl) rfl) (pw_and1 (pt_cmpR (Lay.op_notInS hr.units) (pv 1) (pe_glob (v := .ref A.t_UPKEEP_WORDS) rfl T.k_UPKEEP_WORDS rfl) rfl))))
      (pss_one (ps_ret pe_bl))
      pss_nil)
    (pss_cons (ps_if (PW.pt (pw_or (pt_not (pt_val (pe_call G_is_name (hr.mono (by decide)) rfl T.g_is_name T.F_is_name.kp T.b_is_name .nil pass0 (pa_cons (pv 2) pa_nil)))) (pw_or1 (pt_not (pt_val (pe_call G_is_within (hr.mono (by decide)) rfl T.g_is_within T.F_is_within.kp T.b_is_within .nil pass0 (pa_cons (pv 3) (pa_cons pe_int (pa_cons (pe_glob (v := .int 3) rfl T.k_GREATEST_SHIFT ⟨_, rfl⟩) pa_nil)))))))))
      (pss_one (ps_ret pe_bl))
      pss_nil)
    (pss_one (ps_ret (pe_and (pe_call G_is_within (hr.mono (by decide)) rfl T.g_is_within T.F_is_within.kp T.b_is_within .nil pass0 (pa_cons (pv 5) (pa_cons pe_int (pa_cons (pe_glob (v := .int 7) rfl T.k_GREATEST_BYTE ⟨_, rfl⟩) pa_nil)))) (pe_one (pe_call G_is_within (hr.mono (by decide)) rfl T.g_is_within T.F_is_within.kp T.b_is_within .nil pass0 (pa_cons (pv 4) (pa_cons pe_int (pa_cons (pv 5) pa_nil))))))))))), ?_⟩
    walk_at "in"
    walk_at "rd"
    have name : ∀ Q' : VK, (∀ H1, Same H H1 → Q' (.bl true) H1) → Lay.spIsName [.str n] H Q' E0 := fun Q' q' => ⟨.str n, .str, rfl, .str n, (fun z ez => by cases ez; omega), fun H1 s1 => by
      have en : Lay.isName (.str n) = true := hn
      rw [en]
      exact q' H1 s1⟩
    refine ⟨fun σ' H' => σ' = [some (V.ref p), some (V.str wd), some (V.str n), some (V.int s0), some (V.int f), some (V.int e)] ∧ H' = H, ?_, ?_⟩
    · walk_at "rd"
      refine Lay.rd_notInS (zs := ["read", "write", "get", "put"]) (T.q_ACCESS_WORDS _) (.str wd) ?_
      walk_at "rd"
      refine Lay.ite_nb (fun c1 => ?_) (fun c1 => ?_)
      · walk_at "rd"
        refine Lay.rd_notInS (zs := ["clean", "drop", "flush"]) (T.q_UPKEEP_WORDS _) (.str wd) ?_
        walk_at "rd"
        refine Lay.ite_nb (fun c2 => ?_) (fun c2 => ?_)
        · exfalso
          have n1 := Lay.of_inStrs c1
          have n2 := Lay.of_inStrs c2
          unfold Lay.memWords at hw
          simp only [List.mem_cons, List.not_mem_nil, or_false] at hw n1 n2
          rcases hw with h | h | h | h | h | h | h <;> simp [h] at n1 n2
        · walk_at "rd"
          exact ⟨rfl, rfl⟩
      · refine iteF ?_
        walk_at "rd"
        exact ⟨rfl, rfl⟩
    · rintro σ' H' ⟨rfl, rfl⟩
      walk_at "rd"
      refine name _ fun H1 h1 => ?_
      walk_at "rd"
      refine iteF ?_
      walk_at "rd"
      refine ⟨.int s0, .int, 0, 3, rfl, .int s0, ?_⟩
      walk_at "rd"
      rw [show Lay.within (.int s0) 0 3 = true from by show (decide (0 ≤ s0) && decide (s0 ≤ 3)) = true; rw [decide_eq_true s1, decide_eq_true s2]; rfl]
      walk_at "rd"
      refine iteF ?_
      walk_at "rd"
      refine ⟨.int e, .int, 0, 7, rfl, .int e, ?_⟩
      walk_at "rd"
      rw [show Lay.within (.int e) 0 7 = true from by show (decide (0 ≤ e) && decide (e ≤ 7)) = true; rw [decide_eq_true (show 0 ≤ e by omega), decide_eq_true e1]; rfl]
      refine iteT ?_
      walk_at "rd"
      refine ⟨.int f, .int, 0, e, rfl, .int f, ?_⟩
      rw [show Lay.within (.int f) 0 e = true from by show (decide (0 ≤ f) && decide (f ≤ e)) = true; rw [decide_eq_true f1, decide_eq_true f2]; rfl]
      exact q H1 h1
theorem ok_is_step (T : Txt K mg A) (G_is_memory_step : FnOk P w K mg base CX0 3 A.a_is_memory_step A.d_is_memory_step ["value"] Lay.spMemStep) (G_is_name : FnOk P w K mg base CX0 1 A.a_is_name A.d_is_name ["value"] Lay.spIsName) : FnOk P w K mg base CX0 4 A.a_is_step A.d_is_step ["value"] Lay.spIsStep := by
  refine T.F_is_step.ok sc_is_step (fun vs H Q E h => ?_) (fun cdv A0 outer s H vs Q E hr h => ?_)
  · obtain ⟨p, l, ws, rfl, _⟩ := h
    rfl
  · obtain ⟨p, l, ws, rfl, hp, g, q⟩ := h
    refine ⟨_, (pss_cons (ps_if (pt_not (pt_val (pe_callB call_isi (by rfl) T.n_isinstance (by decide +kernel) (pa_cons (pv 0) (pa_cons (pe_bltn (v := .ty "tuple") (by rfl) T.n_tuple (by decide +kernel) rfl) pa_nil)))))
      (pss_one (ps_ret pe_bl))
      pss_nil)
    (pss_cons (ps_if (pt_cmpR op_eq (pe_callB Lay.call_lenS (by rfl) T.n_len PySem.boot_len (pa_cons (pv 0) pa_nil)) pe_int (nomark _))
      (pss_one (ps_ret (pe_call G_is_memory_step (hr.mono (by decide)) rfl T.g_is_memory_step T.F_is_memory_step.kp T.b_is_memory_step .nil pass0 (pa_cons (pv 0) pa_nil))))
      pss_nil)
    (pss_one (ps_ret (pe_and (pe_cmpR op_eq (pe_callB Lay.call_lenS (by rfl) T.n_len PySem.boot_len (pa_cons (pv 0) pa_nil)) pe_int (nomark _)) (pe_and (pe_cmpR (Lay.op_inS hr.units) (pe_ix ix_tup (pv 0) pe_int (fun _ _ => rfl)) (pe_glob (v := .ref A.t_SIGNAL_WORDS) rfl T.k_SIGNAL_WORDS rfl) rfl) (pe_one (pe_call G_is_name (hr.mono (by decide)) rfl T.g_is_name T.F_is_name.kp T.b_is_name .nil pass0 (pa_cons (pe_ix ix_tup (pv 0) pe_int (fun _ _ => rfl)) pa_nil))))))))), ?_⟩
    walk_at "in"
    walk_at "rd"
    refine Lay.rd_isi .tuple (.tup hp) ?_
    walk_at "rd"
    refine iteF ?_
    walk_at "rd"
    rcases g with ⟨wd, n, rfl, hw, hws, hn⟩ | ⟨wd, n, s0, f, e, rfl, hw, hws, hn, s1, s2, f1, f2, e1⟩
    · walk_at "rd"
      refine iteF ?_
      walk_at "rd"
      refine iteT ?_
      walk_at "rd"
      refine Lay.rd_inS (zs := ["post", "wait"]) (T.q_SIGNAL_WORDS _) (.str wd) ?_
      walk_at "rd"
      rw [Lay.inStrs_of (zs := ["post", "wait"]) hw]
      refine iteT ?_
      walk_at "rd"
      have hl := Lay.nameOk_len hn
      refine ⟨.str n, .str, rfl, .str n, (fun z ez => by cases ez; omega), fun H1 s1 => ?_⟩
      rw [show Lay.isName (.str n) = true from hn]
      exact q H1 s1
    · walk_at "rd"
      refine iteT ?_
      walk_at "rd"
      exact ⟨p, wd, n, s0, f, e, rfl, hp, hw, hn, s1, s2, f1, f2, e1, q⟩
theorem ok_check_agent (T : Txt K mg A) (G_is_name : FnOk P w K mg base CX0 1 A.a_is_name A.d_is_name ["value"] Lay.spIsName) (G_is_step : FnOk P w K mg base CX0 4 A.a_is_step A.d_is_step ["value"] Lay.spIsStep) : FnOk P w K mg base CX0 5 A.a_check_agent A.d_check_agent ["name", "steps", "words"] (Lay.spCheckAgent K) := by
  refine T.F_check_agent.ok sc_check_agent (fun vs H Q E h => ?_) (fun cdv A0 outer s H vs Q E hr h => ?_)
  · obtain ⟨z, t, wt, ws, steps, rfl, _⟩ := h
    rfl
  · obtain ⟨z, t, wt, ws, steps, rfl, hz, ht, l1, l2, hw, hg, q⟩ := h
    have hl := Lay.nameOk_len hz
    refine ⟨_, (pss_cons (ps_if (pt_not (pt_val (pe_call G_is_name (hr.mono (by decide)) rfl T.g_is_name T.F_is_name.kp T.b_is_name .nil pass0 (pa_cons (pv 0) pa_nil))))
      (pss_one ps_never)
      pss_nil)
    (pss_cons (ps_if (pt_not (pt_chain op_le op_le pe_int (pe_callB Lay.call_lenS (by rfl) T.n_len PySem.boot_len (pa_cons (pv 1) pa_nil)) (pe_glob (v := .int 24) rfl T.k_MOST_STEPS ⟨_, rfl⟩)))
      (pss_one ps_never)
      pss_nil)
    (pss_one (ps_for PassesOwn.never rfl (Lay.pi_enumT (by rfl) T.n_enumerate (pa_cons (pv 1) pa_nil)) (pg_tup (by rfl) (pgs_cons (pg_name (i := 3) sc_check_agent.nd rfl (Or.inl rfl)) (pgs_cons (pg_name (i := 4) sc_check_agent.nd rfl (Or.inl rfl)) pgs_nil)))
      (pss_one (ps_if (PW.pt (pw_or (pt_not (pt_val (pe_call G_is_step (hr.mono (by decide)) rfl T.g_is_step T.F_is_step.kp T.b_is_step .nil pass0 (pa_cons (pv 4) pa_nil)))) (pw_or1 (pt_cmpR (Lay.op_notInS hr.units) (pe_ix ix_tup (pv 4) pe_int (fun _ _ => rfl)) (pv 2) rfl))))
        (pss_one ps_never)
        pss_nil)))))), ?_⟩
    walk_at "in"
    walk_at "rd"
    refine ⟨.str z, .str, rfl, .str z, (fun z' ez => by cases ez; omega), fun H1 s1 => ?_⟩
    rw [show Lay.isName (.str z) = true from hz]
    walk_at "rd"
    refine iteF ?_
    walk_at "rd"
    have ht1 := s1 _ _ ht
    refine Lay.rd_lenT (SqT.of ht1) ?_
    walk_at "rd"
    refine Lay.ite_d (fun c1 => ?_) (fun c1 => absurd (by omega) c1)
    walk_at "rd"
    refine Lay.ite_n (fun c2 => absurd (by omega) c2) (fun c2 => ?_)
    walk_at "rd"
    refine Lay.rd_forW (J := Lay.Itet K t) (H1 := H1) (fun R r => ?_) (Lay.walk_enumT (xs := steps)) (fun i σ' H' => ∃ a b, σ' = [some (V.str z), some (V.ref t), some (V.ref wt), a, b] ∧ Same H H') ⟨_, _, rfl, s1⟩ (fun i σ' H' _ ⟨a, b, _, s2⟩ => SqT.of (s2 _ _ ht)) ?_ ?_
    · walk_at "rd"
      exact ⟨t, steps, rfl, SqT.of ht1, r⟩
    · rintro i x σ' H2 H3 hi ⟨a, b, rfl, s2⟩ ⟨T0, x1, y1, rfl, hT, rfl, ex, ey⟩
      cases ex
      have s3 : Same H (upd H2 T0 (.tup [.int (i : Nat), y1])) := s2.trans (Lay.Same.upd hT)
      walk_at "rd"
      obtain ⟨p, l, rfl, hp, gp⟩ := Lay.StepAt.mono s3 (hg y1 (List.mem_of_getElem? ey))
      refine ⟨p, l, ws, rfl, hp, gp, fun H4 s4 => ?_⟩
      walk_at "rd"
      refine iteF ?_
      walk_at "rd"
      have hp4 := s4 _ _ hp
      have s5 := s3.trans s4
      rcases gp with ⟨wd, n, rfl, _, hm, _⟩ | ⟨wd, n, s0, f, e, rfl, _, hm, _⟩
      all_goals
        walk_at "rd"
        refine Lay.rd_notInS (Lay.same_sqT s5 hw) (.str wd) ?_
        walk_at "rd"
        rw [Lay.inStrs_of hm]
        refine iteF ?_
        walk_at "rd"
        exact ⟨_, _, rfl, s5⟩
    · rintro σ' H2 ⟨a, b, rfl, s2⟩
      exact q H2 s2
theorem ok_Agent_init (T : Txt K mg A) (G_check_agent : FnOk P w K mg base CX0 5 A.a_check_agent A.d_check_agent ["name", "steps", "words"] (Lay.spCheckAgent K)) : FnR P w K mg base CX0 6 A.a_Agent_init (Lay.spStar 2 (Lay.spAgentInit A.c_Agent ["read", "write", "post", "wait"])) := by
  obtain ⟨oc, od, kV, doc, pm, an, cdv, ct, osl, hfd, lk, hcd⟩ := T.F_Agent_init.ex
  rw [hfd] at lk
  refine StX.fn_star (ps := ["self", "name"]) (pv := "steps") (sp := Lay.spAgentInit A.c_Agent ["read", "write", "post", "wait"]) lk hcd sc_Agent_init StX.cxUp_none (StX.bind_star2 (B := fun us => bindArgs (PySem.W.fnOf "__init__" "Agent.__init__" (defArgs s_Agent_init) (defBody s_Agent_init) (defScope s_Agent_init) .none kV doc pm an cdv ct) ⟨us, []⟩) (fun a b => by rfl) (fun a b r rs => by rfl)) (fun A0 outer s H vs Q E hr h => ?_)
  obtain ⟨x, dx, z, t, steps, rfl, hx, hz, ht, l1, l2, hg, q⟩ := h
  have D : PSs (cxOf CX0 P w K mg base ["self", "name", "steps"] "Agent.__init__" (defScope s_Agent_init) A.a_Agent_init cdv A0 outer s H E).nox (defBody s_Agent_init) _ := (pss_cons (ps_expr (pe_call G_check_agent (hr.mono (by decide)) rfl T.g_check_agent T.F_check_agent.kp T.b_check_agent .nil pass0 (pa_cons (pv 1) (pa_cons (pv 2) (pa_cons (pe_glob (v := .ref A.t_PLAIN_WORDS) rfl T.k_PLAIN_WORDS rfl) pa_nil)))))
    (pss_cons (ps_fld (pv 0) (pv 1) rfl)
    (pss_one (ps_fld (pv 0) (pv 2) rfl))))
  refine ⟨_, D.nox, ?_⟩
  walk_at "in"
  walk_at "rd"
  refine ⟨z, t, A.t_PLAIN_WORDS, ["read", "write", "post", "wait"], steps, rfl, hz, ht, l1, l2, T.q_PLAIN_WORDS _, hg, fun H1 s1 => ?_⟩
  walk_at "rd"
  refine Lay.rd_sFld ?_
  walk_at "rd"
  refine ⟨x, A.c_Agent, dx, [], rfl, s1 _ _ hx, T.cl_Agent, T.na_Agent_name, by decide, ?_⟩
  walk_at "rd"
  refine Lay.rd_sFld ?_
  walk_at "rd"
  refine ⟨x, A.c_Agent, dx, _, rfl, upd_same, T.cl_Agent, T.na_Agent_steps, (by show 1 < 1000; decide), ?_⟩
  have htx : t ≠ x := ne_of ht hx (by intro y; cases y)
  refine q _ ⟨dx, t, ?_, ?_⟩ (fun b o hb e => ?_)
  · rw [upd_same, Lay.putF_agent]
  · rw [upd_ne htx, upd_ne htx]; exact s1 _ _ ht
  · rw [upd_ne hb, upd_ne hb]; exact s1 _ _ e
theorem ok_Through_init (T : Txt K mg A) (G_check_agent : FnOk P w K mg base CX0 5 A.a_check_agent A.d_check_agent ["name", "steps", "words"] (Lay.spCheckAgent K)) : FnR P w K mg base CX0 6 A.a_Through_init (Lay.spStar 2 (Lay.spAgentInit A.c_Through ["read", "write", "get", "put", "clean", "drop", "flush", "post", "wait"])) := by
  obtain ⟨oc, od, kV, doc, pm, an, cdv, ct, osl, hfd, lk, hcd⟩ := T.F_Through_init.ex
  rw [hfd] at lk
  refine StX.fn_star (ps := ["self", "name"]) (pv := "steps") (sp := Lay.spAgentInit A.c_Through ["read", "write", "get", "put", "clean", "drop", "flush", "post", "wait"]) lk hcd sc_Through_init StX.cxUp_none (StX.bind_star2 (B := fun us => bindArgs (PySem.W.fnOf "__init__" "Through.__init__" (defArgs s_Through_init) (defBody s_Through_init) (defScope s_Through_init) .none kV doc pm an cdv ct) ⟨us, []⟩) (fun a b => by rfl) (fun a b r rs => by rfl)) (fun A0 outer s H vs Q E hr h => ?_)
  obtain ⟨x, dx, z, t, steps, rfl, hx, hz, ht, l1, l2, hg, q⟩ := h
  have D : PSs (cxOf CX0 P w K mg base ["self", "name", "steps"] "Through.__init__" (defScope s_Through_init) A.a_Through_init cdv A0 outer s H E).nox (defBody s_Through_init) _ := (pss_cons (ps_expr (pe_call G_check_agent (hr.mono (by decide)) rfl T.g_check_agent T.F_check_agent.kp T.b_check_agent .nil pass0 (pa_cons (pv 1) (pa_cons (pv 2) (pa_cons (pe_glob (v := .ref A.t_CACHE_WORDS) rfl T.k_CACHE_WORDS rfl) pa_nil)))))
    (pss_cons (ps_fld (pv 0) (pv 1) rfl)
    (pss_one (ps_fld (pv 0) (pv 2) rfl))))
  refine ⟨_, D.nox, ?_⟩
  walk_at "in"
  walk_at "rd"
  refine ⟨z, t, A.t_CACHE_WORDS, ["read", "write", "get", "put", "clean", "drop", "flush", "post", "wait"], steps, rfl, hz, ht, l1, l2, T.q_CACHE_WORDS _, hg, fun H1 s1 => ?_⟩
  walk_at "rd"
  refine Lay.rd_sFld ?_
  walk_at "rd"
  refine ⟨x, A.c_Through, dx, [], rfl, s1 _ _ hx, T.cl_Through, T.na_Through_name, by decide, ?_⟩
  walk_at "rd"
  refine Lay.rd_sFld ?_
  walk_at "rd"
  refine ⟨x, A.c_Through, dx, _, rfl, upd_same, T.cl_Through, T.na_Through_steps, (by show 1 < 1000; decide), ?_⟩
  have htx : t ≠ x := ne_of ht hx (by intro y; cases y)
  refine q _ ⟨dx, t, ?_, ?_⟩ (fun b o hb e => ?_)
  · rw [upd_same, Lay.putF_agent]
  · rw [upd_ne htx, upd_ne htx]; exact s1 _ _ ht
  · rw [upd_ne hb, upd_ne hb]; exact s1 _ _ e
theorem ok_Back_init (T : Txt K mg A) (G_check_agent : FnOk P w K mg base CX0 5 A.a_check_agent A.d_check_agent ["name", "steps", "words"] (Lay.spCheckAgent K)) : FnR P w K mg base CX0 6 A.a_Back_init (Lay.spStar 2 (Lay.spAgentInit A.c_Back ["read", "write", "get", "put", "clean", "drop", "flush", "post", "wait"])) := by
  obtain ⟨oc, od, kV, doc, pm, an, cdv, ct, osl, hfd, lk, hcd⟩ := T.F_Back_init.ex
  rw [hfd] at lk
  refine StX.fn_star (ps := ["self", "name"]) (pv := "steps") (sp := Lay.spAgentInit A.c_Back ["read", "write", "get", "put", "clean", "drop", "flush", "post", "wait"]) lk hcd sc_Back_init StX.cxUp_none (StX.bind_star2 (B := fun us => bindArgs (PySem.W.fnOf "__init__" "Back.__init__" (defArgs s_Back_init) (defBody s_Back_init) (defScope s_Back_init) .none kV doc pm an cdv ct) ⟨us, []⟩) (fun a b => by rfl) (fun a b r rs => by rfl)) (fun A0 outer s H vs Q E hr h => ?_)
  obtain ⟨x, dx, z, t, steps, rfl, hx, hz, ht, l1, l2, hg, q⟩ := h
  have D : PSs (cxOf CX0 P w K mg base ["self", "name", "steps"] "Back.__init__" (defScope s_Back_init) A.a_Back_init cdv A0 outer s H E).nox (defBody s_Back_init) _ := (pss_cons (ps_expr (pe_call G_check_agent (hr.mono (by decide)) rfl T.g_check_agent T.F_check_agent.kp T.b_check_agent .nil pass0 (pa_cons (pv 1) (pa_cons (pv 2) (pa_cons (pe_glob (v := .ref A.t_CACHE_WORDS) rfl T.k_CACHE_WORDS rfl) pa_nil)))))
    (pss_cons (ps_fld (pv 0) (pv 1) rfl)
    (pss_one (ps_fld (pv 0) (pv 2) rfl))))
  refine ⟨_, D.nox, ?_⟩
  walk_at "in"
  walk_at "rd"
  refine ⟨z, t, A.t_CACHE_WORDS, ["read", "write", "get", "put", "clean", "drop", "flush", "post", "wait"], steps, rfl, hz, ht, l1, l2, T.q_CACHE_WORDS _, hg, fun H1 s1 => ?_⟩
  walk_at "rd"
  refine Lay.rd_sFld ?_
  walk_at "rd"
  refine ⟨x, A.c_Back, dx, [], rfl, s1 _ _ hx, T.cl_Back, T.na_Back_name, by decide, ?_⟩
  walk_at "rd"
  refine Lay.rd_sFld ?_
  walk_at "rd"
  refine ⟨x, A.c_Back, dx, _, rfl, upd_same, T.cl_Back, T.na_Back_steps, (by show 1 < 1000; decide), ?_⟩
  have htx : t ≠ x := ne_of ht hx (by intro y; cases y)
  refine q _ ⟨dx, t, ?_, ?_⟩ (fun b o hb e => ?_)
  · rw [upd_same, Lay.putF_agent]
  · rw [upd_ne htx, upd_ne htx]; exact s1 _ _ ht
  · rw [upd_ne hb, upd_ne hb]; exact s1 _ _ e
theorem ok_Agent_may (T : Txt K mg A) : FnOk P w K mg base CX0 1 A.a_Agent_may A.d_Agent_may ["self", "word"] (Lay.spMay ["read", "write", "post", "wait"]) := by
  refine T.F_Agent_may.ok sc_Agent_may (fun vs H Q E h => ?_) (fun cdv A0 outer s H vs Q E hr h => ?_)
  · obtain ⟨x, v, t, rfl, _⟩ := h
    rfl
  · obtain ⟨x, v, t, rfl, k, q⟩ := h
    refine ⟨_, (pss_one (ps_ret (pe_cmpR (Lay.op_inS hr.units) (pv 1) (pe_glob (v := .ref A.t_PLAIN_WORDS) rfl T.k_PLAIN_WORDS rfl) rfl))), ?_⟩
    walk_at "in"
    walk_at "rd"
    refine Lay.rd_inS (zs := ["read", "write", "post", "wait"]) (T.q_PLAIN_WORDS _) k ?_
    exact q
theorem ok_Through_may (T : Txt K mg A) : FnOk P w K mg base CX0 1 A.a_Through_may A.d_Through_may ["self", "word"] (Lay.spMay ["read", "write", "get", "put", "clean", "drop", "flush", "post", "wait"]) := by
  refine T.F_Through_may.ok sc_Through_may (fun vs H Q E h => ?_) (fun cdv A0 outer s H vs Q E hr h => ?_)
  · obtain ⟨x, v, t, rfl, _⟩ := h
    rfl
  · obtain ⟨x, v, t, rfl, k, q⟩ := h
    refine ⟨_, (pss_one (ps_ret (pe_cmpR (Lay.op_inS hr.units) (pv 1) (pe_glob (v := .ref A.t_CACHE_WORDS) rfl T.k_CACHE_WORDS rfl) rfl))), ?_⟩
    walk_at "in"
    walk_at "rd"
    refine Lay.rd_inS (zs := ["read", "write", "get", "put", "clean", "drop", "flush", "post", "wait"]) (T.q_CACHE_WORDS _) k ?_
    exact q
theorem ok_Back_may (T : Txt K mg A) : FnOk P w K mg base CX0 1 A.a_Back_may A.d_Back_may ["self", "word"] (Lay.spMay ["read", "write", "get", "put", "clean", "drop", "flush", "post", "wait"]) := by
  refine T.F_Back_may.ok sc_Back_may (fun vs H Q E h => ?_) (fun cdv A0 outer s H vs Q E hr h => ?_)
  · obtain ⟨x, v, t, rfl, _⟩ := h
    rfl
  · obtain ⟨x, v, t, rfl, k, q⟩ := h
    refine ⟨_, (pss_one (ps_ret (pe_cmpR (Lay.op_inS hr.units) (pv 1) (pe_glob (v := .ref A.t_CACHE_WORDS) rfl T.k_CACHE_WORDS rfl) rfl))), ?_⟩
    walk_at "in"
    walk_at "rd"
    refine Lay.rd_inS (zs := ["read", "write", "get", "put", "clean", "drop", "flush", "post", "wait"]) (T.q_CACHE_WORDS _) k ?_
    exact q
theorem ok_pen (T : Txt K mg A) : FnOk P w K mg base CX0 1 A.a_pen A.d_pen ["_law_script"] (Lay.spPen K) := by
  refine T.F_pen.ok sc_pen (fun vs H Q E h => ?_) (fun cdv A0 outer s H vs Q E hr h => ?_)
  · obtain ⟨a, ns, rfl, _⟩ := h
    rfl
  · obtain ⟨a, ns, rfl, hS, hl, q⟩ := h
    refine ⟨_, (pss_one (ps_ret (pe_lst (pa_cons (pe_callTy Lay.call_listS (by rfl) T.n_list (by decide +kernel) (pa_cons (pe_slice sl_list (pv 0) po_none (po_some pe_int)) pa_nil)) (pa_cons pe_int (pa_cons pe_int pa_nil)))))), ?_⟩
    walk_at "in"
    walk_at "rd"
    refine Lay.rd_slL hS (fun r hr1 => ?_)
    rw [Lay.cut63 (by rw [List.length_map]; exact hl)]
    walk_at "rd"
    refine Lay.rd_listL (SqL.of upd_same) (fun l hl1 => ?_)
    walk_at "rd"
    refine ⟨by decide, fun p hp => ?_⟩
    have s1 := (Lay.Same.upd (o := .lst (ns.map V.int)) hr1).trans (Lay.Same.upd (o := .lst (ns.map V.int)) hl1)
    exact q _ p _ (Lay.none_of s1 hp) (Lay.pen_at upd_same (Lay.upd_old hp upd_same) hl) (s1.trans (Lay.Same.upd hp))
theorem ok_thing (T : Txt K mg A)  (G_draw : FnOk P w K mg base CX0 1 A.a_draw A.d_draw ["_law_pen_here", "_law_many"] Lay.spDraw) : FnOk P w K mg base CX0 2 A.a_thing A.d_thing ["_law_pen_here"] (Lay.spAny 1) := by
  refine T.F_thing.ok sc_thing (fun vs H Q E h => ?_) (fun cdv A0 outer s H vs Q E hr h => ?_)
  · obtain ⟨p, n, c, rfl, _⟩ := h
    rfl
  · obtain ⟨p, n, c, rfl, hp, hn, q⟩ := h
    refine ⟨_, (pss_cons (ps_set (i := 1) sc_thing.nd rfl (Or.inl rfl) (pe_lst (pa_cons pe_non (pa_cons pe_bl (pa_cons pe_bl (pa_cons (pe_un un_neg pe_int) (pa_cons pe_int (pa_cons pe_int (pa_cons pe_int (pa_cons pe_int (pa_cons pe_int (pa_cons pe_int (pa_cons pe_int (pa_cons pe_int (pa_cons pe_int (pa_cons pe_int (pa_cons pe_int (pa_cons pe_int (pa_cons (pe_op op_pow pe_int pe_int) (pa_cons pe_str (pa_cons pe_str (pa_cons pe_str pa_nil))))))))))))))))))))))
    (pss_cons (ps_set (i := 1) sc_thing.nd rfl (Or.inl rfl) (pe_op op_cat (pv 1) (pe_lst (pa_cons pe_str (pa_cons pe_str (pa_cons pe_str (pa_cons pe_str (pa_cons pe_str (pa_cons pe_str (pa_cons pe_str (pa_cons pe_str (pa_cons (pe_tup pa_nil) (pa_cons (pe_lst pa_nil) (pa_cons pe_dnewK pa_nil))))))))))))))
    (pss_cons (ps_set (i := 1) sc_thing.nd rfl (Or.inl rfl) (pe_op op_cat (pv 1) (pe_lst (pa_cons (pe_tup (pa_cons pe_str pa_nil)) (pa_cons (pe_lst (pa_cons pe_int pa_nil)) (pa_cons (pe_disp (pps_cons pe_str pe_int pps_nil) (by rfl) (by rfl) (fun z => by cases z) (by decide)) (pa_cons (pe_tup (pa_cons pe_int (pa_cons pe_int pa_nil))) pa_nil)))))))
    (pss_one (ps_ret (pe_ix ix_list (pv 1) (pe_call G_draw (hr.mono (by decide)) rfl T.g_draw T.F_draw.kp T.b_draw .nil pass0 (pa_cons (pv 0) (pa_cons (pe_callB Lay.call_lenS (by rfl) T.n_len PySem.boot_len (pa_cons (pv 1) pa_nil)) pa_nil))) (fun _ _ => rfl))))))), ?_⟩
    walk_at "in"
    walk_at "rd"
    refine ⟨by decide, fun a1 h1 => ?_⟩
    walk_at "rd"
    refine ⟨by decide, fun a2 h2 => ?_⟩
    walk_at "rd"
    refine ⟨by decide, fun a3 h3 => ?_⟩
    walk_at "rd"
    refine Lay.rd_dnew (fun a4 h4 => ?_)
    walk_at "rd"
    refine ⟨by decide, fun a5 h5 => ?_⟩
    refine Lay.rd_cat (by walk_at "hp") upd_same (by simp only [List.length_cons, List.length_nil, List.length_append]; decide) (fun a6 h6 => ?_)
    walk_at "rd"
    refine ⟨by decide, fun a7 h7 => ?_⟩
    walk_at "rd"
    refine ⟨by decide, fun a8 h8 => ?_⟩
    walk_at "rd"
    refine Lay.rd_disp (fun a9 h9 => ?_)
    refine Lay.rd_pcons ?_
    walk_at "rd"
    refine Lay.rd_pnil ⟨upd_same, [(.inr "a", .int 0)], rfl, by decide, ?_⟩
    rw [Lay.upd2]
    walk_at "rd"
    refine ⟨by decide, fun a10 h10 => ?_⟩
    walk_at "rd"
    refine ⟨by decide, fun a11 h11 => ?_⟩
    refine Lay.rd_cat (by walk_at "hp") upd_same (by simp only [List.length_cons, List.length_nil, List.length_append]; decide) (fun a12 h12 => ?_)
    walk_at "rd"
    obtain ⟨xs0, hP⟩ := hp.at_
    refine Lay.rd_draw hp (by walk_at "sm") (by omega) (by decide) (by decide) (fun d H' d1 d2 hp' k' => ?_)
    refine Lay.rd_ixK (SqL.of (k' _ _ (Lay.ne_none h12 (by walk_at "hp")) upd_same)) d1 d2 ?_ (fun v t kv => q v t H' kv hp' (Lay.Same.keep (by walk_at "sm") k'))
    have q2 := k' a2 _ (Lay.ne_none h2 (by walk_at "hp")) (by walk_at "hp")
    have q3 := k' a3 _ (Lay.ne_none h3 (by walk_at "hp")) (by walk_at "hp")
    have q4 := k' a4 _ (Lay.ne_none h4 (by walk_at "hp")) (by walk_at "hp")
    have q7 := k' a7 _ (Lay.ne_none h7 (by walk_at "hp")) (by walk_at "hp")
    have q8 := k' a8 _ (Lay.ne_none h8 (by walk_at "hp")) (by walk_at "hp")
    have q9 := k' a9 _ (Lay.ne_none h9 (by walk_at "hp")) (by walk_at "hp")
    have q10 := k' a10 _ (Lay.ne_none h10 (by walk_at "hp")) (by walk_at "hp")
    walk_at "kd"
theorem ok_word (T : Txt K mg A)  (G_draw : FnOk P w K mg base CX0 1 A.a_draw A.d_draw ["_law_pen_here", "_law_many"] Lay.spDraw) (G_thing : FnOk P w K mg base CX0 2 A.a_thing A.d_thing ["_law_pen_here"] (Lay.spAny 1)) : FnOk P w K mg base CX0 3 A.a_word A.d_word ["_law_pen_here"] (Lay.spAny 2) := by
  refine T.F_word.ok sc_word (fun vs H Q E h => ?_) (fun cdv A0 outer s H vs Q E hr h => ?_)
  · obtain ⟨p, n, c, rfl, _⟩ := h
    rfl
  · obtain ⟨p, n, c, rfl, hp, hn, q⟩ := h
    refine ⟨_, (pss_cons (ps_set (i := 1) sc_word.nd rfl (Or.inl rfl) (pe_lst (pa_cons pe_str (pa_cons pe_str (pa_cons pe_str (pa_cons pe_str (pa_cons pe_str (pa_cons pe_str (pa_cons pe_str (pa_cons pe_str (pa_cons pe_str (pa_cons pe_str (pa_cons pe_str (pa_cons pe_str pa_nil))))))))))))))
    (pss_cons (ps_set (i := 1) sc_word.nd rfl (Or.inl rfl) (pe_op op_cat (pv 1) (pe_lst (pa_cons pe_str (pa_cons pe_str pa_nil)))))
    (pss_cons (ps_set (i := 2) sc_word.nd rfl (Or.inl rfl) (pe_call G_draw (hr.mono (by decide)) rfl T.g_draw T.F_draw.kp T.b_draw .nil pass0 (pa_cons (pv 0) (pa_cons pe_int pa_nil))))
    (pss_cons (ps_if (pt_cmpR op_lt (pv 2) (pe_callB Lay.call_lenS (by rfl) T.n_len PySem.boot_len (pa_cons (pv 1) pa_nil)) (nomark _))
      (pss_one (ps_ret (pe_ix ix_list (pv 1) (pv 2) (fun _ _ => rfl))))
      pss_nil)
    (pss_one (ps_ret (pe_call G_thing (hr.mono (by decide)) rfl T.g_thing T.F_thing.kp T.b_thing .nil pass0 (pa_cons (pv 0) pa_nil)))))))), ?_⟩
    walk_at "in"
    walk_at "rd"
    refine ⟨by decide, fun a1 h1 => ?_⟩
    walk_at "rd"
    refine ⟨by decide, fun a2 h2 => ?_⟩
    refine Lay.rd_cat (by walk_at "hp") upd_same (by simp only [List.length_cons, List.length_nil, List.length_append]; decide) (fun a3 h3 => ?_)
    walk_at "rd"
    obtain ⟨xs0, hP⟩ := hp.at_
    refine Lay.rd_draw hp (by walk_at "sm") (by omega) (by decide) (by decide) (fun d H' d1 d2 hp' k' => ?_)
    have q3 := k' a3 _ (Lay.ne_none h3 (by walk_at "hp")) upd_same
    have k1 : Lay.Keep p H H' := Lay.Same.keep (by walk_at "sm") k'
    walk_at "rd"
    refine Lay.ite_d (fun c0 => ?_) (fun c0 => ?_)
    · walk_at "rd"
      refine Lay.rd_ixK (SqL.of q3) d1 c0 ?_ (fun v t kv => q v t H' kv (hp'.le (by omega)) k1)
      walk_at "kd"
    · walk_at "rd"
      refine ⟨p, n + 1, c, rfl, hp', by omega, fun v t H2 kv hp2 k2 => q v t H2 kv hp2 (k1.trans k2)⟩
theorem ok_right_Agent (T : Txt K mg A) (G_Agent_may : FnOk P w K mg base CX0 1 A.a_Agent_may A.d_Agent_may ["self", "word"] (Lay.spMay ["read", "write", "post", "wait"])) : FnOk P w K mg base CX0 2 A.a_right A.d_right ["_law_agent", "_law_kind", "_law_word_here"] (Lay.spRight A.c_Agent 0) := by
  refine T.F_right.ok sc_right (fun vs H Q E h => ?_) (fun cdv A0 outer s H vs Q E hr h => ?_)
  · obtain ⟨a, v, t, rfl, _⟩ := h
    rfl
  · obtain ⟨a, v, t, rfl, ⟨dx, z, tt, ha⟩, kv, q⟩ := h
    refine ⟨_, (pss_cons (ps_set (i := 3) sc_right.nd rfl (Or.inl rfl) (pe_lst (pa_cons pe_str (pa_cons pe_str (pa_cons pe_str (pa_cons pe_str pa_nil))))))
    (pss_cons (ps_if (pt_cmpR op_gt (pv 1) pe_int (nomark _))
      (pss_one (ps_set (i := 3) sc_right.nd rfl (Or.inl rfl) (pe_op op_cat (pv 3) (pe_lst (pa_cons pe_str (pa_cons pe_str (pa_cons pe_str (pa_cons pe_str (pa_cons pe_str pa_nil)))))))))
      pss_nil)
    (pss_cons (ps_set (i := 4) sc_right.nd rfl (Or.inl rfl) (pe_and (pe_callB call_isi (by rfl) T.n_isinstance (by decide +kernel) (pa_cons (pv 2) (pa_cons (pe_bltn (v := .ty "str") (by rfl) T.n_str (by decide +kernel) rfl) pa_nil))) (pe_one (pe_cmpR (Lay.op_inS hr.units) (pv 2) (pv 3) rfl))))
    (pss_cons (ps_set (i := 5) sc_right.nd rfl (Or.inl rfl) (pe_meth (pv 0) T.cl_Agent T.me_Agent_may G_Agent_may (hr.mono (by decide)) T.b_Agent_may .nil pass0 (pa_cons (pv 2) pa_nil)))
    (pss_one (ps_ret (pe_and (pe_callB call_isi (by rfl) T.n_isinstance (by decide +kernel) (pa_cons (pv 5) (pa_cons (pe_bltn (v := .ty "bool") (by rfl) T.n_bool (by decide +kernel) rfl) pa_nil))) (pe_one (pe_cmpR op_eq (pv 5) (pv 4) (nomark _)))))))))), ?_⟩
    walk_at "in"
    walk_at "rd"
    refine ⟨by decide, fun a1 h1 => ?_⟩
    walk_at "rd"
    refine Lay.ite_d (fun c => absurd c (by decide)) (fun _ => ?_)
    walk_at "rd"
    have s3 : Same H (upd H a1 (.lst [V.str "read", V.str "write", V.str "post", V.str "wait"])) := by walk_at "sm"
    have hS : SqL K (upd H a1 (.lst [V.str "read", V.str "write", V.str "post", V.str "wait"])) a1 (List.map V.str ["read", "write", "post", "wait"]) := SqL.of upd_same
    have kv1 := kv.mono s3
    have ha1 := s3 _ _ ha
    cases kv1
    all_goals
      refine Lay.rd_isi .str (by first | exact .non | exact .bl _ | exact .int _ | exact .str _ | exact .lst (by assumption) | exact .tup (by assumption) | exact .dK (by assumption)) ?_
      walk_at "rd"
      first
        | (refine iteF ?_)
        | (refine iteT ?_
           walk_at "rd"
           refine Lay.rd_inSL hS (.str _) ?_)
      walk_at "rd"
      refine Lay.rd_meth ?_
      walk_at "rd"
      refine ⟨a, dx, _, rfl, ha1, by rfl, ?_⟩
      walk_at "rd"
      refine ⟨.ref a, _, _, rfl, (by first | exact .non | exact .bl _ | exact .int _ | exact .str _ | exact .lst (by assumption) | exact .tup (by assumption) | exact .dK (by assumption)), ?_⟩
      walk_at "rd"
      refine Lay.rd_isi .bool (.bl _) ?_
      walk_at "rd"
      refine iteT ?_
      walk_at "rd"
      exact Lay.q_true (by first | exact rfl | exact Lay.same_words _ | exact beq_self_eq_true _) (q _ s3)
theorem ok_right_Through (T : Txt K mg A) (G_Through_may : FnOk P w K mg base CX0 1 A.a_Through_may A.d_Through_may ["self", "word"] (Lay.spMay ["read", "write", "get", "put", "clean", "drop", "flush", "post", "wait"])) : FnOk P w K mg base CX0 2 A.a_right A.d_right ["_law_agent", "_law_kind", "_law_word_here"] (Lay.spRight A.c_Through 1) := by
  refine T.F_right.ok sc_right (fun vs H Q E h => ?_) (fun cdv A0 outer s H vs Q E hr h => ?_)
  · obtain ⟨a, v, t, rfl, _⟩ := h
    rfl
  · obtain ⟨a, v, t, rfl, ⟨dx, z, tt, ha⟩, kv, q⟩ := h
    refine ⟨_, (pss_cons (ps_set (i := 3) sc_right.nd rfl (Or.inl rfl) (pe_lst (pa_cons pe_str (pa_cons pe_str (pa_cons pe_str (pa_cons pe_str pa_nil))))))
    (pss_cons (ps_if (pt_cmpR op_gt (pv 1) pe_int (nomark _))
      (pss_one (ps_set (i := 3) sc_right.nd rfl (Or.inl rfl) (pe_op op_cat (pv 3) (pe_lst (pa_cons pe_str (pa_cons pe_str (pa_cons pe_str (pa_cons pe_str (pa_cons pe_str pa_nil)))))))))
      pss_nil)
    (pss_cons (ps_set (i := 4) sc_right.nd rfl (Or.inl rfl) (pe_and (pe_callB call_isi (by rfl) T.n_isinstance (by decide +kernel) (pa_cons (pv 2) (pa_cons (pe_bltn (v := .ty "str") (by rfl) T.n_str (by decide +kernel) rfl) pa_nil))) (pe_one (pe_cmpR (Lay.op_inS hr.units) (pv 2) (pv 3) rfl))))
    (pss_cons (ps_set (i := 5) sc_right.nd rfl (Or.inl rfl) (pe_meth (pv 0) T.cl_Through T.me_Through_may G_Through_may (hr.mono (by decide)) T.b_Through_may .nil pass0 (pa_cons (pv 2) pa_nil)))
    (pss_one (ps_ret (pe_and (pe_callB call_isi (by rfl) T.n_isinstance (by decide +kernel) (pa_cons (pv 5) (pa_cons (pe_bltn (v := .ty "bool") (by rfl) T.n_bool (by decide +kernel) rfl) pa_nil))) (pe_one (pe_cmpR op_eq (pv 5) (pv 4) (nomark _)))))))))), ?_⟩
    walk_at "in"
    walk_at "rd"
    refine ⟨by decide, fun a1 h1 => ?_⟩
    walk_at "rd"
    refine Lay.ite_d (fun _ => ?_) (fun c => absurd (by decide) c)
    walk_at "rd"
    refine ⟨by decide, fun a2 h2 => ?_⟩
    refine Lay.rd_cat (by walk_at "hp") upd_same (by simp only [List.length_cons, List.length_nil, List.length_append]; decide) (fun a3 h3 => ?_)
    walk_at "rd"
    have s3 : Same H (upd (upd (upd H a1 (.lst [V.str "read", V.str "write", V.str "post", V.str "wait"])) a2 (.lst [V.str "clean", V.str "drop", V.str "flush", V.str "get", V.str "put"])) a3 (.lst [V.str "read", V.str "write", V.str "post", V.str "wait", V.str "clean", V.str "drop", V.str "flush", V.str "get", V.str "put"])) := by walk_at "sm"
    have hS : SqL K (upd (upd (upd H a1 (.lst [V.str "read", V.str "write", V.str "post", V.str "wait"])) a2 (.lst [V.str "clean", V.str "drop", V.str "flush", V.str "get", V.str "put"])) a3 (.lst [V.str "read", V.str "write", V.str "post", V.str "wait", V.str "clean", V.str "drop", V.str "flush", V.str "get", V.str "put"])) a3 (List.map V.str ["read", "write", "post", "wait", "clean", "drop", "flush", "get", "put"]) := SqL.of upd_same
    have kv1 := kv.mono s3
    have ha1 := s3 _ _ ha
    cases kv1
    all_goals
      refine Lay.rd_isi .str (by first | exact .non | exact .bl _ | exact .int _ | exact .str _ | exact .lst (by assumption) | exact .tup (by assumption) | exact .dK (by assumption)) ?_
      walk_at "rd"
      first
        | (refine iteF ?_)
        | (refine iteT ?_
           walk_at "rd"
           refine Lay.rd_inSL hS (.str _) ?_)
      walk_at "rd"
      refine Lay.rd_meth ?_
      walk_at "rd"
      refine ⟨a, dx, _, rfl, ha1, by rfl, ?_⟩
      walk_at "rd"
      refine ⟨.ref a, _, _, rfl, (by first | exact .non | exact .bl _ | exact .int _ | exact .str _ | exact .lst (by assumption) | exact .tup (by assumption) | exact .dK (by assumption)), ?_⟩
      walk_at "rd"
      refine Lay.rd_isi .bool (.bl _) ?_
      walk_at "rd"
      refine iteT ?_
      walk_at "rd"
      exact Lay.q_true (by first | exact rfl | exact Lay.same_words _ | exact beq_self_eq_true _) (q _ s3)
theorem ok_right_Back (T : Txt K mg A) (G_Back_may : FnOk P w K mg base CX0 1 A.a_Back_may A.d_Back_may ["self", "word"] (Lay.spMay ["read", "write", "get", "put", "clean", "drop", "flush", "post", "wait"])) : FnOk P w K mg base CX0 2 A.a_right A.d_right ["_law_agent", "_law_kind", "_law_word_here"] (Lay.spRight A.c_Back 2) := by
  refine T.F_right.ok sc_right (fun vs H Q E h => ?_) (fun cdv A0 outer s H vs Q E hr h => ?_)
  · obtain ⟨a, v, t, rfl, _⟩ := h
    rfl
  · obtain ⟨a, v, t, rfl, ⟨dx, z, tt, ha⟩, kv, q⟩ := h
    refine ⟨_, (pss_cons (ps_set (i := 3) sc_right.nd rfl (Or.inl rfl) (pe_lst (pa_cons pe_str (pa_cons pe_str (pa_cons pe_str (pa_cons pe_str pa_nil))))))
    (pss_cons (ps_if (pt_cmpR op_gt (pv 1) pe_int (nomark _))
      (pss_one (ps_set (i := 3) sc_right.nd rfl (Or.inl rfl) (pe_op op_cat (pv 3) (pe_lst (pa_cons pe_str (pa_cons pe_str (pa_cons pe_str (pa_cons pe_str (pa_cons pe_str pa_nil)))))))))
      pss_nil)
    (pss_cons (ps_set (i := 4) sc_right.nd rfl (Or.inl rfl) (pe_and (pe_callB call_isi (by rfl) T.n_isinstance (by decide +kernel) (pa_cons (pv 2) (pa_cons (pe_bltn (v := .ty "str") (by rfl) T.n_str (by decide +kernel) rfl) pa_nil))) (pe_one (pe_cmpR (Lay.op_inS hr.units) (pv 2) (pv 3) rfl))))
    (pss_cons (ps_set (i := 5) sc_right.nd rfl (Or.inl rfl) (pe_meth (pv 0) T.cl_Back T.me_Back_may G_Back_may (hr.mono (by decide)) T.b_Back_may .nil pass0 (pa_cons (pv 2) pa_nil)))
    (pss_one (ps_ret (pe_and (pe_callB call_isi (by rfl) T.n_isinstance (by decide +kernel) (pa_cons (pv 5) (pa_cons (pe_bltn (v := .ty "bool") (by rfl) T.n_bool (by decide +kernel) rfl) pa_nil))) (pe_one (pe_cmpR op_eq (pv 5) (pv 4) (nomark _)))))))))), ?_⟩
    walk_at "in"
    walk_at "rd"
    refine ⟨by decide, fun a1 h1 => ?_⟩
    walk_at "rd"
    refine Lay.ite_d (fun _ => ?_) (fun c => absurd (by decide) c)
    walk_at "rd"
    refine ⟨by decide, fun a2 h2 => ?_⟩
    refine Lay.rd_cat (by walk_at "hp") upd_same (by simp only [List.length_cons, List.length_nil, List.length_append]; decide) (fun a3 h3 => ?_)
    walk_at "rd"
    have s3 : Same H (upd (upd (upd H a1 (.lst [V.str "read", V.str "write", V.str "post", V.str "wait"])) a2 (.lst [V.str "clean", V.str "drop", V.str "flush", V.str "get", V.str "put"])) a3 (.lst [V.str "read", V.str "write", V.str "post", V.str "wait", V.str "clean", V.str "drop", V.str "flush", V.str "get", V.str "put"])) := by walk_at "sm"
    have hS : SqL K (upd (upd (upd H a1 (.lst [V.str "read", V.str "write", V.str "post", V.str "wait"])) a2 (.lst [V.str "clean", V.str "drop", V.str "flush", V.str "get", V.str "put"])) a3 (.lst [V.str "read", V.str "write", V.str "post", V.str "wait", V.str "clean", V.str "drop", V.str "flush", V.str "get", V.str "put"])) a3 (List.map V.str ["read", "write", "post", "wait", "clean", "drop", "flush", "get", "put"]) := SqL.of upd_same
    have kv1 := kv.mono s3
    have ha1 := s3 _ _ ha
    cases kv1
    all_goals
      refine Lay.rd_isi .str (by first | exact .non | exact .bl _ | exact .int _ | exact .str _ | exact .lst (by assumption) | exact .tup (by assumption) | exact .dK (by assumption)) ?_
      walk_at "rd"
      first
        | (refine iteF ?_)
        | (refine iteT ?_
           walk_at "rd"
           refine Lay.rd_inSL hS (.str _) ?_)
      walk_at "rd"
      refine Lay.rd_meth ?_
      walk_at "rd"
      refine ⟨a, dx, _, rfl, ha1, by rfl, ?_⟩
      walk_at "rd"
      refine ⟨.ref a, _, _, rfl, (by first | exact .non | exact .bl _ | exact .int _ | exact .str _ | exact .lst (by assumption) | exact .tup (by assumption) | exact .dK (by assumption)), ?_⟩
      walk_at "rd"
      refine Lay.rd_isi .bool (.bl _) ?_
      walk_at "rd"
      refine iteT ?_
      walk_at "rd"
      exact Lay.q_true (by first | exact rfl | exact Lay.same_words _ | exact beq_self_eq_true _) (q _ s3)
theorem ok_family (T : Txt K mg A) (G_draw : FnOk P w K mg base CX0 1 A.a_draw A.d_draw ["_law_pen_here", "_law_many"] Lay.spDraw) (G_word : FnOk P w K mg base CX0 3 A.a_word A.d_word ["_law_pen_here"] (Lay.spAny 2)) (G_Agent_init : FnR P w K mg base CX0 6 A.a_Agent_init (Lay.spStar 2 (Lay.spAgentInit A.c_Agent ["read", "write", "post", "wait"]))) (G_Through_init : FnR P w K mg base CX0 6 A.a_Through_init (Lay.spStar 2 (Lay.spAgentInit A.c_Through ["read", "write", "get", "put", "clean", "drop", "flush", "post", "wait"]))) (G_Back_init : FnR P w K mg base CX0 6 A.a_Back_init (Lay.spStar 2 (Lay.spAgentInit A.c_Back ["read", "write", "get", "put", "clean", "drop", "flush", "post", "wait"]))) (G_right_Agent : FnOk P w K mg base CX0 2 A.a_right A.d_right ["_law_agent", "_law_kind", "_law_word_here"] (Lay.spRight A.c_Agent 0)) (G_right_Through : FnOk P w K mg base CX0 2 A.a_right A.d_right ["_law_agent", "_law_kind", "_law_word_here"] (Lay.spRight A.c_Through 1)) (G_right_Back : FnOk P w K mg base CX0 2 A.a_right A.d_right ["_law_agent", "_law_kind", "_law_word_here"] (Lay.spRight A.c_Back 2)) : FnOk P w K mg base CX0 8 A.a_family A.d_family ["_law_pen_here"] Lay.spFamily := by
  refine T.F_family.ok sc_family (fun vs H Q E h => ?_) (fun cdv A0 outer s H vs Q E hr h => ?_)
  · obtain ⟨p, n, c, rfl, _⟩ := h
    rfl
  · obtain ⟨p, n, c, rfl, hp, hn, q⟩ := h
    refine ⟨_, (pss_cons (ps_set (i := 1) sc_family.nd rfl (Or.inl rfl) (pe_slice sl_str pe_str po_none (po_some (pe_op op_add pe_int (pe_call G_draw (hr.mono (by decide)) rfl T.g_draw T.F_draw.kp T.b_draw .nil pass0 (pa_cons (pv 0) (pa_cons pe_int pa_nil)))))))
    (pss_cons (ps_set (i := 2) sc_family.nd rfl (Or.inl rfl) (StX.pe_makeR T.mk_Agent G_Agent_init (hr.mono (by decide)) rfl T.g_Agent pass0 (pa_cons (pv 1) (pa_cons (pe_tup (pa_cons pe_str (pa_cons pe_str pa_nil))) pa_nil))))
    (pss_cons (ps_set (i := 3) sc_family.nd rfl (Or.inl rfl) (StX.pe_makeR T.mk_Through G_Through_init (hr.mono (by decide)) rfl T.g_Through pass0 (pa_cons (pv 1) (pa_cons (pe_tup (pa_cons pe_str (pa_cons pe_str pa_nil))) pa_nil))))
    (pss_cons (ps_set (i := 4) sc_family.nd rfl (Or.inl rfl) (StX.pe_makeR T.mk_Back G_Back_init (hr.mono (by decide)) rfl T.g_Back pass0 (pa_cons (pv 1) (pa_cons (pe_tup (pa_cons pe_str (pa_cons pe_str pa_nil))) pa_nil))))
    (pss_cons (ps_if (pt_cmpR (op_neD hr.units) (pe_lst (pa_cons (pe_con (pv 2) rfl) (pa_cons (pe_con (pv 3) rfl) (pa_cons (pe_con (pv 4) rfl) pa_nil)))) (pe_lst (pa_cons pe_str (pa_cons pe_str (pa_cons pe_str pa_nil)))) (nomark _))
      (pss_one (ps_ret pe_bl))
      pss_nil)
    (pss_cons (ps_if (pt_cmpR (op_neD hr.units) (pe_lst (pa_cons (ClX.pe_cval (pe_glob (v := .ref A.c_Agent) rfl T.g_Agent rfl)) (pa_cons (ClX.pe_cval (pe_glob (v := .ref A.c_Through) rfl T.g_Through rfl)) (pa_cons (ClX.pe_cval (pe_glob (v := .ref A.c_Back) rfl T.g_Back rfl)) pa_nil)))) (pe_lst (pa_cons pe_str (pa_cons pe_str (pa_cons pe_str pa_nil)))) (nomark _))
      (pss_one (ps_ret pe_bl))
      pss_nil)
    (pss_cons (ps_if (pt_cmpR (op_neD hr.units) (pe_lst (pa_cons (ClX.pe_cval (pe_glob (v := .ref A.c_Agent) rfl T.g_Agent rfl)) (pa_cons (ClX.pe_cval (pe_glob (v := .ref A.c_Through) rfl T.g_Through rfl)) (pa_cons (ClX.pe_cval (pe_glob (v := .ref A.c_Back) rfl T.g_Back rfl)) (pa_cons (pe_con (pv 2) rfl) (pa_cons (pe_con (pv 4) rfl) pa_nil)))))) (pe_lst (pa_cons pe_bl (pa_cons pe_bl (pa_cons pe_bl (pa_cons pe_bl (pa_cons pe_bl pa_nil)))))) (nomark _))
      (pss_one (ps_ret pe_bl))
      pss_nil)
    (pss_cons (ps_if (PW.pt (pw_or (pt_val (pe_callB call_isi (by rfl) T.n_isinstance (by decide +kernel) (pa_cons (pv 2) (pa_cons (pe_glob (v := .ref A.c_Through) rfl T.g_Through rfl) pa_nil)))) (pw_or (pt_val (pe_callB call_isi (by rfl) T.n_isinstance (by decide +kernel) (pa_cons (pv 3) (pa_cons (pe_glob (v := .ref A.c_Back) rfl T.g_Back rfl) pa_nil)))) (pw_or1 (pt_not (pt_val (pe_callB call_isi (by rfl) T.n_isinstance (by decide +kernel) (pa_cons (pv 4) (pa_cons (pe_glob (v := .ref A.c_Through) rfl T.g_Through rfl) pa_nil)))))))))
      (pss_one (ps_ret pe_bl))
      pss_nil)
    (pss_cons (ps_if (PW.pt (pw_or (pt_not (pt_val (pe_callB call_isi (by rfl) T.n_isinstance (by decide +kernel) (pa_cons (pv 4) (pa_cons (pe_glob (v := .ref A.c_Agent) rfl T.g_Agent rfl) pa_nil))))) (pw_or1 (pt_not (pt_val (pe_callB call_isi (by rfl) T.n_isinstance (by decide +kernel) (pa_cons (pv 3) (pa_cons (pe_glob (v := .ref A.c_Agent) rfl T.g_Agent rfl) pa_nil))))))))
      (pss_one (ps_ret pe_bl))
      pss_nil)
    (pss_cons (ps_for PassesOwn.never rfl (pi_range1 rfl T.n_range (pa_cons pe_int pa_nil)) (pg_name (i := 5) sc_family.nd rfl (Or.inl rfl))
      (pss_cons (ps_set (i := 6) sc_family.nd rfl (Or.inl rfl) (pe_call G_word (hr.mono (by decide)) rfl T.g_word T.F_word.kp T.b_word .nil pass0 (pa_cons (pv 0) pa_nil)))
      (pss_one (ps_if (PW.pt (pw_or (pt_not (pt_val (pe_call G_right_Agent (hr.mono (by decide)) rfl T.g_right T.F_right.kp T.b_right .nil pass0 (pa_cons (pv 2) (pa_cons pe_int (pa_cons (pv 6) pa_nil)))))) (pw_or (pt_not (pt_val (pe_call G_right_Through (hr.mono (by decide)) rfl T.g_right T.F_right.kp T.b_right .nil pass0 (pa_cons (pv 3) (pa_cons pe_int (pa_cons (pv 6) pa_nil)))))) (pw_or1 (pt_not (pt_val (pe_call G_right_Back (hr.mono (by decide)) rfl T.g_right T.F_right.kp T.b_right .nil pass0 (pa_cons (pv 4) (pa_cons pe_int (pa_cons (pv 6) pa_nil))))))))))
        (pss_one (ps_ret pe_bl))
        pss_nil))))
    (pss_one (ps_ret pe_bl)))))))))))), ?_⟩
    walk_at "in"
    walk_at "rd"
    refine Lay.rd_draw hp (L2.Same.refl _) (by omega) (by decide) (by decide) (fun d H1 d1 d2 hp1 k1 => ?_)
    walk_at "rd"
    refine ⟨_, rfl, ?_⟩
    refine ⟨by decide, ?_⟩
    have hz := Lay.dma_ok d1 d2
    generalize cutS "dma" none (some (1 + d)) = z at hz ⊢
    walk_at "rd"
    refine Lay.rd_makeR ?_
    walk_at "rd"
    refine ⟨by decide, fun t1 ht1 => ?_⟩
    walk_at "rd"
    refine Lay.mk_agent (ws := ["read", "write", "post", "wait"]) hz upd_same (by decide) (fun x1 H2 hx1 s1 i1 => ?_)
    have S1 : Same H1 H2 := (Lay.Same.upd ht1).trans s1
    walk_at "rd"
    refine Lay.rd_makeR ?_
    walk_at "rd"
    refine ⟨by decide, fun t2 ht2 => ?_⟩
    walk_at "rd"
    refine Lay.mk_agent (ws := ["read", "write", "get", "put", "clean", "drop", "flush", "post", "wait"]) hz upd_same (by decide) (fun x2 H3 hx2 s2 i2 => ?_)
    have S2 : Same H2 H3 := (Lay.Same.upd ht2).trans s2
    walk_at "rd"
    refine Lay.rd_makeR ?_
    walk_at "rd"
    refine ⟨by decide, fun t3 ht3 => ?_⟩
    walk_at "rd"
    refine Lay.mk_agent (ws := ["read", "write", "get", "put", "clean", "drop", "flush", "post", "wait"]) hz upd_same (by decide) (fun x3 H4 hx3 s3 i3 => ?_)
    have S3 : Same H3 H4 := (Lay.Same.upd ht3).trans s3
    walk_at "rd"
    obtain ⟨_, coAgentKIND⟩ := T.co_Agent_KIND
    obtain ⟨_, coAgentCACHED⟩ := T.co_Agent_CACHED
    obtain ⟨_, cvAgentKIND⟩ := T.cv_Agent_KIND
    obtain ⟨_, cvAgentCACHED⟩ := T.cv_Agent_CACHED
    obtain ⟨_, coThroughKIND⟩ := T.co_Through_KIND
    obtain ⟨_, coThroughCACHED⟩ := T.co_Through_CACHED
    obtain ⟨_, cvThroughKIND⟩ := T.cv_Through_KIND
    obtain ⟨_, cvThroughCACHED⟩ := T.cv_Through_CACHED
    obtain ⟨_, coBackKIND⟩ := T.co_Back_KIND
    obtain ⟨_, coBackCACHED⟩ := T.co_Back_CACHED
    obtain ⟨_, cvBackKIND⟩ := T.cv_Back_KIND
    obtain ⟨_, cvBackCACHED⟩ := T.cv_Back_CACHED
    have j1 := (i1.mono S2).mono S3
    have j2 := i2.mono S3
    have j3 := i3
    obtain ⟨xs0, hP⟩ := hp1.at_
    have nx1 : x1 ≠ p := Lay.ne_none hx1 (Lay.upd_old ht1 hP)
    have nx2 : x2 ≠ p := Lay.ne_none hx2 (Lay.upd_old ht2 (S1 _ _ hP))
    have nx3 : x3 ≠ p := Lay.ne_none hx3 (Lay.upd_old ht3 (S2 _ _ (S1 _ _ hP)))
    have p4 := ((hp1.mono S1).mono S2).mono S3
    have k4 : Lay.Keep p H H4 := k1.trans (Lay.Keep.of ((S1.trans S2).trans S3))
    clear i1 i2 i3 s1 s2 s3 S1 S2 S3 hx1 hx2 hx3 ht1 ht2 ht3 hP
    obtain ⟨dx1, z1, t1', e1⟩ := id j1
    obtain ⟨dx2, z2, t2', e2⟩ := id j2
    obtain ⟨dx3, z3, t3', e3⟩ := id j3
    refine Lay.rd_tCon ?_
    walk_at "rd"
    refine ⟨x1, A.c_Agent, dx1, Lay.agentF z1 t1', .str "plain", _, rfl, (by walk_at "hp"), T.cl_Agent, coAgentKIND, by rfl, ?_⟩
    walk_at "rd"
    refine Lay.rd_tCon ?_
    walk_at "rd"
    refine ⟨x2, A.c_Through, dx2, Lay.agentF z2 t2', .str "through", _, rfl, (by walk_at "hp"), T.cl_Through, coThroughKIND, by rfl, ?_⟩
    walk_at "rd"
    refine Lay.rd_tCon ?_
    walk_at "rd"
    refine ⟨x3, A.c_Back, dx3, Lay.agentF z3 t3', .str "back", _, rfl, (by walk_at "hp"), T.cl_Back, coBackKIND, by rfl, ?_⟩
    walk_at "rd"
    refine ⟨by decide, fun l1 hl1 => ?_⟩
    walk_at "rd"
    refine ⟨by decide, fun l2 hl2 => ?_⟩
    walk_at "rd"
    refine Lay.dp_ne (.list [.str "plain", .str "through", .str "back"]) (.list [.str "plain", .str "through", .str "back"]) (.lst (SqL.of (by walk_at "hp")) (.cons (.str _) (.cons (.str _) (.cons (.str _) .nil)))) (.lst (SqL.of upd_same) (.cons (.str _) (.cons (.str _) (.cons (.str _) .nil)))) (by decide +kernel) (by decide +kernel) (by decide +kernel) ?_
    walk_at "rd"
    refine iteF ?_
    walk_at "rd"
    refine Lay.rd_cval ?_
    walk_at "rd"
    refine ⟨A.c_Agent, _, .str "plain", _, rfl, T.cr_Agent, cvAgentKIND, ?_⟩
    walk_at "rd"
    refine Lay.rd_cval ?_
    walk_at "rd"
    refine ⟨A.c_Through, _, .str "through", _, rfl, T.cr_Through, cvThroughKIND, ?_⟩
    walk_at "rd"
    refine Lay.rd_cval ?_
    walk_at "rd"
    refine ⟨A.c_Back, _, .str "back", _, rfl, T.cr_Back, cvBackKIND, ?_⟩
    walk_at "rd"
    refine ⟨by decide, fun l3 hl3 => ?_⟩
    walk_at "rd"
    refine ⟨by decide, fun l4 hl4 => ?_⟩
    walk_at "rd"
    refine Lay.dp_ne (.list [.str "plain", .str "through", .str "back"]) (.list [.str "plain", .str "through", .str "back"]) (.lst (SqL.of (by walk_at "hp")) (.cons (.str _) (.cons (.str _) (.cons (.str _) .nil)))) (.lst (SqL.of upd_same) (.cons (.str _) (.cons (.str _) (.cons (.str _) .nil)))) (by decide +kernel) (by decide +kernel) (by decide +kernel) ?_
    walk_at "rd"
    refine iteF ?_
    walk_at "rd"
    refine Lay.rd_cval ?_
    walk_at "rd"
    refine ⟨A.c_Agent, _, .bl false, _, rfl, T.cr_Agent, cvAgentCACHED, ?_⟩
    walk_at "rd"
    refine Lay.rd_cval ?_
    walk_at "rd"
    refine ⟨A.c_Through, _, .bl true, _, rfl, T.cr_Through, cvThroughCACHED, ?_⟩
    walk_at "rd"
    refine Lay.rd_cval ?_
    walk_at "rd"
    refine ⟨A.c_Back, _, .bl true, _, rfl, T.cr_Back, cvBackCACHED, ?_⟩
    walk_at "rd"
    refine Lay.rd_tCon ?_
    walk_at "rd"
    refine ⟨x1, A.c_Agent, dx1, Lay.agentF z1 t1', .bl false, _, rfl, (by walk_at "hp"), T.cl_Agent, coAgentCACHED, by rfl, ?_⟩
    walk_at "rd"
    refine Lay.rd_tCon ?_
    walk_at "rd"
    refine ⟨x3, A.c_Back, dx3, Lay.agentF z3 t3', .bl true, _, rfl, (by walk_at "hp"), T.cl_Back, coBackCACHED, by rfl, ?_⟩
    walk_at "rd"
    refine ⟨by decide, fun l5 hl5 => ?_⟩
    walk_at "rd"
    refine ⟨by decide, fun l6 hl6 => ?_⟩
    walk_at "rd"
    refine Lay.dp_ne (.list [.bool false, .bool true, .bool true, .bool false, .bool true]) (.list [.bool false, .bool true, .bool true, .bool false, .bool true]) (.lst (SqL.of (by walk_at "hp")) (.cons (.bl _) (.cons (.bl _) (.cons (.bl _) (.cons (.bl _) (.cons (.bl _) .nil)))))) (.lst (SqL.of upd_same) (.cons (.bl _) (.cons (.bl _) (.cons (.bl _) (.cons (.bl _) (.cons (.bl _) .nil)))))) (by decide +kernel) (by decide +kernel) (by decide +kernel) ?_
    walk_at "rd"
    refine iteF ?_
    walk_at "rd"
    refine Lay.rd_isiC (T.in_Agent _ x1 dx1 (Lay.agentF z1 t1') (by walk_at "hp")) T.ki_Agent_Through ?_
    walk_at "it"
    refine Lay.rd_isiC (T.in_Through _ x2 dx2 (Lay.agentF z2 t2') (by walk_at "hp")) T.ki_Through_Back ?_
    walk_at "it"
    refine Lay.rd_isiC (T.in_Back _ x3 dx3 (Lay.agentF z3 t3') (by walk_at "hp")) T.ki_Back_Through ?_
    walk_at "it"
    refine Lay.rd_isiC (T.in_Back _ x3 dx3 (Lay.agentF z3 t3') (by walk_at "hp")) T.ki_Back_Agent ?_
    walk_at "it"
    refine Lay.rd_isiC (T.in_Through _ x2 dx2 (Lay.agentF z2 t2') (by walk_at "hp")) T.ki_Through_Agent ?_
    walk_at "it"
    have S6 : Same H4 (upd (upd (upd (upd (upd (upd H4 l1 (.lst [.str "plain", .str "through", .str "back"])) l2 (.lst [.str "plain", .str "through", .str "back"])) l3 (.lst [.str "plain", .str "through", .str "back"])) l4 (.lst [.str "plain", .str "through", .str "back"])) l5 (.lst [.bl false, .bl true, .bl true, .bl false, .bl true])) l6 (.lst [.bl false, .bl true, .bl true, .bl false, .bl true])) := by walk_at "sm"
    generalize upd (upd (upd (upd (upd (upd H4 l1 (.lst [.str "plain", .str "through", .str "back"])) l2 (.lst [.str "plain", .str "through", .str "back"])) l3 (.lst [.str "plain", .str "through", .str "back"])) l4 (.lst [.str "plain", .str "through", .str "back"])) l5 (.lst [.bl false, .bl true, .bl true, .bl false, .bl true])) l6 (.lst [.bl false, .bl true, .bl true, .bl false, .bl true]) = H6 at S6 ⊢
    refine Lay.rd_forW (J := Itr 0 (9 : Int).toNat) (H1 := H6) (fun R r => ?_) (walk_range (lo := 0) (n := 9)) (fun i σ' H' => ∃ a b, σ' = [some (V.ref p), some (V.str z), some (V.ref x1), some (V.ref x2), some (V.ref x3), a, b] ∧ Lay.PenAt c H' p (n + 1 + 2 * i) ∧ Lay.Keep p H H' ∧ Lay.InsAt A.c_Agent H' x1 ∧ Lay.InsAt A.c_Through H' x2 ∧ Lay.InsAt A.c_Back H' x3) ⟨_, _, rfl, p4.mono S6, k4.trans (Lay.Keep.of S6), j1.mono S6, j2.mono S6, j3.mono S6⟩ (fun _ _ _ _ _ => trivial) ?_ ?_
    · walk_at "rd"
      exact ⟨_, rfl, by decide, by decide, r⟩
    · rintro i x σ' H7 H8 hi ⟨a, b, rfl, p7, k7, u1, u2, u3⟩ hy
      obtain ⟨rfl, rfl⟩ := hy
      walk_at "rd"
      refine ⟨p, n + 1 + 2 * i, c, rfl, p7, by omega, fun v t H9 kv p9 k9 => ?_⟩
      walk_at "rd"
      refine ⟨x1, v, t, rfl, u1.keep k9 nx1, kv, fun H10 s10 => ?_⟩
      walk_at "it"
      refine ⟨x2, v, t, rfl, (u2.keep k9 nx2).mono s10, kv.mono s10, fun H11 s11 => ?_⟩
      walk_at "it"
      refine ⟨x3, v, t, rfl, ((u3.keep k9 nx3).mono s10).mono s11, (kv.mono s10).mono s11, fun H12 s12 => ?_⟩
      walk_at "it"
      exact ⟨_, _, rfl, ((p9.mono s10).mono s11).mono s12, ((k7.trans k9).trans (Lay.Keep.of ((s10.trans s11).trans s12))), (((u1.keep k9 nx1).mono s10).mono s11).mono s12, (((u2.keep k9 nx2).mono s10).mono s11).mono s12, (((u3.keep k9 nx3).mono s10).mono s11).mono s12⟩
    · rintro σ' H7 ⟨a, b, rfl, p7, k7, u1, u2, u3⟩
      walk_at "rd"
      exact q H7 p7 k7
def spLaw (K : PySem.W.Frag) : Sp := fun vs H Q _ => ∃ (a : Addr) (ns : List Int), vs = [.ref a] ∧ SqL K H a (ns.map V.int) ∧ ns.length ≤ 63 ∧ ∀ H', Q (.bl true) H'
theorem ok_law (T : Txt K mg A) (G_pen : FnOk P w K mg base CX0 1 A.a_pen A.d_pen ["_law_script"] (Lay.spPen K)) (G_family : FnOk P w K mg base CX0 8 A.a_family A.d_family ["_law_pen_here"] Lay.spFamily) : FnOk P w K mg base CX0 9 A.a_law A.d_law ["_law_script"] (spLaw K) := by
  refine T.F_law.ok sc_law (fun vs H Q E h => ?_) (fun cdv A0 outer s H vs Q E hr h => ?_)
  · obtain ⟨a, ns, rfl, _⟩ := h
    rfl
  · obtain ⟨a, ns, rfl, hS, hl, q⟩ := h
    refine ⟨_, (pss_cons (ps_set (i := 1) sc_law.nd rfl (Or.inr rfl) (pe_call G_pen (hr.mono (by decide)) rfl T.g_pen T.F_pen.kp T.b_pen .nil pass0 (pa_cons (pv 0) pa_nil)))
    (pss_one (ps_ret (pe_callB (cr_all rfl) (by rfl) T.n_all (by decide +kernel) (pa_cons (pe_lc (own := [("_law_k", 2)]) (g := gName 2) (tt := tYes) rfl sc_law.nd (pi_range1 rfl T.n_range (pa_cons pe_int pa_nil)) (blkOk_by (own := [("_law_k", 2)]) (N := ["_law_script", "_law_pen_here", "_law_k"]) (sc := defScope s_law) (by decide +kernel)) (fun _ _ _ _ _ => pg_name (i := 2) sc_law.nd rfl (Or.inl rfl)) (fun _ _ _ _ _ => pts_nil) (fun _ _ _ _ _ => (pe_call G_family (hr.mono (by decide)) rfl T.g_family T.F_family.kp T.b_family .nil pass0 (pa_cons (pv 1) pa_nil)))) pa_nil))))), ?_⟩
    walk_at "in"
    walk_at "rd"
    refine ⟨a, ns, rfl, hS, hl, fun c p H1 hp pen s1 => ?_⟩
    walk_at "rd"
    refine ⟨_, rfl, by decide, by decide, ?_⟩
    intro D hD
    obtain ⟨x1, hx1⟩ := pen.at_
    obtain ⟨x2, hx2⟩ := pen.cell
    have n1 := Lay.ne_none hD hx1
    have n2 := Lay.ne_none hD hx2
    refine Lay.lc_go (walk_range (lo := 0) (n := 4)) (fun i l H' => Lay.PenAt c H' p (19 * i) ∧ l = List.replicate i (V.bl true)) ⟨pen.mono (Lay.Same.upd hD), rfl⟩ (fun _ _ _ _ _ => trivial) ?_ ?_
    · rintro i l x H2 H3 hi hl' hz' ⟨r1, r2⟩ hy
      obtain ⟨rfl, rfl⟩ := hy
      walk_at "rd"
      refine ⟨rfl, ?_⟩
      walk_at "it"
      refine ⟨p, 19 * i, c, rfl, r1, by omega, fun H4 p4 k4 => ?_⟩
      refine Lay.lc_put (k4 _ _ n1 hl') hz' (by omega) ⟨p4.other n1 n2, ?_⟩
      rw [r2, List.replicate_succ']
    · rintro l H4 hl' hz' ⟨r1, rfl⟩
      walk_at "rd"
      exact Lay.rd_alls (bs := [true, true, true, true]) (SqL.of hl') (q H4)
theorem ok_draw (T : Txt K mg A) : FnOk P w K mg base CX0 1 A.a_draw A.d_draw ["_law_pen_here", "_law_many"] Lay.spDraw := by
  refine T.F_draw.ok sc_draw (fun vs H Q E h => ?_) (fun cdv A0 outer s H vs Q E hr h => ?_)
  · obtain ⟨p, m, n, c, rfl, _⟩ := h
    rfl
  · obtain ⟨p, m, n, c, rfl, ⟨ns, b, l, h1, h2, h3, h4, h5, h6⟩, hn, hm, hm2, k⟩ := h
    have hc : c ≠ p := ne_of h2 h1 (by intro q; cases ns <;> cases q)
    refine ⟨_, (pss_cons (ps_if (pt_cmpR op_gt (pe_ix ix_list (pv 0) pe_int (fun _ _ => rfl)) pe_int (nomark _))
      (pss_cons (ps_set (i := 2) sc_draw.nd rfl (Or.inl rfl) (pe_op Lay.op_modP (pe_callTy Lay.call_intI (by rfl) T.n_int (by decide +kernel) (pa_cons (pe_ix ix_list (pv 0) pe_int (fun _ _ => rfl)) pa_nil)) (pv 1)))
      (pss_cons (ps_asg (pe_op Lay.op_divP (pe_callTy Lay.call_intI (by rfl) T.n_int (by decide +kernel) (pa_cons (pe_ix ix_list (pv 0) pe_int (fun _ _ => rfl)) pa_nil)) (pv 1)) (pg_sub (pv 0) pe_int set_list))
      (pss_one (ps_ret (pv 2)))))
      pss_nil)
    (pss_cons (ps_set (i := 3) sc_draw.nd rfl (Or.inl rfl) (pe_ix ix_list (pv 0) pe_int (fun _ _ => rfl)))
    (pss_cons (ps_asg (pe_op op_add (pv 3) pe_int) (pg_sub (pv 0) pe_int set_list))
    (pss_cons (ps_set (i := 4) sc_draw.nd rfl (Or.inl rfl) (pe_op op_add (pe_op op_mul pe_int (pv 3)) pe_int))
    (Evl.pss_cut (ps_if (pt_cmpR (op_neD hr.units) (pe_ix ix_list (pv 0) pe_int (fun _ _ => rfl)) (pe_lst pa_nil) (nomark _))
      (pss_one (ps_set (i := 4) sc_draw.nd rfl (Or.inl rfl) (pe_ix ix_list (pe_ix ix_list (pv 0) pe_int (fun _ _ => rfl)) (pe_op Lay.op_modP (pe_callTy Lay.call_intI (by rfl) T.n_int (by decide +kernel) (pa_cons (pv 3) pa_nil)) (pe_callB Lay.call_lenS (by rfl) T.n_len PySem.boot_len (pa_cons (pe_ix ix_list (pv 0) pe_int (fun _ _ => rfl)) pa_nil))) (fun _ _ => rfl))))
      pss_nil)
    (pss_cons (ps_if (PW.pt (pw_and (pt_cmpR op_lt (pv 3) (pe_callB Lay.call_lenS (by rfl) T.n_len PySem.boot_len (pa_cons (pe_ix ix_list (pv 0) pe_int (fun _ _ => rfl)) pa_nil)) (nomark _)) (pw_and1 (pt_cmpR op_ge (pe_callB Lay.call_absI (by rfl) T.n_abs (by decide +kernel) (pa_cons (pv 4) pa_nil)) (pe_op op_pow pe_int pe_int) (nomark _)))))
      (pss_cons (ps_set (i := 5) sc_draw.nd rfl (Or.inl rfl) (pe_op op_add (pe_op op_mul pe_int (pe_op op_sub (pe_callB Lay.call_absI (by rfl) T.n_abs (by decide +kernel) (pa_cons (pv 4) pa_nil)) (pe_op op_pow pe_int pe_int))) (pe_callTy Lay.call_intI (by rfl) T.n_int (by decide +kernel) (pa_cons (pe_cmpR op_lt (pv 4) pe_int (nomark _)) pa_nil))))
      (pss_cons (ps_asg (pe_op Lay.op_divP (pe_callTy Lay.call_intI (by rfl) T.n_int (by decide +kernel) (pa_cons (pv 5) pa_nil)) (pv 1)) (pg_sub (pv 0) pe_int set_list))
      (pss_one (ps_ret (pe_op Lay.op_modP (pe_callTy Lay.call_intI (by rfl) T.n_int (by decide +kernel) (pa_cons (pv 5) pa_nil)) (pv 1))))))
      pss_nil)
    (pss_cons (ps_set (i := 6) sc_draw.nd rfl (Or.inl rfl) (pe_op Lay.op_modP (pe_callTy Lay.call_intI (by rfl) T.n_int (by decide +kernel) (pa_cons (pe_op op_pow (pe_op op_add (pe_op op_add (pe_op Lay.op_modP (pe_callTy Lay.call_intI (by rfl) T.n_int (by decide +kernel) (pa_cons (pv 4) pa_nil)) pe_int) (pe_op op_mul pe_int (pv 3))) pe_int) pe_int) pa_nil)) pe_int))
    (pss_cons (ps_set (i := 6) sc_draw.nd rfl (Or.inl rfl) (pe_op Lay.op_modP (pe_callTy Lay.call_intI (by rfl) T.n_int (by decide +kernel) (pa_cons (pe_op op_pow (pe_op op_add (pe_op op_add (pe_op op_mul (pv 6) (pe_op op_add (pe_op op_mul pe_int (pv 3)) pe_int)) (pe_op op_mul (pe_op op_mul pe_int (pv 3)) (pv 3))) pe_int) pe_int) pa_nil)) pe_int))
    (pss_one (ps_ret (pe_op Lay.op_modP (pe_op Lay.op_divP (pe_callTy Lay.call_intI (by rfl) T.n_int (by decide +kernel) (pa_cons (pv 6) pa_nil)) pe_int) (pv 1)))))))))))), ?_⟩
    have pen : ∀ H' : Hp, ∀ b' l' : Int, H' p = some (.lst [.ref c, .int b', .int l']) → H' c = some (.lst (ns.map V.int)) → 0 ≤ b' → b' ≤ ((n + 1 : Nat) : Int) → 0 ≤ l' → Lay.PenAt c H' p (n + 1) :=
      fun H' b' l' e1 e2 e3 e4 e5 => ⟨ns, b', l', e1, e2, h3, e3, e4, e5⟩
    have keep1 : ∀ o, Lay.Keep p H (upd H p o) := fun o => Lay.Keep.upd
    walk_at "in"
    walk_at "rd"
    refine Lay.ite_d (fun c0 => ?_) (fun c0 => ?_)
    · walk_at "rd"
      refine Lay.rd_modP hm (fun d0 e0 d1 d2 => ?_)
      walk_at "rd"
      refine Lay.rd_divP ⟨hm, hm2⟩ (fun d3 e3 => ?_)
      walk_at "rd"
      exact k _ _ d1 d2 (pen _ _ _ upd_same (by rw [upd_ne hc]; exact h2) h4 (by omega) (by rw [e3]; exact Int.ediv_nonneg h6 (by omega))) (keep1 _)
    · walk_at "rd"
      have hc1 : ∀ o, upd H p o c = some (.lst (ns.map V.int)) := fun o => by rw [upd_ne hc]; exact h2
      refine ⟨fun σ' H' => ∃ v : Int, σ' = [some (V.ref p), some (V.int m), none, some (V.int b), some (V.int v), none, none] ∧ H' p = some (.lst [.ref c, .int (b + 1), .int l]) ∧ H' c = some (.lst (ns.map V.int)) ∧ Lay.Keep p H H', ?_, ?_⟩
      · walk_at "rd"
        refine ⟨by decide, fun q hq => ?_⟩
        have q1 : (upd (upd H p (HO.lst [V.ref c, V.int (b + 1), V.int l])) q (.lst [])) c = some (.lst (ns.map V.int)) := Lay.upd_old hq (hc1 _)
        have q2 : (upd (upd H p (HO.lst [V.ref c, V.int (b + 1), V.int l])) q (.lst [])) p = some (.lst [.ref c, .int (b + 1), .int l]) := Lay.upd_old hq upd_same
        have q3 : Lay.Keep p H (upd (upd H p (HO.lst [V.ref c, V.int (b + 1), V.int l])) q (.lst [])) := (keep1 _).trans (Lay.Keep.of (Lay.Same.upd hq))
        refine Lay.rd_ne_nil (SqL.of q1) (SqL.of upd_same) (fun hne => ?_) (fun hne => ?_)
        · walk_at "rd"
          refine iteT ?_
          walk_at "rd"
          have hl : 0 < (ns.map V.int).length := by
            cases ns with
            | nil => exact absurd rfl hne
            | cons a r => simp
          refine Lay.rd_modP (by omega) (fun d0 e0 d1 d2 => ?_)
          have hd : d0.toNat < ns.length := by rw [List.length_map] at d2; omega
          refine Lay.rd_ixL (SqL.of q1) (v := .int ns[d0.toNat]) ?_ ?_
          · exact Lay.atI_int d1 (by rw [List.getElem?_map, List.getElem?_eq_getElem hd]; rfl)
          walk_at "rd"
          exact ⟨_, rfl, q2, q1, q3⟩
        · walk_at "rd"
          refine iteF ?_
          walk_at "rd"
          exact ⟨_, rfl, q2, q1, q3⟩
      · rintro σ' H' ⟨v, rfl, p1, p2, p3⟩
        have fin : (tSeq
            (tAsg (tOp Lay.rModP (tCB Lay.rInt1 (tCons (tOp (rI CPow fun i j => V.int (i ^ j.toNat)) (tOp (rI0 fun i j => V.int (i + j)) (tOp (rI0 fun i j => V.int (i + j)) (tOp Lay.rModP (tCB Lay.rInt1 (tCons (tVar 4) tNil)) (tC (V.int 2147483579))) (tOp (rI CMul fun i j => V.int (i * j)) (tC (V.int 40813)) (tVar 3))) (tC (V.int 41))) (tC (V.int 5))) tNil)) (tC (V.int 2147483647))) (gName 6))
            (tSeq
            (tAsg (tOp Lay.rModP (tCB Lay.rInt1 (tCons (tOp (rI CPow fun i j => V.int (i ^ j.toNat)) (tOp (rI0 fun i j => V.int (i + j)) (tOp (rI0 fun i j => V.int (i + j)) (tOp (rI CMul fun i j => V.int (i * j)) (tVar 6) (tOp (rI0 fun i j => V.int (i + j)) (tOp (rI CMul fun i j => V.int (i * j)) (tC (V.int 2)) (tVar 3)) (tC (V.int 37)))) (tOp (rI CMul fun i j => V.int (i * j)) (tOp (rI CMul fun i j => V.int (i * j)) (tC (V.int 70001)) (tVar 3)) (tVar 3))) (tC (V.int 13))) (tC (V.int 3))) tNil)) (tC (V.int 2147483563))) (gName 6))
            (tRet (tOp Lay.rModP (tOp Lay.rDivP (tCB Lay.rInt1 (tCons (tVar 6) tNil)) (tC (V.int 32))) (tVar 1))))) { nx := fun x H' => Q V.non H', rt := Q } [some (V.ref p), some (V.int m), none, some (V.int b), some (V.int v), none, none] H' := by
          walk_at "rd"
          refine Lay.rd_modP (by decide) (fun d0 e0 d1 d2 => ?_)
          walk_at "rd"
          refine Lay.rd_modP (by decide) (fun d3 e3 d4 d5 => ?_)
          walk_at "rd"
          refine Lay.rd_I (Lay.mix_ok d4 (by omega) h4 (by omega) (by decide) (by decide) (by decide) (by decide) (by decide) (by decide) (by decide) (by decide)) ?_
          walk_at "rd"
          refine Lay.rd_modP (by decide) (fun d6 e6 d7 d8 => ?_)
          walk_at "rd"
          refine Lay.rd_divP ⟨by decide, by decide⟩ (fun d9 e9 => ?_)
          walk_at "rd"
          refine Lay.rd_modP hm (fun d10 e10 d11 d12 => ?_)
          exact k _ _ d11 d12 (pen _ _ _ p1 p2 (by omega) (by omega) h6) p3
        walk_at "rd"
        refine Lay.ite_d (fun c1 => ?_) (fun c1 => ?_)
        · walk_at "rd"
          refine Lay.ite_d (fun c2 => ?_) (fun c2 => ?_)
          · walk_at "rd"
            refine Lay.rd_divP ⟨hm, hm2⟩ (fun d3 e3 => ?_)
            walk_at "rd"
            refine Lay.rd_modP hm (fun d4 e4 d5 d6 => ?_)
            refine k _ _ d5 d6 (pen _ _ _ upd_same (by rw [upd_ne hc]; exact p2) (by omega) (by omega) ?_) (p3.trans Lay.Keep.upd)
            rw [e3]
            refine Int.ediv_nonneg ?_ (by omega)
            have : (0 : Int) ≤ (if decide (v < 0) = true then 1 else 0) := by split <;> decide
            have c2' : (10 : Int) ^ 18 ≤ (if v < 0 then -v else v) := c2
            have : (0 : Int) ≤ (if v < 0 then -v else v) - 10 ^ 18 := by omega
            show (0 : Int) ≤ 2 * ((if v < 0 then -v else v) - 10 ^ 18) + (if decide (v < 0) = true then 1 else 0)
            omega
          · exact fin
        · exact fin
theorem ok_all (T : Txt K mg A) : FnOk P w K mg base CX0 9 A.a_law A.d_law ["_law_script"] (spLaw K) := by
  have G1 := ok_is_integer (P := P) (w := w) (base := base) T
  have G2 := ok_is_within (P := P) (w := w) (base := base) T G1
  have G3 := ok_is_name (P := P) (w := w) (base := base) T
  have G4 := ok_is_memory_step (P := P) (w := w) (base := base) T (G_is_within := G2) (G_is_name := G3)
  have G5 := ok_is_step (P := P) (w := w) (base := base) T (G_is_memory_step := G4) (G_is_name := G3)
  have G6 := ok_check_agent (P := P) (w := w) (base := base) T (G_is_name := G3) (G_is_step := G5)
  have I1 := ok_Agent_init (P := P) (w := w) (base := base) T G6
  have I2 := ok_Through_init (P := P) (w := w) (base := base) T G6
  have I3 := ok_Back_init (P := P) (w := w) (base := base) T G6
  have M1 := ok_Agent_may (P := P) (w := w) (base := base) T
  have M2 := ok_Through_may (P := P) (w := w) (base := base) T
  have M3 := ok_Back_may (P := P) (w := w) (base := base) T
  have D1 := ok_draw (P := P) (w := w) (base := base) T
  have D2 := ok_pen (P := P) (w := w) (base := base) T
  have D3 := ok_thing (P := P) (w := w) (base := base) T D1
  have D4 := ok_word (P := P) (w := w) (base := base) T D1 D3
  have R1 := ok_right_Agent (P := P) (w := w) (base := base) T M1
  have R2 := ok_right_Through (P := P) (w := w) (base := base) T M2
  have R3 := ok_right_Back (P := P) (w := w) (base := base) T M3
  have F1 := ok_family (P := P) (w := w) (base := base) T D1 D4 I1 I2 I3 R1 R2 R3
  exact ok_law T D2 F1
theorem walk {l : PySem.W.OpenLaw} {q : Program} {loose : List Str} {XP : (Str → Option Value) → Heap → Prop} {YP : World → Heap → Prop} {d : DefRec} {K : Params → PySem.W.Frag} (hn : l.most = some 63) (hdf : d.params.defaults = [])
    (hY : ∀ (w : World) (h : Heap), YP w h → (K w.params).In h)
    (F : ∀ (w : World) (mg : Str → Option Value) (fa : Addr) (h : Heap), (K w.params).In h → h.Ns mainGlobals mg → mg d.name = some (.ref fa) →
      ∃ fd : FuncData, (∀ (s : Shared) (u : Value), BindsTo s fd ⟨[u], []⟩ [("_law_script", u)]) ∧ ∀ base : Heap, (K w.params).In base → base.Ns mainGlobals mg → FnOk l.prog w (K w.params) mg base CX0 9 fa fd ["_law_script"] (spLaw (K w.params))) :
    PySem.W.WalkO q loose XP YP l.row.toRowW d [] (fun f vs => PySem.call f vs) :=
  L2.walk_of (n := 63) (k := 9) (x := "_law_script") (CX := fun _ => CX0) (sp := fun w => spLaw (K w.params)) hn (by decide) hdf ⟨rfl, by decide, by decide⟩ hY F (fun _ _ a ns hl _ hS => ⟨a, ns, rfl, hS, hl, fun _ => rfl⟩) fun _ _ _ _ _ z => z
theorem use {P : Program} {w : World} {K : PySem.W.Frag} {mg : Str → Option Value} {fa : Addr} (h : ∃ A : Adr, Txt K mg A) (hmg : mg "law" = some (.ref fa)) :
    ∃ fd : FuncData, (∀ (s : Shared) (u : Value), BindsTo s fd ⟨[u], []⟩ [("_law_script", u)]) ∧ ∀ base : Heap, K.In base → base.Ns mainGlobals mg → FnOk P w K mg base CX0 9 fa fd ["_law_script"] (spLaw K) := by
  obtain ⟨A, T⟩ := h
  have e := hmg.symm.trans T.g_law
  cases e
  obtain ⟨oc, od, kV, doc, pm, an, cdv, ct, osl, hfd, lk, hcd⟩ := T.F_law.ex
  refine ⟨A.d_law, fun s u => ?_, fun base _ _ => ok_all T⟩
  rw [hfd]
  exact .of_eq rfl
end
end My
set_option maxRecDepth 100000 in
set_option maxHeartbeats 0 in
theorem PySem.Challenge.cw_unkeptlines_k05_words_allowed_holds : PySem.Challenge.rw_unkeptlines_k05_words_allowed.Holds := by
  w_on; o_law; k_head; (case hw => w_witness2)
  k_fill
  refine My.walk (l := PySem.Challenge.rw_unkeptlines_k05_words_allowed) rfl rfl (fun w h Y => PySem.W.kIn_of Y) ?F
  case F =>
    intro w mg fa h KX G hmg
    refine My.use ?_ hmg
    refine' My.all_mk KX G ?a_Agent ?pg_Agent ?hd_Agent ?po_Agent ?sa_Agent ?na_Agent_name ?na_Agent_steps ?mk_Agent ?kc_Agent ?a_Through ?pg_Through ?hd_Through ?po_Through ?sa_Through ?na_Through_name ?na_Through_steps ?mk_Through ?kc_Through ?a_Back ?pg_Back ?hd_Back ?po_Back ?sa_Back ?na_Back_name ?na_Back_steps ?mk_Back ?kc_Back ?gg ?tk ?ci_Agent ?mo_Agent ?co_Agent ?cg_Agent ?cb_Agent ?ch_Agent ?rd_Agent ?ga_Agent ?cv_Agent ?cw_Agent ?ci_Through ?mo_Through ?co_Through ?cg_Through ?cb_Through ?ch_Through ?rd_Through ?ga_Through ?cv_Through ?cw_Through ?ci_Back ?mo_Back ?co_Back ?cg_Back ?cb_Back ?ch_Back ?rd_Back ?ga_Back ?cv_Back ?cw_Back ?ty_Agent ?ss_Agent ?ty_Through ?ss_Through ?ty_Back ?ss_Back ?sb_Agent_Through ?sb_Through_Back ?sb_Back_Through ?sb_Back_Agent ?sb_Through_Agent ?n_list ?n_int ?n_len ?n_abs ?n_isinstance ?n_str ?n_bool ?n_tuple ?n_all ?n_enumerate ?n_range ?a_is_integer ?l_is_integer ?e_is_integer ?p_is_integer ?a_is_within ?l_is_within ?e_is_within ?p_is_within ?a_is_name ?l_is_name ?e_is_name ?p_is_name ?a_is_step ?l_is_step ?e_is_step ?p_is_step ?a_is_memory_step ?l_is_memory_step ?e_is_memory_step ?p_is_memory_step ?a_check_agent ?l_check_agent ?e_check_agent ?p_check_agent ?a_Agent_init ?i_Agent_init ?l_Agent_init ?e_Agent_init ?p_Agent_init ?a_Agent_may ?i_Agent_may ?l_Agent_may ?e_Agent_may ?p_Agent_may ?a_Through_init ?i_Through_init ?l_Through_init ?e_Through_init ?p_Through_init ?a_Through_may ?i_Through_may ?l_Through_may ?e_Through_may ?p_Through_may ?a_Back_init ?i_Back_init ?l_Back_init ?e_Back_init ?p_Back_init ?a_Back_may ?i_Back_may ?l_Back_may ?e_Back_may ?p_Back_may ?a_pen ?l_pen ?e_pen ?p_pen ?a_draw ?l_draw ?e_draw ?p_draw ?a_thing ?l_thing ?e_thing ?p_thing ?a_word ?l_word ?e_word ?p_word ?a_right ?l_right ?e_right ?p_right ?a_family ?l_family ?e_family ?p_family ?a_law ?l_law ?e_law ?p_law ?k_LETTERS ?k_LONGEST_NAME ?k_ACCESS_WORDS ?lk_ACCESS_WORDS ?oc_ACCESS_WORDS ?od_ACCESS_WORDS ?oz_ACCESS_WORDS ?ov_ACCESS_WORDS ?k_UPKEEP_WORDS ?lk_UPKEEP_WORDS ?oc_UPKEEP_WORDS ?od_UPKEEP_WORDS ?oz_UPKEEP_WORDS ?ov_UPKEEP_WORDS ?k_SIGNAL_WORDS ?lk_SIGNAL_WORDS ?oc_SIGNAL_WORDS ?od_SIGNAL_WORDS ?oz_SIGNAL_WORDS ?ov_SIGNAL_WORDS ?k_PLAIN_WORDS ?lk_PLAIN_WORDS ?oc_PLAIN_WORDS ?od_PLAIN_WORDS ?oz_PLAIN_WORDS ?ov_PLAIN_WORDS ?k_CACHE_WORDS ?lk_CACHE_WORDS ?oc_CACHE_WORDS ?od_CACHE_WORDS ?oz_CACHE_WORDS ?ov_CACHE_WORDS ?k_GREATEST_SHIFT ?k_GREATEST_BYTE ?k_MOST_STEPS
    (case a_Agent => k_is)
    (case pg_Agent => k_is)
    (case hd_Agent => k_is)
    (case po_Agent => k_is)
    (case sa_Agent => k_is)
    (case na_Agent_name => k_is)
    (case na_Agent_steps => k_is)
    (case mk_Agent => k_is)
    (case kc_Agent => k_is)
    (case a_Through => k_is)
    (case pg_Through => k_is)
    (case hd_Through => k_is)
    (case po_Through => k_is)
    (case sa_Through => k_is)
    (case na_Through_name => k_is)
    (case na_Through_steps => k_is)
    (case mk_Through => k_is)
    (case kc_Through => k_is)
    (case a_Back => k_is)
    (case pg_Back => k_is)
    (case hd_Back => k_is)
    (case po_Back => k_is)
    (case sa_Back => k_is)
    (case na_Back_name => k_is)
    (case na_Back_steps => k_is)
    (case mk_Back => k_is)
    (case kc_Back => k_is)
    (case gg => k_is)
    (case tk => k_is)
    (case ci_Agent => k_is)
    (case mo_Agent => k_is)
    (case co_Agent => k_is)
    (case cg_Agent => k_is)
    (case cb_Agent => k_is)
    (case ch_Agent => k_is)
    (case rd_Agent => k_is)
    (case ga_Agent => k_is)
    (case cv_Agent => k_is)
    (case cw_Agent => k_is)
    (case ci_Through => k_is)
    (case mo_Through => k_is)
    (case co_Through => k_is)
    (case cg_Through => k_is)
    (case cb_Through => k_is)
    (case ch_Through => k_is)
    (case rd_Through => k_is)
    (case ga_Through => k_is)
    (case cv_Through => k_is)
    (case cw_Through => k_is)
    (case ci_Back => k_is)
    (case mo_Back => k_is)
    (case co_Back => k_is)
    (case cg_Back => k_is)
    (case cb_Back => k_is)
    (case ch_Back => k_is)
    (case rd_Back => k_is)
    (case ga_Back => k_is)
    (case cv_Back => k_is)
    (case cw_Back => k_is)
    (case ty_Agent => k_is)
    (case ss_Agent => k_is)
    (case ty_Through => k_is)
    (case ss_Through => k_is)
    (case ty_Back => k_is)
    (case ss_Back => k_is)
    (case sb_Agent_Through => k_is)
    (case sb_Through_Back => k_is)
    (case sb_Back_Through => k_is)
    (case sb_Back_Agent => k_is)
    (case sb_Through_Agent => k_is)
    (case n_list => k_is)
    (case n_int => k_is)
    (case n_len => k_is)
    (case n_abs => k_is)
    (case n_isinstance => k_is)
    (case n_str => k_is)
    (case n_bool => k_is)
    (case n_tuple => k_is)
    (case n_all => k_is)
    (case n_enumerate => k_is)
    (case n_range => k_is)
    (case a_is_integer => k_is)
    (case a_is_within => k_is)
    (case a_is_name => k_is)
    (case a_is_step => k_is)
    (case a_is_memory_step => k_is)
    (case a_check_agent => k_is)
    (case a_pen => k_is)
    (case a_draw => k_is)
    (case a_thing => k_is)
    (case a_word => k_is)
    (case a_right => k_is)
    (case a_family => k_is)
    (case a_law => k_is)
    (case l_is_integer => k_is)
    (case e_is_integer => k_is)
    (case p_is_integer => k_is)
    (case l_is_within => k_is)
    (case e_is_within => k_is)
    (case p_is_within => k_is)
    (case l_is_name => k_is)
    (case e_is_name => k_is)
    (case p_is_name => k_is)
    (case l_is_step => k_is)
    (case e_is_step => k_is)
    (case p_is_step => k_is)
    (case l_is_memory_step => k_is)
    (case e_is_memory_step => k_is)
    (case p_is_memory_step => k_is)
    (case l_check_agent => k_is)
    (case e_check_agent => k_is)
    (case p_check_agent => k_is)
    (case a_Agent_init => k_is)
    (case i_Agent_init => k_is)
    (case l_Agent_init => k_is)
    (case e_Agent_init => k_is)
    (case p_Agent_init => k_is)
    (case a_Agent_may => k_is)
    (case i_Agent_may => k_is)
    (case l_Agent_may => k_is)
    (case e_Agent_may => k_is)
    (case p_Agent_may => k_is)
    (case a_Through_init => k_is)
    (case i_Through_init => k_is)
    (case l_Through_init => k_is)
    (case e_Through_init => k_is)
    (case p_Through_init => k_is)
    (case a_Through_may => k_is)
    (case i_Through_may => k_is)
    (case l_Through_may => k_is)
    (case e_Through_may => k_is)
    (case p_Through_may => k_is)
    (case a_Back_init => k_is)
    (case i_Back_init => k_is)
    (case l_Back_init => k_is)
    (case e_Back_init => k_is)
    (case p_Back_init => k_is)
    (case a_Back_may => k_is)
    (case i_Back_may => k_is)
    (case l_Back_may => k_is)
    (case e_Back_may => k_is)
    (case p_Back_may => k_is)
    (case l_pen => k_is)
    (case e_pen => k_is)
    (case p_pen => k_is)
    (case l_draw => k_is)
    (case e_draw => k_is)
    (case p_draw => k_is)
    (case l_thing => k_is)
    (case e_thing => k_is)
    (case p_thing => k_is)
    (case l_word => k_is)
    (case e_word => k_is)
    (case p_word => k_is)
    (case l_right => k_is)
    (case e_right => k_is)
    (case p_right => k_is)
    (case l_family => k_is)
    (case e_family => k_is)
    (case p_family => k_is)
    (case l_law => k_is)
    (case e_law => k_is)
    (case p_law => k_is)
    (case k_LETTERS => k_is)
    (case k_LONGEST_NAME => k_is)
    (case k_ACCESS_WORDS => k_is)
    (case lk_ACCESS_WORDS => k_is)
    (case oc_ACCESS_WORDS => exact rfl)
    (case od_ACCESS_WORDS => exact rfl)
    (case oz_ACCESS_WORDS => exact (by decide))
    (case ov_ACCESS_WORDS => exact Paired.cons ⟨_, rfl⟩ (Paired.cons ⟨_, rfl⟩ (Paired.cons ⟨_, rfl⟩ (Paired.cons ⟨_, rfl⟩ (Paired.nil)))))
    (case k_UPKEEP_WORDS => k_is)
    (case lk_UPKEEP_WORDS => k_is)
    (case oc_UPKEEP_WORDS => exact rfl)
    (case od_UPKEEP_WORDS => exact rfl)
    (case oz_UPKEEP_WORDS => exact (by decide))
    (case ov_UPKEEP_WORDS => exact Paired.cons ⟨_, rfl⟩ (Paired.cons ⟨_, rfl⟩ (Paired.cons ⟨_, rfl⟩ (Paired.nil))))
    (case k_SIGNAL_WORDS => k_is)
    (case lk_SIGNAL_WORDS => k_is)
    (case oc_SIGNAL_WORDS => exact rfl)
    (case od_SIGNAL_WORDS => exact rfl)
    (case oz_SIGNAL_WORDS => exact (by decide))
    (case ov_SIGNAL_WORDS => exact Paired.cons ⟨_, rfl⟩ (Paired.cons ⟨_, rfl⟩ (Paired.nil)))
    (case k_PLAIN_WORDS => k_is)
    (case lk_PLAIN_WORDS => k_is)
    (case oc_PLAIN_WORDS => exact rfl)
    (case od_PLAIN_WORDS => exact rfl)
    (case oz_PLAIN_WORDS => exact (by decide))
    (case ov_PLAIN_WORDS => exact Paired.cons ⟨_, rfl⟩ (Paired.cons ⟨_, rfl⟩ (Paired.cons ⟨_, rfl⟩ (Paired.cons ⟨_, rfl⟩ (Paired.nil)))))
    (case k_CACHE_WORDS => k_is)
    (case lk_CACHE_WORDS => k_is)
    (case oc_CACHE_WORDS => exact rfl)
    (case od_CACHE_WORDS => exact rfl)
    (case oz_CACHE_WORDS => exact (by decide))
    (case ov_CACHE_WORDS => exact Paired.cons ⟨_, rfl⟩ (Paired.cons ⟨_, rfl⟩ (Paired.cons ⟨_, rfl⟩ (Paired.cons ⟨_, rfl⟩ (Paired.cons ⟨_, rfl⟩ (Paired.cons ⟨_, rfl⟩ (Paired.cons ⟨_, rfl⟩ (Paired.cons ⟨_, rfl⟩ (Paired.cons ⟨_, rfl⟩ (Paired.nil))))))))))
    (case k_GREATEST_SHIFT => k_is)
    (case k_GREATEST_BYTE => k_is)
    (case k_MOST_STEPS => k_is)
