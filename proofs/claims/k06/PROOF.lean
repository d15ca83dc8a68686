import PyProof.Rows.All
import Wide.All
import OpenK.AllK
import Wide.FinOn
import HandS.ForMost
import HandS.Exc
import HandS.Walk
import HandS.IsInst
import HandS.Star
import HandS.ClsMeth
import HandS.Style
import HandS.OwnEq
import HandS.Strs
import HandS.TupAny
import HandS.Evl
import KE.GoesEnum
import HandS.SlotsOwn
import HandS.More
import PySem.Challenge.RW_unkeptlines_k06_agents_kept
set_option Elab.async false
set_option linter.all false
set_option maxRecDepth 100000
set_option maxHeartbeats 4000000
namespace Lay
open PySem L2
theorem upd_old {H : Hp} {p a : Addr} {o u : HO} (hp : H p = none) (ha : H a = some u) : upd H p o a = some u := by
  rw [upd_ne (ne_of_none ha hp)]; exact ha
/-- all that was tracked but p is as it was -/
def Keep (p : Addr) (H H' : Hp) : Prop := ∀ b o, b ≠ p → H b = some o → H' b = some o
theorem Keep.refl {p : Addr} {H : Hp} : Keep p H H := fun _ _ _ h => h
theorem Keep.trans {p : Addr} {H H1 H2 : Hp} (a : Keep p H H1) (b : Keep p H1 H2) : Keep p H H2 := fun c o n h => b c o n (a c o n h)
theorem Keep.of {p : Addr} {H H1 : Hp} (a : Same H H1) : Keep p H H1 := fun c o _ h => a c o h
theorem Keep.upd {p : Addr} {H : Hp} {o : HO} : Keep p H (upd H p o) := fun c u n h => by rw [upd_ne n]; exact h
theorem Same.upd {H : Hp} {p : Addr} {o : HO} (h : H p = none) : Same H (upd H p o) := fun _ _ e => upd_old h e
theorem Same.upd' {H H1 : Hp} {p : Addr} {o : HO} (s : Same H H1) (h : H1 p = none) : Same H (L2.upd H1 p o) := s.trans (Same.upd h)
/-- the pen: its cells, how many draws were begun (at most n), what is left -/
def PenAt (c : Addr) (H : Hp) (p : Addr) (n : Nat) : Prop := ∃ (ns : List Int) (b l : Int), H p = some (.lst [.ref c, .int b, .int l]) ∧ H c = some (.lst (ns.map V.int)) ∧ ns.length ≤ 63 ∧ 0 ≤ b ∧ b ≤ n ∧ 0 ≤ l
theorem PenAt.mono {c : Addr} {H H' : Hp} {p : Addr} {n : Nat} (s : Same H H') (h : PenAt c H p n) : PenAt c H' p n := by
  obtain ⟨ns, b, l, h1, h2, r⟩ := h
  exact ⟨ns, b, l, s _ _ h1, s _ _ h2, r⟩
theorem PenAt.le {c : Addr} {H : Hp} {p : Addr} {n m : Nat} (h : PenAt c H p n) (e : n ≤ m) : PenAt c H p m := by
  obtain ⟨ns, b, l, h1, h2, h3, h4, h5, h6⟩ := h
  exact ⟨ns, b, l, h1, h2, h3, h4, by omega, h6⟩
/-- a draw -/
def spDraw : Sp := fun vs H Q _ => ∃ (p : Addr) (m : Int) (n : Nat) (c : Addr), vs = [.ref p, .int m] ∧ PenAt c H p n ∧ n < 100000 ∧ 0 < m ∧ m < 1073741824 ∧
  ∀ (d : Int) (H' : Hp), 0 ≤ d → d < m → PenAt c H' p (n + 1) → Keep p H H' → Q (.int d) H'
/-- the pen is made -/
def spPen (K : PySem.W.Frag) : Sp := fun vs H Q _ => ∃ (a : Addr) (ns : List Int), vs = [.ref a] ∧ SqL K H a (ns.map V.int) ∧ ns.length ≤ 63 ∧
  ∀ (c p : Addr) (H' : Hp), H p = none → PenAt c H' p 0 → Same H H' → Q (.ref p) H'

/-! ### readings, a step a rule -/
section
variable {K : PySem.W.Frag} {σ : St} {H : Hp} {Q : VK} {ta tb tc te : TE} {t u : TT} {D : Ends} {ts us : TS} {v x y : V} {i j : Int} {n : Nat} {tA : TA} {QA : List V → Hp → Prop} {QT : Bool → Hp → Prop} {E : XK}
theorem rd_seq (h : ts { D with nx := us D } σ H) : tSeq ts us D σ H := h
theorem rd_asg {g : TG} (h : te σ H fun x H1 => g x σ H1 D.nx) : tAsg te g D σ H := h
theorem rd_ifS (h : t σ H fun b H1 => if b = true then ts D σ H1 else us D σ H1) : tIfS t ts us D σ H := h
theorem rd_ret (h : te σ H D.rt) : tRet te D σ H := h
theorem rd_retN (h : D.rt .non H) : tRetN D σ H := h
theorem rd_next (h : D.nx σ H) : tNext D σ H := h
theorem rd_drop (h : te σ H fun _ H1 => D.nx σ H1) : tDrop te D σ H := h
theorem rd_name (h : R (σ.set n (some v)) H) : gName n v σ H R := h
theorem rd_sub {g : TSet} {R : St → Hp → Prop} (h : ta σ H fun o H1 => tb σ H1 fun i H2 => g o i v H2 fun H3 => R σ H3) : gSub ta tb g v σ H R := h
theorem rd_var (h : σ[n]? = some (some v)) (q : Q v H) : tVar n σ H Q := ⟨v, h, q⟩
theorem rd_c (q : Q v H) : tC v σ H Q := q
theorem rd_op {r : R2} (h : ta σ H fun x H1 => tb σ H1 fun y H2 => r x y H2 Q) : tOp r ta tb σ H Q := h
theorem rd_un {r : V → Hp → VK → Prop} (h : ta σ H fun x H1 => r x H1 Q) : tUn r ta σ H Q := h
theorem rd_I0 {g : Int → Int → V} (q : Q (g i j) H) : rI0 g (.int i) (.int j) H Q := ⟨i, j, rfl, rfl, q⟩
theorem rd_I {C : Int → Int → Prop} {g : Int → Int → V} (hc : C i j) (q : Q (g i j) H) : rI C g (.int i) (.int j) H Q := ⟨i, j, rfl, rfl, hc, q⟩
theorem rd_U {g : Int → V} (q : Q (g i) H) : rU g (.int i) H Q := ⟨i, rfl, q⟩
theorem rd_eq (hs : scal x y = true) (q : Q (.bl (decide (x = y))) H) : rEq x y H Q := ⟨hs, q⟩
theorem rd_ne (hs : scal x y = true) (q : Q (.bl (!decide (x = y))) H) : rNe x y H Q := ⟨hs, q⟩
theorem rd_ixL {p : Addr} {xs : List V} (h : SqL K H p xs) (ha : atI xs i = some v) (q : Q v H) : rIxL K (.ref p) (.int i) H Q := ⟨p, xs, i, v, rfl, rfl, h, ha, q⟩
theorem rd_ixT {p : Addr} {xs : List V} (h : SqT K H p xs) (ha : atI xs i = some v) (q : Q v H) : rIxT K (.ref p) (.int i) H Q := ⟨p, xs, i, v, rfl, rfl, h, ha, q⟩
theorem rd_setL {p : Addr} {xs : List V} {k : Nat} {R : Hp → Prop} (h : H p = some (.lst xs)) (ha : ixN xs.length i = some k) (q : R (upd H p (.lst (xs.set k v)))) : rSetL (.ref p) (.int i) v H R := ⟨p, xs, i, k, rfl, rfl, h, ha, q⟩
theorem rd_tup (h : tA σ H fun xs H1 => xs.length ≤ sizeLine ∧ ∀ p, H1 p = none → Q (.ref p) (upd H1 p (.tup xs))) : tTup tA σ H Q := h
theorem rd_lst (h : tA σ H fun xs H1 => xs.length ≤ sizeLine ∧ ∀ p, H1 p = none → Q (.ref p) (upd H1 p (.lst xs))) : tLst tA σ H Q := h
theorem rd_cons (h : ta σ H fun x H1 => tA σ H1 fun xs H2 => QA (x :: xs) H2) : tCons ta tA σ H QA := h
theorem rd_nil (h : QA [] H) : tNil σ H QA := h
theorem rd_star (h : ta σ H fun x H1 => ∃ p xs, x = V.ref p ∧ (SqT K H1 p xs ∨ SqL K H1 p xs) ∧ tA σ H1 fun ys H2 => QA (xs ++ ys) H2) : StX.tStar K ta tA σ H QA := h
theorem rd_call {sp : Sp} {dvs : List V} (h : tA σ H fun vs H1 => sp (vs ++ dvs) H1 Q E) : tCall sp dvs E tA σ H Q := h
theorem rd_CB {r : List V → Hp → VK → Prop} (h : tA σ H fun vs H1 => r vs H1 Q) : tCB r tA σ H Q := h
theorem rd_test (h : ta σ H fun x H' => ∃ k, x = .bl k ∧ QT k H') : tTest ta σ H QT := h
theorem rd_tB (h : ta σ H fun x H' => ∃ k, x = .bl k ∧ QT k H') : tB ta σ H QT := h
theorem rd_and (h : t σ H fun c H1 => if c = true then u σ H1 QT else QT false H1) : tAnd t u σ H QT := h
theorem rd_or (h : t σ H fun c H1 => if c = true then QT true H1 else u σ H1 QT) : tOr t u σ H QT := h
theorem rd_not (h : t σ H fun c H1 => QT (!c) H1) : tNot t σ H QT := h
theorem rd_andV (h : ta σ H fun x H1 => ∃ c, x = .bl c ∧ if c = true then tb σ H1 Q else Q (.bl false) H1) : tAndV ta tb σ H Q := h
theorem rd_orV (h : ta σ H fun x H1 => ∃ c, x = .bl c ∧ if c = true then Q (.bl true) H1 else tb σ H1 Q) : tOrV ta tb σ H Q := h
theorem rd_notV (h : ta σ H fun x H1 => ∃ c, x = .bl c ∧ Q (.bl (!c)) H1) : tNotV ta σ H Q := h
theorem rd_tIf (h : t σ H fun c H1 => if c = true then ta σ H1 Q else tb σ H1 Q) : tIf t ta tb σ H Q := h
theorem rd_fld {a C dx : Addr} {fs : List (Str × V)} {f : Str} (h : ta σ H fun x H1 => ∃ a C dx fs v, x = .ref a ∧ H1 a = some (.ins C dx fs) ∧ Cls K C ∧ NoAttr K C f ∧ fs.lookup f = some v ∧ Q v H1) : tFld K ta f σ H Q := h
theorem rd_slL {p : Addr} {xs : List V} {lo hi : Option Int} (h : SqL K H p xs) (q : ∀ r, H r = none → Q (.ref r) (upd H r (.lst (cutV xs lo hi)))) : rSlL K (.ref p) lo hi H Q := ⟨p, xs, rfl, h, q⟩
theorem rd_sl {r : V → Option Int → Option Int → Hp → VK → Prop} {tl th : TO} (h : te σ H fun x H1 => tl σ H1 fun l H2 => th σ H2 fun u H3 => r x l u H3 Q) : tSl r te tl th σ H Q := h
theorem rd_noP {QO : Option Int → Hp → Prop} (q : QO none H) : tNoPart σ H QO := q
theorem rd_part {QO : Option Int → Hp → Prop} (q : te σ H fun x H1 => ∃ i, x = .int i ∧ QO (some i) H1) : tPart te σ H QO := q
theorem rd_BM {T : String} {r : V → List V → Hp → VK → Prop} (h : ta σ H fun x H1 => tyV K T x H1 ∧ tA σ H1 fun xs H2 => r x xs H2 Q) : tBM K T r ta tA σ H Q := h
theorem rd_app {p : Addr} {xs : List V} (h : H p = some (.lst xs)) (hl : xs.length < sizeLine) (q : Q .non (upd H p (.lst (xs ++ [y])))) : rAppend (.ref p) [y] H Q := ⟨p, xs, y, rfl, rfl, h, hl, q⟩
/-! ways -/
theorem ite_d {p : Prop} [Decidable p] {A B : Prop} (h1 : p → A) (h2 : ¬ p → B) : if decide p = true then A else B := by
  by_cases c : p
  · rw [if_pos (by simpa using c)]; exact h1 c
  · rw [if_neg (by simpa using c)]; exact h2 c
theorem ite_n {p : Prop} [Decidable p] {A B : Prop} (h1 : ¬ p → A) (h2 : p → B) : if (!decide p) = true then A else B := by
  by_cases c : p
  · rw [if_neg (by simp [c])]; exact h2 c
  · rw [if_pos (by simp [c])]; exact h1 c
theorem ite_b {b : Bool} {A B : Prop} (h1 : b = true → A) (h2 : b = false → B) : if b = true then A else B := by
  cases b
  · rw [if_neg Bool.false_ne_true]; exact h2 rfl
  · rw [if_pos rfl]; exact h1 rfl
end
/-! ### built-ins by name -/
def rLenS (K : PySem.W.Frag) : List V → Hp → VK → Prop := fun xs H Q => ∃ p ys, xs = [.ref p] ∧ (SqL K H p ys ∨ SqT K H p ys) ∧ Q (.int ys.length) H
theorem call_lenS {X : Cx} : CallR X (.builtin "len") (rLenS X.K) := call_len_seq
theorem rd_lenL {K : PySem.W.Frag} {H : Hp} {Q : VK} {p : Addr} {xs : List V} (h : SqL K H p xs) (q : Q (.int xs.length) H) : rLenS K [.ref p] H Q := ⟨p, xs, rfl, .inl h, q⟩
theorem rd_lenT {K : PySem.W.Frag} {H : Hp} {Q : VK} {p : Addr} {xs : List V} (h : SqT K H p xs) (q : Q (.int xs.length) H) : rLenS K [.ref p] H Q := ⟨p, xs, rfl, .inr h, q⟩
def rInt1 : List V → Hp → VK → Prop := fun xs H Q => (∃ i, xs = [.int i] ∧ Q (.int i) H) ∨ ∃ k, xs = [.bl k] ∧ Q (.int (if k then 1 else 0)) H
theorem call_intI {X : Cx} : CallR X (.type "int") rInt1 := call_int1
theorem rd_int {H : Hp} {Q : VK} {i : Int} (q : Q (.int i) H) : rInt1 [.int i] H Q := .inl ⟨i, rfl, q⟩
theorem rd_intB {H : Hp} {Q : VK} {k : Bool} (q : Q (.int (if k then 1 else 0)) H) : rInt1 [.bl k] H Q := .inr ⟨k, rfl, q⟩
def rAbs : List V → Hp → VK → Prop := fun xs H Q => ∃ i, xs = [.int i] ∧ Q (.int (if i < 0 then -i else i)) H
theorem call_absI {X : Cx} : CallR X (.builtin "abs") rAbs := call_abs
theorem rd_abs {H : Hp} {Q : VK} {i : Int} (q : Q (.int (if i < 0 then -i else i)) H) : rAbs [.int i] H Q := ⟨i, rfl, q⟩
def rListOf (K : PySem.W.Frag) : List V → Hp → VK → Prop := fun xs H Q => ∃ p ys, xs = [.ref p] ∧ (SqL K H p ys ∨ SqT K H p ys) ∧ ∀ l, H l = none → Q (.ref l) (upd H l (.lst ys))
theorem call_listS {X : Cx} : CallR X (.type "list") (rListOf X.K) := call_list_of
theorem rd_listL {K : PySem.W.Frag} {H : Hp} {Q : VK} {p : Addr} {xs : List V} (h : SqL K H p xs) (q : ∀ l, H l = none → Q (.ref l) (upd H l (.lst xs))) : rListOf K [.ref p] H Q := ⟨p, xs, rfl, .inl h, q⟩
theorem rd_listT {K : PySem.W.Frag} {H : Hp} {Q : VK} {p : Addr} {xs : List V} (h : SqT K H p xs) (q : ∀ l, H l = none → Q (.ref l) (upd H l (.lst xs))) : rListOf K [.ref p] H Q := ⟨p, xs, rfl, .inr h, q⟩
def rTupOf (K : PySem.W.Frag) : List V → Hp → VK → Prop := fun xs H Q => ∃ p ys, xs = [.ref p] ∧ ((SqL K H p ys ∧ ∀ l, H l = none → Q (.ref l) (upd H l (.tup ys))) ∨ (SqT K H p ys ∧ Q (.ref p) H))
theorem call_tupS {X : Cx} : CallR X (.type "tuple") (rTupOf X.K) := call_tuple_of
theorem rd_tupL {K : PySem.W.Frag} {H : Hp} {Q : VK} {p : Addr} {xs : List V} (h : SqL K H p xs) (q : ∀ l, H l = none → Q (.ref l) (upd H l (.tup xs))) : rTupOf K [.ref p] H Q := ⟨p, xs, rfl, .inl ⟨h, q⟩⟩
theorem rd_tupT {K : PySem.W.Frag} {H : Hp} {Q : VK} {p : Addr} {xs : List V} (h : SqT K H p xs) (q : Q (.ref p) H) : rTupOf K [.ref p] H Q := ⟨p, xs, rfl, .inr ⟨h, q⟩⟩
def rLenStr : List V → Hp → VK → Prop := fun xs H Q => ∃ z, xs = [.str z] ∧ z.length ≤ sizeLine ∧ Q (.int z.length) H
theorem call_lenStr {X : Cx} : CallR X (.builtin "len") rLenStr := call_len_str
theorem rd_lenStr {H : Hp} {Q : VK} {z : Str} (h : z.length ≤ sizeLine) (q : Q (.int z.length) H) : rLenStr [.str z] H Q := ⟨z, rfl, h, q⟩
theorem sqL_of {K : PySem.W.Frag} {H : Hp} {a : Addr} {xs : List V} (h : H a = some (.lst xs)) : SqL K H a xs := .inl (.inl h)
theorem sqT_of {K : PySem.W.Frag} {H : Hp} {a : Addr} {xs : List V} (h : H a = some (.tup xs)) : SqT K H a xs := .inl (.inl h)
theorem sqL_upd {K : PySem.W.Frag} {H : Hp} {a p : Addr} {o : HO} {xs : List V} (hp : H p = none) (h : SqL K H a xs) : SqL K (upd H p o) a xs := (Same.upd hp).seq h
theorem same_sqT {K : PySem.W.Frag} {H H' : Hp} {a : Addr} {xs : List V} (e : Same H H') (h : SqT K H a xs) : SqT K H' a xs := by
  rcases h with (h | ⟨o, h⟩) | h
  · exact .inl (.inl (e _ _ h))
  · exact .inl (.inr ⟨o, e _ _ h⟩)
  · exact .inr h
theorem sqT_upd {K : PySem.W.Frag} {H : Hp} {a p : Addr} {o : HO} {xs : List V} (hp : H p = none) (h : SqT K H a xs) : SqT K (upd H p o) a xs := same_sqT (Same.upd hp) h

/-! ### remainders and quotients by positive numbers, as letters -/
def rModP : R2 := fun x y H Q => ∃ i j, x = .int i ∧ y = .int j ∧ 0 < j ∧ ∀ d : Int, d = i % j → 0 ≤ d → d < j → Q (.int d) H
theorem op_modP {X : Cx} : OpR X (binaryOp .Mod) rModP := fun pins s σ H x y v u Q I rx ry h => by
  obtain ⟨i, j, ex, ey, hj, q⟩ := h
  refine op_mod pins s σ H x y v u Q I rx ry ⟨i, j, ex, ey, hj, q _ rfl (Int.emod_nonneg _ (by omega)) (Int.emod_lt_of_pos _ hj)⟩
def rDivP : R2 := fun x y H Q => ∃ i j, x = .int i ∧ y = .int j ∧ (0 < j ∧ j < 1073741824) ∧ ∀ d : Int, d = i / j → Q (.int d) H
theorem op_divP {X : Cx} : OpR X (binaryOp .FloorDiv) rDivP := fun pins s σ H x y v u Q I rx ry h => by
  obtain ⟨i, j, ex, ey, hj, q⟩ := h
  exact op_fdiv pins s σ H x y v u Q I rx ry ⟨i, j, ex, ey, hj, q _ rfl⟩
theorem rd_modP {i j : Int} {H : Hp} {Q : VK} (hj : 0 < j) (q : ∀ d : Int, d = i % j → 0 ≤ d → d < j → Q (.int d) H) : rModP (.int i) (.int j) H Q := ⟨i, j, rfl, rfl, hj, q⟩
theorem rd_divP {i j : Int} {H : Hp} {Q : VK} (hj : 0 < j ∧ j < 1073741824) (q : ∀ d : Int, d = i / j → Q (.int d) H) : rDivP (.int i) (.int j) H Q := ⟨i, j, rfl, rfl, hj, q⟩
/-- a list of numbers beside an empty one -/
theorem dpAll_ints {K : PySem.W.Frag} {H : Hp} : ∀ ns : List Int, DpAll K H (ns.map V.int) (ns.map PyData.int)
  | [] => .nil
  | n :: r => .cons (.int n) (dpAll_ints r)
theorem rd_ne_nil {K : PySem.W.Frag} {H : Hp} {Q : VK} {c p : Addr} {ns : List Int} (h : SqL K H c (ns.map V.int)) (hp : SqL K H p []) (q1 : ns ≠ [] → Q (.bl true) H) (q2 : ns = [] → Q (.bl false) H) : rNeD K (.ref c) (.ref p) H Q := by
  refine ⟨.list (ns.map PyData.int), .list [], .lst h (dpAll_ints ns), .lst hp .nil, ?_, by decide, ?_⟩
  · exact PySem.W.shaped_ints ns
  · cases ns with
    | nil => exact q2 rfl
    | cons a r => exact q1 (by simp)

theorem pow_ok {a : Int} {k : Int} (hk : 0 ≤ k) (hk2 : k ≤ 1000000) (h0 : 0 ≤ a) (h1 : a < 18446744073709551616) : CPow a k := ⟨hk, hk2, by omega⟩
theorem mix_ok {x b c d e k : Int} (hx : 0 ≤ x) (hx2 : x < 4294967296) (hb : 0 ≤ b) (hb2 : b < 200000) (hc : 0 ≤ c) (hc2 : c < 1000) (hd : 0 ≤ d) (hd2 : d < 1000000) (he : 0 ≤ e) (he2 : e < 1000000) (hk : 0 ≤ k) (hk2 : k ≤ 1000000) :
    CPow (x * (2 * b + c) + d * b * b + e) k := by
  have h1 : x * (2 * b + c) ≤ 4294967296 * (2 * b + c) := Int.mul_le_mul_of_nonneg_right (by omega) (by omega)
  have h0 : 0 ≤ x * (2 * b + c) := Int.mul_nonneg hx (by omega)
  have h2 : 0 ≤ d * b := Int.mul_nonneg hd hb
  have h3 : d * b ≤ 1000000 * b := Int.mul_le_mul_of_nonneg_right (by omega) hb
  have h4 : 0 ≤ d * b * b := Int.mul_nonneg h2 hb
  have h5 : d * b * b ≤ (1000000 * 200000) * b := Int.mul_le_mul_of_nonneg_right (by omega) hb
  exact pow_ok hk hk2 (by omega) (by omega)
theorem dbb_ok {d b : Int} (hb : 0 ≤ b) (hb2 : b < 200000) (hd : 0 ≤ d) (hd2 : d < 1000000) : CMul (d * b) b := .inr ⟨by omega, by omega⟩

theorem rd_exb {b : Bool} {P : Bool → Prop} (q : P b) : ∃ k, V.bl b = V.bl k ∧ P k := ⟨b, rfl, q⟩
theorem rd_exi {b : Int} {P : Int → Prop} (q : P b) : ∃ k, V.int b = V.int k ∧ P k := ⟨b, rfl, q⟩

theorem atI_int {α : Type} {xs : List α} {d : Int} {v : α} (h0 : 0 ≤ d) (h : xs[d.toNat]? = some v) : atI xs d = some v := by
  have q := atI_nat h
  rw [Int.toNat_of_nonneg h0] at q
  exact q
theorem rd_exs {z : Str} {P : Str → Prop} (q : P z) : ∃ k, V.str z = V.str k ∧ P k := ⟨z, rfl, q⟩
theorem rd_exr {a : Addr} {P : Addr → Prop} (q : P a) : ∃ k, V.ref a = V.ref k ∧ P k := ⟨a, rfl, q⟩
theorem rd_eqI {i j : Int} {H : Hp} {Q : VK} (q : Q (.bl (decide (i = j))) H) : rEq (.int i) (.int j) H Q := ⟨rfl, by
  rw [show decide (V.int i = V.int j) = decide (i = j) from by
    by_cases h : i = j
    · rw [decide_eq_true h, h]; exact decide_eq_true rfl
    · rw [decide_eq_false h]; exact decide_eq_false fun z => h (V.int.inj z)]
  exact q⟩
theorem rd_neI {i j : Int} {H : Hp} {Q : VK} (q : Q (.bl (!decide (i = j))) H) : rNe (.int i) (.int j) H Q := ⟨rfl, by
  rw [show decide (V.int i = V.int j) = decide (i = j) from by
    by_cases h : i = j
    · rw [decide_eq_true h, h]; exact decide_eq_true rfl
    · rw [decide_eq_false h]; exact decide_eq_false fun z => h (V.int.inj z)]
  exact q⟩
theorem rd_eqS {i j : Str} {H : Hp} {Q : VK} (q : Q (.bl (decide (i = j))) H) : rEq (.str i) (.str j) H Q := ⟨rfl, by
  rw [show decide (V.str i = V.str j) = decide (i = j) from by
    by_cases h : i = j
    · rw [decide_eq_true h, h]; exact decide_eq_true rfl
    · rw [decide_eq_false h]; exact decide_eq_false fun z => h (V.str.inj z)]
  exact q⟩
theorem rd_neS {i j : Str} {H : Hp} {Q : VK} (q : Q (.bl (!decide (i = j))) H) : rNe (.str i) (.str j) H Q := ⟨rfl, by
  rw [show decide (V.str i = V.str j) = decide (i = j) from by
    by_cases h : i = j
    · rw [decide_eq_true h, h]; exact decide_eq_true rfl
    · rw [decide_eq_false h]; exact decide_eq_false fun z => h (V.str.inj z)]
  exact q⟩
theorem rd_eqB {i j : Bool} {H : Hp} {Q : VK} (q : Q (.bl (i == j)) H) : rEq (.bl i) (.bl j) H Q := ⟨rfl, by
  rw [show decide (V.bl i = V.bl j) = (i == j) from by cases i <;> cases j <;> rfl]
  exact q⟩
theorem rd_neB {i j : Bool} {H : Hp} {Q : VK} (q : Q (.bl (!(i == j))) H) : rNe (.bl i) (.bl j) H Q := ⟨rfl, by
  rw [show decide (V.bl i = V.bl j) = (i == j) from by cases i <;> cases j <;> rfl]
  exact q⟩
end Lay

namespace PySem
namespace OpsM
/-- enumerate(v) alone, v begun by B -/
theorem meets_enum1 {v : Value} {o : Obj} {Hq : Heap → Prop} (B : Begins v o Hq) :
    Meets (Builtin.«enumerate.__new__» ⟨[.type "enumerate", v], []⟩) (fun _ R s => Hq s.heap ∧
      R (.ok (.ret (.ref (s.heap.push o).objs.size))) { s with heap := (s.heap.push o).push { cls := .type "enumerate", data := .fields #[.none, .bool false, .ref s.heap.objs.size, rawInt 0, .none, .none] } }) := by
  refine .of_wp fun prog w A R s hR => ?_
  obtain ⟨hp, g, d, tk, os⟩ := s
  obtain ⟨hq0, hR⟩ := hR
  have subE := sub_enumerate
  have its : ∀ {A1 : Around} {E1 : Value → Shared → Prop} {Q1 : Value → Shared → Prop}, Q1 (.ref hp.objs.size) ⟨hp.push o, g, d, tk, os⟩ → wpAny (model prog w) A1 (pyIter v) Q1 E1 ⟨hp, g, d, tk, os⟩ :=
    fun z => B.iter prog w _ _ ⟨hp, g, d, tk, os⟩ _ hq0 z
  wp_walk using its
  refine wpAny_stack_any fun stk => wpAny_pure ?_
  split
  · rename_i cl _ _ _ _ _
    cases (cl == Value.type "enumerate")
    all_goals (wp_walk using its; exact ⟨_, rfl, hR⟩)
  · wp_walk using its; exact ⟨_, rfl, hR⟩
theorem call_enum1 {prog : Program} {w : World} {A : Around} {E : Value → Shared → Prop} {s : Shared} {v : Value} {o : Obj} {Hq : Heap → Prop} {Q : Value → Shared → Prop} (B : Begins v o Hq) (h1 : Hq s.heap)
    (h : ∀ h2, IsEnum h2 (s.heap.objs.size + 1) s.heap.objs.size 0 .none → h2.get? s.heap.objs.size = some o → (∀ b u, s.heap.get? b = some u → h2.get? b = some u) → Q (.ref (s.heap.objs.size + 1)) { s with heap := h2 }) :
    wpAny (model prog w) A (call (.type "enumerate") [v]) Q E s := by
  refine callType_new F.called_enumerate (by decide) (F.typeCall_enumerate_1 _) (F.newCall_enumerate_1 _) (fun obj => F.args_object_init_2 obj _) F.entry_enumerate_new (meets_enum1 B) ⟨h1, ?_⟩
  have hz : (s.heap.push o).objs.size = s.heap.objs.size + 1 := Heap.size_push ..
  show _ ∧ _
  rw [hz]
  have he : IsEnum ((s.heap.push o).push { cls := .type "enumerate", data := .fields #[.none, .bool false, .ref s.heap.objs.size, rawInt 0, .none, .none] }) (s.heap.objs.size + 1) s.heap.objs.size 0 .none := by
    have z := Heap.get?_push_size (s.heap.push o) (o := { cls := .type "enumerate", data := .fields #[.none, .bool false, .ref s.heap.objs.size, rawInt 0, .none, .none] }) rfl
    rw [hz] at z
    exact z
  exact ⟨⟨_, he, rfl⟩, h _ he (Heap.get?_push_of_some _ (Heap.get?_push_size _ B.free)) fun b u z => Heap.get?_push_of_some _ (Heap.get?_push_of_some _ z)⟩
end OpsM
end PySem
namespace Lay
open PySem PySem.Spec PyProof.Rows L2
/-! ### enumerate(tuple) -/
def Itet (K : PySem.W.Frag) (a : Addr) : It :=
  ⟨fun i H => ∃ (xs : List V) (x : V), SqT K H a xs ∧ xs[i]? = some x, fun i H v H' => ∃ T x, v = .ref T ∧ H T = none ∧ H' = upd H T (.tup [.int (i : Nat), x]) ∧ ∀ xs, SqT K H a xs → xs[i]? = some x, fun i H => ∃ xs : List V, SqT K H a xs ∧ xs.length ≤ i⟩
theorem tuple_iter_ne {h : Heap} {it a : Addr} {i : Nat} {its : Array Value} (h1 : h.IsTupleIter it a i) (h2 : h.IsTuple a its) : a ≠ it := fun z => by
  obtain ⟨o, e, c, d⟩ := h1
  obtain ⟨u, e2, c2, _⟩ := h2
  rw [z, e] at e2
  cases e2
  rw [c] at c2
  injection c2 with y
  exact absurd y (by decide)
theorem enum_ne {h : Heap} {e it a : Addr} {c : Int} {old : Value} {its : Array Value} (h1 : IsEnum h e it c old) (h2 : h.IsTuple a its) : e ≠ a := fun z => by
  obtain ⟨u, e2, c2, _⟩ := h2
  have h1' : h.get? e = some _ := h1
  rw [← z, h1'] at e2
  cases e2
  injection c2 with y
  exact absurd y (by decide)
theorem turn_enumT {P : Program} {w : World} {K : PySem.W.Frag} {elts : List Expr} {kk : Nat} {tpos : Pos} (a e it : Addr) :
    Turn P w K (.Tuple elts kk tpos) (Itet K a) [e, it] e (fun i h => (∃ old, IsEnum h e it ((i : Nat) : Int) old) ∧ h.IsTupleIter it a i ∧ e ≠ it) where
  mem := List.mem_cons_self ..
  obj := fun i h st b hb => by
    obtain ⟨⟨old, he⟩, ⟨o, ho, hc, hd⟩, _⟩ := st
    rcases List.mem_cons.mp hb with z | z
    · subst z; exact ⟨_, he, fun v q => nomatch q⟩
    · rw [List.mem_singleton.mp z]; exact ⟨o, ho, fun v q => by rw [hd] at q; cases q⟩
  keep := fun i h h2 st k => ⟨let ⟨old, he⟩ := st.1; ⟨old, k e (List.mem_cons_self ..) _ he⟩, st.2.1.at fun o q => k it (by simp) o q, st.2.2⟩
  item := by
    intro X hP hw hK hc i pins s σ H E I hf st hg
    subst hP hw hK
    obtain ⟨⟨old, he⟩, hit, hne⟩ := st
    obtain ⟨xs, x, hq, hx⟩ := hg
    obtain ⟨its, rv, p, hz⟩ := I.tuple hq
    obtain ⟨u, hu, ru⟩ := rv.get hx
    have hT : s.heap.IsTuple a its.toArray := p
    have hel : e < s.heap.objs.size := Heap.lt_size he
    have hil : it < s.heap.objs.size := by obtain ⟨_, q, _⟩ := hit; exact Heap.lt_size q
    have hei : e ∉ [it, a] := by
      intro z
      rcases List.mem_cons.mp z with z | z
      · exact hne z
      · exact enum_ne he hT (List.mem_singleton.mp z)
    have hlt : i < its.toArray.size := by
      have z := (List.getElem?_eq_some_iff.mp hu).1
      simpa using z
    refine wpAny_pyNext_enum_itemC (Draws.tuple (prog := X.prog) (w := X.w) (A := X.A.in1) (I.ok.hd hc) it a (tuple_iter_ne hit hT) its.toArray) he ⟨hit, hT⟩ hlt hne hei fun y h2 tk hy ho hst hTn hsz hk => ?_
    have ey : y = u := by
      have z : its.toArray[i]? = some u := by simpa using hu
      rw [z] at hy
      exact (Option.some.inj hy).symm
    subst ey
    refine ⟨_, rfl, wpAny_letOwnedTupleGo_enum (s := { s with heap := h2, toks := tk + 1 }) ho fun h3 he3 sb => ?_⟩
    have hT3 : h3.get? s.heap.objs.size = some { cls := .type "tuple", data := .seq #[.int i tk, y] } := (sb.2 _ (Nat.ne_of_gt hel)).trans hTn
    have new : ObjOk X.prog X.w (upd H s.heap.objs.size (.tup [.int (i : Nat), x])) h3 s.heap.objs.size (.tup [.int (i : Nat), x]) :=
      ⟨by show 2 ≤ sizeLine; decide, [.int i tk, y], .cons ⟨_, rfl⟩ (.cons ru .nil), ⟨_, hT3, rfl, _, rfl⟩⟩
    have I1 : Inv X pins σ (upd H s.heap.objs.size (.tup [.int (i : Nat), x])) { s with heap := h3, toks := tk + 1 } :=
      I.turnedNew (ch := [e, it]) (fun b ob hb q => (sb.2 b (fun z => hb (by rw [z]; exact List.mem_cons_self ..))).trans (hk b ob (fun z => hb (by rw [z]; exact List.mem_cons_self ..)) (fun z => hb (by simp [z])) q)) hf (Nat.le_refl _) new
    refine ⟨.ref s.heap.objs.size, _, I1, rfl, ⟨_, x, rfl, I.hok.fresh (Nat.le_refl _), rfl, fun ys hy => by rw [I.tuple_inj hy hq]; exact hx⟩, ⟨⟨y, ?_⟩, hst.1.at fun o q => (sb.2 it (Ne.symm hne)).trans q, hne⟩, fun b hb => ?_⟩
    · rw [show ((i + 1 : Nat) : Int) = (i : Int) + 1 from by omega]
      exact he3
    · have hlb : b < s.heap.objs.size := by
        rcases List.mem_cons.mp hb with z | z
        · rw [z]; exact hel
        · rw [List.mem_singleton.mp z]; exact hil
      rw [upd_ne (Nat.ne_of_lt hlb)]
      exact (hf b hb).1
  done := by
    intro X hP hw hK hc i pins s σ H E I hf st hg
    subst hP hw hK
    obtain ⟨⟨old, he⟩, hit, hne⟩ := st
    obtain ⟨xs, hq, hx⟩ := hg
    obtain ⟨its, rv, p, hz⟩ := I.tuple hq
    have hT : s.heap.IsTuple a its.toArray := p
    obtain ⟨f0, f1, f2, f3, f4, f5⟩ := hf it (by simp)
    have hn : its.toArray[i]? = none := by
      have z := rv.length
      simp only [List.getElem?_toArray, List.getElem?_eq_none_iff]
      omega
    have Dn : Draws X.prog X.w X.A.in1 it [it, a] i (fun _ _ => False) (fun j h => j = i ∧ h.IsTupleIter it a i ∧ h.IsTuple a its.toArray) :=
      ⟨fun j h z => let ⟨o, ho, _⟩ := z.2.1; ⟨o, ho⟩, fun j h h2 z k => ⟨z.1, z.2.1.at fun o q => k it (by simp) o q, z.2.2.at fun o q => k a (by simp) o q⟩,
        fun j s1 Q1 E1 hj z _ => absurd hj (by rw [z.1]; exact Nat.lt_irrefl _), fun s1 Q1 E1 z hE => wpAny_nextOf_tuple_end (I.ok.hd hc) z.2.1 z.2.2 hn hE⟩
    exact wpAny_pyNext_enum_endD Dn he ⟨rfl, hit, hT⟩ fun h2 eb => ⟨rfl, I.turned (t' := s.toks) (fun b o hb q => eb b o hb q) f0 f1 f3 f4 f5⟩
  self := fun A i s Q E st h => let ⟨⟨_, he⟩, _⟩ := st; wpAny_pyIter_enum he h
def iEnumT (K : PySem.W.Frag) (ta : TA) : TI := fun σ H R => ta σ H fun vs H1 => ∃ a xs, vs = [.ref a] ∧ SqT K H1 a xs ∧ R (Itet K a) H1
theorem pi_enumT {X : Cx} {e : Expr} {ta : TA} {p pos tpos : Pos} {elts : List Expr} {kk : Nat} (hg : Gl X "enumerate") (hm : X.mg "enumerate" = none) (ha : PA X [e] ta) (hs : starEach [e] X.env = [(false, eval e X.env)] := by rfl) :
    PI X (.Tuple elts kk tpos) (.Call (.Name "enumerate" p) [e] [] pos) (iEnumT X.K ta) := by
  refine ⟨fun pins s σ H R I h => ?_⟩
  refine Call_ (ld_blt I hg hm boot_enumerate (PyProof.Rows.callWith_type1 (thn (ha.run pos pins s σ H _ I h) fun us s1 ⟨vs, H1, I1, r1, a, xs, ex, hq, q⟩ => ?_) hs rfl))
  subst ex
  cases r1 with
  | cons r rr =>
    cases rr
    cases r
    obtain ⟨its, rv, pt, hz⟩ := I1.tuple hq
    have hT : s1.heap.IsTuple a its.toArray := pt
    refine OpsM.call_enum1 (begins_tuple a its.toArray) hT fun h2 he hit hk => wpAny_pyIter_enum he ?_
    have I2 : Inv X pins σ H1 { s1 with heap := h2 } := I1.kept (t' := s1.toks) hk
    refine ⟨s1.heap.objs.size + 1, [s1.heap.objs.size + 1, s1.heap.objs.size], _, _, H1, rfl, I2, turn_enumT a (s1.heap.objs.size + 1) s1.heap.objs.size, ⟨⟨.none, he⟩, ⟨_, hit, rfl, rfl⟩, Nat.succ_ne_self _⟩, fun b hb => ?_, q⟩
    have hle : s1.heap.objs.size ≤ b := by
      rcases List.mem_cons.mp hb with z | z
      · rw [z]; exact Nat.le_add_right _ _
      · rw [List.mem_singleton.mp z]; exact Nat.le_refl _
    exact I1.fpOk hle (I1.hok.fresh hle)
theorem walk_enumT {K : PySem.W.Frag} {a : Addr} {xs : List V} : Walk (Itet K a) xs.length (fun H => SqT K H a xs) (YPair (fun i => some (.int (i : Nat))) (fun i => xs[i]?)) := by
  refine ⟨fun i _ hi q => ⟨xs, xs[i], q, by simp [hi]⟩, fun _ q => ⟨xs, q, Nat.le_refl _⟩, fun i H v H' _ q y => ?_⟩
  obtain ⟨T, x, h1, h2, h3, h4⟩ := y
  exact ⟨T, _, x, h1, h2, h3, rfl, h4 xs q⟩
end Lay

namespace PySem
namespace OpsM
open SeqAt
open AutoSeq1 (wpAny_loadPart')
theorem str_eq_any (b : Str) (u : Tok) (l : Addr) (c : Value) (dd : Option Addr) (es : Array DictEntry) (ep : Nat) (sl : Array (Option Value)) :
    Meets (Builtin.«str.__eq__» ⟨[.str b u, .ref l], []⟩) (fun _ R s => s.heap.get? l = some { cls := c, dict := dd, data := .dict es ep, slots := sl } ∧ R (.ok (.ret .notImplemented)) s) := by
  refine .of_wp fun prog w A R s h => ?_
  obtain ⟨hp, g, d, tk, os⟩ := s
  obtain ⟨hl, hR⟩ := h
  wp_walk using wpAny_loadPart' hl, wpAny_load hl
  exact ⟨_, rfl, hR⟩
section
variable {prog : Program} {w : World} {A : Around} {E : Value → Shared → Prop} {s : Shared}
theorem dict_eq_str {d : Addr} {b : Str} {u : Tok} {Q : Value → Shared → Prop} (hd : s.TypeIs (.ref d) "dict") (h : Q .notImplemented s) : wpAny (model prog w) A (call (.builtin "dict.__eq__") [.ref d, .str b u]) Q E s := by
  refine wpAny_call_entry PySem.F.slot_dict_eq hd PySem.F.entry_dict_eq ?_ (PySem.F.args_dict_eq_2 _ _)
  show wpAny _ _ (Builtin.Dict.dictSlotArgs "__eq__" ⟨[.ref d, .str b u], []⟩ >>= _) _ _ s
  refine wpAny_bind ?_
  unfold Builtin.Dict.dictSlotArgs
  refine wpAny_bind (wpAny_notOrdered_dict hd ?_)
  show wpAny _ _ (pure (Value.ref d, Value.str b u)) _ _ s
  refine wpAny_pure ?_
  refine wpAny_bind (wpAny_isInstance (T := "str") (typeIs_str s b u) PySem.F.sub_str_dict ?_)
  simp only [Bool.not_false, if_true]
  exact wpAny_bind (wpAny_rule (wpAny_pure ⟨_, rfl, h⟩))
theorem rc_str_dict {d : Addr} {o : Obj} (b : Str) (u : Tok) (ho : s.heap.get? d = some o) (hc : o.cls = .type "dict") (hd : ∃ es ep, o.data = .dict es ep) (hu : A.units < cLine) : RcAt A s (.str b u) (.ref d) false := fun prog w E Q h => by
  obtain ⟨es, ep, hd⟩ := hd
  obtain ⟨c, dd, dt, sl⟩ := o
  simp only at hc hd
  subst hc hd
  have hT : s.TypeIs (.ref d) "dict" := ⟨_, ho, rfl⟩
  exact rc_eq_decline_or (k := false) (typeIs_str s b u) hT (by decide) F.sub_dict_str F.slot_str_eq F.slot_dict_eq_refl
    (fun _ hq => call_meets F.slot_str_eq (typeIs_str s b u) F.entry_str_eq (F.args_str_eq_2 _ _) (str_eq_any b u d _ dd es ep sl) ⟨ho, hq⟩)
    (fun _ hq => dict_eq_str hT hq) (fun _ hq => wpAny_of_eq (rfl : isSame (.str b u) (.ref d) = pure false) hq) (.inr hu) h
theorem eq_str_dict {d : Addr} {o : Obj} (b : Str) (u : Tok) (ho : s.heap.get? d = some o) (hc : o.cls = .type "dict") (hd : ∃ es ep, o.data = .dict es ep) (hu : A.units < cLine) : EqAt A s (.str b u) (.ref d) false := fun prog w E Q h => by
  unfold eqBool
  refine wpAny_holding (wpAny_ite_split (fun z => absurd (eq_of_beq z) nofun) fun _ => ?_)
  exact wpAny_bind (rc_str_dict b u ho hc hd hu prog w E _ (wpAny_truthy_bool h))
end
end OpsM
end PySem
namespace Lay
open PySem PySem.Spec PyProof.Rows L2
/-! ### the kinds of any value -/
inductive Kn where
  | non | bool | int | str | list | tuple | dict
def Kn.name : Kn → String
  | .non => "NoneType"
  | .bool => "bool"
  | .int => "int"
  | .str => "str"
  | .list => "list"
  | .tuple => "tuple"
  | .dict => "dict"
/-- a value of the kind t is an instance of the class n -/
def isTy : Kn → Kn → Bool
  | .non, .non => true
  | .bool, .bool => true
  | .bool, .int => true
  | .int, .int => true
  | .str, .str => true
  | .list, .list => true
  | .tuple, .tuple => true
  | .dict, .dict => true
  | _, _ => false
theorem isTy_ok {K : PySem.W.Frag} (t n : Kn) : PySem.W.kitOne K (.type t.name) (.type n.name) = some (isTy t n) := by
  cases t <;> cases n <;> exact kit_ty (by decide +kernel)
inductive Kd (H : Hp) : V → Kn → Prop
  | non : Kd H .non .non
  | bl (b : Bool) : Kd H (.bl b) .bool
  | int (i : Int) : Kd H (.int i) .int
  | str (z : Str) : Kd H (.str z) .str
  | lst {a : Addr} {xs : List V} (h : H a = some (.lst xs)) : Kd H (.ref a) .list
  | tup {a : Addr} {xs : List V} (h : H a = some (.tup xs)) : Kd H (.ref a) .tuple
  | dK {a : Addr} {kvs : List (Key × V)} (h : H a = some (.dK kvs)) : Kd H (.ref a) .dict
theorem Kd.same {H H' : Hp} {v : V} {t : Kn} (s : ∀ b o, v = .ref b → H b = some o → H' b = some o) (k : Kd H v t) : Kd H' v t := by
  cases k with
  | non => exact .non
  | bl b => exact .bl b
  | int i => exact .int i
  | str z => exact .str z
  | lst h => exact .lst (s _ _ rfl h)
  | tup h => exact .tup (s _ _ rfl h)
  | dK h => exact .dK (s _ _ rfl h)
theorem Kd.mono {H H' : Hp} {v : V} {t : Kn} (s : Same H H') (k : Kd H v t) : Kd H' v t := k.same fun b o _ h => s b o h
theorem Kd.ty {K : PySem.W.Frag} {H : Hp} {v : V} {t : Kn} (k : Kd H v t) : TyX K H v (.type t.name) := by
  cases k with
  | non => exact .base .non
  | bl b => exact .base (.bl b)
  | int i => exact .base (.int i)
  | str z => exact .base (.str z)
  | lst h => exact .base (.lst h)
  | tup h => exact .base (.tup h)
  | dK h => exact .base (.dK h)
theorem rd_isi {K : PySem.W.Frag} {H : Hp} {Q : VK} {x : V} {t : Kn} (n : Kn) (k : Kd H x t) (q : Q (.bl (isTy t n)) H) : rIsi K [x, .ty n.name] H Q :=
  ⟨x, .ty n.name, .type t.name, .type n.name, isTy t n, rfl, .ty n.name, k.ty, isTy_ok t n, q⟩
/-! ### any value in a row of texts -/
def inStrs (x : V) (zs : List Str) : Bool := match x with | .str z => zs.contains z | _ => false
theorem memS {X : Cx} {pins : List (Addr × Obj)} {σ : L2.St} {H : Hp} {s : Shared} {A : Around} (I : Inv X pins σ H s) (hu : A.units < cLine) {x : V} {v : Value} {t : Kn} (rx : RelV x v) (k : Kd H x t) :
    ∀ (zs : List Str) (us : List Value), Vals (zs.map V.str) us → ∃ f : Value → Bool, us.any f = inStrs x zs ∧ ∀ u ∈ us, SeqAt.EqAt A s u v (f u) := by
  by_cases hx : ∃ z, x = .str z
  · obtain ⟨z, rfl⟩ := hx
    intro zs us r
    have fl : (zs.map V.str).all flatV = true := by
      rw [List.all_eq_true]
      intro y hy
      obtain ⟨w, _, rfl⟩ := List.mem_map.mp hy
      rfl
    refine ⟨eqU (.str z), ?_, fun u hu => mem_eqAt rx rfl r fl u hu⟩
    rw [any_eqU r fl]
    show ((zs.map V.str).any fun y => eqV y (.str z)) = zs.contains z
    clear r fl
    induction zs with
    | nil => rfl
    | cons a l ih =>
      rw [List.map_cons, List.any_cons, ih, List.contains_cons]
      congr 1
      show eqV (.str a) (.str z) = (z == a)
      by_cases h : a = z
      · subst h
        simp [eqV]
      · have h2 : ¬ z = a := fun y => h y.symm
        rw [show (z == a) = false from by simpa using h2]
        simp [eqV, h]
  · have no : ∀ zs, inStrs x zs = false := fun zs => by
      cases x with
      | str z => exact absurd ⟨z, rfl⟩ hx
      | _ => rfl
    have one : ∀ (z : Str) (u : Value), RelV (.str z) u → SeqAt.EqAt A s u v false := by
      intro z u ru
      obtain ⟨tk, rfl⟩ := ru
      cases k with
      | non => cases rx; exact SeqAt.EqAt.str_none z tk
      | bl b => cases rx; exact SeqAt.EqAt.str_bool z tk b
      | int i => obtain ⟨t', rfl⟩ := rx; exact SeqAt.EqAt.str_int z tk i t'
      | str y => exact absurd ⟨y, rfl⟩ hx
      | lst h =>
        cases rx
        obtain ⟨_, its, n, _, e⟩ := I.hok _ _ h
        exact SeqAt.EqAt.str_list z tk (items := its.toArray) ⟨_, e, rfl, _, rfl⟩ hu
      | tup h =>
        cases rx
        obtain ⟨_, its, _, e⟩ := I.hok _ _ h
        exact SeqAt.EqAt.str_tuple z tk (items := its.toArray) e hu
      | dK h =>
        cases rx
        obtain ⟨_, _, vs, _, o, es, ep, e, ex, hd, _⟩ := I.hok _ _ h
        exact OpsM.eq_str_dict z tk e ex.1 ⟨_, _, hd⟩ hu
    intro zs us r
    refine ⟨fun _ => false, by rw [no]; simp, ?_⟩
    induction zs generalizing us with
    | nil => cases r; exact fun u hu => nomatch hu
    | cons a l ih =>
      cases r with
      | cons r1 r2 =>
        intro u hm
        rcases List.mem_cons.mp hm with e | hm
        · subst e; exact one a _ r1
        · exact ih _ r2 u hm
def rInS (K : PySem.W.Frag) : R2 := fun x y H Q => ∃ (p : Addr) (zs : List Str) (t : Kn), y = .ref p ∧ (SqT K H p (zs.map V.str) ∨ SqL K H p (zs.map V.str)) ∧ Kd H x t ∧ Q (.bl (inStrs x zs)) H
def rNotInS (K : PySem.W.Frag) : R2 := fun x y H Q => ∃ (p : Addr) (zs : List Str) (t : Kn), y = .ref p ∧ (SqT K H p (zs.map V.str) ∨ SqL K H p (zs.map V.str)) ∧ Kd H x t ∧ Q (.bl (!inStrs x zs)) H
theorem op_inS {X : Cx} (hu : X.A.units + 64 < cLine) : OpR X (compareOp .In) (rInS X.K) := by
  intro pins s σ H x y v u Q I rx ry h
  obtain ⟨p, zs, t, rfl, hq, k, q⟩ := h
  cases ry
  have hu1 : X.A.in1.units < cLine := by show X.A.units + 1 < cLine; omega
  rcases hq with hq | hq
  · obtain ⟨its, r, pl, hz⟩ := I.tuple hq
    obtain ⟨f, e, m⟩ := memS I hu1 rx k _ _ r
    refine SeqAt.in_tupleAt f pl (fun w hw => m w (by simpa using hw)) ⟨.bl _, H, I, rfl, ?_⟩
    rw [show its.toArray.any f = its.any f by simp, e]
    exact q
  · obtain ⟨its, r, pl, hz⟩ := I.list hq
    obtain ⟨f, e, m⟩ := memS I hu1 rx k _ _ r
    refine SeqAt.in_listAt f pl.isList (fun w hw => m w (by simpa using hw)) ⟨.bl _, H, I, rfl, ?_⟩
    rw [show its.toArray.any f = its.any f by simp, e]
    exact q
theorem op_notInS {X : Cx} (hu : X.A.units + 64 < cLine) : OpR X (compareOp .NotIn) (rNotInS X.K) := by
  intro pins s σ H x y v u Q I rx ry h
  obtain ⟨p, zs, t, rfl, hq, k, q⟩ := h
  cases ry
  have hu1 : X.A.in1.units < cLine := by show X.A.units + 1 < cLine; omega
  rcases hq with hq | hq
  · obtain ⟨its, r, pl, hz⟩ := I.tuple hq
    obtain ⟨f, e, m⟩ := memS I hu1 rx k _ _ r
    refine SeqAt.notIn_tupleAt f pl (fun w hw => m w (by simpa using hw)) ⟨.bl _, H, I, rfl, ?_⟩
    rw [show its.toArray.any f = its.any f by simp, e]
    exact q
  · obtain ⟨its, r, pl, hz⟩ := I.list hq
    obtain ⟨f, e, m⟩ := memS I hu1 rx k _ _ r
    refine SeqAt.notIn_listAt f pl.isList (fun w hw => m w (by simpa using hw)) ⟨.bl _, H, I, rfl, ?_⟩
    rw [show its.toArray.any f = its.any f by simp, e]
    exact q
theorem rd_inS {K : PySem.W.Frag} {H : Hp} {Q : VK} {x : V} {p : Addr} {zs : List Str} {t : Kn} (h : SqT K H p (zs.map V.str)) (k : Kd H x t) (q : Q (.bl (inStrs x zs)) H) : rInS K x (.ref p) H Q := ⟨p, zs, t, rfl, .inl h, k, q⟩
theorem rd_inSL {K : PySem.W.Frag} {H : Hp} {Q : VK} {x : V} {p : Addr} {zs : List Str} {t : Kn} (h : SqL K H p (zs.map V.str)) (k : Kd H x t) (q : Q (.bl (inStrs x zs)) H) : rInS K x (.ref p) H Q := ⟨p, zs, t, rfl, .inr h, k, q⟩
theorem rd_notInS {K : PySem.W.Frag} {H : Hp} {Q : VK} {x : V} {p : Addr} {zs : List Str} {t : Kn} (h : SqT K H p (zs.map V.str)) (k : Kd H x t) (q : Q (.bl (!inStrs x zs)) H) : rNotInS K x (.ref p) H Q := ⟨p, zs, t, rfl, .inl h, k, q⟩
theorem rd_notInSL {K : PySem.W.Frag} {H : Hp} {Q : VK} {x : V} {p : Addr} {zs : List Str} {t : Kn} (h : SqL K H p (zs.map V.str)) (k : Kd H x t) (q : Q (.bl (!inStrs x zs)) H) : rNotInS K x (.ref p) H Q := ⟨p, zs, t, rfl, .inr h, k, q⟩
end Lay

namespace Lay
open PySem PySem.Spec PyProof.Rows L2
/-! ### comprehensions: D the new list, R what holds of what it has so far and of all else -/
def PvL (D : Addr) (R : Nat → List V → Hp → Prop) (i : Nat) (H : Hp) : Prop := ∃ l, H D = some (.lst l) ∧ l.length ≤ i ∧ R i l H
theorem lc_put {D : Addr} {R : Nat → List V → Hp → Prop} {i : Nat} {l : List V} {y : V} {H : Hp} (h : H D = some (.lst l)) (hl : l.length ≤ i) (hi : i < 100000) (r : R (i + 1) (l ++ [y]) (upd H D (.lst (l ++ [y])))) :
    ∃ acc, H D = some (.lst acc) ∧ acc.length < sizeLine ∧ PvL D R (i + 1) (upd H D (.lst (acc ++ [y]))) :=
  ⟨l, h, Nat.lt_of_le_of_lt hl (Nat.lt_of_lt_of_le hi (by decide)), l ++ [y], upd_same, by rw [List.length_append]; exact Nat.add_le_add_right hl 1, r⟩
theorem lc_skip {D : Addr} {R : Nat → List V → Hp → Prop} {i : Nat} {l : List V} {H : Hp} (h : H D = some (.lst l)) (hl : l.length ≤ i) (r : R (i + 1) l H) : PvL D R (i + 1) H := ⟨l, h, Nat.le_succ_of_le hl, r⟩
theorem lc_go {J : It} {n : Nat} {G : Hp → Prop} {Y : Nat → Hp → V → Hp → Prop} (w : Walk J n G Y) {g : TG} {tt : TT} {te : TE} {vs : List Nat} {σ : L2.St} {H1 : Hp} {D : Addr} {Qd : Hp → Prop}
    (R : Nat → List V → Hp → Prop) (h0 : R 0 [] (upd H1 D (.lst []))) (hG : ∀ i l H, i ≤ n → R i l H → G H)
    (hs : ∀ i l x H H', i < n → H D = some (.lst l) → l.length ≤ i → R i l H → Y i H x H' → g x (wipe σ vs) H' fun σ2 H2 => wipe σ2 vs = wipe σ vs ∧ tt σ2 H2 fun b H3 =>
      if b = true then te σ2 H3 fun y H4 => ∃ acc, H4 D = some (.lst acc) ∧ acc.length < sizeLine ∧ PvL D R (i + 1) (upd H4 D (.lst (acc ++ [y]))) else PvL D R (i + 1) H3)
    (hd : ∀ l H, H D = some (.lst l) → l.length ≤ n → R n l H → Qd H) :
    ∃ W : Nat → Nat → Hp → Prop, (∃ m, W 0 m (upd H1 D (.lst []))) ∧ ∀ i m H, W i m H →
      (J.stop i H ∧ Qd H) ∨ (J.go i H ∧ ∃ Nx : Hp → Prop, (∀ H', Nx H' → ∃ m', m' < m ∧ W (i + 1) m' H') ∧ ∀ x H', J.yld i H x H' → g x (wipe σ vs) H' fun σ2 H2 => wipe σ2 vs = wipe σ vs ∧ tt σ2 H2 fun b H3 =>
        if b = true then te σ2 H3 fun y H4 => ∃ acc, H4 D = some (.lst acc) ∧ acc.length < sizeLine ∧ Nx (upd H4 D (.lst (acc ++ [y]))) else Nx H3) :=
  lc_it w (PvL D R) ⟨[], upd_same, Nat.le_refl _, h0⟩ (fun i H hi ⟨l, _, _, r⟩ => hG i l H hi r) (fun i x H H' hi ⟨l, hl, hz, r⟩ y => hs i l x H H' hi hl hz r y) (fun H ⟨l, hl, hz, r⟩ => hd l H hl hz r)
section
variable {K : PySem.W.Frag} {σ : L2.St} {H : Hp} {Q : VK} {tA : TA} {te : TE} {R : It → Hp → Prop}
theorem rd_lc {wi : TI} {g : TG} {tt : TT} {vs : List Nat} (h : wi σ H fun J H1 => ∀ D, H1 D = none → ∃ W : Nat → Nat → Hp → Prop, (∃ m, W 0 m (upd H1 D (.lst []))) ∧ ∀ i m H, W i m H →
    (J.stop i H ∧ Q (.ref D) H) ∨ (J.go i H ∧ ∃ Nx : Hp → Prop, (∀ H', Nx H' → ∃ m', m' < m ∧ W (i + 1) m' H') ∧ ∀ x H', J.yld i H x H' → g x (wipe σ vs) H' fun σ2 H2 => wipe σ2 vs = wipe σ vs ∧ tt σ2 H2 fun b H3 =>
      if b = true then te σ2 H3 fun y H4 => ∃ acc, H4 D = some (.lst acc) ∧ acc.length < sizeLine ∧ Nx (upd H4 D (.lst (acc ++ [y]))) else Nx H3)) : tLc wi g tt te vs σ H Q := h
theorem rd_for {wi : TI} {g : TG} {tb : TS} {D : Ends} (h : wi σ H fun J H1 => ∃ W : Nat → Nat → L2.St → Hp → Prop, (∃ m, W 0 m σ H1) ∧ ∀ i m σ H, W i m σ H →
    (J.stop i H ∧ D.nx σ H) ∨ (J.go i H ∧ ∃ N : L2.St → Hp → Prop, (∀ σ' H', N σ' H' → ∃ m', m' < m ∧ W (i + 1) m' σ' H') ∧ ∀ x H', J.yld i H x H' → g x σ H' fun σ2 H2 => tb { D with nx := N, ct := N, bk := D.nx } σ2 H2)) : tFor wi g tb D σ H := h
theorem rd_iStr (h : te σ H fun x H1 => ∃ z, x = .str z ∧ R (Its z) H1) : iStr te σ H R := h
theorem rd_iList (h : te σ H fun x H1 => ∃ a, x = .ref a ∧ (∃ xs, SqL K H1 a xs) ∧ R (Itl K a) H1) : iList K te σ H R := h
theorem rd_iTup (h : te σ H fun x H1 => ∃ a, x = .ref a ∧ (∃ xs, SqT K H1 a xs) ∧ R (Itt K a) H1) : iTup K te σ H R := h
theorem rd_iRng1 (h : tA σ H fun vs H1 => ∃ j : Int, vs = [.int j] ∧ -(2 ^ 62) ≤ j ∧ j < 2 ^ 62 ∧ R (Itr 0 j.toNat) H1) : iRng1 tA σ H R := h
theorem rd_iEnumT (h : tA σ H fun vs H1 => ∃ a xs, vs = [.ref a] ∧ SqT K H1 a xs ∧ R (Itet K a) H1) : iEnumT K tA σ H R := h
theorem rd_yes {QT : Bool → Hp → Prop} (h : QT true H) : tYes H' H QT := h
def rSign : R2 := fun x y H Q => ∃ (c : Nat) (z : Str), x = .str ⟨#[c]⟩ ∧ y = .str z ∧ Q (.bl (decide (c ∈ z.cps.toList))) H
theorem op_sign {X : Cx} : OpR X (compareOp .In) rSign := op_in_sign
theorem rd_sign {H : Hp} {Q : VK} {c : Nat} {z : Str} (q : Q (.bl (decide (c ∈ z.cps.toList))) H) : rSign (.str ⟨#[c]⟩) (.str z) H Q := ⟨c, z, rfl, rfl, q⟩
theorem rd_in_sign {H : Hp} {Q : VK} {c : Nat} {z : Str} (q : Q (.bl (decide (c ∈ z.cps.toList))) H) : ∃ (c' : Nat) (z' : Str), V.str ⟨#[c]⟩ = V.str ⟨#[c']⟩ ∧ V.str z = V.str z' ∧ Q (.bl (decide (c' ∈ z'.cps.toList))) H := ⟨c, z, rfl, rfl, q⟩
theorem rd_lenV {H : Hp} {Q : VK} {z : Str} (h : z.length ≤ 100000) (q : Q (.int z.length) H) : rLenStr [.str z] H Q := ⟨z, rfl, Nat.le_trans h (by decide), q⟩
theorem rd_chain {r r' : R2} {ta tb tc : TE} (h : ta σ H fun x H1 => tb σ H1 fun y H2 => r x y H2 fun z H3 => ∃ k, z = .bl k ∧ (if k = true then tc σ H3 fun w' H4 => r' y w' H4 Q else Q (.bl false) H3)) : tChain r r' ta tb tc σ H Q := h
end

theorem rd_alls {K : PySem.W.Frag} {H : Hp} {Q : VK} {a : Addr} {bs : List Bool} (h : SqL K H a (bs.map V.bl)) (q : Q (.bl (bs.all id)) H) : rAll K [.ref a] H Q := ⟨a, bs, rfl, h, q⟩
theorem rd_anys {K : PySem.W.Frag} {H : Hp} {Q : VK} {a : Addr} {bs : List Bool} (h : SqL K H a (bs.map V.bl)) (q : Q (.bl (bs.any id)) H) : rAny K [.ref a] H Q := ⟨a, bs, rfl, h, q⟩
theorem take_succ {α : Type} {xs : List α} {i : Nat} {x : α} (h : xs[i]? = some x) : xs.take (i + 1) = xs.take i ++ [x] := by
  rw [List.take_add_one, h]; rfl
/-! ### names -/
def nameOk (z : Str) : Bool := decide (1 ≤ z.length) && decide (z.length ≤ 8) && z.cps.toList.all fun c => decide (97 ≤ c) && decide (c ≤ 122)
def isInt : V → Bool
  | .int _ => true
  | _ => false
def within (v : V) (lo hi : Int) : Bool := match v with
  | .int i => decide (lo ≤ i) && decide (i ≤ hi)
  | _ => false
def isName (v : V) : Bool := match v with
  | .str z => nameOk z
  | _ => false
def alphabet : Str := "abcdefghijklmnopqrstuvwxyz"
theorem in_alphabet (c : Nat) : decide (c ∈ alphabet.cps.toList) = (decide (97 ≤ c) && decide (c ≤ 122)) := by
  have e : alphabet.cps.toList = [97, 98, 99, 100, 101, 102, 103, 104, 105, 106, 107, 108, 109, 110, 111, 112, 113, 114, 115, 116, 117, 118, 119, 120, 121, 122] := by decide +kernel
  rw [e]
  by_cases h : 97 ≤ c ∧ c ≤ 122
  · rw [decide_eq_true h.1, decide_eq_true h.2]
    refine decide_eq_true ?_
    simp only [List.mem_cons, List.not_mem_nil, or_false]
    omega
  · have z : (decide (97 ≤ c) && decide (c ≤ 122)) = false := by
      rw [Bool.and_eq_false_iff]
      by_cases h1 : 97 ≤ c
      · right; exact decide_eq_false fun h2 => h ⟨h1, h2⟩
      · left; exact decide_eq_false h1
    rw [z]
    refine decide_eq_false ?_
    simp only [List.mem_cons, List.not_mem_nil, or_false]
    omega
def spIsInteger : Sp := fun vs H Q _ => ∃ v t, vs = [v] ∧ Kd H v t ∧ Q (.bl (isInt v)) H
def spIsWithin : Sp := fun vs H Q _ => ∃ v t lo hi, vs = [v, .int lo, .int hi] ∧ Kd H v t ∧ Q (.bl (within v lo hi)) H
def spIsName : Sp := fun vs H Q _ => ∃ v t, vs = [v] ∧ Kd H v t ∧ (∀ z, v = .str z → z.length ≤ 100000) ∧ ∀ H', Same H H' → Q (.bl (isName v)) H'
theorem rd_forW {J : It} {n : Nat} {G : Hp → Prop} {Y : Nat → Hp → V → Hp → Prop} {wi : TI} {g : TG} {tb : TS} {D : Ends} {σ : L2.St} {H H1 : Hp} (hw : ∀ R : It → Hp → Prop, R J H1 → wi σ H R) (w : Walk J n G Y) (Pv : Nat → L2.St → Hp → Prop) (h0 : Pv 0 σ H1)
    (hG : ∀ i σ H, i ≤ n → Pv i σ H → G H) (hs : ∀ i x σ H H', i < n → Pv i σ H → Y i H x H' → g x σ H' fun σ2 H2 => tb { D with nx := Pv (i + 1), ct := Pv (i + 1), bk := D.nx } σ2 H2) (hd : ∀ σ H, Pv n σ H → D.nx σ H) : tFor wi g tb D σ H :=
  hw _ (for_it w Pv h0 hG hs hd)
end Lay

namespace Lay
open PySem PySem.Spec PyProof.Rows L2
theorem ite_nb {b : Bool} {A B : Prop} (h1 : b = false → A) (h2 : b = true → B) : if (!b) = true then A else B := by
  cases b
  · exact iteT (h1 rfl)
  · exact iteF (h2 rfl)
theorem rd_gtup {K : PySem.W.Frag} {n : Nat} {t : TGs} {a : Addr} {xs : List V} {σ : L2.St} {H : Hp} {Q : L2.St → Hp → Prop} (h : SqT K H a xs) (hn : xs.length = n) (q : t xs σ H Q) : gTup K n t (.ref a) σ H Q := ⟨a, xs, rfl, h, hn, q⟩
theorem rd_gcons {t : TG} {u : TGs} {v : V} {r : List V} {σ : L2.St} {H : Hp} {Q : L2.St → Hp → Prop} (q : t v σ H fun σ' H' => u r σ' H' Q) : gCons t u (v :: r) σ H Q := ⟨v, r, rfl, q⟩
theorem rd_gnil {σ : L2.St} {H : Hp} {Q : L2.St → Hp → Prop} (q : Q σ H) : gNil [] σ H Q := ⟨rfl, q⟩
/-! ### steps -/
def memWords : List Str := ["read", "write", "get", "put", "clean", "drop", "flush"]
def sigWords : List Str := ["post", "wait"]
def GoodStep (ws : List Str) (l : List V) : Prop :=
  (∃ w n, l = [.str w, .str n] ∧ w ∈ sigWords ∧ w ∈ ws ∧ nameOk n = true) ∨
  (∃ w n s f e, l = [.str w, .str n, .int s, .int f, .int e] ∧ w ∈ memWords ∧ w ∈ ws ∧ nameOk n = true ∧ 0 ≤ s ∧ s ≤ 3 ∧ 0 ≤ f ∧ f ≤ e ∧ e ≤ 7)
def StepAt (H : Hp) (ws : List Str) (v : V) : Prop := ∃ p l, v = .ref p ∧ H p = some (.tup l) ∧ GoodStep ws l
theorem StepAt.mono {H H' : Hp} {ws : List Str} {v : V} (s : Same H H') (h : StepAt H ws v) : StepAt H' ws v := by
  obtain ⟨p, l, e, h, g⟩ := h
  exact ⟨p, l, e, s _ _ h, g⟩
theorem nameOk_len {z : Str} (h : nameOk z = true) : 1 ≤ z.length ∧ z.length ≤ 8 := by
  unfold nameOk at h
  rw [Bool.and_eq_true, Bool.and_eq_true] at h
  exact ⟨of_decide_eq_true h.1.1, of_decide_eq_true h.1.2⟩
def spMemStep : Sp := fun vs H Q _ => ∃ p w n s f e, vs = [.ref p] ∧ H p = some (.tup [.str w, .str n, .int s, .int f, .int e]) ∧ w ∈ memWords ∧ nameOk n = true ∧ 0 ≤ s ∧ s ≤ 3 ∧ 0 ≤ f ∧ f ≤ e ∧ e ≤ 7 ∧ ∀ H', Same H H' → Q (.bl true) H'
def spIsStep : Sp := fun vs H Q _ => ∃ p l ws, vs = [.ref p] ∧ H p = some (.tup l) ∧ GoodStep ws l ∧ ∀ H', Same H H' → Q (.bl true) H'
def spCheckAgent (K : PySem.W.Frag) : Sp := fun vs H Q _ => ∃ z t wt ws steps, vs = [.str z, .ref t, .ref wt] ∧ nameOk z = true ∧ H t = some (.tup steps) ∧ 1 ≤ steps.length ∧ steps.length ≤ 24 ∧ SqT K H wt (ws.map V.str) ∧
  (∀ s ∈ steps, StepAt H ws s) ∧ ∀ H', Same H H' → Q .non H'
theorem inStrs_of {w : Str} {zs : List Str} (h : w ∈ zs) : inStrs (.str w) zs = true := by
  show zs.contains w = true
  rw [List.contains_iff_mem]; exact h
theorem of_inStrs {w : Str} {zs : List Str} (h : inStrs (.str w) zs = false) : w ∉ zs := fun m => by
  rw [inStrs_of m] at h; cases h
end Lay
namespace Lay
open PySem PySem.Spec PyProof.Rows L2
section
variable {K : PySem.W.Frag} {σ : L2.St} {H : Hp} {D : Ends} {ta tv : TE} {f : Str}
theorem rd_sFld (h : tv σ H fun y H1 => ta σ H1 fun x H2 => ∃ a C dx fs, x = .ref a ∧ H2 a = some (.ins C dx fs) ∧ Cls K C ∧ NoAttr K C f ∧ fs.length < 1000 ∧ D.nx σ (upd H2 a (.ins C dx (putF f y fs)))) : sFld K ta tv f D σ H := h
theorem rd_tFld {Q : VK} (h : ta σ H fun x H1 => ∃ a C dx fs v, x = .ref a ∧ H1 a = some (.ins C dx fs) ∧ Cls K C ∧ NoAttr K C f ∧ fs.lookup f = some v ∧ Q v H1) : tFld K ta f σ H Q := h
theorem rd_tCon {Q : VK} (h : ta σ H fun x H1 => ∃ a C dx fs v u, x = .ref a ∧ H1 a = some (.ins C dx fs) ∧ Cls K C ∧ Con K C f v u ∧ fs.lookup f = none ∧ Q v H1) : tCon K ta f σ H Q := h
theorem rd_makeR {C : Addr} {sp : Sp} {E : XK} {t : TA} {Q : VK} (h : t σ H fun vs H1 => ∀ x dx, H1 x = none → H1 dx = none → dx ≠ x →
  sp (V.ref x :: vs) (upd (upd H1 dx (.own x)) x (.ins C dx [])) (fun v H2 => v = .non ∧ Q (.ref x) H2) E) : StX.tMakeR C sp E t σ H Q := h
theorem rd_cval {Q : VK} (h : ta σ H fun x H1 => ∃ C mc v u, x = .ref C ∧ ClX.CRead K C mc ∧ ClX.CVal K C mc f v u ∧ Q v H1) : ClX.tCVal K ta f σ H Q := h
theorem rd_meth {C : Addr} {m : Str} {sp : Sp} {dvs : List V} {E : XK} {t : TA} {Q : VK} (h : ta σ H fun x H1 => ∃ a dx fs, x = .ref a ∧ H1 a = some (.ins C dx fs) ∧ fs.lookup m = none ∧ t σ H1 fun vs H2 => sp (x :: (vs ++ dvs)) H2 Q E) : tMeth C m sp dvs E ta t σ H Q := h
end
/-- an agent's fields -/
def agentF (z : Str) (t : Addr) : List (Str × V) := [("name", .str z), ("steps", .ref t)]
theorem putF_agent (z : Str) (t : Addr) : putF "steps" (.ref t) (putF "name" (.str z) []) = agentF z t := by
  have h : ¬ (("name" : Str) = "steps") := by decide +kernel
  show (if ("name" : Str) = "steps" then _ else (("name" : Str), V.str z) :: putF "steps" (V.ref t) []) = _
  rw [if_neg h]
  rfl
/-- an agent of the class C, of the name z, with these steps -/
def AgentAt (C : Addr) (H : Hp) (a : Addr) (z : Str) (steps : List V) : Prop := ∃ dx t, H a = some (.ins C dx (agentF z t)) ∧ H t = some (.tup steps)
theorem AgentAt.mono {C : Addr} {H H' : Hp} {a : Addr} {z : Str} {steps : List V} (s : Same H H') (h : AgentAt C H a z steps) : AgentAt C H' a z steps := by
  obtain ⟨dx, t, h1, h2⟩ := h
  exact ⟨dx, t, s _ _ h1, s _ _ h2⟩
/-- __init__(self, name, *steps), the steps good ones -/
def spAgentInit (C : Addr) (ws : List Str) : Sp := fun vs H Q _ => ∃ x dx z t steps, vs = [.ref x, .str z, .ref t] ∧ H x = some (.ins C dx []) ∧ nameOk z = true ∧ H t = some (.tup steps) ∧ 1 ≤ steps.length ∧ steps.length ≤ 24 ∧ (∀ s ∈ steps, StepAt H ws s) ∧
  ∀ H', AgentAt C H' x z steps → Keep x H H' → Q .non H'
def spStar (n : Nat) (sp : Sp) : Sp := fun vs H Q E => ∃ ws rest, vs = ws ++ rest ∧ ws.length = n ∧ rest.length ≤ sizeLine ∧ ∀ p, H p = none → sp (ws ++ [V.ref p]) (upd H p (.tup rest)) Q E
end Lay

namespace Lay
open PySem PySem.Spec PyProof.Rows L2
def spMay (zs : List Str) : Sp := fun vs H Q _ => ∃ x v t, vs = [x, v] ∧ Kd H v t ∧ Q (.bl (inStrs v zs)) H
/-- a value of some kind is drawn from a pen of which at most n cells were begun; m cells are begun by it -/
def spAny (m : Nat) : Sp := fun vs H Q _ => ∃ (p : Addr) (n : Nat) (c : Addr), vs = [.ref p] ∧ PenAt c H p n ∧ n + m < 100000 ∧ ∀ v t H', Kd H' v t → PenAt c H' p (n + m) → Keep p H H' → Q v H'
theorem inStrs_same {v : V} {zs ys : List Str} (h : ∀ z, z ∈ zs ↔ z ∈ ys) : inStrs v zs = inStrs v ys := by
  cases v with
  | str z =>
    show zs.contains z = ys.contains z
    rw [Bool.eq_iff_iff, List.contains_iff_mem, List.contains_iff_mem]
    exact h z
  | _ => rfl
theorem PenAt.at_ {c : Addr} {H : Hp} {p : Addr} {n : Nat} (h : PenAt c H p n) : ∃ xs, H p = some (.lst xs) := by
  obtain ⟨ns, b, l, e, _⟩ := h
  exact ⟨_, e⟩
theorem PenAt.cell {c : Addr} {H : Hp} {p : Addr} {n : Nat} (h : PenAt c H p n) : ∃ xs, H c = some (.lst xs) := by
  obtain ⟨ns, b, l, _, e, _⟩ := h
  exact ⟨_, e⟩
theorem PenAt.other {c : Addr} {H : Hp} {p a : Addr} {o : HO} {n : Nat} (h : PenAt c H p n) (h1 : a ≠ p) (h2 : a ≠ c) : PenAt c (upd H a o) p n := by
  obtain ⟨ns, b, l, e1, e2, r⟩ := h
  exact ⟨ns, b, l, by rw [upd_ne h1.symm]; exact e1, by rw [upd_ne h2.symm]; exact e2, r⟩
theorem Same.keep {p : Addr} {H H1 H2 : Hp} (a : Same H H1) (b : Keep p H1 H2) : Keep p H H2 := fun c o n h => b c o n (a c o h)
theorem Keep.frz {p : Addr} {H H1 : Hp} (k : Keep p H H1) {b : Addr} {o : HO} (hb : b ≠ p) (h : H b = some o) : H1 b = some o := k b o hb h
theorem rd_disp {trs : List (TE × TE)} {σ : L2.St} {H : Hp} {Q : VK} (h : ∀ p, H p = none → tPairs trs σ (upd H p (.dK [])) fun ps H2 => H2 p = some (.dK []) ∧ ∃ kvs : List (Key × V), ps = kvs.map (fun kv => (kV kv.1, kv.2)) ∧ kvs.length ≤ 15 ∧ Q (.ref p) (upd H2 p (.dK (mergeK [] kvs)))) : tDisp trs σ H Q := h
theorem rd_dnew {σ : L2.St} {H : Hp} {Q : VK} (h : ∀ p, H p = none → Q (.ref p) (upd H p (.dK []))) : tDNewK σ H Q := h
theorem rd_pcons {tk tv : TE} {r : List (TE × TE)} {σ : L2.St} {H : Hp} {Q : List (V × V) → Hp → Prop} (h : tk σ H fun x H1 => tv σ H1 fun y H2 => tPairs r σ H2 fun ps H3 => Q ((x, y) :: ps) H3) : tPairs ((tk, tv) :: r) σ H Q := h
theorem rd_pnil {σ : L2.St} {H : Hp} {Q : List (V × V) → Hp → Prop} (h : Q [] H) : tPairs [] σ H Q := h
theorem rd_cat {l b : Addr} {xs zs : List V} {H : Hp} {Q : VK} (hl : H l = some (.lst xs)) (hb : H b = some (.lst zs)) (hz : xs.length + zs.length ≤ sizeLine) (q : ∀ p, H p = none → Q (.ref p) (upd H p (.lst (xs ++ zs)))) : rCat (.ref l) (.ref b) H Q := ⟨l, b, xs, zs, rfl, rfl, hl, hb, hz, q⟩
theorem none_of {H H' : Hp} {p : Addr} (s : Same H H') (h : H' p = none) : H p = none := by
  cases e : H p with
  | none => rfl
  | some o => rw [s _ _ e] at h; cases h
theorem cut63 {xs : List V} (h : xs.length ≤ 63) : cutV xs none (some 63) = xs := by
  have e : HT.sIx xs.length xs.length (some 63) = xs.length := by
    unfold HT.sIx
    dsimp only
    split <;> omega
  unfold cutV
  rw [e]
  show List.take (xs.length - 0) (List.drop 0 xs) = xs
  simp
theorem pen_at {H : Hp} {p l : Addr} {ns : List Int} (h1 : H p = some (.lst [.ref l, .int 0, .int 0])) (h2 : H l = some (.lst (ns.map V.int))) (h3 : ns.length ≤ 63) : PenAt l H p 0 := ⟨ns, 0, 0, h1, h2, h3, by decide, by decide, by decide⟩
/-- each value of a row is of some kind -/
def Kds (H : Hp) (xs : List V) : Prop := ∀ v ∈ xs, ∃ t, Kd H v t
theorem Kds.nil {H : Hp} : Kds H [] := fun v h => nomatch h
theorem Kds.cons {H : Hp} {x : V} {t : Kn} {xs : List V} (h : Kd H x t) (r : Kds H xs) : Kds H (x :: xs) := fun v m => by
  rcases List.mem_cons.mp m with e | m
  · subst e; exact ⟨t, h⟩
  · exact r v m
theorem upd2 {H : Hp} {p : Addr} {o u : HO} : upd (upd H p o) p u = upd H p u := by
  funext b
  by_cases e : b = p
  · subst e; rw [upd_same, upd_same]
  · rw [upd_ne e, upd_ne e, upd_ne e]
theorem rd_draw {p c : Addr} {m : Int} {n : Nat} {H0 H : Hp} {Q : VK} {E : XK} (h0 : PenAt c H0 p n) (s : Same H0 H) (hn : n < 100000) (hm : 0 < m) (hm2 : m < 1073741824) (q : ∀ (d : Int) (H' : Hp), 0 ≤ d → d < m → PenAt c H' p (n + 1) → Keep p H H' → Q (.int d) H') : spDraw [.ref p, .int m] H Q E := ⟨p, m, n, c, rfl, h0.mono s, hn, hm, hm2, q⟩
theorem ne_none {H : Hp} {a p : Addr} {o : HO} (h : H a = none) (h' : H p = some o) : a ≠ p := fun e => by
  subst e; rw [h] at h'; cases h'
theorem rd_ixK {K : PySem.W.Frag} {H : Hp} {Q : VK} {a : Addr} {xs : List V} {d : Int} (h : SqL K H a xs) (h0 : 0 ≤ d) (h1 : d < xs.length) (kd : Kds H xs) (q : ∀ v t, Kd H v t → Q v H) : rIxL K (.ref a) (.int d) H Q := by
  have hd : d.toNat < xs.length := by omega
  obtain ⟨t, k⟩ := kd xs[d.toNat] (List.getElem_mem hd)
  exact rd_ixL h (atI_int h0 (List.getElem?_eq_getElem hd)) (q _ t k)
/-- an agent: a name and steps, at a heap -/
def InsAt (C : Addr) (H : Hp) (a : Addr) : Prop := ∃ dx z t, H a = some (.ins C dx (agentF z t))
theorem InsAt.keep {C p : Addr} {H H' : Hp} {a : Addr} (h : InsAt C H a) (k : Keep p H H') (n : a ≠ p) : InsAt C H' a := by
  obtain ⟨dx, z, t, e⟩ := h
  exact ⟨dx, z, t, k _ _ n e⟩
theorem InsAt.mono {C : Addr} {H H' : Hp} {a : Addr} (h : InsAt C H a) (s : Same H H') : InsAt C H' a := by
  obtain ⟨dx, z, t, e⟩ := h
  exact ⟨dx, z, t, s _ _ e⟩
def spRight (C : Addr) (m : Int) : Sp := fun vs H Q _ => ∃ a v t, vs = [.ref a, .int m, v] ∧ InsAt C H a ∧ Kd H v t ∧ ∀ H', Same H H' → Q (.bl true) H'
def spFamily : Sp := fun vs H Q _ => ∃ (p : Addr) (n : Nat) (c : Addr), vs = [.ref p] ∧ PenAt c H p n ∧ n + 19 < 100000 ∧ ∀ H', PenAt c H' p (n + 19) → Keep p H H' → Q (.bl true) H'
theorem rd_isiV {K : PySem.W.Frag} {H : Hp} {Q : VK} {x : V} {t : Kn} (n : Kn) (b : Bool) (k : Kd H x t) (e : isTy t n = b) (q : Q (.bl b) H) : rIsi K [x, .ty n.name] H Q := rd_isi n k (by rw [e]; exact q)
theorem rd_meth1 {C a dx : Addr} {m : Str} {sp : Sp} {E : XK} {t : TA} {ta : TE} {fs : List (Str × V)} {σ : L2.St} {H H1 : Hp} {Q : VK} (ha : ∀ Q' : VK, Q' (.ref a) H1 → ta σ H Q') (h : H1 a = some (.ins C dx fs)) (hl : fs.lookup m = none) (q : t σ H1 fun vs H2 => sp (.ref a :: vs) H2 Q E) : tMeth C m sp [] E ta t σ H Q :=
  ha _ ⟨a, dx, fs, rfl, h, hl, by simpa using q⟩
theorem q_true {Q : VK} {b : Bool} {H : Hp} (e : b = true) (q : Q (.bl true) H) : Q (.bl b) H := by rw [e]; exact q
theorem same_words (v : V) : (inStrs v ["read", "write", "get", "put", "clean", "drop", "flush", "post", "wait"] == inStrs v ["read", "write", "post", "wait", "clean", "drop", "flush", "get", "put"]) = true := by
  rw [inStrs_same (ys := ["read", "write", "post", "wait", "clean", "drop", "flush", "get", "put"]) (fun z => by
    simp only [List.mem_cons, List.not_mem_nil, or_false]
    constructor
    · rintro (h | h | h | h | h | h | h | h | h) <;> simp [h]
    · rintro (h | h | h | h | h | h | h | h | h) <;> simp [h])]
  exact beq_self_eq_true _
theorem kit_own {K : PySem.W.Frag} {C D : Addr} {b : Bool} (h1 : PySem.W.mroIn K D (.type "object") = some true) (h2 : PySem.W.typeIn K (.ref D) = some (.type "type")) (h4 : PySem.W.subIn K (.ref D) (.ref D) = some true) (h3 : PySem.W.subIn K (.ref C) (.ref D) = some b) : PySem.W.kitOne K (.ref C) (.ref D) = some b := by
  unfold PySem.W.kitOne
  by_cases e : C = D
  · subst e
    rw [h4] at h3
    cases h3
    exact if_pos (beq_self_eq_true _)
  · rw [if_neg (fun z => e (by injection eq_of_beq z))]
    unfold PySem.W.kitCls
    have h5 : (PySem.W.clsIn K D).isSome = true := by
      unfold PySem.W.mroIn at h1
      cases hh : PySem.W.clsIn K D with
      | none => rw [hh] at h1; cases h1
      | some _ => rfl
    dsimp only
    rw [h5, h2]
    exact h3
theorem rd_isiC {K : PySem.W.Frag} {H : Hp} {Q : VK} {x : V} {t : Value} {D : Addr} {b : Bool} (hx : TyX K H x t) (h : PySem.W.kitOne K t (.ref D) = some b) (q : Q (.bl b) H) : rIsi K [x, .ref D] H Q :=
  ⟨x, .ref D, t, .ref D, b, rfl, .own D, hx, h, q⟩
end Lay
namespace Lay
open PySem PySem.Spec PyProof.Rows L2
theorem mk_agent {C : Addr} {ws : List Str} {H : Hp} {z : Str} {t0 : Addr} {Q : Addr → Hp → Prop} {E : XK} (hz : nameOk z = true) (h0 : H t0 = some (.tup [.str "post", .str "s"])) (hw : Str.ofString "post" ∈ ws) (q : ∀ x H', H x = none → Same H H' → InsAt C H' x → Q x H') :
    ∀ x dx, H x = none → H dx = none → dx ≠ x → spStar 2 (spAgentInit C ws) [.ref x, .str z, .ref t0] (upd (upd H dx (.own x)) x (.ins C dx [])) (fun v H2 => v = .non ∧ Q x H2) E := by
  intro x dx hx hd hne
  have s1 : Same H (upd (upd H dx (.own x)) x (.ins C dx [])) := Lay.Same.upd' (Same.upd hd) (by rw [upd_ne hne.symm]; exact hx)
  refine ⟨[.ref x, .str z], [.ref t0], rfl, rfl, (by show 1 ≤ sizeLine; decide), fun p hp => ?_⟩
  have s2 := Lay.Same.upd' (o := .tup [.ref t0]) s1 hp
  refine ⟨x, dx, z, p, [.ref t0], rfl, upd_old hp upd_same, hz, upd_same, (by show 1 ≤ 1; decide), (by show 1 ≤ 24; decide), ?_, ?_⟩
  · intro s m
    rw [List.mem_singleton] at m
    subst m
    exact ⟨t0, _, rfl, s2 _ _ h0, .inl ⟨_, _, rfl, (by decide), hw, (by decide +kernel)⟩⟩
  · rintro H' ⟨dx', t, e1, e2⟩ keep
    refine ⟨rfl, q x H' hx (fun b o e => keep b o (fun y => by subst y; rw [hx] at e; cases e) (s2 _ _ e)) ⟨dx', z, t, e1⟩⟩
theorem iteNT {A B : Prop} (h : B) : if (!true) = true then A else B := h
theorem iteNF {A B : Prop} (h : A) : if (!false) = true then A else B := h
theorem dma_ok {d : Int} (h0 : 0 ≤ d) (h1 : d < 3) : nameOk (cutS "dma" none (some (1 + d))) = true := by
  obtain rfl | rfl | rfl : d = 0 ∨ d = 1 ∨ d = 2 := by omega
  all_goals decide +kernel
theorem dp_ne {K : PySem.W.Frag} {H : Hp} {Q : VK} {x y : V} (d e : PyData) (hx : Dp K H x d) (hy : Dp K H y e) (h1 : SeqAt.shaped d = true) (h2 : SeqAt.shaped e = true) (h3 : PyData.eqv d e = true) (q : Q (.bl false) H) : rNeD K x y H Q := ⟨d, e, hx, hy, h1, h2, by rw [h3]; exact q⟩
end Lay

namespace OwnC
open PySem L2 PySem.Spec PyProof.Rows
/-- the type of a value, as == asks it -/
inductive KTy (K : PySem.W.Frag) (H : Hp) : V → Value → Prop
  | non : KTy K H .non (.type "NoneType")
  | bl (b : Bool) : KTy K H (.bl b) (.type "bool")
  | int (i : Int) : KTy K H (.int i) (.type "int")
  | str (z : Str) : KTy K H (.str z) (.type "str")
  | tup {a : Addr} {xs : List V} (h : SqT K H a xs) : KTy K H (.ref a) (.type "tuple")
  | lst {a : Addr} {xs : List V} (h : SqL K H a xs) : KTy K H (.ref a) (.type "list")
  | ins {a C dx : Addr} {fs : List (Str × V)} (h : H a = some (.ins C dx fs)) : KTy K H (.ref a) (.ref C)
section
variable {X : Cx} {H : Hp} {s : Shared} {σ : L2.St} {pins : List (Addr × Obj)}
theorem looks_ty {y : V} {v T : Value} (I : Inv X pins σ H s) (r : RelV y v) (k : KTy X.K H y T) {M : Model} : PySem.W.Looks M s.heap (typeOf v) T := by
  cases k with
  | non => cases r; exact PySem.W.Looks.of_pure rfl
  | bl b => cases r; exact PySem.W.Looks.of_pure rfl
  | int i => obtain ⟨t, rfl⟩ := r; exact PySem.W.Looks.of_pure rfl
  | str z => obtain ⟨t, rfl⟩ := r; exact PySem.W.Looks.of_pure rfl
  | tup h =>
    cases r
    obtain ⟨its, _, pl, _⟩ := I.tuple h
    obtain ⟨o, h1, h2, _⟩ := id pl
    exact h2 ▸ (PySem.W.Looks.ld h1).andThen .now
  | lst h =>
    cases r
    obtain ⟨its, _, pl, _⟩ := I.list h
    obtain ⟨o, h1, h2, _⟩ := pl.isList
    exact h2 ▸ (PySem.W.Looks.ld h1).andThen .now
  | ins h =>
    cases r
    obtain ⟨_, J, _⟩ := ins_get I.hok h
    obtain ⟨_, J, _⟩ := J.look
    exact J.type
variable {CX : CXT} {n : Nat} {f C : Addr} {fd : FuncData} {ps : List Str} {sp : Sp} {E : XK}
/-- a def of two parameters is called -/
theorem call_two {A : Around} {Q : VK} {x y : V} {u v : Value} (F : FnOk X.prog X.w X.K X.mg X.base CX n f fd ps sp) (hb : Binds X.K fd ps []) (hx : Passes CX X E) (I : Inv X pins σ H s) (hr : Room n A)
    (e0 : Env0 X.prog X.w X.K X.mg X.base A X.stack s H) (rx : RelV x u) (ry : RelV y v) (q : sp [x, y] H Q E) : wpAny (model X.prog X.w) A (call (.ref f) [u, v]) (EP X pins σ Q) X.xe s := by
  have hl : [x, y].length = ps.length := F.len _ _ _ _ q
  refine wpAny_call (codeAny_mono (F.run A X.stack s H ⟨[u, v], []⟩ [u, v] [x, y] Q E hr e0 ?_ (.cons rx (.cons ry .nil)) q) fun r s2 hq => ?_)
  · have := hb s [u, v] I.kIn (by simpa using hl)
    simpa using this
  · cases r with
    | error e => exact hx pins σ H s e s2 I hq
    | ok fl =>
      cases fl with
      | ret w' => exact I.after hq
      | _ => exact False.elim hq
end
def rOwn (K : PySem.W.Frag) (C : Addr) (sp : Sp) (E : XK) : R2 := fun x y H Q => ∃ a dx fs T, x = .ref a ∧ H a = some (.ins C dx fs) ∧ KTy K H y T ∧ PySem.W.notFirst K C T = true ∧ sp [x, y] H Q E
section
variable {X : Cx} {CX : CXT} {n : Nat} {f C : Addr} {fd : FuncData} {ps : List Str} {sp : Sp} {E : XK}
theorem op_cmp {op : CmpOp} (hop : ∀ a b, compareOp op a b = richCompare op a b) (F : FnOk X.prog X.w X.K X.mg X.base CX n f fd ps sp) (hb : Binds X.K fd ps []) (hs : PySem.W.findIn X.K (.ref C) (cmpInfo op).2.1 = some (some (.ref f))) (hf : PySem.W.isFn X.K (.ref f) = true)
    (hx : Passes CX X E) (hr : Room n X.A) : OpR X (compareOp op) (rOwn X.K C sp E) := by
  intro pn s st H x y v u Q I rx ry told
  obtain ⟨a, dx, fs, T, rfl, ha, k, hn, q⟩ := told
  have ev : v = Value.ref a := rx
  subst ev
  obtain ⟨m1, J, _⟩ := ins_get I.hok ha
  obtain ⟨od, J, _⟩ := J.look
  obtain ⟨m, hF⟩ := I.fr
  rw [hop]
  refine PySem.W.cmp_K (op := op) (tb := T) hr.units0 hF I.ok.mod.kin J (looks_ty I ry k) hn hs hf ?_
  refine wpAny_mono (call_two F hb hx I hr I.env0 rx ry q) (fun r s' z => ?_) fun _ _ e => e
  obtain ⟨z2, H2, I2, rz, qz⟩ := z
  exact SlX.cmpback rz ⟨z2, H2, I2, rz, qz⟩
theorem op_eqI (F : FnOk X.prog X.w X.K X.mg X.base CX n f fd ps sp) (hb : Binds X.K fd ps []) (hs : PySem.W.findIn X.K (.ref C) "__eq__" = some (some (.ref f))) (hf : PySem.W.isFn X.K (.ref f) = true)
    (hr : Room n X.A) (hx : Passes CX X E) : OpR X (compareOp .Eq) (rOwn X.K C sp E) := op_cmp (fun _ _ => rfl) F hb hs hf hx hr
end
/-! ### != by an own == -/
section
variable {prog : Program} {w : World} {A : Around} {E : Value → Shared → Prop} {s : Shared} {K : PySem.W.Frag} {x C L f : Addr} {ox : Obj} {od : Option Obj} {b tb : Value} {h₀ : Heap} {m : Str → Option Value}
theorem entry_ne (hu : A.units < cLine) (X : K.In s.heap) (I : PySem.W.InstAt s.heap x ox C od) (hs : PySem.W.findIn K (.ref C) "__eq__" = some (some (.ref f))) (hf : PySem.W.isFn K (.ref f) = true) {Q : Fin → Shared → Prop}
    (h : wpAny (model prog w) A (call (.ref f) [.ref x, b]) (fun v s' => ∃ r, v = .bool r ∧ Q (.done (.ret (.bool (!r)))) s') E s) : wpAny (model prog w) A (Builtin.«object.__ne__» ⟨[.ref x, b], []⟩) Q E s := by
  delta Builtin.«object.__ne__»; repeat (first
    | (with_reducible refine wpAny_cRoomFor hu ?_)
    | (refine wpAny_bind (m := callSpecialIfBound? (.ref x) (Str.ofString "__eq__") [b]) (PySem.W.ifBound_K X I hs hf (wpAny_mono h (fun r s' hr => ?_) fun _ _ e => e))
       obtain ⟨q, rfl, hq⟩ := hr
       repeat (first | exact hq | exact wpAny_pure hq | exact wpAny_truthy_bool hq | (refine wpAny_bind (m := truthy (.bool _)) (wpAny_truthy_bool ?_)) | wp_step))
    | wp_step)
theorem call_ne {Q : Value → Shared → Prop} (hu : A.units + 1 < cLine) (X : K.In s.heap) (I : PySem.W.InstAt s.heap x ox C od) (hm : PySem.W.mroIn K C (.type "object") = some true) (hs : PySem.W.findIn K (.ref C) "__eq__" = some (some (.ref f))) (hf : PySem.W.isFn K (.ref f) = true)
    (h : wpAny (model prog w) A.in1 (call (.ref f) [.ref x, b]) (fun v s' => ∃ r, v = .bool r ∧ Q (.bool (!r)) s') E s) : wpAny (model prog w) A (call (.builtin "object.__ne__") [.ref x, b]) Q E s := by
  refine wpAny_call (codeAny_call_builtin F.cmp_object.ne.plain F.cmpEntry_ne (PySem.W.check_slot F.cmpKind_ne F.cmpSplit_ne (I.type.andThen (PySem.W.looks_mroIn X hm)) (F.cmpArgs_ne _ _) ?_))
  exact entry_ne (A := A.in1) hu X I hs hf (wpAny_mono h (fun v s' z => z) fun _ _ e => e)
theorem bound_ne {M : Model} {args : List Value} {Q : Option Value → Shared → Prop} (X : K.In s.heap) (I : PySem.W.InstAt s.heap x ox C od) (hs : PySem.W.findIn K (.ref C) "__ne__" = some (some (.builtin "object.__ne__")))
    (h : wpAny M A (call (.builtin "object.__ne__") (.ref x :: args)) (fun v => Q (some v)) E s) : wpAny M A (callSpecialIfBound? (.ref x) "__ne__" args) Q E s := by
  have fin : wpAny M A (call (.builtin "object.__ne__") ([.ref x] ++ args) >>= fun v => pure (some v)) Q E s := wpAny_bind (wpAny_mono h (fun v s' q => wpAny_pure q) fun _ _ q => q)
  simp only [bindSpecialIfBound?, callSpecialIfBound?]
  have see := PySem.W.looks_findIn (M := M) X hs
  refine wpAny_holding (wpAny_bind (wpAny_bind (wpAny_bind (I.type.here (see.here (wpAny_bind (wpAny_askSetting (wpAny_ite ?_))))))))
  split
  · exact wpAny_bind (wpAny_of_eq (F.cmp_object.ne.bind _) (wpAny_pure (by exact fin)))
  · exact wpAny_tryCatch (wpAny_bind (wpAny_of_eq (F.cmp_object.ne.bind _) (wpAny_pure (by exact fin))))
theorem ne_own {Q : Value → Shared → Prop} (hu : A.units + 1 < cLine) (Fr' : PyProof.Rows.Fr h₀ L s.heap m) (X₀ : K.In h₀) (I : PySem.W.InstAt s.heap x ox C od) (hb : PySem.W.Looks (model prog w) s.heap (typeOf b) tb) (hn : PySem.W.notFirst K C tb = true)
    (hm : PySem.W.mroIn K C (.type "object") = some true) (hne : PySem.W.findIn K (.ref C) "__ne__" = some (some (.builtin "object.__ne__"))) (hs : PySem.W.findIn K (.ref C) "__eq__" = some (some (.ref f))) (hf : PySem.W.isFn K (.ref f) = true)
    (h : wpAny (model prog w) A.in1 (call (.ref f) [.ref x, b]) (fun v s' => ∃ r, v = .bool r ∧ Q (.bool (!r)) s') E s) : wpAny (model prog w) A (richCompare .NotEq (.ref x) b) Q E s := by
  have X := X₀.keeps Fr'.keep
  have one : wpAny (model prog w) A (tryCompare (.ref x) "__ne__" b) (fun r s' => ∃ v, r = some (.bool v) ∧ Q (.bool v) s') E s := by
    unfold tryCompare
    refine wpAny_bind (bound_ne X I hne (call_ne hu X I hm hs hf (wpAny_mono h (fun v s' z => ?_) fun _ _ e => e)))
    obtain ⟨r, rfl, q⟩ := z
    exact ⟨r, rfl, wpAny_pure ⟨_, rfl, q⟩⟩
  unfold richCompare
  simp only [oneThing_ref]
  refine wpAny_holding (wpAny_bind (wpAny_cRoomFor (by omega) ?_))
  rw [cmpInfo_NotEq]
  dsimp only
  refine wpAny_bind (I.type.here ?_)
  refine wpAny_bind (hb.here ?_)
  split
  · rename_i uneq
    have below : PySem.W.subIn K tb (.ref C) = some false := by
      have two := Bool.or_eq_true_iff.mp hn
      refine two.elim (fun e => ?_) (fun e => beq_iff_eq.mp e)
      rw [beq_iff_eq.mp e] at uneq
      simp at uneq
    refine wpAny_bind ((PySem.W.looks_subIn X below).here ?_)
    simp only [if_false, Bool.false_eq_true]
    refine wpAny_bind (m := tryCompare (.ref x) _ b) (wpAny_mono one (fun r s' z => ?_) fun _ _ e => e)
    obtain ⟨v, rfl, hq⟩ := z
    exact wpAny_pure hq
  · refine wpAny_bind ?_
    refine wpAny_pure ?_
    simp only [if_false, Bool.false_eq_true]
    refine wpAny_bind (m := tryCompare (.ref x) _ b) (wpAny_mono one (fun r s' z => ?_) fun _ _ e => e)
    obtain ⟨v, rfl, hq⟩ := z
    exact wpAny_pure hq
end
/-- x != y by the own ==: what it tells is turned round -/
def rNeOwn (K : PySem.W.Frag) (C : Addr) (sp : Sp) (E : XK) : R2 := fun x y H Q => ∃ a dx fs T, x = .ref a ∧ H a = some (.ins C dx fs) ∧ KTy K H y T ∧ PySem.W.notFirst K C T = true ∧ sp [x, y] H (fun v H' => ∃ b, v = .bl b ∧ Q (.bl (!b)) H') E
section
variable {X : Cx} {CX : CXT} {n : Nat} {f C : Addr} {fd : FuncData} {ps : List Str} {sp : Sp} {E : XK}
theorem op_neI (F : FnOk X.prog X.w X.K X.mg X.base CX n f fd ps sp) (hb : Binds X.K fd ps []) (hs : PySem.W.findIn X.K (.ref C) "__eq__" = some (some (.ref f))) (hf : PySem.W.isFn X.K (.ref f) = true)
    (hm : PySem.W.mroIn X.K C (.type "object") = some true) (hne : PySem.W.findIn X.K (.ref C) "__ne__" = some (some (.builtin "object.__ne__")))
    (hr : Room (n + 1) X.A) (hx : Passes CX X E) : OpR X (compareOp .NotEq) (rNeOwn X.K C sp E) := by
  intro pn s st H x y v u Q I rx ry told
  obtain ⟨a, dx, fs, T, rfl, ha, k, hn, q⟩ := told
  have ev : v = Value.ref a := rx
  subst ev
  obtain ⟨m1, J, _⟩ := ins_get I.hok ha
  obtain ⟨od, J, _⟩ := J.look
  obtain ⟨m, hF⟩ := I.fr
  show wpAny (model X.prog X.w) X.A (richCompare .NotEq (.ref a) u) (EP X pn st Q) X.xe s
  refine ne_own (tb := T) hr.in1.units0 hF I.ok.mod.kin J (looks_ty I ry k) hn hm hne hs hf ?_
  refine wpAny_mono (call_two F hb hx I hr.in1 I.env0.in1 rx ry q) (fun r s' z => ?_) fun _ _ e => e
  obtain ⟨z', H', I', rz, b, rfl, qz⟩ := z
  cases rz
  exact ⟨b, rfl, ⟨.bl _, H', I', rfl, qz⟩⟩
end
end OwnC

namespace OwnC
open PySem L2 PySem.Spec PyProof.Rows
/-- the class C has under a name a def that keeps a promise -/
structure OwnM (X : Cx) (CX : CXT) (n : Nat) (C : Addr) (name : Str) (sp : Sp) (E : XK) : Prop where
  ok : ∃ (f : Addr) (fd : FuncData) (ps : List Str), FnOk X.prog X.w X.K X.mg X.base CX n f fd ps sp ∧ Binds X.K fd ps [] ∧ PySem.W.findIn X.K (.ref C) name = some (some (.ref f)) ∧ PySem.W.isFn X.K (.ref f) = true
  out : Passes CX X E
/-- what object gives of != -/
structure NeC (K : PySem.W.Frag) (C : Addr) : Prop where
  mro : PySem.W.mroIn K C (.type "object") = some true
  ne : PySem.W.findIn K (.ref C) "__ne__" = some (some (.builtin "object.__ne__"))
section
variable {X : Cx} {pins : List (Addr × Obj)} {σ : L2.St} {H : Hp} {s : Shared}
theorem call_own2 {CX : CXT} {n : Nat} {C : Addr} {name : Str} {sp : Sp} {E : XK} {A : Around} {Q : VK} {x y : V} {u v : Value} (o : OwnM X CX n C name sp E) (I : Inv X pins σ H s) (hr : Room n A)
    (e0 : Env0 X.prog X.w X.K X.mg X.base A X.stack s H) (rx : RelV x u) (ry : RelV y v) (q : sp [x, y] H Q E) : ∃ f, PySem.W.findIn X.K (.ref C) name = some (some (.ref f)) ∧ PySem.W.isFn X.K (.ref f) = true ∧ wpAny (model X.prog X.w) A (call (.ref f) [u, v]) (EP X pins σ Q) X.xe s := by
  obtain ⟨f, fd, ps, F, hb, hs, hf⟩ := o.ok
  exact ⟨f, hs, hf, call_two F hb o.out I hr e0 rx ry q⟩
theorem call_own1 {CX : CXT} {n : Nat} {C : Addr} {name : Str} {sp : Sp} {E : XK} {A : Around} {Q : VK} {x : V} {u : Value} (o : OwnM X CX n C name sp E) (I : Inv X pins σ H s) (hr : Room n A)
    (e0 : Env0 X.prog X.w X.K X.mg X.base A X.stack s H) (rx : RelV x u) (q : sp [x] H Q E) : ∃ f, PySem.W.findIn X.K (.ref C) name = some (some (.ref f)) ∧ PySem.W.isFn X.K (.ref f) = true ∧ wpAny (model X.prog X.w) A (call (.ref f) [u]) (EP X pins σ Q) X.xe s := by
  obtain ⟨f, fd, ps, F, hb, hs, hf⟩ := o.ok
  have hl : [x].length = ps.length := F.len _ _ _ _ q
  refine ⟨f, hs, hf, wpAny_call (codeAny_mono (F.run A X.stack s H ⟨[u], []⟩ [u] [x] Q E hr e0 ?_ (.cons rx .nil) q) fun r s2 hq => ?_)⟩
  · have := hb s [u] I.kIn (by simpa using hl)
    simpa using this
  · cases r with
    | error e => exact o.out pins σ H s e s2 I hq
    | ok fl =>
      cases fl with
      | ret w' => exact I.after hq
      | _ => exact False.elim hq
end
/-! ### the one of the lower class is asked first -/
section
variable {prog : Program} {w : World} {A : Around} {E : Value → Shared → Prop} {s : Shared} {K : PySem.W.Frag} {x y C D L f : Addr} {ox oy : Obj} {od od2 : Option Obj} {h₀ : Heap} {m : Str → Option Value}
theorem eq_below {Q : Value → Shared → Prop} (hu : A.units < cLine) (Fr' : PyProof.Rows.Fr h₀ L s.heap m) (X₀ : K.In h₀) (I : PySem.W.InstAt s.heap x ox C od) (J : PySem.W.InstAt s.heap y oy D od2) (hCD : D ≠ C) (hb : PySem.W.subIn K (.ref D) (.ref C) = some true)
    (hs : PySem.W.findIn K (.ref D) "__eq__" = some (some (.ref f))) (hf : PySem.W.isFn K (.ref f) = true)
    (h : wpAny (model prog w) A (call (.ref f) [.ref y, .ref x]) (fun v s' => ∃ r, v = .bool r ∧ Q (.bool r) s') E s) : wpAny (model prog w) A (richCompare .Eq (.ref x) (.ref y)) Q E s := by
  have X := X₀.keeps Fr'.keep
  have one : wpAny (model prog w) A (tryCompare (.ref y) "__eq__" (.ref x)) (fun r s' => ∃ v, r = some (.bool v) ∧ Q (.bool v) s') E s := by
    unfold tryCompare
    refine wpAny_bind (PySem.W.ifBound_K X J hs hf (wpAny_mono h (fun v s' z => ?_) fun _ _ e => e))
    obtain ⟨r, rfl, q⟩ := z
    exact wpAny_pure ⟨_, rfl, q⟩
  unfold richCompare
  simp only [oneThing_ref]
  refine wpAny_holding (wpAny_bind (wpAny_cRoomFor hu ?_))
  rw [cmpInfo_Eq]
  dsimp only
  refine wpAny_bind (I.type.here (wpAny_bind (J.type.here ?_)))
  have hne : (Value.ref C != Value.ref D) = true := by
    rw [bne_iff_ne]
    intro z
    injection z with z
    exact hCD z.symm
  rw [hne]
  simp only [if_true]
  refine wpAny_bind ((PySem.W.looks_subIn X hb).here ?_)
  simp only [if_true]
  refine wpAny_bind (m := tryCompare (.ref y) _ (.ref x)) (wpAny_mono one (fun r s' z => ?_) fun _ _ e => e)
  obtain ⟨v, rfl, hq⟩ := z
  exact wpAny_bind (wpAny_rule (wpAny_pure hq))
theorem ne_below {Q : Value → Shared → Prop} (hu : A.units + 1 < cLine) (Fr' : PyProof.Rows.Fr h₀ L s.heap m) (X₀ : K.In h₀) (I : PySem.W.InstAt s.heap x ox C od) (J : PySem.W.InstAt s.heap y oy D od2) (hCD : D ≠ C) (hb : PySem.W.subIn K (.ref D) (.ref C) = some true)
    (hm : NeC K D) (hs : PySem.W.findIn K (.ref D) "__eq__" = some (some (.ref f))) (hf : PySem.W.isFn K (.ref f) = true)
    (h : wpAny (model prog w) A.in1 (call (.ref f) [.ref y, .ref x]) (fun v s' => ∃ r, v = .bool r ∧ Q (.bool (!r)) s') E s) : wpAny (model prog w) A (richCompare .NotEq (.ref x) (.ref y)) Q E s := by
  have X := X₀.keeps Fr'.keep
  have one : wpAny (model prog w) A (tryCompare (.ref y) "__ne__" (.ref x)) (fun r s' => ∃ v, r = some (.bool v) ∧ Q (.bool v) s') E s := by
    unfold tryCompare
    refine wpAny_bind (bound_ne X J hm.ne (call_ne hu X J hm.mro hs hf (wpAny_mono h (fun v s' z => ?_) fun _ _ e => e)))
    obtain ⟨r, rfl, q⟩ := z
    exact ⟨r, rfl, wpAny_pure ⟨_, rfl, q⟩⟩
  unfold richCompare
  simp only [oneThing_ref]
  refine wpAny_holding (wpAny_bind (wpAny_cRoomFor (by omega) ?_))
  rw [cmpInfo_NotEq]
  dsimp only
  refine wpAny_bind (I.type.here (wpAny_bind (J.type.here ?_)))
  have hne : (Value.ref C != Value.ref D) = true := by
    rw [bne_iff_ne]
    intro z
    injection z with z
    exact hCD z.symm
  rw [hne]
  simp only [if_true]
  refine wpAny_bind ((PySem.W.looks_subIn X hb).here ?_)
  simp only [if_true]
  refine wpAny_bind (m := tryCompare (.ref y) _ (.ref x)) (wpAny_mono one (fun r s' z => ?_) fun _ _ e => e)
  obtain ⟨v, rfl, hq⟩ := z
  exact wpAny_bind (wpAny_rule (wpAny_pure hq))
end
/-- x == y, x an instance with an own ==, y of no class below; or y of a class below, with an own == -/
def rEqF (X : Cx) : R2 := fun x y H Q =>
  (∃ a C dx fs T CX n sp E, x = .ref a ∧ H a = some (.ins C dx fs) ∧ KTy X.K H y T ∧ PySem.W.notFirst X.K C T = true ∧ OwnM X CX n C "__eq__" sp E ∧ Room n X.A ∧ sp [x, y] H Q E) ∨
  (∃ a C dx fs b D dy gs CX n sp E, x = .ref a ∧ H a = some (.ins C dx fs) ∧ y = .ref b ∧ H b = some (.ins D dy gs) ∧ D ≠ C ∧ PySem.W.subIn X.K (.ref D) (.ref C) = some true ∧ OwnM X CX n D "__eq__" sp E ∧ Room n X.A ∧ sp [y, x] H (fun v H' => ∃ r, v = .bl r ∧ Q (.bl r) H') E)
theorem op_eqF {X : Cx} : OpR X (compareOp .Eq) (rEqF X) := by
  intro pn s st H x y v u Q I rx ry told
  rcases told with ⟨a, C, dx, fs, T, CX, n, sp, E, rfl, ha, k, hn, o, hr, q⟩ | ⟨a, C, dx, fs, b, D, dy, gs, CX, n, sp, E, rfl, ha, rfl, hb, hCD, hsub, o, hr, q⟩
  · have ev : v = Value.ref a := rx
    subst ev
    obtain ⟨m1, J, _⟩ := ins_get I.hok ha
    obtain ⟨od, J, _⟩ := J.look
    obtain ⟨m, hF⟩ := I.fr
    obtain ⟨f, hs, hf, hcall⟩ := call_own2 o I hr I.env0 rx ry q
    show wpAny (model X.prog X.w) X.A (richCompare .Eq (.ref a) u) (EP X pn st Q) X.xe s
    refine PySem.W.cmp_K (op := .Eq) (tb := T) hr.units0 hF I.ok.mod.kin J (looks_ty I ry k) hn hs hf (wpAny_mono hcall (fun r s' z => ?_) fun _ _ e => e)
    obtain ⟨z2, H2, I2, rz, qz⟩ := z
    exact SlX.cmpback rz ⟨z2, H2, I2, rz, qz⟩
  · have ev : v = Value.ref a := rx
    have eu : u = Value.ref b := ry
    subst ev eu
    obtain ⟨m1, J, _⟩ := ins_get I.hok ha
    obtain ⟨od, J, _⟩ := J.look
    obtain ⟨m2, J2, _⟩ := ins_get I.hok hb
    obtain ⟨od2, J2, _⟩ := J2.look
    obtain ⟨m, hF⟩ := I.fr
    obtain ⟨f, hs, hf, hcall⟩ := call_own2 o I hr I.env0 ry rx q
    show wpAny (model X.prog X.w) X.A (richCompare .Eq (.ref a) (.ref b)) (EP X pn st Q) X.xe s
    refine eq_below hr.units0 hF I.ok.mod.kin J J2 hCD hsub hs hf (wpAny_mono hcall (fun r s' z => ?_) fun _ _ e => e)
    obtain ⟨z2, H2, I2, rz, b2, rfl, qz⟩ := z
    cases rz
    exact ⟨b2, rfl, ⟨.bl _, H2, I2, rfl, qz⟩⟩
def rNeF (X : Cx) : R2 := fun x y H Q =>
  (∃ a C dx fs T CX n sp E, x = .ref a ∧ H a = some (.ins C dx fs) ∧ KTy X.K H y T ∧ PySem.W.notFirst X.K C T = true ∧ OwnM X CX n C "__eq__" sp E ∧ NeC X.K C ∧ Room (n + 1) X.A ∧ sp [x, y] H (fun v H' => ∃ r, v = .bl r ∧ Q (.bl (!r)) H') E) ∨
  (∃ a C dx fs b D dy gs CX n sp E, x = .ref a ∧ H a = some (.ins C dx fs) ∧ y = .ref b ∧ H b = some (.ins D dy gs) ∧ D ≠ C ∧ PySem.W.subIn X.K (.ref D) (.ref C) = some true ∧ OwnM X CX n D "__eq__" sp E ∧ NeC X.K D ∧ Room (n + 1) X.A ∧ sp [y, x] H (fun v H' => ∃ r, v = .bl r ∧ Q (.bl (!r)) H') E)
theorem op_neF {X : Cx} : OpR X (compareOp .NotEq) (rNeF X) := by
  intro pn s st H x y v u Q I rx ry told
  rcases told with ⟨a, C, dx, fs, T, CX, n, sp, E, rfl, ha, k, hn, o, hm, hr, q⟩ | ⟨a, C, dx, fs, b, D, dy, gs, CX, n, sp, E, rfl, ha, rfl, hb, hCD, hsub, o, hm, hr, q⟩
  · have ev : v = Value.ref a := rx
    subst ev
    obtain ⟨m1, J, _⟩ := ins_get I.hok ha
    obtain ⟨od, J, _⟩ := J.look
    obtain ⟨m, hF⟩ := I.fr
    obtain ⟨f, hs, hf, hcall⟩ := call_own2 o I hr.in1 I.env0.in1 rx ry q
    show wpAny (model X.prog X.w) X.A (richCompare .NotEq (.ref a) u) (EP X pn st Q) X.xe s
    refine ne_own (tb := T) hr.in1.units0 hF I.ok.mod.kin J (looks_ty I ry k) hn hm.mro hm.ne hs hf (wpAny_mono hcall (fun r s' z => ?_) fun _ _ e => e)
    obtain ⟨z2, H2, I2, rz, b2, rfl, qz⟩ := z
    cases rz
    exact ⟨b2, rfl, ⟨.bl _, H2, I2, rfl, qz⟩⟩
  · have ev : v = Value.ref a := rx
    have eu : u = Value.ref b := ry
    subst ev eu
    obtain ⟨m1, J, _⟩ := ins_get I.hok ha
    obtain ⟨od, J, _⟩ := J.look
    obtain ⟨m2, J2, _⟩ := ins_get I.hok hb
    obtain ⟨od2, J2, _⟩ := J2.look
    obtain ⟨m, hF⟩ := I.fr
    obtain ⟨f, hs, hf, hcall⟩ := call_own2 o I hr.in1 I.env0.in1 ry rx q
    show wpAny (model X.prog X.w) X.A (richCompare .NotEq (.ref a) (.ref b)) (EP X pn st Q) X.xe s
    refine ne_below hr.in1.units0 hF I.ok.mod.kin J J2 hCD hsub hm hs hf (wpAny_mono hcall (fun r s' z => ?_) fun _ _ e => e)
    obtain ⟨z2, H2, I2, rz, b2, rfl, qz⟩ := z
    cases rz
    exact ⟨b2, rfl, ⟨.bl _, H2, I2, rfl, qz⟩⟩
/-- len of an instance by its own __len__ -/
def rLenF (X : Cx) : List V → Hp → VK → Prop := fun xs H Q => ∃ a C dx fs CX n sp E, xs = [V.ref a] ∧ H a = some (.ins C dx fs) ∧ OwnM X CX n C "__len__" sp E ∧ Room (n + 1) X.A ∧ sp [.ref a] H (fun v H' => ∃ k : Nat, v = .int k ∧ (k : Int) < 2 ^ 62 ∧ Q (.int k) H') E
theorem call_lenF {X : Cx} : CallR X (.builtin "len") (rLenF X) := by
  intro pn s st H xs us Q I r told
  obtain ⟨a, C, dx, fs, CX, n, sp, E, rfl, ha, o, hr, q⟩ := told
  obtain ⟨u, rfl, rx⟩ := vals1 r
  have ev : u = Value.ref a := rx
  subst ev
  obtain ⟨m1, J, _⟩ := ins_get I.hok ha
  obtain ⟨od, J, _⟩ := J.look
  obtain ⟨m, hF⟩ := I.fr
  obtain ⟨f, hs, hf, hcall⟩ := call_own1 o I hr.in1 I.env0.in1 rx q
  refine PySem.W.len_K hF I.ok.mod.kin J hs hf (wpAny_mono hcall (fun v s' z => ?_) fun _ _ e => e)
  obtain ⟨z2, H2, I2, rz, k, rfl, hk, qz⟩ := z
  obtain ⟨t, rfl⟩ := rz
  exact ⟨⟨by omega, by omega⟩, ⟨.int _, H2, I2.tok _, ⟨_, rfl⟩, qz⟩⟩
end OwnC

namespace OwnC
open PySem L2 PySem.Spec PyProof.Rows
/-! ### a class called with a starred argument -/
section
variable {X : Cx} {CX : CXT} {k : Nat} {f C : Addr} {sp : Sp} {E : XK} {x : Str} {e fe : Expr} {es : List Expr} {tf : TE} {t : TA} {p pos : Pos}
/-- C(e, .., *y), C a class of the module -/
theorem pe_makeG (M : Mk X.K C f) (F : FnR X.prog X.w X.K X.mg X.base CX k f sp) (hr : Room (k + 1) X.A) (hg : Gl X x) (hm : X.mg x = some (.ref C)) (hx : Passes CX X E) (ha : PA X (e :: es) t) (hdb : (x == ("__debug__" : Str)) = false := by decide)
    (he : starEach (e :: es) X.env = (false, eval e X.env) :: starEach es X.env := by rfl) (hst : (backTo pos (starEach es X.env)).any (·.1) = true := by rfl) : PE X (.Call (.Name x p) (e :: es) [] pos) (StX.tMakeR C sp E t) := by
  refine ⟨fun pins s σ H Q I h => wpAny_Call_Name_kw (ld_glob I hg hm ?_ hdb)⟩
  exact PySem.W.callWith_S2 (h₀ := X.base) I.ok.mod.kin M.kp (thn (ha.run pos pins s σ H _ I h) fun us s1 ⟨vs, H1, I1, r, q⟩ => ⟨I1.kIn, StX.run_makeR M F hr hx I1 r q⟩) he hst
/-- v(e, .., *y), v an expression that gives the class -/
def tMakeV (C : Addr) (sp : Sp) (E : XK) (tf : TE) (t : TA) : TE := fun σ H Q => tf σ H fun y H1 => y = .ref C ∧ StX.tMakeR C sp E t σ H1 Q
theorem pe_makeV (hf : PE X fe tf) (M : Mk X.K C f) (F : FnR X.prog X.w X.K X.mg X.base CX k f sp) (hr : Room (k + 1) X.A) (hx : Passes CX X E) (ha : PA X (e :: es) t)
    (ht : eval (.Call fe (e :: es) [] pos) X.env = (do callWith pos (← eval fe X.env) [] (backTo pos (starEach (e :: es) X.env)) (backToKw pos (keywordEach [] X.env))) := by rfl)
    (he : starEach (e :: es) X.env = (false, eval e X.env) :: starEach es X.env := by rfl) (hst : (backTo pos (starEach es X.env)).any (·.1) = true := by rfl) : PE X (.Call fe (e :: es) [] pos) (tMakeV C sp E tf t) := by
  refine ⟨fun pins s σ H Q I h => Call_ (thn (hf.run pins s σ H _ I h) fun u s1 ⟨y, H1, I1, ry, ey, q⟩ => ?_) ht⟩
  subst ey
  have eu : u = Value.ref C := ry
  subst eu
  exact PySem.W.callWith_S2 (h₀ := X.base) I1.ok.mod.kin M.kp (thn (ha.run pos pins s1 σ H1 _ I1 q) fun us s2 ⟨vs, H2, I2, r, q2⟩ => ⟨I2.kIn, StX.run_makeR M F hr hx I2 r q2⟩) he hst
end
/-! ### o[i] by an own __getitem__ -/
def rSubF (P : Program) (w : World) (K : PySem.W.Frag) (mg : Str → Option Value) (base : Heap) (n : Nat) : R2 := fun x y H Q => ∃ a C dx fs f fd ps sp, x = .ref a ∧ H a = some (.ins C dx fs) ∧ FnOk P w K mg base CX0 n f fd ps sp ∧ Binds K fd ps [] ∧ PySem.W.findIn K (.ref C) "__getitem__" = some (some (.ref f)) ∧ PySem.W.isFn K (.ref f) = true ∧ PySem.W.fnIn K f = true ∧ sp [x, y] H Q E0
theorem pe_subF {X : Cx} {n : Nat} (P : Program) (w : World) (K : PySem.W.Frag) (mg : Str → Option Value) (base : Heap) {a b : Expr} {ta tb : TE} {pos : Pos} (hr : Room (n + 1) X.A) (ha : PE X a ta) (hb : PE X b tb)
    (e1 : X.prog = P := by rfl) (e2 : X.w = w := by rfl) (e3 : X.K = K := by rfl) (e4 : X.mg = mg := by rfl) (e5 : X.base = base := by rfl)
    (hsl : ∀ o i, subscripted b true o i = runValue (.builtin "lifetime.subscript" ⟨[o, i], []⟩) := by intro o i; with_unfolding_all rfl) : PE X (.Subscript a b pos) (tOp (rSubF P w K mg base n) ta tb) := by
  subst e1 e2 e3 e4 e5
  refine ⟨fun pins s σ H Q I h => ?_⟩
  refine Subscript_ (binT ha hb I h fun v u s2 x y H2 I2 rx ry q => ?_)
  obtain ⟨p, C, dx, fs, f, fd, ps, sp, rfl, hp, F, hbd, hs, hf, hfn, q⟩ := q
  have ev : v = Value.ref p := rx
  subst ev
  obtain ⟨m1, J, _⟩ := ins_get I2.hok hp
  obtain ⟨od, J, _⟩ := J.look
  obtain ⟨m, hF⟩ := I2.fr
  exact PySem.W.sub_K hF I2.ok.mod.kin J hs hfn hf (call_two F hbd pass0 I2 hr.in1 I2.env0.in1 rx ry q) (hsl _ _)
/-- o.m(e, ..), whatever class o is of -/
def tMethF (X : Cx) (m : Str) (ta : TE) (t : TA) : TE := fun σ H Q => ta σ H fun x H1 => ∃ a C dx fs CX k f sp E, x = .ref a ∧ H1 a = some (.ins C dx fs) ∧ fs.lookup m = none ∧ Cls X.K C ∧ Meth X.K C m f ∧ FnR X.prog X.w X.K X.mg X.base CX k f sp ∧ Room k X.A ∧ Passes CX X E ∧ t σ H1 fun vs H2 => sp (x :: vs) H2 Q E
theorem pe_methF {X : Cx} {m : Str} {o e : Expr} {es : List Expr} {ta : TE} {t : TA} {apos pos : Pos} {pl : Sem Bool} (he : PE X o ta) (ha : PA X (e :: es) t)
    (hst : starEach (e :: es) X.env = (false, eval e X.env) :: starEach es X.env := by rfl) (hpl : (backTo pos (starEach es X.env)).any (·.1) = false := by rfl)
    (ht : eval (.Call (.Attribute o m apos) (e :: es) [] pos) X.env = (do let ov ← eval o X.env; standAt apos.atName; let (f, first) ← holding [ov] (getMethod ov m pl); callWith pos f first (backTo pos (starEach (e :: es) X.env)) (backToKw pos (keywordEach [] X.env))) := by rfl) :
    PE X (.Call (.Attribute o m apos) (e :: es) [] pos) (tMethF X m ta t) := by
  refine ⟨fun pins s σ H Q I h => PySem.W.methodCall_KW (pl := pl) (thn (he.run pins s σ H _ I h) fun u s1 ⟨x, H1, I1, rx, a, C, dx, fs, CX, k, f, sp, E, ex, ea, l, c, hm, F, hr, hx, q⟩ => ?_) ht⟩
  subst ex
  have eu : u = Value.ref a := rx
  subst eu
  refine getmeth_ok I1 ea c hm l (PySem.W.callWith_K (first := [.ref a]) (h₀ := X.base) I.ok.mod.kin hm.kp (thn (ha.run pos pins s1 σ H1 _ I1 q) fun us s2 ⟨vs, H2, I2, r, q2⟩ => ⟨I2.kIn, ?_⟩) hst hpl)
  exact wpAny_call (run_fnR (us := .ref a :: us) (vs := .ref a :: vs) F hr hx I2 (.cons rfl r) q2)
end OwnC

namespace Lay
open PySem L2 PySem.Spec PyProof.Rows
/-! ### texts and whole numbers in tuples in a tuple or list, as data -/
def flatD : V → PyData
  | .str z => .str z
  | .int i => .int i
  | _ => .none
def isFlat : V → Bool
  | .str z => PyData.strOk z
  | .int _ => true
  | _ => false
def rowD (l : List V) : PyData := .tuple (l.map flatD)
theorem beq_dec {α : Type} [DecidableEq α] [BEq α] [LawfulBEq α] (a b : α) : (a == b) = decide (a = b) := by
  by_cases h : a = b
  · subst h
    simp
  · rw [decide_eq_false h]
    exact beq_eq_false_iff_ne.mpr h
theorem eqv_flat : ∀ x y : V, isFlat x = true → isFlat y = true → PyData.eqv (flatD x) (flatD y) = decide (x = y) := by
  intro x y hx hy
  cases x with
  | str z =>
    cases y with
    | str u => simp [flatD, PyData.eqv]; exact beq_dec _ _
    | int j => simp [flatD, PyData.eqv]
    | _ => cases hy
  | int i =>
    cases y with
    | str u => simp [flatD, PyData.eqv]
    | int j => simp [flatD, PyData.eqv]; exact beq_dec _ _
    | _ => cases hy
  | _ => cases hx
theorem eqvAll_flat : ∀ l l' : List V, l.all isFlat = true → l'.all isFlat = true → PyData.eqvAll (l.map flatD) (l'.map flatD) = decide (l = l')
  | [], [], _, _ => by simp [PyData.eqvAll]
  | [], _ :: _, _, _ => by simp [PyData.eqvAll]
  | _ :: _, [], _, _ => by simp [PyData.eqvAll]
  | x :: l, y :: l', h, h' => by
    rw [List.all_cons, Bool.and_eq_true] at h h'
    rw [List.map_cons, List.map_cons, PyData.eqvAll, eqv_flat x y h.1 h'.1, eqvAll_flat l l' h.2 h'.2]
    by_cases e : x = y <;> by_cases e' : l = l' <;> simp [e, e']
theorem eqv_row {l l' : List V} (h : l.all isFlat = true) (h' : l'.all isFlat = true) : PyData.eqv (rowD l) (rowD l') = decide (l = l') := by
  unfold rowD
  rw [PyData.eqv]
  exact eqvAll_flat l l' h h'
theorem eqvAll_rows : ∀ ls ls' : List (List V), (∀ l ∈ ls, l.all isFlat = true) → (∀ l ∈ ls', l.all isFlat = true) → PyData.eqvAll (ls.map rowD) (ls'.map rowD) = decide (ls = ls')
  | [], [], _, _ => by simp [PyData.eqvAll]
  | [], _ :: _, _, _ => by simp [PyData.eqvAll]
  | _ :: _, [], _, _ => by simp [PyData.eqvAll]
  | x :: l, y :: l', h, h' => by
    rw [List.map_cons, List.map_cons, PyData.eqvAll, eqv_row (h x (List.mem_cons_self ..)) (h' y (List.mem_cons_self ..)), eqvAll_rows l l' (fun z m => h z (List.mem_cons_of_mem _ m)) (fun z m => h' z (List.mem_cons_of_mem _ m))]
    by_cases e : x = y <;> by_cases e' : l = l' <;> simp [e, e']
theorem lay_flat (x : V) (h : isFlat x = true) : PyData.canLay0 (flatD x) = true := by
  cases x with
  | str z =>
    show PyData.canLay0 (.str z) = true
    rw [PyData.canLay0]
    exact h
  | int i => simp [flatD, PyData.canLay0]
  | _ => cases h
theorem layAll_flat : ∀ l : List V, l.all isFlat = true → PyData.canLayAll0 (l.map flatD) = true
  | [], _ => by simp [PyData.canLayAll0]
  | x :: l, h => by
    rw [List.all_cons, Bool.and_eq_true] at h
    rw [List.map_cons, PyData.canLayAll0, lay_flat x h.1, layAll_flat l h.2]; rfl
theorem lay_row (l : List V) (h : l.all isFlat = true) : PyData.canLay0 (rowD l) = true := by unfold rowD; rw [PyData.canLay0]; exact layAll_flat l h
theorem layAll_rows : ∀ ls : List (List V), (∀ l ∈ ls, l.all isFlat = true) → PyData.canLayAll0 (ls.map rowD) = true
  | [], _ => by simp [PyData.canLayAll0]
  | x :: l, h => by rw [List.map_cons, PyData.canLayAll0, lay_row x (h x (List.mem_cons_self ..)), layAll_rows l (fun z m => h z (List.mem_cons_of_mem _ m))]; rfl
theorem deep_flat (x : V) : PyData.depth (flatD x) ≤ 1 := by cases x <;> simp [flatD, PyData.depth]
theorem deepAll_flat : ∀ l : List V, PyData.depthAll (l.map flatD) ≤ 1
  | [] => by simp [PyData.depthAll]
  | x :: l => by
    rw [List.map_cons, PyData.depthAll]
    have := deep_flat x
    have := deepAll_flat l
    omega
theorem deep_row (l : List V) : PyData.depth (rowD l) ≤ 2 := by
  unfold rowD
  rw [PyData.depth]
  have := deepAll_flat l
  omega
theorem deepAll_rows : ∀ ls : List (List V), PyData.depthAll (ls.map rowD) ≤ 2
  | [] => by simp [PyData.depthAll]
  | x :: l => by
    rw [List.map_cons, PyData.depthAll]
    have := deep_row x
    have := deepAll_rows l
    omega
theorem shaped_rowsT (ls : List (List V)) (h : ∀ l ∈ ls, l.all isFlat = true) : SeqAt.shaped (.tuple (ls.map rowD)) = true := by
  have h1 := deepAll_rows ls
  have h2 : PyData.depth (.tuple (ls.map rowD)) ≤ 64 := by rw [PyData.depth]; omega
  have h3 : PyData.canLay0 (.tuple (ls.map rowD)) = true := by rw [PyData.canLay0]; exact layAll_rows ls h
  unfold SeqAt.shaped
  rw [h3, decide_eq_true h2]
  rfl
theorem shaped_rowsL (ls : List (List V)) (h : ∀ l ∈ ls, l.all isFlat = true) : SeqAt.shaped (.list (ls.map rowD)) = true := by
  have h1 := deepAll_rows ls
  have h2 : PyData.depth (.list (ls.map rowD)) ≤ 64 := by rw [PyData.depth]; omega
  have h3 : PyData.canLay0 (.list (ls.map rowD)) = true := by rw [PyData.canLay0]; exact layAll_rows ls h
  unfold SeqAt.shaped
  rw [h3, decide_eq_true h2]
  rfl
/-- steps at a heap: the tuples and what they hold -/
inductive RowsAt (H : Hp) : List V → List (List V) → Prop
  | nil : RowsAt H [] []
  | cons {p : Addr} {l : List V} {xs : List V} {ls : List (List V)} (h : H p = some (.tup l)) (r : RowsAt H xs ls) : RowsAt H (.ref p :: xs) (l :: ls)
theorem RowsAt.same {H H' : Hp} {xs : List V} {ls : List (List V)} (r : RowsAt H xs ls) (k : ∀ b l, H b = some (.tup l) → H' b = some (.tup l)) : RowsAt H' xs ls := by
  induction r with
  | nil => exact .nil
  | cons h _ ih => exact .cons (k _ _ h) ih
theorem RowsAt.mono {H H' : Hp} {xs : List V} {ls : List (List V)} (r : RowsAt H xs ls) (s : Same H H') : RowsAt H' xs ls := r.same fun b l h => s b _ h
/-- a list is at p, so no tuple is -/
theorem RowsAt.keep {H H' : Hp} {xs : List V} {ls : List (List V)} {p : Addr} {ys : List V} (r : RowsAt H xs ls) (hp : H p = some (.lst ys)) (k : Keep p H H') : RowsAt H' xs ls := r.same fun b l h => k b _ (fun e => by subst e; rw [hp] at h; cases h) h
theorem RowsAt.len {H : Hp} {xs : List V} {ls : List (List V)} (r : RowsAt H xs ls) : xs.length = ls.length := by
  induction r with
  | nil => rfl
  | cons _ _ ih => rw [List.length_cons, List.length_cons, ih]
theorem dp_flat {K : PySem.W.Frag} {H : Hp} : ∀ l : List V, l.all isFlat = true → DpAll K H l (l.map flatD)
  | [], _ => .nil
  | x :: l, h => by
    rw [List.all_cons, Bool.and_eq_true] at h
    refine .cons ?_ (dp_flat l h.2)
    cases x <;> first | cases h.1 | skip
    · exact .int _
    · exact .str _
theorem RowsAt.dp {K : PySem.W.Frag} {H : Hp} {xs : List V} {ls : List (List V)} (r : RowsAt H xs ls) (h : ∀ l ∈ ls, l.all isFlat = true) : DpAll K H xs (ls.map rowD) := by
  induction r with
  | nil => exact .nil
  | cons hp _ ih =>
    refine .cons (.tup (SqT.of hp) (dp_flat _ (h _ (List.mem_cons_self ..)))) (ih fun z m => h z (List.mem_cons_of_mem _ m))
theorem RowsAt.get {H : Hp} {xs : List V} {ls : List (List V)} (r : RowsAt H xs ls) : ∀ {i : Nat} {l : List V}, ls[i]? = some l → ∃ p, xs[i]? = some (.ref p) ∧ H p = some (.tup l) := by
  induction r with
  | nil => intro i l e; simp at e
  | cons h _ ih =>
    intro i l e
    cases i with
    | zero =>
      rw [List.getElem?_cons_zero] at e
      cases e
      exact ⟨_, rfl, h⟩
    | succ i =>
      rw [List.getElem?_cons_succ] at e ⊢
      exact ih e
theorem RowsAt.append {H : Hp} {xs ys : List V} {ls ms : List (List V)} (r : RowsAt H xs ls) (q : RowsAt H ys ms) : RowsAt H (xs ++ ys) (ls ++ ms) := by
  induction r with
  | nil => exact q
  | cons h _ ih => exact .cons h ih
theorem RowsAt.drop {H : Hp} {xs : List V} {ls : List (List V)} (r : RowsAt H xs ls) : ∀ n : Nat, RowsAt H (xs.drop n) (ls.drop n) := by
  induction r with
  | nil => intro n; simp; exact .nil
  | cons h t ih =>
    intro n
    cases n with
    | zero => exact .cons h t
    | succ n => exact ih n
theorem RowsAt.take {H : Hp} {xs : List V} {ls : List (List V)} (r : RowsAt H xs ls) : ∀ n : Nat, RowsAt H (xs.take n) (ls.take n) := by
  induction r with
  | nil => intro n; simp; exact .nil
  | cons h t ih =>
    intro n
    cases n with
    | zero => exact .nil
    | succ n => exact .cons h (ih n)
theorem RowsAt.set {H : Hp} {xs : List V} {ls : List (List V)} {p : Addr} {l : List V} (hp : H p = some (.tup l)) (r : RowsAt H xs ls) : ∀ n : Nat, RowsAt H (xs.set n (.ref p)) (ls.set n l) := by
  induction r with
  | nil => intro n; simp; exact .nil
  | cons h t ih =>
    intro n
    cases n with
    | zero => exact .cons hp t
    | succ n => exact .cons h (ih n)
theorem RowsAt.steps {H : Hp} {ws : List Str} {xs : List V} {ls : List (List V)} (r : RowsAt H xs ls) (g : ∀ l ∈ ls, GoodStep ws l) : ∀ s ∈ xs, StepAt H ws s := by
  induction r with
  | nil => intro s m; cases m
  | cons h _ ih =>
    intro s m
    rcases List.mem_cons.mp m with e | m
    · subst e
      exact ⟨_, _, rfl, h, g _ (List.mem_cons_self ..)⟩
    · exact ih (fun z m => g z (List.mem_cons_of_mem _ m)) s m
theorem name_strOk {z : Str} (h : nameOk z = true) : PyData.strOk z = true := by
  unfold nameOk at h
  rw [Bool.and_eq_true] at h
  unfold PyData.strOk
  rw [← Array.all_toList, List.all_eq_true]
  intro c m
  have := List.all_eq_true.mp h.2 c m
  rw [Bool.and_eq_true] at this
  have h2 := of_decide_eq_true this.2
  exact decide_eq_true (by omega)
theorem words_strOk {ws : List Str} (h : ws.all PyData.strOk = true) {w : Str} (m : w ∈ ws) : PyData.strOk w = true := List.all_eq_true.mp h w m
theorem GoodStep.flat {ws : List Str} {l : List V} (g : GoodStep ws l) : l.all isFlat = true := by
  rcases g with ⟨w, n, rfl, h1, _, h3⟩ | ⟨w, n, s, f, e, rfl, h1, _, h3, _⟩
  · have a := words_strOk (by decide +kernel) h1
    have b := name_strOk h3
    simp [isFlat, a, b]
  · have a := words_strOk (by decide +kernel) h1
    have b := name_strOk h3
    simp [isFlat, a, b]
theorem GoodStep.more {ws zs : List Str} {l : List V} (g : GoodStep ws l) (h : ∀ w ∈ ws, w ∈ zs) : GoodStep zs l := by
  rcases g with ⟨w, n, e, h1, h2, h3⟩ | ⟨w, n, s, f, t, e, h1, h2, h3⟩
  · exact .inl ⟨w, n, e, h1, h w h2, h3⟩
  · exact .inr ⟨w, n, s, f, t, e, h1, h w h2, h3⟩
end Lay

namespace Lay
open PySem L2 PySem.Spec PyProof.Rows
theorem fnR_of {P : Program} {w : World} {K : PySem.W.Frag} {mg : Str → Option Value} {base : Heap} {CX : CXT} {k : Nat} {f : Addr} {fd : FuncData} {ps : List Str} {sp : Sp} (F : FnOk P w K mg base CX k f fd ps sp) (hb : Binds K fd ps []) : FnR P w K mg base CX k f sp := by
  intro A outer s H us vs Q E hr e0 r hs
  have hl := F.len _ _ _ _ hs
  have hu : us.length = ps.length := by rw [← hl]; exact r.length.symm
  have KX : K.In s.heap := e0.mod.kin.keeps fun b o e => (e0.bs b o e).1
  have b := hb s us KX (by simpa using hu)
  rw [List.append_nil] at b
  exact F.run A outer s H ⟨us, []⟩ us vs Q E hr e0 b r hs
/-- an agent: its class, name, its steps and what they hold -/
def AgAt (C : Addr) (H : Hp) (a : Addr) (z : Str) (ls : List (List V)) : Prop := ∃ dx t xs, H a = some (.ins C dx (agentF z t)) ∧ H t = some (.tup xs) ∧ RowsAt H xs ls
theorem AgAt.mono {C : Addr} {H H' : Hp} {a : Addr} {z : Str} {ls : List (List V)} (h : AgAt C H a z ls) (s : Same H H') : AgAt C H' a z ls := by
  obtain ⟨dx, t, xs, h1, h2, h3⟩ := h
  exact ⟨dx, t, xs, s _ _ h1, s _ _ h2, h3.mono s⟩
theorem AgAt.keep {C p : Addr} {H H' : Hp} {a : Addr} {z : Str} {ls : List (List V)} {ys : List V} (h : AgAt C H a z ls) (hp : H p = some (.lst ys)) (k : Keep p H H') : AgAt C H' a z ls := by
  obtain ⟨dx, t, xs, h1, h2, h3⟩ := h
  exact ⟨dx, t, xs, k _ _ (fun e => by subst e; rw [hp] at h1; cases h1) h1, k _ _ (fun e => by subst e; rw [hp] at h2; cases h2) h2, h3.keep hp k⟩
/-- a row of steps: a list or a tuple -/
def SeqAt' (K : PySem.W.Frag) (H : Hp) (t : Addr) (xs : List V) : Prop := SqT K H t xs ∨ SqL K H t xs
/-- C.made(name, steps), all good -/
def spMade (K : PySem.W.Frag) (C : Addr) (ws : List Str) : Sp := fun vs H Q _ => ∃ z t xs ls, vs = [.ref C, .str z, .ref t] ∧ nameOk z = true ∧ (SqT K H t xs ∨ SqL K H t xs) ∧ RowsAt H xs ls ∧ 1 ≤ ls.length ∧ ls.length ≤ 24 ∧ (∀ l ∈ ls, GoodStep ws l) ∧
  ∀ x H', H x = none → Same H H' → AgAt C H' x z ls → Q (.ref x) H'
/-- the initialiser is called of a class with these steps -/
theorem mk_ag {C : Addr} {ws : List Str} {H : Hp} {z : Str} {xs : List V} {ls : List (List V)} {Q : Addr → Hp → Prop} {E : XK} (hz : nameOk z = true) (hx : RowsAt H xs ls) (h1 : 1 ≤ ls.length) (h2 : ls.length ≤ 24) (hg : ∀ l ∈ ls, GoodStep ws l)
    (q : ∀ x H', H x = none → Same H H' → AgAt C H' x z ls → Q x H') :
    ∀ x dx, H x = none → H dx = none → dx ≠ x → spStar 2 (spAgentInit C ws) (.ref x :: .str z :: xs) (upd (upd H dx (.own x)) x (.ins C dx [])) (fun v H2 => v = .non ∧ Q x H2) E := by
  intro x dx hx1 hd hne
  have s1 : Same H (upd (upd H dx (.own x)) x (.ins C dx [])) := Lay.Same.upd' (Same.upd hd) (by rw [upd_ne hne.symm]; exact hx1)
  have hl := hx.len
  refine ⟨[.ref x, .str z], xs, rfl, rfl, Nat.le_trans (by omega) (show 24 ≤ sizeLine by decide), fun p hp => ?_⟩
  have s2 := Lay.Same.upd' (o := .tup xs) s1 hp
  refine ⟨x, dx, z, p, xs, rfl, upd_old hp upd_same, hz, upd_same, by omega, by omega, (hx.mono s2).steps hg, ?_⟩
  rintro H' ⟨dx', t, e1, e2⟩ keep
  have s3 : Same H H' := fun b o e => keep b o (fun y => by subst y; rw [hx1] at e; cases e) (s2 _ _ e)
  exact ⟨rfl, q x H' hx1 s3 ⟨dx', t, xs, e1, e2, hx.mono s3⟩⟩
/-- agent.with_steps(*steps) -/
def spWith (C : Addr) (ws : List Str) : Sp := fun vs H Q _ => ∃ a z ls0 xs ls, vs = .ref a :: xs ∧ AgAt C H a z ls0 ∧ nameOk z = true ∧ RowsAt H xs ls ∧ 1 ≤ ls.length ∧ ls.length ≤ 24 ∧ (∀ l ∈ ls, GoodStep ws l) ∧
  ∀ x H', H x = none → Same H H' → AgAt C H' x z ls → Q (.ref x) H'
def spWithT (C : Addr) (ws : List Str) : Sp := fun vs H Q _ => ∃ a z t ls0 xs ls, vs = [.ref a, .ref t] ∧ AgAt C H a z ls0 ∧ nameOk z = true ∧ H t = some (.tup xs) ∧ RowsAt H xs ls ∧ 1 ≤ ls.length ∧ ls.length ≤ 24 ∧ (∀ l ∈ ls, GoodStep ws l) ∧
  ∀ x H', H x = none → Same H H' → AgAt C H' x z ls → Q (.ref x) H'
def spLen (C : Addr) : Sp := fun vs H Q _ => ∃ a z ls, vs = [.ref a] ∧ AgAt C H a z ls ∧ Q (.int ls.length) H
def spGet (C : Addr) : Sp := fun vs H Q _ => ∃ a z ls i l, vs = [.ref a, .int (i : Nat)] ∧ AgAt C H a z ls ∧ ls[i]? = some l ∧ ∀ p, H p = some (.tup l) → Q (.ref p) H
theorem rd_makeV {C : Addr} {sp : Sp} {E : XK} {tf : TE} {t : TA} {σ : L2.St} {H : Hp} {Q : VK} (h : tf σ H fun y H1 => y = .ref C ∧ StX.tMakeR C sp E t σ H1 Q) : OwnC.tMakeV C sp E tf t σ H Q := h
theorem atI_nat {α : Type} {xs : List α} {i : Nat} {v : α} (h : xs[i]? = some v) : atI xs (i : Int) = some v := atI_int (by omega) (by simpa using h)
theorem kit_prim {K : PySem.W.Frag} {p : String} {D : Addr} (h1 : PySem.W.mroIn K D (.type "object") = some true) (h2 : PySem.W.typeIn K (.ref D) = some (.type "type")) (h3 : PySem.W.subIn K (.type p) (.ref D) = some false) : PySem.W.kitOne K (.type p) (.ref D) = some false := by
  unfold PySem.W.kitOne
  rw [if_neg (fun z => by cases eq_of_beq z)]
  unfold PySem.W.kitCls
  have h5 : (PySem.W.clsIn K D).isSome = true := by
    unfold PySem.W.mroIn at h1
    cases hh : PySem.W.clsIn K D with
    | none => rw [hh] at h1; cases h1
    | some _ => rfl
  dsimp only
  rw [h5, h2]
  exact h3
/-- a class of agents: what reading its instances asks -/
structure AgC (K : PySem.W.Frag) (C : Addr) (kind : Str) : Prop where
  cl : Cls K C
  nm : NoAttr K C "name"
  st : NoAttr K C "steps"
  co : ∃ u, Con K C "KIND" (.str kind) u
  ty : ∀ (H : Hp) (a dx : Addr) (fs : List (Str × V)), H a = some (.ins C dx fs) → TyX K H (.ref a) (.ref C)
/-- a value that == of the class C, which asks for instances of C, is asked about -/
def EqArg (K : PySem.W.Frag) (C : Addr) (kind : Str) (z : Str) (ls : List (List V)) (H : Hp) (v : V) (r : Bool) : Prop :=
  (∃ T, TyX K H v T ∧ PySem.W.kitOne K T (.ref C) = some false ∧ r = false) ∨
  (∃ b D k2 z2 ls2, v = .ref b ∧ AgAt D H b z2 ls2 ∧ (∀ l ∈ ls2, l.all isFlat = true) ∧ AgC K D k2 ∧ PySem.W.kitOne K (.ref D) (.ref C) = some true ∧ r = (decide (kind = k2) && (decide (z = z2) && decide (ls = ls2))))
def spEqA (K : PySem.W.Frag) (C : Addr) (kind : Str) : Sp := fun vs H Q _ => ∃ a v z ls r, vs = [.ref a, v] ∧ AgAt C H a z ls ∧ (∀ l ∈ ls, l.all isFlat = true) ∧ AgC K C kind ∧ EqArg K C kind z ls H v r ∧ Q (.bl r) H
theorem rd_eqT {K : PySem.W.Frag} {H : Hp} {Q : VK} {t u : Addr} {xs ys : List V} {ls ms : List (List V)} (h1 : H t = some (.tup xs)) (r1 : RowsAt H xs ls) (f1 : ∀ l ∈ ls, l.all isFlat = true) (h2 : H u = some (.tup ys)) (r2 : RowsAt H ys ms) (f2 : ∀ l ∈ ms, l.all isFlat = true)
    (q : Q (.bl (decide (ls = ms))) H) : rEqD K (.ref t) (.ref u) H Q :=
  ⟨.tuple (ls.map rowD), .tuple (ms.map rowD), .tup (SqT.of h1) (r1.dp f1), .tup (SqT.of h2) (r2.dp f2), shaped_rowsT ls f1, shaped_rowsT ms f2, by
    have e : PyData.eqv (.tuple (ls.map rowD)) (.tuple (ms.map rowD)) = decide (ls = ms) := by
      rw [PyData.eqv]
      exact eqvAll_rows ls ms f1 f2
    rw [e]
    exact q⟩
end Lay
namespace Lay
open PySem L2 PySem.Spec PyProof.Rows
def plainWs : List Str := ["read", "write", "post", "wait"]
def cacheWs : List Str := ["read", "write", "get", "put", "clean", "drop", "flush", "post", "wait"]
def wsK (k : Int) : List Str := if k = 0 then plainWs else cacheWs
def drawnWs : List Str := ["read", "write", "post", "wait", "read", "write", "clean", "drop", "flush", "get", "put"]
theorem drawn_word {k d : Int} (h0 : 0 ≤ d) (h1 : d < 11 - 5 * (if k = 0 then 1 else 0)) : ∃ w : Str, drawnWs[d.toNat]? = some w ∧ w ∈ wsK k ∧ ((w ∈ sigWords ∧ inStrs (.str w) ["post", "wait"] = true) ∨ (w ∈ memWords ∧ inStrs (.str w) ["post", "wait"] = false)) := by
  by_cases hk : k = 0
  · rw [if_pos hk] at h1
    unfold wsK
    rw [if_pos hk]
    obtain rfl | rfl | rfl | rfl | rfl | rfl : d = 0 ∨ d = 1 ∨ d = 2 ∨ d = 3 ∨ d = 4 ∨ d = 5 := by omega
    all_goals exact ⟨_, rfl, by decide +kernel, by first | exact .inl ⟨by decide +kernel, by decide +kernel⟩ | exact .inr ⟨by decide +kernel, by decide +kernel⟩⟩
  · rw [if_neg hk] at h1
    unfold wsK
    rw [if_neg hk]
    obtain rfl | rfl | rfl | rfl | rfl | rfl | rfl | rfl | rfl | rfl | rfl : d = 0 ∨ d = 1 ∨ d = 2 ∨ d = 3 ∨ d = 4 ∨ d = 5 ∨ d = 6 ∨ d = 7 ∨ d = 8 ∨ d = 9 ∨ d = 10 := by omega
    all_goals exact ⟨_, rfl, by decide +kernel, by first | exact .inl ⟨by decide +kernel, by decide +kernel⟩ | exact .inr ⟨by decide +kernel, by decide +kernel⟩⟩
def spGoodStep : Sp := fun vs H Q _ => ∃ (p : Addr) (k : Int) (n : Nat) (c : Addr), vs = [.ref p, .int k] ∧ PenAt c H p n ∧ n + 5 < 100000 ∧ ∀ a l H', H a = none → H' a = some (.tup l) → GoodStep (wsK k) l → PenAt c H' p (n + 5) → Keep p H H' → Q (.ref a) H'
end Lay
namespace Lay
open PySem L2 PySem.Spec PyProof.Rows
theorem abz_ok {d : Int} (h0 : 0 ≤ d) (h1 : d < 4) : nameOk ("buf" ++ cutS "abz" none (some d)) = true ∧ ("buf" : Str).length + (cutS "abz" none (some d)).length ≤ sizeLine := by
  obtain rfl | rfl | rfl | rfl : d = 0 ∨ d = 1 ∨ d = 2 ∨ d = 3 := by omega
  all_goals exact ⟨by decide +kernel, by decide +kernel⟩
theorem Keep.none {H H' : Hp} {p a : Addr} {o : HO} (k : Keep p H H') (hp : H' p = some o) (h : H' a = none) : H a = none := by
  cases e : H a with
  | none => rfl
  | some u =>
    have n : a ≠ p := fun y => by subst y; rw [hp] at h; cases h
    rw [k a u n e] at h
    cases h
end Lay
namespace Lay
open PySem L2 PySem.Spec PyProof.Rows
theorem rd_cmeth {C : Addr} {sp : Sp} {E : XK} {ta : TE} {t : TA} {σ : L2.St} {H : Hp} {Q : VK} (h : ta σ H fun x H1 => x = .ref C ∧ t σ H1 fun vs H2 => sp (.ref C :: vs) H2 Q E) : ClX.tCMeth C sp E ta t σ H Q := h
end Lay
namespace Lay
open PySem L2 PySem.Spec PyProof.Rows
theorem eqv_rowsT {ls ms : List (List V)} (f1 : ∀ l ∈ ls, l.all isFlat = true) (f2 : ∀ l ∈ ms, l.all isFlat = true) : PyData.eqv (.tuple (ls.map rowD)) (.tuple (ms.map rowD)) = decide (ls = ms) := by
  rw [PyData.eqv]
  exact eqvAll_rows ls ms f1 f2
theorem eqv_rowsL {ls ms : List (List V)} (f1 : ∀ l ∈ ls, l.all isFlat = true) (f2 : ∀ l ∈ ms, l.all isFlat = true) : PyData.eqv (.list (ls.map rowD)) (.list (ms.map rowD)) = decide (ls = ms) := by
  rw [PyData.eqv]
  exact eqvAll_rows ls ms f1 f2
/-- two tuples of the same rows are not unequal -/
theorem rd_neT {K : PySem.W.Frag} {H : Hp} {Q : VK} {t u : Addr} {xs ys : List V} {ls : List (List V)} (h1 : H t = some (.tup xs)) (r1 : RowsAt H xs ls) (f1 : ∀ l ∈ ls, l.all isFlat = true) (h2 : H u = some (.tup ys)) (r2 : RowsAt H ys ls)
    (q : Q (.bl false) H) : rNeD K (.ref t) (.ref u) H Q :=
  ⟨.tuple (ls.map rowD), .tuple (ls.map rowD), .tup (SqT.of h1) (r1.dp f1), .tup (SqT.of h2) (r2.dp f1), shaped_rowsT ls f1, shaped_rowsT ls f1, by
    rw [eqv_rowsT f1 f1, decide_eq_true rfl]
    exact q⟩
theorem rd_eqL {K : PySem.W.Frag} {H : Hp} {Q : VK} {t u : Addr} {xs ys : List V} {ls : List (List V)} (h1 : H t = some (.lst xs)) (r1 : RowsAt H xs ls) (f1 : ∀ l ∈ ls, l.all isFlat = true) (h2 : H u = some (.lst ys)) (r2 : RowsAt H ys ls)
    (q : Q (.bl true) H) : rEqD K (.ref t) (.ref u) H Q :=
  ⟨.list (ls.map rowD), .list (ls.map rowD), .lst (SqL.of h1) (r1.dp f1), .lst (SqL.of h2) (r2.dp f1), shaped_rowsL ls f1, shaped_rowsL ls f1, by
    rw [eqv_rowsL f1 f1, decide_eq_true rfl]
    exact q⟩
theorem rd_neSs {i : Str} {H : Hp} {Q : VK} (q : Q (.bl false) H) : rNe (.str i) (.str i) H Q := rd_neS (by rw [decide_eq_true rfl]; exact q)
theorem rd_neIs {i j : Int} {H : Hp} {Q : VK} (e : i = j) (q : Q (.bl false) H) : rNe (.int i) (.int j) H Q := rd_neI (by rw [decide_eq_true e]; exact q)
/-- what is written into a list leaves the rows -/
theorem RowsAt.updL {H : Hp} {D : Addr} {l l' : List V} {xs : List V} {ls : List (List V)} (r : RowsAt H xs ls) (h : H D = some (.lst l)) : RowsAt (upd H D (.lst l')) xs ls := r.same fun b l2 e => by
  by_cases y : b = D
  · subst y; rw [h] at e; cases e
  · rw [upd_ne y]; exact e
theorem AgAt.updL {C : Addr} {H : Hp} {D a : Addr} {l l' : List V} {z : Str} {ls : List (List V)} (r : AgAt C H a z ls) (h : H D = some (.lst l)) : AgAt C (upd H D (.lst l')) a z ls := by
  obtain ⟨dx, t, xs, h1, h2, h3⟩ := r
  exact ⟨dx, t, xs, by rw [upd_ne (fun y => by subst y; rw [h] at h1; cases h1)]; exact h1, by rw [upd_ne (fun y => by subst y; rw [h] at h2; cases h2)]; exact h2, h3.updL h⟩
end Lay

namespace Lay
open PySem L2 PySem.Spec PyProof.Rows
/-- the word of a step may stand in an agent without a cache -/
def plainRow (l : List V) : Prop := ∃ w r, l = .str w :: r ∧ w ∈ plainWs
theorem GoodStep.head {ws : List Str} {l : List V} (g : GoodStep ws l) : ∃ w r, l = .str w :: r ∧ w ∈ ws := by
  rcases g with ⟨w, n, rfl, h1, h2, h3⟩ | ⟨w, n, s, f, e, rfl, h1, h2, h3⟩
  · exact ⟨w, _, rfl, h2⟩
  · exact ⟨w, _, rfl, h2⟩
theorem GoodStep.plain {ws : List Str} {l : List V} (g : GoodStep ws l) (h : plainRow l) : GoodStep plainWs l := by
  obtain ⟨u, r, e, hu⟩ := h
  rcases g with ⟨w, n, rfl, h1, h2, h3⟩ | ⟨w, n, s, f, e', rfl, h1, h2, h3⟩
  · cases e
    exact .inl ⟨_, _, rfl, h1, hu, h3⟩
  · cases e
    exact .inr ⟨_, _, _, _, _, rfl, h1, hu, h3⟩
theorem plain_sub : ∀ w ∈ plainWs, w ∈ cacheWs := by decide +kernel
theorem rd_eqL0 {K : PySem.W.Frag} {H : Hp} {Q : VK} {t u : Addr} {xs : List V} {ls : List (List V)} (h1 : H t = some (.lst xs)) (r1 : RowsAt H xs ls) (f1 : ∀ l ∈ ls, l.all isFlat = true) (h2 : H u = some (.lst []))
    (q : Q (.bl (decide (ls = []))) H) : rEqD K (.ref t) (.ref u) H Q :=
  ⟨.list (ls.map rowD), .list (([] : List (List V)).map rowD), .lst (SqL.of h1) (r1.dp f1), .lst (SqL.of h2) .nil, shaped_rowsL ls f1, shaped_rowsL [] (by intro _ m; cases m), by
    rw [eqv_rowsL f1 (by intro _ m; cases m)]
    exact q⟩
def spOther : Sp := fun vs H Q _ => ∃ (k : Int) (t : Addr) (ys : List V) (ls : List (List V)), vs = [.int k, .ref t] ∧ 0 ≤ k ∧ k ≤ 2 ∧ H t = some (.lst ys) ∧ RowsAt H ys ls ∧ ls.length ≤ 24 ∧ (∀ l ∈ ls, GoodStep (wsK k) l) ∧
  ∀ k' H', Same H H' → 0 ≤ k' → k' ≤ 2 → (∀ l ∈ ls, GoodStep (wsK k') l) → Q (.int k') H'
theorem other_good {k : Int} {ls : List (List V)} (k0 : 0 ≤ k) (k2 : k ≤ 2) (hg : ∀ l ∈ ls, GoodStep (wsK k) l) (h : ∀ l ∈ ls, plainRow l) (j : Int) : ∀ l ∈ ls, GoodStep (wsK j) l := by
  intro l m
  have g := (hg l m).plain (h l m)
  unfold wsK
  split
  · exact g
  · exact g.more plain_sub
/-- a list of class, name and steps -/
def TripAt (H : Hp) (r : Addr) (k : Int) (z : Str) (t : Addr) (ys : List V) (ls : List (List V)) : Prop := H r = some (.lst [.int k, .str z, .ref t]) ∧ H t = some (.lst ys) ∧ RowsAt H ys ls
def spBent : Sp := fun vs H Q _ => ∃ (p : Addr) (n : Nat) (c : Addr) (k : Int) (z : Str) (t : Addr) (ys : List V) (ls : List (List V)), vs = [.ref p, .int k, .str z, .ref t] ∧ PenAt c H p n ∧ n + 2 < 100000 ∧ 0 ≤ k ∧ k ≤ 2 ∧ nameOk z = true ∧ nameOk (z ++ "x") = true ∧ H t = some (.lst ys) ∧ RowsAt H ys ls ∧ 1 ≤ ls.length ∧ ls.length ≤ 24 ∧ (∀ l ∈ ls, GoodStep (wsK k) l) ∧
  ∀ r k' z' t' ys' ls' H', PenAt c H' p (n + 2) → Keep p H H' → TripAt H' r k' z' t' ys' ls' → 0 ≤ k' → k' ≤ 2 → nameOk z' = true → ls'.length = ls.length → (∀ l ∈ ls', GoodStep (wsK k') l) → Q (.ref r) H'
theorem good_post (k : Int) : GoodStep (wsK k) [.str "post", .str "other"] := by
  refine .inl ⟨_, _, rfl, by decide +kernel, ?_, by decide +kernel⟩
  unfold wsK
  split <;> decide +kernel
theorem mem_set {α : Type} {xs : List α} {n : Nat} {a x : α} (h : x ∈ xs.set n a) : x = a ∨ x ∈ xs := by
  rcases List.mem_or_eq_of_mem_set h with h | h
  · exact .inr h
  · exact .inl h
end Lay
namespace Lay
open PySem L2 PySem.Spec PyProof.Rows
theorem rows_pen {c : Addr} {H : Hp} {p t : Addr} {n : Nat} {ys : List V} {ls : List (List V)} (hp : PenAt c H p n) (ht : H t = some (.lst ys)) (hx : RowsAt H ys ls) : t ≠ p := by
  rintro rfl
  obtain ⟨ns, b, l, e1, _⟩ := hp
  rw [e1] at ht
  cases ht
  cases hx with
  | cons _ r => cases r
theorem rows_cell {c : Addr} {H : Hp} {p t : Addr} {n : Nat} {ys : List V} {ls : List (List V)} (hp : PenAt c H p n) (ht : H t = some (.lst ys)) (hx : RowsAt H ys ls) (h1 : 1 ≤ ls.length) : t ≠ c := by
  rintro rfl
  obtain ⟨ns, b, l, _, e1, _⟩ := hp
  rw [e1] at ht
  cases ht
  cases ns with
  | nil => cases hx; simp at h1
  | cons i r => cases hx
theorem RowsAt.flatG {ws : List Str} {ls : List (List V)} (g : ∀ l ∈ ls, GoodStep ws l) : ∀ l ∈ ls, l.all isFlat = true := fun l m => (g l m).flat
end Lay
namespace Lay
open PySem L2 PySem.Spec PyProof.Rows
theorem ixN_nat {n : Nat} {d : Int} (h0 : 0 ≤ d) (h1 : d < n) : ixN n d = some d.toNat := by
  unfold ixN
  rw [if_pos h0, if_pos h1]
theorem cut_from {xs : List V} (h : 1 ≤ xs.length) : cutV xs (some 1) none = xs.drop 1 := by
  have e : HT.sIx xs.length 0 (some 1) = 1 := by
    unfold HT.sIx
    dsimp only
    split <;> omega
  unfold cutV
  rw [e]
  show List.take (xs.length - 1) (List.drop 1 xs) = List.drop 1 xs
  rw [List.take_of_length_le (by rw [List.length_drop]; omega)]
theorem cut_to {xs : List V} (h : 1 ≤ xs.length) : cutV xs none (some 1) = xs.take 1 := by
  have e : HT.sIx xs.length xs.length (some 1) = 1 := by
    unfold HT.sIx
    dsimp only
    split <;> omega
  unfold cutV
  rw [e]
  show List.take (1 - 0) (List.drop 0 xs) = List.take 1 xs
  simp
end Lay

namespace Lay
open PySem L2 PySem.Spec PyProof.Rows
def tripD (k : Int) (z : Str) (ls : List (List V)) : PyData := .list [.int k, .str z, .list (ls.map rowD)]
theorem shaped_trip {k : Int} {z : Str} {ls : List (List V)} (hz : PyData.strOk z = true) (f : ∀ l ∈ ls, l.all isFlat = true) : SeqAt.shaped (tripD k z ls) = true := by
  have h1 := deepAll_rows ls
  have h2 : PyData.depth (tripD k z ls) ≤ 64 := by
    unfold tripD
    simp only [PyData.depth, PyData.depthAll]
    omega
  have h3 : PyData.canLay0 (tripD k z ls) = true := by
    unfold tripD
    simp only [PyData.canLay0, PyData.canLayAll0, hz, layAll_rows ls f, Bool.and_self]
  unfold SeqAt.shaped
  rw [h3, decide_eq_true h2]
  rfl
theorem eqv_trip {k k' : Int} {z z' : Str} {ls ls' : List (List V)} (f : ∀ l ∈ ls, l.all isFlat = true) (f' : ∀ l ∈ ls', l.all isFlat = true) : PyData.eqv (tripD k z ls) (tripD k' z' ls') = (decide (k = k') && (decide (z = z') && decide (ls = ls'))) := by
  unfold tripD
  simp only [PyData.eqv, PyData.eqvAll, eqvAll_rows ls ls' f f', Bool.and_true]
  rw [beq_dec, beq_dec]
theorem rd_eqTrip {K : PySem.W.Frag} {H : Hp} {Q : VK} {r r' t t' : Addr} {k k' : Int} {z z' : Str} {ys ys' : List V} {ls ls' : List (List V)} (h : TripAt H r k z t ys ls) (h' : TripAt H r' k' z' t' ys' ls') (hz : nameOk z = true) (hz' : nameOk z' = true)
    (f : ∀ l ∈ ls, l.all isFlat = true) (f' : ∀ l ∈ ls', l.all isFlat = true) (q : Q (.bl (decide (k = k') && (decide (z = z') && decide (ls = ls')))) H) : rEqD K (.ref r) (.ref r') H Q :=
  ⟨tripD k z ls, tripD k' z' ls', .lst (SqL.of h.1) (.cons (.int _) (.cons (.str _) (.cons (.lst (SqL.of h.2.1) (h.2.2.dp f)) .nil))), .lst (SqL.of h'.1) (.cons (.int _) (.cons (.str _) (.cons (.lst (SqL.of h'.2.1) (h'.2.2.dp f')) .nil))),
    shaped_trip (name_strOk hz) f, shaped_trip (name_strOk hz') f', by rw [eqv_trip f f']; exact q⟩
theorem rd_bm {K : PySem.W.Frag} {T : String} {r : V → List V → Hp → VK → Prop} {to : TE} {t : TA} {σ : L2.St} {H : Hp} {Q : VK} (h : to σ H fun x H1 => tyV K T x H1 ∧ t σ H1 fun xs H2 => r x xs H2 Q) : tBM K T r to t σ H Q := h
theorem tyV_lst {K : PySem.W.Frag} {H : Hp} {a : Addr} {xs : List V} (h : H a = some (.lst xs)) : tyV K "list" (.ref a) H := by
  first
    | exact ⟨xs, SqL.of h⟩
    | exact .inl ⟨rfl, xs, SqL.of h⟩
    | exact ⟨rfl, xs, SqL.of h⟩
    | exact .inl ⟨xs, SqL.of h⟩
theorem rd_methF {X : Cx} {m : Str} {ta : TE} {t : TA} {σ : L2.St} {H : Hp} {Q : VK} (h : ta σ H fun x H1 => ∃ a C dx fs CX k f sp E, x = .ref a ∧ H1 a = some (.ins C dx fs) ∧ fs.lookup m = none ∧ Cls X.K C ∧ Meth X.K C m f ∧ FnR X.prog X.w X.K X.mg X.base CX k f sp ∧ Room k X.A ∧ Passes CX X E ∧ t σ H1 fun vs H2 => sp (x :: vs) H2 Q E) : OwnC.tMethF X m ta t σ H Q := h
/-- with_steps(*steps) of an agent -/
theorem with_ag {C : Addr} {ws : List Str} {H : Hp} {a : Addr} {z : Str} {ls0 : List (List V)} {xs : List V} {ls : List (List V)} {Q : Addr → Hp → Prop} {Q' : VK} {E : XK} (hQ : ∀ x H, Q x H → Q' (.ref x) H) (ha : AgAt C H a z ls0) (hz : nameOk z = true) (hx : RowsAt H xs ls) (h1 : 1 ≤ ls.length) (h2 : ls.length ≤ 24) (hg : ∀ l ∈ ls, GoodStep ws l)
    (q : ∀ x H', Same H H' → AgAt C H' x z ls → Q x H') : spStar 1 (spWithT C ws) (.ref a :: xs) H Q' E := by
  have hl := hx.len
  refine ⟨[.ref a], xs, rfl, rfl, Nat.le_trans (by omega) (show 24 ≤ sizeLine by decide), fun p hp => ?_⟩
  have s := Same.upd (o := .tup xs) hp
  exact ⟨a, z, p, ls0, xs, ls, rfl, ha.mono s, hz, upd_same, hx.mono s, h1, h2, hg, fun x H' _ s' g => hQ _ _ (q x H' (s.trans s') g)⟩
theorem good_sig {k : Int} {w n : Str} (h : w = "post" ∨ w = "wait") (hn : nameOk n = true) : GoodStep (wsK k) [.str w, .str n] := by
  refine .inl ⟨w, n, rfl, ?_, ?_, hn⟩
  · rcases h with rfl | rfl <;> decide +kernel
  · unfold wsK
    split <;> (rcases h with rfl | rfl <;> decide +kernel)
end Lay
local macro_rules | `(tactic| walk_at "kd") => `(tactic| repeat first
  | exact Lay.Kds.nil
  | refine Lay.Kds.cons (.int _) ?_
  | refine Lay.Kds.cons (.str _) ?_
  | refine Lay.Kds.cons .non ?_
  | refine Lay.Kds.cons (.bl _) ?_
  | refine Lay.Kds.cons (.lst (by assumption)) ?_
  | refine Lay.Kds.cons (.tup (by assumption)) ?_
  | refine Lay.Kds.cons (.dK (by assumption)) ?_)
local macro_rules | `(tactic| walk_at "sm") => `(tactic| first
  | exact L2.Same.refl _
  | assumption
  | ((with_reducible refine' Lay.Same.upd' ?_ ?_); (focus walk_at "sm"); (focus assumption)))
local macro_rules | `(tactic| walk_at "hp") => `(tactic| first
  | assumption
  | with_reducible exact L2.upd_same
  | ((with_reducible apply Lay.upd_old); (focus assumption); walk_at "hp")
  | ((with_reducible apply Lay.sqL_of); walk_at "hp")
  | ((with_reducible apply Lay.sqT_of); walk_at "hp")
  | ((with_reducible apply Lay.sqL_upd); (focus assumption); walk_at "hp")
  | ((with_reducible apply Lay.sqT_upd); (focus assumption); walk_at "hp"))
local macro_rules | `(tactic| walk_at "ar") => `(tactic| first
  | (show _ ≠ _; omega)
  | (show L2.CDivN _ _; exact ⟨by omega, by omega⟩)
  | (show L2.CMul _ _; exact .inl ⟨by omega, by omega⟩)
  | (show L2.CMul _ _; exact .inr ⟨by omega, by omega⟩)
  | (show L2.CPow _ _; exact ⟨by omega, by omega, by omega⟩))
local macro_rules | `(tactic| walk_at "r1") => `(tactic| first
  | with_reducible refine Lay.rd_seq ?_
  | with_reducible refine Lay.rd_asg ?_
  | with_reducible refine Lay.rd_ifS ?_
  | with_reducible refine Lay.rd_ret ?_
  | with_reducible refine Lay.rd_retN ?_
  | with_reducible refine Lay.rd_next ?_
  | with_reducible refine Lay.rd_drop ?_
  | with_reducible refine Lay.rd_name ?_
  | with_reducible refine Lay.rd_sub ?_
  | ((with_reducible refine' Lay.rd_var ?k1 ?_); (case k1 => rfl))
  | with_reducible refine Lay.rd_c ?_
  | with_reducible refine Lay.rd_op ?_
  | with_reducible refine Lay.rd_un ?_
  | with_reducible refine Lay.rd_I0 ?_
  | with_reducible refine Lay.rd_U ?_
  | with_reducible refine Lay.rd_tup ?_
  | with_reducible refine Lay.rd_lst ?_
  | with_reducible refine Lay.rd_cons ?_
  | with_reducible refine Lay.rd_nil ?_
  | with_reducible refine Lay.rd_star ?_
  | with_reducible refine Lay.rd_call ?_
  | with_reducible refine Lay.rd_CB ?_
  | with_reducible refine Lay.rd_test ?_
  | with_reducible refine Lay.rd_tB ?_
  | with_reducible refine Lay.rd_and ?_
  | with_reducible refine Lay.rd_or ?_
  | with_reducible refine Lay.rd_not ?_
  | with_reducible refine Lay.rd_andV ?_
  | with_reducible refine Lay.rd_orV ?_
  | with_reducible refine Lay.rd_notV ?_
  | with_reducible refine Lay.rd_tIf ?_
  | with_reducible refine Lay.rd_sl ?_
  | with_reducible refine Lay.rd_noP ?_
  | with_reducible refine Lay.rd_part ?_
  | with_reducible refine Lay.rd_int ?_
  | with_reducible refine Lay.rd_intB ?_
  | with_reducible refine Lay.rd_abs ?_
  | ((with_reducible refine' Lay.rd_ixL ?k1 ?k2 ?_); (case k1 => walk_at "hp"); (case k2 => rfl))
  | ((with_reducible refine' Lay.rd_ixT ?k1 ?k2 ?_); (case k1 => walk_at "hp"); (case k2 => rfl))
  | ((with_reducible refine' Lay.rd_setL ?k1 ?k2 ?_); (case k1 => walk_at "hp"); (case k2 => rfl))
  | ((with_reducible refine' Lay.rd_lenL ?k1 ?_); (case k1 => walk_at "hp"))
  | ((with_reducible refine' Lay.rd_lenT ?k1 ?_); (case k1 => walk_at "hp"))
  | ((with_reducible refine' Lay.rd_I ?k1 ?_); (case k1 => walk_at "ar"))
  | with_reducible refine Lay.rd_lc ?_
  | with_reducible refine Lay.rd_iStr ?_
  | with_reducible refine Lay.rd_iList ?_
  | with_reducible refine Lay.rd_iTup ?_
  | with_reducible refine Lay.rd_iRng1 ?_
  | with_reducible refine Lay.rd_iEnumT ?_
  | with_reducible refine Lay.rd_yes ?_
  | with_reducible refine Lay.rd_sign ?_
  | with_reducible refine Lay.rd_chain ?_
  | with_reducible refine Lay.rd_gcons ?_
  | with_reducible refine Lay.rd_gnil ?_
  | ((with_reducible refine' Lay.rd_gtup ?k1 ?k2 ?_); (case k1 => walk_at "hp"); (case k2 => rfl))
  | with_reducible refine Lay.rd_eqI ?_
  | with_reducible refine Lay.rd_neI ?_
  | with_reducible refine Lay.rd_eqS ?_
  | with_reducible refine Lay.rd_neS ?_
  | with_reducible refine Lay.rd_eqB ?_
  | with_reducible refine Lay.rd_neB ?_
  | with_reducible refine Lay.rd_exb ?_
  | with_reducible refine Lay.rd_exi ?_
  | with_reducible refine Lay.rd_exs ?_
  | with_reducible refine Lay.rd_exr ?_)
local macro_rules | `(tactic| walk_at "rd") => `(tactic| ((repeat walk_at "r1"); (try dsimp only [List.set, Int.reduceToNat, List.length_cons, List.length_nil, List.nil_append, List.cons_append, List.append_nil])))
local macro_rules | `(tactic| walk_at "in") => `(tactic| (dsimp only [L2.cxOf, L2.start, List.map, List.length_cons, List.length_nil, Nat.reduceAdd, Nat.reduceSub, List.replicate_succ, List.replicate_zero, List.cons_append, List.nil_append]))
local macro_rules | `(tactic| walk_at "it") => `(tactic| ((repeat first | walk_at "r1" | with_reducible refine L2.iteT ?_ | with_reducible refine L2.iteF ?_ | with_reducible refine Lay.iteNT ?_ | with_reducible refine Lay.iteNF ?_); (try dsimp only [List.set, Int.reduceToNat, List.length_cons, List.length_nil, List.nil_append, List.cons_append, List.append_nil])))
namespace My
open PySem L2
def top (i : Nat) : Stmt := PySem.Challenge.pw_unkeptlines_k06_agents_kept.main.body.getD i (.Pass ⟨0, 0, 0, 0⟩)
abbrev s_is_integer : Stmt := top 6
abbrev s_is_within : Stmt := top 7
abbrev s_is_name : Stmt := top 8
abbrev s_is_step : Stmt := top 17
abbrev s_is_memory_step : Stmt := top 18
abbrev s_check_agent : Stmt := top 21
abbrev s_Agent_init : Stmt := inClass (top 22) 2
abbrev s_Agent_made : Stmt := inClass (top 22) 3
abbrev s_Agent_len : Stmt := inClass (top 22) 4
abbrev s_Agent_getitem : Stmt := inClass (top 22) 5
abbrev s_Agent_eq : Stmt := inClass (top 22) 7
abbrev s_Agent_with_steps : Stmt := inClass (top 22) 9
abbrev s_Through_init : Stmt := inClass (top 23) 2
abbrev s_Through_made : Stmt := inClass (top 23) 3
abbrev s_Through_len : Stmt := inClass (top 23) 4
abbrev s_Through_getitem : Stmt := inClass (top 23) 5
abbrev s_Through_eq : Stmt := inClass (top 23) 7
abbrev s_Through_with_steps : Stmt := inClass (top 23) 9
abbrev s_Back_init : Stmt := inClass (top 24) 2
abbrev s_Back_made : Stmt := inClass (top 24) 3
abbrev s_Back_len : Stmt := inClass (top 24) 4
abbrev s_Back_getitem : Stmt := inClass (top 24) 5
abbrev s_Back_eq : Stmt := inClass (top 24) 7
abbrev s_Back_with_steps : Stmt := inClass (top 24) 9
abbrev s_pen : Stmt := top 26
abbrev s_draw : Stmt := top 27
abbrev s_good_step : Stmt := top 28
abbrev s_made : Stmt := top 29
abbrev s_has : Stmt := top 30
abbrev s_other_kind : Stmt := top 31
abbrev s_bent : Stmt := top 32
abbrev s_round : Stmt := top 33
abbrev s_law : Stmt := top 34
theorem sc_is_integer : FnScope ["value"] ["value"] (defScope s_is_integer) := ⟨rfl, rfl, rfl, by decide +kernel, rfl, by decide +kernel, by decide +kernel⟩
theorem sc_is_within : FnScope ["value", "low", "high"] ["value", "low", "high"] (defScope s_is_within) := ⟨rfl, rfl, rfl, by decide +kernel, rfl, by decide +kernel, by decide +kernel⟩
theorem sc_is_name : FnScope ["value", "sign"] ["value"] (defScope s_is_name) := ⟨rfl, rfl, rfl, by decide +kernel, rfl, by decide +kernel, by decide +kernel⟩
theorem sc_is_step : FnScope ["value"] ["value"] (defScope s_is_step) := ⟨rfl, rfl, rfl, by decide +kernel, rfl, by decide +kernel, by decide +kernel⟩
theorem sc_is_memory_step : FnScope ["value", "word", "variable", "shift", "first", "last"] ["value"] (defScope s_is_memory_step) := ⟨rfl, rfl, rfl, by decide +kernel, rfl, by decide +kernel, by decide +kernel⟩
theorem sc_check_agent : FnScope ["name", "steps", "words", "k", "step"] ["name", "steps", "words"] (defScope s_check_agent) := ⟨rfl, rfl, rfl, by decide +kernel, rfl, by decide +kernel, by decide +kernel⟩
theorem sc_Agent_init : FnScope ["self", "name", "steps"] ["self", "name", "steps"] (defScope s_Agent_init) := ⟨rfl, rfl, rfl, by decide +kernel, rfl, by decide +kernel, by decide +kernel⟩
theorem sc_Agent_made : FnScope ["cls", "name", "steps"] ["cls", "name", "steps"] (defScope s_Agent_made) := ⟨rfl, rfl, rfl, by decide +kernel, rfl, by decide +kernel, by decide +kernel⟩
theorem sc_Agent_len : FnScope ["self"] ["self"] (defScope s_Agent_len) := ⟨rfl, rfl, rfl, by decide +kernel, rfl, by decide +kernel, by decide +kernel⟩
theorem sc_Agent_getitem : FnScope ["self", "at"] ["self", "at"] (defScope s_Agent_getitem) := ⟨rfl, rfl, rfl, by decide +kernel, rfl, by decide +kernel, by decide +kernel⟩
theorem sc_Agent_eq : FnScope ["self", "other"] ["self", "other"] (defScope s_Agent_eq) := ⟨rfl, rfl, rfl, by decide +kernel, rfl, by decide +kernel, by decide +kernel⟩
theorem sc_Agent_with_steps : FnScope ["self", "steps"] ["self", "steps"] (defScope s_Agent_with_steps) := ⟨rfl, rfl, rfl, by decide +kernel, rfl, by decide +kernel, by decide +kernel⟩
theorem sc_Through_init : FnScope ["self", "name", "steps"] ["self", "name", "steps"] (defScope s_Through_init) := ⟨rfl, rfl, rfl, by decide +kernel, rfl, by decide +kernel, by decide +kernel⟩
theorem sc_Through_made : FnScope ["cls", "name", "steps"] ["cls", "name", "steps"] (defScope s_Through_made) := ⟨rfl, rfl, rfl, by decide +kernel, rfl, by decide +kernel, by decide +kernel⟩
theorem sc_Through_len : FnScope ["self"] ["self"] (defScope s_Through_len) := ⟨rfl, rfl, rfl, by decide +kernel, rfl, by decide +kernel, by decide +kernel⟩
theorem sc_Through_getitem : FnScope ["self", "at"] ["self", "at"] (defScope s_Through_getitem) := ⟨rfl, rfl, rfl, by decide +kernel, rfl, by decide +kernel, by decide +kernel⟩
theorem sc_Through_eq : FnScope ["self", "other"] ["self", "other"] (defScope s_Through_eq) := ⟨rfl, rfl, rfl, by decide +kernel, rfl, by decide +kernel, by decide +kernel⟩
theorem sc_Through_with_steps : FnScope ["self", "steps"] ["self", "steps"] (defScope s_Through_with_steps) := ⟨rfl, rfl, rfl, by decide +kernel, rfl, by decide +kernel, by decide +kernel⟩
theorem sc_Back_init : FnScope ["self", "name", "steps"] ["self", "name", "steps"] (defScope s_Back_init) := ⟨rfl, rfl, rfl, by decide +kernel, rfl, by decide +kernel, by decide +kernel⟩
theorem sc_Back_made : FnScope ["cls", "name", "steps"] ["cls", "name", "steps"] (defScope s_Back_made) := ⟨rfl, rfl, rfl, by decide +kernel, rfl, by decide +kernel, by decide +kernel⟩
theorem sc_Back_len : FnScope ["self"] ["self"] (defScope s_Back_len) := ⟨rfl, rfl, rfl, by decide +kernel, rfl, by decide +kernel, by decide +kernel⟩
theorem sc_Back_getitem : FnScope ["self", "at"] ["self", "at"] (defScope s_Back_getitem) := ⟨rfl, rfl, rfl, by decide +kernel, rfl, by decide +kernel, by decide +kernel⟩
theorem sc_Back_eq : FnScope ["self", "other"] ["self", "other"] (defScope s_Back_eq) := ⟨rfl, rfl, rfl, by decide +kernel, rfl, by decide +kernel, by decide +kernel⟩
theorem sc_Back_with_steps : FnScope ["self", "steps"] ["self", "steps"] (defScope s_Back_with_steps) := ⟨rfl, rfl, rfl, by decide +kernel, rfl, by decide +kernel, by decide +kernel⟩
theorem sc_pen : FnScope ["_law_script"] ["_law_script"] (defScope s_pen) := ⟨rfl, rfl, rfl, by decide +kernel, rfl, by decide +kernel, by decide +kernel⟩
theorem sc_draw : FnScope ["_law_pen_here", "_law_many", "_law_digit", "_law_begun", "_law_cell", "_law_great", "_law_mixed"] ["_law_pen_here", "_law_many"] (defScope s_draw) := ⟨rfl, rfl, rfl, by decide +kernel, rfl, by decide +kernel, by decide +kernel⟩
theorem sc_good_step : FnScope ["_law_pen_here", "_law_kind", "_law_words", "_law_word", "_law_called", "_law_first"] ["_law_pen_here", "_law_kind"] (defScope s_good_step) := ⟨rfl, rfl, rfl, by decide +kernel, rfl, by decide +kernel, by decide +kernel⟩
theorem sc_made : FnScope ["_law_kind", "_law_called", "_law_handed"] ["_law_kind", "_law_called", "_law_handed"] (defScope s_made) := ⟨rfl, rfl, rfl, by decide +kernel, rfl, by decide +kernel, by decide +kernel⟩
theorem sc_has : FnScope ["_law_agent", "_law_kind", "_law_called", "_law_wanted", "_law_k"] ["_law_agent", "_law_kind", "_law_called", "_law_wanted"] (defScope s_has) := ⟨rfl, rfl, rfl, by decide +kernel, rfl, by decide +kernel, by decide +kernel⟩
theorem sc_other_kind : FnScope ["_law_kind", "_law_steps_here", "_law_step"] ["_law_kind", "_law_steps_here"] (defScope s_other_kind) := ⟨rfl, rfl, rfl, by decide +kernel, rfl, by decide +kernel, by decide +kernel⟩
theorem sc_bent : FnScope ["_law_pen_here", "_law_kind", "_law_called", "_law_handed", "_law_choice", "_law_steps_here"] ["_law_pen_here", "_law_kind", "_law_called", "_law_handed"] (defScope s_bent) := ⟨rfl, rfl, rfl, by decide +kernel, rfl, by decide +kernel, by decide +kernel⟩
theorem sc_round : FnScope ["_law_pen_here", "_law_kind", "_law_called", "_law_handed", "_law_k", "_law_kept", "_law_first", "_law_other", "_law_second", "_law_wanted", "_law_third"] ["_law_pen_here"] (defScope s_round) := ⟨rfl, rfl, rfl, by decide +kernel, rfl, by decide +kernel, by decide +kernel⟩
theorem sc_law : FnScope ["_law_script", "_law_pen_here", "_law_k"] ["_law_script"] (defScope s_law) := ⟨rfl, rfl, rfl, by decide +kernel, rfl, by decide +kernel, by decide +kernel⟩
structure Adr where
  a_is_integer : Addr
  d_is_integer : FuncData
  a_is_within : Addr
  d_is_within : FuncData
  a_is_name : Addr
  d_is_name : FuncData
  a_is_step : Addr
  d_is_step : FuncData
  a_is_memory_step : Addr
  d_is_memory_step : FuncData
  a_check_agent : Addr
  d_check_agent : FuncData
  a_Agent_init : Addr
  d_Agent_init : FuncData
  a_Agent_made : Addr
  d_Agent_made : FuncData
  a_Agent_len : Addr
  d_Agent_len : FuncData
  a_Agent_getitem : Addr
  d_Agent_getitem : FuncData
  a_Agent_eq : Addr
  d_Agent_eq : FuncData
  a_Agent_with_steps : Addr
  d_Agent_with_steps : FuncData
  a_Through_init : Addr
  d_Through_init : FuncData
  a_Through_made : Addr
  d_Through_made : FuncData
  a_Through_len : Addr
  d_Through_len : FuncData
  a_Through_getitem : Addr
  d_Through_getitem : FuncData
  a_Through_eq : Addr
  d_Through_eq : FuncData
  a_Through_with_steps : Addr
  d_Through_with_steps : FuncData
  a_Back_init : Addr
  d_Back_init : FuncData
  a_Back_made : Addr
  d_Back_made : FuncData
  a_Back_len : Addr
  d_Back_len : FuncData
  a_Back_getitem : Addr
  d_Back_getitem : FuncData
  a_Back_eq : Addr
  d_Back_eq : FuncData
  a_Back_with_steps : Addr
  d_Back_with_steps : FuncData
  a_pen : Addr
  d_pen : FuncData
  a_draw : Addr
  d_draw : FuncData
  a_good_step : Addr
  d_good_step : FuncData
  a_made : Addr
  d_made : FuncData
  a_has : Addr
  d_has : FuncData
  a_other_kind : Addr
  d_other_kind : FuncData
  a_bent : Addr
  d_bent : FuncData
  a_round : Addr
  d_round : FuncData
  a_law : Addr
  d_law : FuncData
  c_Agent : Addr
  c_Through : Addr
  c_Back : Addr
  t_LETTERS : Tok
  t_LONGEST_NAME : Tok
  t_ACCESS_WORDS : Addr
  t_UPKEEP_WORDS : Addr
  t_SIGNAL_WORDS : Addr
  t_PLAIN_WORDS : Addr
  t_CACHE_WORDS : Addr
  t_GREATEST_SHIFT : Tok
  t_GREATEST_BYTE : Tok
  t_MOST_STEPS : Tok
structure Txt (K : PySem.W.Frag) (mg : Str → Option Value) (A : Adr) : Prop where
  n_list : mg "list" = none
  n_int : mg "int" = none
  n_len : mg "len" = none
  n_abs : mg "abs" = none
  n_isinstance : mg "isinstance" = none
  n_str : mg "str" = none
  n_bool : mg "bool" = none
  n_tuple : mg "tuple" = none
  n_all : mg "all" = none
  n_enumerate : mg "enumerate" = none
  n_range : mg "range" = none
  k_LETTERS : mg "LETTERS" = some (.str "abcdefghijklmnopqrstuvwxyz" A.t_LETTERS)
  k_LONGEST_NAME : mg "LONGEST_NAME" = some (.int 8 A.t_LONGEST_NAME)
  k_ACCESS_WORDS : mg "ACCESS_WORDS" = some (.ref A.t_ACCESS_WORDS)
  q_ACCESS_WORDS : ∀ H, SqT K H A.t_ACCESS_WORDS [V.str "read", V.str "write", V.str "get", V.str "put"]
  k_UPKEEP_WORDS : mg "UPKEEP_WORDS" = some (.ref A.t_UPKEEP_WORDS)
  q_UPKEEP_WORDS : ∀ H, SqT K H A.t_UPKEEP_WORDS [V.str "clean", V.str "drop", V.str "flush"]
  k_SIGNAL_WORDS : mg "SIGNAL_WORDS" = some (.ref A.t_SIGNAL_WORDS)
  q_SIGNAL_WORDS : ∀ H, SqT K H A.t_SIGNAL_WORDS [V.str "post", V.str "wait"]
  k_PLAIN_WORDS : mg "PLAIN_WORDS" = some (.ref A.t_PLAIN_WORDS)
  q_PLAIN_WORDS : ∀ H, SqT K H A.t_PLAIN_WORDS [V.str "read", V.str "write", V.str "post", V.str "wait"]
  k_CACHE_WORDS : mg "CACHE_WORDS" = some (.ref A.t_CACHE_WORDS)
  q_CACHE_WORDS : ∀ H, SqT K H A.t_CACHE_WORDS [V.str "read", V.str "write", V.str "get", V.str "put", V.str "clean", V.str "drop", V.str "flush", V.str "post", V.str "wait"]
  k_GREATEST_SHIFT : mg "GREATEST_SHIFT" = some (.int 3 A.t_GREATEST_SHIFT)
  k_GREATEST_BYTE : mg "GREATEST_BYTE" = some (.int 7 A.t_GREATEST_BYTE)
  k_MOST_STEPS : mg "MOST_STEPS" = some (.int 24 A.t_MOST_STEPS)
  F_is_integer : Fun K "is_integer" "is_integer" s_is_integer A.a_is_integer A.d_is_integer
  g_is_integer : mg "is_integer" = some (.ref A.a_is_integer)
  b_is_integer : Binds K A.d_is_integer ["value"] []
  F_is_within : Fun K "is_within" "is_within" s_is_within A.a_is_within A.d_is_within
  g_is_within : mg "is_within" = some (.ref A.a_is_within)
  b_is_within : Binds K A.d_is_within ["value", "low", "high"] []
  F_is_name : Fun K "is_name" "is_name" s_is_name A.a_is_name A.d_is_name
  g_is_name : mg "is_name" = some (.ref A.a_is_name)
  b_is_name : Binds K A.d_is_name ["value"] []
  F_is_step : Fun K "is_step" "is_step" s_is_step A.a_is_step A.d_is_step
  g_is_step : mg "is_step" = some (.ref A.a_is_step)
  b_is_step : Binds K A.d_is_step ["value"] []
  F_is_memory_step : Fun K "_is_memory_step" "_is_memory_step" s_is_memory_step A.a_is_memory_step A.d_is_memory_step
  g_is_memory_step : mg "_is_memory_step" = some (.ref A.a_is_memory_step)
  b_is_memory_step : Binds K A.d_is_memory_step ["value"] []
  F_check_agent : Fun K "_check_agent" "_check_agent" s_check_agent A.a_check_agent A.d_check_agent
  g_check_agent : mg "_check_agent" = some (.ref A.a_check_agent)
  b_check_agent : Binds K A.d_check_agent ["name", "steps", "words"] []
  F_Agent_init : Fun K "__init__" "Agent.__init__" s_Agent_init A.a_Agent_init A.d_Agent_init
  F_Agent_made : Fun K "made" "Agent.made" s_Agent_made A.a_Agent_made A.d_Agent_made
  cm_Agent_made : ∃ p, ClX.CMet K A.c_Agent (.type "type") "made" p A.a_Agent_made
  b_Agent_made : Binds K A.d_Agent_made ["cls", "name", "steps"] []
  F_Agent_len : Fun K "__len__" "Agent.__len__" s_Agent_len A.a_Agent_len A.d_Agent_len
  fi_Agent_len : PySem.W.findIn K (.ref A.c_Agent) "__len__" = some (some (.ref A.a_Agent_len))
  fo_Agent_len : PySem.W.isFn K (.ref A.a_Agent_len) = true
  b_Agent_len : Binds K A.d_Agent_len ["self"] []
  F_Agent_getitem : Fun K "__getitem__" "Agent.__getitem__" s_Agent_getitem A.a_Agent_getitem A.d_Agent_getitem
  fi_Agent_getitem : PySem.W.findIn K (.ref A.c_Agent) "__getitem__" = some (some (.ref A.a_Agent_getitem))
  fo_Agent_getitem : PySem.W.isFn K (.ref A.a_Agent_getitem) = true
  b_Agent_getitem : Binds K A.d_Agent_getitem ["self", "at"] []
  F_Agent_eq : Fun K "__eq__" "Agent.__eq__" s_Agent_eq A.a_Agent_eq A.d_Agent_eq
  fi_Agent_eq : PySem.W.findIn K (.ref A.c_Agent) "__eq__" = some (some (.ref A.a_Agent_eq))
  fo_Agent_eq : PySem.W.isFn K (.ref A.a_Agent_eq) = true
  b_Agent_eq : Binds K A.d_Agent_eq ["self", "other"] []
  F_Agent_with_steps : Fun K "with_steps" "Agent.with_steps" s_Agent_with_steps A.a_Agent_with_steps A.d_Agent_with_steps
  F_Through_init : Fun K "__init__" "Through.__init__" s_Through_init A.a_Through_init A.d_Through_init
  F_Through_made : Fun K "made" "Through.made" s_Through_made A.a_Through_made A.d_Through_made
  cm_Through_made : ∃ p, ClX.CMet K A.c_Through (.type "type") "made" p A.a_Through_made
  b_Through_made : Binds K A.d_Through_made ["cls", "name", "steps"] []
  F_Through_len : Fun K "__len__" "Through.__len__" s_Through_len A.a_Through_len A.d_Through_len
  fi_Through_len : PySem.W.findIn K (.ref A.c_Through) "__len__" = some (some (.ref A.a_Through_len))
  fo_Through_len : PySem.W.isFn K (.ref A.a_Through_len) = true
  b_Through_len : Binds K A.d_Through_len ["self"] []
  F_Through_getitem : Fun K "__getitem__" "Through.__getitem__" s_Through_getitem A.a_Through_getitem A.d_Through_getitem
  fi_Through_getitem : PySem.W.findIn K (.ref A.c_Through) "__getitem__" = some (some (.ref A.a_Through_getitem))
  fo_Through_getitem : PySem.W.isFn K (.ref A.a_Through_getitem) = true
  b_Through_getitem : Binds K A.d_Through_getitem ["self", "at"] []
  F_Through_eq : Fun K "__eq__" "Through.__eq__" s_Through_eq A.a_Through_eq A.d_Through_eq
  fi_Through_eq : PySem.W.findIn K (.ref A.c_Through) "__eq__" = some (some (.ref A.a_Through_eq))
  fo_Through_eq : PySem.W.isFn K (.ref A.a_Through_eq) = true
  b_Through_eq : Binds K A.d_Through_eq ["self", "other"] []
  F_Through_with_steps : Fun K "with_steps" "Through.with_steps" s_Through_with_steps A.a_Through_with_steps A.d_Through_with_steps
  F_Back_init : Fun K "__init__" "Back.__init__" s_Back_init A.a_Back_init A.d_Back_init
  F_Back_made : Fun K "made" "Back.made" s_Back_made A.a_Back_made A.d_Back_made
  cm_Back_made : ∃ p, ClX.CMet K A.c_Back (.type "type") "made" p A.a_Back_made
  b_Back_made : Binds K A.d_Back_made ["cls", "name", "steps"] []
  F_Back_len : Fun K "__len__" "Back.__len__" s_Back_len A.a_Back_len A.d_Back_len
  fi_Back_len : PySem.W.findIn K (.ref A.c_Back) "__len__" = some (some (.ref A.a_Back_len))
  fo_Back_len : PySem.W.isFn K (.ref A.a_Back_len) = true
  b_Back_len : Binds K A.d_Back_len ["self"] []
  F_Back_getitem : Fun K "__getitem__" "Back.__getitem__" s_Back_getitem A.a_Back_getitem A.d_Back_getitem
  fi_Back_getitem : PySem.W.findIn K (.ref A.c_Back) "__getitem__" = some (some (.ref A.a_Back_getitem))
  fo_Back_getitem : PySem.W.isFn K (.ref A.a_Back_getitem) = true
  b_Back_getitem : Binds K A.d_Back_getitem ["self", "at"] []
  F_Back_eq : Fun K "__eq__" "Back.__eq__" s_Back_eq A.a_Back_eq A.d_Back_eq
  fi_Back_eq : PySem.W.findIn K (.ref A.c_Back) "__eq__" = some (some (.ref A.a_Back_eq))
  fo_Back_eq : PySem.W.isFn K (.ref A.a_Back_eq) = true
  b_Back_eq : Binds K A.d_Back_eq ["self", "other"] []
  F_Back_with_steps : Fun K "with_steps" "Back.with_steps" s_Back_with_steps A.a_Back_with_steps A.d_Back_with_steps
  F_pen : Fun K "_law_pen" "_law_pen" s_pen A.a_pen A.d_pen
  g_pen : mg "_law_pen" = some (.ref A.a_pen)
  b_pen : Binds K A.d_pen ["_law_script"] []
  F_draw : Fun K "_law_draw" "_law_draw" s_draw A.a_draw A.d_draw
  g_draw : mg "_law_draw" = some (.ref A.a_draw)
  b_draw : Binds K A.d_draw ["_law_pen_here", "_law_many"] []
  F_good_step : Fun K "_law_good_step" "_law_good_step" s_good_step A.a_good_step A.d_good_step
  g_good_step : mg "_law_good_step" = some (.ref A.a_good_step)
  b_good_step : Binds K A.d_good_step ["_law_pen_here", "_law_kind"] []
  F_made : Fun K "_law_made" "_law_made" s_made A.a_made A.d_made
  g_made : mg "_law_made" = some (.ref A.a_made)
  b_made : Binds K A.d_made ["_law_kind", "_law_called", "_law_handed"] []
  F_has : Fun K "_law_has" "_law_has" s_has A.a_has A.d_has
  g_has : mg "_law_has" = some (.ref A.a_has)
  b_has : Binds K A.d_has ["_law_agent", "_law_kind", "_law_called", "_law_wanted"] []
  F_other_kind : Fun K "_law_other_kind" "_law_other_kind" s_other_kind A.a_other_kind A.d_other_kind
  g_other_kind : mg "_law_other_kind" = some (.ref A.a_other_kind)
  b_other_kind : Binds K A.d_other_kind ["_law_kind", "_law_steps_here"] []
  F_bent : Fun K "_law_bent" "_law_bent" s_bent A.a_bent A.d_bent
  g_bent : mg "_law_bent" = some (.ref A.a_bent)
  b_bent : Binds K A.d_bent ["_law_pen_here", "_law_kind", "_law_called", "_law_handed"] []
  F_round : Fun K "_law_round" "_law_round" s_round A.a_round A.d_round
  g_round : mg "_law_round" = some (.ref A.a_round)
  b_round : Binds K A.d_round ["_law_pen_here"] []
  F_law : Fun K "law" "law" s_law A.a_law A.d_law
  g_law : mg "law" = some (.ref A.a_law)
  b_law : Binds K A.d_law ["_law_script"] []
  g_Agent : mg "Agent" = some (.ref A.c_Agent)
  cl_Agent : Cls K A.c_Agent
  na_Agent_name : NoAttr K A.c_Agent "name"
  na_Agent_steps : NoAttr K A.c_Agent "steps"
  me_Agent_with_steps : Meth K A.c_Agent "with_steps" A.a_Agent_with_steps
  mk_Agent : Mk K A.c_Agent A.a_Agent_init
  g_Through : mg "Through" = some (.ref A.c_Through)
  cl_Through : Cls K A.c_Through
  na_Through_name : NoAttr K A.c_Through "name"
  na_Through_steps : NoAttr K A.c_Through "steps"
  me_Through_with_steps : Meth K A.c_Through "with_steps" A.a_Through_with_steps
  mk_Through : Mk K A.c_Through A.a_Through_init
  g_Back : mg "Back" = some (.ref A.c_Back)
  cl_Back : Cls K A.c_Back
  na_Back_name : NoAttr K A.c_Back "name"
  na_Back_steps : NoAttr K A.c_Back "steps"
  me_Back_with_steps : Meth K A.c_Back "with_steps" A.a_Back_with_steps
  mk_Back : Mk K A.c_Back A.a_Back_init
  ag_Agent : Lay.AgC K A.c_Agent "plain"
  cr_Agent : ClX.CRead K A.c_Agent (.type "type")
  fg_Agent : PySem.W.fnIn K A.a_Agent_getitem = true
  ne_Agent : OwnC.NeC K A.c_Agent
  sp_NoneType_Agent : PySem.W.subIn K (.type "NoneType") (.ref A.c_Agent) = some false
  kp_NoneType_Agent : PySem.W.kitOne K (.type "NoneType") (.ref A.c_Agent) = some false
  sp_str_Agent : PySem.W.subIn K (.type "str") (.ref A.c_Agent) = some false
  kp_str_Agent : PySem.W.kitOne K (.type "str") (.ref A.c_Agent) = some false
  sp_int_Agent : PySem.W.subIn K (.type "int") (.ref A.c_Agent) = some false
  kp_int_Agent : PySem.W.kitOne K (.type "int") (.ref A.c_Agent) = some false
  sp_tuple_Agent : PySem.W.subIn K (.type "tuple") (.ref A.c_Agent) = some false
  kp_tuple_Agent : PySem.W.kitOne K (.type "tuple") (.ref A.c_Agent) = some false
  ag_Through : Lay.AgC K A.c_Through "through"
  cr_Through : ClX.CRead K A.c_Through (.type "type")
  fg_Through : PySem.W.fnIn K A.a_Through_getitem = true
  ne_Through : OwnC.NeC K A.c_Through
  sp_NoneType_Through : PySem.W.subIn K (.type "NoneType") (.ref A.c_Through) = some false
  kp_NoneType_Through : PySem.W.kitOne K (.type "NoneType") (.ref A.c_Through) = some false
  sp_str_Through : PySem.W.subIn K (.type "str") (.ref A.c_Through) = some false
  kp_str_Through : PySem.W.kitOne K (.type "str") (.ref A.c_Through) = some false
  sp_int_Through : PySem.W.subIn K (.type "int") (.ref A.c_Through) = some false
  kp_int_Through : PySem.W.kitOne K (.type "int") (.ref A.c_Through) = some false
  sp_tuple_Through : PySem.W.subIn K (.type "tuple") (.ref A.c_Through) = some false
  kp_tuple_Through : PySem.W.kitOne K (.type "tuple") (.ref A.c_Through) = some false
  ag_Back : Lay.AgC K A.c_Back "back"
  cr_Back : ClX.CRead K A.c_Back (.type "type")
  fg_Back : PySem.W.fnIn K A.a_Back_getitem = true
  ne_Back : OwnC.NeC K A.c_Back
  sp_NoneType_Back : PySem.W.subIn K (.type "NoneType") (.ref A.c_Back) = some false
  kp_NoneType_Back : PySem.W.kitOne K (.type "NoneType") (.ref A.c_Back) = some false
  sp_str_Back : PySem.W.subIn K (.type "str") (.ref A.c_Back) = some false
  kp_str_Back : PySem.W.kitOne K (.type "str") (.ref A.c_Back) = some false
  sp_int_Back : PySem.W.subIn K (.type "int") (.ref A.c_Back) = some false
  kp_int_Back : PySem.W.kitOne K (.type "int") (.ref A.c_Back) = some false
  sp_tuple_Back : PySem.W.subIn K (.type "tuple") (.ref A.c_Back) = some false
  kp_tuple_Back : PySem.W.kitOne K (.type "tuple") (.ref A.c_Back) = some false
  sb_Agent_Agent : PySem.W.subIn K (.ref A.c_Agent) (.ref A.c_Agent) = some true
  ki_Agent_Agent : PySem.W.kitOne K (.ref A.c_Agent) (.ref A.c_Agent) = some true
  sb_Agent_Through : PySem.W.subIn K (.ref A.c_Agent) (.ref A.c_Through) = some false
  ki_Agent_Through : PySem.W.kitOne K (.ref A.c_Agent) (.ref A.c_Through) = some false
  sb_Agent_Back : PySem.W.subIn K (.ref A.c_Agent) (.ref A.c_Back) = some false
  ki_Agent_Back : PySem.W.kitOne K (.ref A.c_Agent) (.ref A.c_Back) = some false
  sb_Through_Agent : PySem.W.subIn K (.ref A.c_Through) (.ref A.c_Agent) = some true
  ki_Through_Agent : PySem.W.kitOne K (.ref A.c_Through) (.ref A.c_Agent) = some true
  sb_Through_Through : PySem.W.subIn K (.ref A.c_Through) (.ref A.c_Through) = some true
  ki_Through_Through : PySem.W.kitOne K (.ref A.c_Through) (.ref A.c_Through) = some true
  sb_Through_Back : PySem.W.subIn K (.ref A.c_Through) (.ref A.c_Back) = some false
  ki_Through_Back : PySem.W.kitOne K (.ref A.c_Through) (.ref A.c_Back) = some false
  sb_Back_Agent : PySem.W.subIn K (.ref A.c_Back) (.ref A.c_Agent) = some true
  ki_Back_Agent : PySem.W.kitOne K (.ref A.c_Back) (.ref A.c_Agent) = some true
  sb_Back_Through : PySem.W.subIn K (.ref A.c_Back) (.ref A.c_Through) = some true
  ki_Back_Through : PySem.W.kitOne K (.ref A.c_Back) (.ref A.c_Through) = some true
  sb_Back_Back : PySem.W.subIn K (.ref A.c_Back) (.ref A.c_Back) = some true
  ki_Back_Back : PySem.W.kitOne K (.ref A.c_Back) (.ref A.c_Back) = some true
theorem all_mk {K : PySem.W.Frag} {h : Heap} {mg : Str → Option Value} (X : K.In h) (G : h.Ns mainGlobals mg)
    {c_Agent : Addr} {c_Through : Addr} {c_Back : Addr} {kt_Agent : Tok} {kt_Through : Tok} {kt_Back : Tok}
    {f_is_integer : Addr} {od_is_integer an_is_integer : Option Addr} {sl_is_integer : Array (Option Value)} {oc_is_integer kV_is_integer dc_is_integer pm_is_integer cd_is_integer ct_is_integer : Value}
    {f_is_within : Addr} {od_is_within an_is_within : Option Addr} {sl_is_within : Array (Option Value)} {oc_is_within kV_is_within dc_is_within pm_is_within cd_is_within ct_is_within : Value}
    {f_is_name : Addr} {od_is_name an_is_name : Option Addr} {sl_is_name : Array (Option Value)} {oc_is_name kV_is_name dc_is_name pm_is_name cd_is_name ct_is_name : Value}
    {f_is_step : Addr} {od_is_step an_is_step : Option Addr} {sl_is_step : Array (Option Value)} {oc_is_step kV_is_step dc_is_step pm_is_step cd_is_step ct_is_step : Value}
    {f_is_memory_step : Addr} {od_is_memory_step an_is_memory_step : Option Addr} {sl_is_memory_step : Array (Option Value)} {oc_is_memory_step kV_is_memory_step dc_is_memory_step pm_is_memory_step cd_is_memory_step ct_is_memory_step : Value}
    {f_check_agent : Addr} {od_check_agent an_check_agent : Option Addr} {sl_check_agent : Array (Option Value)} {oc_check_agent kV_check_agent dc_check_agent pm_check_agent cd_check_agent ct_check_agent : Value}
    {f_Agent_init : Addr} {od_Agent_init an_Agent_init : Option Addr} {sl_Agent_init : Array (Option Value)} {oc_Agent_init kV_Agent_init dc_Agent_init pm_Agent_init cd_Agent_init ct_Agent_init : Value}
    {f_Agent_made : Addr} {od_Agent_made an_Agent_made : Option Addr} {sl_Agent_made : Array (Option Value)} {oc_Agent_made kV_Agent_made dc_Agent_made pm_Agent_made cd_Agent_made ct_Agent_made : Value}
    {cm_Agent_made : Addr} {rs_Agent_made : List Value}
    {f_Agent_len : Addr} {od_Agent_len an_Agent_len : Option Addr} {sl_Agent_len : Array (Option Value)} {oc_Agent_len kV_Agent_len dc_Agent_len pm_Agent_len cd_Agent_len ct_Agent_len : Value}
    {f_Agent_getitem : Addr} {od_Agent_getitem an_Agent_getitem : Option Addr} {sl_Agent_getitem : Array (Option Value)} {oc_Agent_getitem kV_Agent_getitem dc_Agent_getitem pm_Agent_getitem cd_Agent_getitem ct_Agent_getitem : Value}
    {f_Agent_eq : Addr} {od_Agent_eq an_Agent_eq : Option Addr} {sl_Agent_eq : Array (Option Value)} {oc_Agent_eq kV_Agent_eq dc_Agent_eq pm_Agent_eq cd_Agent_eq ct_Agent_eq : Value}
    {f_Agent_with_steps : Addr} {od_Agent_with_steps an_Agent_with_steps : Option Addr} {sl_Agent_with_steps : Array (Option Value)} {oc_Agent_with_steps kV_Agent_with_steps dc_Agent_with_steps pm_Agent_with_steps cd_Agent_with_steps ct_Agent_with_steps : Value}
    {f_Through_init : Addr} {od_Through_init an_Through_init : Option Addr} {sl_Through_init : Array (Option Value)} {oc_Through_init kV_Through_init dc_Through_init pm_Through_init cd_Through_init ct_Through_init : Value}
    {f_Through_made : Addr} {od_Through_made an_Through_made : Option Addr} {sl_Through_made : Array (Option Value)} {oc_Through_made kV_Through_made dc_Through_made pm_Through_made cd_Through_made ct_Through_made : Value}
    {cm_Through_made : Addr} {rs_Through_made : List Value}
    {f_Through_len : Addr} {od_Through_len an_Through_len : Option Addr} {sl_Through_len : Array (Option Value)} {oc_Through_len kV_Through_len dc_Through_len pm_Through_len cd_Through_len ct_Through_len : Value}
    {f_Through_getitem : Addr} {od_Through_getitem an_Through_getitem : Option Addr} {sl_Through_getitem : Array (Option Value)} {oc_Through_getitem kV_Through_getitem dc_Through_getitem pm_Through_getitem cd_Through_getitem ct_Through_getitem : Value}
    {f_Through_eq : Addr} {od_Through_eq an_Through_eq : Option Addr} {sl_Through_eq : Array (Option Value)} {oc_Through_eq kV_Through_eq dc_Through_eq pm_Through_eq cd_Through_eq ct_Through_eq : Value}
    {f_Through_with_steps : Addr} {od_Through_with_steps an_Through_with_steps : Option Addr} {sl_Through_with_steps : Array (Option Value)} {oc_Through_with_steps kV_Through_with_steps dc_Through_with_steps pm_Through_with_steps cd_Through_with_steps ct_Through_with_steps : Value}
    {f_Back_init : Addr} {od_Back_init an_Back_init : Option Addr} {sl_Back_init : Array (Option Value)} {oc_Back_init kV_Back_init dc_Back_init pm_Back_init cd_Back_init ct_Back_init : Value}
    {f_Back_made : Addr} {od_Back_made an_Back_made : Option Addr} {sl_Back_made : Array (Option Value)} {oc_Back_made kV_Back_made dc_Back_made pm_Back_made cd_Back_made ct_Back_made : Value}
    {cm_Back_made : Addr} {rs_Back_made : List Value}
    {f_Back_len : Addr} {od_Back_len an_Back_len : Option Addr} {sl_Back_len : Array (Option Value)} {oc_Back_len kV_Back_len dc_Back_len pm_Back_len cd_Back_len ct_Back_len : Value}
    {f_Back_getitem : Addr} {od_Back_getitem an_Back_getitem : Option Addr} {sl_Back_getitem : Array (Option Value)} {oc_Back_getitem kV_Back_getitem dc_Back_getitem pm_Back_getitem cd_Back_getitem ct_Back_getitem : Value}
    {f_Back_eq : Addr} {od_Back_eq an_Back_eq : Option Addr} {sl_Back_eq : Array (Option Value)} {oc_Back_eq kV_Back_eq dc_Back_eq pm_Back_eq cd_Back_eq ct_Back_eq : Value}
    {f_Back_with_steps : Addr} {od_Back_with_steps an_Back_with_steps : Option Addr} {sl_Back_with_steps : Array (Option Value)} {oc_Back_with_steps kV_Back_with_steps dc_Back_with_steps pm_Back_with_steps cd_Back_with_steps ct_Back_with_steps : Value}
    {f_pen : Addr} {od_pen an_pen : Option Addr} {sl_pen : Array (Option Value)} {oc_pen kV_pen dc_pen pm_pen cd_pen ct_pen : Value}
    {f_draw : Addr} {od_draw an_draw : Option Addr} {sl_draw : Array (Option Value)} {oc_draw kV_draw dc_draw pm_draw cd_draw ct_draw : Value}
    {f_good_step : Addr} {od_good_step an_good_step : Option Addr} {sl_good_step : Array (Option Value)} {oc_good_step kV_good_step dc_good_step pm_good_step cd_good_step ct_good_step : Value}
    {f_made : Addr} {od_made an_made : Option Addr} {sl_made : Array (Option Value)} {oc_made kV_made dc_made pm_made cd_made ct_made : Value}
    {f_has : Addr} {od_has an_has : Option Addr} {sl_has : Array (Option Value)} {oc_has kV_has dc_has pm_has cd_has ct_has : Value}
    {f_other_kind : Addr} {od_other_kind an_other_kind : Option Addr} {sl_other_kind : Array (Option Value)} {oc_other_kind kV_other_kind dc_other_kind pm_other_kind cd_other_kind ct_other_kind : Value}
    {f_bent : Addr} {od_bent an_bent : Option Addr} {sl_bent : Array (Option Value)} {oc_bent kV_bent dc_bent pm_bent cd_bent ct_bent : Value}
    {f_round : Addr} {od_round an_round : Option Addr} {sl_round : Array (Option Value)} {oc_round kV_round dc_round pm_round cd_round ct_round : Value}
    {f_law : Addr} {od_law an_law : Option Addr} {sl_law : Array (Option Value)} {oc_law kV_law dc_law pm_law cd_law ct_law : Value}
    {t_LETTERS : Tok}
    {t_LONGEST_NAME : Tok}
    {t_ACCESS_WORDS : Addr} {o_ACCESS_WORDS : Obj} {its_ACCESS_WORDS : Array Value} {n_ACCESS_WORDS : Nat}
    {t_UPKEEP_WORDS : Addr} {o_UPKEEP_WORDS : Obj} {its_UPKEEP_WORDS : Array Value} {n_UPKEEP_WORDS : Nat}
    {t_SIGNAL_WORDS : Addr} {o_SIGNAL_WORDS : Obj} {its_SIGNAL_WORDS : Array Value} {n_SIGNAL_WORDS : Nat}
    {t_PLAIN_WORDS : Addr} {o_PLAIN_WORDS : Obj} {its_PLAIN_WORDS : Array Value} {n_PLAIN_WORDS : Nat}
    {t_CACHE_WORDS : Addr} {o_CACHE_WORDS : Obj} {its_CACHE_WORDS : Array Value} {n_CACHE_WORDS : Nat}
    {t_GREATEST_SHIFT : Tok}
    {t_GREATEST_BYTE : Tok}
    {t_MOST_STEPS : Tok}
    (a_Agent : PySem.W.nsIn K mainGlobals "Agent" = some (some (.ref c_Agent)))
    (pg_Agent : PySem.W.plainGet K c_Agent Str.empty = true) (hd_Agent : PySem.W.hasDictIn K c_Agent = true) (po_Agent : PySem.W.plainOver K c_Agent = true) (sa_Agent : PySem.W.findIn K (.ref c_Agent) "__setattr__" = some (some (.builtin "object.__setattr__")))
    (na_Agent_name : PySem.W.findIn K (.ref c_Agent) "name" = some none)
    (na_Agent_steps : PySem.W.findIn K (.ref c_Agent) "steps" = some none)
    (mk_Agent : PySem.W.makesIn K c_Agent = true) (kc_Agent : PySem.W.keepIn K (.ref c_Agent) = true)
    (a_Through : PySem.W.nsIn K mainGlobals "Through" = some (some (.ref c_Through)))
    (pg_Through : PySem.W.plainGet K c_Through Str.empty = true) (hd_Through : PySem.W.hasDictIn K c_Through = true) (po_Through : PySem.W.plainOver K c_Through = true) (sa_Through : PySem.W.findIn K (.ref c_Through) "__setattr__" = some (some (.builtin "object.__setattr__")))
    (na_Through_name : PySem.W.findIn K (.ref c_Through) "name" = some none)
    (na_Through_steps : PySem.W.findIn K (.ref c_Through) "steps" = some none)
    (mk_Through : PySem.W.makesIn K c_Through = true) (kc_Through : PySem.W.keepIn K (.ref c_Through) = true)
    (a_Back : PySem.W.nsIn K mainGlobals "Back" = some (some (.ref c_Back)))
    (pg_Back : PySem.W.plainGet K c_Back Str.empty = true) (hd_Back : PySem.W.hasDictIn K c_Back = true) (po_Back : PySem.W.plainOver K c_Back = true) (sa_Back : PySem.W.findIn K (.ref c_Back) "__setattr__" = some (some (.builtin "object.__setattr__")))
    (na_Back_name : PySem.W.findIn K (.ref c_Back) "name" = some none)
    (na_Back_steps : PySem.W.findIn K (.ref c_Back) "steps" = some none)
    (mk_Back : PySem.W.makesIn K c_Back = true) (kc_Back : PySem.W.keepIn K (.ref c_Back) = true)
    (gg : PySem.W.specialIn K (.builtin "object.__class__") "__get__" = some (some (.builtin "getset_descriptor.__get__"))) (tk : PySem.W.takesIn K (.builtin "object.__class__") = some true)
    (ci_Agent : PySem.W.findIn K (.ref c_Agent) "__class__" = some (some (.builtin "object.__class__"))) (mo_Agent : PySem.W.mroIn K c_Agent (.type "object") = some true)
    (co_Agent : PySem.W.findIn K (.ref c_Agent) "KIND" = some (some (.str "plain" kt_Agent))) (cg_Agent : PySem.W.specialIn K (.str "plain" kt_Agent) "__get__" = some none)
    (ne_Agent : PySem.W.findIn K (.ref c_Agent) "__ne__" = some (some (.builtin "object.__ne__")))
    (rd_Agent : PySem.W.readsIn K c_Agent (.type "type") = true) (ga_Agent : PySem.W.specialIn K (.ref c_Agent) "__getattribute__" = some (some (.builtin "type.__getattribute__")))
    (ty_Agent : PySem.W.typeIn K (.ref c_Agent) = some (.type "type")) (ss_Agent : PySem.W.subIn K (.ref c_Agent) (.ref c_Agent) = some true)
    (sp_NoneType_Agent : PySem.W.subIn K (.type "NoneType") (.ref c_Agent) = some false)
    (sp_str_Agent : PySem.W.subIn K (.type "str") (.ref c_Agent) = some false)
    (sp_int_Agent : PySem.W.subIn K (.type "int") (.ref c_Agent) = some false)
    (sp_tuple_Agent : PySem.W.subIn K (.type "tuple") (.ref c_Agent) = some false)
    (ci_Through : PySem.W.findIn K (.ref c_Through) "__class__" = some (some (.builtin "object.__class__"))) (mo_Through : PySem.W.mroIn K c_Through (.type "object") = some true)
    (co_Through : PySem.W.findIn K (.ref c_Through) "KIND" = some (some (.str "through" kt_Through))) (cg_Through : PySem.W.specialIn K (.str "through" kt_Through) "__get__" = some none)
    (ne_Through : PySem.W.findIn K (.ref c_Through) "__ne__" = some (some (.builtin "object.__ne__")))
    (rd_Through : PySem.W.readsIn K c_Through (.type "type") = true) (ga_Through : PySem.W.specialIn K (.ref c_Through) "__getattribute__" = some (some (.builtin "type.__getattribute__")))
    (ty_Through : PySem.W.typeIn K (.ref c_Through) = some (.type "type")) (ss_Through : PySem.W.subIn K (.ref c_Through) (.ref c_Through) = some true)
    (sp_NoneType_Through : PySem.W.subIn K (.type "NoneType") (.ref c_Through) = some false)
    (sp_str_Through : PySem.W.subIn K (.type "str") (.ref c_Through) = some false)
    (sp_int_Through : PySem.W.subIn K (.type "int") (.ref c_Through) = some false)
    (sp_tuple_Through : PySem.W.subIn K (.type "tuple") (.ref c_Through) = some false)
    (ci_Back : PySem.W.findIn K (.ref c_Back) "__class__" = some (some (.builtin "object.__class__"))) (mo_Back : PySem.W.mroIn K c_Back (.type "object") = some true)
    (co_Back : PySem.W.findIn K (.ref c_Back) "KIND" = some (some (.str "back" kt_Back))) (cg_Back : PySem.W.specialIn K (.str "back" kt_Back) "__get__" = some none)
    (ne_Back : PySem.W.findIn K (.ref c_Back) "__ne__" = some (some (.builtin "object.__ne__")))
    (rd_Back : PySem.W.readsIn K c_Back (.type "type") = true) (ga_Back : PySem.W.specialIn K (.ref c_Back) "__getattribute__" = some (some (.builtin "type.__getattribute__")))
    (ty_Back : PySem.W.typeIn K (.ref c_Back) = some (.type "type")) (ss_Back : PySem.W.subIn K (.ref c_Back) (.ref c_Back) = some true)
    (sp_NoneType_Back : PySem.W.subIn K (.type "NoneType") (.ref c_Back) = some false)
    (sp_str_Back : PySem.W.subIn K (.type "str") (.ref c_Back) = some false)
    (sp_int_Back : PySem.W.subIn K (.type "int") (.ref c_Back) = some false)
    (sp_tuple_Back : PySem.W.subIn K (.type "tuple") (.ref c_Back) = some false)
    (sb_Agent_Through : PySem.W.subIn K (.ref c_Agent) (.ref c_Through) = some false)
    (sb_Agent_Back : PySem.W.subIn K (.ref c_Agent) (.ref c_Back) = some false)
    (sb_Through_Agent : PySem.W.subIn K (.ref c_Through) (.ref c_Agent) = some true)
    (sb_Through_Back : PySem.W.subIn K (.ref c_Through) (.ref c_Back) = some false)
    (sb_Back_Agent : PySem.W.subIn K (.ref c_Back) (.ref c_Agent) = some true)
    (sb_Back_Through : PySem.W.subIn K (.ref c_Back) (.ref c_Through) = some true)
    (n_list : PySem.W.nsIn K mainGlobals "list" = some none)
    (n_int : PySem.W.nsIn K mainGlobals "int" = some none)
    (n_len : PySem.W.nsIn K mainGlobals "len" = some none)
    (n_abs : PySem.W.nsIn K mainGlobals "abs" = some none)
    (n_isinstance : PySem.W.nsIn K mainGlobals "isinstance" = some none)
    (n_str : PySem.W.nsIn K mainGlobals "str" = some none)
    (n_bool : PySem.W.nsIn K mainGlobals "bool" = some none)
    (n_tuple : PySem.W.nsIn K mainGlobals "tuple" = some none)
    (n_all : PySem.W.nsIn K mainGlobals "all" = some none)
    (n_enumerate : PySem.W.nsIn K mainGlobals "enumerate" = some none)
    (n_range : PySem.W.nsIn K mainGlobals "range" = some none)
    (a_is_integer : PySem.W.nsIn K mainGlobals "is_integer" = some (some (.ref f_is_integer)))
    (l_is_integer : K.lookup f_is_integer = some ⟨oc_is_integer, od_is_integer, .func (PySem.W.fnOf "is_integer" "is_integer" (defArgs s_is_integer) (defBody s_is_integer) (defScope s_is_integer) .none kV_is_integer dc_is_integer pm_is_integer an_is_integer cd_is_integer ct_is_integer), sl_is_integer⟩)
    (e_is_integer : PySem.W.codeIn K cd_is_integer "is_integer" = true)
    (p_is_integer : PySem.W.keepIn K (.ref f_is_integer) = true)
    (a_is_within : PySem.W.nsIn K mainGlobals "is_within" = some (some (.ref f_is_within)))
    (l_is_within : K.lookup f_is_within = some ⟨oc_is_within, od_is_within, .func (PySem.W.fnOf "is_within" "is_within" (defArgs s_is_within) (defBody s_is_within) (defScope s_is_within) .none kV_is_within dc_is_within pm_is_within an_is_within cd_is_within ct_is_within), sl_is_within⟩)
    (e_is_within : PySem.W.codeIn K cd_is_within "is_within" = true)
    (p_is_within : PySem.W.keepIn K (.ref f_is_within) = true)
    (a_is_name : PySem.W.nsIn K mainGlobals "is_name" = some (some (.ref f_is_name)))
    (l_is_name : K.lookup f_is_name = some ⟨oc_is_name, od_is_name, .func (PySem.W.fnOf "is_name" "is_name" (defArgs s_is_name) (defBody s_is_name) (defScope s_is_name) .none kV_is_name dc_is_name pm_is_name an_is_name cd_is_name ct_is_name), sl_is_name⟩)
    (e_is_name : PySem.W.codeIn K cd_is_name "is_name" = true)
    (p_is_name : PySem.W.keepIn K (.ref f_is_name) = true)
    (a_is_step : PySem.W.nsIn K mainGlobals "is_step" = some (some (.ref f_is_step)))
    (l_is_step : K.lookup f_is_step = some ⟨oc_is_step, od_is_step, .func (PySem.W.fnOf "is_step" "is_step" (defArgs s_is_step) (defBody s_is_step) (defScope s_is_step) .none kV_is_step dc_is_step pm_is_step an_is_step cd_is_step ct_is_step), sl_is_step⟩)
    (e_is_step : PySem.W.codeIn K cd_is_step "is_step" = true)
    (p_is_step : PySem.W.keepIn K (.ref f_is_step) = true)
    (a_is_memory_step : PySem.W.nsIn K mainGlobals "_is_memory_step" = some (some (.ref f_is_memory_step)))
    (l_is_memory_step : K.lookup f_is_memory_step = some ⟨oc_is_memory_step, od_is_memory_step, .func (PySem.W.fnOf "_is_memory_step" "_is_memory_step" (defArgs s_is_memory_step) (defBody s_is_memory_step) (defScope s_is_memory_step) .none kV_is_memory_step dc_is_memory_step pm_is_memory_step an_is_memory_step cd_is_memory_step ct_is_memory_step), sl_is_memory_step⟩)
    (e_is_memory_step : PySem.W.codeIn K cd_is_memory_step "_is_memory_step" = true)
    (p_is_memory_step : PySem.W.keepIn K (.ref f_is_memory_step) = true)
    (a_check_agent : PySem.W.nsIn K mainGlobals "_check_agent" = some (some (.ref f_check_agent)))
    (l_check_agent : K.lookup f_check_agent = some ⟨oc_check_agent, od_check_agent, .func (PySem.W.fnOf "_check_agent" "_check_agent" (defArgs s_check_agent) (defBody s_check_agent) (defScope s_check_agent) .none kV_check_agent dc_check_agent pm_check_agent an_check_agent cd_check_agent ct_check_agent), sl_check_agent⟩)
    (e_check_agent : PySem.W.codeIn K cd_check_agent "_check_agent" = true)
    (p_check_agent : PySem.W.keepIn K (.ref f_check_agent) = true)
    (a_Agent_init : PySem.W.findIn K (.ref c_Agent) "__init__" = some (some (.ref f_Agent_init)))
    (i_Agent_init : PySem.W.isFn K (.ref f_Agent_init) = true)
    (l_Agent_init : K.lookup f_Agent_init = some ⟨oc_Agent_init, od_Agent_init, .func (PySem.W.fnOf "__init__" "Agent.__init__" (defArgs s_Agent_init) (defBody s_Agent_init) (defScope s_Agent_init) .none kV_Agent_init dc_Agent_init pm_Agent_init an_Agent_init cd_Agent_init ct_Agent_init), sl_Agent_init⟩)
    (e_Agent_init : PySem.W.codeIn K cd_Agent_init "Agent.__init__" = true)
    (p_Agent_init : PySem.W.keepIn K (.ref f_Agent_init) = true)
    (a_Agent_made : PySem.W.findCls K (.ref c_Agent) (.type "type") "made" = some (.get (.builtin "classmethod.__get__") (.ref cm_Agent_made) .none (.ref c_Agent)))
    (i_Agent_made : PySem.W.recIn K cm_Agent_made "classmethod" = some (.ref f_Agent_made :: rs_Agent_made))
    (j_Agent_made : PySem.W.fnIn K f_Agent_made = true)
    (l_Agent_made : K.lookup f_Agent_made = some ⟨oc_Agent_made, od_Agent_made, .func (PySem.W.fnOf "made" "Agent.made" (defArgs s_Agent_made) (defBody s_Agent_made) (defScope s_Agent_made) .none kV_Agent_made dc_Agent_made pm_Agent_made an_Agent_made cd_Agent_made ct_Agent_made), sl_Agent_made⟩)
    (e_Agent_made : PySem.W.codeIn K cd_Agent_made "Agent.made" = true)
    (p_Agent_made : PySem.W.keepIn K (.ref f_Agent_made) = true)
    (a_Agent_len : PySem.W.findIn K (.ref c_Agent) "__len__" = some (some (.ref f_Agent_len)))
    (i_Agent_len : PySem.W.isFn K (.ref f_Agent_len) = true)
    (l_Agent_len : K.lookup f_Agent_len = some ⟨oc_Agent_len, od_Agent_len, .func (PySem.W.fnOf "__len__" "Agent.__len__" (defArgs s_Agent_len) (defBody s_Agent_len) (defScope s_Agent_len) .none kV_Agent_len dc_Agent_len pm_Agent_len an_Agent_len cd_Agent_len ct_Agent_len), sl_Agent_len⟩)
    (e_Agent_len : PySem.W.codeIn K cd_Agent_len "Agent.__len__" = true)
    (p_Agent_len : PySem.W.keepIn K (.ref f_Agent_len) = true)
    (a_Agent_getitem : PySem.W.findIn K (.ref c_Agent) "__getitem__" = some (some (.ref f_Agent_getitem)))
    (i_Agent_getitem : PySem.W.isFn K (.ref f_Agent_getitem) = true)
    (l_Agent_getitem : K.lookup f_Agent_getitem = some ⟨oc_Agent_getitem, od_Agent_getitem, .func (PySem.W.fnOf "__getitem__" "Agent.__getitem__" (defArgs s_Agent_getitem) (defBody s_Agent_getitem) (defScope s_Agent_getitem) .none kV_Agent_getitem dc_Agent_getitem pm_Agent_getitem an_Agent_getitem cd_Agent_getitem ct_Agent_getitem), sl_Agent_getitem⟩)
    (e_Agent_getitem : PySem.W.codeIn K cd_Agent_getitem "Agent.__getitem__" = true)
    (p_Agent_getitem : PySem.W.keepIn K (.ref f_Agent_getitem) = true)
    (a_Agent_eq : PySem.W.findIn K (.ref c_Agent) "__eq__" = some (some (.ref f_Agent_eq)))
    (i_Agent_eq : PySem.W.isFn K (.ref f_Agent_eq) = true)
    (l_Agent_eq : K.lookup f_Agent_eq = some ⟨oc_Agent_eq, od_Agent_eq, .func (PySem.W.fnOf "__eq__" "Agent.__eq__" (defArgs s_Agent_eq) (defBody s_Agent_eq) (defScope s_Agent_eq) .none kV_Agent_eq dc_Agent_eq pm_Agent_eq an_Agent_eq cd_Agent_eq ct_Agent_eq), sl_Agent_eq⟩)
    (e_Agent_eq : PySem.W.codeIn K cd_Agent_eq "Agent.__eq__" = true)
    (p_Agent_eq : PySem.W.keepIn K (.ref f_Agent_eq) = true)
    (a_Agent_with_steps : PySem.W.findIn K (.ref c_Agent) "with_steps" = some (some (.ref f_Agent_with_steps)))
    (i_Agent_with_steps : PySem.W.isFn K (.ref f_Agent_with_steps) = true)
    (l_Agent_with_steps : K.lookup f_Agent_with_steps = some ⟨oc_Agent_with_steps, od_Agent_with_steps, .func (PySem.W.fnOf "with_steps" "Agent.with_steps" (defArgs s_Agent_with_steps) (defBody s_Agent_with_steps) (defScope s_Agent_with_steps) .none kV_Agent_with_steps dc_Agent_with_steps pm_Agent_with_steps an_Agent_with_steps cd_Agent_with_steps ct_Agent_with_steps), sl_Agent_with_steps⟩)
    (e_Agent_with_steps : PySem.W.codeIn K cd_Agent_with_steps "Agent.with_steps" = true)
    (p_Agent_with_steps : PySem.W.keepIn K (.ref f_Agent_with_steps) = true)
    (a_Through_init : PySem.W.findIn K (.ref c_Through) "__init__" = some (some (.ref f_Through_init)))
    (i_Through_init : PySem.W.isFn K (.ref f_Through_init) = true)
    (l_Through_init : K.lookup f_Through_init = some ⟨oc_Through_init, od_Through_init, .func (PySem.W.fnOf "__init__" "Through.__init__" (defArgs s_Through_init) (defBody s_Through_init) (defScope s_Through_init) .none kV_Through_init dc_Through_init pm_Through_init an_Through_init cd_Through_init ct_Through_init), sl_Through_init⟩)
    (e_Through_init : PySem.W.codeIn K cd_Through_init "Through.__init__" = true)
    (p_Through_init : PySem.W.keepIn K (.ref f_Through_init) = true)
    (a_Through_made : PySem.W.findCls K (.ref c_Through) (.type "type") "made" = some (.get (.builtin "classmethod.__get__") (.ref cm_Through_made) .none (.ref c_Through)))
    (i_Through_made : PySem.W.recIn K cm_Through_made "classmethod" = some (.ref f_Through_made :: rs_Through_made))
    (j_Through_made : PySem.W.fnIn K f_Through_made = true)
    (l_Through_made : K.lookup f_Through_made = some ⟨oc_Through_made, od_Through_made, .func (PySem.W.fnOf "made" "Through.made" (defArgs s_Through_made) (defBody s_Through_made) (defScope s_Through_made) .none kV_Through_made dc_Through_made pm_Through_made an_Through_made cd_Through_made ct_Through_made), sl_Through_made⟩)
    (e_Through_made : PySem.W.codeIn K cd_Through_made "Through.made" = true)
    (p_Through_made : PySem.W.keepIn K (.ref f_Through_made) = true)
    (a_Through_len : PySem.W.findIn K (.ref c_Through) "__len__" = some (some (.ref f_Through_len)))
    (i_Through_len : PySem.W.isFn K (.ref f_Through_len) = true)
    (l_Through_len : K.lookup f_Through_len = some ⟨oc_Through_len, od_Through_len, .func (PySem.W.fnOf "__len__" "Through.__len__" (defArgs s_Through_len) (defBody s_Through_len) (defScope s_Through_len) .none kV_Through_len dc_Through_len pm_Through_len an_Through_len cd_Through_len ct_Through_len), sl_Through_len⟩)
    (e_Through_len : PySem.W.codeIn K cd_Through_len "Through.__len__" = true)
    (p_Through_len : PySem.W.keepIn K (.ref f_Through_len) = true)
    (a_Through_getitem : PySem.W.findIn K (.ref c_Through) "__getitem__" = some (some (.ref f_Through_getitem)))
    (i_Through_getitem : PySem.W.isFn K (.ref f_Through_getitem) = true)
    (l_Through_getitem : K.lookup f_Through_getitem = some ⟨oc_Through_getitem, od_Through_getitem, .func (PySem.W.fnOf "__getitem__" "Through.__getitem__" (defArgs s_Through_getitem) (defBody s_Through_getitem) (defScope s_Through_getitem) .none kV_Through_getitem dc_Through_getitem pm_Through_getitem an_Through_getitem cd_Through_getitem ct_Through_getitem), sl_Through_getitem⟩)
    (e_Through_getitem : PySem.W.codeIn K cd_Through_getitem "Through.__getitem__" = true)
    (p_Through_getitem : PySem.W.keepIn K (.ref f_Through_getitem) = true)
    (a_Through_eq : PySem.W.findIn K (.ref c_Through) "__eq__" = some (some (.ref f_Through_eq)))
    (i_Through_eq : PySem.W.isFn K (.ref f_Through_eq) = true)
    (l_Through_eq : K.lookup f_Through_eq = some ⟨oc_Through_eq, od_Through_eq, .func (PySem.W.fnOf "__eq__" "Through.__eq__" (defArgs s_Through_eq) (defBody s_Through_eq) (defScope s_Through_eq) .none kV_Through_eq dc_Through_eq pm_Through_eq an_Through_eq cd_Through_eq ct_Through_eq), sl_Through_eq⟩)
    (e_Through_eq : PySem.W.codeIn K cd_Through_eq "Through.__eq__" = true)
    (p_Through_eq : PySem.W.keepIn K (.ref f_Through_eq) = true)
    (a_Through_with_steps : PySem.W.findIn K (.ref c_Through) "with_steps" = some (some (.ref f_Through_with_steps)))
    (i_Through_with_steps : PySem.W.isFn K (.ref f_Through_with_steps) = true)
    (l_Through_with_steps : K.lookup f_Through_with_steps = some ⟨oc_Through_with_steps, od_Through_with_steps, .func (PySem.W.fnOf "with_steps" "Through.with_steps" (defArgs s_Through_with_steps) (defBody s_Through_with_steps) (defScope s_Through_with_steps) .none kV_Through_with_steps dc_Through_with_steps pm_Through_with_steps an_Through_with_steps cd_Through_with_steps ct_Through_with_steps), sl_Through_with_steps⟩)
    (e_Through_with_steps : PySem.W.codeIn K cd_Through_with_steps "Through.with_steps" = true)
    (p_Through_with_steps : PySem.W.keepIn K (.ref f_Through_with_steps) = true)
    (a_Back_init : PySem.W.findIn K (.ref c_Back) "__init__" = some (some (.ref f_Back_init)))
    (i_Back_init : PySem.W.isFn K (.ref f_Back_init) = true)
    (l_Back_init : K.lookup f_Back_init = some ⟨oc_Back_init, od_Back_init, .func (PySem.W.fnOf "__init__" "Back.__init__" (defArgs s_Back_init) (defBody s_Back_init) (defScope s_Back_init) .none kV_Back_init dc_Back_init pm_Back_init an_Back_init cd_Back_init ct_Back_init), sl_Back_init⟩)
    (e_Back_init : PySem.W.codeIn K cd_Back_init "Back.__init__" = true)
    (p_Back_init : PySem.W.keepIn K (.ref f_Back_init) = true)
    (a_Back_made : PySem.W.findCls K (.ref c_Back) (.type "type") "made" = some (.get (.builtin "classmethod.__get__") (.ref cm_Back_made) .none (.ref c_Back)))
    (i_Back_made : PySem.W.recIn K cm_Back_made "classmethod" = some (.ref f_Back_made :: rs_Back_made))
    (j_Back_made : PySem.W.fnIn K f_Back_made = true)
    (l_Back_made : K.lookup f_Back_made = some ⟨oc_Back_made, od_Back_made, .func (PySem.W.fnOf "made" "Back.made" (defArgs s_Back_made) (defBody s_Back_made) (defScope s_Back_made) .none kV_Back_made dc_Back_made pm_Back_made an_Back_made cd_Back_made ct_Back_made), sl_Back_made⟩)
    (e_Back_made : PySem.W.codeIn K cd_Back_made "Back.made" = true)
    (p_Back_made : PySem.W.keepIn K (.ref f_Back_made) = true)
    (a_Back_len : PySem.W.findIn K (.ref c_Back) "__len__" = some (some (.ref f_Back_len)))
    (i_Back_len : PySem.W.isFn K (.ref f_Back_len) = true)
    (l_Back_len : K.lookup f_Back_len = some ⟨oc_Back_len, od_Back_len, .func (PySem.W.fnOf "__len__" "Back.__len__" (defArgs s_Back_len) (defBody s_Back_len) (defScope s_Back_len) .none kV_Back_len dc_Back_len pm_Back_len an_Back_len cd_Back_len ct_Back_len), sl_Back_len⟩)
    (e_Back_len : PySem.W.codeIn K cd_Back_len "Back.__len__" = true)
    (p_Back_len : PySem.W.keepIn K (.ref f_Back_len) = true)
    (a_Back_getitem : PySem.W.findIn K (.ref c_Back) "__getitem__" = some (some (.ref f_Back_getitem)))
    (i_Back_getitem : PySem.W.isFn K (.ref f_Back_getitem) = true)
    (l_Back_getitem : K.lookup f_Back_getitem = some ⟨oc_Back_getitem, od_Back_getitem, .func (PySem.W.fnOf "__getitem__" "Back.__getitem__" (defArgs s_Back_getitem) (defBody s_Back_getitem) (defScope s_Back_getitem) .none kV_Back_getitem dc_Back_getitem pm_Back_getitem an_Back_getitem cd_Back_getitem ct_Back_getitem), sl_Back_getitem⟩)
    (e_Back_getitem : PySem.W.codeIn K cd_Back_getitem "Back.__getitem__" = true)
    (p_Back_getitem : PySem.W.keepIn K (.ref f_Back_getitem) = true)
    (a_Back_eq : PySem.W.findIn K (.ref c_Back) "__eq__" = some (some (.ref f_Back_eq)))
    (i_Back_eq : PySem.W.isFn K (.ref f_Back_eq) = true)
    (l_Back_eq : K.lookup f_Back_eq = some ⟨oc_Back_eq, od_Back_eq, .func (PySem.W.fnOf "__eq__" "Back.__eq__" (defArgs s_Back_eq) (defBody s_Back_eq) (defScope s_Back_eq) .none kV_Back_eq dc_Back_eq pm_Back_eq an_Back_eq cd_Back_eq ct_Back_eq), sl_Back_eq⟩)
    (e_Back_eq : PySem.W.codeIn K cd_Back_eq "Back.__eq__" = true)
    (p_Back_eq : PySem.W.keepIn K (.ref f_Back_eq) = true)
    (a_Back_with_steps : PySem.W.findIn K (.ref c_Back) "with_steps" = some (some (.ref f_Back_with_steps)))
    (i_Back_with_steps : PySem.W.isFn K (.ref f_Back_with_steps) = true)
    (l_Back_with_steps : K.lookup f_Back_with_steps = some ⟨oc_Back_with_steps, od_Back_with_steps, .func (PySem.W.fnOf "with_steps" "Back.with_steps" (defArgs s_Back_with_steps) (defBody s_Back_with_steps) (defScope s_Back_with_steps) .none kV_Back_with_steps dc_Back_with_steps pm_Back_with_steps an_Back_with_steps cd_Back_with_steps ct_Back_with_steps), sl_Back_with_steps⟩)
    (e_Back_with_steps : PySem.W.codeIn K cd_Back_with_steps "Back.with_steps" = true)
    (p_Back_with_steps : PySem.W.keepIn K (.ref f_Back_with_steps) = true)
    (a_pen : PySem.W.nsIn K mainGlobals "_law_pen" = some (some (.ref f_pen)))
    (l_pen : K.lookup f_pen = some ⟨oc_pen, od_pen, .func (PySem.W.fnOf "_law_pen" "_law_pen" (defArgs s_pen) (defBody s_pen) (defScope s_pen) .none kV_pen dc_pen pm_pen an_pen cd_pen ct_pen), sl_pen⟩)
    (e_pen : PySem.W.codeIn K cd_pen "_law_pen" = true)
    (p_pen : PySem.W.keepIn K (.ref f_pen) = true)
    (a_draw : PySem.W.nsIn K mainGlobals "_law_draw" = some (some (.ref f_draw)))
    (l_draw : K.lookup f_draw = some ⟨oc_draw, od_draw, .func (PySem.W.fnOf "_law_draw" "_law_draw" (defArgs s_draw) (defBody s_draw) (defScope s_draw) .none kV_draw dc_draw pm_draw an_draw cd_draw ct_draw), sl_draw⟩)
    (e_draw : PySem.W.codeIn K cd_draw "_law_draw" = true)
    (p_draw : PySem.W.keepIn K (.ref f_draw) = true)
    (a_good_step : PySem.W.nsIn K mainGlobals "_law_good_step" = some (some (.ref f_good_step)))
    (l_good_step : K.lookup f_good_step = some ⟨oc_good_step, od_good_step, .func (PySem.W.fnOf "_law_good_step" "_law_good_step" (defArgs s_good_step) (defBody s_good_step) (defScope s_good_step) .none kV_good_step dc_good_step pm_good_step an_good_step cd_good_step ct_good_step), sl_good_step⟩)
    (e_good_step : PySem.W.codeIn K cd_good_step "_law_good_step" = true)
    (p_good_step : PySem.W.keepIn K (.ref f_good_step) = true)
    (a_made : PySem.W.nsIn K mainGlobals "_law_made" = some (some (.ref f_made)))
    (l_made : K.lookup f_made = some ⟨oc_made, od_made, .func (PySem.W.fnOf "_law_made" "_law_made" (defArgs s_made) (defBody s_made) (defScope s_made) .none kV_made dc_made pm_made an_made cd_made ct_made), sl_made⟩)
    (e_made : PySem.W.codeIn K cd_made "_law_made" = true)
    (p_made : PySem.W.keepIn K (.ref f_made) = true)
    (a_has : PySem.W.nsIn K mainGlobals "_law_has" = some (some (.ref f_has)))
    (l_has : K.lookup f_has = some ⟨oc_has, od_has, .func (PySem.W.fnOf "_law_has" "_law_has" (defArgs s_has) (defBody s_has) (defScope s_has) .none kV_has dc_has pm_has an_has cd_has ct_has), sl_has⟩)
    (e_has : PySem.W.codeIn K cd_has "_law_has" = true)
    (p_has : PySem.W.keepIn K (.ref f_has) = true)
    (a_other_kind : PySem.W.nsIn K mainGlobals "_law_other_kind" = some (some (.ref f_other_kind)))
    (l_other_kind : K.lookup f_other_kind = some ⟨oc_other_kind, od_other_kind, .func (PySem.W.fnOf "_law_other_kind" "_law_other_kind" (defArgs s_other_kind) (defBody s_other_kind) (defScope s_other_kind) .none kV_other_kind dc_other_kind pm_other_kind an_other_kind cd_other_kind ct_other_kind), sl_other_kind⟩)
    (e_other_kind : PySem.W.codeIn K cd_other_kind "_law_other_kind" = true)
    (p_other_kind : PySem.W.keepIn K (.ref f_other_kind) = true)
    (a_bent : PySem.W.nsIn K mainGlobals "_law_bent" = some (some (.ref f_bent)))
    (l_bent : K.lookup f_bent = some ⟨oc_bent, od_bent, .func (PySem.W.fnOf "_law_bent" "_law_bent" (defArgs s_bent) (defBody s_bent) (defScope s_bent) .none kV_bent dc_bent pm_bent an_bent cd_bent ct_bent), sl_bent⟩)
    (e_bent : PySem.W.codeIn K cd_bent "_law_bent" = true)
    (p_bent : PySem.W.keepIn K (.ref f_bent) = true)
    (a_round : PySem.W.nsIn K mainGlobals "_law_round" = some (some (.ref f_round)))
    (l_round : K.lookup f_round = some ⟨oc_round, od_round, .func (PySem.W.fnOf "_law_round" "_law_round" (defArgs s_round) (defBody s_round) (defScope s_round) .none kV_round dc_round pm_round an_round cd_round ct_round), sl_round⟩)
    (e_round : PySem.W.codeIn K cd_round "_law_round" = true)
    (p_round : PySem.W.keepIn K (.ref f_round) = true)
    (a_law : PySem.W.nsIn K mainGlobals "law" = some (some (.ref f_law)))
    (l_law : K.lookup f_law = some ⟨oc_law, od_law, .func (PySem.W.fnOf "law" "law" (defArgs s_law) (defBody s_law) (defScope s_law) .none kV_law dc_law pm_law an_law cd_law ct_law), sl_law⟩)
    (e_law : PySem.W.codeIn K cd_law "law" = true)
    (p_law : PySem.W.keepIn K (.ref f_law) = true)
    (k_LETTERS : PySem.W.nsIn K mainGlobals "LETTERS" = some (some (.str "abcdefghijklmnopqrstuvwxyz" t_LETTERS)))
    (k_LONGEST_NAME : PySem.W.nsIn K mainGlobals "LONGEST_NAME" = some (some (.int 8 t_LONGEST_NAME)))
    (k_ACCESS_WORDS : PySem.W.nsIn K mainGlobals "ACCESS_WORDS" = some (some (.ref t_ACCESS_WORDS)))
    (lk_ACCESS_WORDS : K.lookup t_ACCESS_WORDS = some o_ACCESS_WORDS) (oc_ACCESS_WORDS : o_ACCESS_WORDS.cls = .type "tuple") (od_ACCESS_WORDS : o_ACCESS_WORDS.data = .seq its_ACCESS_WORDS n_ACCESS_WORDS) (oz_ACCESS_WORDS : its_ACCESS_WORDS.size ≤ sizeLine) (ov_ACCESS_WORDS : Vals [V.str "read", V.str "write", V.str "get", V.str "put"] its_ACCESS_WORDS.toList)
    (k_UPKEEP_WORDS : PySem.W.nsIn K mainGlobals "UPKEEP_WORDS" = some (some (.ref t_UPKEEP_WORDS)))
    (lk_UPKEEP_WORDS : K.lookup t_UPKEEP_WORDS = some o_UPKEEP_WORDS) (oc_UPKEEP_WORDS : o_UPKEEP_WORDS.cls = .type "tuple") (od_UPKEEP_WORDS : o_UPKEEP_WORDS.data = .seq its_UPKEEP_WORDS n_UPKEEP_WORDS) (oz_UPKEEP_WORDS : its_UPKEEP_WORDS.size ≤ sizeLine) (ov_UPKEEP_WORDS : Vals [V.str "clean", V.str "drop", V.str "flush"] its_UPKEEP_WORDS.toList)
    (k_SIGNAL_WORDS : PySem.W.nsIn K mainGlobals "SIGNAL_WORDS" = some (some (.ref t_SIGNAL_WORDS)))
    (lk_SIGNAL_WORDS : K.lookup t_SIGNAL_WORDS = some o_SIGNAL_WORDS) (oc_SIGNAL_WORDS : o_SIGNAL_WORDS.cls = .type "tuple") (od_SIGNAL_WORDS : o_SIGNAL_WORDS.data = .seq its_SIGNAL_WORDS n_SIGNAL_WORDS) (oz_SIGNAL_WORDS : its_SIGNAL_WORDS.size ≤ sizeLine) (ov_SIGNAL_WORDS : Vals [V.str "post", V.str "wait"] its_SIGNAL_WORDS.toList)
    (k_PLAIN_WORDS : PySem.W.nsIn K mainGlobals "PLAIN_WORDS" = some (some (.ref t_PLAIN_WORDS)))
    (lk_PLAIN_WORDS : K.lookup t_PLAIN_WORDS = some o_PLAIN_WORDS) (oc_PLAIN_WORDS : o_PLAIN_WORDS.cls = .type "tuple") (od_PLAIN_WORDS : o_PLAIN_WORDS.data = .seq its_PLAIN_WORDS n_PLAIN_WORDS) (oz_PLAIN_WORDS : its_PLAIN_WORDS.size ≤ sizeLine) (ov_PLAIN_WORDS : Vals [V.str "read", V.str "write", V.str "post", V.str "wait"] its_PLAIN_WORDS.toList)
    (k_CACHE_WORDS : PySem.W.nsIn K mainGlobals "CACHE_WORDS" = some (some (.ref t_CACHE_WORDS)))
    (lk_CACHE_WORDS : K.lookup t_CACHE_WORDS = some o_CACHE_WORDS) (oc_CACHE_WORDS : o_CACHE_WORDS.cls = .type "tuple") (od_CACHE_WORDS : o_CACHE_WORDS.data = .seq its_CACHE_WORDS n_CACHE_WORDS) (oz_CACHE_WORDS : its_CACHE_WORDS.size ≤ sizeLine) (ov_CACHE_WORDS : Vals [V.str "read", V.str "write", V.str "get", V.str "put", V.str "clean", V.str "drop", V.str "flush", V.str "post", V.str "wait"] its_CACHE_WORDS.toList)
    (k_GREATEST_SHIFT : PySem.W.nsIn K mainGlobals "GREATEST_SHIFT" = some (some (.int 3 t_GREATEST_SHIFT)))
    (k_GREATEST_BYTE : PySem.W.nsIn K mainGlobals "GREATEST_BYTE" = some (some (.int 7 t_GREATEST_BYTE)))
    (k_MOST_STEPS : PySem.W.nsIn K mainGlobals "MOST_STEPS" = some (some (.int 24 t_MOST_STEPS)))
    (fg_Agent : PySem.W.fnIn K f_Agent_getitem = true)
    (fg_Through : PySem.W.fnIn K f_Through_getitem = true)
    (fg_Back : PySem.W.fnIn K f_Back_getitem = true) :
    ∃ A : Adr, Txt K mg A :=
  ⟨{ a_is_integer := f_is_integer,
     d_is_integer := PySem.W.fnOf "is_integer" "is_integer" (defArgs s_is_integer) (defBody s_is_integer) (defScope s_is_integer) .none kV_is_integer dc_is_integer pm_is_integer an_is_integer cd_is_integer ct_is_integer,
     a_is_within := f_is_within,
     d_is_within := PySem.W.fnOf "is_within" "is_within" (defArgs s_is_within) (defBody s_is_within) (defScope s_is_within) .none kV_is_within dc_is_within pm_is_within an_is_within cd_is_within ct_is_within,
     a_is_name := f_is_name,
     d_is_name := PySem.W.fnOf "is_name" "is_name" (defArgs s_is_name) (defBody s_is_name) (defScope s_is_name) .none kV_is_name dc_is_name pm_is_name an_is_name cd_is_name ct_is_name,
     a_is_step := f_is_step,
     d_is_step := PySem.W.fnOf "is_step" "is_step" (defArgs s_is_step) (defBody s_is_step) (defScope s_is_step) .none kV_is_step dc_is_step pm_is_step an_is_step cd_is_step ct_is_step,
     a_is_memory_step := f_is_memory_step,
     d_is_memory_step := PySem.W.fnOf "_is_memory_step" "_is_memory_step" (defArgs s_is_memory_step) (defBody s_is_memory_step) (defScope s_is_memory_step) .none kV_is_memory_step dc_is_memory_step pm_is_memory_step an_is_memory_step cd_is_memory_step ct_is_memory_step,
     a_check_agent := f_check_agent,
     d_check_agent := PySem.W.fnOf "_check_agent" "_check_agent" (defArgs s_check_agent) (defBody s_check_agent) (defScope s_check_agent) .none kV_check_agent dc_check_agent pm_check_agent an_check_agent cd_check_agent ct_check_agent,
     a_Agent_init := f_Agent_init,
     d_Agent_init := PySem.W.fnOf "__init__" "Agent.__init__" (defArgs s_Agent_init) (defBody s_Agent_init) (defScope s_Agent_init) .none kV_Agent_init dc_Agent_init pm_Agent_init an_Agent_init cd_Agent_init ct_Agent_init,
     a_Agent_made := f_Agent_made,
     d_Agent_made := PySem.W.fnOf "made" "Agent.made" (defArgs s_Agent_made) (defBody s_Agent_made) (defScope s_Agent_made) .none kV_Agent_made dc_Agent_made pm_Agent_made an_Agent_made cd_Agent_made ct_Agent_made,
     a_Agent_len := f_Agent_len,
     d_Agent_len := PySem.W.fnOf "__len__" "Agent.__len__" (defArgs s_Agent_len) (defBody s_Agent_len) (defScope s_Agent_len) .none kV_Agent_len dc_Agent_len pm_Agent_len an_Agent_len cd_Agent_len ct_Agent_len,
     a_Agent_getitem := f_Agent_getitem,
     d_Agent_getitem := PySem.W.fnOf "__getitem__" "Agent.__getitem__" (defArgs s_Agent_getitem) (defBody s_Agent_getitem) (defScope s_Agent_getitem) .none kV_Agent_getitem dc_Agent_getitem pm_Agent_getitem an_Agent_getitem cd_Agent_getitem ct_Agent_getitem,
     a_Agent_eq := f_Agent_eq,
     d_Agent_eq := PySem.W.fnOf "__eq__" "Agent.__eq__" (defArgs s_Agent_eq) (defBody s_Agent_eq) (defScope s_Agent_eq) .none kV_Agent_eq dc_Agent_eq pm_Agent_eq an_Agent_eq cd_Agent_eq ct_Agent_eq,
     a_Agent_with_steps := f_Agent_with_steps,
     d_Agent_with_steps := PySem.W.fnOf "with_steps" "Agent.with_steps" (defArgs s_Agent_with_steps) (defBody s_Agent_with_steps) (defScope s_Agent_with_steps) .none kV_Agent_with_steps dc_Agent_with_steps pm_Agent_with_steps an_Agent_with_steps cd_Agent_with_steps ct_Agent_with_steps,
     a_Through_init := f_Through_init,
     d_Through_init := PySem.W.fnOf "__init__" "Through.__init__" (defArgs s_Through_init) (defBody s_Through_init) (defScope s_Through_init) .none kV_Through_init dc_Through_init pm_Through_init an_Through_init cd_Through_init ct_Through_init,
     a_Through_made := f_Through_made,
     d_Through_made := PySem.W.fnOf "made" "Through.made" (defArgs s_Through_made) (defBody s_Through_made) (defScope s_Through_made) .none kV_Through_made dc_Through_made pm_Through_made an_Through_made cd_Through_made ct_Through_made,
     a_Through_len := f_Through_len,
     d_Through_len := PySem.W.fnOf "__len__" "Through.__len__" (defArgs s_Through_len) (defBody s_Through_len) (defScope s_Through_len) .none kV_Through_len dc_Through_len pm_Through_len an_Through_len cd_Through_len ct_Through_len,
     a_Through_getitem := f_Through_getitem,
     d_Through_getitem := PySem.W.fnOf "__getitem__" "Through.__getitem__" (defArgs s_Through_getitem) (defBody s_Through_getitem) (defScope s_Through_getitem) .none kV_Through_getitem dc_Through_getitem pm_Through_getitem an_Through_getitem cd_Through_getitem ct_Through_getitem,
     a_Through_eq := f_Through_eq,
     d_Through_eq := PySem.W.fnOf "__eq__" "Through.__eq__" (defArgs s_Through_eq) (defBody s_Through_eq) (defScope s_Through_eq) .none kV_Through_eq dc_Through_eq pm_Through_eq an_Through_eq cd_Through_eq ct_Through_eq,
     a_Through_with_steps := f_Through_with_steps,
     d_Through_with_steps := PySem.W.fnOf "with_steps" "Through.with_steps" (defArgs s_Through_with_steps) (defBody s_Through_with_steps) (defScope s_Through_with_steps) .none kV_Through_with_steps dc_Through_with_steps pm_Through_with_steps an_Through_with_steps cd_Through_with_steps ct_Through_with_steps,
     a_Back_init := f_Back_init,
     d_Back_init := PySem.W.fnOf "__init__" "Back.__init__" (defArgs s_Back_init) (defBody s_Back_init) (defScope s_Back_init) .none kV_Back_init dc_Back_init pm_Back_init an_Back_init cd_Back_init ct_Back_init,
     a_Back_made := f_Back_made,
     d_Back_made := PySem.W.fnOf "made" "Back.made" (defArgs s_Back_made) (defBody s_Back_made) (defScope s_Back_made) .none kV_Back_made dc_Back_made pm_Back_made an_Back_made cd_Back_made ct_Back_made,
     a_Back_len := f_Back_len,
     d_Back_len := PySem.W.fnOf "__len__" "Back.__len__" (defArgs s_Back_len) (defBody s_Back_len) (defScope s_Back_len) .none kV_Back_len dc_Back_len pm_Back_len an_Back_len cd_Back_len ct_Back_len,
     a_Back_getitem := f_Back_getitem,
     d_Back_getitem := PySem.W.fnOf "__getitem__" "Back.__getitem__" (defArgs s_Back_getitem) (defBody s_Back_getitem) (defScope s_Back_getitem) .none kV_Back_getitem dc_Back_getitem pm_Back_getitem an_Back_getitem cd_Back_getitem ct_Back_getitem,
     a_Back_eq := f_Back_eq,
     d_Back_eq := PySem.W.fnOf "__eq__" "Back.__eq__" (defArgs s_Back_eq) (defBody s_Back_eq) (defScope s_Back_eq) .none kV_Back_eq dc_Back_eq pm_Back_eq an_Back_eq cd_Back_eq ct_Back_eq,
     a_Back_with_steps := f_Back_with_steps,
     d_Back_with_steps := PySem.W.fnOf "with_steps" "Back.with_steps" (defArgs s_Back_with_steps) (defBody s_Back_with_steps) (defScope s_Back_with_steps) .none kV_Back_with_steps dc_Back_with_steps pm_Back_with_steps an_Back_with_steps cd_Back_with_steps ct_Back_with_steps,
     a_pen := f_pen,
     d_pen := PySem.W.fnOf "_law_pen" "_law_pen" (defArgs s_pen) (defBody s_pen) (defScope s_pen) .none kV_pen dc_pen pm_pen an_pen cd_pen ct_pen,
     a_draw := f_draw,
     d_draw := PySem.W.fnOf "_law_draw" "_law_draw" (defArgs s_draw) (defBody s_draw) (defScope s_draw) .none kV_draw dc_draw pm_draw an_draw cd_draw ct_draw,
     a_good_step := f_good_step,
     d_good_step := PySem.W.fnOf "_law_good_step" "_law_good_step" (defArgs s_good_step) (defBody s_good_step) (defScope s_good_step) .none kV_good_step dc_good_step pm_good_step an_good_step cd_good_step ct_good_step,
     a_made := f_made,
     d_made := PySem.W.fnOf "_law_made" "_law_made" (defArgs s_made) (defBody s_made) (defScope s_made) .none kV_made dc_made pm_made an_made cd_made ct_made,
     a_has := f_has,
     d_has := PySem.W.fnOf "_law_has" "_law_has" (defArgs s_has) (defBody s_has) (defScope s_has) .none kV_has dc_has pm_has an_has cd_has ct_has,
     a_other_kind := f_other_kind,
     d_other_kind := PySem.W.fnOf "_law_other_kind" "_law_other_kind" (defArgs s_other_kind) (defBody s_other_kind) (defScope s_other_kind) .none kV_other_kind dc_other_kind pm_other_kind an_other_kind cd_other_kind ct_other_kind,
     a_bent := f_bent,
     d_bent := PySem.W.fnOf "_law_bent" "_law_bent" (defArgs s_bent) (defBody s_bent) (defScope s_bent) .none kV_bent dc_bent pm_bent an_bent cd_bent ct_bent,
     a_round := f_round,
     d_round := PySem.W.fnOf "_law_round" "_law_round" (defArgs s_round) (defBody s_round) (defScope s_round) .none kV_round dc_round pm_round an_round cd_round ct_round,
     a_law := f_law,
     d_law := PySem.W.fnOf "law" "law" (defArgs s_law) (defBody s_law) (defScope s_law) .none kV_law dc_law pm_law an_law cd_law ct_law,
     c_Agent := c_Agent,
     c_Through := c_Through,
     c_Back := c_Back,
     t_LETTERS := t_LETTERS,
     t_LONGEST_NAME := t_LONGEST_NAME,
     t_ACCESS_WORDS := t_ACCESS_WORDS,
     t_UPKEEP_WORDS := t_UPKEEP_WORDS,
     t_SIGNAL_WORDS := t_SIGNAL_WORDS,
     t_PLAIN_WORDS := t_PLAIN_WORDS,
     t_CACHE_WORDS := t_CACHE_WORDS,
     t_GREATEST_SHIFT := t_GREATEST_SHIFT,
     t_GREATEST_BYTE := t_GREATEST_BYTE,
     t_MOST_STEPS := t_MOST_STEPS },
   { n_list := PySem.W.mg_none_of X G n_list,
     n_int := PySem.W.mg_none_of X G n_int,
     n_len := PySem.W.mg_none_of X G n_len,
     n_abs := PySem.W.mg_none_of X G n_abs,
     n_isinstance := PySem.W.mg_none_of X G n_isinstance,
     n_str := PySem.W.mg_none_of X G n_str,
     n_bool := PySem.W.mg_none_of X G n_bool,
     n_tuple := PySem.W.mg_none_of X G n_tuple,
     n_all := PySem.W.mg_none_of X G n_all,
     n_enumerate := PySem.W.mg_none_of X G n_enumerate,
     n_range := PySem.W.mg_none_of X G n_range,
     F_is_integer := fun_mk (st := s_is_integer) l_is_integer e_is_integer p_is_integer,
     g_is_integer := PySem.W.mg_of X G a_is_integer,
     b_is_integer := (fun_mk (st := s_is_integer) l_is_integer e_is_integer p_is_integer).binds (ps := ["value"]) fun _ _ _ _ _ _ us hl => match us, hl with | [_], _ => rfl,
     F_is_within := fun_mk (st := s_is_within) l_is_within e_is_within p_is_within,
     g_is_within := PySem.W.mg_of X G a_is_within,
     b_is_within := (fun_mk (st := s_is_within) l_is_within e_is_within p_is_within).binds (ps := ["value", "low", "high"]) fun _ _ _ _ _ _ us hl => match us, hl with | [_, _, _], _ => rfl,
     F_is_name := fun_mk (st := s_is_name) l_is_name e_is_name p_is_name,
     g_is_name := PySem.W.mg_of X G a_is_name,
     b_is_name := (fun_mk (st := s_is_name) l_is_name e_is_name p_is_name).binds (ps := ["value"]) fun _ _ _ _ _ _ us hl => match us, hl with | [_], _ => rfl,
     F_is_step := fun_mk (st := s_is_step) l_is_step e_is_step p_is_step,
     g_is_step := PySem.W.mg_of X G a_is_step,
     b_is_step := (fun_mk (st := s_is_step) l_is_step e_is_step p_is_step).binds (ps := ["value"]) fun _ _ _ _ _ _ us hl => match us, hl with | [_], _ => rfl,
     F_is_memory_step := fun_mk (st := s_is_memory_step) l_is_memory_step e_is_memory_step p_is_memory_step,
     g_is_memory_step := PySem.W.mg_of X G a_is_memory_step,
     b_is_memory_step := (fun_mk (st := s_is_memory_step) l_is_memory_step e_is_memory_step p_is_memory_step).binds (ps := ["value"]) fun _ _ _ _ _ _ us hl => match us, hl with | [_], _ => rfl,
     F_check_agent := fun_mk (st := s_check_agent) l_check_agent e_check_agent p_check_agent,
     g_check_agent := PySem.W.mg_of X G a_check_agent,
     b_check_agent := (fun_mk (st := s_check_agent) l_check_agent e_check_agent p_check_agent).binds (ps := ["name", "steps", "words"]) fun _ _ _ _ _ _ us hl => match us, hl with | [_, _, _], _ => rfl,
     F_Agent_init := fun_mk (st := s_Agent_init) l_Agent_init e_Agent_init p_Agent_init,
     cm_Agent_made := ⟨cm_Agent_made, a_Agent_made, ⟨_, i_Agent_made⟩, j_Agent_made⟩,
     F_Agent_made := fun_mk (st := s_Agent_made) l_Agent_made e_Agent_made p_Agent_made,
     b_Agent_made := (fun_mk (st := s_Agent_made) l_Agent_made e_Agent_made p_Agent_made).binds (ps := ["cls", "name", "steps"]) fun _ _ _ _ _ _ us hl => match us, hl with | [_, _, _], _ => rfl,
     fi_Agent_len := a_Agent_len,
     fo_Agent_len := i_Agent_len,
     F_Agent_len := fun_mk (st := s_Agent_len) l_Agent_len e_Agent_len p_Agent_len,
     b_Agent_len := (fun_mk (st := s_Agent_len) l_Agent_len e_Agent_len p_Agent_len).binds (ps := ["self"]) fun _ _ _ _ _ _ us hl => match us, hl with | [_], _ => rfl,
     fi_Agent_getitem := a_Agent_getitem,
     fo_Agent_getitem := i_Agent_getitem,
     F_Agent_getitem := fun_mk (st := s_Agent_getitem) l_Agent_getitem e_Agent_getitem p_Agent_getitem,
     b_Agent_getitem := (fun_mk (st := s_Agent_getitem) l_Agent_getitem e_Agent_getitem p_Agent_getitem).binds (ps := ["self", "at"]) fun _ _ _ _ _ _ us hl => match us, hl with | [_, _], _ => rfl,
     fi_Agent_eq := a_Agent_eq,
     fo_Agent_eq := i_Agent_eq,
     F_Agent_eq := fun_mk (st := s_Agent_eq) l_Agent_eq e_Agent_eq p_Agent_eq,
     b_Agent_eq := (fun_mk (st := s_Agent_eq) l_Agent_eq e_Agent_eq p_Agent_eq).binds (ps := ["self", "other"]) fun _ _ _ _ _ _ us hl => match us, hl with | [_, _], _ => rfl,
     F_Agent_with_steps := fun_mk (st := s_Agent_with_steps) l_Agent_with_steps e_Agent_with_steps p_Agent_with_steps,
     F_Through_init := fun_mk (st := s_Through_init) l_Through_init e_Through_init p_Through_init,
     cm_Through_made := ⟨cm_Through_made, a_Through_made, ⟨_, i_Through_made⟩, j_Through_made⟩,
     F_Through_made := fun_mk (st := s_Through_made) l_Through_made e_Through_made p_Through_made,
     b_Through_made := (fun_mk (st := s_Through_made) l_Through_made e_Through_made p_Through_made).binds (ps := ["cls", "name", "steps"]) fun _ _ _ _ _ _ us hl => match us, hl with | [_, _, _], _ => rfl,
     fi_Through_len := a_Through_len,
     fo_Through_len := i_Through_len,
     F_Through_len := fun_mk (st := s_Through_len) l_Through_len e_Through_len p_Through_len,
     b_Through_len := (fun_mk (st := s_Through_len) l_Through_len e_Through_len p_Through_len).binds (ps := ["self"]) fun _ _ _ _ _ _ us hl => match us, hl with | [_], _ => rfl,
     fi_Through_getitem := a_Through_getitem,
     fo_Through_getitem := i_Through_getitem,
     F_Through_getitem := fun_mk (st := s_Through_getitem) l_Through_getitem e_Through_getitem p_Through_getitem,
     b_Through_getitem := (fun_mk (st := s_Through_getitem) l_Through_getitem e_Through_getitem p_Through_getitem).binds (ps := ["self", "at"]) fun _ _ _ _ _ _ us hl => match us, hl with | [_, _], _ => rfl,
     fi_Through_eq := a_Through_eq,
     fo_Through_eq := i_Through_eq,
     F_Through_eq := fun_mk (st := s_Through_eq) l_Through_eq e_Through_eq p_Through_eq,
     b_Through_eq := (fun_mk (st := s_Through_eq) l_Through_eq e_Through_eq p_Through_eq).binds (ps := ["self", "other"]) fun _ _ _ _ _ _ us hl => match us, hl with | [_, _], _ => rfl,
     F_Through_with_steps := fun_mk (st := s_Through_with_steps) l_Through_with_steps e_Through_with_steps p_Through_with_steps,
     F_Back_init := fun_mk (st := s_Back_init) l_Back_init e_Back_init p_Back_init,
     cm_Back_made := ⟨cm_Back_made, a_Back_made, ⟨_, i_Back_made⟩, j_Back_made⟩,
     F_Back_made := fun_mk (st := s_Back_made) l_Back_made e_Back_made p_Back_made,
     b_Back_made := (fun_mk (st := s_Back_made) l_Back_made e_Back_made p_Back_made).binds (ps := ["cls", "name", "steps"]) fun _ _ _ _ _ _ us hl => match us, hl with | [_, _, _], _ => rfl,
     fi_Back_len := a_Back_len,
     fo_Back_len := i_Back_len,
     F_Back_len := fun_mk (st := s_Back_len) l_Back_len e_Back_len p_Back_len,
     b_Back_len := (fun_mk (st := s_Back_len) l_Back_len e_Back_len p_Back_len).binds (ps := ["self"]) fun _ _ _ _ _ _ us hl => match us, hl with | [_], _ => rfl,
     fi_Back_getitem := a_Back_getitem,
     fo_Back_getitem := i_Back_getitem,
     F_Back_getitem := fun_mk (st := s_Back_getitem) l_Back_getitem e_Back_getitem p_Back_getitem,
     b_Back_getitem := (fun_mk (st := s_Back_getitem) l_Back_getitem e_Back_getitem p_Back_getitem).binds (ps := ["self", "at"]) fun _ _ _ _ _ _ us hl => match us, hl with | [_, _], _ => rfl,
     fi_Back_eq := a_Back_eq,
     fo_Back_eq := i_Back_eq,
     F_Back_eq := fun_mk (st := s_Back_eq) l_Back_eq e_Back_eq p_Back_eq,
     b_Back_eq := (fun_mk (st := s_Back_eq) l_Back_eq e_Back_eq p_Back_eq).binds (ps := ["self", "other"]) fun _ _ _ _ _ _ us hl => match us, hl with | [_, _], _ => rfl,
     F_Back_with_steps := fun_mk (st := s_Back_with_steps) l_Back_with_steps e_Back_with_steps p_Back_with_steps,
     F_pen := fun_mk (st := s_pen) l_pen e_pen p_pen,
     g_pen := PySem.W.mg_of X G a_pen,
     b_pen := (fun_mk (st := s_pen) l_pen e_pen p_pen).binds (ps := ["_law_script"]) fun _ _ _ _ _ _ us hl => match us, hl with | [_], _ => rfl,
     F_draw := fun_mk (st := s_draw) l_draw e_draw p_draw,
     g_draw := PySem.W.mg_of X G a_draw,
     b_draw := (fun_mk (st := s_draw) l_draw e_draw p_draw).binds (ps := ["_law_pen_here", "_law_many"]) fun _ _ _ _ _ _ us hl => match us, hl with | [_, _], _ => rfl,
     F_good_step := fun_mk (st := s_good_step) l_good_step e_good_step p_good_step,
     g_good_step := PySem.W.mg_of X G a_good_step,
     b_good_step := (fun_mk (st := s_good_step) l_good_step e_good_step p_good_step).binds (ps := ["_law_pen_here", "_law_kind"]) fun _ _ _ _ _ _ us hl => match us, hl with | [_, _], _ => rfl,
     F_made := fun_mk (st := s_made) l_made e_made p_made,
     g_made := PySem.W.mg_of X G a_made,
     b_made := (fun_mk (st := s_made) l_made e_made p_made).binds (ps := ["_law_kind", "_law_called", "_law_handed"]) fun _ _ _ _ _ _ us hl => match us, hl with | [_, _, _], _ => rfl,
     F_has := fun_mk (st := s_has) l_has e_has p_has,
     g_has := PySem.W.mg_of X G a_has,
     b_has := (fun_mk (st := s_has) l_has e_has p_has).binds (ps := ["_law_agent", "_law_kind", "_law_called", "_law_wanted"]) fun _ _ _ _ _ _ us hl => match us, hl with | [_, _, _, _], _ => rfl,
     F_other_kind := fun_mk (st := s_other_kind) l_other_kind e_other_kind p_other_kind,
     g_other_kind := PySem.W.mg_of X G a_other_kind,
     b_other_kind := (fun_mk (st := s_other_kind) l_other_kind e_other_kind p_other_kind).binds (ps := ["_law_kind", "_law_steps_here"]) fun _ _ _ _ _ _ us hl => match us, hl with | [_, _], _ => rfl,
     F_bent := fun_mk (st := s_bent) l_bent e_bent p_bent,
     g_bent := PySem.W.mg_of X G a_bent,
     b_bent := (fun_mk (st := s_bent) l_bent e_bent p_bent).binds (ps := ["_law_pen_here", "_law_kind", "_law_called", "_law_handed"]) fun _ _ _ _ _ _ us hl => match us, hl with | [_, _, _, _], _ => rfl,
     F_round := fun_mk (st := s_round) l_round e_round p_round,
     g_round := PySem.W.mg_of X G a_round,
     b_round := (fun_mk (st := s_round) l_round e_round p_round).binds (ps := ["_law_pen_here"]) fun _ _ _ _ _ _ us hl => match us, hl with | [_], _ => rfl,
     F_law := fun_mk (st := s_law) l_law e_law p_law,
     g_law := PySem.W.mg_of X G a_law,
     b_law := (fun_mk (st := s_law) l_law e_law p_law).binds (ps := ["_law_script"]) fun _ _ _ _ _ _ us hl => match us, hl with | [_], _ => rfl,
     g_Agent := PySem.W.mg_of X G a_Agent,
     cl_Agent := ⟨pg_Agent, hd_Agent, po_Agent, sa_Agent⟩,
     na_Agent_name := na_Agent_name,
     na_Agent_steps := na_Agent_steps,
     mk_Agent := ⟨mk_Agent, a_Agent_init, i_Agent_init, kc_Agent⟩,
     me_Agent_with_steps := ⟨a_Agent_with_steps, i_Agent_with_steps, p_Agent_with_steps⟩,
     g_Through := PySem.W.mg_of X G a_Through,
     cl_Through := ⟨pg_Through, hd_Through, po_Through, sa_Through⟩,
     na_Through_name := na_Through_name,
     na_Through_steps := na_Through_steps,
     mk_Through := ⟨mk_Through, a_Through_init, i_Through_init, kc_Through⟩,
     me_Through_with_steps := ⟨a_Through_with_steps, i_Through_with_steps, p_Through_with_steps⟩,
     g_Back := PySem.W.mg_of X G a_Back,
     cl_Back := ⟨pg_Back, hd_Back, po_Back, sa_Back⟩,
     na_Back_name := na_Back_name,
     na_Back_steps := na_Back_steps,
     mk_Back := ⟨mk_Back, a_Back_init, i_Back_init, kc_Back⟩,
     me_Back_with_steps := ⟨a_Back_with_steps, i_Back_with_steps, p_Back_with_steps⟩,
     k_LETTERS := PySem.W.mg_of X G k_LETTERS,
     k_LONGEST_NAME := PySem.W.mg_of X G k_LONGEST_NAME,
     k_ACCESS_WORDS := PySem.W.mg_of X G k_ACCESS_WORDS,
     q_ACCESS_WORDS := fun _ => .inr ⟨o_ACCESS_WORDS, its_ACCESS_WORDS, n_ACCESS_WORDS, lk_ACCESS_WORDS, oc_ACCESS_WORDS, od_ACCESS_WORDS, oz_ACCESS_WORDS, ov_ACCESS_WORDS⟩,
     k_UPKEEP_WORDS := PySem.W.mg_of X G k_UPKEEP_WORDS,
     q_UPKEEP_WORDS := fun _ => .inr ⟨o_UPKEEP_WORDS, its_UPKEEP_WORDS, n_UPKEEP_WORDS, lk_UPKEEP_WORDS, oc_UPKEEP_WORDS, od_UPKEEP_WORDS, oz_UPKEEP_WORDS, ov_UPKEEP_WORDS⟩,
     k_SIGNAL_WORDS := PySem.W.mg_of X G k_SIGNAL_WORDS,
     q_SIGNAL_WORDS := fun _ => .inr ⟨o_SIGNAL_WORDS, its_SIGNAL_WORDS, n_SIGNAL_WORDS, lk_SIGNAL_WORDS, oc_SIGNAL_WORDS, od_SIGNAL_WORDS, oz_SIGNAL_WORDS, ov_SIGNAL_WORDS⟩,
     k_PLAIN_WORDS := PySem.W.mg_of X G k_PLAIN_WORDS,
     q_PLAIN_WORDS := fun _ => .inr ⟨o_PLAIN_WORDS, its_PLAIN_WORDS, n_PLAIN_WORDS, lk_PLAIN_WORDS, oc_PLAIN_WORDS, od_PLAIN_WORDS, oz_PLAIN_WORDS, ov_PLAIN_WORDS⟩,
     k_CACHE_WORDS := PySem.W.mg_of X G k_CACHE_WORDS,
     q_CACHE_WORDS := fun _ => .inr ⟨o_CACHE_WORDS, its_CACHE_WORDS, n_CACHE_WORDS, lk_CACHE_WORDS, oc_CACHE_WORDS, od_CACHE_WORDS, oz_CACHE_WORDS, ov_CACHE_WORDS⟩,
     k_GREATEST_SHIFT := PySem.W.mg_of X G k_GREATEST_SHIFT,
     k_GREATEST_BYTE := PySem.W.mg_of X G k_GREATEST_BYTE,
     k_MOST_STEPS := PySem.W.mg_of X G k_MOST_STEPS,
     ag_Agent := ⟨⟨pg_Agent, hd_Agent, po_Agent, sa_Agent⟩, na_Agent_name, na_Agent_steps, ⟨_, co_Agent, ⟨_, rfl⟩, cg_Agent, by decide⟩, fun H a dx fs h => .base (.ins h ⟨pg_Agent, hd_Agent, po_Agent, sa_Agent⟩ ci_Agent gg tk mo_Agent)⟩,
     cr_Agent := ⟨rd_Agent, ga_Agent⟩,
     fg_Agent := fg_Agent,
     ne_Agent := ⟨mo_Agent, ne_Agent⟩,
     sp_NoneType_Agent := sp_NoneType_Agent,
     kp_NoneType_Agent := Lay.kit_prim mo_Agent ty_Agent sp_NoneType_Agent,
     sp_str_Agent := sp_str_Agent,
     kp_str_Agent := Lay.kit_prim mo_Agent ty_Agent sp_str_Agent,
     sp_int_Agent := sp_int_Agent,
     kp_int_Agent := Lay.kit_prim mo_Agent ty_Agent sp_int_Agent,
     sp_tuple_Agent := sp_tuple_Agent,
     kp_tuple_Agent := Lay.kit_prim mo_Agent ty_Agent sp_tuple_Agent,
     ag_Through := ⟨⟨pg_Through, hd_Through, po_Through, sa_Through⟩, na_Through_name, na_Through_steps, ⟨_, co_Through, ⟨_, rfl⟩, cg_Through, by decide⟩, fun H a dx fs h => .base (.ins h ⟨pg_Through, hd_Through, po_Through, sa_Through⟩ ci_Through gg tk mo_Through)⟩,
     cr_Through := ⟨rd_Through, ga_Through⟩,
     fg_Through := fg_Through,
     ne_Through := ⟨mo_Through, ne_Through⟩,
     sp_NoneType_Through := sp_NoneType_Through,
     kp_NoneType_Through := Lay.kit_prim mo_Through ty_Through sp_NoneType_Through,
     sp_str_Through := sp_str_Through,
     kp_str_Through := Lay.kit_prim mo_Through ty_Through sp_str_Through,
     sp_int_Through := sp_int_Through,
     kp_int_Through := Lay.kit_prim mo_Through ty_Through sp_int_Through,
     sp_tuple_Through := sp_tuple_Through,
     kp_tuple_Through := Lay.kit_prim mo_Through ty_Through sp_tuple_Through,
     ag_Back := ⟨⟨pg_Back, hd_Back, po_Back, sa_Back⟩, na_Back_name, na_Back_steps, ⟨_, co_Back, ⟨_, rfl⟩, cg_Back, by decide⟩, fun H a dx fs h => .base (.ins h ⟨pg_Back, hd_Back, po_Back, sa_Back⟩ ci_Back gg tk mo_Back)⟩,
     cr_Back := ⟨rd_Back, ga_Back⟩,
     fg_Back := fg_Back,
     ne_Back := ⟨mo_Back, ne_Back⟩,
     sp_NoneType_Back := sp_NoneType_Back,
     kp_NoneType_Back := Lay.kit_prim mo_Back ty_Back sp_NoneType_Back,
     sp_str_Back := sp_str_Back,
     kp_str_Back := Lay.kit_prim mo_Back ty_Back sp_str_Back,
     sp_int_Back := sp_int_Back,
     kp_int_Back := Lay.kit_prim mo_Back ty_Back sp_int_Back,
     sp_tuple_Back := sp_tuple_Back,
     kp_tuple_Back := Lay.kit_prim mo_Back ty_Back sp_tuple_Back,
     sb_Agent_Agent := ss_Agent,
     ki_Agent_Agent := Lay.kit_own mo_Agent ty_Agent ss_Agent ss_Agent,
     sb_Agent_Through := sb_Agent_Through,
     ki_Agent_Through := Lay.kit_own mo_Through ty_Through ss_Through sb_Agent_Through,
     sb_Agent_Back := sb_Agent_Back,
     ki_Agent_Back := Lay.kit_own mo_Back ty_Back ss_Back sb_Agent_Back,
     sb_Through_Agent := sb_Through_Agent,
     ki_Through_Agent := Lay.kit_own mo_Agent ty_Agent ss_Agent sb_Through_Agent,
     sb_Through_Through := ss_Through,
     ki_Through_Through := Lay.kit_own mo_Through ty_Through ss_Through ss_Through,
     sb_Through_Back := sb_Through_Back,
     ki_Through_Back := Lay.kit_own mo_Back ty_Back ss_Back sb_Through_Back,
     sb_Back_Agent := sb_Back_Agent,
     ki_Back_Agent := Lay.kit_own mo_Agent ty_Agent ss_Agent sb_Back_Agent,
     sb_Back_Through := sb_Back_Through,
     ki_Back_Through := Lay.kit_own mo_Through ty_Through ss_Through sb_Back_Through,
     sb_Back_Back := ss_Back,
     ki_Back_Back := Lay.kit_own mo_Back ty_Back ss_Back ss_Back }⟩
end My

namespace My
open PySem L2
section
variable {P : Program} {w : World} {K : PySem.W.Frag} {mg : Str → Option Value} {base : Heap} {A : Adr}
theorem ok_is_integer (T : Txt K mg A) : FnOk P w K mg base CX0 1 A.a_is_integer A.d_is_integer ["value"] Lay.spIsInteger := by
  refine T.F_is_integer.ok sc_is_integer (fun vs H Q E h => ?_) (fun cdv A0 outer s H vs Q E hr h => ?_)
  · obtain ⟨v, t, rfl, _⟩ := h
    rfl
  · obtain ⟨v, t, rfl, k, q⟩ := h
    refine ⟨_, (pss_one (ps_ret (pe_and (pe_callB call_isi (by rfl) T.n_isinstance (by decide +kernel) (pa_cons (pv 0) (pa_cons (pe_bltn (v := .ty "int") (by rfl) T.n_int (by decide +kernel) rfl) pa_nil))) (pe_one (pe_not (pe_callB call_isi (by rfl) T.n_isinstance (by decide +kernel) (pa_cons (pv 0) (pa_cons (pe_bltn (v := .ty "bool") (by rfl) T.n_bool (by decide +kernel) rfl) pa_nil)))))))), ?_⟩
    walk_at "in"
    cases k
    all_goals
      walk_at "rd"
      refine Lay.rd_isi .int (by first | exact .non | exact .bl _ | exact .int _ | exact .str _ | exact .lst (by assumption) | exact .tup (by assumption) | exact .dK (by assumption)) ?_
      walk_at "rd"
      first
        | exact iteF q
        | (refine iteT ?_
           walk_at "rd"
           refine Lay.rd_isi .bool (by first | exact .bl _ | exact .int _) ?_
           walk_at "rd"
           exact q)
theorem ok_is_within (T : Txt K mg A) (G_is_integer : FnOk P w K mg base CX0 1 A.a_is_integer A.d_is_integer ["value"] Lay.spIsInteger) : FnOk P w K mg base CX0 2 A.a_is_within A.d_is_within ["value", "low", "high"] Lay.spIsWithin := by
  refine T.F_is_within.ok sc_is_within (fun vs H Q E h => ?_) (fun cdv A0 outer s H vs Q E hr h => ?_)
  · obtain ⟨v, t, lo, hi, rfl, _⟩ := h
    rfl
  · obtain ⟨v, t, lo, hi, rfl, k, q⟩ := h
    refine ⟨_, (pss_one (ps_ret (pe_and (pe_call G_is_integer (hr.mono (by decide)) rfl T.g_is_integer T.F_is_integer.kp T.b_is_integer .nil pass0 (pa_cons (pv 0) pa_nil)) (pe_one (pe_chain op_le op_le (pv 1) (pv 0) (pv 2)))))), ?_⟩
    walk_at "in"
    walk_at "rd"
    refine ⟨v, t, rfl, k, ?_⟩
    walk_at "rd"
    cases k with
    | int i =>
      refine iteT ?_
      walk_at "rd"
      refine Lay.ite_d (fun c => ?_) (fun c => ?_)
      · walk_at "rd"
        have e : Lay.within (.int i) lo hi = decide (i ≤ hi) := by show (decide (lo ≤ i) && decide (i ≤ hi)) = _; rw [decide_eq_true c]; rfl
        rw [e] at q
        exact q
      · have e : Lay.within (.int i) lo hi = false := by show (decide (lo ≤ i) && decide (i ≤ hi)) = _; rw [decide_eq_false c]; rfl
        rw [e] at q
        exact q
    | _ => exact iteF q
theorem ok_is_name (T : Txt K mg A) : FnOk P w K mg base CX0 1 A.a_is_name A.d_is_name ["value"] Lay.spIsName := by
  refine T.F_is_name.ok sc_is_name (fun vs H Q E h => ?_) (fun cdv A0 outer s H vs Q E hr h => ?_)
  · obtain ⟨v, t, rfl, _⟩ := h
    rfl
  · obtain ⟨v, t, rfl, k, hz, q⟩ := h
    refine ⟨_, (pss_cons (ps_if (PW.pt (pw_or (pt_not (pt_val (pe_callB call_isi (by rfl) T.n_isinstance (by decide +kernel) (pa_cons (pv 0) (pa_cons (pe_bltn (v := .ty "str") (by rfl) T.n_str (by decide +kernel) rfl) pa_nil))))) (pw_or1 (pt_not (pt_chain op_le op_le pe_int (pe_callB Lay.call_lenStr (by rfl) T.n_len PySem.boot_len (pa_cons (pv 0) pa_nil)) (pe_glob (v := .int 8) rfl T.k_LONGEST_NAME ⟨_, rfl⟩))))))
      (pss_one (ps_ret pe_bl))
      pss_nil)
    (pss_one (ps_ret (pe_callB (cr_all rfl) (by rfl) T.n_all (by decide +kernel) (pa_cons (pe_lc (own := [("sign", 1)]) (g := gName 1) (tt := tYes) rfl sc_is_name.nd (pi_str (pv 0)) (blkOk_by (own := [("sign", 1)]) (N := ["value", "sign"]) (sc := defScope s_is_name) (by decide +kernel)) (fun _ _ _ _ _ => pg_name (i := 1) sc_is_name.nd rfl (Or.inl rfl)) (fun _ _ _ _ _ => pts_nil) (fun _ _ _ _ _ => (pe_cmpR Lay.op_sign (pv 1) (pe_glob (v := .str "abcdefghijklmnopqrstuvwxyz") rfl T.k_LETTERS ⟨_, rfl⟩) rfl))) pa_nil))))), ?_⟩
    walk_at "in"
    by_cases hs : ∃ z, v = .str z
    · obtain ⟨z, rfl⟩ := hs
      have hl := hz z rfl
      walk_at "rd"
      refine Lay.rd_isi .str (.str z) ?_
      walk_at "rd"
      refine iteF ?_
      walk_at "rd"
      refine Lay.rd_lenV hl ?_
      walk_at "rd"
      refine Lay.ite_d (fun c1 => ?_) (fun c1 => ?_)
      · walk_at "rd"
        refine Lay.ite_n (fun c2 => ?_) (fun c2 => ?_)
        · walk_at "rd"
          have e : Lay.isName (.str z) = false := by
            show Lay.nameOk z = false
            unfold Lay.nameOk
            have : ¬ z.length ≤ 8 := by omega
            rw [decide_eq_false this]
            simp
          rw [e] at q
          exact q H (Same.refl H)
        · walk_at "rd"
          intro D hD
          refine Lay.lc_go walk_str (fun i l H' => Same H H' ∧ l = (z.cps.toList.take i).map fun c => V.bl (decide (97 ≤ c) && decide (c ≤ 122))) ⟨Lay.Same.upd hD, rfl⟩ (fun _ _ _ _ _ => trivial) ?_ ?_
          · rintro i l x H1 H2 hi hl hz' ⟨r1, r2⟩ ⟨rfl, c, hc, rfl⟩
            walk_at "rd"
            refine ⟨rfl, ?_⟩
            walk_at "rd"
            refine iteT ?_
            walk_at "rd"
            refine Lay.lc_put hl hz' (by have : z.cps.size = z.length := rfl; omega) ⟨fun b o hb => ?_, ?_⟩
            · by_cases e : b = D
              · rw [e, hD] at hb; cases hb
              · rw [upd_ne e]; exact r1 b o hb
            · have hc' : z.cps.toList[i]? = some c := by simpa using hc
              rw [r2, Lay.take_succ hc', List.map_append, List.map_cons, List.map_nil, ← Lay.in_alphabet c]
              rfl
          · rintro l H1 hl hz' ⟨r1, rfl⟩
            walk_at "rd"
            have el : (z.cps.toList.take z.cps.size).map (fun c => V.bl (decide (97 ≤ c) && decide (c ≤ 122))) = (z.cps.toList.map fun c => decide (97 ≤ c) && decide (c ≤ 122)).map V.bl := by
              rw [List.take_of_length_le (by simp), List.map_map]
              rfl
            rw [el] at hl
            refine Lay.rd_alls (SqL.of hl) ?_
            have e : Lay.isName (.str z) = (z.cps.toList.map fun c => decide (97 ≤ c) && decide (c ≤ 122)).all id := by
              show Lay.nameOk z = _
              unfold Lay.nameOk
              have c1' : 1 ≤ z.length := by omega
              have c2' : z.length ≤ 8 := by omega
              rw [decide_eq_true c1', decide_eq_true c2', List.all_map]
              rfl
            rw [← e]
            exact q H1 r1
      · walk_at "rd"
        refine iteT ?_
        walk_at "rd"
        have e : Lay.isName (.str z) = false := by
          show Lay.nameOk z = false
          unfold Lay.nameOk
          have : ¬ 1 ≤ z.length := by omega
          rw [decide_eq_false this]
          rfl
        rw [e] at q
        exact q H (Same.refl H)
    · have e : Lay.isName v = false := by
        cases v with
        | str z => exact absurd ⟨z, rfl⟩ hs
        | _ => rfl
      rw [e] at q
      have t1 : Lay.isTy t .str = false := by
        cases k with
        | str z => exact absurd ⟨z, rfl⟩ hs
        | _ => rfl
      walk_at "rd"
      refine Lay.rd_isi .str k ?_
      rw [t1]
      walk_at "rd"
      refine iteT ?_
      refine iteT ?_
      walk_at "rd"
      exact q H (Same.refl H)
theorem ok_is_memory_step (T : Txt K mg A) (G_is_name : FnOk P w K mg base CX0 1 A.a_is_name A.d_is_name ["value"] Lay.spIsName) (G_is_within : FnOk P w K mg base CX0 2 A.a_is_within A.d_is_within ["value", "low", "high"] Lay.spIsWithin) : FnOk P w K mg base CX0 3 A.a_is_memory_step A.d_is_memory_step ["value"] Lay.spMemStep := by
  refine T.F_is_memory_step.ok sc_is_memory_step (fun vs H Q E h => ?_) (fun cdv A0 outer s H vs Q E hr h => ?_)
  · obtain ⟨p, w, n, s, f, e, rfl, _⟩ := h
    rfl
  · obtain ⟨p, wd, n, s0, f, e, rfl, hp, hw, hn, s1, s2, f1, f2, e1, q⟩ := h
    have hl := Lay.nameOk_len hn
    refine ⟨_, (pss_cons (ps_asg (pv 0) (pg_tup (by rfl) (pgs_cons (pg_name (i := 1) sc_is_memory_step.nd rfl (Or.inl rfl)) (pgs_cons (pg_name (i := 2) sc_is_memory_step.nd rfl (Or.inl rfl)) (pgs_cons (pg_name (i := 3) sc_is_memory_step.nd rfl (Or.inl rfl)) (pgs_cons (pg_name (i := 4) sc_is_memory_step.nd rfl (Or.inl rfl)) (pgs_cons (pg_name (i := 5) sc_is_memory_step.nd rfl (Or.inl rfl)) pgs_nil)))))))
    (Evl.pss_cut (ps_if (PW.pt (pw_and (pt_cmpR (Lay.op_notInS hr.units) (pv 1) (pe_glob (v := .ref A.t_ACCESS_WORDS) rfl T.k_ACCESS_WORDS rfl) rfl) (pw_and1 (pt_cmpR (Lay.op_notInS hr.units) (pv 1) (pe_glob (v := .ref A.t_UPKEEP_WORDS) rfl T.k_UPKEEP_WORDS rfl) rfl))))
      (pss_one (ps_ret pe_bl))
      pss_nil)
    (pss_cons (ps_if (PW.pt (pw_or (pt_not (pt_val (pe_call G_is_name (hr.mono (by decide)) rfl T.g_is_name T.F_is_name.kp T.b_is_name .nil pass0 (pa_cons (pv 2) pa_nil)))) (pw_or1 (pt_not (pt_val (pe_call G_is_within (hr.mono (by decide)) rfl T.g_is_within T.F_is_within.kp T.b_is_within .nil pass0 (pa_cons (pv 3) (pa_cons pe_int (pa_cons (pe_glob (v := .int 3) rfl T.k_GREATEST_SHIFT ⟨_, rfl⟩) pa_nil)))))))))
      (pss_one (ps_ret pe_bl))
      pss_nil)
    (pss_one (ps_ret (pe_and (pe_call G_is_within (hr.mono (by decide)) rfl T.g_is_within T.F_is_within.kp T.b_is_within .nil pass0 (pa_cons (pv 5) (pa_cons pe_int (pa_cons (pe_glob (v := .int 7) rfl T.k_GREATEST_BYTE ⟨_, rfl⟩) pa_nil)))) (pe_one (pe_call G_is_within (hr.mono (by decide)) rfl T.g_is_within T.F_is_within.kp T.b_is_within .nil pass0 (pa_cons (pv 4) (pa_cons pe_int (pa_cons (pv 5) pa_nil))))))))))), ?_⟩
    walk_at "in"
    walk_at "rd"
    have name : ∀ Q' : VK, (∀ H1, Same H H1 → Q' (.bl true) H1) → Lay.spIsName [.str n] H Q' E0 := fun Q' q' => ⟨.str n, .str, rfl, .str n, (fun z ez => by cases ez; omega), fun H1 s1 => by
      have en : Lay.isName (.str n) = true := hn
      rw [en]
      exact q' H1 s1⟩
    refine ⟨fun σ' H' => σ' = [some (V.ref p), some (V.str wd), some (V.str n), some (V.int s0), some (V.int f), some (V.int e)] ∧ H' = H, ?_, ?_⟩
    · walk_at "rd"
      refine Lay.rd_notInS (zs := ["read", "write", "get", "put"]) (T.q_ACCESS_WORDS _) (.str wd) ?_
      walk_at "rd"
      refine Lay.ite_nb (fun c1 => ?_) (fun c1 => ?_)
      · walk_at "rd"
        refine Lay.rd_notInS (zs := ["clean", "drop", "flush"]) (T.q_UPKEEP_WORDS _) (.str wd) ?_
        walk_at "rd"
        refine Lay.ite_nb (fun c2 => ?_) (fun c2 => ?_)
        · exfalso
          have n1 := Lay.of_inStrs c1
          have n2 := Lay.of_inStrs c2
          unfold Lay.memWords at hw
          simp only [List.mem_cons, List.not_mem_nil, or_false] at hw n1 n2
          rcases hw with h | h | h | h | h | h | h <;> simp [h] at n1 n2
        · walk_at "rd"
          exact ⟨rfl, rfl⟩
      · refine iteF ?_
        walk_at "rd"
        exact ⟨rfl, rfl⟩
    · rintro σ' H' ⟨rfl, rfl⟩
      walk_at "rd"
      refine name _ fun H1 h1 => ?_
      walk_at "rd"
      refine iteF ?_
      walk_at "rd"
      refine ⟨.int s0, .int, 0, 3, rfl, .int s0, ?_⟩
      walk_at "rd"
      rw [show Lay.within (.int s0) 0 3 = true from by show (decide (0 ≤ s0) && decide (s0 ≤ 3)) = true; rw [decide_eq_true s1, decide_eq_true s2]; rfl]
      walk_at "rd"
      refine iteF ?_
      walk_at "rd"
      refine ⟨.int e, .int, 0, 7, rfl, .int e, ?_⟩
      walk_at "rd"
      rw [show Lay.within (.int e) 0 7 = true from by show (decide (0 ≤ e) && decide (e ≤ 7)) = true; rw [decide_eq_true (show 0 ≤ e by omega), decide_eq_true e1]; rfl]
      refine iteT ?_
      walk_at "rd"
      refine ⟨.int f, .int, 0, e, rfl, .int f, ?_⟩
      rw [show Lay.within (.int f) 0 e = true from by show (decide (0 ≤ f) && decide (f ≤ e)) = true; rw [decide_eq_true f1, decide_eq_true f2]; rfl]
      exact q H1 h1
theorem ok_is_step (T : Txt K mg A) (G_is_memory_step : FnOk P w K mg base CX0 3 A.a_is_memory_step A.d_is_memory_step ["value"] Lay.spMemStep) (G_is_name : FnOk P w K mg base CX0 1 A.a_is_name A.d_is_name ["value"] Lay.spIsName) : FnOk P w K mg base CX0 4 A.a_is_step A.d_is_step ["value"] Lay.spIsStep := by
  refine T.F_is_step.ok sc_is_step (fun vs H Q E h => ?_) (fun cdv A0 outer s H vs Q E hr h => ?_)
  · obtain ⟨p, l, ws, rfl, _⟩ := h
    rfl
  · obtain ⟨p, l, ws, rfl, hp, g, q⟩ := h
    refine ⟨_, (pss_cons (ps_if (pt_not (pt_val (pe_callB call_isi (by rfl) T.n_isinstance (by decide +kernel) (pa_cons (pv 0) (pa_cons (pe_bltn (v := .ty "tuple") (by rfl) T.n_tuple (by decide +kernel) rfl) pa_nil)))))
      (pss_one (ps_ret pe_bl))
      pss_nil)
    (pss_cons (ps_if (pt_cmpR op_eq (pe_callB Lay.call_lenS (by rfl) T.n_len PySem.boot_len (pa_cons (pv 0) pa_nil)) pe_int (nomark _))
      (pss_one (ps_ret (pe_call G_is_memory_step (hr.mono (by decide)) rfl T.g_is_memory_step T.F_is_memory_step.kp T.b_is_memory_step .nil pass0 (pa_cons (pv 0) pa_nil))))
      pss_nil)
    (pss_one (ps_ret (pe_and (pe_cmpR op_eq (pe_callB Lay.call_lenS (by rfl) T.n_len PySem.boot_len (pa_cons (pv 0) pa_nil)) pe_int (nomark _)) (pe_and (pe_cmpR (Lay.op_inS hr.units) (pe_ix ix_tup (pv 0) pe_int (fun _ _ => rfl)) (pe_glob (v := .ref A.t_SIGNAL_WORDS) rfl T.k_SIGNAL_WORDS rfl) rfl) (pe_one (pe_call G_is_name (hr.mono (by decide)) rfl T.g_is_name T.F_is_name.kp T.b_is_name .nil pass0 (pa_cons (pe_ix ix_tup (pv 0) pe_int (fun _ _ => rfl)) pa_nil))))))))), ?_⟩
    walk_at "in"
    walk_at "rd"
    refine Lay.rd_isi .tuple (.tup hp) ?_
    walk_at "rd"
    refine iteF ?_
    walk_at "rd"
    rcases g with ⟨wd, n, rfl, hw, hws, hn⟩ | ⟨wd, n, s0, f, e, rfl, hw, hws, hn, s1, s2, f1, f2, e1⟩
    · walk_at "rd"
      refine iteF ?_
      walk_at "rd"
      refine iteT ?_
      walk_at "rd"
      refine Lay.rd_inS (zs := ["post", "wait"]) (T.q_SIGNAL_WORDS _) (.str wd) ?_
      walk_at "rd"
      rw [Lay.inStrs_of (zs := ["post", "wait"]) hw]
      refine iteT ?_
      walk_at "rd"
      have hl := Lay.nameOk_len hn
      refine ⟨.str n, .str, rfl, .str n, (fun z ez => by cases ez; omega), fun H1 s1 => ?_⟩
      rw [show Lay.isName (.str n) = true from hn]
      exact q H1 s1
    · walk_at "rd"
      refine iteT ?_
      walk_at "rd"
      exact ⟨p, wd, n, s0, f, e, rfl, hp, hw, hn, s1, s2, f1, f2, e1, q⟩
theorem ok_check_agent (T : Txt K mg A) (G_is_name : FnOk P w K mg base CX0 1 A.a_is_name A.d_is_name ["value"] Lay.spIsName) (G_is_step : FnOk P w K mg base CX0 4 A.a_is_step A.d_is_step ["value"] Lay.spIsStep) : FnOk P w K mg base CX0 5 A.a_check_agent A.d_check_agent ["name", "steps", "words"] (Lay.spCheckAgent K) := by
  refine T.F_check_agent.ok sc_check_agent (fun vs H Q E h => ?_) (fun cdv A0 outer s H vs Q E hr h => ?_)
  · obtain ⟨z, t, wt, ws, steps, rfl, _⟩ := h
    rfl
  · obtain ⟨z, t, wt, ws, steps, rfl, hz, ht, l1, l2, hw, hg, q⟩ := h
    have hl := Lay.nameOk_len hz
    refine ⟨_, (pss_cons (ps_if (pt_not (pt_val (pe_call G_is_name (hr.mono (by decide)) rfl T.g_is_name T.F_is_name.kp T.b_is_name .nil pass0 (pa_cons (pv 0) pa_nil))))
      (pss_one ps_never)
      pss_nil)
    (pss_cons (ps_if (pt_not (pt_chain op_le op_le pe_int (pe_callB Lay.call_lenS (by rfl) T.n_len PySem.boot_len (pa_cons (pv 1) pa_nil)) (pe_glob (v := .int 24) rfl T.k_MOST_STEPS ⟨_, rfl⟩)))
      (pss_one ps_never)
      pss_nil)
    (pss_one (ps_for PassesOwn.never rfl (Lay.pi_enumT (by rfl) T.n_enumerate (pa_cons (pv 1) pa_nil)) (pg_tup (by rfl) (pgs_cons (pg_name (i := 3) sc_check_agent.nd rfl (Or.inl rfl)) (pgs_cons (pg_name (i := 4) sc_check_agent.nd rfl (Or.inl rfl)) pgs_nil)))
      (pss_one (ps_if (PW.pt (pw_or (pt_not (pt_val (pe_call G_is_step (hr.mono (by decide)) rfl T.g_is_step T.F_is_step.kp T.b_is_step .nil pass0 (pa_cons (pv 4) pa_nil)))) (pw_or1 (pt_cmpR (Lay.op_notInS hr.units) (pe_ix ix_tup (pv 4) pe_int (fun _ _ => rfl)) (pv 2) rfl))))
        (pss_one ps_never)
        pss_nil)))))), ?_⟩
    walk_at "in"
    walk_at "rd"
    refine ⟨.str z, .str, rfl, .str z, (fun z' ez => by cases ez; omega), fun H1 s1 => ?_⟩
    rw [show Lay.isName (.str z) = true from hz]
    walk_at "rd"
    refine iteF ?_
    walk_at "rd"
    have ht1 := s1 _ _ ht
    refine Lay.rd_lenT (SqT.of ht1) ?_
    walk_at "rd"
    refine Lay.ite_d (fun c1 => ?_) (fun c1 => absurd (by omega) c1)
    walk_at "rd"
    refine Lay.ite_n (fun c2 => absurd (by omega) c2) (fun c2 => ?_)
    walk_at "rd"
    refine Lay.rd_forW (J := Lay.Itet K t) (H1 := H1) (fun R r => ?_) (Lay.walk_enumT (xs := steps)) (fun i σ' H' => ∃ a b, σ' = [some (V.str z), some (V.ref t), some (V.ref wt), a, b] ∧ Same H H') ⟨_, _, rfl, s1⟩ (fun i σ' H' _ ⟨a, b, _, s2⟩ => SqT.of (s2 _ _ ht)) ?_ ?_
    · walk_at "rd"
      exact ⟨t, steps, rfl, SqT.of ht1, r⟩
    · rintro i x σ' H2 H3 hi ⟨a, b, rfl, s2⟩ ⟨T0, x1, y1, rfl, hT, rfl, ex, ey⟩
      cases ex
      have s3 : Same H (upd H2 T0 (.tup [.int (i : Nat), y1])) := s2.trans (Lay.Same.upd hT)
      walk_at "rd"
      obtain ⟨p, l, rfl, hp, gp⟩ := Lay.StepAt.mono s3 (hg y1 (List.mem_of_getElem? ey))
      refine ⟨p, l, ws, rfl, hp, gp, fun H4 s4 => ?_⟩
      walk_at "rd"
      refine iteF ?_
      walk_at "rd"
      have hp4 := s4 _ _ hp
      have s5 := s3.trans s4
      rcases gp with ⟨wd, n, rfl, _, hm, _⟩ | ⟨wd, n, s0, f, e, rfl, _, hm, _⟩
      all_goals
        walk_at "rd"
        refine Lay.rd_notInS (Lay.same_sqT s5 hw) (.str wd) ?_
        walk_at "rd"
        rw [Lay.inStrs_of hm]
        refine iteF ?_
        walk_at "rd"
        exact ⟨_, _, rfl, s5⟩
    · rintro σ' H2 ⟨a, b, rfl, s2⟩
      exact q H2 s2
theorem ok_Agent_init (T : Txt K mg A) (G_check_agent : FnOk P w K mg base CX0 5 A.a_check_agent A.d_check_agent ["name", "steps", "words"] (Lay.spCheckAgent K)) : FnR P w K mg base CX0 6 A.a_Agent_init (Lay.spStar 2 (Lay.spAgentInit A.c_Agent ["read", "write", "post", "wait"])) := by
  obtain ⟨oc, od, kV, doc, pm, an, cdv, ct, osl, hfd, lk, hcd⟩ := T.F_Agent_init.ex
  rw [hfd] at lk
  refine StX.fn_star (ps := ["self", "name"]) (pv := "steps") (sp := Lay.spAgentInit A.c_Agent ["read", "write", "post", "wait"]) lk hcd sc_Agent_init StX.cxUp_none (StX.bind_star2 (B := fun us => bindArgs (PySem.W.fnOf "__init__" "Agent.__init__" (defArgs s_Agent_init) (defBody s_Agent_init) (defScope s_Agent_init) .none kV doc pm an cdv ct) ⟨us, []⟩) (fun a b => by rfl) (fun a b r rs => by rfl)) (fun A0 outer s H vs Q E hr h => ?_)
  obtain ⟨x, dx, z, t, steps, rfl, hx, hz, ht, l1, l2, hg, q⟩ := h
  have D : PSs (cxOf CX0 P w K mg base ["self", "name", "steps"] "Agent.__init__" (defScope s_Agent_init) A.a_Agent_init cdv A0 outer s H E).nox (defBody s_Agent_init) _ := (pss_cons (ps_expr (pe_call G_check_agent (hr.mono (by decide)) rfl T.g_check_agent T.F_check_agent.kp T.b_check_agent .nil pass0 (pa_cons (pv 1) (pa_cons (pv 2) (pa_cons (pe_glob (v := .ref A.t_PLAIN_WORDS) rfl T.k_PLAIN_WORDS rfl) pa_nil)))))
    (pss_cons (ps_fld (pv 0) (pv 1) rfl)
    (pss_one (ps_fld (pv 0) (pv 2) rfl))))
  refine ⟨_, D.nox, ?_⟩
  walk_at "in"
  walk_at "rd"
  refine ⟨z, t, A.t_PLAIN_WORDS, ["read", "write", "post", "wait"], steps, rfl, hz, ht, l1, l2, T.q_PLAIN_WORDS _, hg, fun H1 s1 => ?_⟩
  walk_at "rd"
  refine Lay.rd_sFld ?_
  walk_at "rd"
  refine ⟨x, A.c_Agent, dx, [], rfl, s1 _ _ hx, T.cl_Agent, T.na_Agent_name, by decide, ?_⟩
  walk_at "rd"
  refine Lay.rd_sFld ?_
  walk_at "rd"
  refine ⟨x, A.c_Agent, dx, _, rfl, upd_same, T.cl_Agent, T.na_Agent_steps, (by show 1 < 1000; decide), ?_⟩
  have htx : t ≠ x := ne_of ht hx (by intro y; cases y)
  refine q _ ⟨dx, t, ?_, ?_⟩ (fun b o hb e => ?_)
  · rw [upd_same, Lay.putF_agent]
  · rw [upd_ne htx, upd_ne htx]; exact s1 _ _ ht
  · rw [upd_ne hb, upd_ne hb]; exact s1 _ _ e
theorem ok_Through_init (T : Txt K mg A) (G_check_agent : FnOk P w K mg base CX0 5 A.a_check_agent A.d_check_agent ["name", "steps", "words"] (Lay.spCheckAgent K)) : FnR P w K mg base CX0 6 A.a_Through_init (Lay.spStar 2 (Lay.spAgentInit A.c_Through ["read", "write", "get", "put", "clean", "drop", "flush", "post", "wait"])) := by
  obtain ⟨oc, od, kV, doc, pm, an, cdv, ct, osl, hfd, lk, hcd⟩ := T.F_Through_init.ex
  rw [hfd] at lk
  refine StX.fn_star (ps := ["self", "name"]) (pv := "steps") (sp := Lay.spAgentInit A.c_Through ["read", "write", "get", "put", "clean", "drop", "flush", "post", "wait"]) lk hcd sc_Through_init StX.cxUp_none (StX.bind_star2 (B := fun us => bindArgs (PySem.W.fnOf "__init__" "Through.__init__" (defArgs s_Through_init) (defBody s_Through_init) (defScope s_Through_init) .none kV doc pm an cdv ct) ⟨us, []⟩) (fun a b => by rfl) (fun a b r rs => by rfl)) (fun A0 outer s H vs Q E hr h => ?_)
  obtain ⟨x, dx, z, t, steps, rfl, hx, hz, ht, l1, l2, hg, q⟩ := h
  have D : PSs (cxOf CX0 P w K mg base ["self", "name", "steps"] "Through.__init__" (defScope s_Through_init) A.a_Through_init cdv A0 outer s H E).nox (defBody s_Through_init) _ := (pss_cons (ps_expr (pe_call G_check_agent (hr.mono (by decide)) rfl T.g_check_agent T.F_check_agent.kp T.b_check_agent .nil pass0 (pa_cons (pv 1) (pa_cons (pv 2) (pa_cons (pe_glob (v := .ref A.t_CACHE_WORDS) rfl T.k_CACHE_WORDS rfl) pa_nil)))))
    (pss_cons (ps_fld (pv 0) (pv 1) rfl)
    (pss_one (ps_fld (pv 0) (pv 2) rfl))))
  refine ⟨_, D.nox, ?_⟩
  walk_at "in"
  walk_at "rd"
  refine ⟨z, t, A.t_CACHE_WORDS, ["read", "write", "get", "put", "clean", "drop", "flush", "post", "wait"], steps, rfl, hz, ht, l1, l2, T.q_CACHE_WORDS _, hg, fun H1 s1 => ?_⟩
  walk_at "rd"
  refine Lay.rd_sFld ?_
  walk_at "rd"
  refine ⟨x, A.c_Through, dx, [], rfl, s1 _ _ hx, T.cl_Through, T.na_Through_name, by decide, ?_⟩
  walk_at "rd"
  refine Lay.rd_sFld ?_
  walk_at "rd"
  refine ⟨x, A.c_Through, dx, _, rfl, upd_same, T.cl_Through, T.na_Through_steps, (by show 1 < 1000; decide), ?_⟩
  have htx : t ≠ x := ne_of ht hx (by intro y; cases y)
  refine q _ ⟨dx, t, ?_, ?_⟩ (fun b o hb e => ?_)
  · rw [upd_same, Lay.putF_agent]
  · rw [upd_ne htx, upd_ne htx]; exact s1 _ _ ht
  · rw [upd_ne hb, upd_ne hb]; exact s1 _ _ e
theorem ok_Back_init (T : Txt K mg A) (G_check_agent : FnOk P w K mg base CX0 5 A.a_check_agent A.d_check_agent ["name", "steps", "words"] (Lay.spCheckAgent K)) : FnR P w K mg base CX0 6 A.a_Back_init (Lay.spStar 2 (Lay.spAgentInit A.c_Back ["read", "write", "get", "put", "clean", "drop", "flush", "post", "wait"])) := by
  obtain ⟨oc, od, kV, doc, pm, an, cdv, ct, osl, hfd, lk, hcd⟩ := T.F_Back_init.ex
  rw [hfd] at lk
  refine StX.fn_star (ps := ["self", "name"]) (pv := "steps") (sp := Lay.spAgentInit A.c_Back ["read", "write", "get", "put", "clean", "drop", "flush", "post", "wait"]) lk hcd sc_Back_init StX.cxUp_none (StX.bind_star2 (B := fun us => bindArgs (PySem.W.fnOf "__init__" "Back.__init__" (defArgs s_Back_init) (defBody s_Back_init) (defScope s_Back_init) .none kV doc pm an cdv ct) ⟨us, []⟩) (fun a b => by rfl) (fun a b r rs => by rfl)) (fun A0 outer s H vs Q E hr h => ?_)
  obtain ⟨x, dx, z, t, steps, rfl, hx, hz, ht, l1, l2, hg, q⟩ := h
  have D : PSs (cxOf CX0 P w K mg base ["self", "name", "steps"] "Back.__init__" (defScope s_Back_init) A.a_Back_init cdv A0 outer s H E).nox (defBody s_Back_init) _ := (pss_cons (ps_expr (pe_call G_check_agent (hr.mono (by decide)) rfl T.g_check_agent T.F_check_agent.kp T.b_check_agent .nil pass0 (pa_cons (pv 1) (pa_cons (pv 2) (pa_cons (pe_glob (v := .ref A.t_CACHE_WORDS) rfl T.k_CACHE_WORDS rfl) pa_nil)))))
    (pss_cons (ps_fld (pv 0) (pv 1) rfl)
    (pss_one (ps_fld (pv 0) (pv 2) rfl))))
  refine ⟨_, D.nox, ?_⟩
  walk_at "in"
  walk_at "rd"
  refine ⟨z, t, A.t_CACHE_WORDS, ["read", "write", "get", "put", "clean", "drop", "flush", "post", "wait"], steps, rfl, hz, ht, l1, l2, T.q_CACHE_WORDS _, hg, fun H1 s1 => ?_⟩
  walk_at "rd"
  refine Lay.rd_sFld ?_
  walk_at "rd"
  refine ⟨x, A.c_Back, dx, [], rfl, s1 _ _ hx, T.cl_Back, T.na_Back_name, by decide, ?_⟩
  walk_at "rd"
  refine Lay.rd_sFld ?_
  walk_at "rd"
  refine ⟨x, A.c_Back, dx, _, rfl, upd_same, T.cl_Back, T.na_Back_steps, (by show 1 < 1000; decide), ?_⟩
  have htx : t ≠ x := ne_of ht hx (by intro y; cases y)
  refine q _ ⟨dx, t, ?_, ?_⟩ (fun b o hb e => ?_)
  · rw [upd_same, Lay.putF_agent]
  · rw [upd_ne htx, upd_ne htx]; exact s1 _ _ ht
  · rw [upd_ne hb, upd_ne hb]; exact s1 _ _ e
theorem ok_Agent_made (T : Txt K mg A) (G_Agent_init : FnR P w K mg base CX0 6 A.a_Agent_init (Lay.spStar 2 (Lay.spAgentInit A.c_Agent ["read", "write", "post", "wait"]))) : FnOk P w K mg base CX0 8 A.a_Agent_made A.d_Agent_made ["cls", "name", "steps"] (Lay.spMade K A.c_Agent ["read", "write", "post", "wait"]) := by
  refine T.F_Agent_made.ok sc_Agent_made (fun vs H Q E h => ?_) (fun cdv A0 outer s H vs Q E hr h => ?_)
  · obtain ⟨z, t, xs, ls, rfl, _⟩ := h
    rfl
  · obtain ⟨z, t, xs, ls, rfl, hz, ht, hx, l1, l2, hg, q⟩ := h
    refine ⟨_, (pss_one (ps_ret (OwnC.pe_makeV (pv 0) T.mk_Agent G_Agent_init (hr.mono (by decide)) pass0 (pa_cons (pv 1) (StX.pa_star (pv 2) pa_nil))))), ?_⟩
    walk_at "in"
    walk_at "rd"
    refine Lay.rd_makeV ?_
    walk_at "rd"
    refine ⟨rfl, Lay.rd_makeR ?_⟩
    walk_at "rd"
    refine ⟨t, xs, rfl, ht, ?_⟩
    walk_at "rd"
    simp only [List.append_nil]
    exact Lay.mk_ag (Q := fun x H => Q (.ref x) H) hz hx l1 l2 hg q
theorem ok_Agent_len (T : Txt K mg A) : FnOk P w K mg base CX0 1 A.a_Agent_len A.d_Agent_len ["self"] (Lay.spLen A.c_Agent) := by
  refine T.F_Agent_len.ok sc_Agent_len (fun vs H Q E h => ?_) (fun cdv A0 outer s H vs Q E hr h => ?_)
  · obtain ⟨a, z, ls, rfl, _⟩ := h
    rfl
  · obtain ⟨a, z, ls, rfl, ⟨dx, t, xs, h1, h2, h3⟩, q⟩ := h
    refine ⟨_, (pss_one (ps_ret (pe_callB Lay.call_lenS (by rfl) T.n_len PySem.boot_len (pa_cons (pe_fld (pv 0) rfl) pa_nil)))), ?_⟩
    walk_at "in"
    walk_at "rd"
    refine Lay.rd_tFld ?_
    walk_at "rd"
    refine ⟨a, _, dx, _, .ref t, rfl, h1, T.cl_Agent, T.na_Agent_steps, by rfl, ?_⟩
    walk_at "rd"
    rw [h3.len]
    exact q
theorem ok_Agent_getitem (T : Txt K mg A) : FnOk P w K mg base CX0 1 A.a_Agent_getitem A.d_Agent_getitem ["self", "at"] (Lay.spGet A.c_Agent) := by
  refine T.F_Agent_getitem.ok sc_Agent_getitem (fun vs H Q E h => ?_) (fun cdv A0 outer s H vs Q E hr h => ?_)
  · obtain ⟨a, z, ls, i, l, rfl, _⟩ := h
    rfl
  · obtain ⟨a, z, ls, i, l, rfl, ⟨dx, t, xs, h1, h2, h3⟩, hi, q⟩ := h
    refine ⟨_, (pss_one (ps_ret (pe_ix ix_tup (pe_fld (pv 0) rfl) (pv 1) (fun _ _ => rfl)))), ?_⟩
    walk_at "in"
    walk_at "rd"
    refine Lay.rd_tFld ?_
    walk_at "rd"
    refine ⟨a, _, dx, _, .ref t, rfl, h1, T.cl_Agent, T.na_Agent_steps, by rfl, ?_⟩
    walk_at "rd"
    obtain ⟨p, e1, e2⟩ := h3.get hi
    exact Lay.rd_ixT (SqT.of h2) (Lay.atI_nat e1) (q p e2)
theorem ok_Agent_eq (T : Txt K mg A) : FnOk P w K mg base CX0 1 A.a_Agent_eq A.d_Agent_eq ["self", "other"] (Lay.spEqA K A.c_Agent "plain") := by
  refine T.F_Agent_eq.ok sc_Agent_eq (fun vs H Q E h => ?_) (fun cdv A0 outer s H vs Q E hr h => ?_)
  · obtain ⟨a, v, z, ls, r, rfl, _⟩ := h
    rfl
  · obtain ⟨a, v, z, ls, r, rfl, ⟨dx, t, xs, h1, h2, h3⟩, fl, ac, harg, q⟩ := h
    refine ⟨_, (pss_one (ps_ret (pe_and (pe_callB call_isi (by rfl) T.n_isinstance (by decide +kernel) (pa_cons (pv 1) (pa_cons (pe_glob (v := .ref A.c_Agent) rfl T.g_Agent rfl) pa_nil))) (pe_and (pe_cmpR op_eq (pe_con (pv 0) rfl) (pe_con (pv 1) rfl) (nomark _)) (pe_and (pe_cmpR op_eq (pe_fld (pv 0) rfl) (pe_fld (pv 1) rfl) (nomark _)) (pe_one (pe_cmpR (op_eqD hr.units) (pe_fld (pv 0) rfl) (pe_fld (pv 1) rfl) (nomark _)))))))), ?_⟩
    walk_at "in"
    walk_at "rd"
    rcases harg with ⟨TT, ht, hk, rfl⟩ | ⟨b, D, k2, z2, ls2, rfl, ⟨dy, u, ys, g1, g2, g3⟩, fl2, ad, hk, rfl⟩
    · refine Lay.rd_isiC ht hk ?_
      walk_at "it"
      exact q
    · refine Lay.rd_isiC (ad.ty _ b dy _ g1) hk ?_
      walk_at "it"
      obtain ⟨_, co1⟩ := ac.co
      obtain ⟨_, co2⟩ := ad.co
      refine Lay.rd_tCon ?_
      walk_at "rd"
      refine ⟨a, _, dx, _, _, _, rfl, h1, ac.cl, co1, by rfl, ?_⟩
      walk_at "rd"
      refine Lay.rd_tCon ?_
      walk_at "rd"
      refine ⟨b, _, dy, _, _, _, rfl, g1, ad.cl, co2, by rfl, ?_⟩
      walk_at "rd"
      refine Lay.ite_d (fun c1 => ?_) (fun c1 => ?_)
      · rw [decide_eq_true c1] at q
        walk_at "rd"
        refine Lay.rd_tFld ?_
        walk_at "rd"
        refine ⟨a, _, dx, _, .str z, rfl, h1, ac.cl, ac.nm, by rfl, ?_⟩
        walk_at "rd"
        refine Lay.rd_tFld ?_
        walk_at "rd"
        refine ⟨b, _, dy, _, .str z2, rfl, g1, ad.cl, ad.nm, by rfl, ?_⟩
        walk_at "rd"
        refine Lay.ite_d (fun c2 => ?_) (fun c2 => ?_)
        · rw [decide_eq_true c2] at q
          walk_at "rd"
          refine Lay.rd_tFld ?_
          walk_at "rd"
          refine ⟨a, _, dx, _, .ref t, rfl, h1, ac.cl, ac.st, by rfl, ?_⟩
          walk_at "rd"
          refine Lay.rd_tFld ?_
          walk_at "rd"
          refine ⟨b, _, dy, _, .ref u, rfl, g1, ad.cl, ad.st, by rfl, ?_⟩
          walk_at "rd"
          exact Lay.rd_eqT h2 h3 fl g2 g3 fl2 q
        · rw [decide_eq_false c2] at q
          exact q
      · rw [decide_eq_false c1] at q
        exact q
theorem ok_Agent_with_steps (T : Txt K mg A) (G_Agent_init : FnR P w K mg base CX0 6 A.a_Agent_init (Lay.spStar 2 (Lay.spAgentInit A.c_Agent ["read", "write", "post", "wait"]))) : FnR P w K mg base CX0 8 A.a_Agent_with_steps (Lay.spStar 1 (Lay.spWithT A.c_Agent ["read", "write", "post", "wait"])) := by
  obtain ⟨oc, od, kV, doc, pm, an, cdv, ct, osl, hfd, lk, hcd⟩ := T.F_Agent_with_steps.ex
  rw [hfd] at lk
  refine StX.fn_star (ps := ["self"]) (pv := "steps") (sp := Lay.spWithT A.c_Agent ["read", "write", "post", "wait"]) lk hcd sc_Agent_with_steps StX.cxUp_none (StX.bind_star1 (B := fun us => bindArgs (PySem.W.fnOf "with_steps" "Agent.with_steps" (defArgs s_Agent_with_steps) (defBody s_Agent_with_steps) (defScope s_Agent_with_steps) .none kV doc pm an cdv ct) ⟨us, []⟩) (fun a => by rfl) (fun a r rs => by rfl)) (fun A0 outer s H vs Q E hr h => ?_)
  obtain ⟨a, z, t, ls0, xs, ls, rfl, ⟨dx, t0, ys, h1, h2, h3⟩, hz, ht, hx, l1, l2, hg, q⟩ := h
  have D : PSs (cxOf CX0 P w K mg base ["self", "steps"] "Agent.with_steps" (defScope s_Agent_with_steps) A.a_Agent_with_steps cdv A0 outer s H E).nox (defBody s_Agent_with_steps) _ := (pss_one (ps_ret (OwnC.pe_makeG T.mk_Agent G_Agent_init (hr.mono (by decide)) rfl T.g_Agent pass0 (pa_cons (pe_fld (pv 0) rfl) (StX.pa_star (pv 1) pa_nil)))))
  refine ⟨_, D.nox, ?_⟩
  walk_at "in"
  walk_at "rd"
  refine Lay.rd_makeR ?_
  walk_at "rd"
  refine Lay.rd_tFld ?_
  walk_at "rd"
  refine ⟨a, _, dx, _, .str z, rfl, h1, T.cl_Agent, T.na_Agent_name, by rfl, ?_⟩
  walk_at "rd"
  refine ⟨t, xs, rfl, .inl (SqT.of ht), ?_⟩
  walk_at "rd"
  simp only [List.append_nil]
  exact Lay.mk_ag (Q := fun x H => Q (.ref x) H) hz hx l1 l2 hg q
theorem ok_Through_made (T : Txt K mg A) (G_Through_init : FnR P w K mg base CX0 6 A.a_Through_init (Lay.spStar 2 (Lay.spAgentInit A.c_Through ["read", "write", "get", "put", "clean", "drop", "flush", "post", "wait"]))) : FnOk P w K mg base CX0 8 A.a_Through_made A.d_Through_made ["cls", "name", "steps"] (Lay.spMade K A.c_Through ["read", "write", "get", "put", "clean", "drop", "flush", "post", "wait"]) := by
  refine T.F_Through_made.ok sc_Through_made (fun vs H Q E h => ?_) (fun cdv A0 outer s H vs Q E hr h => ?_)
  · obtain ⟨z, t, xs, ls, rfl, _⟩ := h
    rfl
  · obtain ⟨z, t, xs, ls, rfl, hz, ht, hx, l1, l2, hg, q⟩ := h
    refine ⟨_, (pss_one (ps_ret (OwnC.pe_makeV (pv 0) T.mk_Through G_Through_init (hr.mono (by decide)) pass0 (pa_cons (pv 1) (StX.pa_star (pv 2) pa_nil))))), ?_⟩
    walk_at "in"
    walk_at "rd"
    refine Lay.rd_makeV ?_
    walk_at "rd"
    refine ⟨rfl, Lay.rd_makeR ?_⟩
    walk_at "rd"
    refine ⟨t, xs, rfl, ht, ?_⟩
    walk_at "rd"
    simp only [List.append_nil]
    exact Lay.mk_ag (Q := fun x H => Q (.ref x) H) hz hx l1 l2 hg q
theorem ok_Through_len (T : Txt K mg A) : FnOk P w K mg base CX0 1 A.a_Through_len A.d_Through_len ["self"] (Lay.spLen A.c_Through) := by
  refine T.F_Through_len.ok sc_Through_len (fun vs H Q E h => ?_) (fun cdv A0 outer s H vs Q E hr h => ?_)
  · obtain ⟨a, z, ls, rfl, _⟩ := h
    rfl
  · obtain ⟨a, z, ls, rfl, ⟨dx, t, xs, h1, h2, h3⟩, q⟩ := h
    refine ⟨_, (pss_one (ps_ret (pe_callB Lay.call_lenS (by rfl) T.n_len PySem.boot_len (pa_cons (pe_fld (pv 0) rfl) pa_nil)))), ?_⟩
    walk_at "in"
    walk_at "rd"
    refine Lay.rd_tFld ?_
    walk_at "rd"
    refine ⟨a, _, dx, _, .ref t, rfl, h1, T.cl_Through, T.na_Through_steps, by rfl, ?_⟩
    walk_at "rd"
    rw [h3.len]
    exact q
theorem ok_Through_getitem (T : Txt K mg A) : FnOk P w K mg base CX0 1 A.a_Through_getitem A.d_Through_getitem ["self", "at"] (Lay.spGet A.c_Through) := by
  refine T.F_Through_getitem.ok sc_Through_getitem (fun vs H Q E h => ?_) (fun cdv A0 outer s H vs Q E hr h => ?_)
  · obtain ⟨a, z, ls, i, l, rfl, _⟩ := h
    rfl
  · obtain ⟨a, z, ls, i, l, rfl, ⟨dx, t, xs, h1, h2, h3⟩, hi, q⟩ := h
    refine ⟨_, (pss_one (ps_ret (pe_ix ix_tup (pe_fld (pv 0) rfl) (pv 1) (fun _ _ => rfl)))), ?_⟩
    walk_at "in"
    walk_at "rd"
    refine Lay.rd_tFld ?_
    walk_at "rd"
    refine ⟨a, _, dx, _, .ref t, rfl, h1, T.cl_Through, T.na_Through_steps, by rfl, ?_⟩
    walk_at "rd"
    obtain ⟨p, e1, e2⟩ := h3.get hi
    exact Lay.rd_ixT (SqT.of h2) (Lay.atI_nat e1) (q p e2)
theorem ok_Through_eq (T : Txt K mg A) : FnOk P w K mg base CX0 1 A.a_Through_eq A.d_Through_eq ["self", "other"] (Lay.spEqA K A.c_Through "through") := by
  refine T.F_Through_eq.ok sc_Through_eq (fun vs H Q E h => ?_) (fun cdv A0 outer s H vs Q E hr h => ?_)
  · obtain ⟨a, v, z, ls, r, rfl, _⟩ := h
    rfl
  · obtain ⟨a, v, z, ls, r, rfl, ⟨dx, t, xs, h1, h2, h3⟩, fl, ac, harg, q⟩ := h
    refine ⟨_, (pss_one (ps_ret (pe_and (pe_callB call_isi (by rfl) T.n_isinstance (by decide +kernel) (pa_cons (pv 1) (pa_cons (pe_glob (v := .ref A.c_Through) rfl T.g_Through rfl) pa_nil))) (pe_and (pe_cmpR op_eq (pe_con (pv 0) rfl) (pe_con (pv 1) rfl) (nomark _)) (pe_and (pe_cmpR op_eq (pe_fld (pv 0) rfl) (pe_fld (pv 1) rfl) (nomark _)) (pe_one (pe_cmpR (op_eqD hr.units) (pe_fld (pv 0) rfl) (pe_fld (pv 1) rfl) (nomark _)))))))), ?_⟩
    walk_at "in"
    walk_at "rd"
    rcases harg with ⟨TT, ht, hk, rfl⟩ | ⟨b, D, k2, z2, ls2, rfl, ⟨dy, u, ys, g1, g2, g3⟩, fl2, ad, hk, rfl⟩
    · refine Lay.rd_isiC ht hk ?_
      walk_at "it"
      exact q
    · refine Lay.rd_isiC (ad.ty _ b dy _ g1) hk ?_
      walk_at "it"
      obtain ⟨_, co1⟩ := ac.co
      obtain ⟨_, co2⟩ := ad.co
      refine Lay.rd_tCon ?_
      walk_at "rd"
      refine ⟨a, _, dx, _, _, _, rfl, h1, ac.cl, co1, by rfl, ?_⟩
      walk_at "rd"
      refine Lay.rd_tCon ?_
      walk_at "rd"
      refine ⟨b, _, dy, _, _, _, rfl, g1, ad.cl, co2, by rfl, ?_⟩
      walk_at "rd"
      refine Lay.ite_d (fun c1 => ?_) (fun c1 => ?_)
      · rw [decide_eq_true c1] at q
        walk_at "rd"
        refine Lay.rd_tFld ?_
        walk_at "rd"
        refine ⟨a, _, dx, _, .str z, rfl, h1, ac.cl, ac.nm, by rfl, ?_⟩
        walk_at "rd"
        refine Lay.rd_tFld ?_
        walk_at "rd"
        refine ⟨b, _, dy, _, .str z2, rfl, g1, ad.cl, ad.nm, by rfl, ?_⟩
        walk_at "rd"
        refine Lay.ite_d (fun c2 => ?_) (fun c2 => ?_)
        · rw [decide_eq_true c2] at q
          walk_at "rd"
          refine Lay.rd_tFld ?_
          walk_at "rd"
          refine ⟨a, _, dx, _, .ref t, rfl, h1, ac.cl, ac.st, by rfl, ?_⟩
          walk_at "rd"
          refine Lay.rd_tFld ?_
          walk_at "rd"
          refine ⟨b, _, dy, _, .ref u, rfl, g1, ad.cl, ad.st, by rfl, ?_⟩
          walk_at "rd"
          exact Lay.rd_eqT h2 h3 fl g2 g3 fl2 q
        · rw [decide_eq_false c2] at q
          exact q
      · rw [decide_eq_false c1] at q
        exact q
theorem ok_Through_with_steps (T : Txt K mg A) (G_Through_init : FnR P w K mg base CX0 6 A.a_Through_init (Lay.spStar 2 (Lay.spAgentInit A.c_Through ["read", "write", "get", "put", "clean", "drop", "flush", "post", "wait"]))) : FnR P w K mg base CX0 8 A.a_Through_with_steps (Lay.spStar 1 (Lay.spWithT A.c_Through ["read", "write", "get", "put", "clean", "drop", "flush", "post", "wait"])) := by
  obtain ⟨oc, od, kV, doc, pm, an, cdv, ct, osl, hfd, lk, hcd⟩ := T.F_Through_with_steps.ex
  rw [hfd] at lk
  refine StX.fn_star (ps := ["self"]) (pv := "steps") (sp := Lay.spWithT A.c_Through ["read", "write", "get", "put", "clean", "drop", "flush", "post", "wait"]) lk hcd sc_Through_with_steps StX.cxUp_none (StX.bind_star1 (B := fun us => bindArgs (PySem.W.fnOf "with_steps" "Through.with_steps" (defArgs s_Through_with_steps) (defBody s_Through_with_steps) (defScope s_Through_with_steps) .none kV doc pm an cdv ct) ⟨us, []⟩) (fun a => by rfl) (fun a r rs => by rfl)) (fun A0 outer s H vs Q E hr h => ?_)
  obtain ⟨a, z, t, ls0, xs, ls, rfl, ⟨dx, t0, ys, h1, h2, h3⟩, hz, ht, hx, l1, l2, hg, q⟩ := h
  have D : PSs (cxOf CX0 P w K mg base ["self", "steps"] "Through.with_steps" (defScope s_Through_with_steps) A.a_Through_with_steps cdv A0 outer s H E).nox (defBody s_Through_with_steps) _ := (pss_one (ps_ret (OwnC.pe_makeG T.mk_Through G_Through_init (hr.mono (by decide)) rfl T.g_Through pass0 (pa_cons (pe_fld (pv 0) rfl) (StX.pa_star (pv 1) pa_nil)))))
  refine ⟨_, D.nox, ?_⟩
  walk_at "in"
  walk_at "rd"
  refine Lay.rd_makeR ?_
  walk_at "rd"
  refine Lay.rd_tFld ?_
  walk_at "rd"
  refine ⟨a, _, dx, _, .str z, rfl, h1, T.cl_Through, T.na_Through_name, by rfl, ?_⟩
  walk_at "rd"
  refine ⟨t, xs, rfl, .inl (SqT.of ht), ?_⟩
  walk_at "rd"
  simp only [List.append_nil]
  exact Lay.mk_ag (Q := fun x H => Q (.ref x) H) hz hx l1 l2 hg q
theorem ok_Back_made (T : Txt K mg A) (G_Back_init : FnR P w K mg base CX0 6 A.a_Back_init (Lay.spStar 2 (Lay.spAgentInit A.c_Back ["read", "write", "get", "put", "clean", "drop", "flush", "post", "wait"]))) : FnOk P w K mg base CX0 8 A.a_Back_made A.d_Back_made ["cls", "name", "steps"] (Lay.spMade K A.c_Back ["read", "write", "get", "put", "clean", "drop", "flush", "post", "wait"]) := by
  refine T.F_Back_made.ok sc_Back_made (fun vs H Q E h => ?_) (fun cdv A0 outer s H vs Q E hr h => ?_)
  · obtain ⟨z, t, xs, ls, rfl, _⟩ := h
    rfl
  · obtain ⟨z, t, xs, ls, rfl, hz, ht, hx, l1, l2, hg, q⟩ := h
    refine ⟨_, (pss_one (ps_ret (OwnC.pe_makeV (pv 0) T.mk_Back G_Back_init (hr.mono (by decide)) pass0 (pa_cons (pv 1) (StX.pa_star (pv 2) pa_nil))))), ?_⟩
    walk_at "in"
    walk_at "rd"
    refine Lay.rd_makeV ?_
    walk_at "rd"
    refine ⟨rfl, Lay.rd_makeR ?_⟩
    walk_at "rd"
    refine ⟨t, xs, rfl, ht, ?_⟩
    walk_at "rd"
    simp only [List.append_nil]
    exact Lay.mk_ag (Q := fun x H => Q (.ref x) H) hz hx l1 l2 hg q
theorem ok_Back_len (T : Txt K mg A) : FnOk P w K mg base CX0 1 A.a_Back_len A.d_Back_len ["self"] (Lay.spLen A.c_Back) := by
  refine T.F_Back_len.ok sc_Back_len (fun vs H Q E h => ?_) (fun cdv A0 outer s H vs Q E hr h => ?_)
  · obtain ⟨a, z, ls, rfl, _⟩ := h
    rfl
  · obtain ⟨a, z, ls, rfl, ⟨dx, t, xs, h1, h2, h3⟩, q⟩ := h
    refine ⟨_, (pss_one (ps_ret (pe_callB Lay.call_lenS (by rfl) T.n_len PySem.boot_len (pa_cons (pe_fld (pv 0) rfl) pa_nil)))), ?_⟩
    walk_at "in"
    walk_at "rd"
    refine Lay.rd_tFld ?_
    walk_at "rd"
    refine ⟨a, _, dx, _, .ref t, rfl, h1, T.cl_Back, T.na_Back_steps, by rfl, ?_⟩
    walk_at "rd"
    rw [h3.len]
    exact q
theorem ok_Back_getitem (T : Txt K mg A) : FnOk P w K mg base CX0 1 A.a_Back_getitem A.d_Back_getitem ["self", "at"] (Lay.spGet A.c_Back) := by
  refine T.F_Back_getitem.ok sc_Back_getitem (fun vs H Q E h => ?_) (fun cdv A0 outer s H vs Q E hr h => ?_)
  · obtain ⟨a, z, ls, i, l, rfl, _⟩ := h
    rfl
  · obtain ⟨a, z, ls, i, l, rfl, ⟨dx, t, xs, h1, h2, h3⟩, hi, q⟩ := h
    refine ⟨_, (pss_one (ps_ret (pe_ix ix_tup (pe_fld (pv 0) rfl) (pv 1) (fun _ _ => rfl)))), ?_⟩
    walk_at "in"
    walk_at "rd"
    refine Lay.rd_tFld ?_
    walk_at "rd"
    refine ⟨a, _, dx, _, .ref t, rfl, h1, T.cl_Back, T.na_Back_steps, by rfl, ?_⟩
    walk_at "rd"
    obtain ⟨p, e1, e2⟩ := h3.get hi
    exact Lay.rd_ixT (SqT.of h2) (Lay.atI_nat e1) (q p e2)
theorem ok_Back_eq (T : Txt K mg A) : FnOk P w K mg base CX0 1 A.a_Back_eq A.d_Back_eq ["self", "other"] (Lay.spEqA K A.c_Back "back") := by
  refine T.F_Back_eq.ok sc_Back_eq (fun vs H Q E h => ?_) (fun cdv A0 outer s H vs Q E hr h => ?_)
  · obtain ⟨a, v, z, ls, r, rfl, _⟩ := h
    rfl
  · obtain ⟨a, v, z, ls, r, rfl, ⟨dx, t, xs, h1, h2, h3⟩, fl, ac, harg, q⟩ := h
    refine ⟨_, (pss_one (ps_ret (pe_and (pe_callB call_isi (by rfl) T.n_isinstance (by decide +kernel) (pa_cons (pv 1) (pa_cons (pe_glob (v := .ref A.c_Back) rfl T.g_Back rfl) pa_nil))) (pe_and (pe_cmpR op_eq (pe_con (pv 0) rfl) (pe_con (pv 1) rfl) (nomark _)) (pe_and (pe_cmpR op_eq (pe_fld (pv 0) rfl) (pe_fld (pv 1) rfl) (nomark _)) (pe_one (pe_cmpR (op_eqD hr.units) (pe_fld (pv 0) rfl) (pe_fld (pv 1) rfl) (nomark _)))))))), ?_⟩
    walk_at "in"
    walk_at "rd"
    rcases harg with ⟨TT, ht, hk, rfl⟩ | ⟨b, D, k2, z2, ls2, rfl, ⟨dy, u, ys, g1, g2, g3⟩, fl2, ad, hk, rfl⟩
    · refine Lay.rd_isiC ht hk ?_
      walk_at "it"
      exact q
    · refine Lay.rd_isiC (ad.ty _ b dy _ g1) hk ?_
      walk_at "it"
      obtain ⟨_, co1⟩ := ac.co
      obtain ⟨_, co2⟩ := ad.co
      refine Lay.rd_tCon ?_
      walk_at "rd"
      refine ⟨a, _, dx, _, _, _, rfl, h1, ac.cl, co1, by rfl, ?_⟩
      walk_at "rd"
      refine Lay.rd_tCon ?_
      walk_at "rd"
      refine ⟨b, _, dy, _, _, _, rfl, g1, ad.cl, co2, by rfl, ?_⟩
      walk_at "rd"
      refine Lay.ite_d (fun c1 => ?_) (fun c1 => ?_)
      · rw [decide_eq_true c1] at q
        walk_at "rd"
        refine Lay.rd_tFld ?_
        walk_at "rd"
        refine ⟨a, _, dx, _, .str z, rfl, h1, ac.cl, ac.nm, by rfl, ?_⟩
        walk_at "rd"
        refine Lay.rd_tFld ?_
        walk_at "rd"
        refine ⟨b, _, dy, _, .str z2, rfl, g1, ad.cl, ad.nm, by rfl, ?_⟩
        walk_at "rd"
        refine Lay.ite_d (fun c2 => ?_) (fun c2 => ?_)
        · rw [decide_eq_true c2] at q
          walk_at "rd"
          refine Lay.rd_tFld ?_
          walk_at "rd"
          refine ⟨a, _, dx, _, .ref t, rfl, h1, ac.cl, ac.st, by rfl, ?_⟩
          walk_at "rd"
          refine Lay.rd_tFld ?_
          walk_at "rd"
          refine ⟨b, _, dy, _, .ref u, rfl, g1, ad.cl, ad.st, by rfl, ?_⟩
          walk_at "rd"
          exact Lay.rd_eqT h2 h3 fl g2 g3 fl2 q
        · rw [decide_eq_false c2] at q
          exact q
      · rw [decide_eq_false c1] at q
        exact q
theorem ok_Back_with_steps (T : Txt K mg A) (G_Back_init : FnR P w K mg base CX0 6 A.a_Back_init (Lay.spStar 2 (Lay.spAgentInit A.c_Back ["read", "write", "get", "put", "clean", "drop", "flush", "post", "wait"]))) : FnR P w K mg base CX0 8 A.a_Back_with_steps (Lay.spStar 1 (Lay.spWithT A.c_Back ["read", "write", "get", "put", "clean", "drop", "flush", "post", "wait"])) := by
  obtain ⟨oc, od, kV, doc, pm, an, cdv, ct, osl, hfd, lk, hcd⟩ := T.F_Back_with_steps.ex
  rw [hfd] at lk
  refine StX.fn_star (ps := ["self"]) (pv := "steps") (sp := Lay.spWithT A.c_Back ["read", "write", "get", "put", "clean", "drop", "flush", "post", "wait"]) lk hcd sc_Back_with_steps StX.cxUp_none (StX.bind_star1 (B := fun us => bindArgs (PySem.W.fnOf "with_steps" "Back.with_steps" (defArgs s_Back_with_steps) (defBody s_Back_with_steps) (defScope s_Back_with_steps) .none kV doc pm an cdv ct) ⟨us, []⟩) (fun a => by rfl) (fun a r rs => by rfl)) (fun A0 outer s H vs Q E hr h => ?_)
  obtain ⟨a, z, t, ls0, xs, ls, rfl, ⟨dx, t0, ys, h1, h2, h3⟩, hz, ht, hx, l1, l2, hg, q⟩ := h
  have D : PSs (cxOf CX0 P w K mg base ["self", "steps"] "Back.with_steps" (defScope s_Back_with_steps) A.a_Back_with_steps cdv A0 outer s H E).nox (defBody s_Back_with_steps) _ := (pss_one (ps_ret (OwnC.pe_makeG T.mk_Back G_Back_init (hr.mono (by decide)) rfl T.g_Back pass0 (pa_cons (pe_fld (pv 0) rfl) (StX.pa_star (pv 1) pa_nil)))))
  refine ⟨_, D.nox, ?_⟩
  walk_at "in"
  walk_at "rd"
  refine Lay.rd_makeR ?_
  walk_at "rd"
  refine Lay.rd_tFld ?_
  walk_at "rd"
  refine ⟨a, _, dx, _, .str z, rfl, h1, T.cl_Back, T.na_Back_name, by rfl, ?_⟩
  walk_at "rd"
  refine ⟨t, xs, rfl, .inl (SqT.of ht), ?_⟩
  walk_at "rd"
  simp only [List.append_nil]
  exact Lay.mk_ag (Q := fun x H => Q (.ref x) H) hz hx l1 l2 hg q
theorem ok_pen (T : Txt K mg A) : FnOk P w K mg base CX0 1 A.a_pen A.d_pen ["_law_script"] (Lay.spPen K) := by
  refine T.F_pen.ok sc_pen (fun vs H Q E h => ?_) (fun cdv A0 outer s H vs Q E hr h => ?_)
  · obtain ⟨a, ns, rfl, _⟩ := h
    rfl
  · obtain ⟨a, ns, rfl, hS, hl, q⟩ := h
    refine ⟨_, (pss_one (ps_ret (pe_lst (pa_cons (pe_callTy Lay.call_listS (by rfl) T.n_list (by decide +kernel) (pa_cons (pe_slice sl_list (pv 0) po_none (po_some pe_int)) pa_nil)) (pa_cons pe_int (pa_cons pe_int pa_nil)))))), ?_⟩
    walk_at "in"
    walk_at "rd"
    refine Lay.rd_slL hS (fun r hr1 => ?_)
    rw [Lay.cut63 (by rw [List.length_map]; exact hl)]
    walk_at "rd"
    refine Lay.rd_listL (SqL.of upd_same) (fun l hl1 => ?_)
    walk_at "rd"
    refine ⟨by decide, fun p hp => ?_⟩
    have s1 := (Lay.Same.upd (o := .lst (ns.map V.int)) hr1).trans (Lay.Same.upd (o := .lst (ns.map V.int)) hl1)
    exact q _ p _ (Lay.none_of s1 hp) (Lay.pen_at upd_same (Lay.upd_old hp upd_same) hl) (s1.trans (Lay.Same.upd hp))
theorem ok_draw (T : Txt K mg A) : FnOk P w K mg base CX0 1 A.a_draw A.d_draw ["_law_pen_here", "_law_many"] Lay.spDraw := by
  refine T.F_draw.ok sc_draw (fun vs H Q E h => ?_) (fun cdv A0 outer s H vs Q E hr h => ?_)
  · obtain ⟨p, m, n, c, rfl, _⟩ := h
    rfl
  · obtain ⟨p, m, n, c, rfl, ⟨ns, b, l, h1, h2, h3, h4, h5, h6⟩, hn, hm, hm2, k⟩ := h
    have hc : c ≠ p := ne_of h2 h1 (by intro q; cases ns <;> cases q)
    refine ⟨_, (pss_cons (ps_if (pt_cmpR op_gt (pe_ix ix_list (pv 0) pe_int (fun _ _ => rfl)) pe_int (nomark _))
      (pss_cons (ps_set (i := 2) sc_draw.nd rfl (Or.inl rfl) (pe_op Lay.op_modP (pe_callTy Lay.call_intI (by rfl) T.n_int (by decide +kernel) (pa_cons (pe_ix ix_list (pv 0) pe_int (fun _ _ => rfl)) pa_nil)) (pv 1)))
      (pss_cons (ps_asg (pe_op Lay.op_divP (pe_callTy Lay.call_intI (by rfl) T.n_int (by decide +kernel) (pa_cons (pe_ix ix_list (pv 0) pe_int (fun _ _ => rfl)) pa_nil)) (pv 1)) (pg_sub (pv 0) pe_int set_list))
      (pss_one (ps_ret (pv 2)))))
      pss_nil)
    (pss_cons (ps_set (i := 3) sc_draw.nd rfl (Or.inl rfl) (pe_ix ix_list (pv 0) pe_int (fun _ _ => rfl)))
    (pss_cons (ps_asg (pe_op op_add (pv 3) pe_int) (pg_sub (pv 0) pe_int set_list))
    (pss_cons (ps_set (i := 4) sc_draw.nd rfl (Or.inl rfl) (pe_op op_add (pe_op op_mul pe_int (pv 3)) pe_int))
    (Evl.pss_cut (ps_if (pt_cmpR (op_neD hr.units) (pe_ix ix_list (pv 0) pe_int (fun _ _ => rfl)) (pe_lst pa_nil) (nomark _))
      (pss_one (ps_set (i := 4) sc_draw.nd rfl (Or.inl rfl) (pe_ix ix_list (pe_ix ix_list (pv 0) pe_int (fun _ _ => rfl)) (pe_op Lay.op_modP (pe_callTy Lay.call_intI (by rfl) T.n_int (by decide +kernel) (pa_cons (pv 3) pa_nil)) (pe_callB Lay.call_lenS (by rfl) T.n_len PySem.boot_len (pa_cons (pe_ix ix_list (pv 0) pe_int (fun _ _ => rfl)) pa_nil))) (fun _ _ => rfl))))
      pss_nil)
    (pss_cons (ps_if (PW.pt (pw_and (pt_cmpR op_lt (pv 3) (pe_callB Lay.call_lenS (by rfl) T.n_len PySem.boot_len (pa_cons (pe_ix ix_list (pv 0) pe_int (fun _ _ => rfl)) pa_nil)) (nomark _)) (pw_and1 (pt_cmpR op_ge (pe_callB Lay.call_absI (by rfl) T.n_abs (by decide +kernel) (pa_cons (pv 4) pa_nil)) (pe_op op_pow pe_int pe_int) (nomark _)))))
      (pss_cons (ps_set (i := 5) sc_draw.nd rfl (Or.inl rfl) (pe_op op_add (pe_op op_mul pe_int (pe_op op_sub (pe_callB Lay.call_absI (by rfl) T.n_abs (by decide +kernel) (pa_cons (pv 4) pa_nil)) (pe_op op_pow pe_int pe_int))) (pe_callTy Lay.call_intI (by rfl) T.n_int (by decide +kernel) (pa_cons (pe_cmpR op_lt (pv 4) pe_int (nomark _)) pa_nil))))
      (pss_cons (ps_asg (pe_op Lay.op_divP (pe_callTy Lay.call_intI (by rfl) T.n_int (by decide +kernel) (pa_cons (pv 5) pa_nil)) (pv 1)) (pg_sub (pv 0) pe_int set_list))
      (pss_one (ps_ret (pe_op Lay.op_modP (pe_callTy Lay.call_intI (by rfl) T.n_int (by decide +kernel) (pa_cons (pv 5) pa_nil)) (pv 1))))))
      pss_nil)
    (pss_cons (ps_set (i := 6) sc_draw.nd rfl (Or.inl rfl) (pe_op Lay.op_modP (pe_callTy Lay.call_intI (by rfl) T.n_int (by decide +kernel) (pa_cons (pe_op op_pow (pe_op op_add (pe_op op_add (pe_op Lay.op_modP (pe_callTy Lay.call_intI (by rfl) T.n_int (by decide +kernel) (pa_cons (pv 4) pa_nil)) pe_int) (pe_op op_mul pe_int (pv 3))) pe_int) pe_int) pa_nil)) pe_int))
    (pss_cons (ps_set (i := 6) sc_draw.nd rfl (Or.inl rfl) (pe_op Lay.op_modP (pe_callTy Lay.call_intI (by rfl) T.n_int (by decide +kernel) (pa_cons (pe_op op_pow (pe_op op_add (pe_op op_add (pe_op op_mul (pv 6) (pe_op op_add (pe_op op_mul pe_int (pv 3)) pe_int)) (pe_op op_mul (pe_op op_mul pe_int (pv 3)) (pv 3))) pe_int) pe_int) pa_nil)) pe_int))
    (pss_one (ps_ret (pe_op Lay.op_modP (pe_op Lay.op_divP (pe_callTy Lay.call_intI (by rfl) T.n_int (by decide +kernel) (pa_cons (pv 6) pa_nil)) pe_int) (pv 1)))))))))))), ?_⟩
    have pen : ∀ H' : Hp, ∀ b' l' : Int, H' p = some (.lst [.ref c, .int b', .int l']) → H' c = some (.lst (ns.map V.int)) → 0 ≤ b' → b' ≤ ((n + 1 : Nat) : Int) → 0 ≤ l' → Lay.PenAt c H' p (n + 1) :=
      fun H' b' l' e1 e2 e3 e4 e5 => ⟨ns, b', l', e1, e2, h3, e3, e4, e5⟩
    have keep1 : ∀ o, Lay.Keep p H (upd H p o) := fun o => Lay.Keep.upd
    walk_at "in"
    walk_at "rd"
    refine Lay.ite_d (fun c0 => ?_) (fun c0 => ?_)
    · walk_at "rd"
      refine Lay.rd_modP hm (fun d0 e0 d1 d2 => ?_)
      walk_at "rd"
      refine Lay.rd_divP ⟨hm, hm2⟩ (fun d3 e3 => ?_)
      walk_at "rd"
      exact k _ _ d1 d2 (pen _ _ _ upd_same (by rw [upd_ne hc]; exact h2) h4 (by omega) (by rw [e3]; exact Int.ediv_nonneg h6 (by omega))) (keep1 _)
    · walk_at "rd"
      have hc1 : ∀ o, upd H p o c = some (.lst (ns.map V.int)) := fun o => by rw [upd_ne hc]; exact h2
      refine ⟨fun σ' H' => ∃ v : Int, σ' = [some (V.ref p), some (V.int m), none, some (V.int b), some (V.int v), none, none] ∧ H' p = some (.lst [.ref c, .int (b + 1), .int l]) ∧ H' c = some (.lst (ns.map V.int)) ∧ Lay.Keep p H H', ?_, ?_⟩
      · walk_at "rd"
        refine ⟨by decide, fun q hq => ?_⟩
        have q1 : (upd (upd H p (HO.lst [V.ref c, V.int (b + 1), V.int l])) q (.lst [])) c = some (.lst (ns.map V.int)) := Lay.upd_old hq (hc1 _)
        have q2 : (upd (upd H p (HO.lst [V.ref c, V.int (b + 1), V.int l])) q (.lst [])) p = some (.lst [.ref c, .int (b + 1), .int l]) := Lay.upd_old hq upd_same
        have q3 : Lay.Keep p H (upd (upd H p (HO.lst [V.ref c, V.int (b + 1), V.int l])) q (.lst [])) := (keep1 _).trans (Lay.Keep.of (Lay.Same.upd hq))
        refine Lay.rd_ne_nil (SqL.of q1) (SqL.of upd_same) (fun hne => ?_) (fun hne => ?_)
        · walk_at "rd"
          refine iteT ?_
          walk_at "rd"
          have hl : 0 < (ns.map V.int).length := by
            cases ns with
            | nil => exact absurd rfl hne
            | cons a r => simp
          refine Lay.rd_modP (by omega) (fun d0 e0 d1 d2 => ?_)
          have hd : d0.toNat < ns.length := by rw [List.length_map] at d2; omega
          refine Lay.rd_ixL (SqL.of q1) (v := .int ns[d0.toNat]) ?_ ?_
          · exact Lay.atI_int d1 (by rw [List.getElem?_map, List.getElem?_eq_getElem hd]; rfl)
          walk_at "rd"
          exact ⟨_, rfl, q2, q1, q3⟩
        · walk_at "rd"
          refine iteF ?_
          walk_at "rd"
          exact ⟨_, rfl, q2, q1, q3⟩
      · rintro σ' H' ⟨v, rfl, p1, p2, p3⟩
        have fin : (tSeq
            (tAsg (tOp Lay.rModP (tCB Lay.rInt1 (tCons (tOp (rI CPow fun i j => V.int (i ^ j.toNat)) (tOp (rI0 fun i j => V.int (i + j)) (tOp (rI0 fun i j => V.int (i + j)) (tOp Lay.rModP (tCB Lay.rInt1 (tCons (tVar 4) tNil)) (tC (V.int 2147483579))) (tOp (rI CMul fun i j => V.int (i * j)) (tC (V.int 70429)) (tVar 3))) (tC (V.int 41))) (tC (V.int 5))) tNil)) (tC (V.int 2147483647))) (gName 6))
            (tSeq
            (tAsg (tOp Lay.rModP (tCB Lay.rInt1 (tCons (tOp (rI CPow fun i j => V.int (i ^ j.toNat)) (tOp (rI0 fun i j => V.int (i + j)) (tOp (rI0 fun i j => V.int (i + j)) (tOp (rI CMul fun i j => V.int (i * j)) (tVar 6) (tOp (rI0 fun i j => V.int (i + j)) (tOp (rI CMul fun i j => V.int (i * j)) (tC (V.int 2)) (tVar 3)) (tC (V.int 41)))) (tOp (rI CMul fun i j => V.int (i * j)) (tOp (rI CMul fun i j => V.int (i * j)) (tC (V.int 51109)) (tVar 3)) (tVar 3))) (tC (V.int 13))) (tC (V.int 3))) tNil)) (tC (V.int 2147483563))) (gName 6))
            (tRet (tOp Lay.rModP (tOp Lay.rDivP (tCB Lay.rInt1 (tCons (tVar 6) tNil)) (tC (V.int 32))) (tVar 1))))) { nx := fun x H' => Q V.non H', rt := Q } [some (V.ref p), some (V.int m), none, some (V.int b), some (V.int v), none, none] H' := by
          walk_at "rd"
          refine Lay.rd_modP (by decide) (fun d0 e0 d1 d2 => ?_)
          walk_at "rd"
          refine Lay.rd_modP (by decide) (fun d3 e3 d4 d5 => ?_)
          walk_at "rd"
          refine Lay.rd_I (Lay.mix_ok d4 (by omega) h4 (by omega) (by decide) (by decide) (by decide) (by decide) (by decide) (by decide) (by decide) (by decide)) ?_
          walk_at "rd"
          refine Lay.rd_modP (by decide) (fun d6 e6 d7 d8 => ?_)
          walk_at "rd"
          refine Lay.rd_divP ⟨by decide, by decide⟩ (fun d9 e9 => ?_)
          walk_at "rd"
          refine Lay.rd_modP hm (fun d10 e10 d11 d12 => ?_)
          exact k _ _ d11 d12 (pen _ _ _ p1 p2 (by omega) (by omega) h6) p3
        walk_at "rd"
        refine Lay.ite_d (fun c1 => ?_) (fun c1 => ?_)
        · walk_at "rd"
          refine Lay.ite_d (fun c2 => ?_) (fun c2 => ?_)
          · walk_at "rd"
            refine Lay.rd_divP ⟨hm, hm2⟩ (fun d3 e3 => ?_)
            walk_at "rd"
            refine Lay.rd_modP hm (fun d4 e4 d5 d6 => ?_)
            refine k _ _ d5 d6 (pen _ _ _ upd_same (by rw [upd_ne hc]; exact p2) (by omega) (by omega) ?_) (p3.trans Lay.Keep.upd)
            rw [e3]
            refine Int.ediv_nonneg ?_ (by omega)
            have : (0 : Int) ≤ (if decide (v < 0) = true then 1 else 0) := by split <;> decide
            have c2' : (10 : Int) ^ 18 ≤ (if v < 0 then -v else v) := c2
            have : (0 : Int) ≤ (if v < 0 then -v else v) - 10 ^ 18 := by omega
            show (0 : Int) ≤ 2 * ((if v < 0 then -v else v) - 10 ^ 18) + (if decide (v < 0) = true then 1 else 0)
            omega
          · exact fin
        · exact fin
theorem ok_good_step (T : Txt K mg A) (G_draw : FnOk P w K mg base CX0 1 A.a_draw A.d_draw ["_law_pen_here", "_law_many"] Lay.spDraw) : FnOk P w K mg base CX0 2 A.a_good_step A.d_good_step ["_law_pen_here", "_law_kind"] Lay.spGoodStep := by
  refine T.F_good_step.ok sc_good_step (fun vs H Q E h => ?_) (fun cdv A0 outer s H vs Q E hr h => ?_)
  · obtain ⟨p, k, n, c, rfl, _⟩ := h
    rfl
  · obtain ⟨p, k, n, c, rfl, hp, hn, q⟩ := h
    refine ⟨_, (pss_cons (ps_set (i := 2) sc_good_step.nd rfl (Or.inl rfl) (pe_lst (pa_cons pe_str (pa_cons pe_str (pa_cons pe_str (pa_cons pe_str (pa_cons pe_str (pa_cons pe_str (pa_cons pe_str (pa_cons pe_str (pa_cons pe_str (pa_cons pe_str (pa_cons pe_str pa_nil)))))))))))))
    (pss_cons (ps_set (i := 3) sc_good_step.nd rfl (Or.inl rfl) (pe_ix ix_list (pv 2) (pe_call G_draw (hr.mono (by decide)) rfl T.g_draw T.F_draw.kp T.b_draw .nil pass0 (pa_cons (pv 0) (pa_cons (pe_op op_sub pe_int (pe_op op_mul pe_int (pe_callTy Lay.call_intI (by rfl) T.n_int (by decide +kernel) (pa_cons (pe_cmpR op_eq (pv 1) pe_int (nomark _)) pa_nil)))) pa_nil))) (fun _ _ => rfl)))
    (pss_cons (ps_set (i := 4) sc_good_step.nd rfl (Or.inl rfl) (pe_op op_add_str pe_str (pe_slice sl_str pe_str po_none (po_some (pe_call G_draw (hr.mono (by decide)) rfl T.g_draw T.F_draw.kp T.b_draw .nil pass0 (pa_cons (pv 0) (pa_cons pe_int pa_nil)))))))
    (pss_cons (ps_if (pt_cmpR (Lay.op_inS hr.units) (pv 3) (pe_tup (pa_cons pe_str (pa_cons pe_str pa_nil))) rfl)
      (pss_one (ps_ret (pe_tup (pa_cons (pv 3) (pa_cons (pv 4) pa_nil)))))
      pss_nil)
    (pss_cons (ps_set (i := 5) sc_good_step.nd rfl (Or.inl rfl) (pe_call G_draw (hr.mono (by decide)) rfl T.g_draw T.F_draw.kp T.b_draw .nil pass0 (pa_cons (pv 0) (pa_cons pe_int pa_nil))))
    (pss_one (ps_ret (pe_tup (pa_cons (pv 3) (pa_cons (pv 4) (pa_cons (pe_call G_draw (hr.mono (by decide)) rfl T.g_draw T.F_draw.kp T.b_draw .nil pass0 (pa_cons (pv 0) (pa_cons pe_int pa_nil))) (pa_cons (pv 5) (pa_cons (pe_op op_add (pv 5) (pe_call G_draw (hr.mono (by decide)) rfl T.g_draw T.F_draw.kp T.b_draw .nil pass0 (pa_cons (pv 0) (pa_cons (pe_op op_sub pe_int (pv 5)) pa_nil)))) pa_nil))))))))))))), ?_⟩
    walk_at "in"
    walk_at "rd"
    refine ⟨by decide, fun a1 h1 => ?_⟩
    obtain ⟨xs0, hP⟩ := hp.at_
    have s1 := Lay.Same.upd (o := .lst (Lay.drawnWs.map V.str)) h1
    walk_at "rd"
    have hm : (if decide (k = 0) = true then (1 : Int) else 0) = (if k = 0 then 1 else 0) := by by_cases e : k = 0 <;> simp [e]
    rw [hm]
    have hm1 : (0 : Int) < 11 - 5 * (if k = 0 then 1 else 0) ∧ 11 - 5 * (if k = 0 then 1 else 0) < (1073741824 : Int) := by split <;> omega
    refine Lay.rd_draw hp s1 (by omega) hm1.1 hm1.2 (fun d H1 d1 d2 p1 k1 => ?_)
    obtain ⟨w', e1, hw, hcase⟩ := Lay.drawn_word d1 d2
    have kk1 := Lay.Same.keep s1 k1
    have q1 := k1 a1 _ (Lay.ne_none h1 hP) upd_same
    refine Lay.rd_ixL (SqL.of q1) (v := .str w') (Lay.atI_int d1 (by show (List.map V.str Lay.drawnWs)[d.toNat]? = _; rw [List.getElem?_map, e1]; rfl)) ?_
    walk_at "rd"
    refine Lay.rd_draw p1 (Same.refl _) (by omega) (by decide) (by decide) (fun d' H2 d3 d4 p2 k2 => ?_)
    walk_at "rd"
    refine ⟨_, rfl, by decide, ?_⟩
    obtain ⟨hz, hzl⟩ := Lay.abz_ok d3 d4
    refine ⟨_, _, rfl, rfl, hzl, ?_⟩
    generalize ("buf" : Str) ++ cutS "abz" none (some d') = z at hz ⊢
    walk_at "rd"
    refine ⟨by decide, fun a2 h2 => ?_⟩
    refine Lay.rd_inS (zs := ["post", "wait"]) (SqT.of upd_same) (.str w') ?_
    have kk2 := kk1.trans k2
    rcases hcase with ⟨hs, hi⟩ | ⟨hs, hi⟩
    · rw [hi]
      walk_at "it"
      refine ⟨by decide, fun a3 h3 => ?_⟩
      obtain ⟨xs2, hP2⟩ := p2.at_
      have s3 := (Lay.Same.upd h2).trans (Lay.Same.upd (o := .tup [.str w', .str z]) h3)
      exact q a3 [.str w', .str z] _ (kk2.none hP2 (Lay.none_of (Lay.Same.upd h2) h3)) upd_same (.inl ⟨_, _, rfl, hs, hw, hz⟩) ((p2.mono s3).le (by omega)) (kk2.trans (Lay.Keep.of s3))
    · rw [hi]
      walk_at "it"
      refine Lay.rd_draw p2 (Lay.Same.upd h2) (by omega) (by decide) (by decide) (fun d5 H3 d6 d7 p3 k3 => ?_)
      have kk3 := kk2.trans (Lay.Same.keep (Lay.Same.upd h2) k3)
      walk_at "rd"
      refine Lay.rd_draw p3 (Same.refl _) (by omega) (by decide) (by decide) (fun d8 H4 d9 d10 p4 k4 => ?_)
      walk_at "rd"
      refine Lay.rd_draw p4 (Same.refl _) (by omega) (by omega) (by omega) (fun d11 H5 d12 d13 p5 k5 => ?_)
      walk_at "rd"
      refine ⟨by decide, fun a3 h3 => ?_⟩
      obtain ⟨xs5, hP5⟩ := p5.at_
      have kk5 := (kk3.trans k4).trans k5
      exact q a3 [.str w', .str z, .int d8, .int d5, .int (d5 + d11)] _ (kk5.none hP5 h3) upd_same (.inr ⟨_, _, _, _, _, rfl, hs, hw, hz, by omega, by omega, by omega, by omega, by omega⟩) (p5.mono (Lay.Same.upd h3)) (kk5.trans (Lay.Keep.of (Lay.Same.upd h3)))
def clsK (A : Adr) (k : Int) : Addr := if k = 0 then A.c_Agent else if k = 1 then A.c_Through else A.c_Back
def spMadeK (K : PySem.W.Frag) (A : Adr) : Sp := fun vs H Q _ => ∃ (k : Int) (z : Str) (t : Addr) (xs : List V) (ls : List (List V)), vs = [.int k, .str z, .ref t] ∧ 0 ≤ k ∧ k ≤ 2 ∧ Lay.nameOk z = true ∧ (SqT K H t xs ∨ SqL K H t xs) ∧ Lay.RowsAt H xs ls ∧ 1 ≤ ls.length ∧ ls.length ≤ 24 ∧ (∀ l ∈ ls, Lay.GoodStep (Lay.wsK k) l) ∧
  ∀ x H', H x = none → Same H H' → Lay.AgAt (clsK A k) H' x z ls → Q (.ref x) H'
theorem ok_made (T : Txt K mg A) (G_Agent_made : FnOk P w K mg base CX0 8 A.a_Agent_made A.d_Agent_made ["cls", "name", "steps"] (Lay.spMade K A.c_Agent ["read", "write", "post", "wait"])) (G_Through_made : FnOk P w K mg base CX0 8 A.a_Through_made A.d_Through_made ["cls", "name", "steps"] (Lay.spMade K A.c_Through ["read", "write", "get", "put", "clean", "drop", "flush", "post", "wait"])) (G_Back_made : FnOk P w K mg base CX0 8 A.a_Back_made A.d_Back_made ["cls", "name", "steps"] (Lay.spMade K A.c_Back ["read", "write", "get", "put", "clean", "drop", "flush", "post", "wait"])) : FnOk P w K mg base CX0 9 A.a_made A.d_made ["_law_kind", "_law_called", "_law_handed"] (spMadeK K A) := by
  refine T.F_made.ok sc_made (fun vs H Q E h => ?_) (fun cdv A0 outer s H vs Q E hr h => ?_)
  · obtain ⟨k, z, t, xs, ls, rfl, _⟩ := h
    rfl
  · obtain ⟨k, z, t, xs, ls, rfl, k0, k2, hz, ht, hx, l1, l2, hg, q⟩ := h
    refine ⟨_, (pss_cons (ps_if (pt_cmpR op_eq (pv 0) pe_int (nomark _))
      (pss_one (ps_ret (ClX.pe_cmeth (pe_glob (v := .ref A.c_Agent) rfl T.g_Agent rfl) T.cr_Agent T.cm_Agent_made.choose_spec (Lay.fnR_of G_Agent_made T.b_Agent_made) (hr.mono (by decide)) pass0 (pa_cons (pv 1) (pa_cons (pv 2) pa_nil)))))
      pss_nil)
    (pss_cons (ps_if (pt_cmpR op_eq (pv 0) pe_int (nomark _))
      (pss_one (ps_ret (ClX.pe_cmeth (pe_glob (v := .ref A.c_Through) rfl T.g_Through rfl) T.cr_Through T.cm_Through_made.choose_spec (Lay.fnR_of G_Through_made T.b_Through_made) (hr.mono (by decide)) pass0 (pa_cons (pv 1) (pa_cons (pv 2) pa_nil)))))
      pss_nil)
    (pss_one (ps_ret (ClX.pe_cmeth (pe_glob (v := .ref A.c_Back) rfl T.g_Back rfl) T.cr_Back T.cm_Back_made.choose_spec (Lay.fnR_of G_Back_made T.b_Back_made) (hr.mono (by decide)) pass0 (pa_cons (pv 1) (pa_cons (pv 2) pa_nil))))))), ?_⟩
    walk_at "in"
    walk_at "rd"
    refine Lay.ite_d (fun c0 => ?_) (fun c0 => ?_)
    · have e1 : Lay.wsK k = Lay.plainWs := if_pos c0
      have e2 : clsK A k = A.c_Agent := if_pos c0
      rw [e1] at hg
      rw [e2] at q
      walk_at "rd"
      refine Lay.rd_cmeth ?_
      walk_at "rd"
      refine ⟨rfl, ?_⟩
      walk_at "rd"
      exact ⟨z, t, xs, ls, rfl, hz, ht, hx, l1, l2, hg, q⟩
    · have e1 : Lay.wsK k = Lay.cacheWs := if_neg c0
      rw [e1] at hg
      walk_at "rd"
      refine Lay.ite_d (fun c1 => ?_) (fun c1 => ?_)
      · have e2 : clsK A k = A.c_Through := (if_neg c0).trans (if_pos c1)
        rw [e2] at q
        walk_at "rd"
        refine Lay.rd_cmeth ?_
        walk_at "rd"
        refine ⟨rfl, ?_⟩
        walk_at "rd"
        exact ⟨z, t, xs, ls, rfl, hz, ht, hx, l1, l2, hg, q⟩
      · have e2 : clsK A k = A.c_Back := (if_neg c0).trans (if_neg c1)
        rw [e2] at q
        walk_at "rd"
        refine Lay.rd_cmeth ?_
        walk_at "rd"
        refine ⟨rfl, ?_⟩
        walk_at "rd"
        exact ⟨z, t, xs, ls, rfl, hz, ht, hx, l1, l2, hg, q⟩
def kindS (k : Int) : Str := if k = 0 then "plain" else if k = 1 then "through" else "back"
theorem ag_K (T : Txt K mg A) (k : Int) : Lay.AgC K (clsK A k) (kindS k) := by
  unfold clsK kindS
  by_cases c0 : k = 0
  · rw [if_pos c0, if_pos c0]; exact T.ag_Agent
  · rw [if_neg c0, if_neg c0]
    by_cases c1 : k = 1
    · rw [if_pos c1, if_pos c1]; exact T.ag_Through
    · rw [if_neg c1, if_neg c1]; exact T.ag_Back
def OwnK (P : Program) (w : World) (K : PySem.W.Frag) (mg : Str → Option Value) (base : Heap) (C : Addr) (name : Str) (sp : Sp) : Prop :=
  ∃ f fd ps, FnOk P w K mg base CX0 1 f fd ps sp ∧ Binds K fd ps [] ∧ PySem.W.findIn K (.ref C) name = some (some (.ref f)) ∧ PySem.W.isFn K (.ref f) = true ∧ (name = "__getitem__" → PySem.W.fnIn K f = true)
theorem own_K {name : Str} {sp : Addr → Sp} (h0 : OwnK P w K mg base A.c_Agent name (sp A.c_Agent)) (h1 : OwnK P w K mg base A.c_Through name (sp A.c_Through)) (h2 : OwnK P w K mg base A.c_Back name (sp A.c_Back)) (k : Int) : OwnK P w K mg base (clsK A k) name (sp (clsK A k)) := by
  unfold clsK
  by_cases c0 : k = 0
  · rw [if_pos c0]; exact h0
  · rw [if_neg c0]
    by_cases c1 : k = 1
    · rw [if_pos c1]; exact h1
    · rw [if_neg c1]; exact h2
theorem len_K (T : Txt K mg A) (k : Int) : OwnK P w K mg base (clsK A k) "__len__" (Lay.spLen (clsK A k)) :=
  own_K (sp := Lay.spLen) ⟨_, _, _, ok_Agent_len T, T.b_Agent_len, T.fi_Agent_len, T.fo_Agent_len, fun e => by cases e⟩ ⟨_, _, _, ok_Through_len T, T.b_Through_len, T.fi_Through_len, T.fo_Through_len, fun e => by cases e⟩ ⟨_, _, _, ok_Back_len T, T.b_Back_len, T.fi_Back_len, T.fo_Back_len, fun e => by cases e⟩ k
theorem get_K (T : Txt K mg A) (k : Int) : OwnK P w K mg base (clsK A k) "__getitem__" (Lay.spGet (clsK A k)) :=
  own_K (sp := Lay.spGet) ⟨_, _, _, ok_Agent_getitem T, T.b_Agent_getitem, T.fi_Agent_getitem, T.fo_Agent_getitem, fun _ => T.fg_Agent⟩ ⟨_, _, _, ok_Through_getitem T, T.b_Through_getitem, T.fi_Through_getitem, T.fo_Through_getitem, fun _ => T.fg_Through⟩ ⟨_, _, _, ok_Back_getitem T, T.b_Back_getitem, T.fi_Back_getitem, T.fo_Back_getitem, fun _ => T.fg_Back⟩ k
theorem kind_at {k : Int} (k0 : 0 ≤ k) (k2 : k ≤ 2) : atI [V.str "plain", V.str "through", V.str "back"] k = some (.str (kindS k)) := by
  obtain rfl | rfl | rfl : k = 0 ∨ k = 1 ∨ k = 2 := by omega
  all_goals rfl
/-- what is asked of an agent that has these steps: True -/
def spHas (K : PySem.W.Frag) (A : Adr) : Sp := fun vs H Q _ => ∃ a k z t ys ls, vs = [.ref a, .int k, .str z, .ref t] ∧ 0 ≤ k ∧ k ≤ 2 ∧ Lay.AgAt (clsK A k) H a z ls ∧ H t = some (.lst ys) ∧ Lay.RowsAt H ys ls ∧ ls.length ≤ 24 ∧ (∀ l ∈ ls, l.all Lay.isFlat = true) ∧ ∀ H', Same H H' → Q (.bl true) H'
theorem ok_has (T : Txt K mg A) : FnOk P w K mg base CX0 9 A.a_has A.d_has ["_law_agent", "_law_kind", "_law_called", "_law_wanted"] (spHas K A) := by
  refine T.F_has.ok sc_has (fun vs H Q E h => ?_) (fun cdv A0 outer s H vs Q E hr h => ?_)
  · obtain ⟨a, k, z, t, ys, ls, rfl, _⟩ := h
    rfl
  · obtain ⟨a, k, z, t, ys, ls, rfl, k0, k2, ha, ht, hx, l2, hfl, q⟩ := h
    refine ⟨_, (pss_cons (ps_if (PW.pt (pw_or (pt_cmpR op_ne (pe_con (pv 0) rfl) (pe_ix ix_list (pe_lst (pa_cons pe_str (pa_cons pe_str (pa_cons pe_str pa_nil)))) (pv 1) (fun _ _ => rfl)) (nomark _)) (pw_or (pt_cmpR op_ne (pe_fld (pv 0) rfl) (pv 2) (nomark _)) (pw_or1 (pt_cmpR (op_neD hr.units) (pe_fld (pv 0) rfl) (pe_callTy Lay.call_tupS (by rfl) T.n_tuple (by decide +kernel) (pa_cons (pv 3) pa_nil)) (nomark _))))))
      (pss_one (ps_ret pe_bl))
      pss_nil)
    (pss_cons (ps_if (PW.pt (pw_or (pt_not (pt_val (pe_callB call_isi (by rfl) T.n_isinstance (by decide +kernel) (pa_cons (pe_fld (pv 0) rfl) (pa_cons (pe_bltn (v := .ty "tuple") (by rfl) T.n_tuple (by decide +kernel) rfl) pa_nil))))) (pw_or1 (pt_cmpR op_ne (pe_callB OwnC.call_lenF (by rfl) T.n_len PySem.boot_len (pa_cons (pv 0) pa_nil)) (pe_callB Lay.call_lenS (by rfl) T.n_len PySem.boot_len (pa_cons (pv 3) pa_nil)) (nomark _)))))
      (pss_one (ps_ret pe_bl))
      pss_nil)
    (pss_one (ps_ret (pe_cmpR (op_eqD hr.units) (pe_lc (own := [("_law_k", 4)]) (g := gName 4) (tt := tYes) rfl sc_has.nd (pi_range1 rfl T.n_range (pa_cons (pe_callB Lay.call_lenS (by rfl) T.n_len PySem.boot_len (pa_cons (pv 3) pa_nil)) pa_nil)) (blkOk_by (own := [("_law_k", 4)]) (N := ["_law_agent", "_law_kind", "_law_called", "_law_wanted", "_law_k"]) (sc := defScope s_has) (by decide +kernel)) (fun _ _ _ _ _ => pg_name (i := 4) sc_has.nd rfl (Or.inl rfl)) (fun _ _ _ _ _ => pts_nil) (fun _ _ _ _ _ => (OwnC.pe_subF (n := 1) P w K mg base (hr.mono (by decide)) (pv 0) (pv 4)))) (pe_callTy Lay.call_listS (by rfl) T.n_list (by decide +kernel) (pa_cons (pv 3) pa_nil)) (nomark _)))))), ?_⟩
    walk_at "in"
    walk_at "rd"
    obtain ⟨dx, t1, xs1, e1, e2, e3⟩ := id ha
    have ac := ag_K T k
    obtain ⟨_, co⟩ := ac.co
    refine Lay.rd_tCon ?_
    walk_at "rd"
    refine ⟨a, _, dx, _, .str (kindS k), _, rfl, e1, ac.cl, co, by rfl, ?_⟩
    walk_at "rd"
    refine ⟨by decide, fun a1 h1 => ?_⟩
    walk_at "rd"
    refine Lay.rd_ixL (SqL.of upd_same) (kind_at k0 k2) ?_
    refine Lay.rd_neSs ?_
    walk_at "it"
    refine Lay.rd_tFld ?_
    walk_at "rd"
    refine ⟨a, _, dx, _, .str z, rfl, (by walk_at "hp"), ac.cl, ac.nm, by rfl, ?_⟩
    walk_at "rd"
    rw [decide_eq_true (rfl : z = z)]
    walk_at "it"
    refine Lay.rd_tFld ?_
    walk_at "rd"
    refine ⟨a, _, dx, _, .ref t1, rfl, (by walk_at "hp"), ac.cl, ac.st, by rfl, ?_⟩
    walk_at "rd"
    refine Lay.rd_tupL (SqL.of (by walk_at "hp")) (fun a2 h2 => ?_)
    refine Lay.rd_neT (by walk_at "hp") (e3.mono (by walk_at "sm")) hfl upd_same (hx.mono (by walk_at "sm")) ?_
    walk_at "it"
    refine Lay.rd_tFld ?_
    walk_at "rd"
    refine ⟨a, _, dx, _, .ref t1, rfl, (by walk_at "hp"), ac.cl, ac.st, by rfl, ?_⟩
    walk_at "rd"
    refine Lay.rd_isiV .tuple true (.tup (by walk_at "hp")) rfl ?_
    walk_at "it"
    obtain ⟨f1, fd1, ps1, F1, hb1, hs1, hf1, _⟩ := len_K (P := P) (w := w) (base := base) T k
    refine ⟨a, _, dx, _, CX0, 1, _, E0, rfl, (by walk_at "hp"), ⟨⟨f1, fd1, ps1, F1, hb1, hs1, hf1⟩, pass0⟩, hr.mono (by decide), a, z, ls, rfl, ha.mono (by walk_at "sm"), ls.length, rfl, by omega, ?_⟩
    walk_at "rd"
    have el : (ls.length : Int) = (ys.length : Int) := by rw [hx.len]
    rw [decide_eq_true el]
    walk_at "it"
    have hyl := hx.len
    refine ⟨_, rfl, by omega, by omega, ?_⟩
    have S2 : Same H (upd (upd H a1 (.lst [.str "plain", .str "through", .str "back"])) a2 (.tup ys)) := by walk_at "sm"
    generalize upd (upd H a1 (.lst [.str "plain", .str "through", .str "back"])) a2 (.tup ys) = Hb at S2 ⊢
    intro D hD
    obtain ⟨f2, fd2, ps2, F2, hb2, hs2, hf2, hfn⟩ := get_K (P := P) (w := w) (base := base) T k
    refine Lay.lc_go (walk_range (lo := 0) (n := ((ys.length : Int)).toNat)) (fun i l H' => Same Hb H' ∧ Lay.RowsAt H' l (ls.take i)) ⟨Lay.Same.upd hD, .nil⟩ (fun _ _ _ _ _ => trivial) ?_ ?_
    · rintro i l x H2 H3 hi hl' hz' ⟨r1, r2⟩ hy
      obtain ⟨rfl, rfl⟩ := hy
      have hi2 : i < ls.length := by omega
      walk_at "rd"
      refine ⟨rfl, ?_⟩
      walk_at "it"
      rw [Int.zero_add]
      refine ⟨a, _, dx, _, f2, fd2, ps2, _, rfl, r1 _ _ (S2 _ _ e1), F2, hb2, hs2, hf2, hfn rfl, a, z, ls, i, ls[i], rfl, (ha.mono S2).mono r1, List.getElem?_eq_getElem hi2, fun pp hpp => ?_⟩
      refine Lay.lc_put hl' hz' (by omega) ⟨fun b o hb => ?_, ?_⟩
      · rw [upd_ne (fun y => by subst y; rw [hD] at hb; cases hb)]
        exact r1 _ _ hb
      · rw [Lay.take_succ (List.getElem?_eq_getElem hi2)]
        exact (r2.updL hl').append (.cons (by rw [upd_ne (fun y => by subst y; rw [hl'] at hpp; cases hpp)]; exact hpp) .nil)
    · rintro l H4 hl' hz' ⟨r1, r2⟩
      have S4 := S2.trans r1
      rw [List.take_of_length_le (by omega)] at r2
      walk_at "rd"
      refine Lay.rd_listL (SqL.of (S4 _ _ ht)) (fun a9 h9 => ?_)
      refine Lay.rd_eqL (Lay.upd_old h9 hl') (r2.mono (Lay.Same.upd h9)) hfl upd_same ((hx.mono S4).mono (Lay.Same.upd h9)) ?_
      exact q _ (S4.trans (Lay.Same.upd h9))
theorem ok_other_kind (T : Txt K mg A) : FnOk P w K mg base CX0 1 A.a_other_kind A.d_other_kind ["_law_kind", "_law_steps_here"] Lay.spOther := by
  refine T.F_other_kind.ok sc_other_kind (fun vs H Q E h => ?_) (fun cdv A0 outer s H vs Q E hr h => ?_)
  · obtain ⟨k, t, ys, ls, rfl, _⟩ := h
    rfl
  · obtain ⟨k, t, ys, ls, rfl, k0, k2, ht, hx, l2, hg, q⟩ := h
    refine ⟨_, (pss_cons (ps_if (pt_cmpR (op_eqD hr.units) (pe_lc (own := [("_law_step", 2)]) (g := gName 2) rfl sc_other_kind.nd (pi_list (pv 1)) (blkOk_by (own := [("_law_step", 2)]) (N := ["_law_kind", "_law_steps_here", "_law_step"]) (sc := defScope s_other_kind) (by decide +kernel)) (fun _ _ _ _ _ => pg_name (i := 2) sc_other_kind.nd rfl (Or.inl rfl)) (fun _ _ _ _ _ => pts_one (pt_cmpR (show OpR _ (compareOp .NotIn) (Lay.rNotInS K) from Lay.op_notInS hr.units) (pe_ix (r := rIxT K) ix_tup (pv 2) pe_int (fun _ _ => rfl)) (pe_tup (pa_cons pe_str (pa_cons pe_str (pa_cons pe_str (pa_cons pe_str pa_nil))))) rfl)) (fun _ _ _ _ _ => (pv 2))) (pe_lst pa_nil) (nomark _))
      (pss_one (ps_ret (pe_ix ix_list (pe_lst (pa_cons pe_int (pa_cons pe_int (pa_cons pe_int pa_nil)))) (pv 0) (fun _ _ => rfl))))
      pss_nil)
    (pss_one (ps_ret (pe_op op_sub pe_int (pv 0))))), ?_⟩
    walk_at "in"
    walk_at "rd"
    refine ⟨⟨ys, SqL.of ht⟩, ?_⟩
    intro D hD
    have hyl := hx.len
    refine Lay.lc_go (walk_list (xs := ys)) (fun i l H' => Same H H' ∧ ∃ ms, Lay.RowsAt H' l ms ∧ (∀ m ∈ ms, m.all Lay.isFlat = true) ∧ (ms = [] → ∀ x ∈ ls.take i, Lay.plainRow x) ∧ (k = 0 → ms = []))
      ⟨Lay.Same.upd hD, [], .nil, (by intro _ m; cases m), (fun _ x m => by rw [List.take_zero] at m; cases m), fun _ => rfl⟩ (fun i l H' _ r => SqL.of (r.1 _ _ ht)) ?_ ?_
    · rintro i l x H2 H3 hi hl' hz' ⟨r1, ms, r2, r3, r4, r5⟩ hy
      have hi2 : i < ls.length := by omega
      obtain ⟨pp, g1, g2⟩ := (hx.mono r1).get (List.getElem?_eq_getElem hi2)
      obtain ⟨wd, rr, g3, g4⟩ := (hg _ (List.getElem_mem hi2)).head
      obtain ⟨rfl, hx1⟩ := hy
      rw [g1] at hx1
      cases hx1
      walk_at "rd"
      refine ⟨rfl, ?_⟩
      walk_at "rd"
      refine Lay.rd_ixT (SqT.of g2) (v := .str wd) (Lay.atI_int (by decide) (by rw [g3]; rfl)) ?_
      walk_at "rd"
      refine ⟨by decide, fun a2 h2 => ?_⟩
      refine Lay.rd_notInS (zs := ["read", "write", "post", "wait"]) (SqT.of upd_same) (.str wd) ?_
      walk_at "rd"
      have s2 := Lay.Same.upd (o := .tup [.str "read", .str "write", .str "post", .str "wait"]) h2
      have hl2 := Lay.upd_old (o := .tup [.str "read", .str "write", .str "post", .str "wait"]) h2 hl'
      have r1' := r1.trans s2
      refine Lay.ite_nb (fun hb => ?_) (fun hb => ?_)
      · walk_at "rd"
        refine Lay.lc_put hl2 hz' (by omega) ⟨fun b o hb2 => ?_, ms ++ [ls[i]], ?_, ?_, ?_, ?_⟩
        · rw [upd_ne (fun y => by subst y; rw [hD] at hb2; cases hb2)]
          exact r1' _ _ hb2
        · refine ((r2.mono s2).updL hl2).append (.cons ?_ .nil)
          rw [upd_ne (fun y => by subst y; rw [hl'] at g2; cases g2)]
          exact s2 _ _ g2
        · intro m hm
          rcases List.mem_append.mp hm with hm | hm
          · exact r3 m hm
          · rw [List.mem_singleton] at hm
            subst hm
            exact (hg _ (List.getElem_mem hi2)).flat
        · intro e
          simp at e
        · intro e
          have e2 : Lay.wsK k = Lay.plainWs := if_pos e
          rw [e2] at g4
          exact absurd g4 (Lay.of_inStrs hb)
      · refine Lay.lc_skip hl2 hz' ⟨r1', ms, r2.mono s2, r3, fun e x m => ?_, r5⟩
        rw [Lay.take_succ (List.getElem?_eq_getElem hi2)] at m
        rcases List.mem_append.mp m with m | m
        · exact r4 e x m
        · rw [List.mem_singleton] at m
          subst m
          exact ⟨wd, rr, g3, by
            have h3 : (Lay.plainWs.contains wd) = true := hb
            exact List.contains_iff_mem.mp h3⟩
    · rintro l H4 hl' hz' ⟨r1, ms, r2, r3, r4, r5⟩
      walk_at "rd"
      refine ⟨by decide, fun a2 h2 => ?_⟩
      refine Lay.rd_eqL0 (Lay.upd_old h2 hl') (r2.mono (Lay.Same.upd h2)) r3 upd_same ?_
      have S2 := r1.trans (Lay.Same.upd (o := .lst []) h2)
      walk_at "rd"
      refine Lay.ite_d (fun c0 => ?_) (fun c0 => ?_)
      · have hpl := r4 c0
        rw [List.take_of_length_le (by omega)] at hpl
        walk_at "rd"
        refine ⟨by decide, fun a3 h3 => ?_⟩
        have S3 := S2.trans (Lay.Same.upd (o := .lst [.int 2, .int 0, .int 1]) h3)
        obtain rfl | rfl | rfl : k = 0 ∨ k = 1 ∨ k = 2 := by omega
        · walk_at "rd"
          exact q 2 _ S3 (by decide) (by decide) (Lay.other_good k0 k2 hg hpl 2)
        · walk_at "rd"
          exact q 0 _ S3 (by decide) (by decide) (Lay.other_good k0 k2 hg hpl 0)
        · walk_at "rd"
          exact q 1 _ S3 (by decide) (by decide) (Lay.other_good k0 k2 hg hpl 1)
      · have hk : k ≠ 0 := fun e => c0 (r5 e)
        walk_at "rd"
        have e1 : Lay.wsK k = Lay.cacheWs := if_neg hk
        have e2 : Lay.wsK (3 - k) = Lay.cacheWs := if_neg (by omega)
        exact q (3 - k) _ S2 (by omega) (by omega) (by rw [e2]; rw [e1] at hg; exact hg)
theorem ok_bent (T : Txt K mg A) (G_draw : FnOk P w K mg base CX0 1 A.a_draw A.d_draw ["_law_pen_here", "_law_many"] Lay.spDraw) (G_other_kind : FnOk P w K mg base CX0 1 A.a_other_kind A.d_other_kind ["_law_kind", "_law_steps_here"] Lay.spOther) : FnOk P w K mg base CX0 2 A.a_bent A.d_bent ["_law_pen_here", "_law_kind", "_law_called", "_law_handed"] Lay.spBent := by
  refine T.F_bent.ok sc_bent (fun vs H Q E h => ?_) (fun cdv A0 outer s H vs Q E hr h => ?_)
  · obtain ⟨p, n, c, k, z, t, ys, ls, rfl, _⟩ := h
    rfl
  · obtain ⟨p, n, c, k, z, t, ys, ls, rfl, hp, hn, k0, k2, hz, hzx, ht, hx, l1, l2, hg, q⟩ := h
    refine ⟨_, (pss_cons (ps_set (i := 4) sc_bent.nd rfl (Or.inl rfl) (pe_call G_draw (hr.mono (by decide)) rfl T.g_draw T.F_draw.kp T.b_draw .nil pass0 (pa_cons (pv 0) (pa_cons pe_int pa_nil))))
    (pss_cons (ps_set (i := 5) sc_bent.nd rfl (Or.inl rfl) (pe_callTy Lay.call_listS (by rfl) T.n_list (by decide +kernel) (pa_cons (pv 3) pa_nil)))
    (pss_cons (ps_if (pt_cmpR op_eq (pv 4) pe_int (nomark _))
      (pss_one (ps_set (i := 2) sc_bent.nd rfl (Or.inl rfl) (pe_op op_add_str (pv 2) pe_str)))
      (pss_one (ps_if (pt_cmpR op_eq (pv 4) pe_int (nomark _))
        (pss_one (ps_asg (pe_tup (pa_cons pe_str (pa_cons pe_str pa_nil))) (pg_sub (pv 5) (pe_call G_draw (hr.mono (by decide)) rfl T.g_draw T.F_draw.kp T.b_draw .nil pass0 (pa_cons (pv 0) (pa_cons (pe_callB Lay.call_lenS (by rfl) T.n_len PySem.boot_len (pa_cons (pv 5) pa_nil)) pa_nil))) set_list)))
        (pss_one (ps_if (pt_cmpR op_eq (pv 4) pe_int (nomark _))
          (pss_one (ps_set (i := 5) sc_bent.nd rfl (Or.inl rfl) (pe_op op_cat (pe_slice sl_list (pv 5) (po_some pe_int) po_none) (pe_slice sl_list (pv 5) po_none (po_some pe_int)))))
          (pss_one (ps_if (pt_cmpR op_eq (pv 4) pe_int (nomark _))
            (pss_one (ps_set (i := 1) sc_bent.nd rfl (Or.inl rfl) (pe_call G_other_kind (hr.mono (by decide)) rfl T.g_other_kind T.F_other_kind.kp T.b_other_kind .nil pass0 (pa_cons (pv 1) (pa_cons (pv 5) pa_nil)))))
            pss_nil)))))))
    (pss_one (ps_ret (pe_lst (pa_cons (pv 1) (pa_cons (pv 2) (pa_cons (pv 5) pa_nil))))))))), ?_⟩
    walk_at "in"
    walk_at "rd"
    refine Lay.rd_draw hp (L2.Same.refl _) (by omega) (by decide) (by decide) (fun d H1 d1 d2 p1 k1 => ?_)
    obtain ⟨xs0, hP⟩ := hp.at_
    have tp := Lay.rows_pen hp ht hx
    have ht1 := k1 _ _ tp ht
    have hx1 := hx.keep hP k1
    walk_at "rd"
    refine Lay.rd_listL (SqL.of ht1) (fun t1 h1 => ?_)
    walk_at "rd"
    have s1 := Lay.Same.upd (o := .lst ys) h1
    have hx2 := hx1.mono s1
    have p2 := p1.mono s1
    have kk := k1.trans (Lay.Keep.of s1)
    obtain ⟨xs1, hP1⟩ := p1.at_
    have t1n : H t1 = none := k1.none hP1 h1
    have t1c : t1 ≠ c := Lay.rows_cell p2 upd_same hx2 l1
    have t1p : t1 ≠ p := Lay.rows_pen p2 upd_same hx2
    have h12 : (upd H1 t1 (.lst ys)) t1 = some (.lst ys) := upd_same
    generalize upd H1 t1 (.lst ys) = H2 at p2 kk hx2 h12 ⊢
    clear s1 h1 p1 k1 ht1 hx1 hP hP1 hp ht hx
    have hyl := hx2.len
    refine Lay.ite_d (fun c1 => ?_) (fun c1 => ?_)
    · walk_at "rd"
      refine ⟨_, _, rfl, rfl, ?_, ?_⟩
      · have h8 := (Lay.nameOk_len hz).2
        have h9 : ("x" : Str).length = 1 := by decide +kernel
        have h10 : (9 : Nat) ≤ sizeLine := by decide
        omega
      walk_at "rd"
      refine ⟨by decide, fun r hr1 => ?_⟩
      have s3 := Lay.Same.upd (o := .lst [.int k, .str (z ++ "x"), .ref t1]) hr1
      exact q r k (z ++ "x") t1 ys ls _ ((p2.mono s3).le (by omega)) (kk.trans (Lay.Keep.of s3)) ⟨upd_same, s3 _ _ h12, hx2.mono s3⟩ k0 k2 hzx rfl hg
    · walk_at "rd"
      refine Lay.ite_d (fun c2 => ?_) (fun c2 => ?_)
      · walk_at "rd"
        refine ⟨by decide, fun a2 h2 => ?_⟩
        walk_at "rd"
        obtain ⟨xs2, hP2⟩ := p2.at_
        have s2 := Lay.Same.upd (o := .tup [.str "post", .str "other"]) h2
        refine Lay.rd_draw p2 s2 (by omega) (by omega) (by omega) (fun d3 H3 d4 d5 p3 k3 => ?_)
        have e1 := k3 t1 _ t1p (s2 _ _ h12)
        have e2 := k3 a2 _ (Lay.ne_none h2 hP2) upd_same
        have hx3 := (hx2.mono s2).keep (s2 _ _ hP2) k3
        refine Lay.rd_setL e1 (Lay.ixN_nat d4 d5) ?_
        walk_at "rd"
        refine ⟨by decide, fun r hr1 => ?_⟩
        have e3 : (upd H3 t1 (.lst (ys.set d3.toNat (.ref a2)))) a2 = some (.tup [.str "post", .str "other"]) := by
          rw [upd_ne (fun y => by subst y; rw [e1] at e2; cases e2)]
          exact e2
        have hx4 := Lay.RowsAt.set e3 (hx3.updL (l' := ys.set d3.toNat (.ref a2)) e1) d3.toNat
        have s4 := Lay.Same.upd (o := .lst [.int k, .str z, .ref t1]) hr1
        refine q r k z t1 _ _ _ ((p3.other t1p t1c).mono s4) ?_ ⟨upd_same, s4 _ _ upd_same, hx4.mono s4⟩ k0 k2 hz (by rw [List.length_set]) (fun l m => ?_)
        · intro b o hb hH
          have hb1 : b ≠ t1 := fun y => by subst y; rw [t1n] at hH; cases hH
          refine s4 _ _ ?_
          rw [upd_ne hb1]
          exact k3 b o hb (s2 _ _ (kk b o hb hH))
        · rcases Lay.mem_set m with rfl | m
          · exact Lay.good_post k
          · exact hg l m
      · walk_at "rd"
        refine Lay.ite_d (fun c3 => ?_) (fun c3 => ?_)
        · walk_at "rd"
          refine Lay.rd_slL (SqL.of h12) (fun r1 hr1 => ?_)
          rw [Lay.cut_from (by omega)]
          walk_at "rd"
          refine Lay.rd_slL (SqL.of (Lay.upd_old hr1 h12)) (fun r2 hr2 => ?_)
          rw [Lay.cut_to (by omega)]
          refine Lay.rd_cat (by walk_at "hp") upd_same (by rw [List.length_drop, List.length_take]; exact Nat.le_trans (show _ ≤ 24 by omega) (by decide)) (fun r3 hr3 => ?_)
          walk_at "rd"
          refine ⟨by decide, fun r hr4 => ?_⟩
          have s3 : Same H2 (upd (upd (upd (upd H2 r1 (.lst (ys.drop 1))) r2 (.lst (ys.take 1))) r3 (.lst (ys.drop 1 ++ ys.take 1))) r (.lst [.int k, .str z, .ref r3])) := by walk_at "sm"
          have hr5 := (hx2.drop 1).append (hx2.take 1)
          refine q r k z r3 _ _ _ ((p2.mono s3).le (by omega)) (kk.trans (Lay.Keep.of s3)) ⟨upd_same, Lay.upd_old hr4 upd_same, hr5.mono s3⟩ k0 k2 hz (by rw [List.length_append, List.length_drop, List.length_take]; omega) (fun l m => ?_)
          rcases List.mem_append.mp m with m | m
          · exact hg l (List.mem_of_mem_drop m)
          · exact hg l (List.mem_of_mem_take m)
        · walk_at "rd"
          refine Lay.ite_d (fun c4 => ?_) (fun c4 => ?_)
          · walk_at "rd"
            refine ⟨k, t1, ys, ls, rfl, k0, k2, h12, hx2, l2, hg, fun k' H3 s3 g0 g2 hg' => ?_⟩
            walk_at "rd"
            refine ⟨by decide, fun r hr1 => ?_⟩
            have s4 := s3.trans (Lay.Same.upd (o := .lst [.int k', .str z, .ref t1]) hr1)
            exact q r k' z t1 ys ls _ ((p2.mono s4).le (by omega)) (kk.trans (Lay.Keep.of s4)) ⟨upd_same, s4 _ _ h12, hx2.mono s4⟩ g0 g2 hz rfl hg'
          · walk_at "rd"
            refine ⟨by decide, fun r hr1 => ?_⟩
            have s3 := Lay.Same.upd (o := .lst [.int k, .str z, .ref t1]) hr1
            exact q r k z t1 ys ls _ ((p2.mono s3).le (by omega)) (kk.trans (Lay.Keep.of s3)) ⟨upd_same, s3 _ _ h12, hx2.mono s3⟩ k0 k2 hz rfl hg
theorem eq_K {X : Cx} (T : Txt X.K X.mg A) (hr : Room 1 X.A) {k k' : Int} (k0 : 0 ≤ k) (k2 : k ≤ 2) (g0 : 0 ≤ k') (g2 : k' ≤ 2) {H : Hp} {a b : Addr} {z z' : Str} {ls ls' : List (List V)} {Q : VK}
    (ha : Lay.AgAt (clsK A k) H a z ls) (hb : Lay.AgAt (clsK A k') H b z' ls') (f1 : ∀ l ∈ ls, l.all Lay.isFlat = true) (f2 : ∀ l ∈ ls', l.all Lay.isFlat = true)
    (q : Q (.bl ((decide (k = k') && (decide (z = z') && decide (ls = ls'))))) H) : OwnC.rEqF X (.ref a) (.ref b) H Q := by
  obtain ⟨dx, t, xs, h1, _⟩ := id ha
  obtain ⟨dy, u, ys, h2, _⟩ := id hb
  obtain rfl | rfl | rfl : k = 0 ∨ k = 1 ∨ k = 2 := by omega
  · obtain rfl | rfl | rfl : k' = 0 ∨ k' = 1 ∨ k' = 2 := by omega
    · exact .inl ⟨a, A.c_Agent, dx, _, .ref A.c_Agent, CX0, 1, _, E0, rfl, h1, .ins h2, (by simp [PySem.W.notFirst]), ⟨⟨A.a_Agent_eq, A.d_Agent_eq, _, ok_Agent_eq (P := X.prog) (w := X.w) (base := X.base) T, T.b_Agent_eq, T.fi_Agent_eq, T.fo_Agent_eq⟩, pass0⟩, hr, a, .ref b, z, ls, _, rfl, ha, f1, T.ag_Agent, .inr ⟨b, A.c_Agent, _, z', ls', rfl, hb, f2, T.ag_Agent, T.ki_Agent_Agent, rfl⟩, (by simpa using q)⟩
    · exact .inr ⟨a, A.c_Agent, dx, _, b, A.c_Through, dy, _, CX0, 1, _, E0, rfl, h1, rfl, h2, (fun e => by have h := T.sb_Agent_Through; rw [← e] at h; rw [T.sb_Through_Through] at h; cases h), T.sb_Through_Agent, ⟨⟨A.a_Through_eq, A.d_Through_eq, _, ok_Through_eq (P := X.prog) (w := X.w) (base := X.base) T, T.b_Through_eq, T.fi_Through_eq, T.fo_Through_eq⟩, pass0⟩, hr, b, .ref a, z', ls', false, rfl, hb, f2, T.ag_Through, .inl ⟨_, T.ag_Agent.ty _ a dx _ h1, T.ki_Agent_Through, rfl⟩, _, rfl, (by simpa using q)⟩
    · exact .inr ⟨a, A.c_Agent, dx, _, b, A.c_Back, dy, _, CX0, 1, _, E0, rfl, h1, rfl, h2, (fun e => by have h := T.sb_Agent_Back; rw [← e] at h; rw [T.sb_Back_Back] at h; cases h), T.sb_Back_Agent, ⟨⟨A.a_Back_eq, A.d_Back_eq, _, ok_Back_eq (P := X.prog) (w := X.w) (base := X.base) T, T.b_Back_eq, T.fi_Back_eq, T.fo_Back_eq⟩, pass0⟩, hr, b, .ref a, z', ls', false, rfl, hb, f2, T.ag_Back, .inl ⟨_, T.ag_Agent.ty _ a dx _ h1, T.ki_Agent_Back, rfl⟩, _, rfl, (by simpa using q)⟩
  · obtain rfl | rfl | rfl : k' = 0 ∨ k' = 1 ∨ k' = 2 := by omega
    · exact .inl ⟨a, A.c_Through, dx, _, .ref A.c_Agent, CX0, 1, _, E0, rfl, h1, .ins h2, (by unfold PySem.W.notFirst; rw [T.sb_Agent_Through]; simp), ⟨⟨A.a_Through_eq, A.d_Through_eq, _, ok_Through_eq (P := X.prog) (w := X.w) (base := X.base) T, T.b_Through_eq, T.fi_Through_eq, T.fo_Through_eq⟩, pass0⟩, hr, a, .ref b, z, ls, false, rfl, ha, f1, T.ag_Through, .inl ⟨_, T.ag_Agent.ty _ b dy _ h2, T.ki_Agent_Through, rfl⟩, (by simpa using q)⟩
    · exact .inl ⟨a, A.c_Through, dx, _, .ref A.c_Through, CX0, 1, _, E0, rfl, h1, .ins h2, (by simp [PySem.W.notFirst]), ⟨⟨A.a_Through_eq, A.d_Through_eq, _, ok_Through_eq (P := X.prog) (w := X.w) (base := X.base) T, T.b_Through_eq, T.fi_Through_eq, T.fo_Through_eq⟩, pass0⟩, hr, a, .ref b, z, ls, _, rfl, ha, f1, T.ag_Through, .inr ⟨b, A.c_Through, _, z', ls', rfl, hb, f2, T.ag_Through, T.ki_Through_Through, rfl⟩, (by simpa using q)⟩
    · exact .inr ⟨a, A.c_Through, dx, _, b, A.c_Back, dy, _, CX0, 1, _, E0, rfl, h1, rfl, h2, (fun e => by have h := T.sb_Through_Back; rw [← e] at h; rw [T.sb_Back_Back] at h; cases h), T.sb_Back_Through, ⟨⟨A.a_Back_eq, A.d_Back_eq, _, ok_Back_eq (P := X.prog) (w := X.w) (base := X.base) T, T.b_Back_eq, T.fi_Back_eq, T.fo_Back_eq⟩, pass0⟩, hr, b, .ref a, z', ls', false, rfl, hb, f2, T.ag_Back, .inl ⟨_, T.ag_Through.ty _ a dx _ h1, T.ki_Through_Back, rfl⟩, _, rfl, (by simpa using q)⟩
  · obtain rfl | rfl | rfl : k' = 0 ∨ k' = 1 ∨ k' = 2 := by omega
    · exact .inl ⟨a, A.c_Back, dx, _, .ref A.c_Agent, CX0, 1, _, E0, rfl, h1, .ins h2, (by unfold PySem.W.notFirst; rw [T.sb_Agent_Back]; simp), ⟨⟨A.a_Back_eq, A.d_Back_eq, _, ok_Back_eq (P := X.prog) (w := X.w) (base := X.base) T, T.b_Back_eq, T.fi_Back_eq, T.fo_Back_eq⟩, pass0⟩, hr, a, .ref b, z, ls, false, rfl, ha, f1, T.ag_Back, .inl ⟨_, T.ag_Agent.ty _ b dy _ h2, T.ki_Agent_Back, rfl⟩, (by simpa using q)⟩
    · exact .inl ⟨a, A.c_Back, dx, _, .ref A.c_Through, CX0, 1, _, E0, rfl, h1, .ins h2, (by unfold PySem.W.notFirst; rw [T.sb_Through_Back]; simp), ⟨⟨A.a_Back_eq, A.d_Back_eq, _, ok_Back_eq (P := X.prog) (w := X.w) (base := X.base) T, T.b_Back_eq, T.fi_Back_eq, T.fo_Back_eq⟩, pass0⟩, hr, a, .ref b, z, ls, false, rfl, ha, f1, T.ag_Back, .inl ⟨_, T.ag_Through.ty _ b dy _ h2, T.ki_Through_Back, rfl⟩, (by simpa using q)⟩
    · exact .inl ⟨a, A.c_Back, dx, _, .ref A.c_Back, CX0, 1, _, E0, rfl, h1, .ins h2, (by simp [PySem.W.notFirst]), ⟨⟨A.a_Back_eq, A.d_Back_eq, _, ok_Back_eq (P := X.prog) (w := X.w) (base := X.base) T, T.b_Back_eq, T.fi_Back_eq, T.fo_Back_eq⟩, pass0⟩, hr, a, .ref b, z, ls, _, rfl, ha, f1, T.ag_Back, .inr ⟨b, A.c_Back, _, z', ls', rfl, hb, f2, T.ag_Back, T.ki_Back_Back, rfl⟩, (by simpa using q)⟩
theorem ne_K {X : Cx} (T : Txt X.K X.mg A) (hr : Room 2 X.A) {k k' : Int} (k0 : 0 ≤ k) (k2 : k ≤ 2) (g0 : 0 ≤ k') (g2 : k' ≤ 2) {H : Hp} {a b : Addr} {z z' : Str} {ls ls' : List (List V)} {Q : VK}
    (ha : Lay.AgAt (clsK A k) H a z ls) (hb : Lay.AgAt (clsK A k') H b z' ls') (f1 : ∀ l ∈ ls, l.all Lay.isFlat = true) (f2 : ∀ l ∈ ls', l.all Lay.isFlat = true)
    (q : Q (.bl (!(decide (k = k') && (decide (z = z') && decide (ls = ls'))))) H) : OwnC.rNeF X (.ref a) (.ref b) H Q := by
  obtain ⟨dx, t, xs, h1, _⟩ := id ha
  obtain ⟨dy, u, ys, h2, _⟩ := id hb
  obtain rfl | rfl | rfl : k = 0 ∨ k = 1 ∨ k = 2 := by omega
  · obtain rfl | rfl | rfl : k' = 0 ∨ k' = 1 ∨ k' = 2 := by omega
    · exact .inl ⟨a, A.c_Agent, dx, _, .ref A.c_Agent, CX0, 1, _, E0, rfl, h1, .ins h2, (by simp [PySem.W.notFirst]), ⟨⟨A.a_Agent_eq, A.d_Agent_eq, _, ok_Agent_eq (P := X.prog) (w := X.w) (base := X.base) T, T.b_Agent_eq, T.fi_Agent_eq, T.fo_Agent_eq⟩, pass0⟩, T.ne_Agent, hr, a, .ref b, z, ls, _, rfl, ha, f1, T.ag_Agent, .inr ⟨b, A.c_Agent, _, z', ls', rfl, hb, f2, T.ag_Agent, T.ki_Agent_Agent, rfl⟩, _, rfl, (by simpa using q)⟩
    · exact .inr ⟨a, A.c_Agent, dx, _, b, A.c_Through, dy, _, CX0, 1, _, E0, rfl, h1, rfl, h2, (fun e => by have h := T.sb_Agent_Through; rw [← e] at h; rw [T.sb_Through_Through] at h; cases h), T.sb_Through_Agent, ⟨⟨A.a_Through_eq, A.d_Through_eq, _, ok_Through_eq (P := X.prog) (w := X.w) (base := X.base) T, T.b_Through_eq, T.fi_Through_eq, T.fo_Through_eq⟩, pass0⟩, T.ne_Through, hr, b, .ref a, z', ls', false, rfl, hb, f2, T.ag_Through, .inl ⟨_, T.ag_Agent.ty _ a dx _ h1, T.ki_Agent_Through, rfl⟩, _, rfl, (by simpa using q)⟩
    · exact .inr ⟨a, A.c_Agent, dx, _, b, A.c_Back, dy, _, CX0, 1, _, E0, rfl, h1, rfl, h2, (fun e => by have h := T.sb_Agent_Back; rw [← e] at h; rw [T.sb_Back_Back] at h; cases h), T.sb_Back_Agent, ⟨⟨A.a_Back_eq, A.d_Back_eq, _, ok_Back_eq (P := X.prog) (w := X.w) (base := X.base) T, T.b_Back_eq, T.fi_Back_eq, T.fo_Back_eq⟩, pass0⟩, T.ne_Back, hr, b, .ref a, z', ls', false, rfl, hb, f2, T.ag_Back, .inl ⟨_, T.ag_Agent.ty _ a dx _ h1, T.ki_Agent_Back, rfl⟩, _, rfl, (by simpa using q)⟩
  · obtain rfl | rfl | rfl : k' = 0 ∨ k' = 1 ∨ k' = 2 := by omega
    · exact .inl ⟨a, A.c_Through, dx, _, .ref A.c_Agent, CX0, 1, _, E0, rfl, h1, .ins h2, (by unfold PySem.W.notFirst; rw [T.sb_Agent_Through]; simp), ⟨⟨A.a_Through_eq, A.d_Through_eq, _, ok_Through_eq (P := X.prog) (w := X.w) (base := X.base) T, T.b_Through_eq, T.fi_Through_eq, T.fo_Through_eq⟩, pass0⟩, T.ne_Through, hr, a, .ref b, z, ls, false, rfl, ha, f1, T.ag_Through, .inl ⟨_, T.ag_Agent.ty _ b dy _ h2, T.ki_Agent_Through, rfl⟩, _, rfl, (by simpa using q)⟩
    · exact .inl ⟨a, A.c_Through, dx, _, .ref A.c_Through, CX0, 1, _, E0, rfl, h1, .ins h2, (by simp [PySem.W.notFirst]), ⟨⟨A.a_Through_eq, A.d_Through_eq, _, ok_Through_eq (P := X.prog) (w := X.w) (base := X.base) T, T.b_Through_eq, T.fi_Through_eq, T.fo_Through_eq⟩, pass0⟩, T.ne_Through, hr, a, .ref b, z, ls, _, rfl, ha, f1, T.ag_Through, .inr ⟨b, A.c_Through, _, z', ls', rfl, hb, f2, T.ag_Through, T.ki_Through_Through, rfl⟩, _, rfl, (by simpa using q)⟩
    · exact .inr ⟨a, A.c_Through, dx, _, b, A.c_Back, dy, _, CX0, 1, _, E0, rfl, h1, rfl, h2, (fun e => by have h := T.sb_Through_Back; rw [← e] at h; rw [T.sb_Back_Back] at h; cases h), T.sb_Back_Through, ⟨⟨A.a_Back_eq, A.d_Back_eq, _, ok_Back_eq (P := X.prog) (w := X.w) (base := X.base) T, T.b_Back_eq, T.fi_Back_eq, T.fo_Back_eq⟩, pass0⟩, T.ne_Back, hr, b, .ref a, z', ls', false, rfl, hb, f2, T.ag_Back, .inl ⟨_, T.ag_Through.ty _ a dx _ h1, T.ki_Through_Back, rfl⟩, _, rfl, (by simpa using q)⟩
  · obtain rfl | rfl | rfl : k' = 0 ∨ k' = 1 ∨ k' = 2 := by omega
    · exact .inl ⟨a, A.c_Back, dx, _, .ref A.c_Agent, CX0, 1, _, E0, rfl, h1, .ins h2, (by unfold PySem.W.notFirst; rw [T.sb_Agent_Back]; simp), ⟨⟨A.a_Back_eq, A.d_Back_eq, _, ok_Back_eq (P := X.prog) (w := X.w) (base := X.base) T, T.b_Back_eq, T.fi_Back_eq, T.fo_Back_eq⟩, pass0⟩, T.ne_Back, hr, a, .ref b, z, ls, false, rfl, ha, f1, T.ag_Back, .inl ⟨_, T.ag_Agent.ty _ b dy _ h2, T.ki_Agent_Back, rfl⟩, _, rfl, (by simpa using q)⟩
    · exact .inl ⟨a, A.c_Back, dx, _, .ref A.c_Through, CX0, 1, _, E0, rfl, h1, .ins h2, (by unfold PySem.W.notFirst; rw [T.sb_Through_Back]; simp), ⟨⟨A.a_Back_eq, A.d_Back_eq, _, ok_Back_eq (P := X.prog) (w := X.w) (base := X.base) T, T.b_Back_eq, T.fi_Back_eq, T.fo_Back_eq⟩, pass0⟩, T.ne_Back, hr, a, .ref b, z, ls, false, rfl, ha, f1, T.ag_Back, .inl ⟨_, T.ag_Through.ty _ b dy _ h2, T.ki_Through_Back, rfl⟩, _, rfl, (by simpa using q)⟩
    · exact .inl ⟨a, A.c_Back, dx, _, .ref A.c_Back, CX0, 1, _, E0, rfl, h1, .ins h2, (by simp [PySem.W.notFirst]), ⟨⟨A.a_Back_eq, A.d_Back_eq, _, ok_Back_eq (P := X.prog) (w := X.w) (base := X.base) T, T.b_Back_eq, T.fi_Back_eq, T.fo_Back_eq⟩, pass0⟩, T.ne_Back, hr, a, .ref b, z, ls, _, rfl, ha, f1, T.ag_Back, .inr ⟨b, A.c_Back, _, z', ls', rfl, hb, f2, T.ag_Back, T.ki_Back_Back, rfl⟩, _, rfl, (by simpa using q)⟩
theorem prim_K (T : Txt K mg A) (k : Int) : (∀ p : String, p = "str" ∨ p = "int" ∨ p = "tuple" → PySem.W.notFirst K (clsK A k) (.type p) = true ∧ PySem.W.kitOne K (.type p) (.ref (clsK A k)) = some false) := by
  intro p hp
  unfold clsK
  by_cases c0 : k = 0
  · rw [if_pos c0]
    rcases hp with rfl | rfl | rfl
    · exact ⟨by unfold PySem.W.notFirst; rw [T.sp_str_Agent]; simp, T.kp_str_Agent⟩
    · exact ⟨by unfold PySem.W.notFirst; rw [T.sp_int_Agent]; simp, T.kp_int_Agent⟩
    · exact ⟨by unfold PySem.W.notFirst; rw [T.sp_tuple_Agent]; simp, T.kp_tuple_Agent⟩
  · rw [if_neg c0]
    by_cases c1 : k = 1
    · rw [if_pos c1]
      rcases hp with rfl | rfl | rfl
      · exact ⟨by unfold PySem.W.notFirst; rw [T.sp_str_Through]; simp, T.kp_str_Through⟩
      · exact ⟨by unfold PySem.W.notFirst; rw [T.sp_int_Through]; simp, T.kp_int_Through⟩
      · exact ⟨by unfold PySem.W.notFirst; rw [T.sp_tuple_Through]; simp, T.kp_tuple_Through⟩
    · rw [if_neg c1]
      rcases hp with rfl | rfl | rfl
      · exact ⟨by unfold PySem.W.notFirst; rw [T.sp_str_Back]; simp, T.kp_str_Back⟩
      · exact ⟨by unfold PySem.W.notFirst; rw [T.sp_int_Back]; simp, T.kp_int_Back⟩
      · exact ⟨by unfold PySem.W.notFirst; rw [T.sp_tuple_Back]; simp, T.kp_tuple_Back⟩
theorem ownEq_K {X : Cx} (T : Txt X.K X.mg A) (k : Int) : OwnC.OwnM X CX0 1 (clsK A k) "__eq__" (Lay.spEqA X.K (clsK A k) (kindS k)) E0 := by
  unfold clsK kindS
  by_cases c0 : k = 0
  · rw [if_pos c0, if_pos c0]; exact ⟨⟨A.a_Agent_eq, A.d_Agent_eq, _, ok_Agent_eq (P := X.prog) (w := X.w) (base := X.base) T, T.b_Agent_eq, T.fi_Agent_eq, T.fo_Agent_eq⟩, pass0⟩
  · rw [if_neg c0, if_neg c0]
    by_cases c1 : k = 1
    · rw [if_pos c1, if_pos c1]; exact ⟨⟨A.a_Through_eq, A.d_Through_eq, _, ok_Through_eq (P := X.prog) (w := X.w) (base := X.base) T, T.b_Through_eq, T.fi_Through_eq, T.fo_Through_eq⟩, pass0⟩
    · rw [if_neg c1, if_neg c1]; exact ⟨⟨A.a_Back_eq, A.d_Back_eq, _, ok_Back_eq (P := X.prog) (w := X.w) (base := X.base) T, T.b_Back_eq, T.fi_Back_eq, T.fo_Back_eq⟩, pass0⟩
theorem eq_prim {X : Cx} (T : Txt X.K X.mg A) (hr : Room 1 X.A) {k : Int} {H : Hp} {a : Addr} {y : V} {p : String} {z : Str} {ls : List (List V)} {Q : VK} (ha : Lay.AgAt (clsK A k) H a z ls) (f1 : ∀ l ∈ ls, l.all Lay.isFlat = true) (hp : p = "str" ∨ p = "int" ∨ p = "tuple")
    (h1 : OwnC.KTy X.K H y (.type p)) (h2 : TyX X.K H y (.type p)) (q : Q (.bl false) H) : OwnC.rEqF X (.ref a) y H Q := by
  obtain ⟨dx, t, xs, e1, _⟩ := id ha
  obtain ⟨n1, n2⟩ := prim_K T k p hp
  exact .inl ⟨a, clsK A k, dx, _, .type p, CX0, 1, _, E0, rfl, e1, h1, n1, ownEq_K T k, hr, a, y, z, ls, false, rfl, ha, f1, ag_K T k, .inl ⟨_, h2, n2, rfl⟩, q⟩
theorem with_K (T : Txt K mg A) (G1 : FnR P w K mg base CX0 8 A.a_Agent_with_steps (Lay.spStar 1 (Lay.spWithT A.c_Agent ["read", "write", "post", "wait"]))) (G2 : FnR P w K mg base CX0 8 A.a_Through_with_steps (Lay.spStar 1 (Lay.spWithT A.c_Through ["read", "write", "get", "put", "clean", "drop", "flush", "post", "wait"]))) (G3 : FnR P w K mg base CX0 8 A.a_Back_with_steps (Lay.spStar 1 (Lay.spWithT A.c_Back ["read", "write", "get", "put", "clean", "drop", "flush", "post", "wait"]))) (k : Int) :
    ∃ f, Meth K (clsK A k) "with_steps" f ∧ FnR P w K mg base CX0 8 f (Lay.spStar 1 (Lay.spWithT (clsK A k) (Lay.wsK k))) := by
  unfold clsK Lay.wsK
  by_cases c0 : k = 0
  · rw [if_pos c0, if_pos c0]; exact ⟨_, T.me_Agent_with_steps, G1⟩
  · rw [if_neg c0, if_neg c0]
    by_cases c1 : k = 1
    · rw [if_pos c1]; exact ⟨_, T.me_Through_with_steps, G2⟩
    · rw [if_neg c1]; exact ⟨_, T.me_Back_with_steps, G3⟩
def spRound : Sp := fun vs H Q _ => ∃ (p : Addr) (n : Nat) (c : Addr), vs = [.ref p] ∧ Lay.PenAt c H p n ∧ n + 35 < 100000 ∧ ∀ H', Lay.PenAt c H' p (n + 35) → Lay.Keep p H H' → Q (.bl true) H'
theorem pre_ok {d : Int} (h0 : 0 ≤ d) (h1 : d < 7) : Lay.nameOk (cutS "abcdefg" none (some (1 + d))) = true ∧ Lay.nameOk (cutS "abcdefg" none (some (1 + d)) ++ "x") = true := by
  obtain rfl | rfl | rfl | rfl | rfl | rfl | rfl : d = 0 ∨ d = 1 ∨ d = 2 ∨ d = 3 ∨ d = 4 ∨ d = 5 ∨ d = 6 := by omega
  all_goals exact ⟨by decide +kernel, by decide +kernel⟩
theorem ok_round (T : Txt K mg A) (G_draw : FnOk P w K mg base CX0 1 A.a_draw A.d_draw ["_law_pen_here", "_law_many"] Lay.spDraw) (G_good_step : FnOk P w K mg base CX0 2 A.a_good_step A.d_good_step ["_law_pen_here", "_law_kind"] Lay.spGoodStep) (G_made : FnOk P w K mg base CX0 9 A.a_made A.d_made ["_law_kind", "_law_called", "_law_handed"] (spMadeK K A)) (G_has : FnOk P w K mg base CX0 9 A.a_has A.d_has ["_law_agent", "_law_kind", "_law_called", "_law_wanted"] (spHas K A)) (G_bent : FnOk P w K mg base CX0 2 A.a_bent A.d_bent ["_law_pen_here", "_law_kind", "_law_called", "_law_handed"] Lay.spBent) (G_with : ∀ k, ∃ f, Meth K (clsK A k) "with_steps" f ∧ FnR P w K mg base CX0 8 f (Lay.spStar 1 (Lay.spWithT (clsK A k) (Lay.wsK k)))) : FnOk P w K mg base CX0 10 A.a_round A.d_round ["_law_pen_here"] spRound := by
  refine T.F_round.ok sc_round (fun vs H Q E h => ?_) (fun cdv A0 outer s H vs Q E hr h => ?_)
  · obtain ⟨p, n, c, rfl, _⟩ := h
    rfl
  · obtain ⟨p, n, c, rfl, hp, hn, q⟩ := h
    refine ⟨_, (pss_cons (ps_set (i := 1) sc_round.nd rfl (Or.inr rfl) (pe_call G_draw (hr.mono (by decide)) rfl T.g_draw T.F_draw.kp T.b_draw .nil pass0 (pa_cons (pv 0) (pa_cons pe_int pa_nil))))
    (pss_cons (ps_set (i := 2) sc_round.nd rfl (Or.inl rfl) (pe_slice sl_str pe_str po_none (po_some (pe_op op_add pe_int (pe_call G_draw (hr.mono (by decide)) rfl T.g_draw T.F_draw.kp T.b_draw .nil pass0 (pa_cons (pv 0) (pa_cons pe_int pa_nil)))))))
    (pss_cons (ps_setLc (i := 3) (own := [("_law_k", 4)]) (g := gName 4) (tt := tYes) rfl sc_round.nd rfl rfl (sw_true rfl rfl rfl (by decide +kernel)) (pi_range1 rfl T.n_range (pa_cons (pe_op op_add pe_int (pe_call G_draw (hr.mono (by decide)) rfl T.g_draw T.F_draw.kp T.b_draw .nil pass0 (pa_cons (pv 0) (pa_cons pe_int pa_nil)))) pa_nil)) (blkOk_by (own := [("_law_k", 4)]) (N := ["_law_pen_here", "_law_kind", "_law_called", "_law_handed", "_law_k", "_law_kept", "_law_first", "_law_other", "_law_second", "_law_wanted", "_law_third"]) (sc := defScope s_round) (by decide +kernel)) (fun _ _ _ _ _ => pg_name (i := 4) sc_round.nd rfl (Or.inl rfl)) (fun _ _ _ _ _ => pts_nil) (fun _ _ _ _ _ => (pe_call G_good_step (hr.mono (by decide)) rfl T.g_good_step T.F_good_step.kp T.b_good_step .nil pass0 (pa_cons (pv 0) (pa_cons (pv 1) pa_nil)))))
    (pss_cons (ps_set (i := 5) sc_round.nd rfl (Or.inl rfl) (pe_callTy Lay.call_listS (by rfl) T.n_list (by decide +kernel) (pa_cons (pv 3) pa_nil)))
    (pss_cons (ps_set (i := 6) sc_round.nd rfl (Or.inl rfl) (pe_call G_made (hr.mono (by decide)) rfl T.g_made T.F_made.kp T.b_made .nil pass0 (pa_cons (pv 1) (pa_cons (pv 2) (pa_cons (pv 3) pa_nil)))))
    (pss_cons (ps_expr (pe_bm PySem.F.plainAttrs_list PySem.F.slot_list_append PySem.F.type_list_append mt_append (pv 3) (pa_cons (pe_tup (pa_cons pe_str (pa_cons pe_str pa_nil))) pa_nil)))
    (pss_cons (ps_if (pt_not (pt_val (pe_call G_has (hr.mono (by decide)) rfl T.g_has T.F_has.kp T.b_has .nil pass0 (pa_cons (pv 6) (pa_cons (pv 1) (pa_cons (pv 2) (pa_cons (pv 5) pa_nil)))))))
      (pss_one (ps_ret pe_bl))
      pss_nil)
    (pss_cons (ps_set (i := 7) sc_round.nd rfl (Or.inl rfl) (pe_call G_bent (hr.mono (by decide)) rfl T.g_bent T.F_bent.kp T.b_bent .nil pass0 (pa_cons (pv 0) (pa_cons (pv 1) (pa_cons (pv 2) (pa_cons (pv 5) pa_nil))))))
    (pss_cons (ps_set (i := 8) sc_round.nd rfl (Or.inl rfl) (pe_call G_made (hr.mono (by decide)) rfl T.g_made T.F_made.kp T.b_made .nil pass0 (pa_cons (pe_ix ix_list (pv 7) pe_int (fun _ _ => rfl)) (pa_cons (pe_ix ix_list (pv 7) pe_int (fun _ _ => rfl)) (pa_cons (pe_callTy Lay.call_tupS (by rfl) T.n_tuple (by decide +kernel) (pa_cons (pe_ix ix_list (pv 7) pe_int (fun _ _ => rfl)) pa_nil)) pa_nil)))))
    (pss_cons (ps_set (i := 9) sc_round.nd rfl (Or.inl rfl) (pe_cmpR (op_eqD hr.units) (pe_lst (pa_cons (pv 1) (pa_cons (pv 2) (pa_cons (pv 5) pa_nil)))) (pv 7) (nomark _)))
    (pss_cons (ps_if (PW.pt (pw_or (pt_cmpR op_ne (pe_cmpR OwnC.op_eqF (pv 6) (pv 8) (nomark _)) (pv 9) (nomark _)) (pw_or (pt_cmpR op_ne (pe_cmpR OwnC.op_eqF (pv 8) (pv 6) (nomark _)) (pv 9) (nomark _)) (pw_or1 (pt_cmpR op_eq (pe_cmpR OwnC.op_neF (pv 6) (pv 8) (nomark _)) (pv 9) (nomark _))))))
      (pss_one (ps_ret pe_bl))
      pss_nil)
    (pss_cons (ps_if (PW.pt (pw_or (pt_cmpR op_notBl (pe_cmpR OwnC.op_eqF (pv 6) (pv 2) (nomark _)) pe_bl (nomark _)) (pw_or (pt_cmpR op_notBl (pe_cmpR OwnC.op_eqF (pv 6) (pe_callTy Lay.call_tupS (by rfl) T.n_tuple (by decide +kernel) (pa_cons (pv 5) pa_nil)) (nomark _)) pe_bl (nomark _)) (pw_or1 (pt_cmpR op_notBl (pe_cmpR OwnC.op_eqF (pv 6) pe_int (nomark _)) pe_bl (nomark _))))))
      (pss_one (ps_ret pe_bl))
      pss_nil)
    (pss_cons (ps_set (i := 10) sc_round.nd rfl (Or.inl rfl) (OwnC.pe_methF (pv 6) (pa_cons (pe_tup (pa_cons pe_str (pa_cons pe_str pa_nil))) (pa_cons (pe_ix ix_list (pv 5) pe_int (fun _ _ => rfl)) (pa_cons (pe_tup (pa_cons pe_str (pa_cons pe_str pa_nil))) pa_nil)))))
    (pss_cons (ps_if (pt_not (pt_val (pe_call G_has (hr.mono (by decide)) rfl T.g_has T.F_has.kp T.b_has .nil pass0 (pa_cons (pv 10) (pa_cons (pv 1) (pa_cons (pv 2) (pa_cons (pe_lst (pa_cons (pe_tup (pa_cons pe_str (pa_cons pe_str pa_nil))) (pa_cons (pe_ix ix_list (pv 5) pe_int (fun _ _ => rfl)) (pa_cons (pe_tup (pa_cons pe_str (pa_cons pe_str pa_nil))) pa_nil)))) pa_nil)))))))
      (pss_one (ps_ret pe_bl))
      pss_nil)
    (pss_cons (ps_if (pt_not (pt_val (pe_call G_has (hr.mono (by decide)) rfl T.g_has T.F_has.kp T.b_has .nil pass0 (pa_cons (pv 6) (pa_cons (pv 1) (pa_cons (pv 2) (pa_cons (pv 5) pa_nil)))))))
      (pss_one (ps_ret pe_bl))
      pss_nil)
    (pss_one (ps_ret (pe_call G_has (hr.mono (by decide)) rfl T.g_has T.F_has.kp T.b_has .nil pass0 (pa_cons (OwnC.pe_methF (pv 6) (pa_cons (pe_tup (pa_cons pe_str (pa_cons pe_str pa_nil))) pa_nil)) (pa_cons (pv 1) (pa_cons (pv 2) (pa_cons (pe_lst (pa_cons (pe_tup (pa_cons pe_str (pa_cons pe_str pa_nil))) pa_nil)) pa_nil)))))))))))))))))))))), ?_⟩
    walk_at "in"
    walk_at "rd"
    refine Lay.rd_draw hp (L2.Same.refl _) (by omega) (by decide) (by decide) (fun k H1 k0 k2 p1 k1 => ?_)
    walk_at "rd"
    refine Lay.rd_draw p1 (L2.Same.refl _) (by omega) (by decide) (by decide) (fun d H2 d0 d1 p2 k2' => ?_)
    walk_at "rd"
    refine ⟨_, rfl, by decide, ?_⟩
    obtain ⟨hz, hzx⟩ := pre_ok d0 d1
    generalize cutS "abcdefg" none (some (1 + d)) = z at hz hzx ⊢
    walk_at "rd"
    refine Lay.rd_draw p2 (L2.Same.refl _) (by omega) (by decide) (by decide) (fun m H3 m0 m1 p3 k3 => ?_)
    have K3 := (k1.trans k2').trans k3
    clear p1 p2 k1 k2' k3 hp
    walk_at "rd"
    refine ⟨_, rfl, by omega, by omega, ?_⟩
    intro D hD
    obtain ⟨xs3, hP3⟩ := p3.at_
    obtain ⟨xs4, hC3⟩ := p3.cell
    have Dp := Lay.ne_none hD hP3
    have DH : H D = none := K3.none hP3 hD
    have Dc := Lay.ne_none hD hC3
    refine Lay.lc_go (walk_range (lo := 0) (n := (1 + m).toNat)) (fun i l H' => Lay.PenAt c H' p (n + 3 + 5 * i) ∧ Lay.Keep p H3 H' ∧ ∃ ls, Lay.RowsAt H' l ls ∧ ls.length = i ∧ ∀ x ∈ ls, Lay.GoodStep (Lay.wsK k) x)
      ⟨p3.mono (Lay.Same.upd hD), Lay.Keep.of (Lay.Same.upd hD), [], .nil, rfl, (by intro _ x; cases x)⟩ (fun _ _ _ _ _ => trivial) ?_ ?_
    · rintro i l x H4 H5 hi hl' hz' ⟨r1, r2, ls, r3, r4, r5⟩ hy
      obtain ⟨rfl, rfl⟩ := hy
      walk_at "rd"
      refine ⟨rfl, ?_⟩
      walk_at "it"
      refine ⟨p, k, n + 3 + 5 * i, c, rfl, r1, by omega, fun a l2 H6 ha hl6 hg6 p6 k6 => ?_⟩
      obtain ⟨ys5, hP5⟩ := r1.at_
      have e6 := k6 D _ Dp hl'
      refine Lay.lc_put e6 hz' (by omega) ⟨p6.other Dp Dc, ?_, ls ++ [l2], ?_, by rw [List.length_append, r4]; rfl, ?_⟩
      · intro b o hb hH
        rw [upd_ne (fun y => by subst y; rw [hD] at hH; cases hH)]
        exact k6 b o hb (r2 b o hb hH)
      · refine ((r3.keep hP5 k6).updL e6).append (.cons ?_ .nil)
        rw [upd_ne (fun y => by subst y; rw [e6] at hl6; cases hl6)]
        exact hl6
      · intro x hx
        rcases List.mem_append.mp hx with hx | hx
        · exact r5 x hx
        · rw [List.mem_singleton] at hx
          subst hx
          exact hg6
    · rintro l H4 hl' hz' ⟨p4, r2, ls, rows, llen, hg⟩
      have hfl := Lay.RowsAt.flatG hg
      have K4 := K3.trans r2
      clear r2 K3
      walk_at "rd"
      refine Lay.rd_listL (SqL.of hl') (fun t5 h5 => ?_)
      walk_at "rd"
      have s5 := Lay.Same.upd (o := .lst l) h5
      have D5 : t5 ≠ D := fun y => by subst y; rw [hl'] at h5; cases h5
      refine ⟨k, z, D, l, ls, rfl, k0, by omega, hz, .inr (SqL.of (s5 _ _ hl')), rows.mono s5, by omega, by omega, hg, fun x6 H6 hx6 s6 a6 => ?_⟩
      walk_at "rd"
      refine Lay.rd_bm ?_
      walk_at "rd"
      refine ⟨?_, ?_⟩
      · exact Lay.tyV_lst (s6 _ _ (s5 _ _ hl'))
      walk_at "rd"
      refine ⟨by decide, fun t7 h7 => ?_⟩
      have s7 := Lay.Same.upd (o := .tup [.str "post", .str "more"]) h7
      have e7 := s7 _ _ (s6 _ _ (s5 _ _ hl'))
      refine ⟨D, l, .ref t7, rfl, rfl, e7, by show l.length < sizeLine; exact Nat.lt_of_le_of_lt (show l.length ≤ 100 by omega) (by decide), ?_⟩
      have p8 := (((p4.mono s5).mono s6).mono s7).other (o := .lst (l ++ [.ref t7])) Dp Dc
      have a8 := (a6.mono s7).updL (l' := l ++ [.ref t7]) e7
      have r8 := (((rows.mono s5).mono s6).mono s7).updL (l' := l ++ [.ref t7]) e7
      have e8 : (upd (upd H6 t7 (.tup [.str "post", .str "more"])) D (.lst (l ++ [.ref t7]))) t5 = some (.lst l) := by
        rw [upd_ne D5]
        exact s7 _ _ (s6 _ _ upd_same)
      have K8 : Lay.Keep p H (upd (upd H6 t7 (.tup [.str "post", .str "more"])) D (.lst (l ++ [.ref t7]))) := fun b o hb hH => by
        have hn : b ≠ D := fun y => by
          subst y
          rw [DH] at hH
          cases hH
        rw [upd_ne hn]
        exact s7 _ _ (s6 _ _ (s5 _ _ (K4 b o hb hH)))
      generalize upd (upd H6 t7 (.tup [.str "post", .str "more"])) D (.lst (l ++ [.ref t7])) = H8 at p8 a8 r8 e8 K8 ⊢
      clear s5 s6 s7 e7 a6 hx6 p4 rows hl' h5 h7 D5 K4
      walk_at "rd"
      have l1 : 1 ≤ ls.length := by omega
      have l2 : ls.length ≤ 24 := by omega
      refine ⟨x6, k, z, t5, l, ls, rfl, k0, by omega, a8, e8, r8, l2, hfl, fun H9 s9 => ?_⟩
      walk_at "it"
      refine ⟨p, n + 3 + 5 * (1 + m).toNat, c, k, z, t5, l, ls, rfl, p8.mono s9, by omega, k0, by omega, hz, hzx, s9 _ _ e8, r8.mono s9, l1, l2, hg, fun r k' z' t' ys' ls' HA pA kA trip g0 g2 hz' hlen hg' => ?_⟩
      have hfl' := Lay.RowsAt.flatG hg'
      have pz := p8.mono s9
      obtain ⟨xs9, hP9⟩ := pz.at_
      have aA := (a8.mono s9).keep hP9 kA
      have eA := kA t5 _ (Lay.rows_pen pz (s9 _ _ e8) (r8.mono s9)) (s9 _ _ e8)
      have rA := (r8.mono s9).keep hP9 kA
      have KA := (K8.trans (Lay.Keep.of s9)).trans kA
      clear p8 a8 e8 r8 K8 kA pz hP9 s9
      obtain ⟨tr1, tr2, tr3⟩ := trip
      walk_at "rd"
      refine Lay.rd_tupL (SqL.of tr2) (fun tB hB => ?_)
      walk_at "rd"
      have sB := Lay.Same.upd (o := .tup ys') hB
      refine ⟨k', z', tB, ys', ls', rfl, g0, g2, hz', .inl (SqT.of upd_same), tr3.mono sB, by omega, by omega, hg', fun xC HC hxC sC aC => ?_⟩
      have sAC := sB.trans sC
      walk_at "rd"
      refine ⟨by decide, fun rD hrD => ?_⟩
      have sD := Lay.Same.upd (o := .lst [.int k, .str z, .ref t5]) hrD
      have sAD := sAC.trans sD
      walk_at "rd"
      refine Lay.rd_eqTrip ⟨upd_same, sAD _ _ eA, rA.mono sAD⟩ ⟨sAD _ _ tr1, sAD _ _ tr2, tr3.mono sAD⟩ hz hz' hfl hfl' ?_
      have a9 := aA.mono sAD
      have c9 := aC.mono sD
      have e9 := sAD _ _ eA
      have r9 := rA.mono sAD
      have p9 := pA.mono sAD
      have K9 := KA.trans (Lay.Keep.of sAD)
      clear aA aC eA rA pA KA tr1 tr2 tr3 sAC sB sC hxC
      generalize upd HC rD (.lst [.int k, .str z, .ref t5]) = H9 at a9 c9 e9 r9 p9 K9 ⊢
      walk_at "rd"
      generalize hW : (decide (k = k') && (decide (z = z') && decide (ls = ls'))) = W
      have hW2 : (decide (k' = k) && (decide (z' = z) && decide (ls' = ls))) = W := by
        rw [← hW]
        simp only [eq_comm]
      refine eq_K T (hr.mono (by decide)) k0 (by omega) g0 g2 a9 c9 hfl hfl' ?_
      rw [hW]
      walk_at "rd"
      rw [beq_self_eq_true]
      walk_at "it"
      refine eq_K T (hr.mono (by decide)) g0 g2 k0 (by omega) c9 a9 hfl' hfl ?_
      rw [hW2]
      walk_at "rd"
      rw [beq_self_eq_true]
      walk_at "it"
      refine ne_K T (hr.mono (by decide)) k0 (by omega) g0 g2 a9 c9 hfl hfl' ?_
      rw [hW]
      walk_at "rd"
      rw [show ((!W) == W) = false by cases W <;> rfl]
      walk_at "it"
      refine eq_prim T (hr.mono (by decide)) a9 hfl (.inl rfl) (.str _) (.base (.str _)) ?_
      refine ⟨_, _, rfl, rfl, ?_⟩
      walk_at "rd"
      rw [decide_eq_true rfl]
      walk_at "it"
      refine Lay.rd_tupL (SqL.of e9) (fun tE hE => ?_)
      refine eq_prim T (hr.mono (by decide)) (a9.mono (Lay.Same.upd hE)) hfl (.inr (.inr rfl)) (.tup (SqT.of upd_same)) (.base (.tup upd_same)) ?_
      walk_at "rd"
      refine ⟨_, _, rfl, rfl, ?_⟩
      walk_at "rd"
      rw [decide_eq_true rfl]
      walk_at "it"
      refine eq_prim T (hr.mono (by decide)) (a9.mono (Lay.Same.upd hE)) hfl (.inr (.inl rfl)) (.int _) (.base (.int _)) ?_
      walk_at "rd"
      refine ⟨_, _, rfl, rfl, ?_⟩
      walk_at "rd"
      rw [decide_eq_true rfl]
      walk_at "it"
      have sE := Lay.Same.upd (o := .tup l) hE
      have aE := a9.mono sE
      have eE := sE _ _ e9
      have rE := r9.mono sE
      have pE := p9.mono sE
      have KE := K9.trans (Lay.Keep.of sE)
      clear a9 c9 e9 r9 p9 K9
      generalize upd H9 tE (.tup l) = HE at aE eE rE pE KE ⊢
      obtain ⟨f9, me9, F9⟩ := G_with k
      have ac := ag_K T k
      obtain ⟨dx9, tt9, xx9, i9, _⟩ := id aE
      have hl0 : 0 < ls.length := by omega
      obtain ⟨q0, q1, q2⟩ := rE.get (List.getElem?_eq_getElem hl0)
      refine Lay.rd_methF ?_
      walk_at "rd"
      refine ⟨x6, _, dx9, _, CX0, 8, f9, _, E0, rfl, i9, by rfl, ac.cl, me9, F9, hr.mono (by decide), pass0, ?_⟩
      walk_at "rd"
      refine ⟨by decide, fun tF hF => ?_⟩
      walk_at "rd"
      refine Lay.rd_ixL (SqL.of (Lay.upd_old hF eE)) (Lay.atI_int (by decide) q1) ?_
      walk_at "rd"
      refine ⟨by decide, fun tG hG => ?_⟩
      walk_at "rd"
      have sF := (Lay.Same.upd (o := .tup [.str "post", .str "p"]) hF).trans (Lay.Same.upd (o := .tup [.str "wait", .str "p"]) hG)
      have gP : Lay.GoodStep (Lay.wsK k) [.str "post", .str "p"] := Lay.good_sig (.inl rfl) (by decide +kernel)
      have gW : Lay.GoodStep (Lay.wsK k) [.str "wait", .str "p"] := Lay.good_sig (.inr rfl) (by decide +kernel)
      have gA : ∀ x ∈ [[V.str "post", V.str "p"], ls[0], [V.str "wait", V.str "p"]], Lay.GoodStep (Lay.wsK k) x := by
        intro x hx
        simp only [List.mem_cons, List.not_mem_nil, or_false] at hx
        rcases hx with rfl | rfl | rfl
        · exact gP
        · exact hg _ (List.getElem_mem hl0)
        · exact gW
      refine Lay.with_ag (Q := fun x H => _) (ls := [[.str "post", .str "p"], ls[0], [.str "wait", .str "p"]]) (fun x H h => h) (aE.mono sF) hz (.cons (Lay.upd_old hG upd_same) (.cons (sF _ _ q2) (.cons upd_same .nil))) (by show 1 ≤ 3; decide) (by show 3 ≤ 24; decide) gA (fun xT HT sT aT => ?_)
      walk_at "rd"
      have S1 := sF.trans sT
      refine ⟨by decide, fun tH hH => ?_⟩
      walk_at "rd"
      have sH := Lay.Same.upd (o := .tup [.str "post", .str "p"]) hH
      refine Lay.rd_ixL (SqL.of (sH _ _ (S1 _ _ eE))) (Lay.atI_int (by decide) q1) ?_
      walk_at "rd"
      refine ⟨by decide, fun tI hI => ?_⟩
      walk_at "rd"
      have sI := Lay.Same.upd (o := .tup [.str "wait", .str "p"]) hI
      refine ⟨by decide, fun tJ hJ => ?_⟩
      have sJ := Lay.Same.upd (o := .lst [.ref tH, .ref q0, .ref tI]) hJ
      have sHJ := (sH.trans sI).trans sJ
      refine ⟨xT, k, z, tJ, _, [[.str "post", .str "p"], ls[0], [.str "wait", .str "p"]], rfl, k0, by omega, aT.mono sHJ, upd_same,
        .cons (sJ _ _ (sI _ _ upd_same)) (.cons (sHJ _ _ (S1 _ _ q2)) (.cons (sJ _ _ upd_same) .nil)), (by show 3 ≤ 24; decide), Lay.RowsAt.flatG gA, fun HK sK => ?_⟩
      have SK := (S1.trans sHJ).trans sK
      clear aT sH sI sJ sHJ sF sT S1 hH hI hJ hF hG sK
      walk_at "it"
      refine ⟨x6, k, z, t5, l, ls, rfl, k0, by omega, aE.mono SK, SK _ _ eE, rE.mono SK, l2, hfl, fun HL sL => ?_⟩
      have SL := SK.trans sL
      walk_at "it"
      refine Lay.rd_methF ?_
      walk_at "rd"
      refine ⟨x6, _, dx9, _, CX0, 8, f9, _, E0, rfl, SL _ _ i9, by rfl, ac.cl, me9, F9, hr.mono (by decide), pass0, ?_⟩
      walk_at "rd"
      refine ⟨by decide, fun tM hM => ?_⟩
      walk_at "rd"
      have sM := Lay.Same.upd (o := .tup [.str "wait", .str "q"]) hM
      have gQ : Lay.GoodStep (Lay.wsK k) [.str "wait", .str "q"] := Lay.good_sig (.inr rfl) (by decide +kernel)
      have gB : ∀ x ∈ [[V.str "wait", V.str "q"]], Lay.GoodStep (Lay.wsK k) x := by
        intro x hx
        rw [List.mem_singleton] at hx
        subst hx
        exact gQ
      refine Lay.with_ag (Q := fun x H => _) (ls := [[.str "wait", .str "q"]]) (fun x H h => h) (aE.mono (SL.trans sM)) hz (.cons upd_same .nil) (by decide) (by decide) gB (fun xN HN sN aN => ?_)
      walk_at "rd"
      refine ⟨by decide, fun tO hO => ?_⟩
      walk_at "rd"
      refine ⟨by decide, fun tP hP => ?_⟩
      have sO := (Lay.Same.upd (o := .tup [.str "wait", .str "q"]) hO).trans (Lay.Same.upd (o := .lst [.ref tO]) hP)
      refine ⟨xN, k, z, tP, _, [[.str "wait", .str "q"]], rfl, k0, by omega, aN.mono sO, upd_same, .cons (Lay.upd_old hP upd_same) .nil, (by decide), Lay.RowsAt.flatG gB, fun HR sR => ?_⟩
      have SR := (((SL.trans sM).trans sN).trans sO).trans sR
      exact q HR ((pE.mono SR).le (by omega)) (KE.trans (Lay.Keep.of SR))
def spLaw (K : PySem.W.Frag) : Sp := fun vs H Q _ => ∃ (a : Addr) (ns : List Int), vs = [.ref a] ∧ SqL K H a (ns.map V.int) ∧ ns.length ≤ 63 ∧ ∀ H', Q (.bl true) H'
theorem ok_law (T : Txt K mg A) (G_pen : FnOk P w K mg base CX0 1 A.a_pen A.d_pen ["_law_script"] (Lay.spPen K)) (G_round : FnOk P w K mg base CX0 10 A.a_round A.d_round ["_law_pen_here"] spRound) : FnOk P w K mg base CX0 11 A.a_law A.d_law ["_law_script"] (spLaw K) := by
  refine T.F_law.ok sc_law (fun vs H Q E h => ?_) (fun cdv A0 outer s H vs Q E hr h => ?_)
  · obtain ⟨a, ns, rfl, _⟩ := h
    rfl
  · obtain ⟨a, ns, rfl, hS, hl, q⟩ := h
    refine ⟨_, (pss_cons (ps_set (i := 1) sc_law.nd rfl (Or.inr rfl) (pe_call G_pen (hr.mono (by decide)) rfl T.g_pen T.F_pen.kp T.b_pen .nil pass0 (pa_cons (pv 0) pa_nil)))
    (pss_one (ps_ret (pe_callB (cr_all rfl) (by rfl) T.n_all (by decide +kernel) (pa_cons (pe_lc (own := [("_law_k", 2)]) (g := gName 2) (tt := tYes) rfl sc_law.nd (pi_range1 rfl T.n_range (pa_cons pe_int pa_nil)) (blkOk_by (own := [("_law_k", 2)]) (N := ["_law_script", "_law_pen_here", "_law_k"]) (sc := defScope s_law) (by decide +kernel)) (fun _ _ _ _ _ => pg_name (i := 2) sc_law.nd rfl (Or.inl rfl)) (fun _ _ _ _ _ => pts_nil) (fun _ _ _ _ _ => (pe_call G_round (hr.mono (by decide)) rfl T.g_round T.F_round.kp T.b_round .nil pass0 (pa_cons (pv 1) pa_nil)))) pa_nil))))), ?_⟩
    walk_at "in"
    walk_at "rd"
    refine ⟨a, ns, rfl, hS, hl, fun c p H1 hp pen s1 => ?_⟩
    walk_at "rd"
    refine ⟨_, rfl, by decide, by decide, ?_⟩
    intro D hD
    obtain ⟨x1, hx1⟩ := pen.at_
    obtain ⟨x2, hx2⟩ := pen.cell
    have n1 := Lay.ne_none hD hx1
    have n2 := Lay.ne_none hD hx2
    refine Lay.lc_go (walk_range (lo := 0) (n := 6)) (fun i l H' => Lay.PenAt c H' p (35 * i) ∧ l = List.replicate i (V.bl true)) ⟨pen.mono (Lay.Same.upd hD), rfl⟩ (fun _ _ _ _ _ => trivial) ?_ ?_
    · rintro i l x H2 H3 hi hl' hz' ⟨r1, r2⟩ hy
      obtain ⟨rfl, rfl⟩ := hy
      walk_at "rd"
      refine ⟨rfl, ?_⟩
      walk_at "it"
      refine ⟨p, 35 * i, c, rfl, r1, by omega, fun H4 p4 k4 => ?_⟩
      refine Lay.lc_put (k4 _ _ n1 hl') hz' (by omega) ⟨p4.other n1 n2, ?_⟩
      rw [r2, List.replicate_succ']
    · rintro l H4 hl' hz' ⟨r1, rfl⟩
      walk_at "rd"
      exact Lay.rd_alls (bs := [true, true, true, true, true, true]) (SqL.of hl') (q H4)
theorem ok_all (T : Txt K mg A) : FnOk P w K mg base CX0 11 A.a_law A.d_law ["_law_script"] (spLaw K) := by
  have G1 := ok_is_integer (P := P) (w := w) (base := base) T
  have G2 := ok_is_within (P := P) (w := w) (base := base) T G1
  have G3 := ok_is_name (P := P) (w := w) (base := base) T
  have G4 := ok_is_memory_step (P := P) (w := w) (base := base) T (G_is_within := G2) (G_is_name := G3)
  have G5 := ok_is_step (P := P) (w := w) (base := base) T (G_is_memory_step := G4) (G_is_name := G3)
  have G6 := ok_check_agent (P := P) (w := w) (base := base) T (G_is_name := G3) (G_is_step := G5)
  have I1 := ok_Agent_init (P := P) (w := w) (base := base) T G6
  have I2 := ok_Through_init (P := P) (w := w) (base := base) T G6
  have I3 := ok_Back_init (P := P) (w := w) (base := base) T G6
  have M1 := ok_Agent_made (P := P) (w := w) (base := base) T I1
  have M2 := ok_Through_made (P := P) (w := w) (base := base) T I2
  have M3 := ok_Back_made (P := P) (w := w) (base := base) T I3
  have W1 := ok_Agent_with_steps (P := P) (w := w) (base := base) T I1
  have W2 := ok_Through_with_steps (P := P) (w := w) (base := base) T I2
  have W3 := ok_Back_with_steps (P := P) (w := w) (base := base) T I3
  have D1 := ok_draw (P := P) (w := w) (base := base) T
  have D2 := ok_pen (P := P) (w := w) (base := base) T
  have D3 := ok_good_step (P := P) (w := w) (base := base) T D1
  have D4 := ok_made (P := P) (w := w) (base := base) T M1 M2 M3
  have D5 := ok_has (P := P) (w := w) (base := base) T
  have D6 := ok_other_kind (P := P) (w := w) (base := base) T
  have D7 := ok_bent (P := P) (w := w) (base := base) T D1 D6
  have R1 := ok_round (P := P) (w := w) (base := base) T D1 D3 D4 D5 D7 (with_K T W1 W2 W3)
  exact ok_law T D2 R1
theorem walk {l : PySem.W.OpenLaw} {q : Program} {loose : List Str} {XP : (Str → Option Value) → Heap → Prop} {YP : World → Heap → Prop} {d : DefRec} {K : Params → PySem.W.Frag} (hn : l.most = some 63) (hdf : d.params.defaults = [])
    (hY : ∀ (w : World) (h : Heap), YP w h → (K w.params).In h)
    (F : ∀ (w : World) (mg : Str → Option Value) (fa : Addr) (h : Heap), (K w.params).In h → h.Ns mainGlobals mg → mg d.name = some (.ref fa) →
      ∃ fd : FuncData, (∀ (s : Shared) (u : Value), BindsTo s fd ⟨[u], []⟩ [("_law_script", u)]) ∧ ∀ base : Heap, (K w.params).In base → base.Ns mainGlobals mg → FnOk l.prog w (K w.params) mg base CX0 11 fa fd ["_law_script"] (spLaw (K w.params))) :
    PySem.W.WalkO q loose XP YP l.row.toRowW d [] (fun f vs => PySem.call f vs) :=
  L2.walk_of (n := 63) (k := 11) (x := "_law_script") (CX := fun _ => CX0) (sp := fun w => spLaw (K w.params)) hn (by decide) hdf ⟨rfl, by decide, by decide⟩ hY F (fun _ _ a ns hl _ hS => ⟨a, ns, rfl, hS, hl, fun _ => rfl⟩) fun _ _ _ _ _ z => z
theorem use {P : Program} {w : World} {K : PySem.W.Frag} {mg : Str → Option Value} {fa : Addr} (h : ∃ A : Adr, Txt K mg A) (hmg : mg "law" = some (.ref fa)) :
    ∃ fd : FuncData, (∀ (s : Shared) (u : Value), BindsTo s fd ⟨[u], []⟩ [("_law_script", u)]) ∧ ∀ base : Heap, K.In base → base.Ns mainGlobals mg → FnOk P w K mg base CX0 11 fa fd ["_law_script"] (spLaw K) := by
  obtain ⟨A, T⟩ := h
  have e := hmg.symm.trans T.g_law
  cases e
  obtain ⟨oc, od, kV, doc, pm, an, cdv, ct, osl, hfd, lk, hcd⟩ := T.F_law.ex
  refine ⟨A.d_law, fun s u => ?_, fun base _ _ => ok_all T⟩
  rw [hfd]
  exact .of_eq rfl
end
end My
set_option maxRecDepth 100000 in
set_option maxHeartbeats 0 in
theorem PySem.Challenge.cw_unkeptlines_k06_agents_kept_holds : PySem.Challenge.rw_unkeptlines_k06_agents_kept.Holds := by
  w_on; o_law; k_head; (case hw => w_witness2)
  k_fill
  refine My.walk (l := PySem.Challenge.rw_unkeptlines_k06_agents_kept) rfl rfl (fun w h Y => PySem.W.kIn_of Y) ?F
  case F =>
    intro w mg fa h KX G hmg
    refine My.use ?_ hmg
    refine' My.all_mk KX G ?a_Agent ?pg_Agent ?hd_Agent ?po_Agent ?sa_Agent ?na_Agent_name ?na_Agent_steps ?mk_Agent ?kc_Agent ?a_Through ?pg_Through ?hd_Through ?po_Through ?sa_Through ?na_Through_name ?na_Through_steps ?mk_Through ?kc_Through ?a_Back ?pg_Back ?hd_Back ?po_Back ?sa_Back ?na_Back_name ?na_Back_steps ?mk_Back ?kc_Back ?gg ?tk ?ci_Agent ?mo_Agent ?co_Agent ?cg_Agent ?ne_Agent ?rd_Agent ?ga_Agent ?ty_Agent ?ss_Agent ?sp_NoneType_Agent ?sp_str_Agent ?sp_int_Agent ?sp_tuple_Agent ?ci_Through ?mo_Through ?co_Through ?cg_Through ?ne_Through ?rd_Through ?ga_Through ?ty_Through ?ss_Through ?sp_NoneType_Through ?sp_str_Through ?sp_int_Through ?sp_tuple_Through ?ci_Back ?mo_Back ?co_Back ?cg_Back ?ne_Back ?rd_Back ?ga_Back ?ty_Back ?ss_Back ?sp_NoneType_Back ?sp_str_Back ?sp_int_Back ?sp_tuple_Back ?sb_Agent_Through ?sb_Agent_Back ?sb_Through_Agent ?sb_Through_Back ?sb_Back_Agent ?sb_Back_Through ?n_list ?n_int ?n_len ?n_abs ?n_isinstance ?n_str ?n_bool ?n_tuple ?n_all ?n_enumerate ?n_range ?a_is_integer ?l_is_integer ?e_is_integer ?p_is_integer ?a_is_within ?l_is_within ?e_is_within ?p_is_within ?a_is_name ?l_is_name ?e_is_name ?p_is_name ?a_is_step ?l_is_step ?e_is_step ?p_is_step ?a_is_memory_step ?l_is_memory_step ?e_is_memory_step ?p_is_memory_step ?a_check_agent ?l_check_agent ?e_check_agent ?p_check_agent ?a_Agent_init ?i_Agent_init ?l_Agent_init ?e_Agent_init ?p_Agent_init ?a_Agent_made ?i_Agent_made ?j_Agent_made ?l_Agent_made ?e_Agent_made ?p_Agent_made ?a_Agent_len ?i_Agent_len ?l_Agent_len ?e_Agent_len ?p_Agent_len ?a_Agent_getitem ?i_Agent_getitem ?l_Agent_getitem ?e_Agent_getitem ?p_Agent_getitem ?a_Agent_eq ?i_Agent_eq ?l_Agent_eq ?e_Agent_eq ?p_Agent_eq ?a_Agent_with_steps ?i_Agent_with_steps ?l_Agent_with_steps ?e_Agent_with_steps ?p_Agent_with_steps ?a_Through_init ?i_Through_init ?l_Through_init ?e_Through_init ?p_Through_init ?a_Through_made ?i_Through_made ?j_Through_made ?l_Through_made ?e_Through_made ?p_Through_made ?a_Through_len ?i_Through_len ?l_Through_len ?e_Through_len ?p_Through_len ?a_Through_getitem ?i_Through_getitem ?l_Through_getitem ?e_Through_getitem ?p_Through_getitem ?a_Through_eq ?i_Through_eq ?l_Through_eq ?e_Through_eq ?p_Through_eq ?a_Through_with_steps ?i_Through_with_steps ?l_Through_with_steps ?e_Through_with_steps ?p_Through_with_steps ?a_Back_init ?i_Back_init ?l_Back_init ?e_Back_init ?p_Back_init ?a_Back_made ?i_Back_made ?j_Back_made ?l_Back_made ?e_Back_made ?p_Back_made ?a_Back_len ?i_Back_len ?l_Back_len ?e_Back_len ?p_Back_len ?a_Back_getitem ?i_Back_getitem ?l_Back_getitem ?e_Back_getitem ?p_Back_getitem ?a_Back_eq ?i_Back_eq ?l_Back_eq ?e_Back_eq ?p_Back_eq ?a_Back_with_steps ?i_Back_with_steps ?l_Back_with_steps ?e_Back_with_steps ?p_Back_with_steps ?a_pen ?l_pen ?e_pen ?p_pen ?a_draw ?l_draw ?e_draw ?p_draw ?a_good_step ?l_good_step ?e_good_step ?p_good_step ?a_made ?l_made ?e_made ?p_made ?a_has ?l_has ?e_has ?p_has ?a_other_kind ?l_other_kind ?e_other_kind ?p_other_kind ?a_bent ?l_bent ?e_bent ?p_bent ?a_round ?l_round ?e_round ?p_round ?a_law ?l_law ?e_law ?p_law ?k_LETTERS ?k_LONGEST_NAME ?k_ACCESS_WORDS ?lk_ACCESS_WORDS ?oc_ACCESS_WORDS ?od_ACCESS_WORDS ?oz_ACCESS_WORDS ?ov_ACCESS_WORDS ?k_UPKEEP_WORDS ?lk_UPKEEP_WORDS ?oc_UPKEEP_WORDS ?od_UPKEEP_WORDS ?oz_UPKEEP_WORDS ?ov_UPKEEP_WORDS ?k_SIGNAL_WORDS ?lk_SIGNAL_WORDS ?oc_SIGNAL_WORDS ?od_SIGNAL_WORDS ?oz_SIGNAL_WORDS ?ov_SIGNAL_WORDS ?k_PLAIN_WORDS ?lk_PLAIN_WORDS ?oc_PLAIN_WORDS ?od_PLAIN_WORDS ?oz_PLAIN_WORDS ?ov_PLAIN_WORDS ?k_CACHE_WORDS ?lk_CACHE_WORDS ?oc_CACHE_WORDS ?od_CACHE_WORDS ?oz_CACHE_WORDS ?ov_CACHE_WORDS ?k_GREATEST_SHIFT ?k_GREATEST_BYTE ?k_MOST_STEPS ?fg_Agent ?fg_Through ?fg_Back
    (case a_Agent => k_is)
    (case pg_Agent => k_is)
    (case hd_Agent => k_is)
    (case po_Agent => k_is)
    (case sa_Agent => k_is)
    (case na_Agent_name => k_is)
    (case na_Agent_steps => k_is)
    (case mk_Agent => k_is)
    (case kc_Agent => k_is)
    (case a_Through => k_is)
    (case pg_Through => k_is)
    (case hd_Through => k_is)
    (case po_Through => k_is)
    (case sa_Through => k_is)
    (case na_Through_name => k_is)
    (case na_Through_steps => k_is)
    (case mk_Through => k_is)
    (case kc_Through => k_is)
    (case a_Back => k_is)
    (case pg_Back => k_is)
    (case hd_Back => k_is)
    (case po_Back => k_is)
    (case sa_Back => k_is)
    (case na_Back_name => k_is)
    (case na_Back_steps => k_is)
    (case mk_Back => k_is)
    (case kc_Back => k_is)
    (case gg => k_is)
    (case tk => k_is)
    (case ci_Agent => k_is)
    (case mo_Agent => k_is)
    (case co_Agent => k_is)
    (case cg_Agent => k_is)
    (case ne_Agent => k_is)
    (case rd_Agent => k_is)
    (case ga_Agent => k_is)
    (case ty_Agent => k_is)
    (case ss_Agent => k_is)
    (case sp_NoneType_Agent => k_is)
    (case sp_str_Agent => k_is)
    (case sp_int_Agent => k_is)
    (case sp_tuple_Agent => k_is)
    (case ci_Through => k_is)
    (case mo_Through => k_is)
    (case co_Through => k_is)
    (case cg_Through => k_is)
    (case ne_Through => k_is)
    (case rd_Through => k_is)
    (case ga_Through => k_is)
    (case ty_Through => k_is)
    (case ss_Through => k_is)
    (case sp_NoneType_Through => k_is)
    (case sp_str_Through => k_is)
    (case sp_int_Through => k_is)
    (case sp_tuple_Through => k_is)
    (case ci_Back => k_is)
    (case mo_Back => k_is)
    (case co_Back => k_is)
    (case cg_Back => k_is)
    (case ne_Back => k_is)
    (case rd_Back => k_is)
    (case ga_Back => k_is)
    (case ty_Back => k_is)
    (case ss_Back => k_is)
    (case sp_NoneType_Back => k_is)
    (case sp_str_Back => k_is)
    (case sp_int_Back => k_is)
    (case sp_tuple_Back => k_is)
    (case sb_Agent_Through => k_is)
    (case sb_Agent_Back => k_is)
    (case sb_Through_Agent => k_is)
    (case sb_Through_Back => k_is)
    (case sb_Back_Agent => k_is)
    (case sb_Back_Through => k_is)
    (case n_list => k_is)
    (case n_int => k_is)
    (case n_len => k_is)
    (case n_abs => k_is)
    (case n_isinstance => k_is)
    (case n_str => k_is)
    (case n_bool => k_is)
    (case n_tuple => k_is)
    (case n_all => k_is)
    (case n_enumerate => k_is)
    (case n_range => k_is)
    (case a_is_integer => k_is)
    (case a_is_within => k_is)
    (case a_is_name => k_is)
    (case a_is_step => k_is)
    (case a_is_memory_step => k_is)
    (case a_check_agent => k_is)
    (case a_pen => k_is)
    (case a_draw => k_is)
    (case a_good_step => k_is)
    (case a_made => k_is)
    (case a_has => k_is)
    (case a_other_kind => k_is)
    (case a_bent => k_is)
    (case a_round => k_is)
    (case a_law => k_is)
    (case l_is_integer => k_is)
    (case e_is_integer => k_is)
    (case p_is_integer => k_is)
    (case l_is_within => k_is)
    (case e_is_within => k_is)
    (case p_is_within => k_is)
    (case l_is_name => k_is)
    (case e_is_name => k_is)
    (case p_is_name => k_is)
    (case l_is_step => k_is)
    (case e_is_step => k_is)
    (case p_is_step => k_is)
    (case l_is_memory_step => k_is)
    (case e_is_memory_step => k_is)
    (case p_is_memory_step => k_is)
    (case l_check_agent => k_is)
    (case e_check_agent => k_is)
    (case p_check_agent => k_is)
    (case a_Agent_init => k_is)
    (case i_Agent_init => k_is)
    (case l_Agent_init => k_is)
    (case e_Agent_init => k_is)
    (case p_Agent_init => k_is)
    (case a_Agent_made => k_is)
    (case i_Agent_made => k_is)
    (case j_Agent_made => k_is)
    (case l_Agent_made => k_is)
    (case e_Agent_made => k_is)
    (case p_Agent_made => k_is)
    (case a_Agent_len => k_is)
    (case i_Agent_len => k_is)
    (case l_Agent_len => k_is)
    (case e_Agent_len => k_is)
    (case p_Agent_len => k_is)
    (case a_Agent_getitem => k_is)
    (case i_Agent_getitem => k_is)
    (case l_Agent_getitem => k_is)
    (case e_Agent_getitem => k_is)
    (case p_Agent_getitem => k_is)
    (case a_Agent_eq => k_is)
    (case i_Agent_eq => k_is)
    (case l_Agent_eq => k_is)
    (case e_Agent_eq => k_is)
    (case p_Agent_eq => k_is)
    (case a_Agent_with_steps => k_is)
    (case i_Agent_with_steps => k_is)
    (case l_Agent_with_steps => k_is)
    (case e_Agent_with_steps => k_is)
    (case p_Agent_with_steps => k_is)
    (case a_Through_init => k_is)
    (case i_Through_init => k_is)
    (case l_Through_init => k_is)
    (case e_Through_init => k_is)
    (case p_Through_init => k_is)
    (case a_Through_made => k_is)
    (case i_Through_made => k_is)
    (case j_Through_made => k_is)
    (case l_Through_made => k_is)
    (case e_Through_made => k_is)
    (case p_Through_made => k_is)
    (case a_Through_len => k_is)
    (case i_Through_len => k_is)
    (case l_Through_len => k_is)
    (case e_Through_len => k_is)
    (case p_Through_len => k_is)
    (case a_Through_getitem => k_is)
    (case i_Through_getitem => k_is)
    (case l_Through_getitem => k_is)
    (case e_Through_getitem => k_is)
    (case p_Through_getitem => k_is)
    (case a_Through_eq => k_is)
    (case i_Through_eq => k_is)
    (case l_Through_eq => k_is)
    (case e_Through_eq => k_is)
    (case p_Through_eq => k_is)
    (case a_Through_with_steps => k_is)
    (case i_Through_with_steps => k_is)
    (case l_Through_with_steps => k_is)
    (case e_Through_with_steps => k_is)
    (case p_Through_with_steps => k_is)
    (case a_Back_init => k_is)
    (case i_Back_init => k_is)
    (case l_Back_init => k_is)
    (case e_Back_init => k_is)
    (case p_Back_init => k_is)
    (case a_Back_made => k_is)
    (case i_Back_made => k_is)
    (case j_Back_made => k_is)
    (case l_Back_made => k_is)
    (case e_Back_made => k_is)
    (case p_Back_made => k_is)
    (case a_Back_len => k_is)
    (case i_Back_len => k_is)
    (case l_Back_len => k_is)
    (case e_Back_len => k_is)
    (case p_Back_len => k_is)
    (case a_Back_getitem => k_is)
    (case i_Back_getitem => k_is)
    (case l_Back_getitem => k_is)
    (case e_Back_getitem => k_is)
    (case p_Back_getitem => k_is)
    (case a_Back_eq => k_is)
    (case i_Back_eq => k_is)
    (case l_Back_eq => k_is)
    (case e_Back_eq => k_is)
    (case p_Back_eq => k_is)
    (case a_Back_with_steps => k_is)
    (case i_Back_with_steps => k_is)
    (case l_Back_with_steps => k_is)
    (case e_Back_with_steps => k_is)
    (case p_Back_with_steps => k_is)
    (case l_pen => k_is)
    (case e_pen => k_is)
    (case p_pen => k_is)
    (case l_draw => k_is)
    (case e_draw => k_is)
    (case p_draw => k_is)
    (case l_good_step => k_is)
    (case e_good_step => k_is)
    (case p_good_step => k_is)
    (case l_made => k_is)
    (case e_made => k_is)
    (case p_made => k_is)
    (case l_has => k_is)
    (case e_has => k_is)
    (case p_has => k_is)
    (case l_other_kind => k_is)
    (case e_other_kind => k_is)
    (case p_other_kind => k_is)
    (case l_bent => k_is)
    (case e_bent => k_is)
    (case p_bent => k_is)
    (case l_round => k_is)
    (case e_round => k_is)
    (case p_round => k_is)
    (case l_law => k_is)
    (case e_law => k_is)
    (case p_law => k_is)
    (case k_LETTERS => k_is)
    (case k_LONGEST_NAME => k_is)
    (case k_ACCESS_WORDS => k_is)
    (case lk_ACCESS_WORDS => k_is)
    (case oc_ACCESS_WORDS => exact rfl)
    (case od_ACCESS_WORDS => exact rfl)
    (case oz_ACCESS_WORDS => exact (by decide))
    (case ov_ACCESS_WORDS => exact Paired.cons ⟨_, rfl⟩ (Paired.cons ⟨_, rfl⟩ (Paired.cons ⟨_, rfl⟩ (Paired.cons ⟨_, rfl⟩ (Paired.nil)))))
    (case k_UPKEEP_WORDS => k_is)
    (case lk_UPKEEP_WORDS => k_is)
    (case oc_UPKEEP_WORDS => exact rfl)
    (case od_UPKEEP_WORDS => exact rfl)
    (case oz_UPKEEP_WORDS => exact (by decide))
    (case ov_UPKEEP_WORDS => exact Paired.cons ⟨_, rfl⟩ (Paired.cons ⟨_, rfl⟩ (Paired.cons ⟨_, rfl⟩ (Paired.nil))))
    (case k_SIGNAL_WORDS => k_is)
    (case lk_SIGNAL_WORDS => k_is)
    (case oc_SIGNAL_WORDS => exact rfl)
    (case od_SIGNAL_WORDS => exact rfl)
    (case oz_SIGNAL_WORDS => exact (by decide))
    (case ov_SIGNAL_WORDS => exact Paired.cons ⟨_, rfl⟩ (Paired.cons ⟨_, rfl⟩ (Paired.nil)))
    (case k_PLAIN_WORDS => k_is)
    (case lk_PLAIN_WORDS => k_is)
    (case oc_PLAIN_WORDS => exact rfl)
    (case od_PLAIN_WORDS => exact rfl)
    (case oz_PLAIN_WORDS => exact (by decide))
    (case ov_PLAIN_WORDS => exact Paired.cons ⟨_, rfl⟩ (Paired.cons ⟨_, rfl⟩ (Paired.cons ⟨_, rfl⟩ (Paired.cons ⟨_, rfl⟩ (Paired.nil)))))
    (case k_CACHE_WORDS => k_is)
    (case lk_CACHE_WORDS => k_is)
    (case oc_CACHE_WORDS => exact rfl)
    (case od_CACHE_WORDS => exact rfl)
    (case oz_CACHE_WORDS => exact (by decide))
    (case ov_CACHE_WORDS => exact Paired.cons ⟨_, rfl⟩ (Paired.cons ⟨_, rfl⟩ (Paired.cons ⟨_, rfl⟩ (Paired.cons ⟨_, rfl⟩ (Paired.cons ⟨_, rfl⟩ (Paired.cons ⟨_, rfl⟩ (Paired.cons ⟨_, rfl⟩ (Paired.cons ⟨_, rfl⟩ (Paired.cons ⟨_, rfl⟩ (Paired.nil))))))))))
    (case k_GREATEST_SHIFT => k_is)
    (case k_GREATEST_BYTE => k_is)
    (case k_MOST_STEPS => k_is)
    (case fg_Agent => k_is)
    (case fg_Through => k_is)
    (case fg_Back => k_is)
