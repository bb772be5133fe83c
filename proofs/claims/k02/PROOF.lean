import PyProof.Rows.All
import Wide.All
import OpenK.AllK
import Wide.FinOn
import HandS.ForMost
import HandS.Wide
import HandS.WideBits
import HandS.Dict
import HandS.OwnEq
import PyProof.SeqRoads2
import HandS.Gcd
import HandS.Defaults
import HandS.CallLocal
import HandS.Style
import HandS.IsInst
import HandS.More
import HandS.TupAny
import HandS.StrMore
import HandS.Codes
import HandS.FStr
import HandS.ForSpec
import HandS.ExcIs
import KE.KExcInit
import PySem.Challenge.RW_figuretexts_k02_numbers_reckoned

set_option Elab.async false
set_option linter.all false
set_option maxRecDepth 100000
set_option maxHeartbeats 4000000

namespace My
/-! numbers as Rat -/
def cdiv (t b : Int) : Int := if b < 0 then -((Nat.gcd t.natAbs b.natAbs : Nat) : Int) else ((Nat.gcd t.natAbs b.natAbs : Nat) : Int)
theorem gcd_pos {t b : Int} (h : b ≠ 0) : 0 < Nat.gcd t.natAbs b.natAbs := Nat.gcd_pos_of_pos_right _ (by omega)
theorem num_of {t b : Int} (h : b ≠ 0) : t.fdiv (cdiv t b) = (Rat.divInt t b).num := by
  have g := gcd_pos (t := t) h
  have d1 : ((Nat.gcd t.natAbs b.natAbs : Nat) : Int) ∣ t := Int.dvd_trans (Int.natCast_dvd_natCast.mpr (Nat.gcd_dvd_left _ _)) (Int.natAbs_dvd.mpr (Int.dvd_refl _))
  rw [Rat.num_divInt]
  have e : ((Int.gcd b t : Nat) : Int) = ((Nat.gcd t.natAbs b.natAbs : Nat) : Int) := by
    rw [Int.gcd_comm]; rfl
  rw [e]
  unfold cdiv
  obtain ⟨k, hk⟩ := d1
  have gn : ((Nat.gcd t.natAbs b.natAbs : Nat) : Int) ≠ 0 := by omega
  generalize ((Nat.gcd t.natAbs b.natAbs : Nat) : Int) = G at *
  subst hk
  by_cases hb : b < 0
  · rw [if_pos hb, Int.sign_eq_neg_one_of_neg hb]
    rw [show G * k = (-G) * (-k) by rw [Int.neg_mul_neg], Int.mul_fdiv_cancel_left _ (by omega)]
    rw [show -1 * (-G * -k) = G * (-k) by rw [Int.neg_mul_neg]; rw [Int.neg_one_mul, Int.mul_neg], Int.mul_ediv_cancel_left _ gn]
  · have hb' : 0 < b := by omega
    rw [if_neg hb, Int.sign_eq_one_of_pos hb', Int.one_mul, Int.mul_fdiv_cancel_left _ gn, Int.mul_ediv_cancel_left _ gn]
theorem den_of {t b : Int} (h : b ≠ 0) : b.fdiv (cdiv t b) = ((Rat.divInt t b).den : Int) := by
  have g := gcd_pos (t := t) h
  have d1 : ((Nat.gcd t.natAbs b.natAbs : Nat) : Int) ∣ b := Int.dvd_trans (Int.natCast_dvd_natCast.mpr (Nat.gcd_dvd_right _ _)) (Int.natAbs_dvd.mpr (Int.dvd_refl _))
  rw [Rat.den_divInt, if_neg h]
  have e : (Int.gcd b t : Nat) = (Nat.gcd t.natAbs b.natAbs : Nat) := by
    rw [Int.gcd_comm]; rfl
  rw [e, Int.natCast_ediv]
  unfold cdiv
  obtain ⟨k, hk⟩ := d1
  have gn : ((Nat.gcd t.natAbs b.natAbs : Nat) : Int) ≠ 0 := by omega
  have gp : 0 < ((Nat.gcd t.natAbs b.natAbs : Nat) : Int) := by omega
  generalize hG : ((Nat.gcd t.natAbs b.natAbs : Nat) : Int) = G at *
  by_cases hb : b < 0
  · rw [if_pos hb, show ((b.natAbs : Nat) : Int) = -b by omega]
    rw [hk, show G * k = (-G) * (-k) by rw [Int.neg_mul_neg], Int.mul_fdiv_cancel_left _ (by omega)]
    rw [show -(-G * -k) = G * (-k) by rw [Int.neg_mul_neg, Int.mul_neg], Int.mul_ediv_cancel_left _ gn]
  · rw [if_neg hb, show ((b.natAbs : Nat) : Int) = b by omega, hk, Int.mul_fdiv_cancel_left _ gn, Int.mul_ediv_cancel_left _ gn]

/-- top and bottom below 2 ^ n -/
def Bd (n : Nat) (q : Rat) : Prop := q.num.natAbs < 2 ^ n ∧ q.den < 2 ^ n
theorem Bd.mono {m n : Nat} {q : Rat} (h : Bd m q) (l : m ≤ n) : Bd n q :=
  ⟨Nat.lt_of_lt_of_le h.1 (Nat.pow_le_pow_right (by decide) l), Nat.lt_of_lt_of_le h.2 (Nat.pow_le_pow_right (by decide) l)⟩
theorem num_le (t b : Int) : (Rat.divInt t b).num.natAbs ≤ t.natAbs := by
  rw [Rat.num_divInt]
  refine Nat.le_trans (Int.natAbs_ediv_le_natAbs _ _) ?_
  rw [Int.natAbs_mul]
  rcases Int.lt_trichotomy b 0 with h | h | h
  · rw [Int.sign_eq_neg_one_of_neg h]; simp
  · subst h; simp
  · rw [Int.sign_eq_one_of_pos h]; simp
theorem den_le {t b : Int} (h : b ≠ 0) : (Rat.divInt t b).den ≤ b.natAbs := by
  rw [Rat.den_divInt, if_neg h]
  exact Nat.div_le_self _ _
theorem Bd.of {n : Nat} {t b : Int} (h : b ≠ 0) (ht : t.natAbs < 2 ^ n) (hb : b.natAbs < 2 ^ n) : Bd n (Rat.divInt t b) :=
  ⟨Nat.lt_of_le_of_lt (num_le t b) ht, Nat.lt_of_le_of_lt (den_le h) hb⟩
theorem den_ne (q : Rat) : ((q.den : Nat) : Int) ≠ 0 := by have := q.den_pos; omega
theorem sub_eq (x y : Rat) : Rat.divInt (x.num * (y.den : Int) - y.num * (x.den : Int)) ((x.den : Int) * (y.den : Int)) = x - y := by
  rw [Rat.sub_def', ← Int.natCast_mul, Rat.divInt_ofNat]
theorem add_eq (x y : Rat) : Rat.divInt (x.num * (y.den : Int) + y.num * (x.den : Int)) ((x.den : Int) * (y.den : Int)) = x + y := by
  rw [Rat.add_def', ← Int.natCast_mul, Rat.divInt_ofNat]
theorem mul_eq (x y : Rat) : Rat.divInt (x.num * y.num) ((x.den : Int) * (y.den : Int)) = x * y := by
  rw [Rat.mul_def', ← Int.natCast_mul, Rat.divInt_ofNat]
theorem div_eq (x y : Rat) : Rat.divInt (x.num * (y.den : Int)) ((x.den : Int) * y.num) = x / y := by
  rw [Rat.div_def, Rat.inv_def, ← Rat.divInt_mul_divInt, Rat.num_divInt_den]
theorem num_ne {y : Rat} (h : y ≠ 0) : y.num ≠ 0 := fun e => h (Rat.num_eq_zero.mp e)
theorem floor_eq (x : Rat) : x.num.fdiv (x.den : Int) = x.floor := by
  rw [Rat.floor_def, Int.fdiv_eq_ediv_of_nonneg _ (by omega)]
theorem natAbs_mul_lt {a b : Int} {m n k : Nat} (ha : a.natAbs < 2 ^ m) (hb : b.natAbs < 2 ^ n) (h : m + n ≤ k) : (a * b).natAbs < 2 ^ k := by
  rw [Int.natAbs_mul]
  exact Nat.lt_of_lt_of_le (Nat.mul_lt_mul'' ha hb) (by rw [← Nat.pow_add]; exact Nat.pow_le_pow_right (by decide) h)
theorem natAbs_sub_lt {a b : Int} {k : Nat} (ha : a.natAbs < 2 ^ k) (hb : b.natAbs < 2 ^ k) : (a - b).natAbs < 2 ^ (k + 1) := by
  rw [Nat.pow_succ]; omega
theorem natAbs_add_lt {a b : Int} {k : Nat} (ha : a.natAbs < 2 ^ k) (hb : b.natAbs < 2 ^ k) : (a + b).natAbs < 2 ^ (k + 1) := by
  rw [Nat.pow_succ]; omega
theorem Bd.sub {m n : Nat} {x y : Rat} (hx : Bd m x) (hy : Bd n y) : Bd (m + n + 1) (x - y) := by
  rw [← sub_eq]
  refine Bd.of (Int.mul_ne_zero (den_ne x) (den_ne y)) ?_ ?_
  · exact natAbs_sub_lt (natAbs_mul_lt (m := m) (n := n) hx.1 (by have := hy.2; omega) (Nat.le_refl _)) (natAbs_mul_lt (m := n) (n := m) hy.1 (by have := hx.2; omega) (by omega))
  · exact natAbs_mul_lt (m := m) (n := n) (by have := hx.2; omega) (by have := hy.2; omega) (by omega)
theorem Bd.mul {m n : Nat} {x y : Rat} (hx : Bd m x) (hy : Bd n y) : Bd (m + n) (x * y) := by
  rw [← mul_eq]
  exact Bd.of (Int.mul_ne_zero (den_ne x) (den_ne y)) (natAbs_mul_lt hx.1 hy.1 (Nat.le_refl _)) (natAbs_mul_lt (m := m) (n := n) (by have := hx.2; omega) (by have := hy.2; omega) (by omega))
theorem Bd.div {m n : Nat} {x y : Rat} (hx : Bd m x) (hy : Bd n y) (h : y ≠ 0) : Bd (m + n) (x / y) := by
  rw [← div_eq]
  exact Bd.of (Int.mul_ne_zero (den_ne x) (num_ne h)) (natAbs_mul_lt (m := m) (n := n) hx.1 (by have := hy.2; omega) (Nat.le_refl _)) (natAbs_mul_lt (m := m) (n := n) (by have := hx.2; omega) hy.1 (by omega))
theorem Bd.int {n : Nat} {i : Int} (h : i.natAbs < 2 ^ n) (h1 : 1 ≤ n) : Bd n (i : Rat) := ⟨h, by
  show 1 < 2 ^ n
  exact Nat.lt_of_lt_of_le (by decide) (Nat.pow_le_pow_right (by decide) h1)⟩
theorem floor_bd {n : Nat} {x : Rat} (h : Bd n x) : x.floor.natAbs < 2 ^ n := by
  rw [Rat.floor_def]
  exact Nat.lt_of_le_of_lt (Int.natAbs_ediv_le_natAbs _ _) h.1
theorem divInt_one (i : Int) : Rat.divInt i 1 = (i : Rat) := by
  have := Rat.divInt_ofNat i 1
  rw [show ((1 : Nat) : Int) = 1 from rfl] at this
  rw [this, Rat.mkRat_eq_div]; simp
  grind

/-! the ways -/
inductive Way where
  | up | down | high | low | hup | hdown | heven | hodd
def nearerB (part : Rat) (a : Bool) : Bool := if 2 * part.num = (part.den : Int) then a else decide ((part.den : Int) < 2 * part.num)
def ruleB : Way → Int → Rat → Bool
  | .up, l, _ => decide (0 ≤ l)
  | .down, l, _ => decide (l < 0)
  | .high, _, _ => true
  | .low, _, _ => false
  | .hup, l, p => nearerB p (decide (0 ≤ l))
  | .hdown, l, p => nearerB p (decide (l < 0))
  | .heven, l, p => nearerB p (decide (l % 2 = 1))
  | .hodd, l, p => nearerB p (decide (l % 2 = 0))
def partQ (n : Rat) : Rat := n - (n.floor : Rat)
def highQ (n : Rat) : Int := if (partQ n).num = 0 then n.floor else n.floor + 1
def takenQ (w : Way) (n : Rat) : Int := if (partQ n).num = 0 then n.floor else if ruleB w n.floor (partQ n) = true then n.floor + 1 else n.floor
theorem floor_add {c : Int} {f : Rat} (h0 : 0 ≤ f) (h1 : f < 1) : ((c : Rat) + f).floor = c := by
  have a : c ≤ ((c : Rat) + f).floor := Rat.le_floor_iff.mpr (by grind)
  have b : ((c : Rat) + f).floor < c + 1 := Rat.floor_lt_iff.mpr (by rw [Rat.intCast_add]; grind)
  omega
theorem part_add {c : Int} {f : Rat} (h0 : 0 ≤ f) (h1 : f < 1) : partQ ((c : Rat) + f) = f := by
  unfold partQ
  rw [floor_add h0 h1]
  grind
theorem taken_add {w : Way} {c : Int} {f : Rat} (h0 : 0 < f) (h1 : f < 1) : takenQ w ((c : Rat) + f) = if ruleB w c f = true then c + 1 else c := by
  unfold takenQ
  rw [part_add (Rat.le_of_lt h0) h1, floor_add (Rat.le_of_lt h0) h1, if_neg (num_ne (by grind))]
/-- a number of whole and part steps -/
theorem steps_eq {a b c p0 p1 : Int} (ha : a ≠ 0) (hb : b ≠ 0) (h1 : p1 ≠ 0) : Rat.divInt (a * (c * p1 + p0)) (b * p1) / Rat.divInt a b = (c : Rat) + Rat.divInt p0 p1 := by
  simp only [Rat.divInt_eq_div, Rat.intCast_mul, Rat.intCast_add]
  have ha' : (a : Rat) ≠ 0 := by simpa using ha
  have hb' : (b : Rat) ≠ 0 := by simpa using hb
  have h1' : (p1 : Rat) ≠ 0 := by simpa using h1
  grind
end My

namespace My
open PySem L2
/-! readings, one head at a time -/
section
variable {σ : L2.St} {H : Hp} {Q : VK} {QB : Bool → Hp → Prop} {QA : List V → Hp → Prop} {QS : L2.St → Hp → Prop} {v x y : V} {ta tb te tc : TE} {tr : TA} {t u : TS} {c d : TT} {g : TG} {i : Nat} {K : PySem.W.Frag} {b : Bool}
  {nx : L2.St → Hp → Prop} {rt : VK} {bk ct : L2.St → Hp → Prop}
theorem r_var (q : ∃ v, σ[i]? = some (some v) ∧ Q v H) : tVar i σ H Q := q
theorem r_c (q : Q v H) : tC v σ H Q := q
theorem r_op {r : R2} (q : ta σ H fun x H1 => tb σ H1 fun y H2 => r x y H2 Q) : tOp r ta tb σ H Q := q
theorem r_un {r : V → Hp → VK → Prop} (q : ta σ H fun x H1 => r x H1 Q) : tUn r ta σ H Q := q
theorem r_U {f : Int → V} {i : Int} (q : Q (f i) H) : rU f (.int i) H Q := ⟨i, rfl, q⟩
theorem r_I0 {f : Int → Int → V} {i j : Int} (q : Q (f i j) H) : rI0 f (.int i) (.int j) H Q := ⟨i, j, rfl, rfl, q⟩
theorem r_I {C : Int → Int → Prop} {f : Int → Int → V} {i j : Int} (h : C i j) (q : Q (f i j) H) : rI C f (.int i) (.int j) H Q := ⟨i, j, rfl, rfl, h, q⟩
theorem r_eq (h : scal x y = true) (q : Q (.bl (decide (x = y))) H) : rEq x y H Q := ⟨h, q⟩
theorem r_ne (h : scal x y = true) (q : Q (.bl (!decide (x = y))) H) : rNe x y H Q := ⟨h, q⟩
theorem r_eqI {i j : Int} (q : Q (.bl (decide (i = j))) H) : rEq (.int i) (.int j) H Q := ⟨rfl, by
  have e : decide (V.int i = V.int j) = decide (i = j) := by simp
  rw [e]; exact q⟩
theorem r_neI {i j : Int} (q : Q (.bl (!decide (i = j))) H) : rNe (.int i) (.int j) H Q := ⟨rfl, by
  have e : decide (V.int i = V.int j) = decide (i = j) := by simp
  rw [e]; exact q⟩
theorem r_eqS {i j : Str} (q : Q (.bl (decide (i = j))) H) : rEq (.str i) (.str j) H Q := ⟨rfl, by
  have e : decide (V.str i = V.str j) = decide (i = j) := by simp
  rw [e]; exact q⟩
theorem r_eqB {i j : Bool} (q : Q (.bl (decide (i = j))) H) : rEq (.bl i) (.bl j) H Q := ⟨rfl, by
  have e : decide (V.bl i = V.bl j) = decide (i = j) := by simp
  rw [e]; exact q⟩
theorem r_test (q : te σ H fun x H' => ∃ k, x = .bl k ∧ QB k H') : tTest te σ H QB := q
theorem r_B (q : te σ H fun x H' => ∃ k, x = .bl k ∧ QB k H') : tB te σ H QB := q
theorem r_k {P : Bool → Prop} (q : P b) : ∃ k, V.bl b = .bl k ∧ P k := ⟨b, rfl, q⟩
theorem r_and (q : c σ H fun b H1 => if b = true then d σ H1 QB else QB false H1) : tAnd c d σ H QB := q
theorem r_or (q : c σ H fun b H1 => if b = true then QB true H1 else d σ H1 QB) : tOr c d σ H QB := q
theorem r_not (q : c σ H fun b H1 => QB (!b) H1) : tNot c σ H QB := q
theorem r_andV (q : ta σ H fun x H1 => ∃ c, x = .bl c ∧ if c = true then tb σ H1 Q else Q (.bl false) H1) : tAndV ta tb σ H Q := q
theorem r_orV (q : ta σ H fun x H1 => ∃ c, x = .bl c ∧ if c = true then Q (.bl true) H1 else tb σ H1 Q) : tOrV ta tb σ H Q := q
theorem r_notV (q : ta σ H fun x H1 => ∃ c, x = .bl c ∧ Q (.bl (!c)) H1) : tNotV ta σ H Q := q
theorem r_if (q : c σ H fun b H1 => if b = true then ta σ H1 Q else tb σ H1 Q) : tIf c ta tb σ H Q := q
theorem r_seq (q : t ⟨u ⟨nx, rt, bk, ct⟩, rt, bk, ct⟩ σ H) : tSeq t u ⟨nx, rt, bk, ct⟩ σ H := q
theorem r_asg (q : te σ H fun x H1 => g x σ H1 nx) : tAsg te g ⟨nx, rt, bk, ct⟩ σ H := q
theorem r_name (q : QS (σ.set i (some v)) H) : gName i v σ H QS := q
theorem r_ifs (q : c σ H fun b H1 => if b = true then t ⟨nx, rt, bk, ct⟩ σ H1 else u ⟨nx, rt, bk, ct⟩ σ H1) : tIfS c t u ⟨nx, rt, bk, ct⟩ σ H := q
theorem r_ret (q : te σ H rt) : tRet te ⟨nx, rt, bk, ct⟩ σ H := q
theorem r_next (q : nx σ H) : tNext ⟨nx, rt, bk, ct⟩ σ H := q
theorem r_drop (q : te σ H fun _ H1 => nx σ H1) : tDrop te ⟨nx, rt, bk, ct⟩ σ H := q
theorem r_cons (q : te σ H fun x H1 => tr σ H1 fun xs H2 => QA (x :: xs) H2) : tCons te tr σ H QA := q
theorem r_nil (q : QA [] H) : tNil σ H QA := q
theorem r_tup (q : tr σ H fun xs H1 => xs.length ≤ sizeLine ∧ ∀ p, H1 p = none → Q (.ref p) (upd H1 p (.tup xs))) : tTup tr σ H Q := q
theorem r_lst (q : tr σ H fun xs H1 => xs.length ≤ sizeLine ∧ ∀ p, H1 p = none → Q (.ref p) (upd H1 p (.lst xs))) : tLst tr σ H Q := q
theorem r_new {n : Nat} {P : Prop} (h : n ≤ 1000) (q : P) : n ≤ sizeLine ∧ P := ⟨Nat.le_trans h (by decide), q⟩
theorem r_fldT {f : Str} (q : ta σ H fun x H1 => ∃ a C dx fs v, x = .ref a ∧ H1 a = some (.ins C dx fs) ∧ Cls K C ∧ NoAttr K C f ∧ fs.lookup f = some v ∧ Q v H1) : tFld K ta f σ H Q := q
theorem r_fld {f : Str} {p C dx : Addr} {fs : List (Str × V)} (h : H p = some (.ins C dx fs)) (k : Cls K C) (n : NoAttr K C f) (l : fs.lookup f = some v) {P : V → Prop} (q : P v) :
    ∃ a C dx fs v, V.ref p = .ref a ∧ H a = some (.ins C dx fs) ∧ Cls K C ∧ NoAttr K C f ∧ fs.lookup f = some v ∧ P v := ⟨p, C, dx, fs, v, rfl, h, k, n, l, q⟩
theorem r_sFld {f : Str} (q : te σ H fun y H1 => ta σ H1 fun x H2 => ∃ a C dx fs, x = .ref a ∧ H2 a = some (.ins C dx fs) ∧ Cls K C ∧ NoAttr K C f ∧ fs.length < 1000 ∧ nx σ (upd H2 a (.ins C dx (putF f y fs)))) : sFld K ta te f ⟨nx, rt, bk, ct⟩ σ H := q
theorem r_call {sp : Sp} {dvs : List V} {E : XK} (q : tr σ H fun vs H1 => sp (vs ++ dvs) H1 Q E) : tCall sp dvs E tr σ H Q := q
theorem r_CB {r : List V → Hp → VK → Prop} (q : tr σ H fun vs H1 => r vs H1 Q) : tCB r tr σ H Q := q
theorem r_meth {C : Addr} {m : Str} {sp : Sp} {dvs : List V} {E : XK} (q : ta σ H fun x H1 => ∃ a dx fs, x = .ref a ∧ H1 a = some (.ins C dx fs) ∧ fs.lookup m = none ∧ tr σ H1 fun vs H2 => sp (x :: (vs ++ dvs)) H2 Q E) : tMeth C m sp dvs E ta tr σ H Q := q
theorem r_meth1 {C : Addr} {m : Str} {P : Prop} {p dx : Addr} {fs : List (Str × V)} (h : H p = some (.ins C dx fs)) (l : fs.lookup m = none) (q : P) : ∃ a dx fs, V.ref p = .ref a ∧ H a = some (.ins C dx fs) ∧ fs.lookup m = none ∧ P := ⟨p, dx, fs, rfl, h, l, q⟩
theorem r_make {C : Addr} {sp : Sp} {dvs : List V} {E : XK} (q : tr σ H fun vs H1 => ∀ x dx, H1 x = none → H1 dx = none → dx ≠ x → sp (.ref x :: (vs ++ dvs)) (upd (upd H1 dx (.own x)) x (.ins C dx [])) (fun v H2 => v = .non ∧ Q (.ref x) H2) E) : tMake C sp dvs E tr σ H Q := q
theorem r_callN {n m : Nat} {sp : Sp} {gV : List V → List V → List V} {E : XK} {tk : TA} (q : tr σ H fun vs H1 => tk σ H1 fun zs H2 => vs.length = n ∧ zs.length = m ∧ sp (gV vs zs) H2 Q E) : tCallN n m sp gV E tr tk σ H Q := q
theorem r_ixT {p : Addr} {xs : List V} {i : Int} (h : H p = some (.tup xs)) (a : atI xs i = some v) (q : Q v H) : rIxT K (.ref p) (.int i) H Q := ⟨p, xs, i, v, rfl, rfl, SqT.of h, a, q⟩
theorem r_ixL {p : Addr} {xs : List V} {i : Int} (h : H p = some (.lst xs)) (a : atI xs i = some v) (q : Q v H) : rIxL K (.ref p) (.int i) H Q := ⟨p, xs, i, v, rfl, rfl, SqL.of h, a, q⟩
theorem r_isi {vs : List V} (q : rIsi K vs H Q) : rIsi K vs H Q := q
theorem r_ite {A B : Prop} {k : Bool} (h1 : k = true → A) (h2 : k = false → B) : if k = true then A else B := by
  cases k with
  | true => exact h1 rfl
  | false => exact h2 rfl
theorem r_iteT {A B : Prop} {k : Bool} (h : k = true) (q : A) : if k = true then A else B := by
  rw [if_pos h]; exact q
theorem r_iteF {A B : Prop} {k : Bool} (h : k = false) (q : B) : if k = true then A else B := by
  subst h; exact iteF q
end
/-! ### // by any number but nought -/
def CDivA (_ j : Int) : Prop := j ≠ 0 ∧ j.natAbs.log2 < 9000
theorem op_fdivA {X : Cx} : OpR X (binaryOp .FloorDiv) (rI CDivA fun i j => .int (i.fdiv j)) := opI fun i j _ _ _ _ _ hc q => PyProof.Rows.floordiv_int hc.1 q (.inl (PyProof.noPylong_of_log2 hc.2))
theorem cdivA {i j : Int} {b : Nat} (h : j ≠ 0) (hb : j.natAbs < 2 ^ b) (h0 : 0 < b) (h9 : b ≤ 9000) : CDivA i j := ⟨h, Nat.lt_of_lt_of_le (PySem.Flt.log2_lt_of h0 hb) h9⟩
/-! ### heaps but for two places -/
def Off (d c : Addr) (H H' : Hp) : Prop := ∀ b o, b ≠ d → b ≠ c → H b = some o → H' b = some o
theorem Off.refl (d c : Addr) (H : Hp) : Off d c H H := fun _ _ _ _ h => h
theorem Off.trans {d c : Addr} {H H1 H2 : Hp} (a : Off d c H H1) (b : Off d c H1 H2) : Off d c H H2 := fun x o h1 h2 h => b x o h1 h2 (a x o h1 h2 h)
theorem Off.of {d c : Addr} {H H' : Hp} (a : Same H H') : Off d c H H' := fun x o _ _ h => a x o h
theorem Same.new {H : Hp} {p : Addr} {o : HO} (h : H p = none) : Same H (upd H p o) := fun b u e => by
  rw [upd_ne (ne_of_none e h)]
  exact e
/-! ### more heads -/
section
variable {σ : L2.St} {H : Hp} {Q : VK} {QA : List V → Hp → Prop} {QS : L2.St → Hp → Prop} {QO : Option Int → Hp → Prop} {v x y : V} {te ta to ti : TE} {tr : TA} {tl th : TO} {K : PySem.W.Frag} {nx : L2.St → Hp → Prop} {rt : VK} {bk ct : L2.St → Hp → Prop}
theorem r_gsub {t : TSet} (q : to σ H fun o H1 => ti σ H1 fun i H2 => t o i v H2 fun H3 => QS σ H3) : gSub to ti t v σ H QS := q
theorem r_setL {p : Addr} {xs : List V} {k : Int} {j : Nat} {R : Hp → Prop} (h : H p = some (.lst xs)) (e : ixN xs.length k = some j) (q : R (upd H p (.lst (xs.set j v)))) : rSetL (.ref p) (.int k) v H R := ⟨p, xs, k, j, rfl, rfl, h, e, q⟩
theorem r_sl {r : V → Option Int → Option Int → Hp → VK → Prop} (q : te σ H fun x H1 => tl σ H1 fun l H2 => th σ H2 fun u H3 => r x l u H3 Q) : tSl r te tl th σ H Q := q
theorem r_noPart (q : QO none H) : tNoPart σ H QO := q
theorem r_part (q : te σ H fun x H1 => ∃ i, x = .int i ∧ QO (some i) H1) : tPart te σ H QO := q
theorem r_ki {P : Int → Prop} {i : Int} (q : P i) : ∃ k, V.int i = .int k ∧ P k := ⟨i, rfl, q⟩
theorem r_bm0 {T : String} {r : V → List V → Hp → VK → Prop} (q : te σ H fun x H1 => tyV K T x H1 ∧ r x [] H1 Q) : tBM0 K T r te σ H Q := q
theorem r_bm {T : String} {r : V → List V → Hp → VK → Prop} (q : te σ H fun x H1 => tyV K T x H1 ∧ tr σ H1 fun xs H2 => r x xs H2 Q) : tBM K T r te tr σ H Q := q
theorem r_rev (q : te σ H fun x H1 => ∃ a xs, x = .ref a ∧ SqL K H1 a xs ∧ ∀ p, H1 p = none → Q (.ref p) (upd H1 p (.lst xs.reverse))) : tRevL K te σ H Q := q
theorem ty_list {p : Addr} {xs : List V} (h : H p = some (.lst xs)) : tyV K "list" (.ref p) H := .inl ⟨rfl, _, SqL.of h⟩
theorem r_pop {p : Addr} {xs : List V} {y : V} (h : H p = some (.lst (xs ++ [y]))) (q : Q y (upd H p (.lst xs))) : rPop (.ref p) [] H Q := by
  refine ⟨p, xs ++ [y], y, rfl, rfl, h, by simp, ?_⟩
  rw [List.dropLast_concat]
  exact q
theorem r_append {p : Addr} {xs : List V} (h : H p = some (.lst xs)) (l : xs.length ≤ 1000) (q : Q .non (upd H p (.lst (xs ++ [y])))) : rAppend (.ref p) [y] H Q := ⟨p, xs, y, rfl, rfl, h, Nat.lt_of_le_of_lt l (by decide), q⟩
end
theorem dp_ints {K : PySem.W.Frag} {H : Hp} : ∀ xs : List Int, DpAll K H (xs.map V.int) (xs.map PyData.int)
  | [] => .nil
  | x :: xs => .cons (.int x) (dp_ints xs)
theorem lay_ints : ∀ xs : List Int, PyData.canLayAll0 (xs.map PyData.int) = true ∧ PyData.depthAll (xs.map PyData.int) = 0
  | [] => ⟨rfl, rfl⟩
  | x :: xs => by
    obtain ⟨a, b⟩ := lay_ints xs
    constructor
    · show (PyData.canLay0 (.int x) && PyData.canLayAll0 (xs.map PyData.int)) = true
      rw [a]; rfl
    · show max (PyData.depth (.int x)) (PyData.depthAll (xs.map PyData.int)) = 0
      rw [b]; rfl
theorem shaped_ints (xs : List Int) : SeqAt.shaped (.list (xs.map PyData.int)) = true := by
  obtain ⟨a, b⟩ := lay_ints xs
  have a' : PyData.canLay0 (.list (xs.map PyData.int)) = true := by rw [PyData.canLay0]; exact a
  have b' : PyData.depth (.list (xs.map PyData.int)) = 1 := by rw [PyData.depth, b]
  unfold SeqAt.shaped
  rw [a', b']; rfl
theorem eqv_ints : ∀ xs ys : List Int, PyData.eqvAll (xs.map PyData.int) (ys.map PyData.int) = decide (xs = ys)
  | [], [] => rfl
  | [], _ :: _ => by simp [PyData.eqvAll]
  | _ :: _, [] => by simp [PyData.eqvAll]
  | x :: xs, y :: ys => by
    show (PyData.eqv (.int x) (.int y) && PyData.eqvAll (xs.map PyData.int) (ys.map PyData.int)) = _
    rw [eqv_ints xs ys]
    show ((x == y) && decide (xs = ys)) = _
    rw [Bool.eq_iff_iff]; simp
theorem r_neInts {K : PySem.W.Frag} {H : Hp} {Q : VK} {p q : Addr} {xs ys : List Int} (h : SqL K H p (xs.map V.int)) (h' : SqL K H q (ys.map V.int)) (k : Q (.bl (!decide (xs = ys))) H) : rNeD K (.ref p) (.ref q) H Q :=
  ⟨.list (xs.map PyData.int), .list (ys.map PyData.int), .lst h (dp_ints xs), .lst h' (dp_ints ys), shaped_ints xs, shaped_ints ys, by
    rw [PyData.eqv, eqv_ints]; exact k⟩
theorem cut_ints (ns : List Int) (k : Int) : ∃ ms : List Int, cutV (ns.map V.int) none (some k) = ms.map V.int ∧ ms.length ≤ ns.length := by
  unfold cutV
  rw [← List.map_drop, ← List.map_take]
  exact ⟨_, rfl, by rw [List.length_take, List.length_drop]; omega⟩
end My
namespace My
open PySem L2
theorem r_forT {σ : L2.St} {H : Hp} {K : PySem.W.Frag} {tl : TE} {g : TG} {tb : TS} {D : Ends} (q : tl σ H fun x H1 => ∃ a, x = .ref a ∧ (∃ xs, SqT K H1 a xs) ∧ ∃ W : Nat → Nat → L2.St → Hp → Prop, (∃ m, W 0 m σ H1) ∧ ∀ i m σ H, W i m σ H →
    ((Itt K a).stop i H ∧ D.nx σ H) ∨ ((Itt K a).go i H ∧ ∃ N : L2.St → Hp → Prop, (∀ σ' H', N σ' H' → ∃ m', m' < m ∧ W (i + 1) m' σ' H') ∧ ∀ x H', (Itt K a).yld i H x H' → g x σ H' fun σ2 H2 => tb { D with nx := N, ct := N, bk := D.nx } σ2 H2)) : tFor (iTup K tl) g tb D σ H := q
end My

local macro_rules | `(tactic| walk_at "rd1") => `(tactic| first
  | with_reducible refine My.r_seq ?_
  | with_reducible refine My.r_asg ?_
  | with_reducible refine My.r_name ?_
  | with_reducible refine My.r_cons ?_
  | with_reducible refine My.r_nil ?_
  | with_reducible refine My.r_op ?_
  | ((with_reducible refine My.r_var ?_); refine ⟨_, rfl, ?_⟩)
  | with_reducible refine My.r_c ?_
  | with_reducible refine My.r_I0 ?_
  | with_reducible refine My.r_eqI ?_
  | with_reducible refine My.r_neI ?_
  | with_reducible refine My.r_eqS ?_
  | with_reducible refine My.r_eqB ?_
  | with_reducible refine My.r_test ?_
  | with_reducible refine My.r_B ?_
  | with_reducible refine My.r_k ?_
  | with_reducible refine My.r_un ?_
  | with_reducible refine My.r_U ?_
  | with_reducible refine My.r_ifs ?_
  | with_reducible refine My.r_ret ?_
  | with_reducible refine My.r_next ?_
  | with_reducible refine My.r_drop ?_
  | with_reducible refine My.r_CB ?_
  | with_reducible refine My.r_call ?_
  | with_reducible refine My.r_callN ?_
  | with_reducible refine My.r_meth ?_
  | with_reducible refine My.r_make ?_
  | with_reducible refine My.r_tup ?_
  | with_reducible refine My.r_lst ?_
  | with_reducible refine My.r_fldT ?_
  | with_reducible refine My.r_sFld ?_
  | with_reducible refine My.r_and ?_
  | with_reducible refine My.r_or ?_
  | with_reducible refine My.r_not ?_
  | with_reducible refine My.r_andV ?_
  | with_reducible refine My.r_orV ?_
  | with_reducible refine My.r_notV ?_
  | with_reducible refine My.r_if ?_
  | with_reducible refine My.r_gsub ?_
  | with_reducible refine My.r_sl ?_
  | with_reducible refine My.r_noPart ?_
  | with_reducible refine My.r_part ?_
  | with_reducible refine My.r_ki ?_
  | with_reducible refine My.r_bm0 ?_
  | with_reducible refine My.r_bm ?_
  | with_reducible refine My.r_rev ?_
  | ((with_reducible refine My.r_I ?_ ?_); (first | decide | exact .inl ⟨by decide, by decide⟩ | exact .inr ⟨by decide, by decide⟩ | exact ⟨by decide, by decide⟩ | exact ⟨by decide, by decide, by decide⟩)))
local macro_rules | `(tactic| walk_at "rd") => `(tactic| (repeat walk_at "rd1"))


namespace My
/-! ### rounded twice -/
def isHalf : Way → Bool
  | .heven | .hodd | .hup | .hdown => true
  | _ => false
/-- at the middle beyond l: whether up -/
def tieUp : Way → Int → Bool
  | .hup, l => decide (0 ≤ l)
  | .hdown, l => decide (l < 0)
  | .heven, l => decide (l % 2 = 1)
  | .hodd, l => decide (l % 2 = 0)
  | _, _ => false
theorem nearerB_lo {p : Rat} {a : Bool} (h : p < 1 / 2) : nearerB p a = false := by
  have d := p.den_pos
  have e : p.num * 2 < 1 * (p.den : Int) := by
    have := (Rat.lt_iff p (1 / 2)).mp h
    have h1 : ((1 : Rat) / 2).num = 1 := by decide +kernel
    have h2 : ((1 : Rat) / 2).den = 2 := by decide +kernel
    rw [h1, h2] at this
    exact this
  unfold nearerB
  rw [if_neg (by omega)]
  exact decide_eq_false (by omega)
theorem nearerB_hi {p : Rat} {a : Bool} (h : 1 / 2 < p) : nearerB p a = true := by
  have d := p.den_pos
  have e : 1 * (p.den : Int) < p.num * 2 := by
    have := (Rat.lt_iff (1 / 2) p).mp h
    have h1 : ((1 : Rat) / 2).num = 1 := by decide +kernel
    have h2 : ((1 : Rat) / 2).den = 2 := by decide +kernel
    rw [h1, h2] at this
    exact this
  unfold nearerB
  rw [if_neg (by omega)]
  exact decide_eq_true (by omega)
theorem nearerB_mid (a : Bool) : nearerB (1 / 2) a = a := by cases a <;> decide +kernel
theorem ruleB_lo {r : Way} (h : isHalf r = true) (l : Int) {p : Rat} (hp : p < 1 / 2) : ruleB r l p = false := by
  cases r <;> first | exact absurd h (by decide) | exact nearerB_lo hp
theorem ruleB_hi {r : Way} (h : isHalf r = true) (l : Int) {p : Rat} (hp : 1 / 2 < p) : ruleB r l p = true := by
  cases r <;> first | exact absurd h (by decide) | exact nearerB_hi hp
theorem ruleB_mid {r : Way} (h : isHalf r = true) (l : Int) : ruleB r l (1 / 2) = tieUp r l := by
  cases r <;> first | exact absurd h (by decide) | exact nearerB_mid _
theorem taken_int (r : Way) (c : Int) : takenQ r (c : Rat) = c := by
  have e : partQ (c : Rat) = 0 := by unfold partQ; rw [Rat.floor_intCast]; grind
  unfold takenQ
  rw [e, Rat.floor_intCast]
  rfl
/-- nearer than a half -/
theorem taken_near {r : Way} (h : isHalf r = true) {n : Rat} {t : Int} (h1 : (t : Rat) - 1 / 2 < n) (h2 : n < (t : Rat) + 1 / 2) : takenQ r n = t := by
  by_cases h0 : n = (t : Rat)
  · rw [h0]
    exact taken_int r t
  · by_cases hp : (t : Rat) < n
    · have e : n = (t : Rat) + (n - t) := by grind
      rw [e, taken_add (by grind) (by grind), ruleB_lo h t (by grind)]
      rfl
    · have e : n = ((t - 1 : Int) : Rat) + (n - t + 1) := by rw [Rat.intCast_sub]; grind
      rw [e, taken_add (by grind) (by grind), ruleB_hi h (t - 1) (by grind)]
      show t - 1 + 1 = t
      omega
theorem taken_mid {r : Way} (h : isHalf r = true) (l : Int) : takenQ r ((l : Rat) + 1 / 2) = if tieUp r l = true then l + 1 else l := by
  rw [taken_add (by decide +kernel) (by decide +kernel), ruleB_mid h l]
/-- every number is near one, or in the middle -/
theorem near_or_mid (n : Rat) : (∃ t : Int, (t : Rat) - 1 / 2 < n ∧ n < (t : Rat) + 1 / 2) ∨ ∃ l : Int, n = (l : Rat) + 1 / 2 := by
  have a := Rat.floor_le n
  have b := Rat.lt_floor_add_one n
  rw [Rat.intCast_add] at b
  by_cases h : n = (n.floor : Rat) + 1 / 2
  · exact .inr ⟨_, h⟩
  · by_cases h2 : n < (n.floor : Rat) + 1 / 2
    · exact .inl ⟨n.floor, by grind, h2⟩
    · exact .inl ⟨n.floor + 1, by rw [Rat.intCast_add]; grind, by rw [Rat.intCast_add]; grind⟩
def twiceT (r : Way) (m : Int) (u : Rat) : Int := takenQ r ((takenQ r u : Rat) / (m : Rat))
def onceT (r : Way) (m : Int) (u : Rat) : Int := takenQ r (u / (m : Rat))
theorem div_near {r : Way} (h : isHalf r = true) {m : Int} (hm : 0 < m) {s : Int} {n : Rat} (h1 : (s : Rat) * m - (m : Rat) / 2 < n) (h2 : n < (s : Rat) * m + (m : Rat) / 2) : takenQ r (n / (m : Rat)) = s := by
  have hm' : (0 : Rat) < (m : Rat) := Rat.intCast_pos.mpr hm
  refine taken_near h ?_ ?_
  · exact (Rat.lt_div_iff hm').mpr (by grind)
  · exact (Rat.div_lt_iff hm').mpr (by grind)
theorem div_mid {r : Way} (h : isHalf r = true) {m : Int} (hm : 0 < m) {s : Int} {n : Rat} (h1 : n = (s : Rat) * m + (m : Rat) / 2) : takenQ r (n / (m : Rat)) = if tieUp r s = true then s + 1 else s := by
  have hm' : (m : Rat) ≠ 0 := by have : (0 : Rat) < (m : Rat) := Rat.intCast_pos.mpr hm; grind
  rw [← taken_mid h s, h1]
  congr 1
  grind
theorem split_odd (j h : Int) (h0 : 0 ≤ h) : ∃ s e : Int, j = s * (2 * h + 1) + e ∧ -h ≤ e ∧ e ≤ h := by
  refine ⟨(j + h) / (2 * h + 1), (j + h) % (2 * h + 1) - h, ?_, ?_, ?_⟩
  · have := Int.mul_ediv_add_emod (j + h) (2 * h + 1)
    rw [Int.mul_comm] at this
    omega
  · have := Int.emod_nonneg (j + h) (b := 2 * h + 1) (by omega)
    omega
  · have := Int.emod_lt_of_pos (j + h) (b := 2 * h + 1) (by omega)
    omega
/-- by an odd number of steps -/
theorem never_odd {r : Way} (hr : isHalf r = true) {h : Int} (h0 : 0 ≤ h) (tie : ∀ s : Int, tieUp r (s * (2 * h + 1) + h) = tieUp r s) (u : Rat) : twiceT r (2 * h + 1) u = onceT r (2 * h + 1) u := by
  have hm : 0 < 2 * h + 1 := by omega
  have c : (((2 * h + 1 : Int)) : Rat) = 2 * (h : Rat) + 1 := by rw [Rat.intCast_add, Rat.intCast_mul]; rfl
  have hq : (0 : Rat) ≤ (h : Rat) := Rat.intCast_nonneg.mpr h0
  unfold twiceT onceT
  rcases near_or_mid u with ⟨j, h1, h2⟩ | ⟨l, hl⟩
  · obtain ⟨s, e, ej, e1, e2⟩ := split_odd j h h0
    have q1 : -(h : Rat) ≤ (e : Rat) := by have := Rat.intCast_le_intCast.mpr e1; rw [Rat.intCast_neg] at this; exact this
    have q2 : (e : Rat) ≤ (h : Rat) := Rat.intCast_le_intCast.mpr e2
    have ejq : (j : Rat) = (s : Rat) * (2 * (h : Rat) + 1) + (e : Rat) := by rw [ej, Rat.intCast_add, Rat.intCast_mul, c]
    rw [taken_near hr h1 h2, div_near hr hm (s := s) (by rw [c]; grind) (by rw [c]; grind), div_near hr hm (s := s) (by rw [c]; grind) (by rw [c]; grind)]
  · obtain ⟨s, e, ej, e1, e2⟩ := split_odd l h h0
    have q1 : -(h : Rat) ≤ (e : Rat) := by have := Rat.intCast_le_intCast.mpr e1; rw [Rat.intCast_neg] at this; exact this
    have ejq : (l : Rat) = (s : Rat) * (2 * (h : Rat) + 1) + (e : Rat) := by rw [ej, Rat.intCast_add, Rat.intCast_mul, c]
    subst hl
    rw [taken_mid hr l]
    by_cases he : e = h
    · subst he
      rw [ej, tie s]
      rw [div_mid hr hm (s := s) (n := ((s * (2 * e + 1) + e : Int) : Rat) + 1 / 2) (by rw [← ej, ejq, c]; grind)]
      cases tieUp r s with
      | true =>
        rw [if_pos rfl, if_pos rfl]
        exact div_near hr hm (by simp only [Rat.intCast_add, Rat.intCast_mul, Rat.intCast_sub, Rat.intCast_ofNat, Rat.intCast_one]; grind) (by simp only [Rat.intCast_add, Rat.intCast_mul, Rat.intCast_sub, Rat.intCast_ofNat, Rat.intCast_one]; grind)
      | false =>
        rw [if_neg Bool.false_ne_true, if_neg Bool.false_ne_true]
        exact div_near hr hm (by simp only [Rat.intCast_add, Rat.intCast_mul, Rat.intCast_sub, Rat.intCast_ofNat, Rat.intCast_one]; grind) (by simp only [Rat.intCast_add, Rat.intCast_mul, Rat.intCast_sub, Rat.intCast_ofNat, Rat.intCast_one]; grind)
    · have q2 : (e : Rat) + 1 ≤ (h : Rat) := by
        have := Rat.intCast_le_intCast.mpr (show e + 1 ≤ h by omega)
        rw [Rat.intCast_add] at this
        exact this
      rw [div_near hr hm (s := s) (n := (l : Rat) + 1 / 2) (by rw [c]; grind) (by rw [c]; grind)]
      split
      · exact div_near hr hm (by simp only [Rat.intCast_add, Rat.intCast_mul, Rat.intCast_sub, Rat.intCast_ofNat, Rat.intCast_one]; grind) (by simp only [Rat.intCast_add, Rat.intCast_mul, Rat.intCast_sub, Rat.intCast_ofNat, Rat.intCast_one]; grind)
      · exact div_near hr hm (by rw [c]; grind) (by rw [c]; grind)
/-! ### the ways that look at no halves -/
theorem low_eq (n : Rat) : takenQ .low n = n.floor := by
  unfold takenQ
  split <;> rfl
theorem part_zero {n : Rat} : (partQ n).num = 0 ↔ n = (n.floor : Rat) := by
  rw [Rat.num_eq_zero]
  unfold partQ
  constructor <;> intro h <;> grind
/-- the greater neighbour is told by inequalities -/
theorem high_of {n : Rat} {t : Int} (h1 : (t : Rat) - 1 < n) (h2 : n ≤ (t : Rat)) : takenQ .high n = t := by
  have a := Rat.floor_le n
  have b := Rat.lt_floor_add_one n
  rw [Rat.intCast_add] at b
  unfold takenQ
  by_cases h : n = (n.floor : Rat)
  · rw [if_pos (part_zero.mpr h)]
    have x1 : n.floor < t + 1 := Rat.intCast_lt_intCast.mp (by rw [Rat.intCast_add]; grind)
    have x2 : t - 1 < n.floor := Rat.intCast_lt_intCast.mp (by rw [Rat.intCast_sub]; grind)
    omega
  · rw [if_neg (fun z => h (part_zero.mp z)), if_pos (show ruleB .high n.floor (partQ n) = true from rfl)]
    have x1 : n.floor < t := Rat.intCast_lt_intCast.mp (by grind)
    have x2 : t - 1 < n.floor + 1 := Rat.intCast_lt_intCast.mp (by rw [Rat.intCast_sub, Rat.intCast_add]; grind)
    omega
theorem high_is (n : Rat) : (takenQ .high n : Rat) - 1 < n ∧ n ≤ (takenQ .high n : Rat) := by
  have a := Rat.floor_le n
  have b := Rat.lt_floor_add_one n
  rw [Rat.intCast_add] at b
  unfold takenQ
  by_cases h : n = (n.floor : Rat)
  · rw [if_pos (part_zero.mpr h)]
    grind
  · rw [if_neg (fun z => h (part_zero.mp z)), if_pos (show ruleB .high n.floor (partQ n) = true from rfl), Rat.intCast_add]
    grind
theorem low_of {n : Rat} {t : Int} (h1 : (t : Rat) ≤ n) (h2 : n < (t : Rat) + 1) : takenQ .low n = t := by
  rw [low_eq]
  have x1 : t ≤ n.floor := Rat.le_floor_iff.mpr h1
  have x2 : n.floor < t + 1 := Rat.floor_lt_iff.mpr (by rw [Rat.intCast_add]; exact h2)
  omega
theorem up_eq (n : Rat) : takenQ .up n = if 0 ≤ n.floor then takenQ .high n else takenQ .low n := by
  unfold takenQ
  by_cases h : (partQ n).num = 0
  · rw [if_pos h, if_pos h, if_pos h]; split <;> rfl
  · rw [if_neg h, if_neg h, if_neg h]
    show (if decide (0 ≤ n.floor) = true then _ else _) = _
    by_cases z : 0 ≤ n.floor
    · rw [if_pos (decide_eq_true z), if_pos z]; rfl
    · rw [if_neg (by simpa using z), if_neg z]; rfl
theorem down_eq (n : Rat) : takenQ .down n = if n.floor < 0 then takenQ .high n else takenQ .low n := by
  unfold takenQ
  by_cases h : (partQ n).num = 0
  · rw [if_pos h, if_pos h, if_pos h]; split <;> rfl
  · rw [if_neg h, if_neg h, if_neg h]
    show (if decide (n.floor < 0) = true then _ else _) = _
    by_cases z : n.floor < 0
    · rw [if_pos (decide_eq_true z), if_pos z]; rfl
    · rw [if_neg (by simpa using z), if_neg z]; rfl
theorem low_is (n : Rat) : (takenQ .low n : Rat) ≤ n ∧ n < (takenQ .low n : Rat) + 1 := by
  rw [low_eq]
  have b := Rat.lt_floor_add_one n
  rw [Rat.intCast_add] at b
  exact ⟨Rat.floor_le n, b⟩
/-- of a whole number of steps: by wholes alone -/
theorem low_div {m : Int} (hm : 0 < m) (u : Rat) : takenQ .low ((takenQ .low u : Rat) / (m : Rat)) = takenQ .low (u / (m : Rat)) := by
  have hm' : (0 : Rat) < (m : Rat) := Rat.intCast_pos.mpr hm
  obtain ⟨a, b⟩ := low_is (u / (m : Rat))
  obtain ⟨c, d⟩ := low_is u
  generalize takenQ .low (u / (m : Rat)) = t at *
  generalize takenQ .low u = j at *
  have e : u / (m : Rat) * m = u := by grind
  have a' : (t : Rat) * m ≤ u := by rw [← e]; exact Rat.mul_le_mul_of_nonneg_right a (Rat.le_of_lt hm')
  have b' : u < ((t : Rat) + 1) * m := by rw [← e]; exact Rat.mul_lt_mul_of_pos_right b hm'
  have x1 : t * m < j + 1 := Rat.intCast_lt_intCast.mp (by rw [Rat.intCast_add, Rat.intCast_mul]; grind)
  have x2 : j < (t + 1) * m := Rat.intCast_lt_intCast.mp (by rw [Rat.intCast_mul, Rat.intCast_add]; grind)
  have y1 : (t : Rat) * m ≤ (j : Rat) := by rw [← Rat.intCast_mul]; exact Rat.intCast_le_intCast.mpr (by omega)
  have y2 : (j : Rat) < ((t : Rat) + 1) * m := by have := Rat.intCast_lt_intCast.mpr x2; rw [Rat.intCast_mul, Rat.intCast_add] at this; exact this
  refine low_of ?_ ((Rat.div_lt_iff hm').mpr y2)
  have := (Rat.not_lt (a := (j : Rat) / m) (b := (t : Rat))).mp (fun z => by
    have := (Rat.div_lt_iff hm').mp z
    grind)
  exact this
theorem high_div {m : Int} (hm : 0 < m) (u : Rat) : takenQ .high ((takenQ .high u : Rat) / (m : Rat)) = takenQ .high (u / (m : Rat)) := by
  have hm' : (0 : Rat) < (m : Rat) := Rat.intCast_pos.mpr hm
  obtain ⟨a, b⟩ := high_is (u / (m : Rat))
  obtain ⟨c, d⟩ := high_is u
  generalize takenQ .high (u / (m : Rat)) = t at *
  generalize takenQ .high u = j at *
  have e : u / (m : Rat) * m = u := by grind
  have a' : ((t : Rat) - 1) * m < u := by rw [← e]; exact Rat.mul_lt_mul_of_pos_right a hm'
  have b' : u ≤ (t : Rat) * m := by rw [← e]; exact Rat.mul_le_mul_of_nonneg_right b (Rat.le_of_lt hm')
  have x1 : (t - 1) * m < j := Rat.intCast_lt_intCast.mp (by rw [Rat.intCast_mul, Rat.intCast_sub]; grind)
  have x2 : j - 1 < t * m := Rat.intCast_lt_intCast.mp (by rw [Rat.intCast_sub, Rat.intCast_mul]; grind)
  have y1 : ((t : Rat) - 1) * m < (j : Rat) := by have := Rat.intCast_lt_intCast.mpr x1; rw [Rat.intCast_mul, Rat.intCast_sub] at this; exact this
  have y2 : (j : Rat) ≤ (t : Rat) * m := by rw [← Rat.intCast_mul]; exact Rat.intCast_le_intCast.mpr (by omega)
  refine high_of ((Rat.lt_div_iff hm').mpr y1) ?_
  exact (Rat.not_lt (a := (t : Rat)) (b := (j : Rat) / m)).mp (fun z => by
    have := (Rat.lt_div_iff hm').mp z
    grind)
theorem floor_nn {n : Rat} : 0 ≤ n.floor ↔ 0 ≤ n := by
  rw [Rat.le_floor_iff]; rfl
theorem div_nn {m : Int} (hm : 0 < m) {n : Rat} : 0 ≤ n / (m : Rat) ↔ 0 ≤ n := by
  have hm' : (0 : Rat) < (m : Rat) := Rat.intCast_pos.mpr hm
  constructor
  · intro h
    have e : n / (m : Rat) * m = n := by grind
    rw [← e]
    exact Rat.mul_nonneg h (Rat.le_of_lt hm')
  · intro h
    exact (Rat.not_lt).mp (fun z => by
      have := (Rat.div_lt_iff hm').mp z
      grind)
theorem never_whole {r : Way} (hr : isHalf r = false) {m : Int} (hm : 0 < m) (u : Rat) : twiceT r m u = onceT r m u := by
  unfold twiceT onceT
  cases r with
  | hup => cases hr
  | hdown => cases hr
  | heven => cases hr
  | hodd => cases hr
  | low => exact low_div hm u
  | high => exact high_div hm u
  | up =>
    obtain ⟨c, d⟩ := high_is u
    obtain ⟨c2, d2⟩ := low_is u
    by_cases h : 0 ≤ u
    · have hj : (0 : Rat) ≤ (takenQ .high u : Rat) := Rat.le_trans h d
      rw [up_eq u, if_pos (floor_nn.mpr h), up_eq, if_pos (floor_nn.mpr ((div_nn hm).mpr hj)), up_eq, if_pos (floor_nn.mpr ((div_nn hm).mpr h)), high_div hm]
    · have hj : ¬ (0 : Rat) ≤ (takenQ .low u : Rat) := fun z => h (Rat.le_trans z c2)
      rw [up_eq u, if_neg (fun z => h (floor_nn.mp z)), up_eq, if_neg (fun z => hj ((div_nn hm).mp (floor_nn.mp z))), up_eq, if_neg (fun z => h ((div_nn hm).mp (floor_nn.mp z))), low_div hm]
  | down =>
    obtain ⟨c, d⟩ := high_is u
    obtain ⟨c2, d2⟩ := low_is u
    have neg : ∀ n : Rat, n.floor < 0 ↔ ¬ 0 ≤ n := fun n => by
      rw [← floor_nn]
      omega
    by_cases h : 0 ≤ u
    · have j0 : 0 ≤ takenQ .low u := by rw [low_eq]; exact floor_nn.mpr h
      have hj : (0 : Rat) ≤ (takenQ .low u : Rat) := Rat.intCast_nonneg.mpr j0
      rw [down_eq u, if_neg (fun z => (neg u).mp z h), down_eq, if_neg (fun z => (neg _).mp z ((div_nn hm).mpr hj)), down_eq, if_neg (fun z => (neg _).mp z ((div_nn hm).mpr h)), low_div hm]
    · rw [down_eq u, if_pos ((neg u).mpr h), down_eq (u / (m : Rat)), if_pos ((neg _).mpr fun z => h ((div_nn hm).mp z)), ← high_div hm u]
      by_cases hj : 0 ≤ (takenQ .high u : Rat)
      · have e0 : takenQ .high u = 0 := by
          have x1 : 0 ≤ takenQ .high u := Rat.intCast_nonneg.mp hj
          have x2 : takenQ .high u - 1 < 0 := Rat.intCast_neg_iff.mp (by rw [Rat.intCast_sub]; grind)
          omega
        rw [e0]
        have e1 : ((0 : Int) : Rat) / (m : Rat) = ((0 : Int) : Rat) := by grind
        rw [e1, taken_int, taken_int]
      · rw [down_eq, if_pos ((neg _).mpr fun z => hj ((div_nn hm).mp z))]
/-! ### the three numbers that are tried -/
def partsW (r : Way) (m : Int) : Bool := isHalf r && (decide (m % 2 = 0) || ((match r with | .heven => true | .hodd => true | _ => false) && decide (m % 4 = 3)))
def candU (m : Int) : List Rat := [(m : Rat) / 2 - 1 / 4, (m : Rat) / 2, (m : Rat) / 2 + 1 / 4]
theorem never_of {r : Way} {m : Int} (hm : 2 ≤ m) (h : partsW r m = false) (u : Rat) : twiceT r m u = onceT r m u := by
  cases hr : isHalf r with
  | false => exact never_whole hr (by omega) u
  | true =>
    have hodd : m % 2 = 1 := by
      by_cases z : m % 2 = 0
      · unfold partsW at h
        rw [hr, decide_eq_true z] at h
        cases h
      · omega
    obtain ⟨k, rfl⟩ : ∃ k, m = 2 * k + 1 := ⟨m / 2, by omega⟩
    refine never_odd hr (by omega) (fun s => ?_) u
    have key : s * (2 * k + 1) + k = 2 * (s * k) + s + k := by grind
    cases r with
    | up => cases hr
    | down => cases hr
    | high => cases hr
    | low => cases hr
    | hup =>
      show decide (0 ≤ s * (2 * k + 1) + k) = decide (0 ≤ s)
      rw [decide_eq_decide]
      constructor
      · intro z
        by_cases q : 0 ≤ s
        · exact q
        · have : s * (2 * k + 1) ≤ -1 * (2 * k + 1) := Int.mul_le_mul_of_nonneg_right (by omega) (by omega)
          omega
      · intro z
        have := Int.mul_nonneg z (show 0 ≤ 2 * k + 1 by omega)
        omega
    | hdown =>
      show decide (s * (2 * k + 1) + k < 0) = decide (s < 0)
      rw [decide_eq_decide]
      constructor
      · intro z
        by_cases q : s < 0
        · exact q
        · have := Int.mul_nonneg (show 0 ≤ s by omega) (show 0 ≤ 2 * k + 1 by omega)
          omega
      · intro z
        have : s * (2 * k + 1) ≤ -1 * (2 * k + 1) := Int.mul_le_mul_of_nonneg_right (by omega) (by omega)
        omega
    | heven =>
      have h4 : ¬ (2 * k + 1) % 4 = 3 := fun z => by
        unfold partsW at h
        rw [decide_eq_true z, Bool.and_true, Bool.or_true] at h
        cases h
      show decide ((s * (2 * k + 1) + k) % 2 = 1) = decide (s % 2 = 1)
      rw [decide_eq_decide, key]
      omega
    | hodd =>
      have h4 : ¬ (2 * k + 1) % 4 = 3 := fun z => by
        unfold partsW at h
        rw [decide_eq_true z, Bool.and_true, Bool.or_true] at h
        cases h
      show decide ((s * (2 * k + 1) + k) % 2 = 0) = decide (s % 2 = 0)
      rw [decide_eq_decide, key]
      omega
theorem some_of {r : Way} {m : Int} (hm : 2 ≤ m) (h : partsW r m = true) : ∃ u ∈ candU m, twiceT r m u ≠ onceT r m u := by
  have hr : isHalf r = true := by
    unfold partsW at h
    exact (Bool.and_eq_true_iff.mp h).1
  have hmq : (2 : Rat) ≤ (m : Rat) := by have := Rat.intCast_le_intCast.mpr hm; exact this
  unfold twiceT onceT
  by_cases z : m % 2 = 0
  · obtain ⟨k, rfl⟩ : ∃ k, m = 2 * k := ⟨m / 2, by omega⟩
    have c : (((2 * k : Int)) : Rat) = 2 * (k : Rat) := by rw [Rat.intCast_mul]; rfl
    have hk : (1 : Rat) ≤ (k : Rat) := by have := Rat.intCast_le_intCast.mpr (show 1 ≤ k by omega); exact this
    have c0 : ((0 : Int) : Rat) = 0 := rfl
    have c1 : ((1 : Int) : Rat) = 1 := rfl
    have e1 : takenQ r ((((2 * k : Int)) : Rat) / 2 - 1 / 4) = k := taken_near hr (by rw [c]; grind) (by rw [c]; grind)
    have e3 : takenQ r ((((2 * k : Int)) : Rat) / 2 + 1 / 4) = k := taken_near hr (by rw [c]; grind) (by rw [c]; grind)
    have ek : takenQ r ((k : Rat) / ((2 * k : Int) : Rat)) = if tieUp r 0 = true then 0 + 1 else 0 := div_mid hr (by omega) (by rw [c, c0]; grind)
    cases t : tieUp r 0 with
    | true =>
      refine ⟨_, List.mem_cons_self, ?_⟩
      rw [e1, ek, t, if_pos rfl, div_near hr (by omega) (s := 0) (by rw [c, c0]; grind) (by rw [c, c0]; grind)]
      decide
    | false =>
      refine ⟨_, List.mem_cons_of_mem _ (List.mem_cons_of_mem _ List.mem_cons_self), ?_⟩
      rw [e3, ek, t, if_neg Bool.false_ne_true, div_near hr (by omega) (s := 1) (by rw [c, c1]; grind) (by rw [c, c1]; grind)]
      decide
  · obtain ⟨k, rfl⟩ : ∃ k, m = 2 * k + 1 := ⟨m / 2, by omega⟩
    have c : (((2 * k + 1 : Int)) : Rat) = 2 * (k : Rat) + 1 := by rw [Rat.intCast_add, Rat.intCast_mul]; rfl
    have hk : (1 : Rat) ≤ (k : Rat) := by have := Rat.intCast_le_intCast.mpr (show 1 ≤ k by omega); exact this
    have c0 : ((0 : Int) : Rat) = 0 := rfl
    have c1 : ((1 : Int) : Rat) = 1 := rfl
    have e2 : takenQ r ((((2 * k + 1 : Int)) : Rat) / 2) = if tieUp r k = true then k + 1 else k := by
      rw [← taken_mid hr k]
      congr 1
      rw [c]; grind
    have o2 : takenQ r ((((2 * k + 1 : Int)) : Rat) / 2 / ((2 * k + 1 : Int) : Rat)) = if tieUp r 0 = true then 0 + 1 else 0 := div_mid hr (by omega) (by rw [c0]; grind)
    have h4 : (2 * k + 1) % 4 = 3 ∧ (r = .heven ∨ r = .hodd) := by
      unfold partsW at h
      rw [hr, decide_eq_false z] at h
      cases r <;> simp_all
    refine ⟨_, List.mem_cons_of_mem _ List.mem_cons_self, ?_⟩
    have up1 : takenQ r (((k + 1 : Int) : Rat) / ((2 * k + 1 : Int) : Rat)) = 1 := div_near hr (by omega) (by simp only [Rat.intCast_add, Rat.intCast_mul, Rat.intCast_sub, Rat.intCast_ofNat, Rat.intCast_one]; grind) (by simp only [Rat.intCast_add, Rat.intCast_mul, Rat.intCast_sub, Rat.intCast_ofNat, Rat.intCast_one]; grind)
    have lo1 : takenQ r ((k : Rat) / ((2 * k + 1 : Int) : Rat)) = 0 := div_near hr (by omega) (by rw [c, c0]; grind) (by rw [c, c0]; grind)
    rw [e2, o2]
    obtain ⟨h4, rfl | rfl⟩ := h4
    · have t1 : tieUp .heven k = true := decide_eq_true (by omega)
      rw [t1, if_pos rfl, up1]
      decide
    · have t1 : tieUp .hodd k = false := decide_eq_false (by omega)
      rw [t1, if_neg Bool.false_ne_true, lo1]
      decide
end My

namespace My
/-! ### farther by whole numbers; sizes -/
theorem taken_within (r : Way) (u : Rat) : (takenQ r u : Rat) < u + 1 ∧ u - 1 < (takenQ r u : Rat) := by
  have a := Rat.floor_le u
  have b := Rat.lt_floor_add_one u
  rw [Rat.intCast_add] at b
  unfold takenQ
  by_cases h : u = (u.floor : Rat)
  · rw [if_pos (part_zero.mpr h)]
    grind
  · rw [if_neg (fun z => h (part_zero.mp z))]
    split
    · rw [Rat.intCast_add]; grind
    · grind
theorem floor_shift (u : Rat) (j : Int) : (u + (j : Rat)).floor = u.floor + j := by
  have a := Rat.floor_le u
  have b := Rat.lt_floor_add_one u
  rw [Rat.intCast_add] at b
  have x : u.floor + j ≤ (u + (j : Rat)).floor := Rat.le_floor_iff.mpr (by rw [Rat.intCast_add]; grind)
  have y : (u + (j : Rat)).floor < u.floor + j + 1 := Rat.floor_lt_iff.mpr (by rw [Rat.intCast_add, Rat.intCast_add]; grind)
  omega
theorem part_shift (u : Rat) (j : Int) : partQ (u + (j : Rat)) = partQ u := by
  unfold partQ
  rw [floor_shift, Rat.intCast_add]
  grind
theorem rule_shift (r : Way) {l j : Int} (p : Rat) (hl : 0 ≤ l) (hj : 0 ≤ j) (h2 : j % 2 = 0) : ruleB r (l + j) p = ruleB r l p := by
  have e1 : decide (0 ≤ l + j) = decide (0 ≤ l) := by rw [decide_eq_decide]; omega
  have e2 : decide (l + j < 0) = decide (l < 0) := by rw [decide_eq_decide]; omega
  have e3 : decide ((l + j) % 2 = 1) = decide (l % 2 = 1) := by rw [decide_eq_decide]; omega
  have e4 : decide ((l + j) % 2 = 0) = decide (l % 2 = 0) := by rw [decide_eq_decide]; omega
  cases r <;> simp only [ruleB, e1, e2, e3, e4]
theorem taken_shift (r : Way) {u : Rat} {j : Int} (hu : 0 ≤ u) (hj : 0 ≤ j) (h2 : j % 2 = 0) : takenQ r (u + (j : Rat)) = takenQ r u + j := by
  unfold takenQ
  rw [part_shift, floor_shift, rule_shift r _ (floor_nn.mpr hu) hj h2]
  split
  · rfl
  · split <;> omega
theorem taken_nn (r : Way) {u : Rat} (hu : 0 ≤ u) : 0 ≤ takenQ r u := by
  have := floor_nn.mpr hu
  unfold takenQ
  split
  · exact this
  · split <;> omega
theorem twice_shift (r : Way) {m j : Int} {u : Rat} (hm : 0 < m) (hu : 0 ≤ u) (hj : 0 ≤ j) (h2 : j % 2 = 0) : twiceT r m (u + (j : Rat) * m) = twiceT r m u + j ∧ onceT r m (u + (j : Rat) * m) = onceT r m u + j := by
  have hm' : (0 : Rat) < (m : Rat) := Rat.intCast_pos.mpr hm
  have h3 : j * m % 2 = 0 := by
    obtain ⟨q, rfl⟩ : ∃ q, j = 2 * q := ⟨j / 2, by omega⟩
    rw [Int.mul_assoc]; omega
  have h4 : 0 ≤ j * m := Int.mul_nonneg hj (by omega)
  have e : (j : Rat) * (m : Rat) = ((j * m : Int) : Rat) := (Rat.intCast_mul _ _).symm
  unfold twiceT onceT
  constructor
  · rw [e, taken_shift r hu h4 h3, Rat.intCast_add, Rat.intCast_mul]
    have q : ((takenQ r u : Rat) + (j : Rat) * (m : Rat)) / (m : Rat) = (takenQ r u : Rat) / (m : Rat) + (j : Rat) := by grind
    rw [q, taken_shift r ((div_nn hm).mpr (Rat.intCast_nonneg.mpr (taken_nn r hu))) hj h2]
  · have q : (u + (j : Rat) * (m : Rat)) / (m : Rat) = u / (m : Rat) + (j : Rat) := by grind
    rw [q, taken_shift r ((div_nn hm).mpr hu) hj h2]
def absQ (x : Rat) : Rat := Rat.divInt (if x.num < 0 then -x.num else x.num) (x.den : Int)
theorem absQ_eq (x : Rat) : absQ x = if 0 ≤ x then x else -x := by
  unfold absQ
  by_cases h : 0 ≤ x
  · have : 0 ≤ x.num := Rat.num_nonneg.mpr h
    rw [if_pos h, if_neg (by omega), Rat.num_divInt_den]
  · have : ¬ 0 ≤ x.num := fun z => h (Rat.num_nonneg.mp z)
    rw [if_neg h, if_pos (by omega), ← Rat.neg_divInt, Rat.num_divInt_den]
theorem absQ_lt {x y : Rat} (h1 : x < y) (h2 : -y < x) : absQ x < y := by
  rw [absQ_eq]
  split <;> grind
theorem absQ_bd {n : Nat} {x : Rat} (h : Bd n x) : Bd n (absQ x) := by
  have := h.1
  refine Bd.of (den_ne x) (by split <;> omega) (by have := h.2; omega)
theorem lt_dec (x y : Rat) : decide (x < y) = decide (x.num * (y.den : Int) < y.num * (x.den : Int)) := by
  rw [decide_eq_decide]
  exact Rat.lt_iff x y
/-- rounded, a number lies within a step -/
theorem step_within {r : Way} {n x : Rat} (hx : 0 < x) : absQ (n - x * (takenQ r (n / x) : Rat)) < x := by
  obtain ⟨a, b⟩ := taken_within r (n / x)
  have e : n = n / x * x := by grind
  have p : (takenQ r (n / x) : Rat) * x < (n / x + 1) * x := Rat.mul_lt_mul_of_pos_right a hx
  have q : (n / x - 1) * x < (takenQ r (n / x) : Rat) * x := Rat.mul_lt_mul_of_pos_right b hx
  refine absQ_lt ?_ ?_ <;> grind
end My

namespace My
/-! ### powers of ten -/
def T10 (p : Int) : Rat := (10 : Rat) ^ p
theorem T10_pos (p : Int) : 0 < T10 p := Rat.zpow_pos (by decide +kernel)
theorem T10_ne (p : Int) : T10 p ≠ 0 := by have := T10_pos p; grind
theorem T10_add (p q : Int) : T10 (p + q) = T10 p * T10 q := Rat.zpow_add (by decide +kernel) p q
theorem T10_zero : T10 0 = 1 := Rat.zpow_zero _
theorem T10_one : T10 1 = 10 := by
  have := Rat.zpow_add_one (q := 10) (by decide +kernel) 0
  rw [Rat.zpow_zero] at this
  show (10 : Rat) ^ (1 : Int) = 10
  rw [show (1 : Int) = 0 + 1 from rfl, this]
  grind
theorem T10_succ (p : Int) : T10 (p + 1) = T10 p * 10 := by rw [T10_add, T10_one]
theorem T10_nat (n : Nat) : T10 (n : Int) = ((10 ^ n : Int) : Rat) := by
  induction n with
  | zero => exact T10_zero
  | succ n ih =>
    rw [Int.natCast_succ, T10_succ, ih, Int.pow_succ, Rat.intCast_mul]
    rfl
theorem T10_neg (p : Int) : T10 (-p) = 1 / T10 p := by
  have : T10 (-p) * T10 p = 1 := by rw [← T10_add, Int.add_left_neg]; exact T10_zero
  have := T10_ne p
  grind
theorem T10_lt_nat (p : Int) (n : Nat) : T10 p < T10 (p + ((n : Int) + 1)) := by
  have hp := T10_pos p
  induction n with
  | zero =>
    show T10 p < T10 (p + 1)
    rw [T10_succ]
    grind
  | succ n ih =>
    have e : p + (((n + 1 : Nat) : Int) + 1) = p + ((n : Int) + 1) + 1 := by omega
    have := T10_pos (p + ((n : Int) + 1))
    rw [e, T10_succ]
    grind
theorem T10_lt {p q : Int} (h : p < q) : T10 p < T10 q := by
  have := T10_lt_nat p (q - p - 1).toNat
  have e : p + (((q - p - 1).toNat : Int) + 1) = q := by omega
  rw [e] at this
  exact this
theorem T10_le {p q : Int} (h : p ≤ q) : T10 p ≤ T10 q := by
  by_cases e : p = q
  · rw [e]; exact Rat.le_refl
  · exact Rat.le_of_lt (T10_lt (by omega))
theorem T10_lt_iff {p q : Int} : T10 p < T10 q ↔ p < q := by
  constructor
  · intro h
    by_cases z : p < q
    · exact z
    · have := T10_le (show q ≤ p by omega)
      grind
  · exact T10_lt
/-- the power of x -/
def Pow (p : Int) (x : Rat) : Prop := T10 p ≤ absQ x ∧ absQ x < T10 (p + 1)
theorem absQ_mul_pos {x t : Rat} (ht : 0 < t) : absQ (x * t) = absQ x * t := by
  rw [absQ_eq, absQ_eq]
  by_cases h : 0 ≤ x
  · have : 0 ≤ x * t := Rat.mul_nonneg h (Rat.le_of_lt ht)
    rw [if_pos this, if_pos h]
  · have h' : 0 < -x := by grind
    have : 0 < -x * t := Rat.mul_pos h' ht
    rw [if_neg (by grind), if_neg h]
    grind
theorem absQ_neg (x : Rat) : absQ (-x) = absQ x := by
  rw [absQ_eq, absQ_eq]
  split <;> split <;> grind
theorem absQ_nn (x : Rat) : 0 ≤ absQ x := by
  rw [absQ_eq]; split <;> grind
theorem Pow.mul {p k : Int} {x : Rat} (h : Pow p x) : Pow (p + k) (x * T10 k) := by
  have hk := T10_pos k
  unfold Pow at h ⊢
  rw [absQ_mul_pos hk, show p + k + 1 = (p + 1) + k by omega, T10_add, T10_add]
  exact ⟨Rat.mul_le_mul_of_nonneg_right h.1 (Rat.le_of_lt hk), Rat.mul_lt_mul_of_pos_right h.2 hk⟩
theorem Pow.neg {p : Int} {x : Rat} (h : Pow p x) : Pow p (-x) := by
  unfold Pow at h ⊢
  rw [absQ_neg]
  exact h
theorem Pow.ne {p : Int} {x : Rat} (h : Pow p x) : x ≠ 0 := by
  intro e
  have := h.1
  have := T10_pos p
  rw [e, absQ_eq, if_pos (by decide +kernel)] at *
  grind
theorem pow10_lt (n : Nat) : (10 ^ n : Int).natAbs < 2 ^ (4 * n + 1) := by
  rw [Int.natAbs_pow]
  have : (10 : Nat) ^ n ≤ (2 ^ 4) ^ n := Nat.pow_le_pow_left (by decide) n
  rw [← Nat.pow_mul] at this
  have h2 : 2 ^ (4 * n) < 2 ^ (4 * n + 1) := Nat.pow_lt_pow_right (by decide) (by omega)
  exact Nat.lt_of_le_of_lt this h2
theorem T10_bd {p : Int} {k : Nat} (h : p.natAbs ≤ k) : Bd (4 * k + 1) (T10 p) := by
  have b := Nat.lt_of_lt_of_le (pow10_lt p.natAbs) (Nat.pow_le_pow_right (by decide : 0 < 2) (show 4 * p.natAbs + 1 ≤ 4 * k + 1 by omega))
  by_cases z : 0 ≤ p
  · have e : p = (p.natAbs : Int) := by omega
    rw [e, T10_nat]
    exact Bd.int b (by omega)
  · have e : p = -(p.natAbs : Int) := by omega
    rw [e, T10_neg, T10_nat]
    have e2 : 1 / (((10 ^ p.natAbs : Int)) : Rat) = Rat.divInt 1 (10 ^ p.natAbs : Int) := by rw [Rat.divInt_eq_div]; rfl
    rw [e2]
    exact Bd.of (Int.pow_ne_zero (by decide)) (Nat.lt_of_lt_of_le (by decide : Int.natAbs 1 < 2 ^ 1) (Nat.pow_le_pow_right (by decide) (by omega))) b
/-! ### to so many figures -/
def figQ (r : Way) (c p : Int) (x : Rat) : Rat := T10 (p - c + 1) * (takenQ r (x / T10 (p - c + 1)) : Rat)
theorem fig_stay {r : Way} {c p m : Int} {x : Rat} (h : x / T10 (p - c + 1) = (m : Rat)) : figQ r c p x = x := by
  have := T10_ne (p - c + 1)
  unfold figQ
  rw [h, taken_int, ← h]
  grind
theorem fig_mul {r : Way} {c p k : Int} {x : Rat} : figQ r c (p + k) (x * T10 k) = figQ r c p x * T10 k := by
  have h1 := T10_ne (p - c + 1)
  have h2 := T10_ne k
  unfold figQ
  rw [show p + k - c + 1 = (p - c + 1) + k by omega, T10_add]
  have e : x * T10 k / (T10 (p - c + 1) * T10 k) = x / T10 (p - c + 1) := by grind
  rw [e]
  grind
def turnW : Way → Way
  | .high => .low
  | .low => .high
  | r => r
theorem floor_of {n : Rat} {l : Int} (h1 : (l : Rat) ≤ n) (h2 : n < (l : Rat) + 1) : n.floor = l := by
  have a : l ≤ n.floor := Rat.le_floor_iff.mpr h1
  have b : n.floor < l + 1 := Rat.floor_lt_iff.mpr (by rw [Rat.intCast_add]; exact h2)
  omega
theorem nearerB_neg {p : Rat} {a : Bool} : nearerB (1 - p) (!a) = !nearerB p a := by
  by_cases h : p < 1 / 2
  · rw [nearerB_lo h, nearerB_hi (by grind)]; rfl
  · by_cases h2 : p = 1 / 2
    · have e : 1 - p = 1 / 2 := by grind
      rw [e, h2, nearerB_mid, nearerB_mid]
    · rw [nearerB_lo (p := 1 - p) (by grind), nearerB_hi (p := p) (by grind)]; rfl
theorem taken_neg (r : Way) (u : Rat) : takenQ (turnW r) (-u) = -takenQ r u := by
  by_cases h : u = (u.floor : Rat)
  · rw [h, ← Rat.intCast_neg, taken_int, taken_int]
  · have a := Rat.floor_le u
    have b := Rat.lt_floor_add_one u
    rw [Rat.intCast_add] at b
    have e1 : u = (u.floor : Rat) + (u - (u.floor : Rat)) := by grind
    have e2 : -u = (((-u.floor - 1 : Int)) : Rat) + (1 - (u - (u.floor : Rat))) := by rw [Rat.intCast_sub, Rat.intCast_neg]; grind
    generalize u.floor = l at *
    rw [e2, taken_add (by grind) (by grind)]
    have t : takenQ r u = if ruleB r l (u - l) = true then l + 1 else l := by
      conv => lhs; rw [e1]
      exact taken_add (by grind) (by grind)
    rw [t]
    have key : ruleB (turnW r) (-l - 1) (1 - (u - l)) = !ruleB r l (u - l) := by
      have f1 : decide (0 ≤ -l - 1) = !decide (0 ≤ l) := by
        by_cases z : 0 ≤ l
        · rw [decide_eq_true z, decide_eq_false (by omega)]; rfl
        · rw [decide_eq_false z, decide_eq_true (by omega)]; rfl
      have f2 : decide (-l - 1 < 0) = !decide (l < 0) := by
        by_cases z : l < 0
        · rw [decide_eq_true z, decide_eq_false (by omega)]; rfl
        · rw [decide_eq_false z, decide_eq_true (by omega)]; rfl
      have f3 : decide ((-l - 1) % 2 = 1) = !decide (l % 2 = 1) := by
        by_cases z : l % 2 = 1
        · rw [decide_eq_true z, decide_eq_false (by omega)]; rfl
        · rw [decide_eq_false z, decide_eq_true (by omega)]; rfl
      have f4 : decide ((-l - 1) % 2 = 0) = !decide (l % 2 = 0) := by
        by_cases z : l % 2 = 0
        · rw [decide_eq_true z, decide_eq_false (by omega)]; rfl
        · rw [decide_eq_false z, decide_eq_true (by omega)]; rfl
      cases r <;> simp only [turnW, ruleB, f1, f2, f3, f4, nearerB_neg, Bool.not_true, Bool.not_false]
    rw [key]
    cases ruleB r l (u - l) with
    | true =>
      rw [if_neg (by simp), if_pos rfl]
      omega
    | false =>
      rw [if_pos (by simp), if_neg (by simp)]
      omega
theorem fig_neg {r : Way} {c p : Int} {x : Rat} : figQ (turnW r) c p (-x) = -figQ r c p x := by
  unfold figQ
  have e : -x / T10 (p - c + 1) = -(x / T10 (p - c + 1)) := by have := T10_ne (p - c + 1); grind
  rw [e, taken_neg, Rat.intCast_neg]
  grind
end My

namespace My
/-! ### numbers reckoned: sums, products, order, by tops and bottoms -/
theorem more_is {a b c d : Int} (hb : b ≠ 0) (hd : d ≠ 0) : Rat.divInt a b + Rat.divInt c d = Rat.divInt (a * d + c * b) (b * d) := Rat.divInt_add_divInt a c hb hd
theorem less_is {a b c d : Int} (hb : b ≠ 0) (hd : d ≠ 0) : Rat.divInt a b - Rat.divInt c d = Rat.divInt (a * d - c * b) (b * d) := Rat.divInt_sub_divInt a c hb hd
theorem times_is (a b c d : Int) : Rat.divInt a b * Rat.divInt c d = Rat.divInt (a * c) (b * d) := Rat.divInt_mul_divInt a c
theorem over_is (a b c d : Int) : Rat.divInt a b / Rat.divInt c d = Rat.divInt (a * d) (b * c) := by
  rw [Rat.div_def, Rat.inv_divInt, Rat.divInt_mul_divInt]
theorem lt_pos {a b c d : Int} (hb : 0 < b) (hd : 0 < d) : Rat.divInt a b < Rat.divInt c d ↔ a * d < c * b := by
  have hb' : (0 : Rat) < (b : Rat) := Rat.intCast_pos.mpr hb
  have hd' : (0 : Rat) < (d : Rat) := Rat.intCast_pos.mpr hd
  rw [Rat.divInt_eq_div, Rat.divInt_eq_div, Rat.div_lt_iff hb']
  have e : (c : Rat) / d * b = ((c : Rat) * b) / d := by rw [Rat.div_def, Rat.div_def, Rat.mul_assoc, Rat.mul_comm (d : Rat)⁻¹, ← Rat.mul_assoc]
  rw [e, Rat.lt_div_iff hd', ← Rat.intCast_mul, ← Rat.intCast_mul, Rat.intCast_lt_intCast]
def sgn (b d : Int) : Int := if b * d < 0 then -1 else 1
theorem lt_cross {a b c d : Int} (hb : b ≠ 0) (hd : d ≠ 0) : Rat.divInt a b < Rat.divInt c d ↔ a * d * sgn b d < c * b * sgn b d := by
  unfold sgn
  by_cases b0 : 0 < b
  · by_cases d0 : 0 < d
    · have p := Int.mul_pos b0 d0
      rw [lt_pos b0 d0, if_neg (by omega), Int.mul_one, Int.mul_one]
    · have d1 : 0 < -d := by omega
      have p : b * d < 0 := by have := Int.mul_pos b0 d1; rw [Int.mul_neg] at this; omega
      rw [← Rat.neg_divInt_neg c d, lt_pos b0 d1, if_pos p, Int.mul_neg, Int.neg_mul, Int.mul_neg, Int.mul_neg, Int.mul_one, Int.mul_one]
  · have b1 : 0 < -b := by omega
    by_cases d0 : 0 < d
    · have p : b * d < 0 := by have := Int.mul_pos b1 d0; rw [Int.neg_mul] at this; omega
      rw [← Rat.neg_divInt_neg a b, lt_pos b1 d0, if_pos p, Int.mul_neg, Int.neg_mul, Int.mul_neg, Int.mul_neg, Int.mul_one, Int.mul_one]
    · have d1 : 0 < -d := by omega
      have p : ¬ b * d < 0 := by have := Int.mul_pos b1 d1; rw [Int.neg_mul_neg] at this; omega
      rw [← Rat.neg_divInt_neg a b, ← Rat.neg_divInt_neg c d, lt_pos b1 d1, if_neg p, Int.neg_mul_neg, Int.neg_mul_neg, Int.mul_one, Int.mul_one]
theorem neg_is (a b : Int) : -(Rat.divInt a b) = Rat.divInt (-a) b := by
  rw [Rat.divInt_eq_div, Rat.divInt_eq_div, Rat.intCast_neg, Rat.div_def, Rat.div_def, Rat.neg_mul]
theorem size_is {a b : Int} (hb : b ≠ 0) : absQ (Rat.divInt a b) = Rat.divInt (if a < 0 then -a else a) (if b < 0 then -b else b) := by
  rw [absQ_eq]
  have key : ∀ {a b : Int}, 0 < b → (if 0 ≤ Rat.divInt a b then Rat.divInt a b else -(Rat.divInt a b)) = Rat.divInt (if a < 0 then -a else a) b := by
    intro a b hb
    by_cases a0 : 0 ≤ a
    · rw [if_pos ((Rat.divInt_nonneg_iff_of_pos_right hb).mpr a0), if_neg (by omega)]
    · rw [if_neg (fun z => a0 ((Rat.divInt_nonneg_iff_of_pos_right hb).mp z)), if_pos (by omega), neg_is]
  by_cases b0 : 0 < b
  · rw [key b0, if_neg (show ¬ b < 0 by omega)]
  · have b1 : 0 < -b := by omega
    have e := key (a := -a) b1
    rw [Rat.neg_divInt_neg] at e
    rw [e, if_pos (show b < 0 by omega)]
    by_cases a0 : a < 0
    · rw [if_neg (by omega), if_pos a0]
    · by_cases a1 : a = 0
      · subst a1; rfl
      · rw [if_pos (by omega), if_neg a0, Int.neg_neg]
end My

namespace My
open PySem L2
/-! ### == and != of two objects of an own class with an own == -/
section
variable {X : Cx} {C f : Addr} {fd : FuncData} {ps : List Str} {n : Nat} {sp : Sp}
/-- the own == as it runs, within X or one builtin deeper -/
theorem run_eq {A : Around} {pins : List (Addr × Obj)} {σ : L2.St} {H : Hp} {s : Shared} {a b : Addr} {Q : VK} {E : XK} (F : FnOk X.prog X.w X.K X.mg X.base CX0 n f fd ps sp) (hb : Binds X.K fd ps []) (hr : Room n A) (hfr : A.frames = X.A.frames)
    (I : Inv X pins σ H s) (h : sp [.ref a, .ref b] H Q E) : wpAny (model X.prog X.w) A (call (.ref f) [.ref a, .ref b]) (EP X pins σ Q) X.xe s := by
  have w0 := I.env0
  have w1 : Env0 X.prog X.w X.K X.mg X.base A X.stack s H := ⟨hfr.trans w0.frames, w0.mod, w0.bs, w0.bsz, w0.funs, w0.frf, w0.hok, w0.bare⟩
  have len2 : 2 = ps.length := F.len _ _ _ _ h
  have bnd : BindsTo s fd ⟨[.ref a, .ref b], []⟩ (ps.zip [.ref a, .ref b]) := by
    have q := hb s [.ref a, .ref b] I.kIn (by simpa using len2)
    simpa using q
  refine wpAny_call (codeAny_mono (F.run A X.stack s H ⟨[.ref a, .ref b], []⟩ [.ref a, .ref b] [.ref a, .ref b] Q E hr w1 bnd (.cons rfl (.cons rfl .nil)) h) ?_)
  intro r s' z
  match r, z with
  | .error _, z => exact z.elim
  | .ok (.ret u), z => exact I.after z
/-- a == b -/
def rEqOwn (C : Addr) (sp : Sp) : R2 := fun x y H Q => ∃ (a b dx dy : Addr) (fs gs : List (Str × V)), x = .ref a ∧ y = .ref b ∧ H a = some (.ins C dx fs) ∧ H b = some (.ins C dy gs) ∧ sp [.ref a, .ref b] H (fun v H' => ∃ k, v = .bl k ∧ Q (.bl k) H') E0
theorem op_eqOwn (F : FnOk X.prog X.w X.K X.mg X.base CX0 n f fd ps sp) (hs : PySem.W.findIn X.K (.ref C) "__eq__" = some (some (.ref f))) (hf : PySem.W.isFn X.K (.ref f) = true) (hb : Binds X.K fd ps []) (hr : Room n X.A) :
    OpR X (compareOp .Eq) (rEqOwn C sp) := by
  rintro pins s σ H x y v u Q I rx ry ⟨a, b, dx, dy, fs, gs, rfl, rfl, ha, hb', q⟩
  cases rx
  cases ry
  obtain ⟨_, J1, _⟩ := ins_get I.hok ha
  obtain ⟨_, J2, _⟩ := ins_get I.hok hb'
  obtain ⟨_, K1, _⟩ := J1.look
  obtain ⟨_, K2, _⟩ := J2.look
  obtain ⟨_, fr⟩ := I.fr
  show wpAny (model X.prog X.w) X.A (richCompare .Eq (.ref a) (.ref b)) _ _ s
  refine PySem.W.cmp_K (op := .Eq) (tb := .ref C) hr.units0 fr I.ok.mod.kin K1 K2.type (by simp [PySem.W.notFirst]) hs hf ?_
  refine thn (run_eq F hb hr rfl I q) ?_
  rintro w s' ⟨z, H', I', rz, k, rfl, qk⟩
  cases rz
  exact ⟨.bl k, H', I', rfl, qk⟩
/-- a != b, no own != -/
def rNeOwn (C : Addr) (sp : Sp) : R2 := fun x y H Q => ∃ (a b dx dy : Addr) (fs gs : List (Str × V)), x = .ref a ∧ y = .ref b ∧ H a = some (.ins C dx fs) ∧ H b = some (.ins C dy gs) ∧ sp [.ref a, .ref b] H (fun v H' => ∃ k, v = .bl k ∧ Q (.bl (!k)) H') E0
theorem ne_run {P : Program} {w : World} {A : Around} {R : Fin → Shared → Prop} {E : Value → Shared → Prop} {K : PySem.W.Frag} {s : Shared} {a b C f : Addr} {ox : Obj} {od : Option Obj} (hu : A.units < cLine) (X : K.In s.heap) (I : PySem.W.InstAt s.heap a ox C od)
    (hs : PySem.W.findIn K (.ref C) "__eq__" = some (some (.ref f))) (hf : PySem.W.isFn K (.ref f) = true) (h : wpAny (model P w) A (call (.ref f) [.ref a, .ref b]) (fun v s' => ∃ k, v = .bool k ∧ R (.done (.ret (.bool (!k)))) s') E s) :
    wpAny (model P w) A (Builtin.«object.__ne__» ⟨[.ref a, .ref b], []⟩) R E s := by
  have e : Builtin.«object.__ne__» ⟨[.ref a, .ref b], []⟩ = (do
      cRoomFor "comparison" [.ref a, .ref b]
      let r ← callSpecialIfBound? (.ref a) "__eq__" [.ref b]
      match r with
      | some .notImplemented | none => PySem.ret .notImplemented
      | some r => PySem.ret (.bool (!(← truthy r)))) := by rfl
  rw [e]
  refine wpAny_bind (wpAny_cRoomFor hu ?_)
  refine wpAny_bind (PySem.W.ifBound_K X I hs hf (wpAny_mono h ?_ fun _ _ z => z))
  rintro v s' ⟨k, rfl, q⟩
  exact wpAny_bind (wpAny_truthy_bool (wpAny_pure q))
theorem op_neOwn (F : FnOk X.prog X.w X.K X.mg X.base CX0 n f fd ps sp) (hs : PySem.W.findIn X.K (.ref C) "__eq__" = some (some (.ref f))) (hf : PySem.W.isFn X.K (.ref f) = true) (hb : Binds X.K fd ps [])
    (hn : PySem.W.findIn X.K (.ref C) "__ne__" = some (some (.builtin "object.__ne__"))) (hm : PySem.W.mroIn X.K C (.type "object") = some true) (hr : Room (n + 1) X.A) :
    OpR X (compareOp .NotEq) (rNeOwn C sp) := by
  rintro pins s σ H x y v u Q I rx ry ⟨a, b, dx, dy, fs, gs, rfl, rfl, ha, hb', q⟩
  cases rx
  cases ry
  obtain ⟨_, J1, _⟩ := ins_get I.hok ha
  obtain ⟨_, J2, _⟩ := ins_get I.hok hb'
  obtain ⟨_, K1, _⟩ := J1.look
  obtain ⟨_, K2, _⟩ := J2.look
  have kin := I.kIn
  have sub : PySem.W.Looks (model X.prog X.w) s.heap (isInstance (.ref a) (.type "object")) true := K1.type.andThen (PySem.W.looks_mroIn kin hm)
  have r1 : Room n X.A.in1 := hr.in1
  have go : wpAny (model X.prog X.w) X.A (call (.builtin "object.__ne__") [.ref a, .ref b]) (fun v s' => v ≠ .notImplemented ∧ EP X pins σ Q v s') X.xe s := by
    refine wpAny_call (codeAny_call_builtin PySem.F.slot_tuple_iterator_ne.plain PySem.F.cmpEntry_ne (PySem.W.check_slot PySem.F.cmpKind_ne PySem.F.cmpSplit_ne sub (PySem.F.cmpArgs_ne _ _) ?_))
    refine ne_run r1.units0 kin K1 hs hf (thn (run_eq F hb r1 rfl I q) ?_)
    rintro w s' ⟨z, H', I', rz, k, rfl, qk⟩
    cases rz
    exact ⟨k, rfl, (fun z => by cases z), .bl (!k), H', I', rfl, qk⟩
  have one : wpAny (model X.prog X.w) X.A (tryCompare (.ref a) "__ne__" (.ref b)) (fun r s' => ∃ v, r = some v ∧ EP X pins σ Q v s') X.xe s := by
    unfold tryCompare
    refine wpAny_bind ?_
    simp only [callSpecialIfBound?, bindSpecialIfBound?]
    have bi : PySem.W.Looks (model X.prog X.w) s.heap (bindSpecial (.builtin "object.__ne__") (.ref a)) (.builtin "object.__ne__", [.ref a]) := PySem.W.Looks.of_pure (PySem.F.slot_tuple_iterator_ne.bind _)
    have last : wpAny (model X.prog X.w) X.A (call (.builtin "object.__ne__") ([.ref a] ++ [.ref b]) >>= fun v => pure (some v)) (fun r s' => wpAny (model X.prog X.w) X.A (match r with | some .notImplemented => pure none | none => pure none | some v => pure (some v)) (fun r s' => ∃ v, r = some v ∧ EP X pins σ Q v s') X.xe s') X.xe s := by
      refine wpAny_bind (thn go ?_)
      rintro v s' ⟨nv, ev⟩
      refine wpAny_pure ?_
      cases v <;> first | exact absurd rfl nv | exact wpAny_pure ⟨_, rfl, ev⟩
    refine wpAny_holding (wpAny_bind (wpAny_bind (wpAny_bind (K1.type.here ((PySem.W.looks_findIn kin hn).here ?_)))))
    refine wpAny_bind (wpAny_askSetting (wpAny_ite ?_))
    split
    · exact wpAny_bind (bi.here (wpAny_pure (by exact last)))
    · exact wpAny_tryCatch (wpAny_bind (bi.here (wpAny_pure (by exact last))))
  show wpAny (model X.prog X.w) X.A (richCompare .NotEq (.ref a) (.ref b)) _ _ s
  unfold richCompare
  simp only [oneThing_ref]
  refine wpAny_holding (wpAny_bind (wpAny_cRoomFor hr.units0 ?_))
  refine wpAny_bind (K1.type.here (wpAny_bind (K2.type.here ?_)))
  have e0 : (Value.ref C != Value.ref C) = false := by simp
  rw [e0]
  simp only [Bool.false_eq_true, if_false]
  refine wpAny_bind (wpAny_pure ?_)
  simp only [Bool.false_eq_true, if_false]
  refine wpAny_bind (wpAny_mono one ?_ fun _ _ z => z)
  rintro r s' ⟨v, rfl, q'⟩
  exact wpAny_pure q'
end
end My

namespace My
open PySem PySem.Spec PyProof.Rows L2
/-! ### promises where no repr is under way -/
/-- a promise of the def at f, for surroundings in which nothing is being shown -/
structure FnG (P : Program) (w : World) (K : PySem.W.Frag) (mg : Str → Option Value) (base : Heap) (k : Nat) (f : Addr) (fd : FuncData) (ps : List Str) (sp : Sp) : Prop where
  len : ∀ vs H Q E, sp vs H Q E → vs.length = ps.length
  run : ∀ (A : Around) (outer : List Env) (s : Shared) (H : Hp) (args : Args) (us : List Value) (vs : List V) (Q : VK) (E : XK), A.guards = some [] → Room k A → Env0 P w K mg base A outer s H → BindsTo s fd args (ps.zip us) → Vals vs us → sp vs H Q E →
    codeAny (model P w) A (.call (.ref f) args) (CR CX0 outer P w H s Q E) s
section
variable {P : Program} {w : World} {K : PySem.W.Frag} {mg : Str → Option Value} {base : Heap}
theorem FnG.by_body {x qual : Str} {st : Stmt} {f : Addr} {fd : FuncData} {N ps : List Str} {k : Nat} {sp : Sp} (F : Fun K x qual st f fd) (S : FnScope N ps (defScope st)) (len : ∀ vs H Q E, sp vs H Q E → vs.length = ps.length)
    (body : ∀ (cdv : Value) (A : Around) (outer : List Env) (s : Shared) (H : Hp) (vs : List V) (Q : VK) (E : XK), A.guards = some [] → Room k (A.deeper (envOfC qual (defScope st) s.heap.objs.size f cdv)) → sp vs H Q E →
      ∃ t, PSs (cxOf CX0 P w K mg base N qual (defScope st) f cdv A outer s H E).nox (defBody st) t ∧ t { nx := fun _ H' => Q .non H', rt := Q } (start N vs) H) : FnG P w K mg base (k + 1) f fd ps sp := by
  obtain ⟨_, _, _, _, _, _, cdv, _, _, rfl, look, code⟩ := F.ex
  constructor
  · exact len
  intro A outer s H args us vs Q E hg hr e0 hb rel hsp
  have n := len _ _ _ _ hsp
  have old : ∀ b o, base.get? b = some o → s.heap.get? b = some o := fun b o e => (e0.bs b o e).1
  have inK : K.In s.heap := e0.mod.kin.keeps old
  obtain ⟨t, ht, q⟩ := body cdv A outer s H vs Q E hg (hr.deeper _) hsp
  have named : ∀ y ∈ ps.zip us, (defScope st).names.lookup y.1 = some .local ∨ ((defScope st).names.lookup y.1 = some .cell ∧ ((cellsFrom (s.heap.objs.size + 1) (defScope st).names []).lookup y.1).isSome = true) := by
    rintro ⟨m, v⟩ hy
    exact (S.par m (List.of_mem_zip hy).1).imp (fun z => z) fun z => ⟨z, PySem.W.cellsFrom_some _ _ _ (.inl z)⟩
  refine codeAny_call_function hr.depth (inK _ _ look) rfl S.co S.gen rfl (PySem.W.codeRec_of inK code) (hb _ _ _ _ (wpAny_newFunctionEnv_cells S.kind named fun env he s1 z => ?_))
  subst he
  refine ⟨(e0.mod.nolimit.keeps old).keeps z.toInCall.keep, codeAny_func (wpAny_mono (ht.nox.run [] s1 (start N vs) H _ (inv_start S hr.hd e0 n rel z) q) ?_ fun _ _ h => h)⟩
  intro fl s' h
  match fl, h with
  | .ret u, ⟨v, σ', H', J, rv, q'⟩ => exact ⟨v, H', J.os, J.bare, J.base, J.hok, rv, q'⟩
  | .next, ⟨σ', H', J, q'⟩ => exact ⟨V.non, H', J.os, J.bare, J.base, J.hok, rfl, q'⟩
  | .brk, ⟨_, _, _, q'⟩ => exact q'.elim
  | .cont, ⟨_, _, _, q'⟩ => exact q'.elim
end
section
variable {X : Cx} {k : Nat} {f : Addr} {fd : FuncData} {ps : List Str} {sp : Sp} {dvs : List V} {ds : List Value} {E : XK} {x : Str} {p pos : Pos} {e : Expr} {es : List Expr} {t : TA}
/-- a call of such a def -/
theorem pe_callG (hA : X.A.guards = some []) (F : FnG X.prog X.w X.K X.mg X.base k f fd ps sp) (hr : Room k X.A) (hg : Gl X x) (hm : X.mg x = some (.ref f)) (hk : PySem.W.keepIn X.K (.ref f) = true) (hb : Binds X.K fd ps ds) (hd : Vals dvs ds) (hx : Passes CX0 X E)
    (ha : PA X (e :: es) t) (hdb : (x == ("__debug__" : Str)) = false := by decide) (he : starEach (e :: es) X.env = (false, eval e X.env) :: starEach es X.env := by rfl) (hpl : (backTo pos (starEach es X.env)).any (·.1) = false := by rfl) :
    PE X (.Call (.Name x p) (e :: es) [] pos) (tCall sp dvs E t) := by
  constructor
  intro pins s σ H Q I h
  refine wpAny_Call_Name_kw (ld_glob I hg hm ?_ hdb)
  refine PySem.W.callWith_K (h₀ := X.base) I.ok.mod.kin hk (thn (ha.run pos pins s σ H _ I h) ?_) he hpl
  rintro us s1 ⟨vs, H1, J, rel, q⟩
  refine ⟨J.kIn, ?_⟩
  have both := rel.append hd
  have n : (us ++ ds).length = ps.length := by rw [← both.length]; exact F.len _ _ _ _ q
  refine wpAny_call (codeAny_mono (F.run X.A X.stack s1 H1 ⟨us, []⟩ (us ++ ds) (vs ++ dvs) Q E hA hr J.env0 (hb s1 us J.kIn n) both q) ?_)
  intro r s' z
  match r, z with
  | .error _, z => exact hx pins σ H1 s1 _ s' J z
  | .ok (.ret _), z => exact J.after z
/-- repr of data -/
def rRepr (K : PySem.W.Frag) : List V → Hp → VK → Prop := fun xs H Q => ∃ (a : Addr) (d : PyData), xs = [.ref a] ∧ Dp K H (.ref a) d ∧ d.showable = true ∧ d.hasDict = false ∧ d.depth ≤ 60 ∧ d.shown.length ≤ sizeLine ∧ Q (.str d.shown) H
theorem call_repr (hA : X.A.guards = some []) (hu : X.A.units + 64 < cLine) : CallR X (.builtin "repr") (rRepr X.K) := by
  rintro pins s σ H xs us Q I r ⟨a, d, rfl, hd, hs, hn, hz, hl, q⟩
  obtain ⟨u, rfl, rx⟩ := vals1 r
  cases rx
  obtain ⟨as, rd⟩ := Dp.reads I d (.ref a) (.ref a) hd rfl
  exact repr_of_reads' rd hs (PyData.noDict_hsm hn) hA (by omega) (fun _ _ e => e) (fun h' u tk hk => ⟨.str d.shown, H, I.kept hk, ⟨_, rfl⟩, q⟩) hl
end
end My
namespace My
open PySem PySem.Spec PyProof.Rows L2
/-! ### the law's call, by such a promise -/
section
variable {P : Program} {w : World} {K : PySem.W.Frag} {mg mb : Str → Option Value} {k : Nat} {fa a : Addr} {fd : FuncData} {x : Str} {sp : Sp} {s₁ : Shared} {vs : List Value} {ns : List Int}
/-- with H tracked: nothing but the script, and not even this where it is the module's own -/
theorem law_with (KX : K.In s₁.heap) (hns : s₁.heap.Ns mainGlobals mg) (hb : s₁.heap.Ns builtinsNs mb) (hbb : ∀ x : Str, x ≠ "__name__" → mb x = bootBuiltins x) (hlim : s₁.heap.NoLimit) (hg : s₁.gens = #[])
    (ha : s₁.heap.get? a = some { cls := .type "list", data := .seq vs.toArray }) (hr : Room k callerA)
    (F : ∀ base : Heap, K.In base → base.Ns mainGlobals mg → FnG P w K mg base k fa fd [x] sp) (hbind : ∀ (s : Shared) (u : Value), BindsTo s fd ⟨[u], []⟩ [(x, u)])
    {H : Hp} (off : ∀ b, b ≠ a → H b = none) (own : K.lookup a ≠ none → H a = none) (frz : ∀ u, H a = some u → ∃ ob xs, u = .frz ob (.lst xs)) (hok : HOk P w H s₁.heap)
    (hsp : sp [.ref a] H (fun v _ => v = .bl true) fun _ _ _ => False) :
    codeAny (model P w) callerA (.call (.ref fa) ⟨[.ref a], []⟩) (fun r s' => r = .ok (.ret (.bool true)) ∧ OldK s₁.heap s'.heap ∧ s'.os = s₁.os ∧ AllBare s'.gens) s₁ := by
  have stays : ∀ {b : Addr} {o : Obj}, s₁.heap.get? b = some o → b ≠ a → (hidT s₁.heap H).get? b = some o := fun e n => hidT_get e (off _ n)
  have dicts : ∀ {b : Addr} {o : Obj} {es : Array DictEntry} {n : Nat}, s₁.heap.get? b = some o → o.data = .dict es n → b ≠ a := by
    rintro b o es n e d rfl
    rw [ha] at e
    cases e
    cases d
  have tables : ∀ {b : Addr} {m : Str → Option Value}, s₁.heap.Ns b m → (hidT s₁.heap H).Ns b m := fun {b m} h => by
    obtain ⟨o, es, n, e, d, r⟩ := h
    exact ⟨o, es, n, stays e (dicts e d), d, r⟩
  have inK : K.In (hidT s₁.heap H) := fun b o e => by
    by_cases z : b = a
    · subst z
      exact hidT_get (KX _ _ e) (own (by rw [e]; simp))
    · exact stays (KX _ _ e) z
  obtain ⟨mc, l1, l2⟩ := hlim
  have e0 : Env0 P w K mg (hidT s₁.heap H) callerA [] s₁ H :=
    ⟨rfl, ⟨inK, tables hns, ⟨mb, tables hb, hbb⟩, mc, tables l1, l2⟩, fun b o e => of_hidT e, Nat.le_of_eq (hidT_size _ _), trivial, fun b hb => absurd (show b ∈ ([] : List Addr) from hb) (by simp), hok, .of_eq hg⟩
  have run := (F _ inK (tables hns)).run callerA [] s₁ H ⟨[.ref a], []⟩ [.ref a] [.ref a] _ _ rfl hr e0 (hbind s₁ (.ref a)) (.cons rfl .nil) hsp
  refine codeAny_mono run ?_
  intro r s' h
  match r, h with
  | .error _, h => exact False.elim h
  | .ok (.ret u), ⟨v, H', os, bare, un, hok', rv, q⟩ =>
    have q' : v = .bl true := q
    subst q'
    obtain rfl : u = Value.bool true := rv
    refine ⟨rfl, OldK.of_keep fun b o e => ?_, os, bare⟩
    cases z : H b with
    | none => exact un.keep b o e z (fun y => absurd (show b ∈ ([] : List Addr) from y) (by simp)) (by simp)
    | some u =>
      have ba : b = a := Classical.byContradiction fun y => by rw [off b y] at z; cases z
      subst ba
      obtain ⟨ob, xs, rfl⟩ := frz u z
      obtain ⟨e1, _⟩ := hok b _ z
      obtain ⟨e2, _⟩ := hok' b _ (un.frzs b ob _ z)
      rw [e] at e1
      cases e1
      exact e2
theorem law_callG (KX : K.In s₁.heap) (hns : s₁.heap.Ns mainGlobals mg) (hb : s₁.heap.Ns builtinsNs mb) (hbb : ∀ x : Str, x ≠ "__name__" → mb x = bootBuiltins x) (hlim : s₁.heap.NoLimit) (hg : s₁.gens = #[])
    (ha : s₁.heap.get? a = some { cls := .type "list", data := .seq vs.toArray }) (hi : IntsAre vs ns) (hl : ns.length ≤ sizeLine) (hr : Room k callerA)
    (F : ∀ base : Heap, K.In base → base.Ns mainGlobals mg → FnG P w K mg base k fa fd [x] sp) (hbind : ∀ (s : Shared) (u : Value), BindsTo s fd ⟨[u], []⟩ [(x, u)])
    (hsp : ∀ H : Hp, SqL K H a (ns.map V.int) → sp [.ref a] H (fun v _ => v = .bl true) fun _ _ _ => False) :
    codeAny (model P w) callerA (.call (.ref fa) ⟨[.ref a], []⟩) (fun r s' => r = .ok (.ret (.bool true)) ∧ OldK s₁.heap s'.heap ∧ s'.os = s₁.os ∧ AllBare s'.gens) s₁ := by
  have rel := vals_ints hi
  by_cases hk : K.lookup a = none
  · let it : HO := .frz { cls := .type "list", data := .seq vs.toArray } (.lst (ns.map V.int))
    have there : upd (fun _ => none) a it a = some it := upd_same
    refine law_with KX hns hb hbb hlim hg ha hr F hbind (H := upd (fun _ => none) a it) (fun b n => upd_ne n) (fun z => absurd hk z) (fun u e => ?_) (fun b u e => ?_) (hsp _ (.inl (.inr ⟨_, there⟩)))
    · rw [there] at e
      cases e
      exact ⟨_, _, rfl⟩
    · by_cases z : b = a
      · subst z
        rw [there] at e
        cases e
        exact ⟨ha, by rw [List.length_map]; exact hl, vs, _, rel, ha⟩
      · rw [upd_ne z] at e
        cases e
  · obtain ⟨o, ho⟩ := Option.ne_none_iff_exists'.mp hk
    have e := KX a o ho
    rw [ha] at e
    cases e
    refine law_with KX hns hb hbb hlim hg ha hr F hbind (H := fun _ => none) (fun b n => rfl) (fun _ => rfl) (fun u e => by cases e) (fun b u e => by cases e) (hsp _ (.inr ⟨_, vs.toArray, _, ho, rfl, rfl, rfl, by rw [List.size_toArray, hi.length]; exact hl, by simpa using rel⟩))
theorem walk_ofG {l : PySem.W.OpenLaw} {n k : Nat} {q : Program} {loose : List Str} {XP : (Str → Option Value) → Heap → Prop} {YP : World → Heap → Prop} {d : DefRec} {K : Params → PySem.W.Frag} {sp : World → Sp} {x : Str}
    (hn : l.most = some n) (hn2 : n ≤ sizeLine) (hdf : d.params.defaults = []) (hr : Room k callerA) (hY : ∀ (w : World) (h : Heap), YP w h → (K w.params).In h)
    (F : ∀ (w : World) (mg : Str → Option Value) (fa : Addr) (h : Heap), (K w.params).In h → h.Ns mainGlobals mg → mg d.name = some (.ref fa) →
      ∃ fd : FuncData, (∀ (s : Shared) (u : Value), BindsTo s fd ⟨[u], []⟩ [(x, u)]) ∧ ∀ base : Heap, (K w.params).In base → base.Ns mainGlobals mg → FnG l.prog w (K w.params) mg base k fa fd [x] (sp w))
    (hsp : ∀ (w : World) (H : Hp) (a : Addr) (ns : List Int), ns.length ≤ n → SqL (K w.params) H a (ns.map V.int) → sp w [.ref a] H (fun v _ => v = .bl true) fun _ _ _ => False) :
    PySem.W.WalkO q loose XP YP l.row.toRowW d [] (fun f vs => PySem.call f vs) := by
  refine Att.attach_call hn hdf fun w s₀ s₁ mg mb fa o pm cd doc a vs ns G Y ho hd hcd hmg hobj hints hlen hg => ?_
  have KX := hY w _ Y
  obtain ⟨fd, hb, hF⟩ := F w mg fa _ KX G.T.g hmg
  exact law_callG KX G.T.g G.T.b G.T.builtins G.T.nolimit hg hobj hints (Nat.le_trans hlen hn2) hr hF hb fun H hS => hsp w H a ns hlen hS
end
end My

namespace My
open PySem PySem.Spec PyProof.Rows L2
section
variable {X : Cx}
/-- repr of data, whatever its kind -/
def rReprA (K : PySem.W.Frag) : List V → Hp → VK → Prop := fun xs H Q => ∃ (x : V) (d : PyData), xs = [x] ∧ Dp K H x d ∧ d.showable = true ∧ d.hasDict = false ∧ d.depth ≤ 60 ∧ d.shown.length ≤ sizeLine ∧ Q (.str d.shown) H
theorem call_reprA (hA : X.A.guards = some []) (hu : X.A.units + 64 < cLine) : CallR X (.builtin "repr") (rReprA X.K) := by
  rintro pins s σ H xs us Q I r ⟨x, d, rfl, hd, hs, hn, hz, hl, q⟩
  obtain ⟨u, rfl, rx⟩ := vals1 r
  cases hd with
  | non =>
    cases rx
    exact PySem.P.repr_of_none ⟨.str _, H, I.tok _, ⟨_, rfl⟩, q⟩
  | bl b =>
    obtain ⟨t, rfl⟩ := rx
    exact PySem.P.repr_of_bool ⟨.str _, H, I.tok _, ⟨_, rfl⟩, q⟩
  | int i =>
    obtain ⟨t, rfl⟩ := rx
    exact PySem.P.repr_of_int (by simpa [PyData.showable] using hs) ⟨.str _, H, I.tok _, ⟨_, rfl⟩, q⟩
  | str z =>
    obtain ⟨t, rfl⟩ := rx
    exact PySem.P.repr_of_str ⟨.str _, H, I.tok _, ⟨_, rfl⟩, q⟩ hl
  | lst h1 h2 =>
    cases rx
    obtain ⟨as, rd⟩ := Dp.reads I _ _ _ (.lst h1 h2) rfl
    exact repr_of_reads' rd hs (PyData.noDict_hsm hn) hA (by omega) (fun _ _ e => e) (fun h' u tk hk => ⟨.str _, H, I.kept hk, ⟨_, rfl⟩, q⟩) hl
  | tup h1 h2 =>
    cases rx
    obtain ⟨as, rd⟩ := Dp.reads I _ _ _ (.tup h1 h2) rfl
    exact repr_of_reads' rd hs (PyData.noDict_hsm hn) hA (by omega) (fun _ _ e => e) (fun h' u tk hk => ⟨.str _, H, I.kept hk, ⟨_, rfl⟩, q⟩) hl
end
/-- none, or a whole number, shown -/
theorem data_opt {d : PyData} (h : d = .none ∨ ∃ i : Int, d = .int i ∧ i.natAbs < 2 ^ 1900) : d.showable = true ∧ d.hasDict = false ∧ d.depth ≤ 60 ∧ d.shown.length ≤ sizeLine := by
  rcases h with rfl | ⟨i, rfl, hi⟩
  · refine ⟨?_, ?_, ?_, ?_⟩ <;> first | rfl | decide +kernel
  · have l1 : i.natAbs.log2 < 1920 := Nat.lt_of_lt_of_le (PySem.Flt.log2_lt_of (by decide) hi) (by decide)
    have s1 : (PyData.shown (.int i)).length ≤ 1921 := PyProof.Rows.int_text_len_1921 l1
    refine ⟨?_, ?_, ?_, ?_⟩
    · simpa only [PyData.showable, decide_eq_true_eq] using l1
    · simp [PyData.hasDict]
    · simp [PyData.depth]
    · exact Nat.le_trans s1 (by decide)
end My

namespace My
open PySem L2
/-- two numbers, shown -/
theorem short_two {a b : Int} (ha : a.natAbs < 2 ^ 1900) (hb : b.natAbs < 2 ^ 1900) : (PyData.shown (.tuple [.int a, .int b])).length ≤ sizeLine := by
  have l1 : a.natAbs.log2 < 1920 := Nat.lt_of_lt_of_le (PySem.Flt.log2_lt_of (by decide) ha) (by decide)
  have l2 : b.natAbs.log2 < 1920 := Nat.lt_of_lt_of_le (PySem.Flt.log2_lt_of (by decide) hb) (by decide)
  have s1 : (PyData.shown (.int a)).length ≤ 1921 := PyProof.Rows.int_text_len_1921 l1
  have s2 : (PyData.shown (.int b)).length ≤ 1921 := PyProof.Rows.int_text_len_1921 l2
  have short : (PyData.tuple [.int a, .int b]).leavesShort 1921 = true := by
    simp only [PyData.leavesShort, PyData.leavesShortAll, Bool.and_true, Bool.and_eq_true, decide_eq_true_eq]
    exact ⟨s1, s2⟩
  have le := PyData.shown_le 1921 (by decide) _ short
  have wt : (PyData.tuple [.int a, .int b]).weight ≤ 4000 := by
    simp only [PyData.weight, PyData.weightAll]
    have wt1 : ∀ i : Int, i.natAbs.log2 < 1920 → (if (i == 0) = true then 0 else i.natAbs.log2 + 1) ≤ 1920 := fun i h => by split <;> omega
    have wa := wt1 a l1
    have wb := wt1 b l2
    omega
  have e : sizeLine = 16777216 := rfl
  omega
theorem data_two {a b : Int} (ha : a.natAbs < 2 ^ 1900) (hb : b.natAbs < 2 ^ 1900) : (PyData.tuple [.int a, .int b]).showable = true ∧ (PyData.tuple [.int a, .int b]).hasDict = false ∧ (PyData.tuple [.int a, .int b]).depth ≤ 60 := by
  refine ⟨?_, ?_, ?_⟩
  · have l1 : a.natAbs.log2 < 1920 := Nat.lt_of_lt_of_le (PySem.Flt.log2_lt_of (by decide) ha) (by decide)
    have l2 : b.natAbs.log2 < 1920 := Nat.lt_of_lt_of_le (PySem.Flt.log2_lt_of (by decide) hb) (by decide)
    simp only [PyData.showable, PyData.showableAll, Bool.and_true, Bool.and_eq_true, decide_eq_true_eq]
    exact ⟨l1, l2⟩
  · simp [PyData.hasDict, PyData.hasDictAll]
  · simp [PyData.depth, PyData.depthAll]
end My

namespace PySem
namespace NoBX
open PySem.W PySem.Calls PyProof.Rows PySem.HandSPX Builtin Builtin.ObjectAttr
/-! ### an own error over a builtin one: its first field is stored -/
abbrev aeTail : List Value := [.type "ArithmeticError", .type "Exception", .type "BaseException", .type "object"]
theorem first_store {P : Program} {w : World} {A : Around} {R : Result → Shared → Prop} {h0 : Heap} {gs : Array GenState} {dr : Drawn} {t0 : Nat} {oss : OsState}
    {K : Frag} {nm : Str} {tk : Tok} {val : Value} {e C : Addr} {fs : Array Value} {cd : ClassData} (kin : K.In h0) (he : h0.get? e = some { cls := .ref C, data := .fields fs }) (hc : clsIn K C = some cd)
    (pass : refuseLoop (.ref e) "__setattr__" cd.mro = pure ()) (isObj : mroIn K C (.type "object") = some true) (hasD : cd.hasDict = true) (no : findIn K (.ref C) nm = some none)
    (go : ∀ h1 t1 dx, (∀ b o, b ≠ e → h0.get? b = some o → h1.get? b = some o) → h0.objs.size ≤ dx → dx ≠ e → h1.get? e = some { cls := .ref C, dict := some dx, data := .fields fs } → h1.Ns1 dx (fun y => if y = nm then some val else none) → R (.ok (.ret .none)) ⟨h1, gs, dr, t1, oss⟩) :
    codeAny (model P w) A (.call (.builtin "object.__setattr__") ⟨[.ref e, .str nm tk, val], []⟩) R ⟨h0, gs, dr, t0, oss⟩ := by
  have inst : InstAt h0 e { cls := .ref C, data := .fields fs } C none := ⟨he, rfl, rfl, trivial⟩
  have old : e ≠ h0.objs.size := Nat.ne_of_lt (Heap.lt_size he)
  have st := F.store_object
  have under : Looks (model P w) h0 (isInstance (.ref e) (.type "object")) true := inst.type.andThen (looks_mroIn kin isObj)
  refine codeAny_call_builtin st.slot.plain st.entry (@check_slot (model P w) _ _ ⟨h0, gs, dr, t0, oss⟩ "object.__setattr__" "object" "__setattr__" (.ref e) [.str nm tk, val] [] _ st.kind st.split under (st.args (.ref e) (.str nm tk) val) ?_)
  have chain : Looks (model P w) h0 (mroOf (.ref C)) cd.mro := (looks_clsIn kin hc).andThen .now
  have taker : Looks (model P w) h0 (storeTaker? none) none := .now
  have data : Looks (model P w) h0 (classData C) cd := looks_clsIn kin hc
  rw [osa_eq, refuse_eq]
  refine wpAny_bind (wpAny_bind (inst.type.at (wpAny_bind (chain.at ?_))))
  rw [pass]
  refine wpAny_pure (wpAny_bind (inst.type.at (wpAny_bind ((looks_findIn kin no).at (wpAny_bind (taker.at ?_))))))
  show wpAny _ _ (storeInOwnDict (.ref e) (.ref C) (.str nm tk) nm val false) _ _ _
  obtain ⟨c1, c2, c3, c4, c5, c6, c7, c8, c9, c10, c11⟩ := cd
  dsimp only at hasD
  subst hasD
  unfold storeInOwnDict ownDictForStores
  repeat (first | with_reducible refine store_in_new ?_ ?_ | with_reducible refine wpAny_loadPart_at he ?_ | with_reducible refine data.at ?_ | wp_step)
  · exact ⟨_, #[], _, (Heap.get?_update_ne _ _ _ _ old.symm).trans (Heap.get?_push_at rfl rfl), rfl, fun x hx => absurd hx (by simp), fun _ => rfl⟩
  · intro h1 t1 ns but
    have now : (h0.push { cls := .type "dict", data := .dict #[] }).get? e = some { cls := .ref C, data := .fields fs } := Heap.get?_push_of_some _ he
    refine go h1 t1 h0.objs.size (fun b o nb ho => ?_) (Nat.le_refl _) old.symm ?_ ns
    · exact (but.2 b (Nat.ne_of_lt (Heap.lt_size ho))).trans ((Heap.get?_update_ne _ _ _ _ nb).trans (Heap.get?_push_of_some _ ho))
    · exact (but.2 e old).trans (Heap.get?_update_self _ now rfl)
end NoBX
end PySem
namespace PySem
namespace NoBX
open PySem.W PySem.Calls PyProof.Rows PySem.HandSPX
/-! ### the text of __init__ -/
def iA (p1 p2 : Pos) : Arguments := { posonlyargs := [], args := [{ arg := "self", annotation := none, pos := p1 }, { arg := "top", annotation := none, pos := p2 }], vararg := none, kwonlyargs := [], kw_defaults := [], kwarg := none, defaults := [] }
def iB (q1 q2 q3 q4 : Pos) : List Stmt := [.Assign [.Attribute (.Name "self" q1) "top" q2] (.Name "top" q3) q4]
def iS : Scope := { kind := .function, names := [(PySem.Str.ofString "self", .local), (PySem.Str.ofString "top", .local)], isGenerator := false, isCoroutine := false, more := [] }
/-- what the written part says of Low, at C, and of its __init__, at fI -/
structure NoBTxt (K : Frag) (mg : Str → Option Value) (C fI : Addr) : Prop where
  gC : mg "NoBottom" = some (.ref C)
  cls : ∃ nm q N bs bm sn sub ab col dd k0 k1 k2 k3 k5, K.lookup C = some (excClassObj nm q C N bs bm true sn sub ab col dd k0 k1 k2 k3 k5 "ArithmeticError.__new__") ∧ bm = aeTail
  sa : findIn K (.ref C) "__setattr__" = some (some (.builtin "object.__setattr__"))
  ga : findIn K (.ref C) "__getattribute__" = some (some (.builtin "BaseException.__getattribute__"))
  gg : findIn K (.ref C) "__getattr__" = some none
  noN : findIn K (.ref C) "top" = some none
  iC : findIn K (.ref C) "__init__" = some (some (.ref fI))
  tC : typeIn K (.ref fI) = some (.type "function")
  kC : keepIn K (.ref C) = true
  exC : subIn K (.ref C) (.type "BaseException") = some true
  tyC : typeIn K (.ref C) = some (.type "type")
  hdC : hasDictIn K C = true
  te : exmOne K (.ref C) (.ref C) = some true
  fn : ∃ (oc : Value) (od : Option Addr) (doc pm : Value) (an : Option Addr) (cdv ct : Value) (osl : Array (Option Value)) (p1 p2 q1 q2 q3 q4 : Pos),
    K.lookup fI = some ⟨oc, od, .func (fnOf "__init__" "NoBottom.__init__" (iA p1 p2) (iB q1 q2 q3 q4) iS .none .none doc pm an cdv ct), osl⟩ ∧ codeIn K cdv "NoBottom.__init__" = true
theorem one_size (v : Value) : [v].length ≤ sizeLine := by
  rw [sizeLine_eq]
  exact (by decide : 1 ≤ 16777216)
theorem kept_but {K : Frag} {h h' : Heap} {x : Addr} (X : K.In h) (hx : K.lookup x = none) (k : ∀ b o, b ≠ x → h.get? b = some o → h'.get? b = some o) : K.In h' := fun a o e =>
  k a o (fun z => by rw [z, hx] at e; cases e) (X a o e)
theorem ldC {M : Model} {s : Shared} {name : Str} {scope : Scope} {L a : Addr} {cd : Value} {m : Str → Option Value} {x : Str} {pos : Pos} {v : Value} {Q : Value → Shared → Prop} {A : Around} {E : Value → Shared → Prop} (hn : s.heap.Ns L m) (hv : m x = some v) (h : Q v s)
    (hk : scope.kind = .function := by rfl) (hl : (envOfC name scope L a cd).kindOf x = some .local := by rfl) (hd : (x == ("__debug__" : Str)) = false := by decide) :
    wpAny M A (eval (.Name x pos) (envOfC name scope L a cd)) Q E s := wpAny_Name (wpAny_loadName_local hk hl hn hv h) hd
/-- what __init__ leaves of a fresh exception at x -/
structure InitEnd (h h' : Heap) (x C dx t1 : Addr) (v : Value) : Prop where
  keep : ∀ b o, b ≠ x → h.get? b = some o → h'.get? b = some o
  obj : h'.get? x = some { cls := .ref C, dict := some dx, data := .fields #[.ref t1, .none, .none, .none, .bool false, .none] }
  dbig : h.objs.size ≤ dx
  dne : dx ≠ x
  ns : h'.Ns1 dx (fun y => if y = "top" then some v else none)
/-- a made Low -/
structure OwnMade (h h' : Heap) (e C d : Addr) (v : Value) : Prop where
  keep : ∀ b o, h.get? b = some o → h'.get? b = some o
  new : h.objs.size ≤ e
  obj : ∃ oe vs, h'.get? e = some oe ∧ oe.cls = .ref C ∧ oe.dict = some d ∧ oe.data = .fields vs ∧ vs[1]? = some .none
  dbig : h.objs.size ≤ d
  dne : d ≠ e
  ns : h'.Ns1 d (fun y => if y = "top" then some v else none)
section
variable {prog : Program} {w : World} {A : Around} {E : Value → Shared → Prop} {R : Result → Shared → Prop} {s : Shared} {K : Frag} {mg : Str → Option Value} {C fI : Addr}
theorem noB_init (T : NoBTxt K mg C fI) {x t0 : Addr} {v : Value} (X : K.In s.heap) (hlim : s.heap.NoLimit) (hx : s.heap.get? x = some (excO C t0)) (hnx : K.lookup x = none) (hroom : A.depth < recursionLimit)
    (hq : ∀ h' tk dx, InitEnd s.heap h' x C dx t0 v → R (.ok (.ret .none)) { s with heap := h', toks := tk }) :
    codeAny (model prog w) A (.call (.ref fI) ⟨[.ref x, v], []⟩) R s := by
  obtain ⟨oc, od, doc, pm, an, cdv, ct, osl, p1, p2, q1, q2, q3, q4, ho, hcd⟩ := T.fn
  obtain ⟨nm, q, N, bs, bm, sn, sub, ab, col, dd, k0, k1, k2, k3, k5, hC, hbm⟩ := T.cls
  have hcl : clsIn K C = some { name := nm, bases := bs, mro := .ref C :: bm, ns := N, qualname := q, hasDict := true, slotNames := sn, subclasses := sub, abstract := ab, collection := col, hasDel := false } := by unfold clsIn; rw [hC] <;> rfl
  refine Att.call_fn (binds := [("self", .ref x), ("top", v)]) X hlim ho hcd hroom (BindsTo.of_eq (by first | rfl | with_unfolding_all rfl)) (by first | rfl | decide | with_unfolding_all rfl) (fun s₁ IC => ?_) rfl rfl rfl
  obtain ⟨h₁, tk₁, rfl⟩ := IC.toInCall.same
  have k : ∀ b o, s.heap.get? b = some o → h₁.get? b = some o := IC.toInCall.keep
  have hn := IC.toInCall.ns
  have hxL : s.heap.objs.size ≠ x := Nat.ne_of_gt (Heap.lt_size hx)
  have X₁ : K.In h₁ := X.keeps k
  have hx₁ := k _ _ hx
  -- self.by = by
  show wpAny _ _ (execs _ _) _ _ _
  refine wpAny_execs_cons (plainObj_wpAny_Assign_Attribute ?_)
  refine ldC (v := v) hn (by first | rfl | with_unfolding_all rfl | kernel_rfl) (ldC (v := .ref x) hn (by first | rfl | with_unfolding_all rfl | kernel_rfl) ?_)
  refine set_plain X₁ (ox := excO C t0) (od := none) ⟨hx₁, rfl, rfl, trivial⟩ T.sa ?_
  refine first_store X₁ hx₁ hcl (by rw [hbm, refuseLoop_ref]; exact F.store_ArithmeticError.passes _) (by unfold mroIn; rw [hcl, Option.bind_some, hbm]; rfl) rfl T.noN (fun h₃ tk₃ dx k₃ dn dne hx₃ hn₃ => ?_)
  show wpAny _ _ (execs _ _) _ _ _
  have z : s.heap.objs.size < h₁.objs.size := hn.lt
  exact wpAny_execs_nil (hq h₃ tk₃ dx ⟨fun b o hb e => k₃ b o hb (k b o e), hx₃, Nat.le_of_lt (Nat.lt_of_lt_of_le z dn), dne, hn₃⟩)
theorem noB_made (T : NoBTxt K mg C fI) {v : Value} (X : K.In s.heap) (hlim : s.heap.NoLimit) (hroom : A.depth + 1 < recursionLimit)
    (hq : ∀ h' tk e d, OwnMade s.heap h' e C d v → R (.ok (.ret (.ref e))) { s with heap := h', toks := tk }) :
    codeAny (model prog w) A (.call (.ref C) ⟨[v], []⟩) R s := by
  obtain ⟨nm, q, N, bs, bm, sn, sub, ab, col, dd, k0, k1, k2, k3, k5, hC, hbm⟩ := T.cls
  obtain ⟨hp, g, dr, tk, os⟩ := s
  have k : ∀ b o, hp.get? b = some o → ((hp.push (kdv_tup [v])).push (excO C hp.objs.size)).get? b = some o := fun b o e => Heap.get?_push_of_some _ (Heap.get?_push_of_some _ e)
  have hget : ((hp.push (kdv_tup [v])).push (excO C hp.objs.size)).get? (hp.objs.size + 1) = some (excO C hp.objs.size) := by heap_get
  have hnx : K.lookup (hp.objs.size + 1) = none := by
    cases e : K.lookup (hp.objs.size + 1) with
    | none => rfl
    | some o =>
      have z : hp.get? (hp.objs.size + 1) = some o := X _ _ e
      exact absurd (Nat.lt_of_succ_lt (Heap.lt_size z)) (Nat.lt_irrefl _)
  refine call_own F.excBase_ArithmeticError (fun X => by rw [hbm]) (X _ _ hC) (looks_findIn X T.iC) (fun self => bind_fn X self T.tC) (one_size v) ?_
  refine noB_init (s := ⟨(hp.push (kdv_tup [v])).push (excO C hp.objs.size), g, dr, tk, os⟩) T (X.keeps k) (hlim.keeps k) hget hnx ?_ fun h' tk' dx ⟨k', hx, dn, dne, hns⟩ => ?_
  · show A.depth + 1 < recursionLimit
    exact hroom
  · have old : ∀ b o, hp.get? b = some o → h'.get? b = some o := fun b o e => k' b o (Nat.ne_of_lt (Nat.lt_succ_of_lt (Heap.lt_size e))) (k b o e)
    have z : hp.objs.size + 1 + 1 ≤ dx := by
      first
        | (simpa only [Heap.size_push] using dn)
        | exact dn
        | (have q := dn; rw [Heap.size_push, Heap.size_push] at q; exact q)
    exact ⟨rfl, hq h' tk' (hp.objs.size + 1) dx ⟨old, Nat.le_succ _, ⟨_, _, hx, rfl, rfl, rfl, rfl⟩, Nat.le_trans (Nat.le_trans (Nat.le_succ _) (Nat.le_succ _)) z, dne, hns⟩⟩
end
end NoBX
end PySem
namespace L2
open PySem PySem.Spec PyProof.Rows
theorem relO_noB {v : V} {v' : Value} (r : RelV v v') (f : Str) : RelO (List.lookup f [(("top" : Str), v)]) (if f = "top" then some v' else none) := by
  by_cases hw : f = "top"
  · subst hw
    rw [if_pos rfl]
    have q : List.lookup ("top" : Str) [(("top" : Str), v)] = some v := by simp [List.lookup]
    rw [q]
    exact r
  · rw [if_neg hw]
    have qw : (f == ("top" : Str)) = false := by simpa using hw
    have q2 : List.lookup f [(("top" : Str), v)] = none := by simp [List.lookup, qw]
    rw [q2]
    trivial
section
variable {X : Cx} {C fI : Addr}
/-- Low(e) -/
def tMkNoB (C : Addr) (ta : TA) : St → Hp → XK → Prop := fun σ H Q => ta σ H fun vs H1 => ∃ v, vs = [v] ∧ ∀ d, H1 d = none → Q (.ref C) (some d) (upd H1 d (.xd [(("top" : Str), v)]))
theorem pmk_noB {a : Expr} {ta : TA} {p pos : Pos} {k : Nat} (T : PySem.NoBX.NoBTxt X.K X.mg C fI) (hr : Room k X.A) (ha : PA X [a] ta) (hg : Gl X "NoBottom" := by rfl)
    (he : starEach (a :: []) X.env = (false, eval a X.env) :: starEach [] X.env := by rfl) (hpl : (backTo pos (starEach [] X.env)).any (·.1) = false := by rfl) :
    PMk X (.Call (.Name "NoBottom" p) [a] [] pos) (tMkNoB C ta) := by
  intro pins s σ H Q I h
  refine wpAny_Call_Name_kw (ld_glob I hg T.gC ?_)
  refine PySem.W.callWith_K (h₀ := X.base) I.ok.mod.kin T.kC (thn (ha.run pos pins s σ H _ I h) fun us s1 hh => ?_) he hpl
  obtain ⟨vs, H1, I1, r1, v, ev, q1⟩ := hh
  subst ev
  refine ⟨I1.kIn, ?_⟩
  cases r1 with
  | cons rv rn =>
    rename_i v' us'
    cases rn
    show wpAny _ _ (call (.ref C) [v']) _ _ _
    have hlim := I1.nolimit
    obtain ⟨hp, g, dr, tk, os⟩ := s1
    refine wpAny_call (PySem.NoBX.noB_made T I1.kIn hlim (by have := hr.dp; omega) fun h' tk' e d M => ?_)
    show MkP X pins σ Q (.ref e) ⟨h', g, dr, tk', os⟩
    obtain ⟨oe, fv, hoe, hc, hd, hdat, h1⟩ := M.obj
    have hns := M.ns
    obtain ⟨G', g1, g2⟩ := restrict h' fun b => decide (b ≠ e)
    have gk : ∀ b, b ≠ e → G'.get? b = h'.get? b := fun b hb => g1 b (decide_eq_true hb)
    have ge : G'.get? e = none := g2 e (by simp)
    have old : ∀ b o, hp.get? b = some o → G'.get? b = some o := fun b o q => (gk b (Nat.ne_of_lt (Nat.lt_of_lt_of_le (Heap.lt_size q) M.new))).trans (M.keep b o q)
    have ob : ObjOk X.prog X.w (upd H1 d (.xd [(("top" : Str), v)])) G' d (.xd [(("top" : Str), v)]) :=
      ⟨_, hns.at (fun o q => (gk d M.dne).trans q), fun f => relO_noB rv f⟩
    have J : Inv X pins σ (upd H1 d (.xd [(("top" : Str), v)])) ⟨G', g, dr, tk', os⟩ := I1.laid (t' := tk') old M.dbig ob
    refine ⟨e, oe, fv, ⟨G', g, dr, tk', os⟩, _, .ref C, some d, rfl, J, fun b o q => ?_, ge, hoe, ⟨hc, hd⟩, hdat, h1, ?_, rfl, I1.bare, raises_own T.exC T.tyC, q1 d (I1.hok.fresh M.dbig)⟩
    · by_cases hb : b = e
      · have q' : G'.get? b = some o := q
        rw [hb, ge] at q'; cases q'
      · exact (gk b hb).symm.trans q
    · rw [upd_ne (Ne.symm M.dne)]
      exact I1.hok.fresh M.new
/-- raise Low(e) -/
def tRaiseNoB (C : Addr) (W : WX) (ta : TA) : TS := fun _ σ H => tMkNoB C ta σ H fun cls d H' => W cls d σ H'
theorem ps_raiseNoB {a : Expr} {ta : TA} {W : WX} {p pos pos2 : Pos} {k : Nat} (hc : X.calm = true) (T : PySem.NoBX.NoBTxt X.K X.mg C fI) (hr : Room k X.A) (tk : Takes X W) (ha : PA X [a] ta) (hg : Gl X "NoBottom" := by rfl)
    (he : starEach (a :: []) X.env = (false, eval a X.env) :: starEach [] X.env := by rfl) (hpl : (backTo pos (starEach [] X.env)).any (·.1) = false := by rfl) :
    PS X (.Raise (some (.Call (.Name "NoBottom" p) [a] [] pos)) none pos2) (tRaiseNoB C W ta) := ps_raise hc tk (pmk_noB T hr ha hg he hpl)
/-- low.by, low the exception that the suite holds (at a; its class cls, its dict d) -/
def tTopNoB (C : Addr) (a : Addr) (cls : Value) (d : Option Addr) (te : TE) : TE := fun σ H Q => te σ H fun x H1 => x = .ref a ∧ cls = .ref C ∧ ∃ (dd : Addr) (v : V), d = some dd ∧ H1 dd = some (.xd [(("top" : Str), v)]) ∧ Q v H1
theorem pe_topNoB {a : Addr} {oe : Obj} {cls : Value} {d : Option Addr} {pn : List (Addr × Obj)} {e : Expr} {te : TE} {pos : Pos} (T : PySem.NoBX.NoBTxt X.K X.mg C fI) (hz : Zc cls d oe) (hf : ∃ vs, oe.data = .fields vs) (he : PE (X.suite a ((a, oe) :: pn)) e te)
    (hb : attributeBase e "top" X.env (eval e X.env) = eval e X.env := by rfl) :
    PE (X.suite a ((a, oe) :: pn)) (.Attribute e "top" pos) (tTopNoB C a cls d te) := by
  refine ⟨fun pins s σ H Q I h => ?_⟩
  refine attr_of hb (thn (he.run pins s σ H _ I h) fun u s1 hh => ?_)
  obtain ⟨x, H1, I1, rx, ex, ec, dd, v, ed, ea, q⟩ := hh
  subst ex
  obtain rfl : u = Value.ref a := rx
  subst ec
  subst ed
  obtain ⟨ha, _⟩ := I1.pin (a, oe) (List.mem_append_left _ List.mem_cons_self)
  obtain ⟨vs, hd⟩ := hf
  have hx : ObjOk X.prog X.w H1 s1.heap dd (.xd [(("top" : Str), v)]) := I1.hok dd _ ea
  obtain ⟨mA, hns, hr⟩ := hx
  obtain ⟨od, ho, hl⟩ := lookIn_ns hns
  have l : List.lookup ("top" : Str) [(("top" : Str), v)] = some v := by simp [List.lookup]
  obtain ⟨u, hu, ru⟩ := RelO.some_of (v := v) (o := mA "top") (by rw [← l]; exact hr "top")
  have J : PySem.W.InstAt s1.heap a oe C (some od) := ⟨ha, hz.1, by unfold PySem.W.notCls; rw [hd] <;> rfl, by rw [hz.2]; exact ho⟩
  exact HandSPX.exc_get I1.kIn J T.ga T.gg T.exC (PySem.W.findObj_own T.hdC T.noN rfl (by rw [hl, hu])) (handed_of ru) ⟨v, H1, I1.tok _, ru, q⟩
end
end L2

namespace PySem
namespace NoBX
open PySem.Spec PySem.W PySem.Calls PyProof.Rows
/-! ### isinstance of a caught error that has a dict of its own -/
section
variable {P : Program} {w : World} {A : Around} {E : Value → Shared → Prop} {sh : Shared} {K : Frag} {e D : Addr} {oe : Obj} {od : Option Obj}
theorem found_first {name : Str} {at' gt : Value} (c : (clsIn K D).isSome = true) (f : findIn K (.ref D) name = some (some at')) (g : specialIn K at' "__get__" = some (some gt)) (t : takesIn K at' = some true) : findObj K D od name = some (.bind gt at') := by
  obtain ⟨cd, h⟩ := Option.isSome_iff_exists.mp c
  unfold findObj
  rw [h, Option.bind_some, f, Option.bind_some]
  simp [g, t]
theorem class_told {Q : Option Value → Shared → Prop} (C : L2.ExcC K D) (kin : K.In sh.heap) (I : InstAt sh.heap e oe D od) (q : Q (some (.ref D)) { sh with toks := sh.toks + 1 }) : wpAny (model P w) A (getAttr? (.ref e) "__class__") Q E sh := by
  have ff : findObj K D od "__class__" = some (.bind (.builtin "getset_descriptor.__get__") (.builtin "object.__class__")) := found_first (by obtain ⟨cd, h, _⟩ := any_some C.hd; rw [h]; rfl) C.ha C.hn C.ht
  obtain ⟨hh, gg, dn, tt, oo⟩ := sh
  have tyE := I.type (M := model P w)
  have askG := looks_findIn (M := model P w) kin C.hg
  have askK := looks_findIn (M := model P w) kin C.hk
  have askF := looks_find (M := model P w) kin I ff
  have under : Looks (model P w) hh (isInstance (.ref e) (.type "BaseException")) true := tyE.andThen (looks_subIn kin C.hs)
  have b0 : (false && onTheHeap (Value.builtin "BaseException.__getattribute__")) = false := rfl
  have b2 : (Value.builtin "BaseException.__getattribute__" == Value.builtin "object.__getattribute__") = false := by decide +kernel
  have b1 : (onTheHeap (Value.ref D) && Value.builtin "BaseException.__getattribute__" == Value.builtin "object.__getattribute__") = false := by rw [b2]; rfl
  unfold getAttr? getAttrBy? getAttrBy
  refine wpAny_bind (wpAny_mkText (wpAny_bind (wpAny_attempt (wpAny_holding (wpAny_bind (tyE.at (wpAny_bind (askG.at ?_))))))))
  show wpAny _ _ (if (onTheHeap (Value.ref D) && Value.builtin "BaseException.__getattribute__" == Value.builtin "object.__getattribute__") = true then _ else _) _ _ _
  rw [b1, if_neg Bool.false_ne_true]
  unfold getAttrByItsOwn hookBefore
  refine wpAny_bind ?_
  rw [if_pos (show onTheHeap (Value.ref D) = true from rfl)]
  refine askK.at ?_
  refine wpAny_bind (wpAny_attempt (wpAny_holding ?_))
  unfold callGetattribute
  rw [b0, if_neg Bool.false_ne_true]
  unfold boundAndCalled
  rw [PySem.F.excAttr_ValueError.ga.bind (.ref e)]
  refine wpAny_bind (wpAny_pure ?_)
  show wpAny _ _ (call (.builtin "BaseException.__getattribute__") [.ref e, .str "__class__" tt]) _ _ _
  refine wpAny_call (codeAny_call_builtin PySem.F.excAttr_ValueError.ga.plain PySem.F.entry_bexc_ga ?_)
  refine @check_slot (model P w) _ _ ⟨hh, gg, dn, tt + 1, oo⟩ "BaseException.__getattribute__" "BaseException" "__getattribute__" (.ref e) [.str "__class__" tt] [] _ (by decide +kernel) (by decide +kernel) under (PySem.F.args_bexc_ga (.ref e) (.str "__class__" tt)) ?_
  unfold Builtin.«object.__getattribute__»
  refine wpAny_bind (wpAny_of_eq (a := ((Value.ref e : Value), [Value.str "__class__" tt])) (by first | rfl | (simp only [slotArgs]; rfl)) ?_)
  refine wpAny_bind (wpAny_pure (wpAny_bind (tyE.at (wpAny_bind (askF.at ?_)))))
  show wpAny _ _ (holding [Value.builtin "object.__class__"] (call (.builtin "getset_descriptor.__get__") [.builtin "object.__class__", .ref e, .ref D]) >>= ret) _ _ _
  refine wpAny_bind (wpAny_holding (wpAny_call (class_get (s := ⟨hh, gg, dn, tt + 1, oo⟩) (ox := oe) (od := od) kin I C.hm ?_)))
  refine wpAny_pure ?_
  show wpAny _ _ (handedOut (.ref D)) _ _ _
  rw [handedOut_of (v := .ref D) rfl]
  first
    | exact wpAny_pure (wpAny_pure q)
    | exact wpAny_pure q
    | exact wpAny_pure (wpAny_bind (wpAny_pure (wpAny_pure q)))
theorem kit_err (C : L2.ExcC K D) : KitX K (.ref e) (.ref D) (fun h => ∃ o, InstAt h e oe D (some o)) where
  ty := fun _ _ _ ⟨_, I⟩ => I.type
  it := fun _ _ kin _ => by
    obtain ⟨cd, h, _⟩ := any_some C.hd
    unfold clsIn at h
    split at h
    · rename_i ho
      intro A' Q' E' s' k q
      unfold isType loadHead
      exact wpAny_bind (wpAny_loadPart (k _ _ (kin _ _ ho)) (wpAny_pure q))
    · cases h
  ne := fun h tp dd its n sl kin htp => by
    obtain ⟨cd, hc, _⟩ := any_some C.hd
    refine Bool.eq_false_iff.mpr fun q => ?_
    have z : D = tp := Value.ref.inj (beq_iff_eq.mp q)
    subst z
    unfold clsIn at hc
    split at hc
    · rename_i ho
      have z := (kin _ _ ho).symm.trans htp
      cases z
    · cases hc
  ca := fun kin ⟨_, I⟩ k => class_told C kin I k
end
end NoBX
end PySem
namespace L2
open PySem PySem.Spec PyProof.Rows
/-- isinstance(e, c), isinstance(e, (c1, ..)): e the error that the suite holds, of the class D -/
def rIsErr (K : PySem.W.Frag) (D a : Addr) (cls : Value) (d : Option Addr) : List V → Hp → VK → Prop := fun xs H Q => cls = .ref D ∧ ∃ (dd : Addr) (l : List (Str × V)), d = some dd ∧ H dd = some (.xd l) ∧
  ((∃ (c : V) (cv : Value) (b : Bool), xs = [.ref a, c] ∧ ClsV c cv ∧ PySem.W.kitOne K (.ref D) cv = some b ∧ Q (.bl b) H) ∨
    ∃ (tp : Addr) (cs : List V) (us : List Value) (b : Bool), xs = [.ref a, .ref tp] ∧ H tp = some (.tup cs) ∧ Paired ClsV cs us ∧ PySem.W.kitAny K (.ref D) us = some b ∧ Q (.bl b) H)
theorem call_isErr {X : Cx} {a D : Addr} {cls : Value} {d : Option Addr} {oe : Obj} {pn : List (Addr × Obj)} (C : ExcC X.K D) (hz : Zc cls d oe) (hf : ∃ vs, oe.data = .fields vs) : CallR (X.suite a ((a, oe) :: pn)) (.builtin "isinstance") (rIsErr X.K D a cls d) := by
  rintro pins s σ H xs us Q I r ⟨rfl, dd, l, rfl, hd, h⟩
  obtain ⟨at', _⟩ := I.pin (a, oe) (List.mem_append.mpr (.inl List.mem_cons_self))
  obtain ⟨vs, hv⟩ := hf
  have hx : ObjOk X.prog X.w H s.heap dd (.xd l) := I.hok dd _ hd
  obtain ⟨mA, hns, _⟩ := hx
  obtain ⟨od, ho, _⟩ := lookIn_ns hns
  have J : PySem.W.InstAt s.heap a oe D (some od) := ⟨at', hz.1, by unfold PySem.W.notCls; rw [hv] <;> rfl, by rw [hz.2]; exact ho⟩
  rcases h with ⟨c, cv, b, rfl, kc, e, q⟩ | ⟨tp, cs, ws, b, rfl, hT, kc, e, q⟩
  · obtain ⟨u1, u2, rfl, r1, r2⟩ := vals2 r
    cases (show u1 = Value.ref a from r1)
    have ec := kc.eq r2
    subst ec
    exact PySem.W.kia_one (NoBX.kit_err C) I.kIn ⟨_, J⟩ e (fun z => nomatch z) fun tk => ⟨.bl b, H, I.tok tk, rfl, q⟩
  · obtain ⟨u1, u2, rfl, r1, r2⟩ := vals2 r
    cases (show u1 = Value.ref a from r1)
    cases (show u2 = Value.ref tp from r2)
    obtain ⟨_, its, rv, o, h1, h2, n, h3⟩ := (show ObjOk X.prog X.w H s.heap tp (.tup cs) from I.hok tp _ hT)
    have e3 := ClsV.all kc rv
    subst e3
    obtain ⟨oc, odd, dt, sl⟩ := o
    simp only at h2 h3
    subst h2 h3
    exact PySem.W.kia_tup (NoBX.kit_err C) I.kIn ⟨_, J⟩ h1 e (fun z => nomatch z) fun tk => ⟨.bl b, H, I.tok tk, rfl, q⟩
end L2

namespace L2
open PySem PySem.Spec PyProof.Rows
/-! ### calls that may let an error out, within a try: C(e, ..), o.m(e, ..) -/
section
variable {X : Cx} {CX : CXT} {k : Nat} {f C : Addr} {fd : FuncData} {ps : List Str} {sp : Sp} {E : St → XK} {x m : Str} {p pos apos : Pos} {e o : Expr} {es : List Expr} {ta : TE} {t : TA}
def tMakeE (C : Addr) (sp : Sp) (E : St → XK) (t : TA) : TE := fun σ H Q => t σ H fun vs H1 =>
  ∀ q dq, H1 q = none → H1 dq = none → dq ≠ q → sp (.ref q :: vs) (upd (upd H1 dq (.own q)) q (.ins C dq [])) (fun v H2 => v = .non ∧ Q (.ref q) H2) (E σ)
theorem run_makeE {pins : List (Addr × Obj)} {σ : St} {H : Hp} {s : Shared} {Q : VK} {us : List Value} {vs : List V} (M : Mk X.K C f) (F : FnOk X.prog X.w X.K X.mg X.base CX k f fd ps sp) (hr : Room (k + 1) X.A) (hb : Binds X.K fd ps [])
    (hx : PassesAt CX X σ (E σ)) (I : Inv X pins σ H s) (r : Vals vs us) (h : ∀ q dq, H q = none → H dq = none → dq ≠ q → sp (.ref q :: vs) (upd (upd H dq (.own q)) q (.ins C dq [])) (fun v H2 => v = .non ∧ Q (.ref q) H2) (E σ)) :
    wpAny (model X.prog X.w) X.A (call (.ref C) us) (EP X pins σ Q) X.xe s := by
  have now := h (s.heap.objs.size + 1) s.heap.objs.size (I.hok.fresh (Nat.le_succ _)) (I.hok.fresh (Nat.le_refl _)) (Nat.ne_of_lt (Nat.lt_succ_self _))
  have J := Inv.made (C := C) I
  have rr : Vals (V.ref (s.heap.objs.size + 1) :: vs) (Value.ref (s.heap.objs.size + 1) :: us) := .cons rfl r
  have ln : (Value.ref (s.heap.objs.size + 1) :: us).length = ps.length := by rw [← rr.length]; exact F.len _ _ _ _ now
  have bd := hb { s with heap := _ } (Value.ref (s.heap.objs.size + 1) :: us) J.kIn (by rw [List.append_nil]; exact ln)
  rw [List.append_nil] at bd
  refine wpAny_call (make_map (f := f) I.kIn M.makes M.init (beq_iff_eq.mp M.fn) (codeAny_mono (F.run _ X.stack _ _ ⟨Value.ref (s.heap.objs.size + 1) :: us, []⟩ _ _ _ (E σ) (hr.make C us []) (J.env0.make C us []) bd rr now) fun r s' z => ?_))
  match r, z with
  | .error err, z => exact hx pins _ _ err s' J z
  | .ok (.ret u), z =>
    obtain ⟨v, H', J', rv, rfl, q⟩ := J.after z
    exact ⟨rv, ⟨V.ref (s.heap.objs.size + 1), H', J', rfl, q⟩⟩
theorem pe_makeE (M : Mk X.K C f) (F : FnOk X.prog X.w X.K X.mg X.base CX k f fd ps sp) (hr : Room (k + 1) X.A) (hg : Gl X x) (hm : X.mg x = some (.ref C)) (hb : Binds X.K fd ps []) (hx : ∀ σ, PassesAt CX X σ (E σ)) (ha : PA X (e :: es) t)
    (hdb : (x == ("__debug__" : Str)) = false := by decide) (he : starEach (e :: es) X.env = (false, eval e X.env) :: starEach es X.env := by rfl) (hpl : (backTo pos (starEach es X.env)).any (·.1) = false := by rfl) :
    PE X (.Call (.Name x p) (e :: es) [] pos) (tMakeE C sp E t) := by
  refine ⟨fun pins s σ H Q I h => wpAny_Call_Name_kw (ld_glob I hg hm ?_ hdb)⟩
  exact PySem.W.callWith_K (h₀ := X.base) I.ok.mod.kin M.kp (thn (ha.run pos pins s σ H _ I h) fun us s1 ⟨vs, H1, J, r, q⟩ => ⟨J.kIn, run_makeE M F hr hb (hx σ) J r q⟩) he hpl
def tMethE (C : Addr) (m : Str) (sp : Sp) (E : St → XK) (ta : TE) (t : TA) : TE := fun σ H Q => ta σ H fun v H1 => ∃ a dq fs, v = .ref a ∧ H1 a = some (.ins C dq fs) ∧ fs.lookup m = none ∧ t σ H1 fun vs H2 => sp (.ref a :: vs) H2 Q (E σ)
theorem pe_methE {pl : Sem Bool} (he : PE X o ta) (c : Cls X.K C) (hm : Meth X.K C m f) (F : FnOk X.prog X.w X.K X.mg X.base CX k f fd ps sp) (hr : Room k X.A) (hb : Binds X.K fd ps []) (hx : ∀ σ, PassesAt CX X σ (E σ)) (ha : PA X (e :: es) t)
    (hst : starEach (e :: es) X.env = (false, eval e X.env) :: starEach es X.env := by rfl) (hpl : (backTo pos (starEach es X.env)).any (·.1) = false := by rfl)
    (ht : eval (.Call (.Attribute o m apos) (e :: es) [] pos) X.env = (do
      let ov ← eval o X.env
      standAt apos.atName
      let (f, first) ← holding [ov] (getMethod ov m pl)
      callWith pos f first (backTo pos (starEach (e :: es) X.env)) (backToKw pos (keywordEach [] X.env))) := by rfl) :
    PE X (.Call (.Attribute o m apos) (e :: es) [] pos) (tMethE C m sp E ta t) := by
  refine ⟨fun pins s σ H Q I h => PySem.W.methodCall_KW (pl := pl) (thn (he.run pins s σ H _ I h) fun u s1 ⟨v, H1, J, rv, a, dq, fs, ev, at', no, q⟩ => ?_) ht⟩
  subst ev
  obtain rfl : u = Value.ref a := rv
  refine getmeth_ok J at' c hm no (PySem.W.callWith_K (first := [.ref a]) (h₀ := X.base) I.ok.mod.kin hm.kp (thn (ha.run pos pins s1 σ H1 _ J q) fun us s2 ⟨vs, H2, J2, r, q2⟩ => ⟨J2.kIn, ?_⟩) hst hpl)
  exact run_fnS (us := .ref a :: us) (vs := .ref a :: vs) F hr hb (hx σ) J2 (.cons rfl r) q2
end
end L2

namespace My
open PySem L2
theorem exm_self {K : PySem.W.Frag} {S : Addr} (h1 : PySem.W.subIn K (.ref S) (.type "BaseException") = some true) (h2 : PySem.W.isClsIn K S = true) (h3 : PySem.W.typeIn K (.ref S) = some (.type "type")) (h4 : PySem.W.subIn K (.ref S) (.ref S) = some true) :
    PySem.W.exmOne K (.ref S) (.ref S) = some true := by
  have e1 : (PySem.W.subIn K (.ref S) (.type "BaseException") == some true) = true := by rw [h1] <;> rfl
  have e2 : ((PySem.W.clsIn K S).isSome && PySem.W.typeIn K (.ref S) == some (.type "type")) = true := by
    have h2' : (PySem.W.clsIn K S).isSome = true := h2
    rw [h2', h3] <;> rfl
  show (if (PySem.W.subIn K (.ref S) (.type "BaseException") == some true) = true then (if ((PySem.W.clsIn K S).isSome && PySem.W.typeIn K (.ref S) == some (.type "type")) = true then PySem.W.subIn K (.ref S) (.ref S) else none) else none) = some true
  rw [if_pos e1, if_pos e2]
  exact h4
/-- isinstance of an error of the class C, asked of a builtin class -/
theorem kit_type {K : PySem.W.Frag} {C : Addr} {T : String} {b : Bool} (h : PySem.W.subIn K (.ref C) (.type T) = some b) (m : PySem.W.kitMeta T = true) : PySem.W.kitOne K (.ref C) (.type T) = some b := by
  have ne : ((.ref C : Value) == .type T) = false := by simp
  unfold PySem.W.kitOne
  rw [ne, if_neg Bool.false_ne_true]
  show (if PySem.W.kitMeta T = true then _ else _) = _
  rw [if_pos m]
  exact h
/-- asked of an own class that is not above it -/
theorem kit_other {K : PySem.W.Frag} {C D : Addr} (self : PySem.W.subIn K (.ref C) (.ref C) = some true) (h : PySem.W.subIn K (.ref C) (.ref D) = some false) (i : PySem.W.isClsIn K D = true) (t : PySem.W.typeIn K (.ref D) = some (.type "type")) : PySem.W.kitOne K (.ref C) (.ref D) = some false := by
  have cd : C ≠ D := fun z => by
    rw [z] at self h
    rw [self] at h
    cases h
  have ne : ((.ref C : Value) == .ref D) = false := by simp [cd]
  have i' : (PySem.W.clsIn K D).isSome = true := i
  have e2 : ((PySem.W.clsIn K D).isSome && PySem.W.typeIn K (.ref D) == some (.type "type")) = true := by rw [i', t] <;> rfl
  unfold PySem.W.kitOne
  rw [ne, if_neg Bool.false_ne_true]
  show (if ((PySem.W.clsIn K D).isSome && PySem.W.typeIn K (.ref D) == some (.type "type")) = true then _ else _) = _
  rw [if_pos e2]
  exact h
end My

namespace My
open PySem L2
def top (i : Nat) : Stmt := PySem.Challenge.pw_figuretexts_k02_numbers_reckoned.main.body.getD i (.Pass ⟨0, 0, 0, 0⟩)
abbrev s_Number_init : Stmt := inClass (top 7) 0
theorem sc_Number_init : FnScope ["self", "top", "bottom", "common"] ["self", "top", "bottom"] (defScope s_Number_init) := ⟨rfl, rfl, rfl, by decide +kernel, rfl, by decide +kernel, by decide +kernel⟩
abbrev s_Number_more : Stmt := inClass (top 7) 4
theorem sc_Number_more : FnScope ["self", "other"] ["self", "other"] (defScope s_Number_more) := ⟨rfl, rfl, rfl, by decide +kernel, rfl, by decide +kernel, by decide +kernel⟩
abbrev s_Number_less : Stmt := inClass (top 7) 5
theorem sc_Number_less : FnScope ["self", "other"] ["self", "other"] (defScope s_Number_less) := ⟨rfl, rfl, rfl, by decide +kernel, rfl, by decide +kernel, by decide +kernel⟩
abbrev s_Number_times : Stmt := inClass (top 7) 6
theorem sc_Number_times : FnScope ["self", "other"] ["self", "other"] (defScope s_Number_times) := ⟨rfl, rfl, rfl, by decide +kernel, rfl, by decide +kernel, by decide +kernel⟩
abbrev s_Number_over : Stmt := inClass (top 7) 7
theorem sc_Number_over : FnScope ["self", "other"] ["self", "other"] (defScope s_Number_over) := ⟨rfl, rfl, rfl, by decide +kernel, rfl, by decide +kernel, by decide +kernel⟩
abbrev s_Number_below : Stmt := inClass (top 7) 8
theorem sc_Number_below : FnScope ["self", "other"] ["self", "other"] (defScope s_Number_below) := ⟨rfl, rfl, rfl, by decide +kernel, rfl, by decide +kernel, by decide +kernel⟩
abbrev s_Number_size : Stmt := inClass (top 7) 9
theorem sc_Number_size : FnScope ["self"] ["self"] (defScope s_Number_size) := ⟨rfl, rfl, rfl, by decide +kernel, rfl, by decide +kernel, by decide +kernel⟩
abbrev s_Number_floor : Stmt := inClass (top 7) 10
theorem sc_Number_floor : FnScope ["self"] ["self"] (defScope s_Number_floor) := ⟨rfl, rfl, rfl, by decide +kernel, rfl, by decide +kernel, by decide +kernel⟩
abbrev s_l_well : Stmt := top 9
theorem sc_l_well : FnScope ["_law_script", "_law_k", "_law_cell"] ["_law_script", "_law_k"] (defScope s_l_well) := ⟨rfl, rfl, rfl, by decide +kernel, rfl, by decide +kernel, by decide +kernel⟩
abbrev s_l_take : Stmt := top 10
theorem sc_l_take : FnScope ["_law_well_here", "_law_top", "_law_digit", "_law_number"] ["_law_well_here", "_law_top"] (defScope s_l_take) := ⟨rfl, rfl, rfl, by decide +kernel, rfl, by decide +kernel, by decide +kernel⟩
abbrev s_l_ten : Stmt := top 11
theorem sc_l_ten : FnScope ["_law_power", "_law_found", "_law_k"] ["_law_power"] (defScope s_l_ten) := ⟨rfl, rfl, rfl, by decide +kernel, rfl, by decide +kernel, by decide +kernel⟩
abbrev s_l_pair : Stmt := top 12
theorem sc_l_pair : FnScope ["_law_well_here", "_law_way", "_law_by", "_law_power", "_law_top", "_law_bottom", "_law_turn", "_law_signs"] ["_law_well_here"] (defScope s_l_pair) := ⟨rfl, rfl, rfl, by decide +kernel, rfl, by decide +kernel, by decide +kernel⟩
abbrev s_l_lowest : Stmt := top 13
theorem sc_l_lowest : FnScope ["_law_top", "_law_bottom", "_law_one", "_law_other"] ["_law_top", "_law_bottom"] (defScope s_l_lowest) := ⟨rfl, rfl, rfl, by decide +kernel, rfl, by decide +kernel, by decide +kernel⟩
abbrev s_l_is : Stmt := top 14
theorem sc_l_is : FnScope ["_law_found", "_law_top", "_law_bottom"] ["_law_found", "_law_top", "_law_bottom"] (defScope s_l_is) := ⟨rfl, rfl, rfl, by decide +kernel, rfl, by decide +kernel, by decide +kernel⟩
abbrev s_l_of_nought : Stmt := top 15
theorem sc_l_of_nought : FnScope ["_law_number", "_law_top", "_law_found", "_law_way", "e", "_law_others"] ["_law_number", "_law_top"] (defScope s_l_of_nought) := ⟨rfl, rfl, rfl, by decide +kernel, rfl, by decide +kernel, by decide +kernel⟩
abbrev s_l_two_right : Stmt := top 16
theorem sc_l_two_right : FnScope ["_law_one", "_law_other", "_law_a", "_law_b", "_law_c", "_law_d", "_law_here", "_law_there", "_law_sign", "_law_found", "_law_due"] ["_law_one", "_law_other"] (defScope s_l_two_right) := ⟨rfl, rfl, rfl, by decide +kernel, rfl, by decide +kernel, by decide +kernel⟩
abbrev s_law : Stmt := top 17
theorem sc_law : FnScope ["_law_script", "_law_k", "_law_well_here", "_law_alike", "_law_one", "_law_other", "_law_here", "_law_there", "_law_top"] ["_law_script"] (defScope s_law) := ⟨rfl, rfl, rfl, by decide +kernel, rfl, by decide +kernel, by decide +kernel⟩
structure Txt (w : World) (K : PySem.W.Frag) (mg : Str → Option Value) where
  C_Number : Addr
  m_Number : mg "Number" = some (.ref C_Number)
  c_Number : Cls K C_Number
  n_Number_top : NoAttr K C_Number "top"
  n_Number_bottom : NoAttr K C_Number "bottom"
  ty_Number_c : PySem.W.findIn K (.ref C_Number) "__class__" = some (some (.builtin "object.__class__"))
  ty_Number_g : PySem.W.specialIn K (.builtin "object.__class__") "__get__" = some (some (.builtin "getset_descriptor.__get__"))
  ty_Number_t : PySem.W.takesIn K (.builtin "object.__class__") = some true
  ty_Number_m : PySem.W.mroIn K C_Number (.type "object") = some true
  ty_Number_k : PySem.W.kitOne K (.ref C_Number) (.ref C_Number) = some true
  ne_Number : PySem.W.findIn K (.ref C_Number) "__ne__" = some (some (.builtin "object.__ne__"))
  f_Number_init : Addr
  fd_Number_init : FuncData
  F_Number_init : FunD K "__init__" "Number.__init__" (defArgs s_Number_init) (defBody s_Number_init) (defScope s_Number_init) [V.int 1] [] f_Number_init fd_Number_init
  mk_Number : Mk K C_Number f_Number_init
  b_Number_init2 : Binds K fd_Number_init ["self", "top", "bottom"] []
  ds_Number_init1 : List Value
  d_Number_init1 : Vals [V.int 1] ds_Number_init1
  b_Number_init1 : Binds K fd_Number_init ["self", "top", "bottom"] ds_Number_init1
  f_Number_more : Addr
  fd_Number_more : FuncData
  F_Number_more : Fun K "more" "Number.more" s_Number_more f_Number_more fd_Number_more
  me_Number_more : Meth K C_Number "more" f_Number_more
  b_Number_more : Binds K fd_Number_more ["self", "other"] []
  f_Number_less : Addr
  fd_Number_less : FuncData
  F_Number_less : Fun K "less" "Number.less" s_Number_less f_Number_less fd_Number_less
  me_Number_less : Meth K C_Number "less" f_Number_less
  b_Number_less : Binds K fd_Number_less ["self", "other"] []
  f_Number_times : Addr
  fd_Number_times : FuncData
  F_Number_times : Fun K "times" "Number.times" s_Number_times f_Number_times fd_Number_times
  me_Number_times : Meth K C_Number "times" f_Number_times
  b_Number_times : Binds K fd_Number_times ["self", "other"] []
  f_Number_over : Addr
  fd_Number_over : FuncData
  F_Number_over : Fun K "over" "Number.over" s_Number_over f_Number_over fd_Number_over
  me_Number_over : Meth K C_Number "over" f_Number_over
  b_Number_over : Binds K fd_Number_over ["self", "other"] []
  f_Number_below : Addr
  fd_Number_below : FuncData
  F_Number_below : Fun K "below" "Number.below" s_Number_below f_Number_below fd_Number_below
  me_Number_below : Meth K C_Number "below" f_Number_below
  b_Number_below : Binds K fd_Number_below ["self", "other"] []
  f_Number_size : Addr
  fd_Number_size : FuncData
  F_Number_size : Fun K "size" "Number.size" s_Number_size f_Number_size fd_Number_size
  me_Number_size : Meth K C_Number "size" f_Number_size
  b_Number_size : Binds K fd_Number_size ["self"] []
  f_Number_floor : Addr
  fd_Number_floor : FuncData
  F_Number_floor : Fun K "floor" "Number.floor" s_Number_floor f_Number_floor fd_Number_floor
  me_Number_floor : Meth K C_Number "floor" f_Number_floor
  b_Number_floor : Binds K fd_Number_floor ["self"] []
  f_l_well : Addr
  fd_l_well : FuncData
  F_l_well : Fun K "_law_well" "_law_well" s_l_well f_l_well fd_l_well
  m_l_well : mg "_law_well" = some (.ref f_l_well)
  b_l_well : Binds K fd_l_well ["_law_script", "_law_k"] []
  f_l_take : Addr
  fd_l_take : FuncData
  F_l_take : Fun K "_law_take" "_law_take" s_l_take f_l_take fd_l_take
  m_l_take : mg "_law_take" = some (.ref f_l_take)
  b_l_take : Binds K fd_l_take ["_law_well_here", "_law_top"] []
  f_l_ten : Addr
  fd_l_ten : FuncData
  F_l_ten : Fun K "_law_ten" "_law_ten" s_l_ten f_l_ten fd_l_ten
  m_l_ten : mg "_law_ten" = some (.ref f_l_ten)
  b_l_ten : Binds K fd_l_ten ["_law_power"] []
  f_l_pair : Addr
  fd_l_pair : FuncData
  F_l_pair : Fun K "_law_pair" "_law_pair" s_l_pair f_l_pair fd_l_pair
  m_l_pair : mg "_law_pair" = some (.ref f_l_pair)
  b_l_pair : Binds K fd_l_pair ["_law_well_here"] []
  f_l_lowest : Addr
  fd_l_lowest : FuncData
  F_l_lowest : Fun K "_law_lowest" "_law_lowest" s_l_lowest f_l_lowest fd_l_lowest
  m_l_lowest : mg "_law_lowest" = some (.ref f_l_lowest)
  b_l_lowest : Binds K fd_l_lowest ["_law_top", "_law_bottom"] []
  f_l_is : Addr
  fd_l_is : FuncData
  F_l_is : Fun K "_law_is" "_law_is" s_l_is f_l_is fd_l_is
  m_l_is : mg "_law_is" = some (.ref f_l_is)
  b_l_is : Binds K fd_l_is ["_law_found", "_law_top", "_law_bottom"] []
  f_l_of_nought : Addr
  fd_l_of_nought : FuncData
  F_l_of_nought : Fun K "_law_of_nought" "_law_of_nought" s_l_of_nought f_l_of_nought fd_l_of_nought
  m_l_of_nought : mg "_law_of_nought" = some (.ref f_l_of_nought)
  b_l_of_nought : Binds K fd_l_of_nought ["_law_number", "_law_top"] []
  f_l_two_right : Addr
  fd_l_two_right : FuncData
  F_l_two_right : Fun K "_law_two_right" "_law_two_right" s_l_two_right f_l_two_right fd_l_two_right
  m_l_two_right : mg "_law_two_right" = some (.ref f_l_two_right)
  b_l_two_right : Binds K fd_l_two_right ["_law_one", "_law_other"] []
  f_law : Addr
  fd_law : FuncData
  F_law : Fun K "law" "law" s_law f_law fd_law
  m_law : mg "law" = some (.ref f_law)
  b_law : Binds K fd_law ["_law_script"] []
  C_NoBottom : Addr
  f_NoB : Addr
  noB : PySem.NoBX.NoBTxt K mg C_NoBottom f_NoB
  exB : ExcC K C_NoBottom
  n_ValueError : mg "ValueError" = none
  n_ArithmeticError : mg "ArithmeticError" = none
  kt_VE : PySem.W.kitOne K (.ref C_NoBottom) (.type "ValueError") = some false
  kt_AE : PySem.W.kitOne K (.ref C_NoBottom) (.type "ArithmeticError") = some true
  C_FigureError : Addr
  m_FigureError : mg "FigureError" = some (.ref C_FigureError)
  kt_FigureError : PySem.W.kitOne K (.ref C_NoBottom) (.ref C_FigureError) = some false
  C_NoText : Addr
  m_NoText : mg "NoText" = some (.ref C_NoText)
  kt_NoText : PySem.W.kitOne K (.ref C_NoBottom) (.ref C_NoText) = some false
  C_Unsorted : Addr
  m_Unsorted : mg "Unsorted" = some (.ref C_Unsorted)
  kt_Unsorted : PySem.W.kitOne K (.ref C_NoBottom) (.ref C_Unsorted) = some false
  m_gcd : mg "gcd" = some (.builtin "math.gcd")
  n_range : mg "range" = none
  n_isinstance : mg "isinstance" = none
  n_str : mg "str" = none
  n_int : mg "int" = none
  n_len : mg "len" = none
  n_abs : mg "abs" = none
  n_max : mg "max" = none
  n_min : mg "min" = none
  n_repr : mg "repr" = none

section
variable {P : Program} {w : World} {K : PySem.W.Frag} {mg : Str → Option Value} {base : Heap}
/-! ### Number -/
def nf (q : Rat) : List (Str × V) := [("top", .int q.num), ("bottom", .int (q.den : Int))]
theorem tb_ : ¬ (("top" : Str) = "bottom") := by decide +kernel
theorem bt_ : ¬ (("bottom" : Str) = "top") := by decide +kernel
theorem nf_put (a b : Int) : putF "bottom" (.int b) (putF "top" (.int a) []) = ([("top", V.int a), ("bottom", V.int b)] : List (Str × V)) := by
  show (if ("top" : Str) = "bottom" then [(("top" : Str), V.int b)] else (("top" : Str), V.int a) :: putF "bottom" (V.int b) []) = ([("top", V.int a), ("bottom", V.int b)] : List (Str × V))
  rw [if_neg tb_]
  all_goals rfl
theorem nf_top (q : Rat) : (nf q).lookup ("top" : Str) = some (.int q.num) := by
  have e : (("top" : Str) == "top") = true := by decide +kernel
  unfold nf
  simp only [List.lookup, e]
theorem nf_bottom (q : Rat) : (nf q).lookup ("bottom" : Str) = some (.int (q.den : Int)) := by
  have e : (("bottom" : Str) == "top") = false := by decide +kernel
  have e' : (("bottom" : Str) == "bottom") = true := by decide +kernel
  unfold nf
  simp only [List.lookup, e, e']
theorem nf_no (q : Rat) {m : Str} (h1 : (m == "top") = false) (h2 : (m == "bottom") = false) : (nf q).lookup m = none := by
  unfold nf
  simp only [List.lookup, h1, h2]
/-- the Number q stands at p -/
def NumAt (C : Addr) (H : Hp) (p : Addr) (q : Rat) : Prop := ∃ dx, H p = some (.ins C dx (nf q))
theorem NumAt.same {C : Addr} {H H' : Hp} {p : Addr} {q : Rat} (s : Same H H') (h : NumAt C H p q) : NumAt C H' p q := let ⟨dx, e⟩ := h; ⟨dx, s _ _ e⟩

def spInit (C : Addr) : Sp := fun vs H Q _ => ∃ (p dx : Addr) (t b : Int), vs = [.ref p, .int t, .int b] ∧ H p = some (.ins C dx []) ∧ b ≠ 0 ∧ b.natAbs < 2 ^ 9000 ∧ Q .non (upd H p (.ins C dx (nf (Rat.divInt t b))))
theorem ok_Number_init (T : Txt w K mg) : FnOk P w K mg base CX0 1 T.f_Number_init T.fd_Number_init ["self", "top", "bottom"] (spInit T.C_Number) := by
  refine T.F_Number_init.ok sc_Number_init (fun vs H Q E h => ?_) (fun cdv A outer s H vs Q E hr h => ?_)
  · obtain ⟨p, dx, t, b, rfl, _⟩ := h
    rfl
  · obtain ⟨p, dx, t, b, rfl, hp, hb, hl, k⟩ := h
    refine ⟨_, (pss_cons (ps_if (pt_cmpR op_eq (pv 2) pe_int (nomark _))
  (pss_one ps_never)
  pss_nil)
 (pss_cons (ps_set (i := 3) sc_Number_init.nd rfl (Or.inl rfl) (pe_callBfun cr_gcd (by rfl) T.m_gcd (pa_cons (pv 1) (pa_cons (pv 2) pa_nil))))
 (pss_cons (ps_if (pt_cmpR op_lt (pv 2) pe_int (nomark _))
  (pss_one (ps_set (i := 3) sc_Number_init.nd rfl (Or.inl rfl) (pe_un un_neg (pv 3))))
  pss_nil)
 (pss_cons (ps_fld (pv 0) (pe_op op_fdivA (pv 1) (pv 3)) rfl)
 (pss_one (ps_fld (pv 0) (pe_op op_fdivA (pv 2) (pv 3)) rfl)))))), ?_⟩
    walk_at "rd"
    refine r_iteF (decide_eq_false hb) ?_
    walk_at "rd"
    refine ⟨_, _, rfl, ?_⟩
    have fin : ∀ c : Int, c = cdiv t b → sFld K (tVar 0) (tOp (rI CDivA fun i j => .int (i.fdiv j)) (tVar 1) (tVar 3)) "top" ⟨sFld K (tVar 0) (tOp (rI CDivA fun i j => .int (i.fdiv j)) (tVar 2) (tVar 3)) "bottom" ⟨fun _ H' => Q .non H', Q, fun _ _ => False, fun _ _ => False⟩, Q, fun _ _ => False, fun _ _ => False⟩ [some (.ref p), some (.int t), some (.int b), some (.int c)] H := by
      rintro c rfl
      have hg := gcd_pos (t := t) hb
      have hc : CDivA t (cdiv t b) ∧ CDivA b (cdiv t b) := by
        have n0 : cdiv t b ≠ 0 := by unfold cdiv; split <;> omega
        have nb : (cdiv t b).natAbs < 2 ^ 9000 := by
          have le : Nat.gcd t.natAbs b.natAbs ≤ b.natAbs := Nat.le_of_dvd (by omega) (Nat.gcd_dvd_right _ _)
          have e : (cdiv t b).natAbs = Nat.gcd t.natAbs b.natAbs := by unfold cdiv; split <;> omega
          rw [e]
          exact Nat.lt_of_le_of_lt le hl
        exact ⟨cdivA n0 nb (by decide) (Nat.le_refl _), cdivA n0 nb (by decide) (Nat.le_refl _)⟩
      walk_at "rd"
      refine r_I hc.1 ?_
      walk_at "rd"
      refine ⟨p, T.C_Number, dx, [], rfl, hp, T.c_Number, T.n_Number_top, (by show 0 < 1000; decide), ?_⟩
      walk_at "rd"
      refine r_I hc.2 ?_
      walk_at "rd"
      refine ⟨p, T.C_Number, dx, _, rfl, upd_same, T.c_Number, T.n_Number_bottom, (by show 1 < 1000; decide), ?_⟩
      show Q .non (upd (upd H p _) p (.ins T.C_Number dx (putF "bottom" _ (putF "top" _ []))))
      rw [upd_upd, nf_put, num_of hb, den_of hb]
      exact k
    walk_at "rd"
    refine r_ite (fun hn => ?_) (fun hn => ?_)
    · iterate 5 walk_at "rd1"
      refine fin _ ?_
      unfold cdiv
      rw [if_pos (of_decide_eq_true hn)]
    · iterate 1 walk_at "rd1"
      refine fin _ ?_
      unfold cdiv
      rw [if_neg (of_decide_eq_false hn)]
end
end My
local macro_rules | `(tactic| walk_at "fld") => `(tactic| refine My.r_fld (by assumption) (by assumption) (by assumption) (by first | exact My.nf_top _ | exact My.nf_bottom _) ?_)
local macro_rules | `(tactic| walk_at "rdf") => `(tactic| (repeat (first | walk_at "rd1" | walk_at "fld")))


namespace My
open PySem L2
section
variable {P : Program} {w : World} {K : PySem.W.Frag} {mg : Str → Option Value} {base : Heap}
/-- a Number made at once -/
theorem mk_num {C : Addr} {H : Hp} {t b : Int} {R : Addr → Hp → Prop} {E : XK} (hb : b ≠ 0) (hl : b.natAbs < 2 ^ 9000) (q : ∀ (p : Addr) (H' : Hp), Same H H' → H p = none → NumAt C H' p (Rat.divInt t b) → R p H') :
    ∀ x dx, H x = none → H dx = none → dx ≠ x → spInit C (.ref x :: ([V.int t, V.int b] ++ [])) (upd (upd H dx (.own x)) x (.ins C dx [])) (fun v H2 => v = .non ∧ R x H2) E := by
  intro x dx nx ndx ne
  refine ⟨x, dx, t, b, rfl, upd_same, hb, hl, rfl, q x _ (fun y o e => ?_) nx ⟨dx, upd_same⟩⟩
  rw [upd_ne (ne_of_none e nx), upd_ne (ne_of_none e nx), upd_ne (ne_of_none e ndx)]
  exact e
theorem mk_num1 {C : Addr} {H : Hp} {t : Int} {R : Addr → Hp → Prop} {E : XK} (q : ∀ (p : Addr) (H' : Hp), Same H H' → H p = none → NumAt C H' p (t : Rat) → R p H') :
    ∀ x dx, H x = none → H dx = none → dx ≠ x → spInit C (.ref x :: ([V.int t] ++ [V.int 1])) (upd (upd H dx (.own x)) x (.ins C dx [])) (fun v H2 => v = .non ∧ R x H2) E :=
  mk_num (by decide) (Nat.lt_of_lt_of_le (by decide : Int.natAbs 1 < 2 ^ 1) (Nat.pow_le_pow_right (by decide) (by decide))) fun p H' s n h => q p H' s n (divInt_one t ▸ h)
/-- two Numbers in, one out -/
def spBin (C : Addr) (f : Rat → Rat → Rat) (ok : Rat → Rat → Prop) : Sp := fun vs H Q _ => ∃ (p q : Addr) (x y : Rat), vs = [.ref p, .ref q] ∧ NumAt C H p x ∧ NumAt C H q y ∧ Bd 4000 x ∧ Bd 4000 y ∧ ok x y ∧
  ∀ (r : Addr) (H' : Hp), Same H H' → H r = none → NumAt C H' r (f x y) → Q (.ref r) H'
theorem bd_den {n : Nat} {x : Rat} (h : Bd n x) : ((x.den : Nat) : Int).natAbs < 2 ^ n := by have := h.2; omega
theorem dd_ne (x y : Rat) : (x.den : Int) * (y.den : Int) ≠ 0 := Int.mul_ne_zero (den_ne x) (den_ne y)
theorem dd_lt {x y : Rat} (hx : Bd 4000 x) (hy : Bd 4000 y) : ((x.den : Int) * (y.den : Int)).natAbs < 2 ^ 9000 := natAbs_mul_lt (bd_den hx) (bd_den hy) (by decide)
theorem cm {i j : Int} (hi : i.natAbs < 2 ^ 4000) (hj : j.natAbs < 2 ^ 4000) : CMulW i j := wide_mul hi hj (by decide) (by decide) (by decide)
end
end My

namespace My
open PySem L2
section
variable {P : Program} {w : World} {K : PySem.W.Frag} {mg : Str → Option Value} {base : Heap}
theorem ok_Number_less (T : Txt w K mg) : FnOk P w K mg base CX0 3 T.f_Number_less T.fd_Number_less ["self", "other"] (spBin T.C_Number (fun x y => x - y) fun _ _ => True) := by
  refine T.F_Number_less.ok sc_Number_less (fun vs H Q E h => ?_) (fun cdv A outer s H vs Q E hr h => ?_)
  · obtain ⟨p, q, x, y, rfl, _⟩ := h
    rfl
  · obtain ⟨p, q, x, y, rfl, ⟨dx, hp⟩, ⟨dy, hq⟩, bx, by', _, k⟩ := h
    have cN := T.c_Number
    have nT := T.n_Number_top
    have nB := T.n_Number_bottom
    refine ⟨_, (pss_one (ps_ret (pe_make T.mk_Number (ok_Number_init T) (hr.mono (by decide)) (by rfl) T.m_Number T.b_Number_init2 .nil pass0 (pa_cons (pe_op op_sub (pe_op op_mulW (pe_fld (pv 0) rfl) (pe_fld (pv 1) rfl)) (pe_op op_mulW (pe_fld (pv 1) rfl) (pe_fld (pv 0) rfl))) (pa_cons (pe_op op_mulW (pe_fld (pv 0) rfl) (pe_fld (pv 1) rfl)) pa_nil))))), ?_⟩
    walk_at "rdf"
    refine r_I (cm bx.1 (bd_den by')) ?_
    walk_at "rdf"
    refine r_I (cm by'.1 (bd_den bx)) ?_
    walk_at "rdf"
    refine r_I (cm (bd_den bx) (bd_den by')) ?_
    walk_at "rdf"
    refine mk_num (dd_ne x y) (dd_lt bx by') fun r H' s n h => ?_
    rw [sub_eq] at h
    exact k r H' s n h
end
end My

namespace My
open PySem L2
section
variable {P : Program} {w : World} {K : PySem.W.Frag} {mg : Str → Option Value} {base : Heap}
theorem ok_Number_times (T : Txt w K mg) : FnOk P w K mg base CX0 3 T.f_Number_times T.fd_Number_times ["self", "other"] (spBin T.C_Number (fun x y => x * y) fun _ _ => True) := by
  refine T.F_Number_times.ok sc_Number_times (fun vs H Q E h => ?_) (fun cdv A outer s H vs Q E hr h => ?_)
  · obtain ⟨p, q, x, y, rfl, _⟩ := h
    rfl
  · obtain ⟨p, q, x, y, rfl, ⟨dx, hp⟩, ⟨dy, hq⟩, bx, by', _, k⟩ := h
    have cN := T.c_Number
    have nT := T.n_Number_top
    have nB := T.n_Number_bottom
    refine ⟨_, (pss_one (ps_ret (pe_make T.mk_Number (ok_Number_init T) (hr.mono (by decide)) (by rfl) T.m_Number T.b_Number_init2 .nil pass0 (pa_cons (pe_op op_mulW (pe_fld (pv 0) rfl) (pe_fld (pv 1) rfl)) (pa_cons (pe_op op_mulW (pe_fld (pv 0) rfl) (pe_fld (pv 1) rfl)) pa_nil))))), ?_⟩
    walk_at "rdf"
    refine r_I (cm bx.1 by'.1) ?_
    walk_at "rdf"
    refine r_I (cm (bd_den bx) (bd_den by')) ?_
    walk_at "rdf"
    refine mk_num (dd_ne x y) (dd_lt bx by') fun r H' s n h => ?_
    rw [mul_eq] at h
    exact k r H' s n h
end
end My

namespace My
open PySem L2
section
variable {P : Program} {w : World} {K : PySem.W.Frag} {mg : Str → Option Value} {base : Heap}
theorem ok_Number_over (T : Txt w K mg) : FnOk P w K mg base CX0 3 T.f_Number_over T.fd_Number_over ["self", "other"] (spBin T.C_Number (fun x y => x / y) fun _ y => y ≠ 0) := by
  refine T.F_Number_over.ok sc_Number_over (fun vs H Q E h => ?_) (fun cdv A outer s H vs Q E hr h => ?_)
  · obtain ⟨p, q, x, y, rfl, _⟩ := h
    rfl
  · obtain ⟨p, q, x, y, rfl, ⟨dx, hp⟩, ⟨dy, hq⟩, bx, by', y0, k⟩ := h
    have cN := T.c_Number
    have nT := T.n_Number_top
    have nB := T.n_Number_bottom
    refine ⟨_, (pss_cons (ps_if (pt_cmpR op_eq (pe_fld (pv 1) rfl) pe_int (nomark _))
  (pss_one ps_never)
  pss_nil)
 (pss_one (ps_ret (pe_make T.mk_Number (ok_Number_init T) (hr.mono (by decide)) (by rfl) T.m_Number T.b_Number_init2 .nil pass0 (pa_cons (pe_op op_mulW (pe_fld (pv 0) rfl) (pe_fld (pv 1) rfl)) (pa_cons (pe_op op_mulW (pe_fld (pv 0) rfl) (pe_fld (pv 1) rfl)) pa_nil)))))), ?_⟩
    walk_at "rdf"
    refine r_iteF (decide_eq_false (num_ne y0)) ?_
    walk_at "rdf"
    refine r_I (cm bx.1 (bd_den by')) ?_
    walk_at "rdf"
    refine r_I (cm (bd_den bx) by'.1) ?_
    walk_at "rdf"
    refine mk_num (Int.mul_ne_zero (den_ne x) (num_ne y0)) (natAbs_mul_lt (bd_den bx) by'.1 (by decide)) fun r H' s n h => ?_
    rw [div_eq] at h
    exact k r H' s n h
end
end My

namespace My
open PySem L2
section
variable {P : Program} {w : World} {K : PySem.W.Frag} {mg : Str → Option Value} {base : Heap}
def spFloor (C : Addr) : Sp := fun vs H Q _ => ∃ (p : Addr) (x : Rat), vs = [.ref p] ∧ NumAt C H p x ∧ Bd 8000 x ∧ Q (.int x.floor) H
theorem ok_Number_floor (T : Txt w K mg) : FnOk P w K mg base CX0 1 T.f_Number_floor T.fd_Number_floor ["self"] (spFloor T.C_Number) := by
  refine T.F_Number_floor.ok sc_Number_floor (fun vs H Q E h => ?_) (fun cdv A outer s H vs Q E hr h => ?_)
  · obtain ⟨p, x, rfl, _⟩ := h
    rfl
  · obtain ⟨p, x, rfl, ⟨dx, hp⟩, bx, k⟩ := h
    have cN := T.c_Number
    have nT := T.n_Number_top
    have nB := T.n_Number_bottom
    refine ⟨_, (pss_one (ps_ret (pe_op op_fdivW (pe_fld (pv 0) rfl) (pe_fld (pv 0) rfl)))), ?_⟩
    walk_at "rdf"
    refine r_I (wide_div (by have := x.den_pos; omega) (bd_den bx) (by decide) (by decide)) ?_
    show Q (.int (x.num / (x.den : Int))) H
    rw [← Rat.floor_def]
    exact k
end
end My

namespace My
open PySem L2
section
variable {P : Program} {w : World} {K : PySem.W.Frag} {mg : Str → Option Value} {base : Heap}
theorem Bd.add {m n : Nat} {x y : Rat} (hx : Bd m x) (hy : Bd n y) : Bd (m + n + 1) (x + y) := by
  rw [← add_eq]
  refine Bd.of (Int.mul_ne_zero (den_ne x) (den_ne y)) ?_ ?_
  · exact natAbs_add_lt (natAbs_mul_lt (m := m) (n := n) hx.1 (by have := hy.2; omega) (Nat.le_refl _)) (natAbs_mul_lt (m := n) (n := m) hy.1 (by have := hx.2; omega) (by omega))
  · exact natAbs_mul_lt (m := m) (n := n) (by have := hx.2; omega) (by have := hy.2; omega) (by omega)
theorem no_more (q : Rat) : (nf q).lookup ("more" : Str) = none := nf_no _ (by decide +kernel) (by decide +kernel)
theorem ok_Number_more (T : Txt w K mg) : FnOk P w K mg base CX0 3 T.f_Number_more T.fd_Number_more ["self", "other"] (spBin T.C_Number (fun x y => x + y) fun _ _ => True) := by
  refine T.F_Number_more.ok sc_Number_more (fun vs H Q E h => ?_) (fun cdv A outer s H vs Q E hr h => ?_)
  · obtain ⟨p, q, x, y, rfl, _⟩ := h
    rfl
  · obtain ⟨p, q, x, y, rfl, ⟨dx, hp⟩, ⟨dy, hq⟩, bx, by', _, k⟩ := h
    have cN := T.c_Number
    have nT := T.n_Number_top
    have nB := T.n_Number_bottom
    refine ⟨_, (pss_one (ps_ret (pe_make T.mk_Number (ok_Number_init T) (hr.mono (by decide)) (by rfl) T.m_Number T.b_Number_init2 .nil pass0 (pa_cons (pe_op op_add (pe_op op_mulW (pe_fld (pv 0) rfl) (pe_fld (pv 1) rfl)) (pe_op op_mulW (pe_fld (pv 1) rfl) (pe_fld (pv 0) rfl))) (pa_cons (pe_op op_mulW (pe_fld (pv 0) rfl) (pe_fld (pv 1) rfl)) pa_nil))))), ?_⟩
    walk_at "rdf"
    refine r_I (cm bx.1 (bd_den by')) ?_
    walk_at "rdf"
    refine r_I (cm by'.1 (bd_den bx)) ?_
    walk_at "rdf"
    refine r_I (cm (bd_den bx) (bd_den by')) ?_
    walk_at "rdf"
    refine mk_num (dd_ne x y) (dd_lt bx by') fun r H' s n h => ?_
    rw [add_eq] at h
    exact k r H' s n h
end
end My

namespace My
open PySem L2
section
variable {P : Program} {w : World} {K : PySem.W.Frag} {mg : Str → Option Value} {base : Heap}
theorem no_size (q : Rat) : (nf q).lookup ("size" : Str) = none := nf_no _ (by decide +kernel) (by decide +kernel)
def spSize (C : Addr) : Sp := fun vs H Q _ => ∃ (p : Addr) (x : Rat), vs = [.ref p] ∧ NumAt C H p x ∧ Bd 8000 x ∧ ∀ (r : Addr) (H' : Hp), Same H H' → H r = none → NumAt C H' r (absQ x) → Q (.ref r) H'
theorem ok_Number_size (T : Txt w K mg) : FnOk P w K mg base CX0 3 T.f_Number_size T.fd_Number_size ["self"] (spSize T.C_Number) := by
  refine T.F_Number_size.ok sc_Number_size (fun vs H Q E h => ?_) (fun cdv A outer s H vs Q E hr h => ?_)
  · obtain ⟨p, x, rfl, _⟩ := h
    rfl
  · obtain ⟨p, x, rfl, ⟨dx, hp⟩, bx, k⟩ := h
    have cN := T.c_Number
    have nT := T.n_Number_top
    have nB := T.n_Number_bottom
    refine ⟨_, (pss_one (ps_ret (pe_make T.mk_Number (ok_Number_init T) (hr.mono (by decide)) (by rfl) T.m_Number T.b_Number_init2 .nil pass0 (pa_cons (pe_callB call_abs (by rfl) T.n_abs (by decide +kernel) (pa_cons (pe_fld (pv 0) rfl) pa_nil)) (pa_cons (pe_fld (pv 0) rfl) pa_nil))))), ?_⟩
    walk_at "rdf"
    refine ⟨_, rfl, ?_⟩
    walk_at "rdf"
    exact mk_num (den_ne x) (Nat.lt_of_lt_of_le (bd_den bx) (Nat.pow_le_pow_right (by decide) (by decide))) fun r H' s n h => k r H' s n h
end
end My

namespace My
open PySem L2
section
variable {P : Program} {w : World} {K : PySem.W.Frag} {mg : Str → Option Value} {base : Heap}
theorem no_below (q : Rat) : (nf q).lookup ("below" : Str) = none := nf_no _ (by decide +kernel) (by decide +kernel)
def spBelow (C : Addr) : Sp := fun vs H Q _ => ∃ (p q : Addr) (x y : Rat), vs = [.ref p, .ref q] ∧ NumAt C H p x ∧ NumAt C H q y ∧ Bd 4000 x ∧ Bd 4000 y ∧ Q (.bl (decide (x < y))) H
theorem ok_Number_below (T : Txt w K mg) : FnOk P w K mg base CX0 1 T.f_Number_below T.fd_Number_below ["self", "other"] (spBelow T.C_Number) := by
  refine T.F_Number_below.ok sc_Number_below (fun vs H Q E h => ?_) (fun cdv A outer s H vs Q E hr h => ?_)
  · obtain ⟨p, q, x, y, rfl, _⟩ := h
    rfl
  · obtain ⟨p, q, x, y, rfl, ⟨dx, hp⟩, ⟨dy, hq⟩, bx, by', k⟩ := h
    have cN := T.c_Number
    have nT := T.n_Number_top
    have nB := T.n_Number_bottom
    refine ⟨_, (pss_one (ps_ret (pe_cmpR op_lt (pe_op op_mulW (pe_fld (pv 0) rfl) (pe_fld (pv 1) rfl)) (pe_op op_mulW (pe_fld (pv 1) rfl) (pe_fld (pv 0) rfl)) (nomark _)))), ?_⟩
    rw [lt_dec] at k
    walk_at "rdf"
    refine r_I (cm bx.1 (bd_den by')) ?_
    walk_at "rdf"
    refine r_I (cm by'.1 (bd_den bx)) ?_
    walk_at "rdf"
    exact k
end
end My

namespace My
open PySem L2
section
variable {σ : L2.St} {H : Hp} {Q : VK} {v x y : V} {te ta to ti : TE} {tr : TA} {K : PySem.W.Frag} {nx : L2.St → Hp → Prop} {rt : VK} {bk ct : L2.St → Hp → Prop}
theorem r_par {i j : Nat} (q : tr σ H fun vs H1 => ∃ v w, vs = [v, w] ∧ nx ((σ.set i (some v)).set j (some w)) H1) : tPar i j tr ⟨nx, rt, bk, ct⟩ σ H := q
theorem r_two {P : V → V → Prop} (q : P x y) : ∃ v w, [x, y] = [v, w] ∧ P v w := ⟨x, y, rfl, q⟩
theorem r_m1 {r : V → List V → Hp → VK → Prop} (q : to σ H fun x H1 => (∃ a, x = .str a) ∧ te σ H1 fun y H2 => r x [y] H2 Q) : tM1 r to te σ H Q := q
theorem r_isStr {a : Str} {P : Prop} (q : P) : (∃ b, V.str a = .str b) ∧ P := ⟨⟨a, rfl⟩, q⟩
theorem r_inT {t : Addr} {xs : List V} {b : Bool} (h : H t = some (.tup xs)) (f : flatV x = true) (fs : xs.all flatV = true) (e : inV x xs = b) (q : Q (.bl b) H) : rIn K false x (.ref t) H Q := ⟨t, xs, rfl, .inr (SqT.of h), f, fs, by
  subst e
  exact q⟩
theorem r_notInT {t : Addr} {xs : List V} {b : Bool} (h : H t = some (.tup xs)) (f : flatV x = true) (fs : xs.all flatV = true) (e : inV x xs = b) (q : Q (.bl (!b)) H) : rIn K true x (.ref t) H Q := ⟨t, xs, rfl, .inr (SqT.of h), f, fs, by
  subst e
  exact q⟩
theorem r_isN {P : V → Hp → Prop} {b : Bool} (e : decide (x = V.non) = b) (q : P (.bl b) H) : V.non = V.non ∧ P (.bl (decide (x = V.non))) H := ⟨rfl, by rw [e]; exact q⟩
theorem r_lcT {tl : TE} {g : TG} {tt : TT} {vs : List Nat} (q : tl σ H fun x H1 => ∃ a, x = .ref a ∧ (∃ xs, SqT K H1 a xs) ∧ ∀ D, H1 D = none → ∃ W : Nat → Nat → Hp → Prop, (∃ m, W 0 m (upd H1 D (.lst []))) ∧ ∀ i m H, W i m H →
    ((Itt K a).stop i H ∧ Q (.ref D) H) ∨ ((Itt K a).go i H ∧ ∃ Nx : Hp → Prop, (∀ H', Nx H' → ∃ m', m' < m ∧ W (i + 1) m' H') ∧ ∀ x H', (Itt K a).yld i H x H' → g x (wipe σ vs) H' fun σ2 H2 => wipe σ2 vs = wipe σ vs ∧ tt σ2 H2 fun b H3 =>
      if b = true then te σ2 H3 fun y H4 => ∃ acc, H4 D = some (.lst acc) ∧ acc.length < sizeLine ∧ Nx (upd H4 D (.lst (acc ++ [y]))) else Nx H3)) : tLc (iTup K tl) g tt te vs σ H Q := q
theorem r_rng2 {g : TG} {tb : TS} {D : Ends} (q : tr σ H fun vs H1 => ∃ i j : Int, vs = [.int i, .int j] ∧ (-(2 ^ 62) ≤ i ∧ i < 2 ^ 62 ∧ -(2 ^ 62) ≤ j ∧ j < 2 ^ 62) ∧ ∃ W : Nat → Nat → L2.St → Hp → Prop, (∃ m, W 0 m σ H1) ∧ ∀ k m σ H, W k m σ H →
    ((Itr i (j - i).toNat).stop k H ∧ D.nx σ H) ∨ ((Itr i (j - i).toNat).go k H ∧ ∃ N : L2.St → Hp → Prop, (∀ σ' H', N σ' H' → ∃ m', m' < m ∧ W (k + 1) m' σ' H') ∧ ∀ x H', (Itr i (j - i).toNat).yld k H x H' → g x σ H' fun σ2 H2 => tb { D with nx := N, ct := N, bk := D.nx } σ2 H2)) : tFor (iRng2 tr) g tb D σ H := q
theorem r_gTup {a : Addr} {xs : List V} {n : Nat} {t : TGs} {QS : L2.St → Hp → Prop} (h : H a = some (.tup xs)) (l : xs.length = n) (q : t xs σ H QS) : gTup K n t (.ref a) σ H QS := ⟨a, xs, rfl, SqT.of h, l, q⟩
theorem r_gCons {t : TG} {u : TGs} {xs : List V} {QS : L2.St → Hp → Prop} (q : t x σ H fun σ' H' => u xs σ' H' QS) : gCons t u (x :: xs) σ H QS := ⟨x, xs, rfl, q⟩
theorem r_gNil {QS : L2.St → Hp → Prop} (q : QS σ H) : gNil [] σ H QS := ⟨rfl, q⟩
theorem r_aug {i : Nat} {ti : TIp} (q : ∃ x, σ[i]? = some (some x) ∧ te σ H fun y H1 => ti x y H1 fun z H2 => nx (σ.set i (some z)) H2) : tAug i te ti ⟨nx, rt, bk, ct⟩ σ H := q
theorem r_ip {f : Int → Int → Int} {i j : Int} (q : Q (.int (f i j)) H) : ipI f (.int i) (.int j) H Q := ⟨i, j, rfl, rfl, q⟩
theorem r_bits (q : to σ H fun x H1 => ∃ i, x = .int i ∧ Q (.int (Builtin.Int.intBits i : Nat)) H1) : tBits to σ H Q := q
theorem r_dget2 {td ty tx : TE} (q : td σ H fun x H1 => ∃ a, x = .ref a ∧ IsD H1 a ∧ ty σ H1 fun y H2 => tx σ H2 fun z H3 => ∃ o, DGet H3 a y o ∧ Q (o.getD z) H3) : tDGet2 td ty tx σ H Q := q
theorem r_rng1 {g : TG} {tb : TS} {D : Ends} (q : tr σ H fun vs H1 => ∃ j : Int, vs = [.int j] ∧ -(2 ^ 62) ≤ j ∧ j < 2 ^ 62 ∧ ∃ W : Nat → Nat → L2.St → Hp → Prop, (∃ m, W 0 m σ H1) ∧ ∀ k m σ H, W k m σ H →
    ((Itr 0 j.toNat).stop k H ∧ D.nx σ H) ∨ ((Itr 0 j.toNat).go k H ∧ ∃ N : L2.St → Hp → Prop, (∀ σ' H', N σ' H' → ∃ m', m' < m ∧ W (k + 1) m' σ' H') ∧ ∀ x H', (Itr 0 j.toNat).yld k H x H' → g x σ H' fun σ2 H2 => tb { D with nx := N, ct := N, bk := D.nx } σ2 H2)) : tFor (iRng1 tr) g tb D σ H := q
end
end My

local macro_rules | `(tactic| walk_at "rd2") => `(tactic| first
  | with_reducible refine My.r_par ?_
  | with_reducible refine My.r_two ?_
  | with_reducible refine My.r_m1 ?_
  | with_reducible refine My.r_isStr ?_
  | with_reducible refine My.r_gCons ?_
  | with_reducible refine My.r_gNil ?_
  | ((with_reducible refine My.r_aug ?_); refine ⟨_, rfl, ?_⟩)
  | with_reducible refine My.r_ip ?_
  | with_reducible refine My.r_bits ?_)
local macro_rules | `(tactic| walk_at "rdg") => `(tactic| (repeat (first | walk_at "rd1" | walk_at "rd2")))

namespace My
open PySem L2
section
variable {σ : L2.St} {H : Hp} {Q : VK} {v x y : V} {te ta to ti td ty tk tv : TE} {K : PySem.W.Frag}
theorem r_disp {trs : List (TE × TE)} (q : ∀ p, H p = none → tPairs trs σ (upd H p (.dK [])) fun ps H2 => H2 p = some (.dK []) ∧ ∃ kvs : List (Key × V), ps = kvs.map (fun kv => (kV kv.1, kv.2)) ∧ kvs.length ≤ 15 ∧ Q (.ref p) (upd H2 p (.dK (mergeK [] kvs)))) : tDisp trs σ H Q := q
theorem r_pair {r : List (TE × TE)} {QP : List (V × V) → Hp → Prop} (q : tk σ H fun x H1 => tv σ H1 fun y H2 => tPairs r σ H2 fun ps H3 => QP ((x, y) :: ps) H3) : tPairs ((tk, tv) :: r) σ H QP := q
theorem r_pair0 {QP : List (V × V) → Hp → Prop} (q : QP [] H) : tPairs [] σ H QP := q
theorem r_dget (q : td σ H fun x H1 => ty σ H1 fun y H2 => ∃ a v, x = .ref a ∧ DGet H2 a y (some v) ∧ Q v H2) : tDGet td ty σ H Q := q
theorem r_din (q : ty σ H fun y H1 => td σ H1 fun x H2 => ∃ a o, x = .ref a ∧ DGet H2 a y o ∧ Q (.bl o.isSome) H2) : tDIn ty td σ H Q := q
theorem Same.dict {H : Hp} {p : Addr} {o1 o2 : HO} (h : H p = none) : Same H (upd (upd H p o1) p o2) := fun b o e => by
  rw [upd_ne (ne_of_none e h), upd_ne (ne_of_none e h)]
  exact e
end
end My

local macro_rules | `(tactic| walk_at "rd3") => `(tactic| first
  | with_reducible refine My.r_pair ?_
  | with_reducible refine My.r_pair0 ?_
  | with_reducible refine My.r_dget ?_
  | with_reducible refine My.r_din ?_)
local macro_rules | `(tactic| walk_at "rdh") => `(tactic| (repeat (first | walk_at "rd1" | walk_at "rd2" | walk_at "rd3")))

namespace My
open PySem L2
section
variable {σ : L2.St} {H : Hp} {Q : VK} {v x y : V} {te ta to ti : TE} {tr : TA} {K : PySem.W.Frag} {nx : L2.St → Hp → Prop} {rt : VK} {bk ct : L2.St → Hp → Prop}
theorem r_lcL {tl : TE} {g : TG} {tt : TT} {vs : List Nat} (q : tl σ H fun x H1 => ∃ a, x = .ref a ∧ (∃ xs, SqL K H1 a xs) ∧ ∀ D, H1 D = none → ∃ W : Nat → Nat → Hp → Prop, (∃ m, W 0 m (upd H1 D (.lst []))) ∧ ∀ i m H, W i m H →
    ((Itl K a).stop i H ∧ Q (.ref D) H) ∨ ((Itl K a).go i H ∧ ∃ Nx : Hp → Prop, (∀ H', Nx H' → ∃ m', m' < m ∧ W (i + 1) m' H') ∧ ∀ x H', (Itl K a).yld i H x H' → g x (wipe σ vs) H' fun σ2 H2 => wipe σ2 vs = wipe σ vs ∧ tt σ2 H2 fun b H3 =>
      if b = true then te σ2 H3 fun y H4 => ∃ acc, H4 D = some (.lst acc) ∧ acc.length < sizeLine ∧ Nx (upd H4 D (.lst (acc ++ [y]))) else Nx H3)) : tLc (iList K tl) g tt te vs σ H Q := q
theorem r_forL {tl : TE} {g : TG} {tb : TS} {D : Ends} (q : tl σ H fun x H1 => ∃ a, x = .ref a ∧ (∃ xs, SqL K H1 a xs) ∧ ∃ W : Nat → Nat → L2.St → Hp → Prop, (∃ m, W 0 m σ H1) ∧ ∀ i m σ H, W i m σ H →
    ((Itl K a).stop i H ∧ D.nx σ H) ∨ ((Itl K a).go i H ∧ ∃ N : L2.St → Hp → Prop, (∀ σ' H', N σ' H' → ∃ m', m' < m ∧ W (i + 1) m' σ' H') ∧ ∀ x H', (Itl K a).yld i H x H' → g x σ H' fun σ2 H2 => tb { D with nx := N, ct := N, bk := D.nx } σ2 H2)) : tFor (iList K tl) g tb D σ H := q
theorem r_cat {l b : Addr} {xs zs : List V} (h1 : H l = some (.lst xs)) (h2 : H b = some (.lst zs)) (n : xs.length + zs.length ≤ 100000) (q : ∀ p, H p = none → Q (.ref p) (upd H p (.lst (xs ++ zs)))) : rCat (.ref l) (.ref b) H Q := ⟨l, b, xs, zs, rfl, rfl, h1, h2, Nat.le_trans n (by decide), q⟩
theorem r_iteR {A B : Prop} {k : Bool} (b : B) (h : k = true → B → A) : if k = true then A else B := by
  cases k with
  | true => exact h rfl b
  | false => exact b
theorem r_inAny {t : Addr} {xs : List V} {b : Bool} {n : Bool} (h : H t = some (.tup xs)) (f : flatV x = true) (fs : xs.all flatV = true) (e : inV x xs = b) (q : Q (.bl (if n then !b else b)) H) : rIn K n x (.ref t) H Q := ⟨t, xs, rfl, .inr (SqT.of h), f, fs, by
  subst e
  cases n <;> exact q⟩
end
end My
namespace My
open PySem L2
theorem r_cut {t u : TS} {σ : L2.St} {H : Hp} {nx : L2.St → Hp → Prop} {rt : VK} {bk ct : L2.St → Hp → Prop} (Mid : L2.St → Hp → Prop) (h1 : t ⟨Mid, rt, bk, ct⟩ σ H) (h2 : ∀ σ' H', Mid σ' H' → u ⟨nx, rt, bk, ct⟩ σ' H') : C8.tCut t u ⟨nx, rt, bk, ct⟩ σ H := ⟨Mid, h1, h2⟩
end My

namespace My
open PySem L2
section
variable {P : Program} {w : World} {K : PySem.W.Frag} {mg : Str → Option Value} {base : Heap}
/-! ### a well -/
def WellAt (H : Hp) (d : Addr) : Prop := ∃ a b n : Int, H d = some (.lst [.int a, .int b, .int n])
theorem WellAt.same {H H' : Hp} {d : Addr} (s : Same H H') (h : WellAt H d) : WellAt H' d := let ⟨a, b, n, h1⟩ := h; ⟨a, b, n, s _ _ h1⟩
/-! heaps but for one place -/
def Out (d : Addr) (H H' : Hp) : Prop := ∀ b o, b ≠ d → H b = some o → H' b = some o
theorem Out.refl (d : Addr) (H : Hp) : Out d H H := fun _ _ _ h => h
theorem Out.trans {d : Addr} {H H1 H2 : Hp} (a : Out d H H1) (b : Out d H1 H2) : Out d H H2 := fun x o h1 h => b x o h1 (a x o h1 h)
theorem Out.of {d : Addr} {H H' : Hp} (a : Same H H') : Out d H H' := fun x o _ h => a x o h
theorem Out.keep {H H' : Hp} {d b : Addr} {o : HO} (s : Out d H H') (hd : WellAt H d) (h : H b = some o) (hn : ∀ xs, o ≠ .lst xs) : H' b = some o := by
  obtain ⟨_, _, _, h1⟩ := hd
  exact s b o (ne_of h h1 (hn _)) h
theorem well_ne {H : Hp} {d p : Addr} (h : WellAt H d) (hp : H p = none) : p ≠ d := by
  obtain ⟨_, _, _, h1⟩ := h
  exact (ne_of_none h1 hp).symm
theorem well_ix {ns : List Int} {k : Nat} (h : (k : Int) < ((ns.map V.int).length : Int)) : ∃ c : Int, atI (ns.map V.int) (k : Int) = some (.int c) := by
  have hk : k < ns.length := by rw [List.length_map] at h; omega
  exact ⟨ns[k], atI_nat (by rw [List.getElem?_map, List.getElem?_eq_getElem hk]; rfl)⟩
def spWell (K : PySem.W.Frag) : Sp := fun vs H Q _ => ∃ (a : Addr) (ns : List Int) (k : Nat), vs = [.ref a, .int k] ∧ SqL K H a (ns.map V.int) ∧ ∀ (d : Addr) (H' : Hp), Same H H' → H d = none → WellAt H' d → Q (.ref d) H'
theorem ok_l_well (T : Txt w K mg) : FnOk P w K mg base CX0 1 T.f_l_well T.fd_l_well ["_law_script", "_law_k"] (spWell K) := by
  refine T.F_l_well.ok sc_l_well (fun vs H Q E h => ?_) (fun cdv A outer s H vs Q E hr h => ?_)
  · obtain ⟨a, ns, j, rfl, _⟩ := h
    rfl
  · obtain ⟨a, ns, j, rfl, hS, k⟩ := h
    refine ⟨_, (pss_cons (ps_set (i := 2) sc_l_well.nd rfl (Or.inl rfl) pe_int)
 (pss_cons (ps_if (pt_cmpR op_lt (pv 1) (pe_callB call_len_seq (by rfl) T.n_len PySem.boot_len (pa_cons (pv 0) pa_nil)) (nomark _))
  (pss_one (ps_set (i := 2) sc_l_well.nd rfl (Or.inl rfl) (pe_ix ix_list (pv 0) (pv 1) (fun _ _ => rfl))))
  pss_nil)
 (pss_one (ps_ret (pe_lst (pa_cons (pe_op op_mul (pv 2) (pe_callTy call_int1 (by rfl) T.n_int (by decide +kernel) (pa_cons (pe_cmpR op_ge (pv 2) (pe_op op_pow pe_int pe_int) (nomark _)) pa_nil))) (pa_cons (pe_op op_add (pe_op op_mod (pv 2) pe_int) (pe_op op_mul pe_int (pv 1))) (pa_cons pe_int pa_nil)))))))), ?_⟩
    walk_at "rdg"
    refine ⟨a, _, rfl, .inl hS, ?_⟩
    walk_at "rdg"
    refine r_ite (fun e => ?_) (fun e => ?_)
    · obtain ⟨c, hc⟩ := well_ix (of_decide_eq_true e)
      walk_at "rdg"
      refine ⟨a, _, _, _, rfl, rfl, hS, hc, ?_⟩
      walk_at "rdg"
      refine .inr ⟨_, rfl, ?_⟩
      refine r_I (.inr (by split <;> decide)) ?_
      walk_at "rdg"
      refine r_new (by show 3 ≤ 1000; decide) fun d hd => ?_
      exact k d _ (Same.new hd) hd ⟨_, _, _, upd_same⟩
    · walk_at "rdg"
      refine .inr ⟨_, rfl, ?_⟩
      refine r_I (.inr (by split <;> decide)) ?_
      walk_at "rdg"
      refine r_new (by show 3 ≤ 1000; decide) fun d hd => ?_
      exact k d _ (Same.new hd) hd ⟨_, _, _, upd_same⟩
/-! ### a take -/
def spTake : Sp := fun vs H Q _ => ∃ (d : Addr) (v : Int), vs = [.ref d, .int v] ∧ WellAt H d ∧ 0 < v ∧ v.natAbs < 2 ^ 9000 ∧ ∀ (r : Int) (H' : Hp), Out d H H' → WellAt H' d → 0 ≤ r → r < v → Q (.int r) H'
theorem ok_l_take (T : Txt w K mg) : FnOk P w K mg base CX0 1 T.f_l_take T.fd_l_take ["_law_well_here", "_law_top"] spTake := by
  refine T.F_l_take.ok sc_l_take (fun vs H Q E h => ?_) (fun cdv A outer s H vs Q E hr h => ?_)
  · obtain ⟨d, v, rfl, _⟩ := h
    rfl
  · obtain ⟨d, v, rfl, ⟨a, b, n, hd⟩, v0, vb, k⟩ := h
    refine ⟨_, (pss_cons (ps_if (pt_cmpR op_gt (pe_ix ix_list (pv 0) pe_int (fun _ _ => rfl)) pe_int (nomark _))
  (pss_cons (ps_set (i := 2) sc_l_take.nd rfl (Or.inl rfl) (pe_op op_mod (pe_ix ix_list (pv 0) pe_int (fun _ _ => rfl)) (pv 1)))
 (pss_cons (ps_asg (pe_op op_fdivW (pe_ix ix_list (pv 0) pe_int (fun _ _ => rfl)) (pv 1)) (pg_sub (pv 0) pe_int set_list))
 (pss_one (ps_ret (pv 2)))))
  pss_nil)
 (pss_cons (ps_asg (pe_op op_add (pe_ix ix_list (pv 0) pe_int (fun _ _ => rfl)) pe_int) (pg_sub (pv 0) pe_int set_list))
 (pss_cons (ps_set (i := 3) sc_l_take.nd rfl (Or.inl rfl) (pe_op op_mod (pe_op op_mul (pe_op op_add (pe_op op_add (pe_ix ix_list (pv 0) pe_int (fun _ _ => rfl)) (pe_op op_mul pe_int (pe_ix ix_list (pv 0) pe_int (fun _ _ => rfl)))) pe_int) pe_int) pe_int))
 (pss_cons (ps_set (i := 3) sc_l_take.nd rfl (Or.inl rfl) (pe_op op_mod (pe_op op_add (pe_op op_mulW (pv 3) (pv 3)) (pe_op op_mul pe_int (pe_ix ix_list (pv 0) pe_int (fun _ _ => rfl)))) pe_int))
 (pss_cons (ps_set (i := 3) sc_l_take.nd rfl (Or.inl rfl) (pe_op op_add (pe_op op_mul (pe_op op_mod (pe_op op_mulW (pv 3) (pe_op op_add (pv 3) pe_int)) pe_int) pe_int) (pv 3)))
 (pss_one (ps_ret (pe_op op_mod (pe_op op_fdiv (pe_op op_mod (pe_op op_mul (pv 3) pe_int) pe_int) pe_int) (pv 1))))))))), ?_⟩
    have pmod : ∀ x : Int, 0 ≤ x % v ∧ x % v < v := fun x => ⟨Int.emod_nonneg _ (by omega), Int.emod_lt_of_pos _ v0⟩
    have o1 : ∀ u : HO, Out d H (upd H d u) := fun u b o h1 h => by rw [upd_ne h1]; exact h
    walk_at "rdg"
    refine r_ixL hd (atI_nat (j := 0) rfl) ?_
    walk_at "rdg"
    refine r_ite (fun e => ?_) (fun e => ?_)
    · walk_at "rdg"
      refine r_ixL hd (atI_nat (j := 0) rfl) ?_
      walk_at "rdg"
      refine r_I v0 ?_
      walk_at "rdg"
      refine r_ixL hd (atI_nat (j := 0) rfl) ?_
      walk_at "rdg"
      refine r_I (wide_div v0 vb (by decide) (Nat.le_refl _)) ?_
      walk_at "rdg"
      refine r_setL hd (j := 0) rfl ?_
      walk_at "rdg"
      exact k _ _ (o1 _) ⟨_, _, _, upd_same⟩ (pmod _).1 (pmod _).2
    · walk_at "rdg"
      refine r_ixL hd (atI_nat (j := 2) rfl) ?_
      walk_at "rdg"
      refine r_setL hd (j := 2) rfl ?_
      have hd1 : (upd H d (.lst [.int a, .int b, .int (n + 1)])) d = some (.lst [.int a, .int b, .int (n + 1)]) := upd_same
      have o2 := o1 (.lst [.int a, .int b, .int (n + 1)])
      show (_ : TS) _ _ (upd H d (.lst [.int a, .int b, .int (n + 1)]))
      generalize (upd H d (.lst [.int a, .int b, .int (n + 1)])) = H1 at *
      walk_at "rdg"
      refine r_ixL hd1 (atI_nat (j := 1) rfl) ?_
      walk_at "rdg"
      refine r_ixL hd1 (atI_nat (j := 2) rfl) ?_
      walk_at "rdg"
      have m1 : ∀ x : Int, (x % 2147483647).natAbs < 2 ^ 31 := fun x => by have := @Int.emod_nonneg x 2147483647 (by decide); have := Int.emod_lt_of_pos x (show (0 : Int) < 2147483647 by decide); omega
      have m2 : ∀ x : Int, (x % 2147483587).natAbs < 2 ^ 31 := fun x => by have := @Int.emod_nonneg x 2147483587 (by decide); have := Int.emod_lt_of_pos x (show (0 : Int) < 2147483587 by decide); omega
      have m3 : ∀ x : Int, (x % 2147483587 + 16807).natAbs < 2 ^ 32 := fun x => by have := @Int.emod_nonneg x 2147483587 (by decide); have := Int.emod_lt_of_pos x (show (0 : Int) < 2147483587 by decide); omega
      refine r_I (wide_mul (a := 31) (b := 31) (m1 _) (m1 _) (by decide) (by decide) (by decide)) ?_
      walk_at "rdg"
      refine r_ixL hd1 (atI_nat (j := 2) rfl) ?_
      walk_at "rdg"
      refine r_I (wide_mul (a := 31) (b := 32) (m2 _) (m3 _) (by decide) (by decide) (by decide)) ?_
      walk_at "rdg"
      refine r_I v0 ?_
      exact k _ _ o2 ⟨_, _, _, hd1⟩ (pmod _).1 (pmod _).2
/-- a take, as it is read -/
theorem rd_take {H : Hp} {d : Addr} {v : Int} {Q : VK} {E : XK} (dk : WellAt H d) (h0 : 0 < v) (h1 : v.natAbs < 2 ^ 200) (q : ∀ (r : Int) (H' : Hp), Out d H H' → WellAt H' d → 0 ≤ r → r < v → Q (.int r) H') : spTake ([V.ref d, V.int v] ++ []) H Q E :=
  ⟨d, v, rfl, dk, h0, Nat.lt_of_lt_of_le h1 (Nat.pow_le_pow_right (by decide) (by decide)), q⟩
/-! ### a power of ten -/
def spTenL : Sp := fun vs H Q _ => ∃ p : Int, vs = [.int p] ∧ p.natAbs < 2 ^ 60 ∧ Q (.int (10 ^ p.toNat)) H
theorem ok_l_ten (T : Txt w K mg) : FnOk P w K mg base CX0 1 T.f_l_ten T.fd_l_ten ["_law_power"] spTenL := by
  refine T.F_l_ten.ok sc_l_ten (fun vs H Q E h => ?_) (fun cdv A outer s H vs Q E hr h => ?_)
  · obtain ⟨p, rfl, _⟩ := h
    rfl
  · obtain ⟨p, rfl, hp, k⟩ := h
    refine ⟨_, (pss_cons (ps_set (i := 1) sc_l_ten.nd rfl (Or.inl rfl) pe_int)
 (pss_cons (ps_for PassesOwn.never rfl (pi_range1 rfl T.n_range (pa_cons (pv 0) pa_nil)) (pg_name (i := 2) sc_l_ten.nd rfl (Or.inl rfl))
  (pss_one (ps_set (i := 1) sc_l_ten.nd rfl (Or.inl rfl) (pe_op op_mul (pv 1) pe_int))))
 (pss_one (ps_ret (pv 1))))), ?_⟩
    walk_at "rdg"
    refine r_rng1 ?_
    walk_at "rdg"
    refine ⟨_, rfl, by omega, by omega, ?_⟩
    refine for_range (lo := 0) (n := p.toNat) (fun i σ H' => ∃ v : Option V, σ = [some (.int p), some (.int (10 ^ i)), v] ∧ H' = H) ⟨none, rfl, rfl⟩ ?_ ?_
    · rintro i σ H' hi ⟨v, rfl, rfl⟩
      walk_at "rdg"
      refine ⟨some (.int (0 + (i : Int))), ?_, rfl⟩
      rw [Int.pow_succ]
      rfl
    · rintro σ H' ⟨v, rfl, rfl⟩
      walk_at "rdg"
      exact k
end
end My

namespace My
open PySem L2
section
variable {P : Program} {w : World} {K : PySem.W.Frag} {mg : Str → Option Value} {base : Heap}
theorem int_of {v : V} {xs : List Int} (h : v ∈ xs.map V.int) : ∃ i, v = .int i ∧ i ∈ xs := by
  obtain ⟨i, hi, rfl⟩ := List.mem_map.mp h
  exact ⟨i, rfl, hi⟩
theorem atI_int {xs : List Int} {r : Int} (h0 : 0 ≤ r) (h1 : r < (xs.length : Int)) : ∃ i, atI (xs.map V.int) r = some (.int i) ∧ i ∈ xs := by
  obtain ⟨n, rfl⟩ := Int.eq_ofNat_of_zero_le h0
  have hn : n < xs.length := by omega
  exact ⟨xs[n], atI_nat (by rw [List.getElem?_map, List.getElem?_eq_getElem hn]; rfl), List.getElem_mem hn⟩
theorem two_at {i j : Int} (k : Bool) : atI [V.int i, .int j] (if k then 1 else 0) = some (.int (if k = true then j else i)) := by cases k <;> rfl
/-- a literal list of whole numbers, and one of it -/
theorem r_pick {K : PySem.W.Frag} {H : Hp} {Q : VK} {l : Addr} {r : Int} (xs : List Int) (h : H l = some (.lst (xs.map V.int))) (h0 : 0 ≤ r) (h1 : r < (xs.length : Int)) (q : ∀ i : Int, i ∈ xs → Q (.int i) H) : rIxL K (.ref l) (.int r) H Q := by
  obtain ⟨i, e, m⟩ := atI_int h0 h1
  exact r_ixL h e (q i m)
def spPair : Sp := fun vs H Q _ => ∃ d : Addr, vs = [.ref d] ∧ WellAt H d ∧ ∀ (p : Addr) (t b : Int) (H' : Hp), Out d H H' → WellAt H' d → H' p = some (.tup [.int t, .int b]) → t.natAbs < 2 ^ 110 → b ≠ 0 → b.natAbs ≤ 10 ^ 12 → Q (.ref p) H'
theorem five_mono {i j : Nat} (h : i ≤ j) : 5 ^ i ≤ 5 ^ j := Nat.pow_le_pow_right (by decide) h
theorem ok_l_pair (T : Txt w K mg) : FnOk P w K mg base CX0 2 T.f_l_pair T.fd_l_pair ["_law_well_here"] spPair := by
  refine T.F_l_pair.ok sc_l_pair (fun vs H Q E h => ?_) (fun cdv A outer s H vs Q E hr h => ?_)
  · obtain ⟨d, rfl, _⟩ := h
    rfl
  · obtain ⟨d, rfl, w0, k⟩ := h
    refine ⟨_, (pss_cons (ps_set (i := 1) sc_l_pair.nd rfl (Or.inl rfl) (pe_call (ok_l_take T) (hr.mono (by decide)) (by rfl) T.m_l_take T.F_l_take.kp T.b_l_take .nil pass0 (pa_cons (pv 0) (pa_cons pe_int pa_nil))))
 (pss_cons (ps_set (i := 2) sc_l_pair.nd rfl (Or.inl rfl) (pe_op op_add pe_int (pe_call (ok_l_take T) (hr.mono (by decide)) (by rfl) T.m_l_take T.F_l_take.kp T.b_l_take .nil pass0 (pa_cons (pv 0) (pa_cons pe_int pa_nil)))))
 (pss_cons (ps_set (i := 3) sc_l_pair.nd rfl (Or.inl rfl) (pe_call (ok_l_take T) (hr.mono (by decide)) (by rfl) T.m_l_take T.F_l_take.kp T.b_l_take .nil pass0 (pa_cons (pv 0) (pa_cons pe_int pa_nil))))
 (pss_cons (ps_set (i := 4) sc_l_pair.nd rfl (Or.inl rfl) (pe_ix ix_list (pe_lst (pa_cons (pe_call (ok_l_take T) (hr.mono (by decide)) (by rfl) T.m_l_take T.F_l_take.kp T.b_l_take .nil pass0 (pa_cons (pv 0) (pa_cons pe_int pa_nil))) (pa_cons (pe_call (ok_l_take T) (hr.mono (by decide)) (by rfl) T.m_l_take T.F_l_take.kp T.b_l_take .nil pass0 (pa_cons (pv 0) (pa_cons (pe_op op_pow pe_int pe_int) pa_nil))) (pa_cons (pe_call (ok_l_take T) (hr.mono (by decide)) (by rfl) T.m_l_take T.F_l_take.kp T.b_l_take .nil pass0 (pa_cons (pv 0) (pa_cons pe_int pa_nil))) (pa_cons (pe_call (ok_l_take T) (hr.mono (by decide)) (by rfl) T.m_l_take T.F_l_take.kp T.b_l_take .nil pass0 (pa_cons (pv 0) (pa_cons (pe_op op_pow pe_int pe_int) pa_nil))) (pa_cons pe_int (pa_cons pe_int pa_nil))))))) (pv 1) (fun _ _ => rfl)))
 (pss_cons (ps_set (i := 5) sc_l_pair.nd rfl (Or.inl rfl) (pe_ix ix_list (pe_lst (pa_cons (pv 2) (pa_cons (pe_call (ok_l_ten T) (hr.mono (by decide)) (by rfl) T.m_l_ten T.F_l_ten.kp T.b_l_ten .nil pass0 (pa_cons (pv 3) pa_nil)) (pa_cons pe_int (pa_cons (pe_op op_add pe_int (pe_call (ok_l_take T) (hr.mono (by decide)) (by rfl) T.m_l_take T.F_l_take.kp T.b_l_take .nil pass0 (pa_cons (pv 0) (pa_cons (pe_op op_pow pe_int pe_int) pa_nil)))) (pa_cons (pv 2) (pa_cons (pv 2) pa_nil))))))) (pv 1) (fun _ _ => rfl)))
 (C8.pss_cut (ps_if (pt_cmpR op_eq (pv 1) pe_int (nomark _))
  (pss_cons (ps_for PassesOwn.never rfl (pi_range1 rfl T.n_range (pa_cons (pe_call (ok_l_take T) (hr.mono (by decide)) (by rfl) T.m_l_take T.F_l_take.kp T.b_l_take .nil pass0 (pa_cons (pv 0) (pa_cons pe_int pa_nil))) pa_nil)) (pg_name (i := 6) sc_l_pair.nd rfl (Or.inl rfl))
  (pss_one (ps_set (i := 5) sc_l_pair.nd rfl (Or.inl rfl) (pe_op op_mulW (pv 5) (pe_ix ix_list (pe_lst (pa_cons pe_int (pa_cons pe_int pa_nil))) (pe_call (ok_l_take T) (hr.mono (by decide)) (by rfl) T.m_l_take T.F_l_take.kp T.b_l_take .nil pass0 (pa_cons (pv 0) (pa_cons pe_int pa_nil))) (fun _ _ => rfl))))))
 (pss_one (ps_set (i := 5) sc_l_pair.nd rfl (Or.inl rfl) (pe_callB (call_min2 rfl) (by rfl) T.n_min (by decide +kernel) (pa_cons (pv 5) (pa_cons (pe_op op_pow pe_int pe_int) pa_nil))))))
  pss_nil)
 (C8.pss_cut (ps_if (pt_cmpR op_eq (pv 1) pe_int (nomark _))
  (pss_one (ps_set (i := 4) sc_l_pair.nd rfl (Or.inl rfl) (pe_op op_sub (pe_op op_add (pe_call (ok_l_ten T) (hr.mono (by decide)) (by rfl) T.m_l_ten T.F_l_ten.kp T.b_l_ten .nil pass0 (pa_cons (pe_call (ok_l_take T) (hr.mono (by decide)) (by rfl) T.m_l_take T.F_l_take.kp T.b_l_take .nil pass0 (pa_cons (pv 0) (pa_cons pe_int pa_nil))) pa_nil)) (pe_call (ok_l_take T) (hr.mono (by decide)) (by rfl) T.m_l_take T.F_l_take.kp T.b_l_take .nil pass0 (pa_cons (pv 0) (pa_cons pe_int pa_nil)))) pe_int)))
  pss_nil)
 (C8.pss_cut (ps_if (pt_cmpR op_lt (pv 1) pe_int (nomark _))
  (pss_one (ps_par (i := 4) (j := 5) rfl sc_l_pair.nd rfl rfl (by decide) rfl rfl (pa_cons (pe_op op_mulW (pv 4) (pv 2)) (pa_cons (pe_callB (call_min2 rfl) (by rfl) T.n_min (by decide +kernel) (pa_cons (pe_op op_pow pe_int pe_int) (pa_cons (pe_op op_mulW (pv 5) (pv 2)) pa_nil))) pa_nil)) (by rfl)))
  pss_nil)
 (pss_cons (ps_set (i := 7) sc_l_pair.nd rfl (Or.inl rfl) (pe_lst (pa_cons (pe_call (ok_l_take T) (hr.mono (by decide)) (by rfl) T.m_l_take T.F_l_take.kp T.b_l_take .nil pass0 (pa_cons (pv 0) (pa_cons pe_int pa_nil))) (pa_cons (pe_callTy call_int1 (by rfl) T.n_int (by decide +kernel) (pa_cons (pe_cmpR op_eq (pe_call (ok_l_take T) (hr.mono (by decide)) (by rfl) T.m_l_take T.F_l_take.kp T.b_l_take .nil pass0 (pa_cons (pv 0) (pa_cons pe_int pa_nil))) pe_int (nomark _)) pa_nil)) pa_nil))))
 (pss_one (ps_ret (pe_tup (pa_cons (pe_op op_mulW (pv 4) (pe_ix ix_list (pe_lst (pa_cons pe_int (pa_cons (pe_un un_neg pe_int) pa_nil))) (pe_ix ix_list (pv 7) pe_int (fun _ _ => rfl)) (fun _ _ => rfl))) (pa_cons (pe_op op_mulW (pv 5) (pe_ix ix_list (pe_lst (pa_cons pe_int (pa_cons (pe_un un_neg pe_int) pa_nil))) (pe_ix ix_list (pv 7) pe_int (fun _ _ => rfl)) (fun _ _ => rfl))) pa_nil)))))))))))))), ?_⟩
    have E6 : (10 : Int) ^ (6 : Int).toNat = 1000000 := rfl
    have E12 : (10 : Int) ^ (12 : Int).toNat = 1000000000000 := rfl
    have E30 : (10 : Int) ^ (30 : Int).toNat = 1000000000000000000000000000000 := rfl
    walk_at "rdg"
    refine rd_take w0 (by decide) (by decide) fun e1 H1 o1 w1 e10 e11 => ?_
    walk_at "rdg"
    refine rd_take w1 (by decide) (by decide) fun e2 H2 o2 w2 e20 e21 => ?_
    walk_at "rdg"
    refine rd_take w2 (by decide) (by decide) fun e3 H3 o3 w3 e30 e31 => ?_
    walk_at "rdg"
    refine rd_take w3 (by decide) (by decide) fun e4 H4 o4 w4 e40 e41 => ?_
    walk_at "rdg"
    refine rd_take w4 (by decide) (by decide) fun e5 H5 o5 w5 e50 e51 => ?_
    walk_at "rdg"
    refine rd_take w5 (by decide) (by decide) fun e6 H6 o6 w6 e60 e61 => ?_
    walk_at "rdg"
    refine rd_take w6 (by decide) (by decide) fun e7 H7 o7 w7 e70 e71 => ?_
    have o17 := (((((o1.trans o2).trans o3).trans o4).trans o5).trans o6).trans o7
    walk_at "rdg"
    refine r_new (by show 6 ≤ 1000; decide) fun l hl => ?_
    have sl := Same.new (o := .lst [.int e4, .int e5, .int e6, .int e7, .int 0, .int 0]) hl
    walk_at "rdg"
    refine r_pick [e4, e5, e6, e7, 0, 0] upd_same e10 e11 fun t0 ht0 => ?_
    have t00 : 0 ≤ t0 ∧ t0 < 10 ^ 30 := by
      simp only [List.mem_cons, List.not_mem_nil, or_false] at ht0
      omega
    walk_at "rdg"
    refine ⟨e3, rfl, by omega, ?_⟩
    walk_at "rdg"
    refine rd_take (w7.same sl) (by decide) (by decide) fun e8 H8 o8 w8 e80 e81 => ?_
    have o18 := (o17.trans (Out.of sl)).trans o8
    walk_at "rdg"
    refine r_new (by show 6 ≤ 1000; decide) fun m hm => ?_
    have sm := Same.new (o := .lst [.int (1 + e2), .int (10 ^ e3.toNat), .int 1, .int (1 + e8), .int (1 + e2), .int (1 + e2)]) hm
    walk_at "rdg"
    have tb : (0 : Int) < 10 ^ e3.toNat ∧ (10 : Int) ^ e3.toNat ≤ 10 ^ 12 := by
      constructor
      · exact Int.pow_pos (by decide)
      · have : (10 : Nat) ^ e3.toNat ≤ 10 ^ 12 := Nat.pow_le_pow_right (by decide) (by omega)
        exact_mod_cast this
    refine r_pick [1 + e2, 10 ^ e3.toNat, 1, 1 + e8, 1 + e2, 1 + e2] upd_same e10 e11 fun b0 hb0 => ?_
    have b00 : 0 < b0 ∧ b0 ≤ 1000000000000 := by
      have E : (10 : Int) ^ 12 = 1000000000000 := by decide
      simp only [List.mem_cons, List.not_mem_nil, or_false] at hb0
      omega
    have wm := w8.same sm
    have om := o18.trans (Out.of sm)
    generalize upd H8 m (.lst [.int (1 + e2), .int (10 ^ e3.toNat), .int 1, .int (1 + e8), .int (1 + e2), .int (1 + e2)]) = H9 at *
    let Mid : L2.St → Hp → Prop := fun σ' H' => ∃ (t b : Int) (v6 : Option V), σ' = [some (.ref d), some (.int e1), some (.int (1 + e2)), some (.int e3), some (.int t), some (.int b), v6, none] ∧ Out d H H' ∧ WellAt H' d ∧ (0 ≤ t ∧ t < 10 ^ 32) ∧ (0 < b ∧ b ≤ 1000000000000)
    walk_at "rdg"
    refine r_cut Mid ?_ ?_
    · walk_at "rdg"
      refine r_ite (fun e => ?_) (fun e => ?_)
      · walk_at "rdg"
        refine r_rng1 ?_
        walk_at "rdg"
        refine rd_take wm (by decide) (by decide) fun e9 H10 o10 w10 e90 e91 => ?_
        walk_at "rdg"
        refine ⟨_, rfl, by omega, by omega, ?_⟩
        refine for_range (lo := 0) (n := e9.toNat) (fun i σ H' => ∃ (v : Option V) (b : Int), σ = [some (.ref d), some (.int e1), some (.int (1 + e2)), some (.int e3), some (.int t0), some (.int b), v, none] ∧ Out d H H' ∧ WellAt H' d ∧ 0 < b ∧ b ≤ 1000000000000 * 5 ^ i) ⟨none, b0, rfl, om.trans o10, w10, by omega, by omega⟩ ?_ ?_
        · rintro i σ H11 hi ⟨v, b, rfl, o11, w11, bp, bl⟩
          have bn : b.natAbs < 2 ^ 100 := by
            have f : (5 : Nat) ^ i ≤ 5 ^ 20 := five_mono (by omega)
            have f' : (5 : Int) ^ i ≤ 5 ^ 20 := by exact_mod_cast f
            have E : (5 : Int) ^ 20 = 95367431640625 := by decide
            omega
          walk_at "rdg"
          refine r_new (by show 2 ≤ 1000; decide) fun q hq => ?_
          have sq := Same.new (o := .lst [.int 2, .int 5]) hq
          walk_at "rdg"
          refine rd_take (w11.same sq) (by decide) (by decide) fun e12 H12 o12 w12 e120 e121 => ?_
          have hQ := o12 q _ (well_ne w11 hq) upd_same
          refine r_pick [2, 5] hQ e120 e121 fun f hf => ?_
          have f2 : f = 2 ∨ f = 5 := by simpa using hf
          walk_at "rdg"
          refine r_I (wide_mul (a := 100) (b := 3) bn (by omega) (by decide) (by decide) (by decide)) ?_
          walk_at "rdg"
          refine ⟨_, b * f, rfl, (o11.trans (Out.of sq)).trans o12, w12, ?_, ?_⟩
          · rcases f2 with rfl | rfl <;> omega
          · rw [Int.pow_succ, ← Int.mul_assoc]
            generalize 1000000000000 * (5 : Int) ^ i = z at *
            rcases f2 with rfl | rfl <;> omega
        · rintro σ H11 ⟨v, b, rfl, o11, w11, bp, bl⟩
          walk_at "rdg"
          refine ⟨_, _, rfl, ?_⟩
          walk_at "rdg"
          refine ⟨t0, _, v, rfl, o11, w11, ⟨t00.1, Int.lt_trans t00.2 (by decide)⟩, ?_⟩
          rw [E12]
          split <;> omega
      · walk_at "rdg"
        exact ⟨t0, b0, none, rfl, om, wm, ⟨t00.1, Int.lt_trans t00.2 (by decide)⟩, b00⟩
    rintro σ H10 ⟨t1, b1, v6, rfl, o10, w10, t10, b10⟩
    walk_at "rdg"
    refine r_cut Mid ?_ ?_
    · walk_at "rdg"
      refine r_ite (fun e => ?_) (fun e => ?_)
      · walk_at "rdg"
        refine rd_take w10 (by decide) (by decide) fun e9 H11 o11 w11 e90 e91 => ?_
        walk_at "rdg"
        refine ⟨e9, rfl, by omega, ?_⟩
        walk_at "rdg"
        refine rd_take w11 (by decide) (by decide) fun e12 H12 o12 w12 e120 e121 => ?_
        walk_at "rdg"
        have pb : (0 : Int) < 10 ^ e9.toNat ∧ (10 : Int) ^ e9.toNat ≤ 10 ^ 28 := by
          constructor
          · exact Int.pow_pos (by decide)
          · have : (10 : Nat) ^ e9.toNat ≤ 10 ^ 28 := Nat.pow_le_pow_right (by decide) (by omega)
            exact_mod_cast this
        have E28 : (10 : Int) ^ 28 = 10000000000000000000000000000 := by decide
        have E32 : (10 : Int) ^ 32 = 100000000000000000000000000000000 := by decide
        exact ⟨_, b1, v6, rfl, (o10.trans o11).trans o12, w12, by omega, b10⟩
      · walk_at "rdg"
        exact ⟨t1, b1, v6, rfl, o10, w10, t10, b10⟩
    rintro σ H11 ⟨t2, b2, v6, rfl, o11, w11, t20, b20⟩
    have E32 : (10 : Int) ^ 32 = 100000000000000000000000000000000 := by decide
    walk_at "rdg"
    refine r_cut (fun σ' H' => ∃ (t b : Int) (v6 : Option V), σ' = [some (.ref d), some (.int e1), some (.int (1 + e2)), some (.int e3), some (.int t), some (.int b), v6, none] ∧ Out d H H' ∧ WellAt H' d ∧ (t.natAbs < 2 ^ 110) ∧ (0 < b ∧ b ≤ 1000000000000)) ?_ ?_
    · walk_at "rdg"
      refine r_ite (fun e => ?_) (fun e => ?_)
      · walk_at "rdg"
        refine r_I (wide_mul (a := 107) (b := 4) (by omega) (by omega) (by decide) (by decide) (by decide)) ?_
        walk_at "rdg"
        refine r_I (wide_mul (a := 50) (b := 4) (by omega) (by omega) (by decide) (by decide) (by decide)) ?_
        walk_at "rdg"
        refine ⟨_, _, rfl, ?_⟩
        walk_at "rdg"
        refine ⟨_, _, v6, rfl, o11, w11, ?_, ?_⟩
        · have := natAbs_mul_lt (a := t2) (b := 1 + e2) (m := 107) (n := 4) (k := 111) (by omega) (by omega) (by decide)
          have t3 : t2 * (1 + e2) ≤ t2 * 12 := Int.mul_le_mul_of_nonneg_left (by omega) (by omega)
          have t4 : 0 ≤ t2 * (1 + e2) := Int.mul_nonneg (by omega) (by omega)
          omega
        · have b3 : 0 < b2 * (1 + e2) := Int.mul_pos (by omega) (by omega)
          rw [E12]
          split <;> omega
      · walk_at "rdg"
        exact ⟨t2, b2, v6, rfl, o11, w11, by omega, b20⟩
    rintro σ H12 ⟨t, b, v6, rfl, o12, w12, tn, bn⟩
    walk_at "rdg"
    refine rd_take w12 (by decide) (by decide) fun e13 H13 o13 w13 e130 e131 => ?_
    walk_at "rdg"
    refine rd_take w13 (by decide) (by decide) fun e14 H14 o14 w14 e140 e141 => ?_
    walk_at "rdg"
    refine .inr ⟨_, rfl, ?_⟩
    walk_at "rdg"
    refine r_new (by show 2 ≤ 1000; decide) fun sg hsg => ?_
    generalize decide (e14 = 1) = bb
    have s15 := Same.new (o := .lst [.int e13, .int (if bb then 1 else 0)]) hsg
    have hG : upd H14 sg (.lst [.int e13, .int (if bb then 1 else 0)]) sg = some (.lst [.int e13, .int (if bb then 1 else 0)]) := upd_same
    generalize upd H14 sg (.lst [.int e13, .int (if bb then 1 else 0)]) = H15 at *
    walk_at "rdg"
    refine r_new (by show 2 ≤ 1000; decide) fun q1 hq1 => ?_
    have s16 := Same.new (o := .lst [.int 1, .int (-1)]) hq1
    walk_at "rdg"
    refine r_ixL (s16 _ _ hG) (atI_nat (j := 0) rfl) ?_
    refine r_pick [1, -1] upd_same e130 e131 fun f1 hf1 => ?_
    have f1' : f1 = 1 ∨ f1 = -1 := by simpa using hf1
    walk_at "rdg"
    refine r_I (wide_mul (a := 110) (b := 2) tn (by omega) (by decide) (by decide) (by decide)) ?_
    walk_at "rdg"
    refine r_new (by show 2 ≤ 1000; decide) fun q2 hq2 => ?_
    have s17 := Same.new (o := .lst [.int 1, .int (-1)]) hq2
    walk_at "rdg"
    refine r_ixL (s17 _ _ (s16 _ _ hG)) (atI_nat (j := 1) rfl) ?_
    refine r_ixL upd_same (two_at bb) ?_
    walk_at "rdg"
    have f2' : (if bb = true then (-1 : Int) else 1) = 1 ∨ (if bb = true then (-1 : Int) else 1) = -1 := by cases bb <;> simp
    generalize (if bb = true then (-1 : Int) else 1) = f2 at *
    refine r_I (wide_mul (a := 50) (b := 2) (by omega) (by omega) (by decide) (by decide) (by decide)) ?_
    walk_at "rdg"
    refine r_new (by show 2 ≤ 1000; decide) fun p hp => ?_
    have s18 := Same.new (o := .tup [.int (t * f1), .int (b * f2)]) hp
    have sA := ((s15.trans s16).trans s17).trans s18
    refine k p _ _ _ (((o12.trans o13).trans o14).trans (Out.of sA)) (w14.same sA) upd_same ?_ ?_ ?_
    · rcases f1' with rfl | rfl <;> omega
    · rcases f2' with rfl | rfl <;> omega
    · rcases f2' with rfl | rfl <;> omega
/-! ### lowest terms, by Euclid -/
def spLowest : Sp := fun vs H Q _ => ∃ (t b : Int), vs = [.int t, .int b] ∧ b ≠ 0 ∧ b.natAbs < 2 ^ 1900 ∧ ∀ (p : Addr) (H' : Hp), Same H H' → H p = none → H' p = some (.tup [.int (Rat.divInt t b).num, .int ((Rat.divInt t b).den : Int)]) → Q (.ref p) H'
theorem ok_l_lowest (T : Txt w K mg) : FnOk P w K mg base CX0 1 T.f_l_lowest T.fd_l_lowest ["_law_top", "_law_bottom"] spLowest := by
  refine T.F_l_lowest.ok sc_l_lowest (fun vs H Q E h => ?_) (fun cdv A outer s H vs Q E hr h => ?_)
  · obtain ⟨t, b, rfl, _⟩ := h
    rfl
  · obtain ⟨t, b, rfl, hb, bb, k⟩ := h
    refine ⟨_, (pss_cons (ps_par (i := 2) (j := 3) rfl sc_l_lowest.nd rfl rfl (by decide) rfl rfl (pa_cons (pe_callB call_abs (by rfl) T.n_abs (by decide +kernel) (pa_cons (pv 0) pa_nil)) (pa_cons (pe_callB call_abs (by rfl) T.n_abs (by decide +kernel) (pa_cons (pv 1) pa_nil)) pa_nil)) (by rfl))
 (pss_cons (ps_while PassesOwn.never (pt_cmpR op_gt (pv 3) pe_int (nomark _))
  (pss_one (ps_par (i := 2) (j := 3) rfl sc_l_lowest.nd rfl rfl (by decide) rfl rfl (pa_cons (pv 3) (pa_cons (pe_op op_mod (pv 2) (pv 3)) pa_nil)) (by rfl))))
 (C8.pss_cut (ps_if (pt_cmpR op_lt (pv 1) pe_int (nomark _))
  (pss_one (ps_set (i := 2) sc_l_lowest.nd rfl (Or.inl rfl) (pe_op op_sub pe_int (pv 2))))
  pss_nil)
 (pss_one (ps_ret (pe_tup (pa_cons (pe_op op_fdivA (pv 0) (pv 2)) (pa_cons (pe_op op_fdivA (pv 1) (pv 2)) pa_nil)))))))), ?_⟩
    walk_at "rdg"
    refine ⟨_, rfl, ?_⟩
    walk_at "rdg"
    refine ⟨_, rfl, ?_⟩
    walk_at "rdg"
    refine ⟨fun m σ H' => ∃ (i j : Nat), σ = [some (.int t), some (.int b), some (.int (i : Int)), some (.int (j : Int))] ∧ H' = H ∧ Nat.gcd i j = Nat.gcd t.natAbs b.natAbs ∧ j < 2 ^ 1900 ∧ m = j, ⟨b.natAbs, t.natAbs, b.natAbs, ?_, rfl, rfl, bb, rfl⟩, ?_⟩
    · have e1 : (if t < 0 then -t else t) = (t.natAbs : Int) := by split <;> omega
      have e2 : (if b < 0 then -b else b) = (b.natAbs : Int) := by split <;> omega
      rw [e1, e2]
      rfl
    · rintro m σ H' ⟨i, j, rfl, rfl, hg, jb, rfl⟩
      walk_at "rdg"
      refine r_ite (fun e => ?_) (fun e => ?_)
      · have jp : 0 < m := by have := of_decide_eq_true e; omega
        refine ⟨fun σ' H2 => σ' = [some (.int t), some (.int b), some (.int (m : Int)), some (.int ((i % m : Nat) : Int))] ∧ H2 = H', ?_, ?_⟩
        · rintro σ' H2 ⟨rfl, rfl⟩
          refine ⟨i % m, Nat.mod_lt _ jp, m, i % m, rfl, rfl, ?_, Nat.lt_trans (Nat.mod_lt _ jp) jb, rfl⟩
          rw [← hg, Nat.gcd_comm i m, Nat.gcd_rec m i, Nat.gcd_comm]
        · walk_at "rdg"
          refine r_I (show (0 : Int) < m by omega) ?_
          walk_at "rdg"
          refine ⟨?_, rfl⟩
          rw [Int.natCast_emod]
          rfl
      · have j0 : m = 0 := by have := of_decide_eq_false e; omega
        subst j0
        rw [Nat.gcd_zero_right] at hg
        have cd : cdiv t b = if b < 0 then -(i : Int) else (i : Int) := by
          unfold cdiv
          rw [hg]
        have gp : 0 < i := by rw [hg]; exact gcd_pos (by omega)
        have gb : i < 2 ^ 1900 := by
          have : i ≤ b.natAbs := by rw [hg]; exact Nat.gcd_le_right _ (by omega)
          exact Nat.lt_of_le_of_lt this bb
        have n := num_of (t := t) (b := b) hb
        have d := den_of (t := t) (b := b) hb
        walk_at "rdg"
        refine r_cut (fun σ' H2 => ∃ v, σ' = [some (.int t), some (.int b), some (.int (cdiv t b)), v] ∧ H2 = H') ?_ ?_
        · walk_at "rdg"
          refine r_ite (fun z => ?_) (fun z => ?_)
          · walk_at "rdg"
            rw [if_pos (of_decide_eq_true z)] at cd
            refine ⟨some (.int ((0 : Nat) : Int)), ?_, rfl⟩
            rw [cd, Int.zero_sub]
            rfl
          · walk_at "rdg"
            rw [if_neg (of_decide_eq_false z)] at cd
            refine ⟨some (.int ((0 : Nat) : Int)), ?_, rfl⟩
            rw [cd]
        rintro σ H2 ⟨v, rfl, rfl⟩
        have c0 : CDivA t (cdiv t b) ∧ CDivA b (cdiv t b) := by
          have n0 : cdiv t b ≠ 0 := by rw [cd]; split <;> omega
          have nb : (cdiv t b).natAbs < 2 ^ 1900 := by rw [cd]; split <;> omega
          exact ⟨cdivA n0 nb (by decide) (by decide), cdivA n0 nb (by decide) (by decide)⟩
        walk_at "rdg"
        refine r_I c0.1 ?_
        walk_at "rdg"
        refine r_I c0.2 ?_
        walk_at "rdg"
        refine r_new (by show 2 ≤ 1000; decide) fun p hp => ?_
        refine k p _ (Same.new hp) hp ?_
        rw [upd_same, n, d]
end
end My

namespace My
open PySem L2
theorem no_over (q : Rat) : (nf q).lookup ("over" : Str) = none := nf_no _ (by decide +kernel) (by decide +kernel)
theorem no_less (q : Rat) : (nf q).lookup ("less" : Str) = none := nf_no _ (by decide +kernel) (by decide +kernel)
theorem no_times (q : Rat) : (nf q).lookup ("times" : Str) = none := nf_no _ (by decide +kernel) (by decide +kernel)
theorem no_floor (q : Rat) : (nf q).lookup ("floor" : Str) = none := nf_no _ (by decide +kernel) (by decide +kernel)
section
variable {P : Program} {w : World} {K : PySem.W.Frag} {mg : Str → Option Value} {base : Heap}
theorem is_num (T : Txt w K mg) {H : Hp} {p : Addr} {q : Rat} {Q : VK} (h : NumAt T.C_Number H p q) (k : Q (.bl true) H) : rIsi K [.ref p, .ref T.C_Number] H Q := by
  obtain ⟨dx, e⟩ := h
  exact ⟨.ref p, .ref T.C_Number, .ref T.C_Number, .ref T.C_Number, true, rfl, .own _, .base (.ins e T.c_Number T.ty_Number_c T.ty_Number_g T.ty_Number_t T.ty_Number_m), T.ty_Number_k, k⟩
end
end My

namespace My
open PySem L2
section
variable {P : Program} {w : World} {K : PySem.W.Frag} {mg : Str → Option Value} {base : Heap}
/-! ### the refusals: Number(t, 0), x.over(nought) -/
def topX (t : Int) : HO := .xd [(("top" : Str), .int t)]
theorem r_raiseNoB {C : Addr} {W : WX} {ta : TA} {D : Ends} {σ : L2.St} {H : Hp} (q : ta σ H fun vs H1 => ∃ v, vs = [v] ∧ ∀ d, H1 d = none → W (.ref C) (some d) σ (upd H1 d (.xd [(("top" : Str), v)]))) : tRaiseNoB C W ta D σ H := q
def spInitX (C N : Addr) : Sp := fun vs H _ E => ∃ (p dx : Addr) (t : Int), vs = [.ref p, .int t, .int 0] ∧ H p = some (.ins C dx []) ∧ ∀ d : Addr, H d = none → E (.ref N) (some d) (upd H d (topX t))
theorem ok_Number_initX (T : Txt w K mg) : FnOk P w K mg base (L2.CX P w) 2 T.f_Number_init T.fd_Number_init ["self", "top", "bottom"] (spInitX T.C_Number T.C_NoBottom) := by
  refine T.F_Number_init.ok sc_Number_init (fun vs H Q E h => ?_) (fun cdv A outer s H vs Q E hr h => ?_)
  · obtain ⟨p, dx, t, rfl, _⟩ := h
    rfl
  · obtain ⟨p, dx, t, rfl, hp, k⟩ := h
    refine ⟨_, (pss_cons (ps_if (pt_cmpR op_eq (pv 2) pe_int (nomark _)) (pss_one (ps_raiseNoB rfl T.noB hr (takes_of rfl rfl rfl rfl) (by exact (pa_cons (pv 1) pa_nil)))) pss_nil) (pss_cons ps_never (pss_cons ps_never (pss_cons ps_never (pss_one ps_never))))), ?_⟩
    walk_at "rd"
    refine r_iteT rfl ?_
    refine r_raiseNoB ?_
    walk_at "rd"
    exact ⟨_, rfl, k⟩
def spOverX (C N : Addr) : Sp := fun vs H _ E => ∃ (p q : Addr) (x : Rat), vs = [.ref p, .ref q] ∧ NumAt C H p x ∧ NumAt C H q 0 ∧ ∀ d : Addr, H d = none → E (.ref N) (some d) (upd H d (topX x.num))
theorem ok_Number_overX (T : Txt w K mg) : FnOk P w K mg base (L2.CX P w) 2 T.f_Number_over T.fd_Number_over ["self", "other"] (spOverX T.C_Number T.C_NoBottom) := by
  refine T.F_Number_over.okX sc_Number_over (fun vs H Q E h => ?_) (fun cdv A outer s H vs Q E hr h => ?_)
  · obtain ⟨p, q, x, rfl, _⟩ := h
    rfl
  · obtain ⟨p, q, x, rfl, ⟨dp, hp⟩, ⟨dq, hq⟩, k⟩ := h
    have cN := T.c_Number
    have nT := T.n_Number_top
    have nB := T.n_Number_bottom
    refine ⟨_, (pss_cons (ps_if (pt_cmpR op_eq (pe_fld (pv 1) rfl) pe_int (nomark _)) (pss_one (ps_raiseNoB rfl T.noB hr (takes_of rfl rfl rfl rfl) (by exact (pa_cons (pe_fld (pv 0) rfl) pa_nil)))) pss_nil) (pss_one ps_never)), ?_⟩
    walk_at "rdf"
    refine r_iteT rfl ?_
    refine r_raiseNoB ?_
    walk_at "rdf"
    exact ⟨_, rfl, k⟩
theorem r_isErr {K : PySem.W.Frag} {D a dd : Addr} {l : List (Str × V)} {H : Hp} {Q : VK} {c : V} {cv : Value} {b : Bool} (hd : H dd = some (.xd l)) (k : ClsV c cv) (h : PySem.W.kitOne K (.ref D) cv = some b) (q : Q (.bl b) H) : rIsErr K D a (.ref D) (some dd) [.ref a, c] H Q := ⟨rfl, dd, l, rfl, hd, .inl ⟨c, cv, b, rfl, k, h, q⟩⟩
theorem r_methE {C : Addr} {m : Str} {sp : Sp} {E : L2.St → XK} {ta : TE} {t : TA} {σ : L2.St} {H : Hp} {Q : VK} (q : ta σ H fun v H1 => ∃ a dq fs, v = .ref a ∧ H1 a = some (.ins C dq fs) ∧ fs.lookup m = none ∧ t σ H1 fun vs H2 => sp (.ref a :: vs) H2 Q (E σ)) : tMethE C m sp E ta t σ H Q := q
theorem r_makeE {C : Addr} {sp : Sp} {E : L2.St → XK} {t : TA} {σ : L2.St} {H : Hp} {Q : VK} (q : t σ H fun vs H1 => ∀ q dq, H1 q = none → H1 dq = none → dq ≠ q → sp (.ref q :: vs) (upd (upd H1 dq (.own q)) q (.ins C dq [])) (fun v H2 => v = .non ∧ Q (.ref q) H2) (E σ)) : tMakeE C sp E t σ H Q := q
theorem r_topNoB {C a : Addr} {cls : Value} {d : Option Addr} {te : TE} {σ : L2.St} {H : Hp} {Q : VK} (q : te σ H fun x H1 => x = .ref a ∧ cls = .ref C ∧ ∃ (dd : Addr) (v : V), d = some dd ∧ H1 dd = some (.xd [(("top" : Str), v)]) ∧ Q v H1) : tTopNoB C a cls d te σ H Q := q
/-- what the suite does with the error at a -/
def t_nought (K : PySem.W.Frag) (N FE NT US : Addr) : Addr → Value → Option Addr → TS := fun a cls d =>
  tSeq (tAsg (tCB (rIsErr K N a cls d) (tCons (tVar 4) (tCons (tTup (tCons (tC (.ty "ValueError")) (tCons (tC (.ref FE)) (tCons (tC (.ref NT)) (tCons (tC (.ref US)) tNil))))) tNil))) (gName 5))
    (tDrop (tBM K "list" rAppend (tVar 2) (tCons (tTup (tCons (tTopNoB N a cls d (tVar 4)) (tCons (tAndV (tCB (rIsErr K N a cls d) (tCons (tVar 4) (tCons (tC (.ty "ArithmeticError")) tNil))) (tNotV (tVar 5))) tNil))) tNil)))
theorem r_for_two {g : TG} {tb : TS} {D : Ends} {σ : L2.St} {H : Hp} (Pv : Nat → L2.St → Hp → Prop) (h0 : Pv 0 σ H) (hs : ∀ (i : Nat) σ H, i < 2 → Pv i σ H → g (.int (0 + (i : Int))) σ H fun σ2 H2 => tb { D with nx := Pv (i + 1), ct := Pv (i + 1), bk := D.nx } σ2 H2) (hd : ∀ σ H, Pv 2 σ H → D.nx σ H) :
    tFor (iRng1 (tCons (tC (.int 2)) tNil)) g tb D σ H :=
  r_rng1 (show ∃ j : Int, [V.int 2] = [.int j] ∧ _ from ⟨2, rfl, by decide, by decide, for_range (lo := 0) (n := 2) Pv h0 hs hd⟩)
/-- what was found: two refusals -/
def Noughts (H : Hp) (l : Addr) (x t : Int) : Prop := ∃ a b, H l = some (.lst [.ref a, .ref b]) ∧ H a = some (.tup [.int x, .bl true]) ∧ H b = some (.tup [.int t, .bl true])
theorem r_append2 {H : Hp} {Q : VK} {y : V} {p : Addr} {xs : List V} (h : H p = some (.lst xs)) (l : xs.length ≤ 100000) (q : Q .non (upd H p (.lst (xs ++ [y])))) : rAppend (.ref p) [y] H Q := ⟨p, xs, y, rfl, rfl, h, Nat.lt_of_le_of_lt l (by decide), q⟩
theorem any_none {K : PySem.W.Frag} {t a b c d : Value} (ha : PySem.W.kitOne K t a = some false) (hb : PySem.W.kitOne K t b = some false) (hc : PySem.W.kitOne K t c = some false) (hd : PySem.W.kitOne K t d = some false) : PySem.W.kitAny K t [a, b, c, d] = some false :=
  kitAny_cons ha (fun _ => kitAny_cons hb (fun _ => kitAny_cons hc (fun _ => kitAny_cons hd (fun _ => rfl) (fun z => nomatch z)) (fun z => nomatch z)) (fun z => nomatch z)) (fun z => nomatch z)
theorem nought_suite (T : Txt w K mg) {D : Ends} {s0 s1 s3 s5 : Option V} {H : Hp} {d l a0 : Addr} {z : Int} {xs : List V} (hd : H d = some (topX z)) (hl : H l = some (.lst xs)) (len : xs.length ≤ 10)
    (k : ∀ (p : Addr) (H' : Hp), Out l H H' → H' l = some (.lst (xs ++ [.ref p])) → H' p = some (.tup [.int z, .bl true]) → D.nx [s0, s1, some (.ref l), s3, some (.ref a0), some (.bl false)] H') :
    t_nought K T.C_NoBottom T.C_FigureError T.C_NoText T.C_Unsorted a0 (.ref T.C_NoBottom) (some d) D [s0, s1, some (.ref l), s3, some (.ref a0), s5] H := by
  unfold t_nought
  walk_at "rdh"
  refine r_new (by show 4 ≤ 1000; decide) fun tp htp => ?_
  have s1' := Same.new (o := .tup [.ty "ValueError", .ref T.C_FigureError, .ref T.C_NoText, .ref T.C_Unsorted]) htp
  refine ⟨rfl, d, _, rfl, s1' _ _ hd, .inr ⟨tp, _, _, false, rfl, upd_same, .cons (.ty _) (.cons (.own _) (.cons (.own _) (.cons (.own _) .nil))), any_none T.kt_VE T.kt_FigureError T.kt_NoText T.kt_Unsorted, ?_⟩⟩
  have hd1 := s1' _ _ hd
  have hl1 := s1' _ _ hl
  generalize upd H tp (.tup [.ty "ValueError", .ref T.C_FigureError, .ref T.C_NoText, .ref T.C_Unsorted]) = H1 at *
  walk_at "rdh"
  refine ⟨ty_list hl1, ?_⟩
  walk_at "rdh"
  refine r_topNoB ?_
  walk_at "rdh"
  refine ⟨rfl, rfl, d, _, rfl, hd1, ?_⟩
  walk_at "rdh"
  refine r_isErr hd1 (.ty _) T.kt_AE ?_
  walk_at "rdh"
  refine r_iteT rfl ?_
  walk_at "rdh"
  refine r_new (by show 2 ≤ 1000; decide) fun p hp => ?_
  have s2' := Same.new (o := .tup [.int z, .bl true]) hp
  walk_at "rdh"
  refine r_append2 (s2' _ _ hl1) (by omega) ?_
  walk_at "rdh"
  refine k p _ (fun b o nb hb => ?_) upd_same ?_
  · rw [upd_ne nb]
    exact s2' _ _ (s1' _ _ hb)
  · rw [upd_ne (ne_of_none hl1 hp).symm]
    exact upd_same
def spNought (C : Addr) : Sp := fun vs H Q _ => ∃ (n : Addr) (x : Rat) (t : Int), vs = [.ref n, .int t] ∧ NumAt C H n x ∧ t.natAbs < 2 ^ 1900 ∧ ∀ (l : Addr) (H' : Hp), Same H H' → Noughts H' l x.num t → Q (.ref l) H'
theorem ok_l_of_nought (T : Txt w K mg) : FnOk P w K mg base CX0 4 T.f_l_of_nought T.fd_l_of_nought ["_law_number", "_law_top"] (spNought T.C_Number) := by
  refine T.F_l_of_nought.ok sc_l_of_nought (fun vs H Q E h => ?_) (fun cdv A outer s H vs Q E hr h => ?_)
  · obtain ⟨n, x, t, rfl, _⟩ := h
    rfl
  · obtain ⟨n, x, t, rfl, hn, ht, k⟩ := h
    refine ⟨_, (pss_cons (ps_set (i := 2) sc_l_of_nought.nd rfl (Or.inl rfl) (pe_lst pa_nil))
     (pss_cons (ps_for PassesOwn.never rfl (pi_range1 rfl T.n_range (pa_cons pe_int pa_nil)) (pg_name (i := 3) sc_l_of_nought.nd rfl (Or.inl rfl))
      (pss_one (ps_try_as (i := 4) (ts := t_nought K T.C_NoBottom T.C_FigureError T.C_NoText T.C_Unsorted) (Wout := fun _ _ _ _ => False) rfl rfl sc_l_of_nought.nd rfl rfl ⟨rfl, by decide, Or.inl T.noB.gC⟩ takes0
        (fun W pn xe tk _ => by exact (pss_one (ps_if (pt_cmpR op_eq (pv 3) pe_int (nomark _))
          (pss_one (ps_expr (pe_methE (pv 0) T.c_Number T.me_Number_over (ok_Number_overX T) (hr.mono (by decide)) T.b_Number_over (fun σ => passAt tk σ)
            (pa_cons (pe_make T.mk_Number (ok_Number_init T) (hr.mono (by decide)) (by rfl) T.m_Number T.b_Number_init2 .nil pass0 (pa_cons pe_int (pa_cons (pe_op op_add pe_int (pe_op op_mod (pe_callB call_abs (by rfl) T.n_abs (by decide +kernel) (pa_cons (pv 1) pa_nil)) pe_int)) pa_nil))) pa_nil))))
          (pss_one (ps_expr (pe_makeE T.mk_Number (ok_Number_initX T) (hr.mono (by decide)) (by rfl) T.m_Number T.b_Number_init2 (fun σ => passAt tk σ) (pa_cons (pv 1) (pa_cons pe_int pa_nil))))))))
        (fun a oe cls d pn hz hf => by exact
          (pss_cons (ps_set (i := 5) sc_l_of_nought.nd rfl (Or.inl rfl) (pe_callB (call_isErr T.exB hz hf) (by rfl) T.n_isinstance (by decide +kernel) (pa_cons (pv 4) (pa_cons (pe_tup (pa_cons (pe_bltn (v := .ty "ValueError") (by rfl) T.n_ValueError (by decide +kernel) rfl) (pa_cons (pe_glob (v := .ref T.C_FigureError) (by rfl) T.m_FigureError rfl) (pa_cons (pe_glob (v := .ref T.C_NoText) (by rfl) T.m_NoText rfl) (pa_cons (pe_glob (v := .ref T.C_Unsorted) (by rfl) T.m_Unsorted rfl) pa_nil))))) pa_nil))))
          (pss_one (ps_expr (pe_bm PySem.F.plainAttrs_list PySem.F.slot_list_append PySem.F.type_list_append mt_append (pv 2) (pa_cons (pe_tup (pa_cons (pe_topNoB T.noB hz hf (pv 4)) (pa_cons (pe_and (pe_callB (call_isErr T.exB hz hf) (by rfl) T.n_isinstance (by decide +kernel) (pa_cons (pv 4) (pa_cons (pe_bltn (v := .ty "ArithmeticError") (by rfl) T.n_ArithmeticError (by decide +kernel) rfl) pa_nil))) (pe_one (pe_not (pv 5)))) pa_nil))) pa_nil)))))))))
     (pss_one (ps_ret (pv 2))))), ?_⟩
    walk_at "rdh"
    refine r_new (by show 0 ≤ 1000; decide) fun l hl => ?_
    have s0 := Same.new (o := .lst []) hl
    have hl0 := upd_same (H := H) (a := l) (o := HO.lst [])
    have ho0 : Out l H (upd H l (.lst [])) := fun b o nb hb => by rw [upd_ne nb]; exact hb
    generalize upd H l (.lst []) = H0 at *
    walk_at "rdh"
    refine r_for_two (fun i σ H' => ∃ v3 v5 : Option V, σ = [some (.ref n), some (.int t), some (.ref l), v3, none, v5] ∧ Out l H0 H' ∧ ((i = 0 ∧ H' l = some (.lst [])) ∨ (i = 1 ∧ ∃ a, H' l = some (.lst [.ref a]) ∧ H' a = some (.tup [.int x.num, .bl true])) ∨ (i = 2 ∧ Noughts H' l x.num t)))
      ⟨_, _, rfl, fun _ _ _ h => h, .inl ⟨rfl, hl0⟩⟩ ?_ ?_
    · rintro i σ H2 hi ⟨v3, v5, rfl, o2, cases'⟩
      have nl : n ≠ l := by
        obtain ⟨dn, hn⟩ := hn
        exact ne_of_none hn hl
      obtain ⟨dn, hn2⟩ : NumAt T.C_Number H2 n x := by
        obtain ⟨dn, hn⟩ := hn
        exact ⟨dn, o2 _ _ nl (s0 _ _ hn)⟩
      rcases cases' with ⟨rfl, hl2⟩ | ⟨rfl, a, hl2, ha2⟩ | ⟨rfl, _⟩
      · walk_at "rdh"
        refine r_iteT rfl ?_
        walk_at "rdh"
        refine r_methE ?_
        walk_at "rdh"
        refine ⟨n, dn, _, rfl, hn2, no_over _, ?_⟩
        walk_at "rdh"
        refine ⟨_, rfl, ?_⟩
        walk_at "rdh"
        have m97 := Int.emod_lt_of_pos (if t < 0 then -t else t) (show (0 : Int) < 97 by decide)
        have m0 := Int.emod_nonneg (if t < 0 then -t else t) (show (97 : Int) ≠ 0 by decide)
        generalize (if t < 0 then -t else t) % 97 = m at *
        refine mk_num (by omega) (Nat.lt_of_lt_of_le (by omega : (1 + m).natAbs < 2 ^ 10) (Nat.pow_le_pow_right (by decide) (by decide))) fun q H3 s3 _ h3 => ?_
        have z0 : Rat.divInt 0 (1 + m) = 0 := Rat.zero_divInt _
        rw [z0] at h3
        walk_at "rdh"
        refine ⟨n, q, x, rfl, ⟨dn, s3 _ _ hn2⟩, h3, fun d hd => ?_⟩
        refine ⟨true, T.noB.te, fun _ a0 _ => ?_, fun q => Bool.noConfusion q⟩
        refine nought_suite T upd_same (by rw [upd_ne (ne_of_none (s3 _ _ hl2) hd)]; exact s3 _ _ hl2) (by decide) fun p H4 o4 hl4 hp4 => ?_
        refine ⟨_, _, rfl, fun b o nb hb => o4 b o nb ?_, .inr (.inl ⟨rfl, p, hl4, hp4⟩)⟩
        have hb2 := s3 _ _ (o2 b o nb hb)
        rw [upd_ne (ne_of_none hb2 hd)]
        exact hb2
      · walk_at "rdh"
        refine r_iteF rfl ?_
        walk_at "rdh"
        refine r_makeE ?_
        walk_at "rdh"
        intro q dq hq hdq ne
        refine ⟨q, dq, t, rfl, upd_same, fun d hd => ?_⟩
        refine ⟨true, T.noB.te, fun _ a0 _ => ?_, fun q => Bool.noConfusion q⟩
        have s3 : Same H2 (upd (upd H2 dq (.own q)) q (.ins T.C_Number dq [])) := fun b o hb => by
          rw [upd_ne (ne_of_none hb hq), upd_ne (ne_of_none hb hdq)]
          exact hb
        refine nought_suite T upd_same (by rw [upd_ne (ne_of_none (s3 _ _ hl2) hd)]; exact s3 _ _ hl2) (by show 1 ≤ 10; decide) fun p H4 o4 hl4 hp4 => ?_
        have al : a ≠ l := fun z => by
          rw [z, hl2] at ha2
          cases ha2
        have ha3 := s3 _ _ ha2
        have ha4 : H4 a = some (.tup [.int x.num, .bl true]) := o4 a _ al (by rw [upd_ne (ne_of_none ha3 hd)]; exact ha3)
        refine ⟨_, _, rfl, fun b o nb hb => o4 b o nb ?_, .inr (.inr ⟨rfl, a, p, hl4, ha4, hp4⟩)⟩
        have hb2 := s3 _ _ (o2 b o nb hb)
        rw [upd_ne (ne_of_none hb2 hd)]
        exact hb2
      · omega
    · rintro σ H2 ⟨v3, v5, rfl, o2, cases'⟩
      rcases cases' with ⟨h, _⟩ | ⟨h, _⟩ | ⟨_, nn⟩
      · cases h
      · cases h
      walk_at "rdh"
      exact k l H2 (fun b o hb => o2 b o (ne_of_none hb hl) (s0 _ _ hb)) nn
end
end My

namespace My
open PySem L2
structure Fine (d : PyData) (n : Nat) : Prop where
  sh : d.showable = true
  hd : d.hasDict = false
  dp : d.depth ≤ 2
  ls : d.leavesShort 1921 = true
  wt : d.weight ≤ n
theorem fine_int {z : Int} (h : z.natAbs < 2 ^ 1900) : Fine (.int z) 1921 := by
  have l : z.natAbs.log2 < 1920 := Nat.lt_of_lt_of_le (PySem.Flt.log2_lt_of (by decide) h) (by decide)
  refine ⟨?_, by simp [PyData.hasDict], by simp [PyData.depth], ?_, ?_⟩
  · simp only [PyData.showable, decide_eq_true_eq]; omega
  · simp only [PyData.leavesShort, decide_eq_true_eq]
    exact PyProof.Rows.int_text_len_1921 l
  · simp only [PyData.weight]
    split <;> omega
theorem fine_bool (b : Bool) : Fine (.bool b) 1921 := ⟨rfl, by simp [PyData.hasDict], by simp [PyData.depth], rfl, by simp [PyData.weight]⟩
theorem fine_pair {x y : PyData} {n m : Nat} (hx : Fine x n) (hy : Fine y m) (dx : x.depth ≤ 0) (dy : y.depth ≤ 0) : Fine (.tuple [x, y]) (n + m + 2) := by
  obtain ⟨a, b, c, d, e⟩ := hx
  obtain ⟨a', b', c', d', e'⟩ := hy
  refine ⟨?_, ?_, ?_, ?_, ?_⟩
  · simp only [PyData.showable, PyData.showableAll, Bool.and_true, a, a']
  · simp [PyData.hasDict, PyData.hasDictAll, b, b']
  · simp only [PyData.depth, PyData.depthAll]; omega
  · simp only [PyData.leavesShort, PyData.leavesShortAll, Bool.and_true, d, d']
  · simp only [PyData.weight, PyData.weightAll]; omega
theorem fits {d : PyData} {n : Nat} (h : Fine d n) (hn : n ≤ 8000) : d.showable = true ∧ d.hasDict = false ∧ d.depth ≤ 60 ∧ d.shown.length ≤ sizeLine := by
  obtain ⟨a, b, c, dd, e⟩ := h
  have le := PyData.shown_le 1921 (by decide) d dd
  have s : sizeLine = 16777216 := rfl
  exact ⟨a, b, by omega, by omega⟩
theorem fine_list2 {x y : PyData} {n m : Nat} (hx : Fine x n) (hy : Fine y m) (dx : x.depth ≤ 1) (dy : y.depth ≤ 1) : Fine (.list [x, y]) (n + m + 2) := by
  obtain ⟨a, b, c, d, e⟩ := hx
  obtain ⟨a', b', c', d', e'⟩ := hy
  refine ⟨?_, ?_, ?_, ?_, ?_⟩
  · simp only [PyData.showable, PyData.showableAll, Bool.and_true, a, a']
  · simp [PyData.hasDict, PyData.hasDictAll, b, b']
  · simp only [PyData.depth, PyData.depthAll]; omega
  · simp only [PyData.leavesShort, PyData.leavesShortAll, Bool.and_true, d, d']
  · simp only [PyData.weight, PyData.weightAll]; omega
theorem fine_list3 {x y z : PyData} {n m k : Nat} (hx : Fine x n) (hy : Fine y m) (hz : Fine z k) (dx : x.depth ≤ 1) (dy : y.depth ≤ 1) (dz : z.depth ≤ 1) : Fine (.list [x, y, z]) (n + m + k + 3) := by
  obtain ⟨a, b, c, d, e⟩ := hx
  obtain ⟨a', b', c', d', e'⟩ := hy
  obtain ⟨a2, b2, c2, d2, e2⟩ := hz
  refine ⟨?_, ?_, ?_, ?_, ?_⟩
  · simp only [PyData.showable, PyData.showableAll, Bool.and_true, a, a', a2]
  · simp [PyData.hasDict, PyData.hasDictAll, b, b', b2]
  · simp only [PyData.depth, PyData.depthAll]; omega
  · simp only [PyData.leavesShort, PyData.leavesShortAll, Bool.and_true, d, d', d2]
  · simp only [PyData.weight, PyData.weightAll]; omega
/-- below, below the other way, the floor -/
theorem three_found {p q : Bool} {z : Int} (h : z.natAbs < 2 ^ 1900) : let d := PyData.list [.bool p, .bool q, .int z]
    d.showable = true ∧ d.hasDict = false ∧ d.depth ≤ 60 ∧ d.shown.length ≤ sizeLine :=
  fits (fine_list3 (fine_bool p) (fine_bool q) (fine_int h) (by simp [PyData.depth]) (by simp [PyData.depth]) (by simp [PyData.depth])) (by decide)
/-- two refusals -/
theorem two_found {x t : Int} (hx : x.natAbs < 2 ^ 1900) (ht : t.natAbs < 2 ^ 1900) : let d := PyData.list [.tuple [.int x, .bool true], .tuple [.int t, .bool true]]
    d.showable = true ∧ d.hasDict = false ∧ d.depth ≤ 60 ∧ d.shown.length ≤ sizeLine :=
  fits (fine_list2 (fine_pair (fine_int hx) (fine_bool true) (by simp [PyData.depth]) (by simp [PyData.depth])) (fine_pair (fine_int ht) (fine_bool true) (by simp [PyData.depth]) (by simp [PyData.depth])) (by simp [PyData.depth, PyData.depthAll]) (by simp [PyData.depth, PyData.depthAll])) (by decide)
end My

namespace My
open PySem L2
section
variable {P : Program} {w : World} {K : PySem.W.Frag} {mg : Str → Option Value} {base : Heap}
def spIs2 (C : Addr) : Sp := fun vs H Q _ => ∃ (f : Addr) (t b : Int), vs = [.ref f, .int t, .int b] ∧ b ≠ 0 ∧ b.natAbs < 2 ^ 1900 ∧ t.natAbs < 2 ^ 1900 ∧ NumAt C H f (Rat.divInt t b) ∧ ∀ H' : Hp, Same H H' → Q (.bl true) H'
theorem okG_l_is (T : Txt w K mg) : FnG P w K mg base 2 T.f_l_is T.fd_l_is ["_law_found", "_law_top", "_law_bottom"] (spIs2 T.C_Number) := by
  refine FnG.by_body T.F_l_is sc_l_is (fun vs H Q E h => ?_) (fun cdv A outer s H vs Q E hG hr h => ?_)
  · obtain ⟨f, t, b, rfl, _⟩ := h
    rfl
  · obtain ⟨f, t, b, rfl, b0, bb, tb, ⟨df, hf⟩, k⟩ := h
    have cN := T.c_Number
    have nT := T.n_Number_top
    have nB := T.n_Number_bottom
    refine ⟨_, (pss_one (ps_ret (pe_and (pe_callB call_isi (by rfl) T.n_isinstance (by decide +kernel) (pa_cons (pv 0) (pa_cons (pe_glob (v := .ref T.C_Number) (by rfl) T.m_Number rfl) pa_nil))) (pe_one (pe_cmpR op_eq (pe_callB (call_repr hG hr.units) (by rfl) T.n_repr (by decide +kernel) (pa_cons (pe_tup (pa_cons (pe_fld (pv 0) rfl) (pa_cons (pe_fld (pv 0) rfl) pa_nil))) pa_nil)) (pe_callB (call_repr hG hr.units) (by rfl) T.n_repr (by decide +kernel) (pa_cons (pe_call (ok_l_lowest T) (hr.mono (by decide)) (by rfl) T.m_l_lowest T.F_l_lowest.kp T.b_l_lowest .nil pass0 (pa_cons (pv 1) (pa_cons (pv 2) pa_nil))) pa_nil)) (nomark _)))))), ?_⟩
    have nb : (Rat.divInt t b).num.natAbs < 2 ^ 1900 := Nat.lt_of_le_of_lt (num_le t b) tb
    have db : ((Rat.divInt t b).den : Int).natAbs < 2 ^ 1900 := Nat.lt_of_le_of_lt (den_le b0) bb
    walk_at "rdh"
    refine is_num T ⟨_, hf⟩ ?_
    walk_at "rdh"
    refine r_iteT rfl ?_
    walk_at "rdf"
    refine r_new (by show 2 ≤ 1000; decide) fun p hp => ?_
    have s1 := Same.new (o := .tup [.int (Rat.divInt t b).num, .int ((Rat.divInt t b).den : Int)]) hp
    refine ⟨p, .tuple [.int (Rat.divInt t b).num, .int ((Rat.divInt t b).den : Int)], rfl, .tup (SqT.of upd_same) (.cons (.int _) (.cons (.int _) .nil)), (data_two nb db).1, (data_two nb db).2.1, (data_two nb db).2.2, short_two nb db, ?_⟩
    walk_at "rdh"
    refine ⟨t, b, rfl, b0, bb, fun p2 H2 s2 _ h2 => ?_⟩
    refine ⟨p2, .tuple [.int (Rat.divInt t b).num, .int ((Rat.divInt t b).den : Int)], rfl, .tup (SqT.of h2) (.cons (.int _) (.cons (.int _) .nil)), (data_two nb db).1, (data_two nb db).2.1, (data_two nb db).2.2, short_two nb db, ?_⟩
    refine r_eqS ?_
    rw [decide_eq_true rfl]
    exact k _ (s1.trans s2)
end
end My

namespace My
open PySem L2
section
variable {P : Program} {w : World} {K : PySem.W.Frag} {mg : Str → Option Value} {base : Heap}
theorem two_at2 {i j : Int} (k : Bool) : atI [V.int i, .int j] (if k = true then 1 else 0) = some (.int (if k = true then j else i)) := by cases k <;> rfl
theorem sgn_is (b d : Int) : (if decide (b * d < 0) = true then (-1 : Int) else 1) = sgn b d := by unfold sgn; by_cases h : b * d < 0 <;> simp [h]
theorem sgn_comm (b d : Int) : sgn d b = sgn b d := by unfold sgn; rw [Int.mul_comm]
theorem sgn_bd (b d : Int) : (sgn b d).natAbs < 2 ^ 2 := by unfold sgn; split <;> decide
def PairI (t b : Int) : Prop := t.natAbs < 2 ^ 112 ∧ b ≠ 0 ∧ b.natAbs < 2 ^ 42
def spTwo : Sp := fun vs H Q _ => ∃ (p q : Addr) (a b c d : Int), vs = [.ref p, .ref q] ∧ H p = some (.tup [.int a, .int b]) ∧ H q = some (.tup [.int c, .int d]) ∧ PairI a b ∧ PairI c d ∧ ∀ H' : Hp, Same H H' → Q (.bl true) H'
theorem okG_l_two_right (T : Txt w K mg) : FnG P w K mg base 4 T.f_l_two_right T.fd_l_two_right ["_law_one", "_law_other"] spTwo := by
  refine FnG.by_body T.F_l_two_right sc_l_two_right (fun vs H Q E h => ?_) (fun cdv A outer s H vs Q E hG hr h => ?_)
  · obtain ⟨p, q, a, b, c, d, rfl, _⟩ := h
    rfl
  · obtain ⟨p, q, a, b, c, d, rfl, hp, hq, ⟨ha, b0, hb⟩, ⟨hc, d0, hd⟩, k⟩ := h
    refine ⟨_, (pss_cons (ps_asg (pv 0) (pg_tup rfl (pgs_cons (pg_name (i := 2) sc_l_two_right.nd rfl (Or.inl rfl)) (pgs_cons (pg_name (i := 3) sc_l_two_right.nd rfl (Or.inl rfl)) pgs_nil))))
 (pss_cons (ps_asg (pv 1) (pg_tup rfl (pgs_cons (pg_name (i := 4) sc_l_two_right.nd rfl (Or.inl rfl)) (pgs_cons (pg_name (i := 5) sc_l_two_right.nd rfl (Or.inl rfl)) pgs_nil))))
 (pss_cons (ps_par (i := 6) (j := 7) rfl sc_l_two_right.nd rfl rfl (by decide) rfl rfl (pa_cons (pe_make T.mk_Number (ok_Number_init T) (hr.mono (by decide)) (by rfl) T.m_Number T.b_Number_init2 .nil pass0 (pa_cons (pv 2) (pa_cons (pv 3) pa_nil))) (pa_cons (pe_make T.mk_Number (ok_Number_init T) (hr.mono (by decide)) (by rfl) T.m_Number T.b_Number_init2 .nil pass0 (pa_cons (pv 4) (pa_cons (pv 5) pa_nil))) pa_nil)) (by rfl))
 (pss_cons (ps_if (PW.pt (pw_or (pt_not (pt_val (pe_callG hG (okG_l_is T) (hr.mono (by decide)) (by rfl) T.m_l_is T.F_l_is.kp T.b_l_is .nil pass0 (pa_cons (pe_meth (pv 6) T.c_Number T.me_Number_more (ok_Number_more T) (hr.mono (by decide)) T.b_Number_more .nil pass0 (pa_cons (pv 7) pa_nil)) (pa_cons (pe_op op_add (pe_op op_mulW (pv 2) (pv 5)) (pe_op op_mulW (pv 4) (pv 3))) (pa_cons (pe_op op_mulW (pv 3) (pv 5)) pa_nil)))))) (pw_or1 (pt_not (pt_val (pe_callG hG (okG_l_is T) (hr.mono (by decide)) (by rfl) T.m_l_is T.F_l_is.kp T.b_l_is .nil pass0 (pa_cons (pe_meth (pv 6) T.c_Number T.me_Number_less (ok_Number_less T) (hr.mono (by decide)) T.b_Number_less .nil pass0 (pa_cons (pv 7) pa_nil)) (pa_cons (pe_op op_sub (pe_op op_mulW (pv 2) (pv 5)) (pe_op op_mulW (pv 4) (pv 3))) (pa_cons (pe_op op_mulW (pv 3) (pv 5)) pa_nil)))))))))
  (pss_one (ps_ret pe_bl))
  pss_nil)
 (C8.pss_cut (ps_if (PW.pt (pw_or (pt_not (pt_val (pe_callG hG (okG_l_is T) (hr.mono (by decide)) (by rfl) T.m_l_is T.F_l_is.kp T.b_l_is .nil pass0 (pa_cons (pe_meth (pv 6) T.c_Number T.me_Number_times (ok_Number_times T) (hr.mono (by decide)) T.b_Number_times .nil pass0 (pa_cons (pv 7) pa_nil)) (pa_cons (pe_op op_mulW (pv 2) (pv 4)) (pa_cons (pe_op op_mulW (pv 3) (pv 5)) pa_nil)))))) (pw_or1 (PW.pt (pw_and (pt_cmpR op_ne (pv 4) pe_int (nomark _)) (pw_and1 (pt_not (pt_val (pe_callG hG (okG_l_is T) (hr.mono (by decide)) (by rfl) T.m_l_is T.F_l_is.kp T.b_l_is .nil pass0 (pa_cons (pe_meth (pv 6) T.c_Number T.me_Number_over (ok_Number_over T) (hr.mono (by decide)) T.b_Number_over .nil pass0 (pa_cons (pv 7) pa_nil)) (pa_cons (pe_op op_mulW (pv 2) (pv 5)) (pa_cons (pe_op op_mulW (pv 3) (pv 4)) pa_nil))))))))))))
  (pss_one (ps_ret pe_bl))
  pss_nil)
 (pss_cons (ps_set (i := 8) sc_l_two_right.nd rfl (Or.inl rfl) (pe_ix ix_list (pe_lst (pa_cons pe_int (pa_cons (pe_un un_neg pe_int) pa_nil))) (pe_callTy call_int1 (by rfl) T.n_int (by decide +kernel) (pa_cons (pe_cmpR op_lt (pe_op op_mulW (pv 3) (pv 5)) pe_int (nomark _)) pa_nil)) (fun _ _ => rfl)))
 (pss_cons (ps_set (i := 9) sc_l_two_right.nd rfl (Or.inl rfl) (pe_lst (pa_cons (pe_meth (pv 6) T.c_Number T.me_Number_below (ok_Number_below T) (hr.mono (by decide)) T.b_Number_below .nil pass0 (pa_cons (pv 7) pa_nil)) (pa_cons (pe_meth (pv 7) T.c_Number T.me_Number_below (ok_Number_below T) (hr.mono (by decide)) T.b_Number_below .nil pass0 (pa_cons (pv 6) pa_nil)) (pa_cons (pe_meth0 (pv 6) T.c_Number T.me_Number_floor (ok_Number_floor T) (hr.mono (by decide)) T.b_Number_floor .nil pass0) pa_nil)))))
 (pss_cons (ps_set (i := 10) sc_l_two_right.nd rfl (Or.inl rfl) (pe_lst (pa_cons (pe_cmpR op_lt (pe_op op_mulW (pe_op op_mulW (pv 2) (pv 5)) (pv 8)) (pe_op op_mulW (pe_op op_mulW (pv 4) (pv 3)) (pv 8)) (nomark _)) (pa_cons (pe_cmpR op_lt (pe_op op_mulW (pe_op op_mulW (pv 4) (pv 3)) (pv 8)) (pe_op op_mulW (pe_op op_mulW (pv 2) (pv 5)) (pv 8)) (nomark _)) (pa_cons (pe_op op_fdivW (pe_ix ix_tup (pe_call (ok_l_lowest T) (hr.mono (by decide)) (by rfl) T.m_l_lowest T.F_l_lowest.kp T.b_l_lowest .nil pass0 (pa_cons (pv 2) (pa_cons (pv 3) pa_nil))) pe_int (fun _ _ => rfl)) (pe_ix ix_tup (pe_call (ok_l_lowest T) (hr.mono (by decide)) (by rfl) T.m_l_lowest T.F_l_lowest.kp T.b_l_lowest .nil pass0 (pa_cons (pv 2) (pa_cons (pv 3) pa_nil))) pe_int (fun _ _ => rfl))) pa_nil)))))
 (pss_cons (ps_if (PW.pt (pw_or (pt_cmpR op_ne (pe_callB (call_repr hG hr.units) (by rfl) T.n_repr (by decide +kernel) (pa_cons (pv 9) pa_nil)) (pe_callB (call_repr hG hr.units) (by rfl) T.n_repr (by decide +kernel) (pa_cons (pv 10) pa_nil)) (nomark _)) (pw_or1 (pt_not (pt_val (pe_callG hG (okG_l_is T) (hr.mono (by decide)) (by rfl) T.m_l_is T.F_l_is.kp T.b_l_is .nil pass0 (pa_cons (pe_meth0 (pv 6) T.c_Number T.me_Number_size (ok_Number_size T) (hr.mono (by decide)) T.b_Number_size .nil pass0) (pa_cons (pe_callB call_abs (by rfl) T.n_abs (by decide +kernel) (pa_cons (pv 2) pa_nil)) (pa_cons (pe_callB call_abs (by rfl) T.n_abs (by decide +kernel) (pa_cons (pv 3) pa_nil)) pa_nil)))))))))
  (pss_one (ps_ret pe_bl))
  pss_nil)
 (pss_one (ps_ret (pe_and (pe_callG hG (okG_l_is T) (hr.mono (by decide)) (by rfl) T.m_l_is T.F_l_is.kp T.b_l_is .nil pass0 (pa_cons (pv 6) (pa_cons (pv 2) (pa_cons (pv 3) pa_nil)))) (pe_one (pe_callG hG (okG_l_is T) (hr.mono (by decide)) (by rfl) T.m_l_is T.F_l_is.kp T.b_l_is .nil pass0 (pa_cons (pv 7) (pa_cons (pv 4) (pa_cons (pv 5) pa_nil))))))))))))))))), ?_⟩
    walk_at "rdh"
    refine r_gTup hp rfl ?_
    walk_at "rdh"
    refine r_gTup hq rfl ?_
    walk_at "rdh"
    have up : ∀ {z : Int} {m : Nat} (n : Nat), z.natAbs < 2 ^ m → m ≤ n → z.natAbs < 2 ^ n := fun n a b => Nat.lt_of_lt_of_le a (Nat.pow_le_pow_right (by decide) b)
    have bx : Bd 120 (Rat.divInt a b) := Bd.of b0 (up 120 ha (by decide)) (up 120 hb (by decide))
    have by' : Bd 120 (Rat.divInt c d) := Bd.of d0 (up 120 hc (by decide)) (up 120 hd (by decide))
    have ad : (a * d).natAbs < 2 ^ 200 := natAbs_mul_lt ha hd (by decide)
    have cb : (c * b).natAbs < 2 ^ 200 := natAbs_mul_lt hc hb (by decide)
    have bc : (b * c).natAbs < 2 ^ 200 := natAbs_mul_lt hb hc (by decide)
    have bd : (b * d).natAbs < 2 ^ 200 := natAbs_mul_lt hb hd (by decide)
    have ac : (a * c).natAbs < 2 ^ 300 := natAbs_mul_lt ha hc (by decide)
    have bd0 : b * d ≠ 0 := Int.mul_ne_zero b0 d0
    have a4 := up 4000 ha (by decide)
    have b4 := up 4000 hb (by decide)
    have c4 := up 4000 hc (by decide)
    have d4 := up 4000 hd (by decide)
    refine mk_num b0 (up 9000 hb (by decide)) fun here H1 s1 _ h1 => ?_
    walk_at "rdh"
    refine mk_num d0 (up 9000 hd (by decide)) fun there H2 s2 _ h2 => ?_
    have h1' := h1.same s2
    obtain ⟨dh, eh⟩ := h1'
    obtain ⟨dt, et⟩ := h2
    walk_at "rdh"
    refine r_meth1 eh (no_more _) ?_
    walk_at "rdh"
    refine ⟨here, there, _, _, rfl, ⟨_, eh⟩, ⟨_, et⟩, bx.mono (by decide), by'.mono (by decide), trivial, fun r1 H3 s3 _ h3 => ?_⟩
    walk_at "rdh"
    refine r_I (cm a4 d4) ?_
    walk_at "rdh"
    refine r_I (cm c4 b4) ?_
    walk_at "rdh"
    refine r_I (cm b4 d4) ?_
    walk_at "rdh"
    refine ⟨r1, _, _, rfl, bd0, up 1900 bd (by decide), up 1900 (show (a * d + c * b).natAbs < 2 ^ 202 by omega) (by decide), by rw [← more_is b0 d0]; exact h3, fun H4 s4 => ?_⟩
    have s24 := s3.trans s4
    walk_at "rdh"
    refine r_iteF rfl ?_
    walk_at "rdh"
    refine r_meth1 (s24 _ _ eh) (no_less _) ?_
    walk_at "rdh"
    refine ⟨here, there, _, _, rfl, ⟨_, s24 _ _ eh⟩, ⟨_, s24 _ _ et⟩, bx.mono (by decide), by'.mono (by decide), trivial, fun r2 H5 s5 _ h5 => ?_⟩
    walk_at "rdh"
    refine r_I (cm a4 d4) ?_
    walk_at "rdh"
    refine r_I (cm c4 b4) ?_
    walk_at "rdh"
    refine r_I (cm b4 d4) ?_
    walk_at "rdh"
    refine ⟨r2, _, _, rfl, bd0, up 1900 bd (by decide), up 1900 (show (a * d - c * b).natAbs < 2 ^ 202 by omega) (by decide), by rw [← less_is b0 d0]; exact h5, fun H6 s6 => ?_⟩
    have s26 := (s24.trans s5).trans s6
    walk_at "rdh"
    refine r_iteF rfl ?_
    refine r_cut (fun σ' H' => σ' = [some (.ref p), some (.ref q), some (.int a), some (.int b), some (.int c), some (.int d), some (.ref here), some (.ref there), none, none, none] ∧ Same H2 H') ?_ ?_
    · walk_at "rdh"
      refine r_meth1 (s26 _ _ eh) (no_times _) ?_
      walk_at "rdh"
      refine ⟨here, there, _, _, rfl, ⟨_, s26 _ _ eh⟩, ⟨_, s26 _ _ et⟩, bx.mono (by decide), by'.mono (by decide), trivial, fun r3 H7 s7 _ h7 => ?_⟩
      walk_at "rdh"
      refine r_I (cm a4 c4) ?_
      walk_at "rdh"
      refine r_I (cm b4 d4) ?_
      walk_at "rdh"
      refine ⟨r3, _, _, rfl, bd0, up 1900 bd (by decide), up 1900 ac (by decide), by rw [← times_is]; exact h7, fun H8 s8 => ?_⟩
      have s28 := (s26.trans s7).trans s8
      walk_at "rdh"
      refine r_iteF rfl ?_
      walk_at "rdh"
      refine r_ite (fun e => ?_) (fun e => ?_)
      · have c0 : c ≠ 0 := by
          intro z
          rw [z] at e
          cases e
        have y0 : Rat.divInt c d ≠ 0 := by
          rw [Rat.divInt_eq_div]
          have hc' : (c : Rat) ≠ 0 := by simp; omega
          have hd' : (d : Rat) ≠ 0 := by simp; omega
          grind
        walk_at "rdh"
        refine r_meth1 (s28 _ _ eh) (no_over _) ?_
        walk_at "rdh"
        refine ⟨here, there, _, _, rfl, ⟨_, s28 _ _ eh⟩, ⟨_, s28 _ _ et⟩, bx.mono (by decide), by'.mono (by decide), y0, fun r4 H9 s9 _ h9 => ?_⟩
        walk_at "rdh"
        refine r_I (cm a4 d4) ?_
        walk_at "rdh"
        refine r_I (cm b4 c4) ?_
        walk_at "rdh"
        refine ⟨r4, _, _, rfl, Int.mul_ne_zero b0 c0, up 1900 bc (by decide), up 1900 ad (by decide), by rw [← over_is]; exact h9, fun H10 s10 => ?_⟩
        walk_at "rdh"
        refine r_iteF rfl ?_
        walk_at "rdh"
        exact ⟨rfl, (s28.trans s9).trans s10⟩
      · walk_at "rdh"
        exact ⟨rfl, s28⟩
    rintro σ' H7 ⟨rfl, s27⟩
    walk_at "rdh"
    refine r_new (by show 2 ≤ 1000; decide) fun sg hsg => ?_
    have s8 := Same.new (o := .lst [.int 1, .int (-1)]) hsg
    have hG := upd_same (H := H7) (a := sg) (o := HO.lst [.int 1, .int (-1)])
    generalize upd H7 sg (.lst [.int 1, .int (-1)]) = H8 at *
    have s28 := s27.trans s8
    walk_at "rdh"
    refine r_I (cm b4 d4) ?_
    walk_at "rdh"
    refine .inr ⟨_, rfl, ?_⟩
    refine r_ixL hG (two_at2 _) ?_
    rw [sgn_is]
    have sb := sgn_bd b d
    have lt1 := lt_cross (a := a) (c := c) b0 d0
    have lt2 := lt_cross (a := c) (c := a) d0 b0
    rw [sgn_comm] at lt2
    generalize sgn b d = sn at *
    have sn4 := up 4000 sb (by decide)
    have eh8 := s28 _ _ eh
    have et8 := s28 _ _ et
    walk_at "rdh"
    refine r_meth1 eh8 (no_below _) ?_
    walk_at "rdh"
    refine ⟨here, there, _, _, rfl, ⟨_, eh8⟩, ⟨_, et8⟩, bx.mono (by decide), by'.mono (by decide), ?_⟩
    walk_at "rdh"
    refine r_meth1 et8 (no_below _) ?_
    walk_at "rdh"
    refine ⟨there, here, _, _, rfl, ⟨_, et8⟩, ⟨_, eh8⟩, by'.mono (by decide), bx.mono (by decide), ?_⟩
    walk_at "rdh"
    refine r_meth1 eh8 (no_floor _) ?_
    walk_at "rdh"
    refine ⟨here, _, rfl, ⟨_, eh8⟩, bx.mono (by decide), ?_⟩
    walk_at "rdh"
    refine r_new (by show 3 ≤ 1000; decide) fun fo hfo => ?_
    have s9 := Same.new (o := .lst [.bl (decide (Rat.divInt a b < Rat.divInt c d)), .bl (decide (Rat.divInt c d < Rat.divInt a b)), .int (Rat.divInt a b).floor]) hfo
    have hF := upd_same (H := H8) (a := fo) (o := HO.lst [.bl (decide (Rat.divInt a b < Rat.divInt c d)), .bl (decide (Rat.divInt c d < Rat.divInt a b)), .int (Rat.divInt a b).floor])
    generalize upd H8 fo (.lst [.bl (decide (Rat.divInt a b < Rat.divInt c d)), .bl (decide (Rat.divInt c d < Rat.divInt a b)), .int (Rat.divInt a b).floor]) = H9 at *
    have ad4 := up 4000 ad (by decide)
    have cb4 := up 4000 cb (by decide)
    walk_at "rdh"
    refine r_I (cm a4 d4) ?_
    walk_at "rdh"
    refine r_I (cm ad4 sn4) ?_
    walk_at "rdh"
    refine r_I (cm c4 b4) ?_
    walk_at "rdh"
    refine r_I (cm cb4 sn4) ?_
    walk_at "rdh"
    refine r_I (cm c4 b4) ?_
    walk_at "rdh"
    refine r_I (cm cb4 sn4) ?_
    walk_at "rdh"
    refine r_I (cm a4 d4) ?_
    walk_at "rdh"
    refine r_I (cm ad4 sn4) ?_
    walk_at "rdh"
    refine ⟨a, b, rfl, b0, up 1900 hb (by decide), fun p3 H10 s10 _ h10 => ?_⟩
    walk_at "rdh"
    refine r_ixT h10 (atI_nat (j := 0) rfl) ?_
    walk_at "rdh"
    refine ⟨a, b, rfl, b0, up 1900 hb (by decide), fun p4 H11 s11 _ h11 => ?_⟩
    walk_at "rdh"
    refine r_ixT h11 (atI_nat (j := 1) rfl) ?_
    walk_at "rdh"
    have nb : (Rat.divInt a b).num.natAbs < 2 ^ 112 := Nat.lt_of_le_of_lt (num_le a b) ha
    have db : ((Rat.divInt a b).den : Int).natAbs < 2 ^ 42 := Nat.lt_of_le_of_lt (den_le b0) hb
    have dp := (Rat.divInt a b).den_pos
    refine r_I (wide_div (by omega) (up 9000 db (by decide)) (by decide) (Nat.le_refl _)) ?_
    walk_at "rdh"
    have e1 : decide (a * d * sn < c * b * sn) = decide (Rat.divInt a b < Rat.divInt c d) := by rw [decide_eq_decide]; exact lt1.symm
    have e2 : decide (c * b * sn < a * d * sn) = decide (Rat.divInt c d < Rat.divInt a b) := by rw [decide_eq_decide]; exact lt2.symm
    have e3 : (Rat.divInt a b).num / ((Rat.divInt a b).den : Int) = (Rat.divInt a b).floor := (Rat.floor_def _).symm
    have fb : (Rat.divInt a b).floor.natAbs < 2 ^ 1900 := Nat.lt_of_lt_of_le (floor_bd bx) (Nat.pow_le_pow_right (by decide) (by decide))
    rw [e1, e2, e3]
    refine r_new (by show 3 ≤ 1000; decide) fun du hdu => ?_
    have s12 := Same.new (o := .lst [.bl (decide (Rat.divInt a b < Rat.divInt c d)), .bl (decide (Rat.divInt c d < Rat.divInt a b)), .int (Rat.divInt a b).floor]) hdu
    have hDu := upd_same (H := H11) (a := du) (o := HO.lst [.bl (decide (Rat.divInt a b < Rat.divInt c d)), .bl (decide (Rat.divInt c d < Rat.divInt a b)), .int (Rat.divInt a b).floor])
    have s912 := (s10.trans s11).trans s12
    have hF2 := s912 _ _ hF
    generalize upd H11 du (.lst [.bl (decide (Rat.divInt a b < Rat.divInt c d)), .bl (decide (Rat.divInt c d < Rat.divInt a b)), .int (Rat.divInt a b).floor]) = H12 at *
    obtain ⟨q1, q2, q3, q4⟩ := three_found (p := decide (Rat.divInt a b < Rat.divInt c d)) (q := decide (Rat.divInt c d < Rat.divInt a b)) fb
    have s212 := (s28.trans s9).trans s912
    walk_at "rdh"
    refine ⟨fo, _, rfl, .lst (SqL.of hF2) (.cons (.bl _) (.cons (.bl _) (.cons (.int _) .nil))), q1, q2, q3, q4, ?_⟩
    walk_at "rdh"
    refine ⟨du, _, rfl, .lst (SqL.of hDu) (.cons (.bl _) (.cons (.bl _) (.cons (.int _) .nil))), q1, q2, q3, q4, ?_⟩
    refine r_ne rfl ?_
    rw [decide_eq_true rfl]
    walk_at "rdh"
    refine r_iteF rfl ?_
    walk_at "rdh"
    have eh12 := s212 _ _ eh
    have et12 := s212 _ _ et
    refine r_meth1 eh12 (no_size _) ?_
    walk_at "rdh"
    refine ⟨here, _, rfl, ⟨_, eh12⟩, bx.mono (by decide), fun r5 H13 s13 _ h13 => ?_⟩
    walk_at "rdh"
    refine ⟨_, rfl, ?_⟩
    walk_at "rdh"
    refine ⟨_, rfl, ?_⟩
    walk_at "rdh"
    refine ⟨r5, _, _, rfl, by split <;> omega, up 1900 (show (if b < 0 then -b else b).natAbs < 2 ^ 42 by split <;> omega) (by decide), up 1900 (show (if a < 0 then -a else a).natAbs < 2 ^ 112 by split <;> omega) (by decide), by rw [← size_is b0]; exact h13, fun H14 s14 => ?_⟩
    walk_at "rdh"
    refine r_iteF rfl ?_
    have s1314 := s13.trans s14
    walk_at "rdh"
    refine ⟨here, a, b, rfl, b0, up 1900 hb (by decide), up 1900 ha (by decide), ⟨_, s1314 _ _ eh12⟩, fun H15 s15 => ?_⟩
    walk_at "rdh"
    refine r_iteT rfl ?_
    walk_at "rdh"
    refine ⟨there, c, d, rfl, d0, up 1900 hd (by decide), up 1900 hc (by decide), ⟨_, s15 _ _ (s1314 _ _ et12)⟩, fun H16 s16 => ?_⟩
    exact k _ ((((s1.trans s2).trans s212).trans s1314).trans (s15.trans s16))
end
end My

namespace My
open PySem L2
section
variable {P : Program} {w : World} {K : PySem.W.Frag} {mg : Str → Option Value} {base : Heap}
theorem none_of {H H1 : Hp} {p : Addr} (s : Same H H1) (h : H1 p = none) : H p = none := by
  cases e : H p with
  | none => rfl
  | some o => rw [s _ _ e] at h; cases h
theorem same_out {H H1 H2 : Hp} {d : Addr} (s : Same H H1) (n : H d = none) (o : Out d H1 H2) : Same H H2 := fun b x e => o b x (ne_of_none e n) (s b x e)
/-- the top and the bottom of a number stand there -/
def PairR (H : Hp) (x : Addr) : Prop := ∃ t b, H x = some (.tup [.int t, .int b]) ∧ PairI t b
theorem PairR.same {H H' : Hp} {x : Addr} (s : Same H H') (h : PairR H x) : PairR H' x := let ⟨t, b, e, p⟩ := h; ⟨t, b, s _ _ e, p⟩
theorem r_noughts {K : PySem.W.Frag} {H : Hp} {l : Addr} {x t : Int} {Q : VK} (n : Noughts H l x t) (hx : x.natAbs < 2 ^ 1900) (ht : t.natAbs < 2 ^ 1900) (q : Q (.str (PyData.shown (.list [.tuple [.int x, .bool true], .tuple [.int t, .bool true]]))) H) : rRepr K [.ref l] H Q := by
  obtain ⟨a, b, hl, ha, hb⟩ := n
  obtain ⟨q1, q2, q3, q4⟩ := two_found hx ht
  exact ⟨l, _, rfl, .lst (SqL.of hl) (.cons (.tup (SqT.of ha) (.cons (.int _) (.cons (.bl _) .nil))) (.cons (.tup (SqT.of hb) (.cons (.int _) (.cons (.bl _) .nil))) .nil)), q1, q2, q3, q4, q⟩
def spLaw (K : PySem.W.Frag) : Sp := fun vs H Q _ => ∃ (a : Addr) (ns : List Int), vs = [.ref a] ∧ SqL K H a (ns.map V.int) ∧ ns.length ≤ 63 ∧ ∀ H', Q (.bl true) H'
theorem okG_law (T : Txt w K mg) : FnG P w K mg base 5 T.f_law T.fd_law ["_law_script"] (spLaw K) := by
  refine FnG.by_body T.F_law sc_law (fun vs H Q E h => ?_) (fun cdv A outer s H vs Q E hG hr h => ?_)
  · obtain ⟨a, ns, rfl, _⟩ := h
    rfl
  · obtain ⟨a, ns, rfl, hS, hl, k⟩ := h
    refine ⟨_, (pss_cons (ps_for PassesOwn.never rfl (pi_range1 rfl T.n_range (pa_cons (pe_callB (call_max2 rfl) (by rfl) T.n_max (by decide +kernel) (pa_cons pe_int (pa_cons (pe_callB (call_min2 rfl) (by rfl) T.n_min (by decide +kernel) (pa_cons (pe_callB call_len_seq (by rfl) T.n_len PySem.boot_len (pa_cons (pv 0) pa_nil)) (pa_cons pe_int pa_nil))) pa_nil))) pa_nil)) (pg_name (i := 1) sc_law.nd rfl (Or.inl rfl))
  (pss_cons (ps_set (i := 2) sc_law.nd rfl (Or.inl rfl) (pe_call (ok_l_well T) (hr.mono (by decide)) (by rfl) T.m_l_well T.F_l_well.kp T.b_l_well .nil pass0 (pa_cons (pv 0) (pa_cons (pv 1) pa_nil))))
 (pss_cons (ps_set (i := 3) sc_law.nd rfl (Or.inl rfl) (pe_cmpR op_eq (pe_call (ok_l_take T) (hr.mono (by decide)) (by rfl) T.m_l_take T.F_l_take.kp T.b_l_take .nil pass0 (pa_cons (pv 2) (pa_cons pe_int pa_nil))) pe_int (nomark _)))
 (pss_cons (ps_par (i := 4) (j := 5) rfl sc_law.nd rfl rfl (by decide) rfl rfl (pa_cons (pe_call (ok_l_pair T) (hr.mono (by decide)) (by rfl) T.m_l_pair T.F_l_pair.kp T.b_l_pair .nil pass0 (pa_cons (pv 2) pa_nil)) (pa_cons (pe_call (ok_l_pair T) (hr.mono (by decide)) (by rfl) T.m_l_pair T.F_l_pair.kp T.b_l_pair .nil pass0 (pa_cons (pv 2) pa_nil)) pa_nil)) (by rfl))
 (C8.pss_cut (ps_if (pt_val (pv 3))
  (pss_one (ps_set (i := 5) sc_law.nd rfl (Or.inl rfl) (pe_ifExp (pt_cmpR op_lt (pe_callB (call_max2 rfl) (by rfl) T.n_max (by decide +kernel) (pa_cons (pe_callB call_abs (by rfl) T.n_abs (by decide +kernel) (pa_cons (pe_ix ix_tup (pv 4) pe_int (fun _ _ => rfl)) pa_nil)) (pa_cons (pe_callB call_abs (by rfl) T.n_abs (by decide +kernel) (pa_cons (pe_ix ix_tup (pv 4) pe_int (fun _ _ => rfl)) pa_nil)) pa_nil))) (pe_op op_pow pe_int pe_int) (nomark _)) (pe_tup (pa_cons (pe_op op_mul (pe_ix ix_tup (pv 4) pe_int (fun _ _ => rfl)) pe_int) (pa_cons (pe_op op_mul (pe_ix ix_tup (pv 4) pe_int (fun _ _ => rfl)) pe_int) pa_nil))) (pv 4))))
  pss_nil)
 (pss_cons (ps_for PassesOwn.never rfl (pi_list (pe_lst (pa_cons (pe_tup (pa_cons (pv 4) (pa_cons (pv 5) pa_nil))) (pa_cons (pe_tup (pa_cons (pv 5) (pa_cons (pv 4) pa_nil))) (pa_cons (pe_tup (pa_cons (pv 4) (pa_cons (pv 4) pa_nil))) (pa_cons (pe_tup (pa_cons (pv 4) (pa_cons (pv 5) pa_nil))) pa_nil)))))) (pg_tup rfl (pgs_cons (pg_name (i := 6) sc_law.nd rfl (Or.inl rfl)) (pgs_cons (pg_name (i := 7) sc_law.nd rfl (Or.inl rfl)) pgs_nil)))
  (pss_one (ps_if (pt_not (pt_val (pe_callG hG (okG_l_two_right T) (hr.mono (by decide)) (by rfl) T.m_l_two_right T.F_l_two_right.kp T.b_l_two_right .nil pass0 (pa_cons (pv 6) (pa_cons (pv 7) pa_nil)))))
  (pss_one (ps_ret pe_bl))
  pss_nil)))
 (pss_cons (ps_set (i := 8) sc_law.nd rfl (Or.inl rfl) (pe_ix ix_tup (pe_call (ok_l_lowest T) (hr.mono (by decide)) (by rfl) T.m_l_lowest T.F_l_lowest.kp T.b_l_lowest .nil pass0 (pa_cons (pe_ix ix_tup (pv 4) pe_int (fun _ _ => rfl)) (pa_cons (pe_ix ix_tup (pv 4) pe_int (fun _ _ => rfl)) pa_nil))) pe_int (fun _ _ => rfl)))
 (pss_one (ps_if (pt_cmpR op_ne (pe_callB (call_repr hG hr.units) (by rfl) T.n_repr (by decide +kernel) (pa_cons (pe_call (ok_l_of_nought T) (hr.mono (by decide)) (by rfl) T.m_l_of_nought T.F_l_of_nought.kp T.b_l_of_nought .nil pass0 (pa_cons (pe_make T.mk_Number (ok_Number_init T) (hr.mono (by decide)) (by rfl) T.m_Number T.b_Number_init2 .nil pass0 (pa_cons (pe_ix ix_tup (pv 4) pe_int (fun _ _ => rfl)) (pa_cons (pe_ix ix_tup (pv 4) pe_int (fun _ _ => rfl)) pa_nil))) (pa_cons (pv 8) pa_nil))) pa_nil)) (pe_callB (call_repr hG hr.units) (by rfl) T.n_repr (by decide +kernel) (pa_cons (pe_lst (pa_cons (pe_tup (pa_cons (pv 8) (pa_cons pe_bl pa_nil))) (pa_cons (pe_tup (pa_cons (pv 8) (pa_cons pe_bl pa_nil))) pa_nil))) pa_nil)) (nomark _))
  (pss_one (ps_ret pe_bl))
  pss_nil)))))))))
 (pss_one (ps_ret (pe_cmpR op_eq (pe_callB (call_repr hG hr.units) (by rfl) T.n_repr (by decide +kernel) (pa_cons (pe_call (ok_l_of_nought T) (hr.mono (by decide)) (by rfl) T.m_l_of_nought T.F_l_of_nought.kp T.b_l_of_nought .nil pass0 (pa_cons (pe_make T.mk_Number (ok_Number_init T) (hr.mono (by decide)) (by rfl) T.m_Number T.b_Number_init1 T.d_Number_init1 pass0 (pa_cons pe_int pa_nil)) (pa_cons pe_int pa_nil))) pa_nil)) (pe_callB (call_repr hG hr.units) (by rfl) T.n_repr (by decide +kernel) (pa_cons (pe_lst (pa_cons (pe_tup (pa_cons pe_int (pa_cons pe_bl pa_nil))) (pa_cons (pe_tup (pa_cons pe_int (pa_cons pe_bl pa_nil))) pa_nil))) pa_nil)) (nomark _))))), ?_⟩
    have up : ∀ {z : Int} {m : Nat} (n : Nat), z.natAbs < 2 ^ m → m ≤ n → z.natAbs < 2 ^ n := fun n a b => Nat.lt_of_lt_of_le a (Nat.pow_le_pow_right (by decide) b)
    walk_at "rdh"
    refine r_rng1 ?_
    walk_at "rdh"
    refine ⟨a, _, rfl, .inl hS, ?_⟩
    walk_at "rdh"
    refine ⟨_, _, rfl, ?_⟩
    walk_at "rdh"
    refine ⟨_, _, rfl, ?_⟩
    walk_at "rdh"
    rw [List.length_map]
    have nb : (if (if (6 : Int) < (ns.length : Int) then 6 else (ns.length : Int)) > 1 then (if (6 : Int) < (ns.length : Int) then 6 else (ns.length : Int)) else 1) ≤ 6 ∧ 0 ≤ (if (if (6 : Int) < (ns.length : Int) then 6 else (ns.length : Int)) > 1 then (if (6 : Int) < (ns.length : Int) then 6 else (ns.length : Int)) else 1) := by
      split <;> split <;> omega
    generalize (if (if (6 : Int) < (ns.length : Int) then 6 else (ns.length : Int)) > 1 then (if (6 : Int) < (ns.length : Int) then 6 else (ns.length : Int)) else 1) = tn at *
    refine ⟨tn, rfl, by omega, by omega, for_range (lo := 0) (n := tn.toNat) (fun i σ H' => ∃ (v1 v2 v3 v4 v5 v6 v7 v8 : Option V), σ = [some (.ref a), v1, v2, v3, v4, v5, v6, v7, v8] ∧ Same H H')
      ⟨_, _, _, _, _, _, _, _, rfl, Same.refl _⟩ ?_ ?_⟩
    · rintro i σ H1 hi ⟨v1, v2, v3, v4, v5, v6, v7, v8, rfl, s1⟩
      walk_at "rdh"
      have hk : (0 : Int) + (i : Int) = ((i : Nat) : Int) := by omega
      rw [hk]
      refine ⟨a, ns, i, rfl, SqL.ext hS s1, fun d H2 s2 nd w2 => ?_⟩
      have nd0 := none_of s1 nd
      have s02 := s1.trans s2
      walk_at "rdh"
      refine rd_take w2 (by decide) (by decide) fun al H3 o3 w3 _ _ => ?_
      walk_at "rdh"
      refine ⟨d, rfl, w3, fun p t b H4 o4 w4 hp tb b0 bl => ?_⟩
      walk_at "rdh"
      refine ⟨d, rfl, w4, fun q u e H5 o5 w5 hq ub e0 el => ?_⟩
      have s05 : Same H H5 := same_out s02 nd0 ((o3.trans o4).trans o5)
      have hp5 := o5.keep w4 hp (fun _ z => by cases z)
      have pt : PairI t b := ⟨up 112 tb (by decide), b0, by omega⟩
      have pu : PairI u e := ⟨up 112 ub (by decide), e0, by omega⟩
      walk_at "rdh"
      refine r_cut (fun σ' H' => ∃ (q' : Addr) (v6 v7 v8 : Option V), σ' = [some (.ref a), some (.int (i : Int)), some (.ref d), some (.bl (decide (al = 1))), some (.ref p), some (.ref q'), v6, v7, v8] ∧ Same H H' ∧ H' p = some (.tup [.int t, .int b]) ∧ PairR H' q') ?_ ?_
      · walk_at "rdh"
        refine r_ite (fun e1 => ?_) (fun e1 => ?_)
        rotate_left
        · walk_at "rdh"
          exact ⟨q, _, _, _, rfl, s05, hp5, u, e, hq, pu⟩
        walk_at "rdh"
        refine r_ixT hp5 (atI_nat (j := 0) rfl) ?_
        walk_at "rdh"
        refine ⟨_, rfl, ?_⟩
        walk_at "rdh"
        refine r_ixT hp5 (atI_nat (j := 1) rfl) ?_
        walk_at "rdh"
        refine ⟨_, rfl, ?_⟩
        walk_at "rdh"
        refine ⟨_, _, rfl, ?_⟩
        walk_at "rdh"
        refine r_ite (fun e2 => ?_) (fun e2 => ?_)
        rotate_left
        · walk_at "rdh"
          exact ⟨p, _, _, _, rfl, s05, hp5, t, b, hp5, pt⟩
        have small : t.natAbs < 10 ^ 11 ∧ b.natAbs < 10 ^ 11 := by
          have e3 := of_decide_eq_true e2
          have e9 : (10 : Int) ^ (11 : Int).toNat = 100000000000 := rfl
          rw [e9] at e3
          have e10 : (10 : Nat) ^ 11 = 100000000000 := rfl
          rw [e10]
          split at e3 <;> (constructor <;> (repeat' split at *) <;> omega)
        walk_at "rdh"
        refine r_ixT hp5 (atI_nat (j := 0) rfl) ?_
        walk_at "rdh"
        refine r_ixT hp5 (atI_nat (j := 1) rfl) ?_
        walk_at "rdh"
        refine r_new (by show 2 ≤ 1000; decide) fun q' hq' => ?_
        have s6 := Same.new (o := .tup [.int (t * 3), .int (b * 3)]) hq'
        exact ⟨q', _, _, _, rfl, s05.trans s6, s6 _ _ hp5, t * 3, b * 3, upd_same, by omega, by omega, by omega⟩
      rintro σ' H6 ⟨q', v6, v7, v8, rfl, s06, hp6, pq6⟩
      have pp6 : PairR H6 p := ⟨t, b, hp6, pt⟩
      walk_at "rdh"
      refine r_forL ?_
      walk_at "rdh"
      refine r_new (by show 2 ≤ 1000; decide) fun l1 hl1 => ?_
      have z1 := Same.new (o := .tup [.ref p, .ref q']) hl1
      have k1 := upd_same (H := H6) (a := l1) (o := HO.tup [.ref p, .ref q'])
      generalize upd H6 l1 (.tup [.ref p, .ref q']) = G1 at *
      walk_at "rdh"
      refine r_new (by show 2 ≤ 1000; decide) fun l2 hl2 => ?_
      have z2 := Same.new (o := .tup [.ref q', .ref p]) hl2
      have k2 := upd_same (H := G1) (a := l2) (o := HO.tup [.ref q', .ref p])
      generalize upd G1 l2 (.tup [.ref q', .ref p]) = G2 at *
      walk_at "rdh"
      refine r_new (by show 2 ≤ 1000; decide) fun l3 hl3 => ?_
      have z3 := Same.new (o := .tup [.ref p, .ref p]) hl3
      have k3 := upd_same (H := G2) (a := l3) (o := HO.tup [.ref p, .ref p])
      generalize upd G2 l3 (.tup [.ref p, .ref p]) = G3 at *
      walk_at "rdh"
      refine r_new (by show 2 ≤ 1000; decide) fun l4 hl4 => ?_
      have z4 := Same.new (o := .tup [.ref p, .ref q']) hl4
      have k4 := upd_same (H := G3) (a := l4) (o := HO.tup [.ref p, .ref q'])
      generalize upd G3 l4 (.tup [.ref p, .ref q']) = G4 at *
      walk_at "rdh"
      refine r_new (by show 4 ≤ 1000; decide) fun ls hls => ?_
      have z5 := Same.new (o := .lst [.ref l1, .ref l2, .ref l3, .ref l4]) hls
      have k5 := upd_same (H := G4) (a := ls) (o := HO.lst [.ref l1, .ref l2, .ref l3, .ref l4])
      generalize upd G4 ls (.lst [.ref l1, .ref l2, .ref l3, .ref l4]) = G5 at *
      have z65 := (((z1.trans z2).trans z3).trans z4).trans z5
      have pp := pp6.same z65
      have pq := pq6.same z65
      have rows : ∀ v ∈ [V.ref l1, .ref l2, .ref l3, .ref l4], ∃ la x1 x2, v = .ref la ∧ G5 la = some (.tup [.ref x1, .ref x2]) ∧ PairR G5 x1 ∧ PairR G5 x2 := by
        intro v hv
        simp only [List.mem_cons, List.not_mem_nil, or_false] at hv
        rcases hv with rfl | rfl | rfl | rfl
        · exact ⟨l1, p, q', rfl, ((z2.trans z3).trans (z4.trans z5)) _ _ k1, pp, pq⟩
        · exact ⟨l2, q', p, rfl, (z3.trans (z4.trans z5)) _ _ k2, pq, pp⟩
        · exact ⟨l3, p, p, rfl, (z4.trans z5) _ _ k3, pp, pp⟩
        · exact ⟨l4, p, q', rfl, z5 _ _ k4, pp, pq⟩
      refine ⟨ls, rfl, ⟨_, SqL.of k5⟩, for_list (K := K) (a := ls) (xs := [V.ref l1, .ref l2, .ref l3, .ref l4]) (fun j σ H' => ∃ (v6 v7 v8 : Option V), σ = [some (.ref a), some (.int (i : Int)), some (.ref d), some (.bl (decide (al = 1))), some (.ref p), some (.ref q'), v6, v7, v8] ∧ Same G5 H')
        ⟨_, _, _, rfl, Same.refl _⟩ (fun j σ H' _ ⟨_, _, _, _, s⟩ => SqL.of (s _ _ k5)) ?_ ?_⟩
      · rintro j y σ H7 hy ⟨v6, v7, v8, rfl, s7⟩
        obtain ⟨la, x1, x2, rfl, hla, ⟨t1, b1, e1, p1⟩, ⟨t2, b2, e2, p2⟩⟩ := rows y (List.mem_of_getElem? hy)
        refine r_gTup (s7 _ _ hla) rfl ?_
        walk_at "rdh"
        refine ⟨x1, x2, t1, b1, t2, b2, rfl, s7 _ _ e1, s7 _ _ e2, p1, p2, fun H8 s8 => ?_⟩
        walk_at "rdh"
        refine r_iteF rfl ?_
        walk_at "rdh"
        exact ⟨_, _, _, rfl, s7.trans s8⟩
      rintro σ H7 ⟨v6, v7, v8, rfl, s7⟩
      have s67 := z65.trans s7
      have hp7 := s67 _ _ hp6
      have num1 : (Rat.divInt t b).num.natAbs < 2 ^ 1900 := up 1900 (Nat.lt_of_le_of_lt (num_le t b) pt.1) (by decide)
      walk_at "rdh"
      refine r_ixT hp7 (atI_nat (j := 0) rfl) ?_
      walk_at "rdh"
      refine r_ixT hp7 (atI_nat (j := 1) rfl) ?_
      walk_at "rdh"
      refine ⟨t, b, rfl, b0, up 1900 pt.2.2 (by decide), fun lo H8 s8 _ h8 => ?_⟩
      walk_at "rdh"
      refine r_ixT h8 (atI_nat (j := 0) rfl) ?_
      walk_at "rdh"
      have hp8 := s8 _ _ hp7
      refine r_ixT hp8 (atI_nat (j := 0) rfl) ?_
      walk_at "rdh"
      refine r_ixT hp8 (atI_nat (j := 1) rfl) ?_
      walk_at "rdh"
      refine mk_num b0 (up 9000 pt.2.2 (by decide)) fun nn H9 s9 _ h9 => ?_
      walk_at "rdh"
      refine ⟨nn, _, _, rfl, h9, num1, fun l H10 s10 n10 => ?_⟩
      walk_at "rdh"
      refine r_noughts n10 num1 num1 ?_
      walk_at "rdh"
      refine r_new (by show 2 ≤ 1000; decide) fun d1 hd1 => ?_
      have y1 := Same.new (o := .tup [.int (Rat.divInt t b).num, .bl true]) hd1
      have m1 := upd_same (H := H10) (a := d1) (o := HO.tup [.int (Rat.divInt t b).num, .bl true])
      generalize upd H10 d1 (.tup [.int (Rat.divInt t b).num, .bl true]) = G6 at *
      walk_at "rdh"
      refine r_new (by show 2 ≤ 1000; decide) fun d2 hd2 => ?_
      have y2 := Same.new (o := .tup [.int (Rat.divInt t b).num, .bl true]) hd2
      have m2 := upd_same (H := G6) (a := d2) (o := HO.tup [.int (Rat.divInt t b).num, .bl true])
      generalize upd G6 d2 (.tup [.int (Rat.divInt t b).num, .bl true]) = G7 at *
      walk_at "rdh"
      refine r_new (by show 2 ≤ 1000; decide) fun d3 hd3 => ?_
      have y3 := Same.new (o := .lst [.ref d1, .ref d2]) hd3
      have m3 := upd_same (H := G7) (a := d3) (o := HO.lst [.ref d1, .ref d2])
      generalize upd G7 d3 (.lst [.ref d1, .ref d2]) = G8 at *
      walk_at "rdh"
      refine r_noughts ⟨d1, d2, m3, (y2.trans y3) _ _ m1, y3 _ _ m2⟩ num1 num1 ?_
      refine r_ne rfl ?_
      rw [decide_eq_true rfl]
      walk_at "rdh"
      refine r_iteF rfl ?_
      walk_at "rdh"
      exact ⟨_, _, _, _, _, _, _, _, rfl, (s06.trans s67).trans (((s8.trans s9).trans s10).trans ((y1.trans y2).trans y3))⟩
    · rintro σ H1 ⟨v1, v2, v3, v4, v5, v6, v7, v8, rfl, s1⟩
      walk_at "rdh"
      refine mk_num1 fun nn H9 s9 _ h9 => ?_
      walk_at "rdh"
      refine ⟨nn, _, _, rfl, h9, by decide, fun l H10 s10 n10 => ?_⟩
      walk_at "rdh"
      have n0 : ((0 : Int) : Rat).num = 0 := rfl
      rw [n0] at n10
      refine r_noughts n10 (by decide) (by decide) ?_
      walk_at "rdh"
      refine r_new (by show 2 ≤ 1000; decide) fun d1 hd1 => ?_
      have y1 := Same.new (o := .tup [.int 0, .bl true]) hd1
      have m1 := upd_same (H := H10) (a := d1) (o := HO.tup [.int 0, .bl true])
      generalize upd H10 d1 (.tup [.int 0, .bl true]) = G6 at *
      walk_at "rdh"
      refine r_new (by show 2 ≤ 1000; decide) fun d2 hd2 => ?_
      have y2 := Same.new (o := .tup [.int 0, .bl true]) hd2
      have m2 := upd_same (H := G6) (a := d2) (o := HO.tup [.int 0, .bl true])
      generalize upd G6 d2 (.tup [.int 0, .bl true]) = G7 at *
      walk_at "rdh"
      refine r_new (by show 2 ≤ 1000; decide) fun d3 hd3 => ?_
      have y3 := Same.new (o := .lst [.ref d1, .ref d2]) hd3
      have m3 := upd_same (H := G7) (a := d3) (o := HO.lst [.ref d1, .ref d2])
      generalize upd G7 d3 (.lst [.ref d1, .ref d2]) = G8 at *
      walk_at "rdh"
      refine r_noughts ⟨d1, d2, m3, (y2.trans y3) _ _ m1, y3 _ _ m2⟩ (by decide) (by decide) ?_
      refine r_eqS ?_
      rw [decide_eq_true rfl]
      exact k _
end
end My

namespace My
open PySem L2
theorem kit_self {K : PySem.W.Frag} {C : Addr} : PySem.W.kitOne K (.ref C) (.ref C) = some true := if_pos (by simp)
theorem bi_Number_init {K : PySem.W.Frag} {f : Addr} {fd : FuncData} (F : FunD K "__init__" "Number.__init__" (defArgs s_Number_init) (defBody s_Number_init) (defScope s_Number_init) [V.int 1] [] f fd) :
    Binds K fd ["self", "top", "bottom"] [] ∧ ∃ ds : List Value, Vals [V.int 1] ds ∧ Binds K fd ["self", "top", "bottom"] ds := by
  constructor
  · obtain ⟨ds, r, b⟩ := F.binds1 (ps := ["self", "top", "bottom"]) 3 1 (by simp) rfl fun T kV doc pm an cdv ct us its h1 h2 => match us, its, h1, h2 with | [_, _, _], [_], _, _ => ⟨_, rfl, rfl⟩
    cases r
    exact b
  · exact F.binds1 (ps := ["self", "top", "bottom"]) 2 0 (by simp) rfl fun T kV doc pm an cdv ct us its h1 h2 => match us, its, h1, h2 with | [_, _], [_], _, _ => ⟨_, rfl, rfl⟩
theorem all_mk {l : PySem.W.OpenLaw} {w : World} {K : PySem.W.Frag} {h : Heap} {mg : Str → Option Value} {fa : Addr} (X : K.In h) (G : h.Ns mainGlobals mg) (hfa : mg "law" = some (.ref fa))
    {C_Number : Addr}
    {f_Number_init : Addr} {od_Number_init an_Number_init : Option Addr} {sl_Number_init : Array (Option Value)} {oc_Number_init dc_Number_init pm_Number_init cd_Number_init ct_Number_init : Value}
    {kV_Number_init : Value}
    {Td_Number_init : Addr} {cT_Number_init : Value} {dT_Number_init : Option Addr} {nT_Number_init : Nat} {sT_Number_init : Array (Option Value)} {tk_Number_init : Tok}
    {f_Number_more : Addr} {od_Number_more an_Number_more : Option Addr} {sl_Number_more : Array (Option Value)} {oc_Number_more dc_Number_more pm_Number_more cd_Number_more ct_Number_more : Value}
    {kV_Number_more : Value}
    {f_Number_less : Addr} {od_Number_less an_Number_less : Option Addr} {sl_Number_less : Array (Option Value)} {oc_Number_less dc_Number_less pm_Number_less cd_Number_less ct_Number_less : Value}
    {kV_Number_less : Value}
    {f_Number_times : Addr} {od_Number_times an_Number_times : Option Addr} {sl_Number_times : Array (Option Value)} {oc_Number_times dc_Number_times pm_Number_times cd_Number_times ct_Number_times : Value}
    {kV_Number_times : Value}
    {f_Number_over : Addr} {od_Number_over an_Number_over : Option Addr} {sl_Number_over : Array (Option Value)} {oc_Number_over dc_Number_over pm_Number_over cd_Number_over ct_Number_over : Value}
    {kV_Number_over : Value}
    {f_Number_below : Addr} {od_Number_below an_Number_below : Option Addr} {sl_Number_below : Array (Option Value)} {oc_Number_below dc_Number_below pm_Number_below cd_Number_below ct_Number_below : Value}
    {kV_Number_below : Value}
    {f_Number_size : Addr} {od_Number_size an_Number_size : Option Addr} {sl_Number_size : Array (Option Value)} {oc_Number_size dc_Number_size pm_Number_size cd_Number_size ct_Number_size : Value}
    {kV_Number_size : Value}
    {f_Number_floor : Addr} {od_Number_floor an_Number_floor : Option Addr} {sl_Number_floor : Array (Option Value)} {oc_Number_floor dc_Number_floor pm_Number_floor cd_Number_floor ct_Number_floor : Value}
    {kV_Number_floor : Value}
    {f_l_well : Addr} {od_l_well an_l_well : Option Addr} {sl_l_well : Array (Option Value)} {oc_l_well dc_l_well pm_l_well cd_l_well ct_l_well : Value}
    {kV_l_well : Value}
    {f_l_take : Addr} {od_l_take an_l_take : Option Addr} {sl_l_take : Array (Option Value)} {oc_l_take dc_l_take pm_l_take cd_l_take ct_l_take : Value}
    {kV_l_take : Value}
    {f_l_ten : Addr} {od_l_ten an_l_ten : Option Addr} {sl_l_ten : Array (Option Value)} {oc_l_ten dc_l_ten pm_l_ten cd_l_ten ct_l_ten : Value}
    {kV_l_ten : Value}
    {f_l_pair : Addr} {od_l_pair an_l_pair : Option Addr} {sl_l_pair : Array (Option Value)} {oc_l_pair dc_l_pair pm_l_pair cd_l_pair ct_l_pair : Value}
    {kV_l_pair : Value}
    {f_l_lowest : Addr} {od_l_lowest an_l_lowest : Option Addr} {sl_l_lowest : Array (Option Value)} {oc_l_lowest dc_l_lowest pm_l_lowest cd_l_lowest ct_l_lowest : Value}
    {kV_l_lowest : Value}
    {f_l_is : Addr} {od_l_is an_l_is : Option Addr} {sl_l_is : Array (Option Value)} {oc_l_is dc_l_is pm_l_is cd_l_is ct_l_is : Value}
    {kV_l_is : Value}
    {f_l_of_nought : Addr} {od_l_of_nought an_l_of_nought : Option Addr} {sl_l_of_nought : Array (Option Value)} {oc_l_of_nought dc_l_of_nought pm_l_of_nought cd_l_of_nought ct_l_of_nought : Value}
    {kV_l_of_nought : Value}
    {f_l_two_right : Addr} {od_l_two_right an_l_two_right : Option Addr} {sl_l_two_right : Array (Option Value)} {oc_l_two_right dc_l_two_right pm_l_two_right cd_l_two_right ct_l_two_right : Value}
    {kV_l_two_right : Value}
    {f_law : Addr} {od_law an_law : Option Addr} {sl_law : Array (Option Value)} {oc_law dc_law pm_law cd_law ct_law : Value}
    {kV_law : Value}
    {C_NoBottom f_NoB : Addr} {nmB qB : Str} {NB : Addr} {bsB : List Value} {snB : List Str} {subB : List Value} {abB : Bool} {colB : Option Bool} {ddB : Option Addr} {mB0 mB1 mB2 mB3 mB5 : Option Value}
    {odB anB : Option Addr} {slB : Array (Option Value)} {ocB dcB pmB cdB ctB : Value} {C_FigureError C_NoText C_Unsorted : Addr}
    (aC_Number : PySem.W.nsIn K mainGlobals "Number" = some (some (.ref C_Number)))
    (pg_Number : PySem.W.plainGet K C_Number Str.empty = true)
    (hd_Number : PySem.W.hasDictIn K C_Number = true)
    (po_Number : PySem.W.plainOver K C_Number = true)
    (sa_Number : PySem.W.findIn K (.ref C_Number) "__setattr__" = some (some (.builtin "object.__setattr__")))
    (nf_Number_top : PySem.W.findIn K (.ref C_Number) "top" = some none)
    (nf_Number_bottom : PySem.W.findIn K (.ref C_Number) "bottom" = some none)
    (tc_Number : PySem.W.findIn K (.ref C_Number) "__class__" = some (some (.builtin "object.__class__")))
    (tg_Number : PySem.W.specialIn K (.builtin "object.__class__") "__get__" = some (some (.builtin "getset_descriptor.__get__")))
    (tt_Number : PySem.W.takesIn K (.builtin "object.__class__") = some true)
    (tm_Number : PySem.W.mroIn K C_Number (.type "object") = some true)
    (nn_Number : PySem.W.findIn K (.ref C_Number) "__ne__" = some (some (.builtin "object.__ne__")))
    (mi_Number : PySem.W.makesIn K C_Number = true)
    (kc_Number : PySem.W.keepIn K (.ref C_Number) = true)
    (a_Number_init : PySem.W.findIn K (.ref C_Number) "__init__" = some (some (.ref f_Number_init)))
    (i_Number_init : PySem.W.isFn K (.ref f_Number_init) = true)
    (l_Number_init : K.lookup f_Number_init = some ⟨oc_Number_init, od_Number_init, .func (PySem.W.fnOf "__init__" "Number.__init__" (defArgs s_Number_init) (defBody s_Number_init) (defScope s_Number_init) (.ref Td_Number_init) kV_Number_init dc_Number_init pm_Number_init an_Number_init cd_Number_init ct_Number_init), sl_Number_init⟩)
    (c_Number_init : PySem.W.codeIn K cd_Number_init "Number.__init__" = true)
    (k_Number_init : PySem.W.keepIn K (.ref f_Number_init) = true)
    (T_Number_init : K.lookup Td_Number_init = some ⟨cT_Number_init, dT_Number_init, .seq #[.int 1 tk_Number_init] nT_Number_init, sT_Number_init⟩)
    (a_Number_more : PySem.W.findIn K (.ref C_Number) "more" = some (some (.ref f_Number_more)))
    (i_Number_more : PySem.W.isFn K (.ref f_Number_more) = true)
    (l_Number_more : K.lookup f_Number_more = some ⟨oc_Number_more, od_Number_more, .func (PySem.W.fnOf "more" "Number.more" (defArgs s_Number_more) (defBody s_Number_more) (defScope s_Number_more) .none kV_Number_more dc_Number_more pm_Number_more an_Number_more cd_Number_more ct_Number_more), sl_Number_more⟩)
    (c_Number_more : PySem.W.codeIn K cd_Number_more "Number.more" = true)
    (k_Number_more : PySem.W.keepIn K (.ref f_Number_more) = true)
    (a_Number_less : PySem.W.findIn K (.ref C_Number) "less" = some (some (.ref f_Number_less)))
    (i_Number_less : PySem.W.isFn K (.ref f_Number_less) = true)
    (l_Number_less : K.lookup f_Number_less = some ⟨oc_Number_less, od_Number_less, .func (PySem.W.fnOf "less" "Number.less" (defArgs s_Number_less) (defBody s_Number_less) (defScope s_Number_less) .none kV_Number_less dc_Number_less pm_Number_less an_Number_less cd_Number_less ct_Number_less), sl_Number_less⟩)
    (c_Number_less : PySem.W.codeIn K cd_Number_less "Number.less" = true)
    (k_Number_less : PySem.W.keepIn K (.ref f_Number_less) = true)
    (a_Number_times : PySem.W.findIn K (.ref C_Number) "times" = some (some (.ref f_Number_times)))
    (i_Number_times : PySem.W.isFn K (.ref f_Number_times) = true)
    (l_Number_times : K.lookup f_Number_times = some ⟨oc_Number_times, od_Number_times, .func (PySem.W.fnOf "times" "Number.times" (defArgs s_Number_times) (defBody s_Number_times) (defScope s_Number_times) .none kV_Number_times dc_Number_times pm_Number_times an_Number_times cd_Number_times ct_Number_times), sl_Number_times⟩)
    (c_Number_times : PySem.W.codeIn K cd_Number_times "Number.times" = true)
    (k_Number_times : PySem.W.keepIn K (.ref f_Number_times) = true)
    (a_Number_over : PySem.W.findIn K (.ref C_Number) "over" = some (some (.ref f_Number_over)))
    (i_Number_over : PySem.W.isFn K (.ref f_Number_over) = true)
    (l_Number_over : K.lookup f_Number_over = some ⟨oc_Number_over, od_Number_over, .func (PySem.W.fnOf "over" "Number.over" (defArgs s_Number_over) (defBody s_Number_over) (defScope s_Number_over) .none kV_Number_over dc_Number_over pm_Number_over an_Number_over cd_Number_over ct_Number_over), sl_Number_over⟩)
    (c_Number_over : PySem.W.codeIn K cd_Number_over "Number.over" = true)
    (k_Number_over : PySem.W.keepIn K (.ref f_Number_over) = true)
    (a_Number_below : PySem.W.findIn K (.ref C_Number) "below" = some (some (.ref f_Number_below)))
    (i_Number_below : PySem.W.isFn K (.ref f_Number_below) = true)
    (l_Number_below : K.lookup f_Number_below = some ⟨oc_Number_below, od_Number_below, .func (PySem.W.fnOf "below" "Number.below" (defArgs s_Number_below) (defBody s_Number_below) (defScope s_Number_below) .none kV_Number_below dc_Number_below pm_Number_below an_Number_below cd_Number_below ct_Number_below), sl_Number_below⟩)
    (c_Number_below : PySem.W.codeIn K cd_Number_below "Number.below" = true)
    (k_Number_below : PySem.W.keepIn K (.ref f_Number_below) = true)
    (a_Number_size : PySem.W.findIn K (.ref C_Number) "size" = some (some (.ref f_Number_size)))
    (i_Number_size : PySem.W.isFn K (.ref f_Number_size) = true)
    (l_Number_size : K.lookup f_Number_size = some ⟨oc_Number_size, od_Number_size, .func (PySem.W.fnOf "size" "Number.size" (defArgs s_Number_size) (defBody s_Number_size) (defScope s_Number_size) .none kV_Number_size dc_Number_size pm_Number_size an_Number_size cd_Number_size ct_Number_size), sl_Number_size⟩)
    (c_Number_size : PySem.W.codeIn K cd_Number_size "Number.size" = true)
    (k_Number_size : PySem.W.keepIn K (.ref f_Number_size) = true)
    (a_Number_floor : PySem.W.findIn K (.ref C_Number) "floor" = some (some (.ref f_Number_floor)))
    (i_Number_floor : PySem.W.isFn K (.ref f_Number_floor) = true)
    (l_Number_floor : K.lookup f_Number_floor = some ⟨oc_Number_floor, od_Number_floor, .func (PySem.W.fnOf "floor" "Number.floor" (defArgs s_Number_floor) (defBody s_Number_floor) (defScope s_Number_floor) .none kV_Number_floor dc_Number_floor pm_Number_floor an_Number_floor cd_Number_floor ct_Number_floor), sl_Number_floor⟩)
    (c_Number_floor : PySem.W.codeIn K cd_Number_floor "Number.floor" = true)
    (k_Number_floor : PySem.W.keepIn K (.ref f_Number_floor) = true)
    (a_l_well : PySem.W.nsIn K mainGlobals "_law_well" = some (some (.ref f_l_well)))
    (l_l_well : K.lookup f_l_well = some ⟨oc_l_well, od_l_well, .func (PySem.W.fnOf "_law_well" "_law_well" (defArgs s_l_well) (defBody s_l_well) (defScope s_l_well) .none kV_l_well dc_l_well pm_l_well an_l_well cd_l_well ct_l_well), sl_l_well⟩)
    (c_l_well : PySem.W.codeIn K cd_l_well "_law_well" = true)
    (k_l_well : PySem.W.keepIn K (.ref f_l_well) = true)
    (a_l_take : PySem.W.nsIn K mainGlobals "_law_take" = some (some (.ref f_l_take)))
    (l_l_take : K.lookup f_l_take = some ⟨oc_l_take, od_l_take, .func (PySem.W.fnOf "_law_take" "_law_take" (defArgs s_l_take) (defBody s_l_take) (defScope s_l_take) .none kV_l_take dc_l_take pm_l_take an_l_take cd_l_take ct_l_take), sl_l_take⟩)
    (c_l_take : PySem.W.codeIn K cd_l_take "_law_take" = true)
    (k_l_take : PySem.W.keepIn K (.ref f_l_take) = true)
    (a_l_ten : PySem.W.nsIn K mainGlobals "_law_ten" = some (some (.ref f_l_ten)))
    (l_l_ten : K.lookup f_l_ten = some ⟨oc_l_ten, od_l_ten, .func (PySem.W.fnOf "_law_ten" "_law_ten" (defArgs s_l_ten) (defBody s_l_ten) (defScope s_l_ten) .none kV_l_ten dc_l_ten pm_l_ten an_l_ten cd_l_ten ct_l_ten), sl_l_ten⟩)
    (c_l_ten : PySem.W.codeIn K cd_l_ten "_law_ten" = true)
    (k_l_ten : PySem.W.keepIn K (.ref f_l_ten) = true)
    (a_l_pair : PySem.W.nsIn K mainGlobals "_law_pair" = some (some (.ref f_l_pair)))
    (l_l_pair : K.lookup f_l_pair = some ⟨oc_l_pair, od_l_pair, .func (PySem.W.fnOf "_law_pair" "_law_pair" (defArgs s_l_pair) (defBody s_l_pair) (defScope s_l_pair) .none kV_l_pair dc_l_pair pm_l_pair an_l_pair cd_l_pair ct_l_pair), sl_l_pair⟩)
    (c_l_pair : PySem.W.codeIn K cd_l_pair "_law_pair" = true)
    (k_l_pair : PySem.W.keepIn K (.ref f_l_pair) = true)
    (a_l_lowest : PySem.W.nsIn K mainGlobals "_law_lowest" = some (some (.ref f_l_lowest)))
    (l_l_lowest : K.lookup f_l_lowest = some ⟨oc_l_lowest, od_l_lowest, .func (PySem.W.fnOf "_law_lowest" "_law_lowest" (defArgs s_l_lowest) (defBody s_l_lowest) (defScope s_l_lowest) .none kV_l_lowest dc_l_lowest pm_l_lowest an_l_lowest cd_l_lowest ct_l_lowest), sl_l_lowest⟩)
    (c_l_lowest : PySem.W.codeIn K cd_l_lowest "_law_lowest" = true)
    (k_l_lowest : PySem.W.keepIn K (.ref f_l_lowest) = true)
    (a_l_is : PySem.W.nsIn K mainGlobals "_law_is" = some (some (.ref f_l_is)))
    (l_l_is : K.lookup f_l_is = some ⟨oc_l_is, od_l_is, .func (PySem.W.fnOf "_law_is" "_law_is" (defArgs s_l_is) (defBody s_l_is) (defScope s_l_is) .none kV_l_is dc_l_is pm_l_is an_l_is cd_l_is ct_l_is), sl_l_is⟩)
    (c_l_is : PySem.W.codeIn K cd_l_is "_law_is" = true)
    (k_l_is : PySem.W.keepIn K (.ref f_l_is) = true)
    (a_l_of_nought : PySem.W.nsIn K mainGlobals "_law_of_nought" = some (some (.ref f_l_of_nought)))
    (l_l_of_nought : K.lookup f_l_of_nought = some ⟨oc_l_of_nought, od_l_of_nought, .func (PySem.W.fnOf "_law_of_nought" "_law_of_nought" (defArgs s_l_of_nought) (defBody s_l_of_nought) (defScope s_l_of_nought) .none kV_l_of_nought dc_l_of_nought pm_l_of_nought an_l_of_nought cd_l_of_nought ct_l_of_nought), sl_l_of_nought⟩)
    (c_l_of_nought : PySem.W.codeIn K cd_l_of_nought "_law_of_nought" = true)
    (k_l_of_nought : PySem.W.keepIn K (.ref f_l_of_nought) = true)
    (a_l_two_right : PySem.W.nsIn K mainGlobals "_law_two_right" = some (some (.ref f_l_two_right)))
    (l_l_two_right : K.lookup f_l_two_right = some ⟨oc_l_two_right, od_l_two_right, .func (PySem.W.fnOf "_law_two_right" "_law_two_right" (defArgs s_l_two_right) (defBody s_l_two_right) (defScope s_l_two_right) .none kV_l_two_right dc_l_two_right pm_l_two_right an_l_two_right cd_l_two_right ct_l_two_right), sl_l_two_right⟩)
    (c_l_two_right : PySem.W.codeIn K cd_l_two_right "_law_two_right" = true)
    (k_l_two_right : PySem.W.keepIn K (.ref f_l_two_right) = true)
    (a_law : PySem.W.nsIn K mainGlobals "law" = some (some (.ref f_law)))
    (l_law : K.lookup f_law = some ⟨oc_law, od_law, .func (PySem.W.fnOf "law" "law" (defArgs s_law) (defBody s_law) (defScope s_law) .none kV_law dc_law pm_law an_law cd_law ct_law), sl_law⟩)
    (c_law : PySem.W.codeIn K cd_law "law" = true)
    (k_law : PySem.W.keepIn K (.ref f_law) = true)
    (aNB : PySem.W.nsIn K mainGlobals "NoBottom" = some (some (.ref C_NoBottom)))
    (xNB : K.lookup C_NoBottom = some (excClassObj nmB qB C_NoBottom NB bsB PySem.NoBX.aeTail true snB subB abB colB ddB mB0 mB1 mB2 mB3 mB5 "ArithmeticError.__new__"))
    (saNB : PySem.W.findIn K (.ref C_NoBottom) "__setattr__" = some (some (.builtin "object.__setattr__")))
    (gaNB : PySem.W.findIn K (.ref C_NoBottom) "__getattribute__" = some (some (.builtin "BaseException.__getattribute__")))
    (ggNB : PySem.W.findIn K (.ref C_NoBottom) "__getattr__" = some none)
    (nbNB : PySem.W.findIn K (.ref C_NoBottom) "top" = some none)
    (a1NB : PySem.W.findIn K (.ref C_NoBottom) "__init__" = some (some (.ref f_NoB)))
    (t1NB : PySem.W.typeIn K (.ref f_NoB) = some (.type "function"))
    (l1NB : K.lookup f_NoB = some ⟨ocB, odB, .func (PySem.W.fnOf "__init__" "NoBottom.__init__" (PySem.NoBX.iA ⟨14, 17, 14, 21⟩ ⟨14, 23, 14, 26⟩) (PySem.NoBX.iB ⟨15, 8, 15, 12⟩ ⟨15, 8, 15, 16⟩ ⟨15, 19, 15, 22⟩ ⟨15, 8, 15, 22⟩) PySem.NoBX.iS .none .none dcB pmB anB cdB ctB), slB⟩)
    (c1NB : PySem.W.codeIn K cdB "NoBottom.__init__" = true)
    (kCNB : PySem.W.keepIn K (.ref C_NoBottom) = true)
    (eCNB : PySem.W.subIn K (.ref C_NoBottom) (.type "BaseException") = some true)
    (tCNB : PySem.W.typeIn K (.ref C_NoBottom) = some (.type "type"))
    (hCNB : PySem.W.hasDictIn K C_NoBottom = true)
    (iCNB : PySem.W.isClsIn K C_NoBottom = true)
    (sCNB : PySem.W.subIn K (.ref C_NoBottom) (.ref C_NoBottom) = some true)
    (haNB : PySem.W.findIn K (.ref C_NoBottom) "__class__" = some (some (.builtin "object.__class__")))
    (hnNB : PySem.W.specialIn K (.builtin "object.__class__") "__get__" = some (some (.builtin "getset_descriptor.__get__")))
    (htNB : PySem.W.takesIn K (.builtin "object.__class__") = some true)
    (hmNB : PySem.W.mroIn K C_NoBottom (.type "object") = some true)
    (zVE : PySem.W.nsIn K mainGlobals "ValueError" = some none)
    (zAE : PySem.W.nsIn K mainGlobals "ArithmeticError" = some none)
    (kVE : PySem.W.subIn K (.ref C_NoBottom) (.type "ValueError") = some false)
    (kAE : PySem.W.subIn K (.ref C_NoBottom) (.type "ArithmeticError") = some true)
    (aFigureError : PySem.W.nsIn K mainGlobals "FigureError" = some (some (.ref C_FigureError)))
    (iFigureError : PySem.W.isClsIn K C_FigureError = true)
    (tFigureError : PySem.W.typeIn K (.ref C_FigureError) = some (.type "type"))
    (kFigureError : PySem.W.subIn K (.ref C_NoBottom) (.ref C_FigureError) = some false)
    (aNoText : PySem.W.nsIn K mainGlobals "NoText" = some (some (.ref C_NoText)))
    (iNoText : PySem.W.isClsIn K C_NoText = true)
    (tNoText : PySem.W.typeIn K (.ref C_NoText) = some (.type "type"))
    (kNoText : PySem.W.subIn K (.ref C_NoBottom) (.ref C_NoText) = some false)
    (aUnsorted : PySem.W.nsIn K mainGlobals "Unsorted" = some (some (.ref C_Unsorted)))
    (iUnsorted : PySem.W.isClsIn K C_Unsorted = true)
    (tUnsorted : PySem.W.typeIn K (.ref C_Unsorted) = some (.type "type"))
    (kUnsorted : PySem.W.subIn K (.ref C_NoBottom) (.ref C_Unsorted) = some false)
    (a_gcd : PySem.W.nsIn K mainGlobals "gcd" = some (some (.builtin "math.gcd")))
    (z_range : PySem.W.nsIn K mainGlobals "range" = some none)
    (z_isinstance : PySem.W.nsIn K mainGlobals "isinstance" = some none)
    (z_str : PySem.W.nsIn K mainGlobals "str" = some none)
    (z_int : PySem.W.nsIn K mainGlobals "int" = some none)
    (z_len : PySem.W.nsIn K mainGlobals "len" = some none)
    (z_abs : PySem.W.nsIn K mainGlobals "abs" = some none)
    (z_max : PySem.W.nsIn K mainGlobals "max" = some none)
    (z_min : PySem.W.nsIn K mainGlobals "min" = some none)
    (z_repr : PySem.W.nsIn K mainGlobals "repr" = some none)
    : ∃ fd : FuncData, (∀ (s : Shared) (v : Value), BindsTo s fd ⟨[v], []⟩ [("_law_script", v)]) ∧ ∀ base : Heap, K.In base → base.Ns mainGlobals mg → FnG l.prog w K mg base 5 fa fd ["_law_script"] (spLaw K) := by
  have e := hfa.symm.trans (PySem.W.mg_of X G a_law)
  cases e
  have F_Number_init : FunD K "__init__" "Number.__init__" (defArgs s_Number_init) (defBody s_Number_init) (defScope s_Number_init) [V.int 1] [] f_Number_init _ := ⟨⟨_, _, _, _, _, _, _, _, _, _, rfl, l_Number_init, c_Number_init, .inr ⟨by simp, Td_Number_init, _, _, _, rfl, T_Number_init, rfl, .cons ⟨_, rfl⟩ .nil⟩, .inl rfl⟩, k_Number_init⟩
  obtain ⟨b_Number_init2, ds_Number_init1, d_Number_init1, b_Number_init1⟩ := bi_Number_init F_Number_init
  have F_Number_more := fun_mk (st := s_Number_more) l_Number_more c_Number_more k_Number_more
  have b_Number_more := F_Number_more.binds (ps := ["self", "other"]) fun _ _ _ _ _ _ us hl => match us, hl with | [_, _], _ => rfl
  have F_Number_less := fun_mk (st := s_Number_less) l_Number_less c_Number_less k_Number_less
  have b_Number_less := F_Number_less.binds (ps := ["self", "other"]) fun _ _ _ _ _ _ us hl => match us, hl with | [_, _], _ => rfl
  have F_Number_times := fun_mk (st := s_Number_times) l_Number_times c_Number_times k_Number_times
  have b_Number_times := F_Number_times.binds (ps := ["self", "other"]) fun _ _ _ _ _ _ us hl => match us, hl with | [_, _], _ => rfl
  have F_Number_over := fun_mk (st := s_Number_over) l_Number_over c_Number_over k_Number_over
  have b_Number_over := F_Number_over.binds (ps := ["self", "other"]) fun _ _ _ _ _ _ us hl => match us, hl with | [_, _], _ => rfl
  have F_Number_below := fun_mk (st := s_Number_below) l_Number_below c_Number_below k_Number_below
  have b_Number_below := F_Number_below.binds (ps := ["self", "other"]) fun _ _ _ _ _ _ us hl => match us, hl with | [_, _], _ => rfl
  have F_Number_size := fun_mk (st := s_Number_size) l_Number_size c_Number_size k_Number_size
  have b_Number_size := F_Number_size.binds (ps := ["self"]) fun _ _ _ _ _ _ us hl => match us, hl with | [_], _ => rfl
  have F_Number_floor := fun_mk (st := s_Number_floor) l_Number_floor c_Number_floor k_Number_floor
  have b_Number_floor := F_Number_floor.binds (ps := ["self"]) fun _ _ _ _ _ _ us hl => match us, hl with | [_], _ => rfl
  have F_l_well := fun_mk (st := s_l_well) l_l_well c_l_well k_l_well
  have b_l_well := F_l_well.binds (ps := ["_law_script", "_law_k"]) fun _ _ _ _ _ _ us hl => match us, hl with | [_, _], _ => rfl
  have F_l_take := fun_mk (st := s_l_take) l_l_take c_l_take k_l_take
  have b_l_take := F_l_take.binds (ps := ["_law_well_here", "_law_top"]) fun _ _ _ _ _ _ us hl => match us, hl with | [_, _], _ => rfl
  have F_l_ten := fun_mk (st := s_l_ten) l_l_ten c_l_ten k_l_ten
  have b_l_ten := F_l_ten.binds (ps := ["_law_power"]) fun _ _ _ _ _ _ us hl => match us, hl with | [_], _ => rfl
  have F_l_pair := fun_mk (st := s_l_pair) l_l_pair c_l_pair k_l_pair
  have b_l_pair := F_l_pair.binds (ps := ["_law_well_here"]) fun _ _ _ _ _ _ us hl => match us, hl with | [_], _ => rfl
  have F_l_lowest := fun_mk (st := s_l_lowest) l_l_lowest c_l_lowest k_l_lowest
  have b_l_lowest := F_l_lowest.binds (ps := ["_law_top", "_law_bottom"]) fun _ _ _ _ _ _ us hl => match us, hl with | [_, _], _ => rfl
  have F_l_is := fun_mk (st := s_l_is) l_l_is c_l_is k_l_is
  have b_l_is := F_l_is.binds (ps := ["_law_found", "_law_top", "_law_bottom"]) fun _ _ _ _ _ _ us hl => match us, hl with | [_, _, _], _ => rfl
  have F_l_of_nought := fun_mk (st := s_l_of_nought) l_l_of_nought c_l_of_nought k_l_of_nought
  have b_l_of_nought := F_l_of_nought.binds (ps := ["_law_number", "_law_top"]) fun _ _ _ _ _ _ us hl => match us, hl with | [_, _], _ => rfl
  have F_l_two_right := fun_mk (st := s_l_two_right) l_l_two_right c_l_two_right k_l_two_right
  have b_l_two_right := F_l_two_right.binds (ps := ["_law_one", "_law_other"]) fun _ _ _ _ _ _ us hl => match us, hl with | [_, _], _ => rfl
  have F_law := fun_mk (st := s_law) l_law c_law k_law
  have b_law := F_law.binds (ps := ["_law_script"]) fun _ _ _ _ _ _ us hl => match us, hl with | [_], _ => rfl
  exact ⟨_, fun s v => .of_eq rfl, fun base _ _ => okG_law (w := w) (K := K) (mg := mg) {
    C_Number := C_Number,
    m_Number := PySem.W.mg_of X G aC_Number,
    c_Number := ⟨pg_Number, hd_Number, po_Number, sa_Number⟩,
    n_Number_top := nf_Number_top,
    n_Number_bottom := nf_Number_bottom,
    ty_Number_c := tc_Number,
    ty_Number_g := tg_Number,
    ty_Number_t := tt_Number,
    ty_Number_m := tm_Number,
    ty_Number_k := kit_self,
    ne_Number := nn_Number,
    f_Number_init := f_Number_init,
    fd_Number_init := _,
    F_Number_init := F_Number_init,
    mk_Number := ⟨mi_Number, a_Number_init, i_Number_init, kc_Number⟩,
    b_Number_init2 := b_Number_init2,
    ds_Number_init1 := ds_Number_init1,
    d_Number_init1 := d_Number_init1,
    b_Number_init1 := b_Number_init1,
    f_Number_more := f_Number_more,
    fd_Number_more := _,
    F_Number_more := F_Number_more,
    me_Number_more := ⟨a_Number_more, i_Number_more, k_Number_more⟩,
    b_Number_more := b_Number_more,
    f_Number_less := f_Number_less,
    fd_Number_less := _,
    F_Number_less := F_Number_less,
    me_Number_less := ⟨a_Number_less, i_Number_less, k_Number_less⟩,
    b_Number_less := b_Number_less,
    f_Number_times := f_Number_times,
    fd_Number_times := _,
    F_Number_times := F_Number_times,
    me_Number_times := ⟨a_Number_times, i_Number_times, k_Number_times⟩,
    b_Number_times := b_Number_times,
    f_Number_over := f_Number_over,
    fd_Number_over := _,
    F_Number_over := F_Number_over,
    me_Number_over := ⟨a_Number_over, i_Number_over, k_Number_over⟩,
    b_Number_over := b_Number_over,
    f_Number_below := f_Number_below,
    fd_Number_below := _,
    F_Number_below := F_Number_below,
    me_Number_below := ⟨a_Number_below, i_Number_below, k_Number_below⟩,
    b_Number_below := b_Number_below,
    f_Number_size := f_Number_size,
    fd_Number_size := _,
    F_Number_size := F_Number_size,
    me_Number_size := ⟨a_Number_size, i_Number_size, k_Number_size⟩,
    b_Number_size := b_Number_size,
    f_Number_floor := f_Number_floor,
    fd_Number_floor := _,
    F_Number_floor := F_Number_floor,
    me_Number_floor := ⟨a_Number_floor, i_Number_floor, k_Number_floor⟩,
    b_Number_floor := b_Number_floor,
    m_l_well := PySem.W.mg_of X G a_l_well,
    f_l_well := f_l_well,
    fd_l_well := _,
    F_l_well := F_l_well,
    b_l_well := b_l_well,
    m_l_take := PySem.W.mg_of X G a_l_take,
    f_l_take := f_l_take,
    fd_l_take := _,
    F_l_take := F_l_take,
    b_l_take := b_l_take,
    m_l_ten := PySem.W.mg_of X G a_l_ten,
    f_l_ten := f_l_ten,
    fd_l_ten := _,
    F_l_ten := F_l_ten,
    b_l_ten := b_l_ten,
    m_l_pair := PySem.W.mg_of X G a_l_pair,
    f_l_pair := f_l_pair,
    fd_l_pair := _,
    F_l_pair := F_l_pair,
    b_l_pair := b_l_pair,
    m_l_lowest := PySem.W.mg_of X G a_l_lowest,
    f_l_lowest := f_l_lowest,
    fd_l_lowest := _,
    F_l_lowest := F_l_lowest,
    b_l_lowest := b_l_lowest,
    m_l_is := PySem.W.mg_of X G a_l_is,
    f_l_is := f_l_is,
    fd_l_is := _,
    F_l_is := F_l_is,
    b_l_is := b_l_is,
    m_l_of_nought := PySem.W.mg_of X G a_l_of_nought,
    f_l_of_nought := f_l_of_nought,
    fd_l_of_nought := _,
    F_l_of_nought := F_l_of_nought,
    b_l_of_nought := b_l_of_nought,
    m_l_two_right := PySem.W.mg_of X G a_l_two_right,
    f_l_two_right := f_l_two_right,
    fd_l_two_right := _,
    F_l_two_right := F_l_two_right,
    b_l_two_right := b_l_two_right,
    m_law := PySem.W.mg_of X G a_law,
    f_law := _,
    fd_law := _,
    F_law := F_law,
    b_law := b_law,
    C_NoBottom := C_NoBottom,
    f_NoB := f_NoB,
    noB := { gC := PySem.W.mg_of X G aNB, cls := ⟨nmB, qB, NB, bsB, _, snB, subB, abB, colB, ddB, mB0, mB1, mB2, mB3, mB5, xNB, rfl⟩, sa := saNB, ga := gaNB, gg := ggNB, noN := nbNB, iC := a1NB, tC := t1NB, kC := kCNB, exC := eCNB, tyC := tCNB, hdC := hCNB, te := exm_self eCNB iCNB tCNB sCNB, fn := ⟨_, _, _, _, _, _, _, _, _, _, _, _, _, _, l1NB, c1NB⟩ },
    exB := ⟨gaNB, ggNB, eCNB, hCNB, haNB, hnNB, htNB, hmNB⟩,
    n_ValueError := PySem.W.mg_none_of X G zVE,
    n_ArithmeticError := PySem.W.mg_none_of X G zAE,
    kt_VE := kit_type kVE (by decide +kernel),
    kt_AE := kit_type kAE (by decide +kernel),
    C_FigureError := C_FigureError,
    m_FigureError := PySem.W.mg_of X G aFigureError,
    kt_FigureError := kit_other sCNB kFigureError iFigureError tFigureError,
    C_NoText := C_NoText,
    m_NoText := PySem.W.mg_of X G aNoText,
    kt_NoText := kit_other sCNB kNoText iNoText tNoText,
    C_Unsorted := C_Unsorted,
    m_Unsorted := PySem.W.mg_of X G aUnsorted,
    kt_Unsorted := kit_other sCNB kUnsorted iUnsorted tUnsorted,
    m_gcd := PySem.W.mg_of X G a_gcd,
    n_range := PySem.W.mg_none_of X G z_range,
    n_isinstance := PySem.W.mg_none_of X G z_isinstance,
    n_str := PySem.W.mg_none_of X G z_str,
    n_int := PySem.W.mg_none_of X G z_int,
    n_len := PySem.W.mg_none_of X G z_len,
    n_abs := PySem.W.mg_none_of X G z_abs,
    n_max := PySem.W.mg_none_of X G z_max,
    n_min := PySem.W.mg_none_of X G z_min,
    n_repr := PySem.W.mg_none_of X G z_repr }⟩
theorem walk {l : PySem.W.OpenLaw} {q : Program} {loose : List Str} {XP : (Str → Option Value) → Heap → Prop} {YP : World → Heap → Prop} {d : DefRec} {K : Params → PySem.W.Frag} (hn : l.most = some 63) (hdf : d.params.defaults = [])
    (hY : ∀ (w : World) (h : Heap), YP w h → (K w.params).In h)
    (F : ∀ (w : World) (mg : Str → Option Value) (fa : Addr) (h : Heap), (K w.params).In h → h.Ns mainGlobals mg → mg d.name = some (.ref fa) →
      ∃ fd : FuncData, (∀ (s : Shared) (u : Value), BindsTo s fd ⟨[u], []⟩ [("_law_script", u)]) ∧ ∀ base : Heap, (K w.params).In base → base.Ns mainGlobals mg → FnG l.prog w (K w.params) mg base 5 fa fd ["_law_script"] (spLaw (K w.params))) :
    PySem.W.WalkO q loose XP YP l.row.toRowW d [] (fun f vs => PySem.call f vs) :=
  walk_ofG (n := 63) (k := 5) (x := "_law_script") (sp := fun w => spLaw (K w.params)) hn (by decide) hdf ⟨rfl, by decide, by decide⟩ hY F (fun _ _ a ns hl hS => ⟨a, ns, rfl, hS, hl, fun _ => rfl⟩)
end My
open PySem PySem.W PyProof.Rows in
set_option maxRecDepth 100000 in
set_option maxHeartbeats 0 in
theorem PySem.Challenge.cw_figuretexts_k02_numbers_reckoned_holds : PySem.Challenge.rw_figuretexts_k02_numbers_reckoned.Holds := by
  w_on; o_law; k_head; (case hw => w_witness2)
  k_fill
  refine My.walk (l := PySem.Challenge.rw_figuretexts_k02_numbers_reckoned) rfl rfl (fun w h Y => PySem.W.kIn_of Y) ?F
  case F =>
    intro w mg fa h KX G hmg
    refine' My.all_mk KX G hmg ?aC_Number ?pg_Number ?hd_Number ?po_Number ?sa_Number ?nf_Number_top ?nf_Number_bottom ?tc_Number ?tg_Number ?tt_Number ?tm_Number ?nn_Number ?mi_Number ?kc_Number ?a_Number_init ?i_Number_init ?l_Number_init ?c_Number_init ?k_Number_init ?T_Number_init ?a_Number_more ?i_Number_more ?l_Number_more ?c_Number_more ?k_Number_more ?a_Number_less ?i_Number_less ?l_Number_less ?c_Number_less ?k_Number_less ?a_Number_times ?i_Number_times ?l_Number_times ?c_Number_times ?k_Number_times ?a_Number_over ?i_Number_over ?l_Number_over ?c_Number_over ?k_Number_over ?a_Number_below ?i_Number_below ?l_Number_below ?c_Number_below ?k_Number_below ?a_Number_size ?i_Number_size ?l_Number_size ?c_Number_size ?k_Number_size ?a_Number_floor ?i_Number_floor ?l_Number_floor ?c_Number_floor ?k_Number_floor ?a_l_well ?l_l_well ?c_l_well ?k_l_well ?a_l_take ?l_l_take ?c_l_take ?k_l_take ?a_l_ten ?l_l_ten ?c_l_ten ?k_l_ten ?a_l_pair ?l_l_pair ?c_l_pair ?k_l_pair ?a_l_lowest ?l_l_lowest ?c_l_lowest ?k_l_lowest ?a_l_is ?l_l_is ?c_l_is ?k_l_is ?a_l_of_nought ?l_l_of_nought ?c_l_of_nought ?k_l_of_nought ?a_l_two_right ?l_l_two_right ?c_l_two_right ?k_l_two_right ?a_law ?l_law ?c_law ?k_law ?aNB ?xNB ?saNB ?gaNB ?ggNB ?nbNB ?a1NB ?t1NB ?l1NB ?c1NB ?kCNB ?eCNB ?tCNB ?hCNB ?iCNB ?sCNB ?haNB ?hnNB ?htNB ?hmNB ?zVE ?zAE ?kVE ?kAE ?aFigureError ?iFigureError ?tFigureError ?kFigureError ?aNoText ?iNoText ?tNoText ?kNoText ?aUnsorted ?iUnsorted ?tUnsorted ?kUnsorted ?a_gcd ?z_range ?z_isinstance ?z_str ?z_int ?z_len ?z_abs ?z_max ?z_min ?z_repr
    (case aC_Number => k_is)
    (case pg_Number => k_is)
    (case hd_Number => k_is)
    (case po_Number => k_is)
    (case sa_Number => k_is)
    (case nf_Number_top => k_is)
    (case nf_Number_bottom => k_is)
    (case tc_Number => k_is)
    (case tg_Number => k_is)
    (case tt_Number => k_is)
    (case tm_Number => k_is)
    (case nn_Number => k_is)
    (case mi_Number => k_is)
    (case kc_Number => k_is)
    (case a_Number_init => k_is)
    (case i_Number_init => k_is)
    (case l_Number_init => k_is)
    (case c_Number_init => k_is)
    (case k_Number_init => k_is)
    (case T_Number_init => k_is)
    (case a_Number_more => k_is)
    (case i_Number_more => k_is)
    (case l_Number_more => k_is)
    (case c_Number_more => k_is)
    (case k_Number_more => k_is)
    (case a_Number_less => k_is)
    (case i_Number_less => k_is)
    (case l_Number_less => k_is)
    (case c_Number_less => k_is)
    (case k_Number_less => k_is)
    (case a_Number_times => k_is)
    (case i_Number_times => k_is)
    (case l_Number_times => k_is)
    (case c_Number_times => k_is)
    (case k_Number_times => k_is)
    (case a_Number_over => k_is)
    (case i_Number_over => k_is)
    (case l_Number_over => k_is)
    (case c_Number_over => k_is)
    (case k_Number_over => k_is)
    (case a_Number_below => k_is)
    (case i_Number_below => k_is)
    (case l_Number_below => k_is)
    (case c_Number_below => k_is)
    (case k_Number_below => k_is)
    (case a_Number_size => k_is)
    (case i_Number_size => k_is)
    (case l_Number_size => k_is)
    (case c_Number_size => k_is)
    (case k_Number_size => k_is)
    (case a_Number_floor => k_is)
    (case i_Number_floor => k_is)
    (case l_Number_floor => k_is)
    (case c_Number_floor => k_is)
    (case k_Number_floor => k_is)
    (case a_l_well => k_is)
    (case l_l_well => k_is)
    (case c_l_well => k_is)
    (case k_l_well => k_is)
    (case a_l_take => k_is)
    (case l_l_take => k_is)
    (case c_l_take => k_is)
    (case k_l_take => k_is)
    (case a_l_ten => k_is)
    (case l_l_ten => k_is)
    (case c_l_ten => k_is)
    (case k_l_ten => k_is)
    (case a_l_pair => k_is)
    (case l_l_pair => k_is)
    (case c_l_pair => k_is)
    (case k_l_pair => k_is)
    (case a_l_lowest => k_is)
    (case l_l_lowest => k_is)
    (case c_l_lowest => k_is)
    (case k_l_lowest => k_is)
    (case a_l_is => k_is)
    (case l_l_is => k_is)
    (case c_l_is => k_is)
    (case k_l_is => k_is)
    (case a_l_of_nought => k_is)
    (case l_l_of_nought => k_is)
    (case c_l_of_nought => k_is)
    (case k_l_of_nought => k_is)
    (case a_l_two_right => k_is)
    (case l_l_two_right => k_is)
    (case c_l_two_right => k_is)
    (case k_l_two_right => k_is)
    (case a_law => k_is)
    (case l_law => k_is)
    (case c_law => k_is)
    (case k_law => k_is)
    (case aNB => k_is)
    (case xNB => k_is)
    (case saNB => k_is)
    (case gaNB => k_is)
    (case ggNB => k_is)
    (case nbNB => k_is)
    (case a1NB => k_is)
    (case t1NB => k_is)
    (case l1NB => k_is)
    (case c1NB => k_is)
    (case kCNB => k_is)
    (case eCNB => k_is)
    (case tCNB => k_is)
    (case hCNB => k_is)
    (case iCNB => k_is)
    (case sCNB => first | rfl | k_is)
    (case haNB => k_is)
    (case hnNB => k_is)
    (case htNB => k_is)
    (case hmNB => k_is)
    (case zVE => k_is)
    (case zAE => k_is)
    (case kVE => k_is)
    (case kAE => k_is)
    (case aFigureError => k_is)
    (case iFigureError => k_is)
    (case tFigureError => k_is)
    (case kFigureError => k_is)
    (case aNoText => k_is)
    (case iNoText => k_is)
    (case tNoText => k_is)
    (case kNoText => k_is)
    (case aUnsorted => k_is)
    (case iUnsorted => k_is)
    (case tUnsorted => k_is)
    (case kUnsorted => k_is)
    (case a_gcd => k_is)
    (case z_range => k_is)
    (case z_isinstance => k_is)
    (case z_str => k_is)
    (case z_int => k_is)
    (case z_len => k_is)
    (case z_abs => k_is)
    (case z_max => k_is)
    (case z_min => k_is)
    (case z_repr => k_is)
