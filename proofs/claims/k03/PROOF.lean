import PyProof.Rows.All
import Wide.All
import OpenK.AllK
import Wide.FinOn
import HandS.ForMost
import HandS.Wide
import HandS.WideBits
import HandS.Dict
import HandS.OwnEq
import PyProof.SeqRoads2
import HandS.Gcd
import HandS.Defaults
import HandS.CallLocal
import HandS.Style
import HandS.IsInst
import HandS.More
import HandS.TupAny
import HandS.StrMore
import HandS.Codes
import HandS.FStr
import PySem.Challenge.RW_figuretexts_k03_numbers_read

set_option Elab.async false
set_option linter.all false
set_option maxRecDepth 100000
set_option maxHeartbeats 4000000

namespace My
/-! numbers as Rat -/
def cdiv (t b : Int) : Int := if b < 0 then -((Nat.gcd t.natAbs b.natAbs : Nat) : Int) else ((Nat.gcd t.natAbs b.natAbs : Nat) : Int)
theorem gcd_pos {t b : Int} (h : b ≠ 0) : 0 < Nat.gcd t.natAbs b.natAbs := Nat.gcd_pos_of_pos_right _ (by omega)
theorem num_of {t b : Int} (h : b ≠ 0) : t.fdiv (cdiv t b) = (Rat.divInt t b).num := by
  have g := gcd_pos (t := t) h
  have d1 : ((Nat.gcd t.natAbs b.natAbs : Nat) : Int) ∣ t := Int.dvd_trans (Int.natCast_dvd_natCast.mpr (Nat.gcd_dvd_left _ _)) (Int.natAbs_dvd.mpr (Int.dvd_refl _))
  rw [Rat.num_divInt]
  have e : ((Int.gcd b t : Nat) : Int) = ((Nat.gcd t.natAbs b.natAbs : Nat) : Int) := by
    rw [Int.gcd_comm]; rfl
  rw [e]
  unfold cdiv
  obtain ⟨k, hk⟩ := d1
  have gn : ((Nat.gcd t.natAbs b.natAbs : Nat) : Int) ≠ 0 := by omega
  generalize ((Nat.gcd t.natAbs b.natAbs : Nat) : Int) = G at *
  subst hk
  by_cases hb : b < 0
  · rw [if_pos hb, Int.sign_eq_neg_one_of_neg hb]
    rw [show G * k = (-G) * (-k) by rw [Int.neg_mul_neg], Int.mul_fdiv_cancel_left _ (by omega)]
    rw [show -1 * (-G * -k) = G * (-k) by rw [Int.neg_mul_neg]; rw [Int.neg_one_mul, Int.mul_neg], Int.mul_ediv_cancel_left _ gn]
  · have hb' : 0 < b := by omega
    rw [if_neg hb, Int.sign_eq_one_of_pos hb', Int.one_mul, Int.mul_fdiv_cancel_left _ gn, Int.mul_ediv_cancel_left _ gn]
theorem den_of {t b : Int} (h : b ≠ 0) : b.fdiv (cdiv t b) = ((Rat.divInt t b).den : Int) := by
  have g := gcd_pos (t := t) h
  have d1 : ((Nat.gcd t.natAbs b.natAbs : Nat) : Int) ∣ b := Int.dvd_trans (Int.natCast_dvd_natCast.mpr (Nat.gcd_dvd_right _ _)) (Int.natAbs_dvd.mpr (Int.dvd_refl _))
  rw [Rat.den_divInt, if_neg h]
  have e : (Int.gcd b t : Nat) = (Nat.gcd t.natAbs b.natAbs : Nat) := by
    rw [Int.gcd_comm]; rfl
  rw [e, Int.natCast_ediv]
  unfold cdiv
  obtain ⟨k, hk⟩ := d1
  have gn : ((Nat.gcd t.natAbs b.natAbs : Nat) : Int) ≠ 0 := by omega
  have gp : 0 < ((Nat.gcd t.natAbs b.natAbs : Nat) : Int) := by omega
  generalize hG : ((Nat.gcd t.natAbs b.natAbs : Nat) : Int) = G at *
  by_cases hb : b < 0
  · rw [if_pos hb, show ((b.natAbs : Nat) : Int) = -b by omega]
    rw [hk, show G * k = (-G) * (-k) by rw [Int.neg_mul_neg], Int.mul_fdiv_cancel_left _ (by omega)]
    rw [show -(-G * -k) = G * (-k) by rw [Int.neg_mul_neg, Int.mul_neg], Int.mul_ediv_cancel_left _ gn]
  · rw [if_neg hb, show ((b.natAbs : Nat) : Int) = b by omega, hk, Int.mul_fdiv_cancel_left _ gn, Int.mul_ediv_cancel_left _ gn]

/-- top and bottom below 2 ^ n -/
def Bd (n : Nat) (q : Rat) : Prop := q.num.natAbs < 2 ^ n ∧ q.den < 2 ^ n
theorem Bd.mono {m n : Nat} {q : Rat} (h : Bd m q) (l : m ≤ n) : Bd n q :=
  ⟨Nat.lt_of_lt_of_le h.1 (Nat.pow_le_pow_right (by decide) l), Nat.lt_of_lt_of_le h.2 (Nat.pow_le_pow_right (by decide) l)⟩
theorem num_le (t b : Int) : (Rat.divInt t b).num.natAbs ≤ t.natAbs := by
  rw [Rat.num_divInt]
  refine Nat.le_trans (Int.natAbs_ediv_le_natAbs _ _) ?_
  rw [Int.natAbs_mul]
  rcases Int.lt_trichotomy b 0 with h | h | h
  · rw [Int.sign_eq_neg_one_of_neg h]; simp
  · subst h; simp
  · rw [Int.sign_eq_one_of_pos h]; simp
theorem den_le {t b : Int} (h : b ≠ 0) : (Rat.divInt t b).den ≤ b.natAbs := by
  rw [Rat.den_divInt, if_neg h]
  exact Nat.div_le_self _ _
theorem Bd.of {n : Nat} {t b : Int} (h : b ≠ 0) (ht : t.natAbs < 2 ^ n) (hb : b.natAbs < 2 ^ n) : Bd n (Rat.divInt t b) :=
  ⟨Nat.lt_of_le_of_lt (num_le t b) ht, Nat.lt_of_le_of_lt (den_le h) hb⟩
theorem den_ne (q : Rat) : ((q.den : Nat) : Int) ≠ 0 := by have := q.den_pos; omega
theorem sub_eq (x y : Rat) : Rat.divInt (x.num * (y.den : Int) - y.num * (x.den : Int)) ((x.den : Int) * (y.den : Int)) = x - y := by
  rw [Rat.sub_def', ← Int.natCast_mul, Rat.divInt_ofNat]
theorem add_eq (x y : Rat) : Rat.divInt (x.num * (y.den : Int) + y.num * (x.den : Int)) ((x.den : Int) * (y.den : Int)) = x + y := by
  rw [Rat.add_def', ← Int.natCast_mul, Rat.divInt_ofNat]
theorem mul_eq (x y : Rat) : Rat.divInt (x.num * y.num) ((x.den : Int) * (y.den : Int)) = x * y := by
  rw [Rat.mul_def', ← Int.natCast_mul, Rat.divInt_ofNat]
theorem div_eq (x y : Rat) : Rat.divInt (x.num * (y.den : Int)) ((x.den : Int) * y.num) = x / y := by
  rw [Rat.div_def, Rat.inv_def, ← Rat.divInt_mul_divInt, Rat.num_divInt_den]
theorem num_ne {y : Rat} (h : y ≠ 0) : y.num ≠ 0 := fun e => h (Rat.num_eq_zero.mp e)
theorem floor_eq (x : Rat) : x.num.fdiv (x.den : Int) = x.floor := by
  rw [Rat.floor_def, Int.fdiv_eq_ediv_of_nonneg _ (by omega)]
theorem natAbs_mul_lt {a b : Int} {m n k : Nat} (ha : a.natAbs < 2 ^ m) (hb : b.natAbs < 2 ^ n) (h : m + n ≤ k) : (a * b).natAbs < 2 ^ k := by
  rw [Int.natAbs_mul]
  exact Nat.lt_of_lt_of_le (Nat.mul_lt_mul'' ha hb) (by rw [← Nat.pow_add]; exact Nat.pow_le_pow_right (by decide) h)
theorem natAbs_sub_lt {a b : Int} {k : Nat} (ha : a.natAbs < 2 ^ k) (hb : b.natAbs < 2 ^ k) : (a - b).natAbs < 2 ^ (k + 1) := by
  rw [Nat.pow_succ]; omega
theorem natAbs_add_lt {a b : Int} {k : Nat} (ha : a.natAbs < 2 ^ k) (hb : b.natAbs < 2 ^ k) : (a + b).natAbs < 2 ^ (k + 1) := by
  rw [Nat.pow_succ]; omega
theorem Bd.sub {m n : Nat} {x y : Rat} (hx : Bd m x) (hy : Bd n y) : Bd (m + n + 1) (x - y) := by
  rw [← sub_eq]
  refine Bd.of (Int.mul_ne_zero (den_ne x) (den_ne y)) ?_ ?_
  · exact natAbs_sub_lt (natAbs_mul_lt (m := m) (n := n) hx.1 (by have := hy.2; omega) (Nat.le_refl _)) (natAbs_mul_lt (m := n) (n := m) hy.1 (by have := hx.2; omega) (by omega))
  · exact natAbs_mul_lt (m := m) (n := n) (by have := hx.2; omega) (by have := hy.2; omega) (by omega)
theorem Bd.mul {m n : Nat} {x y : Rat} (hx : Bd m x) (hy : Bd n y) : Bd (m + n) (x * y) := by
  rw [← mul_eq]
  exact Bd.of (Int.mul_ne_zero (den_ne x) (den_ne y)) (natAbs_mul_lt hx.1 hy.1 (Nat.le_refl _)) (natAbs_mul_lt (m := m) (n := n) (by have := hx.2; omega) (by have := hy.2; omega) (by omega))
theorem Bd.div {m n : Nat} {x y : Rat} (hx : Bd m x) (hy : Bd n y) (h : y ≠ 0) : Bd (m + n) (x / y) := by
  rw [← div_eq]
  exact Bd.of (Int.mul_ne_zero (den_ne x) (num_ne h)) (natAbs_mul_lt (m := m) (n := n) hx.1 (by have := hy.2; omega) (Nat.le_refl _)) (natAbs_mul_lt (m := m) (n := n) (by have := hx.2; omega) hy.1 (by omega))
theorem Bd.int {n : Nat} {i : Int} (h : i.natAbs < 2 ^ n) (h1 : 1 ≤ n) : Bd n (i : Rat) := ⟨h, by
  show 1 < 2 ^ n
  exact Nat.lt_of_lt_of_le (by decide) (Nat.pow_le_pow_right (by decide) h1)⟩
theorem floor_bd {n : Nat} {x : Rat} (h : Bd n x) : x.floor.natAbs < 2 ^ n := by
  rw [Rat.floor_def]
  exact Nat.lt_of_le_of_lt (Int.natAbs_ediv_le_natAbs _ _) h.1
theorem divInt_one (i : Int) : Rat.divInt i 1 = (i : Rat) := by
  have := Rat.divInt_ofNat i 1
  rw [show ((1 : Nat) : Int) = 1 from rfl] at this
  rw [this, Rat.mkRat_eq_div]; simp
  grind

/-! the ways -/
inductive Way where
  | up | down | high | low | hup | hdown | heven | hodd
def nearerB (part : Rat) (a : Bool) : Bool := if 2 * part.num = (part.den : Int) then a else decide ((part.den : Int) < 2 * part.num)
def ruleB : Way → Int → Rat → Bool
  | .up, l, _ => decide (0 ≤ l)
  | .down, l, _ => decide (l < 0)
  | .high, _, _ => true
  | .low, _, _ => false
  | .hup, l, p => nearerB p (decide (0 ≤ l))
  | .hdown, l, p => nearerB p (decide (l < 0))
  | .heven, l, p => nearerB p (decide (l % 2 = 1))
  | .hodd, l, p => nearerB p (decide (l % 2 = 0))
def partQ (n : Rat) : Rat := n - (n.floor : Rat)
def highQ (n : Rat) : Int := if (partQ n).num = 0 then n.floor else n.floor + 1
def takenQ (w : Way) (n : Rat) : Int := if (partQ n).num = 0 then n.floor else if ruleB w n.floor (partQ n) = true then n.floor + 1 else n.floor
theorem floor_add {c : Int} {f : Rat} (h0 : 0 ≤ f) (h1 : f < 1) : ((c : Rat) + f).floor = c := by
  have a : c ≤ ((c : Rat) + f).floor := Rat.le_floor_iff.mpr (by grind)
  have b : ((c : Rat) + f).floor < c + 1 := Rat.floor_lt_iff.mpr (by rw [Rat.intCast_add]; grind)
  omega
theorem part_add {c : Int} {f : Rat} (h0 : 0 ≤ f) (h1 : f < 1) : partQ ((c : Rat) + f) = f := by
  unfold partQ
  rw [floor_add h0 h1]
  grind
theorem taken_add {w : Way} {c : Int} {f : Rat} (h0 : 0 < f) (h1 : f < 1) : takenQ w ((c : Rat) + f) = if ruleB w c f = true then c + 1 else c := by
  unfold takenQ
  rw [part_add (Rat.le_of_lt h0) h1, floor_add (Rat.le_of_lt h0) h1, if_neg (num_ne (by grind))]
/-- a number of whole and part steps -/
theorem steps_eq {a b c p0 p1 : Int} (ha : a ≠ 0) (hb : b ≠ 0) (h1 : p1 ≠ 0) : Rat.divInt (a * (c * p1 + p0)) (b * p1) / Rat.divInt a b = (c : Rat) + Rat.divInt p0 p1 := by
  simp only [Rat.divInt_eq_div, Rat.intCast_mul, Rat.intCast_add]
  have ha' : (a : Rat) ≠ 0 := by simpa using ha
  have hb' : (b : Rat) ≠ 0 := by simpa using hb
  have h1' : (p1 : Rat) ≠ 0 := by simpa using h1
  grind
end My

namespace My
open PySem L2
/-! readings, one head at a time -/
section
variable {σ : L2.St} {H : Hp} {Q : VK} {QB : Bool → Hp → Prop} {QA : List V → Hp → Prop} {QS : L2.St → Hp → Prop} {v x y : V} {ta tb te tc : TE} {tr : TA} {t u : TS} {c d : TT} {g : TG} {i : Nat} {K : PySem.W.Frag} {b : Bool}
  {nx : L2.St → Hp → Prop} {rt : VK} {bk ct : L2.St → Hp → Prop}
theorem r_var (q : ∃ v, σ[i]? = some (some v) ∧ Q v H) : tVar i σ H Q := q
theorem r_c (q : Q v H) : tC v σ H Q := q
theorem r_op {r : R2} (q : ta σ H fun x H1 => tb σ H1 fun y H2 => r x y H2 Q) : tOp r ta tb σ H Q := q
theorem r_un {r : V → Hp → VK → Prop} (q : ta σ H fun x H1 => r x H1 Q) : tUn r ta σ H Q := q
theorem r_U {f : Int → V} {i : Int} (q : Q (f i) H) : rU f (.int i) H Q := ⟨i, rfl, q⟩
theorem r_I0 {f : Int → Int → V} {i j : Int} (q : Q (f i j) H) : rI0 f (.int i) (.int j) H Q := ⟨i, j, rfl, rfl, q⟩
theorem r_I {C : Int → Int → Prop} {f : Int → Int → V} {i j : Int} (h : C i j) (q : Q (f i j) H) : rI C f (.int i) (.int j) H Q := ⟨i, j, rfl, rfl, h, q⟩
theorem r_eq (h : scal x y = true) (q : Q (.bl (decide (x = y))) H) : rEq x y H Q := ⟨h, q⟩
theorem r_ne (h : scal x y = true) (q : Q (.bl (!decide (x = y))) H) : rNe x y H Q := ⟨h, q⟩
theorem r_eqI {i j : Int} (q : Q (.bl (decide (i = j))) H) : rEq (.int i) (.int j) H Q := ⟨rfl, by
  have e : decide (V.int i = V.int j) = decide (i = j) := by simp
  rw [e]; exact q⟩
theorem r_neI {i j : Int} (q : Q (.bl (!decide (i = j))) H) : rNe (.int i) (.int j) H Q := ⟨rfl, by
  have e : decide (V.int i = V.int j) = decide (i = j) := by simp
  rw [e]; exact q⟩
theorem r_eqS {i j : Str} (q : Q (.bl (decide (i = j))) H) : rEq (.str i) (.str j) H Q := ⟨rfl, by
  have e : decide (V.str i = V.str j) = decide (i = j) := by simp
  rw [e]; exact q⟩
theorem r_eqB {i j : Bool} (q : Q (.bl (decide (i = j))) H) : rEq (.bl i) (.bl j) H Q := ⟨rfl, by
  have e : decide (V.bl i = V.bl j) = decide (i = j) := by simp
  rw [e]; exact q⟩
theorem r_test (q : te σ H fun x H' => ∃ k, x = .bl k ∧ QB k H') : tTest te σ H QB := q
theorem r_B (q : te σ H fun x H' => ∃ k, x = .bl k ∧ QB k H') : tB te σ H QB := q
theorem r_k {P : Bool → Prop} (q : P b) : ∃ k, V.bl b = .bl k ∧ P k := ⟨b, rfl, q⟩
theorem r_and (q : c σ H fun b H1 => if b = true then d σ H1 QB else QB false H1) : tAnd c d σ H QB := q
theorem r_or (q : c σ H fun b H1 => if b = true then QB true H1 else d σ H1 QB) : tOr c d σ H QB := q
theorem r_not (q : c σ H fun b H1 => QB (!b) H1) : tNot c σ H QB := q
theorem r_andV (q : ta σ H fun x H1 => ∃ c, x = .bl c ∧ if c = true then tb σ H1 Q else Q (.bl false) H1) : tAndV ta tb σ H Q := q
theorem r_orV (q : ta σ H fun x H1 => ∃ c, x = .bl c ∧ if c = true then Q (.bl true) H1 else tb σ H1 Q) : tOrV ta tb σ H Q := q
theorem r_notV (q : ta σ H fun x H1 => ∃ c, x = .bl c ∧ Q (.bl (!c)) H1) : tNotV ta σ H Q := q
theorem r_if (q : c σ H fun b H1 => if b = true then ta σ H1 Q else tb σ H1 Q) : tIf c ta tb σ H Q := q
theorem r_seq (q : t ⟨u ⟨nx, rt, bk, ct⟩, rt, bk, ct⟩ σ H) : tSeq t u ⟨nx, rt, bk, ct⟩ σ H := q
theorem r_asg (q : te σ H fun x H1 => g x σ H1 nx) : tAsg te g ⟨nx, rt, bk, ct⟩ σ H := q
theorem r_name (q : QS (σ.set i (some v)) H) : gName i v σ H QS := q
theorem r_ifs (q : c σ H fun b H1 => if b = true then t ⟨nx, rt, bk, ct⟩ σ H1 else u ⟨nx, rt, bk, ct⟩ σ H1) : tIfS c t u ⟨nx, rt, bk, ct⟩ σ H := q
theorem r_ret (q : te σ H rt) : tRet te ⟨nx, rt, bk, ct⟩ σ H := q
theorem r_next (q : nx σ H) : tNext ⟨nx, rt, bk, ct⟩ σ H := q
theorem r_drop (q : te σ H fun _ H1 => nx σ H1) : tDrop te ⟨nx, rt, bk, ct⟩ σ H := q
theorem r_cons (q : te σ H fun x H1 => tr σ H1 fun xs H2 => QA (x :: xs) H2) : tCons te tr σ H QA := q
theorem r_nil (q : QA [] H) : tNil σ H QA := q
theorem r_tup (q : tr σ H fun xs H1 => xs.length ≤ sizeLine ∧ ∀ p, H1 p = none → Q (.ref p) (upd H1 p (.tup xs))) : tTup tr σ H Q := q
theorem r_lst (q : tr σ H fun xs H1 => xs.length ≤ sizeLine ∧ ∀ p, H1 p = none → Q (.ref p) (upd H1 p (.lst xs))) : tLst tr σ H Q := q
theorem r_new {n : Nat} {P : Prop} (h : n ≤ 1000) (q : P) : n ≤ sizeLine ∧ P := ⟨Nat.le_trans h (by decide), q⟩
theorem r_fldT {f : Str} (q : ta σ H fun x H1 => ∃ a C dx fs v, x = .ref a ∧ H1 a = some (.ins C dx fs) ∧ Cls K C ∧ NoAttr K C f ∧ fs.lookup f = some v ∧ Q v H1) : tFld K ta f σ H Q := q
theorem r_fld {f : Str} {p C dx : Addr} {fs : List (Str × V)} (h : H p = some (.ins C dx fs)) (k : Cls K C) (n : NoAttr K C f) (l : fs.lookup f = some v) {P : V → Prop} (q : P v) :
    ∃ a C dx fs v, V.ref p = .ref a ∧ H a = some (.ins C dx fs) ∧ Cls K C ∧ NoAttr K C f ∧ fs.lookup f = some v ∧ P v := ⟨p, C, dx, fs, v, rfl, h, k, n, l, q⟩
theorem r_sFld {f : Str} (q : te σ H fun y H1 => ta σ H1 fun x H2 => ∃ a C dx fs, x = .ref a ∧ H2 a = some (.ins C dx fs) ∧ Cls K C ∧ NoAttr K C f ∧ fs.length < 1000 ∧ nx σ (upd H2 a (.ins C dx (putF f y fs)))) : sFld K ta te f ⟨nx, rt, bk, ct⟩ σ H := q
theorem r_call {sp : Sp} {dvs : List V} {E : XK} (q : tr σ H fun vs H1 => sp (vs ++ dvs) H1 Q E) : tCall sp dvs E tr σ H Q := q
theorem r_CB {r : List V → Hp → VK → Prop} (q : tr σ H fun vs H1 => r vs H1 Q) : tCB r tr σ H Q := q
theorem r_meth {C : Addr} {m : Str} {sp : Sp} {dvs : List V} {E : XK} (q : ta σ H fun x H1 => ∃ a dx fs, x = .ref a ∧ H1 a = some (.ins C dx fs) ∧ fs.lookup m = none ∧ tr σ H1 fun vs H2 => sp (x :: (vs ++ dvs)) H2 Q E) : tMeth C m sp dvs E ta tr σ H Q := q
theorem r_meth1 {C : Addr} {m : Str} {P : Prop} {p dx : Addr} {fs : List (Str × V)} (h : H p = some (.ins C dx fs)) (l : fs.lookup m = none) (q : P) : ∃ a dx fs, V.ref p = .ref a ∧ H a = some (.ins C dx fs) ∧ fs.lookup m = none ∧ P := ⟨p, dx, fs, rfl, h, l, q⟩
theorem r_make {C : Addr} {sp : Sp} {dvs : List V} {E : XK} (q : tr σ H fun vs H1 => ∀ x dx, H1 x = none → H1 dx = none → dx ≠ x → sp (.ref x :: (vs ++ dvs)) (upd (upd H1 dx (.own x)) x (.ins C dx [])) (fun v H2 => v = .non ∧ Q (.ref x) H2) E) : tMake C sp dvs E tr σ H Q := q
theorem r_callN {n m : Nat} {sp : Sp} {gV : List V → List V → List V} {E : XK} {tk : TA} (q : tr σ H fun vs H1 => tk σ H1 fun zs H2 => vs.length = n ∧ zs.length = m ∧ sp (gV vs zs) H2 Q E) : tCallN n m sp gV E tr tk σ H Q := q
theorem r_ixT {p : Addr} {xs : List V} {i : Int} (h : H p = some (.tup xs)) (a : atI xs i = some v) (q : Q v H) : rIxT K (.ref p) (.int i) H Q := ⟨p, xs, i, v, rfl, rfl, SqT.of h, a, q⟩
theorem r_ixL {p : Addr} {xs : List V} {i : Int} (h : H p = some (.lst xs)) (a : atI xs i = some v) (q : Q v H) : rIxL K (.ref p) (.int i) H Q := ⟨p, xs, i, v, rfl, rfl, SqL.of h, a, q⟩
theorem r_isi {vs : List V} (q : rIsi K vs H Q) : rIsi K vs H Q := q
theorem r_ite {A B : Prop} {k : Bool} (h1 : k = true → A) (h2 : k = false → B) : if k = true then A else B := by
  cases k with
  | true => exact h1 rfl
  | false => exact h2 rfl
theorem r_iteT {A B : Prop} {k : Bool} (h : k = true) (q : A) : if k = true then A else B := by
  rw [if_pos h]; exact q
theorem r_iteF {A B : Prop} {k : Bool} (h : k = false) (q : B) : if k = true then A else B := by
  subst h; exact iteF q
end
/-! ### // by any number but nought -/
def CDivA (_ j : Int) : Prop := j ≠ 0 ∧ j.natAbs.log2 < 9000
theorem op_fdivA {X : Cx} : OpR X (binaryOp .FloorDiv) (rI CDivA fun i j => .int (i.fdiv j)) := opI fun i j _ _ _ _ _ hc q => PyProof.Rows.floordiv_int hc.1 q (.inl (PyProof.noPylong_of_log2 hc.2))
theorem cdivA {i j : Int} {b : Nat} (h : j ≠ 0) (hb : j.natAbs < 2 ^ b) (h0 : 0 < b) (h9 : b ≤ 9000) : CDivA i j := ⟨h, Nat.lt_of_lt_of_le (PySem.Flt.log2_lt_of h0 hb) h9⟩
/-! ### heaps but for two places -/
def Off (d c : Addr) (H H' : Hp) : Prop := ∀ b o, b ≠ d → b ≠ c → H b = some o → H' b = some o
theorem Off.refl (d c : Addr) (H : Hp) : Off d c H H := fun _ _ _ _ h => h
theorem Off.trans {d c : Addr} {H H1 H2 : Hp} (a : Off d c H H1) (b : Off d c H1 H2) : Off d c H H2 := fun x o h1 h2 h => b x o h1 h2 (a x o h1 h2 h)
theorem Off.of {d c : Addr} {H H' : Hp} (a : Same H H') : Off d c H H' := fun x o _ _ h => a x o h
theorem Same.new {H : Hp} {p : Addr} {o : HO} (h : H p = none) : Same H (upd H p o) := fun b u e => by
  rw [upd_ne (ne_of_none e h)]
  exact e
/-! ### more heads -/
section
variable {σ : L2.St} {H : Hp} {Q : VK} {QA : List V → Hp → Prop} {QS : L2.St → Hp → Prop} {QO : Option Int → Hp → Prop} {v x y : V} {te ta to ti : TE} {tr : TA} {tl th : TO} {K : PySem.W.Frag} {nx : L2.St → Hp → Prop} {rt : VK} {bk ct : L2.St → Hp → Prop}
theorem r_gsub {t : TSet} (q : to σ H fun o H1 => ti σ H1 fun i H2 => t o i v H2 fun H3 => QS σ H3) : gSub to ti t v σ H QS := q
theorem r_setL {p : Addr} {xs : List V} {k : Int} {j : Nat} {R : Hp → Prop} (h : H p = some (.lst xs)) (e : ixN xs.length k = some j) (q : R (upd H p (.lst (xs.set j v)))) : rSetL (.ref p) (.int k) v H R := ⟨p, xs, k, j, rfl, rfl, h, e, q⟩
theorem r_sl {r : V → Option Int → Option Int → Hp → VK → Prop} (q : te σ H fun x H1 => tl σ H1 fun l H2 => th σ H2 fun u H3 => r x l u H3 Q) : tSl r te tl th σ H Q := q
theorem r_noPart (q : QO none H) : tNoPart σ H QO := q
theorem r_part (q : te σ H fun x H1 => ∃ i, x = .int i ∧ QO (some i) H1) : tPart te σ H QO := q
theorem r_ki {P : Int → Prop} {i : Int} (q : P i) : ∃ k, V.int i = .int k ∧ P k := ⟨i, rfl, q⟩
theorem r_bm0 {T : String} {r : V → List V → Hp → VK → Prop} (q : te σ H fun x H1 => tyV K T x H1 ∧ r x [] H1 Q) : tBM0 K T r te σ H Q := q
theorem r_bm {T : String} {r : V → List V → Hp → VK → Prop} (q : te σ H fun x H1 => tyV K T x H1 ∧ tr σ H1 fun xs H2 => r x xs H2 Q) : tBM K T r te tr σ H Q := q
theorem r_rev (q : te σ H fun x H1 => ∃ a xs, x = .ref a ∧ SqL K H1 a xs ∧ ∀ p, H1 p = none → Q (.ref p) (upd H1 p (.lst xs.reverse))) : tRevL K te σ H Q := q
theorem ty_list {p : Addr} {xs : List V} (h : H p = some (.lst xs)) : tyV K "list" (.ref p) H := .inl ⟨rfl, _, SqL.of h⟩
theorem r_pop {p : Addr} {xs : List V} {y : V} (h : H p = some (.lst (xs ++ [y]))) (q : Q y (upd H p (.lst xs))) : rPop (.ref p) [] H Q := by
  refine ⟨p, xs ++ [y], y, rfl, rfl, h, by simp, ?_⟩
  rw [List.dropLast_concat]
  exact q
theorem r_append {p : Addr} {xs : List V} (h : H p = some (.lst xs)) (l : xs.length ≤ 1000) (q : Q .non (upd H p (.lst (xs ++ [y])))) : rAppend (.ref p) [y] H Q := ⟨p, xs, y, rfl, rfl, h, Nat.lt_of_le_of_lt l (by decide), q⟩
end
theorem dp_ints {K : PySem.W.Frag} {H : Hp} : ∀ xs : List Int, DpAll K H (xs.map V.int) (xs.map PyData.int)
  | [] => .nil
  | x :: xs => .cons (.int x) (dp_ints xs)
theorem lay_ints : ∀ xs : List Int, PyData.canLayAll0 (xs.map PyData.int) = true ∧ PyData.depthAll (xs.map PyData.int) = 0
  | [] => ⟨rfl, rfl⟩
  | x :: xs => by
    obtain ⟨a, b⟩ := lay_ints xs
    constructor
    · show (PyData.canLay0 (.int x) && PyData.canLayAll0 (xs.map PyData.int)) = true
      rw [a]; rfl
    · show max (PyData.depth (.int x)) (PyData.depthAll (xs.map PyData.int)) = 0
      rw [b]; rfl
theorem shaped_ints (xs : List Int) : SeqAt.shaped (.list (xs.map PyData.int)) = true := by
  obtain ⟨a, b⟩ := lay_ints xs
  have a' : PyData.canLay0 (.list (xs.map PyData.int)) = true := by rw [PyData.canLay0]; exact a
  have b' : PyData.depth (.list (xs.map PyData.int)) = 1 := by rw [PyData.depth, b]
  unfold SeqAt.shaped
  rw [a', b']; rfl
theorem eqv_ints : ∀ xs ys : List Int, PyData.eqvAll (xs.map PyData.int) (ys.map PyData.int) = decide (xs = ys)
  | [], [] => rfl
  | [], _ :: _ => by simp [PyData.eqvAll]
  | _ :: _, [] => by simp [PyData.eqvAll]
  | x :: xs, y :: ys => by
    show (PyData.eqv (.int x) (.int y) && PyData.eqvAll (xs.map PyData.int) (ys.map PyData.int)) = _
    rw [eqv_ints xs ys]
    show ((x == y) && decide (xs = ys)) = _
    rw [Bool.eq_iff_iff]; simp
theorem r_neInts {K : PySem.W.Frag} {H : Hp} {Q : VK} {p q : Addr} {xs ys : List Int} (h : SqL K H p (xs.map V.int)) (h' : SqL K H q (ys.map V.int)) (k : Q (.bl (!decide (xs = ys))) H) : rNeD K (.ref p) (.ref q) H Q :=
  ⟨.list (xs.map PyData.int), .list (ys.map PyData.int), .lst h (dp_ints xs), .lst h' (dp_ints ys), shaped_ints xs, shaped_ints ys, by
    rw [PyData.eqv, eqv_ints]; exact k⟩
theorem cut_ints (ns : List Int) (k : Int) : ∃ ms : List Int, cutV (ns.map V.int) none (some k) = ms.map V.int ∧ ms.length ≤ ns.length := by
  unfold cutV
  rw [← List.map_drop, ← List.map_take]
  exact ⟨_, rfl, by rw [List.length_take, List.length_drop]; omega⟩
end My
namespace My
open PySem L2
theorem r_forT {σ : L2.St} {H : Hp} {K : PySem.W.Frag} {tl : TE} {g : TG} {tb : TS} {D : Ends} (q : tl σ H fun x H1 => ∃ a, x = .ref a ∧ (∃ xs, SqT K H1 a xs) ∧ ∃ W : Nat → Nat → L2.St → Hp → Prop, (∃ m, W 0 m σ H1) ∧ ∀ i m σ H, W i m σ H →
    ((Itt K a).stop i H ∧ D.nx σ H) ∨ ((Itt K a).go i H ∧ ∃ N : L2.St → Hp → Prop, (∀ σ' H', N σ' H' → ∃ m', m' < m ∧ W (i + 1) m' σ' H') ∧ ∀ x H', (Itt K a).yld i H x H' → g x σ H' fun σ2 H2 => tb { D with nx := N, ct := N, bk := D.nx } σ2 H2)) : tFor (iTup K tl) g tb D σ H := q
end My

local macro_rules | `(tactic| walk_at "rd1") => `(tactic| first
  | with_reducible refine My.r_seq ?_
  | with_reducible refine My.r_asg ?_
  | with_reducible refine My.r_name ?_
  | with_reducible refine My.r_cons ?_
  | with_reducible refine My.r_nil ?_
  | with_reducible refine My.r_op ?_
  | ((with_reducible refine My.r_var ?_); refine ⟨_, rfl, ?_⟩)
  | with_reducible refine My.r_c ?_
  | with_reducible refine My.r_I0 ?_
  | with_reducible refine My.r_eqI ?_
  | with_reducible refine My.r_neI ?_
  | with_reducible refine My.r_eqS ?_
  | with_reducible refine My.r_eqB ?_
  | with_reducible refine My.r_test ?_
  | with_reducible refine My.r_B ?_
  | with_reducible refine My.r_k ?_
  | with_reducible refine My.r_un ?_
  | with_reducible refine My.r_U ?_
  | with_reducible refine My.r_ifs ?_
  | with_reducible refine My.r_ret ?_
  | with_reducible refine My.r_next ?_
  | with_reducible refine My.r_drop ?_
  | with_reducible refine My.r_CB ?_
  | with_reducible refine My.r_call ?_
  | with_reducible refine My.r_callN ?_
  | with_reducible refine My.r_meth ?_
  | with_reducible refine My.r_make ?_
  | with_reducible refine My.r_tup ?_
  | with_reducible refine My.r_lst ?_
  | with_reducible refine My.r_fldT ?_
  | with_reducible refine My.r_sFld ?_
  | with_reducible refine My.r_and ?_
  | with_reducible refine My.r_or ?_
  | with_reducible refine My.r_not ?_
  | with_reducible refine My.r_andV ?_
  | with_reducible refine My.r_orV ?_
  | with_reducible refine My.r_notV ?_
  | with_reducible refine My.r_if ?_
  | with_reducible refine My.r_gsub ?_
  | with_reducible refine My.r_sl ?_
  | with_reducible refine My.r_noPart ?_
  | with_reducible refine My.r_part ?_
  | with_reducible refine My.r_ki ?_
  | with_reducible refine My.r_bm0 ?_
  | with_reducible refine My.r_bm ?_
  | with_reducible refine My.r_rev ?_
  | ((with_reducible refine My.r_I ?_ ?_); (first | decide | exact .inl ⟨by decide, by decide⟩ | exact .inr ⟨by decide, by decide⟩ | exact ⟨by decide, by decide⟩ | exact ⟨by decide, by decide, by decide⟩)))
local macro_rules | `(tactic| walk_at "rd") => `(tactic| (repeat walk_at "rd1"))


namespace My
open PySem L2
/-! ### == and != of two objects of an own class with an own == -/
section
variable {X : Cx} {C f : Addr} {fd : FuncData} {ps : List Str} {n : Nat} {sp : Sp}
/-- the own == as it runs, within X or one builtin deeper -/
theorem run_eq {A : Around} {pins : List (Addr × Obj)} {σ : L2.St} {H : Hp} {s : Shared} {a b : Addr} {Q : VK} {E : XK} (F : FnOk X.prog X.w X.K X.mg X.base CX0 n f fd ps sp) (hb : Binds X.K fd ps []) (hr : Room n A) (hfr : A.frames = X.A.frames)
    (I : Inv X pins σ H s) (h : sp [.ref a, .ref b] H Q E) : wpAny (model X.prog X.w) A (call (.ref f) [.ref a, .ref b]) (EP X pins σ Q) X.xe s := by
  have w0 := I.env0
  have w1 : Env0 X.prog X.w X.K X.mg X.base A X.stack s H := ⟨hfr.trans w0.frames, w0.mod, w0.bs, w0.bsz, w0.funs, w0.frf, w0.hok, w0.bare⟩
  have len2 : 2 = ps.length := F.len _ _ _ _ h
  have bnd : BindsTo s fd ⟨[.ref a, .ref b], []⟩ (ps.zip [.ref a, .ref b]) := by
    have q := hb s [.ref a, .ref b] I.kIn (by simpa using len2)
    simpa using q
  refine wpAny_call (codeAny_mono (F.run A X.stack s H ⟨[.ref a, .ref b], []⟩ [.ref a, .ref b] [.ref a, .ref b] Q E hr w1 bnd (.cons rfl (.cons rfl .nil)) h) ?_)
  intro r s' z
  match r, z with
  | .error _, z => exact z.elim
  | .ok (.ret u), z => exact I.after z
/-- a == b -/
def rEqOwn (C : Addr) (sp : Sp) : R2 := fun x y H Q => ∃ (a b dx dy : Addr) (fs gs : List (Str × V)), x = .ref a ∧ y = .ref b ∧ H a = some (.ins C dx fs) ∧ H b = some (.ins C dy gs) ∧ sp [.ref a, .ref b] H (fun v H' => ∃ k, v = .bl k ∧ Q (.bl k) H') E0
theorem op_eqOwn (F : FnOk X.prog X.w X.K X.mg X.base CX0 n f fd ps sp) (hs : PySem.W.findIn X.K (.ref C) "__eq__" = some (some (.ref f))) (hf : PySem.W.isFn X.K (.ref f) = true) (hb : Binds X.K fd ps []) (hr : Room n X.A) :
    OpR X (compareOp .Eq) (rEqOwn C sp) := by
  rintro pins s σ H x y v u Q I rx ry ⟨a, b, dx, dy, fs, gs, rfl, rfl, ha, hb', q⟩
  cases rx
  cases ry
  obtain ⟨_, J1, _⟩ := ins_get I.hok ha
  obtain ⟨_, J2, _⟩ := ins_get I.hok hb'
  obtain ⟨_, K1, _⟩ := J1.look
  obtain ⟨_, K2, _⟩ := J2.look
  obtain ⟨_, fr⟩ := I.fr
  show wpAny (model X.prog X.w) X.A (richCompare .Eq (.ref a) (.ref b)) _ _ s
  refine PySem.W.cmp_K (op := .Eq) (tb := .ref C) hr.units0 fr I.ok.mod.kin K1 K2.type (by simp [PySem.W.notFirst]) hs hf ?_
  refine thn (run_eq F hb hr rfl I q) ?_
  rintro w s' ⟨z, H', I', rz, k, rfl, qk⟩
  cases rz
  exact ⟨.bl k, H', I', rfl, qk⟩
/-- a != b, no own != -/
def rNeOwn (C : Addr) (sp : Sp) : R2 := fun x y H Q => ∃ (a b dx dy : Addr) (fs gs : List (Str × V)), x = .ref a ∧ y = .ref b ∧ H a = some (.ins C dx fs) ∧ H b = some (.ins C dy gs) ∧ sp [.ref a, .ref b] H (fun v H' => ∃ k, v = .bl k ∧ Q (.bl (!k)) H') E0
theorem ne_run {P : Program} {w : World} {A : Around} {R : Fin → Shared → Prop} {E : Value → Shared → Prop} {K : PySem.W.Frag} {s : Shared} {a b C f : Addr} {ox : Obj} {od : Option Obj} (hu : A.units < cLine) (X : K.In s.heap) (I : PySem.W.InstAt s.heap a ox C od)
    (hs : PySem.W.findIn K (.ref C) "__eq__" = some (some (.ref f))) (hf : PySem.W.isFn K (.ref f) = true) (h : wpAny (model P w) A (call (.ref f) [.ref a, .ref b]) (fun v s' => ∃ k, v = .bool k ∧ R (.done (.ret (.bool (!k)))) s') E s) :
    wpAny (model P w) A (Builtin.«object.__ne__» ⟨[.ref a, .ref b], []⟩) R E s := by
  have e : Builtin.«object.__ne__» ⟨[.ref a, .ref b], []⟩ = (do
      cRoomFor "comparison" [.ref a, .ref b]
      let r ← callSpecialIfBound? (.ref a) "__eq__" [.ref b]
      match r with
      | some .notImplemented | none => PySem.ret .notImplemented
      | some r => PySem.ret (.bool (!(← truthy r)))) := by rfl
  rw [e]
  refine wpAny_bind (wpAny_cRoomFor hu ?_)
  refine wpAny_bind (PySem.W.ifBound_K X I hs hf (wpAny_mono h ?_ fun _ _ z => z))
  rintro v s' ⟨k, rfl, q⟩
  exact wpAny_bind (wpAny_truthy_bool (wpAny_pure q))
theorem op_neOwn (F : FnOk X.prog X.w X.K X.mg X.base CX0 n f fd ps sp) (hs : PySem.W.findIn X.K (.ref C) "__eq__" = some (some (.ref f))) (hf : PySem.W.isFn X.K (.ref f) = true) (hb : Binds X.K fd ps [])
    (hn : PySem.W.findIn X.K (.ref C) "__ne__" = some (some (.builtin "object.__ne__"))) (hm : PySem.W.mroIn X.K C (.type "object") = some true) (hr : Room (n + 1) X.A) :
    OpR X (compareOp .NotEq) (rNeOwn C sp) := by
  rintro pins s σ H x y v u Q I rx ry ⟨a, b, dx, dy, fs, gs, rfl, rfl, ha, hb', q⟩
  cases rx
  cases ry
  obtain ⟨_, J1, _⟩ := ins_get I.hok ha
  obtain ⟨_, J2, _⟩ := ins_get I.hok hb'
  obtain ⟨_, K1, _⟩ := J1.look
  obtain ⟨_, K2, _⟩ := J2.look
  have kin := I.kIn
  have sub : PySem.W.Looks (model X.prog X.w) s.heap (isInstance (.ref a) (.type "object")) true := K1.type.andThen (PySem.W.looks_mroIn kin hm)
  have r1 : Room n X.A.in1 := hr.in1
  have go : wpAny (model X.prog X.w) X.A (call (.builtin "object.__ne__") [.ref a, .ref b]) (fun v s' => v ≠ .notImplemented ∧ EP X pins σ Q v s') X.xe s := by
    refine wpAny_call (codeAny_call_builtin PySem.F.slot_tuple_iterator_ne.plain PySem.F.cmpEntry_ne (PySem.W.check_slot PySem.F.cmpKind_ne PySem.F.cmpSplit_ne sub (PySem.F.cmpArgs_ne _ _) ?_))
    refine ne_run r1.units0 kin K1 hs hf (thn (run_eq F hb r1 rfl I q) ?_)
    rintro w s' ⟨z, H', I', rz, k, rfl, qk⟩
    cases rz
    exact ⟨k, rfl, (fun z => by cases z), .bl (!k), H', I', rfl, qk⟩
  have one : wpAny (model X.prog X.w) X.A (tryCompare (.ref a) "__ne__" (.ref b)) (fun r s' => ∃ v, r = some v ∧ EP X pins σ Q v s') X.xe s := by
    unfold tryCompare
    refine wpAny_bind ?_
    simp only [callSpecialIfBound?, bindSpecialIfBound?]
    have bi : PySem.W.Looks (model X.prog X.w) s.heap (bindSpecial (.builtin "object.__ne__") (.ref a)) (.builtin "object.__ne__", [.ref a]) := PySem.W.Looks.of_pure (PySem.F.slot_tuple_iterator_ne.bind _)
    have last : wpAny (model X.prog X.w) X.A (call (.builtin "object.__ne__") ([.ref a] ++ [.ref b]) >>= fun v => pure (some v)) (fun r s' => wpAny (model X.prog X.w) X.A (match r with | some .notImplemented => pure none | none => pure none | some v => pure (some v)) (fun r s' => ∃ v, r = some v ∧ EP X pins σ Q v s') X.xe s') X.xe s := by
      refine wpAny_bind (thn go ?_)
      rintro v s' ⟨nv, ev⟩
      refine wpAny_pure ?_
      cases v <;> first | exact absurd rfl nv | exact wpAny_pure ⟨_, rfl, ev⟩
    refine wpAny_holding (wpAny_bind (wpAny_bind (wpAny_bind (K1.type.here ((PySem.W.looks_findIn kin hn).here ?_)))))
    refine wpAny_bind (wpAny_askSetting (wpAny_ite ?_))
    split
    · exact wpAny_bind (bi.here (wpAny_pure (by exact last)))
    · exact wpAny_tryCatch (wpAny_bind (bi.here (wpAny_pure (by exact last))))
  show wpAny (model X.prog X.w) X.A (richCompare .NotEq (.ref a) (.ref b)) _ _ s
  unfold richCompare
  simp only [oneThing_ref]
  refine wpAny_holding (wpAny_bind (wpAny_cRoomFor hr.units0 ?_))
  refine wpAny_bind (K1.type.here (wpAny_bind (K2.type.here ?_)))
  have e0 : (Value.ref C != Value.ref C) = false := by simp
  rw [e0]
  simp only [Bool.false_eq_true, if_false]
  refine wpAny_bind (wpAny_pure ?_)
  simp only [Bool.false_eq_true, if_false]
  refine wpAny_bind (wpAny_mono one ?_ fun _ _ z => z)
  rintro r s' ⟨v, rfl, q'⟩
  exact wpAny_pure q'
end
end My

namespace My
open PySem PySem.Spec PyProof.Rows L2
/-! ### promises where no repr is under way -/
/-- a promise of the def at f, for surroundings in which nothing is being shown -/
structure FnG (P : Program) (w : World) (K : PySem.W.Frag) (mg : Str → Option Value) (base : Heap) (k : Nat) (f : Addr) (fd : FuncData) (ps : List Str) (sp : Sp) : Prop where
  len : ∀ vs H Q E, sp vs H Q E → vs.length = ps.length
  run : ∀ (A : Around) (outer : List Env) (s : Shared) (H : Hp) (args : Args) (us : List Value) (vs : List V) (Q : VK) (E : XK), A.guards = some [] → Room k A → Env0 P w K mg base A outer s H → BindsTo s fd args (ps.zip us) → Vals vs us → sp vs H Q E →
    codeAny (model P w) A (.call (.ref f) args) (CR CX0 outer P w H s Q E) s
section
variable {P : Program} {w : World} {K : PySem.W.Frag} {mg : Str → Option Value} {base : Heap}
theorem FnG.by_body {x qual : Str} {st : Stmt} {f : Addr} {fd : FuncData} {N ps : List Str} {k : Nat} {sp : Sp} (F : Fun K x qual st f fd) (S : FnScope N ps (defScope st)) (len : ∀ vs H Q E, sp vs H Q E → vs.length = ps.length)
    (body : ∀ (cdv : Value) (A : Around) (outer : List Env) (s : Shared) (H : Hp) (vs : List V) (Q : VK) (E : XK), A.guards = some [] → Room k (A.deeper (envOfC qual (defScope st) s.heap.objs.size f cdv)) → sp vs H Q E →
      ∃ t, PSs (cxOf CX0 P w K mg base N qual (defScope st) f cdv A outer s H E).nox (defBody st) t ∧ t { nx := fun _ H' => Q .non H', rt := Q } (start N vs) H) : FnG P w K mg base (k + 1) f fd ps sp := by
  obtain ⟨_, _, _, _, _, _, cdv, _, _, rfl, look, code⟩ := F.ex
  constructor
  · exact len
  intro A outer s H args us vs Q E hg hr e0 hb rel hsp
  have n := len _ _ _ _ hsp
  have old : ∀ b o, base.get? b = some o → s.heap.get? b = some o := fun b o e => (e0.bs b o e).1
  have inK : K.In s.heap := e0.mod.kin.keeps old
  obtain ⟨t, ht, q⟩ := body cdv A outer s H vs Q E hg (hr.deeper _) hsp
  have named : ∀ y ∈ ps.zip us, (defScope st).names.lookup y.1 = some .local ∨ ((defScope st).names.lookup y.1 = some .cell ∧ ((cellsFrom (s.heap.objs.size + 1) (defScope st).names []).lookup y.1).isSome = true) := by
    rintro ⟨m, v⟩ hy
    exact (S.par m (List.of_mem_zip hy).1).imp (fun z => z) fun z => ⟨z, PySem.W.cellsFrom_some _ _ _ (.inl z)⟩
  refine codeAny_call_function hr.depth (inK _ _ look) rfl S.co S.gen rfl (PySem.W.codeRec_of inK code) (hb _ _ _ _ (wpAny_newFunctionEnv_cells S.kind named fun env he s1 z => ?_))
  subst he
  refine ⟨(e0.mod.nolimit.keeps old).keeps z.toInCall.keep, codeAny_func (wpAny_mono (ht.nox.run [] s1 (start N vs) H _ (inv_start S hr.hd e0 n rel z) q) ?_ fun _ _ h => h)⟩
  intro fl s' h
  match fl, h with
  | .ret u, ⟨v, σ', H', J, rv, q'⟩ => exact ⟨v, H', J.os, J.bare, J.base, J.hok, rv, q'⟩
  | .next, ⟨σ', H', J, q'⟩ => exact ⟨V.non, H', J.os, J.bare, J.base, J.hok, rfl, q'⟩
  | .brk, ⟨_, _, _, q'⟩ => exact q'.elim
  | .cont, ⟨_, _, _, q'⟩ => exact q'.elim
end
section
variable {X : Cx} {k : Nat} {f : Addr} {fd : FuncData} {ps : List Str} {sp : Sp} {dvs : List V} {ds : List Value} {E : XK} {x : Str} {p pos : Pos} {e : Expr} {es : List Expr} {t : TA}
/-- a call of such a def -/
theorem pe_callG (hA : X.A.guards = some []) (F : FnG X.prog X.w X.K X.mg X.base k f fd ps sp) (hr : Room k X.A) (hg : Gl X x) (hm : X.mg x = some (.ref f)) (hk : PySem.W.keepIn X.K (.ref f) = true) (hb : Binds X.K fd ps ds) (hd : Vals dvs ds) (hx : Passes CX0 X E)
    (ha : PA X (e :: es) t) (hdb : (x == ("__debug__" : Str)) = false := by decide) (he : starEach (e :: es) X.env = (false, eval e X.env) :: starEach es X.env := by rfl) (hpl : (backTo pos (starEach es X.env)).any (·.1) = false := by rfl) :
    PE X (.Call (.Name x p) (e :: es) [] pos) (tCall sp dvs E t) := by
  constructor
  intro pins s σ H Q I h
  refine wpAny_Call_Name_kw (ld_glob I hg hm ?_ hdb)
  refine PySem.W.callWith_K (h₀ := X.base) I.ok.mod.kin hk (thn (ha.run pos pins s σ H _ I h) ?_) he hpl
  rintro us s1 ⟨vs, H1, J, rel, q⟩
  refine ⟨J.kIn, ?_⟩
  have both := rel.append hd
  have n : (us ++ ds).length = ps.length := by rw [← both.length]; exact F.len _ _ _ _ q
  refine wpAny_call (codeAny_mono (F.run X.A X.stack s1 H1 ⟨us, []⟩ (us ++ ds) (vs ++ dvs) Q E hA hr J.env0 (hb s1 us J.kIn n) both q) ?_)
  intro r s' z
  match r, z with
  | .error _, z => exact hx pins σ H1 s1 _ s' J z
  | .ok (.ret _), z => exact J.after z
/-- repr of data -/
def rRepr (K : PySem.W.Frag) : List V → Hp → VK → Prop := fun xs H Q => ∃ (a : Addr) (d : PyData), xs = [.ref a] ∧ Dp K H (.ref a) d ∧ d.showable = true ∧ d.hasDict = false ∧ d.depth ≤ 60 ∧ d.shown.length ≤ sizeLine ∧ Q (.str d.shown) H
theorem call_repr (hA : X.A.guards = some []) (hu : X.A.units + 64 < cLine) : CallR X (.builtin "repr") (rRepr X.K) := by
  rintro pins s σ H xs us Q I r ⟨a, d, rfl, hd, hs, hn, hz, hl, q⟩
  obtain ⟨u, rfl, rx⟩ := vals1 r
  cases rx
  obtain ⟨as, rd⟩ := Dp.reads I d (.ref a) (.ref a) hd rfl
  exact repr_of_reads' rd hs (PyData.noDict_hsm hn) hA (by omega) (fun _ _ e => e) (fun h' u tk hk => ⟨.str d.shown, H, I.kept hk, ⟨_, rfl⟩, q⟩) hl
end
end My
namespace My
open PySem PySem.Spec PyProof.Rows L2
/-! ### the law's call, by such a promise -/
section
variable {P : Program} {w : World} {K : PySem.W.Frag} {mg mb : Str → Option Value} {k : Nat} {fa a : Addr} {fd : FuncData} {x : Str} {sp : Sp} {s₁ : Shared} {vs : List Value} {ns : List Int}
/-- with H tracked: nothing but the script, and not even this where it is the module's own -/
theorem law_with (KX : K.In s₁.heap) (hns : s₁.heap.Ns mainGlobals mg) (hb : s₁.heap.Ns builtinsNs mb) (hbb : ∀ x : Str, x ≠ "__name__" → mb x = bootBuiltins x) (hlim : s₁.heap.NoLimit) (hg : s₁.gens = #[])
    (ha : s₁.heap.get? a = some { cls := .type "list", data := .seq vs.toArray }) (hr : Room k callerA)
    (F : ∀ base : Heap, K.In base → base.Ns mainGlobals mg → FnG P w K mg base k fa fd [x] sp) (hbind : ∀ (s : Shared) (u : Value), BindsTo s fd ⟨[u], []⟩ [(x, u)])
    {H : Hp} (off : ∀ b, b ≠ a → H b = none) (own : K.lookup a ≠ none → H a = none) (frz : ∀ u, H a = some u → ∃ ob xs, u = .frz ob (.lst xs)) (hok : HOk P w H s₁.heap)
    (hsp : sp [.ref a] H (fun v _ => v = .bl true) fun _ _ _ => False) :
    codeAny (model P w) callerA (.call (.ref fa) ⟨[.ref a], []⟩) (fun r s' => r = .ok (.ret (.bool true)) ∧ OldK s₁.heap s'.heap ∧ s'.os = s₁.os ∧ AllBare s'.gens) s₁ := by
  have stays : ∀ {b : Addr} {o : Obj}, s₁.heap.get? b = some o → b ≠ a → (hidT s₁.heap H).get? b = some o := fun e n => hidT_get e (off _ n)
  have dicts : ∀ {b : Addr} {o : Obj} {es : Array DictEntry} {n : Nat}, s₁.heap.get? b = some o → o.data = .dict es n → b ≠ a := by
    rintro b o es n e d rfl
    rw [ha] at e
    cases e
    cases d
  have tables : ∀ {b : Addr} {m : Str → Option Value}, s₁.heap.Ns b m → (hidT s₁.heap H).Ns b m := fun {b m} h => by
    obtain ⟨o, es, n, e, d, r⟩ := h
    exact ⟨o, es, n, stays e (dicts e d), d, r⟩
  have inK : K.In (hidT s₁.heap H) := fun b o e => by
    by_cases z : b = a
    · subst z
      exact hidT_get (KX _ _ e) (own (by rw [e]; simp))
    · exact stays (KX _ _ e) z
  obtain ⟨mc, l1, l2⟩ := hlim
  have e0 : Env0 P w K mg (hidT s₁.heap H) callerA [] s₁ H :=
    ⟨rfl, ⟨inK, tables hns, ⟨mb, tables hb, hbb⟩, mc, tables l1, l2⟩, fun b o e => of_hidT e, Nat.le_of_eq (hidT_size _ _), trivial, fun b hb => absurd (show b ∈ ([] : List Addr) from hb) (by simp), hok, .of_eq hg⟩
  have run := (F _ inK (tables hns)).run callerA [] s₁ H ⟨[.ref a], []⟩ [.ref a] [.ref a] _ _ rfl hr e0 (hbind s₁ (.ref a)) (.cons rfl .nil) hsp
  refine codeAny_mono run ?_
  intro r s' h
  match r, h with
  | .error _, h => exact False.elim h
  | .ok (.ret u), ⟨v, H', os, bare, un, hok', rv, q⟩ =>
    have q' : v = .bl true := q
    subst q'
    obtain rfl : u = Value.bool true := rv
    refine ⟨rfl, OldK.of_keep fun b o e => ?_, os, bare⟩
    cases z : H b with
    | none => exact un.keep b o e z (fun y => absurd (show b ∈ ([] : List Addr) from y) (by simp)) (by simp)
    | some u =>
      have ba : b = a := Classical.byContradiction fun y => by rw [off b y] at z; cases z
      subst ba
      obtain ⟨ob, xs, rfl⟩ := frz u z
      obtain ⟨e1, _⟩ := hok b _ z
      obtain ⟨e2, _⟩ := hok' b _ (un.frzs b ob _ z)
      rw [e] at e1
      cases e1
      exact e2
theorem law_callG (KX : K.In s₁.heap) (hns : s₁.heap.Ns mainGlobals mg) (hb : s₁.heap.Ns builtinsNs mb) (hbb : ∀ x : Str, x ≠ "__name__" → mb x = bootBuiltins x) (hlim : s₁.heap.NoLimit) (hg : s₁.gens = #[])
    (ha : s₁.heap.get? a = some { cls := .type "list", data := .seq vs.toArray }) (hi : IntsAre vs ns) (hl : ns.length ≤ sizeLine) (hr : Room k callerA)
    (F : ∀ base : Heap, K.In base → base.Ns mainGlobals mg → FnG P w K mg base k fa fd [x] sp) (hbind : ∀ (s : Shared) (u : Value), BindsTo s fd ⟨[u], []⟩ [(x, u)])
    (hsp : ∀ H : Hp, SqL K H a (ns.map V.int) → sp [.ref a] H (fun v _ => v = .bl true) fun _ _ _ => False) :
    codeAny (model P w) callerA (.call (.ref fa) ⟨[.ref a], []⟩) (fun r s' => r = .ok (.ret (.bool true)) ∧ OldK s₁.heap s'.heap ∧ s'.os = s₁.os ∧ AllBare s'.gens) s₁ := by
  have rel := vals_ints hi
  by_cases hk : K.lookup a = none
  · let it : HO := .frz { cls := .type "list", data := .seq vs.toArray } (.lst (ns.map V.int))
    have there : upd (fun _ => none) a it a = some it := upd_same
    refine law_with KX hns hb hbb hlim hg ha hr F hbind (H := upd (fun _ => none) a it) (fun b n => upd_ne n) (fun z => absurd hk z) (fun u e => ?_) (fun b u e => ?_) (hsp _ (.inl (.inr ⟨_, there⟩)))
    · rw [there] at e
      cases e
      exact ⟨_, _, rfl⟩
    · by_cases z : b = a
      · subst z
        rw [there] at e
        cases e
        exact ⟨ha, by rw [List.length_map]; exact hl, vs, _, rel, ha⟩
      · rw [upd_ne z] at e
        cases e
  · obtain ⟨o, ho⟩ := Option.ne_none_iff_exists'.mp hk
    have e := KX a o ho
    rw [ha] at e
    cases e
    refine law_with KX hns hb hbb hlim hg ha hr F hbind (H := fun _ => none) (fun b n => rfl) (fun _ => rfl) (fun u e => by cases e) (fun b u e => by cases e) (hsp _ (.inr ⟨_, vs.toArray, _, ho, rfl, rfl, rfl, by rw [List.size_toArray, hi.length]; exact hl, by simpa using rel⟩))
theorem walk_ofG {l : PySem.W.OpenLaw} {n k : Nat} {q : Program} {loose : List Str} {XP : (Str → Option Value) → Heap → Prop} {YP : World → Heap → Prop} {d : DefRec} {K : Params → PySem.W.Frag} {sp : World → Sp} {x : Str}
    (hn : l.most = some n) (hn2 : n ≤ sizeLine) (hdf : d.params.defaults = []) (hr : Room k callerA) (hY : ∀ (w : World) (h : Heap), YP w h → (K w.params).In h)
    (F : ∀ (w : World) (mg : Str → Option Value) (fa : Addr) (h : Heap), (K w.params).In h → h.Ns mainGlobals mg → mg d.name = some (.ref fa) →
      ∃ fd : FuncData, (∀ (s : Shared) (u : Value), BindsTo s fd ⟨[u], []⟩ [(x, u)]) ∧ ∀ base : Heap, (K w.params).In base → base.Ns mainGlobals mg → FnG l.prog w (K w.params) mg base k fa fd [x] (sp w))
    (hsp : ∀ (w : World) (H : Hp) (a : Addr) (ns : List Int), ns.length ≤ n → SqL (K w.params) H a (ns.map V.int) → sp w [.ref a] H (fun v _ => v = .bl true) fun _ _ _ => False) :
    PySem.W.WalkO q loose XP YP l.row.toRowW d [] (fun f vs => PySem.call f vs) := by
  refine Att.attach_call hn hdf fun w s₀ s₁ mg mb fa o pm cd doc a vs ns G Y ho hd hcd hmg hobj hints hlen hg => ?_
  have KX := hY w _ Y
  obtain ⟨fd, hb, hF⟩ := F w mg fa _ KX G.T.g hmg
  exact law_callG KX G.T.g G.T.b G.T.builtins G.T.nolimit hg hobj hints (Nat.le_trans hlen hn2) hr hF hb fun H hS => hsp w H a ns hlen hS
end
end My

namespace My
open PySem PySem.Spec PyProof.Rows L2
section
variable {X : Cx}
/-- repr of data, whatever its kind -/
def rReprA (K : PySem.W.Frag) : List V → Hp → VK → Prop := fun xs H Q => ∃ (x : V) (d : PyData), xs = [x] ∧ Dp K H x d ∧ d.showable = true ∧ d.hasDict = false ∧ d.depth ≤ 60 ∧ d.shown.length ≤ sizeLine ∧ Q (.str d.shown) H
theorem call_reprA (hA : X.A.guards = some []) (hu : X.A.units + 64 < cLine) : CallR X (.builtin "repr") (rReprA X.K) := by
  rintro pins s σ H xs us Q I r ⟨x, d, rfl, hd, hs, hn, hz, hl, q⟩
  obtain ⟨u, rfl, rx⟩ := vals1 r
  cases hd with
  | non =>
    cases rx
    exact PySem.P.repr_of_none ⟨.str _, H, I.tok _, ⟨_, rfl⟩, q⟩
  | bl b =>
    obtain ⟨t, rfl⟩ := rx
    exact PySem.P.repr_of_bool ⟨.str _, H, I.tok _, ⟨_, rfl⟩, q⟩
  | int i =>
    obtain ⟨t, rfl⟩ := rx
    exact PySem.P.repr_of_int (by simpa [PyData.showable] using hs) ⟨.str _, H, I.tok _, ⟨_, rfl⟩, q⟩
  | str z =>
    obtain ⟨t, rfl⟩ := rx
    exact PySem.P.repr_of_str ⟨.str _, H, I.tok _, ⟨_, rfl⟩, q⟩ hl
  | lst h1 h2 =>
    cases rx
    obtain ⟨as, rd⟩ := Dp.reads I _ _ _ (.lst h1 h2) rfl
    exact repr_of_reads' rd hs (PyData.noDict_hsm hn) hA (by omega) (fun _ _ e => e) (fun h' u tk hk => ⟨.str _, H, I.kept hk, ⟨_, rfl⟩, q⟩) hl
  | tup h1 h2 =>
    cases rx
    obtain ⟨as, rd⟩ := Dp.reads I _ _ _ (.tup h1 h2) rfl
    exact repr_of_reads' rd hs (PyData.noDict_hsm hn) hA (by omega) (fun _ _ e => e) (fun h' u tk hk => ⟨.str _, H, I.kept hk, ⟨_, rfl⟩, q⟩) hl
end
/-- none, or a whole number, shown -/
theorem data_opt {d : PyData} (h : d = .none ∨ ∃ i : Int, d = .int i ∧ i.natAbs < 2 ^ 1900) : d.showable = true ∧ d.hasDict = false ∧ d.depth ≤ 60 ∧ d.shown.length ≤ sizeLine := by
  rcases h with rfl | ⟨i, rfl, hi⟩
  · refine ⟨?_, ?_, ?_, ?_⟩ <;> first | rfl | decide +kernel
  · have l1 : i.natAbs.log2 < 1920 := Nat.lt_of_lt_of_le (PySem.Flt.log2_lt_of (by decide) hi) (by decide)
    have s1 : (PyData.shown (.int i)).length ≤ 1921 := PyProof.Rows.int_text_len_1921 l1
    refine ⟨?_, ?_, ?_, ?_⟩
    · simpa only [PyData.showable, decide_eq_true_eq] using l1
    · simp [PyData.hasDict]
    · simp [PyData.depth]
    · exact Nat.le_trans s1 (by decide)
end My

namespace My
open PySem L2
/-- two numbers, shown -/
theorem short_two {a b : Int} (ha : a.natAbs < 2 ^ 1900) (hb : b.natAbs < 2 ^ 1900) : (PyData.shown (.tuple [.int a, .int b])).length ≤ sizeLine := by
  have l1 : a.natAbs.log2 < 1920 := Nat.lt_of_lt_of_le (PySem.Flt.log2_lt_of (by decide) ha) (by decide)
  have l2 : b.natAbs.log2 < 1920 := Nat.lt_of_lt_of_le (PySem.Flt.log2_lt_of (by decide) hb) (by decide)
  have s1 : (PyData.shown (.int a)).length ≤ 1921 := PyProof.Rows.int_text_len_1921 l1
  have s2 : (PyData.shown (.int b)).length ≤ 1921 := PyProof.Rows.int_text_len_1921 l2
  have short : (PyData.tuple [.int a, .int b]).leavesShort 1921 = true := by
    simp only [PyData.leavesShort, PyData.leavesShortAll, Bool.and_true, Bool.and_eq_true, decide_eq_true_eq]
    exact ⟨s1, s2⟩
  have le := PyData.shown_le 1921 (by decide) _ short
  have wt : (PyData.tuple [.int a, .int b]).weight ≤ 4000 := by
    simp only [PyData.weight, PyData.weightAll]
    have wt1 : ∀ i : Int, i.natAbs.log2 < 1920 → (if (i == 0) = true then 0 else i.natAbs.log2 + 1) ≤ 1920 := fun i h => by split <;> omega
    have wa := wt1 a l1
    have wb := wt1 b l2
    omega
  have e : sizeLine = 16777216 := rfl
  omega
theorem data_two {a b : Int} (ha : a.natAbs < 2 ^ 1900) (hb : b.natAbs < 2 ^ 1900) : (PyData.tuple [.int a, .int b]).showable = true ∧ (PyData.tuple [.int a, .int b]).hasDict = false ∧ (PyData.tuple [.int a, .int b]).depth ≤ 60 := by
  refine ⟨?_, ?_, ?_⟩
  · have l1 : a.natAbs.log2 < 1920 := Nat.lt_of_lt_of_le (PySem.Flt.log2_lt_of (by decide) ha) (by decide)
    have l2 : b.natAbs.log2 < 1920 := Nat.lt_of_lt_of_le (PySem.Flt.log2_lt_of (by decide) hb) (by decide)
    simp only [PyData.showable, PyData.showableAll, Bool.and_true, Bool.and_eq_true, decide_eq_true_eq]
    exact ⟨l1, l2⟩
  · simp [PyData.hasDict, PyData.hasDictAll]
  · simp [PyData.depth, PyData.depthAll]
end My

namespace My
open PySem PySem.Spec PyProof.Rows L2 PySem.Builtin PySem.Builtin.Str
/-! ### str(x) of an object with an own __str__ -/
section
variable {P : Program} {w : World} {A : Around} {E : Value → Shared → Prop} {s : Shared} {K : PySem.W.Frag} {a C f : Addr} {ox : Obj} {od : Option Obj}
/-- an own special method, called -/
theorem special_own {name : Str} {xs : List Value} {R : Option Value → Shared → Prop} (X : K.In s.heap) (I : PySem.W.InstAt s.heap a ox C od) (hs : PySem.W.findIn K (.ref C) name = some (some (.ref f))) (hf : PySem.W.isFn K (.ref f) = true)
    (go : wpAny (model P w) A (call (.ref f) (.ref a :: xs)) (fun v => R (some v)) E s) : wpAny (model P w) A (callSpecial? (.ref a) name xs) R E s := by
  unfold callSpecial? specialOf
  refine wpAny_bind (wpAny_bind (I.type.here ((PySem.W.looks_findIn X hs).here (wpAny_holding (wpAny_bind ?_)))))
  refine (PySem.W.bind_fn X _ (beq_iff_eq.mp hf)).here ?_
  exact wpAny_bind (wpAny_mono go (fun v s' q => wpAny_pure q) fun _ _ q => q)
/-- str(v), where the text is told -/
theorem str_call {v : Value} {R : Value → Shared → Prop} (go : wpAny (model P w) A.in1.in1 (strOf v) (fun r t => t.TypeIs r "str" ∧ R r t) E s) : wpAny (model P w) A (call (.type "str") [v]) R E s := by
  have ft := PySem.F.called_str
  obtain ⟨c, tl, m1⟩ := ft.mro
  have m2 := ft.made
  have m3 := ft.sub
  refine wpAny_call (codeAny_of_tree ?_)
  show wpAny _ _ (callAny (.type "str") _) _ _ _
  refine wpAny_pure ⟨Code.quiet_builtin _ (by decide +kernel), codeAny_builtin PySem.F.entry_type_call ?_⟩
  rw [Around.under_plain (weight_type_call_type "str" [v] []) (units_type_call_type "str" [v] [])]
  have n1 := ft.notType
  have n2 := ft.canCreate
  have n3 := PySem.F.typeCall_str_1 v
  repeat (any_goals (first | assumption | wp_step))
  have body : wpAny (model P w) A.in1.in1 («str.__new__» ⟨[.type "str", v], []⟩) (fun fin t => ∃ r, fin = .done (.ret r) ∧ t.TypeIs r "str" ∧ R r t) E s := by
    rw [str_new_tree v]
    refine wpAny_bind (wpAny_pure (wpAny_bind (wpAny_of_eq isSubtype_str_str ?_)))
    exact wpAny_bind (wpAny_mono go (fun r t q => wpAny_pure ⟨r, rfl, q⟩) fun _ _ q => q)
  refine codeAny_mono (codeAny_call_builtin ft.plain PySem.F.entry_str_new (wpAny_of_eq (PySem.F.newCall_str_1 v) (wpAny_mono body (fun fin t q => ?_) fun e t q => ?_))) (R := fun r t => (∃ x, r = .ok (.ret x) ∧ t.TypeIs x "str" ∧ R x t) ∨ (∃ e, r = .error e ∧ E e t)) fun r t q => ?_
  · obtain ⟨r, rfl, q1⟩ := q
    exact .inl ⟨r, rfl, q1⟩
  · exact .inr ⟨e, rfl, q⟩
  · rcases q with ⟨x, rfl, ty, q1⟩ | ⟨e, rfl, q1⟩
    · have i1 := ft.init.lookup
      have i2 := ft.init.bind x
      repeat (any_goals (first | assumption | wp_step))
      refine codeAny_mono (codeAny_call_builtin ft.init.plain PySem.F.entry_object_init (ft.init.check _ _ _ _ _ _ _ _ ty (PySem.F.args_object_init_2 x _) (object_init_meets (rest := [v]) ft.init.lookup ft.made (by decide) P w A.in1 (fun r t' => r = .ok (.ret .none) ∧ R x t') t ⟨ty, rfl, q1⟩))) (R := fun r t' => r = .ok (.ret .none) ∧ R x t') fun r2 t2 q2 => ?_
      obtain ⟨rfl, q3⟩ := q2
      repeat (any_goals (first | assumption | wp_step))
    · exact q1
end
section
variable {X : Cx} {C f : Addr} {fd : FuncData} {ps : List Str} {n : Nat} {sp : Sp}
theorem run_one {A : Around} {pins : List (Addr × Obj)} {σ : L2.St} {H : Hp} {s : Shared} {a : Addr} {Q : VK} {E : XK} (F : FnOk X.prog X.w X.K X.mg X.base CX0 n f fd ps sp) (hb : Binds X.K fd ps []) (hr : Room n A) (hfr : A.frames = X.A.frames)
    (I : Inv X pins σ H s) (h : sp [.ref a] H Q E) : wpAny (model X.prog X.w) A (call (.ref f) [.ref a]) (EP X pins σ Q) X.xe s := by
  have w0 := I.env0
  have w1 : Env0 X.prog X.w X.K X.mg X.base A X.stack s H := ⟨hfr.trans w0.frames, w0.mod, w0.bs, w0.bsz, w0.funs, w0.frf, w0.hok, w0.bare⟩
  have len1 : 1 = ps.length := F.len _ _ _ _ h
  have bnd : BindsTo s fd ⟨[.ref a], []⟩ (ps.zip [.ref a]) := by
    have q := hb s [.ref a] I.kIn (by simpa using len1)
    simpa using q
  refine wpAny_call (codeAny_mono (F.run A X.stack s H ⟨[.ref a], []⟩ [.ref a] [.ref a] Q E hr w1 bnd (.cons rfl .nil) h) ?_)
  intro r s' z
  match r, z with
  | .error _, z => exact z.elim
  | .ok (.ret u), z => exact I.after z
def rStrOwn (C : Addr) (sp : Sp) : List V → Hp → VK → Prop := fun xs H Q => ∃ (a dx : Addr) (fs : List (Str × V)), xs = [.ref a] ∧ H a = some (.ins C dx fs) ∧ sp [.ref a] H (fun v H' => ∃ k : Str, v = .str k ∧ Q (.str k) H') E0
theorem call_strOwn (F : FnOk X.prog X.w X.K X.mg X.base CX0 n f fd ps sp) (hs : PySem.W.findIn X.K (.ref C) "__str__" = some (some (.ref f))) (hf : PySem.W.isFn X.K (.ref f) = true) (hb : Binds X.K fd ps []) (hr : Room (n + 2) X.A) :
    CallR X (.type "str") (rStrOwn C sp) := by
  rintro pins s σ H xs us Q I r ⟨a, dx, fs, rfl, ha, q⟩
  obtain ⟨u, rfl, rx⟩ := vals1 r
  cases rx
  obtain ⟨_, J1, _⟩ := ins_get I.hok ha
  obtain ⟨_, K1, _⟩ := J1.look
  have r2 : Room n X.A.in1.in1 := hr.in1.in1
  refine str_call ?_
  unfold PySem.Builtin.Str.strOf
  refine wpAny_bind (m := cRoomFor _ _) (wpAny_cRoomFor r2.units0 ?_)
  refine wpAny_bind (m := callSpecial? (.ref a) (Str.ofString "__str__") _) (special_own I.kIn K1 hs hf (thn (run_one F hb r2 rfl I q) ?_))
  rintro v s' ⟨z, H', I', rz, k, rfl, qk⟩
  obtain ⟨tk, rfl⟩ := rz
  exact wpAny_pure ⟨typeIs_str _ _ _, .str k, H', I', ⟨_, rfl⟩, qk⟩
end
end My

namespace My
open PySem L2 TL NumText
/-! ### texts of whole numbers and of Numbers -/
def TI (i : Int) : Str := Str.ofString (toString i)
def signL (i : Int) : List Nat := if i < 0 then 45 :: numL i.natAbs else numL i.natAbs
theorem tl_TI (i : Int) : tl (TI i) = signL i := by
  unfold TI signL
  by_cases h : i < 0
  · rw [if_pos h]
    obtain ⟨m, rfl⟩ := Int.eq_negSucc_of_lt_zero h
    have e : toString (Int.negSucc m) = "-" ++ toString (((m + 1 : Nat)) : Int) := rfl
    rw [e, tl_ofString, String.toList_append, List.map_append, ← tl_ofString (toString (((m + 1 : Nat)) : Int)), tl_num]
    rfl
  · rw [if_neg h]
    obtain ⟨n, rfl⟩ := Int.eq_ofNat_of_zero_le (show 0 ≤ i by omega)
    exact tl_num n
theorem signL_inj {i j : Int} (h : signL i = signL j) : i = j := by
  unfold signL at h
  have f : ∀ n, (45 : Nat) ∉ numL n := fun n => numL_free (by decide)
  by_cases a : i < 0 <;> by_cases b : j < 0
  · rw [if_pos a, if_pos b] at h
    have := numL_inj (List.cons.inj h).2
    omega
  · rw [if_pos a, if_neg b] at h
    exact absurd (h ▸ List.mem_cons_self ..) (f _)
  · rw [if_neg a, if_pos b] at h
    exact absurd (h ▸ List.mem_cons_self ..) (f _)
  · rw [if_neg a, if_neg b] at h
    have := numL_inj h
    omega
theorem TI_inj {i j : Int} (h : TI i = TI j) : i = j := signL_inj (by rw [← tl_TI, ← tl_TI, h])
theorem free_signL {s : Nat} (h : s ≠ 45) (h2 : s < 48 ∨ 57 < s) (i : Int) : s ∉ signL i := by
  unfold signL
  split
  · intro z
    rcases List.mem_cons.mp z with z | z
    · exact h z
    · exact numL_free h2 z
  · exact numL_free h2
theorem signL_len {i : Int} {k : Nat} (hk : 0 < k) (h : i.natAbs < 10 ^ k) : (signL i).length ≤ k + (if i < 0 then 1 else 0) := by
  have := numL_len hk h
  unfold signL
  split
  · rw [List.length_cons]; omega
  · omega
theorem signL_ne (i : Int) : signL i ≠ [] := by
  unfold signL
  split
  · exact List.cons_ne_nil _ _
  · exact numL_ne _
theorem int_TI {i : Int} (h : (TI i).length ≤ 4300) : intText? (TI i) = some i := by
  by_cases z : i < 0
  · have e : (TI i).cps.toList = 45 :: numL i.natAbs := by
      have := tl_TI i
      unfold signL at this
      rw [if_pos z] at this
      exact this
    have := intText_neg e (numL_digits _) (numL_ne _) h
    rw [this, numL_val]
    congr 1
    omega
  · obtain ⟨n, rfl⟩ := Int.eq_ofNat_of_zero_le (show 0 ≤ i by omega)
    have l : (numL n).length ≤ 4300 := by
      have := len_tl (TI (n : Int))
      rw [tl_TI] at this
      unfold signL at this
      rw [if_neg z] at this
      rw [this] at h
      exact h
    exact int_num l
/-- the text of a Number -/
def NText (x : Rat) : Str := if x.den = 1 then TI x.num else TI x.num ++ "/" ++ TI (x.den : Int)
theorem nat_signL (n : Nat) : signL (n : Int) = numL n := by
  unfold signL
  rw [if_neg (by omega)]
  rfl
theorem tl_NText (x : Rat) : tl (NText x) = if x.den = 1 then signL x.num else signL x.num ++ 47 :: numL x.den := by
  unfold NText
  split
  · exact tl_TI _
  · have e : tl ("/" : Str) = [47] := rfl
    rw [tl_append, tl_append, tl_TI, tl_TI, nat_signL, e]
    simp
theorem part_none {x : Rat} (h : x.den = 1) : Txt.partition (NText x) "/" = (TI x.num, Str.empty, Str.empty) := by
  have e : NText x = TI x.num := if_pos h
  rw [e]
  exact partition_none (s := 47) (S := []) rfl (by rw [tl_TI]; exact free_signL (by decide) (by decide) _)
theorem part_some {x : Rat} (h : x.den ≠ 1) : Txt.partition (NText x) "/" = (TI x.num, ("/" : Str), TI (x.den : Int)) := by
  have e : NText x = TI x.num ++ "/" ++ TI (x.den : Int) := if_neg h
  rw [e]
  exact partition_app (s := 47) (S := []) rfl (by rw [tl_TI]; exact free_signL (by decide) (by decide) _)
theorem minus_off (i : Int) : tl (Txt.removeprefix (TI i) "-") = numL i.natAbs := by
  rw [PySem.StrLaws.removeprefix_eq]
  have hx : (TI i).cps.toList = signL i := tl_TI i
  have ll : (TI i).length = (signL i).length := by rw [len_tl, tl_TI]
  have hy : ("-" : Str).cps.toList = [45] := rfl
  have y1 : ("-" : Str).length = 1 := rfl
  rw [PySem.StrLaws.subAt_eq, hx, hy, y1, ll, List.drop_zero]
  unfold signL
  by_cases z : i < 0
  · rw [if_pos z]
    have e : ((45 :: numL i.natAbs).take 1 == [45]) = true := rfl
    rw [e, if_pos (by rw [Bool.and_true]; exact decide_eq_true (by rw [List.length_cons]; omega))]
    show (45 :: numL i.natAbs).tail.take _ = _
    rw [List.tail_cons, List.length_cons]
    exact List.take_of_length_le (by omega)
  · rw [if_neg z]
    have f : (45 : Nat) ∉ numL i.natAbs := numL_free (by decide)
    have e : ((numL i.natAbs).take 1 == [45]) = false := by
      generalize numL i.natAbs = l at *
      cases l with
      | nil => rfl
      | cons c r =>
        have c0 : c ≠ 45 := fun q => f (by rw [q]; exact List.mem_cons_self ..)
        show ((c :: List.take 0 r) == [45]) = false
        rw [List.take_zero]
        simpa using c0
    rw [e, Bool.and_false, if_neg (by decide)]
    have := tl_TI i
    unfold signL at this
    rw [if_neg z] at this
    exact this
theorem digit_is : ∀ c : Nat, 48 ≤ c → c ≤ 57 → Unicode.isDigit c = true ∧ decide (c < 128) = true := by
  intro c h1 h2
  have h : c = 48 ∨ c = 49 ∨ c = 50 ∨ c = 51 ∨ c = 52 ∨ c = 53 ∨ c = 54 ∨ c = 55 ∨ c = 56 ∨ c = 57 := by omega
  rcases h with rfl | rfl | rfl | rfl | rfl | rfl | rfl | rfl | rfl | rfl <;> decide +kernel
theorem all_list {x : Str} {p : Nat → Bool} : x.cps.all p = (tl x).all p := by
  show x.cps.all p = x.cps.toList.all p
  exact (Array.all_toList ..).symm
theorem ascii_off (i : Int) : Txt.isascii (Txt.removeprefix (TI i) "-") = true := by
  unfold Txt.isascii
  rw [all_list, minus_off, List.all_eq_true]
  intro c hc
  have := numL_digits _ c hc
  exact (digit_is c this.1 this.2).2
theorem digits_off (i : Int) : Txt.isdigit (Txt.removeprefix (TI i) "-") = true := by
  unfold Txt.isdigit
  rw [all_list, minus_off, len_tl, minus_off, Bool.and_eq_true, List.all_eq_true]
  constructor
  · have := numL_ne i.natAbs
    generalize numL i.natAbs = l at *
    cases l with
    | nil => exact absurd rfl this
    | cons _ _ => exact decide_eq_true (by rw [List.length_cons]; omega)
  · intro c hc
    have := numL_digits _ c hc
    exact (digit_is c this.1 this.2).1
theorem TI_len (i : Int) : (TI i).length = (signL i).length := by rw [len_tl, tl_TI]
theorem NText_len (x : Rat) : (NText x).length = if x.den = 1 then (signL x.num).length else (signL x.num).length + 1 + (numL x.den).length := by
  rw [len_tl, tl_NText]
  split
  · rfl
  · rw [List.length_append, List.length_cons]; omega
end My

namespace My
open PySem L2
def top (i : Nat) : Stmt := PySem.Challenge.pw_figuretexts_k03_numbers_read.main.body.getD i (.Pass ⟨0, 0, 0, 0⟩)
abbrev s_Number_init : Stmt := inClass (top 7) 0
theorem sc_Number_init : FnScope ["self", "top", "bottom", "common"] ["self", "top", "bottom"] (defScope s_Number_init) := ⟨rfl, rfl, rfl, by decide +kernel, rfl, by decide +kernel, by decide +kernel⟩
abbrev s_Number_eq : Stmt := inClass (top 7) 1
theorem sc_Number_eq : FnScope ["self", "other"] ["self", "other"] (defScope s_Number_eq) := ⟨rfl, rfl, rfl, by decide +kernel, rfl, by decide +kernel, by decide +kernel⟩
abbrev s_Number_str : Stmt := inClass (top 7) 2
theorem sc_Number_str : FnScope ["self"] ["self"] (defScope s_Number_str) := ⟨rfl, rfl, rfl, by decide +kernel, rfl, by decide +kernel, by decide +kernel⟩
abbrev s_Number_over : Stmt := inClass (top 7) 7
theorem sc_Number_over : FnScope ["self", "other"] ["self", "other"] (defScope s_Number_over) := ⟨rfl, rfl, rfl, by decide +kernel, rfl, by decide +kernel, by decide +kernel⟩
abbrev s_read_number : Stmt := top 8
theorem sc_read_number : FnScope ["text", "above", "slash", "behind", "top", "bottom", "number"] ["text"] (defScope s_read_number) := ⟨rfl, rfl, rfl, by decide +kernel, rfl, by decide +kernel, by decide +kernel⟩
abbrev s_whole : Stmt := top 9
theorem sc_whole : FnScope ["text", "figures"] ["text"] (defScope s_whole) := ⟨rfl, rfl, rfl, by decide +kernel, rfl, by decide +kernel, by decide +kernel⟩
abbrev s_l_well : Stmt := top 11
theorem sc_l_well : FnScope ["_law_script", "_law_k", "_law_cell"] ["_law_script", "_law_k"] (defScope s_l_well) := ⟨rfl, rfl, rfl, by decide +kernel, rfl, by decide +kernel, by decide +kernel⟩
abbrev s_l_take : Stmt := top 12
theorem sc_l_take : FnScope ["_law_well_here", "_law_top", "_law_digit", "_law_number"] ["_law_well_here", "_law_top"] (defScope s_l_take) := ⟨rfl, rfl, rfl, by decide +kernel, rfl, by decide +kernel, by decide +kernel⟩
abbrev s_l_ten : Stmt := top 13
theorem sc_l_ten : FnScope ["_law_power", "_law_found", "_law_k"] ["_law_power"] (defScope s_l_ten) := ⟨rfl, rfl, rfl, by decide +kernel, rfl, by decide +kernel, by decide +kernel⟩
abbrev s_l_pair : Stmt := top 14
theorem sc_l_pair : FnScope ["_law_well_here", "_law_way", "_law_by", "_law_power", "_law_top", "_law_bottom", "_law_turn", "_law_signs"] ["_law_well_here"] (defScope s_l_pair) := ⟨rfl, rfl, rfl, by decide +kernel, rfl, by decide +kernel, by decide +kernel⟩
abbrev s_l_lowest : Stmt := top 15
theorem sc_l_lowest : FnScope ["_law_top", "_law_bottom", "_law_one", "_law_other"] ["_law_top", "_law_bottom"] (defScope s_l_lowest) := ⟨rfl, rfl, rfl, by decide +kernel, rfl, by decide +kernel, by decide +kernel⟩
abbrev s_l_right : Stmt := top 16
theorem sc_l_right : FnScope ["_law_pair_here", "_law_top", "_law_bottom", "_law_text", "_law_found"] ["_law_pair_here"] (defScope s_l_right) := ⟨rfl, rfl, rfl, by decide +kernel, rfl, by decide +kernel, by decide +kernel⟩
abbrev s_law : Stmt := top 17
theorem sc_law : FnScope ["_law_script", "_law_rows", "_law_k", "_law_well_here", "_law_figures", "_law_top", "_law_turn", "_law_first", "_law_row"] ["_law_script"] (defScope s_law) := ⟨rfl, rfl, rfl, by decide +kernel, rfl, by decide +kernel, by decide +kernel⟩
structure Txt (w : World) (K : PySem.W.Frag) (mg : Str → Option Value) where
  C_Number : Addr
  m_Number : mg "Number" = some (.ref C_Number)
  c_Number : Cls K C_Number
  n_Number_top : NoAttr K C_Number "top"
  n_Number_bottom : NoAttr K C_Number "bottom"
  ty_Number_c : PySem.W.findIn K (.ref C_Number) "__class__" = some (some (.builtin "object.__class__"))
  ty_Number_g : PySem.W.specialIn K (.builtin "object.__class__") "__get__" = some (some (.builtin "getset_descriptor.__get__"))
  ty_Number_t : PySem.W.takesIn K (.builtin "object.__class__") = some true
  ty_Number_m : PySem.W.mroIn K C_Number (.type "object") = some true
  ty_Number_k : PySem.W.kitOne K (.ref C_Number) (.ref C_Number) = some true
  ne_Number : PySem.W.findIn K (.ref C_Number) "__ne__" = some (some (.builtin "object.__ne__"))
  f_Number_init : Addr
  fd_Number_init : FuncData
  F_Number_init : FunD K "__init__" "Number.__init__" (defArgs s_Number_init) (defBody s_Number_init) (defScope s_Number_init) [V.int 1] [] f_Number_init fd_Number_init
  mk_Number : Mk K C_Number f_Number_init
  b_Number_init2 : Binds K fd_Number_init ["self", "top", "bottom"] []
  ds_Number_init1 : List Value
  d_Number_init1 : Vals [V.int 1] ds_Number_init1
  b_Number_init1 : Binds K fd_Number_init ["self", "top", "bottom"] ds_Number_init1
  f_Number_eq : Addr
  fd_Number_eq : FuncData
  F_Number_eq : Fun K "__eq__" "Number.__eq__" s_Number_eq f_Number_eq fd_Number_eq
  me_Number_eq : Meth K C_Number "__eq__" f_Number_eq
  b_Number_eq : Binds K fd_Number_eq ["self", "other"] []
  f_Number_str : Addr
  fd_Number_str : FuncData
  F_Number_str : Fun K "__str__" "Number.__str__" s_Number_str f_Number_str fd_Number_str
  me_Number_str : Meth K C_Number "__str__" f_Number_str
  b_Number_str : Binds K fd_Number_str ["self"] []
  f_Number_over : Addr
  fd_Number_over : FuncData
  F_Number_over : Fun K "over" "Number.over" s_Number_over f_Number_over fd_Number_over
  me_Number_over : Meth K C_Number "over" f_Number_over
  b_Number_over : Binds K fd_Number_over ["self", "other"] []
  f_read_number : Addr
  fd_read_number : FuncData
  F_read_number : Fun K "read_number" "read_number" s_read_number f_read_number fd_read_number
  m_read_number : mg "read_number" = some (.ref f_read_number)
  b_read_number : Binds K fd_read_number ["text"] []
  f_whole : Addr
  fd_whole : FuncData
  F_whole : Fun K "_whole" "_whole" s_whole f_whole fd_whole
  m_whole : mg "_whole" = some (.ref f_whole)
  b_whole : Binds K fd_whole ["text"] []
  f_l_well : Addr
  fd_l_well : FuncData
  F_l_well : Fun K "_law_well" "_law_well" s_l_well f_l_well fd_l_well
  m_l_well : mg "_law_well" = some (.ref f_l_well)
  b_l_well : Binds K fd_l_well ["_law_script", "_law_k"] []
  f_l_take : Addr
  fd_l_take : FuncData
  F_l_take : Fun K "_law_take" "_law_take" s_l_take f_l_take fd_l_take
  m_l_take : mg "_law_take" = some (.ref f_l_take)
  b_l_take : Binds K fd_l_take ["_law_well_here", "_law_top"] []
  f_l_ten : Addr
  fd_l_ten : FuncData
  F_l_ten : Fun K "_law_ten" "_law_ten" s_l_ten f_l_ten fd_l_ten
  m_l_ten : mg "_law_ten" = some (.ref f_l_ten)
  b_l_ten : Binds K fd_l_ten ["_law_power"] []
  f_l_pair : Addr
  fd_l_pair : FuncData
  F_l_pair : Fun K "_law_pair" "_law_pair" s_l_pair f_l_pair fd_l_pair
  m_l_pair : mg "_law_pair" = some (.ref f_l_pair)
  b_l_pair : Binds K fd_l_pair ["_law_well_here"] []
  f_l_lowest : Addr
  fd_l_lowest : FuncData
  F_l_lowest : Fun K "_law_lowest" "_law_lowest" s_l_lowest f_l_lowest fd_l_lowest
  m_l_lowest : mg "_law_lowest" = some (.ref f_l_lowest)
  b_l_lowest : Binds K fd_l_lowest ["_law_top", "_law_bottom"] []
  f_l_right : Addr
  fd_l_right : FuncData
  F_l_right : Fun K "_law_right" "_law_right" s_l_right f_l_right fd_l_right
  m_l_right : mg "_law_right" = some (.ref f_l_right)
  b_l_right : Binds K fd_l_right ["_law_pair_here"] []
  f_law : Addr
  fd_law : FuncData
  F_law : Fun K "law" "law" s_law f_law fd_law
  m_law : mg "law" = some (.ref f_law)
  b_law : Binds K fd_law ["_law_script"] []
  m_gcd : mg "gcd" = some (.builtin "math.gcd")
  n_range : mg "range" = none
  n_isinstance : mg "isinstance" = none
  n_str : mg "str" = none
  n_int : mg "int" = none
  n_len : mg "len" = none
  n_abs : mg "abs" = none
  n_max : mg "max" = none
  n_min : mg "min" = none
  n_repr : mg "repr" = none
  u_LONGEST_TEXT : Value
  m_LONGEST_TEXT : mg "LONGEST_TEXT" = some u_LONGEST_TEXT
  r_LONGEST_TEXT : RelV (.int 60) u_LONGEST_TEXT

section
variable {P : Program} {w : World} {K : PySem.W.Frag} {mg : Str → Option Value} {base : Heap}
/-! ### Number -/
def nf (q : Rat) : List (Str × V) := [("top", .int q.num), ("bottom", .int (q.den : Int))]
theorem tb_ : ¬ (("top" : Str) = "bottom") := by decide +kernel
theorem bt_ : ¬ (("bottom" : Str) = "top") := by decide +kernel
theorem nf_put (a b : Int) : putF "bottom" (.int b) (putF "top" (.int a) []) = ([("top", V.int a), ("bottom", V.int b)] : List (Str × V)) := by
  show (if ("top" : Str) = "bottom" then [(("top" : Str), V.int b)] else (("top" : Str), V.int a) :: putF "bottom" (V.int b) []) = ([("top", V.int a), ("bottom", V.int b)] : List (Str × V))
  rw [if_neg tb_]
  all_goals rfl
theorem nf_top (q : Rat) : (nf q).lookup ("top" : Str) = some (.int q.num) := by
  have e : (("top" : Str) == "top") = true := by decide +kernel
  unfold nf
  simp only [List.lookup, e]
theorem nf_bottom (q : Rat) : (nf q).lookup ("bottom" : Str) = some (.int (q.den : Int)) := by
  have e : (("bottom" : Str) == "top") = false := by decide +kernel
  have e' : (("bottom" : Str) == "bottom") = true := by decide +kernel
  unfold nf
  simp only [List.lookup, e, e']
theorem nf_no (q : Rat) {m : Str} (h1 : (m == "top") = false) (h2 : (m == "bottom") = false) : (nf q).lookup m = none := by
  unfold nf
  simp only [List.lookup, h1, h2]
/-- the Number q stands at p -/
def NumAt (C : Addr) (H : Hp) (p : Addr) (q : Rat) : Prop := ∃ dx, H p = some (.ins C dx (nf q))
theorem NumAt.same {C : Addr} {H H' : Hp} {p : Addr} {q : Rat} (s : Same H H') (h : NumAt C H p q) : NumAt C H' p q := let ⟨dx, e⟩ := h; ⟨dx, s _ _ e⟩

def spInit (C : Addr) : Sp := fun vs H Q _ => ∃ (p dx : Addr) (t b : Int), vs = [.ref p, .int t, .int b] ∧ H p = some (.ins C dx []) ∧ b ≠ 0 ∧ b.natAbs < 2 ^ 9000 ∧ Q .non (upd H p (.ins C dx (nf (Rat.divInt t b))))
theorem ok_Number_init (T : Txt w K mg) : FnOk P w K mg base CX0 1 T.f_Number_init T.fd_Number_init ["self", "top", "bottom"] (spInit T.C_Number) := by
  refine T.F_Number_init.ok sc_Number_init (fun vs H Q E h => ?_) (fun cdv A outer s H vs Q E hr h => ?_)
  · obtain ⟨p, dx, t, b, rfl, _⟩ := h
    rfl
  · obtain ⟨p, dx, t, b, rfl, hp, hb, hl, k⟩ := h
    refine ⟨_, (pss_cons (ps_if (pt_cmpR op_eq (pv 2) pe_int (nomark _))
  (pss_one ps_never)
  pss_nil)
 (pss_cons (ps_set (i := 3) sc_Number_init.nd rfl (Or.inl rfl) (pe_callBfun cr_gcd (by rfl) T.m_gcd (pa_cons (pv 1) (pa_cons (pv 2) pa_nil))))
 (pss_cons (ps_if (pt_cmpR op_lt (pv 2) pe_int (nomark _))
  (pss_one (ps_set (i := 3) sc_Number_init.nd rfl (Or.inl rfl) (pe_un un_neg (pv 3))))
  pss_nil)
 (pss_cons (ps_fld (pv 0) (pe_op op_fdivA (pv 1) (pv 3)) rfl)
 (pss_one (ps_fld (pv 0) (pe_op op_fdivA (pv 2) (pv 3)) rfl)))))), ?_⟩
    walk_at "rd"
    refine r_iteF (decide_eq_false hb) ?_
    walk_at "rd"
    refine ⟨_, _, rfl, ?_⟩
    have fin : ∀ c : Int, c = cdiv t b → sFld K (tVar 0) (tOp (rI CDivA fun i j => .int (i.fdiv j)) (tVar 1) (tVar 3)) "top" ⟨sFld K (tVar 0) (tOp (rI CDivA fun i j => .int (i.fdiv j)) (tVar 2) (tVar 3)) "bottom" ⟨fun _ H' => Q .non H', Q, fun _ _ => False, fun _ _ => False⟩, Q, fun _ _ => False, fun _ _ => False⟩ [some (.ref p), some (.int t), some (.int b), some (.int c)] H := by
      rintro c rfl
      have hg := gcd_pos (t := t) hb
      have hc : CDivA t (cdiv t b) ∧ CDivA b (cdiv t b) := by
        have n0 : cdiv t b ≠ 0 := by unfold cdiv; split <;> omega
        have nb : (cdiv t b).natAbs < 2 ^ 9000 := by
          have le : Nat.gcd t.natAbs b.natAbs ≤ b.natAbs := Nat.le_of_dvd (by omega) (Nat.gcd_dvd_right _ _)
          have e : (cdiv t b).natAbs = Nat.gcd t.natAbs b.natAbs := by unfold cdiv; split <;> omega
          rw [e]
          exact Nat.lt_of_le_of_lt le hl
        exact ⟨cdivA n0 nb (by decide) (Nat.le_refl _), cdivA n0 nb (by decide) (Nat.le_refl _)⟩
      walk_at "rd"
      refine r_I hc.1 ?_
      walk_at "rd"
      refine ⟨p, T.C_Number, dx, [], rfl, hp, T.c_Number, T.n_Number_top, (by show 0 < 1000; decide), ?_⟩
      walk_at "rd"
      refine r_I hc.2 ?_
      walk_at "rd"
      refine ⟨p, T.C_Number, dx, _, rfl, upd_same, T.c_Number, T.n_Number_bottom, (by show 1 < 1000; decide), ?_⟩
      show Q .non (upd (upd H p _) p (.ins T.C_Number dx (putF "bottom" _ (putF "top" _ []))))
      rw [upd_upd, nf_put, num_of hb, den_of hb]
      exact k
    walk_at "rd"
    refine r_ite (fun hn => ?_) (fun hn => ?_)
    · iterate 5 walk_at "rd1"
      refine fin _ ?_
      unfold cdiv
      rw [if_pos (of_decide_eq_true hn)]
    · iterate 1 walk_at "rd1"
      refine fin _ ?_
      unfold cdiv
      rw [if_neg (of_decide_eq_false hn)]
end
end My
local macro_rules | `(tactic| walk_at "fld") => `(tactic| refine My.r_fld (by assumption) (by assumption) (by assumption) (by first | exact My.nf_top _ | exact My.nf_bottom _) ?_)
local macro_rules | `(tactic| walk_at "rdf") => `(tactic| (repeat (first | walk_at "rd1" | walk_at "fld")))


namespace My
open PySem L2
section
variable {P : Program} {w : World} {K : PySem.W.Frag} {mg : Str → Option Value} {base : Heap}
/-- a Number made at once -/
theorem mk_num {C : Addr} {H : Hp} {t b : Int} {R : Addr → Hp → Prop} {E : XK} (hb : b ≠ 0) (hl : b.natAbs < 2 ^ 9000) (q : ∀ (p : Addr) (H' : Hp), Same H H' → H p = none → NumAt C H' p (Rat.divInt t b) → R p H') :
    ∀ x dx, H x = none → H dx = none → dx ≠ x → spInit C (.ref x :: ([V.int t, V.int b] ++ [])) (upd (upd H dx (.own x)) x (.ins C dx [])) (fun v H2 => v = .non ∧ R x H2) E := by
  intro x dx nx ndx ne
  refine ⟨x, dx, t, b, rfl, upd_same, hb, hl, rfl, q x _ (fun y o e => ?_) nx ⟨dx, upd_same⟩⟩
  rw [upd_ne (ne_of_none e nx), upd_ne (ne_of_none e nx), upd_ne (ne_of_none e ndx)]
  exact e
theorem mk_num1 {C : Addr} {H : Hp} {t : Int} {R : Addr → Hp → Prop} {E : XK} (q : ∀ (p : Addr) (H' : Hp), Same H H' → H p = none → NumAt C H' p (t : Rat) → R p H') :
    ∀ x dx, H x = none → H dx = none → dx ≠ x → spInit C (.ref x :: ([V.int t] ++ [V.int 1])) (upd (upd H dx (.own x)) x (.ins C dx [])) (fun v H2 => v = .non ∧ R x H2) E :=
  mk_num (by decide) (Nat.lt_of_lt_of_le (by decide : Int.natAbs 1 < 2 ^ 1) (Nat.pow_le_pow_right (by decide) (by decide))) fun p H' s n h => q p H' s n (divInt_one t ▸ h)
/-- two Numbers in, one out -/
def spBin (C : Addr) (f : Rat → Rat → Rat) (ok : Rat → Rat → Prop) : Sp := fun vs H Q _ => ∃ (p q : Addr) (x y : Rat), vs = [.ref p, .ref q] ∧ NumAt C H p x ∧ NumAt C H q y ∧ Bd 4000 x ∧ Bd 4000 y ∧ ok x y ∧
  ∀ (r : Addr) (H' : Hp), Same H H' → H r = none → NumAt C H' r (f x y) → Q (.ref r) H'
theorem bd_den {n : Nat} {x : Rat} (h : Bd n x) : ((x.den : Nat) : Int).natAbs < 2 ^ n := by have := h.2; omega
theorem dd_ne (x y : Rat) : (x.den : Int) * (y.den : Int) ≠ 0 := Int.mul_ne_zero (den_ne x) (den_ne y)
theorem dd_lt {x y : Rat} (hx : Bd 4000 x) (hy : Bd 4000 y) : ((x.den : Int) * (y.den : Int)).natAbs < 2 ^ 9000 := natAbs_mul_lt (bd_den hx) (bd_den hy) (by decide)
theorem cm {i j : Int} (hi : i.natAbs < 2 ^ 4000) (hj : j.natAbs < 2 ^ 4000) : CMulW i j := wide_mul hi hj (by decide) (by decide) (by decide)
end
end My

namespace My
open PySem L2
section
variable {P : Program} {w : World} {K : PySem.W.Frag} {mg : Str → Option Value} {base : Heap}
theorem is_num (T : Txt w K mg) {H : Hp} {p : Addr} {q : Rat} {Q : VK} (h : NumAt T.C_Number H p q) (k : Q (.bl true) H) : rIsi K [.ref p, .ref T.C_Number] H Q := by
  obtain ⟨dx, e⟩ := h
  exact ⟨.ref p, .ref T.C_Number, .ref T.C_Number, .ref T.C_Number, true, rfl, .own _, .base (.ins e T.c_Number T.ty_Number_c T.ty_Number_g T.ty_Number_t T.ty_Number_m), T.ty_Number_k, k⟩
def spNumEq (C : Addr) : Sp := fun vs H Q _ => ∃ (a b : Addr) (x y : Rat), vs = [.ref a, .ref b] ∧ NumAt C H a x ∧ NumAt C H b y ∧ Q (.bl (decide (x = y))) H
theorem rat_dec (x y : Rat) : decide (x = y) = (decide (x.num = y.num) && decide ((x.den : Int) = (y.den : Int))) := by
  rw [Bool.eq_iff_iff, Bool.and_eq_true, decide_eq_true_eq, decide_eq_true_eq, decide_eq_true_eq]
  constructor
  · rintro rfl
    exact ⟨rfl, rfl⟩
  · rintro ⟨h1, h2⟩
    exact Rat.ext h1 (by omega)
theorem ok_Number_eq (T : Txt w K mg) : FnOk P w K mg base CX0 1 T.f_Number_eq T.fd_Number_eq ["self", "other"] (spNumEq T.C_Number) := by
  refine T.F_Number_eq.ok sc_Number_eq (fun vs H Q E h => ?_) (fun cdv A outer s H vs Q E hr h => ?_)
  · obtain ⟨a, b, x, y, rfl, _⟩ := h
    rfl
  · obtain ⟨a, b, x, y, rfl, ⟨dx, ha⟩, ⟨dy, hb⟩, k⟩ := h
    have cN := T.c_Number
    have nT := T.n_Number_top
    have nB := T.n_Number_bottom
    rw [rat_dec] at k
    refine ⟨_, (pss_one (ps_ret (pe_and (pe_callB call_isi (by rfl) T.n_isinstance (by decide +kernel) (pa_cons (pv 1) (pa_cons (pe_glob (v := .ref T.C_Number) (by rfl) T.m_Number rfl) pa_nil))) (pe_and (pe_cmpR op_eq (pe_fld (pv 0) rfl) (pe_fld (pv 1) rfl) (nomark _)) (pe_one (pe_cmpR op_eq (pe_fld (pv 0) rfl) (pe_fld (pv 1) rfl) (nomark _))))))), ?_⟩
    walk_at "rdf"
    refine is_num T ⟨_, hb⟩ ?_
    walk_at "rdf"
    refine r_iteT rfl ?_
    walk_at "rdf"
    refine r_ite (fun e => ?_) (fun e => ?_)
    · rw [e, Bool.true_and] at k
      walk_at "rdf"
      exact k
    · rw [e, Bool.false_and] at k
      exact k
theorem r_eqNum {C : Addr} {H : Hp} {a b : Addr} {x y : Rat} {Q : VK} (ha : NumAt C H a x) (hb : NumAt C H b y) (q : Q (.bl (decide (x = y))) H) : rEqOwn C (spNumEq C) (.ref a) (.ref b) H Q := by
  obtain ⟨dx, h1⟩ := ha
  obtain ⟨dy, h2⟩ := hb
  exact ⟨a, b, dx, dy, _, _, rfl, rfl, h1, h2, a, b, x, y, rfl, ⟨dx, h1⟩, ⟨dy, h2⟩, _, rfl, q⟩
theorem r_neNum {C : Addr} {H : Hp} {a b : Addr} {x y : Rat} {Q : VK} (ha : NumAt C H a x) (hb : NumAt C H b y) (q : Q (.bl (!decide (x = y))) H) : rNeOwn C (spNumEq C) (.ref a) (.ref b) H Q := by
  obtain ⟨dx, h1⟩ := ha
  obtain ⟨dy, h2⟩ := hb
  exact ⟨a, b, dx, dy, _, _, rfl, rfl, h1, h2, a, b, x, y, rfl, ⟨dx, h1⟩, ⟨dy, h2⟩, _, rfl, q⟩
end
end My

namespace My
open PySem L2
section
variable {σ : L2.St} {H : Hp} {Q : VK} {v x y : V} {te ta to ti : TE} {tr : TA} {K : PySem.W.Frag} {nx : L2.St → Hp → Prop} {rt : VK} {bk ct : L2.St → Hp → Prop}
theorem r_par {i j : Nat} (q : tr σ H fun vs H1 => ∃ v w, vs = [v, w] ∧ nx ((σ.set i (some v)).set j (some w)) H1) : tPar i j tr ⟨nx, rt, bk, ct⟩ σ H := q
theorem r_two {P : V → V → Prop} (q : P x y) : ∃ v w, [x, y] = [v, w] ∧ P v w := ⟨x, y, rfl, q⟩
theorem r_m1 {r : V → List V → Hp → VK → Prop} (q : to σ H fun x H1 => (∃ a, x = .str a) ∧ te σ H1 fun y H2 => r x [y] H2 Q) : tM1 r to te σ H Q := q
theorem r_isStr {a : Str} {P : Prop} (q : P) : (∃ b, V.str a = .str b) ∧ P := ⟨⟨a, rfl⟩, q⟩
theorem r_inT {t : Addr} {xs : List V} {b : Bool} (h : H t = some (.tup xs)) (f : flatV x = true) (fs : xs.all flatV = true) (e : inV x xs = b) (q : Q (.bl b) H) : rIn K false x (.ref t) H Q := ⟨t, xs, rfl, .inr (SqT.of h), f, fs, by
  subst e
  exact q⟩
theorem r_notInT {t : Addr} {xs : List V} {b : Bool} (h : H t = some (.tup xs)) (f : flatV x = true) (fs : xs.all flatV = true) (e : inV x xs = b) (q : Q (.bl (!b)) H) : rIn K true x (.ref t) H Q := ⟨t, xs, rfl, .inr (SqT.of h), f, fs, by
  subst e
  exact q⟩
theorem r_isN {P : V → Hp → Prop} {b : Bool} (e : decide (x = V.non) = b) (q : P (.bl b) H) : V.non = V.non ∧ P (.bl (decide (x = V.non))) H := ⟨rfl, by rw [e]; exact q⟩
theorem r_lcT {tl : TE} {g : TG} {tt : TT} {vs : List Nat} (q : tl σ H fun x H1 => ∃ a, x = .ref a ∧ (∃ xs, SqT K H1 a xs) ∧ ∀ D, H1 D = none → ∃ W : Nat → Nat → Hp → Prop, (∃ m, W 0 m (upd H1 D (.lst []))) ∧ ∀ i m H, W i m H →
    ((Itt K a).stop i H ∧ Q (.ref D) H) ∨ ((Itt K a).go i H ∧ ∃ Nx : Hp → Prop, (∀ H', Nx H' → ∃ m', m' < m ∧ W (i + 1) m' H') ∧ ∀ x H', (Itt K a).yld i H x H' → g x (wipe σ vs) H' fun σ2 H2 => wipe σ2 vs = wipe σ vs ∧ tt σ2 H2 fun b H3 =>
      if b = true then te σ2 H3 fun y H4 => ∃ acc, H4 D = some (.lst acc) ∧ acc.length < sizeLine ∧ Nx (upd H4 D (.lst (acc ++ [y]))) else Nx H3)) : tLc (iTup K tl) g tt te vs σ H Q := q
theorem r_rng2 {g : TG} {tb : TS} {D : Ends} (q : tr σ H fun vs H1 => ∃ i j : Int, vs = [.int i, .int j] ∧ (-(2 ^ 62) ≤ i ∧ i < 2 ^ 62 ∧ -(2 ^ 62) ≤ j ∧ j < 2 ^ 62) ∧ ∃ W : Nat → Nat → L2.St → Hp → Prop, (∃ m, W 0 m σ H1) ∧ ∀ k m σ H, W k m σ H →
    ((Itr i (j - i).toNat).stop k H ∧ D.nx σ H) ∨ ((Itr i (j - i).toNat).go k H ∧ ∃ N : L2.St → Hp → Prop, (∀ σ' H', N σ' H' → ∃ m', m' < m ∧ W (k + 1) m' σ' H') ∧ ∀ x H', (Itr i (j - i).toNat).yld k H x H' → g x σ H' fun σ2 H2 => tb { D with nx := N, ct := N, bk := D.nx } σ2 H2)) : tFor (iRng2 tr) g tb D σ H := q
theorem r_gTup {a : Addr} {xs : List V} {n : Nat} {t : TGs} {QS : L2.St → Hp → Prop} (h : H a = some (.tup xs)) (l : xs.length = n) (q : t xs σ H QS) : gTup K n t (.ref a) σ H QS := ⟨a, xs, rfl, SqT.of h, l, q⟩
theorem r_gCons {t : TG} {u : TGs} {xs : List V} {QS : L2.St → Hp → Prop} (q : t x σ H fun σ' H' => u xs σ' H' QS) : gCons t u (x :: xs) σ H QS := ⟨x, xs, rfl, q⟩
theorem r_gNil {QS : L2.St → Hp → Prop} (q : QS σ H) : gNil [] σ H QS := ⟨rfl, q⟩
theorem r_aug {i : Nat} {ti : TIp} (q : ∃ x, σ[i]? = some (some x) ∧ te σ H fun y H1 => ti x y H1 fun z H2 => nx (σ.set i (some z)) H2) : tAug i te ti ⟨nx, rt, bk, ct⟩ σ H := q
theorem r_ip {f : Int → Int → Int} {i j : Int} (q : Q (.int (f i j)) H) : ipI f (.int i) (.int j) H Q := ⟨i, j, rfl, rfl, q⟩
theorem r_bits (q : to σ H fun x H1 => ∃ i, x = .int i ∧ Q (.int (Builtin.Int.intBits i : Nat)) H1) : tBits to σ H Q := q
theorem r_dget2 {td ty tx : TE} (q : td σ H fun x H1 => ∃ a, x = .ref a ∧ IsD H1 a ∧ ty σ H1 fun y H2 => tx σ H2 fun z H3 => ∃ o, DGet H3 a y o ∧ Q (o.getD z) H3) : tDGet2 td ty tx σ H Q := q
theorem r_rng1 {g : TG} {tb : TS} {D : Ends} (q : tr σ H fun vs H1 => ∃ j : Int, vs = [.int j] ∧ -(2 ^ 62) ≤ j ∧ j < 2 ^ 62 ∧ ∃ W : Nat → Nat → L2.St → Hp → Prop, (∃ m, W 0 m σ H1) ∧ ∀ k m σ H, W k m σ H →
    ((Itr 0 j.toNat).stop k H ∧ D.nx σ H) ∨ ((Itr 0 j.toNat).go k H ∧ ∃ N : L2.St → Hp → Prop, (∀ σ' H', N σ' H' → ∃ m', m' < m ∧ W (k + 1) m' σ' H') ∧ ∀ x H', (Itr 0 j.toNat).yld k H x H' → g x σ H' fun σ2 H2 => tb { D with nx := N, ct := N, bk := D.nx } σ2 H2)) : tFor (iRng1 tr) g tb D σ H := q
end
end My

local macro_rules | `(tactic| walk_at "rd2") => `(tactic| first
  | with_reducible refine My.r_par ?_
  | with_reducible refine My.r_two ?_
  | with_reducible refine My.r_m1 ?_
  | with_reducible refine My.r_isStr ?_
  | with_reducible refine My.r_gCons ?_
  | with_reducible refine My.r_gNil ?_
  | ((with_reducible refine My.r_aug ?_); refine ⟨_, rfl, ?_⟩)
  | with_reducible refine My.r_ip ?_
  | with_reducible refine My.r_bits ?_)
local macro_rules | `(tactic| walk_at "rdg") => `(tactic| (repeat (first | walk_at "rd1" | walk_at "rd2")))

namespace My
open PySem L2
section
variable {σ : L2.St} {H : Hp} {Q : VK} {v x y : V} {te ta to ti td ty tk tv : TE} {K : PySem.W.Frag}
theorem r_disp {trs : List (TE × TE)} (q : ∀ p, H p = none → tPairs trs σ (upd H p (.dK [])) fun ps H2 => H2 p = some (.dK []) ∧ ∃ kvs : List (Key × V), ps = kvs.map (fun kv => (kV kv.1, kv.2)) ∧ kvs.length ≤ 15 ∧ Q (.ref p) (upd H2 p (.dK (mergeK [] kvs)))) : tDisp trs σ H Q := q
theorem r_pair {r : List (TE × TE)} {QP : List (V × V) → Hp → Prop} (q : tk σ H fun x H1 => tv σ H1 fun y H2 => tPairs r σ H2 fun ps H3 => QP ((x, y) :: ps) H3) : tPairs ((tk, tv) :: r) σ H QP := q
theorem r_pair0 {QP : List (V × V) → Hp → Prop} (q : QP [] H) : tPairs [] σ H QP := q
theorem r_dget (q : td σ H fun x H1 => ty σ H1 fun y H2 => ∃ a v, x = .ref a ∧ DGet H2 a y (some v) ∧ Q v H2) : tDGet td ty σ H Q := q
theorem r_din (q : ty σ H fun y H1 => td σ H1 fun x H2 => ∃ a o, x = .ref a ∧ DGet H2 a y o ∧ Q (.bl o.isSome) H2) : tDIn ty td σ H Q := q
theorem Same.dict {H : Hp} {p : Addr} {o1 o2 : HO} (h : H p = none) : Same H (upd (upd H p o1) p o2) := fun b o e => by
  rw [upd_ne (ne_of_none e h), upd_ne (ne_of_none e h)]
  exact e
end
end My

local macro_rules | `(tactic| walk_at "rd3") => `(tactic| first
  | with_reducible refine My.r_pair ?_
  | with_reducible refine My.r_pair0 ?_
  | with_reducible refine My.r_dget ?_
  | with_reducible refine My.r_din ?_)
local macro_rules | `(tactic| walk_at "rdh") => `(tactic| (repeat (first | walk_at "rd1" | walk_at "rd2" | walk_at "rd3")))

namespace My
open PySem L2
section
variable {σ : L2.St} {H : Hp} {Q : VK} {v x y : V} {te ta to ti : TE} {tr : TA} {K : PySem.W.Frag} {nx : L2.St → Hp → Prop} {rt : VK} {bk ct : L2.St → Hp → Prop}
theorem r_lcL {tl : TE} {g : TG} {tt : TT} {vs : List Nat} (q : tl σ H fun x H1 => ∃ a, x = .ref a ∧ (∃ xs, SqL K H1 a xs) ∧ ∀ D, H1 D = none → ∃ W : Nat → Nat → Hp → Prop, (∃ m, W 0 m (upd H1 D (.lst []))) ∧ ∀ i m H, W i m H →
    ((Itl K a).stop i H ∧ Q (.ref D) H) ∨ ((Itl K a).go i H ∧ ∃ Nx : Hp → Prop, (∀ H', Nx H' → ∃ m', m' < m ∧ W (i + 1) m' H') ∧ ∀ x H', (Itl K a).yld i H x H' → g x (wipe σ vs) H' fun σ2 H2 => wipe σ2 vs = wipe σ vs ∧ tt σ2 H2 fun b H3 =>
      if b = true then te σ2 H3 fun y H4 => ∃ acc, H4 D = some (.lst acc) ∧ acc.length < sizeLine ∧ Nx (upd H4 D (.lst (acc ++ [y]))) else Nx H3)) : tLc (iList K tl) g tt te vs σ H Q := q
theorem r_forL {tl : TE} {g : TG} {tb : TS} {D : Ends} (q : tl σ H fun x H1 => ∃ a, x = .ref a ∧ (∃ xs, SqL K H1 a xs) ∧ ∃ W : Nat → Nat → L2.St → Hp → Prop, (∃ m, W 0 m σ H1) ∧ ∀ i m σ H, W i m σ H →
    ((Itl K a).stop i H ∧ D.nx σ H) ∨ ((Itl K a).go i H ∧ ∃ N : L2.St → Hp → Prop, (∀ σ' H', N σ' H' → ∃ m', m' < m ∧ W (i + 1) m' σ' H') ∧ ∀ x H', (Itl K a).yld i H x H' → g x σ H' fun σ2 H2 => tb { D with nx := N, ct := N, bk := D.nx } σ2 H2)) : tFor (iList K tl) g tb D σ H := q
theorem r_cat {l b : Addr} {xs zs : List V} (h1 : H l = some (.lst xs)) (h2 : H b = some (.lst zs)) (n : xs.length + zs.length ≤ 100000) (q : ∀ p, H p = none → Q (.ref p) (upd H p (.lst (xs ++ zs)))) : rCat (.ref l) (.ref b) H Q := ⟨l, b, xs, zs, rfl, rfl, h1, h2, Nat.le_trans n (by decide), q⟩
theorem r_iteR {A B : Prop} {k : Bool} (b : B) (h : k = true → B → A) : if k = true then A else B := by
  cases k with
  | true => exact h rfl b
  | false => exact b
theorem r_inAny {t : Addr} {xs : List V} {b : Bool} {n : Bool} (h : H t = some (.tup xs)) (f : flatV x = true) (fs : xs.all flatV = true) (e : inV x xs = b) (q : Q (.bl (if n then !b else b)) H) : rIn K n x (.ref t) H Q := ⟨t, xs, rfl, .inr (SqT.of h), f, fs, by
  subst e
  cases n <;> exact q⟩
end
end My
namespace My
open PySem L2
theorem r_cut {t u : TS} {σ : L2.St} {H : Hp} {nx : L2.St → Hp → Prop} {rt : VK} {bk ct : L2.St → Hp → Prop} (Mid : L2.St → Hp → Prop) (h1 : t ⟨Mid, rt, bk, ct⟩ σ H) (h2 : ∀ σ' H', Mid σ' H' → u ⟨nx, rt, bk, ct⟩ σ' H') : C8.tCut t u ⟨nx, rt, bk, ct⟩ σ H := ⟨Mid, h1, h2⟩
end My

namespace My
open PySem L2 TL
section
variable {P : Program} {w : World} {K : PySem.W.Frag} {mg : Str → Option Value} {base : Heap}
section
variable {σ : L2.St} {H : Hp} {Q : VK} {x : V} {to te : TE}
theorem r_m0 {r : V → List V → Hp → VK → Prop} (q : to σ H fun x H1 => (∃ a, x = .str a) ∧ r x [] H1 Q) : tM0 r to σ H Q := q
theorem r_tj {t : TE} {ts : List TE} {acc : Str} {QJ : Str → Hp → Prop} (q : t σ H fun x H1 => ∃ y : Str, x = .str y ∧ (acc ++ y).length ≤ sizeLine ∧ tJs ts (acc ++ y) σ H1 QJ) : tJs (t :: ts) acc σ H QJ := q
theorem r_tj0 {acc : Str} {QJ : Str → Hp → Prop} (q : QJ acc H) : tJs [] acc σ H QJ := q
theorem r_fmt (q : te σ H fun x H1 => (∃ y : Str, x = .str y ∧ y.length ≤ sizeLine ∧ Q (.str y) H1) ∨ ∃ i : Int, x = .int i ∧ i.natAbs.log2 < 1920 ∧ Q (.str (toString i)) H1) : tFmt te σ H Q := q
theorem r_str {z : Str} {P : Prop} (q : P) : (∃ a, V.str z = .str a) ∧ P := ⟨⟨z, rfl⟩, q⟩
end
theorem bits1920 {i : Int} (h : i.natAbs < 2 ^ 900) : i.natAbs.log2 < 1920 := Nat.lt_of_lt_of_le (PySem.Flt.log2_lt_of (by decide) h) (by decide)
theorem TI_short {i : Int} (h : i.natAbs < 2 ^ 900) : (TI i).length ≤ 2000 := Nat.le_trans (PyProof.Rows.int_text_len_1921 (bits1920 h)) (by decide)
def spStr (C : Addr) : Sp := fun vs H Q _ => ∃ (p : Addr) (x : Rat), vs = [.ref p] ∧ NumAt C H p x ∧ Bd 900 x ∧ Q (.str (NText x)) H
theorem ok_Number_str (T : Txt w K mg) : FnOk P w K mg base CX0 1 T.f_Number_str T.fd_Number_str ["self"] (spStr T.C_Number) := by
  refine T.F_Number_str.ok sc_Number_str (fun vs H Q E h => ?_) (fun cdv A outer s H vs Q E hr h => ?_)
  · obtain ⟨p, x, rfl, _⟩ := h
    rfl
  · obtain ⟨p, x, rfl, ⟨dx, hp⟩, bx, k⟩ := h
    have cN := T.c_Number
    have nT := T.n_Number_top
    have nB := T.n_Number_bottom
    refine ⟨_, (pss_cons (ps_if (pt_cmpR op_eq (pe_fld (pv 0) rfl) pe_int (nomark _))
  (pss_one (ps_ret (pe_callTy call_str_int (by rfl) T.n_str (by decide +kernel) (pa_cons (pe_fld (pv 0) rfl) pa_nil))))
  pss_nil)
 (pss_one (ps_ret (pe_joined (.cons (pe_fmt (pe_fld (pv 0) rfl)) (.cons pe_str (.cons (pe_fmt (pe_fld (pv 0) rfl)) .nil))))))), ?_⟩
    have bn := bx.1
    have bd := bd_den bx
    walk_at "rdf"
    refine r_ite (fun e => ?_) (fun e => ?_)
    · have e' : x.den = 1 := by have := of_decide_eq_true e; omega
      walk_at "rdf"
      refine ⟨_, rfl, bits1920 bn, ?_⟩
      have : NText x = TI x.num := if_pos e'
      rw [this] at k
      exact k
    · have e' : x.den ≠ 1 := by have := of_decide_eq_false e; omega
      have nt : NText x = TI x.num ++ "/" ++ TI (x.den : Int) := if_neg e'
      have l1 := TI_short bn
      have l2 := TI_short bd
      have ll : (TI x.num ++ "/" ++ TI (x.den : Int)).length ≤ 5000 := by
        rw [← nt, NText_len, if_neg e', ← nat_signL, ← TI_len, ← TI_len]
        omega
      walk_at "rdf"
      have sl : sizeLine = 16777216 := rfl
      have e1 : Str.empty ++ Str.ofString (toString x.num) = TI x.num := ext_tl (by rw [tl_append]; rfl)
      have l3 : (TI x.num ++ ("/" : Str)).length ≤ 3000 := by
        rw [len_tl, tl_append, List.length_append, ← len_tl]
        have : (tl ("/" : Str)).length = 1 := rfl
        omega
      refine r_tj (r_fmt ?_)
      walk_at "rdf"
      refine .inr ⟨_, rfl, bits1920 bn, ?_⟩
      refine ⟨_, rfl, by rw [e1]; omega, ?_⟩
      rw [e1]
      refine r_tj ?_
      walk_at "rdf"
      refine ⟨_, rfl, by omega, ?_⟩
      refine r_tj (r_fmt ?_)
      walk_at "rdf"
      refine .inr ⟨_, rfl, bits1920 bd, ?_⟩
      refine ⟨_, rfl, by show (TI x.num ++ "/" ++ TI (x.den : Int)).length ≤ sizeLine; omega, ?_⟩
      refine r_tj0 ?_
      rw [nt] at k
      exact k
def spWholeT : Sp := fun vs H Q _ => ∃ i : Int, vs = [.str (TI i)] ∧ (TI i).length ≤ 640 ∧ Q (.int i) H
theorem ok_whole (T : Txt w K mg) : FnOk P w K mg base CX0 1 T.f_whole T.fd_whole ["text"] spWholeT := by
  refine T.F_whole.ok sc_whole (fun vs H Q E h => ?_) (fun cdv A outer s H vs Q E hr h => ?_)
  · obtain ⟨i, rfl, _⟩ := h
    rfl
  · obtain ⟨i, rfl, hl, k⟩ := h
    refine ⟨_, (pss_cons (ps_set (i := 1) sc_whole.nd rfl (Or.inl rfl) (pe_m1 PySem.F.slot_str_removeprefix PySem.F.type_str_removeprefix mt_removeprefix (pv 0) pe_str))
 (pss_cons (ps_if (PW.pt (pw_or (pt_not (pt_val (pe_m0 PySem.F.slot_str_isascii PySem.F.type_str_isascii mt_isascii (pv 1)))) (pw_or1 (pt_not (pt_val (pe_m0 PySem.F.slot_str_isdigit PySem.F.type_str_isdigit mt_isdigit (pv 1)))))))
  (pss_one (ps_ret pe_non))
  pss_nil)
 (pss_one (ps_ret (pe_callTy call_int_str (by rfl) T.n_int (by decide +kernel) (pa_cons (pv 0) pa_nil)))))), ?_⟩
    walk_at "rdg"
    refine ⟨_, _, rfl, rfl, Nat.le_trans hl (by decide), ?_⟩
    walk_at "rdg"
    refine r_m0 ?_
    walk_at "rdg"
    refine ⟨_, rfl, rfl, trivial, ?_⟩
    walk_at "rdg"
    rw [ascii_off]
    refine r_iteF rfl ?_
    walk_at "rdg"
    refine r_m0 ?_
    walk_at "rdg"
    refine ⟨_, rfl, rfl, trivial, ?_⟩
    walk_at "rdg"
    rw [digits_off]
    refine r_iteF rfl ?_
    walk_at "rdg"
    exact ⟨_, i, rfl, int_TI (by omega), hl, k⟩
theorem is_str {w : World} {K : PySem.W.Frag} {H : Hp} {z : Str} {Q : VK} (q : Q (.bl true) H) : rIsi K [.str z, .ty "str"] H Q :=
  ⟨.str z, .ty "str", .type "str", .type "str", true, rfl, .ty "str", .base (.str z), kit_ty (by decide +kernel), q⟩
/-- str(number), as it is read -/
theorem rd_strOwn {C : Addr} {H : Hp} {p : Addr} {x : Rat} {Q : VK} (hp : NumAt C H p x) (bx : Bd 900 x) (q : Q (.str (NText x)) H) : rStrOwn C (spStr C) [.ref p] H Q := by
  obtain ⟨dx, e⟩ := hp
  exact ⟨p, dx, _, rfl, e, p, x, rfl, ⟨dx, e⟩, bx, _, rfl, q⟩
theorem r_neS {H : Hp} {Q : VK} {i j : Str} (q : Q (.bl (!decide (i = j))) H) : rNe (.str i) (.str j) H Q := ⟨rfl, by
  have e : decide (V.str i = V.str j) = decide (i = j) := by simp
  rw [e]; exact q⟩
def spRead (C : Addr) : Sp := fun vs H Q _ => ∃ x : Rat, vs = [.str (NText x)] ∧ (NText x).length ≤ 60 ∧ Bd 900 x ∧ ∀ (r : Addr) (H' : Hp), Same H H' → NumAt C H' r x → Q (.ref r) H'
theorem ok_read_number (T : Txt w K mg) : FnOk P w K mg base CX0 4 T.f_read_number T.fd_read_number ["text"] (spRead T.C_Number) := by
  refine T.F_read_number.ok sc_read_number (fun vs H Q E h => ?_) (fun cdv A outer s H vs Q E hr h => ?_)
  · obtain ⟨x, rfl, _⟩ := h
    rfl
  · obtain ⟨x, rfl, hl, bx, k⟩ := h
    refine ⟨_, (pss_cons (ps_if (PW.pt (pw_or (pt_not (pt_val (pe_callB call_isi (by rfl) T.n_isinstance (by decide +kernel) (pa_cons (pv 0) (pa_cons (pe_bltn (v := .ty "str") (by rfl) T.n_str (by decide +kernel) rfl) pa_nil))))) (pw_or1 (pt_cmpR op_gt (pe_callB call_len_str (by rfl) T.n_len PySem.boot_len (pa_cons (pv 0) pa_nil)) (pe_glob (by rfl) T.m_LONGEST_TEXT T.r_LONGEST_TEXT) (nomark _)))))
  (pss_one ps_never)
  pss_nil)
 (pss_cons (ps_asg (pe_partition (pv 0) pe_str) (pg_tup rfl (pgs_cons (pg_name (i := 1) sc_read_number.nd rfl (Or.inl rfl)) (pgs_cons (pg_name (i := 2) sc_read_number.nd rfl (Or.inl rfl)) (pgs_cons (pg_name (i := 3) sc_read_number.nd rfl (Or.inl rfl)) pgs_nil)))))
 (pss_cons (ps_set (i := 4) sc_read_number.nd rfl (Or.inl rfl) (pe_call (ok_whole T) (hr.mono (by decide)) (by rfl) T.m_whole T.F_whole.kp T.b_whole .nil pass0 (pa_cons (pv 1) pa_nil)))
 (pss_cons (ps_set (i := 5) sc_read_number.nd rfl (Or.inl rfl) (pe_ifExp (pt_truth (pv 2) (by intro _; rfl)) (pe_call (ok_whole T) (hr.mono (by decide)) (by rfl) T.m_whole T.F_whole.kp T.b_whole .nil pass0 (pa_cons (pv 3) pa_nil)) pe_int))
 (pss_cons (ps_if (PW.pt (pw_or (pt_cmpR op_isN (pv 4) pe_non (nomark _)) (pw_or (pt_cmpR op_isN (pv 5) pe_non (nomark _)) (pw_or1 (pt_cmpR op_eq (pv 5) pe_int (nomark _))))))
  (pss_one ps_never)
  pss_nil)
 (pss_cons (ps_set (i := 6) sc_read_number.nd rfl (Or.inl rfl) (pe_make T.mk_Number (ok_Number_init T) (hr.mono (by decide)) (by rfl) T.m_Number T.b_Number_init2 .nil pass0 (pa_cons (pv 4) (pa_cons (pv 5) pa_nil))))
 (pss_cons (ps_if (pt_cmpR op_ne (pe_callTy (call_strOwn (ok_Number_str T) T.me_Number_str.at_ T.me_Number_str.fn T.b_Number_str (hr.mono (by decide))) (by rfl) T.n_str (by decide +kernel) (pa_cons (pv 6) pa_nil)) (pv 0) (nomark _))
  (pss_one ps_never)
  pss_nil)
 (pss_one (ps_ret (pv 6)))))))))), ?_⟩
    have sl : sizeLine = 16777216 := rfl
    have bd9 : ((x.den : Int)).natAbs < 2 ^ 9000 := Nat.lt_of_lt_of_le (bd_den bx) (Nat.pow_le_pow_right (by decide) (by decide))
    have lens := NText_len x
    walk_at "rdg"
    refine is_str (w := w) ?_
    walk_at "rdg"
    refine r_iteF rfl ?_
    walk_at "rdg"
    refine ⟨_, rfl, by omega, ?_⟩
    walk_at "rdg"
    refine r_iteF (decide_eq_false (by omega)) ?_
    walk_at "rdg"
    refine ⟨_, _, rfl, rfl, rfl, by omega, ?_⟩
    by_cases e : x.den = 1
    · rw [part_none e]
      rw [if_pos e, ← TI_len] at lens
      refine fun p hp => ?_
      walk_at "rdg"
      refine r_gTup upd_same rfl ?_
      walk_at "rdg"
      have sp := Same.new (o := .tup [.str (TI x.num), .str Str.empty, .str Str.empty]) hp
      refine ⟨x.num, rfl, by omega, ?_⟩
      walk_at "rdg"
      refine ⟨false, ⟨show Str.empty.length ≤ sizeLine by decide, rfl⟩, ?_⟩
      refine r_iteF rfl ?_
      walk_at "rdg"
      refine ⟨rfl, ?_⟩
      walk_at "rdg"
      refine r_iteF (by simp) ?_
      walk_at "rdg"
      refine ⟨rfl, ?_⟩
      walk_at "rdg"
      refine r_iteF (by simp) ?_
      walk_at "rdg"
      refine r_iteF (by decide) ?_
      walk_at "rdg"
      refine mk_num (by decide) (by decide) fun r H1 s1 _ h1 => ?_
      have ex : Rat.divInt x.num 1 = x := by
        conv => rhs; rw [← Rat.num_divInt_den x, e]
        rfl
      rw [ex] at h1
      walk_at "rdg"
      refine rd_strOwn h1 bx ?_
      walk_at "rdg"
      refine r_neS ?_
      rw [decide_eq_true rfl]
      walk_at "rdg"
      refine r_iteF rfl ?_
      walk_at "rdg"
      exact k r H1 (sp.trans s1) h1
    · rw [part_some e]
      rw [if_neg e, ← TI_len, ← nat_signL, ← TI_len] at lens
      refine fun p hp => ?_
      walk_at "rdg"
      refine r_gTup upd_same rfl ?_
      walk_at "rdg"
      have sp := Same.new (o := .tup [.str (TI x.num), .str ("/" : Str), .str (TI (x.den : Int))]) hp
      refine ⟨x.num, rfl, by omega, ?_⟩
      walk_at "rdg"
      refine ⟨true, ⟨show ("/" : Str).length ≤ sizeLine by decide, rfl⟩, ?_⟩
      refine r_iteT rfl ?_
      walk_at "rdg"
      refine ⟨(x.den : Int), rfl, by omega, ?_⟩
      walk_at "rdg"
      refine ⟨rfl, ?_⟩
      walk_at "rdg"
      refine r_iteF (by simp) ?_
      walk_at "rdg"
      refine ⟨rfl, ?_⟩
      walk_at "rdg"
      refine r_iteF (by simp) ?_
      walk_at "rdg"
      refine r_iteF (decide_eq_false (den_ne x)) ?_
      walk_at "rdg"
      refine mk_num (den_ne x) bd9 fun r H1 s1 _ h1 => ?_
      rw [Rat.num_divInt_den] at h1
      walk_at "rdg"
      refine rd_strOwn h1 bx ?_
      walk_at "rdg"
      refine r_neS ?_
      rw [decide_eq_true rfl]
      walk_at "rdg"
      refine r_iteF rfl ?_
      walk_at "rdg"
      exact k r H1 (sp.trans s1) h1
end
end My

namespace My
open PySem L2
section
variable {P : Program} {w : World} {K : PySem.W.Frag} {mg : Str → Option Value} {base : Heap}
/-! ### a well -/
def WellAt (H : Hp) (d : Addr) : Prop := ∃ a b n : Int, H d = some (.lst [.int a, .int b, .int n])
theorem WellAt.same {H H' : Hp} {d : Addr} (s : Same H H') (h : WellAt H d) : WellAt H' d := let ⟨a, b, n, h1⟩ := h; ⟨a, b, n, s _ _ h1⟩
/-! heaps but for one place -/
def Out (d : Addr) (H H' : Hp) : Prop := ∀ b o, b ≠ d → H b = some o → H' b = some o
theorem Out.refl (d : Addr) (H : Hp) : Out d H H := fun _ _ _ h => h
theorem Out.trans {d : Addr} {H H1 H2 : Hp} (a : Out d H H1) (b : Out d H1 H2) : Out d H H2 := fun x o h1 h => b x o h1 (a x o h1 h)
theorem Out.of {d : Addr} {H H' : Hp} (a : Same H H') : Out d H H' := fun x o _ h => a x o h
theorem Out.keep {H H' : Hp} {d b : Addr} {o : HO} (s : Out d H H') (hd : WellAt H d) (h : H b = some o) (hn : ∀ xs, o ≠ .lst xs) : H' b = some o := by
  obtain ⟨_, _, _, h1⟩ := hd
  exact s b o (ne_of h h1 (hn _)) h
theorem well_ne {H : Hp} {d p : Addr} (h : WellAt H d) (hp : H p = none) : p ≠ d := by
  obtain ⟨_, _, _, h1⟩ := h
  exact (ne_of_none h1 hp).symm
theorem well_ix {ns : List Int} {k : Nat} (h : (k : Int) < ((ns.map V.int).length : Int)) : ∃ c : Int, atI (ns.map V.int) (k : Int) = some (.int c) := by
  have hk : k < ns.length := by rw [List.length_map] at h; omega
  exact ⟨ns[k], atI_nat (by rw [List.getElem?_map, List.getElem?_eq_getElem hk]; rfl)⟩
def spWell (K : PySem.W.Frag) : Sp := fun vs H Q _ => ∃ (a : Addr) (ns : List Int) (k : Nat), vs = [.ref a, .int k] ∧ SqL K H a (ns.map V.int) ∧ ∀ (d : Addr) (H' : Hp), Same H H' → H d = none → WellAt H' d → Q (.ref d) H'
theorem ok_l_well (T : Txt w K mg) : FnOk P w K mg base CX0 1 T.f_l_well T.fd_l_well ["_law_script", "_law_k"] (spWell K) := by
  refine T.F_l_well.ok sc_l_well (fun vs H Q E h => ?_) (fun cdv A outer s H vs Q E hr h => ?_)
  · obtain ⟨a, ns, j, rfl, _⟩ := h
    rfl
  · obtain ⟨a, ns, j, rfl, hS, k⟩ := h
    refine ⟨_, (pss_cons (ps_set (i := 2) sc_l_well.nd rfl (Or.inl rfl) pe_int)
 (pss_cons (ps_if (pt_cmpR op_lt (pv 1) (pe_callB call_len_seq (by rfl) T.n_len PySem.boot_len (pa_cons (pv 0) pa_nil)) (nomark _))
  (pss_one (ps_set (i := 2) sc_l_well.nd rfl (Or.inl rfl) (pe_ix ix_list (pv 0) (pv 1) (fun _ _ => rfl))))
  pss_nil)
 (pss_one (ps_ret (pe_lst (pa_cons (pe_op op_mul (pv 2) (pe_callTy call_int1 (by rfl) T.n_int (by decide +kernel) (pa_cons (pe_cmpR op_ge (pv 2) (pe_op op_pow pe_int pe_int) (nomark _)) pa_nil))) (pa_cons (pe_op op_add (pe_op op_mod (pv 2) pe_int) (pe_op op_mul pe_int (pv 1))) (pa_cons pe_int pa_nil)))))))), ?_⟩
    walk_at "rdg"
    refine ⟨a, _, rfl, .inl hS, ?_⟩
    walk_at "rdg"
    refine r_ite (fun e => ?_) (fun e => ?_)
    · obtain ⟨c, hc⟩ := well_ix (of_decide_eq_true e)
      walk_at "rdg"
      refine ⟨a, _, _, _, rfl, rfl, hS, hc, ?_⟩
      walk_at "rdg"
      refine .inr ⟨_, rfl, ?_⟩
      refine r_I (.inr (by split <;> decide)) ?_
      walk_at "rdg"
      refine r_new (by show 3 ≤ 1000; decide) fun d hd => ?_
      exact k d _ (Same.new hd) hd ⟨_, _, _, upd_same⟩
    · walk_at "rdg"
      refine .inr ⟨_, rfl, ?_⟩
      refine r_I (.inr (by split <;> decide)) ?_
      walk_at "rdg"
      refine r_new (by show 3 ≤ 1000; decide) fun d hd => ?_
      exact k d _ (Same.new hd) hd ⟨_, _, _, upd_same⟩
/-! ### a take -/
def spTake : Sp := fun vs H Q _ => ∃ (d : Addr) (v : Int), vs = [.ref d, .int v] ∧ WellAt H d ∧ 0 < v ∧ v.natAbs < 2 ^ 9000 ∧ ∀ (r : Int) (H' : Hp), Out d H H' → WellAt H' d → 0 ≤ r → r < v → Q (.int r) H'
theorem ok_l_take (T : Txt w K mg) : FnOk P w K mg base CX0 1 T.f_l_take T.fd_l_take ["_law_well_here", "_law_top"] spTake := by
  refine T.F_l_take.ok sc_l_take (fun vs H Q E h => ?_) (fun cdv A outer s H vs Q E hr h => ?_)
  · obtain ⟨d, v, rfl, _⟩ := h
    rfl
  · obtain ⟨d, v, rfl, ⟨a, b, n, hd⟩, v0, vb, k⟩ := h
    refine ⟨_, (pss_cons (ps_if (pt_cmpR op_gt (pe_ix ix_list (pv 0) pe_int (fun _ _ => rfl)) pe_int (nomark _))
  (pss_cons (ps_set (i := 2) sc_l_take.nd rfl (Or.inl rfl) (pe_op op_mod (pe_ix ix_list (pv 0) pe_int (fun _ _ => rfl)) (pv 1)))
 (pss_cons (ps_asg (pe_op op_fdivW (pe_ix ix_list (pv 0) pe_int (fun _ _ => rfl)) (pv 1)) (pg_sub (pv 0) pe_int set_list))
 (pss_one (ps_ret (pv 2)))))
  pss_nil)
 (pss_cons (ps_asg (pe_op op_add (pe_ix ix_list (pv 0) pe_int (fun _ _ => rfl)) pe_int) (pg_sub (pv 0) pe_int set_list))
 (pss_cons (ps_set (i := 3) sc_l_take.nd rfl (Or.inl rfl) (pe_op op_mod (pe_op op_mul (pe_op op_add (pe_op op_add (pe_ix ix_list (pv 0) pe_int (fun _ _ => rfl)) (pe_op op_mul pe_int (pe_ix ix_list (pv 0) pe_int (fun _ _ => rfl)))) pe_int) pe_int) pe_int))
 (pss_cons (ps_set (i := 3) sc_l_take.nd rfl (Or.inl rfl) (pe_op op_mod (pe_op op_add (pe_op op_mulW (pv 3) (pv 3)) (pe_op op_mul pe_int (pe_ix ix_list (pv 0) pe_int (fun _ _ => rfl)))) pe_int))
 (pss_cons (ps_set (i := 3) sc_l_take.nd rfl (Or.inl rfl) (pe_op op_add (pe_op op_mul (pe_op op_mod (pe_op op_mulW (pv 3) (pe_op op_add (pv 3) pe_int)) pe_int) pe_int) (pv 3)))
 (pss_one (ps_ret (pe_op op_mod (pe_op op_fdiv (pe_op op_mod (pe_op op_mul (pv 3) pe_int) pe_int) pe_int) (pv 1))))))))), ?_⟩
    have pmod : ∀ x : Int, 0 ≤ x % v ∧ x % v < v := fun x => ⟨Int.emod_nonneg _ (by omega), Int.emod_lt_of_pos _ v0⟩
    have o1 : ∀ u : HO, Out d H (upd H d u) := fun u b o h1 h => by rw [upd_ne h1]; exact h
    walk_at "rdg"
    refine r_ixL hd (atI_nat (j := 0) rfl) ?_
    walk_at "rdg"
    refine r_ite (fun e => ?_) (fun e => ?_)
    · walk_at "rdg"
      refine r_ixL hd (atI_nat (j := 0) rfl) ?_
      walk_at "rdg"
      refine r_I v0 ?_
      walk_at "rdg"
      refine r_ixL hd (atI_nat (j := 0) rfl) ?_
      walk_at "rdg"
      refine r_I (wide_div v0 vb (by decide) (Nat.le_refl _)) ?_
      walk_at "rdg"
      refine r_setL hd (j := 0) rfl ?_
      walk_at "rdg"
      exact k _ _ (o1 _) ⟨_, _, _, upd_same⟩ (pmod _).1 (pmod _).2
    · walk_at "rdg"
      refine r_ixL hd (atI_nat (j := 2) rfl) ?_
      walk_at "rdg"
      refine r_setL hd (j := 2) rfl ?_
      have hd1 : (upd H d (.lst [.int a, .int b, .int (n + 1)])) d = some (.lst [.int a, .int b, .int (n + 1)]) := upd_same
      have o2 := o1 (.lst [.int a, .int b, .int (n + 1)])
      show (_ : TS) _ _ (upd H d (.lst [.int a, .int b, .int (n + 1)]))
      generalize (upd H d (.lst [.int a, .int b, .int (n + 1)])) = H1 at *
      walk_at "rdg"
      refine r_ixL hd1 (atI_nat (j := 1) rfl) ?_
      walk_at "rdg"
      refine r_ixL hd1 (atI_nat (j := 2) rfl) ?_
      walk_at "rdg"
      have m1 : ∀ x : Int, (x % 2147483647).natAbs < 2 ^ 31 := fun x => by have := @Int.emod_nonneg x 2147483647 (by decide); have := Int.emod_lt_of_pos x (show (0 : Int) < 2147483647 by decide); omega
      have m2 : ∀ x : Int, (x % 2147483587).natAbs < 2 ^ 31 := fun x => by have := @Int.emod_nonneg x 2147483587 (by decide); have := Int.emod_lt_of_pos x (show (0 : Int) < 2147483587 by decide); omega
      have m3 : ∀ x : Int, (x % 2147483587 + 16807).natAbs < 2 ^ 32 := fun x => by have := @Int.emod_nonneg x 2147483587 (by decide); have := Int.emod_lt_of_pos x (show (0 : Int) < 2147483587 by decide); omega
      refine r_I (wide_mul (a := 31) (b := 31) (m1 _) (m1 _) (by decide) (by decide) (by decide)) ?_
      walk_at "rdg"
      refine r_ixL hd1 (atI_nat (j := 2) rfl) ?_
      walk_at "rdg"
      refine r_I (wide_mul (a := 31) (b := 32) (m2 _) (m3 _) (by decide) (by decide) (by decide)) ?_
      walk_at "rdg"
      refine r_I v0 ?_
      exact k _ _ o2 ⟨_, _, _, hd1⟩ (pmod _).1 (pmod _).2
/-- a take, as it is read -/
theorem rd_take {H : Hp} {d : Addr} {v : Int} {Q : VK} {E : XK} (dk : WellAt H d) (h0 : 0 < v) (h1 : v.natAbs < 2 ^ 200) (q : ∀ (r : Int) (H' : Hp), Out d H H' → WellAt H' d → 0 ≤ r → r < v → Q (.int r) H') : spTake ([V.ref d, V.int v] ++ []) H Q E :=
  ⟨d, v, rfl, dk, h0, Nat.lt_of_lt_of_le h1 (Nat.pow_le_pow_right (by decide) (by decide)), q⟩
/-! ### a power of ten -/
def spTenL : Sp := fun vs H Q _ => ∃ p : Int, vs = [.int p] ∧ p.natAbs < 2 ^ 60 ∧ Q (.int (10 ^ p.toNat)) H
theorem ok_l_ten (T : Txt w K mg) : FnOk P w K mg base CX0 1 T.f_l_ten T.fd_l_ten ["_law_power"] spTenL := by
  refine T.F_l_ten.ok sc_l_ten (fun vs H Q E h => ?_) (fun cdv A outer s H vs Q E hr h => ?_)
  · obtain ⟨p, rfl, _⟩ := h
    rfl
  · obtain ⟨p, rfl, hp, k⟩ := h
    refine ⟨_, (pss_cons (ps_set (i := 1) sc_l_ten.nd rfl (Or.inl rfl) pe_int)
 (pss_cons (ps_for PassesOwn.never rfl (pi_range1 rfl T.n_range (pa_cons (pv 0) pa_nil)) (pg_name (i := 2) sc_l_ten.nd rfl (Or.inl rfl))
  (pss_one (ps_set (i := 1) sc_l_ten.nd rfl (Or.inl rfl) (pe_op op_mul (pv 1) pe_int))))
 (pss_one (ps_ret (pv 1))))), ?_⟩
    walk_at "rdg"
    refine r_rng1 ?_
    walk_at "rdg"
    refine ⟨_, rfl, by omega, by omega, ?_⟩
    refine for_range (lo := 0) (n := p.toNat) (fun i σ H' => ∃ v : Option V, σ = [some (.int p), some (.int (10 ^ i)), v] ∧ H' = H) ⟨none, rfl, rfl⟩ ?_ ?_
    · rintro i σ H' hi ⟨v, rfl, rfl⟩
      walk_at "rdg"
      refine ⟨some (.int (0 + (i : Int))), ?_, rfl⟩
      rw [Int.pow_succ]
      rfl
    · rintro σ H' ⟨v, rfl, rfl⟩
      walk_at "rdg"
      exact k
end
end My

namespace My
open PySem L2
section
variable {P : Program} {w : World} {K : PySem.W.Frag} {mg : Str → Option Value} {base : Heap}
theorem int_of {v : V} {xs : List Int} (h : v ∈ xs.map V.int) : ∃ i, v = .int i ∧ i ∈ xs := by
  obtain ⟨i, hi, rfl⟩ := List.mem_map.mp h
  exact ⟨i, rfl, hi⟩
theorem atI_int {xs : List Int} {r : Int} (h0 : 0 ≤ r) (h1 : r < (xs.length : Int)) : ∃ i, atI (xs.map V.int) r = some (.int i) ∧ i ∈ xs := by
  obtain ⟨n, rfl⟩ := Int.eq_ofNat_of_zero_le h0
  have hn : n < xs.length := by omega
  exact ⟨xs[n], atI_nat (by rw [List.getElem?_map, List.getElem?_eq_getElem hn]; rfl), List.getElem_mem hn⟩
theorem two_at {i j : Int} (k : Bool) : atI [V.int i, .int j] (if k then 1 else 0) = some (.int (if k = true then j else i)) := by cases k <;> rfl
/-- a literal list of whole numbers, and one of it -/
theorem r_pick {K : PySem.W.Frag} {H : Hp} {Q : VK} {l : Addr} {r : Int} (xs : List Int) (h : H l = some (.lst (xs.map V.int))) (h0 : 0 ≤ r) (h1 : r < (xs.length : Int)) (q : ∀ i : Int, i ∈ xs → Q (.int i) H) : rIxL K (.ref l) (.int r) H Q := by
  obtain ⟨i, e, m⟩ := atI_int h0 h1
  exact r_ixL h e (q i m)
def spPair : Sp := fun vs H Q _ => ∃ d : Addr, vs = [.ref d] ∧ WellAt H d ∧ ∀ (p : Addr) (t b : Int) (H' : Hp), Out d H H' → WellAt H' d → H' p = some (.tup [.int t, .int b]) → t.natAbs < 2 ^ 110 → b ≠ 0 → b.natAbs ≤ 10 ^ 12 → Q (.ref p) H'
theorem five_mono {i j : Nat} (h : i ≤ j) : 5 ^ i ≤ 5 ^ j := Nat.pow_le_pow_right (by decide) h
theorem ok_l_pair (T : Txt w K mg) : FnOk P w K mg base CX0 2 T.f_l_pair T.fd_l_pair ["_law_well_here"] spPair := by
  refine T.F_l_pair.ok sc_l_pair (fun vs H Q E h => ?_) (fun cdv A outer s H vs Q E hr h => ?_)
  · obtain ⟨d, rfl, _⟩ := h
    rfl
  · obtain ⟨d, rfl, w0, k⟩ := h
    refine ⟨_, (pss_cons (ps_set (i := 1) sc_l_pair.nd rfl (Or.inl rfl) (pe_call (ok_l_take T) (hr.mono (by decide)) (by rfl) T.m_l_take T.F_l_take.kp T.b_l_take .nil pass0 (pa_cons (pv 0) (pa_cons pe_int pa_nil))))
 (pss_cons (ps_set (i := 2) sc_l_pair.nd rfl (Or.inl rfl) (pe_op op_add pe_int (pe_call (ok_l_take T) (hr.mono (by decide)) (by rfl) T.m_l_take T.F_l_take.kp T.b_l_take .nil pass0 (pa_cons (pv 0) (pa_cons pe_int pa_nil)))))
 (pss_cons (ps_set (i := 3) sc_l_pair.nd rfl (Or.inl rfl) (pe_call (ok_l_take T) (hr.mono (by decide)) (by rfl) T.m_l_take T.F_l_take.kp T.b_l_take .nil pass0 (pa_cons (pv 0) (pa_cons pe_int pa_nil))))
 (pss_cons (ps_set (i := 4) sc_l_pair.nd rfl (Or.inl rfl) (pe_ix ix_list (pe_lst (pa_cons (pe_call (ok_l_take T) (hr.mono (by decide)) (by rfl) T.m_l_take T.F_l_take.kp T.b_l_take .nil pass0 (pa_cons (pv 0) (pa_cons pe_int pa_nil))) (pa_cons (pe_call (ok_l_take T) (hr.mono (by decide)) (by rfl) T.m_l_take T.F_l_take.kp T.b_l_take .nil pass0 (pa_cons (pv 0) (pa_cons (pe_op op_pow pe_int pe_int) pa_nil))) (pa_cons (pe_call (ok_l_take T) (hr.mono (by decide)) (by rfl) T.m_l_take T.F_l_take.kp T.b_l_take .nil pass0 (pa_cons (pv 0) (pa_cons pe_int pa_nil))) (pa_cons (pe_call (ok_l_take T) (hr.mono (by decide)) (by rfl) T.m_l_take T.F_l_take.kp T.b_l_take .nil pass0 (pa_cons (pv 0) (pa_cons (pe_op op_pow pe_int pe_int) pa_nil))) (pa_cons pe_int (pa_cons pe_int pa_nil))))))) (pv 1) (fun _ _ => rfl)))
 (pss_cons (ps_set (i := 5) sc_l_pair.nd rfl (Or.inl rfl) (pe_ix ix_list (pe_lst (pa_cons (pv 2) (pa_cons (pe_call (ok_l_ten T) (hr.mono (by decide)) (by rfl) T.m_l_ten T.F_l_ten.kp T.b_l_ten .nil pass0 (pa_cons (pv 3) pa_nil)) (pa_cons pe_int (pa_cons (pe_op op_add pe_int (pe_call (ok_l_take T) (hr.mono (by decide)) (by rfl) T.m_l_take T.F_l_take.kp T.b_l_take .nil pass0 (pa_cons (pv 0) (pa_cons (pe_op op_pow pe_int pe_int) pa_nil)))) (pa_cons (pv 2) (pa_cons (pv 2) pa_nil))))))) (pv 1) (fun _ _ => rfl)))
 (C8.pss_cut (ps_if (pt_cmpR op_eq (pv 1) pe_int (nomark _))
  (pss_cons (ps_for PassesOwn.never rfl (pi_range1 rfl T.n_range (pa_cons (pe_call (ok_l_take T) (hr.mono (by decide)) (by rfl) T.m_l_take T.F_l_take.kp T.b_l_take .nil pass0 (pa_cons (pv 0) (pa_cons pe_int pa_nil))) pa_nil)) (pg_name (i := 6) sc_l_pair.nd rfl (Or.inl rfl))
  (pss_one (ps_set (i := 5) sc_l_pair.nd rfl (Or.inl rfl) (pe_op op_mulW (pv 5) (pe_ix ix_list (pe_lst (pa_cons pe_int (pa_cons pe_int pa_nil))) (pe_call (ok_l_take T) (hr.mono (by decide)) (by rfl) T.m_l_take T.F_l_take.kp T.b_l_take .nil pass0 (pa_cons (pv 0) (pa_cons pe_int pa_nil))) (fun _ _ => rfl))))))
 (pss_one (ps_set (i := 5) sc_l_pair.nd rfl (Or.inl rfl) (pe_callB (call_min2 rfl) (by rfl) T.n_min (by decide +kernel) (pa_cons (pv 5) (pa_cons (pe_op op_pow pe_int pe_int) pa_nil))))))
  pss_nil)
 (C8.pss_cut (ps_if (pt_cmpR op_eq (pv 1) pe_int (nomark _))
  (pss_one (ps_set (i := 4) sc_l_pair.nd rfl (Or.inl rfl) (pe_op op_sub (pe_op op_add (pe_call (ok_l_ten T) (hr.mono (by decide)) (by rfl) T.m_l_ten T.F_l_ten.kp T.b_l_ten .nil pass0 (pa_cons (pe_call (ok_l_take T) (hr.mono (by decide)) (by rfl) T.m_l_take T.F_l_take.kp T.b_l_take .nil pass0 (pa_cons (pv 0) (pa_cons pe_int pa_nil))) pa_nil)) (pe_call (ok_l_take T) (hr.mono (by decide)) (by rfl) T.m_l_take T.F_l_take.kp T.b_l_take .nil pass0 (pa_cons (pv 0) (pa_cons pe_int pa_nil)))) pe_int)))
  pss_nil)
 (C8.pss_cut (ps_if (pt_cmpR op_lt (pv 1) pe_int (nomark _))
  (pss_one (ps_par (i := 4) (j := 5) rfl sc_l_pair.nd rfl rfl (by decide) rfl rfl (pa_cons (pe_op op_mulW (pv 4) (pv 2)) (pa_cons (pe_callB (call_min2 rfl) (by rfl) T.n_min (by decide +kernel) (pa_cons (pe_op op_pow pe_int pe_int) (pa_cons (pe_op op_mulW (pv 5) (pv 2)) pa_nil))) pa_nil)) (by rfl)))
  pss_nil)
 (pss_cons (ps_set (i := 7) sc_l_pair.nd rfl (Or.inl rfl) (pe_lst (pa_cons (pe_call (ok_l_take T) (hr.mono (by decide)) (by rfl) T.m_l_take T.F_l_take.kp T.b_l_take .nil pass0 (pa_cons (pv 0) (pa_cons pe_int pa_nil))) (pa_cons (pe_callTy call_int1 (by rfl) T.n_int (by decide +kernel) (pa_cons (pe_cmpR op_eq (pe_call (ok_l_take T) (hr.mono (by decide)) (by rfl) T.m_l_take T.F_l_take.kp T.b_l_take .nil pass0 (pa_cons (pv 0) (pa_cons pe_int pa_nil))) pe_int (nomark _)) pa_nil)) pa_nil))))
 (pss_one (ps_ret (pe_tup (pa_cons (pe_op op_mulW (pv 4) (pe_ix ix_list (pe_lst (pa_cons pe_int (pa_cons (pe_un un_neg pe_int) pa_nil))) (pe_ix ix_list (pv 7) pe_int (fun _ _ => rfl)) (fun _ _ => rfl))) (pa_cons (pe_op op_mulW (pv 5) (pe_ix ix_list (pe_lst (pa_cons pe_int (pa_cons (pe_un un_neg pe_int) pa_nil))) (pe_ix ix_list (pv 7) pe_int (fun _ _ => rfl)) (fun _ _ => rfl))) pa_nil)))))))))))))), ?_⟩
    have E6 : (10 : Int) ^ (6 : Int).toNat = 1000000 := rfl
    have E12 : (10 : Int) ^ (12 : Int).toNat = 1000000000000 := rfl
    have E30 : (10 : Int) ^ (30 : Int).toNat = 1000000000000000000000000000000 := rfl
    walk_at "rdg"
    refine rd_take w0 (by decide) (by decide) fun e1 H1 o1 w1 e10 e11 => ?_
    walk_at "rdg"
    refine rd_take w1 (by decide) (by decide) fun e2 H2 o2 w2 e20 e21 => ?_
    walk_at "rdg"
    refine rd_take w2 (by decide) (by decide) fun e3 H3 o3 w3 e30 e31 => ?_
    walk_at "rdg"
    refine rd_take w3 (by decide) (by decide) fun e4 H4 o4 w4 e40 e41 => ?_
    walk_at "rdg"
    refine rd_take w4 (by decide) (by decide) fun e5 H5 o5 w5 e50 e51 => ?_
    walk_at "rdg"
    refine rd_take w5 (by decide) (by decide) fun e6 H6 o6 w6 e60 e61 => ?_
    walk_at "rdg"
    refine rd_take w6 (by decide) (by decide) fun e7 H7 o7 w7 e70 e71 => ?_
    have o17 := (((((o1.trans o2).trans o3).trans o4).trans o5).trans o6).trans o7
    walk_at "rdg"
    refine r_new (by show 6 ≤ 1000; decide) fun l hl => ?_
    have sl := Same.new (o := .lst [.int e4, .int e5, .int e6, .int e7, .int 0, .int 0]) hl
    walk_at "rdg"
    refine r_pick [e4, e5, e6, e7, 0, 0] upd_same e10 e11 fun t0 ht0 => ?_
    have t00 : 0 ≤ t0 ∧ t0 < 10 ^ 30 := by
      simp only [List.mem_cons, List.not_mem_nil, or_false] at ht0
      omega
    walk_at "rdg"
    refine ⟨e3, rfl, by omega, ?_⟩
    walk_at "rdg"
    refine rd_take (w7.same sl) (by decide) (by decide) fun e8 H8 o8 w8 e80 e81 => ?_
    have o18 := (o17.trans (Out.of sl)).trans o8
    walk_at "rdg"
    refine r_new (by show 6 ≤ 1000; decide) fun m hm => ?_
    have sm := Same.new (o := .lst [.int (1 + e2), .int (10 ^ e3.toNat), .int 1, .int (1 + e8), .int (1 + e2), .int (1 + e2)]) hm
    walk_at "rdg"
    have tb : (0 : Int) < 10 ^ e3.toNat ∧ (10 : Int) ^ e3.toNat ≤ 10 ^ 12 := by
      constructor
      · exact Int.pow_pos (by decide)
      · have : (10 : Nat) ^ e3.toNat ≤ 10 ^ 12 := Nat.pow_le_pow_right (by decide) (by omega)
        exact_mod_cast this
    refine r_pick [1 + e2, 10 ^ e3.toNat, 1, 1 + e8, 1 + e2, 1 + e2] upd_same e10 e11 fun b0 hb0 => ?_
    have b00 : 0 < b0 ∧ b0 ≤ 1000000000000 := by
      have E : (10 : Int) ^ 12 = 1000000000000 := by decide
      simp only [List.mem_cons, List.not_mem_nil, or_false] at hb0
      omega
    have wm := w8.same sm
    have om := o18.trans (Out.of sm)
    generalize upd H8 m (.lst [.int (1 + e2), .int (10 ^ e3.toNat), .int 1, .int (1 + e8), .int (1 + e2), .int (1 + e2)]) = H9 at *
    let Mid : L2.St → Hp → Prop := fun σ' H' => ∃ (t b : Int) (v6 : Option V), σ' = [some (.ref d), some (.int e1), some (.int (1 + e2)), some (.int e3), some (.int t), some (.int b), v6, none] ∧ Out d H H' ∧ WellAt H' d ∧ (0 ≤ t ∧ t < 10 ^ 32) ∧ (0 < b ∧ b ≤ 1000000000000)
    walk_at "rdg"
    refine r_cut Mid ?_ ?_
    · walk_at "rdg"
      refine r_ite (fun e => ?_) (fun e => ?_)
      · walk_at "rdg"
        refine r_rng1 ?_
        walk_at "rdg"
        refine rd_take wm (by decide) (by decide) fun e9 H10 o10 w10 e90 e91 => ?_
        walk_at "rdg"
        refine ⟨_, rfl, by omega, by omega, ?_⟩
        refine for_range (lo := 0) (n := e9.toNat) (fun i σ H' => ∃ (v : Option V) (b : Int), σ = [some (.ref d), some (.int e1), some (.int (1 + e2)), some (.int e3), some (.int t0), some (.int b), v, none] ∧ Out d H H' ∧ WellAt H' d ∧ 0 < b ∧ b ≤ 1000000000000 * 5 ^ i) ⟨none, b0, rfl, om.trans o10, w10, by omega, by omega⟩ ?_ ?_
        · rintro i σ H11 hi ⟨v, b, rfl, o11, w11, bp, bl⟩
          have bn : b.natAbs < 2 ^ 100 := by
            have f : (5 : Nat) ^ i ≤ 5 ^ 20 := five_mono (by omega)
            have f' : (5 : Int) ^ i ≤ 5 ^ 20 := by exact_mod_cast f
            have E : (5 : Int) ^ 20 = 95367431640625 := by decide
            omega
          walk_at "rdg"
          refine r_new (by show 2 ≤ 1000; decide) fun q hq => ?_
          have sq := Same.new (o := .lst [.int 2, .int 5]) hq
          walk_at "rdg"
          refine rd_take (w11.same sq) (by decide) (by decide) fun e12 H12 o12 w12 e120 e121 => ?_
          have hQ := o12 q _ (well_ne w11 hq) upd_same
          refine r_pick [2, 5] hQ e120 e121 fun f hf => ?_
          have f2 : f = 2 ∨ f = 5 := by simpa using hf
          walk_at "rdg"
          refine r_I (wide_mul (a := 100) (b := 3) bn (by omega) (by decide) (by decide) (by decide)) ?_
          walk_at "rdg"
          refine ⟨_, b * f, rfl, (o11.trans (Out.of sq)).trans o12, w12, ?_, ?_⟩
          · rcases f2 with rfl | rfl <;> omega
          · rw [Int.pow_succ, ← Int.mul_assoc]
            generalize 1000000000000 * (5 : Int) ^ i = z at *
            rcases f2 with rfl | rfl <;> omega
        · rintro σ H11 ⟨v, b, rfl, o11, w11, bp, bl⟩
          walk_at "rdg"
          refine ⟨_, _, rfl, ?_⟩
          walk_at "rdg"
          refine ⟨t0, _, v, rfl, o11, w11, ⟨t00.1, Int.lt_trans t00.2 (by decide)⟩, ?_⟩
          rw [E12]
          split <;> omega
      · walk_at "rdg"
        exact ⟨t0, b0, none, rfl, om, wm, ⟨t00.1, Int.lt_trans t00.2 (by decide)⟩, b00⟩
    rintro σ H10 ⟨t1, b1, v6, rfl, o10, w10, t10, b10⟩
    walk_at "rdg"
    refine r_cut Mid ?_ ?_
    · walk_at "rdg"
      refine r_ite (fun e => ?_) (fun e => ?_)
      · walk_at "rdg"
        refine rd_take w10 (by decide) (by decide) fun e9 H11 o11 w11 e90 e91 => ?_
        walk_at "rdg"
        refine ⟨e9, rfl, by omega, ?_⟩
        walk_at "rdg"
        refine rd_take w11 (by decide) (by decide) fun e12 H12 o12 w12 e120 e121 => ?_
        walk_at "rdg"
        have pb : (0 : Int) < 10 ^ e9.toNat ∧ (10 : Int) ^ e9.toNat ≤ 10 ^ 28 := by
          constructor
          · exact Int.pow_pos (by decide)
          · have : (10 : Nat) ^ e9.toNat ≤ 10 ^ 28 := Nat.pow_le_pow_right (by decide) (by omega)
            exact_mod_cast this
        have E28 : (10 : Int) ^ 28 = 10000000000000000000000000000 := by decide
        have E32 : (10 : Int) ^ 32 = 100000000000000000000000000000000 := by decide
        exact ⟨_, b1, v6, rfl, (o10.trans o11).trans o12, w12, by omega, b10⟩
      · walk_at "rdg"
        exact ⟨t1, b1, v6, rfl, o10, w10, t10, b10⟩
    rintro σ H11 ⟨t2, b2, v6, rfl, o11, w11, t20, b20⟩
    have E32 : (10 : Int) ^ 32 = 100000000000000000000000000000000 := by decide
    walk_at "rdg"
    refine r_cut (fun σ' H' => ∃ (t b : Int) (v6 : Option V), σ' = [some (.ref d), some (.int e1), some (.int (1 + e2)), some (.int e3), some (.int t), some (.int b), v6, none] ∧ Out d H H' ∧ WellAt H' d ∧ (t.natAbs < 2 ^ 110) ∧ (0 < b ∧ b ≤ 1000000000000)) ?_ ?_
    · walk_at "rdg"
      refine r_ite (fun e => ?_) (fun e => ?_)
      · walk_at "rdg"
        refine r_I (wide_mul (a := 107) (b := 4) (by omega) (by omega) (by decide) (by decide) (by decide)) ?_
        walk_at "rdg"
        refine r_I (wide_mul (a := 50) (b := 4) (by omega) (by omega) (by decide) (by decide) (by decide)) ?_
        walk_at "rdg"
        refine ⟨_, _, rfl, ?_⟩
        walk_at "rdg"
        refine ⟨_, _, v6, rfl, o11, w11, ?_, ?_⟩
        · have := natAbs_mul_lt (a := t2) (b := 1 + e2) (m := 107) (n := 4) (k := 111) (by omega) (by omega) (by decide)
          have t3 : t2 * (1 + e2) ≤ t2 * 12 := Int.mul_le_mul_of_nonneg_left (by omega) (by omega)
          have t4 : 0 ≤ t2 * (1 + e2) := Int.mul_nonneg (by omega) (by omega)
          omega
        · have b3 : 0 < b2 * (1 + e2) := Int.mul_pos (by omega) (by omega)
          rw [E12]
          split <;> omega
      · walk_at "rdg"
        exact ⟨t2, b2, v6, rfl, o11, w11, by omega, b20⟩
    rintro σ H12 ⟨t, b, v6, rfl, o12, w12, tn, bn⟩
    walk_at "rdg"
    refine rd_take w12 (by decide) (by decide) fun e13 H13 o13 w13 e130 e131 => ?_
    walk_at "rdg"
    refine rd_take w13 (by decide) (by decide) fun e14 H14 o14 w14 e140 e141 => ?_
    walk_at "rdg"
    refine .inr ⟨_, rfl, ?_⟩
    walk_at "rdg"
    refine r_new (by show 2 ≤ 1000; decide) fun sg hsg => ?_
    generalize decide (e14 = 1) = bb
    have s15 := Same.new (o := .lst [.int e13, .int (if bb then 1 else 0)]) hsg
    have hG : upd H14 sg (.lst [.int e13, .int (if bb then 1 else 0)]) sg = some (.lst [.int e13, .int (if bb then 1 else 0)]) := upd_same
    generalize upd H14 sg (.lst [.int e13, .int (if bb then 1 else 0)]) = H15 at *
    walk_at "rdg"
    refine r_new (by show 2 ≤ 1000; decide) fun q1 hq1 => ?_
    have s16 := Same.new (o := .lst [.int 1, .int (-1)]) hq1
    walk_at "rdg"
    refine r_ixL (s16 _ _ hG) (atI_nat (j := 0) rfl) ?_
    refine r_pick [1, -1] upd_same e130 e131 fun f1 hf1 => ?_
    have f1' : f1 = 1 ∨ f1 = -1 := by simpa using hf1
    walk_at "rdg"
    refine r_I (wide_mul (a := 110) (b := 2) tn (by omega) (by decide) (by decide) (by decide)) ?_
    walk_at "rdg"
    refine r_new (by show 2 ≤ 1000; decide) fun q2 hq2 => ?_
    have s17 := Same.new (o := .lst [.int 1, .int (-1)]) hq2
    walk_at "rdg"
    refine r_ixL (s17 _ _ (s16 _ _ hG)) (atI_nat (j := 1) rfl) ?_
    refine r_ixL upd_same (two_at bb) ?_
    walk_at "rdg"
    have f2' : (if bb = true then (-1 : Int) else 1) = 1 ∨ (if bb = true then (-1 : Int) else 1) = -1 := by cases bb <;> simp
    generalize (if bb = true then (-1 : Int) else 1) = f2 at *
    refine r_I (wide_mul (a := 50) (b := 2) (by omega) (by omega) (by decide) (by decide) (by decide)) ?_
    walk_at "rdg"
    refine r_new (by show 2 ≤ 1000; decide) fun p hp => ?_
    have s18 := Same.new (o := .tup [.int (t * f1), .int (b * f2)]) hp
    have sA := ((s15.trans s16).trans s17).trans s18
    refine k p _ _ _ (((o12.trans o13).trans o14).trans (Out.of sA)) (w14.same sA) upd_same ?_ ?_ ?_
    · rcases f1' with rfl | rfl <;> omega
    · rcases f2' with rfl | rfl <;> omega
    · rcases f2' with rfl | rfl <;> omega
/-! ### lowest terms, by Euclid -/
def spLowest : Sp := fun vs H Q _ => ∃ (t b : Int), vs = [.int t, .int b] ∧ b ≠ 0 ∧ b.natAbs < 2 ^ 1900 ∧ ∀ (p : Addr) (H' : Hp), Same H H' → H p = none → H' p = some (.tup [.int (Rat.divInt t b).num, .int ((Rat.divInt t b).den : Int)]) → Q (.ref p) H'
theorem ok_l_lowest (T : Txt w K mg) : FnOk P w K mg base CX0 1 T.f_l_lowest T.fd_l_lowest ["_law_top", "_law_bottom"] spLowest := by
  refine T.F_l_lowest.ok sc_l_lowest (fun vs H Q E h => ?_) (fun cdv A outer s H vs Q E hr h => ?_)
  · obtain ⟨t, b, rfl, _⟩ := h
    rfl
  · obtain ⟨t, b, rfl, hb, bb, k⟩ := h
    refine ⟨_, (pss_cons (ps_par (i := 2) (j := 3) rfl sc_l_lowest.nd rfl rfl (by decide) rfl rfl (pa_cons (pe_callB call_abs (by rfl) T.n_abs (by decide +kernel) (pa_cons (pv 0) pa_nil)) (pa_cons (pe_callB call_abs (by rfl) T.n_abs (by decide +kernel) (pa_cons (pv 1) pa_nil)) pa_nil)) (by rfl))
 (pss_cons (ps_while PassesOwn.never (pt_cmpR op_gt (pv 3) pe_int (nomark _))
  (pss_one (ps_par (i := 2) (j := 3) rfl sc_l_lowest.nd rfl rfl (by decide) rfl rfl (pa_cons (pv 3) (pa_cons (pe_op op_mod (pv 2) (pv 3)) pa_nil)) (by rfl))))
 (C8.pss_cut (ps_if (pt_cmpR op_lt (pv 1) pe_int (nomark _))
  (pss_one (ps_set (i := 2) sc_l_lowest.nd rfl (Or.inl rfl) (pe_op op_sub pe_int (pv 2))))
  pss_nil)
 (pss_one (ps_ret (pe_tup (pa_cons (pe_op op_fdivA (pv 0) (pv 2)) (pa_cons (pe_op op_fdivA (pv 1) (pv 2)) pa_nil)))))))), ?_⟩
    walk_at "rdg"
    refine ⟨_, rfl, ?_⟩
    walk_at "rdg"
    refine ⟨_, rfl, ?_⟩
    walk_at "rdg"
    refine ⟨fun m σ H' => ∃ (i j : Nat), σ = [some (.int t), some (.int b), some (.int (i : Int)), some (.int (j : Int))] ∧ H' = H ∧ Nat.gcd i j = Nat.gcd t.natAbs b.natAbs ∧ j < 2 ^ 1900 ∧ m = j, ⟨b.natAbs, t.natAbs, b.natAbs, ?_, rfl, rfl, bb, rfl⟩, ?_⟩
    · have e1 : (if t < 0 then -t else t) = (t.natAbs : Int) := by split <;> omega
      have e2 : (if b < 0 then -b else b) = (b.natAbs : Int) := by split <;> omega
      rw [e1, e2]
      rfl
    · rintro m σ H' ⟨i, j, rfl, rfl, hg, jb, rfl⟩
      walk_at "rdg"
      refine r_ite (fun e => ?_) (fun e => ?_)
      · have jp : 0 < m := by have := of_decide_eq_true e; omega
        refine ⟨fun σ' H2 => σ' = [some (.int t), some (.int b), some (.int (m : Int)), some (.int ((i % m : Nat) : Int))] ∧ H2 = H', ?_, ?_⟩
        · rintro σ' H2 ⟨rfl, rfl⟩
          refine ⟨i % m, Nat.mod_lt _ jp, m, i % m, rfl, rfl, ?_, Nat.lt_trans (Nat.mod_lt _ jp) jb, rfl⟩
          rw [← hg, Nat.gcd_comm i m, Nat.gcd_rec m i, Nat.gcd_comm]
        · walk_at "rdg"
          refine r_I (show (0 : Int) < m by omega) ?_
          walk_at "rdg"
          refine ⟨?_, rfl⟩
          rw [Int.natCast_emod]
          rfl
      · have j0 : m = 0 := by have := of_decide_eq_false e; omega
        subst j0
        rw [Nat.gcd_zero_right] at hg
        have cd : cdiv t b = if b < 0 then -(i : Int) else (i : Int) := by
          unfold cdiv
          rw [hg]
        have gp : 0 < i := by rw [hg]; exact gcd_pos (by omega)
        have gb : i < 2 ^ 1900 := by
          have : i ≤ b.natAbs := by rw [hg]; exact Nat.gcd_le_right _ (by omega)
          exact Nat.lt_of_le_of_lt this bb
        have n := num_of (t := t) (b := b) hb
        have d := den_of (t := t) (b := b) hb
        walk_at "rdg"
        refine r_cut (fun σ' H2 => ∃ v, σ' = [some (.int t), some (.int b), some (.int (cdiv t b)), v] ∧ H2 = H') ?_ ?_
        · walk_at "rdg"
          refine r_ite (fun z => ?_) (fun z => ?_)
          · walk_at "rdg"
            rw [if_pos (of_decide_eq_true z)] at cd
            refine ⟨some (.int ((0 : Nat) : Int)), ?_, rfl⟩
            rw [cd, Int.zero_sub]
            rfl
          · walk_at "rdg"
            rw [if_neg (of_decide_eq_false z)] at cd
            refine ⟨some (.int ((0 : Nat) : Int)), ?_, rfl⟩
            rw [cd]
        rintro σ H2 ⟨v, rfl, rfl⟩
        have c0 : CDivA t (cdiv t b) ∧ CDivA b (cdiv t b) := by
          have n0 : cdiv t b ≠ 0 := by rw [cd]; split <;> omega
          have nb : (cdiv t b).natAbs < 2 ^ 1900 := by rw [cd]; split <;> omega
          exact ⟨cdivA n0 nb (by decide) (by decide), cdivA n0 nb (by decide) (by decide)⟩
        walk_at "rdg"
        refine r_I c0.1 ?_
        walk_at "rdg"
        refine r_I c0.2 ?_
        walk_at "rdg"
        refine r_new (by show 2 ≤ 1000; decide) fun p hp => ?_
        refine k p _ (Same.new hp) hp ?_
        rw [upd_same, n, d]
end
end My

namespace My
open PySem L2 TL
section
variable {P : Program} {w : World} {K : PySem.W.Frag} {mg : Str → Option Value} {base : Heap}
/-- a row of the law -/
def RowT (t b : Int) : Prop := b ≠ 0 ∧ t.natAbs < 2 ^ 250 ∧ b.natAbs < 2 ^ 250 ∧ (NText (Rat.divInt t b)).length ≤ 60
theorem ntext_any {t b : Int} {i j : Nat} (hb : b ≠ 0) (i0 : 0 < i) (j0 : 0 < j) (ht : t.natAbs < 10 ^ i) (hj : b.natAbs < 10 ^ j) : (NText (Rat.divInt t b)).length ≤ i + j + 2 := by
  rw [NText_len]
  have a := signL_len i0 (Nat.lt_of_le_of_lt (num_le t b) ht)
  have c := numL_len j0 (Nat.lt_of_le_of_lt (den_le (t := t) hb) hj)
  split at a <;> split <;> omega
theorem ntext_pos {t b : Int} {i j : Nat} (hb : 0 < b) (h0 : 0 ≤ t) (i0 : 0 < i) (j0 : 0 < j) (ht : t.natAbs < 10 ^ i) (hj : b.natAbs < 10 ^ j) : (NText (Rat.divInt t b)).length ≤ i + j + 1 := by
  rw [NText_len]
  have a := signL_len i0 (Nat.lt_of_le_of_lt (num_le t b) ht)
  have c := numL_len j0 (Nat.lt_of_le_of_lt (den_le (t := t) (by omega)) hj)
  have n : 0 ≤ (Rat.divInt t b).num := by
    rw [Rat.num_divInt, Int.sign_eq_one_of_pos hb, Int.one_mul]
    exact Int.ediv_nonneg h0 (by omega)
  rw [if_neg (by omega)] at a
  split <;> omega
theorem ntext_one {t : Int} {i : Nat} (i0 : 0 < i) (ht : t.natAbs < 10 ^ i) : (NText (Rat.divInt t 1)).length ≤ i + (if t < 0 then 1 else 0) := by
  have e := divInt_one t
  rw [e, NText_len, if_pos (show ((t : Rat)).den = 1 from rfl)]
  exact signL_len i0 ht
theorem r_add {H : Hp} {Q : VK} {i j : Str} (h : i.length + j.length ≤ sizeLine) (q : Q (.str (i ++ j)) H) : (fun x y H Q => ∃ i j, x = V.str i ∧ y = V.str j ∧ i.length + j.length ≤ sizeLine ∧ Q (.str (i ++ j)) H : R2) (.str i) (.str j) H Q := ⟨i, j, rfl, rfl, h, q⟩
def spRight03 : Sp := fun vs H Q _ => ∃ (p : Addr) (t b : Int), vs = [.ref p] ∧ H p = some (.tup [.int t, .int b]) ∧ RowT t b ∧ ∀ H' : Hp, Same H H' → Q (.bl true) H'
theorem okG_l_right (T : Txt w K mg) : FnG P w K mg base 5 T.f_l_right T.fd_l_right ["_law_pair_here"] spRight03 := by
  refine FnG.by_body T.F_l_right sc_l_right (fun vs H Q E h => ?_) (fun cdv A outer s H vs Q E hG hr h => ?_)
  · obtain ⟨p, t, b, rfl, _⟩ := h
    rfl
  · obtain ⟨p, t, b, rfl, hp, ⟨b0, tb, bb, len⟩, k⟩ := h
    have cN := T.c_Number
    have nT := T.n_Number_top
    have nB := T.n_Number_bottom
    refine ⟨_, (pss_cons (ps_asg (pe_call (ok_l_lowest T) (hr.mono (by decide)) (by rfl) T.m_l_lowest T.F_l_lowest.kp T.b_l_lowest .nil pass0 (pa_cons (pe_ix ix_tup (pv 0) pe_int (fun _ _ => rfl)) (pa_cons (pe_ix ix_tup (pv 0) pe_int (fun _ _ => rfl)) pa_nil))) (pg_tup rfl (pgs_cons (pg_name (i := 1) sc_l_right.nd rfl (Or.inl rfl)) (pgs_cons (pg_name (i := 2) sc_l_right.nd rfl (Or.inl rfl)) pgs_nil))))
 (pss_cons (ps_set (i := 3) sc_l_right.nd rfl (Or.inl rfl) (pe_callTy call_str_int (by rfl) T.n_str (by decide +kernel) (pa_cons (pv 1) pa_nil)))
 (C8.pss_cut (ps_if (pt_cmpR op_ne (pv 2) pe_int (nomark _))
  (pss_one (ps_set (i := 3) sc_l_right.nd rfl (Or.inl rfl) (pe_op op_add_str (pe_op op_add_str (pv 3) pe_str) (pe_callTy call_str_int (by rfl) T.n_str (by decide +kernel) (pa_cons (pv 2) pa_nil)))))
  pss_nil)
 (pss_cons (ps_set (i := 4) sc_l_right.nd rfl (Or.inl rfl) (pe_call (ok_read_number T) (hr.mono (by decide)) (by rfl) T.m_read_number T.F_read_number.kp T.b_read_number .nil pass0 (pa_cons (pv 3) pa_nil)))
 (pss_cons (ps_if (PW.pt (pw_or (pt_not (pt_val (pe_callB call_isi (by rfl) T.n_isinstance (by decide +kernel) (pa_cons (pv 4) (pa_cons (pe_glob (v := .ref T.C_Number) (by rfl) T.m_Number rfl) pa_nil))))) (pw_or1 (pt_cmpR op_ne (pe_callB (call_repr hG hr.units) (by rfl) T.n_repr (by decide +kernel) (pa_cons (pe_tup (pa_cons (pe_fld (pv 4) rfl) (pa_cons (pe_fld (pv 4) rfl) pa_nil))) pa_nil)) (pe_callB (call_repr hG hr.units) (by rfl) T.n_repr (by decide +kernel) (pa_cons (pe_tup (pa_cons (pv 1) (pa_cons (pv 2) pa_nil))) pa_nil)) (nomark _)))))
  (pss_one (ps_ret pe_bl))
  pss_nil)
 (C8.pss_cut (ps_if (PW.pt (pw_and (pt_cmpR op_le (pe_callB call_abs (by rfl) T.n_abs (by decide +kernel) (pa_cons (pv 1) pa_nil)) (pe_op op_pow pe_int pe_int) (nomark _)) (pw_and1 (pt_cmpR (op_neOwn (ok_Number_eq T) T.me_Number_eq.at_ T.me_Number_eq.fn T.b_Number_eq T.ne_Number T.ty_Number_m (hr.mono (by decide))) (pv 4) (pe_make T.mk_Number (ok_Number_init T) (hr.mono (by decide)) (by rfl) T.m_Number T.b_Number_init2 .nil pass0 (pa_cons (pe_ix ix_tup (pv 0) pe_int (fun _ _ => rfl)) (pa_cons (pe_ix ix_tup (pv 0) pe_int (fun _ _ => rfl)) pa_nil))) (nomark _)))))
  (pss_one (ps_ret pe_bl))
  pss_nil)
 (pss_one (ps_ret (pe_and (pe_cmpR op_eq (pe_callTy (call_strOwn (ok_Number_str T) T.me_Number_str.at_ T.me_Number_str.fn T.b_Number_str (hr.mono (by decide))) (by rfl) T.n_str (by decide +kernel) (pa_cons (pv 4) pa_nil)) (pv 3) (nomark _)) (pe_one (pe_cmpR (op_eqOwn (ok_Number_eq T) T.me_Number_eq.at_ T.me_Number_eq.fn T.b_Number_eq (hr.mono (by decide))) (pv 4) (pe_call (ok_read_number T) (hr.mono (by decide)) (by rfl) T.m_read_number T.F_read_number.kp T.b_read_number .nil pass0 (pa_cons (pv 3) pa_nil)) (nomark _)))))))))))), ?_⟩
    have bx : Bd 900 (Rat.divInt t b) := Bd.of b0 (Nat.lt_of_lt_of_le tb (Nat.pow_le_pow_right (by decide) (by decide))) (Nat.lt_of_lt_of_le bb (Nat.pow_le_pow_right (by decide) (by decide)))
    have b19 : b.natAbs < 2 ^ 1900 := Nat.lt_of_lt_of_le bb (Nat.pow_le_pow_right (by decide) (by decide))
    walk_at "rdh"
    refine r_ixT hp (atI_nat (j := 0) rfl) ?_
    walk_at "rdh"
    refine r_ixT hp (atI_nat (j := 1) rfl) ?_
    walk_at "rdh"
    refine ⟨t, b, rfl, b0, b19, fun q H1 s1 _ h1 => ?_⟩
    refine r_gTup h1 rfl ?_
    walk_at "rdh"
    have hp1 := s1 _ _ hp
    have nd := (Rat.divInt t b).num_divInt_den
    have lens := NText_len (Rat.divInt t b)
    have hx : Rat.divInt t b = Rat.divInt t b := rfl
    refine ⟨_, rfl, bits1920 bx.1, ?_⟩
    walk_at "rdh"
    refine r_cut (fun σ' H' => σ' = [some (.ref p), some (.int (Rat.divInt t b).num), some (.int ((Rat.divInt t b).den : Int)), some (.str (NText (Rat.divInt t b))), none] ∧ H' = H1) ?_ ?_
    · walk_at "rdh"
      refine r_ite (fun e => ?_) (fun e => ?_)
      · have e' : (Rat.divInt t b).den ≠ 1 := by
          have : ¬ (((Rat.divInt t b).den : Int) = 1) := by simpa using e
          omega
        have nt : NText (Rat.divInt t b) = TI (Rat.divInt t b).num ++ "/" ++ TI ((Rat.divInt t b).den : Int) := if_neg e'
        have l1 := TI_short bx.1
        have l2 := TI_short (bd_den bx)
        have sl : sizeLine = 16777216 := rfl
        have l3 : (TI (Rat.divInt t b).num ++ ("/" : Str)).length ≤ 3000 := by
          rw [len_tl, tl_append, List.length_append, ← len_tl]
          have : (tl ("/" : Str)).length = 1 := rfl
          omega
        have l4 : ("/" : Str).length = 1 := rfl
        walk_at "rdh"
        refine ⟨TI (Rat.divInt t b).num, "/", rfl, rfl, by omega, ?_⟩
        walk_at "rdh"
        refine ⟨_, rfl, bits1920 (bd_den bx), ?_⟩
        refine ⟨_, TI ((Rat.divInt t b).den : Int), rfl, rfl, by omega, ?_⟩
        walk_at "rdh"
        refine ⟨?_, rfl⟩
        rw [nt]
        rfl
      · have e' : (Rat.divInt t b).den = 1 := by
          have : ((Rat.divInt t b).den : Int) = 1 := by simpa using e
          omega
        have nt : NText (Rat.divInt t b) = TI (Rat.divInt t b).num := if_pos e'
        walk_at "rdh"
        refine ⟨?_, rfl⟩
        rw [nt]
        rfl
    rintro σ H2 ⟨rfl, rfl⟩
    walk_at "rdh"
    refine ⟨_, rfl, len, bx, fun f H3 s3 h3 => ?_⟩
    walk_at "rdh"
    refine is_num T h3 ?_
    walk_at "rdh"
    refine r_iteF rfl ?_
    obtain ⟨df, hf⟩ := h3
    have nb : (Rat.divInt t b).num.natAbs < 2 ^ 1900 := Nat.lt_of_lt_of_le bx.1 (Nat.pow_le_pow_right (by decide) (by decide))
    have db : ((Rat.divInt t b).den : Int).natAbs < 2 ^ 1900 := Nat.lt_of_lt_of_le (bd_den bx) (Nat.pow_le_pow_right (by decide) (by decide))
    have sh := short_two nb db
    obtain ⟨f1, f2, f3⟩ := data_two nb db
    walk_at "rdf"
    refine r_new (by show 2 ≤ 1000; decide) fun p1 q1 => ?_
    have s4 := Same.new (o := .tup [.int (Rat.divInt t b).num, .int ((Rat.divInt t b).den : Int)]) q1
    refine ⟨p1, .tuple [.int (Rat.divInt t b).num, .int ((Rat.divInt t b).den : Int)], rfl, .tup (SqT.of upd_same) (.cons (.int _) (.cons (.int _) .nil)), f1, f2, f3, sh, ?_⟩
    walk_at "rdf"
    refine r_new (by show 2 ≤ 1000; decide) fun p2 q2 => ?_
    have s5 := Same.new (o := .tup [.int (Rat.divInt t b).num, .int ((Rat.divInt t b).den : Int)]) q2
    refine ⟨p2, .tuple [.int (Rat.divInt t b).num, .int ((Rat.divInt t b).den : Int)], rfl, .tup (SqT.of upd_same) (.cons (.int _) (.cons (.int _) .nil)), f1, f2, f3, sh, ?_⟩
    refine r_neS ?_
    rw [decide_eq_true rfl]
    walk_at "rdh"
    refine r_iteF rfl ?_
    have s25 := (s3.trans s4).trans s5
    have hf5 : NumAt T.C_Number _ f (Rat.divInt t b) := ⟨df, s5 _ _ (s4 _ _ hf)⟩
    have hp5 := s25 _ _ hp1
    walk_at "rdh"
    refine r_cut (fun σ' H' => σ' = [some (.ref p), some (.int (Rat.divInt t b).num), some (.int ((Rat.divInt t b).den : Int)), some (.str (NText (Rat.divInt t b))), some (.ref f)] ∧ Same (upd (upd H3 p1 (.tup [.int (Rat.divInt t b).num, .int ((Rat.divInt t b).den : Int)])) p2 (.tup [.int (Rat.divInt t b).num, .int ((Rat.divInt t b).den : Int)])) H') ?_ ?_
    · walk_at "rdh"
      refine ⟨_, rfl, ?_⟩
      walk_at "rdh"
      refine r_ite (fun e => ?_) (fun e => ?_)
      · walk_at "rdh"
        refine r_ixT hp5 (atI_nat (j := 0) rfl) ?_
        walk_at "rdh"
        refine r_ixT hp5 (atI_nat (j := 1) rfl) ?_
        walk_at "rdh"
        refine mk_num b0 (Nat.lt_of_lt_of_le b19 (Nat.pow_le_pow_right (by decide) (by decide))) fun g H6 s6 _ h6 => ?_
        refine r_neNum (hf5.same s6) h6 ?_
        rw [decide_eq_true rfl]
        walk_at "rdh"
        refine r_iteF rfl ?_
        walk_at "rdh"
        exact ⟨rfl, s6⟩
      · refine r_iteF rfl ?_
        walk_at "rdh"
        exact ⟨rfl, Same.refl _⟩
    rintro σ H6 ⟨rfl, s6⟩
    walk_at "rdh"
    refine rd_strOwn (hf5.same s6) bx ?_
    walk_at "rdh"
    rw [decide_eq_true rfl]
    refine r_iteT rfl ?_
    walk_at "rdh"
    refine ⟨_, rfl, len, bx, fun g H7 s7 h7 => ?_⟩
    refine r_eqNum ((hf5.same s6).same s7) h7 ?_
    rw [decide_eq_true rfl]
    exact k _ (((s1.trans s25).trans s6).trans s7)
end
end My

namespace My
open PySem L2 TL
section
variable {P : Program} {w : World} {K : PySem.W.Frag} {mg : Str → Option Value} {base : Heap}
/-- a row that may be asked -/
def RowOk (H : Hp) (v : V) : Prop := ∃ (p : Addr) (t b : Int), v = .ref p ∧ H p = some (.tup [.int t, .int b]) ∧ RowT t b
theorem RowOk.same {H H' : Hp} {v : V} (s : Same H H') (h : RowOk H v) : RowOk H' v := let ⟨p, t, b, e, h1, h2⟩ := h; ⟨p, t, b, e, s _ _ h1, h2⟩
theorem RowOk.out {H H' : Hp} {v : V} {d : Addr} (s : Out d H H') (w : WellAt H d) (h : RowOk H v) : RowOk H' v := let ⟨p, t, b, e, h1, h2⟩ := h; ⟨p, t, b, e, s.keep w h1 (fun _ z => by cases z), h2⟩
/-- the rows so far, at r -/
def Rows (H : Hp) (r : Addr) (n : Nat) : Prop := ∃ xs : List V, H r = some (.lst xs) ∧ xs.length ≤ n ∧ ∀ v ∈ xs, RowOk H v
theorem Rows.same {H H' : Hp} {r : Addr} {n : Nat} (s : Same H H') (h : Rows H r n) : Rows H' r n := let ⟨xs, h1, h2, h3⟩ := h; ⟨xs, s _ _ h1, h2, fun v hv => (h3 v hv).same s⟩
theorem Rows.out {H H' : Hp} {r d : Addr} {n : Nat} (s : Out d H H') (w : WellAt H d) (rd : r ≠ d) (h : Rows H r n) : Rows H' r n := let ⟨xs, h1, h2, h3⟩ := h; ⟨xs, s _ _ rd h1, h2, fun v hv => (h3 v hv).out s w⟩
theorem Rows.mono {H : Hp} {r : Addr} {n m : Nat} (h : Rows H r n) (l : n ≤ m) : Rows H r m := let ⟨xs, h1, h2, h3⟩ := h; ⟨xs, h1, Nat.le_trans h2 l, h3⟩
theorem Rows.at_ {H : Hp} {r : Addr} {n : Nat} (h : Rows H r n) : ∃ xs, H r = some (.lst xs) := let ⟨xs, h1, _, _⟩ := h; ⟨xs, h1⟩
structure Made (H0 H : Hp) (vs : List V) : Prop where
  same : Same H0 H
  all : ∀ v ∈ vs, RowOk H v
theorem Made.start (H : Hp) : Made H H [] := ⟨Same.refl _, fun v hv => by cases hv⟩
theorem Made.new {H0 H : Hp} {vs : List V} {p : Addr} {t b : Int} (m : Made H0 H vs) (hp : H p = none) (ok : RowT t b) : Made H0 (upd H p (.tup [.int t, .int b])) (vs ++ [.ref p]) := by
  refine ⟨m.same.trans (Same.new hp), fun v hv => ?_⟩
  rcases List.mem_append.mp hv with hv | hv
  · exact (m.all v hv).same (Same.new hp)
  · rw [List.mem_singleton.mp hv]
    exact ⟨p, t, b, rfl, upd_same, ok⟩
theorem Made.lst {H0 H : Hp} {vs xs : List V} {p : Addr} (m : Made H0 H vs) (hp : H p = none) : Made H0 (upd H p (.lst xs)) vs := ⟨m.same.trans (Same.new hp), fun v hv => (m.all v hv).same (Same.new hp)⟩
theorem none_of {H H1 : Hp} {p : Addr} (s : Same H H1) (h : H1 p = none) : H p = none := by
  cases e : H p with
  | none => rfl
  | some o => rw [s _ _ e] at h; cases h
theorem same_out {H H1 H2 : Hp} {d : Addr} (s : Same H H1) (n : H d = none) (o : Out d H1 H2) : Same H H2 := fun b x e => o b x (ne_of_none e n) (s b x e)
theorem same_upd {H H1 : Hp} {r : Addr} {o : HO} (s : Same H H1) (n : H r = none) : Same H (upd H1 r o) := fun b x e => by
  rw [upd_ne (ne_of_none e n)]
  exact s b x e
theorem rows_cat {H0 H : Hp} {r l : Addr} {n m : Nat} {vs : List V} {Q : VK} (h : Rows H0 r n) (md : Made H0 H vs) (hl : H l = none) (lv : vs.length ≤ m) (nm : n + m ≤ 100000) (q : ∀ (r' : Addr) (H' : Hp), Same H0 H' → H0 r' = none → Rows H' r' (n + m) → Q (.ref r') H') : rCat (.ref r) (.ref l) (upd H l (.lst vs)) Q := by
  obtain ⟨xs, h1, h2, h3⟩ := h
  have m1 := md.lst (xs := vs) hl
  refine r_cat (m1.same _ _ h1) upd_same (by omega) fun r' hr' => ?_
  have m2 := m1.lst (xs := xs ++ vs) hr'
  refine q r' _ m2.same (none_of m1.same hr') ⟨xs ++ vs, upd_same, by rw [List.length_append]; omega, fun v hv => ?_⟩
  rcases List.mem_append.mp hv with hv | hv
  · exact (h3 v hv).same m2.same
  · exact m2.all v hv
theorem rows_app {H0 H : Hp} {r p : Addr} {n : Nat} {t b : Int} {Q : VK} (s : Same H0 H) (nr : H0 r = none) (h : Rows H r n) (hp : H p = some (.tup [.int t, .int b])) (ok : RowT t b) (nm : n ≤ 100000) (q : ∀ H' : Hp, Same H0 H' → (∀ b o, b ≠ r → H b = some o → H' b = some o) → Rows H' r (n + 1) → Q .non H') :
    tyV K "list" (.ref r) H ∧ rAppend (.ref r) [.ref p] H Q := by
  obtain ⟨xs, h3, lx, okx⟩ := h
  refine ⟨ty_list h3, r, xs, _, rfl, rfl, h3, Nat.lt_of_le_of_lt (Nat.le_trans lx nm) (by decide), ?_⟩
  have sp : ∀ b o, (∀ xs, o ≠ HO.lst xs) → H b = some o → upd H r (.lst (xs ++ [.ref p])) b = some o := fun b o no e => by
    rw [upd_ne (ne_of e h3 (no _))]
    exact e
  refine q _ (same_upd s nr) (fun b o n e => by rw [upd_ne n]; exact e) ⟨_, upd_same, by rw [List.length_append]; exact Nat.add_le_add_right lx 1, fun v hv => ?_⟩
  rcases List.mem_append.mp hv with hv | hv
  · obtain ⟨q, t', b', e, h, ok⟩ := okx v hv
    exact ⟨q, t', b', e, sp _ _ (fun _ z => by cases z) h, ok⟩
  · rw [List.mem_singleton.mp hv]
    exact ⟨p, t, b, rfl, sp _ _ (fun _ z => by cases z) hp, ok⟩
theorem row_small {t b : Int} (h0 : 0 < b) (hb : b < 100) (ht : t.natAbs < 100) : RowT t b := ⟨by omega, Nat.lt_of_lt_of_le (show t.natAbs < 2 ^ 10 by omega) (Nat.pow_le_pow_right (by decide) (by decide)), Nat.lt_of_lt_of_le (show b.natAbs < 2 ^ 10 by omega) (Nat.pow_le_pow_right (by decide) (by decide)), Nat.le_trans (ntext_any (i := 2) (j := 2) (by omega) (by decide) (by decide) (by omega) (by omega)) (by decide)⟩
theorem row_pair {t b : Int} (tb : t.natAbs < 2 ^ 110) (b0 : b ≠ 0) (bl : b.natAbs ≤ 10 ^ 12) : RowT t b := by
  have E12 : (10 : Nat) ^ 12 = 1000000000000 := by decide
  have E13 : (10 : Nat) ^ 13 = 10000000000000 := by decide
  have E34 : (10 : Nat) ^ 34 = 10000000000000000000000000000000000 := by decide
  exact ⟨b0, Nat.lt_of_lt_of_le tb (Nat.pow_le_pow_right (by decide) (by decide)), Nat.lt_of_lt_of_le (show b.natAbs < 2 ^ 50 by omega) (Nat.pow_le_pow_right (by decide) (by decide)), Nat.le_trans (ntext_any (i := 34) (j := 13) b0 (by decide) (by decide) (by omega) (by omega)) (by decide)⟩
theorem row_one {t : Int} (h : t.natAbs < 10 ^ 59) : RowT t 1 := by
  refine ⟨by decide, Nat.lt_of_lt_of_le h (by decide), by decide, Nat.le_trans (ntext_one (i := 59) (by decide) h) ?_⟩
  split <;> omega
def spLaw (K : PySem.W.Frag) : Sp := fun vs H Q _ => ∃ (a : Addr) (ns : List Int), vs = [.ref a] ∧ SqL K H a (ns.map V.int) ∧ ns.length ≤ 63 ∧ ∀ H', Q (.bl true) H'
theorem okG_law (T : Txt w K mg) : FnG P w K mg base 6 T.f_law T.fd_law ["_law_script"] (spLaw K) := by
  refine FnG.by_body T.F_law sc_law (fun vs H Q E h => ?_) (fun cdv A outer s H vs Q E hG hr h => ?_)
  · obtain ⟨a, ns, rfl, _⟩ := h
    rfl
  · obtain ⟨a, ns, rfl, hS, hl, k⟩ := h
    refine ⟨_, (pss_cons (ps_set (i := 1) sc_law.nd rfl (Or.inl rfl) (pe_lst pa_nil))
 (pss_cons (ps_for PassesOwn.never rfl (pi_range1 rfl T.n_range (pa_cons (pe_callB (call_max2 rfl) (by rfl) T.n_max (by decide +kernel) (pa_cons pe_int (pa_cons (pe_callB (call_min2 rfl) (by rfl) T.n_min (by decide +kernel) (pa_cons (pe_callB call_len_seq (by rfl) T.n_len PySem.boot_len (pa_cons (pv 0) pa_nil)) (pa_cons pe_int pa_nil))) pa_nil))) pa_nil)) (pg_name (i := 2) sc_law.nd rfl (Or.inl rfl))
  (pss_cons (ps_set (i := 3) sc_law.nd rfl (Or.inl rfl) (pe_call (ok_l_well T) (hr.mono (by decide)) (by rfl) T.m_l_well T.F_l_well.kp T.b_l_well .nil pass0 (pa_cons (pv 0) (pa_cons (pv 2) pa_nil))))
 (pss_cons (ps_expr (pe_bm PySem.F.plainAttrs_list PySem.F.slot_list_append PySem.F.type_list_append mt_append (pv 1) (pa_cons (pe_call (ok_l_pair T) (hr.mono (by decide)) (by rfl) T.m_l_pair T.F_l_pair.kp T.b_l_pair .nil pass0 (pa_cons (pv 3) pa_nil)) pa_nil)))
 (pss_cons (ps_set (i := 4) sc_law.nd rfl (Or.inl rfl) (pe_op op_add pe_int (pe_call (ok_l_take T) (hr.mono (by decide)) (by rfl) T.m_l_take T.F_l_take.kp T.b_l_take .nil pass0 (pa_cons (pv 3) (pa_cons pe_int pa_nil)))))
 (pss_cons (ps_set (i := 5) sc_law.nd rfl (Or.inl rfl) (pe_op op_add pe_int (pe_call (ok_l_take T) (hr.mono (by decide)) (by rfl) T.m_l_take T.F_l_take.kp T.b_l_take .nil pass0 (pa_cons (pv 3) (pa_cons pe_int pa_nil)))))
 (pss_cons (ps_for PassesOwn.never rfl (pi_range1 rfl T.n_range (pa_cons (pe_op op_sub (pv 4) pe_int) pa_nil)) (pg_name (i := 6) sc_law.nd rfl (Or.inl rfl))
  (pss_one (ps_set (i := 5) sc_law.nd rfl (Or.inl rfl) (pe_op op_add (pe_op op_mul pe_int (pv 5)) (pe_call (ok_l_take T) (hr.mono (by decide)) (by rfl) T.m_l_take T.F_l_take.kp T.b_l_take .nil pass0 (pa_cons (pv 3) (pa_cons pe_int pa_nil)))))))
 (pss_cons (ps_expr (pe_bm PySem.F.plainAttrs_list PySem.F.slot_list_append PySem.F.type_list_append mt_append (pv 1) (pa_cons (pe_tup (pa_cons (pe_op op_mulW (pv 5) (pe_ix ix_list (pe_lst (pa_cons pe_int (pa_cons (pe_un un_neg pe_int) pa_nil))) (pe_call (ok_l_take T) (hr.mono (by decide)) (by rfl) T.m_l_take T.F_l_take.kp T.b_l_take .nil pass0 (pa_cons (pv 3) (pa_cons pe_int pa_nil))) (fun _ _ => rfl))) (pa_cons pe_int pa_nil))) pa_nil)))
 (pss_cons (ps_set (i := 7) sc_law.nd rfl (Or.inl rfl) (pe_op op_add pe_int (pe_call (ok_l_take T) (hr.mono (by decide)) (by rfl) T.m_l_take T.F_l_take.kp T.b_l_take .nil pass0 (pa_cons (pv 3) (pa_cons pe_int pa_nil)))))
 (pss_one (ps_for PassesOwn.never rfl (pi_range1 rfl T.n_range (pa_cons pe_int pa_nil)) (pg_name (i := 6) sc_law.nd rfl (Or.inl rfl))
  (pss_one (ps_expr (pe_bm PySem.F.plainAttrs_list PySem.F.slot_list_append PySem.F.type_list_append mt_append (pv 1) (pa_cons (pe_tup (pa_cons (pe_op op_sub (pv 6) pe_int) (pa_cons (pe_op op_add (pv 7) (pe_op op_mod (pv 6) pe_int)) pa_nil))) pa_nil))))))))))))))
 (pss_cons (ps_set (i := 1) sc_law.nd rfl (Or.inl rfl) (pe_op op_cat (pv 1) (pe_lst (pa_cons (pe_tup (pa_cons (pe_op op_sub (pe_op op_pow pe_int pe_int) pe_int) (pa_cons pe_int pa_nil))) (pa_cons (pe_tup (pa_cons (pe_op op_sub pe_int (pe_op op_pow pe_int pe_int)) (pa_cons pe_int pa_nil))) pa_nil)))))
 (pss_cons (ps_set (i := 1) sc_law.nd rfl (Or.inl rfl) (pe_op op_cat (pv 1) (pe_lst (pa_cons (pe_tup (pa_cons (pe_op op_mul (pe_op op_fdiv (pe_op op_pow pe_int pe_int) pe_int) pe_int) (pa_cons (pe_op op_pow pe_int pe_int) pa_nil))) (pa_cons (pe_tup (pa_cons (pe_op op_sub pe_int (pe_op op_mul (pe_op op_fdiv (pe_op op_pow pe_int pe_int) pe_int) pe_int)) (pa_cons (pe_op op_pow pe_int pe_int) pa_nil))) pa_nil)))))
 (pss_one (ps_ret (pe_cmpR (op_eqD hr.units) (pe_lc (own := [("_law_row", 8)]) (g := gName 8) rfl sc_law.nd (pi_list (pe_op op_cat (pv 1) (pe_revL (pv 1)))) (blkOk_by (own := [("_law_row", 8)]) (N := ["_law_script", "_law_rows", "_law_k", "_law_well_here", "_law_figures", "_law_top", "_law_turn", "_law_first", "_law_row"]) (sc := defScope s_law) (by decide +kernel)) (fun _ _ _ _ _ => pg_name (i := 8) sc_law.nd rfl (Or.inl rfl)) (fun _ _ _ _ _ => (pts_one (pt_not (pt_val (pe_callG hG (okG_l_right T) (hr.mono (by decide)) (by rfl) T.m_l_right T.F_l_right.kp T.b_l_right .nil pass0 (pa_cons (pv 8) pa_nil)))))) (fun _ _ _ _ _ => (pv 8))) (pe_lst pa_nil) (nomark _)))))))), ?_⟩
    walk_at "rdh"
    refine r_new (by show 0 ≤ 1000; decide) fun r0 hr0 => ?_
    have s0 := Same.new (o := .lst []) hr0
    walk_at "rdh"
    refine r_rng1 ?_
    walk_at "rdh"
    refine ⟨a, _, rfl, .inl (SqL.ext hS s0), ?_⟩
    walk_at "rdh"
    refine ⟨_, _, rfl, ?_⟩
    walk_at "rdh"
    refine ⟨_, _, rfl, ?_⟩
    walk_at "rdh"
    rw [List.length_map]
    have nb : (if (if (8 : Int) < (ns.length : Int) then 8 else (ns.length : Int)) > 1 then (if (8 : Int) < (ns.length : Int) then 8 else (ns.length : Int)) else 1) ≤ 8 ∧ 0 ≤ (if (if (8 : Int) < (ns.length : Int) then 8 else (ns.length : Int)) > 1 then (if (8 : Int) < (ns.length : Int) then 8 else (ns.length : Int)) else 1) := by
      split <;> split <;> omega
    generalize (if (if (8 : Int) < (ns.length : Int) then 8 else (ns.length : Int)) > 1 then (if (8 : Int) < (ns.length : Int) then 8 else (ns.length : Int)) else 1) = tn at *
    refine ⟨tn, rfl, by omega, by omega, for_range (lo := 0) (n := tn.toNat) (fun i σ H' => ∃ (v2 v3 v4 v5 v6 v7 : Option V), σ = [some (.ref a), some (.ref r0), v2, v3, v4, v5, v6, v7, none] ∧ Same H H' ∧ Rows H' r0 (27 * i))
      ⟨none, none, none, none, none, none, rfl, s0, [], upd_same, by decide, fun v hv => by cases hv⟩ ?_ ?_⟩
    · rintro i σ H1 hi ⟨v2, v3, v4, v5, v6, v7, rfl, s1, rows⟩
      walk_at "rdh"
      have hk : (0 : Int) + (i : Int) = ((i : Nat) : Int) := by omega
      rw [hk]
      refine ⟨a, ns, i, rfl, SqL.ext hS s1, fun d H2 s2 nd w2 => ?_⟩
      have nd0 := none_of s1 nd
      have rd : r0 ≠ d := by
        obtain ⟨xs, h1⟩ := rows.at_
        exact ne_of_none h1 nd
      walk_at "rdh"
      have s02 := s1.trans s2
      obtain ⟨xs0, hx0⟩ := (rows.same s2).at_
      refine ⟨ty_list hx0, ?_⟩
      walk_at "rdh"
      refine ⟨d, rfl, w2, fun p t b H3 o3 w3 hp tb b0 bl => ?_⟩
      have rows3 := (rows.same s2).out o3 w2 rd
      have s03 := same_out s02 nd0 o3
      walk_at "rdh"
      refine (rows_app (K := K) s03 hr0 rows3 hp (row_pair tb b0 bl) (by omega) fun H4 s04 k4 rows4 => ?_).2
      have w4 : WellAt H4 d := by
        obtain ⟨x, y, z, e⟩ := w3
        exact ⟨x, y, z, k4 _ _ rd.symm e⟩
      walk_at "rdh"
      refine rd_take w4 (by decide) (by decide) fun fg H5 o5 w5 fg0 fg1 => ?_
      walk_at "rdh"
      refine rd_take w5 (by decide) (by decide) fun tp H6 o6 w6 tp0 tp1 => ?_
      have o46 := o5.trans o6
      walk_at "rdh"
      refine r_rng1 ?_
      walk_at "rdh"
      refine ⟨_, rfl, by omega, by omega, ?_⟩
      have fn : (1 + fg - 1).toNat = fg.toNat := by omega
      rw [fn]
      refine for_range (lo := 0) (n := fg.toNat) (fun j σ H' => ∃ (v6 : Option V) (top : Int), σ = [some (.ref a), some (.ref r0), some (.int ((i : Nat) : Int)), some (.ref d), some (.int (1 + fg)), some (.int top), v6, v7, none] ∧ Out d H4 H' ∧ WellAt H' d ∧ 0 < top ∧ top < 10 ^ (j + 1))
        ⟨v6, 1 + tp, rfl, o46, w6, by omega, by omega⟩ ?_ ?_
      · rintro j σ H7 hj ⟨v6, top, rfl, o7, w7, t0, t1⟩
        walk_at "rdh"
        refine rd_take w7 (by decide) (by decide) fun e8 H8 o8 w8 e80 e81 => ?_
        walk_at "rdh"
        refine ⟨_, _, rfl, o7.trans o8, w8, by omega, ?_⟩
        rw [Int.pow_succ]
        omega
      rintro σ H7 ⟨v6, top, rfl, o7, w7, t0, t1⟩
      have tl : top < 10 ^ 59 := by
        have m : (10 : Nat) ^ (fg.toNat + 1) ≤ 10 ^ 59 := Nat.pow_le_pow_right (by decide) (by omega)
        have m2 : ((10 ^ (fg.toNat + 1) : Nat) : Int) ≤ ((10 ^ 59 : Nat) : Int) := Int.ofNat_le.mpr m
        rw [Int.natCast_pow, Int.natCast_pow] at m2
        exact Int.lt_of_lt_of_le t1 m2
      have E59 : (10 : Int) ^ 59 = 100000000000000000000000000000000000000000000000000000000000 := by decide
      have E59n : (10 : Nat) ^ 59 = 100000000000000000000000000000000000000000000000000000000000 := by decide
      have rows7 := rows4.out o7 w4 rd
      have s07 := same_out s04 nd0 o7
      obtain ⟨xs7, hx7⟩ := rows7.at_
      walk_at "rdh"
      refine ⟨ty_list hx7, ?_⟩
      walk_at "rdh"
      refine r_new (by show 2 ≤ 1000; decide) fun sg hsg => ?_
      have sS := Same.new (o := .lst [.int 1, .int (-1)]) hsg
      walk_at "rdh"
      refine rd_take (w7.same sS) (by decide) (by decide) fun e8 H8 o8 w8 e80 e81 => ?_
      have hG := o8 sg _ (well_ne w7 hsg) upd_same
      refine r_pick [1, -1] hG e80 e81 fun f1 hf1 => ?_
      have f1' : f1 = 1 ∨ f1 = -1 := by simpa using hf1
      walk_at "rdh"
      refine r_I (wide_mul (a := 200) (b := 2) (by omega) (by omega) (by decide) (by decide) (by decide)) ?_
      walk_at "rdh"
      refine r_new (by show 2 ≤ 1000; decide) fun p2 hp2 => ?_
      have s8' := Same.new (o := .tup [.int (top * f1), .int 1]) hp2
      have rows8 := ((rows7.same sS).out o8 (w7.same sS) rd).same s8'
      have s08 := (same_out (s07.trans sS) nd0 o8).trans s8'
      have w8' := w8.same s8'
      walk_at "rdh"
      refine (rows_app (K := K) s08 hr0 rows8 upd_same (row_one (by rcases f1' with rfl | rfl <;> omega)) (by omega) fun H9 s09 k9 rows9 => ?_).2
      have w9 : WellAt H9 d := by
        obtain ⟨x, y, z, e⟩ := w8'
        exact ⟨x, y, z, k9 _ _ rd.symm e⟩
      walk_at "rdh"
      refine rd_take w9 (by decide) (by decide) fun fs H10 o10 w10 fs0 fs1 => ?_
      have rows10 := rows9.out o10 w9 rd
      have s010 := same_out s09 nd0 o10
      walk_at "rdh"
      refine r_rng1 ?_
      walk_at "rdh"
      refine ⟨25, rfl, by decide, by decide, for_range (lo := 0) (n := 25) (fun j σ H' => ∃ (v6 : Option V), σ = [some (.ref a), some (.ref r0), some (.int ((i : Nat) : Int)), some (.ref d), some (.int (1 + fg)), some (.int top), v6, some (.int (1 + fs)), none] ∧ Same H H' ∧ Rows H' r0 (27 * i + 2 + j))
        ⟨_, rfl, s010, rows10.mono (by omega)⟩ ?_ ?_⟩
      · rintro j σ H11 hj ⟨v6, rfl, s11, rows11⟩
        obtain ⟨xs11, hx11⟩ := rows11.at_
        walk_at "rdh"
        refine ⟨ty_list hx11, ?_⟩
        walk_at "rdh"
        refine r_new (by show 2 ≤ 1000; decide) fun p3 hp3 => ?_
        have s12 := Same.new (o := .tup [.int (0 + (j : Int) - 12), .int (1 + fs + (0 + (j : Int)) % 4)]) hp3
        walk_at "rdh"
        refine (rows_app (K := K) (s11.trans s12) hr0 (rows11.same s12) upd_same (row_small (by omega) (by omega) (by omega)) (by omega) fun H13 s13 k13 rows13 => ?_).2
        walk_at "rdh"
        exact ⟨_, rfl, s13, rows13⟩
      rintro σ H11 ⟨v6, rfl, s11, rows11⟩
      walk_at "rdh"
      exact ⟨_, _, _, _, _, _, rfl, s11, rows11.mono (by omega)⟩
    · rintro σ H1 ⟨v2, v3, v4, v5, v6, v7, rfl, s1, rows1⟩
      have m0 := Made.start H1
      walk_at "rdh"
      refine r_new (by show 2 ≤ 1000; decide) fun p1 q1 => ?_
      have m1 := m0.new (t := 10 ^ (60 : Int).toNat - 1) (b := 1) q1 ⟨by decide, by decide, by decide, Nat.le_trans (ntext_one (i := 60) (by decide) (by decide)) (by decide)⟩
      walk_at "rdh"
      refine r_new (by show 2 ≤ 1000; decide) fun p2 q2 => ?_
      have m2 : Made H1 _ [.ref p1, .ref p2] := m1.new (t := 1 - 10 ^ (59 : Int).toNat) (b := 1) q2 (row_one (by decide))
      walk_at "rdh"
      refine r_new (by show 2 ≤ 1000; decide) fun lr hlr => ?_
      refine rows_cat (m := 2) rows1 m2 hlr (by show 2 ≤ 2; decide) (by omega) fun r2 H2 s2 nr2 rows2 => ?_
      have n0 := Made.start H2
      walk_at "rdh"
      refine r_new (by show 2 ≤ 1000; decide) fun p3 q3 => ?_
      have n1 := n0.new (t := 10 ^ (47 : Int).toNat / 9 * 7) (b := 10 ^ (11 : Int).toNat) q3 ⟨by decide, by decide, by decide, Nat.le_trans (ntext_pos (i := 47) (j := 12) (by decide) (by decide) (by decide) (by decide) (by decide) (by decide)) (by decide)⟩
      walk_at "rdh"
      refine r_new (by show 2 ≤ 1000; decide) fun p4 q4 => ?_
      have n2 : Made H2 _ [.ref p3, .ref p4] := n1.new (t := 0 - 10 ^ (46 : Int).toNat / 9 * 7) (b := 10 ^ (11 : Int).toNat) q4 ⟨by decide, by decide, by decide, Nat.le_trans (ntext_any (i := 46) (j := 12) (by decide) (by decide) (by decide) (by decide) (by decide)) (by decide)⟩
      walk_at "rdh"
      refine r_new (by show 2 ≤ 1000; decide) fun lr2 hlr2 => ?_
      refine rows_cat (m := 2) rows2 n2 hlr2 (by show 2 ≤ 2; decide) (by omega) fun r3 H3 s3 nr3 rows3 => ?_
      obtain ⟨xs, h3, lx, okx⟩ := rows3
      walk_at "rdh"
      refine r_lcL ?_
      walk_at "rdh"
      refine ⟨r3, xs, rfl, SqL.of h3, fun rv hrv => ?_⟩
      have sv := Same.new (o := .lst xs.reverse) hrv
      refine r_cat (sv _ _ h3) upd_same (by rw [List.length_reverse]; omega) fun z hz => ?_
      have sz := sv.trans (Same.new (o := .lst (xs ++ xs.reverse)) hz)
      have hZ : upd (upd H3 rv (.lst xs.reverse)) z (.lst (xs ++ xs.reverse)) z = some (.lst (xs ++ xs.reverse)) := upd_same
      have okz : ∀ v ∈ xs ++ xs.reverse, RowOk (upd (upd H3 rv (.lst xs.reverse)) z (.lst (xs ++ xs.reverse))) v := fun v hv => by
        have : v ∈ xs := by
          rcases List.mem_append.mp hv with h | h
          · exact h
          · exact List.mem_reverse.mp h
        exact (okx v this).same sz
      generalize upd (upd H3 rv (.lst xs.reverse)) z (.lst (xs ++ xs.reverse)) = H4 at *
      refine ⟨z, rfl, ⟨_, SqL.of hZ⟩, fun D hD => lc_list (K := K) (a := z) (xs := xs ++ xs.reverse) (fun j H' => Same H4 H' ∧ H' D = some (.lst []))
        ⟨Same.new hD, upd_same⟩ (fun j H' _ ⟨s, _⟩ => SqL.of (s _ _ hZ)) ?_ ?_⟩
      · rintro j y H5 hy ⟨s5, hD5⟩
        obtain ⟨p, t, b, rfl, hp, ok⟩ := (okz y (List.mem_of_getElem? hy)).same s5
        walk_at "rdh"
        refine ⟨rfl, ?_⟩
        walk_at "rdh"
        refine ⟨p, t, b, rfl, hp, ok, fun H6 s6 => ?_⟩
        walk_at "rdh"
        refine r_iteF rfl ?_
        exact ⟨s5.trans s6, s6 _ _ hD5⟩
      · rintro H5 ⟨s5, hD5⟩
        walk_at "rdh"
        refine r_new (by show 0 ≤ 1000; decide) fun e he => ?_
        refine ⟨.list [], .list [], .lst (SqL.of (xs := []) (Same.new he _ _ hD5)) .nil, .lst (SqL.of (xs := []) upd_same) .nil, by decide +kernel, by decide +kernel, ?_⟩
        rw [show PyData.eqv (.list []) (.list []) = true by decide +kernel]
        exact k _
end
end My

namespace My
open PySem L2
theorem kit_self {K : PySem.W.Frag} {C : Addr} : PySem.W.kitOne K (.ref C) (.ref C) = some true := if_pos (by simp)
theorem bi_Number_init {K : PySem.W.Frag} {f : Addr} {fd : FuncData} (F : FunD K "__init__" "Number.__init__" (defArgs s_Number_init) (defBody s_Number_init) (defScope s_Number_init) [V.int 1] [] f fd) :
    Binds K fd ["self", "top", "bottom"] [] ∧ ∃ ds : List Value, Vals [V.int 1] ds ∧ Binds K fd ["self", "top", "bottom"] ds := by
  constructor
  · obtain ⟨ds, r, b⟩ := F.binds1 (ps := ["self", "top", "bottom"]) 3 1 (by simp) rfl fun T kV doc pm an cdv ct us its h1 h2 => match us, its, h1, h2 with | [_, _, _], [_], _, _ => ⟨_, rfl, rfl⟩
    cases r
    exact b
  · exact F.binds1 (ps := ["self", "top", "bottom"]) 2 0 (by simp) rfl fun T kV doc pm an cdv ct us its h1 h2 => match us, its, h1, h2 with | [_, _], [_], _, _ => ⟨_, rfl, rfl⟩
theorem all_mk {l : PySem.W.OpenLaw} {w : World} {K : PySem.W.Frag} {h : Heap} {mg : Str → Option Value} {fa : Addr} (X : K.In h) (G : h.Ns mainGlobals mg) (hfa : mg "law" = some (.ref fa))
    {C_Number : Addr}
    {f_Number_init : Addr} {od_Number_init an_Number_init : Option Addr} {sl_Number_init : Array (Option Value)} {oc_Number_init dc_Number_init pm_Number_init cd_Number_init ct_Number_init : Value}
    {kV_Number_init : Value}
    {Td_Number_init : Addr} {cT_Number_init : Value} {dT_Number_init : Option Addr} {nT_Number_init : Nat} {sT_Number_init : Array (Option Value)} {tk_Number_init : Tok}
    {f_Number_eq : Addr} {od_Number_eq an_Number_eq : Option Addr} {sl_Number_eq : Array (Option Value)} {oc_Number_eq dc_Number_eq pm_Number_eq cd_Number_eq ct_Number_eq : Value}
    {kV_Number_eq : Value}
    {f_Number_str : Addr} {od_Number_str an_Number_str : Option Addr} {sl_Number_str : Array (Option Value)} {oc_Number_str dc_Number_str pm_Number_str cd_Number_str ct_Number_str : Value}
    {kV_Number_str : Value}
    {f_Number_over : Addr} {od_Number_over an_Number_over : Option Addr} {sl_Number_over : Array (Option Value)} {oc_Number_over dc_Number_over pm_Number_over cd_Number_over ct_Number_over : Value}
    {kV_Number_over : Value}
    {f_read_number : Addr} {od_read_number an_read_number : Option Addr} {sl_read_number : Array (Option Value)} {oc_read_number dc_read_number pm_read_number cd_read_number ct_read_number : Value}
    {kV_read_number : Value}
    {f_whole : Addr} {od_whole an_whole : Option Addr} {sl_whole : Array (Option Value)} {oc_whole dc_whole pm_whole cd_whole ct_whole : Value}
    {kV_whole : Value}
    {f_l_well : Addr} {od_l_well an_l_well : Option Addr} {sl_l_well : Array (Option Value)} {oc_l_well dc_l_well pm_l_well cd_l_well ct_l_well : Value}
    {kV_l_well : Value}
    {f_l_take : Addr} {od_l_take an_l_take : Option Addr} {sl_l_take : Array (Option Value)} {oc_l_take dc_l_take pm_l_take cd_l_take ct_l_take : Value}
    {kV_l_take : Value}
    {f_l_ten : Addr} {od_l_ten an_l_ten : Option Addr} {sl_l_ten : Array (Option Value)} {oc_l_ten dc_l_ten pm_l_ten cd_l_ten ct_l_ten : Value}
    {kV_l_ten : Value}
    {f_l_pair : Addr} {od_l_pair an_l_pair : Option Addr} {sl_l_pair : Array (Option Value)} {oc_l_pair dc_l_pair pm_l_pair cd_l_pair ct_l_pair : Value}
    {kV_l_pair : Value}
    {f_l_lowest : Addr} {od_l_lowest an_l_lowest : Option Addr} {sl_l_lowest : Array (Option Value)} {oc_l_lowest dc_l_lowest pm_l_lowest cd_l_lowest ct_l_lowest : Value}
    {kV_l_lowest : Value}
    {f_l_right : Addr} {od_l_right an_l_right : Option Addr} {sl_l_right : Array (Option Value)} {oc_l_right dc_l_right pm_l_right cd_l_right ct_l_right : Value}
    {kV_l_right : Value}
    {f_law : Addr} {od_law an_law : Option Addr} {sl_law : Array (Option Value)} {oc_law dc_law pm_law cd_law ct_law : Value}
    {kV_law : Value}
    {t_c_LONGEST_TEXT : Tok}
    (aC_Number : PySem.W.nsIn K mainGlobals "Number" = some (some (.ref C_Number)))
    (pg_Number : PySem.W.plainGet K C_Number Str.empty = true)
    (hd_Number : PySem.W.hasDictIn K C_Number = true)
    (po_Number : PySem.W.plainOver K C_Number = true)
    (sa_Number : PySem.W.findIn K (.ref C_Number) "__setattr__" = some (some (.builtin "object.__setattr__")))
    (nf_Number_top : PySem.W.findIn K (.ref C_Number) "top" = some none)
    (nf_Number_bottom : PySem.W.findIn K (.ref C_Number) "bottom" = some none)
    (tc_Number : PySem.W.findIn K (.ref C_Number) "__class__" = some (some (.builtin "object.__class__")))
    (tg_Number : PySem.W.specialIn K (.builtin "object.__class__") "__get__" = some (some (.builtin "getset_descriptor.__get__")))
    (tt_Number : PySem.W.takesIn K (.builtin "object.__class__") = some true)
    (tm_Number : PySem.W.mroIn K C_Number (.type "object") = some true)
    (nn_Number : PySem.W.findIn K (.ref C_Number) "__ne__" = some (some (.builtin "object.__ne__")))
    (mi_Number : PySem.W.makesIn K C_Number = true)
    (kc_Number : PySem.W.keepIn K (.ref C_Number) = true)
    (a_Number_init : PySem.W.findIn K (.ref C_Number) "__init__" = some (some (.ref f_Number_init)))
    (i_Number_init : PySem.W.isFn K (.ref f_Number_init) = true)
    (l_Number_init : K.lookup f_Number_init = some ⟨oc_Number_init, od_Number_init, .func (PySem.W.fnOf "__init__" "Number.__init__" (defArgs s_Number_init) (defBody s_Number_init) (defScope s_Number_init) (.ref Td_Number_init) kV_Number_init dc_Number_init pm_Number_init an_Number_init cd_Number_init ct_Number_init), sl_Number_init⟩)
    (c_Number_init : PySem.W.codeIn K cd_Number_init "Number.__init__" = true)
    (k_Number_init : PySem.W.keepIn K (.ref f_Number_init) = true)
    (T_Number_init : K.lookup Td_Number_init = some ⟨cT_Number_init, dT_Number_init, .seq #[.int 1 tk_Number_init] nT_Number_init, sT_Number_init⟩)
    (a_Number_eq : PySem.W.findIn K (.ref C_Number) "__eq__" = some (some (.ref f_Number_eq)))
    (i_Number_eq : PySem.W.isFn K (.ref f_Number_eq) = true)
    (l_Number_eq : K.lookup f_Number_eq = some ⟨oc_Number_eq, od_Number_eq, .func (PySem.W.fnOf "__eq__" "Number.__eq__" (defArgs s_Number_eq) (defBody s_Number_eq) (defScope s_Number_eq) .none kV_Number_eq dc_Number_eq pm_Number_eq an_Number_eq cd_Number_eq ct_Number_eq), sl_Number_eq⟩)
    (c_Number_eq : PySem.W.codeIn K cd_Number_eq "Number.__eq__" = true)
    (k_Number_eq : PySem.W.keepIn K (.ref f_Number_eq) = true)
    (a_Number_str : PySem.W.findIn K (.ref C_Number) "__str__" = some (some (.ref f_Number_str)))
    (i_Number_str : PySem.W.isFn K (.ref f_Number_str) = true)
    (l_Number_str : K.lookup f_Number_str = some ⟨oc_Number_str, od_Number_str, .func (PySem.W.fnOf "__str__" "Number.__str__" (defArgs s_Number_str) (defBody s_Number_str) (defScope s_Number_str) .none kV_Number_str dc_Number_str pm_Number_str an_Number_str cd_Number_str ct_Number_str), sl_Number_str⟩)
    (c_Number_str : PySem.W.codeIn K cd_Number_str "Number.__str__" = true)
    (k_Number_str : PySem.W.keepIn K (.ref f_Number_str) = true)
    (a_Number_over : PySem.W.findIn K (.ref C_Number) "over" = some (some (.ref f_Number_over)))
    (i_Number_over : PySem.W.isFn K (.ref f_Number_over) = true)
    (l_Number_over : K.lookup f_Number_over = some ⟨oc_Number_over, od_Number_over, .func (PySem.W.fnOf "over" "Number.over" (defArgs s_Number_over) (defBody s_Number_over) (defScope s_Number_over) .none kV_Number_over dc_Number_over pm_Number_over an_Number_over cd_Number_over ct_Number_over), sl_Number_over⟩)
    (c_Number_over : PySem.W.codeIn K cd_Number_over "Number.over" = true)
    (k_Number_over : PySem.W.keepIn K (.ref f_Number_over) = true)
    (a_read_number : PySem.W.nsIn K mainGlobals "read_number" = some (some (.ref f_read_number)))
    (l_read_number : K.lookup f_read_number = some ⟨oc_read_number, od_read_number, .func (PySem.W.fnOf "read_number" "read_number" (defArgs s_read_number) (defBody s_read_number) (defScope s_read_number) .none kV_read_number dc_read_number pm_read_number an_read_number cd_read_number ct_read_number), sl_read_number⟩)
    (c_read_number : PySem.W.codeIn K cd_read_number "read_number" = true)
    (k_read_number : PySem.W.keepIn K (.ref f_read_number) = true)
    (a_whole : PySem.W.nsIn K mainGlobals "_whole" = some (some (.ref f_whole)))
    (l_whole : K.lookup f_whole = some ⟨oc_whole, od_whole, .func (PySem.W.fnOf "_whole" "_whole" (defArgs s_whole) (defBody s_whole) (defScope s_whole) .none kV_whole dc_whole pm_whole an_whole cd_whole ct_whole), sl_whole⟩)
    (c_whole : PySem.W.codeIn K cd_whole "_whole" = true)
    (k_whole : PySem.W.keepIn K (.ref f_whole) = true)
    (a_l_well : PySem.W.nsIn K mainGlobals "_law_well" = some (some (.ref f_l_well)))
    (l_l_well : K.lookup f_l_well = some ⟨oc_l_well, od_l_well, .func (PySem.W.fnOf "_law_well" "_law_well" (defArgs s_l_well) (defBody s_l_well) (defScope s_l_well) .none kV_l_well dc_l_well pm_l_well an_l_well cd_l_well ct_l_well), sl_l_well⟩)
    (c_l_well : PySem.W.codeIn K cd_l_well "_law_well" = true)
    (k_l_well : PySem.W.keepIn K (.ref f_l_well) = true)
    (a_l_take : PySem.W.nsIn K mainGlobals "_law_take" = some (some (.ref f_l_take)))
    (l_l_take : K.lookup f_l_take = some ⟨oc_l_take, od_l_take, .func (PySem.W.fnOf "_law_take" "_law_take" (defArgs s_l_take) (defBody s_l_take) (defScope s_l_take) .none kV_l_take dc_l_take pm_l_take an_l_take cd_l_take ct_l_take), sl_l_take⟩)
    (c_l_take : PySem.W.codeIn K cd_l_take "_law_take" = true)
    (k_l_take : PySem.W.keepIn K (.ref f_l_take) = true)
    (a_l_ten : PySem.W.nsIn K mainGlobals "_law_ten" = some (some (.ref f_l_ten)))
    (l_l_ten : K.lookup f_l_ten = some ⟨oc_l_ten, od_l_ten, .func (PySem.W.fnOf "_law_ten" "_law_ten" (defArgs s_l_ten) (defBody s_l_ten) (defScope s_l_ten) .none kV_l_ten dc_l_ten pm_l_ten an_l_ten cd_l_ten ct_l_ten), sl_l_ten⟩)
    (c_l_ten : PySem.W.codeIn K cd_l_ten "_law_ten" = true)
    (k_l_ten : PySem.W.keepIn K (.ref f_l_ten) = true)
    (a_l_pair : PySem.W.nsIn K mainGlobals "_law_pair" = some (some (.ref f_l_pair)))
    (l_l_pair : K.lookup f_l_pair = some ⟨oc_l_pair, od_l_pair, .func (PySem.W.fnOf "_law_pair" "_law_pair" (defArgs s_l_pair) (defBody s_l_pair) (defScope s_l_pair) .none kV_l_pair dc_l_pair pm_l_pair an_l_pair cd_l_pair ct_l_pair), sl_l_pair⟩)
    (c_l_pair : PySem.W.codeIn K cd_l_pair "_law_pair" = true)
    (k_l_pair : PySem.W.keepIn K (.ref f_l_pair) = true)
    (a_l_lowest : PySem.W.nsIn K mainGlobals "_law_lowest" = some (some (.ref f_l_lowest)))
    (l_l_lowest : K.lookup f_l_lowest = some ⟨oc_l_lowest, od_l_lowest, .func (PySem.W.fnOf "_law_lowest" "_law_lowest" (defArgs s_l_lowest) (defBody s_l_lowest) (defScope s_l_lowest) .none kV_l_lowest dc_l_lowest pm_l_lowest an_l_lowest cd_l_lowest ct_l_lowest), sl_l_lowest⟩)
    (c_l_lowest : PySem.W.codeIn K cd_l_lowest "_law_lowest" = true)
    (k_l_lowest : PySem.W.keepIn K (.ref f_l_lowest) = true)
    (a_l_right : PySem.W.nsIn K mainGlobals "_law_right" = some (some (.ref f_l_right)))
    (l_l_right : K.lookup f_l_right = some ⟨oc_l_right, od_l_right, .func (PySem.W.fnOf "_law_right" "_law_right" (defArgs s_l_right) (defBody s_l_right) (defScope s_l_right) .none kV_l_right dc_l_right pm_l_right an_l_right cd_l_right ct_l_right), sl_l_right⟩)
    (c_l_right : PySem.W.codeIn K cd_l_right "_law_right" = true)
    (k_l_right : PySem.W.keepIn K (.ref f_l_right) = true)
    (a_law : PySem.W.nsIn K mainGlobals "law" = some (some (.ref f_law)))
    (l_law : K.lookup f_law = some ⟨oc_law, od_law, .func (PySem.W.fnOf "law" "law" (defArgs s_law) (defBody s_law) (defScope s_law) .none kV_law dc_law pm_law an_law cd_law ct_law), sl_law⟩)
    (c_law : PySem.W.codeIn K cd_law "law" = true)
    (k_law : PySem.W.keepIn K (.ref f_law) = true)
    (a_gcd : PySem.W.nsIn K mainGlobals "gcd" = some (some (.builtin "math.gcd")))
    (z_range : PySem.W.nsIn K mainGlobals "range" = some none)
    (z_isinstance : PySem.W.nsIn K mainGlobals "isinstance" = some none)
    (z_str : PySem.W.nsIn K mainGlobals "str" = some none)
    (z_int : PySem.W.nsIn K mainGlobals "int" = some none)
    (z_len : PySem.W.nsIn K mainGlobals "len" = some none)
    (z_abs : PySem.W.nsIn K mainGlobals "abs" = some none)
    (z_max : PySem.W.nsIn K mainGlobals "max" = some none)
    (z_min : PySem.W.nsIn K mainGlobals "min" = some none)
    (z_repr : PySem.W.nsIn K mainGlobals "repr" = some none)
    (a_LONGEST_TEXT : PySem.W.nsIn K mainGlobals "LONGEST_TEXT" = some (some (.int 60 t_c_LONGEST_TEXT)))
    : ∃ fd : FuncData, (∀ (s : Shared) (v : Value), BindsTo s fd ⟨[v], []⟩ [("_law_script", v)]) ∧ ∀ base : Heap, K.In base → base.Ns mainGlobals mg → FnG l.prog w K mg base 6 fa fd ["_law_script"] (spLaw K) := by
  have e := hfa.symm.trans (PySem.W.mg_of X G a_law)
  cases e
  have F_Number_init : FunD K "__init__" "Number.__init__" (defArgs s_Number_init) (defBody s_Number_init) (defScope s_Number_init) [V.int 1] [] f_Number_init _ := ⟨⟨_, _, _, _, _, _, _, _, _, _, rfl, l_Number_init, c_Number_init, .inr ⟨by simp, Td_Number_init, _, _, _, rfl, T_Number_init, rfl, .cons ⟨_, rfl⟩ .nil⟩, .inl rfl⟩, k_Number_init⟩
  obtain ⟨b_Number_init2, ds_Number_init1, d_Number_init1, b_Number_init1⟩ := bi_Number_init F_Number_init
  have F_Number_eq := fun_mk (st := s_Number_eq) l_Number_eq c_Number_eq k_Number_eq
  have b_Number_eq := F_Number_eq.binds (ps := ["self", "other"]) fun _ _ _ _ _ _ us hl => match us, hl with | [_, _], _ => rfl
  have F_Number_str := fun_mk (st := s_Number_str) l_Number_str c_Number_str k_Number_str
  have b_Number_str := F_Number_str.binds (ps := ["self"]) fun _ _ _ _ _ _ us hl => match us, hl with | [_], _ => rfl
  have F_Number_over := fun_mk (st := s_Number_over) l_Number_over c_Number_over k_Number_over
  have b_Number_over := F_Number_over.binds (ps := ["self", "other"]) fun _ _ _ _ _ _ us hl => match us, hl with | [_, _], _ => rfl
  have F_read_number := fun_mk (st := s_read_number) l_read_number c_read_number k_read_number
  have b_read_number := F_read_number.binds (ps := ["text"]) fun _ _ _ _ _ _ us hl => match us, hl with | [_], _ => rfl
  have F_whole := fun_mk (st := s_whole) l_whole c_whole k_whole
  have b_whole := F_whole.binds (ps := ["text"]) fun _ _ _ _ _ _ us hl => match us, hl with | [_], _ => rfl
  have F_l_well := fun_mk (st := s_l_well) l_l_well c_l_well k_l_well
  have b_l_well := F_l_well.binds (ps := ["_law_script", "_law_k"]) fun _ _ _ _ _ _ us hl => match us, hl with | [_, _], _ => rfl
  have F_l_take := fun_mk (st := s_l_take) l_l_take c_l_take k_l_take
  have b_l_take := F_l_take.binds (ps := ["_law_well_here", "_law_top"]) fun _ _ _ _ _ _ us hl => match us, hl with | [_, _], _ => rfl
  have F_l_ten := fun_mk (st := s_l_ten) l_l_ten c_l_ten k_l_ten
  have b_l_ten := F_l_ten.binds (ps := ["_law_power"]) fun _ _ _ _ _ _ us hl => match us, hl with | [_], _ => rfl
  have F_l_pair := fun_mk (st := s_l_pair) l_l_pair c_l_pair k_l_pair
  have b_l_pair := F_l_pair.binds (ps := ["_law_well_here"]) fun _ _ _ _ _ _ us hl => match us, hl with | [_], _ => rfl
  have F_l_lowest := fun_mk (st := s_l_lowest) l_l_lowest c_l_lowest k_l_lowest
  have b_l_lowest := F_l_lowest.binds (ps := ["_law_top", "_law_bottom"]) fun _ _ _ _ _ _ us hl => match us, hl with | [_, _], _ => rfl
  have F_l_right := fun_mk (st := s_l_right) l_l_right c_l_right k_l_right
  have b_l_right := F_l_right.binds (ps := ["_law_pair_here"]) fun _ _ _ _ _ _ us hl => match us, hl with | [_], _ => rfl
  have F_law := fun_mk (st := s_law) l_law c_law k_law
  have b_law := F_law.binds (ps := ["_law_script"]) fun _ _ _ _ _ _ us hl => match us, hl with | [_], _ => rfl
  exact ⟨_, fun s v => .of_eq rfl, fun base _ _ => okG_law (w := w) (K := K) (mg := mg) {
    C_Number := C_Number,
    m_Number := PySem.W.mg_of X G aC_Number,
    c_Number := ⟨pg_Number, hd_Number, po_Number, sa_Number⟩,
    n_Number_top := nf_Number_top,
    n_Number_bottom := nf_Number_bottom,
    ty_Number_c := tc_Number,
    ty_Number_g := tg_Number,
    ty_Number_t := tt_Number,
    ty_Number_m := tm_Number,
    ty_Number_k := kit_self,
    ne_Number := nn_Number,
    f_Number_init := f_Number_init,
    fd_Number_init := _,
    F_Number_init := F_Number_init,
    mk_Number := ⟨mi_Number, a_Number_init, i_Number_init, kc_Number⟩,
    b_Number_init2 := b_Number_init2,
    ds_Number_init1 := ds_Number_init1,
    d_Number_init1 := d_Number_init1,
    b_Number_init1 := b_Number_init1,
    f_Number_eq := f_Number_eq,
    fd_Number_eq := _,
    F_Number_eq := F_Number_eq,
    me_Number_eq := ⟨a_Number_eq, i_Number_eq, k_Number_eq⟩,
    b_Number_eq := b_Number_eq,
    f_Number_str := f_Number_str,
    fd_Number_str := _,
    F_Number_str := F_Number_str,
    me_Number_str := ⟨a_Number_str, i_Number_str, k_Number_str⟩,
    b_Number_str := b_Number_str,
    f_Number_over := f_Number_over,
    fd_Number_over := _,
    F_Number_over := F_Number_over,
    me_Number_over := ⟨a_Number_over, i_Number_over, k_Number_over⟩,
    b_Number_over := b_Number_over,
    m_read_number := PySem.W.mg_of X G a_read_number,
    f_read_number := f_read_number,
    fd_read_number := _,
    F_read_number := F_read_number,
    b_read_number := b_read_number,
    m_whole := PySem.W.mg_of X G a_whole,
    f_whole := f_whole,
    fd_whole := _,
    F_whole := F_whole,
    b_whole := b_whole,
    m_l_well := PySem.W.mg_of X G a_l_well,
    f_l_well := f_l_well,
    fd_l_well := _,
    F_l_well := F_l_well,
    b_l_well := b_l_well,
    m_l_take := PySem.W.mg_of X G a_l_take,
    f_l_take := f_l_take,
    fd_l_take := _,
    F_l_take := F_l_take,
    b_l_take := b_l_take,
    m_l_ten := PySem.W.mg_of X G a_l_ten,
    f_l_ten := f_l_ten,
    fd_l_ten := _,
    F_l_ten := F_l_ten,
    b_l_ten := b_l_ten,
    m_l_pair := PySem.W.mg_of X G a_l_pair,
    f_l_pair := f_l_pair,
    fd_l_pair := _,
    F_l_pair := F_l_pair,
    b_l_pair := b_l_pair,
    m_l_lowest := PySem.W.mg_of X G a_l_lowest,
    f_l_lowest := f_l_lowest,
    fd_l_lowest := _,
    F_l_lowest := F_l_lowest,
    b_l_lowest := b_l_lowest,
    m_l_right := PySem.W.mg_of X G a_l_right,
    f_l_right := f_l_right,
    fd_l_right := _,
    F_l_right := F_l_right,
    b_l_right := b_l_right,
    m_law := PySem.W.mg_of X G a_law,
    f_law := _,
    fd_law := _,
    F_law := F_law,
    b_law := b_law,
    m_gcd := PySem.W.mg_of X G a_gcd,
    n_range := PySem.W.mg_none_of X G z_range,
    n_isinstance := PySem.W.mg_none_of X G z_isinstance,
    n_str := PySem.W.mg_none_of X G z_str,
    n_int := PySem.W.mg_none_of X G z_int,
    n_len := PySem.W.mg_none_of X G z_len,
    n_abs := PySem.W.mg_none_of X G z_abs,
    n_max := PySem.W.mg_none_of X G z_max,
    n_min := PySem.W.mg_none_of X G z_min,
    n_repr := PySem.W.mg_none_of X G z_repr,
    u_LONGEST_TEXT := _,
    m_LONGEST_TEXT := PySem.W.mg_of X G a_LONGEST_TEXT,
    r_LONGEST_TEXT := ⟨_, rfl⟩ }⟩
theorem walk {l : PySem.W.OpenLaw} {q : Program} {loose : List Str} {XP : (Str → Option Value) → Heap → Prop} {YP : World → Heap → Prop} {d : DefRec} {K : Params → PySem.W.Frag} (hn : l.most = some 63) (hdf : d.params.defaults = [])
    (hY : ∀ (w : World) (h : Heap), YP w h → (K w.params).In h)
    (F : ∀ (w : World) (mg : Str → Option Value) (fa : Addr) (h : Heap), (K w.params).In h → h.Ns mainGlobals mg → mg d.name = some (.ref fa) →
      ∃ fd : FuncData, (∀ (s : Shared) (u : Value), BindsTo s fd ⟨[u], []⟩ [("_law_script", u)]) ∧ ∀ base : Heap, (K w.params).In base → base.Ns mainGlobals mg → FnG l.prog w (K w.params) mg base 6 fa fd ["_law_script"] (spLaw (K w.params))) :
    PySem.W.WalkO q loose XP YP l.row.toRowW d [] (fun f vs => PySem.call f vs) :=
  walk_ofG (n := 63) (k := 6) (x := "_law_script") (sp := fun w => spLaw (K w.params)) hn (by decide) hdf ⟨rfl, by decide, by decide⟩ hY F (fun _ _ a ns hl hS => ⟨a, ns, rfl, hS, hl, fun _ => rfl⟩)
end My
open PySem PySem.W PyProof.Rows in
set_option maxRecDepth 100000 in
set_option maxHeartbeats 0 in
theorem PySem.Challenge.cw_figuretexts_k03_numbers_read_holds : PySem.Challenge.rw_figuretexts_k03_numbers_read.Holds := by
  w_on; o_law; k_head; (case hw => w_witness2)
  k_fill
  refine My.walk (l := PySem.Challenge.rw_figuretexts_k03_numbers_read) rfl rfl (fun w h Y => PySem.W.kIn_of Y) ?F
  case F =>
    intro w mg fa h KX G hmg
    refine' My.all_mk KX G hmg ?aC_Number ?pg_Number ?hd_Number ?po_Number ?sa_Number ?nf_Number_top ?nf_Number_bottom ?tc_Number ?tg_Number ?tt_Number ?tm_Number ?nn_Number ?mi_Number ?kc_Number ?a_Number_init ?i_Number_init ?l_Number_init ?c_Number_init ?k_Number_init ?T_Number_init ?a_Number_eq ?i_Number_eq ?l_Number_eq ?c_Number_eq ?k_Number_eq ?a_Number_str ?i_Number_str ?l_Number_str ?c_Number_str ?k_Number_str ?a_Number_over ?i_Number_over ?l_Number_over ?c_Number_over ?k_Number_over ?a_read_number ?l_read_number ?c_read_number ?k_read_number ?a_whole ?l_whole ?c_whole ?k_whole ?a_l_well ?l_l_well ?c_l_well ?k_l_well ?a_l_take ?l_l_take ?c_l_take ?k_l_take ?a_l_ten ?l_l_ten ?c_l_ten ?k_l_ten ?a_l_pair ?l_l_pair ?c_l_pair ?k_l_pair ?a_l_lowest ?l_l_lowest ?c_l_lowest ?k_l_lowest ?a_l_right ?l_l_right ?c_l_right ?k_l_right ?a_law ?l_law ?c_law ?k_law ?a_gcd ?z_range ?z_isinstance ?z_str ?z_int ?z_len ?z_abs ?z_max ?z_min ?z_repr ?a_LONGEST_TEXT
    (case aC_Number => k_is)
    (case pg_Number => k_is)
    (case hd_Number => k_is)
    (case po_Number => k_is)
    (case sa_Number => k_is)
    (case nf_Number_top => k_is)
    (case nf_Number_bottom => k_is)
    (case tc_Number => k_is)
    (case tg_Number => k_is)
    (case tt_Number => k_is)
    (case tm_Number => k_is)
    (case nn_Number => k_is)
    (case mi_Number => k_is)
    (case kc_Number => k_is)
    (case a_Number_init => k_is)
    (case i_Number_init => k_is)
    (case l_Number_init => k_is)
    (case c_Number_init => k_is)
    (case k_Number_init => k_is)
    (case T_Number_init => k_is)
    (case a_Number_eq => k_is)
    (case i_Number_eq => k_is)
    (case l_Number_eq => k_is)
    (case c_Number_eq => k_is)
    (case k_Number_eq => k_is)
    (case a_Number_str => k_is)
    (case i_Number_str => k_is)
    (case l_Number_str => k_is)
    (case c_Number_str => k_is)
    (case k_Number_str => k_is)
    (case a_Number_over => k_is)
    (case i_Number_over => k_is)
    (case l_Number_over => k_is)
    (case c_Number_over => k_is)
    (case k_Number_over => k_is)
    (case a_read_number => k_is)
    (case l_read_number => k_is)
    (case c_read_number => k_is)
    (case k_read_number => k_is)
    (case a_whole => k_is)
    (case l_whole => k_is)
    (case c_whole => k_is)
    (case k_whole => k_is)
    (case a_l_well => k_is)
    (case l_l_well => k_is)
    (case c_l_well => k_is)
    (case k_l_well => k_is)
    (case a_l_take => k_is)
    (case l_l_take => k_is)
    (case c_l_take => k_is)
    (case k_l_take => k_is)
    (case a_l_ten => k_is)
    (case l_l_ten => k_is)
    (case c_l_ten => k_is)
    (case k_l_ten => k_is)
    (case a_l_pair => k_is)
    (case l_l_pair => k_is)
    (case c_l_pair => k_is)
    (case k_l_pair => k_is)
    (case a_l_lowest => k_is)
    (case l_l_lowest => k_is)
    (case c_l_lowest => k_is)
    (case k_l_lowest => k_is)
    (case a_l_right => k_is)
    (case l_l_right => k_is)
    (case c_l_right => k_is)
    (case k_l_right => k_is)
    (case a_law => k_is)
    (case l_law => k_is)
    (case c_law => k_is)
    (case k_law => k_is)
    (case a_gcd => k_is)
    (case z_range => k_is)
    (case z_isinstance => k_is)
    (case z_str => k_is)
    (case z_int => k_is)
    (case z_len => k_is)
    (case z_abs => k_is)
    (case z_max => k_is)
    (case z_min => k_is)
    (case z_repr => k_is)
    (case a_LONGEST_TEXT => k_is)
