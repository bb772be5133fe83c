import PyProof.Rows.All
import Wide.All
import OpenK.AllK
import Wide.FinOn
import HandS.ForMost
import HandS.Wide
import HandS.WideBits
import HandS.Dict
import HandS.OwnEq
import PyProof.SeqRoads2
import HandS.Gcd
import HandS.Defaults
import HandS.CallLocal
import HandS.Style
import HandS.IsInst
import HandS.More
import HandS.TupAny
import HandS.StrMore
import HandS.Codes
import HandS.FStr
import PySem.Challenge.RW_figuretexts_k09_halves_of_steps

set_option Elab.async false
set_option linter.all false
set_option maxRecDepth 100000
set_option maxHeartbeats 4000000

namespace My
/-! numbers as Rat -/
def cdiv (t b : Int) : Int := if b < 0 then -((Nat.gcd t.natAbs b.natAbs : Nat) : Int) else ((Nat.gcd t.natAbs b.natAbs : Nat) : Int)
theorem gcd_pos {t b : Int} (h : b ≠ 0) : 0 < Nat.gcd t.natAbs b.natAbs := Nat.gcd_pos_of_pos_right _ (by omega)
theorem num_of {t b : Int} (h : b ≠ 0) : t.fdiv (cdiv t b) = (Rat.divInt t b).num := by
  have g := gcd_pos (t := t) h
  have d1 : ((Nat.gcd t.natAbs b.natAbs : Nat) : Int) ∣ t := Int.dvd_trans (Int.natCast_dvd_natCast.mpr (Nat.gcd_dvd_left _ _)) (Int.natAbs_dvd.mpr (Int.dvd_refl _))
  rw [Rat.num_divInt]
  have e : ((Int.gcd b t : Nat) : Int) = ((Nat.gcd t.natAbs b.natAbs : Nat) : Int) := by
    rw [Int.gcd_comm]; rfl
  rw [e]
  unfold cdiv
  obtain ⟨k, hk⟩ := d1
  have gn : ((Nat.gcd t.natAbs b.natAbs : Nat) : Int) ≠ 0 := by omega
  generalize ((Nat.gcd t.natAbs b.natAbs : Nat) : Int) = G at *
  subst hk
  by_cases hb : b < 0
  · rw [if_pos hb, Int.sign_eq_neg_one_of_neg hb]
    rw [show G * k = (-G) * (-k) by rw [Int.neg_mul_neg], Int.mul_fdiv_cancel_left _ (by omega)]
    rw [show -1 * (-G * -k) = G * (-k) by rw [Int.neg_mul_neg]; rw [Int.neg_one_mul, Int.mul_neg], Int.mul_ediv_cancel_left _ gn]
  · have hb' : 0 < b := by omega
    rw [if_neg hb, Int.sign_eq_one_of_pos hb', Int.one_mul, Int.mul_fdiv_cancel_left _ gn, Int.mul_ediv_cancel_left _ gn]
theorem den_of {t b : Int} (h : b ≠ 0) : b.fdiv (cdiv t b) = ((Rat.divInt t b).den : Int) := by
  have g := gcd_pos (t := t) h
  have d1 : ((Nat.gcd t.natAbs b.natAbs : Nat) : Int) ∣ b := Int.dvd_trans (Int.natCast_dvd_natCast.mpr (Nat.gcd_dvd_right _ _)) (Int.natAbs_dvd.mpr (Int.dvd_refl _))
  rw [Rat.den_divInt, if_neg h]
  have e : (Int.gcd b t : Nat) = (Nat.gcd t.natAbs b.natAbs : Nat) := by
    rw [Int.gcd_comm]; rfl
  rw [e, Int.natCast_ediv]
  unfold cdiv
  obtain ⟨k, hk⟩ := d1
  have gn : ((Nat.gcd t.natAbs b.natAbs : Nat) : Int) ≠ 0 := by omega
  have gp : 0 < ((Nat.gcd t.natAbs b.natAbs : Nat) : Int) := by omega
  generalize hG : ((Nat.gcd t.natAbs b.natAbs : Nat) : Int) = G at *
  by_cases hb : b < 0
  · rw [if_pos hb, show ((b.natAbs : Nat) : Int) = -b by omega]
    rw [hk, show G * k = (-G) * (-k) by rw [Int.neg_mul_neg], Int.mul_fdiv_cancel_left _ (by omega)]
    rw [show -(-G * -k) = G * (-k) by rw [Int.neg_mul_neg, Int.mul_neg], Int.mul_ediv_cancel_left _ gn]
  · rw [if_neg hb, show ((b.natAbs : Nat) : Int) = b by omega, hk, Int.mul_fdiv_cancel_left _ gn, Int.mul_ediv_cancel_left _ gn]

/-- top and bottom below 2 ^ n -/
def Bd (n : Nat) (q : Rat) : Prop := q.num.natAbs < 2 ^ n ∧ q.den < 2 ^ n
theorem Bd.mono {m n : Nat} {q : Rat} (h : Bd m q) (l : m ≤ n) : Bd n q :=
  ⟨Nat.lt_of_lt_of_le h.1 (Nat.pow_le_pow_right (by decide) l), Nat.lt_of_lt_of_le h.2 (Nat.pow_le_pow_right (by decide) l)⟩
theorem num_le (t b : Int) : (Rat.divInt t b).num.natAbs ≤ t.natAbs := by
  rw [Rat.num_divInt]
  refine Nat.le_trans (Int.natAbs_ediv_le_natAbs _ _) ?_
  rw [Int.natAbs_mul]
  rcases Int.lt_trichotomy b 0 with h | h | h
  · rw [Int.sign_eq_neg_one_of_neg h]; simp
  · subst h; simp
  · rw [Int.sign_eq_one_of_pos h]; simp
theorem den_le {t b : Int} (h : b ≠ 0) : (Rat.divInt t b).den ≤ b.natAbs := by
  rw [Rat.den_divInt, if_neg h]
  exact Nat.div_le_self _ _
theorem Bd.of {n : Nat} {t b : Int} (h : b ≠ 0) (ht : t.natAbs < 2 ^ n) (hb : b.natAbs < 2 ^ n) : Bd n (Rat.divInt t b) :=
  ⟨Nat.lt_of_le_of_lt (num_le t b) ht, Nat.lt_of_le_of_lt (den_le h) hb⟩
theorem den_ne (q : Rat) : ((q.den : Nat) : Int) ≠ 0 := by have := q.den_pos; omega
theorem sub_eq (x y : Rat) : Rat.divInt (x.num * (y.den : Int) - y.num * (x.den : Int)) ((x.den : Int) * (y.den : Int)) = x - y := by
  rw [Rat.sub_def', ← Int.natCast_mul, Rat.divInt_ofNat]
theorem add_eq (x y : Rat) : Rat.divInt (x.num * (y.den : Int) + y.num * (x.den : Int)) ((x.den : Int) * (y.den : Int)) = x + y := by
  rw [Rat.add_def', ← Int.natCast_mul, Rat.divInt_ofNat]
theorem mul_eq (x y : Rat) : Rat.divInt (x.num * y.num) ((x.den : Int) * (y.den : Int)) = x * y := by
  rw [Rat.mul_def', ← Int.natCast_mul, Rat.divInt_ofNat]
theorem div_eq (x y : Rat) : Rat.divInt (x.num * (y.den : Int)) ((x.den : Int) * y.num) = x / y := by
  rw [Rat.div_def, Rat.inv_def, ← Rat.divInt_mul_divInt, Rat.num_divInt_den]
theorem num_ne {y : Rat} (h : y ≠ 0) : y.num ≠ 0 := fun e => h (Rat.num_eq_zero.mp e)
theorem floor_eq (x : Rat) : x.num.fdiv (x.den : Int) = x.floor := by
  rw [Rat.floor_def, Int.fdiv_eq_ediv_of_nonneg _ (by omega)]
theorem natAbs_mul_lt {a b : Int} {m n k : Nat} (ha : a.natAbs < 2 ^ m) (hb : b.natAbs < 2 ^ n) (h : m + n ≤ k) : (a * b).natAbs < 2 ^ k := by
  rw [Int.natAbs_mul]
  exact Nat.lt_of_lt_of_le (Nat.mul_lt_mul'' ha hb) (by rw [← Nat.pow_add]; exact Nat.pow_le_pow_right (by decide) h)
theorem natAbs_sub_lt {a b : Int} {k : Nat} (ha : a.natAbs < 2 ^ k) (hb : b.natAbs < 2 ^ k) : (a - b).natAbs < 2 ^ (k + 1) := by
  rw [Nat.pow_succ]; omega
theorem natAbs_add_lt {a b : Int} {k : Nat} (ha : a.natAbs < 2 ^ k) (hb : b.natAbs < 2 ^ k) : (a + b).natAbs < 2 ^ (k + 1) := by
  rw [Nat.pow_succ]; omega
theorem Bd.sub {m n : Nat} {x y : Rat} (hx : Bd m x) (hy : Bd n y) : Bd (m + n + 1) (x - y) := by
  rw [← sub_eq]
  refine Bd.of (Int.mul_ne_zero (den_ne x) (den_ne y)) ?_ ?_
  · exact natAbs_sub_lt (natAbs_mul_lt (m := m) (n := n) hx.1 (by have := hy.2; omega) (Nat.le_refl _)) (natAbs_mul_lt (m := n) (n := m) hy.1 (by have := hx.2; omega) (by omega))
  · exact natAbs_mul_lt (m := m) (n := n) (by have := hx.2; omega) (by have := hy.2; omega) (by omega)
theorem Bd.mul {m n : Nat} {x y : Rat} (hx : Bd m x) (hy : Bd n y) : Bd (m + n) (x * y) := by
  rw [← mul_eq]
  exact Bd.of (Int.mul_ne_zero (den_ne x) (den_ne y)) (natAbs_mul_lt hx.1 hy.1 (Nat.le_refl _)) (natAbs_mul_lt (m := m) (n := n) (by have := hx.2; omega) (by have := hy.2; omega) (by omega))
theorem Bd.div {m n : Nat} {x y : Rat} (hx : Bd m x) (hy : Bd n y) (h : y ≠ 0) : Bd (m + n) (x / y) := by
  rw [← div_eq]
  exact Bd.of (Int.mul_ne_zero (den_ne x) (num_ne h)) (natAbs_mul_lt (m := m) (n := n) hx.1 (by have := hy.2; omega) (Nat.le_refl _)) (natAbs_mul_lt (m := m) (n := n) (by have := hx.2; omega) hy.1 (by omega))
theorem Bd.int {n : Nat} {i : Int} (h : i.natAbs < 2 ^ n) (h1 : 1 ≤ n) : Bd n (i : Rat) := ⟨h, by
  show 1 < 2 ^ n
  exact Nat.lt_of_lt_of_le (by decide) (Nat.pow_le_pow_right (by decide) h1)⟩
theorem floor_bd {n : Nat} {x : Rat} (h : Bd n x) : x.floor.natAbs < 2 ^ n := by
  rw [Rat.floor_def]
  exact Nat.lt_of_le_of_lt (Int.natAbs_ediv_le_natAbs _ _) h.1
theorem divInt_one (i : Int) : Rat.divInt i 1 = (i : Rat) := by
  have := Rat.divInt_ofNat i 1
  rw [show ((1 : Nat) : Int) = 1 from rfl] at this
  rw [this, Rat.mkRat_eq_div]; simp
  grind

/-! the ways -/
inductive Way where
  | up | down | high | low | hup | hdown | heven | hodd
def nearerB (part : Rat) (a : Bool) : Bool := if 2 * part.num = (part.den : Int) then a else decide ((part.den : Int) < 2 * part.num)
def ruleB : Way → Int → Rat → Bool
  | .up, l, _ => decide (0 ≤ l)
  | .down, l, _ => decide (l < 0)
  | .high, _, _ => true
  | .low, _, _ => false
  | .hup, l, p => nearerB p (decide (0 ≤ l))
  | .hdown, l, p => nearerB p (decide (l < 0))
  | .heven, l, p => nearerB p (decide (l % 2 = 1))
  | .hodd, l, p => nearerB p (decide (l % 2 = 0))
def partQ (n : Rat) : Rat := n - (n.floor : Rat)
def highQ (n : Rat) : Int := if (partQ n).num = 0 then n.floor else n.floor + 1
def takenQ (w : Way) (n : Rat) : Int := if (partQ n).num = 0 then n.floor else if ruleB w n.floor (partQ n) = true then n.floor + 1 else n.floor
theorem floor_add {c : Int} {f : Rat} (h0 : 0 ≤ f) (h1 : f < 1) : ((c : Rat) + f).floor = c := by
  have a : c ≤ ((c : Rat) + f).floor := Rat.le_floor_iff.mpr (by grind)
  have b : ((c : Rat) + f).floor < c + 1 := Rat.floor_lt_iff.mpr (by rw [Rat.intCast_add]; grind)
  omega
theorem part_add {c : Int} {f : Rat} (h0 : 0 ≤ f) (h1 : f < 1) : partQ ((c : Rat) + f) = f := by
  unfold partQ
  rw [floor_add h0 h1]
  grind
theorem taken_add {w : Way} {c : Int} {f : Rat} (h0 : 0 < f) (h1 : f < 1) : takenQ w ((c : Rat) + f) = if ruleB w c f = true then c + 1 else c := by
  unfold takenQ
  rw [part_add (Rat.le_of_lt h0) h1, floor_add (Rat.le_of_lt h0) h1, if_neg (num_ne (by grind))]
/-- a number of whole and part steps -/
theorem steps_eq {a b c p0 p1 : Int} (ha : a ≠ 0) (hb : b ≠ 0) (h1 : p1 ≠ 0) : Rat.divInt (a * (c * p1 + p0)) (b * p1) / Rat.divInt a b = (c : Rat) + Rat.divInt p0 p1 := by
  simp only [Rat.divInt_eq_div, Rat.intCast_mul, Rat.intCast_add]
  have ha' : (a : Rat) ≠ 0 := by simpa using ha
  have hb' : (b : Rat) ≠ 0 := by simpa using hb
  have h1' : (p1 : Rat) ≠ 0 := by simpa using h1
  grind
end My

namespace My
open PySem L2
/-! readings, one head at a time -/
section
variable {σ : L2.St} {H : Hp} {Q : VK} {QB : Bool → Hp → Prop} {QA : List V → Hp → Prop} {QS : L2.St → Hp → Prop} {v x y : V} {ta tb te tc : TE} {tr : TA} {t u : TS} {c d : TT} {g : TG} {i : Nat} {K : PySem.W.Frag} {b : Bool}
  {nx : L2.St → Hp → Prop} {rt : VK} {bk ct : L2.St → Hp → Prop}
theorem r_var (q : ∃ v, σ[i]? = some (some v) ∧ Q v H) : tVar i σ H Q := q
theorem r_c (q : Q v H) : tC v σ H Q := q
theorem r_op {r : R2} (q : ta σ H fun x H1 => tb σ H1 fun y H2 => r x y H2 Q) : tOp r ta tb σ H Q := q
theorem r_un {r : V → Hp → VK → Prop} (q : ta σ H fun x H1 => r x H1 Q) : tUn r ta σ H Q := q
theorem r_U {f : Int → V} {i : Int} (q : Q (f i) H) : rU f (.int i) H Q := ⟨i, rfl, q⟩
theorem r_I0 {f : Int → Int → V} {i j : Int} (q : Q (f i j) H) : rI0 f (.int i) (.int j) H Q := ⟨i, j, rfl, rfl, q⟩
theorem r_I {C : Int → Int → Prop} {f : Int → Int → V} {i j : Int} (h : C i j) (q : Q (f i j) H) : rI C f (.int i) (.int j) H Q := ⟨i, j, rfl, rfl, h, q⟩
theorem r_eq (h : scal x y = true) (q : Q (.bl (decide (x = y))) H) : rEq x y H Q := ⟨h, q⟩
theorem r_ne (h : scal x y = true) (q : Q (.bl (!decide (x = y))) H) : rNe x y H Q := ⟨h, q⟩
theorem r_eqI {i j : Int} (q : Q (.bl (decide (i = j))) H) : rEq (.int i) (.int j) H Q := ⟨rfl, by
  have e : decide (V.int i = V.int j) = decide (i = j) := by simp
  rw [e]; exact q⟩
theorem r_neI {i j : Int} (q : Q (.bl (!decide (i = j))) H) : rNe (.int i) (.int j) H Q := ⟨rfl, by
  have e : decide (V.int i = V.int j) = decide (i = j) := by simp
  rw [e]; exact q⟩
theorem r_eqS {i j : Str} (q : Q (.bl (decide (i = j))) H) : rEq (.str i) (.str j) H Q := ⟨rfl, by
  have e : decide (V.str i = V.str j) = decide (i = j) := by simp
  rw [e]; exact q⟩
theorem r_eqB {i j : Bool} (q : Q (.bl (decide (i = j))) H) : rEq (.bl i) (.bl j) H Q := ⟨rfl, by
  have e : decide (V.bl i = V.bl j) = decide (i = j) := by simp
  rw [e]; exact q⟩
theorem r_test (q : te σ H fun x H' => ∃ k, x = .bl k ∧ QB k H') : tTest te σ H QB := q
theorem r_B (q : te σ H fun x H' => ∃ k, x = .bl k ∧ QB k H') : tB te σ H QB := q
theorem r_k {P : Bool → Prop} (q : P b) : ∃ k, V.bl b = .bl k ∧ P k := ⟨b, rfl, q⟩
theorem r_and (q : c σ H fun b H1 => if b = true then d σ H1 QB else QB false H1) : tAnd c d σ H QB := q
theorem r_or (q : c σ H fun b H1 => if b = true then QB true H1 else d σ H1 QB) : tOr c d σ H QB := q
theorem r_not (q : c σ H fun b H1 => QB (!b) H1) : tNot c σ H QB := q
theorem r_andV (q : ta σ H fun x H1 => ∃ c, x = .bl c ∧ if c = true then tb σ H1 Q else Q (.bl false) H1) : tAndV ta tb σ H Q := q
theorem r_orV (q : ta σ H fun x H1 => ∃ c, x = .bl c ∧ if c = true then Q (.bl true) H1 else tb σ H1 Q) : tOrV ta tb σ H Q := q
theorem r_notV (q : ta σ H fun x H1 => ∃ c, x = .bl c ∧ Q (.bl (!c)) H1) : tNotV ta σ H Q := q
theorem r_if (q : c σ H fun b H1 => if b = true then ta σ H1 Q else tb σ H1 Q) : tIf c ta tb σ H Q := q
theorem r_seq (q : t ⟨u ⟨nx, rt, bk, ct⟩, rt, bk, ct⟩ σ H) : tSeq t u ⟨nx, rt, bk, ct⟩ σ H := q
theorem r_asg (q : te σ H fun x H1 => g x σ H1 nx) : tAsg te g ⟨nx, rt, bk, ct⟩ σ H := q
theorem r_name (q : QS (σ.set i (some v)) H) : gName i v σ H QS := q
theorem r_ifs (q : c σ H fun b H1 => if b = true then t ⟨nx, rt, bk, ct⟩ σ H1 else u ⟨nx, rt, bk, ct⟩ σ H1) : tIfS c t u ⟨nx, rt, bk, ct⟩ σ H := q
theorem r_ret (q : te σ H rt) : tRet te ⟨nx, rt, bk, ct⟩ σ H := q
theorem r_next (q : nx σ H) : tNext ⟨nx, rt, bk, ct⟩ σ H := q
theorem r_drop (q : te σ H fun _ H1 => nx σ H1) : tDrop te ⟨nx, rt, bk, ct⟩ σ H := q
theorem r_cons (q : te σ H fun x H1 => tr σ H1 fun xs H2 => QA (x :: xs) H2) : tCons te tr σ H QA := q
theorem r_nil (q : QA [] H) : tNil σ H QA := q
theorem r_tup (q : tr σ H fun xs H1 => xs.length ≤ sizeLine ∧ ∀ p, H1 p = none → Q (.ref p) (upd H1 p (.tup xs))) : tTup tr σ H Q := q
theorem r_lst (q : tr σ H fun xs H1 => xs.length ≤ sizeLine ∧ ∀ p, H1 p = none → Q (.ref p) (upd H1 p (.lst xs))) : tLst tr σ H Q := q
theorem r_new {n : Nat} {P : Prop} (h : n ≤ 1000) (q : P) : n ≤ sizeLine ∧ P := ⟨Nat.le_trans h (by decide), q⟩
theorem r_fldT {f : Str} (q : ta σ H fun x H1 => ∃ a C dx fs v, x = .ref a ∧ H1 a = some (.ins C dx fs) ∧ Cls K C ∧ NoAttr K C f ∧ fs.lookup f = some v ∧ Q v H1) : tFld K ta f σ H Q := q
theorem r_fld {f : Str} {p C dx : Addr} {fs : List (Str × V)} (h : H p = some (.ins C dx fs)) (k : Cls K C) (n : NoAttr K C f) (l : fs.lookup f = some v) {P : V → Prop} (q : P v) :
    ∃ a C dx fs v, V.ref p = .ref a ∧ H a = some (.ins C dx fs) ∧ Cls K C ∧ NoAttr K C f ∧ fs.lookup f = some v ∧ P v := ⟨p, C, dx, fs, v, rfl, h, k, n, l, q⟩
theorem r_sFld {f : Str} (q : te σ H fun y H1 => ta σ H1 fun x H2 => ∃ a C dx fs, x = .ref a ∧ H2 a = some (.ins C dx fs) ∧ Cls K C ∧ NoAttr K C f ∧ fs.length < 1000 ∧ nx σ (upd H2 a (.ins C dx (putF f y fs)))) : sFld K ta te f ⟨nx, rt, bk, ct⟩ σ H := q
theorem r_call {sp : Sp} {dvs : List V} {E : XK} (q : tr σ H fun vs H1 => sp (vs ++ dvs) H1 Q E) : tCall sp dvs E tr σ H Q := q
theorem r_CB {r : List V → Hp → VK → Prop} (q : tr σ H fun vs H1 => r vs H1 Q) : tCB r tr σ H Q := q
theorem r_meth {C : Addr} {m : Str} {sp : Sp} {dvs : List V} {E : XK} (q : ta σ H fun x H1 => ∃ a dx fs, x = .ref a ∧ H1 a = some (.ins C dx fs) ∧ fs.lookup m = none ∧ tr σ H1 fun vs H2 => sp (x :: (vs ++ dvs)) H2 Q E) : tMeth C m sp dvs E ta tr σ H Q := q
theorem r_meth1 {C : Addr} {m : Str} {P : Prop} {p dx : Addr} {fs : List (Str × V)} (h : H p = some (.ins C dx fs)) (l : fs.lookup m = none) (q : P) : ∃ a dx fs, V.ref p = .ref a ∧ H a = some (.ins C dx fs) ∧ fs.lookup m = none ∧ P := ⟨p, dx, fs, rfl, h, l, q⟩
theorem r_make {C : Addr} {sp : Sp} {dvs : List V} {E : XK} (q : tr σ H fun vs H1 => ∀ x dx, H1 x = none → H1 dx = none → dx ≠ x → sp (.ref x :: (vs ++ dvs)) (upd (upd H1 dx (.own x)) x (.ins C dx [])) (fun v H2 => v = .non ∧ Q (.ref x) H2) E) : tMake C sp dvs E tr σ H Q := q
theorem r_callN {n m : Nat} {sp : Sp} {gV : List V → List V → List V} {E : XK} {tk : TA} (q : tr σ H fun vs H1 => tk σ H1 fun zs H2 => vs.length = n ∧ zs.length = m ∧ sp (gV vs zs) H2 Q E) : tCallN n m sp gV E tr tk σ H Q := q
theorem r_ixT {p : Addr} {xs : List V} {i : Int} (h : H p = some (.tup xs)) (a : atI xs i = some v) (q : Q v H) : rIxT K (.ref p) (.int i) H Q := ⟨p, xs, i, v, rfl, rfl, SqT.of h, a, q⟩
theorem r_ixL {p : Addr} {xs : List V} {i : Int} (h : H p = some (.lst xs)) (a : atI xs i = some v) (q : Q v H) : rIxL K (.ref p) (.int i) H Q := ⟨p, xs, i, v, rfl, rfl, SqL.of h, a, q⟩
theorem r_isi {vs : List V} (q : rIsi K vs H Q) : rIsi K vs H Q := q
theorem r_ite {A B : Prop} {k : Bool} (h1 : k = true → A) (h2 : k = false → B) : if k = true then A else B := by
  cases k with
  | true => exact h1 rfl
  | false => exact h2 rfl
theorem r_iteT {A B : Prop} {k : Bool} (h : k = true) (q : A) : if k = true then A else B := by
  rw [if_pos h]; exact q
theorem r_iteF {A B : Prop} {k : Bool} (h : k = false) (q : B) : if k = true then A else B := by
  subst h; exact iteF q
end
/-! ### // by any number but nought -/
def CDivA (_ j : Int) : Prop := j ≠ 0 ∧ j.natAbs.log2 < 9000
theorem op_fdivA {X : Cx} : OpR X (binaryOp .FloorDiv) (rI CDivA fun i j => .int (i.fdiv j)) := opI fun i j _ _ _ _ _ hc q => PyProof.Rows.floordiv_int hc.1 q (.inl (PyProof.noPylong_of_log2 hc.2))
theorem cdivA {i j : Int} {b : Nat} (h : j ≠ 0) (hb : j.natAbs < 2 ^ b) (h0 : 0 < b) (h9 : b ≤ 9000) : CDivA i j := ⟨h, Nat.lt_of_lt_of_le (PySem.Flt.log2_lt_of h0 hb) h9⟩
/-! ### heaps but for two places -/
def Off (d c : Addr) (H H' : Hp) : Prop := ∀ b o, b ≠ d → b ≠ c → H b = some o → H' b = some o
theorem Off.refl (d c : Addr) (H : Hp) : Off d c H H := fun _ _ _ _ h => h
theorem Off.trans {d c : Addr} {H H1 H2 : Hp} (a : Off d c H H1) (b : Off d c H1 H2) : Off d c H H2 := fun x o h1 h2 h => b x o h1 h2 (a x o h1 h2 h)
theorem Off.of {d c : Addr} {H H' : Hp} (a : Same H H') : Off d c H H' := fun x o _ _ h => a x o h
theorem Same.new {H : Hp} {p : Addr} {o : HO} (h : H p = none) : Same H (upd H p o) := fun b u e => by
  rw [upd_ne (ne_of_none e h)]
  exact e
/-! ### more heads -/
section
variable {σ : L2.St} {H : Hp} {Q : VK} {QA : List V → Hp → Prop} {QS : L2.St → Hp → Prop} {QO : Option Int → Hp → Prop} {v x y : V} {te ta to ti : TE} {tr : TA} {tl th : TO} {K : PySem.W.Frag} {nx : L2.St → Hp → Prop} {rt : VK} {bk ct : L2.St → Hp → Prop}
theorem r_gsub {t : TSet} (q : to σ H fun o H1 => ti σ H1 fun i H2 => t o i v H2 fun H3 => QS σ H3) : gSub to ti t v σ H QS := q
theorem r_setL {p : Addr} {xs : List V} {k : Int} {j : Nat} {R : Hp → Prop} (h : H p = some (.lst xs)) (e : ixN xs.length k = some j) (q : R (upd H p (.lst (xs.set j v)))) : rSetL (.ref p) (.int k) v H R := ⟨p, xs, k, j, rfl, rfl, h, e, q⟩
theorem r_sl {r : V → Option Int → Option Int → Hp → VK → Prop} (q : te σ H fun x H1 => tl σ H1 fun l H2 => th σ H2 fun u H3 => r x l u H3 Q) : tSl r te tl th σ H Q := q
theorem r_noPart (q : QO none H) : tNoPart σ H QO := q
theorem r_part (q : te σ H fun x H1 => ∃ i, x = .int i ∧ QO (some i) H1) : tPart te σ H QO := q
theorem r_ki {P : Int → Prop} {i : Int} (q : P i) : ∃ k, V.int i = .int k ∧ P k := ⟨i, rfl, q⟩
theorem r_bm0 {T : String} {r : V → List V → Hp → VK → Prop} (q : te σ H fun x H1 => tyV K T x H1 ∧ r x [] H1 Q) : tBM0 K T r te σ H Q := q
theorem r_bm {T : String} {r : V → List V → Hp → VK → Prop} (q : te σ H fun x H1 => tyV K T x H1 ∧ tr σ H1 fun xs H2 => r x xs H2 Q) : tBM K T r te tr σ H Q := q
theorem r_rev (q : te σ H fun x H1 => ∃ a xs, x = .ref a ∧ SqL K H1 a xs ∧ ∀ p, H1 p = none → Q (.ref p) (upd H1 p (.lst xs.reverse))) : tRevL K te σ H Q := q
theorem ty_list {p : Addr} {xs : List V} (h : H p = some (.lst xs)) : tyV K "list" (.ref p) H := .inl ⟨rfl, _, SqL.of h⟩
theorem r_pop {p : Addr} {xs : List V} {y : V} (h : H p = some (.lst (xs ++ [y]))) (q : Q y (upd H p (.lst xs))) : rPop (.ref p) [] H Q := by
  refine ⟨p, xs ++ [y], y, rfl, rfl, h, by simp, ?_⟩
  rw [List.dropLast_concat]
  exact q
theorem r_append {p : Addr} {xs : List V} (h : H p = some (.lst xs)) (l : xs.length ≤ 1000) (q : Q .non (upd H p (.lst (xs ++ [y])))) : rAppend (.ref p) [y] H Q := ⟨p, xs, y, rfl, rfl, h, Nat.lt_of_le_of_lt l (by decide), q⟩
end
theorem dp_ints {K : PySem.W.Frag} {H : Hp} : ∀ xs : List Int, DpAll K H (xs.map V.int) (xs.map PyData.int)
  | [] => .nil
  | x :: xs => .cons (.int x) (dp_ints xs)
theorem lay_ints : ∀ xs : List Int, PyData.canLayAll0 (xs.map PyData.int) = true ∧ PyData.depthAll (xs.map PyData.int) = 0
  | [] => ⟨rfl, rfl⟩
  | x :: xs => by
    obtain ⟨a, b⟩ := lay_ints xs
    constructor
    · show (PyData.canLay0 (.int x) && PyData.canLayAll0 (xs.map PyData.int)) = true
      rw [a]; rfl
    · show max (PyData.depth (.int x)) (PyData.depthAll (xs.map PyData.int)) = 0
      rw [b]; rfl
theorem shaped_ints (xs : List Int) : SeqAt.shaped (.list (xs.map PyData.int)) = true := by
  obtain ⟨a, b⟩ := lay_ints xs
  have a' : PyData.canLay0 (.list (xs.map PyData.int)) = true := by rw [PyData.canLay0]; exact a
  have b' : PyData.depth (.list (xs.map PyData.int)) = 1 := by rw [PyData.depth, b]
  unfold SeqAt.shaped
  rw [a', b']; rfl
theorem eqv_ints : ∀ xs ys : List Int, PyData.eqvAll (xs.map PyData.int) (ys.map PyData.int) = decide (xs = ys)
  | [], [] => rfl
  | [], _ :: _ => by simp [PyData.eqvAll]
  | _ :: _, [] => by simp [PyData.eqvAll]
  | x :: xs, y :: ys => by
    show (PyData.eqv (.int x) (.int y) && PyData.eqvAll (xs.map PyData.int) (ys.map PyData.int)) = _
    rw [eqv_ints xs ys]
    show ((x == y) && decide (xs = ys)) = _
    rw [Bool.eq_iff_iff]; simp
theorem r_neInts {K : PySem.W.Frag} {H : Hp} {Q : VK} {p q : Addr} {xs ys : List Int} (h : SqL K H p (xs.map V.int)) (h' : SqL K H q (ys.map V.int)) (k : Q (.bl (!decide (xs = ys))) H) : rNeD K (.ref p) (.ref q) H Q :=
  ⟨.list (xs.map PyData.int), .list (ys.map PyData.int), .lst h (dp_ints xs), .lst h' (dp_ints ys), shaped_ints xs, shaped_ints ys, by
    rw [PyData.eqv, eqv_ints]; exact k⟩
theorem cut_ints (ns : List Int) (k : Int) : ∃ ms : List Int, cutV (ns.map V.int) none (some k) = ms.map V.int ∧ ms.length ≤ ns.length := by
  unfold cutV
  rw [← List.map_drop, ← List.map_take]
  exact ⟨_, rfl, by rw [List.length_take, List.length_drop]; omega⟩
end My
namespace My
open PySem L2
theorem r_forT {σ : L2.St} {H : Hp} {K : PySem.W.Frag} {tl : TE} {g : TG} {tb : TS} {D : Ends} (q : tl σ H fun x H1 => ∃ a, x = .ref a ∧ (∃ xs, SqT K H1 a xs) ∧ ∃ W : Nat → Nat → L2.St → Hp → Prop, (∃ m, W 0 m σ H1) ∧ ∀ i m σ H, W i m σ H →
    ((Itt K a).stop i H ∧ D.nx σ H) ∨ ((Itt K a).go i H ∧ ∃ N : L2.St → Hp → Prop, (∀ σ' H', N σ' H' → ∃ m', m' < m ∧ W (i + 1) m' σ' H') ∧ ∀ x H', (Itt K a).yld i H x H' → g x σ H' fun σ2 H2 => tb { D with nx := N, ct := N, bk := D.nx } σ2 H2)) : tFor (iTup K tl) g tb D σ H := q
end My

local macro_rules | `(tactic| walk_at "rd1") => `(tactic| first
  | with_reducible refine My.r_seq ?_
  | with_reducible refine My.r_asg ?_
  | with_reducible refine My.r_name ?_
  | with_reducible refine My.r_cons ?_
  | with_reducible refine My.r_nil ?_
  | with_reducible refine My.r_op ?_
  | ((with_reducible refine My.r_var ?_); refine ⟨_, rfl, ?_⟩)
  | with_reducible refine My.r_c ?_
  | with_reducible refine My.r_I0 ?_
  | with_reducible refine My.r_eqI ?_
  | with_reducible refine My.r_neI ?_
  | with_reducible refine My.r_eqS ?_
  | with_reducible refine My.r_eqB ?_
  | with_reducible refine My.r_test ?_
  | with_reducible refine My.r_B ?_
  | with_reducible refine My.r_k ?_
  | with_reducible refine My.r_un ?_
  | with_reducible refine My.r_U ?_
  | with_reducible refine My.r_ifs ?_
  | with_reducible refine My.r_ret ?_
  | with_reducible refine My.r_next ?_
  | with_reducible refine My.r_drop ?_
  | with_reducible refine My.r_CB ?_
  | with_reducible refine My.r_call ?_
  | with_reducible refine My.r_callN ?_
  | with_reducible refine My.r_meth ?_
  | with_reducible refine My.r_make ?_
  | with_reducible refine My.r_tup ?_
  | with_reducible refine My.r_lst ?_
  | with_reducible refine My.r_fldT ?_
  | with_reducible refine My.r_sFld ?_
  | with_reducible refine My.r_and ?_
  | with_reducible refine My.r_or ?_
  | with_reducible refine My.r_not ?_
  | with_reducible refine My.r_andV ?_
  | with_reducible refine My.r_orV ?_
  | with_reducible refine My.r_notV ?_
  | with_reducible refine My.r_if ?_
  | with_reducible refine My.r_gsub ?_
  | with_reducible refine My.r_sl ?_
  | with_reducible refine My.r_noPart ?_
  | with_reducible refine My.r_part ?_
  | with_reducible refine My.r_ki ?_
  | with_reducible refine My.r_bm0 ?_
  | with_reducible refine My.r_bm ?_
  | with_reducible refine My.r_rev ?_
  | ((with_reducible refine My.r_I ?_ ?_); (first | decide | exact .inl ⟨by decide, by decide⟩ | exact .inr ⟨by decide, by decide⟩ | exact ⟨by decide, by decide⟩ | exact ⟨by decide, by decide, by decide⟩)))
local macro_rules | `(tactic| walk_at "rd") => `(tactic| (repeat walk_at "rd1"))


namespace My
open PySem L2
def top (i : Nat) : Stmt := PySem.Challenge.pw_figuretexts_k09_halves_of_steps.main.body.getD i (.Pass ⟨0, 0, 0, 0⟩)
abbrev s_Number_init : Stmt := inClass (top 5) 0
theorem sc_Number_init : FnScope ["self", "top", "bottom", "common"] ["self", "top", "bottom"] (defScope s_Number_init) := ⟨rfl, rfl, rfl, by decide +kernel, rfl, by decide +kernel, by decide +kernel⟩
abbrev s_Number_less : Stmt := inClass (top 5) 5
theorem sc_Number_less : FnScope ["self", "other"] ["self", "other"] (defScope s_Number_less) := ⟨rfl, rfl, rfl, by decide +kernel, rfl, by decide +kernel, by decide +kernel⟩
abbrev s_Number_times : Stmt := inClass (top 5) 6
theorem sc_Number_times : FnScope ["self", "other"] ["self", "other"] (defScope s_Number_times) := ⟨rfl, rfl, rfl, by decide +kernel, rfl, by decide +kernel, by decide +kernel⟩
abbrev s_Number_over : Stmt := inClass (top 5) 7
theorem sc_Number_over : FnScope ["self", "other"] ["self", "other"] (defScope s_Number_over) := ⟨rfl, rfl, rfl, by decide +kernel, rfl, by decide +kernel, by decide +kernel⟩
abbrev s_Number_floor : Stmt := inClass (top 5) 10
theorem sc_Number_floor : FnScope ["self"] ["self"] (defScope s_Number_floor) := ⟨rfl, rfl, rfl, by decide +kernel, rfl, by decide +kernel, by decide +kernel⟩
abbrev s_rounded : Stmt := top 8
theorem sc_rounded : FnScope ["number", "step", "way", "taken"] ["number", "step", "way"] (defScope s_rounded) := ⟨rfl, rfl, rfl, by decide +kernel, rfl, by decide +kernel, by decide +kernel⟩
abbrev s_round_paper : Stmt := top 9
theorem sc_round_paper : FnScope ["number", "step", "way", "low", "high", "part", "rule"] ["number", "step", "way"] (defScope s_round_paper) := ⟨rfl, rfl, rfl, by decide +kernel, rfl, by decide +kernel, by decide +kernel⟩
abbrev s_place_of : Stmt := top 10
theorem sc_place_of : FnScope ["number", "step", "steps", "low", "part", "high"] ["number", "step"] (defScope s_place_of) := ⟨rfl, rfl, rfl, by decide +kernel, rfl, by decide +kernel, by decide +kernel⟩
abbrev s_by_up : Stmt := top 11
theorem sc_by_up : FnScope ["low", "part"] ["low", "part"] (defScope s_by_up) := ⟨rfl, rfl, rfl, by decide +kernel, rfl, by decide +kernel, by decide +kernel⟩
abbrev s_by_down : Stmt := top 12
theorem sc_by_down : FnScope ["low", "part"] ["low", "part"] (defScope s_by_down) := ⟨rfl, rfl, rfl, by decide +kernel, rfl, by decide +kernel, by decide +kernel⟩
abbrev s_by_high : Stmt := top 13
theorem sc_by_high : FnScope ["low", "part"] ["low", "part"] (defScope s_by_high) := ⟨rfl, rfl, rfl, by decide +kernel, rfl, by decide +kernel, by decide +kernel⟩
abbrev s_by_low : Stmt := top 14
theorem sc_by_low : FnScope ["low", "part"] ["low", "part"] (defScope s_by_low) := ⟨rfl, rfl, rfl, by decide +kernel, rfl, by decide +kernel, by decide +kernel⟩
abbrev s_by_half_up : Stmt := top 15
theorem sc_by_half_up : FnScope ["low", "part"] ["low", "part"] (defScope s_by_half_up) := ⟨rfl, rfl, rfl, by decide +kernel, rfl, by decide +kernel, by decide +kernel⟩
abbrev s_by_half_down : Stmt := top 16
theorem sc_by_half_down : FnScope ["low", "part"] ["low", "part"] (defScope s_by_half_down) := ⟨rfl, rfl, rfl, by decide +kernel, rfl, by decide +kernel, by decide +kernel⟩
abbrev s_by_half_even : Stmt := top 17
theorem sc_by_half_even : FnScope ["low", "part"] ["low", "part"] (defScope s_by_half_even) := ⟨rfl, rfl, rfl, by decide +kernel, rfl, by decide +kernel, by decide +kernel⟩
abbrev s_by_half_odd : Stmt := top 18
theorem sc_by_half_odd : FnScope ["low", "part"] ["low", "part"] (defScope s_by_half_odd) := ⟨rfl, rfl, rfl, by decide +kernel, rfl, by decide +kernel, by decide +kernel⟩
abbrev s_nearer : Stmt := top 19
theorem sc_nearer : FnScope ["part", "at_half", "doubled"] ["part", "at_half"] (defScope s_nearer) := ⟨rfl, rfl, rfl, by decide +kernel, rfl, by decide +kernel, by decide +kernel⟩
abbrev s_l_deck : Stmt := top 22
theorem sc_l_deck : FnScope ["_law_script", "_law_cells", "_law_seed", "_law_cell"] ["_law_script"] (defScope s_l_deck) := ⟨rfl, rfl, rfl, by decide +kernel, rfl, by decide +kernel, by decide +kernel⟩
abbrev s_l_draw : Stmt := top 23
theorem sc_l_draw : FnScope ["_law_deck_here", "_law_ways", "_law_cell", "_law_number"] ["_law_deck_here", "_law_ways"] (defScope s_l_draw) := ⟨rfl, rfl, rfl, by decide +kernel, rfl, by decide +kernel, by decide +kernel⟩
abbrev s_l_grain : Stmt := top 24
theorem sc_l_grain : FnScope ["_law_deck_here", "_law_tens", "_law_some"] ["_law_deck_here"] (defScope s_l_grain) := ⟨rfl, rfl, rfl, by decide +kernel, rfl, by decide +kernel, by decide +kernel⟩
abbrev s_l_told : Stmt := top 25
theorem sc_l_told : FnScope ["_law_count", "_law_part", "_law_grain_here", "_law_rule", "_law_top", "_law_unit_step", "_law_found"] ["_law_count", "_law_part", "_law_grain_here", "_law_rule"] (defScope s_l_told) := ⟨rfl, rfl, rfl, by decide +kernel, rfl, by decide +kernel, by decide +kernel⟩
abbrev s_l_half_due : Stmt := top 26
theorem sc_l_half_due : FnScope ["_law_count", "_law_rule"] ["_law_count", "_law_rule"] (defScope s_l_half_due) := ⟨rfl, rfl, rfl, by decide +kernel, rfl, by decide +kernel, by decide +kernel⟩
abbrev s_law : Stmt := top 27
theorem sc_law : FnScope ["_law_script", "_law_deck_here", "_law_turn", "_law_grain_here", "_law_count", "_law_rule", "_law_tiny"] ["_law_script"] (defScope s_law) := ⟨rfl, rfl, rfl, by decide +kernel, rfl, by decide +kernel, by decide +kernel⟩
structure Txt (w : World) (K : PySem.W.Frag) (mg : Str → Option Value) where
  C_Number : Addr
  m_Number : mg "Number" = some (.ref C_Number)
  c_Number : Cls K C_Number
  n_Number_top : NoAttr K C_Number "top"
  n_Number_bottom : NoAttr K C_Number "bottom"
  ty_Number_c : PySem.W.findIn K (.ref C_Number) "__class__" = some (some (.builtin "object.__class__"))
  ty_Number_g : PySem.W.specialIn K (.builtin "object.__class__") "__get__" = some (some (.builtin "getset_descriptor.__get__"))
  ty_Number_t : PySem.W.takesIn K (.builtin "object.__class__") = some true
  ty_Number_m : PySem.W.mroIn K C_Number (.type "object") = some true
  ty_Number_k : PySem.W.kitOne K (.ref C_Number) (.ref C_Number) = some true
  ne_Number : PySem.W.findIn K (.ref C_Number) "__ne__" = some (some (.builtin "object.__ne__"))
  f_Number_init : Addr
  fd_Number_init : FuncData
  F_Number_init : FunD K "__init__" "Number.__init__" (defArgs s_Number_init) (defBody s_Number_init) (defScope s_Number_init) [V.int 1] [] f_Number_init fd_Number_init
  mk_Number : Mk K C_Number f_Number_init
  b_Number_init2 : Binds K fd_Number_init ["self", "top", "bottom"] []
  ds_Number_init1 : List Value
  d_Number_init1 : Vals [V.int 1] ds_Number_init1
  b_Number_init1 : Binds K fd_Number_init ["self", "top", "bottom"] ds_Number_init1
  f_Number_less : Addr
  fd_Number_less : FuncData
  F_Number_less : Fun K "less" "Number.less" s_Number_less f_Number_less fd_Number_less
  me_Number_less : Meth K C_Number "less" f_Number_less
  b_Number_less : Binds K fd_Number_less ["self", "other"] []
  f_Number_times : Addr
  fd_Number_times : FuncData
  F_Number_times : Fun K "times" "Number.times" s_Number_times f_Number_times fd_Number_times
  me_Number_times : Meth K C_Number "times" f_Number_times
  b_Number_times : Binds K fd_Number_times ["self", "other"] []
  f_Number_over : Addr
  fd_Number_over : FuncData
  F_Number_over : Fun K "over" "Number.over" s_Number_over f_Number_over fd_Number_over
  me_Number_over : Meth K C_Number "over" f_Number_over
  b_Number_over : Binds K fd_Number_over ["self", "other"] []
  f_Number_floor : Addr
  fd_Number_floor : FuncData
  F_Number_floor : Fun K "floor" "Number.floor" s_Number_floor f_Number_floor fd_Number_floor
  me_Number_floor : Meth K C_Number "floor" f_Number_floor
  b_Number_floor : Binds K fd_Number_floor ["self"] []
  f_rounded : Addr
  fd_rounded : FuncData
  F_rounded : FunD K "rounded" "rounded" (defArgs s_rounded) (defBody s_rounded) (defScope s_rounded) [] [(("way" : Str), V.str "half even")] f_rounded fd_rounded
  m_rounded : mg "rounded" = some (.ref f_rounded)
  kb_rounded : KBn K fd_rounded ["number", "step", "way"] 2 ["way"] (fun us ws => us ++ ws) (fun vs zs => vs ++ zs)
  ds_rounded : List Value
  d_rounded : Vals [V.str "half even"] ds_rounded
  b_rounded : Binds K fd_rounded ["number", "step", "way"] ds_rounded
  f_round_paper : Addr
  fd_round_paper : FuncData
  F_round_paper : FunD K "round_paper" "round_paper" (defArgs s_round_paper) (defBody s_round_paper) (defScope s_round_paper) [] [(("way" : Str), V.str "half even")] f_round_paper fd_round_paper
  m_round_paper : mg "round_paper" = some (.ref f_round_paper)
  kb_round_paper : KBn K fd_round_paper ["number", "step", "way"] 2 ["way"] (fun us ws => us ++ ws) (fun vs zs => vs ++ zs)
  ds_round_paper : List Value
  d_round_paper : Vals [V.str "half even"] ds_round_paper
  b_round_paper : Binds K fd_round_paper ["number", "step", "way"] ds_round_paper
  f_place_of : Addr
  fd_place_of : FuncData
  F_place_of : Fun K "place_of" "place_of" s_place_of f_place_of fd_place_of
  m_place_of : mg "place_of" = some (.ref f_place_of)
  b_place_of : Binds K fd_place_of ["number", "step"] []
  f_by_up : Addr
  fd_by_up : FuncData
  F_by_up : Fun K "_by_up" "_by_up" s_by_up f_by_up fd_by_up
  m_by_up : mg "_by_up" = some (.ref f_by_up)
  b_by_up : Binds K fd_by_up ["low", "part"] []
  f_by_down : Addr
  fd_by_down : FuncData
  F_by_down : Fun K "_by_down" "_by_down" s_by_down f_by_down fd_by_down
  m_by_down : mg "_by_down" = some (.ref f_by_down)
  b_by_down : Binds K fd_by_down ["low", "part"] []
  f_by_high : Addr
  fd_by_high : FuncData
  F_by_high : Fun K "_by_high" "_by_high" s_by_high f_by_high fd_by_high
  m_by_high : mg "_by_high" = some (.ref f_by_high)
  b_by_high : Binds K fd_by_high ["low", "part"] []
  f_by_low : Addr
  fd_by_low : FuncData
  F_by_low : Fun K "_by_low" "_by_low" s_by_low f_by_low fd_by_low
  m_by_low : mg "_by_low" = some (.ref f_by_low)
  b_by_low : Binds K fd_by_low ["low", "part"] []
  f_by_half_up : Addr
  fd_by_half_up : FuncData
  F_by_half_up : Fun K "_by_half_up" "_by_half_up" s_by_half_up f_by_half_up fd_by_half_up
  m_by_half_up : mg "_by_half_up" = some (.ref f_by_half_up)
  b_by_half_up : Binds K fd_by_half_up ["low", "part"] []
  f_by_half_down : Addr
  fd_by_half_down : FuncData
  F_by_half_down : Fun K "_by_half_down" "_by_half_down" s_by_half_down f_by_half_down fd_by_half_down
  m_by_half_down : mg "_by_half_down" = some (.ref f_by_half_down)
  b_by_half_down : Binds K fd_by_half_down ["low", "part"] []
  f_by_half_even : Addr
  fd_by_half_even : FuncData
  F_by_half_even : Fun K "_by_half_even" "_by_half_even" s_by_half_even f_by_half_even fd_by_half_even
  m_by_half_even : mg "_by_half_even" = some (.ref f_by_half_even)
  b_by_half_even : Binds K fd_by_half_even ["low", "part"] []
  f_by_half_odd : Addr
  fd_by_half_odd : FuncData
  F_by_half_odd : Fun K "_by_half_odd" "_by_half_odd" s_by_half_odd f_by_half_odd fd_by_half_odd
  m_by_half_odd : mg "_by_half_odd" = some (.ref f_by_half_odd)
  b_by_half_odd : Binds K fd_by_half_odd ["low", "part"] []
  f_nearer : Addr
  fd_nearer : FuncData
  F_nearer : Fun K "_nearer" "_nearer" s_nearer f_nearer fd_nearer
  m_nearer : mg "_nearer" = some (.ref f_nearer)
  b_nearer : Binds K fd_nearer ["part", "at_half"] []
  f_l_deck : Addr
  fd_l_deck : FuncData
  F_l_deck : Fun K "_law_deck" "_law_deck" s_l_deck f_l_deck fd_l_deck
  m_l_deck : mg "_law_deck" = some (.ref f_l_deck)
  b_l_deck : Binds K fd_l_deck ["_law_script"] []
  f_l_draw : Addr
  fd_l_draw : FuncData
  F_l_draw : Fun K "_law_draw" "_law_draw" s_l_draw f_l_draw fd_l_draw
  m_l_draw : mg "_law_draw" = some (.ref f_l_draw)
  b_l_draw : Binds K fd_l_draw ["_law_deck_here", "_law_ways"] []
  f_l_grain : Addr
  fd_l_grain : FuncData
  F_l_grain : Fun K "_law_grain" "_law_grain" s_l_grain f_l_grain fd_l_grain
  m_l_grain : mg "_law_grain" = some (.ref f_l_grain)
  b_l_grain : Binds K fd_l_grain ["_law_deck_here"] []
  f_l_told : Addr
  fd_l_told : FuncData
  F_l_told : Fun K "_law_told" "_law_told" s_l_told f_l_told fd_l_told
  m_l_told : mg "_law_told" = some (.ref f_l_told)
  b_l_told : Binds K fd_l_told ["_law_count", "_law_part", "_law_grain_here", "_law_rule"] []
  f_l_half_due : Addr
  fd_l_half_due : FuncData
  F_l_half_due : Fun K "_law_half_due" "_law_half_due" s_l_half_due f_l_half_due fd_l_half_due
  m_l_half_due : mg "_law_half_due" = some (.ref f_l_half_due)
  b_l_half_due : Binds K fd_l_half_due ["_law_count", "_law_rule"] []
  f_law : Addr
  fd_law : FuncData
  F_law : Fun K "law" "law" s_law f_law fd_law
  m_law : mg "law" = some (.ref f_law)
  b_law : Binds K fd_law ["_law_script"] []
  m_gcd : mg "gcd" = some (.builtin "math.gcd")
  n_range : mg "range" = none
  n_isinstance : mg "isinstance" = none
  n_str : mg "str" = none
  n_int : mg "int" = none
  n_list : mg "list" = none
  D_RULES : Addr
  m_RULES : mg "RULES" = some (.ref D_RULES)
  es_RULES : Array DictEntry
  en_RULES : Nat
  l_RULES : K.lookup D_RULES = some ⟨.type "dict", none, .dict es_RULES en_RULES, #[]⟩
  k_RULES : PySem.W.KeysLit w.params es_RULES.toList
  rule_by_up : PySem.W.nsIn K D_RULES "up" = some (some (.ref f_by_up))
  rule_by_down : PySem.W.nsIn K D_RULES "down" = some (some (.ref f_by_down))
  rule_by_high : PySem.W.nsIn K D_RULES "high" = some (some (.ref f_by_high))
  rule_by_low : PySem.W.nsIn K D_RULES "low" = some (some (.ref f_by_low))
  rule_by_half_up : PySem.W.nsIn K D_RULES "half up" = some (some (.ref f_by_half_up))
  rule_by_half_down : PySem.W.nsIn K D_RULES "half down" = some (some (.ref f_by_half_down))
  rule_by_half_even : PySem.W.nsIn K D_RULES "half even" = some (some (.ref f_by_half_even))
  rule_by_half_odd : PySem.W.nsIn K D_RULES "half odd" = some (some (.ref f_by_half_odd))

section
variable {P : Program} {w : World} {K : PySem.W.Frag} {mg : Str → Option Value} {base : Heap}
/-! ### Number -/
def nf (q : Rat) : List (Str × V) := [("top", .int q.num), ("bottom", .int (q.den : Int))]
theorem tb_ : ¬ (("top" : Str) = "bottom") := by decide +kernel
theorem bt_ : ¬ (("bottom" : Str) = "top") := by decide +kernel
theorem nf_put (a b : Int) : putF "bottom" (.int b) (putF "top" (.int a) []) = ([("top", V.int a), ("bottom", V.int b)] : List (Str × V)) := by
  show (if ("top" : Str) = "bottom" then [(("top" : Str), V.int b)] else (("top" : Str), V.int a) :: putF "bottom" (V.int b) []) = ([("top", V.int a), ("bottom", V.int b)] : List (Str × V))
  rw [if_neg tb_]
  all_goals rfl
theorem nf_top (q : Rat) : (nf q).lookup ("top" : Str) = some (.int q.num) := by
  have e : (("top" : Str) == "top") = true := by decide +kernel
  unfold nf
  simp only [List.lookup, e]
theorem nf_bottom (q : Rat) : (nf q).lookup ("bottom" : Str) = some (.int (q.den : Int)) := by
  have e : (("bottom" : Str) == "top") = false := by decide +kernel
  have e' : (("bottom" : Str) == "bottom") = true := by decide +kernel
  unfold nf
  simp only [List.lookup, e, e']
theorem nf_no (q : Rat) {m : Str} (h1 : (m == "top") = false) (h2 : (m == "bottom") = false) : (nf q).lookup m = none := by
  unfold nf
  simp only [List.lookup, h1, h2]
/-- the Number q stands at p -/
def NumAt (C : Addr) (H : Hp) (p : Addr) (q : Rat) : Prop := ∃ dx, H p = some (.ins C dx (nf q))
theorem NumAt.same {C : Addr} {H H' : Hp} {p : Addr} {q : Rat} (s : Same H H') (h : NumAt C H p q) : NumAt C H' p q := let ⟨dx, e⟩ := h; ⟨dx, s _ _ e⟩

def spInit (C : Addr) : Sp := fun vs H Q _ => ∃ (p dx : Addr) (t b : Int), vs = [.ref p, .int t, .int b] ∧ H p = some (.ins C dx []) ∧ b ≠ 0 ∧ b.natAbs < 2 ^ 9000 ∧ Q .non (upd H p (.ins C dx (nf (Rat.divInt t b))))
theorem ok_Number_init (T : Txt w K mg) : FnOk P w K mg base CX0 1 T.f_Number_init T.fd_Number_init ["self", "top", "bottom"] (spInit T.C_Number) := by
  refine T.F_Number_init.ok sc_Number_init (fun vs H Q E h => ?_) (fun cdv A outer s H vs Q E hr h => ?_)
  · obtain ⟨p, dx, t, b, rfl, _⟩ := h
    rfl
  · obtain ⟨p, dx, t, b, rfl, hp, hb, hl, k⟩ := h
    refine ⟨_, (pss_cons (ps_if (pt_cmpR op_eq (pv 2) pe_int (nomark _))
  (pss_one ps_never)
  pss_nil)
 (pss_cons (ps_set (i := 3) sc_Number_init.nd rfl (Or.inl rfl) (pe_callBfun cr_gcd (by rfl) T.m_gcd (pa_cons (pv 1) (pa_cons (pv 2) pa_nil))))
 (pss_cons (ps_if (pt_cmpR op_lt (pv 2) pe_int (nomark _))
  (pss_one (ps_set (i := 3) sc_Number_init.nd rfl (Or.inl rfl) (pe_un un_neg (pv 3))))
  pss_nil)
 (pss_cons (ps_fld (pv 0) (pe_op op_fdivA (pv 1) (pv 3)) rfl)
 (pss_one (ps_fld (pv 0) (pe_op op_fdivA (pv 2) (pv 3)) rfl)))))), ?_⟩
    walk_at "rd"
    refine r_iteF (decide_eq_false hb) ?_
    walk_at "rd"
    refine ⟨_, _, rfl, ?_⟩
    have fin : ∀ c : Int, c = cdiv t b → sFld K (tVar 0) (tOp (rI CDivA fun i j => .int (i.fdiv j)) (tVar 1) (tVar 3)) "top" ⟨sFld K (tVar 0) (tOp (rI CDivA fun i j => .int (i.fdiv j)) (tVar 2) (tVar 3)) "bottom" ⟨fun _ H' => Q .non H', Q, fun _ _ => False, fun _ _ => False⟩, Q, fun _ _ => False, fun _ _ => False⟩ [some (.ref p), some (.int t), some (.int b), some (.int c)] H := by
      rintro c rfl
      have hg := gcd_pos (t := t) hb
      have hc : CDivA t (cdiv t b) ∧ CDivA b (cdiv t b) := by
        have n0 : cdiv t b ≠ 0 := by unfold cdiv; split <;> omega
        have nb : (cdiv t b).natAbs < 2 ^ 9000 := by
          have le : Nat.gcd t.natAbs b.natAbs ≤ b.natAbs := Nat.le_of_dvd (by omega) (Nat.gcd_dvd_right _ _)
          have e : (cdiv t b).natAbs = Nat.gcd t.natAbs b.natAbs := by unfold cdiv; split <;> omega
          rw [e]
          exact Nat.lt_of_le_of_lt le hl
        exact ⟨cdivA n0 nb (by decide) (Nat.le_refl _), cdivA n0 nb (by decide) (Nat.le_refl _)⟩
      walk_at "rd"
      refine r_I hc.1 ?_
      walk_at "rd"
      refine ⟨p, T.C_Number, dx, [], rfl, hp, T.c_Number, T.n_Number_top, (by show 0 < 1000; decide), ?_⟩
      walk_at "rd"
      refine r_I hc.2 ?_
      walk_at "rd"
      refine ⟨p, T.C_Number, dx, _, rfl, upd_same, T.c_Number, T.n_Number_bottom, (by show 1 < 1000; decide), ?_⟩
      show Q .non (upd (upd H p _) p (.ins T.C_Number dx (putF "bottom" _ (putF "top" _ []))))
      rw [upd_upd, nf_put, num_of hb, den_of hb]
      exact k
    walk_at "rd"
    refine r_ite (fun hn => ?_) (fun hn => ?_)
    · iterate 5 walk_at "rd1"
      refine fin _ ?_
      unfold cdiv
      rw [if_pos (of_decide_eq_true hn)]
    · iterate 1 walk_at "rd1"
      refine fin _ ?_
      unfold cdiv
      rw [if_neg (of_decide_eq_false hn)]
end
end My
local macro_rules | `(tactic| walk_at "fld") => `(tactic| refine My.r_fld (by assumption) (by assumption) (by assumption) (by first | exact My.nf_top _ | exact My.nf_bottom _) ?_)
local macro_rules | `(tactic| walk_at "rdf") => `(tactic| (repeat (first | walk_at "rd1" | walk_at "fld")))


namespace My
open PySem L2
section
variable {P : Program} {w : World} {K : PySem.W.Frag} {mg : Str → Option Value} {base : Heap}
/-- a Number made at once -/
theorem mk_num {C : Addr} {H : Hp} {t b : Int} {R : Addr → Hp → Prop} {E : XK} (hb : b ≠ 0) (hl : b.natAbs < 2 ^ 9000) (q : ∀ (p : Addr) (H' : Hp), Same H H' → H p = none → NumAt C H' p (Rat.divInt t b) → R p H') :
    ∀ x dx, H x = none → H dx = none → dx ≠ x → spInit C (.ref x :: ([V.int t, V.int b] ++ [])) (upd (upd H dx (.own x)) x (.ins C dx [])) (fun v H2 => v = .non ∧ R x H2) E := by
  intro x dx nx ndx ne
  refine ⟨x, dx, t, b, rfl, upd_same, hb, hl, rfl, q x _ (fun y o e => ?_) nx ⟨dx, upd_same⟩⟩
  rw [upd_ne (ne_of_none e nx), upd_ne (ne_of_none e nx), upd_ne (ne_of_none e ndx)]
  exact e
theorem mk_num1 {C : Addr} {H : Hp} {t : Int} {R : Addr → Hp → Prop} {E : XK} (q : ∀ (p : Addr) (H' : Hp), Same H H' → H p = none → NumAt C H' p (t : Rat) → R p H') :
    ∀ x dx, H x = none → H dx = none → dx ≠ x → spInit C (.ref x :: ([V.int t] ++ [V.int 1])) (upd (upd H dx (.own x)) x (.ins C dx [])) (fun v H2 => v = .non ∧ R x H2) E :=
  mk_num (by decide) (Nat.lt_of_lt_of_le (by decide : Int.natAbs 1 < 2 ^ 1) (Nat.pow_le_pow_right (by decide) (by decide))) fun p H' s n h => q p H' s n (divInt_one t ▸ h)
/-- two Numbers in, one out -/
def spBin (C : Addr) (f : Rat → Rat → Rat) (ok : Rat → Rat → Prop) : Sp := fun vs H Q _ => ∃ (p q : Addr) (x y : Rat), vs = [.ref p, .ref q] ∧ NumAt C H p x ∧ NumAt C H q y ∧ Bd 4000 x ∧ Bd 4000 y ∧ ok x y ∧
  ∀ (r : Addr) (H' : Hp), Same H H' → H r = none → NumAt C H' r (f x y) → Q (.ref r) H'
theorem bd_den {n : Nat} {x : Rat} (h : Bd n x) : ((x.den : Nat) : Int).natAbs < 2 ^ n := by have := h.2; omega
theorem dd_ne (x y : Rat) : (x.den : Int) * (y.den : Int) ≠ 0 := Int.mul_ne_zero (den_ne x) (den_ne y)
theorem dd_lt {x y : Rat} (hx : Bd 4000 x) (hy : Bd 4000 y) : ((x.den : Int) * (y.den : Int)).natAbs < 2 ^ 9000 := natAbs_mul_lt (bd_den hx) (bd_den hy) (by decide)
theorem cm {i j : Int} (hi : i.natAbs < 2 ^ 4000) (hj : j.natAbs < 2 ^ 4000) : CMulW i j := wide_mul hi hj (by decide) (by decide) (by decide)
theorem ok_Number_less (T : Txt w K mg) : FnOk P w K mg base CX0 3 T.f_Number_less T.fd_Number_less ["self", "other"] (spBin T.C_Number (fun x y => x - y) fun _ _ => True) := by
  refine T.F_Number_less.ok sc_Number_less (fun vs H Q E h => ?_) (fun cdv A outer s H vs Q E hr h => ?_)
  · obtain ⟨p, q, x, y, rfl, _⟩ := h
    rfl
  · obtain ⟨p, q, x, y, rfl, ⟨dx, hp⟩, ⟨dy, hq⟩, bx, by', _, k⟩ := h
    have cN := T.c_Number
    have nT := T.n_Number_top
    have nB := T.n_Number_bottom
    refine ⟨_, (pss_one (ps_ret (pe_make T.mk_Number (ok_Number_init T) (hr.mono (by decide)) (by rfl) T.m_Number T.b_Number_init2 .nil pass0 (pa_cons (pe_op op_sub (pe_op op_mulW (pe_fld (pv 0) rfl) (pe_fld (pv 1) rfl)) (pe_op op_mulW (pe_fld (pv 1) rfl) (pe_fld (pv 0) rfl))) (pa_cons (pe_op op_mulW (pe_fld (pv 0) rfl) (pe_fld (pv 1) rfl)) pa_nil))))), ?_⟩
    walk_at "rdf"
    refine r_I (cm bx.1 (bd_den by')) ?_
    walk_at "rdf"
    refine r_I (cm by'.1 (bd_den bx)) ?_
    walk_at "rdf"
    refine r_I (cm (bd_den bx) (bd_den by')) ?_
    walk_at "rdf"
    refine mk_num (dd_ne x y) (dd_lt bx by') fun r H' s n h => ?_
    rw [sub_eq] at h
    exact k r H' s n h
theorem ok_Number_times (T : Txt w K mg) : FnOk P w K mg base CX0 3 T.f_Number_times T.fd_Number_times ["self", "other"] (spBin T.C_Number (fun x y => x * y) fun _ _ => True) := by
  refine T.F_Number_times.ok sc_Number_times (fun vs H Q E h => ?_) (fun cdv A outer s H vs Q E hr h => ?_)
  · obtain ⟨p, q, x, y, rfl, _⟩ := h
    rfl
  · obtain ⟨p, q, x, y, rfl, ⟨dx, hp⟩, ⟨dy, hq⟩, bx, by', _, k⟩ := h
    have cN := T.c_Number
    have nT := T.n_Number_top
    have nB := T.n_Number_bottom
    refine ⟨_, (pss_one (ps_ret (pe_make T.mk_Number (ok_Number_init T) (hr.mono (by decide)) (by rfl) T.m_Number T.b_Number_init2 .nil pass0 (pa_cons (pe_op op_mulW (pe_fld (pv 0) rfl) (pe_fld (pv 1) rfl)) (pa_cons (pe_op op_mulW (pe_fld (pv 0) rfl) (pe_fld (pv 1) rfl)) pa_nil))))), ?_⟩
    walk_at "rdf"
    refine r_I (cm bx.1 by'.1) ?_
    walk_at "rdf"
    refine r_I (cm (bd_den bx) (bd_den by')) ?_
    walk_at "rdf"
    refine mk_num (dd_ne x y) (dd_lt bx by') fun r H' s n h => ?_
    rw [mul_eq] at h
    exact k r H' s n h
theorem ok_Number_over (T : Txt w K mg) : FnOk P w K mg base CX0 3 T.f_Number_over T.fd_Number_over ["self", "other"] (spBin T.C_Number (fun x y => x / y) fun _ y => y ≠ 0) := by
  refine T.F_Number_over.ok sc_Number_over (fun vs H Q E h => ?_) (fun cdv A outer s H vs Q E hr h => ?_)
  · obtain ⟨p, q, x, y, rfl, _⟩ := h
    rfl
  · obtain ⟨p, q, x, y, rfl, ⟨dx, hp⟩, ⟨dy, hq⟩, bx, by', y0, k⟩ := h
    have cN := T.c_Number
    have nT := T.n_Number_top
    have nB := T.n_Number_bottom
    refine ⟨_, (pss_cons (ps_if (pt_cmpR op_eq (pe_fld (pv 1) rfl) pe_int (nomark _))
  (pss_one ps_never)
  pss_nil)
 (pss_one (ps_ret (pe_make T.mk_Number (ok_Number_init T) (hr.mono (by decide)) (by rfl) T.m_Number T.b_Number_init2 .nil pass0 (pa_cons (pe_op op_mulW (pe_fld (pv 0) rfl) (pe_fld (pv 1) rfl)) (pa_cons (pe_op op_mulW (pe_fld (pv 0) rfl) (pe_fld (pv 1) rfl)) pa_nil)))))), ?_⟩
    walk_at "rdf"
    refine r_iteF (decide_eq_false (num_ne y0)) ?_
    walk_at "rdf"
    refine r_I (cm bx.1 (bd_den by')) ?_
    walk_at "rdf"
    refine r_I (cm (bd_den bx) by'.1) ?_
    walk_at "rdf"
    refine mk_num (Int.mul_ne_zero (den_ne x) (num_ne y0)) (natAbs_mul_lt (bd_den bx) by'.1 (by decide)) fun r H' s n h => ?_
    rw [div_eq] at h
    exact k r H' s n h
def spFloor (C : Addr) : Sp := fun vs H Q _ => ∃ (p : Addr) (x : Rat), vs = [.ref p] ∧ NumAt C H p x ∧ Bd 8000 x ∧ Q (.int x.floor) H
theorem ok_Number_floor (T : Txt w K mg) : FnOk P w K mg base CX0 1 T.f_Number_floor T.fd_Number_floor ["self"] (spFloor T.C_Number) := by
  refine T.F_Number_floor.ok sc_Number_floor (fun vs H Q E h => ?_) (fun cdv A outer s H vs Q E hr h => ?_)
  · obtain ⟨p, x, rfl, _⟩ := h
    rfl
  · obtain ⟨p, x, rfl, ⟨dx, hp⟩, bx, k⟩ := h
    have cN := T.c_Number
    have nT := T.n_Number_top
    have nB := T.n_Number_bottom
    refine ⟨_, (pss_one (ps_ret (pe_op op_fdivW (pe_fld (pv 0) rfl) (pe_fld (pv 0) rfl)))), ?_⟩
    walk_at "rdf"
    refine r_I (wide_div (by have := x.den_pos; omega) (bd_den bx) (by decide) (by decide)) ?_
    show Q (.int (x.num / (x.den : Int))) H
    rw [← Rat.floor_def]
    exact k
end
end My

namespace My
open PySem L2
section
variable {P : Program} {w : World} {K : PySem.W.Frag} {mg : Str → Option Value} {base : Heap}
theorem no_over (q : Rat) : (nf q).lookup ("over" : Str) = none := nf_no _ (by decide +kernel) (by decide +kernel)
theorem no_less (q : Rat) : (nf q).lookup ("less" : Str) = none := nf_no _ (by decide +kernel) (by decide +kernel)
theorem no_times (q : Rat) : (nf q).lookup ("times" : Str) = none := nf_no _ (by decide +kernel) (by decide +kernel)
theorem no_floor (q : Rat) : (nf q).lookup ("floor" : Str) = none := nf_no _ (by decide +kernel) (by decide +kernel)
def spPlace (C : Addr) : Sp := fun vs H Q _ => ∃ (p s : Addr) (x y : Rat), vs = [.ref p, .ref s] ∧ NumAt C H p x ∧ NumAt C H s y ∧ Bd 900 x ∧ Bd 900 y ∧ y ≠ 0 ∧
  ∀ (t pp : Addr) (H' : Hp), Same H H' → H' t = some (.tup [.int (x / y).floor, .int (highQ (x / y)), .ref pp]) → NumAt C H' pp (partQ (x / y)) → Q (.ref t) H'
theorem ok_place_of (T : Txt w K mg) : FnOk P w K mg base CX0 4 T.f_place_of T.fd_place_of ["number", "step"] (spPlace T.C_Number) := by
  refine T.F_place_of.ok sc_place_of (fun vs H Q E h => ?_) (fun cdv A outer s H vs Q E hr h => ?_)
  · obtain ⟨p, q, x, y, rfl, _⟩ := h
    rfl
  · obtain ⟨p, q, x, y, rfl, ⟨dx, hp⟩, ⟨dy, hq⟩, bx, by', y0, k⟩ := h
    have cN := T.c_Number
    have nT := T.n_Number_top
    have nB := T.n_Number_bottom
    have bn : Bd 1800 (x / y) := Bd.div bx by' y0
    have bf : Bd 1800 ((x / y).floor : Rat) := Bd.int (floor_bd bn) (by decide)
    refine ⟨_, (pss_cons (ps_set (i := 2) sc_place_of.nd rfl (Or.inl rfl) (pe_meth (pv 0) T.c_Number T.me_Number_over (ok_Number_over T) (hr.mono (by decide)) T.b_Number_over .nil pass0 (pa_cons (pv 1) pa_nil)))
 (pss_cons (ps_set (i := 3) sc_place_of.nd rfl (Or.inl rfl) (pe_meth0 (pv 2) T.c_Number T.me_Number_floor (ok_Number_floor T) (hr.mono (by decide)) T.b_Number_floor .nil pass0))
 (pss_cons (ps_set (i := 4) sc_place_of.nd rfl (Or.inl rfl) (pe_meth (pv 2) T.c_Number T.me_Number_less (ok_Number_less T) (hr.mono (by decide)) T.b_Number_less .nil pass0 (pa_cons (pe_make T.mk_Number (ok_Number_init T) (hr.mono (by decide)) (by rfl) T.m_Number T.b_Number_init1 T.d_Number_init1 pass0 (pa_cons (pv 3) pa_nil)) pa_nil)))
 (pss_cons (ps_set (i := 5) sc_place_of.nd rfl (Or.inl rfl) (pe_ifExp (pt_cmpR op_eq (pe_fld (pv 4) rfl) pe_int (nomark _)) (pv 3) (pe_op op_add (pv 3) pe_int)))
 (pss_one (ps_ret (pe_tup (pa_cons (pv 3) (pa_cons (pv 5) (pa_cons (pv 4) pa_nil)))))))))), ?_⟩
    walk_at "rdf"
    refine r_meth1 hp (no_over _) ?_
    walk_at "rdf"
    refine ⟨p, q, x, y, rfl, ⟨_, hp⟩, ⟨_, hq⟩, bx.mono (by decide), by'.mono (by decide), y0, fun r H1 s1 n1 h1 => ?_⟩
    obtain ⟨dr, hr1⟩ := h1
    walk_at "rdf"
    refine r_meth1 hr1 (no_floor _) ?_
    walk_at "rdf"
    refine ⟨r, x / y, rfl, ⟨_, hr1⟩, bn.mono (by decide), ?_⟩
    walk_at "rdf"
    refine r_meth1 hr1 (no_less _) ?_
    walk_at "rdf"
    refine mk_num1 fun u H2 s2 n2 h2 => ?_
    walk_at "rdf"
    refine ⟨r, u, x / y, ((x / y).floor : Rat), rfl, ⟨_, s2 _ _ hr1⟩, h2, bn.mono (by decide), bf.mono (by decide), trivial, fun pp H3 s3 n3 h3 => ?_⟩
    obtain ⟨dp, hp3⟩ := h3
    have s03 : Same H H3 := (s1.trans s2).trans s3
    walk_at "rdf"
    refine r_ite (fun e => ?_) (fun e => ?_)
    · have e' : highQ (x / y) = (x / y).floor := by
        unfold highQ
        exact if_pos (of_decide_eq_true e)
      walk_at "rdf"
      refine r_new (by show 3 ≤ 1000; decide) fun t ht => ?_
      exact k t pp _ (s03.trans (Same.new ht)) (by rw [upd_same, e']) ⟨dp, by rw [upd_ne (ne_of_none hp3 ht)]; exact hp3⟩
    · have e' : highQ (x / y) = (x / y).floor + 1 := by
        unfold highQ
        exact if_neg (of_decide_eq_false e)
      walk_at "rdf"
      refine r_new (by show 3 ≤ 1000; decide) fun t ht => ?_
      exact k t pp _ (s03.trans (Same.new ht)) (by rw [upd_same, e']) ⟨dp, by rw [upd_ne (ne_of_none hp3 ht)]; exact hp3⟩
/-! ### the ways -/
def wname : Way → Str
  | .up => "up" | .down => "down" | .high => "high" | .low => "low" | .hup => "half up" | .hdown => "half down" | .heven => "half even" | .hodd => "half odd"
def spRule (C : Addr) (r : Way) : Sp := fun vs H Q _ => ∃ (l : Int) (pp : Addr) (q : Rat), vs = [.int l, .ref pp] ∧ NumAt C H pp q ∧ Q (.bl (ruleB r l q)) H
def spNearer (C : Addr) : Sp := fun vs H Q _ => ∃ (pp : Addr) (q : Rat) (a : Bool), vs = [.ref pp, .bl a] ∧ NumAt C H pp q ∧ Q (.bl (nearerB q a)) H
theorem ok_nearer (T : Txt w K mg) : FnOk P w K mg base CX0 1 T.f_nearer T.fd_nearer ["part", "at_half"] (spNearer T.C_Number) := by
  refine T.F_nearer.ok sc_nearer (fun vs H Q E h => ?_) (fun cdv A outer s H vs Q E hr h => ?_)
  · obtain ⟨p, q, a, rfl, _⟩ := h
    rfl
  · obtain ⟨p, q, a, rfl, ⟨dx, hp⟩, k⟩ := h
    have cN := T.c_Number
    have nT := T.n_Number_top
    have nB := T.n_Number_bottom
    refine ⟨_, (pss_cons (ps_set (i := 2) sc_nearer.nd rfl (Or.inl rfl) (pe_op op_mul pe_int (pe_fld (pv 0) rfl)))
 (pss_cons (ps_if (pt_cmpR op_eq (pv 2) (pe_fld (pv 0) rfl) (nomark _))
  (pss_one (ps_ret (pv 1)))
  pss_nil)
 (pss_one (ps_ret (pe_cmpR op_gt (pv 2) (pe_fld (pv 0) rfl) (nomark _)))))), ?_⟩
    walk_at "rdf"
    unfold nearerB at k
    refine r_ite (fun e => ?_) (fun e => ?_)
    · walk_at "rdf"
      rw [if_pos (of_decide_eq_true e)] at k
      exact k
    · walk_at "rdf"
      rw [if_neg (of_decide_eq_false e)] at k
      exact k
theorem ok_by_up (T : Txt w K mg) : FnOk P w K mg base CX0 1 T.f_by_up T.fd_by_up ["low", "part"] (spRule T.C_Number .up) := by
  refine T.F_by_up.ok sc_by_up (fun vs H Q E h => ?_) (fun cdv A outer s H vs Q E hr h => ?_)
  · obtain ⟨l, pp, q, rfl, _⟩ := h
    rfl
  · obtain ⟨l, pp, q, rfl, hp, k⟩ := h
    refine ⟨_, (pss_one (ps_ret (pe_cmpR op_ge (pv 0) pe_int (nomark _)))), ?_⟩
    walk_at "rdf"
    exact k
theorem ok_by_down (T : Txt w K mg) : FnOk P w K mg base CX0 1 T.f_by_down T.fd_by_down ["low", "part"] (spRule T.C_Number .down) := by
  refine T.F_by_down.ok sc_by_down (fun vs H Q E h => ?_) (fun cdv A outer s H vs Q E hr h => ?_)
  · obtain ⟨l, pp, q, rfl, _⟩ := h
    rfl
  · obtain ⟨l, pp, q, rfl, hp, k⟩ := h
    refine ⟨_, (pss_one (ps_ret (pe_cmpR op_lt (pv 0) pe_int (nomark _)))), ?_⟩
    walk_at "rdf"
    exact k
theorem ok_by_high (T : Txt w K mg) : FnOk P w K mg base CX0 1 T.f_by_high T.fd_by_high ["low", "part"] (spRule T.C_Number .high) := by
  refine T.F_by_high.ok sc_by_high (fun vs H Q E h => ?_) (fun cdv A outer s H vs Q E hr h => ?_)
  · obtain ⟨l, pp, q, rfl, _⟩ := h
    rfl
  · obtain ⟨l, pp, q, rfl, hp, k⟩ := h
    refine ⟨_, (pss_one (ps_ret pe_bl)), ?_⟩
    walk_at "rdf"
    exact k
theorem ok_by_low (T : Txt w K mg) : FnOk P w K mg base CX0 1 T.f_by_low T.fd_by_low ["low", "part"] (spRule T.C_Number .low) := by
  refine T.F_by_low.ok sc_by_low (fun vs H Q E h => ?_) (fun cdv A outer s H vs Q E hr h => ?_)
  · obtain ⟨l, pp, q, rfl, _⟩ := h
    rfl
  · obtain ⟨l, pp, q, rfl, hp, k⟩ := h
    refine ⟨_, (pss_one (ps_ret pe_bl)), ?_⟩
    walk_at "rdf"
    exact k
theorem ok_by_half_up (T : Txt w K mg) : FnOk P w K mg base CX0 2 T.f_by_half_up T.fd_by_half_up ["low", "part"] (spRule T.C_Number .hup) := by
  refine T.F_by_half_up.ok sc_by_half_up (fun vs H Q E h => ?_) (fun cdv A outer s H vs Q E hr h => ?_)
  · obtain ⟨l, pp, q, rfl, _⟩ := h
    rfl
  · obtain ⟨l, pp, q, rfl, hp, k⟩ := h
    refine ⟨_, (pss_one (ps_ret (pe_call (ok_nearer T) (hr.mono (by decide)) (by rfl) T.m_nearer T.F_nearer.kp T.b_nearer .nil pass0 (pa_cons (pv 1) (pa_cons (pe_cmpR op_ge (pv 0) pe_int (nomark _)) pa_nil))))), ?_⟩
    walk_at "rdf"
    exact ⟨pp, q, _, rfl, hp, k⟩
theorem ok_by_half_down (T : Txt w K mg) : FnOk P w K mg base CX0 2 T.f_by_half_down T.fd_by_half_down ["low", "part"] (spRule T.C_Number .hdown) := by
  refine T.F_by_half_down.ok sc_by_half_down (fun vs H Q E h => ?_) (fun cdv A outer s H vs Q E hr h => ?_)
  · obtain ⟨l, pp, q, rfl, _⟩ := h
    rfl
  · obtain ⟨l, pp, q, rfl, hp, k⟩ := h
    refine ⟨_, (pss_one (ps_ret (pe_call (ok_nearer T) (hr.mono (by decide)) (by rfl) T.m_nearer T.F_nearer.kp T.b_nearer .nil pass0 (pa_cons (pv 1) (pa_cons (pe_cmpR op_lt (pv 0) pe_int (nomark _)) pa_nil))))), ?_⟩
    walk_at "rdf"
    exact ⟨pp, q, _, rfl, hp, k⟩
theorem ok_by_half_even (T : Txt w K mg) : FnOk P w K mg base CX0 2 T.f_by_half_even T.fd_by_half_even ["low", "part"] (spRule T.C_Number .heven) := by
  refine T.F_by_half_even.ok sc_by_half_even (fun vs H Q E h => ?_) (fun cdv A outer s H vs Q E hr h => ?_)
  · obtain ⟨l, pp, q, rfl, _⟩ := h
    rfl
  · obtain ⟨l, pp, q, rfl, hp, k⟩ := h
    refine ⟨_, (pss_one (ps_ret (pe_call (ok_nearer T) (hr.mono (by decide)) (by rfl) T.m_nearer T.F_nearer.kp T.b_nearer .nil pass0 (pa_cons (pv 1) (pa_cons (pe_cmpR op_eq (pe_op op_mod (pv 0) pe_int) pe_int (nomark _)) pa_nil))))), ?_⟩
    walk_at "rdf"
    exact ⟨pp, q, _, rfl, hp, k⟩
theorem ok_by_half_odd (T : Txt w K mg) : FnOk P w K mg base CX0 2 T.f_by_half_odd T.fd_by_half_odd ["low", "part"] (spRule T.C_Number .hodd) := by
  refine T.F_by_half_odd.ok sc_by_half_odd (fun vs H Q E h => ?_) (fun cdv A outer s H vs Q E hr h => ?_)
  · obtain ⟨l, pp, q, rfl, _⟩ := h
    rfl
  · obtain ⟨l, pp, q, rfl, hp, k⟩ := h
    refine ⟨_, (pss_one (ps_ret (pe_call (ok_nearer T) (hr.mono (by decide)) (by rfl) T.m_nearer T.F_nearer.kp T.b_nearer .nil pass0 (pa_cons (pv 1) (pa_cons (pe_cmpR op_eq (pe_op op_mod (pv 0) pe_int) pe_int (nomark _)) pa_nil))))), ?_⟩
    walk_at "rdf"
    exact ⟨pp, q, _, rfl, hp, k⟩
theorem rule_held (T : Txt w K mg) (r : Way) : ∃ (f : Addr) (fd : FuncData), FnOk P w K mg base CX0 2 f fd ["low", "part"] (spRule T.C_Number r) ∧ PySem.W.keepIn K (.ref f) = true ∧ Binds K fd ["low", "part"] [] ∧ KDct K w T.D_RULES (wname r) (.ref f) := by
  cases r with
  | up => exact ⟨_, _, (ok_by_up T).mono (by decide), T.F_by_up.kp, T.b_by_up, _, _, _, T.l_RULES, T.k_RULES, T.rule_by_up, rfl⟩
  | down => exact ⟨_, _, (ok_by_down T).mono (by decide), T.F_by_down.kp, T.b_by_down, _, _, _, T.l_RULES, T.k_RULES, T.rule_by_down, rfl⟩
  | high => exact ⟨_, _, (ok_by_high T).mono (by decide), T.F_by_high.kp, T.b_by_high, _, _, _, T.l_RULES, T.k_RULES, T.rule_by_high, rfl⟩
  | low => exact ⟨_, _, (ok_by_low T).mono (by decide), T.F_by_low.kp, T.b_by_low, _, _, _, T.l_RULES, T.k_RULES, T.rule_by_low, rfl⟩
  | hup => exact ⟨_, _, ok_by_half_up T, T.F_by_half_up.kp, T.b_by_half_up, _, _, _, T.l_RULES, T.k_RULES, T.rule_by_half_up, rfl⟩
  | hdown => exact ⟨_, _, ok_by_half_down T, T.F_by_half_down.kp, T.b_by_half_down, _, _, _, T.l_RULES, T.k_RULES, T.rule_by_half_down, rfl⟩
  | heven => exact ⟨_, _, ok_by_half_even T, T.F_by_half_even.kp, T.b_by_half_even, _, _, _, T.l_RULES, T.k_RULES, T.rule_by_half_even, rfl⟩
  | hodd => exact ⟨_, _, ok_by_half_odd T, T.F_by_half_odd.kp, T.b_by_half_odd, _, _, _, T.l_RULES, T.k_RULES, T.rule_by_half_odd, rfl⟩
def spPaper (C : Addr) : Sp := fun vs H Q _ => ∃ (p s : Addr) (x y : Rat) (r : Way), vs = [.ref p, .ref s, .str (wname r)] ∧ NumAt C H p x ∧ NumAt C H s y ∧ Bd 900 x ∧ Bd 900 y ∧ y ≠ 0 ∧
  ∀ (t : Addr) (H' : Hp), Same H H' → H' t = some (.tup [.int (x / y).floor, .int (highQ (x / y)), .int (takenQ r (x / y))]) → Q (.ref t) H'
theorem is_str {w : World} {K : PySem.W.Frag} {H : Hp} {z : Str} {Q : VK} (q : Q (.bl true) H) : rIsi K [.str z, .ty "str"] H Q :=
  ⟨.str z, .ty "str", .type "str", .type "str", true, rfl, .ty "str", .base (.str z), kit_ty (by decide +kernel), q⟩
theorem highQ_eq {n : Rat} : n.floor = highQ n ↔ (partQ n).num = 0 := by
  unfold highQ
  split
  · exact ⟨fun _ => by assumption, fun _ => rfl⟩
  · exact ⟨fun e => by omega, fun e => absurd e (by assumption)⟩
theorem ok_round_paper (T : Txt w K mg) : FnOk P w K mg base CX0 5 T.f_round_paper T.fd_round_paper ["number", "step", "way"] (spPaper T.C_Number) := by
  refine T.F_round_paper.ok sc_round_paper (fun vs H Q E h => ?_) (fun cdv A outer s H vs Q E hr h => ?_)
  · obtain ⟨p, q, x, y, r, rfl, _⟩ := h
    rfl
  · obtain ⟨p, q, x, y, r, rfl, hp, hq, bx, by', y0, k⟩ := h
    obtain ⟨f, fd, Fr, kr, br, kd⟩ := rule_held (P := P) (base := base) T r
    refine ⟨_, (pss_cons (ps_asg (pe_call (ok_place_of T) (hr.mono (by decide)) (by rfl) T.m_place_of T.F_place_of.kp T.b_place_of .nil pass0 (pa_cons (pv 0) (pa_cons (pv 1) pa_nil))) (pg_tup rfl (pgs_cons (pg_name (i := 3) sc_round_paper.nd rfl (Or.inl rfl)) (pgs_cons (pg_name (i := 4) sc_round_paper.nd rfl (Or.inl rfl)) (pgs_cons (pg_name (i := 5) sc_round_paper.nd rfl (Or.inl rfl)) pgs_nil)))))
 (pss_cons (ps_if (pt_cmpR op_eq (pv 3) (pv 4) (nomark _))
  (pss_one (ps_ret (pe_tup (pa_cons (pv 3) (pa_cons (pv 4) (pa_cons (pv 3) pa_nil))))))
  pss_nil)
 (pss_cons (ps_set (i := 6) sc_round_paper.nd rfl (Or.inl rfl) (pv 2))
 (pss_cons (ps_if (pt_val (pe_callB call_isi (by rfl) T.n_isinstance (by decide +kernel) (pa_cons (pv 2) (pa_cons (pe_bltn (v := .ty "str") (by rfl) T.n_str (by decide +kernel) rfl) pa_nil))))
  (pss_one (ps_set (i := 6) sc_round_paper.nd rfl (Or.inl rfl) (pe_ix ix_kdict (pe_glob (v := .ref T.D_RULES) (by rfl) T.m_RULES rfl) (pv 2) (fun _ _ => rfl))))
  pss_nil)
 (pss_cons (ps_if (pt_cmpR op_isBl (pe_callL (i := 6) Fr (hr.mono (by decide)) rfl (Or.inl rfl) kr br .nil pass0 (pa_cons (pv 3) (pa_cons (pv 5) pa_nil))) pe_bl (nomark _))
  (pss_one (ps_ret (pe_tup (pa_cons (pv 3) (pa_cons (pv 4) (pa_cons (pv 4) pa_nil))))))
  pss_nil)
 (pss_one (ps_ret (pe_tup (pa_cons (pv 3) (pa_cons (pv 4) (pa_cons (pv 3) pa_nil))))))))))), ?_⟩
    walk_at "rd"
    refine ⟨p, q, x, y, rfl, hp, hq, bx, by', y0, fun t pp H1 s1 h1 hpp => ?_⟩
    refine ⟨t, _, rfl, SqT.of h1, rfl, _, _, rfl, ?_⟩
    walk_at "rd"
    refine ⟨_, _, rfl, ?_⟩
    walk_at "rd"
    refine ⟨_, _, rfl, ?_⟩
    walk_at "rd"
    refine ⟨rfl, ?_⟩
    walk_at "rd"
    refine r_ite (fun e => ?_) (fun e => ?_)
    · walk_at "rd"
      refine r_new (by show 3 ≤ 1000; decide) fun t2 ht => ?_
      have e1 := highQ_eq.mp (of_decide_eq_true e)
      have e2 : takenQ r (x / y) = (x / y).floor := by unfold takenQ; rw [if_pos e1]
      exact k t2 _ (s1.trans (Same.new ht)) (by rw [upd_same, e2])
    · have e1 : ¬ (partQ (x / y)).num = 0 := fun z => of_decide_eq_false e (highQ_eq.mpr z)
      have e3 : highQ (x / y) = (x / y).floor + 1 := by unfold highQ; rw [if_neg e1]
      walk_at "rd"
      refine is_str (w := w) ?_
      walk_at "rd"
      refine r_iteT rfl ?_
      walk_at "rd"
      refine ⟨_, _, _, rfl, rfl, kd, ?_⟩
      walk_at "rd"
      refine ⟨rfl, ?_⟩
      walk_at "rd"
      refine ⟨_, pp, partQ (x / y), rfl, hpp, ?_⟩
      walk_at "rd"
      refine ⟨_, _, rfl, rfl, ?_⟩
      walk_at "rd"
      refine r_ite (fun z => ?_) (fun z => ?_)
      · have z' : ruleB r (x / y).floor (partQ (x / y)) = true := of_decide_eq_true z
        walk_at "rd"
        refine r_new (by show 3 ≤ 1000; decide) fun t2 ht => ?_
        have e2 : takenQ r (x / y) = highQ (x / y) := by unfold takenQ; rw [if_neg e1, if_pos z', e3]
        exact k t2 _ (s1.trans (Same.new ht)) (by rw [upd_same, e2])
      · have z' : ¬ ruleB r (x / y).floor (partQ (x / y)) = true := of_decide_eq_false z
        walk_at "rd"
        refine r_new (by show 3 ≤ 1000; decide) fun t2 ht => ?_
        have e2 : takenQ r (x / y) = (x / y).floor := by unfold takenQ; rw [if_neg e1, if_neg z']
        exact k t2 _ (s1.trans (Same.new ht)) (by rw [upd_same, e2])
def spRounded (C : Addr) : Sp := fun vs H Q _ => ∃ (p s : Addr) (x y : Rat) (r : Way), vs = [.ref p, .ref s, .str (wname r)] ∧ NumAt C H p x ∧ NumAt C H s y ∧ Bd 900 x ∧ Bd 900 y ∧ y ≠ 0 ∧
  ∀ (t : Addr) (H' : Hp), Same H H' → NumAt C H' t (y * (takenQ r (x / y) : Rat)) → Q (.ref t) H'
theorem taken_bd {n : Nat} {r : Way} {x : Rat} (h : Bd n x) : (takenQ r x).natAbs < 2 ^ (n + 1) := by
  have b := floor_bd h
  rw [Nat.pow_succ]
  unfold takenQ
  split
  · omega
  · split <;> omega
theorem ok_rounded (T : Txt w K mg) : FnOk P w K mg base CX0 6 T.f_rounded T.fd_rounded ["number", "step", "way"] (spRounded T.C_Number) := by
  refine T.F_rounded.ok sc_rounded (fun vs H Q E h => ?_) (fun cdv A outer s H vs Q E hr h => ?_)
  · obtain ⟨p, q, x, y, r, rfl, _⟩ := h
    rfl
  · obtain ⟨p, q, x, y, r, rfl, hp, hq, bx, by', y0, k⟩ := h
    refine ⟨_, (pss_cons (ps_set (i := 3) sc_rounded.nd rfl (Or.inl rfl) (pe_ix ix_tup (pe_callN (ok_round_paper T) (hr.mono (by decide)) (by rfl) T.m_round_paper T.F_round_paper.kp T.kb_round_paper pass0 (pa_cons (pv 0) (pa_cons (pv 1) pa_nil)) (pk_cons (pv 2) pk_nil)) pe_int (fun _ _ => rfl)))
 (pss_one (ps_ret (pe_meth (pv 1) T.c_Number T.me_Number_times (ok_Number_times T) (hr.mono (by decide)) T.b_Number_times .nil pass0 (pa_cons (pe_make T.mk_Number (ok_Number_init T) (hr.mono (by decide)) (by rfl) T.m_Number T.b_Number_init1 T.d_Number_init1 pass0 (pa_cons (pv 3) pa_nil)) pa_nil))))), ?_⟩
    walk_at "rd"
    refine ⟨rfl, rfl, ?_⟩
    refine ⟨p, q, x, y, r, rfl, hp, hq, bx, by', y0, fun t H1 s1 h1 => ?_⟩
    walk_at "rd"
    refine r_ixT h1 (atI_nat (j := 2) rfl) ?_
    walk_at "rd"
    obtain ⟨dq, hq1⟩ := hq.same s1
    refine r_meth1 hq1 (no_times _) ?_
    walk_at "rd"
    refine mk_num1 fun u H2 s2 n2 h2 => ?_
    walk_at "rd"
    refine ⟨q, u, y, _, rfl, ⟨_, s2 _ _ hq1⟩, h2, by'.mono (by decide), (Bd.int (taken_bd (Bd.div bx by' y0)) (by decide)).mono (by decide), trivial, fun t3 H3 s3 n3 h3 => ?_⟩
    exact k t3 H3 ((s1.trans s2).trans s3) h3
end
end My

namespace My
open PySem L2
section
variable {P : Program} {w : World} {K : PySem.W.Frag} {mg : Str → Option Value} {base : Heap}
/-! ### the deck -/
/-- a deck at d, its cells at c -/
def DeckAt (H : Hp) (d c : Addr) : Prop := ∃ (s n : Int) (xs : List Int), H d = some (.lst [.ref c, .int s, .int n]) ∧ H c = some (.lst (xs.map V.int)) ∧ xs.length ≤ 63 ∧ d ≠ c
theorem DeckAt.same {H H' : Hp} {d c : Addr} (s : Same H H') (h : DeckAt H d c) : DeckAt H' d c := let ⟨a, n, xs, h1, h2, h3, h4⟩ := h; ⟨a, n, xs, s _ _ h1, s _ _ h2, h3, h4⟩
/-- what is no list stays -/
theorem Off.keep {H H' : Hp} {d c b : Addr} {o : HO} (s : Off d c H H') (hd : DeckAt H d c) (h : H b = some o) (hn : ∀ xs, o ≠ .lst xs) : H' b = some o := by
  obtain ⟨_, _, _, h1, h2, _, _⟩ := hd
  exact s b o (ne_of h h1 (hn _)) (ne_of h h2 (hn _)) h
def spDeck (K : PySem.W.Frag) : Sp := fun vs H Q _ => ∃ (a : Addr) (ns : List Int), vs = [.ref a] ∧ SqL K H a (ns.map V.int) ∧ ns.length ≤ 63 ∧ ∀ (d c : Addr) (H' : Hp), Same H H' → DeckAt H' d c → Q (.ref d) H'
theorem ok_l_deck (T : Txt w K mg) : FnOk P w K mg base CX0 1 T.f_l_deck T.fd_l_deck ["_law_script"] (spDeck K) := by
  refine T.F_l_deck.ok sc_l_deck (fun vs H Q E h => ?_) (fun cdv A outer s H vs Q E hr h => ?_)
  · obtain ⟨a, ns, rfl, _⟩ := h
    rfl
  · obtain ⟨a, ns, rfl, hS, hl, k⟩ := h
    refine ⟨_, (pss_cons (ps_set (i := 1) sc_l_deck.nd rfl (Or.inl rfl) (pe_callTy call_list_of (by rfl) T.n_list (by decide +kernel) (pa_cons (pe_slice sl_list (pv 0) po_none (po_some pe_int)) pa_nil)))
 (pss_cons (ps_set (i := 2) sc_l_deck.nd rfl (Or.inl rfl) pe_int)
 (pss_cons (ps_for PassesOwn.never rfl (pi_list (pv 1)) (pg_name (i := 3) sc_l_deck.nd rfl (Or.inl rfl))
  (pss_one (ps_set (i := 2) sc_l_deck.nd rfl (Or.inl rfl) (pe_op op_mod (pe_op op_add (pe_op op_add (pe_op op_mul (pv 2) pe_int) (pe_op op_mod (pv 3) pe_int)) pe_int) pe_int))))
 (pss_one (ps_ret (pe_lst (pa_cons (pe_revL (pv 1)) (pa_cons (pv 2) (pa_cons pe_int pa_nil))))))))), ?_⟩
    walk_at "rd"
    refine ⟨a, _, rfl, hS, fun p hp => ?_⟩
    obtain ⟨ms, em, lm⟩ := cut_ints ns 63
    rw [em]
    walk_at "rd"
    refine ⟨p, _, rfl, .inl (SqL.of upd_same), fun l hl' => ?_⟩
    have s1 : Same H (upd H p (.lst (ms.map V.int))) := Same.new hp
    have s2 : Same H (upd (upd H p (.lst (ms.map V.int))) l (.lst (ms.map V.int))) := s1.trans (Same.new hl')
    walk_at "rd"
    generalize hH2 : upd (upd H p (.lst (ms.map V.int))) l (.lst (ms.map V.int)) = H2 at *
    have hL : H2 l = some (.lst (ms.map V.int)) := by rw [← hH2]; exact upd_same
    refine ⟨_, rfl, l, rfl, ⟨_, SqL.of hL⟩, for_list (K := K) (a := l) (xs := ms.map V.int) (fun i σ H' => ∃ (z : Int) (v : Option V), σ = [some (.ref a), some (.ref l), some (.int z), v] ∧ H' = H2)
      ⟨23, none, rfl, rfl⟩ (fun i σ H' _ ⟨_, _, _, e⟩ => e ▸ SqL.of hL) ?_ ?_⟩
    · rintro i y σ H' hi ⟨z, v, rfl, rfl⟩
      obtain ⟨u, rfl⟩ : ∃ u, y = V.int u := by
        rw [List.getElem?_map] at hi
        cases e : ms[i]? with
        | none => rw [e] at hi; cases hi
        | some u => rw [e] at hi; exact ⟨u, (Option.some.inj hi).symm⟩
      walk_at "rd"
      exact ⟨_, _, rfl, rfl⟩
    · rintro σ H' ⟨z, v, rfl, rfl⟩
      walk_at "rd"
      refine ⟨l, _, rfl, SqL.of hL, fun c hc => ?_⟩
      walk_at "rd"
      refine r_new (by show 3 ≤ 1000; decide) fun d hd => ?_
      have hc2 : c ≠ d := ne_of_none upd_same hd
      refine k d c _ ((s2.trans (Same.new hc)).trans (Same.new hd)) ⟨z, 0, ms.reverse, upd_same, ?_, by rw [List.length_reverse]; omega, hc2.symm⟩
      rw [upd_ne hc2, upd_same, List.map_reverse]
/-! ### a draw -/
def spDraw : Sp := fun vs H Q _ => ∃ (d c : Addr) (w : Int), vs = [.ref d, .int w] ∧ DeckAt H d c ∧ 0 < w ∧ w.natAbs < 2 ^ 9000 ∧ ∀ (r : Int) (H' : Hp), Off d c H H' → DeckAt H' d c → 0 ≤ r → r < w → Q (.int r) H'
theorem lin31 {x : Int} : (0 : Int) ≤ x % 2147483647 ∧ x % 2147483647 < 2147483647 := ⟨Int.emod_nonneg _ (by decide), Int.emod_lt_of_pos _ (by decide)⟩
theorem ok_l_draw (T : Txt w K mg) : FnOk P w K mg base CX0 1 T.f_l_draw T.fd_l_draw ["_law_deck_here", "_law_ways"] spDraw := by
  refine T.F_l_draw.ok sc_l_draw (fun vs H Q E h => ?_) (fun cdv A outer s H vs Q E hr h => ?_)
  · obtain ⟨d, c, v, rfl, _⟩ := h
    rfl
  · obtain ⟨d, c, v, rfl, ⟨z, n, xs, hd, hc, hl, ne⟩, v0, vb, k⟩ := h
    refine ⟨_, (pss_cons (ps_asg (pe_op op_add (pe_ix ix_list (pv 0) pe_int (fun _ _ => rfl)) pe_int) (pg_sub (pv 0) pe_int set_list))
 (pss_cons (ps_set (i := 2) sc_l_draw.nd rfl (Or.inl rfl) (pe_ix ix_list (pv 0) pe_int (fun _ _ => rfl)))
 (pss_cons (ps_if (pt_cmpR (op_neD hr.units) (pe_ix ix_list (pv 0) pe_int (fun _ _ => rfl)) (pe_lst pa_nil) (nomark _))
  (pss_cons (ps_set (i := 2) sc_l_draw.nd rfl (Or.inl rfl) (pe_bm0 PySem.F.plainAttrs_list PySem.F.slot_list_pop PySem.F.type_list_pop mt_pop (pe_ix ix_list (pv 0) pe_int (fun _ _ => rfl))))
 (pss_one (ps_if (pt_cmpR op_ge (pv 2) (pe_op op_pow pe_int pe_int) (nomark _))
  (pss_cons (ps_expr (pe_bm PySem.F.plainAttrs_list PySem.F.slot_list_append PySem.F.type_list_append mt_append (pe_ix ix_list (pv 0) pe_int (fun _ _ => rfl)) (pa_cons (pe_op op_fdivW (pv 2) (pv 1)) pa_nil)))
 (pss_one (ps_ret (pe_op op_mod (pv 2) (pv 1)))))
  pss_nil)))
  pss_nil)
 (pss_cons (ps_set (i := 3) sc_l_draw.nd rfl (Or.inl rfl) (pe_op op_mod (pe_op op_mul (pe_op op_add (pe_op op_add (pe_op op_mod (pv 2) pe_int) (pe_op op_mul pe_int (pe_ix ix_list (pv 0) pe_int (fun _ _ => rfl)))) pe_int) pe_int) pe_int))
 (pss_cons (ps_set (i := 3) sc_l_draw.nd rfl (Or.inl rfl) (pe_op op_mod (pe_op op_add (pe_op op_add (pe_op op_mulW (pv 3) (pv 3)) (pe_op op_mul pe_int (pe_ix ix_list (pv 0) pe_int (fun _ _ => rfl)))) pe_int) pe_int))
 (pss_one (ps_ret (pe_op op_mod (pe_op op_fdiv (pe_op op_mod (pe_op op_mulW (pv 3) (pe_op op_add (pe_op op_fdiv (pv 3) pe_int) pe_int)) pe_int) pe_int) (pv 1))))))))), ?_⟩
    walk_at "rd"
    refine r_ixL hd (atI_nat (j := 2) rfl) ?_
    walk_at "rd"
    refine r_setL hd (j := 2) rfl ?_
    have o1 : Off d c H (upd H d (.lst [.ref c, .int z, .int (n + 1)])) := fun b o h1 h2 h => by rw [upd_ne h1]; exact h
    have hd1 : (upd H d (.lst [.ref c, .int z, .int (n + 1)])) d = some (.lst [.ref c, .int z, .int (n + 1)]) := upd_same
    have hc1 : (upd H d (.lst [.ref c, .int z, .int (n + 1)])) c = some (.lst (xs.map V.int)) := by rw [upd_ne ne.symm]; exact hc
    show (_ : TS) _ _ (upd H d (.lst [.ref c, .int z, .int (n + 1)]))
    generalize (upd H d (.lst [.ref c, .int z, .int (n + 1)])) = H1 at *
    have post : ∀ (cell : Int) (H2 : Hp), Off d c H H2 → (∃ ys : List Int, H2 c = some (.lst (ys.map V.int)) ∧ ys.length ≤ 63) → H2 d = some (.lst [.ref c, .int z, .int (n + 1)]) → ∀ r : Int, 0 ≤ r → r < v → Q (.int r) H2 := by
      intro cell H2 o2 ⟨ys, hy, ly⟩ h2 r r0 r1
      exact k r H2 o2 ⟨z, n + 1, ys, h2, hy, ly, ne⟩ r0 r1
    have pmod : ∀ x : Int, 0 ≤ x % v ∧ x % v < v := fun x => ⟨Int.emod_nonneg _ (by omega), Int.emod_lt_of_pos _ v0⟩
    walk_at "rd"
    refine r_ixL hd1 (atI_nat (j := 1) rfl) ?_
    walk_at "rd"
    refine r_ixL hd1 (atI_nat (j := 0) rfl) ?_
    walk_at "rd"
    refine r_new (by show 0 ≤ 1000; decide) fun e he => ?_
    have hc2 : upd H1 e (.lst []) c = some (.lst (xs.map V.int)) := by rw [upd_ne (ne_of_none hc1 he)]; exact hc1
    have hd2 : upd H1 e (.lst []) d = some (.lst [.ref c, .int z, .int (n + 1)]) := by rw [upd_ne (ne_of_none hd1 he)]; exact hd1
    have o2 : Off d c H (upd H1 e (.lst [])) := o1.trans (Off.of (Same.new he))
    refine r_neInts (xs := xs) (ys := []) (SqL.of hc2) (SqL.of upd_same) ?_
    generalize upd H1 e (.lst []) = H2 at *
    walk_at "rd"
    refine r_ite (fun hx => ?_) (fun hx => ?_)
    · obtain ⟨ys, y, rfl⟩ : ∃ ys y, xs = ys ++ [y] := by
        have hx' : xs ≠ [] := by simpa using hx
        exact ⟨xs.dropLast, xs.getLast hx', (List.dropLast_concat_getLast hx').symm⟩
      rw [List.map_append] at hc2
      rw [List.length_append, List.length_singleton] at hl
      walk_at "rd"
      refine r_ixL hd2 (atI_nat (j := 0) rfl) ?_
      refine ⟨ty_list hc2, r_pop hc2 ?_⟩
      have hc3 : upd H2 c (.lst (ys.map V.int)) c = some (.lst (ys.map V.int)) := upd_same
      have hd3 : upd H2 c (.lst (ys.map V.int)) d = some (.lst [.ref c, .int z, .int (n + 1)]) := by rw [upd_ne ne]; exact hd2
      have o3 : Off d c H (upd H2 c (.lst (ys.map V.int))) := o2.trans fun b o h1 h2 h => by rw [upd_ne h2]; exact h
      generalize upd H2 c (.lst (ys.map V.int)) = H3 at *
      walk_at "rd"
      refine r_ite (fun hy => ?_) (fun hy => ?_)
      · walk_at "rd"
        refine r_ixL hd3 (atI_nat (j := 0) rfl) ?_
        refine ⟨ty_list hc3, ?_⟩
        walk_at "rd"
        refine r_I (wide_div v0 vb (by decide) (Nat.le_refl _)) ?_
        walk_at "rd"
        refine r_append hc3 (by rw [List.length_map]; omega) ?_
        walk_at "rd"
        refine r_I v0 ?_
        refine post y _ (o3.trans fun b o h1 h2 h => by rw [upd_ne h2]; exact h) ⟨ys ++ [y / v], ?_, by rw [List.length_append, List.length_singleton]; omega⟩ (by rw [upd_ne ne]; exact hd3) _ (pmod y).1 (pmod y).2
        rw [upd_same, List.map_append]; rfl
      · walk_at "rd"
        refine r_ixL hd3 (atI_nat (j := 2) rfl) ?_
        walk_at "rd"
        refine r_I (wide_mul (a := 31) (b := 31) (by have := @lin31 ((y % 2147483629 + 104729 * (n + 1) + 41) * 48271); omega) (by have := @lin31 ((y % 2147483629 + 104729 * (n + 1) + 41) * 48271); omega) (by decide) (by decide) (by decide)) ?_
        walk_at "rd"
        refine r_ixL hd3 (atI_nat (j := 2) rfl) ?_
        walk_at "rd"
        generalize (y % 2147483629 + 104729 * (n + 1) + 41) * 48271 % 2147483647 * ((y % 2147483629 + 104729 * (n + 1) + 41) * 48271 % 2147483647) + 69621 * (n + 1) + 3 = m
        have hm : (0 : Int) ≤ m % 2147483587 ∧ m % 2147483587 < 2147483587 := ⟨Int.emod_nonneg _ (by decide), Int.emod_lt_of_pos _ (by decide)⟩
        refine r_I (wide_mul (a := 31) (b := 31) (by omega) (by omega) (by decide) (by decide) (by decide)) ?_
        walk_at "rd"
        refine r_I v0 ?_
        exact post y _ o3 ⟨ys, hc3, by omega⟩ hd3 _ (pmod _).1 (pmod _).2
    · walk_at "rd"
      refine r_ixL hd2 (atI_nat (j := 2) rfl) ?_
      walk_at "rd"
      refine r_I (wide_mul (a := 31) (b := 31) (by have := @lin31 ((z % 2147483629 + 104729 * (n + 1) + 41) * 48271); omega) (by have := @lin31 ((z % 2147483629 + 104729 * (n + 1) + 41) * 48271); omega) (by decide) (by decide) (by decide)) ?_
      walk_at "rd"
      refine r_ixL hd2 (atI_nat (j := 2) rfl) ?_
      walk_at "rd"
      generalize (z % 2147483629 + 104729 * (n + 1) + 41) * 48271 % 2147483647 * ((z % 2147483629 + 104729 * (n + 1) + 41) * 48271 % 2147483647) + 69621 * (n + 1) + 3 = m
      have hm : (0 : Int) ≤ m % 2147483587 ∧ m % 2147483587 < 2147483587 := ⟨Int.emod_nonneg _ (by decide), Int.emod_lt_of_pos _ (by decide)⟩
      refine r_I (wide_mul (a := 31) (b := 31) (by omega) (by omega) (by decide) (by decide) (by decide)) ?_
      walk_at "rd"
      refine r_I v0 ?_
      exact post 0 _ o2 ⟨xs, hc2, hl⟩ hd2 _ (pmod _).1 (pmod _).2
end
end My

namespace My
open PySem L2
theorem atI_mem {α : Type} {xs : List α} {r : Int} (h0 : 0 ≤ r) (h1 : r < (xs.length : Int)) : ∃ v, atI xs r = some v ∧ v ∈ xs := by
  obtain ⟨n, rfl⟩ := Int.eq_ofNat_of_zero_le h0
  have hn : n < xs.length := by omega
  exact ⟨xs[n], atI_nat (List.getElem?_eq_getElem hn), List.getElem_mem hn⟩
theorem fresh_ne {H : Hp} {d c p : Addr} (h : DeckAt H d c) (hp : H p = none) : p ≠ d ∧ p ≠ c := by
  obtain ⟨_, _, _, h1, h2, _, _⟩ := h
  exact ⟨(ne_of_none h1 hp).symm, (ne_of_none h2 hp).symm⟩
theorem lt9000 {v : Int} (h : v.natAbs < 2 ^ 200) : v.natAbs < 2 ^ 9000 := Nat.lt_of_lt_of_le h (Nat.pow_le_pow_right (by decide) (by decide))
/-- a draw, as it is read -/
theorem rd_draw {H : Hp} {d c : Addr} {v : Int} {Q : VK} {E : XK} (dk : DeckAt H d c) (h0 : 0 < v) (h1 : v.natAbs < 2 ^ 200) (q : ∀ (r : Int) (H' : Hp), Off d c H H' → DeckAt H' d c → 0 ≤ r → r < v → Q (.int r) H') : spDraw ([V.ref d, V.int v] ++ []) H Q E :=
  ⟨d, c, v, rfl, dk, h0, lt9000 h1, q⟩
end My

namespace My
open PySem L2
section
variable {P : Program} {w : World} {K : PySem.W.Frag} {mg : Str → Option Value} {base : Heap}
/-! ### a grain -/
def GrainOk (H : Hp) (v : V) : Prop := ∃ (p : Addr) (a b : Int), v = .ref p ∧ H p = some (.tup [.int a, .int b]) ∧ (0 < a ∧ a < 2 ^ 60) ∧ (0 < b ∧ b < 2 ^ 60)
/-- the deck stands, what stood stays but for it, the grains made are grains -/
structure GSt (H0 : Hp) (d c : Addr) (H : Hp) (vs : List V) : Prop where
  off : Off d c H0 H
  dk : DeckAt H d c
  all : ∀ v ∈ vs, GrainOk H v
theorem GSt.tup {H0 H : Hp} {d c p : Addr} {vs : List V} {a b : Int} (s : GSt H0 d c H vs) (hp : H p = none) (ha : 0 < a ∧ a < 2 ^ 60) (hb : 0 < b ∧ b < 2 ^ 60) : GSt H0 d c (upd H p (.tup [.int a, .int b])) (.ref p :: vs) := by
  refine ⟨s.off.trans (Off.of (Same.new hp)), s.dk.same (Same.new hp), fun v hv => ?_⟩
  rcases List.mem_cons.mp hv with rfl | hv
  · exact ⟨p, a, b, rfl, upd_same, ha, hb⟩
  · obtain ⟨q, x, y, e, h, h1, h2⟩ := s.all v hv
    exact ⟨q, x, y, e, Same.new hp _ _ h, h1, h2⟩
theorem GSt.lst {H0 H : Hp} {d c p : Addr} {vs xs : List V} (s : GSt H0 d c H vs) (hp : H p = none) : GSt H0 d c (upd H p (.lst xs)) vs := by
  refine ⟨s.off.trans (Off.of (Same.new hp)), s.dk.same (Same.new hp), fun v hv => ?_⟩
  obtain ⟨q, x, y, e, h, h1, h2⟩ := s.all v hv
  exact ⟨q, x, y, e, Same.new hp _ _ h, h1, h2⟩
theorem GSt.draw {H0 H H' : Hp} {d c : Addr} {vs : List V} (s : GSt H0 d c H vs) (o : Off d c H H') (dk : DeckAt H' d c) : GSt H0 d c H' vs := by
  refine ⟨s.off.trans o, dk, fun v hv => ?_⟩
  obtain ⟨q, x, y, e, h, h1, h2⟩ := s.all v hv
  exact ⟨q, x, y, e, o.keep s.dk h (fun _ z => by cases z), h1, h2⟩
def spGrain : Sp := fun vs H Q _ => ∃ (d c : Addr), vs = [.ref d] ∧ DeckAt H d c ∧
  ∀ (p : Addr) (a b : Int) (H' : Hp), Off d c H H' → DeckAt H' d c → H' p = some (.tup [.int a, .int b]) → (0 < a ∧ a < 2 ^ 60) → (0 < b ∧ b < 2 ^ 60) → Q (.ref p) H'
theorem ok_l_grain (T : Txt w K mg) : FnOk P w K mg base CX0 2 T.f_l_grain T.fd_l_grain ["_law_deck_here"] spGrain := by
  refine T.F_l_grain.ok sc_l_grain (fun vs H Q E h => ?_) (fun cdv A outer s H vs Q E hr h => ?_)
  · obtain ⟨d, c, rfl, _⟩ := h
    rfl
  · obtain ⟨d, c, rfl, dk, k⟩ := h
    refine ⟨_, (pss_cons (ps_set (i := 1) sc_l_grain.nd rfl (Or.inl rfl) (pe_ix ix_list (pe_lst (pa_cons pe_int (pa_cons pe_int (pa_cons (pe_op op_pow pe_int pe_int) (pa_cons (pe_op op_pow pe_int pe_int) (pa_cons (pe_op op_pow pe_int pe_int) (pa_cons (pe_op op_pow pe_int pe_int) (pa_cons (pe_op op_pow pe_int pe_int) pa_nil)))))))) (pe_call (ok_l_draw T) (hr.mono (by decide)) (by rfl) T.m_l_draw T.F_l_draw.kp T.b_l_draw .nil pass0 (pa_cons (pv 0) (pa_cons pe_int pa_nil))) (fun _ _ => rfl)))
 (pss_cons (ps_set (i := 2) sc_l_grain.nd rfl (Or.inl rfl) (pe_lst (pa_cons (pe_tup (pa_cons pe_int (pa_cons pe_int pa_nil))) (pa_cons (pe_tup (pa_cons pe_int (pa_cons (pv 1) pa_nil))) (pa_cons (pe_tup (pa_cons (pv 1) (pa_cons pe_int pa_nil))) (pa_cons (pe_tup (pa_cons pe_int (pa_cons pe_int pa_nil))) (pa_cons (pe_tup (pa_cons pe_int (pa_cons pe_int pa_nil))) (pa_cons (pe_tup (pa_cons pe_int (pa_cons pe_int pa_nil))) (pa_cons (pe_tup (pa_cons (pe_op op_add pe_int (pe_call (ok_l_draw T) (hr.mono (by decide)) (by rfl) T.m_l_draw T.F_l_draw.kp T.b_l_draw .nil pass0 (pa_cons (pv 0) (pa_cons pe_int pa_nil)))) (pa_cons (pe_op op_add pe_int (pe_call (ok_l_draw T) (hr.mono (by decide)) (by rfl) T.m_l_draw T.F_l_draw.kp T.b_l_draw .nil pass0 (pa_cons (pv 0) (pa_cons pe_int pa_nil)))) pa_nil))) pa_nil)))))))))
 (pss_cons (ps_set (i := 2) sc_l_grain.nd rfl (Or.inl rfl) (pe_op op_cat (pv 2) (pe_lst (pa_cons (pe_tup (pa_cons pe_int (pa_cons pe_int pa_nil))) (pa_cons (pe_tup (pa_cons (pe_op op_mul (pv 1) pe_int) (pa_cons pe_int pa_nil))) (pa_cons (pe_tup (pa_cons (pe_op op_add pe_int (pe_call (ok_l_draw T) (hr.mono (by decide)) (by rfl) T.m_l_draw T.F_l_draw.kp T.b_l_draw .nil pass0 (pa_cons (pv 0) (pa_cons (pe_op op_pow pe_int pe_int) pa_nil)))) (pa_cons (pe_op op_add pe_int (pe_call (ok_l_draw T) (hr.mono (by decide)) (by rfl) T.m_l_draw T.F_l_draw.kp T.b_l_draw .nil pass0 (pa_cons (pv 0) (pa_cons (pe_op op_pow pe_int pe_int) pa_nil)))) pa_nil))) pa_nil))))))
 (pss_one (ps_ret (pe_ix ix_list (pv 2) (pe_call (ok_l_draw T) (hr.mono (by decide)) (by rfl) T.m_l_draw T.F_l_draw.kp T.b_l_draw .nil pass0 (pa_cons (pv 0) (pa_cons pe_int pa_nil))) (fun _ _ => rfl))))))), ?_⟩
    walk_at "rd"
    refine r_new (by show 7 ≤ 1000; decide) fun l hl => ?_
    obtain ⟨l1, l2⟩ := fresh_ne dk hl
    have S0 : GSt H d c H [] := ⟨Off.refl _ _ _, dk, fun v hv => by cases hv⟩
    have S1 := S0.lst (xs := [.int 1, .int 10, .int (10 ^ (2 : Int).toNat), .int (10 ^ (3 : Int).toNat), .int (10 ^ (4 : Int).toNat), .int (10 ^ (6 : Int).toNat), .int (10 ^ (8 : Int).toNat)]) hl
    walk_at "rd"
    refine rd_draw S1.dk (by decide) (by decide) fun r H2 o2 dk2 r0 r1 => ?_
    have S2 := S1.draw o2 dk2
    have hL := o2 l _ l1 l2 upd_same
    obtain ⟨t, at_, tm⟩ := atI_mem (xs := [V.int 1, .int 10, .int (10 ^ (2 : Int).toNat), .int (10 ^ (3 : Int).toNat), .int (10 ^ (4 : Int).toNat), .int (10 ^ (6 : Int).toNat), .int (10 ^ (8 : Int).toNat)]) r0 r1
    refine r_ixL hL at_ ?_
    obtain ⟨t, rfl, t0⟩ : ∃ i : Int, t = .int i ∧ (0 < i ∧ i < 2 ^ 40) := by
      simp only [List.mem_cons, List.not_mem_nil, or_false] at tm
      rcases tm with rfl | rfl | rfl | rfl | rfl | rfl | rfl <;> exact ⟨_, rfl, by decide, by decide⟩
    have tb : 0 < t ∧ t < 2 ^ 60 := ⟨t0.1, by omega⟩
    walk_at "rd"
    refine r_new (by show 2 ≤ 1000; decide) fun p1 q1 => ?_
    have S3 := S2.tup (a := 1) (b := 1) q1 (by decide) (by decide)
    walk_at "rd"
    refine r_new (by show 2 ≤ 1000; decide) fun p2 q2 => ?_
    have S4 := S3.tup (a := 1) (b := t) q2 (by decide) tb
    walk_at "rd"
    refine r_new (by show 2 ≤ 1000; decide) fun p3 q3 => ?_
    have S5 := S4.tup (a := t) (b := 1) q3 tb (by decide)
    walk_at "rd"
    refine r_new (by show 2 ≤ 1000; decide) fun p4 q4 => ?_
    have S6 := S5.tup (a := 1) (b := 8) q4 (by decide) (by decide)
    walk_at "rd"
    refine r_new (by show 2 ≤ 1000; decide) fun p5 q5 => ?_
    have S7 := S6.tup (a := 1) (b := 3) q5 (by decide) (by decide)
    walk_at "rd"
    refine r_new (by show 2 ≤ 1000; decide) fun p6 q6 => ?_
    have S8 := S7.tup (a := 7) (b := 1) q6 (by decide) (by decide)
    walk_at "rd"
    refine rd_draw S8.dk (by decide) (by decide) fun u H3 o3 dk3 u0 u1 => ?_
    have S9 := S8.draw o3 dk3
    walk_at "rd"
    refine rd_draw S9.dk (by decide) (by decide) fun v H4 o4 dk4 v0 v1 => ?_
    have S10 := S9.draw o4 dk4
    walk_at "rd"
    refine r_new (by show 2 ≤ 1000; decide) fun p7 q7 => ?_
    have S11 := S10.tup (a := 1 + u) (b := 1 + v) q7 (by omega) (by omega)
    walk_at "rd"
    refine r_new (by show 7 ≤ 1000; decide) fun m hm => ?_
    obtain ⟨m1, m2⟩ := fresh_ne S11.dk hm
    have S12 := S11.lst (xs := [.ref p1, .ref p2, .ref p3, .ref p4, .ref p5, .ref p6, .ref p7]) hm
    have M12 : upd (upd H4 p7 (.tup [.int (1 + u), .int (1 + v)])) m (.lst [.ref p1, .ref p2, .ref p3, .ref p4, .ref p5, .ref p6, .ref p7]) m = some (.lst [.ref p1, .ref p2, .ref p3, .ref p4, .ref p5, .ref p6, .ref p7]) := upd_same
    walk_at "rd"
    refine r_new (by show 2 ≤ 1000; decide) fun p8 q8 => ?_
    have S13 := S12.tup (a := 1) (b := 20) q8 (by decide) (by decide)
    have M13 := Same.new (o := .tup [.int 1, .int 20]) q8 _ _ M12
    walk_at "rd"
    refine r_new (by show 2 ≤ 1000; decide) fun p9 q9 => ?_
    have S14 := S13.tup (a := t * 1000) (b := 1) q9 (by omega) (by decide)
    have M14 := Same.new (o := .tup [.int (t * 1000), .int 1]) q9 _ _ M13
    walk_at "rd"
    refine rd_draw S14.dk (by decide) (by decide) fun u' H5 o5 dk5 u0' u1' => ?_
    have S15 := S14.draw o5 dk5
    have M15 := o5 _ _ m1 m2 M14
    walk_at "rd"
    refine rd_draw S15.dk (by decide) (by decide) fun v' H6 o6 dk6 v0' v1' => ?_
    have S16 := S15.draw o6 dk6
    have M16 := o6 _ _ m1 m2 M15
    walk_at "rd"
    refine r_new (by show 2 ≤ 1000; decide) fun p10 q10 => ?_
    have S17 := S16.tup (a := 1 + u') (b := 1 + v') q10 (by have e : (10 : Int) ^ (6 : Int).toNat = 1000000 := rfl; omega) (by have e : (10 : Int) ^ (6 : Int).toNat = 1000000 := rfl; omega)
    have M17 := Same.new (o := .tup [.int (1 + u'), .int (1 + v')]) q10 _ _ M16
    walk_at "rd"
    refine r_new (by show 3 ≤ 1000; decide) fun n hn => ?_
    have S18 := S17.lst (xs := [.ref p8, .ref p9, .ref p10]) hn
    have M18 := Same.new (o := .lst [.ref p8, .ref p9, .ref p10]) hn _ _ M17
    refine ⟨m, n, _, _, rfl, rfl, M18, upd_same, by show 7 + 3 ≤ sizeLine; decide, fun f hf => ?_⟩
    obtain ⟨f1, f2⟩ := fresh_ne S18.dk hf
    have S19 := S18.lst (xs := [.ref p1, .ref p2, .ref p3, .ref p4, .ref p5, .ref p6, .ref p7] ++ [.ref p8, .ref p9, .ref p10]) hf
    walk_at "rd"
    refine rd_draw S19.dk (by decide) (by decide) fun r' H7 o7 dk7 r0' r1' => ?_
    have S20 := S19.draw o7 dk7
    have hF := o7 f _ f1 f2 upd_same
    obtain ⟨g, ag, gm⟩ := atI_mem (xs := [V.ref p1, .ref p2, .ref p3, .ref p4, .ref p5, .ref p6, .ref p7] ++ [V.ref p8, .ref p9, .ref p10]) r0' (by show r' < 10; exact r1')
    refine r_ixL hF ag ?_
    have hg : g ∈ [V.ref p10, .ref p9, .ref p8, .ref p7, .ref p6, .ref p5, .ref p4, .ref p3, .ref p2, .ref p1] := by
      simp only [List.mem_cons, List.cons_append, List.nil_append, List.not_mem_nil, or_false] at gm ⊢
      rcases gm with h | h | h | h | h | h | h | h | h | h <;> simp [h]
    obtain ⟨p, a, b, rfl, hp, ha, hb⟩ := S20.all g hg
    exact k p a b H7 S20.off S20.dk hp ha hb
end
end My

namespace My
open PySem L2
section
variable {P : Program} {w : World} {K : PySem.W.Frag} {mg : Str → Option Value} {base : Heap}
theorem is_num (T : Txt w K mg) {H : Hp} {p : Addr} {q : Rat} {Q : VK} (h : NumAt T.C_Number H p q) (k : Q (.bl true) H) : rIsi K [.ref p, .ref T.C_Number] H Q := by
  obtain ⟨dx, e⟩ := h
  exact ⟨.ref p, .ref T.C_Number, .ref T.C_Number, .ref T.C_Number, true, rfl, .own _, .base (.ins e T.c_Number T.ty_Number_c T.ty_Number_g T.ty_Number_t T.ty_Number_m), T.ty_Number_k, k⟩
def spTold : Sp := fun vs H Q _ => ∃ (i : Int) (pt gr : Addr) (r : Way) (p0 p1 a b : Int), vs = [.int i, .ref pt, .ref gr, .str (wname r)] ∧ H pt = some (.tup [.int p0, .int p1]) ∧ H gr = some (.tup [.int a, .int b]) ∧
  i.natAbs < 2 ^ 60 ∧ (0 < p0 ∧ p0 < p1) ∧ p1 < 2 ^ 60 ∧ (0 < a ∧ a < 2 ^ 60) ∧ (0 < b ∧ b < 2 ^ 60) ∧ ∀ H' : Hp, Same H H' → Q (.int (takenQ r ((i : Rat) + Rat.divInt p0 p1))) H'
theorem ok_l_told (T : Txt w K mg) : FnOk P w K mg base CX0 7 T.f_l_told T.fd_l_told ["_law_count", "_law_part", "_law_grain_here", "_law_rule"] spTold := by
  refine T.F_l_told.ok sc_l_told (fun vs H Q E h => ?_) (fun cdv A outer s H vs Q E hr h => ?_)
  · obtain ⟨i, pt, gr, r, p0, p1, a, b, rfl, _⟩ := h
    rfl
  · obtain ⟨i, pt, gr, r, p0, p1, a, b, rfl, hpt, hgr, hi, hp0, hp1, ha, hb, k⟩ := h
    have cN := T.c_Number
    have nT := T.n_Number_top
    have nB := T.n_Number_bottom
    have ip : (i * p1).natAbs < 2 ^ 120 := natAbs_mul_lt (m := 60) (n := 60) hi (by omega) (by decide)
    have ip' : (i * p1 + p0).natAbs < 2 ^ 121 := by
      have h0 : p0.natAbs < 2 ^ 120 := Nat.lt_of_lt_of_le (by omega : p0.natAbs < 2 ^ 60) (by decide)
      exact natAbs_add_lt ip h0
    have tp : (a * (i * p1 + p0)).natAbs < 2 ^ 181 := natAbs_mul_lt (m := 60) (n := 121) (by omega) ip' (by decide)
    have bt : (b * p1).natAbs < 2 ^ 120 := natAbs_mul_lt (m := 60) (n := 60) (by omega) (by omega) (by decide)
    have b0 : b * p1 ≠ 0 := Int.mul_ne_zero (by omega) (by omega)
    have bx : Bd 900 (Rat.divInt (a * (i * p1 + p0)) (b * p1)) := (Bd.of b0 tp (Nat.lt_of_lt_of_le bt (by decide))).mono (by decide)
    have by' : Bd 900 (Rat.divInt a b) := (Bd.of (n := 60) (by omega) (by omega) (by omega)).mono (by decide)
    have y0 : Rat.divInt a b ≠ 0 := by
      rw [Rat.divInt_eq_div]
      have ha' : (a : Rat) ≠ 0 := by simp; omega
      have hb' : (b : Rat) ≠ 0 := by simp; omega
      grind
    have ex : Rat.divInt (a * (i * p1 + p0)) (b * p1) / Rat.divInt a b = (i : Rat) + Rat.divInt p0 p1 := steps_eq (by omega) (by omega) (by omega)
    refine ⟨_, (pss_cons (ps_set (i := 4) sc_l_told.nd rfl (Or.inl rfl) (pe_op op_mulW (pe_ix ix_tup (pv 2) pe_int (fun _ _ => rfl)) (pe_op op_add (pe_op op_mulW (pv 0) (pe_ix ix_tup (pv 1) pe_int (fun _ _ => rfl))) (pe_ix ix_tup (pv 1) pe_int (fun _ _ => rfl)))))
 (pss_cons (ps_set (i := 5) sc_l_told.nd rfl (Or.inl rfl) (pe_make T.mk_Number (ok_Number_init T) (hr.mono (by decide)) (by rfl) T.m_Number T.b_Number_init2 .nil pass0 (pa_cons (pe_ix ix_tup (pv 2) pe_int (fun _ _ => rfl)) (pa_cons (pe_ix ix_tup (pv 2) pe_int (fun _ _ => rfl)) pa_nil))))
 (pss_cons (ps_set (i := 6) sc_l_told.nd rfl (Or.inl rfl) (pe_meth (pe_callN (ok_rounded T) (hr.mono (by decide)) (by rfl) T.m_rounded T.F_rounded.kp T.kb_rounded pass0 (pa_cons (pe_make T.mk_Number (ok_Number_init T) (hr.mono (by decide)) (by rfl) T.m_Number T.b_Number_init2 .nil pass0 (pa_cons (pv 4) (pa_cons (pe_op op_mulW (pe_ix ix_tup (pv 2) pe_int (fun _ _ => rfl)) (pe_ix ix_tup (pv 1) pe_int (fun _ _ => rfl))) pa_nil))) (pa_cons (pv 5) pa_nil)) (pk_cons (pv 3) pk_nil)) T.c_Number T.me_Number_over (ok_Number_over T) (hr.mono (by decide)) T.b_Number_over .nil pass0 (pa_cons (pv 5) pa_nil)))
 (pss_one (ps_ret (pe_ifExp (PW.pt (pw_and (pt_val (pe_callB call_isi (by rfl) T.n_isinstance (by decide +kernel) (pa_cons (pv 6) (pa_cons (pe_glob (v := .ref T.C_Number) (by rfl) T.m_Number rfl) pa_nil)))) (pw_and1 (pt_cmpR op_eq (pe_fld (pv 6) rfl) pe_int (nomark _))))) (pe_fld (pv 6) rfl) pe_non)))))), ?_⟩
    walk_at "rd"
    refine r_ixT hgr (atI_nat (j := 0) rfl) ?_
    walk_at "rd"
    refine r_ixT hpt (atI_nat (j := 1) rfl) ?_
    walk_at "rd"
    refine r_I (wide_mul (a := 60) (b := 60) hi (by omega) (by decide) (by decide) (by decide)) ?_
    walk_at "rd"
    refine r_ixT hpt (atI_nat (j := 0) rfl) ?_
    walk_at "rd"
    refine r_I (wide_mul (a := 60) (b := 121) (by omega) ip' (by decide) (by decide) (by decide)) ?_
    walk_at "rd"
    refine r_ixT hgr (atI_nat (j := 0) rfl) ?_
    walk_at "rd"
    refine r_ixT hgr (atI_nat (j := 1) rfl) ?_
    walk_at "rd"
    refine mk_num (by omega) (lt9000 (Nat.lt_of_lt_of_le (by omega : b.natAbs < 2 ^ 60) (by decide))) fun us H1 s1 n1 h1 => ?_
    walk_at "rd"
    refine r_ixT (s1 _ _ hgr) (atI_nat (j := 1) rfl) ?_
    walk_at "rd"
    refine r_ixT (s1 _ _ hpt) (atI_nat (j := 1) rfl) ?_
    walk_at "rd"
    refine r_I (wide_mul (a := 60) (b := 60) (by omega) (by omega) (by decide) (by decide) (by decide)) ?_
    walk_at "rd"
    refine mk_num b0 (lt9000 (Nat.lt_of_lt_of_le bt (by decide))) fun nu H2 s2 n2 h2 => ?_
    walk_at "rd"
    refine ⟨rfl, rfl, ?_⟩
    refine ⟨nu, us, _, _, r, rfl, h2, h1.same s2, bx, by', y0, fun f H3 s3 h3 => ?_⟩
    rw [ex] at h3
    obtain ⟨df, hf⟩ := h3
    refine r_meth1 hf (no_over _) ?_
    walk_at "rd"
    have bt' : Bd 1900 ((takenQ r ((i : Rat) + Rat.divInt p0 p1) : Int) : Rat) := by
      rw [← ex]
      exact (Bd.int (taken_bd (Bd.div bx by' y0)) (by decide)).mono (by decide)
    refine ⟨f, us, _, _, rfl, ⟨_, hf⟩, (h1.same s2).same s3, (Bd.mul by' bt').mono (by decide), by'.mono (by decide), y0, fun z H4 s4 n4 h4 => ?_⟩
    have e4 : Rat.divInt a b * ((takenQ r ((i : Rat) + Rat.divInt p0 p1) : Int) : Rat) / Rat.divInt a b = ((takenQ r ((i : Rat) + Rat.divInt p0 p1) : Int) : Rat) := by grind
    have h4' : NumAt T.C_Number H4 z ((takenQ r ((i : Rat) + Rat.divInt p0 p1) : Int) : Rat) := e4 ▸ h4
    obtain ⟨dz, hz⟩ := h4'
    walk_at "rd"
    refine is_num T ⟨dz, hz⟩ ?_
    walk_at "rdf"
    refine r_iteT rfl ?_
    walk_at "rdf"
    refine r_iteT (decide_eq_true rfl) ?_
    walk_at "rdf"
    exact k H4 (((s1.trans s2).trans s3).trans s4)
/-- what is due at a half -/
def dueQ : Way → Int → Int
  | .heven, i => i + (if decide (decide (i % 2 = 0) = false) = true then 1 else 0)
  | .hodd, i => i + (if decide (decide (i % 2 = 0) = true) = true then 1 else 0)
  | .hup, i => i + (if decide (decide (0 ≤ i) = true) = true then 1 else 0)
  | .hdown, i => i + (if decide (decide (0 ≤ i) = false) = true then 1 else 0)
  | _, i => i
def isHalf : Way → Bool
  | .heven | .hodd | .hup | .hdown => true
  | _ => false
def spDue : Sp := fun vs H Q _ => ∃ (i : Int) (r : Way), vs = [.int i, .str (wname r)] ∧ isHalf r = true ∧ ∀ H' : Hp, Same H H' → Q (.int (dueQ r i)) H'
theorem ok_l_half_due (T : Txt w K mg) : FnOk P w K mg base CX0 1 T.f_l_half_due T.fd_l_half_due ["_law_count", "_law_rule"] spDue := by
  refine T.F_l_half_due.ok sc_l_half_due (fun vs H Q E h => ?_) (fun cdv A outer s H vs Q E hr h => ?_)
  · obtain ⟨i, r, rfl, _⟩ := h
    rfl
  · obtain ⟨i, r, rfl, hh, k⟩ := h
    refine ⟨_, (pss_cons (ps_if (pt_cmpR op_in_seq (pv 1) (pe_tup (pa_cons pe_str (pa_cons pe_str pa_nil))) (by rfl))
  (pss_one (ps_ret (pe_op op_add (pv 0) (pe_callTy call_int1 (by rfl) T.n_int (by decide +kernel) (pa_cons (pe_cmpR op_eq (pe_cmpR op_eq (pe_op op_mod (pv 0) pe_int) pe_int (nomark _)) (pe_cmpR op_eq (pv 1) pe_str (nomark _)) (nomark _)) pa_nil)))))
  pss_nil)
 (pss_one (ps_ret (pe_op op_add (pv 0) (pe_callTy call_int1 (by rfl) T.n_int (by decide +kernel) (pa_cons (pe_cmpR op_eq (pe_cmpR op_ge (pv 0) pe_int (nomark _)) (pe_cmpR op_eq (pv 1) pe_str (nomark _)) (nomark _)) pa_nil)))))), ?_⟩
    walk_at "rd"
    refine r_new (by show 2 ≤ 1000; decide) fun t ht => ?_
    have s1 := Same.new (o := .tup [.str "half even", .str "half odd"]) ht
    refine ⟨t, _, rfl, .inr (SqT.of upd_same), rfl, rfl, ?_⟩
    walk_at "rd"
    have k1 := k _ s1
    cases r with
    | up => cases hh
    | down => cases hh
    | high => cases hh
    | low => cases hh
    | heven =>
      refine r_iteT (by decide +kernel) ?_
      walk_at "rd"
      refine .inr ⟨_, rfl, ?_⟩
      walk_at "rd"
      have e : decide (wname .heven = "half odd") = false := by decide +kernel
      rw [e]
      exact k1
    | hodd =>
      refine r_iteT (by decide +kernel) ?_
      walk_at "rd"
      refine .inr ⟨_, rfl, ?_⟩
      walk_at "rd"
      have e : decide (wname .hodd = "half odd") = true := by decide +kernel
      rw [e]
      exact k1
    | hup =>
      refine r_iteF (by decide +kernel) ?_
      walk_at "rd"
      refine .inr ⟨_, rfl, ?_⟩
      walk_at "rd"
      have e : decide (wname .hup = "half up") = true := by decide +kernel
      rw [e]
      exact k1
    | hdown =>
      refine r_iteF (by decide +kernel) ?_
      walk_at "rd"
      refine .inr ⟨_, rfl, ?_⟩
      walk_at "rd"
      have e : decide (wname .hdown = "half up") = false := by decide +kernel
      rw [e]
      exact k1
end
end My

namespace My
open PySem L2
section
variable {P : Program} {w : World} {K : PySem.W.Frag} {mg : Str → Option Value} {base : Heap}
/-! ### what the ways come to -/
theorem near_half (a : Bool) : nearerB (Rat.divInt 1 2) a = a := by cases a <;> decide +kernel
theorem taken_of {r : Way} {i p0 p1 : Int} (h0 : 0 < p0) (h1 : p0 < p1) : takenQ r ((i : Rat) + Rat.divInt p0 p1) = if ruleB r i (Rat.divInt p0 p1) = true then i + 1 else i := by
  have a : (0 : Rat) < (p0 : Rat) := Rat.intCast_pos.mpr h0
  have b : (p0 : Rat) < (p1 : Rat) := Rat.intCast_lt_intCast.mpr h1
  have q : (0 : Rat) < (p1 : Rat) := by grind
  refine taken_add ?_ ?_
  · rw [Rat.divInt_eq_div]
    exact (Rat.lt_div_iff q).mpr (by grind)
  · rw [Rat.divInt_eq_div]
    exact (Rat.div_lt_iff q).mpr (by grind)
theorem due_half {r : Way} (h : isHalf r = true) (i : Int) : takenQ r ((i : Rat) + Rat.divInt 1 2) = dueQ r i := by
  rw [taken_of (by decide) (by decide)]
  cases r <;> first | exact absurd h (by decide) | (simp only [ruleB, near_half, dueQ, decide_eq_true_eq, decide_eq_false_iff_not]; (repeat' split) <;> omega)
theorem due_minus {r : Way} (h : isHalf r = true) (i : Int) : takenQ r (((-1 - i : Int) : Rat) + Rat.divInt 1 2) = 0 - dueQ r i := by
  rw [taken_of (by decide) (by decide)]
  cases r <;> first | exact absurd h (by decide) | (simp only [ruleB, near_half, dueQ, decide_eq_true_eq, decide_eq_false_iff_not]; (repeat' split) <;> omega)
theorem due_tiny {r : Way} (h : isHalf r = true) (i : Int) {t : Int} (ht : t = 10 ∨ t = 100 ∨ t = 1000) : takenQ r ((i : Rat) + Rat.divInt (t / 2 - 1) t) = i ∧ takenQ r ((i : Rat) + Rat.divInt (t / 2 + 1) t) = i + 1 := by
  rw [taken_of (by omega) (by omega), taken_of (by omega) (by omega)]
  have lo : ∀ a, nearerB (Rat.divInt (t / 2 - 1) t) a = false := by
    intro a
    rcases ht with rfl | rfl | rfl <;> cases a <;> decide +kernel
  have hi : ∀ a, nearerB (Rat.divInt (t / 2 + 1) t) a = true := by
    intro a
    rcases ht with rfl | rfl | rfl <;> cases a <;> decide +kernel
  cases r <;> first | exact absurd h (by decide) | (simp only [ruleB, lo, hi]; simp)
theorem due_others (i : Int) : takenQ .high ((i : Rat) + Rat.divInt 1 2) = i + 1 ∧ takenQ .low ((i : Rat) + Rat.divInt 1 2) = i ∧ takenQ .up ((i : Rat) + Rat.divInt 1 2) = dueQ .hup i ∧ takenQ .down ((i : Rat) + Rat.divInt 1 2) = dueQ .hdown i := by
  rw [taken_of (by decide) (by decide), taken_of (by decide) (by decide), taken_of (by decide) (by decide), taken_of (by decide) (by decide)]
  refine ⟨rfl, rfl, ?_, ?_⟩
  · simp only [ruleB, dueQ, decide_eq_true_eq]; (repeat' split) <;> omega
  · simp only [ruleB, dueQ, decide_eq_true_eq, decide_eq_false_iff_not]; (repeat' split) <;> omega
theorem DeckAt.upd {H : Hp} {d c p : Addr} {o : HO} (h : DeckAt H d c) (h1 : p ≠ d) (h2 : p ≠ c) : DeckAt (upd H p o) d c := by
  obtain ⟨s, n, xs, a, b, l, ne⟩ := h
  exact ⟨s, n, xs, by rw [upd_ne h1.symm]; exact a, by rw [upd_ne h2.symm]; exact b, l, ne⟩
theorem r_tyes {σ : L2.St} {H : Hp} {A B : Hp → Prop} (q : A H) : tYes σ H (fun b H3 => if b = true then A H3 else B H3) := (iteT (A := A H) (B := B H) q : if true = true then A H else B H)
/-- a tuple of two numbers, told -/
theorem rd_told {H : Hp} {i p0 p1 a b : Int} {pt gr : Addr} {r : Way} {Q : VK} {E : XK} (hp : H pt = some (.tup [.int p0, .int p1])) (hg : H gr = some (.tup [.int a, .int b])) (hi : i.natAbs < 2 ^ 60) (h0 : 0 < p0 ∧ p0 < p1) (h1 : p1 < 2 ^ 60)
    (ha : 0 < a ∧ a < 2 ^ 60) (hb : 0 < b ∧ b < 2 ^ 60) (q : ∀ H' : Hp, Same H H' → Q (.int (takenQ r ((i : Rat) + Rat.divInt p0 p1))) H') : spTold ([V.int i, .ref pt, .ref gr, .str (wname r)] ++ []) H Q E :=
  ⟨i, pt, gr, r, p0, p1, a, b, rfl, hp, hg, hi, h0, h1, ha, hb, q⟩
def spLaw (K : PySem.W.Frag) : Sp := fun vs H Q _ => ∃ (a : Addr) (ns : List Int), vs = [.ref a] ∧ SqL K H a (ns.map V.int) ∧ ns.length ≤ 63 ∧ ∀ H', Q (.bl true) H'
theorem ok_law (T : Txt w K mg) : FnOk P w K mg base CX0 8 T.f_law T.fd_law ["_law_script"] (spLaw K) := by
  refine T.F_law.ok sc_law (fun vs H Q E h => ?_) (fun cdv A outer s H vs Q E hr h => ?_)
  · obtain ⟨a, ns, rfl, _⟩ := h
    rfl
  · obtain ⟨a, ns, rfl, hS, hl, k⟩ := h
    refine ⟨_, (pss_cons (ps_set (i := 1) sc_law.nd rfl (Or.inl rfl) (pe_call (ok_l_deck T) (hr.mono (by decide)) (by rfl) T.m_l_deck T.F_l_deck.kp T.b_l_deck .nil pass0 (pa_cons (pv 0) pa_nil)))
 (pss_cons (ps_for PassesOwn.never rfl (pi_range1 rfl T.n_range (pa_cons pe_int pa_nil)) (pg_name (i := 2) sc_law.nd rfl (Or.inl rfl))
  (pss_cons (ps_set (i := 3) sc_law.nd rfl (Or.inr rfl) (pe_call (ok_l_grain T) (hr.mono (by decide)) (by rfl) T.m_l_grain T.F_l_grain.kp T.b_l_grain .nil pass0 (pa_cons (pv 1) pa_nil)))
 (pss_cons (ps_set (i := 4) sc_law.nd rfl (Or.inr rfl) (pe_ix ix_list (pe_lst (pa_cons (pe_call (ok_l_draw T) (hr.mono (by decide)) (by rfl) T.m_l_draw T.F_l_draw.kp T.b_l_draw .nil pass0 (pa_cons (pv 1) (pa_cons pe_int pa_nil))) (pa_cons (pe_op op_add pe_int (pe_call (ok_l_draw T) (hr.mono (by decide)) (by rfl) T.m_l_draw T.F_l_draw.kp T.b_l_draw .nil pass0 (pa_cons (pv 1) (pa_cons pe_int pa_nil)))) (pa_cons pe_int (pa_cons pe_int (pa_cons (pe_call (ok_l_draw T) (hr.mono (by decide)) (by rfl) T.m_l_draw T.F_l_draw.kp T.b_l_draw .nil pass0 (pa_cons (pv 1) (pa_cons (pe_op op_pow pe_int pe_int) pa_nil))) pa_nil)))))) (pe_call (ok_l_draw T) (hr.mono (by decide)) (by rfl) T.m_l_draw T.F_l_draw.kp T.b_l_draw .nil pass0 (pa_cons (pv 1) (pa_cons pe_int pa_nil))) (fun _ _ => rfl)))
 (pss_cons (ps_set (i := 4) sc_law.nd rfl (Or.inr rfl) (pe_ix ix_list (pe_lst (pa_cons (pv 4) (pa_cons (pe_op op_sub pe_int (pv 4)) pa_nil))) (pe_call (ok_l_draw T) (hr.mono (by decide)) (by rfl) T.m_l_draw T.F_l_draw.kp T.b_l_draw .nil pass0 (pa_cons (pv 1) (pa_cons pe_int pa_nil))) (fun _ _ => rfl)))
 (pss_cons (ps_for PassesOwn.never rfl (pi_tup (pe_tup (pa_cons pe_str (pa_cons pe_str (pa_cons pe_str (pa_cons pe_str pa_nil)))))) (pg_name (i := 5) sc_law.nd rfl (Or.inl rfl))
  (pss_cons (ps_if (pt_cmpR op_ne (pe_call (ok_l_told T) (hr.mono (by decide)) (by rfl) T.m_l_told T.F_l_told.kp T.b_l_told .nil pass0 (pa_cons (pv 4) (pa_cons (pe_tup (pa_cons pe_int (pa_cons pe_int pa_nil))) (pa_cons (pv 3) (pa_cons (pv 5) pa_nil))))) (pe_call (ok_l_half_due T) (hr.mono (by decide)) (by rfl) T.m_l_half_due T.F_l_half_due.kp T.b_l_half_due .nil pass0 (pa_cons (pv 4) (pa_cons (pv 5) pa_nil))) (nomark _))
  (pss_one (ps_ret pe_bl))
  pss_nil)
 (pss_cons (ps_set (i := 6) sc_law.nd rfl (Or.inl rfl) (pe_ix ix_list (pe_lst (pa_cons pe_int (pa_cons pe_int (pa_cons pe_int pa_nil)))) (pe_call (ok_l_draw T) (hr.mono (by decide)) (by rfl) T.m_l_draw T.F_l_draw.kp T.b_l_draw .nil pass0 (pa_cons (pv 1) (pa_cons pe_int pa_nil))) (fun _ _ => rfl)))
 (pss_cons (ps_if (pt_cmpR op_ne (pe_call (ok_l_told T) (hr.mono (by decide)) (by rfl) T.m_l_told T.F_l_told.kp T.b_l_told .nil pass0 (pa_cons (pv 4) (pa_cons (pe_tup (pa_cons (pe_op op_sub (pe_op op_fdiv (pv 6) pe_int) pe_int) (pa_cons (pv 6) pa_nil))) (pa_cons (pv 3) (pa_cons (pv 5) pa_nil))))) (pv 4) (nomark _))
  (pss_one (ps_ret pe_bl))
  pss_nil)
 (pss_cons (ps_if (pt_cmpR op_ne (pe_call (ok_l_told T) (hr.mono (by decide)) (by rfl) T.m_l_told T.F_l_told.kp T.b_l_told .nil pass0 (pa_cons (pv 4) (pa_cons (pe_tup (pa_cons (pe_op op_add (pe_op op_fdiv (pv 6) pe_int) pe_int) (pa_cons (pv 6) pa_nil))) (pa_cons (pv 3) (pa_cons (pv 5) pa_nil))))) (pe_op op_add (pv 4) pe_int) (nomark _))
  (pss_one (ps_ret pe_bl))
  pss_nil)
 (pss_one (ps_if (pt_cmpR op_ne (pe_call (ok_l_told T) (hr.mono (by decide)) (by rfl) T.m_l_told T.F_l_told.kp T.b_l_told .nil pass0 (pa_cons (pe_op op_sub (pe_un un_neg pe_int) (pv 4)) (pa_cons (pe_tup (pa_cons pe_int (pa_cons pe_int pa_nil))) (pa_cons (pv 3) (pa_cons (pv 5) pa_nil))))) (pe_op op_sub pe_int (pe_call (ok_l_half_due T) (hr.mono (by decide)) (by rfl) T.m_l_half_due T.F_l_half_due.kp T.b_l_half_due .nil pass0 (pa_cons (pv 4) (pa_cons (pv 5) pa_nil)))) (nomark _))
  (pss_one (ps_ret pe_bl))
  pss_nil)))))))
 (pss_cons (ps_if (pt_cmpR (op_neD hr.units) (pe_lc (own := [("_law_rule", 5)]) (g := gName 5) (tt := tYes) rfl sc_law.nd (pi_tup (pe_tup (pa_cons pe_str (pa_cons pe_str pa_nil)))) (blkOk_by (own := [("_law_rule", 5)]) (N := ["_law_script", "_law_deck_here", "_law_turn", "_law_grain_here", "_law_count", "_law_rule", "_law_tiny"]) (sc := defScope s_law) (by decide +kernel)) (fun _ _ _ _ _ => pg_name (i := 5) sc_law.nd rfl (Or.inl rfl)) (fun _ _ _ _ _ => pts_nil) (fun _ _ _ _ _ => (pe_call (ok_l_told T) (hr.mono (by decide)) (by rfl) T.m_l_told T.F_l_told.kp T.b_l_told .nil pass0 (pa_cons (pv 4) (pa_cons (pe_tup (pa_cons pe_int (pa_cons pe_int pa_nil))) (pa_cons (pv 3) (pa_cons (pv 5) pa_nil))))))) (pe_lst (pa_cons (pe_op op_add (pv 4) pe_int) (pa_cons (pv 4) pa_nil))) (nomark _))
  (pss_one (ps_ret pe_bl))
  pss_nil)
 (pss_cons (ps_if (pt_cmpR op_ne (pe_call (ok_l_told T) (hr.mono (by decide)) (by rfl) T.m_l_told T.F_l_told.kp T.b_l_told .nil pass0 (pa_cons (pv 4) (pa_cons (pe_tup (pa_cons pe_int (pa_cons pe_int pa_nil))) (pa_cons (pv 3) (pa_cons pe_str pa_nil))))) (pe_call (ok_l_half_due T) (hr.mono (by decide)) (by rfl) T.m_l_half_due T.F_l_half_due.kp T.b_l_half_due .nil pass0 (pa_cons (pv 4) (pa_cons pe_str pa_nil))) (nomark _))
  (pss_one (ps_ret pe_bl))
  pss_nil)
 (pss_one (ps_if (pt_cmpR op_ne (pe_call (ok_l_told T) (hr.mono (by decide)) (by rfl) T.m_l_told T.F_l_told.kp T.b_l_told .nil pass0 (pa_cons (pv 4) (pa_cons (pe_tup (pa_cons pe_int (pa_cons pe_int pa_nil))) (pa_cons (pv 3) (pa_cons pe_str pa_nil))))) (pe_call (ok_l_half_due T) (hr.mono (by decide)) (by rfl) T.m_l_half_due T.F_l_half_due.kp T.b_l_half_due .nil pass0 (pa_cons (pv 4) (pa_cons pe_str pa_nil))) (nomark _))
  (pss_one (ps_ret pe_bl))
  pss_nil)))))))))
 (pss_one (ps_ret pe_bl)))), ?_⟩
    walk_at "rd"
    refine ⟨a, ns, rfl, hS, hl, fun d c H1 s1 dk => ?_⟩
    walk_at "rd"
    refine ⟨12, rfl, by decide, by decide, for_range (n := 12) (fun i σ H' => ∃ v2 v3 v4 v5 v6 : Option V, σ = [some (.ref a), some (.ref d), v2, v3, v4, v5, v6] ∧ DeckAt H' d c)
      ⟨none, none, none, none, none, rfl, dk⟩ ?_ ?_⟩
    · rintro n σ H2 hn ⟨v2, v3, v4, v5, v6, rfl, dk2⟩
      walk_at "rd"
      refine ⟨d, c, rfl, dk2, fun g a1 b1 H3 o3 dk3 hg ha hb => ?_⟩
      walk_at "rd"
      refine rd_draw dk3 (by decide) (by decide) fun e1 H4 o4 dk4 e10 e11 => ?_
      have hg4 := o4.keep dk3 hg (fun _ z => by cases z)
      walk_at "rd"
      refine rd_draw dk4 (by decide) (by decide) fun e2 H5 o5 dk5 e20 e21 => ?_
      have hg5 := o5.keep dk4 hg4 (fun _ z => by cases z)
      walk_at "rd"
      refine rd_draw dk5 (by decide) (by decide) fun e3 H6 o6 dk6 e30 e31 => ?_
      have hg6 := o6.keep dk5 hg5 (fun _ z => by cases z)
      walk_at "rd"
      refine r_new (by show 5 ≤ 1000; decide) fun l hl => ?_
      obtain ⟨l1, l2⟩ := fresh_ne dk6 hl
      have dk7 := dk6.same (Same.new (o := .lst [.int e1, .int (9 + e2), .int 99, .int 100, .int e3]) hl)
      have hg7 := Same.new (o := .lst [.int e1, .int (9 + e2), .int 99, .int 100, .int e3]) hl _ _ hg6
      walk_at "rd"
      refine rd_draw dk7 (by decide) (by decide) fun e4 H8 o8 dk8 e40 e41 => ?_
      have hg8 := o8.keep dk7 hg7 (fun _ z => by cases z)
      have hL := o8 l _ l1 l2 upd_same
      obtain ⟨u, au, um⟩ := atI_mem (xs := [V.int e1, .int (9 + e2), .int 99, .int 100, .int e3]) e40 e41
      refine r_ixL hL au ?_
      obtain ⟨i0, rfl, hi0⟩ : ∃ i : Int, u = .int i ∧ i.natAbs < 2 ^ 40 := by
        have e9 : (10 : Int) ^ (9 : Int).toNat = 1000000000 := rfl
        simp only [List.mem_cons, List.not_mem_nil, or_false] at um
        rcases um with rfl | rfl | rfl | rfl | rfl
        · exact ⟨_, rfl, by omega⟩
        · exact ⟨_, rfl, by omega⟩
        · exact ⟨_, rfl, by decide⟩
        · exact ⟨_, rfl, by decide⟩
        · exact ⟨_, rfl, by omega⟩
      walk_at "rd"
      refine r_new (by show 2 ≤ 1000; decide) fun m hm => ?_
      obtain ⟨m1, m2⟩ := fresh_ne dk8 hm
      have dk9 := dk8.same (Same.new (o := .lst [.int i0, .int (0 - i0)]) hm)
      have hg9 := Same.new (o := .lst [.int i0, .int (0 - i0)]) hm _ _ hg8
      walk_at "rd"
      refine rd_draw dk9 (by decide) (by decide) fun e5 H10 o10 dk10 e50 e51 => ?_
      have hg10 := o10.keep dk9 hg9 (fun _ z => by cases z)
      have hM := o10 m _ m1 m2 upd_same
      obtain ⟨u, au, um⟩ := atI_mem (xs := [V.int i0, .int (0 - i0)]) e50 e51
      refine r_ixL hM au ?_
      obtain ⟨i, rfl, hi⟩ : ∃ i : Int, u = .int i ∧ i.natAbs < 2 ^ 40 := by
        simp only [List.mem_cons, List.not_mem_nil, or_false] at um
        rcases um with rfl | rfl
        · exact ⟨_, rfl, hi0⟩
        · exact ⟨_, rfl, by omega⟩
      have hi60 : i.natAbs < 2 ^ 60 := by omega
      walk_at "rd"
      refine ⟨by show 4 ≤ sizeLine; decide, fun tp htp => ⟨tp, rfl, ⟨_, SqT.of upd_same⟩, for_tup (K := K) (a := tp) (xs := [.str "half up", .str "half down", .str "half even", .str "half odd"])
        (fun j σ H' => ∃ v5 v6 : Option V, σ = [some (.ref a), some (.ref d), some (.int (0 + n)), some (.ref g), some (.int i), v5, v6] ∧ DeckAt H' d c ∧ H' g = some (.tup [.int a1, .int b1]) ∧ H' tp = some (.tup [.str "half up", .str "half down", .str "half even", .str "half odd"]))
        ⟨_, _, rfl, dk10.same (Same.new htp), Same.new htp _ _ hg10, upd_same⟩ (fun j σ H' _ ⟨_, _, _, _, _, e⟩ => SqT.of e) ?_ ?_⟩⟩
      · rintro j x σ H11 hx ⟨v5, v6, rfl, dk11, hg11, ht11⟩
        obtain ⟨r, hr', rfl⟩ : ∃ r : Way, isHalf r = true ∧ x = .str (wname r) := by
          rcases j with _ | _ | _ | _ | j
          · exact ⟨.hup, rfl, (Option.some.inj hx).symm⟩
          · exact ⟨.hdown, rfl, (Option.some.inj hx).symm⟩
          · exact ⟨.heven, rfl, (Option.some.inj hx).symm⟩
          · exact ⟨.hodd, rfl, (Option.some.inj hx).symm⟩
          · cases hx
        walk_at "rd"
        refine r_new (by show 2 ≤ 1000; decide) fun q1 h1 => ?_
        have sq1 := Same.new (o := .tup [.int 1, .int 2]) h1
        walk_at "rd"
        refine rd_told upd_same (sq1 _ _ hg11) hi60 (by decide) (by decide) ha hb fun H12 s12 => ?_
        walk_at "rd"
        refine ⟨i, r, rfl, hr', fun H13 s13 => ?_⟩
        rw [due_half hr' i]
        walk_at "rd"
        refine r_iteF (by simp) ?_
        have sA := (sq1.trans s12).trans s13
        have dk13 := dk11.same sA
        have hg13 := sA _ _ hg11
        have ht13 := sA _ _ ht11
        walk_at "rd"
        refine r_new (by show 3 ≤ 1000; decide) fun l3 hl3 => ?_
        obtain ⟨l31, l32⟩ := fresh_ne dk13 hl3
        have sB := Same.new (o := .lst [.int 10, .int 100, .int 1000]) hl3
        walk_at "rd"
        refine rd_draw (dk13.same sB) (by decide) (by decide) fun e6 H14 o14 dk14 e60 e61 => ?_
        have hg14 := o14.keep (dk13.same sB) (sB _ _ hg13) (fun _ z => by cases z)
        have ht14 := o14.keep (dk13.same sB) (sB _ _ ht13) (fun _ z => by cases z)
        have hL14 := o14 l3 _ l31 l32 upd_same
        obtain ⟨u, au, um⟩ := atI_mem (xs := [V.int 10, .int 100, .int 1000]) e60 e61
        refine r_ixL hL14 au ?_
        obtain ⟨t, rfl, ht⟩ : ∃ t : Int, u = .int t ∧ (t = 10 ∨ t = 100 ∨ t = 1000) := by
          simp only [List.mem_cons, List.not_mem_nil, or_false] at um
          rcases um with rfl | rfl | rfl
          · exact ⟨_, rfl, .inl rfl⟩
          · exact ⟨_, rfl, .inr (.inl rfl)⟩
          · exact ⟨_, rfl, .inr (.inr rfl)⟩
        obtain ⟨lo, hi'⟩ := due_tiny hr' i ht
        walk_at "rd"
        refine r_new (by show 2 ≤ 1000; decide) fun q2 h2 => ?_
        have sq2 := Same.new (o := .tup [.int (t / 2 - 1), .int t]) h2
        walk_at "rd"
        refine rd_told upd_same (sq2 _ _ hg14) hi60 (by omega) (by omega) ha hb fun H15 s15 => ?_
        rw [lo]
        walk_at "rd"
        refine r_iteF (by simp) ?_
        have hg15 := s15 _ _ (sq2 _ _ hg14)
        walk_at "rd"
        refine r_new (by show 2 ≤ 1000; decide) fun q3 h3 => ?_
        have sq3 := Same.new (o := .tup [.int (t / 2 + 1), .int t]) h3
        walk_at "rd"
        refine rd_told upd_same (sq3 _ _ hg15) hi60 (by omega) (by omega) ha hb fun H16 s16 => ?_
        rw [hi']
        walk_at "rd"
        refine r_iteF (by simp) ?_
        have sC := ((sq2.trans s15).trans sq3).trans s16
        walk_at "rd"
        refine r_new (by show 2 ≤ 1000; decide) fun q4 h4 => ?_
        have sq4 := Same.new (o := .tup [.int 1, .int 2]) h4
        walk_at "rd"
        refine rd_told (i := -1 - i) upd_same (sq4 _ _ (sC _ _ hg14)) (by omega) (by decide) (by decide) ha hb fun H17 s17 => ?_
        rw [due_minus hr' i]
        walk_at "rd"
        refine ⟨i, r, rfl, hr', fun H18 s18 => ?_⟩
        walk_at "rd"
        refine r_iteF (by simp) ?_
        have sD := ((sC.trans sq4).trans s17).trans s18
        walk_at "rd"
        exact ⟨_, _, rfl, dk14.same sD, sD _ _ hg14, sD _ _ ht14⟩
      · rintro σ H11 ⟨v5, v6, rfl, dk11, hg11, _⟩
        obtain ⟨dhi, dlo, dup, ddo⟩ := due_others i
        walk_at "rd"
        refine ⟨by show 2 ≤ sizeLine; decide, fun tq htq => ⟨tq, rfl, ⟨_, SqT.of upd_same⟩, fun D hD => lc_tup (K := K) (a := tq) (xs := [.str "high", .str "low"])
          (fun j H' => DeckAt H' d c ∧ H' g = some (.tup [.int a1, .int b1]) ∧ H' tq = some (.tup [.str "high", .str "low"]) ∧ H' D = some (.lst (([i + 1, i].take j).map V.int))) ?_ (fun j H' _ ⟨_, _, e, _⟩ => SqT.of e) ?_ ?_⟩⟩
        · exact ⟨(dk11.same (Same.new htq)).same (Same.new hD), Same.new hD _ _ (Same.new htq _ _ hg11), Same.new hD _ _ upd_same, upd_same⟩
        · rintro j x H12 hx ⟨dk12, hg12, hq12, hD12⟩
          have nd : D ≠ d ∧ D ≠ c := fresh_ne (dk11.same (Same.new htq)) hD
          have ng : D ≠ g := ne_of hD12 hg12 (fun z => by cases z)
          have nq : D ≠ tq := ne_of hD12 hq12 (fun z => by cases z)
          obtain ⟨r, rfl, hv, hj⟩ : ∃ r : Way, x = .str (wname r) ∧ (([i + 1, i].take j).map V.int) ++ [.int (takenQ r ((i : Rat) + Rat.divInt 1 2))] = ([i + 1, i].take (j + 1)).map V.int ∧ j < 2 := by
            rcases j with _ | _ | j
            · exact ⟨.high, (Option.some.inj hx).symm, by rw [dhi]; rfl, by decide⟩
            · exact ⟨.low, (Option.some.inj hx).symm, by rw [dlo]; rfl, by decide⟩
            · cases hx
          walk_at "rd"
          refine ⟨rfl, ?_⟩
          refine r_tyes ?_
          walk_at "rd"
          refine r_new (by show 2 ≤ 1000; decide) fun q1 h1 => ?_
          have sq1 := Same.new (o := .tup [.int 1, .int 2]) h1
          walk_at "rd"
          refine rd_told upd_same (sq1 _ _ hg12) hi60 (by decide) (by decide) ha hb fun H13 s13 => ?_
          have sA := sq1.trans s13
          refine ⟨_, sA _ _ hD12, by rw [List.length_map, List.length_take]; exact Nat.lt_of_le_of_lt (Nat.min_le_left _ _) (Nat.lt_trans hj (by decide)), (dk12.same sA).upd nd.1 nd.2, ?_, ?_, ?_⟩
          · rw [upd_ne ng.symm]; exact sA _ _ hg12
          · rw [upd_ne nq.symm]; exact sA _ _ hq12
          · rw [upd_same, hv]
        · rintro H12 ⟨dk12, hg12, hq12, hD12⟩
          walk_at "rd"
          refine r_new (by show 2 ≤ 1000; decide) fun l3 hl3 => ?_
          have sB := Same.new (o := .lst [.int (i + 1), .int i]) hl3
          refine r_neInts (xs := [i + 1, i]) (ys := [i + 1, i]) (SqL.of (sB _ _ hD12)) (SqL.of upd_same) ?_
          walk_at "rd"
          refine r_iteF (by simp) ?_
          have dk13 := dk12.same sB
          have hg13 := sB _ _ hg12
          walk_at "rd"
          refine r_new (by show 2 ≤ 1000; decide) fun q1 h1 => ?_
          have sq1 := Same.new (o := .tup [.int 1, .int 2]) h1
          walk_at "rd"
          refine rd_told (r := .up) upd_same (sq1 _ _ hg13) hi60 (by decide) (by decide) ha hb fun H14 s14 => ?_
          rw [dup]
          walk_at "rd"
          refine ⟨i, .hup, rfl, rfl, fun H15 s15 => ?_⟩
          walk_at "rd"
          refine r_iteF (by simp) ?_
          have sC := (sq1.trans s14).trans s15
          walk_at "rd"
          refine r_new (by show 2 ≤ 1000; decide) fun q2 h2 => ?_
          have sq2 := Same.new (o := .tup [.int 1, .int 2]) h2
          walk_at "rd"
          refine rd_told (r := .down) upd_same (sq2 _ _ (sC _ _ hg13)) hi60 (by decide) (by decide) ha hb fun H16 s16 => ?_
          rw [ddo]
          walk_at "rd"
          refine ⟨i, .hdown, rfl, rfl, fun H17 s17 => ?_⟩
          walk_at "rd"
          refine r_iteF (by simp) ?_
          walk_at "rd"
          exact ⟨_, _, _, _, _, rfl, dk13.same (((sC.trans sq2).trans s16).trans s17)⟩
    · rintro σ H2 ⟨v2, v3, v4, v5, v6, rfl, dk2⟩
      walk_at "rd"
      exact k _
end
end My

namespace My
open PySem L2
theorem kit_self {K : PySem.W.Frag} {C : Addr} : PySem.W.kitOne K (.ref C) (.ref C) = some true := if_pos (by simp)
theorem bi_Number_init {K : PySem.W.Frag} {f : Addr} {fd : FuncData} (F : FunD K "__init__" "Number.__init__" (defArgs s_Number_init) (defBody s_Number_init) (defScope s_Number_init) [V.int 1] [] f fd) :
    Binds K fd ["self", "top", "bottom"] [] ∧ ∃ ds : List Value, Vals [V.int 1] ds ∧ Binds K fd ["self", "top", "bottom"] ds := by
  constructor
  · obtain ⟨ds, r, b⟩ := F.binds1 (ps := ["self", "top", "bottom"]) 3 1 (by simp) rfl fun T kV doc pm an cdv ct us its h1 h2 => match us, its, h1, h2 with | [_, _, _], [_], _, _ => ⟨_, rfl, rfl⟩
    cases r
    exact b
  · exact F.binds1 (ps := ["self", "top", "bottom"]) 2 0 (by simp) rfl fun T kV doc pm an cdv ct us its h1 h2 => match us, its, h1, h2 with | [_, _], [_], _, _ => ⟨_, rfl, rfl⟩
theorem bi_rounded {K : PySem.W.Frag} {f : Addr} {fd : FuncData} (F : FunD K "rounded" "rounded" (defArgs s_rounded) (defBody s_rounded) (defScope s_rounded) [] [(("way" : Str), V.str "half even")] f fd) :
    KBn K fd ["number", "step", "way"] 2 ["way"] (fun us ws => us ++ ws) (fun vs zs => vs ++ zs) ∧ ∃ ds : List Value, Vals [V.str "half even"] ds ∧ Binds K fd ["number", "step", "way"] ds := by
  constructor
  · obtain ⟨oc, od, dV, kV, doc, pm, an, cdv, ct, osl, rfl, lk, hcd, hD, hK⟩ := F.ex
    rcases hD with ⟨_, rfl⟩ | ⟨e, _⟩
    · rcases hK with e | ⟨D, rfl, hq⟩
      · cases e
      · exact ⟨fun s us ws X h1 h2 => match us, ws, h1, h2 with | [_, _], [_], _, _ => .of_eq rfl, fun r1 r2 => r1.append r2⟩
    · exact absurd rfl e
  · exact F.binds0 (ps := ["number", "step", "way"]) 2 (by simp) rfl fun D doc pm an cdv ct us ks h1 h2 => match us, ks, h1, h2 with | [_, _], [_], _, _ => ⟨_, _, _, _, _, _, rfl, rfl, rfl⟩
theorem bi_round_paper {K : PySem.W.Frag} {f : Addr} {fd : FuncData} (F : FunD K "round_paper" "round_paper" (defArgs s_round_paper) (defBody s_round_paper) (defScope s_round_paper) [] [(("way" : Str), V.str "half even")] f fd) :
    KBn K fd ["number", "step", "way"] 2 ["way"] (fun us ws => us ++ ws) (fun vs zs => vs ++ zs) ∧ ∃ ds : List Value, Vals [V.str "half even"] ds ∧ Binds K fd ["number", "step", "way"] ds := by
  constructor
  · obtain ⟨oc, od, dV, kV, doc, pm, an, cdv, ct, osl, rfl, lk, hcd, hD, hK⟩ := F.ex
    rcases hD with ⟨_, rfl⟩ | ⟨e, _⟩
    · rcases hK with e | ⟨D, rfl, hq⟩
      · cases e
      · exact ⟨fun s us ws X h1 h2 => match us, ws, h1, h2 with | [_, _], [_], _, _ => .of_eq rfl, fun r1 r2 => r1.append r2⟩
    · exact absurd rfl e
  · exact F.binds0 (ps := ["number", "step", "way"]) 2 (by simp) rfl fun D doc pm an cdv ct us ks h1 h2 => match us, ks, h1, h2 with | [_, _], [_], _, _ => ⟨_, _, _, _, _, _, rfl, rfl, rfl⟩
theorem all_mk {l : PySem.W.OpenLaw} {w : World} {K : PySem.W.Frag} {h : Heap} {mg : Str → Option Value} {fa : Addr} (X : K.In h) (G : h.Ns mainGlobals mg) (hfa : mg "law" = some (.ref fa))
    {C_Number : Addr}
    {f_Number_init : Addr} {od_Number_init an_Number_init : Option Addr} {sl_Number_init : Array (Option Value)} {oc_Number_init dc_Number_init pm_Number_init cd_Number_init ct_Number_init : Value}
    {kV_Number_init : Value}
    {Td_Number_init : Addr} {cT_Number_init : Value} {dT_Number_init : Option Addr} {nT_Number_init : Nat} {sT_Number_init : Array (Option Value)} {tk_Number_init : Tok}
    {f_Number_less : Addr} {od_Number_less an_Number_less : Option Addr} {sl_Number_less : Array (Option Value)} {oc_Number_less dc_Number_less pm_Number_less cd_Number_less ct_Number_less : Value}
    {kV_Number_less : Value}
    {f_Number_times : Addr} {od_Number_times an_Number_times : Option Addr} {sl_Number_times : Array (Option Value)} {oc_Number_times dc_Number_times pm_Number_times cd_Number_times ct_Number_times : Value}
    {kV_Number_times : Value}
    {f_Number_over : Addr} {od_Number_over an_Number_over : Option Addr} {sl_Number_over : Array (Option Value)} {oc_Number_over dc_Number_over pm_Number_over cd_Number_over ct_Number_over : Value}
    {kV_Number_over : Value}
    {f_Number_floor : Addr} {od_Number_floor an_Number_floor : Option Addr} {sl_Number_floor : Array (Option Value)} {oc_Number_floor dc_Number_floor pm_Number_floor cd_Number_floor ct_Number_floor : Value}
    {kV_Number_floor : Value}
    {f_rounded : Addr} {od_rounded an_rounded : Option Addr} {sl_rounded : Array (Option Value)} {oc_rounded dc_rounded pm_rounded cd_rounded ct_rounded : Value}
    {Kd_rounded : Addr} {tw_rounded : Tok}
    {f_round_paper : Addr} {od_round_paper an_round_paper : Option Addr} {sl_round_paper : Array (Option Value)} {oc_round_paper dc_round_paper pm_round_paper cd_round_paper ct_round_paper : Value}
    {Kd_round_paper : Addr} {tw_round_paper : Tok}
    {f_place_of : Addr} {od_place_of an_place_of : Option Addr} {sl_place_of : Array (Option Value)} {oc_place_of dc_place_of pm_place_of cd_place_of ct_place_of : Value}
    {kV_place_of : Value}
    {f_by_up : Addr} {od_by_up an_by_up : Option Addr} {sl_by_up : Array (Option Value)} {oc_by_up dc_by_up pm_by_up cd_by_up ct_by_up : Value}
    {kV_by_up : Value}
    {f_by_down : Addr} {od_by_down an_by_down : Option Addr} {sl_by_down : Array (Option Value)} {oc_by_down dc_by_down pm_by_down cd_by_down ct_by_down : Value}
    {kV_by_down : Value}
    {f_by_high : Addr} {od_by_high an_by_high : Option Addr} {sl_by_high : Array (Option Value)} {oc_by_high dc_by_high pm_by_high cd_by_high ct_by_high : Value}
    {kV_by_high : Value}
    {f_by_low : Addr} {od_by_low an_by_low : Option Addr} {sl_by_low : Array (Option Value)} {oc_by_low dc_by_low pm_by_low cd_by_low ct_by_low : Value}
    {kV_by_low : Value}
    {f_by_half_up : Addr} {od_by_half_up an_by_half_up : Option Addr} {sl_by_half_up : Array (Option Value)} {oc_by_half_up dc_by_half_up pm_by_half_up cd_by_half_up ct_by_half_up : Value}
    {kV_by_half_up : Value}
    {f_by_half_down : Addr} {od_by_half_down an_by_half_down : Option Addr} {sl_by_half_down : Array (Option Value)} {oc_by_half_down dc_by_half_down pm_by_half_down cd_by_half_down ct_by_half_down : Value}
    {kV_by_half_down : Value}
    {f_by_half_even : Addr} {od_by_half_even an_by_half_even : Option Addr} {sl_by_half_even : Array (Option Value)} {oc_by_half_even dc_by_half_even pm_by_half_even cd_by_half_even ct_by_half_even : Value}
    {kV_by_half_even : Value}
    {f_by_half_odd : Addr} {od_by_half_odd an_by_half_odd : Option Addr} {sl_by_half_odd : Array (Option Value)} {oc_by_half_odd dc_by_half_odd pm_by_half_odd cd_by_half_odd ct_by_half_odd : Value}
    {kV_by_half_odd : Value}
    {f_nearer : Addr} {od_nearer an_nearer : Option Addr} {sl_nearer : Array (Option Value)} {oc_nearer dc_nearer pm_nearer cd_nearer ct_nearer : Value}
    {kV_nearer : Value}
    {f_l_deck : Addr} {od_l_deck an_l_deck : Option Addr} {sl_l_deck : Array (Option Value)} {oc_l_deck dc_l_deck pm_l_deck cd_l_deck ct_l_deck : Value}
    {kV_l_deck : Value}
    {f_l_draw : Addr} {od_l_draw an_l_draw : Option Addr} {sl_l_draw : Array (Option Value)} {oc_l_draw dc_l_draw pm_l_draw cd_l_draw ct_l_draw : Value}
    {kV_l_draw : Value}
    {f_l_grain : Addr} {od_l_grain an_l_grain : Option Addr} {sl_l_grain : Array (Option Value)} {oc_l_grain dc_l_grain pm_l_grain cd_l_grain ct_l_grain : Value}
    {kV_l_grain : Value}
    {f_l_told : Addr} {od_l_told an_l_told : Option Addr} {sl_l_told : Array (Option Value)} {oc_l_told dc_l_told pm_l_told cd_l_told ct_l_told : Value}
    {kV_l_told : Value}
    {f_l_half_due : Addr} {od_l_half_due an_l_half_due : Option Addr} {sl_l_half_due : Array (Option Value)} {oc_l_half_due dc_l_half_due pm_l_half_due cd_l_half_due ct_l_half_due : Value}
    {kV_l_half_due : Value}
    {f_law : Addr} {od_law an_law : Option Addr} {sl_law : Array (Option Value)} {oc_law dc_law pm_law cd_law ct_law : Value}
    {kV_law : Value}
    {D_RULES : Addr} {es_RULES : Array DictEntry} {en_RULES : Nat}
    (aC_Number : PySem.W.nsIn K mainGlobals "Number" = some (some (.ref C_Number)))
    (pg_Number : PySem.W.plainGet K C_Number Str.empty = true)
    (hd_Number : PySem.W.hasDictIn K C_Number = true)
    (po_Number : PySem.W.plainOver K C_Number = true)
    (sa_Number : PySem.W.findIn K (.ref C_Number) "__setattr__" = some (some (.builtin "object.__setattr__")))
    (nf_Number_top : PySem.W.findIn K (.ref C_Number) "top" = some none)
    (nf_Number_bottom : PySem.W.findIn K (.ref C_Number) "bottom" = some none)
    (tc_Number : PySem.W.findIn K (.ref C_Number) "__class__" = some (some (.builtin "object.__class__")))
    (tg_Number : PySem.W.specialIn K (.builtin "object.__class__") "__get__" = some (some (.builtin "getset_descriptor.__get__")))
    (tt_Number : PySem.W.takesIn K (.builtin "object.__class__") = some true)
    (tm_Number : PySem.W.mroIn K C_Number (.type "object") = some true)
    (nn_Number : PySem.W.findIn K (.ref C_Number) "__ne__" = some (some (.builtin "object.__ne__")))
    (mi_Number : PySem.W.makesIn K C_Number = true)
    (kc_Number : PySem.W.keepIn K (.ref C_Number) = true)
    (a_Number_init : PySem.W.findIn K (.ref C_Number) "__init__" = some (some (.ref f_Number_init)))
    (i_Number_init : PySem.W.isFn K (.ref f_Number_init) = true)
    (l_Number_init : K.lookup f_Number_init = some ⟨oc_Number_init, od_Number_init, .func (PySem.W.fnOf "__init__" "Number.__init__" (defArgs s_Number_init) (defBody s_Number_init) (defScope s_Number_init) (.ref Td_Number_init) kV_Number_init dc_Number_init pm_Number_init an_Number_init cd_Number_init ct_Number_init), sl_Number_init⟩)
    (c_Number_init : PySem.W.codeIn K cd_Number_init "Number.__init__" = true)
    (k_Number_init : PySem.W.keepIn K (.ref f_Number_init) = true)
    (T_Number_init : K.lookup Td_Number_init = some ⟨cT_Number_init, dT_Number_init, .seq #[.int 1 tk_Number_init] nT_Number_init, sT_Number_init⟩)
    (a_Number_less : PySem.W.findIn K (.ref C_Number) "less" = some (some (.ref f_Number_less)))
    (i_Number_less : PySem.W.isFn K (.ref f_Number_less) = true)
    (l_Number_less : K.lookup f_Number_less = some ⟨oc_Number_less, od_Number_less, .func (PySem.W.fnOf "less" "Number.less" (defArgs s_Number_less) (defBody s_Number_less) (defScope s_Number_less) .none kV_Number_less dc_Number_less pm_Number_less an_Number_less cd_Number_less ct_Number_less), sl_Number_less⟩)
    (c_Number_less : PySem.W.codeIn K cd_Number_less "Number.less" = true)
    (k_Number_less : PySem.W.keepIn K (.ref f_Number_less) = true)
    (a_Number_times : PySem.W.findIn K (.ref C_Number) "times" = some (some (.ref f_Number_times)))
    (i_Number_times : PySem.W.isFn K (.ref f_Number_times) = true)
    (l_Number_times : K.lookup f_Number_times = some ⟨oc_Number_times, od_Number_times, .func (PySem.W.fnOf "times" "Number.times" (defArgs s_Number_times) (defBody s_Number_times) (defScope s_Number_times) .none kV_Number_times dc_Number_times pm_Number_times an_Number_times cd_Number_times ct_Number_times), sl_Number_times⟩)
    (c_Number_times : PySem.W.codeIn K cd_Number_times "Number.times" = true)
    (k_Number_times : PySem.W.keepIn K (.ref f_Number_times) = true)
    (a_Number_over : PySem.W.findIn K (.ref C_Number) "over" = some (some (.ref f_Number_over)))
    (i_Number_over : PySem.W.isFn K (.ref f_Number_over) = true)
    (l_Number_over : K.lookup f_Number_over = some ⟨oc_Number_over, od_Number_over, .func (PySem.W.fnOf "over" "Number.over" (defArgs s_Number_over) (defBody s_Number_over) (defScope s_Number_over) .none kV_Number_over dc_Number_over pm_Number_over an_Number_over cd_Number_over ct_Number_over), sl_Number_over⟩)
    (c_Number_over : PySem.W.codeIn K cd_Number_over "Number.over" = true)
    (k_Number_over : PySem.W.keepIn K (.ref f_Number_over) = true)
    (a_Number_floor : PySem.W.findIn K (.ref C_Number) "floor" = some (some (.ref f_Number_floor)))
    (i_Number_floor : PySem.W.isFn K (.ref f_Number_floor) = true)
    (l_Number_floor : K.lookup f_Number_floor = some ⟨oc_Number_floor, od_Number_floor, .func (PySem.W.fnOf "floor" "Number.floor" (defArgs s_Number_floor) (defBody s_Number_floor) (defScope s_Number_floor) .none kV_Number_floor dc_Number_floor pm_Number_floor an_Number_floor cd_Number_floor ct_Number_floor), sl_Number_floor⟩)
    (c_Number_floor : PySem.W.codeIn K cd_Number_floor "Number.floor" = true)
    (k_Number_floor : PySem.W.keepIn K (.ref f_Number_floor) = true)
    (a_rounded : PySem.W.nsIn K mainGlobals "rounded" = some (some (.ref f_rounded)))
    (l_rounded : K.lookup f_rounded = some ⟨oc_rounded, od_rounded, .func (PySem.W.fnOf "rounded" "rounded" (defArgs s_rounded) (defBody s_rounded) (defScope s_rounded) .none (.ref Kd_rounded) dc_rounded pm_rounded an_rounded cd_rounded ct_rounded), sl_rounded⟩)
    (c_rounded : PySem.W.codeIn K cd_rounded "rounded" = true)
    (k_rounded : PySem.W.keepIn K (.ref f_rounded) = true)
    (W_rounded : PySem.W.nsIn K Kd_rounded "way" = some (some (.str "half even" tw_rounded)))
    (a_round_paper : PySem.W.nsIn K mainGlobals "round_paper" = some (some (.ref f_round_paper)))
    (l_round_paper : K.lookup f_round_paper = some ⟨oc_round_paper, od_round_paper, .func (PySem.W.fnOf "round_paper" "round_paper" (defArgs s_round_paper) (defBody s_round_paper) (defScope s_round_paper) .none (.ref Kd_round_paper) dc_round_paper pm_round_paper an_round_paper cd_round_paper ct_round_paper), sl_round_paper⟩)
    (c_round_paper : PySem.W.codeIn K cd_round_paper "round_paper" = true)
    (k_round_paper : PySem.W.keepIn K (.ref f_round_paper) = true)
    (W_round_paper : PySem.W.nsIn K Kd_round_paper "way" = some (some (.str "half even" tw_round_paper)))
    (a_place_of : PySem.W.nsIn K mainGlobals "place_of" = some (some (.ref f_place_of)))
    (l_place_of : K.lookup f_place_of = some ⟨oc_place_of, od_place_of, .func (PySem.W.fnOf "place_of" "place_of" (defArgs s_place_of) (defBody s_place_of) (defScope s_place_of) .none kV_place_of dc_place_of pm_place_of an_place_of cd_place_of ct_place_of), sl_place_of⟩)
    (c_place_of : PySem.W.codeIn K cd_place_of "place_of" = true)
    (k_place_of : PySem.W.keepIn K (.ref f_place_of) = true)
    (a_by_up : PySem.W.nsIn K mainGlobals "_by_up" = some (some (.ref f_by_up)))
    (l_by_up : K.lookup f_by_up = some ⟨oc_by_up, od_by_up, .func (PySem.W.fnOf "_by_up" "_by_up" (defArgs s_by_up) (defBody s_by_up) (defScope s_by_up) .none kV_by_up dc_by_up pm_by_up an_by_up cd_by_up ct_by_up), sl_by_up⟩)
    (c_by_up : PySem.W.codeIn K cd_by_up "_by_up" = true)
    (k_by_up : PySem.W.keepIn K (.ref f_by_up) = true)
    (a_by_down : PySem.W.nsIn K mainGlobals "_by_down" = some (some (.ref f_by_down)))
    (l_by_down : K.lookup f_by_down = some ⟨oc_by_down, od_by_down, .func (PySem.W.fnOf "_by_down" "_by_down" (defArgs s_by_down) (defBody s_by_down) (defScope s_by_down) .none kV_by_down dc_by_down pm_by_down an_by_down cd_by_down ct_by_down), sl_by_down⟩)
    (c_by_down : PySem.W.codeIn K cd_by_down "_by_down" = true)
    (k_by_down : PySem.W.keepIn K (.ref f_by_down) = true)
    (a_by_high : PySem.W.nsIn K mainGlobals "_by_high" = some (some (.ref f_by_high)))
    (l_by_high : K.lookup f_by_high = some ⟨oc_by_high, od_by_high, .func (PySem.W.fnOf "_by_high" "_by_high" (defArgs s_by_high) (defBody s_by_high) (defScope s_by_high) .none kV_by_high dc_by_high pm_by_high an_by_high cd_by_high ct_by_high), sl_by_high⟩)
    (c_by_high : PySem.W.codeIn K cd_by_high "_by_high" = true)
    (k_by_high : PySem.W.keepIn K (.ref f_by_high) = true)
    (a_by_low : PySem.W.nsIn K mainGlobals "_by_low" = some (some (.ref f_by_low)))
    (l_by_low : K.lookup f_by_low = some ⟨oc_by_low, od_by_low, .func (PySem.W.fnOf "_by_low" "_by_low" (defArgs s_by_low) (defBody s_by_low) (defScope s_by_low) .none kV_by_low dc_by_low pm_by_low an_by_low cd_by_low ct_by_low), sl_by_low⟩)
    (c_by_low : PySem.W.codeIn K cd_by_low "_by_low" = true)
    (k_by_low : PySem.W.keepIn K (.ref f_by_low) = true)
    (a_by_half_up : PySem.W.nsIn K mainGlobals "_by_half_up" = some (some (.ref f_by_half_up)))
    (l_by_half_up : K.lookup f_by_half_up = some ⟨oc_by_half_up, od_by_half_up, .func (PySem.W.fnOf "_by_half_up" "_by_half_up" (defArgs s_by_half_up) (defBody s_by_half_up) (defScope s_by_half_up) .none kV_by_half_up dc_by_half_up pm_by_half_up an_by_half_up cd_by_half_up ct_by_half_up), sl_by_half_up⟩)
    (c_by_half_up : PySem.W.codeIn K cd_by_half_up "_by_half_up" = true)
    (k_by_half_up : PySem.W.keepIn K (.ref f_by_half_up) = true)
    (a_by_half_down : PySem.W.nsIn K mainGlobals "_by_half_down" = some (some (.ref f_by_half_down)))
    (l_by_half_down : K.lookup f_by_half_down = some ⟨oc_by_half_down, od_by_half_down, .func (PySem.W.fnOf "_by_half_down" "_by_half_down" (defArgs s_by_half_down) (defBody s_by_half_down) (defScope s_by_half_down) .none kV_by_half_down dc_by_half_down pm_by_half_down an_by_half_down cd_by_half_down ct_by_half_down), sl_by_half_down⟩)
    (c_by_half_down : PySem.W.codeIn K cd_by_half_down "_by_half_down" = true)
    (k_by_half_down : PySem.W.keepIn K (.ref f_by_half_down) = true)
    (a_by_half_even : PySem.W.nsIn K mainGlobals "_by_half_even" = some (some (.ref f_by_half_even)))
    (l_by_half_even : K.lookup f_by_half_even = some ⟨oc_by_half_even, od_by_half_even, .func (PySem.W.fnOf "_by_half_even" "_by_half_even" (defArgs s_by_half_even) (defBody s_by_half_even) (defScope s_by_half_even) .none kV_by_half_even dc_by_half_even pm_by_half_even an_by_half_even cd_by_half_even ct_by_half_even), sl_by_half_even⟩)
    (c_by_half_even : PySem.W.codeIn K cd_by_half_even "_by_half_even" = true)
    (k_by_half_even : PySem.W.keepIn K (.ref f_by_half_even) = true)
    (a_by_half_odd : PySem.W.nsIn K mainGlobals "_by_half_odd" = some (some (.ref f_by_half_odd)))
    (l_by_half_odd : K.lookup f_by_half_odd = some ⟨oc_by_half_odd, od_by_half_odd, .func (PySem.W.fnOf "_by_half_odd" "_by_half_odd" (defArgs s_by_half_odd) (defBody s_by_half_odd) (defScope s_by_half_odd) .none kV_by_half_odd dc_by_half_odd pm_by_half_odd an_by_half_odd cd_by_half_odd ct_by_half_odd), sl_by_half_odd⟩)
    (c_by_half_odd : PySem.W.codeIn K cd_by_half_odd "_by_half_odd" = true)
    (k_by_half_odd : PySem.W.keepIn K (.ref f_by_half_odd) = true)
    (a_nearer : PySem.W.nsIn K mainGlobals "_nearer" = some (some (.ref f_nearer)))
    (l_nearer : K.lookup f_nearer = some ⟨oc_nearer, od_nearer, .func (PySem.W.fnOf "_nearer" "_nearer" (defArgs s_nearer) (defBody s_nearer) (defScope s_nearer) .none kV_nearer dc_nearer pm_nearer an_nearer cd_nearer ct_nearer), sl_nearer⟩)
    (c_nearer : PySem.W.codeIn K cd_nearer "_nearer" = true)
    (k_nearer : PySem.W.keepIn K (.ref f_nearer) = true)
    (a_l_deck : PySem.W.nsIn K mainGlobals "_law_deck" = some (some (.ref f_l_deck)))
    (l_l_deck : K.lookup f_l_deck = some ⟨oc_l_deck, od_l_deck, .func (PySem.W.fnOf "_law_deck" "_law_deck" (defArgs s_l_deck) (defBody s_l_deck) (defScope s_l_deck) .none kV_l_deck dc_l_deck pm_l_deck an_l_deck cd_l_deck ct_l_deck), sl_l_deck⟩)
    (c_l_deck : PySem.W.codeIn K cd_l_deck "_law_deck" = true)
    (k_l_deck : PySem.W.keepIn K (.ref f_l_deck) = true)
    (a_l_draw : PySem.W.nsIn K mainGlobals "_law_draw" = some (some (.ref f_l_draw)))
    (l_l_draw : K.lookup f_l_draw = some ⟨oc_l_draw, od_l_draw, .func (PySem.W.fnOf "_law_draw" "_law_draw" (defArgs s_l_draw) (defBody s_l_draw) (defScope s_l_draw) .none kV_l_draw dc_l_draw pm_l_draw an_l_draw cd_l_draw ct_l_draw), sl_l_draw⟩)
    (c_l_draw : PySem.W.codeIn K cd_l_draw "_law_draw" = true)
    (k_l_draw : PySem.W.keepIn K (.ref f_l_draw) = true)
    (a_l_grain : PySem.W.nsIn K mainGlobals "_law_grain" = some (some (.ref f_l_grain)))
    (l_l_grain : K.lookup f_l_grain = some ⟨oc_l_grain, od_l_grain, .func (PySem.W.fnOf "_law_grain" "_law_grain" (defArgs s_l_grain) (defBody s_l_grain) (defScope s_l_grain) .none kV_l_grain dc_l_grain pm_l_grain an_l_grain cd_l_grain ct_l_grain), sl_l_grain⟩)
    (c_l_grain : PySem.W.codeIn K cd_l_grain "_law_grain" = true)
    (k_l_grain : PySem.W.keepIn K (.ref f_l_grain) = true)
    (a_l_told : PySem.W.nsIn K mainGlobals "_law_told" = some (some (.ref f_l_told)))
    (l_l_told : K.lookup f_l_told = some ⟨oc_l_told, od_l_told, .func (PySem.W.fnOf "_law_told" "_law_told" (defArgs s_l_told) (defBody s_l_told) (defScope s_l_told) .none kV_l_told dc_l_told pm_l_told an_l_told cd_l_told ct_l_told), sl_l_told⟩)
    (c_l_told : PySem.W.codeIn K cd_l_told "_law_told" = true)
    (k_l_told : PySem.W.keepIn K (.ref f_l_told) = true)
    (a_l_half_due : PySem.W.nsIn K mainGlobals "_law_half_due" = some (some (.ref f_l_half_due)))
    (l_l_half_due : K.lookup f_l_half_due = some ⟨oc_l_half_due, od_l_half_due, .func (PySem.W.fnOf "_law_half_due" "_law_half_due" (defArgs s_l_half_due) (defBody s_l_half_due) (defScope s_l_half_due) .none kV_l_half_due dc_l_half_due pm_l_half_due an_l_half_due cd_l_half_due ct_l_half_due), sl_l_half_due⟩)
    (c_l_half_due : PySem.W.codeIn K cd_l_half_due "_law_half_due" = true)
    (k_l_half_due : PySem.W.keepIn K (.ref f_l_half_due) = true)
    (a_law : PySem.W.nsIn K mainGlobals "law" = some (some (.ref f_law)))
    (l_law : K.lookup f_law = some ⟨oc_law, od_law, .func (PySem.W.fnOf "law" "law" (defArgs s_law) (defBody s_law) (defScope s_law) .none kV_law dc_law pm_law an_law cd_law ct_law), sl_law⟩)
    (c_law : PySem.W.codeIn K cd_law "law" = true)
    (k_law : PySem.W.keepIn K (.ref f_law) = true)
    (a_gcd : PySem.W.nsIn K mainGlobals "gcd" = some (some (.builtin "math.gcd")))
    (z_range : PySem.W.nsIn K mainGlobals "range" = some none)
    (z_isinstance : PySem.W.nsIn K mainGlobals "isinstance" = some none)
    (z_str : PySem.W.nsIn K mainGlobals "str" = some none)
    (z_int : PySem.W.nsIn K mainGlobals "int" = some none)
    (z_list : PySem.W.nsIn K mainGlobals "list" = some none)
    (a_RULES : PySem.W.nsIn K mainGlobals "RULES" = some (some (.ref D_RULES)))
    (l_RULES : K.lookup D_RULES = some ⟨.type "dict", none, .dict es_RULES en_RULES, #[]⟩)
    (k_RULES : PySem.W.KeysLit w.params es_RULES.toList)
    (r_by_up : PySem.W.nsIn K D_RULES "up" = some (some (.ref f_by_up)))
    (r_by_down : PySem.W.nsIn K D_RULES "down" = some (some (.ref f_by_down)))
    (r_by_high : PySem.W.nsIn K D_RULES "high" = some (some (.ref f_by_high)))
    (r_by_low : PySem.W.nsIn K D_RULES "low" = some (some (.ref f_by_low)))
    (r_by_half_up : PySem.W.nsIn K D_RULES "half up" = some (some (.ref f_by_half_up)))
    (r_by_half_down : PySem.W.nsIn K D_RULES "half down" = some (some (.ref f_by_half_down)))
    (r_by_half_even : PySem.W.nsIn K D_RULES "half even" = some (some (.ref f_by_half_even)))
    (r_by_half_odd : PySem.W.nsIn K D_RULES "half odd" = some (some (.ref f_by_half_odd)))
    : ∃ fd : FuncData, (∀ (s : Shared) (v : Value), BindsTo s fd ⟨[v], []⟩ [("_law_script", v)]) ∧ ∀ base : Heap, K.In base → base.Ns mainGlobals mg → FnOk l.prog w K mg base CX0 8 fa fd ["_law_script"] (spLaw K) := by
  have e := hfa.symm.trans (PySem.W.mg_of X G a_law)
  cases e
  have F_Number_init : FunD K "__init__" "Number.__init__" (defArgs s_Number_init) (defBody s_Number_init) (defScope s_Number_init) [V.int 1] [] f_Number_init _ := ⟨⟨_, _, _, _, _, _, _, _, _, _, rfl, l_Number_init, c_Number_init, .inr ⟨by simp, Td_Number_init, _, _, _, rfl, T_Number_init, rfl, .cons ⟨_, rfl⟩ .nil⟩, .inl rfl⟩, k_Number_init⟩
  obtain ⟨b_Number_init2, ds_Number_init1, d_Number_init1, b_Number_init1⟩ := bi_Number_init F_Number_init
  have F_Number_less := fun_mk (st := s_Number_less) l_Number_less c_Number_less k_Number_less
  have b_Number_less := F_Number_less.binds (ps := ["self", "other"]) fun _ _ _ _ _ _ us hl => match us, hl with | [_, _], _ => rfl
  have F_Number_times := fun_mk (st := s_Number_times) l_Number_times c_Number_times k_Number_times
  have b_Number_times := F_Number_times.binds (ps := ["self", "other"]) fun _ _ _ _ _ _ us hl => match us, hl with | [_, _], _ => rfl
  have F_Number_over := fun_mk (st := s_Number_over) l_Number_over c_Number_over k_Number_over
  have b_Number_over := F_Number_over.binds (ps := ["self", "other"]) fun _ _ _ _ _ _ us hl => match us, hl with | [_, _], _ => rfl
  have F_Number_floor := fun_mk (st := s_Number_floor) l_Number_floor c_Number_floor k_Number_floor
  have b_Number_floor := F_Number_floor.binds (ps := ["self"]) fun _ _ _ _ _ _ us hl => match us, hl with | [_], _ => rfl
  have F_rounded : FunD K "rounded" "rounded" (defArgs s_rounded) (defBody s_rounded) (defScope s_rounded) [] [(("way" : Str), V.str "half even")] f_rounded _ := ⟨⟨_, _, _, _, _, _, _, _, _, _, rfl, l_rounded, c_rounded, .inl ⟨rfl, rfl⟩, .inr ⟨Kd_rounded, rfl, fun q hq => by cases List.mem_singleton.mp hq; exact ⟨_, W_rounded, ⟨_, rfl⟩⟩⟩⟩, k_rounded⟩
  obtain ⟨kb_rounded, ds_rounded, d_rounded, b_rounded⟩ := bi_rounded F_rounded
  have F_round_paper : FunD K "round_paper" "round_paper" (defArgs s_round_paper) (defBody s_round_paper) (defScope s_round_paper) [] [(("way" : Str), V.str "half even")] f_round_paper _ := ⟨⟨_, _, _, _, _, _, _, _, _, _, rfl, l_round_paper, c_round_paper, .inl ⟨rfl, rfl⟩, .inr ⟨Kd_round_paper, rfl, fun q hq => by cases List.mem_singleton.mp hq; exact ⟨_, W_round_paper, ⟨_, rfl⟩⟩⟩⟩, k_round_paper⟩
  obtain ⟨kb_round_paper, ds_round_paper, d_round_paper, b_round_paper⟩ := bi_round_paper F_round_paper
  have F_place_of := fun_mk (st := s_place_of) l_place_of c_place_of k_place_of
  have b_place_of := F_place_of.binds (ps := ["number", "step"]) fun _ _ _ _ _ _ us hl => match us, hl with | [_, _], _ => rfl
  have F_by_up := fun_mk (st := s_by_up) l_by_up c_by_up k_by_up
  have b_by_up := F_by_up.binds (ps := ["low", "part"]) fun _ _ _ _ _ _ us hl => match us, hl with | [_, _], _ => rfl
  have F_by_down := fun_mk (st := s_by_down) l_by_down c_by_down k_by_down
  have b_by_down := F_by_down.binds (ps := ["low", "part"]) fun _ _ _ _ _ _ us hl => match us, hl with | [_, _], _ => rfl
  have F_by_high := fun_mk (st := s_by_high) l_by_high c_by_high k_by_high
  have b_by_high := F_by_high.binds (ps := ["low", "part"]) fun _ _ _ _ _ _ us hl => match us, hl with | [_, _], _ => rfl
  have F_by_low := fun_mk (st := s_by_low) l_by_low c_by_low k_by_low
  have b_by_low := F_by_low.binds (ps := ["low", "part"]) fun _ _ _ _ _ _ us hl => match us, hl with | [_, _], _ => rfl
  have F_by_half_up := fun_mk (st := s_by_half_up) l_by_half_up c_by_half_up k_by_half_up
  have b_by_half_up := F_by_half_up.binds (ps := ["low", "part"]) fun _ _ _ _ _ _ us hl => match us, hl with | [_, _], _ => rfl
  have F_by_half_down := fun_mk (st := s_by_half_down) l_by_half_down c_by_half_down k_by_half_down
  have b_by_half_down := F_by_half_down.binds (ps := ["low", "part"]) fun _ _ _ _ _ _ us hl => match us, hl with | [_, _], _ => rfl
  have F_by_half_even := fun_mk (st := s_by_half_even) l_by_half_even c_by_half_even k_by_half_even
  have b_by_half_even := F_by_half_even.binds (ps := ["low", "part"]) fun _ _ _ _ _ _ us hl => match us, hl with | [_, _], _ => rfl
  have F_by_half_odd := fun_mk (st := s_by_half_odd) l_by_half_odd c_by_half_odd k_by_half_odd
  have b_by_half_odd := F_by_half_odd.binds (ps := ["low", "part"]) fun _ _ _ _ _ _ us hl => match us, hl with | [_, _], _ => rfl
  have F_nearer := fun_mk (st := s_nearer) l_nearer c_nearer k_nearer
  have b_nearer := F_nearer.binds (ps := ["part", "at_half"]) fun _ _ _ _ _ _ us hl => match us, hl with | [_, _], _ => rfl
  have F_l_deck := fun_mk (st := s_l_deck) l_l_deck c_l_deck k_l_deck
  have b_l_deck := F_l_deck.binds (ps := ["_law_script"]) fun _ _ _ _ _ _ us hl => match us, hl with | [_], _ => rfl
  have F_l_draw := fun_mk (st := s_l_draw) l_l_draw c_l_draw k_l_draw
  have b_l_draw := F_l_draw.binds (ps := ["_law_deck_here", "_law_ways"]) fun _ _ _ _ _ _ us hl => match us, hl with | [_, _], _ => rfl
  have F_l_grain := fun_mk (st := s_l_grain) l_l_grain c_l_grain k_l_grain
  have b_l_grain := F_l_grain.binds (ps := ["_law_deck_here"]) fun _ _ _ _ _ _ us hl => match us, hl with | [_], _ => rfl
  have F_l_told := fun_mk (st := s_l_told) l_l_told c_l_told k_l_told
  have b_l_told := F_l_told.binds (ps := ["_law_count", "_law_part", "_law_grain_here", "_law_rule"]) fun _ _ _ _ _ _ us hl => match us, hl with | [_, _, _, _], _ => rfl
  have F_l_half_due := fun_mk (st := s_l_half_due) l_l_half_due c_l_half_due k_l_half_due
  have b_l_half_due := F_l_half_due.binds (ps := ["_law_count", "_law_rule"]) fun _ _ _ _ _ _ us hl => match us, hl with | [_, _], _ => rfl
  have F_law := fun_mk (st := s_law) l_law c_law k_law
  have b_law := F_law.binds (ps := ["_law_script"]) fun _ _ _ _ _ _ us hl => match us, hl with | [_], _ => rfl
  exact ⟨_, fun s v => .of_eq rfl, fun base _ _ => ok_law (w := w) (K := K) (mg := mg) {
    C_Number := C_Number,
    m_Number := PySem.W.mg_of X G aC_Number,
    c_Number := ⟨pg_Number, hd_Number, po_Number, sa_Number⟩,
    n_Number_top := nf_Number_top,
    n_Number_bottom := nf_Number_bottom,
    ty_Number_c := tc_Number,
    ty_Number_g := tg_Number,
    ty_Number_t := tt_Number,
    ty_Number_m := tm_Number,
    ty_Number_k := kit_self,
    ne_Number := nn_Number,
    f_Number_init := f_Number_init,
    fd_Number_init := _,
    F_Number_init := F_Number_init,
    mk_Number := ⟨mi_Number, a_Number_init, i_Number_init, kc_Number⟩,
    b_Number_init2 := b_Number_init2,
    ds_Number_init1 := ds_Number_init1,
    d_Number_init1 := d_Number_init1,
    b_Number_init1 := b_Number_init1,
    f_Number_less := f_Number_less,
    fd_Number_less := _,
    F_Number_less := F_Number_less,
    me_Number_less := ⟨a_Number_less, i_Number_less, k_Number_less⟩,
    b_Number_less := b_Number_less,
    f_Number_times := f_Number_times,
    fd_Number_times := _,
    F_Number_times := F_Number_times,
    me_Number_times := ⟨a_Number_times, i_Number_times, k_Number_times⟩,
    b_Number_times := b_Number_times,
    f_Number_over := f_Number_over,
    fd_Number_over := _,
    F_Number_over := F_Number_over,
    me_Number_over := ⟨a_Number_over, i_Number_over, k_Number_over⟩,
    b_Number_over := b_Number_over,
    f_Number_floor := f_Number_floor,
    fd_Number_floor := _,
    F_Number_floor := F_Number_floor,
    me_Number_floor := ⟨a_Number_floor, i_Number_floor, k_Number_floor⟩,
    b_Number_floor := b_Number_floor,
    m_rounded := PySem.W.mg_of X G a_rounded,
    f_rounded := f_rounded,
    fd_rounded := _,
    F_rounded := F_rounded,
    kb_rounded := kb_rounded,
    ds_rounded := ds_rounded,
    d_rounded := d_rounded,
    b_rounded := b_rounded,
    m_round_paper := PySem.W.mg_of X G a_round_paper,
    f_round_paper := f_round_paper,
    fd_round_paper := _,
    F_round_paper := F_round_paper,
    kb_round_paper := kb_round_paper,
    ds_round_paper := ds_round_paper,
    d_round_paper := d_round_paper,
    b_round_paper := b_round_paper,
    m_place_of := PySem.W.mg_of X G a_place_of,
    f_place_of := f_place_of,
    fd_place_of := _,
    F_place_of := F_place_of,
    b_place_of := b_place_of,
    m_by_up := PySem.W.mg_of X G a_by_up,
    f_by_up := f_by_up,
    fd_by_up := _,
    F_by_up := F_by_up,
    b_by_up := b_by_up,
    m_by_down := PySem.W.mg_of X G a_by_down,
    f_by_down := f_by_down,
    fd_by_down := _,
    F_by_down := F_by_down,
    b_by_down := b_by_down,
    m_by_high := PySem.W.mg_of X G a_by_high,
    f_by_high := f_by_high,
    fd_by_high := _,
    F_by_high := F_by_high,
    b_by_high := b_by_high,
    m_by_low := PySem.W.mg_of X G a_by_low,
    f_by_low := f_by_low,
    fd_by_low := _,
    F_by_low := F_by_low,
    b_by_low := b_by_low,
    m_by_half_up := PySem.W.mg_of X G a_by_half_up,
    f_by_half_up := f_by_half_up,
    fd_by_half_up := _,
    F_by_half_up := F_by_half_up,
    b_by_half_up := b_by_half_up,
    m_by_half_down := PySem.W.mg_of X G a_by_half_down,
    f_by_half_down := f_by_half_down,
    fd_by_half_down := _,
    F_by_half_down := F_by_half_down,
    b_by_half_down := b_by_half_down,
    m_by_half_even := PySem.W.mg_of X G a_by_half_even,
    f_by_half_even := f_by_half_even,
    fd_by_half_even := _,
    F_by_half_even := F_by_half_even,
    b_by_half_even := b_by_half_even,
    m_by_half_odd := PySem.W.mg_of X G a_by_half_odd,
    f_by_half_odd := f_by_half_odd,
    fd_by_half_odd := _,
    F_by_half_odd := F_by_half_odd,
    b_by_half_odd := b_by_half_odd,
    m_nearer := PySem.W.mg_of X G a_nearer,
    f_nearer := f_nearer,
    fd_nearer := _,
    F_nearer := F_nearer,
    b_nearer := b_nearer,
    m_l_deck := PySem.W.mg_of X G a_l_deck,
    f_l_deck := f_l_deck,
    fd_l_deck := _,
    F_l_deck := F_l_deck,
    b_l_deck := b_l_deck,
    m_l_draw := PySem.W.mg_of X G a_l_draw,
    f_l_draw := f_l_draw,
    fd_l_draw := _,
    F_l_draw := F_l_draw,
    b_l_draw := b_l_draw,
    m_l_grain := PySem.W.mg_of X G a_l_grain,
    f_l_grain := f_l_grain,
    fd_l_grain := _,
    F_l_grain := F_l_grain,
    b_l_grain := b_l_grain,
    m_l_told := PySem.W.mg_of X G a_l_told,
    f_l_told := f_l_told,
    fd_l_told := _,
    F_l_told := F_l_told,
    b_l_told := b_l_told,
    m_l_half_due := PySem.W.mg_of X G a_l_half_due,
    f_l_half_due := f_l_half_due,
    fd_l_half_due := _,
    F_l_half_due := F_l_half_due,
    b_l_half_due := b_l_half_due,
    m_law := PySem.W.mg_of X G a_law,
    f_law := _,
    fd_law := _,
    F_law := F_law,
    b_law := b_law,
    m_gcd := PySem.W.mg_of X G a_gcd,
    n_range := PySem.W.mg_none_of X G z_range,
    n_isinstance := PySem.W.mg_none_of X G z_isinstance,
    n_str := PySem.W.mg_none_of X G z_str,
    n_int := PySem.W.mg_none_of X G z_int,
    n_list := PySem.W.mg_none_of X G z_list,
    D_RULES := D_RULES,
    m_RULES := PySem.W.mg_of X G a_RULES,
    es_RULES := es_RULES,
    en_RULES := en_RULES,
    l_RULES := l_RULES,
    k_RULES := k_RULES,
    rule_by_up := r_by_up,
    rule_by_down := r_by_down,
    rule_by_high := r_by_high,
    rule_by_low := r_by_low,
    rule_by_half_up := r_by_half_up,
    rule_by_half_down := r_by_half_down,
    rule_by_half_even := r_by_half_even,
    rule_by_half_odd := r_by_half_odd }⟩
theorem walk {l : PySem.W.OpenLaw} {q : Program} {loose : List Str} {XP : (Str → Option Value) → Heap → Prop} {YP : World → Heap → Prop} {d : DefRec} {K : Params → PySem.W.Frag} (hn : l.most = some 63) (hdf : d.params.defaults = [])
    (hY : ∀ (w : World) (h : Heap), YP w h → (K w.params).In h)
    (F : ∀ (w : World) (mg : Str → Option Value) (fa : Addr) (h : Heap), (K w.params).In h → h.Ns mainGlobals mg → mg d.name = some (.ref fa) →
      ∃ fd : FuncData, (∀ (s : Shared) (u : Value), BindsTo s fd ⟨[u], []⟩ [("_law_script", u)]) ∧ ∀ base : Heap, (K w.params).In base → base.Ns mainGlobals mg → FnOk l.prog w (K w.params) mg base CX0 8 fa fd ["_law_script"] (spLaw (K w.params))) :
    PySem.W.WalkO q loose XP YP l.row.toRowW d [] (fun f vs => PySem.call f vs) :=
  L2.walk_of (n := 63) (k := 8) (x := "_law_script") (CX := fun _ => CX0) (sp := fun w => spLaw (K w.params)) hn (by decide) hdf ⟨rfl, by decide, by decide⟩ hY F (fun _ _ a ns hl _ hS => ⟨a, ns, rfl, hS, hl, fun _ => rfl⟩) fun _ _ _ _ _ z => z
end My
open PySem PySem.W PyProof.Rows in
set_option maxRecDepth 100000 in
set_option maxHeartbeats 0 in
theorem PySem.Challenge.cw_figuretexts_k09_halves_of_steps_holds : PySem.Challenge.rw_figuretexts_k09_halves_of_steps.Holds := by
  w_on; o_law; k_head; (case hw => w_witness2)
  k_fill
  refine My.walk (l := PySem.Challenge.rw_figuretexts_k09_halves_of_steps) rfl rfl (fun w h Y => PySem.W.kIn_of Y) ?F
  case F =>
    intro w mg fa h KX G hmg
    refine' My.all_mk KX G hmg ?aC_Number ?pg_Number ?hd_Number ?po_Number ?sa_Number ?nf_Number_top ?nf_Number_bottom ?tc_Number ?tg_Number ?tt_Number ?tm_Number ?nn_Number ?mi_Number ?kc_Number ?a_Number_init ?i_Number_init ?l_Number_init ?c_Number_init ?k_Number_init ?T_Number_init ?a_Number_less ?i_Number_less ?l_Number_less ?c_Number_less ?k_Number_less ?a_Number_times ?i_Number_times ?l_Number_times ?c_Number_times ?k_Number_times ?a_Number_over ?i_Number_over ?l_Number_over ?c_Number_over ?k_Number_over ?a_Number_floor ?i_Number_floor ?l_Number_floor ?c_Number_floor ?k_Number_floor ?a_rounded ?l_rounded ?c_rounded ?k_rounded ?W_rounded ?a_round_paper ?l_round_paper ?c_round_paper ?k_round_paper ?W_round_paper ?a_place_of ?l_place_of ?c_place_of ?k_place_of ?a_by_up ?l_by_up ?c_by_up ?k_by_up ?a_by_down ?l_by_down ?c_by_down ?k_by_down ?a_by_high ?l_by_high ?c_by_high ?k_by_high ?a_by_low ?l_by_low ?c_by_low ?k_by_low ?a_by_half_up ?l_by_half_up ?c_by_half_up ?k_by_half_up ?a_by_half_down ?l_by_half_down ?c_by_half_down ?k_by_half_down ?a_by_half_even ?l_by_half_even ?c_by_half_even ?k_by_half_even ?a_by_half_odd ?l_by_half_odd ?c_by_half_odd ?k_by_half_odd ?a_nearer ?l_nearer ?c_nearer ?k_nearer ?a_l_deck ?l_l_deck ?c_l_deck ?k_l_deck ?a_l_draw ?l_l_draw ?c_l_draw ?k_l_draw ?a_l_grain ?l_l_grain ?c_l_grain ?k_l_grain ?a_l_told ?l_l_told ?c_l_told ?k_l_told ?a_l_half_due ?l_l_half_due ?c_l_half_due ?k_l_half_due ?a_law ?l_law ?c_law ?k_law ?a_gcd ?z_range ?z_isinstance ?z_str ?z_int ?z_list ?a_RULES ?l_RULES ?k_RULES ?r_by_up ?r_by_down ?r_by_high ?r_by_low ?r_by_half_up ?r_by_half_down ?r_by_half_even ?r_by_half_odd
    (case aC_Number => k_is)
    (case pg_Number => k_is)
    (case hd_Number => k_is)
    (case po_Number => k_is)
    (case sa_Number => k_is)
    (case nf_Number_top => k_is)
    (case nf_Number_bottom => k_is)
    (case tc_Number => k_is)
    (case tg_Number => k_is)
    (case tt_Number => k_is)
    (case tm_Number => k_is)
    (case nn_Number => k_is)
    (case mi_Number => k_is)
    (case kc_Number => k_is)
    (case a_Number_init => k_is)
    (case i_Number_init => k_is)
    (case l_Number_init => k_is)
    (case c_Number_init => k_is)
    (case k_Number_init => k_is)
    (case T_Number_init => k_is)
    (case a_Number_less => k_is)
    (case i_Number_less => k_is)
    (case l_Number_less => k_is)
    (case c_Number_less => k_is)
    (case k_Number_less => k_is)
    (case a_Number_times => k_is)
    (case i_Number_times => k_is)
    (case l_Number_times => k_is)
    (case c_Number_times => k_is)
    (case k_Number_times => k_is)
    (case a_Number_over => k_is)
    (case i_Number_over => k_is)
    (case l_Number_over => k_is)
    (case c_Number_over => k_is)
    (case k_Number_over => k_is)
    (case a_Number_floor => k_is)
    (case i_Number_floor => k_is)
    (case l_Number_floor => k_is)
    (case c_Number_floor => k_is)
    (case k_Number_floor => k_is)
    (case a_rounded => k_is)
    (case l_rounded => k_is)
    (case c_rounded => k_is)
    (case k_rounded => k_is)
    (case W_rounded => k_is)
    (case a_round_paper => k_is)
    (case l_round_paper => k_is)
    (case c_round_paper => k_is)
    (case k_round_paper => k_is)
    (case W_round_paper => k_is)
    (case a_place_of => k_is)
    (case l_place_of => k_is)
    (case c_place_of => k_is)
    (case k_place_of => k_is)
    (case a_by_up => k_is)
    (case l_by_up => k_is)
    (case c_by_up => k_is)
    (case k_by_up => k_is)
    (case a_by_down => k_is)
    (case l_by_down => k_is)
    (case c_by_down => k_is)
    (case k_by_down => k_is)
    (case a_by_high => k_is)
    (case l_by_high => k_is)
    (case c_by_high => k_is)
    (case k_by_high => k_is)
    (case a_by_low => k_is)
    (case l_by_low => k_is)
    (case c_by_low => k_is)
    (case k_by_low => k_is)
    (case a_by_half_up => k_is)
    (case l_by_half_up => k_is)
    (case c_by_half_up => k_is)
    (case k_by_half_up => k_is)
    (case a_by_half_down => k_is)
    (case l_by_half_down => k_is)
    (case c_by_half_down => k_is)
    (case k_by_half_down => k_is)
    (case a_by_half_even => k_is)
    (case l_by_half_even => k_is)
    (case c_by_half_even => k_is)
    (case k_by_half_even => k_is)
    (case a_by_half_odd => k_is)
    (case l_by_half_odd => k_is)
    (case c_by_half_odd => k_is)
    (case k_by_half_odd => k_is)
    (case a_nearer => k_is)
    (case l_nearer => k_is)
    (case c_nearer => k_is)
    (case k_nearer => k_is)
    (case a_l_deck => k_is)
    (case l_l_deck => k_is)
    (case c_l_deck => k_is)
    (case k_l_deck => k_is)
    (case a_l_draw => k_is)
    (case l_l_draw => k_is)
    (case c_l_draw => k_is)
    (case k_l_draw => k_is)
    (case a_l_grain => k_is)
    (case l_l_grain => k_is)
    (case c_l_grain => k_is)
    (case k_l_grain => k_is)
    (case a_l_told => k_is)
    (case l_l_told => k_is)
    (case c_l_told => k_is)
    (case k_l_told => k_is)
    (case a_l_half_due => k_is)
    (case l_l_half_due => k_is)
    (case c_l_half_due => k_is)
    (case k_l_half_due => k_is)
    (case a_law => k_is)
    (case l_law => k_is)
    (case c_law => k_is)
    (case k_law => k_is)
    (case a_gcd => k_is)
    (case z_range => k_is)
    (case z_isinstance => k_is)
    (case z_str => k_is)
    (case z_int => k_is)
    (case z_list => k_is)
    (case a_RULES => k_is)
    (case l_RULES => k_is)
    (case k_RULES => exact ⟨⟨_, _, rfl, rfl⟩, ⟨_, _, rfl, rfl⟩, ⟨_, _, rfl, rfl⟩, ⟨_, _, rfl, rfl⟩, ⟨_, _, rfl, rfl⟩, ⟨_, _, rfl, rfl⟩, ⟨_, _, rfl, rfl⟩, ⟨_, _, rfl, rfl⟩, trivial⟩)
    (case r_by_up => k_is)
    (case r_by_down => k_is)
    (case r_by_high => k_is)
    (case r_by_low => k_is)
    (case r_by_half_up => k_is)
    (case r_by_half_down => k_is)
    (case r_by_half_even => k_is)
    (case r_by_half_odd => k_is)
