import PyProof.Rows.All
import Wide.All
import OpenK.AllK
import Wide.FinOn
import HandS.ForMost
import HandS.Wide
import HandS.WideBits
import HandS.Dict
import HandS.OwnEq
import PyProof.SeqRoads2
import HandS.Gcd
import HandS.Defaults
import HandS.CallLocal
import HandS.Style
import HandS.IsInst
import HandS.More
import HandS.TupAny
import HandS.StrMore
import HandS.Codes
import HandS.FStr
import HandS.ForSpec
import HandS.ExcIs
import KE.KExcInit
import HandS.Conv
import HandS.Sort
import PyProof.IsiH_set
import PyProof.FactsAll.object
import PyProof.TableTree
import PyProof.FactsTree
import KE.KIsAll
import PyProof.LongRange
import PyProof.ListRange
import PyProof.EqKinds
import PyProof.Rows.IntBool
import PyProof.Rows.EqBoolInt
import PyProof.Rows.ReprOcc
import HandS.SortRule
import HandS.Zip
import HandS.SortKw
import HandS.SetFor
import KE.GoesMore
import PyProof.Rows.SumAny
import PySem.Challenge.RW_figuretexts_k65_sum_papers_of_any_hand

set_option Elab.async false
set_option linter.all false
set_option maxRecDepth 100000
set_option maxHeartbeats 4000000

namespace My
/-! numbers as Rat -/
def cdiv (t b : Int) : Int := if b < 0 then -((Nat.gcd t.natAbs b.natAbs : Nat) : Int) else ((Nat.gcd t.natAbs b.natAbs : Nat) : Int)
theorem gcd_pos {t b : Int} (h : b ≠ 0) : 0 < Nat.gcd t.natAbs b.natAbs := Nat.gcd_pos_of_pos_right _ (by omega)
theorem num_of {t b : Int} (h : b ≠ 0) : t.fdiv (cdiv t b) = (Rat.divInt t b).num := by
  have g := gcd_pos (t := t) h
  have d1 : ((Nat.gcd t.natAbs b.natAbs : Nat) : Int) ∣ t := Int.dvd_trans (Int.natCast_dvd_natCast.mpr (Nat.gcd_dvd_left _ _)) (Int.natAbs_dvd.mpr (Int.dvd_refl _))
  rw [Rat.num_divInt]
  have e : ((Int.gcd b t : Nat) : Int) = ((Nat.gcd t.natAbs b.natAbs : Nat) : Int) := by
    rw [Int.gcd_comm]; rfl
  rw [e]
  unfold cdiv
  obtain ⟨k, hk⟩ := d1
  have gn : ((Nat.gcd t.natAbs b.natAbs : Nat) : Int) ≠ 0 := by omega
  generalize ((Nat.gcd t.natAbs b.natAbs : Nat) : Int) = G at *
  subst hk
  by_cases hb : b < 0
  · rw [if_pos hb, Int.sign_eq_neg_one_of_neg hb]
    rw [show G * k = (-G) * (-k) by rw [Int.neg_mul_neg], Int.mul_fdiv_cancel_left _ (by omega)]
    rw [show -1 * (-G * -k) = G * (-k) by rw [Int.neg_mul_neg]; rw [Int.neg_one_mul, Int.mul_neg], Int.mul_ediv_cancel_left _ gn]
  · have hb' : 0 < b := by omega
    rw [if_neg hb, Int.sign_eq_one_of_pos hb', Int.one_mul, Int.mul_fdiv_cancel_left _ gn, Int.mul_ediv_cancel_left _ gn]
theorem den_of {t b : Int} (h : b ≠ 0) : b.fdiv (cdiv t b) = ((Rat.divInt t b).den : Int) := by
  have g := gcd_pos (t := t) h
  have d1 : ((Nat.gcd t.natAbs b.natAbs : Nat) : Int) ∣ b := Int.dvd_trans (Int.natCast_dvd_natCast.mpr (Nat.gcd_dvd_right _ _)) (Int.natAbs_dvd.mpr (Int.dvd_refl _))
  rw [Rat.den_divInt, if_neg h]
  have e : (Int.gcd b t : Nat) = (Nat.gcd t.natAbs b.natAbs : Nat) := by
    rw [Int.gcd_comm]; rfl
  rw [e, Int.natCast_ediv]
  unfold cdiv
  obtain ⟨k, hk⟩ := d1
  have gn : ((Nat.gcd t.natAbs b.natAbs : Nat) : Int) ≠ 0 := by omega
  have gp : 0 < ((Nat.gcd t.natAbs b.natAbs : Nat) : Int) := by omega
  generalize hG : ((Nat.gcd t.natAbs b.natAbs : Nat) : Int) = G at *
  by_cases hb : b < 0
  · rw [if_pos hb, show ((b.natAbs : Nat) : Int) = -b by omega]
    rw [hk, show G * k = (-G) * (-k) by rw [Int.neg_mul_neg], Int.mul_fdiv_cancel_left _ (by omega)]
    rw [show -(-G * -k) = G * (-k) by rw [Int.neg_mul_neg, Int.mul_neg], Int.mul_ediv_cancel_left _ gn]
  · rw [if_neg hb, show ((b.natAbs : Nat) : Int) = b by omega, hk, Int.mul_fdiv_cancel_left _ gn, Int.mul_ediv_cancel_left _ gn]

/-- top and bottom below 2 ^ n -/
def Bd (n : Nat) (q : Rat) : Prop := q.num.natAbs < 2 ^ n ∧ q.den < 2 ^ n
theorem Bd.mono {m n : Nat} {q : Rat} (h : Bd m q) (l : m ≤ n) : Bd n q :=
  ⟨Nat.lt_of_lt_of_le h.1 (Nat.pow_le_pow_right (by decide) l), Nat.lt_of_lt_of_le h.2 (Nat.pow_le_pow_right (by decide) l)⟩
theorem num_le (t b : Int) : (Rat.divInt t b).num.natAbs ≤ t.natAbs := by
  rw [Rat.num_divInt]
  refine Nat.le_trans (Int.natAbs_ediv_le_natAbs _ _) ?_
  rw [Int.natAbs_mul]
  rcases Int.lt_trichotomy b 0 with h | h | h
  · rw [Int.sign_eq_neg_one_of_neg h]; simp
  · subst h; simp
  · rw [Int.sign_eq_one_of_pos h]; simp
theorem den_le {t b : Int} (h : b ≠ 0) : (Rat.divInt t b).den ≤ b.natAbs := by
  rw [Rat.den_divInt, if_neg h]
  exact Nat.div_le_self _ _
theorem Bd.of {n : Nat} {t b : Int} (h : b ≠ 0) (ht : t.natAbs < 2 ^ n) (hb : b.natAbs < 2 ^ n) : Bd n (Rat.divInt t b) :=
  ⟨Nat.lt_of_le_of_lt (num_le t b) ht, Nat.lt_of_le_of_lt (den_le h) hb⟩
theorem den_ne (q : Rat) : ((q.den : Nat) : Int) ≠ 0 := by have := q.den_pos; omega
theorem sub_eq (x y : Rat) : Rat.divInt (x.num * (y.den : Int) - y.num * (x.den : Int)) ((x.den : Int) * (y.den : Int)) = x - y := by
  rw [Rat.sub_def', ← Int.natCast_mul, Rat.divInt_ofNat]
theorem add_eq (x y : Rat) : Rat.divInt (x.num * (y.den : Int) + y.num * (x.den : Int)) ((x.den : Int) * (y.den : Int)) = x + y := by
  rw [Rat.add_def', ← Int.natCast_mul, Rat.divInt_ofNat]
theorem mul_eq (x y : Rat) : Rat.divInt (x.num * y.num) ((x.den : Int) * (y.den : Int)) = x * y := by
  rw [Rat.mul_def', ← Int.natCast_mul, Rat.divInt_ofNat]
theorem div_eq (x y : Rat) : Rat.divInt (x.num * (y.den : Int)) ((x.den : Int) * y.num) = x / y := by
  rw [Rat.div_def, Rat.inv_def, ← Rat.divInt_mul_divInt, Rat.num_divInt_den]
theorem num_ne {y : Rat} (h : y ≠ 0) : y.num ≠ 0 := fun e => h (Rat.num_eq_zero.mp e)
theorem floor_eq (x : Rat) : x.num.fdiv (x.den : Int) = x.floor := by
  rw [Rat.floor_def, Int.fdiv_eq_ediv_of_nonneg _ (by omega)]
theorem natAbs_mul_lt {a b : Int} {m n k : Nat} (ha : a.natAbs < 2 ^ m) (hb : b.natAbs < 2 ^ n) (h : m + n ≤ k) : (a * b).natAbs < 2 ^ k := by
  rw [Int.natAbs_mul]
  exact Nat.lt_of_lt_of_le (Nat.mul_lt_mul'' ha hb) (by rw [← Nat.pow_add]; exact Nat.pow_le_pow_right (by decide) h)
theorem natAbs_sub_lt {a b : Int} {k : Nat} (ha : a.natAbs < 2 ^ k) (hb : b.natAbs < 2 ^ k) : (a - b).natAbs < 2 ^ (k + 1) := by
  rw [Nat.pow_succ]; omega
theorem natAbs_add_lt {a b : Int} {k : Nat} (ha : a.natAbs < 2 ^ k) (hb : b.natAbs < 2 ^ k) : (a + b).natAbs < 2 ^ (k + 1) := by
  rw [Nat.pow_succ]; omega
theorem Bd.sub {m n : Nat} {x y : Rat} (hx : Bd m x) (hy : Bd n y) : Bd (m + n + 1) (x - y) := by
  rw [← sub_eq]
  refine Bd.of (Int.mul_ne_zero (den_ne x) (den_ne y)) ?_ ?_
  · exact natAbs_sub_lt (natAbs_mul_lt (m := m) (n := n) hx.1 (by have := hy.2; omega) (Nat.le_refl _)) (natAbs_mul_lt (m := n) (n := m) hy.1 (by have := hx.2; omega) (by omega))
  · exact natAbs_mul_lt (m := m) (n := n) (by have := hx.2; omega) (by have := hy.2; omega) (by omega)
theorem Bd.mul {m n : Nat} {x y : Rat} (hx : Bd m x) (hy : Bd n y) : Bd (m + n) (x * y) := by
  rw [← mul_eq]
  exact Bd.of (Int.mul_ne_zero (den_ne x) (den_ne y)) (natAbs_mul_lt hx.1 hy.1 (Nat.le_refl _)) (natAbs_mul_lt (m := m) (n := n) (by have := hx.2; omega) (by have := hy.2; omega) (by omega))
theorem Bd.div {m n : Nat} {x y : Rat} (hx : Bd m x) (hy : Bd n y) (h : y ≠ 0) : Bd (m + n) (x / y) := by
  rw [← div_eq]
  exact Bd.of (Int.mul_ne_zero (den_ne x) (num_ne h)) (natAbs_mul_lt (m := m) (n := n) hx.1 (by have := hy.2; omega) (Nat.le_refl _)) (natAbs_mul_lt (m := m) (n := n) (by have := hx.2; omega) hy.1 (by omega))
theorem Bd.int {n : Nat} {i : Int} (h : i.natAbs < 2 ^ n) (h1 : 1 ≤ n) : Bd n (i : Rat) := ⟨h, by
  show 1 < 2 ^ n
  exact Nat.lt_of_lt_of_le (by decide) (Nat.pow_le_pow_right (by decide) h1)⟩
theorem floor_bd {n : Nat} {x : Rat} (h : Bd n x) : x.floor.natAbs < 2 ^ n := by
  rw [Rat.floor_def]
  exact Nat.lt_of_le_of_lt (Int.natAbs_ediv_le_natAbs _ _) h.1
theorem divInt_one (i : Int) : Rat.divInt i 1 = (i : Rat) := by
  have := Rat.divInt_ofNat i 1
  rw [show ((1 : Nat) : Int) = 1 from rfl] at this
  rw [this, Rat.mkRat_eq_div]; simp
  grind

/-! the ways -/
inductive Way where
  | up | down | high | low | hup | hdown | heven | hodd
def nearerB (part : Rat) (a : Bool) : Bool := if 2 * part.num = (part.den : Int) then a else decide ((part.den : Int) < 2 * part.num)
def ruleB : Way → Int → Rat → Bool
  | .up, l, _ => decide (0 ≤ l)
  | .down, l, _ => decide (l < 0)
  | .high, _, _ => true
  | .low, _, _ => false
  | .hup, l, p => nearerB p (decide (0 ≤ l))
  | .hdown, l, p => nearerB p (decide (l < 0))
  | .heven, l, p => nearerB p (decide (l % 2 = 1))
  | .hodd, l, p => nearerB p (decide (l % 2 = 0))
def partQ (n : Rat) : Rat := n - (n.floor : Rat)
def highQ (n : Rat) : Int := if (partQ n).num = 0 then n.floor else n.floor + 1
def takenQ (w : Way) (n : Rat) : Int := if (partQ n).num = 0 then n.floor else if ruleB w n.floor (partQ n) = true then n.floor + 1 else n.floor
theorem floor_add {c : Int} {f : Rat} (h0 : 0 ≤ f) (h1 : f < 1) : ((c : Rat) + f).floor = c := by
  have a : c ≤ ((c : Rat) + f).floor := Rat.le_floor_iff.mpr (by grind)
  have b : ((c : Rat) + f).floor < c + 1 := Rat.floor_lt_iff.mpr (by rw [Rat.intCast_add]; grind)
  omega
theorem part_add {c : Int} {f : Rat} (h0 : 0 ≤ f) (h1 : f < 1) : partQ ((c : Rat) + f) = f := by
  unfold partQ
  rw [floor_add h0 h1]
  grind
theorem taken_add {w : Way} {c : Int} {f : Rat} (h0 : 0 < f) (h1 : f < 1) : takenQ w ((c : Rat) + f) = if ruleB w c f = true then c + 1 else c := by
  unfold takenQ
  rw [part_add (Rat.le_of_lt h0) h1, floor_add (Rat.le_of_lt h0) h1, if_neg (num_ne (by grind))]
/-- a number of whole and part steps -/
theorem steps_eq {a b c p0 p1 : Int} (ha : a ≠ 0) (hb : b ≠ 0) (h1 : p1 ≠ 0) : Rat.divInt (a * (c * p1 + p0)) (b * p1) / Rat.divInt a b = (c : Rat) + Rat.divInt p0 p1 := by
  simp only [Rat.divInt_eq_div, Rat.intCast_mul, Rat.intCast_add]
  have ha' : (a : Rat) ≠ 0 := by simpa using ha
  have hb' : (b : Rat) ≠ 0 := by simpa using hb
  have h1' : (p1 : Rat) ≠ 0 := by simpa using h1
  grind
end My

namespace My
open PySem L2
/-! readings, one head at a time -/
section
variable {σ : L2.St} {H : Hp} {Q : VK} {QB : Bool → Hp → Prop} {QA : List V → Hp → Prop} {QS : L2.St → Hp → Prop} {v x y : V} {ta tb te tc : TE} {tr : TA} {t u : TS} {c d : TT} {g : TG} {i : Nat} {K : PySem.W.Frag} {b : Bool}
  {nx : L2.St → Hp → Prop} {rt : VK} {bk ct : L2.St → Hp → Prop}
theorem r_var (q : ∃ v, σ[i]? = some (some v) ∧ Q v H) : tVar i σ H Q := q
theorem r_c (q : Q v H) : tC v σ H Q := q
theorem r_op {r : R2} (q : ta σ H fun x H1 => tb σ H1 fun y H2 => r x y H2 Q) : tOp r ta tb σ H Q := q
theorem r_un {r : V → Hp → VK → Prop} (q : ta σ H fun x H1 => r x H1 Q) : tUn r ta σ H Q := q
theorem r_U {f : Int → V} {i : Int} (q : Q (f i) H) : rU f (.int i) H Q := ⟨i, rfl, q⟩
theorem r_I0 {f : Int → Int → V} {i j : Int} (q : Q (f i j) H) : rI0 f (.int i) (.int j) H Q := ⟨i, j, rfl, rfl, q⟩
theorem r_I {C : Int → Int → Prop} {f : Int → Int → V} {i j : Int} (h : C i j) (q : Q (f i j) H) : rI C f (.int i) (.int j) H Q := ⟨i, j, rfl, rfl, h, q⟩
theorem r_eq (h : scal x y = true) (q : Q (.bl (decide (x = y))) H) : rEq x y H Q := ⟨h, q⟩
theorem r_ne (h : scal x y = true) (q : Q (.bl (!decide (x = y))) H) : rNe x y H Q := ⟨h, q⟩
theorem r_eqI {i j : Int} (q : Q (.bl (decide (i = j))) H) : rEq (.int i) (.int j) H Q := ⟨rfl, by
  have e : decide (V.int i = V.int j) = decide (i = j) := by simp
  rw [e]; exact q⟩
theorem r_neI {i j : Int} (q : Q (.bl (!decide (i = j))) H) : rNe (.int i) (.int j) H Q := ⟨rfl, by
  have e : decide (V.int i = V.int j) = decide (i = j) := by simp
  rw [e]; exact q⟩
theorem r_eqS {i j : Str} (q : Q (.bl (decide (i = j))) H) : rEq (.str i) (.str j) H Q := ⟨rfl, by
  have e : decide (V.str i = V.str j) = decide (i = j) := by simp
  rw [e]; exact q⟩
theorem r_eqB {i j : Bool} (q : Q (.bl (decide (i = j))) H) : rEq (.bl i) (.bl j) H Q := ⟨rfl, by
  have e : decide (V.bl i = V.bl j) = decide (i = j) := by simp
  rw [e]; exact q⟩
theorem r_test (q : te σ H fun x H' => ∃ k, x = .bl k ∧ QB k H') : tTest te σ H QB := q
theorem r_B (q : te σ H fun x H' => ∃ k, x = .bl k ∧ QB k H') : tB te σ H QB := q
theorem r_k {P : Bool → Prop} (q : P b) : ∃ k, V.bl b = .bl k ∧ P k := ⟨b, rfl, q⟩
theorem r_and (q : c σ H fun b H1 => if b = true then d σ H1 QB else QB false H1) : tAnd c d σ H QB := q
theorem r_or (q : c σ H fun b H1 => if b = true then QB true H1 else d σ H1 QB) : tOr c d σ H QB := q
theorem r_not (q : c σ H fun b H1 => QB (!b) H1) : tNot c σ H QB := q
theorem r_andV (q : ta σ H fun x H1 => ∃ c, x = .bl c ∧ if c = true then tb σ H1 Q else Q (.bl false) H1) : tAndV ta tb σ H Q := q
theorem r_orV (q : ta σ H fun x H1 => ∃ c, x = .bl c ∧ if c = true then Q (.bl true) H1 else tb σ H1 Q) : tOrV ta tb σ H Q := q
theorem r_notV (q : ta σ H fun x H1 => ∃ c, x = .bl c ∧ Q (.bl (!c)) H1) : tNotV ta σ H Q := q
theorem r_if (q : c σ H fun b H1 => if b = true then ta σ H1 Q else tb σ H1 Q) : tIf c ta tb σ H Q := q
theorem r_seq (q : t ⟨u ⟨nx, rt, bk, ct⟩, rt, bk, ct⟩ σ H) : tSeq t u ⟨nx, rt, bk, ct⟩ σ H := q
theorem r_asg (q : te σ H fun x H1 => g x σ H1 nx) : tAsg te g ⟨nx, rt, bk, ct⟩ σ H := q
theorem r_name (q : QS (σ.set i (some v)) H) : gName i v σ H QS := q
theorem r_ifs (q : c σ H fun b H1 => if b = true then t ⟨nx, rt, bk, ct⟩ σ H1 else u ⟨nx, rt, bk, ct⟩ σ H1) : tIfS c t u ⟨nx, rt, bk, ct⟩ σ H := q
theorem r_ret (q : te σ H rt) : tRet te ⟨nx, rt, bk, ct⟩ σ H := q
theorem r_next (q : nx σ H) : tNext ⟨nx, rt, bk, ct⟩ σ H := q
theorem r_drop (q : te σ H fun _ H1 => nx σ H1) : tDrop te ⟨nx, rt, bk, ct⟩ σ H := q
theorem r_cons (q : te σ H fun x H1 => tr σ H1 fun xs H2 => QA (x :: xs) H2) : tCons te tr σ H QA := q
theorem r_nil (q : QA [] H) : tNil σ H QA := q
theorem r_tup (q : tr σ H fun xs H1 => xs.length ≤ sizeLine ∧ ∀ p, H1 p = none → Q (.ref p) (upd H1 p (.tup xs))) : tTup tr σ H Q := q
theorem r_lst (q : tr σ H fun xs H1 => xs.length ≤ sizeLine ∧ ∀ p, H1 p = none → Q (.ref p) (upd H1 p (.lst xs))) : tLst tr σ H Q := q
theorem r_new {n : Nat} {P : Prop} (h : n ≤ 1000) (q : P) : n ≤ sizeLine ∧ P := ⟨Nat.le_trans h (by decide), q⟩
theorem r_fldT {f : Str} (q : ta σ H fun x H1 => ∃ a C dx fs v, x = .ref a ∧ H1 a = some (.ins C dx fs) ∧ Cls K C ∧ NoAttr K C f ∧ fs.lookup f = some v ∧ Q v H1) : tFld K ta f σ H Q := q
theorem r_fld {f : Str} {p C dx : Addr} {fs : List (Str × V)} (h : H p = some (.ins C dx fs)) (k : Cls K C) (n : NoAttr K C f) (l : fs.lookup f = some v) {P : V → Prop} (q : P v) :
    ∃ a C dx fs v, V.ref p = .ref a ∧ H a = some (.ins C dx fs) ∧ Cls K C ∧ NoAttr K C f ∧ fs.lookup f = some v ∧ P v := ⟨p, C, dx, fs, v, rfl, h, k, n, l, q⟩
theorem r_sFld {f : Str} (q : te σ H fun y H1 => ta σ H1 fun x H2 => ∃ a C dx fs, x = .ref a ∧ H2 a = some (.ins C dx fs) ∧ Cls K C ∧ NoAttr K C f ∧ fs.length < 1000 ∧ nx σ (upd H2 a (.ins C dx (putF f y fs)))) : sFld K ta te f ⟨nx, rt, bk, ct⟩ σ H := q
theorem r_call {sp : Sp} {dvs : List V} {E : XK} (q : tr σ H fun vs H1 => sp (vs ++ dvs) H1 Q E) : tCall sp dvs E tr σ H Q := q
theorem r_CB {r : List V → Hp → VK → Prop} (q : tr σ H fun vs H1 => r vs H1 Q) : tCB r tr σ H Q := q
theorem r_meth {C : Addr} {m : Str} {sp : Sp} {dvs : List V} {E : XK} (q : ta σ H fun x H1 => ∃ a dx fs, x = .ref a ∧ H1 a = some (.ins C dx fs) ∧ fs.lookup m = none ∧ tr σ H1 fun vs H2 => sp (x :: (vs ++ dvs)) H2 Q E) : tMeth C m sp dvs E ta tr σ H Q := q
theorem r_meth1 {C : Addr} {m : Str} {P : Prop} {p dx : Addr} {fs : List (Str × V)} (h : H p = some (.ins C dx fs)) (l : fs.lookup m = none) (q : P) : ∃ a dx fs, V.ref p = .ref a ∧ H a = some (.ins C dx fs) ∧ fs.lookup m = none ∧ P := ⟨p, dx, fs, rfl, h, l, q⟩
theorem r_make {C : Addr} {sp : Sp} {dvs : List V} {E : XK} (q : tr σ H fun vs H1 => ∀ x dx, H1 x = none → H1 dx = none → dx ≠ x → sp (.ref x :: (vs ++ dvs)) (upd (upd H1 dx (.own x)) x (.ins C dx [])) (fun v H2 => v = .non ∧ Q (.ref x) H2) E) : tMake C sp dvs E tr σ H Q := q
theorem r_callN {n m : Nat} {sp : Sp} {gV : List V → List V → List V} {E : XK} {tk : TA} (q : tr σ H fun vs H1 => tk σ H1 fun zs H2 => vs.length = n ∧ zs.length = m ∧ sp (gV vs zs) H2 Q E) : tCallN n m sp gV E tr tk σ H Q := q
theorem r_ixT {p : Addr} {xs : List V} {i : Int} (h : H p = some (.tup xs)) (a : atI xs i = some v) (q : Q v H) : rIxT K (.ref p) (.int i) H Q := ⟨p, xs, i, v, rfl, rfl, SqT.of h, a, q⟩
theorem r_ixL {p : Addr} {xs : List V} {i : Int} (h : H p = some (.lst xs)) (a : atI xs i = some v) (q : Q v H) : rIxL K (.ref p) (.int i) H Q := ⟨p, xs, i, v, rfl, rfl, SqL.of h, a, q⟩
theorem r_isi {vs : List V} (q : rIsi K vs H Q) : rIsi K vs H Q := q
theorem r_ite {A B : Prop} {k : Bool} (h1 : k = true → A) (h2 : k = false → B) : if k = true then A else B := by
  cases k with
  | true => exact h1 rfl
  | false => exact h2 rfl
theorem r_iteT {A B : Prop} {k : Bool} (h : k = true) (q : A) : if k = true then A else B := by
  rw [if_pos h]; exact q
theorem r_iteF {A B : Prop} {k : Bool} (h : k = false) (q : B) : if k = true then A else B := by
  subst h; exact iteF q
end
/-! ### // by any number but nought -/
def CDivA (_ j : Int) : Prop := j ≠ 0 ∧ j.natAbs.log2 < 9000
theorem op_fdivA {X : Cx} : OpR X (binaryOp .FloorDiv) (rI CDivA fun i j => .int (i.fdiv j)) := opI fun i j _ _ _ _ _ hc q => PyProof.Rows.floordiv_int hc.1 q (.inl (PyProof.noPylong_of_log2 hc.2))
theorem cdivA {i j : Int} {b : Nat} (h : j ≠ 0) (hb : j.natAbs < 2 ^ b) (h0 : 0 < b) (h9 : b ≤ 9000) : CDivA i j := ⟨h, Nat.lt_of_lt_of_le (PySem.Flt.log2_lt_of h0 hb) h9⟩
/-! ### heaps but for two places -/
def Off (d c : Addr) (H H' : Hp) : Prop := ∀ b o, b ≠ d → b ≠ c → H b = some o → H' b = some o
theorem Off.refl (d c : Addr) (H : Hp) : Off d c H H := fun _ _ _ _ h => h
theorem Off.trans {d c : Addr} {H H1 H2 : Hp} (a : Off d c H H1) (b : Off d c H1 H2) : Off d c H H2 := fun x o h1 h2 h => b x o h1 h2 (a x o h1 h2 h)
theorem Off.of {d c : Addr} {H H' : Hp} (a : Same H H') : Off d c H H' := fun x o _ _ h => a x o h
theorem Same.new {H : Hp} {p : Addr} {o : HO} (h : H p = none) : Same H (upd H p o) := fun b u e => by
  rw [upd_ne (ne_of_none e h)]
  exact e
/-! ### more heads -/
section
variable {σ : L2.St} {H : Hp} {Q : VK} {QA : List V → Hp → Prop} {QS : L2.St → Hp → Prop} {QO : Option Int → Hp → Prop} {v x y : V} {te ta to ti : TE} {tr : TA} {tl th : TO} {K : PySem.W.Frag} {nx : L2.St → Hp → Prop} {rt : VK} {bk ct : L2.St → Hp → Prop}
theorem r_gsub {t : TSet} (q : to σ H fun o H1 => ti σ H1 fun i H2 => t o i v H2 fun H3 => QS σ H3) : gSub to ti t v σ H QS := q
theorem r_setL {p : Addr} {xs : List V} {k : Int} {j : Nat} {R : Hp → Prop} (h : H p = some (.lst xs)) (e : ixN xs.length k = some j) (q : R (upd H p (.lst (xs.set j v)))) : rSetL (.ref p) (.int k) v H R := ⟨p, xs, k, j, rfl, rfl, h, e, q⟩
theorem r_sl {r : V → Option Int → Option Int → Hp → VK → Prop} (q : te σ H fun x H1 => tl σ H1 fun l H2 => th σ H2 fun u H3 => r x l u H3 Q) : tSl r te tl th σ H Q := q
theorem r_noPart (q : QO none H) : tNoPart σ H QO := q
theorem r_part (q : te σ H fun x H1 => ∃ i, x = .int i ∧ QO (some i) H1) : tPart te σ H QO := q
theorem r_ki {P : Int → Prop} {i : Int} (q : P i) : ∃ k, V.int i = .int k ∧ P k := ⟨i, rfl, q⟩
theorem r_bm0 {T : String} {r : V → List V → Hp → VK → Prop} (q : te σ H fun x H1 => tyV K T x H1 ∧ r x [] H1 Q) : tBM0 K T r te σ H Q := q
theorem r_bm {T : String} {r : V → List V → Hp → VK → Prop} (q : te σ H fun x H1 => tyV K T x H1 ∧ tr σ H1 fun xs H2 => r x xs H2 Q) : tBM K T r te tr σ H Q := q
theorem r_rev (q : te σ H fun x H1 => ∃ a xs, x = .ref a ∧ SqL K H1 a xs ∧ ∀ p, H1 p = none → Q (.ref p) (upd H1 p (.lst xs.reverse))) : tRevL K te σ H Q := q
theorem ty_list {p : Addr} {xs : List V} (h : H p = some (.lst xs)) : tyV K "list" (.ref p) H := .inl ⟨rfl, _, SqL.of h⟩
theorem r_pop {p : Addr} {xs : List V} {y : V} (h : H p = some (.lst (xs ++ [y]))) (q : Q y (upd H p (.lst xs))) : rPop (.ref p) [] H Q := by
  refine ⟨p, xs ++ [y], y, rfl, rfl, h, by simp, ?_⟩
  rw [List.dropLast_concat]
  exact q
theorem r_append {p : Addr} {xs : List V} (h : H p = some (.lst xs)) (l : xs.length ≤ 1000) (q : Q .non (upd H p (.lst (xs ++ [y])))) : rAppend (.ref p) [y] H Q := ⟨p, xs, y, rfl, rfl, h, Nat.lt_of_le_of_lt l (by decide), q⟩
end
theorem dp_ints {K : PySem.W.Frag} {H : Hp} : ∀ xs : List Int, DpAll K H (xs.map V.int) (xs.map PyData.int)
  | [] => .nil
  | x :: xs => .cons (.int x) (dp_ints xs)
theorem lay_ints : ∀ xs : List Int, PyData.canLayAll0 (xs.map PyData.int) = true ∧ PyData.depthAll (xs.map PyData.int) = 0
  | [] => ⟨rfl, rfl⟩
  | x :: xs => by
    obtain ⟨a, b⟩ := lay_ints xs
    constructor
    · show (PyData.canLay0 (.int x) && PyData.canLayAll0 (xs.map PyData.int)) = true
      rw [a]; rfl
    · show max (PyData.depth (.int x)) (PyData.depthAll (xs.map PyData.int)) = 0
      rw [b]; rfl
theorem shaped_ints (xs : List Int) : SeqAt.shaped (.list (xs.map PyData.int)) = true := by
  obtain ⟨a, b⟩ := lay_ints xs
  have a' : PyData.canLay0 (.list (xs.map PyData.int)) = true := by rw [PyData.canLay0]; exact a
  have b' : PyData.depth (.list (xs.map PyData.int)) = 1 := by rw [PyData.depth, b]
  unfold SeqAt.shaped
  rw [a', b']; rfl
theorem eqv_ints : ∀ xs ys : List Int, PyData.eqvAll (xs.map PyData.int) (ys.map PyData.int) = decide (xs = ys)
  | [], [] => rfl
  | [], _ :: _ => by simp [PyData.eqvAll]
  | _ :: _, [] => by simp [PyData.eqvAll]
  | x :: xs, y :: ys => by
    show (PyData.eqv (.int x) (.int y) && PyData.eqvAll (xs.map PyData.int) (ys.map PyData.int)) = _
    rw [eqv_ints xs ys]
    show ((x == y) && decide (xs = ys)) = _
    rw [Bool.eq_iff_iff]; simp
theorem r_neInts {K : PySem.W.Frag} {H : Hp} {Q : VK} {p q : Addr} {xs ys : List Int} (h : SqL K H p (xs.map V.int)) (h' : SqL K H q (ys.map V.int)) (k : Q (.bl (!decide (xs = ys))) H) : rNeD K (.ref p) (.ref q) H Q :=
  ⟨.list (xs.map PyData.int), .list (ys.map PyData.int), .lst h (dp_ints xs), .lst h' (dp_ints ys), shaped_ints xs, shaped_ints ys, by
    rw [PyData.eqv, eqv_ints]; exact k⟩
theorem cut_ints (ns : List Int) (k : Int) : ∃ ms : List Int, cutV (ns.map V.int) none (some k) = ms.map V.int ∧ ms.length ≤ ns.length := by
  unfold cutV
  rw [← List.map_drop, ← List.map_take]
  exact ⟨_, rfl, by rw [List.length_take, List.length_drop]; omega⟩
end My
namespace My
open PySem L2
theorem r_forT {σ : L2.St} {H : Hp} {K : PySem.W.Frag} {tl : TE} {g : TG} {tb : TS} {D : Ends} (q : tl σ H fun x H1 => ∃ a, x = .ref a ∧ (∃ xs, SqT K H1 a xs) ∧ ∃ W : Nat → Nat → L2.St → Hp → Prop, (∃ m, W 0 m σ H1) ∧ ∀ i m σ H, W i m σ H →
    ((Itt K a).stop i H ∧ D.nx σ H) ∨ ((Itt K a).go i H ∧ ∃ N : L2.St → Hp → Prop, (∀ σ' H', N σ' H' → ∃ m', m' < m ∧ W (i + 1) m' σ' H') ∧ ∀ x H', (Itt K a).yld i H x H' → g x σ H' fun σ2 H2 => tb { D with nx := N, ct := N, bk := D.nx } σ2 H2)) : tFor (iTup K tl) g tb D σ H := q
end My

local macro_rules | `(tactic| walk_at "rd1") => `(tactic| first
  | with_reducible refine My.r_seq ?_
  | with_reducible refine My.r_asg ?_
  | with_reducible refine My.r_name ?_
  | with_reducible refine My.r_cons ?_
  | with_reducible refine My.r_nil ?_
  | with_reducible refine My.r_op ?_
  | ((with_reducible refine My.r_var ?_); refine ⟨_, rfl, ?_⟩)
  | with_reducible refine My.r_c ?_
  | with_reducible refine My.r_I0 ?_
  | with_reducible refine My.r_eqI ?_
  | with_reducible refine My.r_neI ?_
  | with_reducible refine My.r_eqS ?_
  | with_reducible refine My.r_eqB ?_
  | with_reducible refine My.r_test ?_
  | with_reducible refine My.r_B ?_
  | with_reducible refine My.r_k ?_
  | with_reducible refine My.r_un ?_
  | with_reducible refine My.r_U ?_
  | with_reducible refine My.r_ifs ?_
  | with_reducible refine My.r_ret ?_
  | with_reducible refine My.r_next ?_
  | with_reducible refine My.r_drop ?_
  | with_reducible refine My.r_CB ?_
  | with_reducible refine My.r_call ?_
  | with_reducible refine My.r_callN ?_
  | with_reducible refine My.r_meth ?_
  | with_reducible refine My.r_make ?_
  | with_reducible refine My.r_tup ?_
  | with_reducible refine My.r_lst ?_
  | with_reducible refine My.r_fldT ?_
  | with_reducible refine My.r_sFld ?_
  | with_reducible refine My.r_and ?_
  | with_reducible refine My.r_or ?_
  | with_reducible refine My.r_not ?_
  | with_reducible refine My.r_andV ?_
  | with_reducible refine My.r_orV ?_
  | with_reducible refine My.r_notV ?_
  | with_reducible refine My.r_if ?_
  | with_reducible refine My.r_gsub ?_
  | with_reducible refine My.r_sl ?_
  | with_reducible refine My.r_noPart ?_
  | with_reducible refine My.r_part ?_
  | with_reducible refine My.r_ki ?_
  | with_reducible refine My.r_bm0 ?_
  | with_reducible refine My.r_bm ?_
  | with_reducible refine My.r_rev ?_
  | ((with_reducible refine My.r_I ?_ ?_); (first | decide | exact .inl ⟨by decide, by decide⟩ | exact .inr ⟨by decide, by decide⟩ | exact ⟨by decide, by decide⟩ | exact ⟨by decide, by decide, by decide⟩)))
local macro_rules | `(tactic| walk_at "rd") => `(tactic| (repeat walk_at "rd1"))


namespace My
/-! ### rounded twice -/
def isHalf : Way → Bool
  | .heven | .hodd | .hup | .hdown => true
  | _ => false
/-- at the middle beyond l: whether up -/
def tieUp : Way → Int → Bool
  | .hup, l => decide (0 ≤ l)
  | .hdown, l => decide (l < 0)
  | .heven, l => decide (l % 2 = 1)
  | .hodd, l => decide (l % 2 = 0)
  | _, _ => false
theorem nearerB_lo {p : Rat} {a : Bool} (h : p < 1 / 2) : nearerB p a = false := by
  have d := p.den_pos
  have e : p.num * 2 < 1 * (p.den : Int) := by
    have := (Rat.lt_iff p (1 / 2)).mp h
    have h1 : ((1 : Rat) / 2).num = 1 := by decide +kernel
    have h2 : ((1 : Rat) / 2).den = 2 := by decide +kernel
    rw [h1, h2] at this
    exact this
  unfold nearerB
  rw [if_neg (by omega)]
  exact decide_eq_false (by omega)
theorem nearerB_hi {p : Rat} {a : Bool} (h : 1 / 2 < p) : nearerB p a = true := by
  have d := p.den_pos
  have e : 1 * (p.den : Int) < p.num * 2 := by
    have := (Rat.lt_iff (1 / 2) p).mp h
    have h1 : ((1 : Rat) / 2).num = 1 := by decide +kernel
    have h2 : ((1 : Rat) / 2).den = 2 := by decide +kernel
    rw [h1, h2] at this
    exact this
  unfold nearerB
  rw [if_neg (by omega)]
  exact decide_eq_true (by omega)
theorem nearerB_mid (a : Bool) : nearerB (1 / 2) a = a := by cases a <;> decide +kernel
theorem ruleB_lo {r : Way} (h : isHalf r = true) (l : Int) {p : Rat} (hp : p < 1 / 2) : ruleB r l p = false := by
  cases r <;> first | exact absurd h (by decide) | exact nearerB_lo hp
theorem ruleB_hi {r : Way} (h : isHalf r = true) (l : Int) {p : Rat} (hp : 1 / 2 < p) : ruleB r l p = true := by
  cases r <;> first | exact absurd h (by decide) | exact nearerB_hi hp
theorem ruleB_mid {r : Way} (h : isHalf r = true) (l : Int) : ruleB r l (1 / 2) = tieUp r l := by
  cases r <;> first | exact absurd h (by decide) | exact nearerB_mid _
theorem taken_int (r : Way) (c : Int) : takenQ r (c : Rat) = c := by
  have e : partQ (c : Rat) = 0 := by unfold partQ; rw [Rat.floor_intCast]; grind
  unfold takenQ
  rw [e, Rat.floor_intCast]
  rfl
/-- nearer than a half -/
theorem taken_near {r : Way} (h : isHalf r = true) {n : Rat} {t : Int} (h1 : (t : Rat) - 1 / 2 < n) (h2 : n < (t : Rat) + 1 / 2) : takenQ r n = t := by
  by_cases h0 : n = (t : Rat)
  · rw [h0]
    exact taken_int r t
  · by_cases hp : (t : Rat) < n
    · have e : n = (t : Rat) + (n - t) := by grind
      rw [e, taken_add (by grind) (by grind), ruleB_lo h t (by grind)]
      rfl
    · have e : n = ((t - 1 : Int) : Rat) + (n - t + 1) := by rw [Rat.intCast_sub]; grind
      rw [e, taken_add (by grind) (by grind), ruleB_hi h (t - 1) (by grind)]
      show t - 1 + 1 = t
      omega
theorem taken_mid {r : Way} (h : isHalf r = true) (l : Int) : takenQ r ((l : Rat) + 1 / 2) = if tieUp r l = true then l + 1 else l := by
  rw [taken_add (by decide +kernel) (by decide +kernel), ruleB_mid h l]
/-- every number is near one, or in the middle -/
theorem near_or_mid (n : Rat) : (∃ t : Int, (t : Rat) - 1 / 2 < n ∧ n < (t : Rat) + 1 / 2) ∨ ∃ l : Int, n = (l : Rat) + 1 / 2 := by
  have a := Rat.floor_le n
  have b := Rat.lt_floor_add_one n
  rw [Rat.intCast_add] at b
  by_cases h : n = (n.floor : Rat) + 1 / 2
  · exact .inr ⟨_, h⟩
  · by_cases h2 : n < (n.floor : Rat) + 1 / 2
    · exact .inl ⟨n.floor, by grind, h2⟩
    · exact .inl ⟨n.floor + 1, by rw [Rat.intCast_add]; grind, by rw [Rat.intCast_add]; grind⟩
def twiceT (r : Way) (m : Int) (u : Rat) : Int := takenQ r ((takenQ r u : Rat) / (m : Rat))
def onceT (r : Way) (m : Int) (u : Rat) : Int := takenQ r (u / (m : Rat))
theorem div_near {r : Way} (h : isHalf r = true) {m : Int} (hm : 0 < m) {s : Int} {n : Rat} (h1 : (s : Rat) * m - (m : Rat) / 2 < n) (h2 : n < (s : Rat) * m + (m : Rat) / 2) : takenQ r (n / (m : Rat)) = s := by
  have hm' : (0 : Rat) < (m : Rat) := Rat.intCast_pos.mpr hm
  refine taken_near h ?_ ?_
  · exact (Rat.lt_div_iff hm').mpr (by grind)
  · exact (Rat.div_lt_iff hm').mpr (by grind)
theorem div_mid {r : Way} (h : isHalf r = true) {m : Int} (hm : 0 < m) {s : Int} {n : Rat} (h1 : n = (s : Rat) * m + (m : Rat) / 2) : takenQ r (n / (m : Rat)) = if tieUp r s = true then s + 1 else s := by
  have hm' : (m : Rat) ≠ 0 := by have : (0 : Rat) < (m : Rat) := Rat.intCast_pos.mpr hm; grind
  rw [← taken_mid h s, h1]
  congr 1
  grind
theorem split_odd (j h : Int) (h0 : 0 ≤ h) : ∃ s e : Int, j = s * (2 * h + 1) + e ∧ -h ≤ e ∧ e ≤ h := by
  refine ⟨(j + h) / (2 * h + 1), (j + h) % (2 * h + 1) - h, ?_, ?_, ?_⟩
  · have := Int.mul_ediv_add_emod (j + h) (2 * h + 1)
    rw [Int.mul_comm] at this
    omega
  · have := Int.emod_nonneg (j + h) (b := 2 * h + 1) (by omega)
    omega
  · have := Int.emod_lt_of_pos (j + h) (b := 2 * h + 1) (by omega)
    omega
/-- by an odd number of steps -/
theorem never_odd {r : Way} (hr : isHalf r = true) {h : Int} (h0 : 0 ≤ h) (tie : ∀ s : Int, tieUp r (s * (2 * h + 1) + h) = tieUp r s) (u : Rat) : twiceT r (2 * h + 1) u = onceT r (2 * h + 1) u := by
  have hm : 0 < 2 * h + 1 := by omega
  have c : (((2 * h + 1 : Int)) : Rat) = 2 * (h : Rat) + 1 := by rw [Rat.intCast_add, Rat.intCast_mul]; rfl
  have hq : (0 : Rat) ≤ (h : Rat) := Rat.intCast_nonneg.mpr h0
  unfold twiceT onceT
  rcases near_or_mid u with ⟨j, h1, h2⟩ | ⟨l, hl⟩
  · obtain ⟨s, e, ej, e1, e2⟩ := split_odd j h h0
    have q1 : -(h : Rat) ≤ (e : Rat) := by have := Rat.intCast_le_intCast.mpr e1; rw [Rat.intCast_neg] at this; exact this
    have q2 : (e : Rat) ≤ (h : Rat) := Rat.intCast_le_intCast.mpr e2
    have ejq : (j : Rat) = (s : Rat) * (2 * (h : Rat) + 1) + (e : Rat) := by rw [ej, Rat.intCast_add, Rat.intCast_mul, c]
    rw [taken_near hr h1 h2, div_near hr hm (s := s) (by rw [c]; grind) (by rw [c]; grind), div_near hr hm (s := s) (by rw [c]; grind) (by rw [c]; grind)]
  · obtain ⟨s, e, ej, e1, e2⟩ := split_odd l h h0
    have q1 : -(h : Rat) ≤ (e : Rat) := by have := Rat.intCast_le_intCast.mpr e1; rw [Rat.intCast_neg] at this; exact this
    have ejq : (l : Rat) = (s : Rat) * (2 * (h : Rat) + 1) + (e : Rat) := by rw [ej, Rat.intCast_add, Rat.intCast_mul, c]
    subst hl
    rw [taken_mid hr l]
    by_cases he : e = h
    · subst he
      rw [ej, tie s]
      rw [div_mid hr hm (s := s) (n := ((s * (2 * e + 1) + e : Int) : Rat) + 1 / 2) (by rw [← ej, ejq, c]; grind)]
      cases tieUp r s with
      | true =>
        rw [if_pos rfl, if_pos rfl]
        exact div_near hr hm (by simp only [Rat.intCast_add, Rat.intCast_mul, Rat.intCast_sub, Rat.intCast_ofNat, Rat.intCast_one]; grind) (by simp only [Rat.intCast_add, Rat.intCast_mul, Rat.intCast_sub, Rat.intCast_ofNat, Rat.intCast_one]; grind)
      | false =>
        rw [if_neg Bool.false_ne_true, if_neg Bool.false_ne_true]
        exact div_near hr hm (by simp only [Rat.intCast_add, Rat.intCast_mul, Rat.intCast_sub, Rat.intCast_ofNat, Rat.intCast_one]; grind) (by simp only [Rat.intCast_add, Rat.intCast_mul, Rat.intCast_sub, Rat.intCast_ofNat, Rat.intCast_one]; grind)
    · have q2 : (e : Rat) + 1 ≤ (h : Rat) := by
        have := Rat.intCast_le_intCast.mpr (show e + 1 ≤ h by omega)
        rw [Rat.intCast_add] at this
        exact this
      rw [div_near hr hm (s := s) (n := (l : Rat) + 1 / 2) (by rw [c]; grind) (by rw [c]; grind)]
      split
      · exact div_near hr hm (by simp only [Rat.intCast_add, Rat.intCast_mul, Rat.intCast_sub, Rat.intCast_ofNat, Rat.intCast_one]; grind) (by simp only [Rat.intCast_add, Rat.intCast_mul, Rat.intCast_sub, Rat.intCast_ofNat, Rat.intCast_one]; grind)
      · exact div_near hr hm (by rw [c]; grind) (by rw [c]; grind)
/-! ### the ways that look at no halves -/
theorem low_eq (n : Rat) : takenQ .low n = n.floor := by
  unfold takenQ
  split <;> rfl
theorem part_zero {n : Rat} : (partQ n).num = 0 ↔ n = (n.floor : Rat) := by
  rw [Rat.num_eq_zero]
  unfold partQ
  constructor <;> intro h <;> grind
/-- the greater neighbour is told by inequalities -/
theorem high_of {n : Rat} {t : Int} (h1 : (t : Rat) - 1 < n) (h2 : n ≤ (t : Rat)) : takenQ .high n = t := by
  have a := Rat.floor_le n
  have b := Rat.lt_floor_add_one n
  rw [Rat.intCast_add] at b
  unfold takenQ
  by_cases h : n = (n.floor : Rat)
  · rw [if_pos (part_zero.mpr h)]
    have x1 : n.floor < t + 1 := Rat.intCast_lt_intCast.mp (by rw [Rat.intCast_add]; grind)
    have x2 : t - 1 < n.floor := Rat.intCast_lt_intCast.mp (by rw [Rat.intCast_sub]; grind)
    omega
  · rw [if_neg (fun z => h (part_zero.mp z)), if_pos (show ruleB .high n.floor (partQ n) = true from rfl)]
    have x1 : n.floor < t := Rat.intCast_lt_intCast.mp (by grind)
    have x2 : t - 1 < n.floor + 1 := Rat.intCast_lt_intCast.mp (by rw [Rat.intCast_sub, Rat.intCast_add]; grind)
    omega
theorem high_is (n : Rat) : (takenQ .high n : Rat) - 1 < n ∧ n ≤ (takenQ .high n : Rat) := by
  have a := Rat.floor_le n
  have b := Rat.lt_floor_add_one n
  rw [Rat.intCast_add] at b
  unfold takenQ
  by_cases h : n = (n.floor : Rat)
  · rw [if_pos (part_zero.mpr h)]
    grind
  · rw [if_neg (fun z => h (part_zero.mp z)), if_pos (show ruleB .high n.floor (partQ n) = true from rfl), Rat.intCast_add]
    grind
theorem low_of {n : Rat} {t : Int} (h1 : (t : Rat) ≤ n) (h2 : n < (t : Rat) + 1) : takenQ .low n = t := by
  rw [low_eq]
  have x1 : t ≤ n.floor := Rat.le_floor_iff.mpr h1
  have x2 : n.floor < t + 1 := Rat.floor_lt_iff.mpr (by rw [Rat.intCast_add]; exact h2)
  omega
theorem up_eq (n : Rat) : takenQ .up n = if 0 ≤ n.floor then takenQ .high n else takenQ .low n := by
  unfold takenQ
  by_cases h : (partQ n).num = 0
  · rw [if_pos h, if_pos h, if_pos h]; split <;> rfl
  · rw [if_neg h, if_neg h, if_neg h]
    show (if decide (0 ≤ n.floor) = true then _ else _) = _
    by_cases z : 0 ≤ n.floor
    · rw [if_pos (decide_eq_true z), if_pos z]; rfl
    · rw [if_neg (by simpa using z), if_neg z]; rfl
theorem down_eq (n : Rat) : takenQ .down n = if n.floor < 0 then takenQ .high n else takenQ .low n := by
  unfold takenQ
  by_cases h : (partQ n).num = 0
  · rw [if_pos h, if_pos h, if_pos h]; split <;> rfl
  · rw [if_neg h, if_neg h, if_neg h]
    show (if decide (n.floor < 0) = true then _ else _) = _
    by_cases z : n.floor < 0
    · rw [if_pos (decide_eq_true z), if_pos z]; rfl
    · rw [if_neg (by simpa using z), if_neg z]; rfl
theorem low_is (n : Rat) : (takenQ .low n : Rat) ≤ n ∧ n < (takenQ .low n : Rat) + 1 := by
  rw [low_eq]
  have b := Rat.lt_floor_add_one n
  rw [Rat.intCast_add] at b
  exact ⟨Rat.floor_le n, b⟩
/-- of a whole number of steps: by wholes alone -/
theorem low_div {m : Int} (hm : 0 < m) (u : Rat) : takenQ .low ((takenQ .low u : Rat) / (m : Rat)) = takenQ .low (u / (m : Rat)) := by
  have hm' : (0 : Rat) < (m : Rat) := Rat.intCast_pos.mpr hm
  obtain ⟨a, b⟩ := low_is (u / (m : Rat))
  obtain ⟨c, d⟩ := low_is u
  generalize takenQ .low (u / (m : Rat)) = t at *
  generalize takenQ .low u = j at *
  have e : u / (m : Rat) * m = u := by grind
  have a' : (t : Rat) * m ≤ u := by rw [← e]; exact Rat.mul_le_mul_of_nonneg_right a (Rat.le_of_lt hm')
  have b' : u < ((t : Rat) + 1) * m := by rw [← e]; exact Rat.mul_lt_mul_of_pos_right b hm'
  have x1 : t * m < j + 1 := Rat.intCast_lt_intCast.mp (by rw [Rat.intCast_add, Rat.intCast_mul]; grind)
  have x2 : j < (t + 1) * m := Rat.intCast_lt_intCast.mp (by rw [Rat.intCast_mul, Rat.intCast_add]; grind)
  have y1 : (t : Rat) * m ≤ (j : Rat) := by rw [← Rat.intCast_mul]; exact Rat.intCast_le_intCast.mpr (by omega)
  have y2 : (j : Rat) < ((t : Rat) + 1) * m := by have := Rat.intCast_lt_intCast.mpr x2; rw [Rat.intCast_mul, Rat.intCast_add] at this; exact this
  refine low_of ?_ ((Rat.div_lt_iff hm').mpr y2)
  have := (Rat.not_lt (a := (j : Rat) / m) (b := (t : Rat))).mp (fun z => by
    have := (Rat.div_lt_iff hm').mp z
    grind)
  exact this
theorem high_div {m : Int} (hm : 0 < m) (u : Rat) : takenQ .high ((takenQ .high u : Rat) / (m : Rat)) = takenQ .high (u / (m : Rat)) := by
  have hm' : (0 : Rat) < (m : Rat) := Rat.intCast_pos.mpr hm
  obtain ⟨a, b⟩ := high_is (u / (m : Rat))
  obtain ⟨c, d⟩ := high_is u
  generalize takenQ .high (u / (m : Rat)) = t at *
  generalize takenQ .high u = j at *
  have e : u / (m : Rat) * m = u := by grind
  have a' : ((t : Rat) - 1) * m < u := by rw [← e]; exact Rat.mul_lt_mul_of_pos_right a hm'
  have b' : u ≤ (t : Rat) * m := by rw [← e]; exact Rat.mul_le_mul_of_nonneg_right b (Rat.le_of_lt hm')
  have x1 : (t - 1) * m < j := Rat.intCast_lt_intCast.mp (by rw [Rat.intCast_mul, Rat.intCast_sub]; grind)
  have x2 : j - 1 < t * m := Rat.intCast_lt_intCast.mp (by rw [Rat.intCast_sub, Rat.intCast_mul]; grind)
  have y1 : ((t : Rat) - 1) * m < (j : Rat) := by have := Rat.intCast_lt_intCast.mpr x1; rw [Rat.intCast_mul, Rat.intCast_sub] at this; exact this
  have y2 : (j : Rat) ≤ (t : Rat) * m := by rw [← Rat.intCast_mul]; exact Rat.intCast_le_intCast.mpr (by omega)
  refine high_of ((Rat.lt_div_iff hm').mpr y1) ?_
  exact (Rat.not_lt (a := (t : Rat)) (b := (j : Rat) / m)).mp (fun z => by
    have := (Rat.lt_div_iff hm').mp z
    grind)
theorem floor_nn {n : Rat} : 0 ≤ n.floor ↔ 0 ≤ n := by
  rw [Rat.le_floor_iff]; rfl
theorem div_nn {m : Int} (hm : 0 < m) {n : Rat} : 0 ≤ n / (m : Rat) ↔ 0 ≤ n := by
  have hm' : (0 : Rat) < (m : Rat) := Rat.intCast_pos.mpr hm
  constructor
  · intro h
    have e : n / (m : Rat) * m = n := by grind
    rw [← e]
    exact Rat.mul_nonneg h (Rat.le_of_lt hm')
  · intro h
    exact (Rat.not_lt).mp (fun z => by
      have := (Rat.div_lt_iff hm').mp z
      grind)
theorem never_whole {r : Way} (hr : isHalf r = false) {m : Int} (hm : 0 < m) (u : Rat) : twiceT r m u = onceT r m u := by
  unfold twiceT onceT
  cases r with
  | hup => cases hr
  | hdown => cases hr
  | heven => cases hr
  | hodd => cases hr
  | low => exact low_div hm u
  | high => exact high_div hm u
  | up =>
    obtain ⟨c, d⟩ := high_is u
    obtain ⟨c2, d2⟩ := low_is u
    by_cases h : 0 ≤ u
    · have hj : (0 : Rat) ≤ (takenQ .high u : Rat) := Rat.le_trans h d
      rw [up_eq u, if_pos (floor_nn.mpr h), up_eq, if_pos (floor_nn.mpr ((div_nn hm).mpr hj)), up_eq, if_pos (floor_nn.mpr ((div_nn hm).mpr h)), high_div hm]
    · have hj : ¬ (0 : Rat) ≤ (takenQ .low u : Rat) := fun z => h (Rat.le_trans z c2)
      rw [up_eq u, if_neg (fun z => h (floor_nn.mp z)), up_eq, if_neg (fun z => hj ((div_nn hm).mp (floor_nn.mp z))), up_eq, if_neg (fun z => h ((div_nn hm).mp (floor_nn.mp z))), low_div hm]
  | down =>
    obtain ⟨c, d⟩ := high_is u
    obtain ⟨c2, d2⟩ := low_is u
    have neg : ∀ n : Rat, n.floor < 0 ↔ ¬ 0 ≤ n := fun n => by
      rw [← floor_nn]
      omega
    by_cases h : 0 ≤ u
    · have j0 : 0 ≤ takenQ .low u := by rw [low_eq]; exact floor_nn.mpr h
      have hj : (0 : Rat) ≤ (takenQ .low u : Rat) := Rat.intCast_nonneg.mpr j0
      rw [down_eq u, if_neg (fun z => (neg u).mp z h), down_eq, if_neg (fun z => (neg _).mp z ((div_nn hm).mpr hj)), down_eq, if_neg (fun z => (neg _).mp z ((div_nn hm).mpr h)), low_div hm]
    · rw [down_eq u, if_pos ((neg u).mpr h), down_eq (u / (m : Rat)), if_pos ((neg _).mpr fun z => h ((div_nn hm).mp z)), ← high_div hm u]
      by_cases hj : 0 ≤ (takenQ .high u : Rat)
      · have e0 : takenQ .high u = 0 := by
          have x1 : 0 ≤ takenQ .high u := Rat.intCast_nonneg.mp hj
          have x2 : takenQ .high u - 1 < 0 := Rat.intCast_neg_iff.mp (by rw [Rat.intCast_sub]; grind)
          omega
        rw [e0]
        have e1 : ((0 : Int) : Rat) / (m : Rat) = ((0 : Int) : Rat) := by grind
        rw [e1, taken_int, taken_int]
      · rw [down_eq, if_pos ((neg _).mpr fun z => hj ((div_nn hm).mp z))]
/-! ### the three numbers that are tried -/
def partsW (r : Way) (m : Int) : Bool := isHalf r && (decide (m % 2 = 0) || ((match r with | .heven => true | .hodd => true | _ => false) && decide (m % 4 = 3)))
def candU (m : Int) : List Rat := [(m : Rat) / 2 - 1 / 4, (m : Rat) / 2, (m : Rat) / 2 + 1 / 4]
theorem never_of {r : Way} {m : Int} (hm : 2 ≤ m) (h : partsW r m = false) (u : Rat) : twiceT r m u = onceT r m u := by
  cases hr : isHalf r with
  | false => exact never_whole hr (by omega) u
  | true =>
    have hodd : m % 2 = 1 := by
      by_cases z : m % 2 = 0
      · unfold partsW at h
        rw [hr, decide_eq_true z] at h
        cases h
      · omega
    obtain ⟨k, rfl⟩ : ∃ k, m = 2 * k + 1 := ⟨m / 2, by omega⟩
    refine never_odd hr (by omega) (fun s => ?_) u
    have key : s * (2 * k + 1) + k = 2 * (s * k) + s + k := by grind
    cases r with
    | up => cases hr
    | down => cases hr
    | high => cases hr
    | low => cases hr
    | hup =>
      show decide (0 ≤ s * (2 * k + 1) + k) = decide (0 ≤ s)
      rw [decide_eq_decide]
      constructor
      · intro z
        by_cases q : 0 ≤ s
        · exact q
        · have : s * (2 * k + 1) ≤ -1 * (2 * k + 1) := Int.mul_le_mul_of_nonneg_right (by omega) (by omega)
          omega
      · intro z
        have := Int.mul_nonneg z (show 0 ≤ 2 * k + 1 by omega)
        omega
    | hdown =>
      show decide (s * (2 * k + 1) + k < 0) = decide (s < 0)
      rw [decide_eq_decide]
      constructor
      · intro z
        by_cases q : s < 0
        · exact q
        · have := Int.mul_nonneg (show 0 ≤ s by omega) (show 0 ≤ 2 * k + 1 by omega)
          omega
      · intro z
        have : s * (2 * k + 1) ≤ -1 * (2 * k + 1) := Int.mul_le_mul_of_nonneg_right (by omega) (by omega)
        omega
    | heven =>
      have h4 : ¬ (2 * k + 1) % 4 = 3 := fun z => by
        unfold partsW at h
        rw [decide_eq_true z, Bool.and_true, Bool.or_true] at h
        cases h
      show decide ((s * (2 * k + 1) + k) % 2 = 1) = decide (s % 2 = 1)
      rw [decide_eq_decide, key]
      omega
    | hodd =>
      have h4 : ¬ (2 * k + 1) % 4 = 3 := fun z => by
        unfold partsW at h
        rw [decide_eq_true z, Bool.and_true, Bool.or_true] at h
        cases h
      show decide ((s * (2 * k + 1) + k) % 2 = 0) = decide (s % 2 = 0)
      rw [decide_eq_decide, key]
      omega
theorem some_of {r : Way} {m : Int} (hm : 2 ≤ m) (h : partsW r m = true) : ∃ u ∈ candU m, twiceT r m u ≠ onceT r m u := by
  have hr : isHalf r = true := by
    unfold partsW at h
    exact (Bool.and_eq_true_iff.mp h).1
  have hmq : (2 : Rat) ≤ (m : Rat) := by have := Rat.intCast_le_intCast.mpr hm; exact this
  unfold twiceT onceT
  by_cases z : m % 2 = 0
  · obtain ⟨k, rfl⟩ : ∃ k, m = 2 * k := ⟨m / 2, by omega⟩
    have c : (((2 * k : Int)) : Rat) = 2 * (k : Rat) := by rw [Rat.intCast_mul]; rfl
    have hk : (1 : Rat) ≤ (k : Rat) := by have := Rat.intCast_le_intCast.mpr (show 1 ≤ k by omega); exact this
    have c0 : ((0 : Int) : Rat) = 0 := rfl
    have c1 : ((1 : Int) : Rat) = 1 := rfl
    have e1 : takenQ r ((((2 * k : Int)) : Rat) / 2 - 1 / 4) = k := taken_near hr (by rw [c]; grind) (by rw [c]; grind)
    have e3 : takenQ r ((((2 * k : Int)) : Rat) / 2 + 1 / 4) = k := taken_near hr (by rw [c]; grind) (by rw [c]; grind)
    have ek : takenQ r ((k : Rat) / ((2 * k : Int) : Rat)) = if tieUp r 0 = true then 0 + 1 else 0 := div_mid hr (by omega) (by rw [c, c0]; grind)
    cases t : tieUp r 0 with
    | true =>
      refine ⟨_, List.mem_cons_self, ?_⟩
      rw [e1, ek, t, if_pos rfl, div_near hr (by omega) (s := 0) (by rw [c, c0]; grind) (by rw [c, c0]; grind)]
      decide
    | false =>
      refine ⟨_, List.mem_cons_of_mem _ (List.mem_cons_of_mem _ List.mem_cons_self), ?_⟩
      rw [e3, ek, t, if_neg Bool.false_ne_true, div_near hr (by omega) (s := 1) (by rw [c, c1]; grind) (by rw [c, c1]; grind)]
      decide
  · obtain ⟨k, rfl⟩ : ∃ k, m = 2 * k + 1 := ⟨m / 2, by omega⟩
    have c : (((2 * k + 1 : Int)) : Rat) = 2 * (k : Rat) + 1 := by rw [Rat.intCast_add, Rat.intCast_mul]; rfl
    have hk : (1 : Rat) ≤ (k : Rat) := by have := Rat.intCast_le_intCast.mpr (show 1 ≤ k by omega); exact this
    have c0 : ((0 : Int) : Rat) = 0 := rfl
    have c1 : ((1 : Int) : Rat) = 1 := rfl
    have e2 : takenQ r ((((2 * k + 1 : Int)) : Rat) / 2) = if tieUp r k = true then k + 1 else k := by
      rw [← taken_mid hr k]
      congr 1
      rw [c]; grind
    have o2 : takenQ r ((((2 * k + 1 : Int)) : Rat) / 2 / ((2 * k + 1 : Int) : Rat)) = if tieUp r 0 = true then 0 + 1 else 0 := div_mid hr (by omega) (by rw [c0]; grind)
    have h4 : (2 * k + 1) % 4 = 3 ∧ (r = .heven ∨ r = .hodd) := by
      unfold partsW at h
      rw [hr, decide_eq_false z] at h
      cases r <;> simp_all
    refine ⟨_, List.mem_cons_of_mem _ List.mem_cons_self, ?_⟩
    have up1 : takenQ r (((k + 1 : Int) : Rat) / ((2 * k + 1 : Int) : Rat)) = 1 := div_near hr (by omega) (by simp only [Rat.intCast_add, Rat.intCast_mul, Rat.intCast_sub, Rat.intCast_ofNat, Rat.intCast_one]; grind) (by simp only [Rat.intCast_add, Rat.intCast_mul, Rat.intCast_sub, Rat.intCast_ofNat, Rat.intCast_one]; grind)
    have lo1 : takenQ r ((k : Rat) / ((2 * k + 1 : Int) : Rat)) = 0 := div_near hr (by omega) (by rw [c, c0]; grind) (by rw [c, c0]; grind)
    rw [e2, o2]
    obtain ⟨h4, rfl | rfl⟩ := h4
    · have t1 : tieUp .heven k = true := decide_eq_true (by omega)
      rw [t1, if_pos rfl, up1]
      decide
    · have t1 : tieUp .hodd k = false := decide_eq_false (by omega)
      rw [t1, if_neg Bool.false_ne_true, lo1]
      decide
end My

namespace My
/-! ### farther by whole numbers; sizes -/
theorem taken_within (r : Way) (u : Rat) : (takenQ r u : Rat) < u + 1 ∧ u - 1 < (takenQ r u : Rat) := by
  have a := Rat.floor_le u
  have b := Rat.lt_floor_add_one u
  rw [Rat.intCast_add] at b
  unfold takenQ
  by_cases h : u = (u.floor : Rat)
  · rw [if_pos (part_zero.mpr h)]
    grind
  · rw [if_neg (fun z => h (part_zero.mp z))]
    split
    · rw [Rat.intCast_add]; grind
    · grind
theorem floor_shift (u : Rat) (j : Int) : (u + (j : Rat)).floor = u.floor + j := by
  have a := Rat.floor_le u
  have b := Rat.lt_floor_add_one u
  rw [Rat.intCast_add] at b
  have x : u.floor + j ≤ (u + (j : Rat)).floor := Rat.le_floor_iff.mpr (by rw [Rat.intCast_add]; grind)
  have y : (u + (j : Rat)).floor < u.floor + j + 1 := Rat.floor_lt_iff.mpr (by rw [Rat.intCast_add, Rat.intCast_add]; grind)
  omega
theorem part_shift (u : Rat) (j : Int) : partQ (u + (j : Rat)) = partQ u := by
  unfold partQ
  rw [floor_shift, Rat.intCast_add]
  grind
theorem rule_shift (r : Way) {l j : Int} (p : Rat) (hl : 0 ≤ l) (hj : 0 ≤ j) (h2 : j % 2 = 0) : ruleB r (l + j) p = ruleB r l p := by
  have e1 : decide (0 ≤ l + j) = decide (0 ≤ l) := by rw [decide_eq_decide]; omega
  have e2 : decide (l + j < 0) = decide (l < 0) := by rw [decide_eq_decide]; omega
  have e3 : decide ((l + j) % 2 = 1) = decide (l % 2 = 1) := by rw [decide_eq_decide]; omega
  have e4 : decide ((l + j) % 2 = 0) = decide (l % 2 = 0) := by rw [decide_eq_decide]; omega
  cases r <;> simp only [ruleB, e1, e2, e3, e4]
theorem taken_shift (r : Way) {u : Rat} {j : Int} (hu : 0 ≤ u) (hj : 0 ≤ j) (h2 : j % 2 = 0) : takenQ r (u + (j : Rat)) = takenQ r u + j := by
  unfold takenQ
  rw [part_shift, floor_shift, rule_shift r _ (floor_nn.mpr hu) hj h2]
  split
  · rfl
  · split <;> omega
theorem taken_nn (r : Way) {u : Rat} (hu : 0 ≤ u) : 0 ≤ takenQ r u := by
  have := floor_nn.mpr hu
  unfold takenQ
  split
  · exact this
  · split <;> omega
theorem twice_shift (r : Way) {m j : Int} {u : Rat} (hm : 0 < m) (hu : 0 ≤ u) (hj : 0 ≤ j) (h2 : j % 2 = 0) : twiceT r m (u + (j : Rat) * m) = twiceT r m u + j ∧ onceT r m (u + (j : Rat) * m) = onceT r m u + j := by
  have hm' : (0 : Rat) < (m : Rat) := Rat.intCast_pos.mpr hm
  have h3 : j * m % 2 = 0 := by
    obtain ⟨q, rfl⟩ : ∃ q, j = 2 * q := ⟨j / 2, by omega⟩
    rw [Int.mul_assoc]; omega
  have h4 : 0 ≤ j * m := Int.mul_nonneg hj (by omega)
  have e : (j : Rat) * (m : Rat) = ((j * m : Int) : Rat) := (Rat.intCast_mul _ _).symm
  unfold twiceT onceT
  constructor
  · rw [e, taken_shift r hu h4 h3, Rat.intCast_add, Rat.intCast_mul]
    have q : ((takenQ r u : Rat) + (j : Rat) * (m : Rat)) / (m : Rat) = (takenQ r u : Rat) / (m : Rat) + (j : Rat) := by grind
    rw [q, taken_shift r ((div_nn hm).mpr (Rat.intCast_nonneg.mpr (taken_nn r hu))) hj h2]
  · have q : (u + (j : Rat) * (m : Rat)) / (m : Rat) = u / (m : Rat) + (j : Rat) := by grind
    rw [q, taken_shift r ((div_nn hm).mpr hu) hj h2]
def absQ (x : Rat) : Rat := Rat.divInt (if x.num < 0 then -x.num else x.num) (x.den : Int)
theorem absQ_eq (x : Rat) : absQ x = if 0 ≤ x then x else -x := by
  unfold absQ
  by_cases h : 0 ≤ x
  · have : 0 ≤ x.num := Rat.num_nonneg.mpr h
    rw [if_pos h, if_neg (by omega), Rat.num_divInt_den]
  · have : ¬ 0 ≤ x.num := fun z => h (Rat.num_nonneg.mp z)
    rw [if_neg h, if_pos (by omega), ← Rat.neg_divInt, Rat.num_divInt_den]
theorem absQ_lt {x y : Rat} (h1 : x < y) (h2 : -y < x) : absQ x < y := by
  rw [absQ_eq]
  split <;> grind
theorem absQ_bd {n : Nat} {x : Rat} (h : Bd n x) : Bd n (absQ x) := by
  have := h.1
  refine Bd.of (den_ne x) (by split <;> omega) (by have := h.2; omega)
theorem lt_dec (x y : Rat) : decide (x < y) = decide (x.num * (y.den : Int) < y.num * (x.den : Int)) := by
  rw [decide_eq_decide]
  exact Rat.lt_iff x y
/-- rounded, a number lies within a step -/
theorem step_within {r : Way} {n x : Rat} (hx : 0 < x) : absQ (n - x * (takenQ r (n / x) : Rat)) < x := by
  obtain ⟨a, b⟩ := taken_within r (n / x)
  have e : n = n / x * x := by grind
  have p : (takenQ r (n / x) : Rat) * x < (n / x + 1) * x := Rat.mul_lt_mul_of_pos_right a hx
  have q : (n / x - 1) * x < (takenQ r (n / x) : Rat) * x := Rat.mul_lt_mul_of_pos_right b hx
  refine absQ_lt ?_ ?_ <;> grind
end My

namespace My
/-! ### powers of ten -/
def T10 (p : Int) : Rat := (10 : Rat) ^ p
theorem T10_pos (p : Int) : 0 < T10 p := Rat.zpow_pos (by decide +kernel)
theorem T10_ne (p : Int) : T10 p ≠ 0 := by have := T10_pos p; grind
theorem T10_add (p q : Int) : T10 (p + q) = T10 p * T10 q := Rat.zpow_add (by decide +kernel) p q
theorem T10_zero : T10 0 = 1 := Rat.zpow_zero _
theorem T10_one : T10 1 = 10 := by
  have := Rat.zpow_add_one (q := 10) (by decide +kernel) 0
  rw [Rat.zpow_zero] at this
  show (10 : Rat) ^ (1 : Int) = 10
  rw [show (1 : Int) = 0 + 1 from rfl, this]
  grind
theorem T10_succ (p : Int) : T10 (p + 1) = T10 p * 10 := by rw [T10_add, T10_one]
theorem T10_nat (n : Nat) : T10 (n : Int) = ((10 ^ n : Int) : Rat) := by
  induction n with
  | zero => exact T10_zero
  | succ n ih =>
    rw [Int.natCast_succ, T10_succ, ih, Int.pow_succ, Rat.intCast_mul]
    rfl
theorem T10_neg (p : Int) : T10 (-p) = 1 / T10 p := by
  have : T10 (-p) * T10 p = 1 := by rw [← T10_add, Int.add_left_neg]; exact T10_zero
  have := T10_ne p
  grind
theorem T10_lt_nat (p : Int) (n : Nat) : T10 p < T10 (p + ((n : Int) + 1)) := by
  have hp := T10_pos p
  induction n with
  | zero =>
    show T10 p < T10 (p + 1)
    rw [T10_succ]
    grind
  | succ n ih =>
    have e : p + (((n + 1 : Nat) : Int) + 1) = p + ((n : Int) + 1) + 1 := by omega
    have := T10_pos (p + ((n : Int) + 1))
    rw [e, T10_succ]
    grind
theorem T10_lt {p q : Int} (h : p < q) : T10 p < T10 q := by
  have := T10_lt_nat p (q - p - 1).toNat
  have e : p + (((q - p - 1).toNat : Int) + 1) = q := by omega
  rw [e] at this
  exact this
theorem T10_le {p q : Int} (h : p ≤ q) : T10 p ≤ T10 q := by
  by_cases e : p = q
  · rw [e]; exact Rat.le_refl
  · exact Rat.le_of_lt (T10_lt (by omega))
theorem T10_lt_iff {p q : Int} : T10 p < T10 q ↔ p < q := by
  constructor
  · intro h
    by_cases z : p < q
    · exact z
    · have := T10_le (show q ≤ p by omega)
      grind
  · exact T10_lt
/-- the power of x -/
def Pow (p : Int) (x : Rat) : Prop := T10 p ≤ absQ x ∧ absQ x < T10 (p + 1)
theorem absQ_mul_pos {x t : Rat} (ht : 0 < t) : absQ (x * t) = absQ x * t := by
  rw [absQ_eq, absQ_eq]
  by_cases h : 0 ≤ x
  · have : 0 ≤ x * t := Rat.mul_nonneg h (Rat.le_of_lt ht)
    rw [if_pos this, if_pos h]
  · have h' : 0 < -x := by grind
    have : 0 < -x * t := Rat.mul_pos h' ht
    rw [if_neg (by grind), if_neg h]
    grind
theorem absQ_neg (x : Rat) : absQ (-x) = absQ x := by
  rw [absQ_eq, absQ_eq]
  split <;> split <;> grind
theorem absQ_nn (x : Rat) : 0 ≤ absQ x := by
  rw [absQ_eq]; split <;> grind
theorem Pow.mul {p k : Int} {x : Rat} (h : Pow p x) : Pow (p + k) (x * T10 k) := by
  have hk := T10_pos k
  unfold Pow at h ⊢
  rw [absQ_mul_pos hk, show p + k + 1 = (p + 1) + k by omega, T10_add, T10_add]
  exact ⟨Rat.mul_le_mul_of_nonneg_right h.1 (Rat.le_of_lt hk), Rat.mul_lt_mul_of_pos_right h.2 hk⟩
theorem Pow.neg {p : Int} {x : Rat} (h : Pow p x) : Pow p (-x) := by
  unfold Pow at h ⊢
  rw [absQ_neg]
  exact h
theorem Pow.ne {p : Int} {x : Rat} (h : Pow p x) : x ≠ 0 := by
  intro e
  have := h.1
  have := T10_pos p
  rw [e, absQ_eq, if_pos (by decide +kernel)] at *
  grind
theorem pow10_lt (n : Nat) : (10 ^ n : Int).natAbs < 2 ^ (4 * n + 1) := by
  rw [Int.natAbs_pow]
  have : (10 : Nat) ^ n ≤ (2 ^ 4) ^ n := Nat.pow_le_pow_left (by decide) n
  rw [← Nat.pow_mul] at this
  have h2 : 2 ^ (4 * n) < 2 ^ (4 * n + 1) := Nat.pow_lt_pow_right (by decide) (by omega)
  exact Nat.lt_of_le_of_lt this h2
theorem T10_bd {p : Int} {k : Nat} (h : p.natAbs ≤ k) : Bd (4 * k + 1) (T10 p) := by
  have b := Nat.lt_of_lt_of_le (pow10_lt p.natAbs) (Nat.pow_le_pow_right (by decide : 0 < 2) (show 4 * p.natAbs + 1 ≤ 4 * k + 1 by omega))
  by_cases z : 0 ≤ p
  · have e : p = (p.natAbs : Int) := by omega
    rw [e, T10_nat]
    exact Bd.int b (by omega)
  · have e : p = -(p.natAbs : Int) := by omega
    rw [e, T10_neg, T10_nat]
    have e2 : 1 / (((10 ^ p.natAbs : Int)) : Rat) = Rat.divInt 1 (10 ^ p.natAbs : Int) := by rw [Rat.divInt_eq_div]; rfl
    rw [e2]
    exact Bd.of (Int.pow_ne_zero (by decide)) (Nat.lt_of_lt_of_le (by decide : Int.natAbs 1 < 2 ^ 1) (Nat.pow_le_pow_right (by decide) (by omega))) b
/-! ### to so many figures -/
def figQ (r : Way) (c p : Int) (x : Rat) : Rat := T10 (p - c + 1) * (takenQ r (x / T10 (p - c + 1)) : Rat)
theorem fig_stay {r : Way} {c p m : Int} {x : Rat} (h : x / T10 (p - c + 1) = (m : Rat)) : figQ r c p x = x := by
  have := T10_ne (p - c + 1)
  unfold figQ
  rw [h, taken_int, ← h]
  grind
theorem fig_mul {r : Way} {c p k : Int} {x : Rat} : figQ r c (p + k) (x * T10 k) = figQ r c p x * T10 k := by
  have h1 := T10_ne (p - c + 1)
  have h2 := T10_ne k
  unfold figQ
  rw [show p + k - c + 1 = (p - c + 1) + k by omega, T10_add]
  have e : x * T10 k / (T10 (p - c + 1) * T10 k) = x / T10 (p - c + 1) := by grind
  rw [e]
  grind
def turnW : Way → Way
  | .high => .low
  | .low => .high
  | r => r
theorem floor_of {n : Rat} {l : Int} (h1 : (l : Rat) ≤ n) (h2 : n < (l : Rat) + 1) : n.floor = l := by
  have a : l ≤ n.floor := Rat.le_floor_iff.mpr h1
  have b : n.floor < l + 1 := Rat.floor_lt_iff.mpr (by rw [Rat.intCast_add]; exact h2)
  omega
theorem nearerB_neg {p : Rat} {a : Bool} : nearerB (1 - p) (!a) = !nearerB p a := by
  by_cases h : p < 1 / 2
  · rw [nearerB_lo h, nearerB_hi (by grind)]; rfl
  · by_cases h2 : p = 1 / 2
    · have e : 1 - p = 1 / 2 := by grind
      rw [e, h2, nearerB_mid, nearerB_mid]
    · rw [nearerB_lo (p := 1 - p) (by grind), nearerB_hi (p := p) (by grind)]; rfl
theorem taken_neg (r : Way) (u : Rat) : takenQ (turnW r) (-u) = -takenQ r u := by
  by_cases h : u = (u.floor : Rat)
  · rw [h, ← Rat.intCast_neg, taken_int, taken_int]
  · have a := Rat.floor_le u
    have b := Rat.lt_floor_add_one u
    rw [Rat.intCast_add] at b
    have e1 : u = (u.floor : Rat) + (u - (u.floor : Rat)) := by grind
    have e2 : -u = (((-u.floor - 1 : Int)) : Rat) + (1 - (u - (u.floor : Rat))) := by rw [Rat.intCast_sub, Rat.intCast_neg]; grind
    generalize u.floor = l at *
    rw [e2, taken_add (by grind) (by grind)]
    have t : takenQ r u = if ruleB r l (u - l) = true then l + 1 else l := by
      conv => lhs; rw [e1]
      exact taken_add (by grind) (by grind)
    rw [t]
    have key : ruleB (turnW r) (-l - 1) (1 - (u - l)) = !ruleB r l (u - l) := by
      have f1 : decide (0 ≤ -l - 1) = !decide (0 ≤ l) := by
        by_cases z : 0 ≤ l
        · rw [decide_eq_true z, decide_eq_false (by omega)]; rfl
        · rw [decide_eq_false z, decide_eq_true (by omega)]; rfl
      have f2 : decide (-l - 1 < 0) = !decide (l < 0) := by
        by_cases z : l < 0
        · rw [decide_eq_true z, decide_eq_false (by omega)]; rfl
        · rw [decide_eq_false z, decide_eq_true (by omega)]; rfl
      have f3 : decide ((-l - 1) % 2 = 1) = !decide (l % 2 = 1) := by
        by_cases z : l % 2 = 1
        · rw [decide_eq_true z, decide_eq_false (by omega)]; rfl
        · rw [decide_eq_false z, decide_eq_true (by omega)]; rfl
      have f4 : decide ((-l - 1) % 2 = 0) = !decide (l % 2 = 0) := by
        by_cases z : l % 2 = 0
        · rw [decide_eq_true z, decide_eq_false (by omega)]; rfl
        · rw [decide_eq_false z, decide_eq_true (by omega)]; rfl
      cases r <;> simp only [turnW, ruleB, f1, f2, f3, f4, nearerB_neg, Bool.not_true, Bool.not_false]
    rw [key]
    cases ruleB r l (u - l) with
    | true =>
      rw [if_neg (by simp), if_pos rfl]
      omega
    | false =>
      rw [if_pos (by simp), if_neg (by simp)]
      omega
theorem fig_neg {r : Way} {c p : Int} {x : Rat} : figQ (turnW r) c p (-x) = -figQ r c p x := by
  unfold figQ
  have e : -x / T10 (p - c + 1) = -(x / T10 (p - c + 1)) := by have := T10_ne (p - c + 1); grind
  rw [e, taken_neg, Rat.intCast_neg]
  grind
end My

namespace My
theorem pow_step {q : Rat} {a : Int} (h1 : T10 a ≤ q) : ∀ m : Nat, q < T10 (a + (m : Int)) → ∃ p, a ≤ p ∧ p < a + (m : Int) ∧ T10 p ≤ q ∧ q < T10 (p + 1)
  | 0, h => by
    rw [show a + ((0 : Nat) : Int) = a by omega] at h
    grind
  | m + 1, h => by
    by_cases z : q < T10 (a + (m : Int))
    · obtain ⟨p, p1, p2, p3, p4⟩ := pow_step h1 m z
      exact ⟨p, p1, by omega, p3, p4⟩
    · refine ⟨a + (m : Int), by omega, by omega, by grind, ?_⟩
      rw [show a + (m : Int) + 1 = a + ((m + 1 : Nat) : Int) by omega]
      exact h
theorem absQ_div {t b : Int} (hb : 0 < b) : absQ (Rat.divInt t b) = ((t.natAbs : Int) : Rat) / (b : Rat) := by
  have hb' : (0 : Rat) < (b : Rat) := Rat.intCast_pos.mpr hb
  have ib : (0 : Rat) < 1 / (b : Rat) := (Rat.lt_div_iff hb').mpr (by grind)
  have e : Rat.divInt t b = (t : Rat) * (1 / (b : Rat)) := by rw [Rat.divInt_eq_div]; grind
  rw [e, absQ_mul_pos ib, absQ_eq]
  have n : (if 0 ≤ (t : Rat) then (t : Rat) else -(t : Rat)) = ((t.natAbs : Int) : Rat) := by
    by_cases h : 0 ≤ t
    · rw [if_pos (Rat.intCast_nonneg.mpr h)]
      congr 1; omega
    · rw [if_neg (fun z => h (Rat.intCast_nonneg.mp z)), ← Rat.intCast_neg]
      congr 1; omega
  rw [n]
  grind
theorem le_div {x y z : Rat} (hz : 0 < z) (h : x * z ≤ y) : x ≤ y / z := by
  refine Rat.not_lt.mp fun q => ?_
  have := (Rat.div_lt_iff hz).mp q
  grind
/-- the power, found by whole numbers -/
theorem pow_grain {t b : Int} {i j : Nat} (hb : 0 < b) (h1 : (10 : Int) ^ i * b ≤ (10 : Int) ^ j * (t.natAbs : Int)) (h2 : (10 : Int) ^ j * (t.natAbs : Int) < 10 * ((10 : Int) ^ i * b)) : Pow ((i : Int) - (j : Int)) (Rat.divInt t b) := by
  have hb' : (0 : Rat) < (b : Rat) := Rat.intCast_pos.mpr hb
  have hj := T10_pos (j : Int)
  have h1' := Rat.intCast_le_intCast.mpr h1
  have h2' := Rat.intCast_lt_intCast.mpr h2
  have e10 : ((10 : Int) : Rat) = 10 := rfl
  rw [Rat.intCast_mul, Rat.intCast_mul, ← T10_nat, ← T10_nat] at h1'
  rw [Rat.intCast_mul, Rat.intCast_mul, Rat.intCast_mul, ← T10_nat, ← T10_nat, e10] at h2'
  have split : T10 (i : Int) = T10 ((i : Int) - (j : Int)) * T10 (j : Int) := by rw [← T10_add]; congr 1; omega
  rw [split] at h1' h2'
  unfold Pow
  rw [absQ_div hb, T10_succ]
  generalize T10 ((i : Int) - (j : Int)) = u at *
  generalize T10 (j : Int) = v at *
  generalize ((t.natAbs : Int) : Rat) = y at *
  generalize (b : Rat) = z at *
  constructor
  · refine le_div hb' (Rat.not_lt.mp fun q => ?_)
    have := Rat.mul_lt_mul_of_pos_right q hj
    grind
  · refine (Rat.div_lt_iff hb').mpr ?_
    refine Rat.not_le.mp fun q => ?_
    have := Rat.mul_le_mul_of_nonneg_right q (Rat.le_of_lt hj)
    grind
theorem pow_unique {p p' : Int} {x : Rat} (h : Pow p x) (h' : Pow p' x) : p = p' := by
  have a : p < p' + 1 := T10_lt_iff.mp (by have := h.1; have := h'.2; grind)
  have b : p' < p + 1 := T10_lt_iff.mp (by have := h'.1; have := h.2; grind)
  omega
theorem pow_there {t b : Int} (t0 : t ≠ 0) (hb : 0 < b) {i j : Nat} (ht : (t.natAbs : Int) < (10 : Int) ^ i) (hj : b ≤ (10 : Int) ^ j) : ∃ p : Int, -(j : Int) ≤ p ∧ p < (i : Int) ∧ Pow p (Rat.divInt t b) := by
  have hb' : (0 : Rat) < (b : Rat) := Rat.intCast_pos.mpr hb
  have t1 : ((1 : Int) : Rat) ≤ ((t.natAbs : Int) : Rat) := Rat.intCast_le_intCast.mpr (by omega)
  have b1 : ((1 : Int) : Rat) ≤ (b : Rat) := Rat.intCast_le_intCast.mpr (by omega)
  have e1 : ((1 : Int) : Rat) = 1 := rfl
  rw [e1] at t1 b1
  have ht' := Rat.intCast_lt_intCast.mpr ht
  have hj' := Rat.intCast_le_intCast.mpr hj
  rw [← T10_nat] at ht' hj'
  have pj := T10_pos (j : Int)
  have pi := T10_pos (i : Int)
  have nj := T10_ne (j : Int)
  have lo : T10 (-(j : Int)) ≤ absQ (Rat.divInt t b) := by
    rw [absQ_div hb, T10_neg]
    refine le_div hb' ?_
    have q : 1 / T10 (j : Int) * (b : Rat) ≤ 1 := by
      have e : 1 / T10 (j : Int) * (b : Rat) = (b : Rat) / T10 (j : Int) := by grind
      rw [e]
      refine Rat.not_lt.mp fun q => ?_
      have := (Rat.lt_div_iff pj).mp q
      grind
    grind
  have hi : absQ (Rat.divInt t b) < T10 (-(j : Int) + ((i + j : Nat) : Int)) := by
    rw [absQ_div hb, show -(j : Int) + ((i + j : Nat) : Int) = (i : Int) by omega]
    refine (Rat.div_lt_iff hb').mpr ?_
    have := Rat.mul_le_mul_of_nonneg_left b1 (Rat.le_of_lt pi)
    grind
  obtain ⟨p, p1, p2, p3, p4⟩ := pow_step lo _ hi
  exact ⟨p, p1, by omega, p3, p4⟩
end My

namespace My
/-! ### the shortest figures that lead back -/
def nearL (u : Rat) : Int := if (partQ u).num = 0 then u.floor else if ((partQ u).den : Int) < 2 * (partQ u).num then u.floor + 1 else u.floor
theorem nearL_is (u : Rat) : (nearL u : Rat) - 1 / 2 < u ∧ u ≤ (nearL u : Rat) + 1 / 2 := by
  have a := Rat.floor_le u
  have b := Rat.lt_floor_add_one u
  rw [Rat.intCast_add] at b
  have e : partQ u = u - (u.floor : Rat) := rfl
  unfold nearL
  by_cases h : u = (u.floor : Rat)
  · rw [if_pos (part_zero.mpr h)]
    grind
  · rw [if_neg (fun z => h (part_zero.mp z))]
    have key : ((partQ u).den : Int) < 2 * (partQ u).num ↔ 1 / 2 < partQ u := by
      by_cases h1 : 1 / 2 < partQ u
      · have := nearerB_hi (a := false) h1
        unfold nearerB at this
        split at this
        · cases this
        · exact ⟨fun _ => h1, fun _ => of_decide_eq_true this⟩
      · refine ⟨fun z => ?_, fun z => absurd z h1⟩
        by_cases h2 : partQ u = 1 / 2
        · rw [h2] at z
          exact absurd z (by decide +kernel)
        · have := nearerB_lo (a := true) (show partQ u < 1 / 2 by grind)
          unfold nearerB at this
          split at this
          · cases this
          · exact absurd z (of_decide_eq_false this)
    by_cases h1 : 1 / 2 < partQ u
    · rw [if_pos (key.mpr h1), Rat.intCast_add]
      grind
    · rw [if_neg (fun z => h1 (key.mp z))]
      grind
theorem nearL_best (u : Rat) (c : Int) : absQ ((nearL u : Rat) - u) ≤ absQ ((c : Rat) - u) := by
  obtain ⟨a, b⟩ := nearL_is u
  generalize nearL u = t at *
  by_cases h : c = t
  · rw [h]; exact Rat.le_refl
  · rw [absQ_eq, absQ_eq]
    by_cases h2 : c < t
    · have : (c : Rat) + 1 ≤ (t : Rat) := by
        have := Rat.intCast_le_intCast.mpr (show c + 1 ≤ t by omega)
        rw [Rat.intCast_add] at this
        exact this
      split <;> split <;> grind
    · have : (t : Rat) + 1 ≤ (c : Rat) := by
        have := Rat.intCast_le_intCast.mpr (show t + 1 ≤ c by omega)
        rw [Rat.intCast_add] at this
        exact this
      split <;> split <;> grind
/-- how far the nearest of so many places is off -/
def dL (x : Rat) (p : Int) : Rat := absQ ((nearL (x * T10 p) : Rat) * T10 (-p) - x)
theorem T10_inv (p : Int) : T10 p * T10 (-p) = 1 := by rw [← T10_add, Int.add_right_neg]; exact T10_zero
theorem off_scale (x : Rat) (c : Rat) (p : Int) : absQ (c * T10 (-p) - x) = absQ (c - x * T10 p) * T10 (-p) := by
  rw [← absQ_mul_pos (T10_pos (-p))]
  have := T10_inv p
  congr 1
  grind
theorem dL_best (x : Rat) (p c : Int) : dL x p ≤ absQ ((c : Rat) * T10 (-p) - x) := by
  unfold dL
  rw [off_scale, off_scale]
  exact Rat.mul_le_mul_of_nonneg_right (nearL_best _ c) (Rat.le_of_lt (T10_pos _))
theorem dL_succ (x : Rat) (p : Int) : dL x (p + 1) ≤ dL x p := by
  have := dL_best x (p + 1) (nearL (x * T10 p) * 10)
  have e : ((nearL (x * T10 p) * 10 : Int) : Rat) * T10 (-(p + 1)) = (nearL (x * T10 p) : Rat) * T10 (-p) := by
    rw [Rat.intCast_mul, show -p = -(p + 1) + 1 by omega, T10_succ]
    have : ((10 : Int) : Rat) = 10 := rfl
    grind
  rw [e] at this
  exact this
theorem dL_mono_nat (x : Rat) (p : Int) : ∀ n : Nat, dL x (p + (n : Int)) ≤ dL x p
  | 0 => by rw [show p + ((0 : Nat) : Int) = p by omega]; exact Rat.le_refl
  | n + 1 => by
    rw [show p + ((n + 1 : Nat) : Int) = p + (n : Int) + 1 by omega]
    exact Rat.le_trans (dL_succ _ _) (dL_mono_nat x p n)
theorem dL_mono (x : Rat) {p q : Int} (h : p ≤ q) : dL x q ≤ dL x p := by
  have := dL_mono_nat x p (q - p).toNat
  rw [show p + ((q - p).toNat : Int) = q by omega] at this
  exact this
/-- so little off leads back to so many steps -/
def okd (y : Rat) (m : Int) (d : Rat) : Prop := d < y / 2 ∨ (d = y / 2 ∧ m % 2 = 0)
theorem okd.le {y : Rat} {m : Int} {d e : Rat} (h : okd y m d) (l : e ≤ d) : okd y m e := by
  unfold okd at *
  rcases h with h | ⟨h, z⟩
  · exact .inl (by grind)
  · by_cases g : e < y / 2
    · exact .inl g
    · exact .inr ⟨by grind, z⟩
theorem heven_iff {y z : Rat} {m : Int} (hy : 0 < y) : takenQ .heven (z / y) = m ↔ okd y m (absQ (z - (m : Rat) * y)) := by
  have e : absQ (z - (m : Rat) * y) = absQ (z / y - (m : Rat)) * y := by
    rw [← absQ_mul_pos hy]
    congr 1
    grind
  rw [e]
  generalize z / y = u
  have key : okd y m (absQ (u - (m : Rat)) * y) ↔ (absQ (u - (m : Rat)) < 1 / 2 ∨ (absQ (u - (m : Rat)) = 1 / 2 ∧ m % 2 = 0)) := by
    unfold okd
    generalize absQ (u - (m : Rat)) = d
    constructor
    · rintro (h | ⟨h, g⟩)
      · refine .inl (Rat.not_le.mp fun q => ?_)
        have := Rat.mul_le_mul_of_nonneg_right q (Rat.le_of_lt hy)
        grind
      · refine .inr ⟨?_, g⟩
        have : (d - 1 / 2) * y = 0 := by grind
        rcases Rat.mul_eq_zero.mp this with h | h
        · grind
        · grind
    · rintro (h | ⟨h, g⟩)
      · have := Rat.mul_lt_mul_of_pos_right h hy
        exact .inl (by grind)
      · exact .inr ⟨by rw [h]; grind, g⟩
  rw [key, absQ_eq]
  rcases near_or_mid u with ⟨t, h1, h2⟩ | ⟨l, hl⟩
  · rw [taken_near rfl h1 h2]
    constructor
    · rintro rfl
      left
      split <;> grind
    · intro h
      have hh : (if 0 ≤ u - (m : Rat) then u - (m : Rat) else -(u - (m : Rat))) ≤ 1 / 2 := by
        rcases h with h | ⟨h, _⟩
        · exact Rat.le_of_lt h
        · rw [h]; exact Rat.le_refl
      clear h key e
      have a : (m : Rat) < (t : Rat) + 1 := by split at hh <;> grind
      have b : (t : Rat) < (m : Rat) + 1 := by split at hh <;> grind
      have a' : m < t + 1 := Rat.intCast_lt_intCast.mp (by rw [Rat.intCast_add]; exact a)
      have b' : t < m + 1 := Rat.intCast_lt_intCast.mp (by rw [Rat.intCast_add]; exact b)
      omega
  · subst hl
    rw [taken_mid rfl]
    have tu : tieUp .heven l = decide (l % 2 = 1) := rfl
    rw [tu]
    constructor
    · intro h
      right
      by_cases z : l % 2 = 1
      · rw [if_pos (decide_eq_true z)] at h
        subst h
        rw [Rat.intCast_add]
        have : ((1 : Int) : Rat) = 1 := rfl
        refine ⟨by split <;> grind, by omega⟩
      · rw [if_neg (by simpa using z)] at h
        subst h
        refine ⟨by split <;> grind, by omega⟩
    · intro h
      have a : (m : Rat) < (l : Rat) + 2 := by split at h <;> grind
      have b : (l : Rat) < (m : Rat) + 1 := by split at h <;> grind
      have a' : m < l + 2 := Rat.intCast_lt_intCast.mp (by rw [Rat.intCast_add]; exact a)
      have b' : l < m + 1 := Rat.intCast_lt_intCast.mp (by rw [Rat.intCast_add]; exact b)
      have ev : m % 2 = 0 := by
        rcases h with h | h
        · exfalso
          have c : m = l ∨ m = l + 1 := by omega
          rcases c with rfl | rfl
          · split at h <;> grind
          · rw [Rat.intCast_add] at h
            have : ((1 : Int) : Rat) = 1 := rfl
            split at h <;> grind
        · exact h.2
      by_cases z : l % 2 = 1
      · rw [if_pos (decide_eq_true z)]; omega
      · rw [if_neg (by simpa using z)]; omega
/-- a count of so many places is rounded to the kept number -/
def backQ (c p : Int) (x y : Rat) : Bool := decide (y * (takenQ .heven ((c : Rat) * T10 (-p) / y) : Rat) = x)
theorem backQ_iff {c p m : Int} {x y : Rat} (hy : 0 < y) (hx : x = (m : Rat) * y) : backQ c p x y = true ↔ okd y m (absQ ((c : Rat) * T10 (-p) - x)) := by
  unfold backQ
  rw [decide_eq_true_eq]
  conv => rhs; rw [hx]
  rw [← heven_iff hy, hx]
  constructor
  · intro h
    have : ((takenQ .heven ((c : Rat) * T10 (-p) / y) : Rat) - (m : Rat)) * y = 0 := by grind
    rcases Rat.mul_eq_zero.mp this with h | h
    · exact Rat.intCast_inj.mp (by grind)
    · grind
  · intro h
    rw [h]; grind
/-- the nearest one leads back -/
def lbQ (x y : Rat) (p : Int) : Bool := backQ (nearL (x * T10 p)) p x y
theorem lbQ_iff {p m : Int} {x y : Rat} (hy : 0 < y) (hx : x = (m : Rat) * y) : lbQ x y p = true ↔ okd y m (dL x p) := backQ_iff hy hx
theorem lb_of_back {c p m : Int} {x y : Rat} (hy : 0 < y) (hx : x = (m : Rat) * y) (h : backQ c p x y = true) : lbQ x y p = true :=
  (lbQ_iff hy hx).mpr (((backQ_iff hy hx).mp h).le (dL_best _ _ _))
theorem lb_mono {p q m : Int} {x y : Rat} (hy : 0 < y) (hx : x = (m : Rat) * y) (l : p ≤ q) (h : lbQ x y p = true) : lbQ x y q = true :=
  (lbQ_iff hy hx).mpr (((lbQ_iff hy hx).mp h).le (dL_mono _ l))
/-- so fine a last place leads back -/
theorem lb_fine {p m : Int} {x y : Rat} (hy : 0 < y) (hx : x = (m : Rat) * y) (h : T10 (-p) ≤ y) : lbQ x y p = true := by
  rw [lbQ_iff hy hx]
  have d1 : dL x p ≤ T10 (-p) / 2 := by
    unfold dL
    rw [off_scale]
    obtain ⟨a, b⟩ := nearL_is (x * T10 p)
    have : absQ ((nearL (x * T10 p) : Rat) - x * T10 p) ≤ 1 / 2 := by
      rw [absQ_eq]
      split <;> grind
    have := Rat.mul_le_mul_of_nonneg_right this (Rat.le_of_lt (T10_pos (-p)))
    grind
  by_cases g : T10 (-p) = y
  · have : dL x p ≤ 0 := by
      have b := dL_best x p m
      have e : (m : Rat) * T10 (-p) - x = 0 := by rw [g]; grind
      rw [e, absQ_eq, if_pos (by decide +kernel)] at b
      exact b
    exact .inl (by grind)
  · exact .inl (by grind)
theorem lb_power {p m : Int} {x y : Rat} (hy : 0 < y) (hx : x = (m : Rat) * y) (h : Pow p y) : lbQ x y (if 0 < -p then -p else 0) = true := by
  have h1 := h.1
  rw [absQ_eq, if_pos (Rat.le_of_lt hy)] at h1
  refine lb_fine hy hx ?_
  split
  · rw [Int.neg_neg]; exact h1
  · exact Rat.le_trans (T10_le (by omega)) h1
/-- as few places as can be -/
def Fewest (x y : Rat) (P : Int) : Prop := 0 ≤ P ∧ lbQ x y P = true ∧ ∀ p, 0 ≤ p → p < P → lbQ x y p = false
theorem Fewest.le {x y : Rat} {P p m c : Int} (h : Fewest x y P) (hy : 0 < y) (hx : x = (m : Rat) * y) (hp : 0 ≤ p) (b : backQ c p x y = true) : P ≤ p := by
  by_cases z : P ≤ p
  · exact z
  · have := h.2.2 p hp (by omega)
    rw [lb_of_back hy hx b] at this
    cases this
end My

namespace My
/-! ### what is due, told by whole numbers -/
theorem taken_of {r : Way} {i p0 p1 : Int} (h0 : 0 < p0) (h1 : p0 < p1) : takenQ r ((i : Rat) + Rat.divInt p0 p1) = if ruleB r i (Rat.divInt p0 p1) = true then i + 1 else i := by
  have a : (0 : Rat) < (p0 : Rat) := Rat.intCast_pos.mpr h0
  have b : (p0 : Rat) < (p1 : Rat) := Rat.intCast_lt_intCast.mpr h1
  have q : (0 : Rat) < (p1 : Rat) := by grind
  refine taken_add ?_ ?_
  · rw [Rat.divInt_eq_div]
    exact (Rat.lt_div_iff q).mpr (by grind)
  · rw [Rat.divInt_eq_div]
    exact (Rat.div_lt_iff q).mpr (by grind)
theorem nearer_div {p0 p1 : Int} (h0 : 0 < p0) (h1 : p0 < p1) (a : Bool) : nearerB (Rat.divInt p0 p1) a = if 2 * p0 = p1 then a else decide (p1 < 2 * p0) := by
  have q : (0 : Rat) < (p1 : Rat) := Rat.intCast_pos.mpr (by omega)
  have e2 : ((2 * p0 : Int) : Rat) = 2 * (p0 : Rat) := by rw [Rat.intCast_mul]; rfl
  rw [Rat.divInt_eq_div]
  by_cases z : 2 * p0 = p1
  · have p2 : (p1 : Rat) = 2 * (p0 : Rat) := by rw [← z]; exact e2
    have : (p0 : Rat) / (p1 : Rat) = 1 / 2 := by rw [p2]; rw [p2] at q; grind
    rw [if_pos z, this, nearerB_mid]
  · rw [if_neg z]
    by_cases y : p1 < 2 * p0
    · have : (p1 : Rat) < 2 * (p0 : Rat) := by rw [← e2]; exact Rat.intCast_lt_intCast.mpr y
      rw [decide_eq_true y, nearerB_hi ((Rat.lt_div_iff q).mpr (by grind))]
    · have : 2 * (p0 : Rat) < (p1 : Rat) := by rw [← e2]; exact Rat.intCast_lt_intCast.mpr (by omega)
      rw [decide_eq_false y, nearerB_lo ((Rat.div_lt_iff q).mpr (by grind))]
/-- the number of steps, as a whole and a part of one -/
theorem steps_split {t b c d : Int} (hb : 0 < b) (hc : 0 < c) (hd : 0 < d) : Rat.divInt t b / Rat.divInt c d = ((t * d / (b * c) : Int) : Rat) + Rat.divInt (t * d - t * d / (b * c) * (b * c)) (b * c) := by
  have hb' : (b : Rat) ≠ 0 := by simp; omega
  have hc' : (c : Rat) ≠ 0 := by simp; omega
  have hd' : (d : Rat) ≠ 0 := by simp; omega
  have e1 : Rat.divInt t b / Rat.divInt c d = ((t * d : Int) : Rat) / ((b * c : Int) : Rat) := by
    rw [Rat.divInt_eq_div, Rat.divInt_eq_div, Rat.intCast_mul, Rat.intCast_mul]
    grind
  have hB : ((b * c : Int) : Rat) ≠ 0 := by rw [Rat.intCast_mul]; grind
  rw [e1, Rat.divInt_eq_div, Rat.intCast_sub, Rat.intCast_mul (t * d / (b * c))]
  generalize ((t * d : Int) : Rat) = x at *
  generalize ((b * c : Int) : Rat) = y at *
  generalize ((t * d / (b * c) : Int) : Rat) = z at *
  grind
end My

namespace My
/-! ### the order of the parts beyond: the greater ones first, of alike ones the earlier ones -/
def bef (F : Nat → Rat) (i j : Nat) : Prop := F j < F i ∨ (F i = F j ∧ i < j)
instance (F : Nat → Rat) (i j : Nat) : Decidable (bef F i j) := by unfold bef; infer_instance
theorem bef_total {F : Nat → Rat} {i j : Nat} (h : i ≠ j) : bef F i j ∨ bef F j i := by
  unfold bef
  by_cases a : F j < F i
  · exact .inl (.inl a)
  · by_cases b : F i < F j
    · exact .inr (.inl b)
    · have e : F i = F j := Rat.le_antisymm (Rat.not_lt.mp a) (Rat.not_lt.mp b)
      by_cases l : i < j
      · exact .inl (.inr ⟨e, l⟩)
      · exact .inr (.inr ⟨e.symm, by omega⟩)
theorem bef_irr {F : Nat → Rat} {i : Nat} : ¬ bef F i i := by
  rintro (h | ⟨_, h⟩)
  · exact Rat.lt_irrefl h
  · omega
theorem bef_asym {F : Nat → Rat} {i j : Nat} (h : bef F i j) : ¬ bef F j i := by
  unfold bef at *
  rintro (g | ⟨g, l⟩)
  · rcases h with h | ⟨h, _⟩
    · exact absurd g (by grind)
    · exact absurd g (by grind)
  · rcases h with h | ⟨_, l2⟩
    · exact absurd h (by grind)
    · omega
theorem bef_trans {F : Nat → Rat} {i j k : Nat} (h : bef F i j) (g : bef F j k) : bef F i k := by
  unfold bef at *
  rcases h with h | ⟨h, l⟩ <;> rcases g with g | ⟨g, m⟩
  · exact .inl (by grind)
  · exact .inl (by grind)
  · exact .inl (by grind)
  · exact .inr ⟨by grind, by omega⟩
def rank (F : Nat → Rat) (n i : Nat) : Nat := ((List.range n).filter fun j => decide (bef F j i)).length
/-- a list of the places below n, in order -/
structure Ord (F : Nat → Rat) (n : Nat) (l : List Nat) : Prop where
  perm : l.Perm (List.range n)
  srt : l.Pairwise fun a b => ¬ bef F b a
theorem Ord.len {F : Nat → Rat} {n : Nat} {l : List Nat} (o : Ord F n l) : l.length = n := by rw [o.perm.length_eq, List.length_range]
theorem Ord.nodup {F : Nat → Rat} {n : Nat} {l : List Nat} (o : Ord F n l) : l.Nodup := o.perm.nodup_iff.mpr List.nodup_range
theorem Ord.mem {F : Nat → Rat} {n : Nat} {l : List Nat} (o : Ord F n l) {i : Nat} : i ∈ l ↔ i < n := by rw [o.perm.mem_iff, List.mem_range]
theorem filter_split {F : Nat → Rat} {x : Nat} : ∀ (A B : List Nat), (A ++ x :: B).Pairwise (fun a b => ¬ bef F b a) → (A ++ x :: B).Nodup → ((A ++ x :: B).filter fun j => decide (bef F j x)) = A := fun A B h nd => by
  have h1 := (List.pairwise_append.mp h).2.2
  have h2 := (List.pairwise_cons.mp (List.pairwise_append.mp h).2.1).1
  have nd1 := List.nodup_append.mp nd
  rw [List.filter_append, List.filter_cons, if_neg (by simpa using bef_irr)]
  have e1 : A.filter (fun j => decide (bef F j x)) = A := List.filter_eq_self.mpr fun a ha => by
    have n1 := h1 a ha x (List.mem_cons_self ..)
    have ne : a ≠ x := nd1.2.2 a ha x (List.mem_cons_self ..)
    exact decide_eq_true ((bef_total ne).resolve_right n1)
  have e2 : B.filter (fun j => decide (bef F j x)) = [] := List.filter_eq_nil_iff.mpr fun b hb => by
    simpa using h2 b hb
  rw [e1, e2, List.append_nil]
theorem Ord.rank_at {F : Nat → Rat} {n : Nat} {l : List Nat} (o : Ord F n l) {p : Nat} (h : p < l.length) : rank F n l[p] = p := by
  have e : l = l.take p ++ l[p] :: l.drop (p + 1) := by
    rw [List.getElem_cons_drop, List.take_append_drop]
  have pf : ((List.range n).filter fun j => decide (bef F j l[p])).length = (l.filter fun j => decide (bef F j l[p])).length := (o.perm.filter _).length_eq.symm
  unfold rank
  rw [pf]
  have s := o.srt
  have nd := o.nodup
  generalize l[p] = x at *
  generalize hA : l.take p = A at *
  have la : A.length = p := by rw [← hA, List.length_take]; omega
  rw [e] at s nd ⊢
  rw [filter_split _ _ s nd, la]
theorem Ord.take_iff {F : Nat → Rat} {n : Nat} {l : List Nat} (o : Ord F n l) {i k : Nat} (hi : i < n) : i ∈ l.take k ↔ rank F n i < k := by
  constructor
  · intro h
    obtain ⟨p, hp, e⟩ := List.mem_iff_getElem.mp h
    rw [List.length_take] at hp
    rw [List.getElem_take] at e
    have := o.rank_at (p := p) (by omega)
    rw [e] at this
    omega
  · intro h
    obtain ⟨p, hp, e⟩ := List.mem_iff_getElem.mp (o.mem.mpr hi)
    have := o.rank_at hp
    rw [e] at this
    rw [this] at h
    exact List.mem_iff_getElem.mpr ⟨p, by rw [List.length_take]; omega, by rw [List.getElem_take]; exact e⟩
/-- there is such a list -/
theorem ord_there (F : Nat → Rat) (n : Nat) : ∃ l, Ord F n l := by
  refine ⟨(List.range n).mergeSort fun a b => decide (¬ bef F b a), List.mergeSort_perm _ _, ?_⟩
  have := List.pairwise_mergeSort (le := fun a b => decide (¬ bef F b a)) (fun a b c h1 h2 => by
    have h1' : ¬ bef F b a := of_decide_eq_true h1
    have h2' : ¬ bef F c b := of_decide_eq_true h2
    refine decide_eq_true fun h => ?_
    by_cases e : b = c
    · subst e; exact h1' h
    · rcases bef_total e with g | g
      · exact h1' (bef_trans g h)
      · exact h2' g) (fun a b => by
    by_cases h : bef F b a
    · have := bef_asym h
      simp [this]
    · simp [h]) (List.range n)
  exact this.imp fun h => of_decide_eq_true h
theorem rank_lt {F : Nat → Rat} {n i j : Nat} (hi : i < n) (hj : j < n) : rank F n i < rank F n j ↔ bef F i j := by
  obtain ⟨l, o⟩ := ord_there F n
  obtain ⟨p, hp, rfl⟩ := List.mem_iff_getElem.mp (o.mem.mpr hi)
  obtain ⟨q, hq, rfl⟩ := List.mem_iff_getElem.mp (o.mem.mpr hj)
  rw [o.rank_at hp, o.rank_at hq]
  have pw := List.pairwise_iff_getElem.mp o.srt
  constructor
  · intro h
    have ne : l[p] ≠ l[q] := fun e => by
      have := (List.getElem_inj o.nodup).mp e
      omega
    exact (bef_total ne).resolve_right (pw p q hp hq h)
  · intro h
    rcases Nat.lt_trichotomy p q with z | z | z
    · exact z
    · subst z; exact absurd h bef_irr
    · exact absurd h (pw q p hq hp z)
theorem rank_inj {F : Nat → Rat} {n i j : Nat} (hi : i < n) (hj : j < n) (h : rank F n i = rank F n j) : i = j := by
  by_cases e : i = j
  · exact e
  · rcases bef_total (F := F) e with g | g
    · have := (rank_lt hi hj).mpr g; omega
    · have := (rank_lt hj hi).mpr g; omega
theorem rank_bd {F : Nat → Rat} {n i : Nat} (hi : i < n) : rank F n i < n := by
  obtain ⟨l, o⟩ := ord_there F n
  obtain ⟨p, hp, rfl⟩ := List.mem_iff_getElem.mp (o.mem.mpr hi)
  rw [o.rank_at hp]
  have := o.len
  omega
theorem rank_there (F : Nat → Rat) {n t : Nat} (h : t < n) : ∃ i, i < n ∧ rank F n i = t := by
  obtain ⟨l, o⟩ := ord_there F n
  have hl : t < l.length := by rw [o.len]; exact h
  exact ⟨l[t], o.mem.mp (List.getElem_mem hl), o.rank_at hl⟩
/-- how many stand ahead of the k-th -/
theorem rank_count (F : Nat → Rat) {n k : Nat} (h : k ≤ n) : ((List.range n).filter fun i => decide (rank F n i < k)).length = k := by
  obtain ⟨l, o⟩ := ord_there F n
  have e1 : ((List.range n).filter fun i => decide (rank F n i < k)).length = (l.filter fun i => decide (rank F n i < k)).length := ((o.perm.filter _).length_eq).symm
  have e2 : l.filter (fun i => decide (rank F n i < k)) = l.take k := by
    conv => lhs; rw [← List.take_append_drop k l]
    rw [List.filter_append]
    have a : (l.take k).filter (fun i => decide (rank F n i < k)) = l.take k := List.filter_eq_self.mpr fun i hi => decide_eq_true ((o.take_iff (o.mem.mp (List.mem_of_mem_take hi))).mp hi)
    have b : (l.drop k).filter (fun i => decide (rank F n i < k)) = [] := List.filter_eq_nil_iff.mpr fun i hi => by
      obtain ⟨p, hp, rfl⟩ := List.mem_iff_getElem.mp hi
      rw [List.length_drop] at hp
      rw [List.getElem_drop, o.rank_at (by omega)]
      simp
    rw [a, b, List.append_nil]
  rw [e1, e2, List.length_take, o.len]
  omega
/-- the first one of what is left -/
theorem best_rank {F : Nat → Rat} {n t b : Nat} (ht : t < n) (hb : b < n) (r : t ≤ rank F n b) (h : ∀ i, i < n → t ≤ rank F n i → ¬ bef F i b) : rank F n b = t := by
  obtain ⟨i, hi, ri⟩ := rank_there F ht
  refine Classical.byContradiction fun z => ?_
  exact h i hi (by omega) ((rank_lt hi hb).mp (by omega))
/-- those that are no multiples stand ahead of all others -/
theorem zero_rank {F : Nat → Rat} {n i : Nat} (hi : i < n) (pos : ∀ j, 0 ≤ F j) (z : F i = 0) : ((List.range n).filter fun j => decide (0 < F j)).length ≤ rank F n i := by
  unfold rank
  refine List.Sublist.length_le ?_
  have : (List.range n).filter (fun j => decide (0 < F j)) = ((List.range n).filter fun j => decide (bef F j i)).filter fun j => decide (0 < F j) := by
    rw [List.filter_filter]
    refine List.filter_congr fun j _ => ?_
    by_cases h : 0 < F j
    · have : bef F j i := .inl (by rw [z]; exact h)
      simp [h, this]
    · simp [h]
  rw [this]
  exact List.filter_sublist
end My

namespace My
/-! ### the counts that are due, and their paper -/
theorem part_ge (u : Rat) : 0 ≤ partQ u := by
  have := Rat.floor_le u
  unfold partQ
  grind
theorem part_lt (u : Rat) : partQ u < 1 := by
  have : u.floor < u.floor + 1 := by omega
  have := Rat.floor_lt_iff.mp this
  rw [Rat.intCast_add] at this
  unfold partQ
  grind
theorem divInt_ge0 {a b : Int} (ha : 0 ≤ a) (hb : 0 < b) : 0 ≤ Rat.divInt a b := by
  have e := Rat.divInt_nonneg_iff_of_pos_right (a := a) hb
  exact e.mpr ha
theorem divInt_mul {a b : Int} (hb : 0 < b) : Rat.divInt a b * (b : Rat) = (a : Rat) := by
  rw [Rat.divInt_eq_div]
  have : (b : Rat) ≠ 0 := by
    intro z
    have := Rat.intCast_eq_zero_iff.mp z
    omega
  grind
theorem ratpos {b : Int} (hb : 0 < b) : (0 : Rat) < (b : Rat) := by
  have := (Rat.intCast_lt_intCast (a := 0) (b := b)).mpr hb
  exact this
theorem lt_cross {a b c d : Int} (hb : 0 < b) (hd : 0 < d) : Rat.divInt a b < Rat.divInt c d ↔ a * d < c * b := by
  have e1 := divInt_mul (a := a) hb
  have e2 := divInt_mul (a := c) hd
  have pb := ratpos hb
  have pd := ratpos hd
  have key : (((a * d : Int)) : Rat) = Rat.divInt a b * ((b : Rat) * (d : Rat)) := by rw [Rat.intCast_mul, ← e1]; grind
  have key2 : (((c * b : Int)) : Rat) = Rat.divInt c d * ((b : Rat) * (d : Rat)) := by rw [Rat.intCast_mul, ← e2]; grind
  have pbd : 0 < (b : Rat) * (d : Rat) := Rat.mul_pos pb pd
  rw [← Rat.intCast_lt_intCast, key, key2]
  exact ⟨fun h => Rat.mul_lt_mul_of_pos_right h pbd, fun h => Classical.byContradiction fun z => by
    have := Rat.mul_le_mul_of_nonneg_right (Rat.not_lt.mp z) (Rat.le_of_lt pbd)
    grind⟩
theorem eq_cross {a b c d : Int} (hb : 0 < b) (hd : 0 < d) : Rat.divInt a b = Rat.divInt c d ↔ a * d = c * b := by
  have l1 := lt_cross (a := a) (c := c) hb hd
  have l2 := lt_cross (a := c) (c := a) hd hb
  constructor
  · intro h
    have n1 : ¬ a * d < c * b := fun z => by have := l1.mpr z; rw [h] at this; exact Rat.lt_irrefl this
    have n2 : ¬ c * b < a * d := fun z => by have := l2.mpr z; rw [h] at this; exact Rat.lt_irrefl this
    omega
  · intro h
    have n1 : ¬ Rat.divInt a b < Rat.divInt c d := fun z => by have := l1.mp z; omega
    have n2 : ¬ Rat.divInt c d < Rat.divInt a b := fun z => by have := l2.mp z; omega
    exact Rat.le_antisymm (Rat.not_lt.mp n2) (Rat.not_lt.mp n1)
theorem one_div : Rat.divInt 1 1 = 1 := by decide +kernel
theorem split_div {a b : Int} (hb : 0 < b) : Rat.divInt a b = ((a / b : Int) : Rat) + Rat.divInt (a % b) b := by
  have pb := ratpos hb
  have nb : (b : Rat) ≠ 0 := by grind
  have e := Int.mul_ediv_add_emod a b
  have e3 : (a : Rat) = (b : Rat) * ((a / b : Int) : Rat) + ((a % b : Int) : Rat) := by
    rw [← Rat.intCast_mul, ← Rat.intCast_add, e]
  rw [Rat.divInt_eq_div, Rat.divInt_eq_div]
  generalize (a / b) = f at *
  generalize (a % b) = r at *
  generalize (a : Rat) = ar at *
  grind
theorem rest_lt {a b : Int} (hb : 0 < b) : Rat.divInt (a % b) b < 1 := by
  have h := (lt_cross (a := a % b) (b := b) (c := 1) (d := 1) hb (by decide)).mpr (by have := Int.emod_lt_of_pos a hb; omega)
  rw [one_div] at h
  exact h
theorem floor_div {a b : Int} (hb : 0 < b) : (Rat.divInt a b).floor = a / b := by
  rw [split_div hb]
  exact floor_add (divInt_ge0 (Int.emod_nonneg _ (by omega)) hb) (rest_lt hb)
theorem part_div {a b : Int} (hb : 0 < b) : partQ (Rat.divInt a b) = Rat.divInt (a % b) b := by
  rw [split_div hb]
  exact part_add (divInt_ge0 (Int.emod_nonneg _ (by omega)) hb) (rest_lt hb)
theorem div_zero_iff {a b : Int} (hb : 0 < b) : Rat.divInt a b = 0 ↔ a = 0 := by
  have h := eq_cross (a := a) (b := b) (c := 0) (d := 1) hb (by decide)
  have z : Rat.divInt 0 1 = 0 := by decide +kernel
  rw [z] at h
  rw [h]
  omega
theorem div_pos_iff {a b : Int} (hb : 0 < b) : 0 < Rat.divInt a b ↔ 0 < a := by
  have h := lt_cross (a := 0) (b := 1) (c := a) (d := b) (by decide) hb
  have z : Rat.divInt 0 1 = 0 := by decide +kernel
  rw [z] at h
  rw [h]
  omega
theorem half_cross {a b : Int} (hb : 0 < b) : (2 * (Rat.divInt a b).num = ((Rat.divInt a b).den : Int) ↔ 2 * a = b) ∧ (((Rat.divInt a b).den : Int) < 2 * (Rat.divInt a b).num ↔ b < 2 * a) := by
  have d0 : (0 : Int) < ((Rat.divInt a b).den : Int) := by have := (Rat.divInt a b).den_pos; omega
  have e : Rat.divInt (Rat.divInt a b).num ((Rat.divInt a b).den : Int) = Rat.divInt a b := Rat.num_divInt_den _
  have h1 := eq_cross (a := (Rat.divInt a b).num) (c := 1) (d := 2) d0 (by decide)
  have h2 := eq_cross (a := a) (c := 1) (d := 2) hb (by decide)
  have h3 := lt_cross (a := 1) (b := 2) (c := (Rat.divInt a b).num) (by decide) d0
  have h4 := lt_cross (a := 1) (b := 2) (c := a) (d := b) (by decide) hb
  rw [e] at h1 h3
  rw [h1] at h2
  rw [h3] at h4
  omega
theorem part_zeroD {a b : Int} (hb : 0 < b) : (partQ (Rat.divInt a b)).num = 0 ↔ a % b = 0 := by
  rw [part_div hb, Rat.num_eq_zero, div_zero_iff hb]
/-- half to even, as whole numbers tell it -/
theorem even_div {a b : Int} (hb : 0 < b) : takenQ .heven (Rat.divInt a b) = a / b + (if b < 2 * (a % b) ∨ (2 * (a % b) = b ∧ (a / b) % 2 = 1) then 1 else 0) := by
  unfold takenQ
  have z := part_zeroD (a := a) hb
  have h := half_cross (a := a % b) hb
  rw [floor_div hb]
  by_cases e : a % b = 0
  · rw [if_pos (z.mpr e), if_neg (by omega)]
    omega
  · rw [if_neg (fun w => e (z.mp w)), part_div hb]
    show (if nearerB (Rat.divInt (a % b) b) (decide ((a / b) % 2 = 1)) = true then _ else _) = _
    unfold nearerB
    by_cases t : 2 * (a % b) = b
    · rw [if_pos (h.1.mpr t)]
      by_cases o : (a / b) % 2 = 1
      · rw [if_pos (decide_eq_true o), if_pos (.inr ⟨t, o⟩)]
      · rw [if_neg (by simp [o]), if_neg (by omega)]; omega
    · rw [if_neg (fun w => t (h.1.mp w))]
      by_cases o : b < 2 * (a % b)
      · rw [if_pos (decide_eq_true (h.2.mpr o)), if_pos (.inl o)]
      · rw [if_neg (by simpa using fun w => o (h.2.mp w)), if_neg (by omega)]; omega
def sumQ : List Rat → Rat
  | [] => 0
  | x :: xs => x + sumQ xs
def FQ (us : List Rat) (i : Nat) : Rat := (us.map partQ).getD i 0
def sumF (us : List Rat) : Int := (us.map Rat.floor).sum
/-- how many parts go up -/
def kQ (us : List Rat) : Nat := (takenQ .heven (sumQ us) - sumF us).toNat
def fl (us : List Rat) (i : Nat) : Int := (us.map Rat.floor).getD i 0
def cntQ (us : List Rat) : List Int := (List.range us.length).map fun i => if rank (FQ us) us.length i < kQ us then fl us i + 1 else fl us i
theorem taken_le_of {r : Way} {x : Rat} {n : Int} (h : x ≤ (n : Rat)) : takenQ r x ≤ n := by
  have f := Rat.floor_le x
  unfold takenQ
  split
  · exact Rat.intCast_le_intCast.mp (by grind)
  · rename_i z
    have p : 0 < partQ x := by
      have := part_ge x
      have : partQ x ≠ 0 := fun w => z (by rw [w]; rfl)
      grind
    have : x.floor < n := Rat.intCast_lt_intCast.mp (by unfold partQ at p; grind)
    split <;> omega
theorem sum_parts : ∀ us : List Rat, sumQ us = ((sumF us : Int) : Rat) + sumQ (us.map partQ)
  | [] => by show (0 : Rat) = ((0 : Int) : Rat) + 0; decide +kernel
  | u :: us => by
    have ih := sum_parts us
    have e : sumF (u :: us) = u.floor + sumF us := by unfold sumF; rw [List.map_cons, List.sum_cons]
    rw [e, Rat.intCast_add]
    show u + sumQ us = _ + (partQ u + sumQ (us.map partQ))
    rw [ih]
    unfold partQ
    grind
theorem FQ_succ (u : Rat) (us : List Rat) (i : Nat) : FQ (u :: us) (i + 1) = FQ us i := by unfold FQ; rw [List.map_cons, List.getD_cons_succ]
theorem FQ_zero (u : Rat) (us : List Rat) : FQ (u :: us) 0 = partQ u := by unfold FQ; rw [List.map_cons, List.getD_cons_zero]
theorem parts_le : ∀ us : List Rat, sumQ (us.map partQ) ≤ ((((List.range us.length).filter fun j => decide (0 < FQ us j)).length : Int) : Rat)
  | [] => by show (0 : Rat) ≤ ((0 : Int) : Rat); decide +kernel
  | u :: us => by
    have ih := parts_le us
    rw [List.length_cons, List.range_succ_eq_map, List.filter_cons, FQ_zero, List.filter_map]
    have e : ((fun j => decide (0 < FQ (u :: us) j)) ∘ Nat.succ) = fun j => decide (0 < FQ us j) := by
      funext j
      show decide (0 < FQ (u :: us) (j + 1)) = _
      rw [FQ_succ]
    rw [e]
    show partQ u + sumQ (us.map partQ) ≤ _
    have g := part_ge u
    have l := part_lt u
    generalize ((List.range us.length).filter fun j => decide (0 < FQ us j)) = m at *
    by_cases p : 0 < partQ u
    · rw [if_pos (decide_eq_true p), List.length_cons, List.length_map, Int.natCast_add, Rat.intCast_add]
      show _ ≤ _ + (1 : Rat)
      grind
    · rw [if_neg (by rw [decide_eq_true_eq]; exact p), List.length_map]
      grind
theorem k_left {us : List Rat} : (kQ us : Int) = takenQ .heven (sumQ us) - sumF us := by
  have a := sum_parts us
  have c : (0 : Rat) ≤ sumQ (us.map partQ) := by
    clear a
    induction us with
    | nil => exact Rat.le_refl
    | cons u us ih =>
      have := part_ge u
      show 0 ≤ partQ u + sumQ (us.map partQ)
      grind
  have d : sumF us ≤ (sumQ us).floor := Rat.le_floor_iff.mpr (by rw [a]; grind)
  have e : (sumQ us).floor ≤ takenQ .heven (sumQ us) := by
    unfold takenQ
    split
    · exact Int.le_refl _
    · split <;> omega
  unfold kQ
  omega
/-- none goes up but one that is no multiple -/
theorem k_le (us : List Rat) : kQ us ≤ ((List.range us.length).filter fun j => decide (0 < FQ us j)).length := by
  have a := sum_parts us
  have b := parts_le us
  have c : takenQ .heven (sumQ us) ≤ sumF us + (((List.range us.length).filter fun j => decide (0 < FQ us j)).length : Int) := taken_le_of (by rw [a, Rat.intCast_add]; grind)
  have d := k_left (us := us)
  omega
theorem FQ_ge (us : List Rat) (i : Nat) : 0 ≤ FQ us i := by
  unfold FQ
  rw [List.getD_eq_getElem?_getD, List.getElem?_map]
  cases us[i]? with
  | none => exact Rat.le_refl
  | some u => exact part_ge u
theorem FQ_lt (us : List Rat) (i : Nat) : FQ us i < 1 := by
  unfold FQ
  rw [List.getD_eq_getElem?_getD, List.getElem?_map]
  cases us[i]? with
  | none => show (0 : Rat) < 1; decide +kernel
  | some u => exact part_lt u
theorem up_pos {us : List Rat} {i : Nat} (hi : i < us.length) (h : rank (FQ us) us.length i < kQ us) : 0 < FQ us i := by
  have g := FQ_ge us i
  refine Classical.byContradiction fun z => ?_
  have z0 : FQ us i = 0 := by grind
  have := zero_rank hi (FQ_ge us) z0
  have := k_le us
  omega
theorem k_len (us : List Rat) : kQ us ≤ us.length := Nat.le_trans (k_le us) (by
  have := List.length_filter_le (fun j => decide (0 < FQ us j)) (List.range us.length)
  rw [List.length_range] at this
  exact this)
theorem sum_if (f : Nat → Int) (p : Nat → Bool) : ∀ l : List Nat, (l.map fun i => if p i = true then f i + 1 else f i).sum = (l.map f).sum + ((l.filter p).length : Int)
  | [] => rfl
  | i :: l => by
    rw [List.map_cons, List.sum_cons, List.map_cons, List.sum_cons, sum_if f p l, List.filter_cons]
    by_cases h : p i = true
    · rw [if_pos h, if_pos h, List.length_cons]; omega
    · rw [if_neg h, if_neg h]; omega
theorem fl_map (us : List Rat) : (List.range us.length).map (fl us) = us.map Rat.floor := by
  refine List.ext_getElem? fun i => ?_
  rw [List.getElem?_map, List.getElem?_map]
  by_cases h : i < us.length
  · rw [List.getElem?_range h]
    unfold fl
    rw [List.getElem?_eq_getElem h]
    simp [h]
  · rw [List.getElem?_eq_none (by rw [List.length_range]; omega), List.getElem?_eq_none (by omega)]
    rfl
/-- together the steps of the sum -/
theorem cnt_sum (us : List Rat) : (cntQ us).sum = takenQ .heven (sumQ us) := by
  have e : cntQ us = (List.range us.length).map fun i => if decide (rank (FQ us) us.length i < kQ us) = true then fl us i + 1 else fl us i := by
    unfold cntQ
    refine List.map_congr_left fun i _ => ?_
    by_cases h : rank (FQ us) us.length i < kQ us
    · rw [if_pos h, if_pos (decide_eq_true h)]
    · rw [if_neg h, if_neg (by simpa using h)]
  rw [e, sum_if (fl us) (fun i => decide (rank (FQ us) us.length i < kQ us)), fl_map, rank_count (FQ us) (k_len us)]
  have := k_left (us := us)
  unfold sumF at this
  omega
/-- what a paper is -/
structure PapOk (us : List Rat) (w : Rat) : Prop where
  lo : 0 ≤ w
  hi : w ≤ 1
  up : ∀ i, i < us.length → rank (FQ us) us.length i < kQ us → w ≤ FQ us i
  dn : ∀ i, i < us.length → ¬ rank (FQ us) us.length i < kQ us → FQ us i ≤ w
theorem pap_ok {us : List Rat} {L : List Nat} {w : Rat} (o : Ord (FQ us) us.length L) (h : w = match (L.take (kQ us)).getLast? with | none => 1 | some i => FQ us i) : PapOk us w := by
  have kl := k_len us
  have ll := o.len
  by_cases k0 : kQ us = 0
  · rw [k0, List.take_zero] at h
    have h' : w = 1 := h
    subst h'
    refine ⟨by decide +kernel, Rat.le_refl, fun i _ z => by omega, fun i _ _ => Rat.le_of_lt (FQ_lt us i)⟩
  · have lt : kQ us - 1 < L.length := by omega
    have e : (L.take (kQ us)).getLast? = some L[kQ us - 1] := by
      rw [List.getLast?_eq_getElem?, List.length_take, List.getElem?_take, Nat.min_eq_left (by omega), if_pos (by omega), List.getElem?_eq_getElem lt]
    rw [e] at h
    have h' : w = FQ us L[kQ us - 1] := h
    have r := o.rank_at lt
    have m := o.mem.mp (List.getElem_mem lt)
    subst h'
    refine ⟨FQ_ge us _, Rat.le_of_lt (FQ_lt us _), fun i hi z => ?_, fun i hi z => ?_⟩
    · refine Rat.not_lt.mp fun c => ?_
      have := (rank_lt m hi).mpr (.inl c)
      omega
    · refine Rat.not_lt.mp fun c => ?_
      have := (rank_lt hi m).mpr (.inl c)
      omega
theorem told_cnt {us : List Rat} {L : List Nat} (o : Ord (FQ us) us.length L) : (List.range us.length).map (fun i => if i ∈ L.take (kQ us) then (us.map Rat.floor).getD i 0 + 1 else (us.map Rat.floor).getD i 0) = cntQ us := by
  unfold cntQ
  refine List.map_congr_left fun i hi => ?_
  have hi' := List.mem_range.mp hi
  by_cases h : rank (FQ us) us.length i < kQ us
  · rw [if_pos h, if_pos ((o.take_iff hi').mpr h)]; rfl
  · rw [if_neg h, if_neg (fun z => h ((o.take_iff hi').mp z))]; rfl
theorem cnt_len (us : List Rat) : (cntQ us).length = us.length := by unfold cntQ; rw [List.length_map, List.length_range]
theorem cnt_at {us : List Rat} {i : Nat} (h : i < us.length) : (cntQ us)[i]? = some (if rank (FQ us) us.length i < kQ us then fl us i + 1 else fl us i) := by
  unfold cntQ
  rw [List.getElem?_map, List.getElem?_range h]
  rfl
theorem FQ_at {us : List Rat} {i : Nat} {u : Rat} (h : us[i]? = some u) : FQ us i = partQ u := by
  unfold FQ
  rw [List.getD_eq_getElem?_getD, List.getElem?_map, h]
  rfl
theorem fl_at {us : List Rat} {i : Nat} {u : Rat} (h : us[i]? = some u) : fl us i = u.floor := by
  unfold fl
  rw [List.getD_eq_getElem?_getD, List.getElem?_map, h]
  rfl
/-- whether a count goes with its part and the paper -/
def putB (u : Rat) (c : Int) (w : Rat) : Bool :=
  if (u - (c : Rat)).num = 0 then true
  else if 0 < (u - (c : Rat)).num then decide (u - (c : Rat) < 1) && !decide (w < u - (c : Rat))
  else decide (0 < (u - (c : Rat) + 1).num) && !decide (u - (c : Rat) + 1 < w)
def roundB (u : Rat) (c : Int) : Bool :=
  if 2 * ((u.num - c * (u.den : Int)).natAbs : Int) = (u.den : Int) then decide (c % 2 = 0) else decide (2 * ((u.num - c * (u.den : Int)).natAbs : Int) < (u.den : Int))
theorem num_posQ {x : Rat} : 0 < x.num ↔ 0 < x := by
  have a := Rat.num_nonneg (q := x)
  have b := Rat.num_eq_zero (q := x)
  constructor
  · intro h
    have h1 := a.mp (by omega)
    have : x ≠ 0 := fun z => by have := b.mpr z; omega
    grind
  · intro h
    have h1 := a.mpr (Rat.le_of_lt h)
    have : x.num ≠ 0 := fun z => by have := b.mp z; rw [this] at h; exact Rat.lt_irrefl h
    omega
theorem put_told {us : List Rat} {w : Rat} (hw : PapOk us w) {i : Nat} {u : Rat} {c : Int} (hu : us[i]? = some u) (hc : (cntQ us)[i]? = some c) : putB u c w = true := by
  have hi : i < us.length := (List.getElem?_eq_some_iff.mp hu).1
  rw [cnt_at hi] at hc
  have hF := FQ_at hu
  have hf := fl_at hu
  have g := part_ge u
  have l := part_lt u
  obtain rfl := Option.some.inj hc
  rw [hf]
  have eP : u - ((u.floor : Int) : Rat) = partQ u := rfl
  unfold putB
  by_cases r : rank (FQ us) us.length i < kQ us
  · rw [if_pos r]
    have p := up_pos hi r
    have wl := hw.up i hi r
    rw [hF] at p wl
    have e : u - ((u.floor + 1 : Int) : Rat) = partQ u - 1 := by rw [Rat.intCast_add]; show u - ((u.floor : Rat) + 1) = _; grind
    have e2 : partQ u - 1 + 1 = partQ u := by grind
    rw [e, e2]
    have n1 : ¬ (partQ u - 1).num = 0 := num_ne (by grind)
    have n2 : ¬ 0 < (partQ u - 1).num := fun z => by
      have := num_posQ.mp z
      grind
    rw [if_neg n1, if_neg n2, decide_eq_true (num_posQ.mpr p), decide_eq_false (Rat.not_lt.mpr wl)]
    rfl
  · rw [if_neg r, eP]
    have wl := hw.dn i hi r
    rw [hF] at wl
    by_cases z : (partQ u).num = 0
    · rw [if_pos z]
    · have p : 0 < (partQ u).num := by
        have := Rat.num_nonneg.mpr g
        omega
      rw [if_neg z, if_pos p, decide_eq_true l, decide_eq_false (Rat.not_lt.mpr wl)]
      rfl
theorem round_iff (u : Rat) (c : Int) : roundB u c = decide (c = takenQ .heven u) := by
  have d0 : (0 : Int) < (u.den : Int) := by have := u.den_pos; omega
  have e : Rat.divInt u.num (u.den : Int) = u := Rat.num_divInt_den u
  have h := even_div (a := u.num) d0
  rw [e] at h
  rw [h]
  unfold roundB
  have m := Int.mul_ediv_add_emod u.num (u.den : Int)
  have r0 := Int.emod_nonneg u.num (show (u.den : Int) ≠ 0 by omega)
  have r1 := Int.emod_lt_of_pos u.num d0
  generalize (u.den : Int) = b at *
  generalize u.num = a at *
  generalize a % b = r at *
  generalize a / b = q at *
  have x : a - c * b = b * (q - c) + r := by rw [← m, Int.mul_sub, Int.mul_comm c b]; omega
  rw [x]
  generalize hd : q - c = d at *
  rcases Int.lt_trichotomy d 0 with t | t | t
  · by_cases t1 : d = -1
    · subst t1
      rw [Int.mul_neg, Int.mul_one]
      by_cases s : 2 * ((-b + r).natAbs : Int) = b
      · rw [if_pos s, decide_eq_decide]
        split <;> omega
      · rw [if_neg s, decide_eq_decide]
        split <;> omega
    · have y : b * d ≤ b * (-2) := Int.mul_le_mul_of_nonneg_left (by omega) (by omega)
      generalize b * d = z at *
      rw [if_neg (by omega), decide_eq_decide]
      split <;> omega
  · subst t
    rw [Int.mul_zero]
    by_cases s : 2 * ((0 + r).natAbs : Int) = b
    · rw [if_pos s, decide_eq_decide]
      split <;> omega
    · rw [if_neg s, decide_eq_decide]
      split <;> omega
  · have y : b * 1 ≤ b * d := Int.mul_le_mul_of_nonneg_left (by omega) (by omega)
    generalize b * d = z at *
    rw [if_neg (by omega), decide_eq_decide]
    split <;> omega
end My

namespace My
/-! ### the best of the left ones, turn by turn -/
def leftL (us : List Rat) (j : Nat) : List Nat := (List.range us.length).filter fun i => decide (j ≤ rank (FQ us) us.length i)
theorem left_zero (us : List Rat) : leftL us 0 = List.range us.length := List.filter_eq_self.mpr fun i _ => by simp
theorem left_mem {us : List Rat} {j i : Nat} : i ∈ leftL us j ↔ i < us.length ∧ j ≤ rank (FQ us) us.length i := by
  unfold leftL
  rw [List.mem_filter, List.mem_range, decide_eq_true_eq]
theorem left_pw (us : List Rat) (j : Nat) : (leftL us j).Pairwise (· < ·) := List.Pairwise.filter _ List.pairwise_lt_range
theorem left_nodup (us : List Rat) (j : Nat) : (leftL us j).Nodup := (left_pw us j).imp fun h => Nat.ne_of_lt h
theorem left_ne {us : List Rat} {j : Nat} (h : j < us.length) : 0 < (leftL us j).length := by
  obtain ⟨i, hi, r⟩ := rank_there (FQ us) h
  exact List.length_pos_of_mem (left_mem.mpr ⟨hi, by omega⟩)
/-- the best one of the first i of the left ones -/
def BestI (us : List Rat) (j i b : Nat) : Prop := (∃ p, (leftL us j)[p]? = some b ∧ p ≤ i) ∧ ∀ m v, m < i → (leftL us j)[m]? = some v → ¬ bef (FQ us) v b
theorem best_step {us : List Rat} {j i b k : Nat} (h : BestI us j i b) (hk : (leftL us j)[i]? = some k) : (FQ us b < FQ us k → BestI us j (i + 1) k) ∧ (¬ FQ us b < FQ us k → BestI us j (i + 1) b) := by
  obtain ⟨⟨p, hp, pi⟩, hm⟩ := h
  constructor
  · intro l
    refine ⟨⟨i, hk, Nat.le_succ _⟩, fun m v ml hv => ?_⟩
    by_cases e : m = i
    · subst e
      rw [hk] at hv
      rw [Option.some.inj hv]
      exact bef_irr
    · have := hm m v (by omega) hv
      unfold bef at this ⊢
      intro z
      rcases z with z | ⟨z, _⟩
      · exact this (.inl (by grind))
      · exact this (.inl (by grind))
  · intro l
    refine ⟨⟨p, hp, by omega⟩, fun m v ml hv => ?_⟩
    by_cases e : m = i
    · subst e
      rw [hk] at hv
      obtain rfl := Option.some.inj hv
      unfold bef
      intro z
      rcases z with z | ⟨z, zl⟩
      · exact l z
      · by_cases e2 : p = m
        · subst e2
          rw [hk] at hp
          have := Option.some.inj hp
          omega
        · obtain ⟨hp1, hp2⟩ := List.getElem?_eq_some_iff.mp hp
          obtain ⟨hk1, hk2⟩ := List.getElem?_eq_some_iff.mp hk
          have := List.pairwise_iff_getElem.mp (left_pw us j) p m hp1 hk1 (by omega)
          omega
    · exact hm m v (by omega) hv
theorem best_end {us : List Rat} {j b : Nat} (hj : j < us.length) (h : BestI us j (leftL us j).length b) : rank (FQ us) us.length b = j ∧ b < us.length := by
  obtain ⟨⟨p, hp, _⟩, hm⟩ := h
  have mb := left_mem.mp (List.mem_of_getElem? hp)
  refine ⟨best_rank hj mb.1 mb.2 fun i hi r => ?_, mb.1⟩
  obtain ⟨m, hv⟩ := List.getElem?_of_mem (left_mem.mpr ⟨hi, r⟩)
  exact hm m i (List.getElem?_eq_some_iff.mp hv).1 hv
theorem erase_at {l : List Nat} {p b : Nat} (nd : l.Nodup) (h : l[p]? = some b) : l.eraseIdx p = l.filter fun i => decide (i ≠ b) := by
  obtain ⟨hp, e⟩ := List.getElem?_eq_some_iff.mp h
  have el : l = l.take p ++ b :: l.drop (p + 1) := by
    rw [← e, List.getElem_cons_drop, List.take_append_drop]
  rw [List.eraseIdx_eq_take_drop_succ]
  have nd' := nd
  rw [el] at nd'
  have n1 := List.nodup_append.mp nd'
  have n2 := List.nodup_cons.mp n1.2.1
  conv => rhs; rw [el]
  rw [List.filter_append, List.filter_cons, if_neg (by simp)]
  rw [List.filter_eq_self.mpr, List.filter_eq_self.mpr]
  · intro x hx
    exact decide_eq_true fun z => n2.1 (z ▸ hx)
  · intro x hx
    exact decide_eq_true fun z => n1.2.2 x hx b (List.mem_cons_self ..) z
theorem left_erase {us : List Rat} {j p b : Nat} (h : (leftL us j)[p]? = some b) (r : rank (FQ us) us.length b = j) (hb : b < us.length) : (leftL us j).eraseIdx p = leftL us (j + 1) := by
  rw [erase_at (left_nodup us j) h]
  unfold leftL
  rw [List.filter_filter]
  refine List.filter_congr fun i hi => ?_
  have hi' := List.mem_range.mp hi
  rw [Bool.eq_iff_iff, Bool.and_eq_true, decide_eq_true_eq, decide_eq_true_eq, decide_eq_true_eq]
  constructor
  · rintro ⟨h1, h2⟩
    refine Classical.byContradiction fun z => h1 ?_
    exact rank_inj (F := FQ us) hi' hb (by omega)
  · intro h1
    refine ⟨fun z => ?_, by omega⟩
    subst z
    omega
theorem left_first {us : List Rat} {j p b : Nat} (h : (leftL us j)[p]? = some b) {m : Nat} (hm : m < p) : (leftL us j)[m]? ≠ some b := by
  intro z
  obtain ⟨h1, e1⟩ := List.getElem?_eq_some_iff.mp h
  obtain ⟨h2, e2⟩ := List.getElem?_eq_some_iff.mp z
  have := List.pairwise_iff_getElem.mp (left_pw us j) m p h2 h1 hm
  omega
def midL (us : List Rat) (j : Nat) : List Int := (List.range us.length).map fun i => if rank (FQ us) us.length i < j then fl us i + 1 else fl us i
theorem mid_zero (us : List Rat) : midL us 0 = us.map Rat.floor := by
  rw [← fl_map]
  unfold midL
  exact List.map_congr_left fun i _ => if_neg (Nat.not_lt_zero _)
theorem mid_end (us : List Rat) : midL us (kQ us) = cntQ us := rfl
theorem mid_len (us : List Rat) (j : Nat) : (midL us j).length = us.length := by unfold midL; rw [List.length_map, List.length_range]
theorem mid_at {us : List Rat} {j i : Nat} (h : i < us.length) : (midL us j)[i]? = some (if rank (FQ us) us.length i < j then fl us i + 1 else fl us i) := by
  unfold midL
  rw [List.getElem?_map, List.getElem?_range h]
  rfl
theorem mid_step {us : List Rat} {j b : Nat} (hb : b < us.length) (r : rank (FQ us) us.length b = j) : (midL us j)[b]? = some (fl us b) ∧ (midL us j).set b (fl us b + 1) = midL us (j + 1) := by
  refine ⟨by rw [mid_at hb, if_neg (by omega)], List.ext_getElem? fun i => ?_⟩
  rw [List.getElem?_set]
  by_cases e : b = i
  · subst e
    rw [if_pos rfl, if_pos (by rw [mid_len]; exact hb), mid_at hb, if_pos (by omega)]
  · rw [if_neg e]
    by_cases hi : i < us.length
    · rw [mid_at hi, mid_at hi]
      have : rank (FQ us) us.length i ≠ j := fun z => e (rank_inj (F := FQ us) hb hi (by omega))
      by_cases c : rank (FQ us) us.length i < j
      · rw [if_pos c, if_pos (by omega)]
      · rw [if_neg c, if_neg (by omega)]
    · rw [List.getElem?_eq_none (by rw [mid_len]; omega), List.getElem?_eq_none (by rw [mid_len]; omega)]
end My

/-! ### isinstance of a def -/
namespace PySem
open Sem (wp)
namespace F
theorem my_slot_function_ga : Slot "function" "__getattribute__" "object.__getattribute__" :=
  .of (owner := "object") (n := "__getattribute__") (by rw [typeLookup_type, builtinLookup_eq_fast]; kernel_rfl) (by decide +kernel) (by decide +kernel) (by decide +kernel)
    (by first | exact .inl (by decide +kernel) | exact .inr (by decide +kernel)) (by rw [isSubtype_type]; kernel_rfl)
theorem my_lk_function_class : typeLookup (.type "function") "__class__" = pure (some (.builtin "object.__class__")) := by rw [typeLookup_type, builtinLookup_eq_fast]; kernel_rfl
theorem my_sub_function_owner : isSubtype (.type "function") (.type (".".intercalate ("object.__class__".cutAt '.').dropLast)) = pure true := by
  rw [owner_object_class, isSubtype_type]; kernel_rfl
end F
section
variable {prog : Program} {w : World} {A : Around} {E : Value → Shared → Prop} {h : Heap} {g : Array GenState} {d : Drawn} {t : Nat} {os : OsState} {a : Addr} {o : Obj}
theorem my_class_get_fun {R : Result → Shared → Prop} (hx : h.get? a = some o) (hc : o.cls = .type "function") (hq : R (.ok (.ret (.type "function"))) ⟨h, g, d, t, os⟩) :
    codeAny (model prog w) A (.call (.builtin "getset_descriptor.__get__") ⟨[.builtin "object.__class__", .ref a, .type "function"], []⟩) R ⟨h, g, d, t, os⟩ := by
  have hT : (⟨h, g, d, t, os⟩ : Shared).TypeIs (.ref a) "function" := ⟨_, hx, hc⟩
  have hT5 : (⟨h, g, d, t, os⟩ : Shared).TypeIs (.builtin "object.__class__") "getset_descriptor" := F.typeOf_object_class
  have f8 := F.my_sub_function_owner
  refine codeAny_call_builtin F.slot_gs_get.plain F.entry_gs_get (F.slot_gs_get.check _ _ _ _ _ _ _ _ hT5 (F.args_gs_get _ _ _) ?_)
  repeat (any_goals (first | assumption | wp_step))
  refine ⟨Code.quiet_builtin _ (by decide +kernel), codeAny_builtin F.entry_object_class ?_⟩
  repeat (any_goals (first | assumption | wp_step))
theorem my_class_entry_fun {tk : Tok} {Q : Fin → Shared → Prop} (hx : h.get? a = some o) (hc : o.cls = .type "function") (hq : Q (.done (.ret (.type "function"))) ⟨h, g, d, t, os⟩) :
    wpAny (model prog w) A (Builtin.«object.__getattribute__» ⟨[.ref a, .str "__class__" tk], []⟩) Q E ⟨h, g, d, t, os⟩ := by
  have hT : (⟨h, g, d, t, os⟩ : Shared).TypeIs (.ref a) "function" := ⟨_, hx, hc⟩
  have hT5 : (⟨h, g, d, t, os⟩ : Shared).TypeIs (.builtin "object.__class__") "getset_descriptor" := F.typeOf_object_class
  have f4 := F.my_lk_function_class
  have f5 := F.typeOf_object_class
  have f6 := F.slot_gs_get.lookup
  have f7 := F.slot_gs_set.lookup
  repeat (any_goals (first | assumption | wp_step))
  refine my_class_get_fun hx hc ?_
  repeat (any_goals (first | assumption | wp_step))
theorem my_class_call_fun {tk : Tok} {R : Result → Shared → Prop} (hx : h.get? a = some o) (hc : o.cls = .type "function") (hq : R (.ok (.ret (.type "function"))) ⟨h, g, d, t, os⟩) :
    codeAny (model prog w) A (.call (.builtin "object.__getattribute__") ⟨[.ref a, .str "__class__" tk], []⟩) R ⟨h, g, d, t, os⟩ :=
  codeAny_call_builtin F.my_slot_function_ga.plain F.entry_object_getattribute (F.my_slot_function_ga.check _ _ _ _ _ _ _ _ (show (⟨h, g, d, t, os⟩ : Shared).TypeIs (.ref a) "function" from ⟨_, hx, hc⟩) (F.args_object_getattribute_2 _ _) (my_class_entry_fun hx hc hq))
theorem my_class_by_fun {tk : Tok} {Q : Value → Shared → Prop} (hx : h.get? a = some o) (hc : o.cls = .type "function") (hq : Q (.type "function") ⟨h, g, d, t, os⟩) : wpAny (model prog w) A (getAttrBy (.ref a) (.str "__class__" tk) false) Q E ⟨h, g, d, t, os⟩ := by
  have hT : (⟨h, g, d, t, os⟩ : Shared).TypeIs (.ref a) "function" := ⟨_, hx, hc⟩
  have f2 := F.my_slot_function_ga.lookup
  have f3 := F.my_slot_function_ga.bind (.ref a)
  repeat (any_goals (first | assumption | wp_step))
  refine my_class_call_fun hx hc ?_
  repeat (any_goals (first | assumption | wp_step))
theorem my_class_attr_fun {Q : Option Value → Shared → Prop} (hx : h.get? a = some o) (hc : o.cls = .type "function") (hq : Q (some (.type "function")) ⟨h, g, d, t + 1, os⟩) : wpAny (model prog w) A (getAttr? (.ref a) "__class__") Q E ⟨h, g, d, t, os⟩ := by
  unfold getAttr? getAttrBy?
  repeat (any_goals (first | assumption | with_reducible apply my_class_by_fun hx hc | wp_step))
end
end PySem
namespace PySem.W
theorem my_kitx_fun {K : Frag} {a : Addr} : KitX K (.ref a) (.type "function") (KitAt a "function") := kitx_of kitAt_ty (fun {_ _ _ _ _ s} p k => by obtain ⟨h, g, d, t, os⟩ := s; obtain ⟨o, h1, h2⟩ := p; exact my_class_attr_fun h1 h2 k)
end PySem.W

namespace My
open PySem L2
/-- isinstance of a def of the module's top -/
def rIsiF (K : PySem.W.Frag) : List V → Hp → VK → Prop := fun xs H Q => ∃ (a : Addr) (o : Obj) (n : String) (b : Bool), xs = [.ref a, .ty n] ∧ K.lookup a = some o ∧ o.cls = .type "function" ∧ PySem.W.kitOne K (.type "function") (.type n) = some b ∧ Q (.bl b) H
theorem call_isiF {X : Cx} : CallR X (.builtin "isinstance") (rIsiF X.K) := by
  intro pins s σ H xs us Q I r h
  obtain ⟨a, o, n, b, rfl, hl, hc, e, q⟩ := h
  obtain ⟨u1, u2, rfl, r1, r2⟩ := vals2 r
  have e2 := (ClsV.ty n).eq r2
  subst e2
  cases (show u1 = Value.ref a from r1)
  exact PySem.W.kia_one PySem.W.my_kitx_fun I.kIn ⟨o, I.kIn _ _ hl, hc⟩ e (fun z => nomatch z) fun tk => ⟨.bl b, H, I.tok tk, rfl, q⟩
theorem fun_str {K : PySem.W.Frag} {H : Hp} {a : Addr} {Q : VK} (h : ∃ o, K.lookup a = some o ∧ o.cls = .type "function") (q : Q (.bl false) H) : rIsiF K [.ref a, .ty "str"] H Q :=
  let ⟨o, h1, h2⟩ := h
  ⟨a, o, "str", false, rfl, h1, h2, kit_ty (by decide +kernel), q⟩
end My

namespace My
open PySem L2
/-! ### == and != of two objects of an own class with an own == -/
section
variable {X : Cx} {C f : Addr} {fd : FuncData} {ps : List Str} {n : Nat} {sp : Sp}
/-- the own == as it runs, within X or one builtin deeper -/
theorem run_eq {A : Around} {pins : List (Addr × Obj)} {σ : L2.St} {H : Hp} {s : Shared} {a b : Addr} {Q : VK} {E : XK} (F : FnOk X.prog X.w X.K X.mg X.base CX0 n f fd ps sp) (hb : Binds X.K fd ps []) (hr : Room n A) (hfr : A.frames = X.A.frames)
    (I : Inv X pins σ H s) (h : sp [.ref a, .ref b] H Q E) : wpAny (model X.prog X.w) A (call (.ref f) [.ref a, .ref b]) (EP X pins σ Q) X.xe s := by
  have w0 := I.env0
  have w1 : Env0 X.prog X.w X.K X.mg X.base A X.stack s H := ⟨hfr.trans w0.frames, w0.mod, w0.bs, w0.bsz, w0.funs, w0.frf, w0.hok, w0.bare⟩
  have len2 : 2 = ps.length := F.len _ _ _ _ h
  have bnd : BindsTo s fd ⟨[.ref a, .ref b], []⟩ (ps.zip [.ref a, .ref b]) := by
    have q := hb s [.ref a, .ref b] I.kIn (by simpa using len2)
    simpa using q
  refine wpAny_call (codeAny_mono (F.run A X.stack s H ⟨[.ref a, .ref b], []⟩ [.ref a, .ref b] [.ref a, .ref b] Q E hr w1 bnd (.cons rfl (.cons rfl .nil)) h) ?_)
  intro r s' z
  match r, z with
  | .error _, z => exact z.elim
  | .ok (.ret u), z => exact I.after z
/-- a == b -/
def rEqOwn (C : Addr) (sp : Sp) : R2 := fun x y H Q => ∃ (a b dx dy : Addr) (fs gs : List (Str × V)), x = .ref a ∧ y = .ref b ∧ H a = some (.ins C dx fs) ∧ H b = some (.ins C dy gs) ∧ sp [.ref a, .ref b] H (fun v H' => ∃ k, v = .bl k ∧ Q (.bl k) H') E0
theorem op_eqOwn (F : FnOk X.prog X.w X.K X.mg X.base CX0 n f fd ps sp) (hs : PySem.W.findIn X.K (.ref C) "__eq__" = some (some (.ref f))) (hf : PySem.W.isFn X.K (.ref f) = true) (hb : Binds X.K fd ps []) (hr : Room n X.A) :
    OpR X (compareOp .Eq) (rEqOwn C sp) := by
  rintro pins s σ H x y v u Q I rx ry ⟨a, b, dx, dy, fs, gs, rfl, rfl, ha, hb', q⟩
  cases rx
  cases ry
  obtain ⟨_, J1, _⟩ := ins_get I.hok ha
  obtain ⟨_, J2, _⟩ := ins_get I.hok hb'
  obtain ⟨_, K1, _⟩ := J1.look
  obtain ⟨_, K2, _⟩ := J2.look
  obtain ⟨_, fr⟩ := I.fr
  show wpAny (model X.prog X.w) X.A (richCompare .Eq (.ref a) (.ref b)) _ _ s
  refine PySem.W.cmp_K (op := .Eq) (tb := .ref C) hr.units0 fr I.ok.mod.kin K1 K2.type (by simp [PySem.W.notFirst]) hs hf ?_
  refine thn (run_eq F hb hr rfl I q) ?_
  rintro w s' ⟨z, H', I', rz, k, rfl, qk⟩
  cases rz
  exact ⟨.bl k, H', I', rfl, qk⟩
/-- a != b, no own != -/
def rNeOwn (C : Addr) (sp : Sp) : R2 := fun x y H Q => ∃ (a b dx dy : Addr) (fs gs : List (Str × V)), x = .ref a ∧ y = .ref b ∧ H a = some (.ins C dx fs) ∧ H b = some (.ins C dy gs) ∧ sp [.ref a, .ref b] H (fun v H' => ∃ k, v = .bl k ∧ Q (.bl (!k)) H') E0
theorem ne_run {P : Program} {w : World} {A : Around} {R : Fin → Shared → Prop} {E : Value → Shared → Prop} {K : PySem.W.Frag} {s : Shared} {a b C f : Addr} {ox : Obj} {od : Option Obj} (hu : A.units < cLine) (X : K.In s.heap) (I : PySem.W.InstAt s.heap a ox C od)
    (hs : PySem.W.findIn K (.ref C) "__eq__" = some (some (.ref f))) (hf : PySem.W.isFn K (.ref f) = true) (h : wpAny (model P w) A (call (.ref f) [.ref a, .ref b]) (fun v s' => ∃ k, v = .bool k ∧ R (.done (.ret (.bool (!k)))) s') E s) :
    wpAny (model P w) A (Builtin.«object.__ne__» ⟨[.ref a, .ref b], []⟩) R E s := by
  have e : Builtin.«object.__ne__» ⟨[.ref a, .ref b], []⟩ = (do
      cRoomFor "comparison" [.ref a, .ref b]
      let r ← callSpecialIfBound? (.ref a) "__eq__" [.ref b]
      match r with
      | some .notImplemented | none => PySem.ret .notImplemented
      | some r => PySem.ret (.bool (!(← truthy r)))) := by rfl
  rw [e]
  refine wpAny_bind (wpAny_cRoomFor hu ?_)
  refine wpAny_bind (PySem.W.ifBound_K X I hs hf (wpAny_mono h ?_ fun _ _ z => z))
  rintro v s' ⟨k, rfl, q⟩
  exact wpAny_bind (wpAny_truthy_bool (wpAny_pure q))
theorem op_neOwn (F : FnOk X.prog X.w X.K X.mg X.base CX0 n f fd ps sp) (hs : PySem.W.findIn X.K (.ref C) "__eq__" = some (some (.ref f))) (hf : PySem.W.isFn X.K (.ref f) = true) (hb : Binds X.K fd ps [])
    (hn : PySem.W.findIn X.K (.ref C) "__ne__" = some (some (.builtin "object.__ne__"))) (hm : PySem.W.mroIn X.K C (.type "object") = some true) (hr : Room (n + 1) X.A) :
    OpR X (compareOp .NotEq) (rNeOwn C sp) := by
  rintro pins s σ H x y v u Q I rx ry ⟨a, b, dx, dy, fs, gs, rfl, rfl, ha, hb', q⟩
  cases rx
  cases ry
  obtain ⟨_, J1, _⟩ := ins_get I.hok ha
  obtain ⟨_, J2, _⟩ := ins_get I.hok hb'
  obtain ⟨_, K1, _⟩ := J1.look
  obtain ⟨_, K2, _⟩ := J2.look
  have kin := I.kIn
  have sub : PySem.W.Looks (model X.prog X.w) s.heap (isInstance (.ref a) (.type "object")) true := K1.type.andThen (PySem.W.looks_mroIn kin hm)
  have r1 : Room n X.A.in1 := hr.in1
  have go : wpAny (model X.prog X.w) X.A (call (.builtin "object.__ne__") [.ref a, .ref b]) (fun v s' => v ≠ .notImplemented ∧ EP X pins σ Q v s') X.xe s := by
    refine wpAny_call (codeAny_call_builtin PySem.F.slot_tuple_iterator_ne.plain PySem.F.cmpEntry_ne (PySem.W.check_slot PySem.F.cmpKind_ne PySem.F.cmpSplit_ne sub (PySem.F.cmpArgs_ne _ _) ?_))
    refine ne_run r1.units0 kin K1 hs hf (thn (run_eq F hb r1 rfl I q) ?_)
    rintro w s' ⟨z, H', I', rz, k, rfl, qk⟩
    cases rz
    exact ⟨k, rfl, (fun z => by cases z), .bl (!k), H', I', rfl, qk⟩
  have one : wpAny (model X.prog X.w) X.A (tryCompare (.ref a) "__ne__" (.ref b)) (fun r s' => ∃ v, r = some v ∧ EP X pins σ Q v s') X.xe s := by
    unfold tryCompare
    refine wpAny_bind ?_
    simp only [callSpecialIfBound?, bindSpecialIfBound?]
    have bi : PySem.W.Looks (model X.prog X.w) s.heap (bindSpecial (.builtin "object.__ne__") (.ref a)) (.builtin "object.__ne__", [.ref a]) := PySem.W.Looks.of_pure (PySem.F.slot_tuple_iterator_ne.bind _)
    have last : wpAny (model X.prog X.w) X.A (call (.builtin "object.__ne__") ([.ref a] ++ [.ref b]) >>= fun v => pure (some v)) (fun r s' => wpAny (model X.prog X.w) X.A (match r with | some .notImplemented => pure none | none => pure none | some v => pure (some v)) (fun r s' => ∃ v, r = some v ∧ EP X pins σ Q v s') X.xe s') X.xe s := by
      refine wpAny_bind (thn go ?_)
      rintro v s' ⟨nv, ev⟩
      refine wpAny_pure ?_
      cases v <;> first | exact absurd rfl nv | exact wpAny_pure ⟨_, rfl, ev⟩
    refine wpAny_holding (wpAny_bind (wpAny_bind (wpAny_bind (K1.type.here ((PySem.W.looks_findIn kin hn).here ?_)))))
    refine wpAny_bind (wpAny_askSetting (wpAny_ite ?_))
    split
    · exact wpAny_bind (bi.here (wpAny_pure (by exact last)))
    · exact wpAny_tryCatch (wpAny_bind (bi.here (wpAny_pure (by exact last))))
  show wpAny (model X.prog X.w) X.A (richCompare .NotEq (.ref a) (.ref b)) _ _ s
  unfold richCompare
  simp only [oneThing_ref]
  refine wpAny_holding (wpAny_bind (wpAny_cRoomFor hr.units0 ?_))
  refine wpAny_bind (K1.type.here (wpAny_bind (K2.type.here ?_)))
  have e0 : (Value.ref C != Value.ref C) = false := by simp
  rw [e0]
  simp only [Bool.false_eq_true, if_false]
  refine wpAny_bind (wpAny_pure ?_)
  simp only [Bool.false_eq_true, if_false]
  refine wpAny_bind (wpAny_mono one ?_ fun _ _ z => z)
  rintro r s' ⟨v, rfl, q'⟩
  exact wpAny_pure q'
end
end My

namespace My
open PySem PySem.Spec PyProof.Rows L2
/-! ### promises where no repr is under way -/
/-- a promise of the def at f, for surroundings in which nothing is being shown -/
structure FnG (P : Program) (w : World) (K : PySem.W.Frag) (mg : Str → Option Value) (base : Heap) (k : Nat) (f : Addr) (fd : FuncData) (ps : List Str) (sp : Sp) : Prop where
  len : ∀ vs H Q E, sp vs H Q E → vs.length = ps.length
  run : ∀ (A : Around) (outer : List Env) (s : Shared) (H : Hp) (args : Args) (us : List Value) (vs : List V) (Q : VK) (E : XK), A.guards = some [] → Room k A → Env0 P w K mg base A outer s H → BindsTo s fd args (ps.zip us) → Vals vs us → sp vs H Q E →
    codeAny (model P w) A (.call (.ref f) args) (CR CX0 outer P w H s Q E) s
section
variable {P : Program} {w : World} {K : PySem.W.Frag} {mg : Str → Option Value} {base : Heap}
theorem FnG.by_body {x qual : Str} {st : Stmt} {f : Addr} {fd : FuncData} {N ps : List Str} {k : Nat} {sp : Sp} (F : Fun K x qual st f fd) (S : FnScope N ps (defScope st)) (len : ∀ vs H Q E, sp vs H Q E → vs.length = ps.length)
    (body : ∀ (cdv : Value) (A : Around) (outer : List Env) (s : Shared) (H : Hp) (vs : List V) (Q : VK) (E : XK), A.guards = some [] → Room k (A.deeper (envOfC qual (defScope st) s.heap.objs.size f cdv)) → sp vs H Q E →
      ∃ t, PSs (cxOf CX0 P w K mg base N qual (defScope st) f cdv A outer s H E).nox (defBody st) t ∧ t { nx := fun _ H' => Q .non H', rt := Q } (start N vs) H) : FnG P w K mg base (k + 1) f fd ps sp := by
  obtain ⟨_, _, _, _, _, _, cdv, _, _, rfl, look, code⟩ := F.ex
  constructor
  · exact len
  intro A outer s H args us vs Q E hg hr e0 hb rel hsp
  have n := len _ _ _ _ hsp
  have old : ∀ b o, base.get? b = some o → s.heap.get? b = some o := fun b o e => (e0.bs b o e).1
  have inK : K.In s.heap := e0.mod.kin.keeps old
  obtain ⟨t, ht, q⟩ := body cdv A outer s H vs Q E hg (hr.deeper _) hsp
  have named : ∀ y ∈ ps.zip us, (defScope st).names.lookup y.1 = some .local ∨ ((defScope st).names.lookup y.1 = some .cell ∧ ((cellsFrom (s.heap.objs.size + 1) (defScope st).names []).lookup y.1).isSome = true) := by
    rintro ⟨m, v⟩ hy
    exact (S.par m (List.of_mem_zip hy).1).imp (fun z => z) fun z => ⟨z, PySem.W.cellsFrom_some _ _ _ (.inl z)⟩
  refine codeAny_call_function hr.depth (inK _ _ look) rfl S.co S.gen rfl (PySem.W.codeRec_of inK code) (hb _ _ _ _ (wpAny_newFunctionEnv_cells S.kind named fun env he s1 z => ?_))
  subst he
  refine ⟨(e0.mod.nolimit.keeps old).keeps z.toInCall.keep, codeAny_func (wpAny_mono (ht.nox.run [] s1 (start N vs) H _ (inv_start S hr.hd e0 n rel z) q) ?_ fun _ _ h => h)⟩
  intro fl s' h
  match fl, h with
  | .ret u, ⟨v, σ', H', J, rv, q'⟩ => exact ⟨v, H', J.os, J.bare, J.base, J.hok, rv, q'⟩
  | .next, ⟨σ', H', J, q'⟩ => exact ⟨V.non, H', J.os, J.bare, J.base, J.hok, rfl, q'⟩
  | .brk, ⟨_, _, _, q'⟩ => exact q'.elim
  | .cont, ⟨_, _, _, q'⟩ => exact q'.elim
end
section
variable {X : Cx} {k : Nat} {f : Addr} {fd : FuncData} {ps : List Str} {sp : Sp} {dvs : List V} {ds : List Value} {E : XK} {x : Str} {p pos : Pos} {e : Expr} {es : List Expr} {t : TA}
/-- a call of such a def -/
theorem pe_callG (hA : X.A.guards = some []) (F : FnG X.prog X.w X.K X.mg X.base k f fd ps sp) (hr : Room k X.A) (hg : Gl X x) (hm : X.mg x = some (.ref f)) (hk : PySem.W.keepIn X.K (.ref f) = true) (hb : Binds X.K fd ps ds) (hd : Vals dvs ds) (hx : Passes CX0 X E)
    (ha : PA X (e :: es) t) (hdb : (x == ("__debug__" : Str)) = false := by decide) (he : starEach (e :: es) X.env = (false, eval e X.env) :: starEach es X.env := by rfl) (hpl : (backTo pos (starEach es X.env)).any (·.1) = false := by rfl) :
    PE X (.Call (.Name x p) (e :: es) [] pos) (tCall sp dvs E t) := by
  constructor
  intro pins s σ H Q I h
  refine wpAny_Call_Name_kw (ld_glob I hg hm ?_ hdb)
  refine PySem.W.callWith_K (h₀ := X.base) I.ok.mod.kin hk (thn (ha.run pos pins s σ H _ I h) ?_) he hpl
  rintro us s1 ⟨vs, H1, J, rel, q⟩
  refine ⟨J.kIn, ?_⟩
  have both := rel.append hd
  have n : (us ++ ds).length = ps.length := by rw [← both.length]; exact F.len _ _ _ _ q
  refine wpAny_call (codeAny_mono (F.run X.A X.stack s1 H1 ⟨us, []⟩ (us ++ ds) (vs ++ dvs) Q E hA hr J.env0 (hb s1 us J.kIn n) both q) ?_)
  intro r s' z
  match r, z with
  | .error _, z => exact hx pins σ H1 s1 _ s' J z
  | .ok (.ret _), z => exact J.after z
/-- repr of data -/
def rRepr (K : PySem.W.Frag) : List V → Hp → VK → Prop := fun xs H Q => ∃ (a : Addr) (d : PyData), xs = [.ref a] ∧ Dp K H (.ref a) d ∧ d.showable = true ∧ d.hasDict = false ∧ d.depth ≤ 60 ∧ d.shown.length ≤ sizeLine ∧ Q (.str d.shown) H
theorem call_repr (hA : X.A.guards = some []) (hu : X.A.units + 64 < cLine) : CallR X (.builtin "repr") (rRepr X.K) := by
  rintro pins s σ H xs us Q I r ⟨a, d, rfl, hd, hs, hn, hz, hl, q⟩
  obtain ⟨u, rfl, rx⟩ := vals1 r
  cases rx
  obtain ⟨as, rd⟩ := Dp.reads I d (.ref a) (.ref a) hd rfl
  exact repr_of_reads' rd hs (PyData.noDict_hsm hn) hA (by omega) (fun _ _ e => e) (fun h' u tk hk => ⟨.str d.shown, H, I.kept hk, ⟨_, rfl⟩, q⟩) hl
end
end My
namespace My
open PySem PySem.Spec PyProof.Rows L2
/-! ### the law's call, by such a promise -/
section
variable {P : Program} {w : World} {K : PySem.W.Frag} {mg mb : Str → Option Value} {k : Nat} {fa a : Addr} {fd : FuncData} {x : Str} {sp : Sp} {s₁ : Shared} {vs : List Value} {ns : List Int}
/-- with H tracked: nothing but the script, and not even this where it is the module's own -/
theorem law_with (KX : K.In s₁.heap) (hns : s₁.heap.Ns mainGlobals mg) (hb : s₁.heap.Ns builtinsNs mb) (hbb : ∀ x : Str, x ≠ "__name__" → mb x = bootBuiltins x) (hlim : s₁.heap.NoLimit) (hg : s₁.gens = #[])
    (ha : s₁.heap.get? a = some { cls := .type "list", data := .seq vs.toArray }) (hr : Room k callerA)
    (F : ∀ base : Heap, K.In base → base.Ns mainGlobals mg → FnG P w K mg base k fa fd [x] sp) (hbind : ∀ (s : Shared) (u : Value), BindsTo s fd ⟨[u], []⟩ [(x, u)])
    {H : Hp} (off : ∀ b, b ≠ a → H b = none) (own : K.lookup a ≠ none → H a = none) (frz : ∀ u, H a = some u → ∃ ob xs, u = .frz ob (.lst xs)) (hok : HOk P w H s₁.heap)
    (hsp : sp [.ref a] H (fun v _ => v = .bl true) fun _ _ _ => False) :
    codeAny (model P w) callerA (.call (.ref fa) ⟨[.ref a], []⟩) (fun r s' => r = .ok (.ret (.bool true)) ∧ OldK s₁.heap s'.heap ∧ s'.os = s₁.os ∧ AllBare s'.gens) s₁ := by
  have stays : ∀ {b : Addr} {o : Obj}, s₁.heap.get? b = some o → b ≠ a → (hidT s₁.heap H).get? b = some o := fun e n => hidT_get e (off _ n)
  have dicts : ∀ {b : Addr} {o : Obj} {es : Array DictEntry} {n : Nat}, s₁.heap.get? b = some o → o.data = .dict es n → b ≠ a := by
    rintro b o es n e d rfl
    rw [ha] at e
    cases e
    cases d
  have tables : ∀ {b : Addr} {m : Str → Option Value}, s₁.heap.Ns b m → (hidT s₁.heap H).Ns b m := fun {b m} h => by
    obtain ⟨o, es, n, e, d, r⟩ := h
    exact ⟨o, es, n, stays e (dicts e d), d, r⟩
  have inK : K.In (hidT s₁.heap H) := fun b o e => by
    by_cases z : b = a
    · subst z
      exact hidT_get (KX _ _ e) (own (by rw [e]; simp))
    · exact stays (KX _ _ e) z
  obtain ⟨mc, l1, l2⟩ := hlim
  have e0 : Env0 P w K mg (hidT s₁.heap H) callerA [] s₁ H :=
    ⟨rfl, ⟨inK, tables hns, ⟨mb, tables hb, hbb⟩, mc, tables l1, l2⟩, fun b o e => of_hidT e, Nat.le_of_eq (hidT_size _ _), trivial, fun b hb => absurd (show b ∈ ([] : List Addr) from hb) (by simp), hok, .of_eq hg⟩
  have run := (F _ inK (tables hns)).run callerA [] s₁ H ⟨[.ref a], []⟩ [.ref a] [.ref a] _ _ rfl hr e0 (hbind s₁ (.ref a)) (.cons rfl .nil) hsp
  refine codeAny_mono run ?_
  intro r s' h
  match r, h with
  | .error _, h => exact False.elim h
  | .ok (.ret u), ⟨v, H', os, bare, un, hok', rv, q⟩ =>
    have q' : v = .bl true := q
    subst q'
    obtain rfl : u = Value.bool true := rv
    refine ⟨rfl, OldK.of_keep fun b o e => ?_, os, bare⟩
    cases z : H b with
    | none => exact un.keep b o e z (fun y => absurd (show b ∈ ([] : List Addr) from y) (by simp)) (by simp)
    | some u =>
      have ba : b = a := Classical.byContradiction fun y => by rw [off b y] at z; cases z
      subst ba
      obtain ⟨ob, xs, rfl⟩ := frz u z
      obtain ⟨e1, _⟩ := hok b _ z
      obtain ⟨e2, _⟩ := hok' b _ (un.frzs b ob _ z)
      rw [e] at e1
      cases e1
      exact e2
theorem law_callG (KX : K.In s₁.heap) (hns : s₁.heap.Ns mainGlobals mg) (hb : s₁.heap.Ns builtinsNs mb) (hbb : ∀ x : Str, x ≠ "__name__" → mb x = bootBuiltins x) (hlim : s₁.heap.NoLimit) (hg : s₁.gens = #[])
    (ha : s₁.heap.get? a = some { cls := .type "list", data := .seq vs.toArray }) (hi : IntsAre vs ns) (hl : ns.length ≤ sizeLine) (hr : Room k callerA)
    (F : ∀ base : Heap, K.In base → base.Ns mainGlobals mg → FnG P w K mg base k fa fd [x] sp) (hbind : ∀ (s : Shared) (u : Value), BindsTo s fd ⟨[u], []⟩ [(x, u)])
    (hsp : ∀ H : Hp, SqL K H a (ns.map V.int) → sp [.ref a] H (fun v _ => v = .bl true) fun _ _ _ => False) :
    codeAny (model P w) callerA (.call (.ref fa) ⟨[.ref a], []⟩) (fun r s' => r = .ok (.ret (.bool true)) ∧ OldK s₁.heap s'.heap ∧ s'.os = s₁.os ∧ AllBare s'.gens) s₁ := by
  have rel := vals_ints hi
  by_cases hk : K.lookup a = none
  · let it : HO := .frz { cls := .type "list", data := .seq vs.toArray } (.lst (ns.map V.int))
    have there : upd (fun _ => none) a it a = some it := upd_same
    refine law_with KX hns hb hbb hlim hg ha hr F hbind (H := upd (fun _ => none) a it) (fun b n => upd_ne n) (fun z => absurd hk z) (fun u e => ?_) (fun b u e => ?_) (hsp _ (.inl (.inr ⟨_, there⟩)))
    · rw [there] at e
      cases e
      exact ⟨_, _, rfl⟩
    · by_cases z : b = a
      · subst z
        rw [there] at e
        cases e
        exact ⟨ha, by rw [List.length_map]; exact hl, vs, _, rel, ha⟩
      · rw [upd_ne z] at e
        cases e
  · obtain ⟨o, ho⟩ := Option.ne_none_iff_exists'.mp hk
    have e := KX a o ho
    rw [ha] at e
    cases e
    refine law_with KX hns hb hbb hlim hg ha hr F hbind (H := fun _ => none) (fun b n => rfl) (fun _ => rfl) (fun u e => by cases e) (fun b u e => by cases e) (hsp _ (.inr ⟨_, vs.toArray, _, ho, rfl, rfl, rfl, by rw [List.size_toArray, hi.length]; exact hl, by simpa using rel⟩))
theorem walk_ofG {l : PySem.W.OpenLaw} {n k : Nat} {q : Program} {loose : List Str} {XP : (Str → Option Value) → Heap → Prop} {YP : World → Heap → Prop} {d : DefRec} {K : Params → PySem.W.Frag} {sp : World → Sp} {x : Str}
    (hn : l.most = some n) (hn2 : n ≤ sizeLine) (hdf : d.params.defaults = []) (hr : Room k callerA) (hY : ∀ (w : World) (h : Heap), YP w h → (K w.params).In h)
    (F : ∀ (w : World) (mg : Str → Option Value) (fa : Addr) (h : Heap), (K w.params).In h → h.Ns mainGlobals mg → mg d.name = some (.ref fa) →
      ∃ fd : FuncData, (∀ (s : Shared) (u : Value), BindsTo s fd ⟨[u], []⟩ [(x, u)]) ∧ ∀ base : Heap, (K w.params).In base → base.Ns mainGlobals mg → FnG l.prog w (K w.params) mg base k fa fd [x] (sp w))
    (hsp : ∀ (w : World) (H : Hp) (a : Addr) (ns : List Int), ns.length ≤ n → SqL (K w.params) H a (ns.map V.int) → sp w [.ref a] H (fun v _ => v = .bl true) fun _ _ _ => False) :
    PySem.W.WalkO q loose XP YP l.row.toRowW d [] (fun f vs => PySem.call f vs) := by
  refine Att.attach_call hn hdf fun w s₀ s₁ mg mb fa o pm cd doc a vs ns G Y ho hd hcd hmg hobj hints hlen hg => ?_
  have KX := hY w _ Y
  obtain ⟨fd, hb, hF⟩ := F w mg fa _ KX G.T.g hmg
  exact law_callG KX G.T.g G.T.b G.T.builtins G.T.nolimit hg hobj hints (Nat.le_trans hlen hn2) hr hF hb fun H hS => hsp w H a ns hlen hS
end
end My

namespace My
open PySem PySem.Spec PyProof.Rows L2
section
variable {X : Cx}
/-- repr of data, whatever its kind -/
def rReprA (K : PySem.W.Frag) : List V → Hp → VK → Prop := fun xs H Q => ∃ (x : V) (d : PyData), xs = [x] ∧ Dp K H x d ∧ d.showable = true ∧ d.hasDict = false ∧ d.depth ≤ 60 ∧ d.shown.length ≤ sizeLine ∧ Q (.str d.shown) H
theorem call_reprA (hA : X.A.guards = some []) (hu : X.A.units + 64 < cLine) : CallR X (.builtin "repr") (rReprA X.K) := by
  rintro pins s σ H xs us Q I r ⟨x, d, rfl, hd, hs, hn, hz, hl, q⟩
  obtain ⟨u, rfl, rx⟩ := vals1 r
  cases hd with
  | non =>
    cases rx
    exact PySem.P.repr_of_none ⟨.str _, H, I.tok _, ⟨_, rfl⟩, q⟩
  | bl b =>
    obtain ⟨t, rfl⟩ := rx
    exact PySem.P.repr_of_bool ⟨.str _, H, I.tok _, ⟨_, rfl⟩, q⟩
  | int i =>
    obtain ⟨t, rfl⟩ := rx
    exact PySem.P.repr_of_int (by simpa [PyData.showable] using hs) ⟨.str _, H, I.tok _, ⟨_, rfl⟩, q⟩
  | str z =>
    obtain ⟨t, rfl⟩ := rx
    exact PySem.P.repr_of_str ⟨.str _, H, I.tok _, ⟨_, rfl⟩, q⟩ hl
  | lst h1 h2 =>
    cases rx
    obtain ⟨as, rd⟩ := Dp.reads I _ _ _ (.lst h1 h2) rfl
    exact repr_of_reads' rd hs (PyData.noDict_hsm hn) hA (by omega) (fun _ _ e => e) (fun h' u tk hk => ⟨.str _, H, I.kept hk, ⟨_, rfl⟩, q⟩) hl
  | tup h1 h2 =>
    cases rx
    obtain ⟨as, rd⟩ := Dp.reads I _ _ _ (.tup h1 h2) rfl
    exact repr_of_reads' rd hs (PyData.noDict_hsm hn) hA (by omega) (fun _ _ e => e) (fun h' u tk hk => ⟨.str _, H, I.kept hk, ⟨_, rfl⟩, q⟩) hl
end
/-- none, or a whole number, shown -/
theorem data_opt {d : PyData} (h : d = .none ∨ ∃ i : Int, d = .int i ∧ i.natAbs < 2 ^ 1900) : d.showable = true ∧ d.hasDict = false ∧ d.depth ≤ 60 ∧ d.shown.length ≤ sizeLine := by
  rcases h with rfl | ⟨i, rfl, hi⟩
  · refine ⟨?_, ?_, ?_, ?_⟩ <;> first | rfl | decide +kernel
  · have l1 : i.natAbs.log2 < 1920 := Nat.lt_of_lt_of_le (PySem.Flt.log2_lt_of (by decide) hi) (by decide)
    have s1 : (PyData.shown (.int i)).length ≤ 1921 := PyProof.Rows.int_text_len_1921 l1
    refine ⟨?_, ?_, ?_, ?_⟩
    · simpa only [PyData.showable, decide_eq_true_eq] using l1
    · simp [PyData.hasDict]
    · simp [PyData.depth]
    · exact Nat.le_trans s1 (by decide)
end My

namespace My
open PySem L2
section
variable {σ : L2.St} {H : Hp} {Q : VK} {v x y : V} {te ta to ti : TE} {tr : TA} {K : PySem.W.Frag} {nx : L2.St → Hp → Prop} {rt : VK} {bk ct : L2.St → Hp → Prop}
theorem r_par {i j : Nat} (q : tr σ H fun vs H1 => ∃ v w, vs = [v, w] ∧ nx ((σ.set i (some v)).set j (some w)) H1) : tPar i j tr ⟨nx, rt, bk, ct⟩ σ H := q
theorem r_two {P : V → V → Prop} (q : P x y) : ∃ v w, [x, y] = [v, w] ∧ P v w := ⟨x, y, rfl, q⟩
theorem r_m1 {r : V → List V → Hp → VK → Prop} (q : to σ H fun x H1 => (∃ a, x = .str a) ∧ te σ H1 fun y H2 => r x [y] H2 Q) : tM1 r to te σ H Q := q
theorem r_isStr {a : Str} {P : Prop} (q : P) : (∃ b, V.str a = .str b) ∧ P := ⟨⟨a, rfl⟩, q⟩
theorem r_inT {t : Addr} {xs : List V} {b : Bool} (h : H t = some (.tup xs)) (f : flatV x = true) (fs : xs.all flatV = true) (e : inV x xs = b) (q : Q (.bl b) H) : rIn K false x (.ref t) H Q := ⟨t, xs, rfl, .inr (SqT.of h), f, fs, by
  subst e
  exact q⟩
theorem r_notInT {t : Addr} {xs : List V} {b : Bool} (h : H t = some (.tup xs)) (f : flatV x = true) (fs : xs.all flatV = true) (e : inV x xs = b) (q : Q (.bl (!b)) H) : rIn K true x (.ref t) H Q := ⟨t, xs, rfl, .inr (SqT.of h), f, fs, by
  subst e
  exact q⟩
theorem r_isN {P : V → Hp → Prop} {b : Bool} (e : decide (x = V.non) = b) (q : P (.bl b) H) : V.non = V.non ∧ P (.bl (decide (x = V.non))) H := ⟨rfl, by rw [e]; exact q⟩
theorem r_lcT {tl : TE} {g : TG} {tt : TT} {vs : List Nat} (q : tl σ H fun x H1 => ∃ a, x = .ref a ∧ (∃ xs, SqT K H1 a xs) ∧ ∀ D, H1 D = none → ∃ W : Nat → Nat → Hp → Prop, (∃ m, W 0 m (upd H1 D (.lst []))) ∧ ∀ i m H, W i m H →
    ((Itt K a).stop i H ∧ Q (.ref D) H) ∨ ((Itt K a).go i H ∧ ∃ Nx : Hp → Prop, (∀ H', Nx H' → ∃ m', m' < m ∧ W (i + 1) m' H') ∧ ∀ x H', (Itt K a).yld i H x H' → g x (wipe σ vs) H' fun σ2 H2 => wipe σ2 vs = wipe σ vs ∧ tt σ2 H2 fun b H3 =>
      if b = true then te σ2 H3 fun y H4 => ∃ acc, H4 D = some (.lst acc) ∧ acc.length < sizeLine ∧ Nx (upd H4 D (.lst (acc ++ [y]))) else Nx H3)) : tLc (iTup K tl) g tt te vs σ H Q := q
theorem r_rng2 {g : TG} {tb : TS} {D : Ends} (q : tr σ H fun vs H1 => ∃ i j : Int, vs = [.int i, .int j] ∧ (-(2 ^ 62) ≤ i ∧ i < 2 ^ 62 ∧ -(2 ^ 62) ≤ j ∧ j < 2 ^ 62) ∧ ∃ W : Nat → Nat → L2.St → Hp → Prop, (∃ m, W 0 m σ H1) ∧ ∀ k m σ H, W k m σ H →
    ((Itr i (j - i).toNat).stop k H ∧ D.nx σ H) ∨ ((Itr i (j - i).toNat).go k H ∧ ∃ N : L2.St → Hp → Prop, (∀ σ' H', N σ' H' → ∃ m', m' < m ∧ W (k + 1) m' σ' H') ∧ ∀ x H', (Itr i (j - i).toNat).yld k H x H' → g x σ H' fun σ2 H2 => tb { D with nx := N, ct := N, bk := D.nx } σ2 H2)) : tFor (iRng2 tr) g tb D σ H := q
theorem r_gTup {a : Addr} {xs : List V} {n : Nat} {t : TGs} {QS : L2.St → Hp → Prop} (h : H a = some (.tup xs)) (l : xs.length = n) (q : t xs σ H QS) : gTup K n t (.ref a) σ H QS := ⟨a, xs, rfl, SqT.of h, l, q⟩
theorem r_gCons {t : TG} {u : TGs} {xs : List V} {QS : L2.St → Hp → Prop} (q : t x σ H fun σ' H' => u xs σ' H' QS) : gCons t u (x :: xs) σ H QS := ⟨x, xs, rfl, q⟩
theorem r_gNil {QS : L2.St → Hp → Prop} (q : QS σ H) : gNil [] σ H QS := ⟨rfl, q⟩
theorem r_aug {i : Nat} {ti : TIp} (q : ∃ x, σ[i]? = some (some x) ∧ te σ H fun y H1 => ti x y H1 fun z H2 => nx (σ.set i (some z)) H2) : tAug i te ti ⟨nx, rt, bk, ct⟩ σ H := q
theorem r_ip {f : Int → Int → Int} {i j : Int} (q : Q (.int (f i j)) H) : ipI f (.int i) (.int j) H Q := ⟨i, j, rfl, rfl, q⟩
theorem r_bits (q : to σ H fun x H1 => ∃ i, x = .int i ∧ Q (.int (Builtin.Int.intBits i : Nat)) H1) : tBits to σ H Q := q
theorem r_dget2 {td ty tx : TE} (q : td σ H fun x H1 => ∃ a, x = .ref a ∧ IsD H1 a ∧ ty σ H1 fun y H2 => tx σ H2 fun z H3 => ∃ o, DGet H3 a y o ∧ Q (o.getD z) H3) : tDGet2 td ty tx σ H Q := q
theorem r_rng1 {g : TG} {tb : TS} {D : Ends} (q : tr σ H fun vs H1 => ∃ j : Int, vs = [.int j] ∧ -(2 ^ 62) ≤ j ∧ j < 2 ^ 62 ∧ ∃ W : Nat → Nat → L2.St → Hp → Prop, (∃ m, W 0 m σ H1) ∧ ∀ k m σ H, W k m σ H →
    ((Itr 0 j.toNat).stop k H ∧ D.nx σ H) ∨ ((Itr 0 j.toNat).go k H ∧ ∃ N : L2.St → Hp → Prop, (∀ σ' H', N σ' H' → ∃ m', m' < m ∧ W (k + 1) m' σ' H') ∧ ∀ x H', (Itr 0 j.toNat).yld k H x H' → g x σ H' fun σ2 H2 => tb { D with nx := N, ct := N, bk := D.nx } σ2 H2)) : tFor (iRng1 tr) g tb D σ H := q
end
end My

local macro_rules | `(tactic| walk_at "rd2") => `(tactic| first
  | with_reducible refine My.r_par ?_
  | with_reducible refine My.r_two ?_
  | with_reducible refine My.r_m1 ?_
  | with_reducible refine My.r_isStr ?_
  | with_reducible refine My.r_gCons ?_
  | with_reducible refine My.r_gNil ?_
  | ((with_reducible refine My.r_aug ?_); refine ⟨_, rfl, ?_⟩)
  | with_reducible refine My.r_ip ?_
  | with_reducible refine My.r_bits ?_)
local macro_rules | `(tactic| walk_at "rdg") => `(tactic| (repeat (first | walk_at "rd1" | walk_at "rd2")))

namespace My
open PySem L2
section
variable {σ : L2.St} {H : Hp} {Q : VK} {v x y : V} {te ta to ti td ty tk tv : TE} {K : PySem.W.Frag}
theorem r_disp {trs : List (TE × TE)} (q : ∀ p, H p = none → tPairs trs σ (upd H p (.dK [])) fun ps H2 => H2 p = some (.dK []) ∧ ∃ kvs : List (Key × V), ps = kvs.map (fun kv => (kV kv.1, kv.2)) ∧ kvs.length ≤ 15 ∧ Q (.ref p) (upd H2 p (.dK (mergeK [] kvs)))) : tDisp trs σ H Q := q
theorem r_pair {r : List (TE × TE)} {QP : List (V × V) → Hp → Prop} (q : tk σ H fun x H1 => tv σ H1 fun y H2 => tPairs r σ H2 fun ps H3 => QP ((x, y) :: ps) H3) : tPairs ((tk, tv) :: r) σ H QP := q
theorem r_pair0 {QP : List (V × V) → Hp → Prop} (q : QP [] H) : tPairs [] σ H QP := q
theorem r_dget (q : td σ H fun x H1 => ty σ H1 fun y H2 => ∃ a v, x = .ref a ∧ DGet H2 a y (some v) ∧ Q v H2) : tDGet td ty σ H Q := q
theorem r_din (q : ty σ H fun y H1 => td σ H1 fun x H2 => ∃ a o, x = .ref a ∧ DGet H2 a y o ∧ Q (.bl o.isSome) H2) : tDIn ty td σ H Q := q
theorem Same.dict {H : Hp} {p : Addr} {o1 o2 : HO} (h : H p = none) : Same H (upd (upd H p o1) p o2) := fun b o e => by
  rw [upd_ne (ne_of_none e h), upd_ne (ne_of_none e h)]
  exact e
end
end My

local macro_rules | `(tactic| walk_at "rd3") => `(tactic| first
  | with_reducible refine My.r_pair ?_
  | with_reducible refine My.r_pair0 ?_
  | with_reducible refine My.r_dget ?_
  | with_reducible refine My.r_din ?_)
local macro_rules | `(tactic| walk_at "rdh") => `(tactic| (repeat (first | walk_at "rd1" | walk_at "rd2" | walk_at "rd3")))

namespace My
open PySem L2
section
variable {σ : L2.St} {H : Hp} {Q : VK} {v x y : V} {te ta to ti : TE} {tr : TA} {K : PySem.W.Frag} {nx : L2.St → Hp → Prop} {rt : VK} {bk ct : L2.St → Hp → Prop}
theorem r_lcL {tl : TE} {g : TG} {tt : TT} {vs : List Nat} (q : tl σ H fun x H1 => ∃ a, x = .ref a ∧ (∃ xs, SqL K H1 a xs) ∧ ∀ D, H1 D = none → ∃ W : Nat → Nat → Hp → Prop, (∃ m, W 0 m (upd H1 D (.lst []))) ∧ ∀ i m H, W i m H →
    ((Itl K a).stop i H ∧ Q (.ref D) H) ∨ ((Itl K a).go i H ∧ ∃ Nx : Hp → Prop, (∀ H', Nx H' → ∃ m', m' < m ∧ W (i + 1) m' H') ∧ ∀ x H', (Itl K a).yld i H x H' → g x (wipe σ vs) H' fun σ2 H2 => wipe σ2 vs = wipe σ vs ∧ tt σ2 H2 fun b H3 =>
      if b = true then te σ2 H3 fun y H4 => ∃ acc, H4 D = some (.lst acc) ∧ acc.length < sizeLine ∧ Nx (upd H4 D (.lst (acc ++ [y]))) else Nx H3)) : tLc (iList K tl) g tt te vs σ H Q := q
theorem r_forL {tl : TE} {g : TG} {tb : TS} {D : Ends} (q : tl σ H fun x H1 => ∃ a, x = .ref a ∧ (∃ xs, SqL K H1 a xs) ∧ ∃ W : Nat → Nat → L2.St → Hp → Prop, (∃ m, W 0 m σ H1) ∧ ∀ i m σ H, W i m σ H →
    ((Itl K a).stop i H ∧ D.nx σ H) ∨ ((Itl K a).go i H ∧ ∃ N : L2.St → Hp → Prop, (∀ σ' H', N σ' H' → ∃ m', m' < m ∧ W (i + 1) m' σ' H') ∧ ∀ x H', (Itl K a).yld i H x H' → g x σ H' fun σ2 H2 => tb { D with nx := N, ct := N, bk := D.nx } σ2 H2)) : tFor (iList K tl) g tb D σ H := q
theorem r_cat {l b : Addr} {xs zs : List V} (h1 : H l = some (.lst xs)) (h2 : H b = some (.lst zs)) (n : xs.length + zs.length ≤ 100000) (q : ∀ p, H p = none → Q (.ref p) (upd H p (.lst (xs ++ zs)))) : rCat (.ref l) (.ref b) H Q := ⟨l, b, xs, zs, rfl, rfl, h1, h2, Nat.le_trans n (by decide), q⟩
theorem r_iteR {A B : Prop} {k : Bool} (b : B) (h : k = true → B → A) : if k = true then A else B := by
  cases k with
  | true => exact h rfl b
  | false => exact b
theorem r_inAny {t : Addr} {xs : List V} {b : Bool} {n : Bool} (h : H t = some (.tup xs)) (f : flatV x = true) (fs : xs.all flatV = true) (e : inV x xs = b) (q : Q (.bl (if n then !b else b)) H) : rIn K n x (.ref t) H Q := ⟨t, xs, rfl, .inr (SqT.of h), f, fs, by
  subst e
  cases n <;> exact q⟩
end
end My
namespace My
open PySem L2
theorem r_cut {t u : TS} {σ : L2.St} {H : Hp} {nx : L2.St → Hp → Prop} {rt : VK} {bk ct : L2.St → Hp → Prop} (Mid : L2.St → Hp → Prop) (h1 : t ⟨Mid, rt, bk, ct⟩ σ H) (h2 : ∀ σ' H', Mid σ' H' → u ⟨nx, rt, bk, ct⟩ σ' H') : C8.tCut t u ⟨nx, rt, bk, ct⟩ σ H := ⟨Mid, h1, h2⟩
end My

namespace My
open PySem L2 PySem.Spec PyProof.Rows
/-! ### list(range(i, j)) -/
def rangeV (i j : Int) : List V := (rangeInts i 1 (j - i).toNat).map V.int
theorem vals_range (i : Int) {n : Nat} {acc : Array Value} (h : ItemsOf (fun k v => ∃ t, v = .int (i + (k : Nat) * 1) t) acc n) : Vals ((rangeInts i 1 n).map V.int) acc.toList := by
  have key : ∀ (xs : List Int) (us : List Value), us.length = xs.length → (∀ (k : Nat) (u : Value), us[k]? = some u → ∃ x t, xs[k]? = some x ∧ u = .int x t) → Vals (xs.map V.int) us := by
    intro xs
    induction xs with
    | nil =>
      intro us hl _
      cases us with
      | nil => exact .nil
      | cons _ _ => cases hl
    | cons x xs ih =>
      intro us hl hk
      cases us with
      | nil => cases hl
      | cons u us =>
        obtain ⟨x', t, e1, rfl⟩ := hk 0 u rfl
        cases e1
        exact .cons ⟨t, rfl⟩ (ih us (by simpa using hl) fun k u e => hk (k + 1) u (by rw [List.getElem?_cons_succ]; exact e))
  refine key _ _ (by rw [Array.length_toList, h.1, rangeInts_length]) fun k u e => ?_
  have e' : acc[k]? = some u := by rw [← Array.getElem?_toList]; exact e
  obtain ⟨t, rfl⟩ := h.2 k u e'
  have hk : k < n := by
    have := (Array.getElem?_eq_some_iff.mp e').1
    rw [h.1] at this; exact this
  exact ⟨_, t, rangeInts_get hk, rfl⟩
theorem call_list_rng {X : Cx} (hcalm : X.calm = true) : CallR X (.type "list") (fun xs H Q => ∃ (r : Addr) (i j : Int), xs = [.ref r] ∧ H r = some (.rng i j) ∧ (-(2 ^ 62) ≤ i ∧ i < 2 ^ 62 ∧ -(2 ^ 62) ≤ j ∧ j < 2 ^ 62) ∧ (j - i).toNat ≤ 1000 ∧ ∀ p, H p = none → Q (.ref p) (upd H p (.lst (rangeV i j)))) := by
  intro pins s σ H xs us Q I r q
  obtain ⟨a, i, j, rfl, hd, ⟨b1, b2, b3, b4⟩, hn, q⟩ := q
  obtain ⟨u, rfl, rx⟩ := vals1 r
  cases rx
  obtain ⟨t, u, v, e⟩ := (show ObjOk X.prog X.w H s.heap a (.rng i j) from I.hok a _ hd)
  have hsz : Builtin.Range.rangeSize i j 1 = (((j - i).toNat : Nat) : Int) := by rw [rangeSize_one]; split <;> omega
  refine call_list_range (I.ok.hd hcalm) e (small_one b1 b2 b3 b4) hsz (Nat.le_trans hn (by decide)) fun h' tk acc c' hk hD hacc => ?_
  have hv := vals_range i hacc
  refine ⟨.ref s.heap.objs.size, upd H s.heap.objs.size (.lst (rangeV i j)), I.laid (t' := tk) hk (Nat.le_refl _)
    (show ObjOk X.prog X.w _ _ _ (.lst (rangeV i j)) from ⟨by unfold rangeV; rw [List.length_map, rangeInts_length]; exact Nat.le_trans hn (by decide), acc.toList, c', hv, by rw [Array.toArray_toList]; exact hD⟩), rfl, q _ (I.hok.fresh (Nat.le_refl _))⟩
end My

namespace My
open PySem PySem.Spec PyProof.Rows L2
/-! ### range(j) as a thing; an index within a comprehension -/
theorem cr_range1 {X : Cx} : CallR X (.type "range") (fun vs H Q => ∃ j, vs = [V.int j] ∧ ∀ p, H p = none → Q (.ref p) (upd H p (.rng 0 j))) := by
  intro pins s σ H vs us Q I r h
  obtain ⟨j, rfl, q⟩ := h
  cases r with
  | cons rj rr =>
  cases rr
  obtain ⟨t, rfl⟩ := rj
  refine call_range_1 ⟨.ref s.heap.objs.size, upd H s.heap.objs.size (.rng 0 j), I.laid (t' := s.toks + 2) (fun c o e => Heap.get?_push_of_some _ e) (Nat.le_refl _) ?_, rfl, q _ (I.hok.fresh (Nat.le_refl _))⟩
  exact ⟨_, _, _, Heap.get?_push_size _ rfl⟩
theorem ix_tupK {X : Cx} {K0 : PySem.W.Frag} (hK : X.K = K0) : IxR X (rIxT K0) := by
  subst hK
  exact ix_tup
theorem call_isiK {X : Cx} {K0 : PySem.W.Frag} (hK : X.K = K0) : CallR X (.builtin "isinstance") (rIsi K0) := by
  subst hK
  exact call_isi
end My

namespace My
open PySem PySem.Spec PyProof.Rows L2
/-! ### sum and sorted of a tuple of whole numbers; zip of a tuple and a list -/
section
variable {prog : Program} {w : World} {A : Around} {E : Value → Shared → Prop} {s : Shared}
theorem tupiter_kept {t : Addr} {g : Heap} (k : ∀ c o, c ∉ [s.heap.objs.size] → (s.heap.push { cls := .type "tuple_iterator", data := .fields #[.ref t, .int 0 0] }).get? c = some o → g.get? c = some o) {c : Addr} {o : Obj} (e : s.heap.get? c = some o) : g.get? c = some o := by
  have lt := Heap.lt_size e
  exact k c o (by rw [List.mem_singleton]; exact Nat.ne_of_lt lt) (Heap.get?_push_of_some _ e)
theorem sum_rawT {t : Addr} {its : List Value} {ns : List Int} {Q : Value → Shared → Prop} (hh : A.handled = none) (ht : s.heap.IsTuple t its.toArray) (hi : IntsAre its ns)
    (q : ∀ g tk u, (∀ c o, s.heap.get? c = some o → g.get? c = some o) → Q (.int ns.sum u) { s with heap := g, toks := tk }) : wpAny (model prog w) A (call (.builtin "sum") [.ref t]) Q E s := by
  obtain ⟨xs, ex⟩ := hi.allInts.items
  have en : numsOf (intItems xs).toList = ns := by rw [← ex]; exact hi.numsOf
  rw [nums_intItems] at en
  rw [ex] at ht
  have tl : t < s.heap.objs.size := by obtain ⟨_, ho, _⟩ := ht; exact Heap.lt_size ho
  refine PySem.call_sum_walkG (wpAny_pyIter_tuple ht ⟨s.heap.objs.size, _, _, _, _, _, numAt xs, rfl, Walks.tuple (A := A.in1) hh _ t (Nat.ne_of_lt tl) (intItems xs), ⟨⟨_, Heap.get?_push_size _ rfl, rfl, rfl⟩, ht.push _⟩, fun c hc => ?_, (fun _ _ => intItems_at), fun g tk u hk => ?_⟩)
  · show c < (s.heap.push _).objs.size
    rw [Heap.size_push]
    simp only [List.mem_cons, List.not_mem_nil, or_false] at hc
    rcases hc with rfl | rfl
    · exact Nat.lt_succ_self _
    · exact Nat.lt_succ_of_lt tl
  · have r := q g tk u fun c o e => tupiter_kept hk e
    rw [preSum_eq]
    have sz : (intItems xs).size = xs.size := by simp [intItems]
    rw [sz, List.take_of_length_le (by simp), en]
    exact r
end
section
variable {X : Cx}
def rSumT (K : PySem.W.Frag) : List V → Hp → VK → Prop := fun vs H Q => ∃ (a : Addr) (ns : List Int), vs = [V.ref a] ∧ SqT K H a (ns.map V.int) ∧ Q (.int ns.sum) H
theorem cr_sumT (hc : X.calm = true) : CallR X (.builtin "sum") (rSumT X.K) := by
  intro pins s σ H vs us Q I r h
  obtain ⟨a, ns, rfl, ht, q⟩ := h
  obtain ⟨its, rv, hl, _⟩ := I.tuple ht
  obtain rfl := Vals.ref1 r
  exact sum_rawT (I.ok.hd hc) hl rv.ints fun g tk u hk => ⟨.int _, H, I.kept hk, ⟨_, rfl⟩, q⟩
end
/-! zip of a tuple and a list -/
def ItzM (K : PySem.W.Frag) (a b : Addr) : It :=
  ⟨fun i H => ∃ (xs ys : List V) (x y : V), SqT K H a xs ∧ SqL K H b ys ∧ (xs[i]? = some x ∧ ys[i]? = some y),
    fun i H v H' => ∃ t x y, v = .ref t ∧ H t = none ∧ H' = upd H t (.tup [x, y]) ∧ (∀ xs, SqT K H a xs → xs[i]? = some x) ∧ (∀ ys, SqL K H b ys → ys[i]? = some y),
    fun i H => ∃ xs ys : List V, SqT K H a xs ∧ SqL K H b ys ∧ (i = xs.length ∨ i = ys.length) ∧ i ≤ xs.length ∧ i ≤ ys.length⟩
theorem sep_of {z TI TO i1 i2 a b : Addr} (D : ZipApart z TI TO i1 i2 a b) : ZipSep2 z TI TO i1 i2 [i1, a] [i2, b] where
  TIz := D.TIz
  TOz := D.TOz
  TITO := D.TITO
  TIi1 := D.TIi1
  mem1 := by simp
  zf1 := by simpa using ⟨D.i1z.symm, D.l1z.symm⟩
  Tf1 := by simpa using ⟨D.TOi1, D.l1TO.symm⟩
  TIi2 := D.TIi2
  mem2 := by simp
  zf2 := by simpa using ⟨D.i2z.symm, D.l2z.symm⟩
  Tf2 := by simpa using ⟨D.TOi2, D.l2TO.symm⟩
  sep1_2 := by simpa using ⟨D.i12, D.l2i1.symm⟩
  sep2_1 := by simpa using ⟨D.i12.symm, D.l1i2.symm⟩
theorem five {c z TI TO i1 i2 : Addr} (h : c ∈ [z, TI, TO, i1, i2]) : c = z ∨ c = TI ∨ c = TO ∨ c = i1 ∨ c = i2 := by simpa using h
theorem five_out {c z TI TO i1 i2 : Addr} (h : c ∉ [z, TI, TO, i1, i2]) : c ≠ z ∧ c ≠ TO ∧ c ≠ i1 ∧ c ≠ i2 := by
  simp only [List.mem_cons, List.not_mem_nil, or_false, not_or] at h
  exact ⟨h.1, h.2.2.1, h.2.2.2.1, h.2.2.2.2⟩
theorem turn_zipM {P : Program} {w : World} {K : PySem.W.Frag} {elts : List Expr} {kk : Nat} {tpos : Pos} {a b z TI TO i1 i2 : Addr} (D : ZipApart z TI TO i1 i2 a b) :
    Turn P w K (.Tuple elts kk tpos) (ItzM K a b) [z, TI, TO, i1, i2] z (fun i g => IsZip g z TI TO .none ∧ IsPair g TI (.ref i1) (.ref i2) ∧ (∃ x y, IsPair g TO x y) ∧ g.IsTupleIter i1 a i ∧ g.IsListIter i2 b i) where
  mem := List.mem_cons_self ..
  obj := fun i g st c hc => by
    obtain ⟨gz, gI, ⟨x, y, gO⟩, ⟨o1, e1, _, d1⟩, ⟨o2, e2, _, d2⟩⟩ := st
    rcases five hc with rfl | rfl | rfl | rfl | rfl
    · exact ⟨_, gz, fun v e => nomatch e⟩
    · exact ⟨_, gI, fun v e => nomatch e⟩
    · exact ⟨_, gO, fun v e => nomatch e⟩
    · exact ⟨o1, e1, fun v e => by rw [d1] at e; cases e⟩
    · exact ⟨o2, e2, fun v e => by rw [d2] at e; cases e⟩
  keep := fun i g g' st k => by
    obtain ⟨gz, gI, ⟨x, y, gO⟩, it1, it2⟩ := st
    exact ⟨k z (by simp) _ gz, k TI (by simp) _ gI, ⟨x, y, k TO (by simp) _ gO⟩, it1.at fun o e => k i1 (by simp) o e, it2.at fun o e => k i2 (by simp) o e⟩
  item := by
    intro X hP hw hK hc i pins s σ H E I hf st hg
    subst hP hw hK
    obtain ⟨gz, gI, ⟨x0, y0, gO⟩, it1, it2⟩ := st
    obtain ⟨xs, ys, x, y, tx, ly, ex, ey⟩ := hg
    obtain ⟨its, rv, p, _⟩ := I.tuple tx
    obtain ⟨its2, rv2, p2, _⟩ := I.list ly
    obtain ⟨u, hu, ru⟩ := rv.get ex
    obtain ⟨u2, hu2, ru2⟩ := rv2.get ey
    have hh : X.A.in1.handled = none := I.ok.hd hc
    have lz : z < s.heap.objs.size := Heap.lt_size gz
    have n1 : i < its.toArray.size := by rw [List.size_toArray]; exact (List.getElem?_eq_some_iff.mp hu).1
    have n2 : i < its2.toArray.size := by rw [List.size_toArray]; exact (List.getElem?_eq_some_iff.mp hu2).1
    refine wpAny_pyNext_zipD2_item (sep_of D) (Draws.tuple hh i1 a D.l1i1 its.toArray) (Draws.list hh i2 b D.l2i2 its2.toArray) gz gI gO ⟨it1, p⟩ ⟨it2, p2.isList⟩ n1 n2 fun v1 v2 g tk k1 k2 gz' gO' s1 s2 gT gn gk => ?_
    obtain rfl : v1 = u := by
      have : its[i]? = some v1 := by simpa using k1
      rw [hu] at this
      exact (Option.some.inj this).symm
    obtain rfl : v2 = u2 := by
      have : its2[i]? = some v2 := by simpa using k2
      rw [hu2] at this
      exact (Option.some.inj this).symm
    refine ⟨_, rfl, wpAny_letOwnedTupleGo_zip (s := { s with heap := g, toks := tk }) gz' fun g2 gz2 sb => ?_⟩
    have sb2 : ∀ c, c ≠ z → g2.get? c = g.get? c := sb.2
    have new2 : g2.get? s.heap.objs.size = some { cls := .type "tuple", data := .seq #[v1, v2] } := (sb2 _ (Nat.ne_of_gt lz)).trans gT
    have ok : ObjOk X.prog X.w (upd H s.heap.objs.size (.tup [x, y])) g2 s.heap.objs.size (.tup [x, y]) :=
      ⟨by show 2 ≤ sizeLine; decide, [v1, v2], .cons ru (.cons ru2 .nil), ⟨_, new2, rfl, _, rfl⟩⟩
    have J : Inv X pins σ (upd H s.heap.objs.size (.tup [x, y])) { s with heap := g2, toks := tk } :=
      I.turnedNew (t' := tk) (ch := [z, TI, TO, i1, i2]) (fun c o hn e => by
        obtain ⟨c1, c2, c3, c4⟩ := five_out hn
        exact (sb2 c c1).trans (gk c o c1 c2 c3 c4 e)) hf (Nat.le_refl _) ok
    refine ⟨.ref s.heap.objs.size, _, J, rfl, ⟨_, x, y, rfl, I.hok.fresh (Nat.le_refl _), rfl, fun l hl => by rw [I.tuple_inj hl tx]; exact ex, fun l hl => by rw [I.list_inj hl ly]; exact ey⟩, ⟨gz2, ?_, ⟨v1, v2, ?_⟩, ?_, ?_⟩, fun c hcm => ?_⟩
    · exact (sb2 _ D.TIz).trans (gk _ _ D.TIz D.TITO D.TIi1 D.TIi2 gI)
    · exact (sb2 _ D.TOz).trans gO'
    · exact s1.1.at fun o e => (sb2 _ D.i1z).trans e
    · exact s2.1.at fun o e => (sb2 _ D.i2z).trans e
    · have lt : c < s.heap.objs.size := by
        rcases five hcm with rfl | rfl | rfl | rfl | rfl
        · exact lz
        · exact Heap.lt_size gI
        · exact Heap.lt_size gO
        · obtain ⟨_, e1, _⟩ := it1; exact Heap.lt_size e1
        · obtain ⟨_, e2, _⟩ := it2; exact Heap.lt_size e2
      rw [upd_ne (Nat.ne_of_lt lt)]
      exact (hf c hcm).1
  done := by
    intro X hP hw hK hc i pins s σ H E I hf st hg
    subst hP hw hK
    obtain ⟨gz, gI, ⟨x0, y0, gO⟩, it1, it2⟩ := st
    obtain ⟨xs, ys, tx, ly, he, le1, le2⟩ := hg
    obtain ⟨its, rv, p, _⟩ := I.tuple tx
    obtain ⟨its2, rv2, p2, _⟩ := I.list ly
    have hh : X.A.in1.handled = none := I.ok.hd hc
    have l1 := rv.length
    have l2 := rv2.length
    have z1 : its.toArray.size = its.length := List.size_toArray ..
    have z2 : its2.toArray.size = its2.length := List.size_toArray ..
    exact wpAny_pyNext_zipD2_end (sep_of D) (Draws.tuple hh i1 a D.l1i1 its.toArray) (Draws.list hh i2 b D.l2i2 its2.toArray) gz gI gO ⟨it1, p⟩ ⟨it2, p2.isList⟩ (by omega) (by omega) (by omega) fun g tk gk => ⟨rfl, I.turnedL (t' := tk) (ch := [z, TI, TO, i1, i2]) (fun c o hn e => by
      obtain ⟨c1, c2, c3, c4⟩ := five_out hn
      exact gk c o c1 c2 c3 c4 e) hf⟩
  self := fun A i s Q E st h => wpAny_pyIter_zip st.1 h
def iZipM (K : PySem.W.Frag) (ta : TA) : TI := fun σ H R => ta σ H fun vs H1 => ∃ a b xs ys, vs = [.ref a, .ref b] ∧ SqT K H1 a xs ∧ SqL K H1 b ys ∧ R (ItzM K a b) H1
theorem pi_zipM {X : Cx} {e e2 : Expr} {ta : TA} {p pos tpos : Pos} {elts : List Expr} {kk : Nat} (hg : Gl X "zip") (hm : X.mg "zip" = none) (ha : PA X [e, e2] ta)
    (st : starEach [e, e2] X.env = (false, eval e X.env) :: starEach [e2] X.env := by rfl) (pl : (backTo pos (starEach [e2] X.env)).any (·.1) = false := by rfl) :
    PI X (.Tuple elts kk tpos) (.Call (.Name "zip" p) [e, e2] [] pos) (iZipM X.K ta) := by
  refine ⟨fun pins s σ H R I h => ?_⟩
  refine Call_ (ld_blt I hg hm PyProof.Rows.boot_zip (PyProof.Rows.callWith_type1 (thn (ha.run pos pins s σ H _ I h) fun us s1 ⟨vs, H1, I1, r1, q1⟩ => ?_) st pl))
  obtain ⟨a, b, xs, ys, rfl, tx, ly, q⟩ := q1
  cases r1 with
  | cons r rr =>
  cases rr with
  | cons r' rr =>
  cases rr
  cases r
  cases r'
  obtain ⟨its, rv, p1, _⟩ := I1.tuple tx
  obtain ⟨its2, rv2, p2, _⟩ := I1.list ly
  obtain ⟨o1, ho1, _⟩ := id p1
  obtain ⟨o2, ho2, _⟩ := id p2.isList
  have la := Heap.lt_size ho1
  have lb := Heap.lt_size ho2
  refine zip_begins2 (begins_tuple a its.toArray) (begins_list b its2.toArray) (show s1.heap.IsTuple a its.toArray from p1) p2.isList fun g gz gI gO g1 g2 gn gk => wpAny_pyIter_zip gz ?_
  have J : Inv X pins σ H1 { s1 with heap := g } := I1.kept (t' := s1.toks) gk
  refine ⟨s1.heap.objs.size + 4, [s1.heap.objs.size + 4, s1.heap.objs.size + 2, s1.heap.objs.size + 3, s1.heap.objs.size, s1.heap.objs.size + 1], _, _, H1, rfl, J, turn_zipM (PySem.W.ktu_apart s1.heap.objs.size a b la lb), ⟨gz, gI, ⟨_, _, gO⟩, ⟨_, g1, rfl, rfl⟩, ⟨_, g2, rfl, rfl⟩⟩, fun c hc => ?_, q⟩
  have le : s1.heap.objs.size ≤ c := by
    rcases five hc with rfl | rfl | rfl | rfl | rfl <;> omega
  exact I1.fpOk le (I1.hok.fresh le)
theorem for_zipM {K : PySem.W.Frag} {a b : Addr} {xs ys : List V} {g : TG} {tb : TS} {D : Ends} {σ : L2.St} {H : Hp} (hl : xs.length = ys.length) (Pv : Nat → L2.St → Hp → Prop) (h0 : Pv 0 σ H) (hq : ∀ i σ H, Pv i σ H → SqT K H a xs ∧ SqL K H b ys)
    (hs : ∀ (i : Nat) (x y : V) (t : Addr) (σ : L2.St) (H : Hp), xs[i]? = some x → ys[i]? = some y → Pv i σ H → H t = none → g (.ref t) σ (upd H t (.tup [x, y])) fun σ2 H2 => tb { D with nx := Pv (i + 1), ct := Pv (i + 1), bk := D.nx } σ2 H2) (hd : ∀ σ H, Pv xs.length σ H → D.nx σ H) :
    ∃ W : Nat → Nat → L2.St → Hp → Prop, (∃ m, W 0 m σ H) ∧ ∀ i m σ H, W i m σ H →
      ((ItzM K a b).stop i H ∧ D.nx σ H) ∨ ((ItzM K a b).go i H ∧ ∃ N : L2.St → Hp → Prop, (∀ σ' H', N σ' H' → ∃ m', m' < m ∧ W (i + 1) m' σ' H') ∧ ∀ v H', (ItzM K a b).yld i H v H' → g v σ H' fun σ2 H2 => tb { D with nx := N, ct := N, bk := D.nx } σ2 H2) := by
  refine ⟨fun i m σ H => i + m = xs.length ∧ Pv i σ H, ⟨xs.length, Nat.zero_add _, h0⟩, ?_⟩
  rintro i m σ H ⟨im, pv⟩
  obtain ⟨qx, qy⟩ := hq i σ H pv
  by_cases e : m = 0
  · have ei : i = xs.length := by omega
    subst ei
    exact .inl ⟨⟨xs, ys, qx, qy, .inl rfl, Nat.le_refl _, by omega⟩, hd σ H pv⟩
  · have li : i < xs.length := by omega
    have lj : i < ys.length := by omega
    refine .inr ⟨⟨xs, ys, _, _, qx, qy, List.getElem?_eq_getElem li, List.getElem?_eq_getElem lj⟩, Pv (i + 1), fun σ' H' p' => ⟨m - 1, by omega, by omega, p'⟩, fun v H' y => ?_⟩
    obtain ⟨t, x', y', rfl, ht, rfl, f1, f2⟩ := y
    exact hs i x' y' t σ H (f1 xs qx) (f2 ys qy) pv ht
/-! sorted of a tuple of whole numbers, the greatest first -/
section
variable {prog : Program} {w : World} {A : Around} {E : Value → Shared → Prop} {s : Shared}
theorem collect_tuple {t : Addr} {vs : List Value} {Q : List Value → Shared → Prop} (ht : s.heap.IsTuple t vs.toArray) (sz : vs.length ≤ sizeLine)
    (q : Q vs { s with heap := (s.heap.push (seqObj "list" #[] 0)).update s.heap.objs.size (Obj.mapSeq (· ++ vs.toArray)) }) : wpAny (model prog w) A (collect (.ref t)) Q E s := by
  obtain ⟨o, ho, oc, n, od⟩ := id ht
  unfold collect
  refine wpAny_bind (wpAny_runValue (codeAny_builtin entry_proto_collect' ?_))
  show wpAny _ _ (do again (.builtin "list.__iadd__" ⟨[← newList [], .ref t], []⟩)) _ _ s
  refine wpAny_bind (wpAny_newList (wpAny_pure ⟨Code.quiet_builtin _ (by decide +kernel), codeAny_builtin entry_list_iadd' ?_⟩) (Nat.zero_le _))
  show wpAny _ _ (Builtin.List.listExtendWith (.ref s.heap.objs.size) (.ref t) (.ref s.heap.objs.size)) _ _ { s with heap := s.heap.push (seqObj "list" #[] 0) }
  unfold Builtin.List.listExtendWith
  have ho' : (s.heap.push (seqObj "list" #[] 0)).get? t = some o := Heap.get?_push_of_some _ ho
  refine wpAny_bind (wpAny_typeOf (T := "tuple") ⟨o, ho', oc⟩ ?_)
  have tt : (Value.type "tuple" == Value.type "tuple") = true := rfl
  rw [if_pos (by rw [tt]; simp)]
  refine wpAny_bind (listItems_at ho' od ?_)
  refine wpAny_bind (listItems_at (xs := #[]) (n := 0) (Heap.get?_push_size _ rfl) rfl ?_)
  rw [if_neg (by simp)]
  refine wpAny_bind (listUpdate_at (xs := #[]) (n := 0) (Heap.get?_push_size _ rfl) rfl ?_ (Nat.zero_le _) (by show (#[] ++ vs.toArray).size ≤ sizeLine + 1; rw [Array.size_append]; simp only [List.size_toArray, List.length_nil]; omega))
  refine wpAny_pure ?_
  show wpAny (model prog w) A (do
      let o' ← load s.heap.objs.size
      match o'.data with
      | .seq xs _ => pure xs.toList
      | _ => unsupported "internal:collect") Q E { s with heap := (s.heap.push (seqObj "list" #[] 0)).update s.heap.objs.size (Obj.mapSeq (· ++ vs.toArray)) }
  refine wpAny_bind (wpAny_load (get?_update_seq (Heap.get?_push_size _ rfl) _) ?_)
  show wpAny _ _ (pure ((#[] : Array Value) ++ vs.toArray).toList) Q E _
  have ee : ((#[] : Array Value) ++ vs.toArray).toList = vs := by simp
  rw [ee]
  exact wpAny_pure q
end
end My

namespace My
open PySem PySem.Spec PyProof.Rows L2
section
variable {prog : Program} {w : World} {A : Around} {E : Value → Shared → Prop} {s : Shared}
/-- sorted of a tuple, reverse=True -/
theorem sorted_revT {t : Addr} {vs : List Value} {ltv : Value → Value → Bool} {Q : Value → Shared → Prop} (O : SrtO.Swo ltv) (ht : s.heap.IsTuple t vs.toArray) (sz : vs.length ≤ sizeLine)
    (hS : 2 ≤ vs.length → ∀ (g : Heap) (a : Addr), g.get? a = some (seqObj "list" vs.toArray 0) → (∀ c o, s.heap.get? c = some o → c ≠ a ∧ g.get? c = some o) → SrtO.SortableO prog w A.in1.in1 { s with heap := g } a vs ltv)
    (q : ∀ out : List Value, SrtO.Srtd ltv out → SrtO.Stb ltv out vs.reverse → Q (.ref (s.heap.objs.size + 1)) { s with heap := sortedAll s.heap vs out.toArray.reverse }) :
    wpAny (model prog w) A (call (.builtin "sorted") [.ref t] [(Str.ofString "reverse", .bool true)]) Q E s := by
  refine call_function_entry_kw kind_sorted plain_sorted entry_sorted (PyProof.Rows.args_sorted_rev _ _) ?_
  unfold Builtin.«sorted»
  refine wpAny_bind (m := checkCount "sorted" 1 1 _) (wpAny_pure ?_)
  refine wpAny_bind (collect_tuple ht sz ?_)
  refine wpAny_bind (wpAny_newList ?_ sz)
  have gn : ((s.heap.push (seqObj "list" #[] 0)).update s.heap.objs.size (Obj.mapSeq (· ++ vs.toArray))).objs.size = s.heap.objs.size + 1 := by
    rw [Heap.size_update, size_push']
  have gL : (((s.heap.push (seqObj "list" #[] 0)).update s.heap.objs.size (Obj.mapSeq (· ++ vs.toArray))).push (seqObj "list" vs.toArray 0)).get? (s.heap.objs.size + 1) = some (seqObj "list" vs.toArray 0) := by
    rw [← gn]; exact Heap.get?_push_size _ rfl
  have gk : ∀ c o, s.heap.get? c = some o → c ≠ s.heap.objs.size + 1 ∧ (((s.heap.push (seqObj "list" #[] 0)).update s.heap.objs.size (Obj.mapSeq (· ++ vs.toArray))).push (seqObj "list" vs.toArray 0)).get? c = some o := fun c o e => by
    have lt : c < s.heap.objs.size := Heap.lt_size e
    refine ⟨Nat.ne_of_lt (Nat.lt_succ_of_lt lt), Heap.get?_push_of_some _ ?_⟩
    rw [Heap.get?_update_ne _ _ _ _ (Nat.ne_of_lt lt)]
    exact Heap.get?_push_of_some _ e
  show wpAny _ _ _ _ _ { s with heap := ((s.heap.push (seqObj "list" #[] 0)).update s.heap.objs.size (Obj.mapSeq (· ++ vs.toArray))).push (seqObj "list" vs.toArray 0) }
  rw [gn]
  refine wpAny_bind (wpAny_holding (wpAny_call_entry_kw slot_list_sort ⟨_, gL, rfl⟩ entry_list_sort ?_ (PyProof.Rows.args_list_sort_rev _ _)))
  refine SrtR.list_sort_ordR (b := true) O gL sz (fun h2 => hS h2 _ _ gL gk) fun out so sb => ⟨_, rfl, ?_⟩
  exact wpAny_pure ⟨_, rfl, q out so sb⟩
end
section
variable {X : Cx}
def rSortedRevT (K : PySem.W.Frag) : List V → List V → Hp → VK → Prop := fun vs zs H Q => ∃ (a : Addr) (ns : List Int), vs = [V.ref a] ∧ zs = [.bl true] ∧ SqT K H a (ns.map V.int) ∧
  ∀ (ms : List Int) (p : Addr), ms.Perm ns → ms.Pairwise (· ≥ ·) → H p = none → Q (.ref p) (upd H p (.lst (ms.map V.int)))
theorem one_bl {b : Bool} {ws : List Value} (h : Vals [V.bl b] ws) : ws = [.bool b] := by
  cases h with
  | cons r rr =>
    cases rr
    cases r
    rfl
theorem cr_sortedRevT : CallRK X (.builtin "sorted") [Str.ofString "reverse"] (rSortedRevT X.K) := by
  intro pins s σ H vs zs us ws Q I r rz h
  obtain ⟨a, ns, rfl, rfl, ht, q⟩ := h
  obtain rfl := Vals.ref1 r
  obtain rfl := one_bl rz
  obtain ⟨its, rv, hl, hz⟩ := I.tuple ht
  have hi := rv.ints
  refine sorted_revT SrtO.swo_int (show s.heap.IsTuple a its.toArray from hl) (by rw [← rv.length]; exact hz) (fun h2 g a' _ _ => SrtO.ints_sortable hi h2) fun out h1 h2 => ?_
  obtain ⟨ms, k1, k2, k3⟩ := SrtR.ints_outR (b := true) hi h1 h2
  obtain ⟨ep, he⟩ := PyProof.Rows.sortedAll_at s.heap its out.toArray.reverse
  have len : (ms.map V.int).length ≤ sizeLine := by
    rw [List.length_map] at hz
    rw [List.length_map, k2.length_eq]
    exact hz
  have k1' : IntsAre out.toArray.reverse.toList ms := k1
  have e0 : out.toArray.reverse.toList.toArray = out.toArray.reverse := Array.toArray_toList ..
  exact ⟨.ref _, upd H (s.heap.objs.size + 1) (.lst (ms.map V.int)), I.laid (t' := s.toks) (fun _ _ => PyProof.Rows.sortedAll_old) (Nat.le_succ _) ⟨len, _, ep, vals_of_ints k1', by rw [e0]; exact he⟩, rfl, q _ _ k2 k3 (I.hok.fresh (Nat.le_succ _))⟩
end
end My

namespace My
open PySem PySem.Spec PyProof.Rows L2
/-! zip of a list and a tuple -/
def ItzN (K : PySem.W.Frag) (a b : Addr) : It :=
  ⟨fun i H => ∃ (xs ys : List V) (x y : V), SqL K H a xs ∧ SqT K H b ys ∧ (xs[i]? = some x ∧ ys[i]? = some y),
    fun i H v H' => ∃ t x y, v = .ref t ∧ H t = none ∧ H' = upd H t (.tup [x, y]) ∧ (∀ xs, SqL K H a xs → xs[i]? = some x) ∧ (∀ ys, SqT K H b ys → ys[i]? = some y),
    fun i H => ∃ xs ys : List V, SqL K H a xs ∧ SqT K H b ys ∧ (i = xs.length ∨ i = ys.length) ∧ i ≤ xs.length ∧ i ≤ ys.length⟩
theorem turn_zipN {P : Program} {w : World} {K : PySem.W.Frag} {elts : List Expr} {kk : Nat} {tpos : Pos} {a b z TI TO i1 i2 : Addr} (D : ZipApart z TI TO i1 i2 a b) :
    Turn P w K (.Tuple elts kk tpos) (ItzN K a b) [z, TI, TO, i1, i2] z (fun i g => IsZip g z TI TO .none ∧ IsPair g TI (.ref i1) (.ref i2) ∧ (∃ x y, IsPair g TO x y) ∧ g.IsListIter i1 a i ∧ g.IsTupleIter i2 b i) where
  mem := List.mem_cons_self ..
  obj := fun i g st c hc => by
    obtain ⟨gz, gI, ⟨x, y, gO⟩, ⟨o1, e1, _, d1⟩, ⟨o2, e2, _, d2⟩⟩ := st
    rcases five hc with rfl | rfl | rfl | rfl | rfl
    · exact ⟨_, gz, fun v e => nomatch e⟩
    · exact ⟨_, gI, fun v e => nomatch e⟩
    · exact ⟨_, gO, fun v e => nomatch e⟩
    · exact ⟨o1, e1, fun v e => by rw [d1] at e; cases e⟩
    · exact ⟨o2, e2, fun v e => by rw [d2] at e; cases e⟩
  keep := fun i g g' st k => by
    obtain ⟨gz, gI, ⟨x, y, gO⟩, it1, it2⟩ := st
    exact ⟨k z (by simp) _ gz, k TI (by simp) _ gI, ⟨x, y, k TO (by simp) _ gO⟩, it1.at fun o e => k i1 (by simp) o e, it2.at fun o e => k i2 (by simp) o e⟩
  item := by
    intro X hP hw hK hc i pins s σ H E I hf st hg
    subst hP hw hK
    obtain ⟨gz, gI, ⟨x0, y0, gO⟩, it1, it2⟩ := st
    obtain ⟨xs, ys, x, y, tx, ly, ex, ey⟩ := hg
    obtain ⟨its, rv, p, _⟩ := I.list tx
    obtain ⟨its2, rv2, p2, _⟩ := I.tuple ly
    obtain ⟨u, hu, ru⟩ := rv.get ex
    obtain ⟨u2, hu2, ru2⟩ := rv2.get ey
    have hh : X.A.in1.handled = none := I.ok.hd hc
    have lz : z < s.heap.objs.size := Heap.lt_size gz
    have n1 : i < its.toArray.size := by rw [List.size_toArray]; exact (List.getElem?_eq_some_iff.mp hu).1
    have n2 : i < its2.toArray.size := by rw [List.size_toArray]; exact (List.getElem?_eq_some_iff.mp hu2).1
    refine wpAny_pyNext_zipD2_item (sep_of D) (Draws.list hh i1 a D.l1i1 its.toArray) (Draws.tuple hh i2 b D.l2i2 its2.toArray) gz gI gO ⟨it1, p.isList⟩ ⟨it2, p2⟩ n1 n2 fun v1 v2 g tk k1 k2 gz' gO' s1 s2 gT gn gk => ?_
    obtain rfl : v1 = u := by
      have : its[i]? = some v1 := by simpa using k1
      rw [hu] at this
      exact (Option.some.inj this).symm
    obtain rfl : v2 = u2 := by
      have : its2[i]? = some v2 := by simpa using k2
      rw [hu2] at this
      exact (Option.some.inj this).symm
    refine ⟨_, rfl, wpAny_letOwnedTupleGo_zip (s := { s with heap := g, toks := tk }) gz' fun g2 gz2 sb => ?_⟩
    have sb2 : ∀ c, c ≠ z → g2.get? c = g.get? c := sb.2
    have new2 : g2.get? s.heap.objs.size = some { cls := .type "tuple", data := .seq #[v1, v2] } := (sb2 _ (Nat.ne_of_gt lz)).trans gT
    have ok : ObjOk X.prog X.w (upd H s.heap.objs.size (.tup [x, y])) g2 s.heap.objs.size (.tup [x, y]) :=
      ⟨by show 2 ≤ sizeLine; decide, [v1, v2], .cons ru (.cons ru2 .nil), ⟨_, new2, rfl, _, rfl⟩⟩
    have J : Inv X pins σ (upd H s.heap.objs.size (.tup [x, y])) { s with heap := g2, toks := tk } :=
      I.turnedNew (t' := tk) (ch := [z, TI, TO, i1, i2]) (fun c o hn e => by
        obtain ⟨c1, c2, c3, c4⟩ := five_out hn
        exact (sb2 c c1).trans (gk c o c1 c2 c3 c4 e)) hf (Nat.le_refl _) ok
    refine ⟨.ref s.heap.objs.size, _, J, rfl, ⟨_, x, y, rfl, I.hok.fresh (Nat.le_refl _), rfl, fun l hl => by rw [I.list_inj hl tx]; exact ex, fun l hl => by rw [I.tuple_inj hl ly]; exact ey⟩, ⟨gz2, ?_, ⟨v1, v2, ?_⟩, ?_, ?_⟩, fun c hcm => ?_⟩
    · exact (sb2 _ D.TIz).trans (gk _ _ D.TIz D.TITO D.TIi1 D.TIi2 gI)
    · exact (sb2 _ D.TOz).trans gO'
    · exact s1.1.at fun o e => (sb2 _ D.i1z).trans e
    · exact s2.1.at fun o e => (sb2 _ D.i2z).trans e
    · have lt : c < s.heap.objs.size := by
        rcases five hcm with rfl | rfl | rfl | rfl | rfl
        · exact lz
        · exact Heap.lt_size gI
        · exact Heap.lt_size gO
        · obtain ⟨_, e1, _⟩ := it1; exact Heap.lt_size e1
        · obtain ⟨_, e2, _⟩ := it2; exact Heap.lt_size e2
      rw [upd_ne (Nat.ne_of_lt lt)]
      exact (hf c hcm).1
  done := by
    intro X hP hw hK hc i pins s σ H E I hf st hg
    subst hP hw hK
    obtain ⟨gz, gI, ⟨x0, y0, gO⟩, it1, it2⟩ := st
    obtain ⟨xs, ys, tx, ly, he, le1, le2⟩ := hg
    obtain ⟨its, rv, p, _⟩ := I.list tx
    obtain ⟨its2, rv2, p2, _⟩ := I.tuple ly
    have hh : X.A.in1.handled = none := I.ok.hd hc
    have l1 := rv.length
    have l2 := rv2.length
    have z1 : its.toArray.size = its.length := List.size_toArray ..
    have z2 : its2.toArray.size = its2.length := List.size_toArray ..
    exact wpAny_pyNext_zipD2_end (sep_of D) (Draws.list hh i1 a D.l1i1 its.toArray) (Draws.tuple hh i2 b D.l2i2 its2.toArray) gz gI gO ⟨it1, p.isList⟩ ⟨it2, p2⟩ (by omega) (by omega) (by omega) fun g tk gk => ⟨rfl, I.turnedL (t' := tk) (ch := [z, TI, TO, i1, i2]) (fun c o hn e => by
      obtain ⟨c1, c2, c3, c4⟩ := five_out hn
      exact gk c o c1 c2 c3 c4 e) hf⟩
  self := fun A i s Q E st h => wpAny_pyIter_zip st.1 h
def iZipN (K : PySem.W.Frag) (ta : TA) : TI := fun σ H R => ta σ H fun vs H1 => ∃ a b xs ys, vs = [.ref a, .ref b] ∧ SqL K H1 a xs ∧ SqT K H1 b ys ∧ R (ItzN K a b) H1
theorem pi_zipN {X : Cx} {e e2 : Expr} {ta : TA} {p pos tpos : Pos} {elts : List Expr} {kk : Nat} (hg : Gl X "zip") (hm : X.mg "zip" = none) (ha : PA X [e, e2] ta)
    (st : starEach [e, e2] X.env = (false, eval e X.env) :: starEach [e2] X.env := by rfl) (pl : (backTo pos (starEach [e2] X.env)).any (·.1) = false := by rfl) :
    PI X (.Tuple elts kk tpos) (.Call (.Name "zip" p) [e, e2] [] pos) (iZipN X.K ta) := by
  refine ⟨fun pins s σ H R I h => ?_⟩
  refine Call_ (ld_blt I hg hm PyProof.Rows.boot_zip (PyProof.Rows.callWith_type1 (thn (ha.run pos pins s σ H _ I h) fun us s1 ⟨vs, H1, I1, r1, q1⟩ => ?_) st pl))
  obtain ⟨a, b, xs, ys, rfl, tx, ly, q⟩ := q1
  cases r1 with
  | cons r rr =>
  cases rr with
  | cons r' rr =>
  cases rr
  cases r
  cases r'
  obtain ⟨its, rv, p1, _⟩ := I1.list tx
  obtain ⟨its2, rv2, p2, _⟩ := I1.tuple ly
  obtain ⟨o1, ho1, _⟩ := id p1.isList
  obtain ⟨o2, ho2, _⟩ := id p2
  have la := Heap.lt_size ho1
  have lb := Heap.lt_size ho2
  refine zip_begins2 (begins_list a its.toArray) (begins_tuple b its2.toArray) p1.isList (show s1.heap.IsTuple b its2.toArray from p2) fun g gz gI gO g1 g2 gn gk => wpAny_pyIter_zip gz ?_
  have J : Inv X pins σ H1 { s1 with heap := g } := I1.kept (t' := s1.toks) gk
  refine ⟨s1.heap.objs.size + 4, [s1.heap.objs.size + 4, s1.heap.objs.size + 2, s1.heap.objs.size + 3, s1.heap.objs.size, s1.heap.objs.size + 1], _, _, H1, rfl, J, turn_zipN (PySem.W.ktu_apart s1.heap.objs.size a b la lb), ⟨gz, gI, ⟨_, _, gO⟩, ⟨_, g1, rfl, rfl⟩, ⟨_, g2, rfl, rfl⟩⟩, fun c hc => ?_, q⟩
  have le : s1.heap.objs.size ≤ c := by
    rcases five hc with rfl | rfl | rfl | rfl | rfl <;> omega
  exact I1.fpOk le (I1.hok.fresh le)
theorem for_zipN {K : PySem.W.Frag} {a b : Addr} {xs ys : List V} {g : TG} {tb : TS} {D : Ends} {σ : L2.St} {H : Hp} (hl : xs.length = ys.length) (Pv : Nat → L2.St → Hp → Prop) (h0 : Pv 0 σ H) (hq : ∀ i σ H, Pv i σ H → SqL K H a xs ∧ SqT K H b ys)
    (hs : ∀ (i : Nat) (x y : V) (t : Addr) (σ : L2.St) (H : Hp), xs[i]? = some x → ys[i]? = some y → Pv i σ H → H t = none → g (.ref t) σ (upd H t (.tup [x, y])) fun σ2 H2 => tb { D with nx := Pv (i + 1), ct := Pv (i + 1), bk := D.nx } σ2 H2) (hd : ∀ σ H, Pv xs.length σ H → D.nx σ H) :
    ∃ W : Nat → Nat → L2.St → Hp → Prop, (∃ m, W 0 m σ H) ∧ ∀ i m σ H, W i m σ H →
      ((ItzN K a b).stop i H ∧ D.nx σ H) ∨ ((ItzN K a b).go i H ∧ ∃ N : L2.St → Hp → Prop, (∀ σ' H', N σ' H' → ∃ m', m' < m ∧ W (i + 1) m' σ' H') ∧ ∀ v H', (ItzN K a b).yld i H v H' → g v σ H' fun σ2 H2 => tb { D with nx := N, ct := N, bk := D.nx } σ2 H2) := by
  refine ⟨fun i m σ H => i + m = xs.length ∧ Pv i σ H, ⟨xs.length, Nat.zero_add _, h0⟩, ?_⟩
  rintro i m σ H ⟨im, pv⟩
  obtain ⟨qx, qy⟩ := hq i σ H pv
  by_cases e : m = 0
  · have ei : i = xs.length := by omega
    subst ei
    exact .inl ⟨⟨xs, ys, qx, qy, .inl rfl, Nat.le_refl _, by omega⟩, hd σ H pv⟩
  · have li : i < xs.length := by omega
    have lj : i < ys.length := by omega
    refine .inr ⟨⟨xs, ys, _, _, qx, qy, List.getElem?_eq_getElem li, List.getElem?_eq_getElem lj⟩, Pv (i + 1), fun σ' H' p' => ⟨m - 1, by omega, by omega, p'⟩, fun v H' y => ?_⟩
    obtain ⟨t, x', y', rfl, ht, rfl, f1, f2⟩ := y
    exact hs i x' y' t σ H (f1 xs qx) (f2 ys qy) pv ht
end My

namespace My
open PySem L2
def top (i : Nat) : Stmt := PySem.Challenge.pw_figuretexts_k65_sum_papers_of_any_hand.main.body.getD i (.Pass ⟨0, 0, 0, 0⟩)
abbrev s_is_whole : Stmt := top 3
theorem sc_is_whole : FnScope ["thing"] ["thing"] (defScope s_is_whole) := ⟨rfl, rfl, rfl, by decide +kernel, rfl, by decide +kernel, by decide +kernel⟩
abbrev s_Number_init : Stmt := inClass (top 7) 0
theorem sc_Number_init : FnScope ["self", "top", "bottom", "common"] ["self", "top", "bottom"] (defScope s_Number_init) := ⟨rfl, rfl, rfl, by decide +kernel, rfl, by decide +kernel, by decide +kernel⟩
abbrev s_Number_more : Stmt := inClass (top 7) 4
theorem sc_Number_more : FnScope ["self", "other"] ["self", "other"] (defScope s_Number_more) := ⟨rfl, rfl, rfl, by decide +kernel, rfl, by decide +kernel, by decide +kernel⟩
abbrev s_Number_less : Stmt := inClass (top 7) 5
theorem sc_Number_less : FnScope ["self", "other"] ["self", "other"] (defScope s_Number_less) := ⟨rfl, rfl, rfl, by decide +kernel, rfl, by decide +kernel, by decide +kernel⟩
abbrev s_Number_over : Stmt := inClass (top 7) 7
theorem sc_Number_over : FnScope ["self", "other"] ["self", "other"] (defScope s_Number_over) := ⟨rfl, rfl, rfl, by decide +kernel, rfl, by decide +kernel, by decide +kernel⟩
abbrev s_Number_below : Stmt := inClass (top 7) 8
theorem sc_Number_below : FnScope ["self", "other"] ["self", "other"] (defScope s_Number_below) := ⟨rfl, rfl, rfl, by decide +kernel, rfl, by decide +kernel, by decide +kernel⟩
abbrev s_total_of : Stmt := top 8
theorem sc_total_of : FnScope ["numbers", "half"] ["numbers"] (defScope s_total_of) := ⟨rfl, rfl, rfl, by decide +kernel, rfl, by decide +kernel, by decide +kernel⟩
abbrev s_sum_holds : Stmt := top 10
theorem sc_sum_holds : FnScope ["parts", "step", "thing", "counts", "paper", "part", "count"] ["parts", "step", "thing"] (defScope s_sum_holds) := ⟨rfl, rfl, rfl, by decide +kernel, rfl, by decide +kernel, by decide +kernel⟩
abbrev s_is_told : Stmt := top 11
theorem sc_is_told : FnScope ["thing", "many", "count"] ["thing", "many"] (defScope s_is_told) := ⟨rfl, rfl, rfl, by decide +kernel, rfl, by decide +kernel, by decide +kernel⟩
abbrev s_is_put_so : Stmt := top 12
theorem sc_is_put_so : FnScope ["steps", "count", "paper", "off", "beyond"] ["steps", "count", "paper"] (defScope s_is_put_so) := ⟨rfl, rfl, rfl, by decide +kernel, rfl, by decide +kernel, by decide +kernel⟩
abbrev s_is_rounded : Stmt := top 13
theorem sc_is_rounded : FnScope ["steps", "total", "doubled"] ["steps", "total"] (defScope s_is_rounded) := ⟨rfl, rfl, rfl, by decide +kernel, rfl, by decide +kernel, by decide +kernel⟩
abbrev s_l_well : Stmt := top 15
theorem sc_l_well : FnScope ["_law_script", "_law_k", "_law_cell"] ["_law_script", "_law_k"] (defScope s_l_well) := ⟨rfl, rfl, rfl, by decide +kernel, rfl, by decide +kernel, by decide +kernel⟩
abbrev s_l_take : Stmt := top 16
theorem sc_l_take : FnScope ["_law_well_here", "_law_top", "_law_digit", "_law_number"] ["_law_well_here", "_law_top"] (defScope s_l_take) := ⟨rfl, rfl, rfl, by decide +kernel, rfl, by decide +kernel, by decide +kernel⟩
abbrev s_l_step : Stmt := top 17
theorem sc_l_step : FnScope ["_law_well_here", "_law_some"] ["_law_well_here"] (defScope s_l_step) := ⟨rfl, rfl, rfl, by decide +kernel, rfl, by decide +kernel, by decide +kernel⟩
abbrev s_l_parts : Stmt := top 18
theorem sc_l_parts : FnScope ["_law_well_here", "_law_by", "_law_most", "_law_way", "_law_found", "_law_k", "_law_dozen", "_law_count", "_law_rest", "_law_part"] ["_law_well_here", "_law_by", "_law_most"] (defScope s_l_parts) := ⟨rfl, rfl, rfl, by decide +kernel, rfl, by decide +kernel, by decide +kernel⟩
abbrev s_l_beyond : Stmt := top 19
theorem sc_l_beyond : FnScope ["_law_parts_here", "_law_by", "_law_found", "_law_top", "_law_bottom", "_law_over", "_law_under"] ["_law_parts_here", "_law_by"] (defScope s_l_beyond) := ⟨rfl, rfl, rfl, by decide +kernel, rfl, by decide +kernel, by decide +kernel⟩
abbrev s_l_steps : Stmt := top 20
theorem sc_l_steps : FnScope ["_law_parts_here", "_law_by", "_law_top", "_law_bottom", "_law_over", "_law_under", "_law_wide", "_law_low", "_law_rest"] ["_law_parts_here", "_law_by"] (defScope s_l_steps) := ⟨rfl, rfl, rfl, by decide +kernel, rfl, by decide +kernel, by decide +kernel⟩
abbrev s_l_counts : Stmt := top 21
theorem sc_l_counts : FnScope ["_law_parts_here", "_law_by", "_law_rows", "_law_left", "_law_counts_here", "_law_turn", "_law_best", "_law_k", "_law_row"] ["_law_parts_here", "_law_by"] (defScope s_l_counts) := ⟨rfl, rfl, rfl, by decide +kernel, rfl, by decide +kernel, by decide +kernel⟩
abbrev s_l_holds : Stmt := top 22
theorem sc_l_holds : FnScope ["_law_parts_here", "_law_by", "_law_thing", "_law_counts_here", "_law_paper_here", "_law_one", "_law_row", "_law_far"] ["_law_parts_here", "_law_by", "_law_thing"] (defScope s_l_holds) := ⟨rfl, rfl, rfl, by decide +kernel, rfl, by decide +kernel, by decide +kernel⟩
abbrev s_l_made : Stmt := top 23
theorem sc_l_made : FnScope ["_law_parts_here", "_law_top", "_law_bottom"] ["_law_parts_here"] (defScope s_l_made) := ⟨rfl, rfl, rfl, by decide +kernel, rfl, by decide +kernel, by decide +kernel⟩
abbrev s_l_by_hand : Stmt := top 24
theorem sc_l_by_hand : FnScope ["_law_well_here", "_law_rows", "_law_due", "_law_way", "_law_counts_here", "_law_at", "_law_other", "_law_far", "_law_low", "_law_rest", "_law_under"] ["_law_well_here", "_law_rows", "_law_due"] (defScope s_l_by_hand) := ⟨rfl, rfl, rfl, by decide +kernel, rfl, by decide +kernel, by decide +kernel⟩
abbrev s_l_paper : Stmt := top 25
theorem sc_l_paper : FnScope ["_law_well_here", "_law_rows", "_law_low", "_law_rest", "_law_under", "_law_some"] ["_law_well_here", "_law_rows"] (defScope s_l_paper) := ⟨rfl, rfl, rfl, by decide +kernel, rfl, by decide +kernel, by decide +kernel⟩
abbrev s_l_threshold : Stmt := top 26
theorem sc_l_threshold : FnScope ["_law_rows", "_law_counts_here", "_law_found", "_law_low", "_law_rest", "_law_under", "_law_count"] ["_law_rows", "_law_counts_here"] (defScope s_l_threshold) := ⟨rfl, rfl, rfl, by decide +kernel, rfl, by decide +kernel, by decide +kernel⟩
abbrev s_law : Stmt := top 27
theorem sc_law : FnScope ["_law_script", "_law_k", "_law_well_here", "_law_great", "_law_by", "_law_parts_here", "_law_made_here", "_law_step_made", "_law_rows", "_law_due", "_law_good", "_law_turn", "_law_thing", "_law_told"] ["_law_script"] (defScope s_law) := ⟨rfl, rfl, rfl, by decide +kernel, rfl, by decide +kernel, by decide +kernel⟩
structure Txt (w : World) (K : PySem.W.Frag) (mg : Str → Option Value) where
  C_Number : Addr
  m_Number : mg "Number" = some (.ref C_Number)
  c_Number : Cls K C_Number
  n_Number_top : NoAttr K C_Number "top"
  n_Number_bottom : NoAttr K C_Number "bottom"
  ty_Number_c : PySem.W.findIn K (.ref C_Number) "__class__" = some (some (.builtin "object.__class__"))
  ty_Number_g : PySem.W.specialIn K (.builtin "object.__class__") "__get__" = some (some (.builtin "getset_descriptor.__get__"))
  ty_Number_t : PySem.W.takesIn K (.builtin "object.__class__") = some true
  ty_Number_m : PySem.W.mroIn K C_Number (.type "object") = some true
  ty_Number_k : PySem.W.kitOne K (.ref C_Number) (.ref C_Number) = some true
  ne_Number : PySem.W.findIn K (.ref C_Number) "__ne__" = some (some (.builtin "object.__ne__"))
  f_is_whole : Addr
  fd_is_whole : FuncData
  F_is_whole : Fun K "is_whole" "is_whole" s_is_whole f_is_whole fd_is_whole
  m_is_whole : mg "is_whole" = some (.ref f_is_whole)
  b_is_whole : Binds K fd_is_whole ["thing"] []
  f_Number_init : Addr
  fd_Number_init : FuncData
  F_Number_init : FunD K "__init__" "Number.__init__" (defArgs s_Number_init) (defBody s_Number_init) (defScope s_Number_init) [V.int 1] [] f_Number_init fd_Number_init
  mk_Number : Mk K C_Number f_Number_init
  b_Number_init2 : Binds K fd_Number_init ["self", "top", "bottom"] []
  ds_Number_init1 : List Value
  d_Number_init1 : Vals [V.int 1] ds_Number_init1
  b_Number_init1 : Binds K fd_Number_init ["self", "top", "bottom"] ds_Number_init1
  f_Number_more : Addr
  fd_Number_more : FuncData
  F_Number_more : Fun K "more" "Number.more" s_Number_more f_Number_more fd_Number_more
  me_Number_more : Meth K C_Number "more" f_Number_more
  b_Number_more : Binds K fd_Number_more ["self", "other"] []
  f_Number_less : Addr
  fd_Number_less : FuncData
  F_Number_less : Fun K "less" "Number.less" s_Number_less f_Number_less fd_Number_less
  me_Number_less : Meth K C_Number "less" f_Number_less
  b_Number_less : Binds K fd_Number_less ["self", "other"] []
  f_Number_over : Addr
  fd_Number_over : FuncData
  F_Number_over : Fun K "over" "Number.over" s_Number_over f_Number_over fd_Number_over
  me_Number_over : Meth K C_Number "over" f_Number_over
  b_Number_over : Binds K fd_Number_over ["self", "other"] []
  f_Number_below : Addr
  fd_Number_below : FuncData
  F_Number_below : Fun K "below" "Number.below" s_Number_below f_Number_below fd_Number_below
  me_Number_below : Meth K C_Number "below" f_Number_below
  b_Number_below : Binds K fd_Number_below ["self", "other"] []
  f_total_of : Addr
  fd_total_of : FuncData
  F_total_of : Fun K "total_of" "total_of" s_total_of f_total_of fd_total_of
  m_total_of : mg "total_of" = some (.ref f_total_of)
  b_total_of : Binds K fd_total_of ["numbers"] []
  f_sum_holds : Addr
  fd_sum_holds : FuncData
  F_sum_holds : Fun K "sum_holds" "sum_holds" s_sum_holds f_sum_holds fd_sum_holds
  m_sum_holds : mg "sum_holds" = some (.ref f_sum_holds)
  b_sum_holds : Binds K fd_sum_holds ["parts", "step", "thing"] []
  f_is_told : Addr
  fd_is_told : FuncData
  F_is_told : Fun K "_is_told" "_is_told" s_is_told f_is_told fd_is_told
  m_is_told : mg "_is_told" = some (.ref f_is_told)
  b_is_told : Binds K fd_is_told ["thing", "many"] []
  f_is_put_so : Addr
  fd_is_put_so : FuncData
  F_is_put_so : Fun K "_is_put_so" "_is_put_so" s_is_put_so f_is_put_so fd_is_put_so
  m_is_put_so : mg "_is_put_so" = some (.ref f_is_put_so)
  b_is_put_so : Binds K fd_is_put_so ["steps", "count", "paper"] []
  f_is_rounded : Addr
  fd_is_rounded : FuncData
  F_is_rounded : Fun K "_is_rounded" "_is_rounded" s_is_rounded f_is_rounded fd_is_rounded
  m_is_rounded : mg "_is_rounded" = some (.ref f_is_rounded)
  b_is_rounded : Binds K fd_is_rounded ["steps", "total"] []
  f_l_well : Addr
  fd_l_well : FuncData
  F_l_well : Fun K "_law_well" "_law_well" s_l_well f_l_well fd_l_well
  m_l_well : mg "_law_well" = some (.ref f_l_well)
  b_l_well : Binds K fd_l_well ["_law_script", "_law_k"] []
  f_l_take : Addr
  fd_l_take : FuncData
  F_l_take : Fun K "_law_take" "_law_take" s_l_take f_l_take fd_l_take
  m_l_take : mg "_law_take" = some (.ref f_l_take)
  b_l_take : Binds K fd_l_take ["_law_well_here", "_law_top"] []
  f_l_step : Addr
  fd_l_step : FuncData
  F_l_step : Fun K "_law_step" "_law_step" s_l_step f_l_step fd_l_step
  m_l_step : mg "_law_step" = some (.ref f_l_step)
  b_l_step : Binds K fd_l_step ["_law_well_here"] []
  f_l_parts : Addr
  fd_l_parts : FuncData
  F_l_parts : Fun K "_law_parts" "_law_parts" s_l_parts f_l_parts fd_l_parts
  m_l_parts : mg "_law_parts" = some (.ref f_l_parts)
  b_l_parts : Binds K fd_l_parts ["_law_well_here", "_law_by", "_law_most"] []
  f_l_beyond : Addr
  fd_l_beyond : FuncData
  F_l_beyond : Fun K "_law_beyond" "_law_beyond" s_l_beyond f_l_beyond fd_l_beyond
  m_l_beyond : mg "_law_beyond" = some (.ref f_l_beyond)
  b_l_beyond : Binds K fd_l_beyond ["_law_parts_here", "_law_by"] []
  f_l_steps : Addr
  fd_l_steps : FuncData
  F_l_steps : Fun K "_law_steps" "_law_steps" s_l_steps f_l_steps fd_l_steps
  m_l_steps : mg "_law_steps" = some (.ref f_l_steps)
  b_l_steps : Binds K fd_l_steps ["_law_parts_here", "_law_by"] []
  f_l_counts : Addr
  fd_l_counts : FuncData
  F_l_counts : Fun K "_law_counts" "_law_counts" s_l_counts f_l_counts fd_l_counts
  m_l_counts : mg "_law_counts" = some (.ref f_l_counts)
  b_l_counts : Binds K fd_l_counts ["_law_parts_here", "_law_by"] []
  f_l_holds : Addr
  fd_l_holds : FuncData
  F_l_holds : Fun K "_law_holds" "_law_holds" s_l_holds f_l_holds fd_l_holds
  m_l_holds : mg "_law_holds" = some (.ref f_l_holds)
  b_l_holds : Binds K fd_l_holds ["_law_parts_here", "_law_by", "_law_thing"] []
  f_l_made : Addr
  fd_l_made : FuncData
  F_l_made : Fun K "_law_made" "_law_made" s_l_made f_l_made fd_l_made
  m_l_made : mg "_law_made" = some (.ref f_l_made)
  b_l_made : Binds K fd_l_made ["_law_parts_here"] []
  f_l_by_hand : Addr
  fd_l_by_hand : FuncData
  F_l_by_hand : Fun K "_law_by_hand" "_law_by_hand" s_l_by_hand f_l_by_hand fd_l_by_hand
  m_l_by_hand : mg "_law_by_hand" = some (.ref f_l_by_hand)
  b_l_by_hand : Binds K fd_l_by_hand ["_law_well_here", "_law_rows", "_law_due"] []
  f_l_paper : Addr
  fd_l_paper : FuncData
  F_l_paper : Fun K "_law_paper" "_law_paper" s_l_paper f_l_paper fd_l_paper
  m_l_paper : mg "_law_paper" = some (.ref f_l_paper)
  b_l_paper : Binds K fd_l_paper ["_law_well_here", "_law_rows"] []
  f_l_threshold : Addr
  fd_l_threshold : FuncData
  F_l_threshold : Fun K "_law_threshold" "_law_threshold" s_l_threshold f_l_threshold fd_l_threshold
  m_l_threshold : mg "_law_threshold" = some (.ref f_l_threshold)
  b_l_threshold : Binds K fd_l_threshold ["_law_rows", "_law_counts_here"] []
  f_law : Addr
  fd_law : FuncData
  F_law : Fun K "law" "law" s_law f_law fd_law
  m_law : mg "law" = some (.ref f_law)
  b_law : Binds K fd_law ["_law_script"] []
  m_gcd : mg "gcd" = some (.builtin "math.gcd")
  n_range : mg "range" = none
  n_isinstance : mg "isinstance" = none
  n_str : mg "str" = none
  n_int : mg "int" = none
  n_list : mg "list" = none
  n_len : mg "len" = none
  n_abs : mg "abs" = none
  n_max : mg "max" = none
  n_min : mg "min" = none
  n_bool : mg "bool" = none
  n_repr : mg "repr" = none
  n_tuple : mg "tuple" = none
  n_all : mg "all" = none
  n_sum : mg "sum" = none
  n_zip : mg "zip" = none

section
variable {P : Program} {w : World} {K : PySem.W.Frag} {mg : Str → Option Value} {base : Heap}
/-! ### Number -/
def nf (q : Rat) : List (Str × V) := [("top", .int q.num), ("bottom", .int (q.den : Int))]
theorem tb_ : ¬ (("top" : Str) = "bottom") := by decide +kernel
theorem bt_ : ¬ (("bottom" : Str) = "top") := by decide +kernel
theorem nf_put (a b : Int) : putF "bottom" (.int b) (putF "top" (.int a) []) = ([("top", V.int a), ("bottom", V.int b)] : List (Str × V)) := by
  show (if ("top" : Str) = "bottom" then [(("top" : Str), V.int b)] else (("top" : Str), V.int a) :: putF "bottom" (V.int b) []) = ([("top", V.int a), ("bottom", V.int b)] : List (Str × V))
  rw [if_neg tb_]
  all_goals rfl
theorem nf_top (q : Rat) : (nf q).lookup ("top" : Str) = some (.int q.num) := by
  have e : (("top" : Str) == "top") = true := by decide +kernel
  unfold nf
  simp only [List.lookup, e]
theorem nf_bottom (q : Rat) : (nf q).lookup ("bottom" : Str) = some (.int (q.den : Int)) := by
  have e : (("bottom" : Str) == "top") = false := by decide +kernel
  have e' : (("bottom" : Str) == "bottom") = true := by decide +kernel
  unfold nf
  simp only [List.lookup, e, e']
theorem nf_no (q : Rat) {m : Str} (h1 : (m == "top") = false) (h2 : (m == "bottom") = false) : (nf q).lookup m = none := by
  unfold nf
  simp only [List.lookup, h1, h2]
/-- the Number q stands at p -/
def NumAt (C : Addr) (H : Hp) (p : Addr) (q : Rat) : Prop := ∃ dx, H p = some (.ins C dx (nf q))
theorem NumAt.same {C : Addr} {H H' : Hp} {p : Addr} {q : Rat} (s : Same H H') (h : NumAt C H p q) : NumAt C H' p q := let ⟨dx, e⟩ := h; ⟨dx, s _ _ e⟩

def spInit (C : Addr) : Sp := fun vs H Q _ => ∃ (p dx : Addr) (t b : Int), vs = [.ref p, .int t, .int b] ∧ H p = some (.ins C dx []) ∧ b ≠ 0 ∧ b.natAbs < 2 ^ 9000 ∧ Q .non (upd H p (.ins C dx (nf (Rat.divInt t b))))
theorem ok_Number_init (T : Txt w K mg) : FnOk P w K mg base CX0 1 T.f_Number_init T.fd_Number_init ["self", "top", "bottom"] (spInit T.C_Number) := by
  refine T.F_Number_init.ok sc_Number_init (fun vs H Q E h => ?_) (fun cdv A outer s H vs Q E hr h => ?_)
  · obtain ⟨p, dx, t, b, rfl, _⟩ := h
    rfl
  · obtain ⟨p, dx, t, b, rfl, hp, hb, hl, k⟩ := h
    refine ⟨_, (pss_cons (ps_if (pt_cmpR op_eq (pv 2) pe_int (nomark _))
  (pss_one ps_never)
  pss_nil)
 (pss_cons (ps_set (i := 3) sc_Number_init.nd rfl (Or.inl rfl) (pe_callBfun cr_gcd (by rfl) T.m_gcd (pa_cons (pv 1) (pa_cons (pv 2) pa_nil))))
 (pss_cons (ps_if (pt_cmpR op_lt (pv 2) pe_int (nomark _))
  (pss_one (ps_set (i := 3) sc_Number_init.nd rfl (Or.inl rfl) (pe_un un_neg (pv 3))))
  pss_nil)
 (pss_cons (ps_fld (pv 0) (pe_op op_fdivA (pv 1) (pv 3)) rfl)
 (pss_one (ps_fld (pv 0) (pe_op op_fdivA (pv 2) (pv 3)) rfl)))))), ?_⟩
    walk_at "rd"
    refine r_iteF (decide_eq_false hb) ?_
    walk_at "rd"
    refine ⟨_, _, rfl, ?_⟩
    have fin : ∀ c : Int, c = cdiv t b → sFld K (tVar 0) (tOp (rI CDivA fun i j => .int (i.fdiv j)) (tVar 1) (tVar 3)) "top" ⟨sFld K (tVar 0) (tOp (rI CDivA fun i j => .int (i.fdiv j)) (tVar 2) (tVar 3)) "bottom" ⟨fun _ H' => Q .non H', Q, fun _ _ => False, fun _ _ => False⟩, Q, fun _ _ => False, fun _ _ => False⟩ [some (.ref p), some (.int t), some (.int b), some (.int c)] H := by
      rintro c rfl
      have hg := gcd_pos (t := t) hb
      have hc : CDivA t (cdiv t b) ∧ CDivA b (cdiv t b) := by
        have n0 : cdiv t b ≠ 0 := by unfold cdiv; split <;> omega
        have nb : (cdiv t b).natAbs < 2 ^ 9000 := by
          have le : Nat.gcd t.natAbs b.natAbs ≤ b.natAbs := Nat.le_of_dvd (by omega) (Nat.gcd_dvd_right _ _)
          have e : (cdiv t b).natAbs = Nat.gcd t.natAbs b.natAbs := by unfold cdiv; split <;> omega
          rw [e]
          exact Nat.lt_of_le_of_lt le hl
        exact ⟨cdivA n0 nb (by decide) (Nat.le_refl _), cdivA n0 nb (by decide) (Nat.le_refl _)⟩
      walk_at "rd"
      refine r_I hc.1 ?_
      walk_at "rd"
      refine ⟨p, T.C_Number, dx, [], rfl, hp, T.c_Number, T.n_Number_top, (by show 0 < 1000; decide), ?_⟩
      walk_at "rd"
      refine r_I hc.2 ?_
      walk_at "rd"
      refine ⟨p, T.C_Number, dx, _, rfl, upd_same, T.c_Number, T.n_Number_bottom, (by show 1 < 1000; decide), ?_⟩
      show Q .non (upd (upd H p _) p (.ins T.C_Number dx (putF "bottom" _ (putF "top" _ []))))
      rw [upd_upd, nf_put, num_of hb, den_of hb]
      exact k
    walk_at "rd"
    refine r_ite (fun hn => ?_) (fun hn => ?_)
    · iterate 5 walk_at "rd1"
      refine fin _ ?_
      unfold cdiv
      rw [if_pos (of_decide_eq_true hn)]
    · iterate 1 walk_at "rd1"
      refine fin _ ?_
      unfold cdiv
      rw [if_neg (of_decide_eq_false hn)]
end
end My
local macro_rules | `(tactic| walk_at "fld") => `(tactic| refine My.r_fld (by assumption) (by assumption) (by assumption) (by first | exact My.nf_top _ | exact My.nf_bottom _) ?_)
local macro_rules | `(tactic| walk_at "rdf") => `(tactic| (repeat (first | walk_at "rd1" | walk_at "fld")))


namespace My
open PySem L2
section
variable {P : Program} {w : World} {K : PySem.W.Frag} {mg : Str → Option Value} {base : Heap}
/-- a Number made at once -/
theorem mk_num {C : Addr} {H : Hp} {t b : Int} {R : Addr → Hp → Prop} {E : XK} (hb : b ≠ 0) (hl : b.natAbs < 2 ^ 9000) (q : ∀ (p : Addr) (H' : Hp), Same H H' → H p = none → NumAt C H' p (Rat.divInt t b) → R p H') :
    ∀ x dx, H x = none → H dx = none → dx ≠ x → spInit C (.ref x :: ([V.int t, V.int b] ++ [])) (upd (upd H dx (.own x)) x (.ins C dx [])) (fun v H2 => v = .non ∧ R x H2) E := by
  intro x dx nx ndx ne
  refine ⟨x, dx, t, b, rfl, upd_same, hb, hl, rfl, q x _ (fun y o e => ?_) nx ⟨dx, upd_same⟩⟩
  rw [upd_ne (ne_of_none e nx), upd_ne (ne_of_none e nx), upd_ne (ne_of_none e ndx)]
  exact e
theorem mk_num1 {C : Addr} {H : Hp} {t : Int} {R : Addr → Hp → Prop} {E : XK} (q : ∀ (p : Addr) (H' : Hp), Same H H' → H p = none → NumAt C H' p (t : Rat) → R p H') :
    ∀ x dx, H x = none → H dx = none → dx ≠ x → spInit C (.ref x :: ([V.int t] ++ [V.int 1])) (upd (upd H dx (.own x)) x (.ins C dx [])) (fun v H2 => v = .non ∧ R x H2) E :=
  mk_num (by decide) (Nat.lt_of_lt_of_le (by decide : Int.natAbs 1 < 2 ^ 1) (Nat.pow_le_pow_right (by decide) (by decide))) fun p H' s n h => q p H' s n (divInt_one t ▸ h)
/-- two Numbers in, one out -/
def spBin (C : Addr) (f : Rat → Rat → Rat) (ok : Rat → Rat → Prop) : Sp := fun vs H Q _ => ∃ (p q : Addr) (x y : Rat), vs = [.ref p, .ref q] ∧ NumAt C H p x ∧ NumAt C H q y ∧ Bd 4000 x ∧ Bd 4000 y ∧ ok x y ∧
  ∀ (r : Addr) (H' : Hp), Same H H' → H r = none → NumAt C H' r (f x y) → Q (.ref r) H'
theorem bd_den {n : Nat} {x : Rat} (h : Bd n x) : ((x.den : Nat) : Int).natAbs < 2 ^ n := by have := h.2; omega
theorem dd_ne (x y : Rat) : (x.den : Int) * (y.den : Int) ≠ 0 := Int.mul_ne_zero (den_ne x) (den_ne y)
theorem dd_lt {x y : Rat} (hx : Bd 4000 x) (hy : Bd 4000 y) : ((x.den : Int) * (y.den : Int)).natAbs < 2 ^ 9000 := natAbs_mul_lt (bd_den hx) (bd_den hy) (by decide)
theorem cm {i j : Int} (hi : i.natAbs < 2 ^ 4000) (hj : j.natAbs < 2 ^ 4000) : CMulW i j := wide_mul hi hj (by decide) (by decide) (by decide)
end
end My

namespace My
open PySem L2
section
variable {P : Program} {w : World} {K : PySem.W.Frag} {mg : Str → Option Value} {base : Heap}
theorem ok_Number_less (T : Txt w K mg) : FnOk P w K mg base CX0 3 T.f_Number_less T.fd_Number_less ["self", "other"] (spBin T.C_Number (fun x y => x - y) fun _ _ => True) := by
  refine T.F_Number_less.ok sc_Number_less (fun vs H Q E h => ?_) (fun cdv A outer s H vs Q E hr h => ?_)
  · obtain ⟨p, q, x, y, rfl, _⟩ := h
    rfl
  · obtain ⟨p, q, x, y, rfl, ⟨dx, hp⟩, ⟨dy, hq⟩, bx, by', _, k⟩ := h
    have cN := T.c_Number
    have nT := T.n_Number_top
    have nB := T.n_Number_bottom
    refine ⟨_, (pss_one (ps_ret (pe_make T.mk_Number (ok_Number_init T) (hr.mono (by decide)) (by rfl) T.m_Number T.b_Number_init2 .nil pass0 (pa_cons (pe_op op_sub (pe_op op_mulW (pe_fld (pv 0) rfl) (pe_fld (pv 1) rfl)) (pe_op op_mulW (pe_fld (pv 1) rfl) (pe_fld (pv 0) rfl))) (pa_cons (pe_op op_mulW (pe_fld (pv 0) rfl) (pe_fld (pv 1) rfl)) pa_nil))))), ?_⟩
    walk_at "rdf"
    refine r_I (cm bx.1 (bd_den by')) ?_
    walk_at "rdf"
    refine r_I (cm by'.1 (bd_den bx)) ?_
    walk_at "rdf"
    refine r_I (cm (bd_den bx) (bd_den by')) ?_
    walk_at "rdf"
    refine mk_num (dd_ne x y) (dd_lt bx by') fun r H' s n h => ?_
    rw [sub_eq] at h
    exact k r H' s n h
end
end My

namespace My
open PySem L2
section
variable {P : Program} {w : World} {K : PySem.W.Frag} {mg : Str → Option Value} {base : Heap}
theorem ok_Number_over (T : Txt w K mg) : FnOk P w K mg base CX0 3 T.f_Number_over T.fd_Number_over ["self", "other"] (spBin T.C_Number (fun x y => x / y) fun _ y => y ≠ 0) := by
  refine T.F_Number_over.ok sc_Number_over (fun vs H Q E h => ?_) (fun cdv A outer s H vs Q E hr h => ?_)
  · obtain ⟨p, q, x, y, rfl, _⟩ := h
    rfl
  · obtain ⟨p, q, x, y, rfl, ⟨dx, hp⟩, ⟨dy, hq⟩, bx, by', y0, k⟩ := h
    have cN := T.c_Number
    have nT := T.n_Number_top
    have nB := T.n_Number_bottom
    refine ⟨_, (pss_cons (ps_if (pt_cmpR op_eq (pe_fld (pv 1) rfl) pe_int (nomark _))
  (pss_one ps_never)
  pss_nil)
 (pss_one (ps_ret (pe_make T.mk_Number (ok_Number_init T) (hr.mono (by decide)) (by rfl) T.m_Number T.b_Number_init2 .nil pass0 (pa_cons (pe_op op_mulW (pe_fld (pv 0) rfl) (pe_fld (pv 1) rfl)) (pa_cons (pe_op op_mulW (pe_fld (pv 0) rfl) (pe_fld (pv 1) rfl)) pa_nil)))))), ?_⟩
    walk_at "rdf"
    refine r_iteF (decide_eq_false (num_ne y0)) ?_
    walk_at "rdf"
    refine r_I (cm bx.1 (bd_den by')) ?_
    walk_at "rdf"
    refine r_I (cm (bd_den bx) by'.1) ?_
    walk_at "rdf"
    refine mk_num (Int.mul_ne_zero (den_ne x) (num_ne y0)) (natAbs_mul_lt (bd_den bx) by'.1 (by decide)) fun r H' s n h => ?_
    rw [div_eq] at h
    exact k r H' s n h
end
end My

namespace My
open PySem L2
section
variable {P : Program} {w : World} {K : PySem.W.Frag} {mg : Str → Option Value} {base : Heap}
theorem Bd.add {m n : Nat} {x y : Rat} (hx : Bd m x) (hy : Bd n y) : Bd (m + n + 1) (x + y) := by
  rw [← add_eq]
  refine Bd.of (Int.mul_ne_zero (den_ne x) (den_ne y)) ?_ ?_
  · exact natAbs_add_lt (natAbs_mul_lt (m := m) (n := n) hx.1 (by have := hy.2; omega) (Nat.le_refl _)) (natAbs_mul_lt (m := n) (n := m) hy.1 (by have := hx.2; omega) (by omega))
  · exact natAbs_mul_lt (m := m) (n := n) (by have := hx.2; omega) (by have := hy.2; omega) (by omega)
theorem no_more (q : Rat) : (nf q).lookup ("more" : Str) = none := nf_no _ (by decide +kernel) (by decide +kernel)
theorem ok_Number_more (T : Txt w K mg) : FnOk P w K mg base CX0 3 T.f_Number_more T.fd_Number_more ["self", "other"] (spBin T.C_Number (fun x y => x + y) fun _ _ => True) := by
  refine T.F_Number_more.ok sc_Number_more (fun vs H Q E h => ?_) (fun cdv A outer s H vs Q E hr h => ?_)
  · obtain ⟨p, q, x, y, rfl, _⟩ := h
    rfl
  · obtain ⟨p, q, x, y, rfl, ⟨dx, hp⟩, ⟨dy, hq⟩, bx, by', _, k⟩ := h
    have cN := T.c_Number
    have nT := T.n_Number_top
    have nB := T.n_Number_bottom
    refine ⟨_, (pss_one (ps_ret (pe_make T.mk_Number (ok_Number_init T) (hr.mono (by decide)) (by rfl) T.m_Number T.b_Number_init2 .nil pass0 (pa_cons (pe_op op_add (pe_op op_mulW (pe_fld (pv 0) rfl) (pe_fld (pv 1) rfl)) (pe_op op_mulW (pe_fld (pv 1) rfl) (pe_fld (pv 0) rfl))) (pa_cons (pe_op op_mulW (pe_fld (pv 0) rfl) (pe_fld (pv 1) rfl)) pa_nil))))), ?_⟩
    walk_at "rdf"
    refine r_I (cm bx.1 (bd_den by')) ?_
    walk_at "rdf"
    refine r_I (cm by'.1 (bd_den bx)) ?_
    walk_at "rdf"
    refine r_I (cm (bd_den bx) (bd_den by')) ?_
    walk_at "rdf"
    refine mk_num (dd_ne x y) (dd_lt bx by') fun r H' s n h => ?_
    rw [add_eq] at h
    exact k r H' s n h
end
end My

namespace My
open PySem L2
section
variable {P : Program} {w : World} {K : PySem.W.Frag} {mg : Str → Option Value} {base : Heap}
theorem no_below (q : Rat) : (nf q).lookup ("below" : Str) = none := nf_no _ (by decide +kernel) (by decide +kernel)
def spBelow (C : Addr) : Sp := fun vs H Q _ => ∃ (p q : Addr) (x y : Rat), vs = [.ref p, .ref q] ∧ NumAt C H p x ∧ NumAt C H q y ∧ Bd 4000 x ∧ Bd 4000 y ∧ Q (.bl (decide (x < y))) H
theorem ok_Number_below (T : Txt w K mg) : FnOk P w K mg base CX0 1 T.f_Number_below T.fd_Number_below ["self", "other"] (spBelow T.C_Number) := by
  refine T.F_Number_below.ok sc_Number_below (fun vs H Q E h => ?_) (fun cdv A outer s H vs Q E hr h => ?_)
  · obtain ⟨p, q, x, y, rfl, _⟩ := h
    rfl
  · obtain ⟨p, q, x, y, rfl, ⟨dx, hp⟩, ⟨dy, hq⟩, bx, by', k⟩ := h
    have cN := T.c_Number
    have nT := T.n_Number_top
    have nB := T.n_Number_bottom
    refine ⟨_, (pss_one (ps_ret (pe_cmpR op_lt (pe_op op_mulW (pe_fld (pv 0) rfl) (pe_fld (pv 1) rfl)) (pe_op op_mulW (pe_fld (pv 1) rfl) (pe_fld (pv 0) rfl)) (nomark _)))), ?_⟩
    rw [lt_dec] at k
    walk_at "rdf"
    refine r_I (cm bx.1 (bd_den by')) ?_
    walk_at "rdf"
    refine r_I (cm by'.1 (bd_den bx)) ?_
    walk_at "rdf"
    exact k
end
end My

namespace My
open PySem L2
/-! ### Numbers in a row, and their sum by halves -/
inductive NumsV (C : Addr) (H : Hp) : List V → List Rat → Prop where
  | nil : NumsV C H [] []
  | cons {p : Addr} {x : Rat} {vs : List V} {xs : List Rat} : NumAt C H p x → NumsV C H vs xs → NumsV C H (.ref p :: vs) (x :: xs)
theorem NumsV.same {C : Addr} {H H' : Hp} (s : Same H H') {vs : List V} {xs : List Rat} (h : NumsV C H vs xs) : NumsV C H' vs xs := by
  induction h with
  | nil => exact .nil
  | cons a _ ih => exact .cons (a.same s) ih
theorem NumsV.len {C : Addr} {H : Hp} {vs : List V} {xs : List Rat} (h : NumsV C H vs xs) : vs.length = xs.length := by
  induction h with
  | nil => rfl
  | cons _ _ ih => rw [List.length_cons, List.length_cons, ih]
theorem NumsV.take {C : Addr} {H : Hp} {vs : List V} {xs : List Rat} (h : NumsV C H vs xs) : ∀ n, NumsV C H (vs.take n) (xs.take n) := by
  induction h with
  | nil => intro n; rw [List.take_nil, List.take_nil]; exact .nil
  | cons a _ ih =>
    intro n
    cases n with
    | zero => exact .nil
    | succ n => exact .cons a (ih n)
theorem NumsV.drop {C : Addr} {H : Hp} {vs : List V} {xs : List Rat} (h : NumsV C H vs xs) : ∀ n, NumsV C H (vs.drop n) (xs.drop n) := by
  induction h with
  | nil => intro n; rw [List.drop_nil, List.drop_nil]; exact .nil
  | cons a b ih =>
    intro n
    cases n with
    | zero => exact .cons a b
    | succ n => exact ih n
theorem NumsV.get {C : Addr} {H : Hp} {vs : List V} {xs : List Rat} (h : NumsV C H vs xs) : ∀ {i : Nat} {v : V}, vs[i]? = some v → ∃ p x, v = .ref p ∧ xs[i]? = some x ∧ NumAt C H p x := by
  induction h with
  | nil => intro i v z; simp at z
  | @cons p x _ _ a _ ih =>
    intro i v z
    cases i with
    | zero => exact ⟨p, x, (Option.some.inj z).symm, rfl, a⟩
    | succ i => exact ih z
/-- a tuple of Numbers -/
def PartsAt (C : Addr) (H : Hp) (p : Addr) (xs : List Rat) : Prop := ∃ vs, H p = some (.tup vs) ∧ NumsV C H vs xs
theorem PartsAt.same {C : Addr} {H H' : Hp} {p : Addr} {xs : List Rat} (s : Same H H') (h : PartsAt C H p xs) : PartsAt C H' p xs := let ⟨vs, a, b⟩ := h; ⟨vs, s _ _ a, b.same s⟩
theorem sumQ_append : ∀ a b : List Rat, sumQ (a ++ b) = sumQ a + sumQ b
  | [], b => by show sumQ b = 0 + sumQ b; grind
  | x :: a, b => by
    show x + sumQ (a ++ b) = x + sumQ a + sumQ b
    rw [sumQ_append a b]
    grind
theorem cut_toQ {xs : List V} {n : Nat} : cutV xs none (some (n : Int)) = xs.take n := by
  unfold cutV
  rw [HT.sIx_none, HT.sIx_nat, List.drop_zero, Nat.sub_zero]
  by_cases h : n ≤ xs.length
  · rw [Nat.min_eq_left h]
  · rw [Nat.min_eq_right (by omega), List.take_of_length_le (Nat.le_refl _), List.take_of_length_le (by omega)]
theorem cut_fromQ {xs : List V} {n : Nat} : cutV xs (some (n : Int)) none = xs.drop n := by
  unfold cutV
  rw [HT.sIx_none, HT.sIx_nat]
  by_cases h : n ≤ xs.length
  · rw [Nat.min_eq_left h, List.take_of_length_le (by rw [List.length_drop]; exact Nat.le_refl _)]
  · rw [Nat.min_eq_right (by omega), List.drop_eq_nil_of_le (Nat.le_refl _), List.drop_eq_nil_of_le (by omega : xs.length ≤ n), List.take_nil]
theorem cut_wholeQ {xs : List V} {lo hi : Option Int} (h : HT.sIx xs.length 0 lo = 0 ∧ HT.sIx xs.length xs.length hi = xs.length) : cutV xs lo hi = xs := by
  unfold cutV
  rw [h.1, h.2, List.drop_zero, Nat.sub_zero, List.take_of_length_le (Nat.le_refl _)]
theorem r_cutP {K : PySem.W.Frag} {H : Hp} {a : Addr} {xs : List V} {lo hi : Option Int} {Q : VK} (h : H a = some (.tup xs)) (q : ∀ (b : Addr) (H' : Hp), Same H H' → H' b = some (.tup (cutV xs lo hi)) → Q (.ref b) H') : rSlA K (.ref a) lo hi H Q :=
  ⟨a, xs, rfl, SqT.of h, fun z => q a H (Same.refl _) (by rw [cut_wholeQ z]; exact h), fun _ p hp => q p _ (Same.new hp) upd_same⟩
theorem parts_to {C : Addr} {K : PySem.W.Frag} {H : Hp} {a : Addr} {xs : List Rat} {n : Nat} {i : Int} {Q : VK} (h : PartsAt C H a xs) (e : i = (n : Int)) (q : ∀ (b : Addr) (H' : Hp), Same H H' → PartsAt C H' b (xs.take n) → Q (.ref b) H') : rSlA K (.ref a) none (some i) H Q := by
  obtain ⟨vs, hp, he⟩ := h
  subst e
  refine r_cutP hp fun b H' s hb => q b H' s ⟨_, hb, ?_⟩
  rw [cut_toQ]
  exact (he.same s).take n
theorem parts_from {C : Addr} {K : PySem.W.Frag} {H : Hp} {a : Addr} {xs : List Rat} {n : Nat} {i : Int} {Q : VK} (h : PartsAt C H a xs) (e : i = (n : Int)) (q : ∀ (b : Addr) (H' : Hp), Same H H' → PartsAt C H' b (xs.drop n) → Q (.ref b) H') : rSlA K (.ref a) (some i) none H Q := by
  obtain ⟨vs, hp, he⟩ := h
  subst e
  refine r_cutP hp fun b H' s hb => q b H' s ⟨_, hb, ?_⟩
  rw [cut_fromQ]
  exact (he.same s).drop n
theorem Bd.sum {b : Nat} : ∀ {xs : List Rat}, (∀ x ∈ xs, Bd b x) → Bd ((b + 1) * (xs.length + 1)) (sumQ xs)
  | [], _ => (Bd.int (n := 1) (i := 0) (by decide) (by decide)).mono (by show 1 ≤ (b + 1) * 1; omega)
  | x :: xs, h => by
    have a := h x (List.mem_cons_self ..)
    have c := Bd.sum (xs := xs) (fun y hy => h y (List.mem_cons_of_mem _ hy))
    refine (Bd.add a c).mono ?_
    rw [List.length_cons, Nat.mul_add (b + 1) (xs.length + 1) 1]
    omega
section
variable {P : Program} {w : World} {K : PySem.W.Frag} {mg : Str → Option Value} {base : Heap}
def spTotal (C : Addr) : Nat → Sp
  | 0 => fun _ _ _ _ => False
  | j + 1 => fun vs H Q _ => ∃ (p : Addr) (xs : List Rat) (b : Nat), vs = [.ref p] ∧ PartsAt C H p xs ∧ (0 < xs.length ∧ xs.length ≤ 2 ^ j) ∧ (∀ x ∈ xs, Bd b x) ∧ (b + 1) * (xs.length + 1) ≤ 4000 ∧ ∀ (r : Addr) (H' : Hp), Same H H' → NumAt C H' r (sumQ xs) → Q (.ref r) H'
theorem total_at {C : Addr} {j : Nat} {p : Addr} {xs : List Rat} {b : Nat} {H : Hp} {Q : VK} {E : XK} (hp : PartsAt C H p xs) (h0 : 0 < xs.length) (hj : xs.length * 2 ≤ 2 ^ j) (hb : ∀ x ∈ xs, Bd b x) (bl : (b + 1) * (xs.length + 1) ≤ 4000)
    (q : ∀ (r : Addr) (H' : Hp), Same H H' → NumAt C H' r (sumQ xs) → Q (.ref r) H') : spTotal C j [.ref p] H Q E := by
  cases j with
  | zero => simp at hj; omega
  | succ j => exact ⟨p, xs, b, rfl, hp, ⟨h0, by rw [Nat.pow_succ] at hj; omega⟩, hb, bl, q⟩
theorem ok_total_ofN (T : Txt w K mg) : ∀ j, FnOk P w K mg base CX0 (j + 4) T.f_total_of T.fd_total_of ["numbers"] (spTotal T.C_Number j)
  | 0 => T.F_total_of.ok sc_total_of (fun vs H Q E h => (show False from h).elim) (fun cdv A outer s H vs Q E hr h => (show False from h).elim)
  | j + 1 => by
    have ih := ok_total_ofN T j
    refine T.F_total_of.ok sc_total_of (fun vs H Q E h => ?_) (fun cdv A outer s H vs Q E hr h => ?_)
    · obtain ⟨p, xs, b, rfl, _⟩ := h
      rfl
    · obtain ⟨p, xs, b, rfl, hp, ⟨h0, h1⟩, hb, bl, k⟩ := h
      refine ⟨_, (pss_cons (ps_if (pt_cmpR op_eq (pe_callB call_len_seq (by rfl) T.n_len PySem.boot_len (pa_cons (pv 0) pa_nil)) pe_int (nomark _))
  (pss_one (ps_ret (pe_ix ix_tup (pv 0) pe_int (fun _ _ => rfl))))
  pss_nil)
 (pss_cons (ps_set (i := 1) sc_total_of.nd rfl (Or.inl rfl) (pe_op op_fdiv (pe_callB call_len_seq (by rfl) T.n_len PySem.boot_len (pa_cons (pv 0) pa_nil)) pe_int))
 (pss_one (ps_ret (pe_meth (pe_call ((fun _ => ih) T) (hr.mono (by omega)) (by rfl) T.m_total_of T.F_total_of.kp T.b_total_of .nil pass0 (pa_cons (pe_slice sl_tupA (pv 0) po_none (po_some (pv 1))) pa_nil)) T.c_Number T.me_Number_more (ok_Number_more T) (hr.mono (by omega)) T.b_Number_more .nil pass0 (pa_cons (pe_call ((fun _ => ih) T) (hr.mono (by omega)) (by rfl) T.m_total_of T.F_total_of.kp T.b_total_of .nil pass0 (pa_cons (pe_slice sl_tupA (pv 0) (po_some (pv 1)) po_none) pa_nil)) pa_nil)))))), ?_⟩
      obtain ⟨vs, hv, hn⟩ := id hp
      have hl := hn.len
      walk_at "rdh"
      refine ⟨p, vs, rfl, .inr (SqT.of hv), ?_⟩
      walk_at "rdh"
      refine r_ite (fun e => ?_) (fun e => ?_)
      · have l1 : vs.length = 1 := by have := of_decide_eq_true e; omega
        obtain ⟨q, x, e0, ex, hx⟩ := hn.get (i := 0) (v := vs[0]'(by omega)) (List.getElem?_eq_getElem (by omega))
        walk_at "rdh"
        refine r_ixT hv (atI_nat (j := 0) (List.getElem?_eq_getElem (by omega))) ?_
        rw [e0]
        have es : xs = [x] := by
          match xs, (show xs.length = 1 by omega), ex with
          | [y], _, ex => rw [Option.some.inj ex]
        refine k q H (Same.refl _) ?_
        rw [es]
        have : sumQ [x] = x := by show x + 0 = x; grind
        rw [this]
        exact hx
      · have l2 : 2 ≤ vs.length := by
          have := of_decide_eq_false e
          omega
        walk_at "rdh"
        refine ⟨p, vs, rfl, .inr (SqT.of hv), ?_⟩
        walk_at "rdh"
        have eh : ((vs.length : Int) / 2) = ((vs.length / 2 : Nat) : Int) := by omega
        have lt1 : (xs.take (vs.length / 2)).length = vs.length / 2 := by rw [List.length_take]; omega
        have lt2 : (xs.drop (vs.length / 2)).length = xs.length - vs.length / 2 := by rw [List.length_drop]
        have bt : (b + 1) * ((xs.take (vs.length / 2)).length + 1) ≤ 4000 := Nat.le_trans (Nat.mul_le_mul_left _ (by omega)) bl
        have bd : (b + 1) * ((xs.drop (vs.length / 2)).length + 1) ≤ 4000 := Nat.le_trans (Nat.mul_le_mul_left _ (by omega)) bl
        refine parts_to hp eh fun b1 H1 s1 u1 => ?_
        walk_at "rdh"
        have jj : 2 ≤ 2 ^ j := by
          cases j with
          | zero => omega
          | succ j => rw [Nat.pow_succ]; have := Nat.pow_pos (a := 2) (n := j) (by decide); omega
        have half2 : 2 ^ j % 2 = 0 := by
          cases j with
          | zero => omega
          | succ j => rw [Nat.pow_succ]; omega
        refine total_at u1 (by omega) (by omega) (fun x hx => hb x (List.mem_of_mem_take hx)) bt fun r1 H2 s2 n2 => ?_
        obtain ⟨d2, e2⟩ := n2
        walk_at "rdh"
        refine r_meth1 e2 (no_more _) ?_
        walk_at "rdh"
        refine parts_from (hp.same (s1.trans s2)) eh fun b2 H3 s3 u3 => ?_
        walk_at "rdh"
        refine total_at u3 (by omega) (by omega) (fun x hx => hb x (List.mem_of_mem_drop hx)) bd fun r2 H4 s4 n4 => ?_
        walk_at "rdh"
        refine ⟨r1, r2, _, _, rfl, ⟨_, s4 _ _ (s3 _ _ e2)⟩, n4, (Bd.sum fun x hx => hb x (List.mem_of_mem_take hx)).mono bt, (Bd.sum fun x hx => hb x (List.mem_of_mem_drop hx)).mono bd, trivial, fun r H5 s5 _ n5 => ?_⟩
        refine k r H5 (((s1.trans s2).trans (s3.trans s4)).trans s5) ?_
        have es : sumQ xs = sumQ (xs.take (vs.length / 2)) + sumQ (xs.drop (vs.length / 2)) := by rw [← sumQ_append, List.take_append_drop]
        rw [es]
        exact n5
end
end My

namespace My
open PySem L2
theorem r_tyes {σ : L2.St} {H : Hp} {A B : Hp → Prop} (q : A H) : tYes σ H (fun b H3 => if b = true then A H3 else B H3) := (iteT (A := A H) (B := B H) q : if true = true then A H else B H)
theorem num_over_den (u : Rat) : (u.num : Rat) / (u.den : Rat) = u := by
  have := Rat.num_divInt_den u
  rw [Rat.divInt_eq_div] at this
  exact this
theorem no_over (q : Rat) : (nf q).lookup ("over" : Str) = none := nf_no _ (by decide +kernel) (by decide +kernel)
theorem no_less (q : Rat) : (nf q).lookup ("less" : Str) = none := nf_no _ (by decide +kernel) (by decide +kernel)
theorem pe_fldK {X : Cx} {e : Expr} {f : Str} {pos : Pos} {ta : TE} {K0 : PySem.W.Frag} (hK : X.K = K0) (he : PE X e ta) (hb : attributeBase e f X.env (eval e X.env) = eval e X.env) : PE X (.Attribute e f pos) (tFld K0 ta f) := by
  subst hK
  exact pe_fld he hb
theorem op_in_seqK {X : Cx} {K0 : PySem.W.Frag} (hK : X.K = K0) : OpR X (compareOp .In) (rIn K0 false) := by
  subst hK
  exact op_in_seq
theorem part_bd {n : Nat} {u : Rat} (h : Bd n u) : Bd n (partQ u) := by
  have d0 := u.den_pos
  have e : partQ u = Rat.divInt (u.num % (u.den : Int)) (u.den : Int) := by
    unfold partQ
    rw [Rat.divInt_eq_div, Rat.floor_def]
    have h1 := num_over_den u
    have h2 : u.num % (u.den : Int) = u.num - (u.den : Int) * (u.num / (u.den : Int)) := Int.emod_def _ _
    rw [h2, Rat.intCast_sub, Rat.intCast_mul]
    have dn : (((u.den : Nat) : Int) : Rat) ≠ 0 := by
      intro z
      have := Rat.intCast_eq_zero_iff.mp z
      omega
    have h1' : (u.num : Rat) / (((u.den : Nat) : Int) : Rat) = u := h1
    generalize (u.num / (u.den : Int)) = f
    generalize (((u.den : Nat) : Int) : Rat) = dq at *
    generalize (u.num : Rat) = nq at *
    rw [← h1']
    grind
  rw [e]
  have m0 := Int.emod_nonneg u.num (show (u.den : Int) ≠ 0 by omega)
  have m1 := Int.emod_lt_of_pos u.num (show (0 : Int) < u.den by omega)
  have hd := h.2
  exact Bd.of (by omega) (by omega) (by omega)
theorem sumQ_over (y : Rat) : ∀ xs : List Rat, sumQ (xs.map (· / y)) = sumQ xs / y
  | [] => by show (0 : Rat) = 0 / y; grind
  | x :: xs => by
    show x / y + sumQ (xs.map (· / y)) = (x + sumQ xs) / y
    rw [sumQ_over y xs]
    grind
section
variable {P : Program} {w : World} {K : PySem.W.Frag} {mg : Str → Option Value} {base : Heap}
theorem ok_total_of (T : Txt w K mg) : FnOk P w K mg base CX0 10 T.f_total_of T.fd_total_of ["numbers"] (spTotal T.C_Number 6) := ok_total_ofN T 6
end
end My

namespace My
open PySem L2
section
variable {K : PySem.W.Frag}
/-- a comprehension over a list: what is kept, and what is put for it -/
theorem lcL_of {α : Type} {H : Hp} {a D : Addr} {zs : List α} {el e : α → V} {f : α → Bool} (hl : SqL K H a (zs.map el)) (hn : zs.length ≤ 1000) (hD : H D = none) {g : TG} {tt : TT} {te : TE} {i : Nat} {σ : L2.St} {Q : Hp → Prop} {vz : List Nat}
    (hg : ∀ (z : α) (H1 : Hp) (R : L2.St → Hp → Prop), z ∈ zs → R ((wipe σ vz).set i (some (el z))) H1 → g (el z) (wipe σ vz) H1 R)
    (hw : ∀ v : V, wipe ((wipe σ vz).set i (some v)) vz = wipe σ vz)
    (ht : ∀ (z : α) (H1 : Hp) (R : Bool → Hp → Prop), z ∈ zs → Same H H1 → (∀ H2, Same H1 H2 → R (f z) H2) → tt ((wipe σ vz).set i (some (el z))) H1 R)
    (he : ∀ (z : α) (H1 : Hp) (R : VK), z ∈ zs → f z = true → Same H H1 → (∀ H2, Same H1 H2 → R (e z) H2) → te ((wipe σ vz).set i (some (el z))) H1 R)
    (q : ∀ H' : Hp, Same H H' → H' D = some (.lst ((zs.filter f).map e)) → Q H') :
    ∃ W : Nat → Nat → Hp → Prop, (∃ m, W 0 m (upd H D (.lst []))) ∧ ∀ i m H, W i m H →
      ((Itl K a).stop i H ∧ Q H) ∨ ((Itl K a).go i H ∧ ∃ Nx : Hp → Prop, (∀ H', Nx H' → ∃ m', m' < m ∧ W (i + 1) m' H') ∧ ∀ x H', (Itl K a).yld i H x H' → g x (wipe σ vz) H' fun σ2 H2 => wipe σ2 vz = wipe σ vz ∧ tt σ2 H2 fun b H3 =>
        if b = true then te σ2 H3 fun y H4 => ∃ acc, H4 D = some (.lst acc) ∧ acc.length < sizeLine ∧ Nx (upd H4 D (.lst (acc ++ [y]))) else Nx H3) := by
  refine lc_list (K := K) (a := a) (xs := zs.map el) (fun j H' => Same H H' ∧ H' D = some (.lst (((zs.take j).filter f).map e)) ∧ j ≤ zs.length) ⟨Same.new hD, upd_same, Nat.zero_le _⟩ (fun j H' _ ⟨s, _⟩ => SqL.ext hl s) ?_ ?_
  · rintro j x H1 hx ⟨s1, hD1, hj⟩
    rw [List.getElem?_map] at hx
    obtain ⟨z, hz, rfl⟩ : ∃ z, zs[j]? = some z ∧ el z = x := by
      cases e : zs[j]? with
      | none => rw [e] at hx; cases hx
      | some z => rw [e] at hx; exact ⟨z, rfl, Option.some.inj hx⟩
    have hm : z ∈ zs := List.mem_of_getElem? hz
    have jl : j < zs.length := by
      rcases Nat.lt_or_ge j zs.length with h | h
      · exact h
      · rw [List.getElem?_eq_none h] at hz; cases hz
    have tk : zs.take (j + 1) = zs.take j ++ [z] := by rw [List.take_add_one, hz]; rfl
    refine hg z H1 _ hm ⟨hw _, ?_⟩
    refine ht z H1 _ hm s1 fun H2 s2 => ?_
    cases fz : f z with
    | false =>
      refine (iteF ?_ : if false = true then _ else _)
      refine ⟨s1.trans s2, ?_, by omega⟩
      rw [s2 _ _ hD1, tk, List.filter_append, List.filter_cons, fz]
      simp
    | true =>
      refine (iteT ?_ : if true = true then _ else _)
      refine he z H2 _ hm fz (s1.trans s2) fun H3 s3 => ?_
      have hD3 := s3 _ _ (s2 _ _ hD1)
      refine ⟨_, hD3, ?_, ?_, ?_, by omega⟩
      · rw [List.length_map]
        refine Nat.lt_of_le_of_lt (Nat.le_trans (List.length_filter_le _ _) ?_) (show 1000 < sizeLine by decide)
        rw [List.length_take]
        omega
      · intro b o hb
        rw [upd_ne (ne_of_none hb hD)]
        exact s3 _ _ (s2 _ _ (s1 _ _ hb))
      · rw [upd_same, tk, List.filter_append, List.filter_cons, fz]
        simp
  · rintro H1 ⟨s1, hD1, _⟩
    refine q H1 s1 ?_
    rw [hD1, List.take_of_length_le (by rw [List.length_map]; omega)]
/-- the same over a tuple -/
theorem lcT_of {α : Type} {H : Hp} {a D : Addr} {zs : List α} {el e : α → V} {f : α → Bool} (hl : SqT K H a (zs.map el)) (hn : zs.length ≤ 1000) (hD : H D = none) {g : TG} {tt : TT} {te : TE} {i : Nat} {σ : L2.St} {Q : Hp → Prop} {vz : List Nat}
    (hg : ∀ (z : α) (H1 : Hp) (R : L2.St → Hp → Prop), z ∈ zs → R ((wipe σ vz).set i (some (el z))) H1 → g (el z) (wipe σ vz) H1 R)
    (hw : ∀ v : V, wipe ((wipe σ vz).set i (some v)) vz = wipe σ vz)
    (ht : ∀ (z : α) (H1 : Hp) (R : Bool → Hp → Prop), z ∈ zs → Same H H1 → (∀ H2, Same H1 H2 → R (f z) H2) → tt ((wipe σ vz).set i (some (el z))) H1 R)
    (he : ∀ (z : α) (H1 : Hp) (R : VK), z ∈ zs → f z = true → Same H H1 → (∀ H2, Same H1 H2 → R (e z) H2) → te ((wipe σ vz).set i (some (el z))) H1 R)
    (q : ∀ H' : Hp, Same H H' → H' D = some (.lst ((zs.filter f).map e)) → Q H') :
    ∃ W : Nat → Nat → Hp → Prop, (∃ m, W 0 m (upd H D (.lst []))) ∧ ∀ i m H, W i m H →
      ((Itt K a).stop i H ∧ Q H) ∨ ((Itt K a).go i H ∧ ∃ Nx : Hp → Prop, (∀ H', Nx H' → ∃ m', m' < m ∧ W (i + 1) m' H') ∧ ∀ x H', (Itt K a).yld i H x H' → g x (wipe σ vz) H' fun σ2 H2 => wipe σ2 vz = wipe σ vz ∧ tt σ2 H2 fun b H3 =>
        if b = true then te σ2 H3 fun y H4 => ∃ acc, H4 D = some (.lst acc) ∧ acc.length < sizeLine ∧ Nx (upd H4 D (.lst (acc ++ [y]))) else Nx H3) := by
  refine lc_tup (K := K) (a := a) (xs := zs.map el) (fun j H' => Same H H' ∧ H' D = some (.lst (((zs.take j).filter f).map e)) ∧ j ≤ zs.length) ⟨Same.new hD, upd_same, Nat.zero_le _⟩ (fun j H' _ ⟨s, _⟩ => SqT.ext hl s) ?_ ?_
  · rintro j x H1 hx ⟨s1, hD1, hj⟩
    rw [List.getElem?_map] at hx
    obtain ⟨z, hz, rfl⟩ : ∃ z, zs[j]? = some z ∧ el z = x := by
      cases e : zs[j]? with
      | none => rw [e] at hx; cases hx
      | some z => rw [e] at hx; exact ⟨z, rfl, Option.some.inj hx⟩
    have hm : z ∈ zs := List.mem_of_getElem? hz
    have jl : j < zs.length := by
      rcases Nat.lt_or_ge j zs.length with h | h
      · exact h
      · rw [List.getElem?_eq_none h] at hz; cases hz
    have tk : zs.take (j + 1) = zs.take j ++ [z] := by rw [List.take_add_one, hz]; rfl
    refine hg z H1 _ hm ⟨hw _, ?_⟩
    refine ht z H1 _ hm s1 fun H2 s2 => ?_
    cases fz : f z with
    | false =>
      refine (iteF ?_ : if false = true then _ else _)
      refine ⟨s1.trans s2, ?_, by omega⟩
      rw [s2 _ _ hD1, tk, List.filter_append, List.filter_cons, fz]
      simp
    | true =>
      refine (iteT ?_ : if true = true then _ else _)
      refine he z H2 _ hm fz (s1.trans s2) fun H3 s3 => ?_
      have hD3 := s3 _ _ (s2 _ _ hD1)
      refine ⟨_, hD3, ?_, ?_, ?_, by omega⟩
      · rw [List.length_map]
        refine Nat.lt_of_le_of_lt (Nat.le_trans (List.length_filter_le _ _) ?_) (show 1000 < sizeLine by decide)
        rw [List.length_take]
        omega
      · intro b o hb
        rw [upd_ne (ne_of_none hb hD)]
        exact s3 _ _ (s2 _ _ (s1 _ _ hb))
      · rw [upd_same, tk, List.filter_append, List.filter_cons, fz]
        simp
  · rintro H1 ⟨s1, hD1, _⟩
    refine q H1 s1 ?_
    rw [hD1, List.take_of_length_le (by rw [List.length_map]; omega)]
theorem filter_yes {α : Type} (zs : List α) : zs.filter (fun _ => true) = zs := List.filter_eq_self.mpr fun _ _ => rfl
theorem r_yes {σ : L2.St} {H : Hp} {R : Bool → Hp → Prop} (h : ∀ H2, Same H H2 → R true H2) : tYes σ H R := h H (Same.refl _)
theorem r_eqInts {H : Hp} {Q : VK} {p q : Addr} {xs ys : List Int} (h : SqL K H p (xs.map V.int)) (h' : SqL K H q (ys.map V.int)) (k : Q (.bl (decide (xs = ys))) H) : rEqD K (.ref p) (.ref q) H Q :=
  ⟨.list (xs.map PyData.int), .list (ys.map PyData.int), .lst h (dp_ints xs), .lst h' (dp_ints ys), shaped_ints xs, shaped_ints ys, by
    rw [PyData.eqv, eqv_ints]; exact k⟩
end
end My

namespace My
open PySem L2
section
variable {P : Program} {w : World} {K : PySem.W.Frag} {mg : Str → Option Value} {base : Heap}
def spPutSo (C : Addr) : Sp := fun vs H Q _ => ∃ (a q : Addr) (u wq : Rat) (c : Int), vs = [.ref a, .int c, .ref q] ∧ NumAt C H a u ∧ NumAt C H q wq ∧ Bd 1000 u ∧ c.natAbs < 2 ^ 1000 ∧ Bd 1000 wq ∧ ∀ H' : Hp, Same H H' → Q (.bl (putB u c wq)) H'
theorem ok_is_put_so (T : Txt w K mg) : FnOk P w K mg base CX0 4 T.f_is_put_so T.fd_is_put_so ["steps", "count", "paper"] (spPutSo T.C_Number) := by
  refine T.F_is_put_so.ok sc_is_put_so (fun vs H Q E h => ?_) (fun cdv A outer s H vs Q E hr h => ?_)
  · obtain ⟨a, q, u, wq, c, rfl, _⟩ := h
    rfl
  · obtain ⟨a, q, u, wq, c, rfl, ⟨da, ha⟩, hq, bu, bc, bw, k⟩ := h
    have cN := T.c_Number
    have nT := T.n_Number_top
    have nB := T.n_Number_bottom
    refine ⟨_, (pss_cons (ps_set (i := 3) sc_is_put_so.nd rfl (Or.inl rfl) (pe_meth (pv 0) T.c_Number T.me_Number_less (ok_Number_less T) (hr.mono (by decide)) T.b_Number_less .nil pass0 (pa_cons (pe_make T.mk_Number (ok_Number_init T) (hr.mono (by decide)) (by rfl) T.m_Number T.b_Number_init1 T.d_Number_init1 pass0 (pa_cons (pv 1) pa_nil)) pa_nil)))
 (pss_cons (ps_if (pt_cmpR op_eq (pe_fld (pv 3) rfl) pe_int (nomark _))
  (pss_one (ps_ret pe_bl))
  pss_nil)
 (pss_cons (ps_if (pt_cmpR op_gt (pe_fld (pv 3) rfl) pe_int (nomark _))
  (pss_one (ps_ret (pe_and (pe_meth (pv 3) T.c_Number T.me_Number_below (ok_Number_below T) (hr.mono (by decide)) T.b_Number_below .nil pass0 (pa_cons (pe_make T.mk_Number (ok_Number_init T) (hr.mono (by decide)) (by rfl) T.m_Number T.b_Number_init1 T.d_Number_init1 pass0 (pa_cons pe_int pa_nil)) pa_nil)) (pe_one (pe_not (pe_meth (pv 2) T.c_Number T.me_Number_below (ok_Number_below T) (hr.mono (by decide)) T.b_Number_below .nil pass0 (pa_cons (pv 3) pa_nil)))))))
  pss_nil)
 (pss_cons (ps_set (i := 4) sc_is_put_so.nd rfl (Or.inl rfl) (pe_meth (pv 3) T.c_Number T.me_Number_more (ok_Number_more T) (hr.mono (by decide)) T.b_Number_more .nil pass0 (pa_cons (pe_make T.mk_Number (ok_Number_init T) (hr.mono (by decide)) (by rfl) T.m_Number T.b_Number_init1 T.d_Number_init1 pass0 (pa_cons pe_int pa_nil)) pa_nil)))
 (pss_one (ps_ret (pe_and (pe_cmpR op_gt (pe_fld (pv 4) rfl) pe_int (nomark _)) (pe_one (pe_not (pe_meth (pv 4) T.c_Number T.me_Number_below (ok_Number_below T) (hr.mono (by decide)) T.b_Number_below .nil pass0 (pa_cons (pv 2) pa_nil))))))))))), ?_⟩
    have bci : Bd 1000 (c : Rat) := Bd.int bc (by decide)
    have b1 : Bd 1 ((1 : Int) : Rat) := Bd.int (by decide) (by decide)
    walk_at "rdh"
    refine r_meth1 ha (no_less _) ?_
    walk_at "rdh"
    refine mk_num1 fun n H1 s1 n1 h1 => ?_
    walk_at "rdh"
    refine ⟨a, n, u, _, rfl, ⟨_, s1 _ _ ha⟩, h1, bu.mono (by decide), bci.mono (by decide), trivial, fun o H2 s2 n2 h2 => ?_⟩
    have h2' : NumAt T.C_Number H2 o (u - (c : Rat)) := h2
    have bo : Bd 2001 (u - (c : Rat)) := Bd.sub bu bci
    obtain ⟨d2, e2⟩ := h2'
    have s12 := s1.trans s2
    unfold putB at k
    walk_at "rdf"
    refine r_ite (fun e => ?_) (fun e => ?_)
    · rw [if_pos (of_decide_eq_true e)] at k
      walk_at "rdh"
      exact k _ s12
    rw [if_neg (of_decide_eq_false e)] at k
    walk_at "rdf"
    refine r_ite (fun e1 => ?_) (fun e1 => ?_)
    · rw [if_pos (of_decide_eq_true e1)] at k
      walk_at "rdh"
      refine r_meth1 e2 (no_below _) ?_
      walk_at "rdh"
      refine mk_num1 fun m H3 s3 n3 h3 => ?_
      walk_at "rdh"
      refine ⟨o, m, _, _, rfl, ⟨_, s3 _ _ e2⟩, h3, bo.mono (by decide), b1.mono (by decide), ?_⟩
      have s13 := s12.trans s3
      have e11 : ((1 : Int) : Rat) = 1 := rfl
      rw [e11]
      walk_at "rdh"
      refine r_ite (fun e4 => ?_) (fun e4 => ?_)
      · rw [e4, Bool.true_and] at k
        obtain ⟨dq, eq'⟩ := hq.same s13
        walk_at "rdh"
        refine r_meth1 eq' (no_below _) ?_
        walk_at "rdh"
        refine ⟨q, o, _, _, rfl, ⟨_, eq'⟩, ⟨_, s3 _ _ e2⟩, bw.mono (by decide), bo.mono (by decide), ?_⟩
        walk_at "rdh"
        exact k _ s13
      · rw [e4, Bool.false_and] at k
        exact k _ s13
    · rw [if_neg (of_decide_eq_false e1)] at k
      walk_at "rdh"
      refine r_meth1 e2 (no_more _) ?_
      walk_at "rdh"
      refine mk_num1 fun m H3 s3 n3 h3 => ?_
      walk_at "rdh"
      refine ⟨o, m, _, _, rfl, ⟨_, s3 _ _ e2⟩, h3, bo.mono (by decide), b1.mono (by decide), trivial, fun v H4 s4 n4 h4 => ?_⟩
      have h4' : NumAt T.C_Number H4 v (u - (c : Rat) + 1) := h4
      have bv : Bd 2003 (u - (c : Rat) + 1) := (Bd.add bo b1)
      obtain ⟨d4, e4⟩ := h4'
      have s14 := (s12.trans s3).trans s4
      walk_at "rdf"
      refine r_ite (fun e5 => ?_) (fun e5 => ?_)
      · rw [e5, Bool.true_and] at k
        walk_at "rdh"
        refine r_meth1 e4 (no_below _) ?_
        walk_at "rdh"
        refine ⟨v, q, _, _, rfl, ⟨_, e4⟩, hq.same s14, bv.mono (by decide), bw.mono (by decide), ?_⟩
        walk_at "rdh"
        exact k _ s14
      · rw [e5, Bool.false_and] at k
        exact k _ s14
def spIsRounded (C : Addr) : Sp := fun vs H Q _ => ∃ (a : Addr) (u : Rat) (c : Int), vs = [.ref a, .int c] ∧ NumAt C H a u ∧ Bd 2400 u ∧ c.natAbs < 2 ^ 2400 ∧ Q (.bl (roundB u c)) H
theorem ok_is_rounded (T : Txt w K mg) : FnOk P w K mg base CX0 1 T.f_is_rounded T.fd_is_rounded ["steps", "total"] (spIsRounded T.C_Number) := by
  refine T.F_is_rounded.ok sc_is_rounded (fun vs H Q E h => ?_) (fun cdv A outer s H vs Q E hr h => ?_)
  · obtain ⟨a, u, c, rfl, _⟩ := h
    rfl
  · obtain ⟨a, u, c, rfl, ⟨da, ha⟩, bu, bc, k⟩ := h
    have cN := T.c_Number
    have nT := T.n_Number_top
    have nB := T.n_Number_bottom
    refine ⟨_, (pss_cons (ps_set (i := 2) sc_is_rounded.nd rfl (Or.inl rfl) (pe_op op_mul pe_int (pe_callB call_abs (by rfl) T.n_abs (by decide +kernel) (pa_cons (pe_op op_sub (pe_fld (pv 0) rfl) (pe_op op_mulW (pv 1) (pe_fld (pv 0) rfl))) pa_nil))))
 (pss_cons (ps_if (pt_cmpR op_eq (pv 2) (pe_fld (pv 0) rfl) (nomark _))
  (pss_one (ps_ret (pe_cmpR op_eq (pe_op op_mod (pv 1) pe_int) pe_int (nomark _))))
  pss_nil)
 (pss_one (ps_ret (pe_cmpR op_lt (pv 2) (pe_fld (pv 0) rfl) (nomark _)))))), ?_⟩
    unfold roundB at k
    have db : ((u.den : Nat) : Int).natAbs < 2 ^ 2400 := by rw [Int.natAbs_natCast]; exact bu.2
    walk_at "rdf"
    refine r_I (wide_mul (a := 2400) (b := 2400) bc db (by decide) (by decide) (by decide)) ?_
    walk_at "rdf"
    refine ⟨_, rfl, ?_⟩
    have ab : ∀ z : Int, (if z < 0 then -z else z) = (z.natAbs : Int) := fun z => by split <;> omega
    rw [ab]
    walk_at "rdf"
    refine r_ite (fun e => ?_) (fun e => ?_)
    · rw [if_pos (of_decide_eq_true e)] at k
      walk_at "rdh"
      exact k
    · rw [if_neg (of_decide_eq_false e)] at k
      walk_at "rdf"
      exact k
end
end My

namespace My
open PySem L2
section
variable {P : Program} {w : World} {K : PySem.W.Frag} {mg : Str → Option Value} {base : Heap}
theorem whole_int {H : Hp} {i : Int} {Q : VK} (q : Q (.bl true) H) : rIsi K [.int i, .ty "int"] H Q := ⟨_, .ty "int", .type _, .type "int", true, rfl, .ty _, .base (.int _), kit_ty (show kitB "int" "int" = some true from by decide +kernel), q⟩
theorem whole_nbl {H : Hp} {i : Int} {Q : VK} (q : Q (.bl false) H) : rIsi K [.int i, .ty "bool"] H Q := ⟨_, .ty "bool", .type _, .type "bool", false, rfl, .ty _, .base (.int _), kit_ty (show kitB "int" "bool" = some false from by decide +kernel), q⟩
theorem tup_ty {H : Hp} {p : Addr} {xs : List V} {Q : VK} (h : H p = some (.tup xs)) (q : Q (.bl true) H) : rIsi K [.ref p, .ty "tuple"] H Q := ⟨_, .ty "tuple", .type _, .type "tuple", true, rfl, .ty _, .base (.tup h), kit_ty (show kitB "tuple" "tuple" = some true from by decide +kernel), q⟩
def spWholeI : Sp := fun vs H Q _ => ∃ i : Int, vs = [.int i] ∧ Q (.bl true) H
theorem ok_is_whole (T : Txt w K mg) : FnOk P w K mg base CX0 1 T.f_is_whole T.fd_is_whole ["thing"] spWholeI := by
  refine T.F_is_whole.ok sc_is_whole (fun vs H Q E h => ?_) (fun cdv A outer s H vs Q E hr h => ?_)
  · obtain ⟨i, rfl, _⟩ := h
    rfl
  · obtain ⟨i, rfl, k⟩ := h
    refine ⟨_, (pss_one (ps_ret (pe_and (pe_callB call_isi (by rfl) T.n_isinstance (by decide +kernel) (pa_cons (pv 0) (pa_cons (pe_bltn (v := .ty "int") (by rfl) T.n_int (by decide +kernel) rfl) pa_nil))) (pe_one (pe_not (pe_callB call_isi (by rfl) T.n_isinstance (by decide +kernel) (pa_cons (pv 0) (pa_cons (pe_bltn (v := .ty "bool") (by rfl) T.n_bool (by decide +kernel) rfl) pa_nil)))))))), ?_⟩
    walk_at "rdh"
    refine whole_int ?_
    walk_at "rdh"
    refine r_iteT rfl ?_
    walk_at "rdh"
    refine whole_nbl ?_
    walk_at "rdh"
    exact k
theorem isi_num (T : Txt w K mg) {H : Hp} {p : Addr} {x : Rat} {Q : VK} (h : NumAt T.C_Number H p x) (k : Q (.bl true) H) : rIsi K [.ref p, .ref T.C_Number] H Q := by
  obtain ⟨dx, e⟩ := h
  exact ⟨.ref p, .ref T.C_Number, .ref T.C_Number, .ref T.C_Number, true, rfl, .own _, .base (.ins e T.c_Number T.ty_Number_c T.ty_Number_g T.ty_Number_t T.ty_Number_m), T.ty_Number_k, k⟩
theorem r_chainQ {r r' : R2} {ta tb tc : TE} {σ : L2.St} {H : Hp} {Q : VK} (q : ta σ H fun x H1 => tb σ H1 fun y H2 => r x y H2 fun z H3 => ∃ k, z = .bl k ∧ (if k = true then tc σ H3 fun w' H4 => r' y w' H4 Q else Q (.bl false) H3)) : tChain r r' ta tb tc σ H Q := q
def spTold (C : Addr) : Sp := fun vs H Q _ => ∃ (t p2 q : Addr) (cs : List Int) (wq : Rat) (n : Int), vs = [.ref t, .int n] ∧ H t = some (.tup [.ref p2, .ref q]) ∧ H p2 = some (.tup (cs.map V.int)) ∧ NumAt C H q wq ∧ (cs.length : Int) = n ∧ cs.length ≤ 100 ∧ ∀ H' : Hp, Same H H' → Q (.bl (decide (0 ≤ wq.num) && decide (wq.num ≤ (wq.den : Int)))) H'
theorem ok_is_told (T : Txt w K mg) : FnOk P w K mg base CX0 2 T.f_is_told T.fd_is_told ["thing", "many"] (spTold T.C_Number) := by
  refine T.F_is_told.ok sc_is_told (fun vs H Q E h => ?_) (fun cdv A outer s H vs Q E hr h => ?_)
  · obtain ⟨t, p2, q, cs, wq, n, rfl, _⟩ := h
    rfl
  · obtain ⟨t, p2, q, cs, wq, n, rfl, ht, hp, hq, hn, h100, k⟩ := h
    refine ⟨_, (pss_one (ps_ret (pe_and (pe_callB call_isi (by rfl) T.n_isinstance (by decide +kernel) (pa_cons (pv 0) (pa_cons (pe_bltn (v := .ty "tuple") (by rfl) T.n_tuple (by decide +kernel) rfl) pa_nil))) (pe_and (pe_cmpR op_eq (pe_callB call_len_seq (by rfl) T.n_len PySem.boot_len (pa_cons (pv 0) pa_nil)) pe_int (nomark _)) (pe_and (pe_callB call_isi (by rfl) T.n_isinstance (by decide +kernel) (pa_cons (pe_ix ix_tup (pv 0) pe_int (fun _ _ => rfl)) (pa_cons (pe_bltn (v := .ty "tuple") (by rfl) T.n_tuple (by decide +kernel) rfl) pa_nil))) (pe_and (pe_cmpR op_eq (pe_callB call_len_seq (by rfl) T.n_len PySem.boot_len (pa_cons (pe_ix ix_tup (pv 0) pe_int (fun _ _ => rfl)) pa_nil)) (pv 1) (nomark _)) (pe_and (pe_callB (cr_all rfl) (by rfl) T.n_all (by decide +kernel) (pa_cons (pe_lc (own := [("count", 2)]) (g := gName 2) (tt := tYes) rfl sc_is_told.nd (pi_tup (pe_ix ix_tup (pv 0) pe_int (fun _ _ => rfl))) (blkOk_by (own := [("count", 2)]) (N := ["thing", "many", "count"]) (sc := defScope s_is_told) (by decide +kernel)) (fun _ _ _ _ _ => pg_name (i := 2) sc_is_told.nd rfl (Or.inl rfl)) (fun _ _ _ _ _ => pts_nil) (fun _ _ _ _ _ => (pe_call (ok_is_whole T) (hr.mono (by decide)) (by rfl) T.m_is_whole T.F_is_whole.kp T.b_is_whole .nil pass0 (pa_cons (pv 2) pa_nil)))) pa_nil)) (pe_and (pe_callB call_isi (by rfl) T.n_isinstance (by decide +kernel) (pa_cons (pe_ix ix_tup (pv 0) pe_int (fun _ _ => rfl)) (pa_cons (pe_glob (v := .ref T.C_Number) (by rfl) T.m_Number rfl) pa_nil))) (pe_one (pe_chain op_le op_le pe_int (pe_fld (pe_ix ix_tup (pv 0) pe_int (fun _ _ => rfl)) rfl) (pe_fld (pe_ix ix_tup (pv 0) pe_int (fun _ _ => rfl)) rfl))))))))))), ?_⟩
    have cN := T.c_Number
    have nT := T.n_Number_top
    have nB := T.n_Number_bottom
    walk_at "rdh"
    refine tup_ty ht ?_
    walk_at "rdh"
    refine r_iteT rfl ?_
    walk_at "rdh"
    refine ⟨t, _, rfl, .inr (SqT.of ht), ?_⟩
    walk_at "rdh"
    refine r_iteT (by simp) ?_
    walk_at "rdh"
    refine r_ixT ht (atI_nat (j := 0) rfl) ?_
    walk_at "rdh"
    refine tup_ty hp ?_
    walk_at "rdh"
    refine r_iteT rfl ?_
    walk_at "rdh"
    refine r_ixT ht (atI_nat (j := 0) rfl) ?_
    walk_at "rdh"
    refine ⟨p2, _, rfl, .inr (SqT.of hp), ?_⟩
    walk_at "rdh"
    refine r_iteT (by simp [hn]) ?_
    walk_at "rdh"
    refine r_lcT ?_
    walk_at "rdh"
    refine r_ixT ht (atI_nat (j := 0) rfl) ?_
    refine ⟨p2, rfl, ⟨_, SqT.of hp⟩, fun D hD => ?_⟩
    refine lcT_of (K := K) (zs := cs) (el := V.int) (e := fun _ => V.bl true) (f := fun _ => true) (SqT.of hp) (by omega) hD (i := 2) (fun z H1 R _ h => ?_) (fun v => rfl) (fun z H1 R _ _ h => r_yes h) (fun z H1 R _ _ s1 h => ?_) fun H1 s1 hD1 => ?_
    · walk_at "rdh"
      exact h
    · walk_at "rdh"
      exact ⟨z, rfl, h H1 (Same.refl _)⟩
    rw [filter_yes] at hD1
    refine ⟨D, cs.map fun _ => true, rfl, by rw [List.map_map]; exact SqL.of hD1, ?_⟩
    have al : (cs.map fun _ => true).all id = true := by
      rw [List.all_eq_true]
      intro b hb
      obtain ⟨_, _, rfl⟩ := List.mem_map.mp hb
      rfl
    rw [al]
    have ht1 := s1 _ _ ht
    obtain ⟨dq, eq1⟩ := hq.same s1
    walk_at "rdh"
    refine r_iteT rfl ?_
    walk_at "rdh"
    refine r_ixT ht1 (atI_nat (j := 1) rfl) ?_
    walk_at "rdh"
    refine isi_num T ⟨_, eq1⟩ ?_
    walk_at "rdh"
    refine r_iteT rfl ?_
    walk_at "rdh"
    refine r_chainQ ?_
    walk_at "rdh"
    refine r_ixT ht1 (atI_nat (j := 1) rfl) ?_
    walk_at "rdf"
    refine r_ite (fun w0 => ?_) (fun w0 => ?_)
    · rw [w0, Bool.true_and] at k
      walk_at "rdh"
      refine r_ixT ht1 (atI_nat (j := 1) rfl) ?_
      walk_at "rdf"
      exact k _ s1
    · rw [w0, Bool.false_and] at k
      exact k _ s1
end
end My

namespace My
open PySem L2
theorem r_forZ {σ : L2.St} {H : Hp} {K : PySem.W.Frag} {ta : TA} {g : TG} {tb : TS} {D : Ends} (q : ta σ H fun vs H1 => ∃ a b xs ys, vs = [.ref a, .ref b] ∧ ((SqL K H1 a xs ∧ SqL K H1 b ys ∧ ∃ W : Nat → Nat → L2.St → Hp → Prop, (∃ m, W 0 m σ H1) ∧ ∀ i m σ H, W i m σ H →
    ((Itz K a b).stop i H ∧ D.nx σ H) ∨ ((Itz K a b).go i H ∧ ∃ N : L2.St → Hp → Prop, (∀ σ' H', N σ' H' → ∃ m', m' < m ∧ W (i + 1) m' σ' H') ∧ ∀ x H', (Itz K a b).yld i H x H' → g x σ H' fun σ2 H2 => tb { D with nx := N, ct := N, bk := D.nx } σ2 H2)) ∨ (SqT K H1 a xs ∧ SqT K H1 b ys ∧ ∃ W : Nat → Nat → L2.St → Hp → Prop, (∃ m, W 0 m σ H1) ∧ ∀ i m σ H, W i m σ H →
    ((RZ.ItzT K a b).stop i H ∧ D.nx σ H) ∨ ((RZ.ItzT K a b).go i H ∧ ∃ N : L2.St → Hp → Prop, (∀ σ' H', N σ' H' → ∃ m', m' < m ∧ W (i + 1) m' σ' H') ∧ ∀ x H', (RZ.ItzT K a b).yld i H x H' → g x σ H' fun σ2 H2 => tb { D with nx := N, ct := N, bk := D.nx } σ2 H2)))) : tFor (RZ.iZipA K ta) g tb D σ H := q
theorem r_forZM {σ : L2.St} {H : Hp} {K : PySem.W.Frag} {ta : TA} {g : TG} {tb : TS} {D : Ends} (q : ta σ H fun vs H1 => ∃ a b xs ys, vs = [.ref a, .ref b] ∧ SqT K H1 a xs ∧ SqL K H1 b ys ∧ ∃ W : Nat → Nat → L2.St → Hp → Prop, (∃ m, W 0 m σ H1) ∧ ∀ i m σ H, W i m σ H →
    ((ItzM K a b).stop i H ∧ D.nx σ H) ∨ ((ItzM K a b).go i H ∧ ∃ N : L2.St → Hp → Prop, (∀ σ' H', N σ' H' → ∃ m', m' < m ∧ W (i + 1) m' σ' H') ∧ ∀ x H', (ItzM K a b).yld i H x H' → g x σ H' fun σ2 H2 => tb { D with nx := N, ct := N, bk := D.nx } σ2 H2)) : tFor (iZipM K ta) g tb D σ H := q
theorem num_le_den {q : Rat} (h : q ≤ 1) : q.num ≤ (q.den : Int) := by
  have d0 : (0 : Int) < (q.den : Int) := by have := q.den_pos; omega
  have e : Rat.divInt q.num (q.den : Int) = q := Rat.num_divInt_den q
  have l := lt_cross (a := 1) (b := 1) (c := q.num) (d := (q.den : Int)) (by decide) d0
  rw [one_div, e] at l
  have n : ¬ 1 * (q.den : Int) < q.num * 1 := fun z => by
    have := l.mpr z
    exact absurd h (Rat.not_le.mpr this)
  omega
/-- whether all counts are put so -/
def allPut (us : List Rat) (cs : List Int) (w : Rat) : Bool := (us.zip cs).all fun e => putB e.1 e.2 w
theorem put_all {us : List Rat} {cs : List Int} {w : Rat} (l : cs.length = us.length) (h : ∀ (i : Nat) (u : Rat) (c : Int), us[i]? = some u → cs[i]? = some c → putB u c w = true) : allPut us cs w = true := by
  unfold allPut
  rw [List.all_eq_true]
  rintro ⟨u, c⟩ hm
  obtain ⟨i, hi⟩ := List.getElem?_of_mem hm
  rw [List.getElem?_zip_eq_some] at hi
  exact h i u c hi.1 hi.2
theorem put_not {us : List Rat} {cs : List Int} {w : Rat} {i : Nat} {u : Rat} {c : Int} (hu : us[i]? = some u) (hc : cs[i]? = some c) (h : putB u c w = false) : allPut us cs w = false := by
  unfold allPut
  rw [List.all_eq_false]
  exact ⟨(u, c), List.mem_of_getElem? (List.getElem?_zip_eq_some.mpr ⟨hu, hc⟩ : (us.zip cs)[i]? = some (u, c)), by simp [h]⟩
theorem sum_bd {n : Nat} : ∀ {cs : List Int}, (∀ c ∈ cs, c.natAbs < 2 ^ n) → cs.sum.natAbs ≤ cs.length * 2 ^ n
  | [], _ => by simp
  | c :: cs, h => by
    have a := h c (List.mem_cons_self ..)
    have b := sum_bd (cs := cs) fun d hd => h d (List.mem_cons_of_mem _ hd)
    rw [List.sum_cons, List.length_cons, Nat.add_mul, Nat.one_mul]
    have := Int.natAbs_add_le c cs.sum
    omega
section
variable {P : Program} {w : World} {K : PySem.W.Frag} {mg : Str → Option Value} {base : Heap}
def spHolds (C : Addr) : Sp := fun vs H Q _ => ∃ (p s t p2 q : Addr) (xs : List Rat) (y wq : Rat) (cs : List Int) (b : Nat), vs = [.ref p, .ref s, .ref t] ∧ PartsAt C H p xs ∧ NumAt C H s y ∧ (0 < y ∧ Bd 45 y) ∧ (∀ x ∈ xs, Bd b x) ∧ (0 < xs.length ∧ xs.length ≤ 32) ∧ ((b + 1) * (xs.length + 1) ≤ 2300 ∧ b ≤ 900) ∧
  (H t = some (.tup [.ref p2, .ref q]) ∧ H p2 = some (.tup (cs.map V.int)) ∧ NumAt C H q wq) ∧ cs.length = xs.length ∧ (∀ c ∈ cs, c.natAbs < 2 ^ 1000) ∧ Bd 1000 wq ∧ ∀ H' : Hp, Same H H' → Q (.bl ((decide (0 ≤ wq.num) && decide (wq.num ≤ (wq.den : Int))) && (allPut (xs.map (· / y)) cs wq && roundB (sumQ xs / y) cs.sum))) H'
theorem ok_sum_holds (T : Txt w K mg) : FnOk P w K mg base CX0 11 T.f_sum_holds T.fd_sum_holds ["parts", "step", "thing"] (spHolds T.C_Number) := by
  refine T.F_sum_holds.ok sc_sum_holds (fun vs H Q E h => ?_) (fun cdv A outer s H vs Q E hr h => ?_)
  · obtain ⟨p, s, t, p2, q, xs, y, wq, cs, b, rfl, _⟩ := h
    rfl
  · obtain ⟨p, s', t, p2, q, xs, y, wq, cs, b, rfl, hp, hs, ⟨y0, by'⟩, hb, ⟨n0, n32⟩, ⟨bl, b9⟩, ⟨ht, hp2, hq⟩, lc, cb, wb, k⟩ := h
    refine ⟨_, (pss_cons (ps_if (pt_not (pt_val (pe_call (ok_is_told T) (hr.mono (by decide)) (by rfl) T.m_is_told T.F_is_told.kp T.b_is_told .nil pass0 (pa_cons (pv 2) (pa_cons (pe_callB call_len_seq (by rfl) T.n_len PySem.boot_len (pa_cons (pv 0) pa_nil)) pa_nil)))))
  (pss_one (ps_ret pe_bl))
  pss_nil)
 (pss_cons (ps_asg (pv 2) (pg_tup rfl (pgs_cons (pg_name (i := 3) sc_sum_holds.nd rfl (Or.inl rfl)) (pgs_cons (pg_name (i := 4) sc_sum_holds.nd rfl (Or.inl rfl)) pgs_nil))))
 (pss_cons (ps_for PassesOwn.never rfl (RZ.pi_zipA (by rfl) T.n_zip (pa_cons (pv 0) (pa_cons (pv 3) pa_nil))) (pg_tup rfl (pgs_cons (pg_name (i := 5) sc_sum_holds.nd rfl (Or.inl rfl)) (pgs_cons (pg_name (i := 6) sc_sum_holds.nd rfl (Or.inl rfl)) pgs_nil)))
  (pss_one (ps_if (pt_not (pt_val (pe_call (ok_is_put_so T) (hr.mono (by decide)) (by rfl) T.m_is_put_so T.F_is_put_so.kp T.b_is_put_so .nil pass0 (pa_cons (pe_meth (pv 5) T.c_Number T.me_Number_over (ok_Number_over T) (hr.mono (by decide)) T.b_Number_over .nil pass0 (pa_cons (pv 1) pa_nil)) (pa_cons (pv 6) (pa_cons (pv 4) pa_nil))))))
  (pss_one (ps_ret pe_bl))
  pss_nil)))
 (pss_one (ps_ret (pe_call (ok_is_rounded T) (hr.mono (by decide)) (by rfl) T.m_is_rounded T.F_is_rounded.kp T.b_is_rounded .nil pass0 (pa_cons (pe_meth (pe_call (ok_total_of T) (hr.mono (by decide)) (by rfl) T.m_total_of T.F_total_of.kp T.b_total_of .nil pass0 (pa_cons (pv 0) pa_nil)) T.c_Number T.me_Number_over (ok_Number_over T) (hr.mono (by decide)) T.b_Number_over .nil pass0 (pa_cons (pv 1) pa_nil)) (pa_cons (pe_callB (cr_sumT rfl) (by rfl) T.n_sum (by decide +kernel) (pa_cons (pv 3) pa_nil)) pa_nil)))))))), ?_⟩
    obtain ⟨vs, hv, hn⟩ := id hp
    have len := hn.len
    have yne : y ≠ 0 := by grind
    walk_at "rdh"
    refine ⟨p, _, rfl, .inr (SqT.of hv), ?_⟩
    walk_at "rdh"
    refine ⟨t, p2, q, cs, wq, _, rfl, ht, hp2, hq, by rw [lc, len], by omega, fun H1 s1 => ?_⟩
    walk_at "rdh"
    refine r_ite (fun wr => ?_) (fun wr => ?_)
    · have wr' : (decide (0 ≤ wq.num) && decide (wq.num ≤ (wq.den : Int))) = false := by rw [Bool.not_eq_true'] at wr; exact wr
      rw [wr', Bool.false_and] at k
      walk_at "rdh"
      exact k _ s1
    have wr' : (decide (0 ≤ wq.num) && decide (wq.num ≤ (wq.den : Int))) = true := by rw [Bool.not_eq_false'] at wr; exact wr
    rw [wr', Bool.true_and] at k
    walk_at "rdh"
    refine r_gTup (s1 _ _ ht) rfl ?_
    walk_at "rdh"
    refine r_forZ ?_
    walk_at "rdh"
    refine ⟨p, p2, vs, cs.map V.int, rfl, .inr ⟨SqT.of (s1 _ _ hv), SqT.of (s1 _ _ hp2), ?_⟩⟩
    refine RZ.for_zipT (K := K) (by rw [List.length_map, lc, len]) (fun i σ H' => ∃ v5 v6 : Option V, σ = [some (.ref p), some (.ref s'), some (.ref t), some (.ref p2), some (.ref q), v5, v6] ∧ Same H H' ∧ ∀ (j : Nat) (u : Rat) (c : Int), j < i → (xs.map (· / y))[j]? = some u → cs[j]? = some c → putB u c wq = true) ⟨none, none, rfl, s1, fun j u c hj => by omega⟩ (fun i σ H' ⟨_, _, _, s2, _⟩ => ⟨SqT.of (s2 _ _ hv), SqT.of (s2 _ _ hp2)⟩) ?_ ?_
    · rintro i x z a σ H2 hx hz ⟨v5, v6, rfl, s2, put⟩ ha
      obtain ⟨px, xq, rfl, ex, nx⟩ := hn.get hx
      obtain ⟨c, rfl, ec⟩ : ∃ c : Int, z = .int c ∧ cs[i]? = some c := by
        rw [List.getElem?_map] at hz
        cases h : cs[i]? with
        | none => rw [h] at hz; cases hz
        | some c => rw [h] at hz; exact ⟨c, (Option.some.inj hz).symm, rfl⟩
      have s3 := s2.trans (Same.new (o := .tup [.ref px, .int c]) ha)
      have hxb := hb xq (List.mem_of_getElem? ex)
      refine r_gTup upd_same rfl ?_
      walk_at "rdh"
      obtain ⟨dx, exx⟩ := nx.same s3
      refine r_meth1 exx (no_over _) ?_
      walk_at "rdh"
      refine ⟨px, s', xq, y, rfl, ⟨_, exx⟩, hs.same s3, hxb.mono (by omega), by'.mono (by decide), yne, fun a2 H4 s4 _ h4 => ?_⟩
      walk_at "rdh"
      refine ⟨a2, q, xq / y, wq, c, rfl, h4, hq.same (s3.trans s4), (Bd.div hxb by' yne).mono (by omega), cb c (List.mem_of_getElem? ec), wb, fun H5 s5 => ?_⟩
      have s35 := (s3.trans s4).trans s5
      have eu : (xs.map (· / y))[i]? = some (xq / y) := by rw [List.getElem?_map, ex]; rfl
      walk_at "rdh"
      refine r_ite (fun e => ?_) (fun e => ?_)
      · walk_at "rdh"
        have e' : putB (xq / y) c wq = false := by simpa using e
        have := k _ s35
        rw [put_not eu ec e', Bool.false_and] at this
        exact this
      · walk_at "rdh"
        have e' : putB (xq / y) c wq = true := by simpa using e
        refine ⟨_, _, rfl, s35, fun j u d hj hu hd => ?_⟩
        by_cases ji : j = i
        · subst ji
          rw [eu] at hu
          rw [ec] at hd
          obtain rfl := Option.some.inj hu
          obtain rfl := Option.some.inj hd
          exact e'
        · exact put j u d (by omega) hu hd
    · rintro σ H2 ⟨v5, v6, rfl, s2, put⟩
      have ap : allPut (xs.map (· / y)) cs wq = true := put_all (by rw [List.length_map, lc]) fun i u c hu hc => put i u c (by
        have := (List.getElem?_eq_some_iff.mp hu).1
        rw [List.length_map] at this
        omega) hu hc
      rw [ap, Bool.true_and] at k
      walk_at "rdh"
      refine total_at (hp.same s2) n0 (by show xs.length * 2 ≤ 64; omega) hb (Nat.le_trans bl (by decide)) fun r H3 s3 n3 => ?_
      obtain ⟨dr, er⟩ := n3
      walk_at "rdh"
      refine r_meth1 er (no_over _) ?_
      walk_at "rdh"
      refine ⟨r, s', sumQ xs, y, rfl, ⟨_, er⟩, hs.same (s2.trans s3), ((Bd.sum hb).mono bl).mono (by decide), by'.mono (by decide), yne, fun r2 H4 s4 _ n4 => ?_⟩
      have s24 := (s2.trans s3).trans s4
      walk_at "rdh"
      refine ⟨p2, cs, rfl, SqT.of (s24 _ _ hp2), ?_⟩
      walk_at "rdh"
      have sb := sum_bd cb
      refine ⟨r2, sumQ xs / y, cs.sum, rfl, n4, (Bd.div ((Bd.sum hb).mono bl) by' yne).mono (by decide), ?_, ?_⟩
      · refine Nat.lt_of_le_of_lt sb (Nat.lt_of_le_of_lt (Nat.mul_le_mul_right _ (by omega : cs.length ≤ 32)) ?_)
        rw [show (32 : Nat) = 2 ^ 5 from rfl, ← Nat.pow_add]
        exact Nat.pow_lt_pow_right (by decide) (by decide)
      · walk_at "rdh"
        exact k _ s24
end
end My

namespace My
open PySem L2
section
variable {P : Program} {w : World} {K : PySem.W.Frag} {mg : Str → Option Value} {base : Heap}
/-! ### a well -/
def WellAt (H : Hp) (d : Addr) : Prop := ∃ a b n : Int, H d = some (.lst [.int a, .int b, .int n])
theorem WellAt.same {H H' : Hp} {d : Addr} (s : Same H H') (h : WellAt H d) : WellAt H' d := let ⟨a, b, n, h1⟩ := h; ⟨a, b, n, s _ _ h1⟩
/-! heaps but for one place -/
def Out (d : Addr) (H H' : Hp) : Prop := ∀ b o, b ≠ d → H b = some o → H' b = some o
theorem Out.refl (d : Addr) (H : Hp) : Out d H H := fun _ _ _ h => h
theorem Out.trans {d : Addr} {H H1 H2 : Hp} (a : Out d H H1) (b : Out d H1 H2) : Out d H H2 := fun x o h1 h => b x o h1 (a x o h1 h)
theorem Out.of {d : Addr} {H H' : Hp} (a : Same H H') : Out d H H' := fun x o _ h => a x o h
theorem Out.keep {H H' : Hp} {d b : Addr} {o : HO} (s : Out d H H') (hd : WellAt H d) (h : H b = some o) (hn : ∀ xs, o ≠ .lst xs) : H' b = some o := by
  obtain ⟨_, _, _, h1⟩ := hd
  exact s b o (ne_of h h1 (hn _)) h
theorem well_ne {H : Hp} {d p : Addr} (h : WellAt H d) (hp : H p = none) : p ≠ d := by
  obtain ⟨_, _, _, h1⟩ := h
  exact (ne_of_none h1 hp).symm
theorem well_ix {ns : List Int} {k : Nat} (h : (k : Int) < ((ns.map V.int).length : Int)) : ∃ c : Int, atI (ns.map V.int) (k : Int) = some (.int c) := by
  have hk : k < ns.length := by rw [List.length_map] at h; omega
  exact ⟨ns[k], atI_nat (by rw [List.getElem?_map, List.getElem?_eq_getElem hk]; rfl)⟩
def spWell (K : PySem.W.Frag) : Sp := fun vs H Q _ => ∃ (a : Addr) (ns : List Int) (k : Nat), vs = [.ref a, .int k] ∧ SqL K H a (ns.map V.int) ∧ ∀ (d : Addr) (H' : Hp), Same H H' → H d = none → WellAt H' d → Q (.ref d) H'
theorem ok_l_well (T : Txt w K mg) : FnOk P w K mg base CX0 1 T.f_l_well T.fd_l_well ["_law_script", "_law_k"] (spWell K) := by
  refine T.F_l_well.ok sc_l_well (fun vs H Q E h => ?_) (fun cdv A outer s H vs Q E hr h => ?_)
  · obtain ⟨a, ns, j, rfl, _⟩ := h
    rfl
  · obtain ⟨a, ns, j, rfl, hS, k⟩ := h
    refine ⟨_, (pss_cons (ps_set (i := 2) sc_l_well.nd rfl (Or.inl rfl) pe_int)
 (pss_cons (ps_if (pt_cmpR op_lt (pv 1) (pe_callB call_len_seq (by rfl) T.n_len PySem.boot_len (pa_cons (pv 0) pa_nil)) (nomark _))
  (pss_one (ps_set (i := 2) sc_l_well.nd rfl (Or.inl rfl) (pe_ix ix_list (pv 0) (pv 1) (fun _ _ => rfl))))
  pss_nil)
 (pss_one (ps_ret (pe_lst (pa_cons (pe_op op_mul (pv 2) (pe_callTy call_int1 (by rfl) T.n_int (by decide +kernel) (pa_cons (pe_cmpR op_ge (pv 2) (pe_op op_pow pe_int pe_int) (nomark _)) pa_nil))) (pa_cons (pe_op op_add (pe_op op_mod (pv 2) pe_int) (pe_op op_mul pe_int (pv 1))) (pa_cons pe_int pa_nil)))))))), ?_⟩
    walk_at "rdg"
    refine ⟨a, _, rfl, .inl hS, ?_⟩
    walk_at "rdg"
    refine r_ite (fun e => ?_) (fun e => ?_)
    · obtain ⟨c, hc⟩ := well_ix (of_decide_eq_true e)
      walk_at "rdg"
      refine ⟨a, _, _, _, rfl, rfl, hS, hc, ?_⟩
      walk_at "rdg"
      refine .inr ⟨_, rfl, ?_⟩
      refine r_I (.inr (by split <;> decide)) ?_
      walk_at "rdg"
      refine r_new (by show 3 ≤ 1000; decide) fun d hd => ?_
      exact k d _ (Same.new hd) hd ⟨_, _, _, upd_same⟩
    · walk_at "rdg"
      refine .inr ⟨_, rfl, ?_⟩
      refine r_I (.inr (by split <;> decide)) ?_
      walk_at "rdg"
      refine r_new (by show 3 ≤ 1000; decide) fun d hd => ?_
      exact k d _ (Same.new hd) hd ⟨_, _, _, upd_same⟩
/-! ### a take -/
def spTake : Sp := fun vs H Q _ => ∃ (d : Addr) (v : Int), vs = [.ref d, .int v] ∧ WellAt H d ∧ 0 < v ∧ v.natAbs < 2 ^ 9000 ∧ ∀ (r : Int) (H' : Hp), Out d H H' → WellAt H' d → 0 ≤ r → r < v → Q (.int r) H'
theorem ok_l_take (T : Txt w K mg) : FnOk P w K mg base CX0 1 T.f_l_take T.fd_l_take ["_law_well_here", "_law_top"] spTake := by
  refine T.F_l_take.ok sc_l_take (fun vs H Q E h => ?_) (fun cdv A outer s H vs Q E hr h => ?_)
  · obtain ⟨d, v, rfl, _⟩ := h
    rfl
  · obtain ⟨d, v, rfl, ⟨a, b, n, hd⟩, v0, vb, k⟩ := h
    refine ⟨_, (pss_cons (ps_if (pt_cmpR op_gt (pe_ix ix_list (pv 0) pe_int (fun _ _ => rfl)) pe_int (nomark _))
  (pss_cons (ps_set (i := 2) sc_l_take.nd rfl (Or.inl rfl) (pe_op op_mod (pe_ix ix_list (pv 0) pe_int (fun _ _ => rfl)) (pv 1)))
 (pss_cons (ps_asg (pe_op op_fdivW (pe_ix ix_list (pv 0) pe_int (fun _ _ => rfl)) (pv 1)) (pg_sub (pv 0) pe_int set_list))
 (pss_one (ps_ret (pv 2)))))
  pss_nil)
 (pss_cons (ps_asg (pe_op op_add (pe_ix ix_list (pv 0) pe_int (fun _ _ => rfl)) pe_int) (pg_sub (pv 0) pe_int set_list))
 (pss_cons (ps_set (i := 3) sc_l_take.nd rfl (Or.inl rfl) (pe_op op_mod (pe_op op_mul (pe_op op_add (pe_op op_add (pe_ix ix_list (pv 0) pe_int (fun _ _ => rfl)) (pe_op op_mul pe_int (pe_ix ix_list (pv 0) pe_int (fun _ _ => rfl)))) pe_int) pe_int) pe_int))
 (pss_cons (ps_set (i := 3) sc_l_take.nd rfl (Or.inl rfl) (pe_op op_mod (pe_op op_add (pe_op op_mulW (pv 3) (pv 3)) (pe_op op_mul pe_int (pe_ix ix_list (pv 0) pe_int (fun _ _ => rfl)))) pe_int))
 (pss_cons (ps_set (i := 3) sc_l_take.nd rfl (Or.inl rfl) (pe_op op_add (pe_op op_mul (pe_op op_mod (pe_op op_mulW (pv 3) (pe_op op_add (pv 3) pe_int)) pe_int) pe_int) (pv 3)))
 (pss_one (ps_ret (pe_op op_mod (pe_op op_fdiv (pe_op op_mod (pe_op op_mul (pv 3) pe_int) pe_int) pe_int) (pv 1))))))))), ?_⟩
    have pmod : ∀ x : Int, 0 ≤ x % v ∧ x % v < v := fun x => ⟨Int.emod_nonneg _ (by omega), Int.emod_lt_of_pos _ v0⟩
    have o1 : ∀ u : HO, Out d H (upd H d u) := fun u b o h1 h => by rw [upd_ne h1]; exact h
    walk_at "rdg"
    refine r_ixL hd (atI_nat (j := 0) rfl) ?_
    walk_at "rdg"
    refine r_ite (fun e => ?_) (fun e => ?_)
    · walk_at "rdg"
      refine r_ixL hd (atI_nat (j := 0) rfl) ?_
      walk_at "rdg"
      refine r_I v0 ?_
      walk_at "rdg"
      refine r_ixL hd (atI_nat (j := 0) rfl) ?_
      walk_at "rdg"
      refine r_I (wide_div v0 vb (by decide) (Nat.le_refl _)) ?_
      walk_at "rdg"
      refine r_setL hd (j := 0) rfl ?_
      walk_at "rdg"
      exact k _ _ (o1 _) ⟨_, _, _, upd_same⟩ (pmod _).1 (pmod _).2
    · walk_at "rdg"
      refine r_ixL hd (atI_nat (j := 2) rfl) ?_
      walk_at "rdg"
      refine r_setL hd (j := 2) rfl ?_
      have hd1 : (upd H d (.lst [.int a, .int b, .int (n + 1)])) d = some (.lst [.int a, .int b, .int (n + 1)]) := upd_same
      have o2 := o1 (.lst [.int a, .int b, .int (n + 1)])
      show (_ : TS) _ _ (upd H d (.lst [.int a, .int b, .int (n + 1)]))
      generalize (upd H d (.lst [.int a, .int b, .int (n + 1)])) = H1 at *
      walk_at "rdg"
      refine r_ixL hd1 (atI_nat (j := 1) rfl) ?_
      walk_at "rdg"
      refine r_ixL hd1 (atI_nat (j := 2) rfl) ?_
      walk_at "rdg"
      have m1 : ∀ x : Int, (x % 2147483647).natAbs < 2 ^ 31 := fun x => by have := @Int.emod_nonneg x 2147483647 (by decide); have := Int.emod_lt_of_pos x (show (0 : Int) < 2147483647 by decide); omega
      have m2 : ∀ x : Int, (x % 2147483587).natAbs < 2 ^ 31 := fun x => by have := @Int.emod_nonneg x 2147483587 (by decide); have := Int.emod_lt_of_pos x (show (0 : Int) < 2147483587 by decide); omega
      have m3 : ∀ x : Int, (x % 2147483587 + 16807).natAbs < 2 ^ 32 := fun x => by have := @Int.emod_nonneg x 2147483587 (by decide); have := Int.emod_lt_of_pos x (show (0 : Int) < 2147483587 by decide); omega
      refine r_I (wide_mul (a := 31) (b := 31) (m1 _) (m1 _) (by decide) (by decide) (by decide)) ?_
      walk_at "rdg"
      refine r_ixL hd1 (atI_nat (j := 2) rfl) ?_
      walk_at "rdg"
      refine r_I (wide_mul (a := 31) (b := 32) (m2 _) (m3 _) (by decide) (by decide) (by decide)) ?_
      walk_at "rdg"
      refine r_I v0 ?_
      exact k _ _ o2 ⟨_, _, _, hd1⟩ (pmod _).1 (pmod _).2
/-- a take, as it is read -/
theorem rd_take {H : Hp} {d : Addr} {v : Int} {Q : VK} {E : XK} (dk : WellAt H d) (h0 : 0 < v) (h1 : v.natAbs < 2 ^ 200) (q : ∀ (r : Int) (H' : Hp), Out d H H' → WellAt H' d → 0 ≤ r → r < v → Q (.int r) H') : spTake ([V.ref d, V.int v] ++ []) H Q E :=
  ⟨d, v, rfl, dk, h0, Nat.lt_of_lt_of_le h1 (Nat.pow_le_pow_right (by decide) (by decide)), q⟩
end
end My

namespace My
open PySem L2
/-! ### lists of tuples of whole numbers -/
def TupsV {α : Type} (f : α → List V) (H : Hp) (vs : List V) (xs : List α) : Prop := vs.length = xs.length ∧ ∀ (i : Nat) (v : V), vs[i]? = some v → ∃ (q : Addr) (x : α), v = .ref q ∧ xs[i]? = some x ∧ H q = some (.tup (f x))
theorem TupsV.same {α : Type} {f : α → List V} {H H' : Hp} {vs : List V} {xs : List α} (s : Same H H') (h : TupsV f H vs xs) : TupsV f H' vs xs := ⟨h.1, fun i v hv =>
  let ⟨q, x, e, ex, hq⟩ := h.2 i v hv
  ⟨q, x, e, ex, s _ _ hq⟩⟩
theorem TupsV.put {α : Type} {f : α → List V} {H : Hp} {vs us : List V} {xs : List α} {D : Addr} (hD : H D = some (.lst us)) {o : HO} (h : TupsV f H vs xs) : TupsV f (upd H D o) vs xs := ⟨h.1, fun i v hv =>
  let ⟨q, x, e, ex, hq⟩ := h.2 i v hv
  ⟨q, x, e, ex, by rw [upd_ne (ne_of hq hD (fun z => by cases z))]; exact hq⟩⟩
theorem TupsV.push {α : Type} {f : α → List V} {H : Hp} {vs : List V} {xs : List α} {q : Addr} {x : α} (h : TupsV f H vs xs) (hq : H q = some (.tup (f x))) : TupsV f H (vs ++ [.ref q]) (xs ++ [x]) := ⟨by rw [List.length_append, List.length_append, h.1]; rfl, fun i v hv => by
  by_cases il : i < vs.length
  · rw [List.getElem?_append_left il] at hv
    obtain ⟨q', x', e, ex, hq'⟩ := h.2 i v hv
    exact ⟨q', x', e, by rw [List.getElem?_append_left (by rw [← h.1]; exact il)]; exact ex, hq'⟩
  · have ei : i = vs.length := by
      have := (List.getElem?_eq_some_iff.mp hv).1
      rw [List.length_append, List.length_singleton] at this
      omega
    subst ei
    rw [List.getElem?_append_right (Nat.le_refl _), Nat.sub_self] at hv
    exact ⟨q, x, (Option.some.inj hv).symm, by rw [h.1, List.getElem?_append_right (Nat.le_refl _), Nat.sub_self]; rfl, hq⟩⟩
theorem TupsV.nil {α : Type} {f : α → List V} {H : Hp} : TupsV f H [] ([] : List α) := ⟨rfl, fun i v hv => by simp at hv⟩
abbrev pr (p : Int × Int) : List V := [.int p.1, .int p.2]
abbrev tri (p : Int × Int × Int) : List V := [.int p.1, .int p.2.1, .int p.2.2]
def PairsAt (H : Hp) (p : Addr) (ps : List (Int × Int)) : Prop := ∃ vs, H p = some (.lst vs) ∧ TupsV pr H vs ps
theorem PairsAt.same {H H' : Hp} {p : Addr} {ps : List (Int × Int)} (s : Same H H') (h : PairsAt H p ps) : PairsAt H' p ps := let ⟨vs, a, b⟩ := h; ⟨vs, s _ _ a, b.same s⟩
def RowsAt (H : Hp) (p : Addr) (rs : List (Int × Int × Int)) : Prop := ∃ vs, H p = some (.lst vs) ∧ TupsV tri H vs rs
theorem RowsAt.same {H H' : Hp} {p : Addr} {rs : List (Int × Int × Int)} (s : Same H H') (h : RowsAt H p rs) : RowsAt H' p rs := let ⟨vs, a, b⟩ := h; ⟨vs, s _ _ a, b.same s⟩
/-- a step: above 0, not great -/
def StepAt (H : Hp) (p : Addr) (st sb : Int) : Prop := H p = some (.tup [.int st, .int sb]) ∧ (0 < st ∧ st ≤ 10 ^ 12) ∧ (0 < sb ∧ sb ≤ 10 ^ 12)
theorem StepAt.same {H H' : Hp} {p : Addr} {st sb : Int} (s : Same H H') (h : StepAt H p st sb) : StepAt H' p st sb := ⟨s _ _ h.1, h.2⟩
section
variable {P : Program} {w : World} {K : PySem.W.Frag} {mg : Str → Option Value} {base : Heap}
def spStep : Sp := fun vs H Q _ => ∃ d : Addr, vs = [.ref d] ∧ WellAt H d ∧ ∀ (p : Addr) (st sb : Int) (H' : Hp), Out d H H' → WellAt H' d → StepAt H' p st sb → (st ≤ 10 ^ 6 ∧ sb ≤ 10 ^ 6) → Q (.ref p) H'
theorem ok_l_step (T : Txt w K mg) : FnOk P w K mg base CX0 2 T.f_l_step T.fd_l_step ["_law_well_here"] spStep := by
  refine T.F_l_step.ok sc_l_step (fun vs H Q E h => ?_) (fun cdv A outer s H vs Q E hr h => ?_)
  · obtain ⟨d, rfl, _⟩ := h
    rfl
  · obtain ⟨d, rfl, w0, k⟩ := h
    refine ⟨_, (pss_cons (ps_set (i := 1) sc_l_step.nd rfl (Or.inl rfl) (pe_lst (pa_cons (pe_tup (pa_cons pe_int (pa_cons pe_int pa_nil))) (pa_cons (pe_tup (pa_cons pe_int (pa_cons pe_int pa_nil))) (pa_cons (pe_tup (pa_cons pe_int (pa_cons pe_int pa_nil))) (pa_cons (pe_tup (pa_cons pe_int (pa_cons pe_int pa_nil))) (pa_cons (pe_tup (pa_cons pe_int (pa_cons pe_int pa_nil))) (pa_cons (pe_tup (pa_cons pe_int (pa_cons pe_int pa_nil))) (pa_cons (pe_tup (pa_cons pe_int (pa_cons pe_int pa_nil))) (pa_cons (pe_tup (pa_cons pe_int (pa_cons pe_int pa_nil))) (pa_cons (pe_tup (pa_cons (pe_op op_pow pe_int pe_int) (pa_cons pe_int pa_nil))) (pa_cons (pe_tup (pa_cons pe_int (pa_cons (pe_op op_pow pe_int pe_int) pa_nil))) pa_nil))))))))))))
 (pss_one (ps_ret (pe_ix ix_list (pv 1) (pe_call (ok_l_take T) (hr.mono (by decide)) (by rfl) T.m_l_take T.F_l_take.kp T.b_l_take .nil pass0 (pa_cons (pv 0) (pa_cons pe_int pa_nil))) (fun _ _ => rfl))))), ?_⟩
    have E6 : (10 : Int) ^ (6 : Int).toNat = 1000000 := rfl
    have E6' : (10 : Int) ^ 6 = 1000000 := rfl
    have E12' : (10 : Int) ^ 12 = 1000000000000 := rfl
    walk_at "rdg"
    refine r_new (by show 2 ≤ 1000; decide) fun a0 h0 => ?_
    have s0 := Same.new (o := .tup [.int 1, .int 1]) h0
    have e0 := upd_same (H := H) (a := a0) (o := HO.tup [.int 1, .int 1])
    generalize upd H a0 (.tup [.int 1, .int 1]) = H0 at *
    walk_at "rdg"
    refine r_new (by show 2 ≤ 1000; decide) fun a1 h1 => ?_
    have s1 := Same.new (o := .tup [.int 1, .int 10]) h1
    have e1 := upd_same (H := H0) (a := a1) (o := HO.tup [.int 1, .int 10])
    generalize upd H0 a1 (.tup [.int 1, .int 10]) = H1 at *
    walk_at "rdg"
    refine r_new (by show 2 ≤ 1000; decide) fun a2 h2 => ?_
    have s2 := Same.new (o := .tup [.int 1, .int 100]) h2
    have e2 := upd_same (H := H1) (a := a2) (o := HO.tup [.int 1, .int 100])
    generalize upd H1 a2 (.tup [.int 1, .int 100]) = H2 at *
    walk_at "rdg"
    refine r_new (by show 2 ≤ 1000; decide) fun a3 h3 => ?_
    have s3 := Same.new (o := .tup [.int 1, .int 4]) h3
    have e3 := upd_same (H := H2) (a := a3) (o := HO.tup [.int 1, .int 4])
    generalize upd H2 a3 (.tup [.int 1, .int 4]) = H3 at *
    walk_at "rdg"
    refine r_new (by show 2 ≤ 1000; decide) fun a4 h4 => ?_
    have s4 := Same.new (o := .tup [.int 5, .int 1]) h4
    have e4 := upd_same (H := H3) (a := a4) (o := HO.tup [.int 5, .int 1])
    generalize upd H3 a4 (.tup [.int 5, .int 1]) = H4 at *
    walk_at "rdg"
    refine r_new (by show 2 ≤ 1000; decide) fun a5 h5 => ?_
    have s5 := Same.new (o := .tup [.int 25, .int 1]) h5
    have e5 := upd_same (H := H4) (a := a5) (o := HO.tup [.int 25, .int 1])
    generalize upd H4 a5 (.tup [.int 25, .int 1]) = H5 at *
    walk_at "rdg"
    refine r_new (by show 2 ≤ 1000; decide) fun a6 h6 => ?_
    have s6 := Same.new (o := .tup [.int 1, .int 3]) h6
    have e6 := upd_same (H := H5) (a := a6) (o := HO.tup [.int 1, .int 3])
    generalize upd H5 a6 (.tup [.int 1, .int 3]) = H6 at *
    walk_at "rdg"
    refine r_new (by show 2 ≤ 1000; decide) fun a7 h7 => ?_
    have s7 := Same.new (o := .tup [.int 7, .int 2]) h7
    have e7 := upd_same (H := H6) (a := a7) (o := HO.tup [.int 7, .int 2])
    generalize upd H6 a7 (.tup [.int 7, .int 2]) = H7 at *
    walk_at "rdg"
    rw [E6]
    refine r_new (by show 2 ≤ 1000; decide) fun a8 h8 => ?_
    have s8 := Same.new (o := .tup [.int 1000000, .int 1]) h8
    have e8 := upd_same (H := H7) (a := a8) (o := HO.tup [.int 1000000, .int 1])
    generalize upd H7 a8 (.tup [.int 1000000, .int 1]) = H8 at *
    walk_at "rdg"
    rw [E6]
    refine r_new (by show 2 ≤ 1000; decide) fun a9 h9 => ?_
    have s9 := Same.new (o := .tup [.int 1, .int 1000000]) h9
    have e9 := upd_same (H := H8) (a := a9) (o := HO.tup [.int 1, .int 1000000])
    generalize upd H8 a9 (.tup [.int 1, .int 1000000]) = H9 at *
    walk_at "rdg"
    refine r_new (by show 10 ≤ 1000; decide) fun l hl => ?_
    have sl := Same.new (o := .lst [.ref a0, .ref a1, .ref a2, .ref a3, .ref a4, .ref a5, .ref a6, .ref a7, .ref a8, .ref a9]) hl
    have el := upd_same (H := H9) (a := l) (o := HO.lst [.ref a0, .ref a1, .ref a2, .ref a3, .ref a4, .ref a5, .ref a6, .ref a7, .ref a8, .ref a9])
    generalize upd H9 l (.lst [.ref a0, .ref a1, .ref a2, .ref a3, .ref a4, .ref a5, .ref a6, .ref a7, .ref a8, .ref a9]) = HL at *
    have sA := ((((((((((s0).trans s1).trans s2).trans s3).trans s4).trans s5).trans s6).trans s7).trans s8).trans s9).trans sl
    have lw : l ≠ d := fun z => by rw [z] at hl; obtain ⟨_, _, _, hw⟩ := w0.same ((((((((((s0).trans s1).trans s2).trans s3).trans s4).trans s5).trans s6).trans s7).trans s8).trans s9); rw [hw] at hl; cases hl
    walk_at "rdg"
    refine rd_take (w0.same sA) (by decide) (by decide) fun r HT oT wT r0 r1 => ?_
    have oA := (Out.of sA).trans oT
    have elT := oT l _ lw el
    have kp : ∀ {a : Addr} {o : List V}, HL a = some (.tup o) → HT a = some (.tup o) := fun {a o} h => oT.keep (w0.same sA) h (fun xs z => by cases z)
    by_cases z0 : r = 0
    · subst z0
      exact r_ixL elT (atI_nat (j := 0) rfl) (k a0 1 1 HT oA wT ⟨kp (((((((((((s1).trans s2).trans s3).trans s4).trans s5).trans s6).trans s7).trans s8).trans s9).trans sl) _ _ e0), by omega, by omega⟩ (by omega))
    by_cases z1 : r = 1
    · subst z1
      exact r_ixL elT (atI_nat (j := 1) rfl) (k a1 1 10 HT oA wT ⟨kp ((((((((((s2).trans s3).trans s4).trans s5).trans s6).trans s7).trans s8).trans s9).trans sl) _ _ e1), by omega, by omega⟩ (by omega))
    by_cases z2 : r = 2
    · subst z2
      exact r_ixL elT (atI_nat (j := 2) rfl) (k a2 1 100 HT oA wT ⟨kp (((((((((s3).trans s4).trans s5).trans s6).trans s7).trans s8).trans s9).trans sl) _ _ e2), by omega, by omega⟩ (by omega))
    by_cases z3 : r = 3
    · subst z3
      exact r_ixL elT (atI_nat (j := 3) rfl) (k a3 1 4 HT oA wT ⟨kp ((((((((s4).trans s5).trans s6).trans s7).trans s8).trans s9).trans sl) _ _ e3), by omega, by omega⟩ (by omega))
    by_cases z4 : r = 4
    · subst z4
      exact r_ixL elT (atI_nat (j := 4) rfl) (k a4 5 1 HT oA wT ⟨kp (((((((s5).trans s6).trans s7).trans s8).trans s9).trans sl) _ _ e4), by omega, by omega⟩ (by omega))
    by_cases z5 : r = 5
    · subst z5
      exact r_ixL elT (atI_nat (j := 5) rfl) (k a5 25 1 HT oA wT ⟨kp ((((((s6).trans s7).trans s8).trans s9).trans sl) _ _ e5), by omega, by omega⟩ (by omega))
    by_cases z6 : r = 6
    · subst z6
      exact r_ixL elT (atI_nat (j := 6) rfl) (k a6 1 3 HT oA wT ⟨kp (((((s7).trans s8).trans s9).trans sl) _ _ e6), by omega, by omega⟩ (by omega))
    by_cases z7 : r = 7
    · subst z7
      exact r_ixL elT (atI_nat (j := 7) rfl) (k a7 7 2 HT oA wT ⟨kp ((((s8).trans s9).trans sl) _ _ e7), by omega, by omega⟩ (by omega))
    by_cases z8 : r = 8
    · subst z8
      exact r_ixL elT (atI_nat (j := 8) rfl) (k a8 1000000 1 HT oA wT ⟨kp (((s9).trans sl) _ _ e8), by omega, by omega⟩ (by omega))
    by_cases z9 : r = 9
    · subst z9
      exact r_ixL elT (atI_nat (j := 9) rfl) (k a9 1 1000000 HT oA wT ⟨kp ((sl) _ _ e9), by omega, by omega⟩ (by omega))
    exact absurd r1 (by omega)
end
end My

namespace My
open PySem L2
/-! ### parts by steps, as whole numbers tell them -/
def OkP (p : Int × Int) : Prop := (0 < p.2 ∧ p.2 < 2 ^ 40) ∧ p.1.natAbs < 2 ^ 105
def uQ (st sb : Int) (p : Int × Int) : Rat := Rat.divInt (p.1 * sb) (p.2 * st)
def xQ (p : Int × Int) : Rat := Rat.divInt p.1 p.2
def rowQ (st sb : Int) (p : Int × Int) : Int × Int × Int := (p.1 * sb / (p.2 * st), p.1 * sb % (p.2 * st), p.2 * st)
def Stp (st sb : Int) : Prop := (0 < st ∧ st ≤ 10 ^ 12) ∧ (0 < sb ∧ sb ≤ 10 ^ 12)
theorem stp_lt {st sb : Int} (h : Stp st sb) : st.natAbs < 2 ^ 40 ∧ sb.natAbs < 2 ^ 40 := by
  obtain ⟨⟨a, b⟩, c, d⟩ := h
  have E : (10 : Int) ^ 12 = 1000000000000 := rfl
  omega
theorem under_pos {st sb : Int} {p : Int × Int} (h : Stp st sb) (hp : OkP p) : 0 < p.2 * st := Int.mul_pos hp.1.1 h.1.1
theorem under_lt {st sb : Int} {p : Int × Int} (h : Stp st sb) (hp : OkP p) : (p.2 * st).natAbs < 2 ^ 80 := natAbs_mul_lt (m := 40) (n := 40) (by have := hp.1; omega) (stp_lt h).1 (Nat.le_refl _)
theorem over_lt {st sb : Int} {p : Int × Int} (h : Stp st sb) (hp : OkP p) : (p.1 * sb).natAbs < 2 ^ 145 := natAbs_mul_lt (m := 105) (n := 40) hp.2 (stp_lt h).2 (Nat.le_refl _)
theorem u_div {t b st sb : Int} (hb : b ≠ 0) (h1 : st ≠ 0) (h2 : sb ≠ 0) : Rat.divInt t b / Rat.divInt st sb = Rat.divInt (t * sb) (b * st) := by
  simp only [Rat.divInt_eq_div, Rat.intCast_mul]
  have hb' : (b : Rat) ≠ 0 := by simpa using hb
  have h1' : (st : Rat) ≠ 0 := by simpa using h1
  have h2' : (sb : Rat) ≠ 0 := by simpa using h2
  generalize (t : Rat) = t' at *
  generalize (b : Rat) = b' at *
  generalize (st : Rat) = x' at *
  generalize (sb : Rat) = y' at *
  grind
theorem x_over {st sb : Int} (h : Stp st sb) {p : Int × Int} (hp : OkP p) : xQ p / Rat.divInt st sb = uQ st sb p := u_div (by have := hp.1; omega) (by have := h.1; omega) (by have := h.2; omega)
theorem xs_over {st sb : Int} (h : Stp st sb) {ps : List (Int × Int)} (hp : ∀ p ∈ ps, OkP p) : (ps.map xQ).map (· / Rat.divInt st sb) = ps.map (uQ st sb) := by
  rw [List.map_map]
  exact List.map_congr_left fun p hm => x_over h (hp p hm)
theorem fl_row {st sb : Int} (h : Stp st sb) {p : Int × Int} (hp : OkP p) : (uQ st sb p).floor = (rowQ st sb p).1 := floor_div (under_pos h hp)
theorem part_row {st sb : Int} (h : Stp st sb) {p : Int × Int} (hp : OkP p) : partQ (uQ st sb p) = Rat.divInt (rowQ st sb p).2.1 (rowQ st sb p).2.2 := part_div (under_pos h hp)
section
variable {P : Program} {w : World} {K : PySem.W.Frag} {mg : Str → Option Value} {base : Heap}
def spBeyond : Sp := fun vs H Q _ => ∃ (p s : Addr) (ps : List (Int × Int)) (st sb : Int), vs = [.ref p, .ref s] ∧ PairsAt H p ps ∧ (H s = some (.tup [.int st, .int sb]) ∧ Stp st sb) ∧ (∀ x ∈ ps, OkP x) ∧ ps.length ≤ 40 ∧
  ∀ (r : Addr) (H' : Hp), Same H H' → RowsAt H' r (ps.map (rowQ st sb)) → Q (.ref r) H'
theorem ok_l_beyond (T : Txt w K mg) : FnOk P w K mg base CX0 1 T.f_l_beyond T.fd_l_beyond ["_law_parts_here", "_law_by"] spBeyond := by
  refine T.F_l_beyond.ok sc_l_beyond (fun vs H Q E h => ?_) (fun cdv A outer s H vs Q E hr h => ?_)
  · obtain ⟨p, s, ps, st, sb, rfl, _⟩ := h
    rfl
  · obtain ⟨p, s', ps, st, sb, rfl, ⟨vs, hv, hn⟩, ⟨hs, hst⟩, hb, l40, k⟩ := h
    refine ⟨_, (pss_cons (ps_set (i := 2) sc_l_beyond.nd rfl (Or.inl rfl) (pe_lst pa_nil))
 (pss_cons (ps_for PassesOwn.never rfl (pi_list (pv 0)) (pg_tup rfl (pgs_cons (pg_name (i := 3) sc_l_beyond.nd rfl (Or.inl rfl)) (pgs_cons (pg_name (i := 4) sc_l_beyond.nd rfl (Or.inl rfl)) pgs_nil)))
  (pss_cons (ps_par (i := 5) (j := 6) rfl sc_l_beyond.nd rfl rfl (by decide) rfl rfl (pa_cons (pe_op op_mulW (pv 3) (pe_ix ix_tup (pv 1) pe_int (fun _ _ => rfl))) (pa_cons (pe_op op_mulW (pv 4) (pe_ix ix_tup (pv 1) pe_int (fun _ _ => rfl))) pa_nil)) (by rfl))
 (pss_one (ps_expr (pe_bm PySem.F.plainAttrs_list PySem.F.slot_list_append PySem.F.type_list_append mt_append (pv 2) (pa_cons (pe_tup (pa_cons (pe_op op_fdivW (pv 5) (pv 6)) (pa_cons (pe_op op_mod (pv 5) (pv 6)) (pa_cons (pv 6) pa_nil)))) pa_nil))))))
 (pss_one (ps_ret (pv 2))))), ?_⟩
    have len := hn.1
    have stb := stp_lt hst
    walk_at "rdh"
    refine r_new (by show 0 ≤ 1000; decide) fun D hD => ?_
    walk_at "rdh"
    refine r_forL ?_
    walk_at "rdh"
    have s0 := Same.new (o := .lst []) hD
    refine ⟨p, rfl, ⟨_, SqL.of (s0 _ _ hv)⟩, for_list (K := K) (a := p) (xs := vs) (fun i σ H' => ∃ (v3 v4 v5 v6 : Option V) (ts : List V), σ = [some (.ref p), some (.ref s'), some (.ref D), v3, v4, v5, v6] ∧ Same H H' ∧ H' D = some (.lst ts) ∧ TupsV tri H' ts ((ps.take i).map (rowQ st sb)) ∧ i ≤ vs.length) ⟨none, none, none, none, [], rfl, s0, upd_same, TupsV.nil, Nat.zero_le _⟩ (fun i σ H' _ ⟨_, _, _, _, _, _, s1, _⟩ => SqL.of (s1 _ _ hv)) ?_ ?_⟩
    · rintro i x σ H1 hx ⟨v3, v4, v5, v6, ts, rfl, s1, h1, t1, il⟩
      have li := (List.getElem?_eq_some_iff.mp hx).1
      obtain ⟨q, e, rfl, ex, hq⟩ := hn.2 i x hx
      have he := hb e (List.mem_of_getElem? ex)
      refine r_gTup (s1 _ _ hq) rfl ?_
      walk_at "rdh"
      refine r_ixT (s1 _ _ hs) (atI_nat (j := 1) rfl) ?_
      refine r_I (wide_mul he.2 stb.2 (by decide) (by decide) (by decide)) ?_
      walk_at "rdh"
      refine r_ixT (s1 _ _ hs) (atI_nat (j := 0) rfl) ?_
      refine r_I (wide_mul (a := 40) (by have := he.1; omega) stb.1 (by decide) (by decide) (by decide)) ?_
      walk_at "rdh"
      refine ⟨ty_list h1, ?_⟩
      walk_at "rdh"
      refine r_I (wide_div (under_pos hst he) (under_lt hst he) (by decide) (by decide)) ?_
      walk_at "rdh"
      refine r_I (under_pos hst he) ?_
      walk_at "rdh"
      refine r_new (by show 3 ≤ 1000; decide) fun t ht => ?_
      have s2 := Same.new (o := .tup [.int (e.1 * sb / (e.2 * st)), .int (e.1 * sb % (e.2 * st)), .int (e.2 * st)]) ht
      have lts : ts.length = i := by rw [t1.1, List.length_map, List.length_take]; omega
      walk_at "rdh"
      refine r_append (s2 _ _ h1) (by omega) ?_
      walk_at "rdh"
      refine ⟨_, _, _, _, ts ++ [.ref t], rfl, fun c o hc => ?_, upd_same, ?_, by omega⟩
      · rw [upd_ne (ne_of_none hc hD)]
        exact s2 _ _ (s1 _ _ hc)
      · have ek : ps.take (i + 1) = ps.take i ++ [e] := by rw [List.take_add_one, ex]; rfl
        rw [ek, List.map_append]
        refine TupsV.put (s2 _ _ h1) ((t1.same s2).push (x := rowQ st sb e) ?_)
        exact upd_same
    · rintro σ H1 ⟨v3, v4, v5, v6, ts, rfl, s1, h1, t1, _⟩
      walk_at "rdh"
      refine k D H1 s1 ⟨ts, h1, ?_⟩
      rw [List.take_of_length_le (by omega)] at t1
      exact t1
end
end My

namespace My
open PySem L2
theorem add_cross {a b c d : Int} (hb : b ≠ 0) (hd : d ≠ 0) : Rat.divInt (a * d + c * b) (b * d) = Rat.divInt a b + Rat.divInt c d := by
  simp only [Rat.divInt_eq_div, Rat.intCast_mul, Rat.intCast_add]
  have hb' : (b : Rat) ≠ 0 := by simpa using hb
  have hd' : (d : Rat) ≠ 0 := by simpa using hd
  generalize (a : Rat) = a' at *
  generalize (b : Rat) = b' at *
  generalize (c : Rat) = c' at *
  generalize (d : Rat) = d' at *
  grind
theorem sumQ_one (x : Rat) : sumQ [x] = x := by show x + 0 = x; grind
section
variable {P : Program} {w : World} {K : PySem.W.Frag} {mg : Str → Option Value} {base : Heap}
def spSteps : Sp := fun vs H Q _ => ∃ (p s : Addr) (ps : List (Int × Int)) (st sb : Int), vs = [.ref p, .ref s] ∧ PairsAt H p ps ∧ (H s = some (.tup [.int st, .int sb]) ∧ Stp st sb) ∧ (∀ x ∈ ps, OkP x) ∧ ps.length ≤ 40 ∧
  ∀ (H' : Hp), Same H H' → Q (.int (takenQ .heven (sumQ (ps.map (uQ st sb))))) H'
theorem ok_l_steps (T : Txt w K mg) : FnOk P w K mg base CX0 1 T.f_l_steps T.fd_l_steps ["_law_parts_here", "_law_by"] spSteps := by
  refine T.F_l_steps.ok sc_l_steps (fun vs H Q E h => ?_) (fun cdv A outer s H vs Q E hr h => ?_)
  · obtain ⟨p, s, ps, st, sb, rfl, _⟩ := h
    rfl
  · obtain ⟨p, s', ps, st, sb, rfl, ⟨vs, hv, hn⟩, ⟨hs, hst⟩, hb, l40, k⟩ := h
    refine ⟨_, (pss_cons (ps_asg (pe_tup (pa_cons pe_int (pa_cons pe_int pa_nil))) (pg_tup rfl (pgs_cons (pg_name (i := 2) sc_l_steps.nd rfl (Or.inl rfl)) (pgs_cons (pg_name (i := 3) sc_l_steps.nd rfl (Or.inl rfl)) pgs_nil))))
 (pss_cons (ps_for PassesOwn.never rfl (pi_list (pv 0)) (pg_tup rfl (pgs_cons (pg_name (i := 4) sc_l_steps.nd rfl (Or.inl rfl)) (pgs_cons (pg_name (i := 5) sc_l_steps.nd rfl (Or.inl rfl)) pgs_nil)))
  (pss_cons (ps_set (i := 6) sc_l_steps.nd rfl (Or.inl rfl) (pe_op op_mulW (pv 5) (pe_ix ix_tup (pv 1) pe_int (fun _ _ => rfl))))
 (pss_one (ps_par (i := 2) (j := 3) rfl sc_l_steps.nd rfl rfl (by decide) rfl rfl (pa_cons (pe_op op_add (pe_op op_mulW (pv 2) (pv 6)) (pe_op op_mulW (pe_op op_mulW (pv 4) (pe_ix ix_tup (pv 1) pe_int (fun _ _ => rfl))) (pv 3))) (pa_cons (pe_op op_mulW (pv 3) (pv 6)) pa_nil)) (by rfl)))))
 (pss_cons (ps_par (i := 7) (j := 8) rfl sc_l_steps.nd rfl rfl (by decide) rfl rfl (pa_cons (pe_op op_fdivW (pv 2) (pv 3)) (pa_cons (pe_op op_mod (pv 2) (pv 3)) pa_nil)) (by rfl))
 (pss_one (ps_ret (pe_op op_add (pv 7) (pe_callTy call_int1 (by rfl) T.n_int (by decide +kernel) (pa_cons (pe_or (pe_cmpR op_gt (pe_op op_mul pe_int (pv 8)) (pv 3) (nomark _)) (pe_one (pe_and (pe_cmpR op_eq (pe_op op_mul pe_int (pv 8)) (pv 3) (nomark _)) (pe_one (pe_cmpR op_eq (pe_op op_mod (pv 7) pe_int) pe_int (nomark _)))))) pa_nil)))))))), ?_⟩
    have len := hn.1
    have stb := stp_lt hst
    walk_at "rdh"
    refine r_new (by show 2 ≤ 1000; decide) fun t0 ht0 => ?_
    have s0 := Same.new (o := .tup [.int 0, .int 1]) ht0
    refine r_gTup upd_same rfl ?_
    walk_at "rdh"
    refine r_forL ?_
    walk_at "rdh"
    refine ⟨p, rfl, ⟨_, SqL.of (s0 _ _ hv)⟩, for_list (K := K) (a := p) (xs := vs) (fun i σ H' => ∃ (tp bt : Int) (v4 v5 v6 : Option V), σ = [some (.ref p), some (.ref s'), some (.int tp), some (.int bt), v4, v5, v6, none, none] ∧ Same H H' ∧ (0 < bt ∧ bt.natAbs < 2 ^ (80 * i + 1)) ∧ tp.natAbs < 2 ^ (145 + 82 * i) ∧ Rat.divInt tp bt = sumQ ((ps.take i).map (uQ st sb)) ∧ i ≤ vs.length) ⟨0, 1, none, none, none, rfl, s0, ⟨by decide, by decide⟩, by decide, (show Rat.divInt 0 1 = (0 : Rat) from by decide +kernel), Nat.zero_le _⟩ (fun i σ H' _ ⟨_, _, _, _, _, _, s1, _⟩ => SqL.of (s1 _ _ hv)) ?_ ?_⟩
    · rintro i x σ H1 hx ⟨tp, bt, v4, v5, v6, rfl, s1, ⟨b0, bb⟩, tb, ed, il⟩
      have li := (List.getElem?_eq_some_iff.mp hx).1
      obtain ⟨q, e, rfl, ex, hq⟩ := hn.2 i x hx
      have he := hb e (List.mem_of_getElem? ex)
      have wp := under_pos hst he
      have wl := under_lt hst he
      have ol := over_lt hst he
      have tb' : tp.natAbs < 2 ^ 4000 := Nat.lt_of_lt_of_le tb (Nat.pow_le_pow_right (by decide) (by omega))
      have bb' : bt.natAbs < 2 ^ 4000 := Nat.lt_of_lt_of_le bb (Nat.pow_le_pow_right (by decide) (by omega))
      refine r_gTup (s1 _ _ hq) rfl ?_
      walk_at "rdh"
      refine r_ixT (s1 _ _ hs) (atI_nat (j := 0) rfl) ?_
      refine r_I (wide_mul (a := 40) (by have := he.1; omega) stb.1 (by decide) (by decide) (by decide)) ?_
      walk_at "rdh"
      refine r_I (wide_mul tb' wl (by decide) (by decide) (by decide)) ?_
      walk_at "rdh"
      refine r_ixT (s1 _ _ hs) (atI_nat (j := 1) rfl) ?_
      refine r_I (wide_mul he.2 stb.2 (by decide) (by decide) (by decide)) ?_
      walk_at "rdh"
      refine r_I (wide_mul ol bb' (by decide) (by decide) (by decide)) ?_
      walk_at "rdh"
      refine r_I (wide_mul bb' wl (by decide) (by decide) (by decide)) ?_
      walk_at "rdh"
      refine ⟨_, _, _, _, _, rfl, s1, ⟨Int.mul_pos b0 wp, natAbs_mul_lt bb wl (by omega)⟩, ?_, ?_, by omega⟩
      · have m1 := natAbs_mul_lt tb wl (k := 225 + 82 * i) (by omega)
        have m2 := natAbs_mul_lt ol bb (k := 226 + 82 * i) (by omega)
        have m3 : 2 ^ (225 + 82 * i) ≤ 2 ^ (226 + 82 * i) := Nat.pow_le_pow_right (by decide) (by omega)
        have := natAbs_add_lt (Nat.lt_of_lt_of_le m1 m3) m2
        exact Nat.lt_of_lt_of_le this (Nat.pow_le_pow_right (by decide) (by omega))
      · have ek : ps.take (i + 1) = ps.take i ++ [e] := by rw [List.take_add_one, ex]; rfl
        rw [ek, List.map_append, sumQ_append, ← ed, add_cross (by omega) (by omega)]
        show _ + uQ st sb e = _ + sumQ [uQ st sb e]
        rw [sumQ_one]
    · rintro σ H1 ⟨tp, bt, v4, v5, v6, rfl, s1, ⟨b0, bb⟩, tb, ed, _⟩
      rw [List.take_of_length_le (by omega)] at ed
      have k1 := k _ s1
      rw [← ed, even_div b0] at k1
      have bb' : bt.natAbs < 2 ^ 4000 := Nat.lt_of_lt_of_le bb (Nat.pow_le_pow_right (by decide) (by omega))
      walk_at "rdh"
      refine r_I (wide_div b0 bb' (by decide) (by decide)) ?_
      walk_at "rdh"
      refine r_I b0 ?_
      walk_at "rdh"
      refine r_ite (fun c1 => ?_) (fun c1 => ?_)
      · walk_at "rdh"
        refine .inr ⟨true, rfl, ?_⟩
        walk_at "rdh"
        rw [if_pos (.inl (of_decide_eq_true c1))] at k1
        exact k1
      · have n1 := of_decide_eq_false c1
        walk_at "rdh"
        refine r_ite (fun c2 => ?_) (fun c2 => ?_)
        · have n2 := of_decide_eq_true c2
          walk_at "rdh"
          refine .inr ⟨_, rfl, ?_⟩
          walk_at "rdh"
          by_cases c3 : (tp / bt) % 2 = 1
          · rw [if_pos (.inr ⟨n2, c3⟩)] at k1
            rw [if_pos (decide_eq_true c3)]
            exact k1
          · rw [if_neg (by omega)] at k1
            rw [if_neg (by rw [decide_eq_true_eq]; exact c3)]
            exact k1
        · have n2 := of_decide_eq_false c2
          walk_at "rdh"
          refine .inr ⟨false, rfl, ?_⟩
          walk_at "rdh"
          rw [if_neg (by omega)] at k1
          exact k1
end
end My

namespace My
open PySem L2
section
variable {P : Program} {w : World} {K : PySem.W.Frag} {mg : Str → Option Value} {base : Heap}
theorem NumsV.push {C : Addr} {H : Hp} {vs : List V} {xs : List Rat} {p : Addr} {x : Rat} (h : NumsV C H vs xs) (n : NumAt C H p x) : NumsV C H (vs ++ [.ref p]) (xs ++ [x]) := by
  induction h with
  | nil => exact .cons n .nil
  | cons a _ ih => exact .cons a ih
theorem NumsV.put {C : Addr} {H : Hp} {vs us : List V} {xs : List Rat} {D : Addr} (hD : H D = some (.lst us)) {o : HO} (h : NumsV C H vs xs) : NumsV C (upd H D o) vs xs := by
  induction h with
  | nil => exact .nil
  | cons a _ ih =>
    obtain ⟨dx, e⟩ := a
    exact .cons ⟨dx, by rw [upd_ne (ne_of e hD (fun z => by cases z))]; exact e⟩ ih
def spMade (C : Addr) : Sp := fun vs H Q _ => ∃ (p : Addr) (ps : List (Int × Int)), vs = [.ref p] ∧ PairsAt H p ps ∧ (∀ x ∈ ps, OkP x) ∧ ps.length ≤ 40 ∧
  ∀ (r : Addr) (H' : Hp), Same H H' → PartsAt C H' r (ps.map xQ) → Q (.ref r) H'
theorem ok_l_made (T : Txt w K mg) : FnOk P w K mg base CX0 3 T.f_l_made T.fd_l_made ["_law_parts_here"] (spMade T.C_Number) := by
  refine T.F_l_made.ok sc_l_made (fun vs H Q E h => ?_) (fun cdv A outer s H vs Q E hr h => ?_)
  · obtain ⟨p, ps, rfl, _⟩ := h
    rfl
  · obtain ⟨p, ps, rfl, ⟨vs, hv, hn⟩, hb, l40, k⟩ := h
    refine ⟨_, (pss_one (ps_ret (pe_callTy call_tuple_of (by rfl) T.n_tuple (by decide +kernel) (pa_cons (pe_lc (own := [("_law_top", 1), ("_law_bottom", 2)]) (g := gTup K 2 (gCons (gName 1) (gCons (gName 2) gNil))) (tt := tYes) rfl sc_l_made.nd (pi_list (pv 0)) (blkOk_by (own := [("_law_top", 1), ("_law_bottom", 2)]) (N := ["_law_parts_here", "_law_top", "_law_bottom"]) (sc := defScope s_l_made) (by decide +kernel)) (fun _ _ _ _ _ => pg_tup rfl (pgs_cons (pg_name (i := 1) sc_l_made.nd rfl (Or.inl rfl)) (pgs_cons (pg_name (i := 2) sc_l_made.nd rfl (Or.inl rfl)) pgs_nil))) (fun _ _ _ _ _ => pts_nil) (fun _ _ _ _ _ => (pe_make T.mk_Number (ok_Number_init T) (hr.mono (by decide)) (by rfl) T.m_Number T.b_Number_init2 .nil pass0 (pa_cons (pv 1) (pa_cons (pv 2) pa_nil))))) pa_nil)))), ?_⟩
    have len := hn.1
    walk_at "rdh"
    refine r_lcL ?_
    walk_at "rdh"
    refine ⟨p, rfl, ⟨_, SqL.of hv⟩, fun D hD => ?_⟩
    refine lc_list (K := K) (a := p) (xs := vs) (fun j H' => Same H H' ∧ ∃ ts : List V, H' D = some (.lst ts) ∧ NumsV T.C_Number H' ts ((ps.take j).map xQ) ∧ j ≤ vs.length) ⟨Same.new hD, [], upd_same, .nil, Nat.zero_le _⟩ (fun j H' _ ⟨s, _⟩ => SqL.of (s _ _ hv)) ?_ ?_
    · rintro j z H2 hz ⟨s2, ts, hts, hk, jl⟩
      obtain ⟨q, e, rfl, ex, hq⟩ := hn.2 j z hz
      have he := hb e (List.mem_of_getElem? ex)
      have jl' : j < vs.length := (List.getElem?_eq_some_iff.mp hz).1
      have lts : ts.length = j := by rw [hk.len, List.length_map, List.length_take]; omega
      refine r_gTup (s2 _ _ hq) rfl ?_
      walk_at "rdh"
      refine ⟨rfl, ?_⟩
      refine r_tyes ?_
      walk_at "rdh"
      refine mk_num (by have := he.1; omega) (Nat.lt_of_lt_of_le (show e.2.natAbs < 2 ^ 40 by have := he.1; omega) (Nat.pow_le_pow_right (by decide) (by decide))) fun n H3 s3 n3 h3 => ?_
      refine ⟨ts, s3 _ _ hts, by rw [lts]; exact Nat.lt_of_lt_of_le (show j < 41 by omega) (by decide), ?_, ts ++ [.ref n], upd_same, ?_, by omega⟩
      · intro c o hc
        rw [upd_ne (ne_of_none hc hD)]
        exact s3 _ _ (s2 _ _ hc)
      · have ek : ps.take (j + 1) = ps.take j ++ [e] := by rw [List.take_add_one, ex]; rfl
        rw [ek, List.map_append]
        exact NumsV.put (s3 _ _ hts) ((hk.same s3).push (x := xQ e) h3)
    · rintro H1 ⟨s1, ts, hts, hk, _⟩
      rw [List.take_of_length_le (by omega)] at hk
      walk_at "rdh"
      refine ⟨D, ts, rfl, .inl ⟨SqL.of hts, fun l hl => ?_⟩⟩
      have sl := Same.new (o := .tup ts) hl
      exact k l _ (s1.trans sl) ⟨ts, upd_same, hk.same sl⟩
end
end My

namespace My
open PySem L2
theorem range_nats (n : Nat) : rangeV 0 (n : Int) = (List.range n).map fun i : Nat => V.int (i : Int) := by
  unfold rangeV PyProof.Rows.rangeInts
  rw [List.map_map]
  have e : ((n : Int) - 0).toNat = n := by omega
  rw [e]
  refine List.map_congr_left fun i _ => ?_
  show V.int _ = V.int _
  congr 1
  show (0 : Int) + (i : Int) * 1 = (i : Int)
  omega
theorem ixN_nat {n b : Nat} (h : b < n) : ixN n (b : Int) = some b := by
  unfold ixN
  rw [if_pos (by omega), if_pos (by omega)]
  rfl
def intL (l : List Nat) : List Int := l.map fun i : Nat => (i : Int)
theorem intL_at {l : List Nat} {i : Nat} {x : V} (h : ((intL l).map V.int)[i]? = some x) : ∃ k : Nat, x = .int (k : Int) ∧ l[i]? = some k := by
  unfold intL at h
  rw [List.map_map, List.getElem?_map] at h
  cases e : l[i]? with
  | none => rw [e] at h; cases h
  | some k => rw [e] at h; exact ⟨k, (Option.some.inj h).symm, rfl⟩
theorem intL_get {l : List Nat} {i k : Nat} (h : l[i]? = some k) : (intL l)[i]? = some (k : Int) := by
  unfold intL
  rw [List.getElem?_map, h]
  rfl
theorem intL_len (l : List Nat) : (intL l).length = l.length := List.length_map _
theorem intL_erase (l : List Nat) (i : Nat) : (intL l).eraseIdx i = intL (l.eraseIdx i) := by
  unfold intL
  rw [List.eraseIdx_eq_take_drop_succ, List.eraseIdx_eq_take_drop_succ, List.map_append, List.map_take, List.map_drop]
theorem F_row {st sb : Int} (h : Stp st sb) {ps : List (Int × Int)} (hp : ∀ p ∈ ps, OkP p) {i : Nat} {e : Int × Int} (he : ps[i]? = some e) : FQ (ps.map (uQ st sb)) i = Rat.divInt (rowQ st sb e).2.1 (rowQ st sb e).2.2 ∧ fl (ps.map (uQ st sb)) i = (rowQ st sb e).1 := by
  have hu : (ps.map (uQ st sb))[i]? = some (uQ st sb e) := by rw [List.getElem?_map, he]; rfl
  have o := hp e (List.mem_of_getElem? he)
  rw [FQ_at hu, fl_at hu]
  exact ⟨part_row h o, fl_row h o⟩
theorem row_lt {st sb : Int} (h : Stp st sb) {p : Int × Int} (hp : OkP p) : (0 ≤ (rowQ st sb p).2.1 ∧ (rowQ st sb p).2.1.natAbs < 2 ^ 80) ∧ (0 < (rowQ st sb p).2.2 ∧ (rowQ st sb p).2.2.natAbs < 2 ^ 80) := by
  have a := under_pos h hp
  have b := under_lt h hp
  have c := Int.emod_nonneg (p.1 * sb) (show p.2 * st ≠ 0 by omega)
  have d := Int.emod_lt_of_pos (p.1 * sb) a
  show (0 ≤ p.1 * sb % (p.2 * st) ∧ (p.1 * sb % (p.2 * st)).natAbs < 2 ^ 80) ∧ (0 < p.2 * st ∧ (p.2 * st).natAbs < 2 ^ 80)
  omega
section
variable {P : Program} {w : World} {K : PySem.W.Frag} {mg : Str → Option Value} {base : Heap}
def spCounts : Sp := fun vs H Q _ => ∃ (p s : Addr) (ps : List (Int × Int)) (st sb : Int), vs = [.ref p, .ref s] ∧ PairsAt H p ps ∧ (H s = some (.tup [.int st, .int sb]) ∧ Stp st sb) ∧ (∀ x ∈ ps, OkP x) ∧ ps.length ≤ 40 ∧
  ∀ (r : Addr) (H' : Hp), Same H H' → H' r = some (.tup ((cntQ (ps.map (uQ st sb))).map V.int)) → Q (.ref r) H'
theorem ok_l_counts (T : Txt w K mg) : FnOk P w K mg base CX0 2 T.f_l_counts T.fd_l_counts ["_law_parts_here", "_law_by"] spCounts := by
  refine T.F_l_counts.ok sc_l_counts (fun vs H Q E h => ?_) (fun cdv A outer s H vs Q E hr h => ?_)
  · obtain ⟨p, s, ps, st, sb, rfl, _⟩ := h
    rfl
  · obtain ⟨p, s', ps, st, sb, rfl, hp, ⟨hs, hst⟩, hb, l40, k⟩ := h
    refine ⟨_, (pss_cons (ps_set (i := 2) sc_l_counts.nd rfl (Or.inl rfl) (pe_call (ok_l_beyond T) (hr.mono (by decide)) (by rfl) T.m_l_beyond T.F_l_beyond.kp T.b_l_beyond .nil pass0 (pa_cons (pv 0) (pa_cons (pv 1) pa_nil))))
 (pss_cons (ps_set (i := 3) sc_l_counts.nd rfl (Or.inl rfl) (pe_callTy (call_list_rng rfl) (by rfl) T.n_list (by decide +kernel) (pa_cons (pe_callTy cr_range1 (by rfl) T.n_range (by decide +kernel) (pa_cons (pe_callB call_len_seq (by rfl) T.n_len PySem.boot_len (pa_cons (pv 2) pa_nil)) pa_nil)) pa_nil)))
 (pss_cons (ps_setLc (i := 4) (own := [("_law_row", 8)]) (g := gName 8) (tt := tYes) rfl sc_l_counts.nd rfl rfl (sw_true rfl rfl rfl (by decide +kernel)) (pi_list (pv 2)) (blkOk_by (own := [("_law_row", 8)]) (N := ["_law_parts_here", "_law_by", "_law_rows", "_law_left", "_law_counts_here", "_law_turn", "_law_best", "_law_k", "_law_row"]) (sc := defScope s_l_counts) (by decide +kernel)) (fun _ _ _ _ _ => pg_name (i := 8) sc_l_counts.nd rfl (Or.inl rfl)) (fun _ _ _ _ _ => pts_nil) (fun _ _ _ _ _ => (pe_ix (ix_tupK (K0 := K) rfl) (pv 8) pe_int (fun _ _ => rfl))))
 (pss_cons (ps_for PassesOwn.never rfl (pi_range1 rfl T.n_range (pa_cons (pe_op op_sub (pe_call (ok_l_steps T) (hr.mono (by decide)) (by rfl) T.m_l_steps T.F_l_steps.kp T.b_l_steps .nil pass0 (pa_cons (pv 0) (pa_cons (pv 1) pa_nil))) (pe_callB (cr_sum rfl) (by rfl) T.n_sum (by decide +kernel) (pa_cons (pv 4) pa_nil))) pa_nil)) (pg_name (i := 5) sc_l_counts.nd rfl (Or.inl rfl))
  (pss_cons (ps_set (i := 6) sc_l_counts.nd rfl (Or.inl rfl) (pe_ix ix_list (pv 3) pe_int (fun _ _ => rfl)))
 (pss_cons (ps_for PassesOwn.never rfl (pi_list (pv 3)) (pg_name (i := 7) sc_l_counts.nd rfl (Or.inl rfl))
  (pss_one (ps_if (pt_cmpR op_gt (pe_op op_mulW (pe_ix ix_tup (pe_ix ix_list (pv 2) (pv 7) (fun _ _ => rfl)) pe_int (fun _ _ => rfl)) (pe_ix ix_tup (pe_ix ix_list (pv 2) (pv 6) (fun _ _ => rfl)) pe_int (fun _ _ => rfl))) (pe_op op_mulW (pe_ix ix_tup (pe_ix ix_list (pv 2) (pv 6) (fun _ _ => rfl)) pe_int (fun _ _ => rfl)) (pe_ix ix_tup (pe_ix ix_list (pv 2) (pv 7) (fun _ _ => rfl)) pe_int (fun _ _ => rfl))) (nomark _))
  (pss_one (ps_set (i := 6) sc_l_counts.nd rfl (Or.inl rfl) (pv 7)))
  pss_nil)))
 (pss_cons (ps_expr (pe_bm PySem.F.plainAttrs_list PySem.F.slot_list_remove PySem.F.type_list_remove mt_remove (pv 3) (pa_cons (pv 6) pa_nil)))
 (pss_one (ps_asg (pe_op op_add (pe_ix ix_list (pv 4) (pv 6) (fun _ _ => rfl)) pe_int) (pg_sub (pv 4) (pv 6) set_list)))))))
 (pss_one (ps_ret (pe_callTy call_tuple_of (by rfl) T.n_tuple (by decide +kernel) (pa_cons (pv 4) pa_nil)))))))), ?_⟩
    generalize hus : ps.map (uQ st sb) = us at *
    have ul : us.length = ps.length := by rw [← hus, List.length_map]
    have Frow : ∀ {i : Nat} {e : Int × Int}, ps[i]? = some e → FQ us i = Rat.divInt (rowQ st sb e).2.1 (rowQ st sb e).2.2 := fun {i e} he => by rw [← hus]; exact (F_row hst hb he).1
    walk_at "rdh"
    refine ⟨p, s', ps, st, sb, rfl, hp, ⟨hs, hst⟩, hb, l40, fun r H1 s1 ⟨rv, hrv, rt⟩ => ?_⟩
    have rl : rv.length = ps.length := by rw [rt.1, List.length_map]
    walk_at "rdh"
    refine ⟨r, rv, rfl, .inl (SqL.of hrv), ?_⟩
    walk_at "rdh"
    refine ⟨_, rfl, fun g hg => ?_⟩
    have sg := Same.new (o := .rng 0 (rv.length : Int)) hg
    have eg := upd_same (H := H1) (a := g) (o := HO.rng 0 (rv.length : Int))
    generalize upd H1 g (.rng 0 (rv.length : Int)) = Hg at *
    walk_at "rdh"
    refine ⟨g, 0, _, rfl, eg, ⟨by decide, by decide, by omega, by omega⟩, by omega, fun l hl => ?_⟩
    have sl := Same.new (o := .lst (rangeV 0 (rv.length : Int))) hl
    have s2 := sg.trans sl
    have el := upd_same (H := Hg) (a := l) (o := HO.lst (rangeV 0 (rv.length : Int)))
    have lr : l ≠ r := fun z => by rw [z, sg _ _ hrv] at hl; cases hl
    generalize upd Hg l (.lst (rangeV 0 (rv.length : Int))) = H2 at *
    have e0 : rangeV 0 (rv.length : Int) = (intL (leftL us 0)).map V.int := by
      rw [range_nats, left_zero, ul, ← rl]
      unfold intL
      rw [List.map_map]
      rfl
    rw [e0] at el
    have hrv2 := s2 _ _ hrv
    have rt2 := rt.same s2
    have s12 := s1.trans s2
    walk_at "rdh"
    refine r_lcL ?_
    walk_at "rdh"
    refine ⟨r, rfl, ⟨_, SqL.of hrv2⟩, fun D hD => ?_⟩
    have lD : l ≠ D := fun z => by rw [z] at el; rw [el] at hD; cases hD
    have rD : r ≠ D := fun z => by rw [z] at hrv2; rw [hrv2] at hD; cases hD
    refine lc_list (K := K) (a := r) (xs := rv) (fun j H' => Same H2 H' ∧ H' D = some (.lst (((us.map Rat.floor).take j).map V.int)) ∧ j ≤ rv.length) ⟨Same.new hD, upd_same, Nat.zero_le _⟩ (fun j H' _ ⟨s, _⟩ => SqL.of (s _ _ hrv2)) ?_ ?_
    · rintro j z H3 hz ⟨s3, hD3, jl⟩
      obtain ⟨q, x, rfl, ex, hq⟩ := rt2.2 j z hz
      have jl' : j < rv.length := (List.getElem?_eq_some_iff.mp hz).1
      rw [List.getElem?_map] at ex
      obtain ⟨e, ee, rfl⟩ : ∃ e, ps[j]? = some e ∧ rowQ st sb e = x := by
        cases h : ps[j]? with
        | none => rw [h] at ex; cases ex
        | some e => rw [h] at ex; exact ⟨e, rfl, Option.some.inj ex⟩
      have fe : (us.map Rat.floor)[j]? = some (rowQ st sb e).1 := by
        rw [← hus, List.map_map, List.getElem?_map, ee]
        exact congrArg some (fl_row hst (hb e (List.mem_of_getElem? ee)))
      walk_at "rdh"
      refine ⟨rfl, ?_⟩
      refine r_tyes ?_
      walk_at "rdh"
      refine r_ixT (s3 _ _ hq) (atI_nat (j := 0) rfl) ?_
      refine ⟨_, hD3, by rw [List.length_map, List.length_take]; exact Nat.lt_of_lt_of_le (show min j _ < 41 by omega) (by decide), ?_, ?_, by omega⟩
      · intro c o hc
        rw [upd_ne (ne_of_none hc hD)]
        exact s3 _ _ hc
      · rw [upd_same, List.take_add_one, fe, List.map_append]
        rfl
    rintro H3 ⟨s3, hD3, _⟩
    rw [List.take_of_length_le (by rw [List.length_map]; omega)] at hD3
    have s13 := s12.trans s3
    walk_at "rdh"
    refine r_rng1 ?_
    walk_at "rdh"
    refine ⟨p, s', ps, st, sb, rfl, hp.same s13, ⟨s13 _ _ hs, hst⟩, hb, l40, fun H4 s4 => ?_⟩
    rw [hus]
    walk_at "rdh"
    refine ⟨D, us.map Rat.floor, rfl, SqL.of (s4 _ _ hD3), ?_⟩
    have kE : takenQ .heven (sumQ us) - (us.map Rat.floor).sum = (kQ us : Int) := by
      have := k_left (us := us)
      unfold sumF at this
      omega
    have kn := k_len us
    walk_at "rdh"
    rw [kE]
    have hl4 := s4 _ _ (s3 _ _ el)
    have hr4 := s4 _ _ (s3 _ _ hrv2)
    have rt4 := rt2.same (s3.trans s4)
    have hD4 := s4 _ _ hD3
    rw [← mid_zero] at hD4
    have s14 := s13.trans s4
    have rowAt : ∀ {i : Nat}, i < us.length → ∃ (q : Addr) (e : Int × Int), rv[i]? = some (.ref q) ∧ ps[i]? = some e ∧ H4 q = some (.tup (tri (rowQ st sb e))) := fun {i} hi => by
      have ri : i < rv.length := by omega
      obtain ⟨q, x, eq, ex, hq⟩ := rt4.2 i rv[i] (List.getElem?_eq_getElem ri)
      rw [List.getElem?_map] at ex
      cases h : ps[i]? with
      | none => rw [h] at ex; cases ex
      | some e =>
        rw [h] at ex
        obtain rfl := Option.some.inj ex
        exact ⟨q, e, by rw [List.getElem?_eq_getElem ri, eq], rfl, hq⟩
    refine ⟨_, rfl, by omega, by omega, ?_⟩
    refine for_range (lo := 0) (n := kQ us) (fun j σ H' => ∃ v5 v6 v7 v8 : Option V, σ = [some (.ref p), some (.ref s'), some (.ref r), some (.ref l), some (.ref D), v5, v6, v7, v8] ∧ Off l D H4 H' ∧ H' l = some (.lst ((intL (leftL us j)).map V.int)) ∧ H' D = some (.lst ((midL us j).map V.int)) ∧ j ≤ kQ us) ⟨none, none, none, none, rfl, Off.refl _ _ _, hl4, hD4, Nat.zero_le _⟩ ?_ ?_
    · rintro j σ H5 hj ⟨v5, v6, v7, v8, rfl, o5, hl5, hD5, jk⟩
      have jn : j < us.length := by omega
      have l0 := left_ne jn
      have hr5 : H5 r = some (.lst rv) := o5 _ _ lr.symm rD hr4
      have rowAt5 : ∀ {i : Nat}, i < us.length → ∃ (q : Addr) (e : Int × Int), rv[i]? = some (.ref q) ∧ ps[i]? = some e ∧ H5 q = some (.tup (tri (rowQ st sb e))) := fun {i} hi => by
        obtain ⟨q, e, e1, e2, hq⟩ := rowAt hi
        exact ⟨q, e, e1, e2, o5 _ _ (ne_of hq hl4 (fun z => by cases z)) (ne_of hq hD4 (fun z => by cases z)) hq⟩
      have b0 := List.getElem?_eq_getElem l0
      walk_at "rdh"
      refine r_ixL hl5 (atI_nat (j := 0) (by rw [List.getElem?_map, intL_get b0]; rfl)) ?_
      walk_at "rdh"
      refine r_forL ?_
      walk_at "rdh"
      refine ⟨l, rfl, ⟨_, SqL.of hl5⟩, for_list (K := K) (a := l) (xs := (intL (leftL us j)).map V.int) (fun i σ H' => ∃ (b : Nat) (v7' : Option V), σ = [some (.ref p), some (.ref s'), some (.ref r), some (.ref l), some (.ref D), some (.int (0 + (j : Int))), some (.int (b : Int)), v7', v8] ∧ H' = H5 ∧ BestI us j i b) ⟨_, v7, rfl, rfl, ⟨0, b0, Nat.le_refl _⟩, fun m v hm => by omega⟩ (fun i σ H' _ ⟨_, _, _, e, _⟩ => by rw [e]; exact SqL.of hl5) ?_ ?_⟩
      · rintro i x σ H' hx ⟨b, v7', rfl, rfl, best⟩
        obtain ⟨kk, rfl, hk⟩ := intL_at hx
        have kl := left_mem.mp (List.mem_of_getElem? hk)
        obtain ⟨⟨bp, hbp, _⟩, _⟩ := id best
        have bl := left_mem.mp (List.mem_of_getElem? hbp)
        obtain ⟨q1, x1, r1, p1, t1⟩ := rowAt5 kl.1
        obtain ⟨q2, x2, r2, p2, t2⟩ := rowAt5 bl.1
        have d1 := row_lt hst (hb x1 (List.mem_of_getElem? p1))
        have d2 := row_lt hst (hb x2 (List.mem_of_getElem? p2))
        have f1 := Frow p1
        have f2 := Frow p2
        have st2 := best_step best hk
        rw [f1, f2, lt_cross d2.2.1 d1.2.1] at st2
        walk_at "rdh"
        refine r_ixL hr5 (atI_nat r1) ?_
        walk_at "rdh"
        refine r_ixT t1 (atI_nat (j := 1) rfl) ?_
        walk_at "rdh"
        refine r_ixL hr5 (atI_nat r2) ?_
        walk_at "rdh"
        refine r_ixT t2 (atI_nat (j := 2) rfl) ?_
        refine r_I (wide_mul d1.1.2 d2.2.2 (by decide) (by decide) (by decide)) ?_
        walk_at "rdh"
        refine r_ixL hr5 (atI_nat r2) ?_
        walk_at "rdh"
        refine r_ixT t2 (atI_nat (j := 1) rfl) ?_
        walk_at "rdh"
        refine r_ixL hr5 (atI_nat r1) ?_
        walk_at "rdh"
        refine r_ixT t1 (atI_nat (j := 2) rfl) ?_
        refine r_I (wide_mul d2.1.2 d1.2.2 (by decide) (by decide) (by decide)) ?_
        walk_at "rdh"
        refine r_ite (fun c => ?_) (fun c => ?_)
        · have c' := of_decide_eq_true c
          walk_at "rdh"
          exact ⟨kk, _, rfl, rfl, st2.1 c'⟩
        · have c' := of_decide_eq_false c
          walk_at "rdh"
          exact ⟨b, _, rfl, rfl, st2.2 (by omega)⟩
      · rintro σ H' ⟨b, v7', rfl, rfl, best⟩
        rw [List.length_map, intL_len] at best
        obtain ⟨rb, bn⟩ := best_end jn best
        obtain ⟨⟨bp, hbp, _⟩, _⟩ := id best
        obtain ⟨mb, ms⟩ := mid_step bn rb
        walk_at "rdh"
        refine ⟨ty_list hl5, ?_⟩
        walk_at "rdh"
        refine ⟨l, intL (leftL us j), (b : Int), bp, rfl, rfl, hl5, intL_get hbp, fun m hm z => ?_, ?_⟩
        · have hx : ((intL (leftL us j)).map V.int)[m]? = some (.int (b : Int)) := by rw [List.getElem?_map, z]; rfl
          obtain ⟨k', ek, hk'⟩ := intL_at hx
          have : k' = b := by
            have := V.int.inj ek
            omega
          subst this
          exact left_first hbp hm hk'
        · rw [intL_erase, left_erase hbp rb bn]
          have hD6 : upd H' l (.lst ((intL (leftL us (j + 1))).map V.int)) D = some (.lst ((midL us j).map V.int)) := by rw [upd_ne lD.symm]; exact hD5
          have hl6 := upd_same (H := H') (a := l) (o := HO.lst ((intL (leftL us (j + 1))).map V.int))
          have o6 : Off l D H4 (upd H' l (.lst ((intL (leftL us (j + 1))).map V.int))) := fun c o c1 c2 e => by rw [upd_ne c1]; exact o5 c o c1 c2 e
          generalize upd H' l (.lst ((intL (leftL us (j + 1))).map V.int)) = H6 at *
          walk_at "rdh"
          refine r_ixL hD6 (atI_nat (j := b) (by rw [List.getElem?_map, mb]; rfl)) ?_
          walk_at "rdh"
          refine r_setL hD6 (j := b) (ixN_nat (by rw [List.length_map, mid_len]; exact bn)) ?_
          refine ⟨_, _, _, _, rfl, fun c o c1 c2 e => ?_, ?_, ?_, by omega⟩
          · rw [upd_ne c2]; exact o6 c o c1 c2 e
          · rw [upd_ne lD]; exact hl6
          · rw [upd_same, ← ms, List.map_set]
    · rintro σ H5 ⟨v5, v6, v7, v8, rfl, o5, hl5, hD5, _⟩
      rw [mid_end] at hD5
      walk_at "rdh"
      refine ⟨D, _, rfl, .inl ⟨SqL.of hD5, fun t ht => ?_⟩⟩
      refine k t _ (fun c o hc => ?_) upd_same
      have cl : c ≠ l := ne_of_none (sg _ _ (s1 _ _ hc)) hl
      have cD : c ≠ D := ne_of_none (s12 _ _ hc) hD
      have c5 := o5 c o cl cD (s14 _ _ hc)
      rw [upd_ne (ne_of_none c5 ht)]
      exact c5
end
end My

namespace My
open PySem L2
section
variable {P : Program} {w : World} {K : PySem.W.Frag} {mg : Str → Option Value} {base : Heap}
theorem int_of {v : V} {xs : List Int} (h : v ∈ xs.map V.int) : ∃ i, v = .int i ∧ i ∈ xs := by
  obtain ⟨i, hi, rfl⟩ := List.mem_map.mp h
  exact ⟨i, rfl, hi⟩
theorem atI_int {xs : List Int} {r : Int} (h0 : 0 ≤ r) (h1 : r < (xs.length : Int)) : ∃ i, atI (xs.map V.int) r = some (.int i) ∧ i ∈ xs := by
  obtain ⟨n, rfl⟩ := Int.eq_ofNat_of_zero_le h0
  have hn : n < xs.length := by omega
  exact ⟨xs[n], atI_nat (by rw [List.getElem?_map, List.getElem?_eq_getElem hn]; rfl), List.getElem_mem hn⟩
theorem two_at {i j : Int} (k : Bool) : atI [V.int i, .int j] (if k then 1 else 0) = some (.int (if k = true then j else i)) := by cases k <;> rfl
/-- a literal list of whole numbers, and one of it -/
theorem r_pick {K : PySem.W.Frag} {H : Hp} {Q : VK} {l : Addr} {r : Int} (xs : List Int) (h : H l = some (.lst (xs.map V.int))) (h0 : 0 ≤ r) (h1 : r < (xs.length : Int)) (q : ∀ i : Int, i ∈ xs → Q (.int i) H) : rIxL K (.ref l) (.int r) H Q := by
  obtain ⟨i, e, m⟩ := atI_int h0 h1
  exact r_ixL h e (q i m)
theorem r_lcN {σ : L2.St} {H : Hp} {Q : VK} {tr : TA} {te : TE} {g : TG} {tt : TT} {vs : List Nat} (q : tr σ H fun ws H1 => ∃ j : Int, ws = [.int j] ∧ -(2 ^ 62) ≤ j ∧ j < 2 ^ 62 ∧ ∀ D, H1 D = none → ∃ W : Nat → Nat → Hp → Prop, (∃ m, W 0 m (upd H1 D (.lst []))) ∧ ∀ i m H, W i m H →
    ((Itr 0 j.toNat).stop i H ∧ Q (.ref D) H) ∨ ((Itr 0 j.toNat).go i H ∧ ∃ Nx : Hp → Prop, (∀ H', Nx H' → ∃ m', m' < m ∧ W (i + 1) m' H') ∧ ∀ x H', (Itr 0 j.toNat).yld i H x H' → g x (wipe σ vs) H' fun σ2 H2 => wipe σ2 vs = wipe σ vs ∧ tt σ2 H2 fun b H3 =>
      if b = true then te σ2 H3 fun y H4 => ∃ acc, H4 D = some (.lst acc) ∧ acc.length < sizeLine ∧ Nx (upd H4 D (.lst (acc ++ [y]))) else Nx H3)) : tLc (iRng1 tr) g tt te vs σ H Q := q
theorem TupsV.out {α : Type} {f : α → List V} {H H' : Hp} {d : Addr} {vs : List V} {xs : List α} (o : Out d H H') (wl : WellAt H d) (h : TupsV f H vs xs) : TupsV f H' vs xs := ⟨h.1, fun i v hv =>
  let ⟨q, x, e, ex, hq⟩ := h.2 i v hv
  ⟨q, x, e, ex, o.keep wl hq (fun _ z => by cases z)⟩⟩
end
theorem r_pickP {K : PySem.W.Frag} {H : Hp} {Q : VK} {l : Addr} {r : Int} {ps : List (Int × Int)} (h : PairsAt H l ps) (h0 : 0 ≤ r) (h1 : r < (ps.length : Int)) (q : ∀ (a : Addr) (e : Int × Int), e ∈ ps → H a = some (.tup [.int e.1, .int e.2]) → Q (.ref a) H) : rIxL K (.ref l) (.int r) H Q := by
  obtain ⟨vs, hl, ht⟩ := h
  obtain ⟨n, rfl⟩ := Int.eq_ofNat_of_zero_le h0
  have hn : n < vs.length := by rw [ht.1]; omega
  obtain ⟨a, e, ev, ee, ha⟩ := ht.2 n vs[n] (List.getElem?_eq_getElem hn)
  exact r_ixL hl (atI_nat (by rw [List.getElem?_eq_getElem hn, ev])) (q a e (List.mem_of_getElem? ee) ha)
theorem PairsAt.out {H H' : Hp} {d p : Addr} {ps : List (Int × Int)} (o : Out d H H') (wl : WellAt H d) (ne : p ≠ d) (h : PairsAt H p ps) : PairsAt H' p ps := let ⟨vs, a, b⟩ := h; ⟨vs, o _ _ ne a, b.out o wl⟩
end My

namespace My
open PySem L2
def prD (p : Int × Int) : PyData := .tuple [.int p.1, .int p.2]
theorem dp_pairs {K : PySem.W.Frag} {H : Hp} : ∀ {vs : List V} {ps : List (Int × Int)}, TupsV pr H vs ps → DpAll K H vs (ps.map prD)
  | [], [], _ => .nil
  | [], _ :: _, h => by cases h.1
  | _ :: _, [], h => by cases h.1
  | v :: vs, e :: ps, h => by
    obtain ⟨q, x, rfl, ex, hq⟩ := h.2 0 v rfl
    obtain rfl := Option.some.inj ex
    exact .cons (.tup (SqT.of hq) (.cons (.int _) (.cons (.int _) .nil))) (dp_pairs ⟨by simpa using h.1, fun i v hv => h.2 (i + 1) v hv⟩)
theorem lay_pairs : ∀ ps : List (Int × Int), PyData.canLayAll0 (ps.map prD) = true ∧ PyData.depthAll (ps.map prD) ≤ 1
  | [] => ⟨rfl, Nat.zero_le _⟩
  | p :: ps => by
    obtain ⟨a, b⟩ := lay_pairs ps
    constructor
    · show (PyData.canLay0 (prD p) && PyData.canLayAll0 (ps.map prD)) = true
      rw [a]
      simp [prD, PyData.canLay0, PyData.canLayAll0]
    · show max (PyData.depth (prD p)) (PyData.depthAll (ps.map prD)) ≤ 1
      have : PyData.depth (prD p) = 1 := by simp [prD, PyData.depth, PyData.depthAll]
      omega
theorem shaped_pairs (ps : List (Int × Int)) : SeqAt.shaped (.list (ps.map prD)) = true := by
  obtain ⟨a, b⟩ := lay_pairs ps
  have a' : PyData.canLay0 (.list (ps.map prD)) = true := by rw [PyData.canLay0]; exact a
  have b' : PyData.depth (.list (ps.map prD)) ≤ 64 := by rw [PyData.depth]; omega
  unfold SeqAt.shaped
  rw [a', decide_eq_true b']
  rfl
theorem r_nePairs {K : PySem.W.Frag} {H : Hp} {Q : VK} {p q : Addr} {ps : List (Int × Int)} {vs : List V} (h : H p = some (.lst vs)) (t : TupsV pr H vs ps) (h' : H q = some (.lst [])) (k : Q (.bl (!decide (ps = []))) H) : rNeD K (.ref p) (.ref q) H Q :=
  ⟨.list (ps.map prD), .list [], .lst (SqL.of h) (dp_pairs t), .lst (SqL.of h') .nil, shaped_pairs ps, shaped_pairs [], by
    have e : PyData.eqv (.list (ps.map prD)) (.list []) = decide (ps = []) := by
      rw [PyData.eqv]
      cases ps <;> simp [PyData.eqvAll]
    rw [e]; exact k⟩
section
variable {P : Program} {w : World} {K : PySem.W.Frag} {mg : Str → Option Value} {base : Heap}
def spLParts : Sp := fun vs H Q _ => ∃ (d s : Addr) (st sb most : Int), vs = [.ref d, .ref s, .int most] ∧ WellAt H d ∧ H s = some (.tup [.int st, .int sb]) ∧ ((0 < st ∧ st ≤ 10 ^ 6) ∧ (0 < sb ∧ sb ≤ 10 ^ 6)) ∧ (0 < most ∧ most ≤ 12) ∧ ∀ (p : Addr) (ps : List (Int × Int)) (H' : Hp), Out d H H' → WellAt H' d → PairsAt H' p ps → H p = none → (0 < ps.length ∧ ps.length ≤ 12) → (∀ x ∈ ps, OkP x) → Q (.ref p) H'
theorem ok_l_parts (T : Txt w K mg) : FnOk P w K mg base CX0 2 T.f_l_parts T.fd_l_parts ["_law_well_here", "_law_by", "_law_most"] spLParts := by
  refine T.F_l_parts.ok sc_l_parts (fun vs H Q E h => ?_) (fun cdv A outer s H vs Q E hr h => ?_)
  · obtain ⟨d, s, st, sb, most, rfl, _⟩ := h
    rfl
  · obtain ⟨d, s', st, sb, most, rfl, w0, hs, ⟨hst, hsb⟩, hm, k⟩ := h
    refine ⟨_, (pss_cons (ps_set (i := 3) sc_l_parts.nd rfl (Or.inl rfl) (pe_call (ok_l_take T) (hr.mono (by decide)) (by rfl) T.m_l_take T.F_l_take.kp T.b_l_take .nil pass0 (pa_cons (pv 0) (pa_cons pe_int pa_nil))))
 (pss_cons (ps_set (i := 4) sc_l_parts.nd rfl (Or.inl rfl) (pe_lst pa_nil))
 (pss_cons (ps_for PassesOwn.never rfl (pi_range1 rfl T.n_range (pa_cons (pe_op op_add pe_int (pe_call (ok_l_take T) (hr.mono (by decide)) (by rfl) T.m_l_take T.F_l_take.kp T.b_l_take .nil pass0 (pa_cons (pv 0) (pa_cons (pv 2) pa_nil)))) pa_nil)) (pg_name (i := 5) sc_l_parts.nd rfl (Or.inl rfl))
  (pss_cons (ps_set (i := 6) sc_l_parts.nd rfl (Or.inl rfl) (pe_ix ix_list (pe_lst (pa_cons pe_int (pa_cons pe_int (pa_cons pe_int (pa_cons pe_int (pa_cons pe_int (pa_cons pe_int pa_nil))))))) (pe_call (ok_l_take T) (hr.mono (by decide)) (by rfl) T.m_l_take T.F_l_take.kp T.b_l_take .nil pass0 (pa_cons (pv 0) (pa_cons pe_int pa_nil))) (fun _ _ => rfl)))
 (pss_cons (ps_set (i := 7) sc_l_parts.nd rfl (Or.inl rfl) (pe_ix ix_list (pe_lst (pa_cons (pe_call (ok_l_take T) (hr.mono (by decide)) (by rfl) T.m_l_take T.F_l_take.kp T.b_l_take .nil pass0 (pa_cons (pv 0) (pa_cons pe_int pa_nil))) (pa_cons (pe_op op_sub (pe_call (ok_l_take T) (hr.mono (by decide)) (by rfl) T.m_l_take T.F_l_take.kp T.b_l_take .nil pass0 (pa_cons (pv 0) (pa_cons pe_int pa_nil))) pe_int) (pa_cons (pe_op op_mulW (pe_op op_pow pe_int pe_int) (pe_call (ok_l_take T) (hr.mono (by decide)) (by rfl) T.m_l_take T.F_l_take.kp T.b_l_take .nil pass0 (pa_cons (pv 0) (pa_cons pe_int pa_nil)))) (pa_cons pe_int pa_nil))))) (pv 3) (fun _ _ => rfl)))
 (pss_cons (ps_set (i := 8) sc_l_parts.nd rfl (Or.inl rfl) (pe_call (ok_l_take T) (hr.mono (by decide)) (by rfl) T.m_l_take T.F_l_take.kp T.b_l_take .nil pass0 (pa_cons (pv 0) (pa_cons (pv 6) pa_nil))))
 (pss_cons (ps_set (i := 9) sc_l_parts.nd rfl (Or.inl rfl) (pe_tup (pa_cons (pe_op op_mulW (pe_op op_add (pe_op op_mulW (pv 7) (pv 6)) (pv 8)) (pe_ix ix_tup (pv 1) pe_int (fun _ _ => rfl))) (pa_cons (pe_op op_mulW (pv 6) (pe_ix ix_tup (pv 1) pe_int (fun _ _ => rfl))) pa_nil))))
 (C8.pss_cut (ps_if (PW.pt (pw_and (pt_cmpR (op_neD hr.units) (pv 4) (pe_lst pa_nil) (nomark _)) (pw_and1 (pt_cmpR op_eq (pe_call (ok_l_take T) (hr.mono (by decide)) (by rfl) T.m_l_take T.F_l_take.kp T.b_l_take .nil pass0 (pa_cons (pv 0) (pa_cons pe_int pa_nil))) pe_int (nomark _)))))
  (pss_one (ps_set (i := 9) sc_l_parts.nd rfl (Or.inl rfl) (pe_ix ix_list (pv 4) (pe_call (ok_l_take T) (hr.mono (by decide)) (by rfl) T.m_l_take T.F_l_take.kp T.b_l_take .nil pass0 (pa_cons (pv 0) (pa_cons (pe_callB call_len_seq (by rfl) T.n_len PySem.boot_len (pa_cons (pv 4) pa_nil)) pa_nil))) (fun _ _ => rfl))))
  pss_nil)
 (pss_one (ps_expr (pe_bm PySem.F.plainAttrs_list PySem.F.slot_list_append PySem.F.type_list_append mt_append (pv 4) (pa_cons (pv 9) pa_nil))))))))))
 (pss_one (ps_ret (pv 4)))))), ?_⟩
    have E6' : (10 : Int) ^ 6 = 1000000 := rfl
    have E6 : (10 : Int) ^ (6 : Int).toNat = 1000000 := rfl
    rw [E6'] at hst hsb
    walk_at "rdh"
    refine rd_take w0 (by decide) (by decide) fun way H1 o1 w1 wa0 wa1 => ?_
    walk_at "rdh"
    refine r_new (by show 0 ≤ 1000; decide) fun D hD => ?_
    have sD := Same.new (o := .lst []) hD
    have Dd : D ≠ d := well_ne w1 hD
    walk_at "rdh"
    refine r_rng1 ?_
    walk_at "rdh"
    refine rd_take (w1.same sD) hm.1 (Nat.lt_of_lt_of_le (show most.natAbs < 2 ^ 4 by omega) (Nat.pow_le_pow_right (by decide) (by decide))) fun n H2 o2 w2 n0 n1 => ?_
    have oA : Out d H H2 := (o1.trans (Out.of sD)).trans o2
    have hD0 : H D = none := by
      cases e : H D with
      | none => rfl
      | some o => rw [o1 D o Dd e] at hD; cases hD
    walk_at "rdh"
    refine ⟨_, rfl, by omega, by omega, ?_⟩
    refine for_range (lo := 0) (n := (1 + n).toNat) (fun i σ H' => ∃ (v5 v6 v7 v8 v9 : Option V) (ts : List V) (ps : List (Int × Int)), σ = [some (.ref d), some (.ref s'), some (.int most), some (.int way), some (.ref D), v5, v6, v7, v8, v9] ∧ Out d H H' ∧ WellAt H' d ∧ H' D = some (.lst ts) ∧ TupsV pr H' ts ps ∧ ps.length = i ∧ (∀ x ∈ ps, OkP x)) ⟨none, none, none, none, none, [], [], rfl, oA, w2, o2 D _ Dd upd_same, TupsV.nil, rfl, (fun x hx => absurd hx List.not_mem_nil)⟩ ?_ ?_
    · rintro i σ H3 hi ⟨v5, v6, v7, v8, v9, ts, ps, rfl, o3, w3, h3, t3, pl, okp⟩
      have i12 : i < 12 := by omega
      have lts : ts.length = i := by rw [t3.1, pl]
      walk_at "rdh"
      refine r_new (by show 6 ≤ 1000; decide) fun l1 hl1 => ?_
      have sl1 := Same.new (o := .lst [.int 1, .int 2, .int 3, .int 10, .int 1000, .int 12]) hl1
      walk_at "rdh"
      refine rd_take (w3.same sl1) (by decide) (by decide) fun e1 H4 o4 w4 e10 e11 => ?_
      refine r_pick [1, 2, 3, 10, 1000, 12] (o4 l1 _ (well_ne w3 hl1) upd_same) e10 e11 fun dz hdz => ?_
      have dzb : 1 ≤ dz ∧ dz ≤ 1000 := by
        simp only [List.mem_cons, List.not_mem_nil, or_false] at hdz
        omega
      walk_at "rdh"
      refine rd_take w4 (by decide) (by decide) fun c1 H5 o5 w5 c10 c11 => ?_
      walk_at "rdh"
      refine rd_take w5 (by decide) (by decide) fun c2 H6 o6 w6 c20 c21 => ?_
      walk_at "rdh"
      rw [E6]
      refine rd_take w6 (by decide) (by decide) fun c3 H7 o7 w7 c30 c31 => ?_
      refine r_I (wide_mul (a := 20) (b := 4) (by decide) (by omega) (by decide) (by decide) (by decide)) ?_
      walk_at "rdh"
      refine r_new (by show 4 ≤ 1000; decide) fun l2 hl2 => ?_
      have sl2 := Same.new (o := .lst [.int c1, .int (c2 - 1000), .int (1000000 * c3), .int 0]) hl2
      walk_at "rdh"
      refine r_pick [c1, c2 - 1000, 1000000 * c3, 0] upd_same wa0 wa1 fun ct hct => ?_
      have ctb : ct.natAbs < 2 ^ 24 := by
        simp only [List.mem_cons, List.not_mem_nil, or_false] at hct
        omega
      walk_at "rdh"
      refine rd_take (w7.same sl2) (by omega) (Nat.lt_of_lt_of_le (show dz.natAbs < 2 ^ 10 by omega) (Nat.pow_le_pow_right (by decide) (by decide))) fun rs H8 o8 w8 rs0 rs1 => ?_
      have oB : Out d H3 H8 := (((Out.of sl1).trans o4).trans ((o5.trans o6).trans o7)).trans ((Out.of sl2).trans o8)
      have hs8 := oB.keep w3 (o3.keep w0 hs (fun _ z => by cases z)) (fun _ z => by cases z)
      walk_at "rdh"
      refine r_I (wide_mul (a := 24) (b := 10) ctb (by omega) (by decide) (by decide) (by decide)) ?_
      walk_at "rdh"
      refine r_ixT hs8 (atI_nat (j := 0) rfl) ?_
      have m1 := natAbs_mul_lt (a := ct) (b := dz) (m := 24) (n := 10) (k := 34) ctb (by omega) (by decide)
      have m2 : (ct * dz + rs).natAbs < 2 ^ 35 := by omega
      refine r_I (wide_mul (a := 35) (b := 20) m2 (by omega) (by decide) (by decide) (by decide)) ?_
      walk_at "rdh"
      refine r_ixT hs8 (atI_nat (j := 1) rfl) ?_
      refine r_I (wide_mul (a := 10) (b := 20) (by omega) (by omega) (by decide) (by decide) (by decide)) ?_
      walk_at "rdh"
      refine r_new (by show 2 ≤ 1000; decide) fun z hz => ?_
      have sz := Same.new (o := .tup [.int ((ct * dz + rs) * st), .int (dz * sb)]) hz
      have okz : OkP ((ct * dz + rs) * st, dz * sb) := by
        have q1 := natAbs_mul_lt (a := ct * dz + rs) (b := st) (m := 35) (n := 20) (k := 55) m2 (by omega) (by decide)
        have q2 := natAbs_mul_lt (a := dz) (b := sb) (m := 10) (n := 20) (k := 30) (by omega) (by omega) (by decide)
        have q3 : 0 < dz * sb := Int.mul_pos (by omega) hsb.1
        refine ⟨⟨q3, ?_⟩, Nat.lt_of_lt_of_le q1 (Nat.pow_le_pow_right (by decide) (by decide))⟩
        show dz * sb < 2 ^ 40
        omega
      have ez : upd H8 z (.tup [.int ((ct * dz + rs) * st), .int (dz * sb)]) z = some (.tup [.int ((ct * dz + rs) * st), .int (dz * sb)]) := upd_same
      have oC := oB.trans (Out.of sz)
      have w9 := w8.same sz
      generalize upd H8 z (.tup [.int ((ct * dz + rs) * st), .int (dz * sb)]) = H9 at *
      have h9 := oC D _ Dd h3
      have t9 := t3.out oC w3
      walk_at "rdh"
      refine r_cut (fun σ' H' => ∃ (v : Addr) (e : Int × Int), σ' = [some (.ref d), some (.ref s'), some (.int most), some (.int way), some (.ref D), some (.int (0 + (i : Int))), some (.int dz), some (.int ct), some (.int rs), some (.ref v)] ∧ Out d H3 H' ∧ WellAt H' d ∧ H' v = some (.tup (pr e)) ∧ OkP e) ?_ ?_
      · walk_at "rdh"
        refine r_new (by show 0 ≤ 1000; decide) fun g hg => ?_
        have sg := Same.new (o := .lst []) hg
        refine r_nePairs (sg _ _ h9) (t9.same sg) upd_same ?_
        walk_at "rdh"
        have w10 := w9.same sg
        have oD := oC.trans (Out.of sg)
        have ezg := sg _ _ ez
        have h10 := sg _ _ h9
        generalize upd H9 g (.lst []) = H10 at *
        refine r_ite (fun ne => ?_) (fun ne => ?_)
        · have ne' : ps ≠ [] := by simpa using ne
          have pp : 0 < ps.length := List.length_pos_iff.mpr ne'
          walk_at "rdh"
          refine rd_take w10 (by decide) (by decide) fun f1 H11 o11 w11 f10 f11 => ?_
          walk_at "rdh"
          refine r_ite (fun eq => ?_) (fun eq => ?_)
          · walk_at "rdh"
            have h11 := o11 D _ Dd h10
            refine ⟨D, ts, rfl, .inl (SqL.of h11), ?_⟩
            walk_at "rdh"
            refine rd_take w11 (by rw [lts]; omega) (Nat.lt_of_lt_of_le (show ((ts.length : Nat) : Int).natAbs < 2 ^ 4 by rw [lts]; omega) (Nat.pow_le_pow_right (by decide) (by decide))) fun at_ H12 o12 w12 at0 at1 => ?_
            have oE := (oD.trans o11).trans o12
            refine r_pickP (ps := ps) ⟨ts, oE D _ Dd h3, t3.out oE w3⟩ at0 (by rw [pl, ← lts]; exact at1) fun v e me hv => ?_
            walk_at "rdh"
            exact ⟨v, e, rfl, oE, w12, hv, okp e me⟩
          · walk_at "rdh"
            exact ⟨z, _, rfl, oD.trans o11, w11, o11.keep w10 ezg (fun _ q => by cases q), okz⟩
        · walk_at "rdh"
          exact ⟨z, _, rfl, oD, w10, ezg, okz⟩
      rintro σ' H10 ⟨v, e, rfl, oE, w10, hv, oke⟩
      have h10 := oE D _ Dd h3
      have t10 := t3.out oE w3
      walk_at "rdh"
      refine ⟨ty_list h10, ?_⟩
      walk_at "rdh"
      refine r_append h10 (by omega) ?_
      walk_at "rdh"
      refine ⟨_, _, _, _, _, ts ++ [.ref v], ps ++ [e], rfl, fun c o c1 q => ?_, ?_, upd_same, TupsV.put h10 (t10.push hv), by rw [List.length_append, pl]; rfl, fun x hx => ?_⟩
      · rw [upd_ne (ne_of_none q hD0)]
        exact (o3.trans oE) c o c1 q
      · obtain ⟨a, b, n, hw⟩ := w10
        exact ⟨a, b, n, by rw [upd_ne Dd.symm]; exact hw⟩
      · rcases List.mem_append.mp hx with hx | hx
        · exact okp x hx
        · rw [List.mem_singleton.mp hx]; exact oke
    · rintro σ H3 ⟨v5, v6, v7, v8, v9, ts, ps, rfl, o3, w3, h3, t3, pl, okp⟩
      walk_at "rdh"
      exact k D ps H3 o3 w3 ⟨ts, h3, t3⟩ hD0 (by omega) okp
end
end My

namespace My
open PySem L2
def farI (r : Int × Int × Int) (wq : Rat) : Int := r.2.1 * (wq.den : Int) - wq.num * r.2.2
/-- the law's own look at a count: a fault -/
def faultB (r : Int × Int × Int) (c : Int) (wq : Rat) : Bool := (decide (c = r.1) && (decide (0 < r.2.1) && decide (0 < farI r wq))) || (decide (c = r.1 + 1) && (decide (r.2.1 = 0) || decide (farI r wq < 0)))
def nearI (r : Int × Int × Int) (c : Int) : Bool := decide (c = r.1) || decide (c = r.1 + 1)
theorem look_put {st sb : Int} (hst : Stp st sb) {e : Int × Int} (he : OkP e) (c : Int) (wq : Rat) : putB (uQ st sb e) c wq = (!faultB (rowQ st sb e) c wq && nearI (rowQ st sb e) c) := by
  have f := fl_row hst he
  have p := part_row hst he
  have d := row_lt hst he
  have g := part_ge (uQ st sb e)
  have l := part_lt (uQ st sb e)
  have dw : (0 : Int) < (wq.den : Int) := by have := wq.den_pos; omega
  have ew : Rat.divInt wq.num (wq.den : Int) = wq := Rat.num_divInt_den wq
  have l1 := lt_cross (a := wq.num) (b := (wq.den : Int)) (c := (rowQ st sb e).2.1) (d := (rowQ st sb e).2.2) dw d.2.1
  have l2 := lt_cross (a := (rowQ st sb e).2.1) (b := (rowQ st sb e).2.2) (c := wq.num) (d := (wq.den : Int)) d.2.1 dw
  rw [ew, ← p] at l1 l2
  have pz := div_pos_iff (a := (rowQ st sb e).2.1) (b := (rowQ st sb e).2.2) d.2.1
  rw [← p] at pz
  have r0 := d.1.1
  have u_eq : uQ st sb e = ((uQ st sb e).floor : Rat) + partQ (uQ st sb e) := by unfold partQ; grind
  rw [f] at u_eq
  have fI : (0 < farI (rowQ st sb e) wq ↔ wq < partQ (uQ st sb e)) ∧ (farI (rowQ st sb e) wq < 0 ↔ partQ (uQ st sb e) < wq) := by
    unfold farI
    constructor
    · rw [l1]; omega
    · rw [l2]; omega
  unfold putB faultB nearI
  generalize farI (rowQ st sb e) wq = fa at *
  generalize partQ (uQ st sb e) = q at *
  generalize uQ st sb e = u at *
  generalize rowQ st sb e = row at *
  subst u_eq
  obtain ⟨fl, re, un⟩ := row
  dsimp only at *
  by_cases c0 : c = fl
  · subst c0
    have e1 : ((c : Int) : Rat) + q - ((c : Int) : Rat) = q := by grind
    rw [e1]
    have n1 : ¬ c = c + 1 := by omega
    by_cases z : re = 0
    · have qz : q = 0 := by
        have : ¬ 0 < q := fun h => by have := pz.mp h; omega
        grind
      subst qz
      have z0 : ¬ (0 : Int) < re := by omega
      simp [z, n1]
    · have zp : 0 < re := by omega
      have qp := pz.mpr zp
      rw [if_neg (num_ne (by grind)), if_pos (num_posQ.mpr qp)]
      by_cases h : 0 < fa
      · have := fI.1.mp h
        simp [l, this, zp, h, n1]
      · have : ¬ wq < q := fun x => h (fI.1.mpr x)
        simp [l, this, zp, h, n1]
  · by_cases c1 : c = fl + 1
    · subst c1
      have e1 : ((fl : Int) : Rat) + q - ((fl + 1 : Int) : Rat) = q - 1 := by rw [Rat.intCast_add]; show (fl : Rat) + q - ((fl : Rat) + 1) = _; grind
      have e2 : q - 1 + 1 = q := by grind
      rw [e1, e2, if_neg (num_ne (by grind)), if_neg (fun z => by have := num_posQ.mp z; grind)]
      have n2 : ¬ fl + 1 = fl := by omega
      by_cases z : re = 0
      · have qz : ¬ 0 < q.num := fun h => by have := pz.mp (num_posQ.mp h); omega
        simp [qz, z]
      · have qp : 0 < q.num := num_posQ.mpr (pz.mpr (by omega))
        by_cases h : fa < 0
        · have := fI.2.mp h
          simp [qp, this, h]
        · have : ¬ q < wq := fun x => h (fI.2.mpr x)
          simp [qp, this, z, h, n2]
    · have r2 : ((if (((fl : Int) : Rat) + q - ((c : Int) : Rat)).num = 0 then true
  else if 0 < (((fl : Int) : Rat) + q - ((c : Int) : Rat)).num then decide (((fl : Int) : Rat) + q - ((c : Int) : Rat) < 1) && !decide (wq < ((fl : Int) : Rat) + q - ((c : Int) : Rat))
  else decide (0 < (((fl : Int) : Rat) + q - ((c : Int) : Rat) + 1).num) && !decide (((fl : Int) : Rat) + q - ((c : Int) : Rat) + 1 < wq)) = false) := by
        by_cases lo : c < fl
        · have h1 : ((c + 1 : Int) : Rat) ≤ ((fl : Int) : Rat) := Rat.intCast_le_intCast.mpr (by omega)
          rw [Rat.intCast_add] at h1
          have h1' : (c : Rat) + 1 ≤ (fl : Rat) := h1
          rw [if_neg (num_ne (by grind)), if_pos (num_posQ.mpr (by grind)), decide_eq_false (by grind), Bool.false_and]
        · have h1 : ((fl + 2 : Int) : Rat) ≤ ((c : Int) : Rat) := Rat.intCast_le_intCast.mpr (by omega)
          rw [Rat.intCast_add] at h1
          have h1' : (fl : Rat) + 2 ≤ (c : Rat) := h1
          rw [if_neg (num_ne (by grind)), if_neg (fun z => by have := num_posQ.mp z; grind), decide_eq_false (fun z => by have := num_posQ.mp z; grind), Bool.false_and]
      rw [r2]
      simp [c0, c1]
section
variable {P : Program} {w : World} {K : PySem.W.Frag} {mg : Str → Option Value} {base : Heap}
def inR (wq : Rat) : Bool := decide (0 ≤ wq.num) && decide (wq.num ≤ (wq.den : Int))
def spLHoldsG (C : Addr) : Sp := fun vs H Q _ => ∃ (p s t p2 q : Addr) (ps : List (Int × Int)) (st sb : Int) (cs : List Int) (wq : Rat), vs = [.ref p, .ref s, .ref t] ∧ PairsAt H p ps ∧ (H s = some (.tup [.int st, .int sb]) ∧ Stp st sb) ∧ (∀ x ∈ ps, OkP x) ∧ ps.length ≤ 40 ∧
  (H t = some (.tup [.ref p2, .ref q]) ∧ H p2 = some (.tup (cs.map V.int)) ∧ NumAt C H q wq) ∧ cs.length = ps.length ∧ Bd 1000 wq ∧ ∀ (H' : Hp), Same H H' → Q (.bl (inR wq && (allPut (ps.map (uQ st sb)) cs wq && decide (cs.sum = takenQ .heven (sumQ (ps.map (uQ st sb))))))) H'
theorem ok_l_holds (T : Txt w K mg) : FnOk P w K mg base CX0 2 T.f_l_holds T.fd_l_holds ["_law_parts_here", "_law_by", "_law_thing"] (spLHoldsG T.C_Number) := by
  refine T.F_l_holds.ok sc_l_holds (fun vs H Q E h => ?_) (fun cdv A outer s H vs Q E hr h => ?_)
  · obtain ⟨p, s, t, p2, q, ps, st, sb, cs, wq, rfl, _⟩ := h
    rfl
  · obtain ⟨p, s', t, p2, q, ps, st, sb, cs, wq, rfl, hp, ⟨hs, hst⟩, hb, l40, ⟨ht, hp2, hq⟩, cl, wb, k⟩ := h
    refine ⟨_, (pss_cons (ps_if (PW.pt (pw_or (pt_not (pt_val (pe_callB call_isi (by rfl) T.n_isinstance (by decide +kernel) (pa_cons (pv 2) (pa_cons (pe_bltn (v := .ty "tuple") (by rfl) T.n_tuple (by decide +kernel) rfl) pa_nil))))) (pw_or (pt_cmpR op_ne (pe_callB call_len_seq (by rfl) T.n_len PySem.boot_len (pa_cons (pv 2) pa_nil)) pe_int (nomark _)) (pw_or1 (pt_not (pt_val (pe_callB call_isi (by rfl) T.n_isinstance (by decide +kernel) (pa_cons (pe_ix ix_tup (pv 2) pe_int (fun _ _ => rfl)) (pa_cons (pe_bltn (v := .ty "tuple") (by rfl) T.n_tuple (by decide +kernel) rfl) pa_nil)))))))))
  (pss_one (ps_ret pe_bl))
  pss_nil)
 (pss_cons (ps_asg (pv 2) (pg_tup rfl (pgs_cons (pg_name (i := 3) sc_l_holds.nd rfl (Or.inl rfl)) (pgs_cons (pg_name (i := 4) sc_l_holds.nd rfl (Or.inl rfl)) pgs_nil))))
 (pss_cons (ps_if (PW.pt (pw_or (pt_not (pt_val (pe_callB call_isi (by rfl) T.n_isinstance (by decide +kernel) (pa_cons (pv 4) (pa_cons (pe_glob (v := .ref T.C_Number) (by rfl) T.m_Number rfl) pa_nil))))) (pw_or (pt_not (pt_chain op_le op_le pe_int (pe_fld (pv 4) rfl) (pe_fld (pv 4) rfl))) (pw_or1 (pt_cmpR op_ne (pe_callB call_len_seq (by rfl) T.n_len PySem.boot_len (pa_cons (pv 3) pa_nil)) (pe_callB call_len_seq (by rfl) T.n_len PySem.boot_len (pa_cons (pv 0) pa_nil)) (nomark _))))))
  (pss_one (ps_ret pe_bl))
  pss_nil)
 (pss_cons (ps_if (pt_cmpR (op_neD hr.units) (pe_lc (own := [("_law_one", 5)]) (g := gName 5) rfl sc_l_holds.nd (pi_tup (pv 3)) (blkOk_by (own := [("_law_one", 5)]) (N := ["_law_parts_here", "_law_by", "_law_thing", "_law_counts_here", "_law_paper_here", "_law_one", "_law_row", "_law_far"]) (sc := defScope s_l_holds) (by decide +kernel)) (fun _ _ _ _ _ => pg_name (i := 5) sc_l_holds.nd rfl (Or.inl rfl)) (fun _ _ _ _ _ => (pts_one (PW.pt (pw_or (pt_not (pt_val (pe_callB (call_isiK (K0 := K) rfl) (by rfl) T.n_isinstance (by decide +kernel) (pa_cons (pv 5) (pa_cons (pe_bltn (v := .ty "int") (by rfl) T.n_int (by decide +kernel) rfl) pa_nil))))) (pw_or1 (pt_val (pe_callB (call_isiK (K0 := K) rfl) (by rfl) T.n_isinstance (by decide +kernel) (pa_cons (pv 5) (pa_cons (pe_bltn (v := .ty "bool") (by rfl) T.n_bool (by decide +kernel) rfl) pa_nil))))))))) (fun _ _ _ _ _ => (pv 5))) (pe_lst pa_nil) (nomark _))
  (pss_one (ps_ret pe_bl))
  pss_nil)
 (pss_cons (ps_for PassesOwn.never rfl (pi_zipM (by rfl) T.n_zip (pa_cons (pv 3) (pa_cons (pe_call (ok_l_beyond T) (hr.mono (by decide)) (by rfl) T.m_l_beyond T.F_l_beyond.kp T.b_l_beyond .nil pass0 (pa_cons (pv 0) (pa_cons (pv 1) pa_nil))) pa_nil))) (pg_tup rfl (pgs_cons (pg_name (i := 5) sc_l_holds.nd rfl (Or.inl rfl)) (pgs_cons (pg_name (i := 6) sc_l_holds.nd rfl (Or.inl rfl)) pgs_nil)))
  (pss_cons (ps_set (i := 7) sc_l_holds.nd rfl (Or.inl rfl) (pe_op op_sub (pe_op op_mulW (pe_ix ix_tup (pv 6) pe_int (fun _ _ => rfl)) (pe_fld (pv 4) rfl)) (pe_op op_mulW (pe_fld (pv 4) rfl) (pe_ix ix_tup (pv 6) pe_int (fun _ _ => rfl)))))
 (C8.pss_cut (ps_if (PW.pt (pw_or (PW.pt (pw_and (pt_cmpR op_eq (pv 5) (pe_ix ix_tup (pv 6) pe_int (fun _ _ => rfl)) (nomark _)) (pw_and (pt_cmpR op_gt (pe_ix ix_tup (pv 6) pe_int (fun _ _ => rfl)) pe_int (nomark _)) (pw_and1 (pt_cmpR op_gt (pv 7) pe_int (nomark _)))))) (pw_or1 (PW.pt (pw_and (pt_cmpR op_eq (pv 5) (pe_op op_add (pe_ix ix_tup (pv 6) pe_int (fun _ _ => rfl)) pe_int) (nomark _)) (pw_and1 (PW.pt (pw_or (pt_cmpR op_eq (pe_ix ix_tup (pv 6) pe_int (fun _ _ => rfl)) pe_int (nomark _)) (pw_or1 (pt_cmpR op_lt (pv 7) pe_int (nomark _)))))))))))
  (pss_one (ps_ret pe_bl))
  pss_nil)
 (pss_one (ps_if (pt_cmpR op_notIn_seq (pv 5) (pe_tup (pa_cons (pe_ix ix_tup (pv 6) pe_int (fun _ _ => rfl)) (pa_cons (pe_op op_add (pe_ix ix_tup (pv 6) pe_int (fun _ _ => rfl)) pe_int) pa_nil))) (by rfl))
  (pss_one (ps_ret pe_bl))
  pss_nil)))))
 (pss_one (ps_ret (pe_cmpR op_eq (pe_callB (cr_sumT rfl) (by rfl) T.n_sum (by decide +kernel) (pa_cons (pv 3) pa_nil)) (pe_call (ok_l_steps T) (hr.mono (by decide)) (by rfl) T.m_l_steps T.F_l_steps.kp T.b_l_steps .nil pass0 (pa_cons (pv 0) (pa_cons (pv 1) pa_nil))) (nomark _))))))))), ?_⟩
    have cN := T.c_Number
    have nT := T.n_Number_top
    have nB := T.n_Number_bottom
    obtain ⟨pv, hpv, hpt⟩ := id hp
    have pl := hpt.1
    walk_at "rdh"
    refine tup_ty ht ?_
    walk_at "rdh"
    refine r_iteF rfl ?_
    walk_at "rdh"
    refine ⟨t, _, rfl, .inr (SqT.of ht), ?_⟩
    walk_at "rdh"
    refine r_iteF (by simp) ?_
    walk_at "rdh"
    refine r_ixT ht (atI_nat (j := 0) rfl) ?_
    walk_at "rdh"
    refine tup_ty hp2 ?_
    walk_at "rdh"
    refine r_iteF rfl ?_
    walk_at "rdh"
    refine r_gTup ht rfl ?_
    walk_at "rdh"
    refine isi_num T hq ?_
    walk_at "rdh"
    refine r_iteF rfl ?_
    obtain ⟨dq, eq0⟩ := id hq
    unfold inR at k
    walk_at "rdh"
    refine r_chainQ ?_
    walk_at "rdf"
    refine r_ite (fun w0 => ?_) (fun w0 => ?_)
    rotate_left
    · rw [w0, Bool.false_and, Bool.false_and] at k
      walk_at "rdh"
      refine r_iteT rfl ?_
      walk_at "rdh"
      exact k _ (Same.refl _)
    walk_at "rdf"
    rw [w0, Bool.true_and] at k
    refine r_ite (fun w1 => ?_) (fun w1 => ?_)
    · have w1' : decide (wq.num ≤ (wq.den : Int)) = false := by rw [Bool.not_eq_true'] at w1; exact w1
      rw [w1', Bool.false_and] at k
      walk_at "rdh"
      exact k _ (Same.refl _)
    have w1' : decide (wq.num ≤ (wq.den : Int)) = true := by rw [Bool.not_eq_false'] at w1; exact w1
    rw [w1', Bool.true_and] at k
    walk_at "rdh"
    refine ⟨p2, _, rfl, .inr (SqT.of hp2), ?_⟩
    walk_at "rdh"
    refine ⟨p, pv, rfl, .inl (SqL.of hpv), ?_⟩
    walk_at "rdh"
    refine r_iteF (by rw [List.length_map, cl, pl]; simp) ?_
    walk_at "rdh"
    refine r_lcT ?_
    walk_at "rdh"
    refine ⟨p2, rfl, ⟨_, SqT.of hp2⟩, fun D hD => ?_⟩
    refine lcT_of (K := K) (zs := cs) (el := V.int) (e := V.int) (f := fun _ => false) (SqT.of hp2) (by omega) hD (i := 5) (fun z H1 R _ h => ?_) (fun v => rfl) (fun z H1 R _ _ h => ?_) (fun z H1 R _ _ s1 h => ?_) fun H1 s1 hD1 => ?_
    · walk_at "rdh"
      exact h
    · walk_at "rdh"
      refine whole_int ?_
      walk_at "rdh"
      refine r_iteF rfl ?_
      walk_at "rdh"
      refine whole_nbl ?_
      walk_at "rdh"
      exact h H1 (Same.refl _)
    · walk_at "rdh"
      exact h H1 (Same.refl _)
    have fe : cs.filter (fun _ => false) = [] := by simp
    rw [fe] at hD1
    walk_at "rdh"
    refine r_new (by show 0 ≤ 1000; decide) fun g hg => ?_
    have sg := Same.new (o := .lst []) hg
    refine r_neInts (xs := []) (ys := []) (SqL.of (sg _ _ hD1)) (SqL.of upd_same) ?_
    have s2 := s1.trans sg
    generalize upd H1 g (.lst []) = H2 at *
    walk_at "rdh"
    refine r_iteF rfl ?_
    walk_at "rdh"
    refine r_forZM ?_
    walk_at "rdh"
    refine ⟨p, s', ps, st, sb, rfl, hp.same s2, ⟨s2 _ _ hs, hst⟩, hb, l40, fun r H3 s3 ⟨rv, hrv, rt⟩ => ?_⟩
    have s13 := s2.trans s3
    have rl : rv.length = ps.length := by rw [rt.1, List.length_map]
    walk_at "rdh"
    refine ⟨p2, r, _, rv, rfl, SqT.of (s13 _ _ hp2), SqL.of hrv, ?_⟩
    refine for_zipM (K := K) (by rw [List.length_map, cl, rl]) (fun i σ H' => ∃ v5 v6 v7 : Option V, σ = [some (.ref p), some (.ref s'), some (.ref t), some (.ref p2), some (.ref q), v5, v6, v7] ∧ Same H3 H' ∧ ∀ (j : Nat) (u : Rat) (c : Int), j < i → (ps.map (uQ st sb))[j]? = some u → cs[j]? = some c → putB u c wq = true) ⟨none, none, none, rfl, Same.refl _, fun j u c hj => by omega⟩ (fun i σ H' ⟨_, _, _, _, s4, _⟩ => ⟨SqT.of (s4 _ _ (s13 _ _ hp2)), SqL.of (s4 _ _ hrv)⟩) ?_ ?_
    · rintro i x z a σ H4 hx hz ⟨v5, v6, v7, rfl, s4, put⟩ ha
      obtain ⟨c, rfl, ec⟩ : ∃ c : Int, x = .int c ∧ cs[i]? = some c := by
        rw [List.getElem?_map] at hx
        cases h : cs[i]? with
        | none => rw [h] at hx; cases hx
        | some c => rw [h] at hx; exact ⟨c, (Option.some.inj hx).symm, rfl⟩
      obtain ⟨qr, xr, rfl, ex, hqr⟩ := rt.2 i z hz
      obtain ⟨e, ee, rfl⟩ : ∃ e, ps[i]? = some e ∧ rowQ st sb e = xr := by
        rw [List.getElem?_map] at ex
        cases h : ps[i]? with
        | none => rw [h] at ex; cases ex
        | some e => rw [h] at ex; exact ⟨e, rfl, Option.some.inj ex⟩
      have oe := hb e (List.mem_of_getElem? ee)
      have eu : (ps.map (uQ st sb))[i]? = some (uQ st sb e) := by rw [List.getElem?_map, ee]; rfl
      have lp := look_put hst oe c wq
      have d := row_lt hst oe
      have sa := Same.new (o := .tup [.int c, .ref qr]) ha
      refine r_gTup upd_same rfl ?_
      have s5 := s4.trans sa
      generalize upd H4 a (.tup [.int c, .ref qr]) = H5 at *
      have hq5 := s5 _ _ hqr
      have eq5 := s5 _ _ (s13 _ _ eq0)
      generalize rowQ st sb e = row at *
      have db : ((wq.den : Nat) : Int).natAbs < 2 ^ 1000 := by rw [Int.natAbs_natCast]; exact wb.2
      have bad : putB (uQ st sb e) c wq = false → ∀ H' : Hp, Same H5 H' → Q (.bl false) H' := fun z H' s' => by
        have := k H' ((s13.trans s5).trans s')
        rw [put_not eu ec z, Bool.false_and] at this
        exact this
      walk_at "rdh"
      refine r_ixT hq5 (atI_nat (j := 1) rfl) ?_
      walk_at "rdf"
      refine r_I (wide_mul d.1.2 db (by decide) (by decide) (by decide)) ?_
      walk_at "rdf"
      refine r_ixT hq5 (atI_nat (j := 2) rfl) ?_
      refine r_I (wide_mul wb.1 d.2.2 (by decide) (by decide) (by decide)) ?_
      walk_at "rdh"
      have faE : row.2.1 * (wq.den : Int) - wq.num * row.2.2 = farI row wq := rfl
      rw [faE]
      refine r_cut (fun σ' H' => σ' = [some (.ref p), some (.ref s'), some (.ref t), some (.ref p2), some (.ref q), some (.int c), some (.ref qr), some (.int (farI row wq))] ∧ H' = H5 ∧ faultB row c wq = false) ?_ ?_
      · have two : decide (c = row.1) = true → decide (c = row.1 + 1) = false := fun z => by
          have := of_decide_eq_true z
          exact decide_eq_false (by omega)
        unfold faultB at lp ⊢
        walk_at "rdh"
        refine r_ixT hq5 (atI_nat (j := 0) rfl) ?_
        walk_at "rdh"
        refine r_ite (fun b1 => ?_) (fun b1 => ?_)
        · have b4 := two b1
          rw [b1, b4] at lp ⊢
          walk_at "rdh"
          refine r_ixT hq5 (atI_nat (j := 1) rfl) ?_
          walk_at "rdh"
          refine r_ite (fun b2 => ?_) (fun b2 => ?_)
          · rw [b2] at lp ⊢
            walk_at "rdh"
            refine r_ite (fun b3 => ?_) (fun b3 => ?_)
            · rw [b3] at lp
              refine r_iteT rfl ?_
              walk_at "rdh"
              exact bad (by rw [lp]; rfl) _ (Same.refl _)
            · rw [b3]
              walk_at "rdh"
              refine r_ixT hq5 (atI_nat (j := 0) rfl) ?_
              walk_at "rdh"
              refine r_iteF b4 ?_
              refine r_iteF rfl ?_
              walk_at "rdh"
              exact ⟨rfl, rfl, rfl⟩
          · rw [b2]
            refine r_iteF rfl ?_
            walk_at "rdh"
            refine r_ixT hq5 (atI_nat (j := 0) rfl) ?_
            walk_at "rdh"
            refine r_iteF b4 ?_
            refine r_iteF rfl ?_
            walk_at "rdh"
            exact ⟨rfl, rfl, rfl⟩
        · rw [b1] at lp ⊢
          refine r_iteF rfl ?_
          walk_at "rdh"
          refine r_ixT hq5 (atI_nat (j := 0) rfl) ?_
          walk_at "rdh"
          refine r_ite (fun b4 => ?_) (fun b4 => ?_)
          · rw [b4] at lp ⊢
            walk_at "rdh"
            refine r_ixT hq5 (atI_nat (j := 1) rfl) ?_
            walk_at "rdh"
            refine r_ite (fun b2 => ?_) (fun b2 => ?_)
            · rw [b2] at lp
              refine r_iteT rfl ?_
              walk_at "rdh"
              exact bad (by rw [lp]; rfl) _ (Same.refl _)
            · rw [b2] at lp ⊢
              walk_at "rdh"
              refine r_ite (fun b3 => ?_) (fun b3 => ?_)
              · rw [b3] at lp
                walk_at "rdh"
                exact bad (by rw [lp]; rfl) _ (Same.refl _)
              · rw [b3]
                walk_at "rdh"
                exact ⟨rfl, rfl, rfl⟩
          · rw [b4]
            refine r_iteF rfl ?_
            walk_at "rdh"
            exact ⟨rfl, rfl, rfl⟩
      rintro σ' H' ⟨rfl, rfl, nf⟩
      rw [nf] at lp
      walk_at "rdh"
      refine r_ixT hq5 (atI_nat (j := 0) rfl) ?_
      walk_at "rdh"
      refine r_ixT hq5 (atI_nat (j := 0) rfl) ?_
      walk_at "rdh"
      refine r_new (by show 2 ≤ 1000; decide) fun u hu => ?_
      have su := Same.new (o := .tup [.int row.1, .int (row.1 + 1)]) hu
      have ni : inV (.int c) [.int row.1, .int (row.1 + 1)] = nearI row c := by
        unfold inV nearI
        rw [Bool.eq_iff_iff]
        simp [eqV]
        omega
      refine r_notInT (xs := [.int row.1, .int (row.1 + 1)]) upd_same rfl rfl ni ?_
      walk_at "rdh"
      refine r_ite (fun b5 => ?_) (fun b5 => ?_)
      · walk_at "rdh"
        have b5' : nearI row c = false := by rw [Bool.not_eq_true'] at b5; exact b5
        exact bad (by rw [lp, b5']; rfl) _ su
      · walk_at "rdh"
        have b5' : nearI row c = true := by rw [Bool.not_eq_false'] at b5; exact b5
        rw [b5'] at lp
        refine ⟨_, _, _, rfl, s5.trans su, fun j u' c' hj hu' hc' => ?_⟩
        by_cases ji : j = i
        · subst ji
          rw [eu] at hu'
          rw [ec] at hc'
          obtain rfl := Option.some.inj hu'
          obtain rfl := Option.some.inj hc'
          exact lp
        · exact put j u' c' (by omega) hu' hc'
    · rintro σ H4 ⟨v5, v6, v7, rfl, s4, put⟩
      have ap : allPut (ps.map (uQ st sb)) cs wq = true := put_all (by rw [List.length_map, cl]) fun i u c hu hc => put i u c (by
        have := (List.getElem?_eq_some_iff.mp hc).1
        rw [List.length_map]
        exact this) hu hc
      rw [ap, Bool.true_and] at k
      walk_at "rdh"
      refine ⟨p2, cs, rfl, SqT.of (s4 _ _ (s13 _ _ hp2)), ?_⟩
      walk_at "rdh"
      refine ⟨p, s', ps, st, sb, rfl, hp.same (s13.trans s4), ⟨s4 _ _ (s13 _ _ hs), hst⟩, hb, l40, fun H5 s5 => ?_⟩
      walk_at "rdh"
      exact k _ ((s13.trans s4).trans s5)
end
end My

namespace My
open PySem L2
theorem rows_ne {H : Hp} {d r : Addr} {rs : List (Int × Int × Int)} (w : WellAt H d) (h : RowsAt H r rs) (n : 0 < rs.length) : r ≠ d := by
  intro z
  subst z
  obtain ⟨a, b, c, hd⟩ := w
  obtain ⟨vs, hv, ht⟩ := h
  rw [hd] at hv
  injection hv with hv
  injection hv with hv
  subst hv
  obtain ⟨q, x, e, _⟩ := ht.2 0 (.int a) rfl
  cases e
theorem RowsAt.out {H H' : Hp} {d p : Addr} {rs : List (Int × Int × Int)} (o : Out d H H') (wl : WellAt H d) (ne : p ≠ d) (h : RowsAt H p rs) : RowsAt H' p rs := let ⟨vs, a, b⟩ := h; ⟨vs, o _ _ ne a, b.out o wl⟩
theorem RowsAt.get {H : Hp} {p : Addr} {rs : List (Int × Int × Int)} (h : RowsAt H p rs) {i : Nat} (hi : i < rs.length) : ∃ (vs : List V) (q : Addr), H p = some (.lst vs) ∧ vs.length = rs.length ∧ vs[i]? = some (.ref q) ∧ H q = some (.tup (tri rs[i])) := by
  obtain ⟨vs, hv, ht⟩ := h
  have hi' : i < vs.length := by rw [ht.1]; exact hi
  obtain ⟨q, x, e, ex, hq⟩ := ht.2 i vs[i] (List.getElem?_eq_getElem hi')
  rw [List.getElem?_eq_getElem hi] at ex
  obtain rfl := Option.some.inj ex
  exact ⟨vs, q, hv, ht.1, by rw [List.getElem?_eq_getElem hi', e], hq⟩
theorem none_out {H H' : Hp} {d D : Addr} (o : Out d H H') (w : WellAt H' d) (h : H' D = none) : H D = none := by
  have ne := well_ne w h
  cases e : H D with
  | none => rfl
  | some u => rw [o D u ne e] at h; cases h
theorem Out.putN {H H' : Hp} {d D : Addr} {u : HO} (o : Out d H H') (h : H D = none) : Out d H (upd H' D u) := fun b x c e => by
  rw [upd_ne (ne_of_none e h)]
  exact o b x c e
theorem WellAt.putN {H : Hp} {d D : Addr} {u : HO} (w : WellAt H d) (ne : D ≠ d) : WellAt (upd H D u) d := let ⟨a, b, n, h⟩ := w; ⟨a, b, n, by rw [upd_ne ne.symm]; exact h⟩
/-- whole numbers in a list of our own -/
structure MineAt (d : Addr) (H H' : Hp) (D : Addr) (xs : List Int) (n M : Nat) : Prop where
  out : Out d H H'
  well : WellAt H' d
  at_ : H' D = some (.lst (xs.map V.int))
  len : xs.length = n
  bd : ∀ c ∈ xs, c.natAbs ≤ M
  new : H D = none
  ne : D ≠ d
theorem MineAt.step {d : Addr} {H H1 H2 : Hp} {D : Addr} {xs : List Int} {n M : Nat} (h : MineAt d H H1 D xs n M) (o : Out d H1 H2) (w2 : WellAt H2 d) : MineAt d H H2 D xs n M :=
  ⟨h.out.trans o, w2, o D _ h.ne h.at_, h.len, h.bd, h.new, h.ne⟩
theorem MineAt.wide {d : Addr} {H H1 : Hp} {D : Addr} {xs : List Int} {n M N : Nat} (h : MineAt d H H1 D xs n M) (l : M ≤ N) : MineAt d H H1 D xs n N :=
  ⟨h.out, h.well, h.at_, h.len, fun c hc => Nat.le_trans (h.bd c hc) l, h.new, h.ne⟩
theorem MineAt.set {d : Addr} {H H1 : Hp} {D : Addr} {xs : List Int} {n M N : Nat} {i : Nat} {z : Int} (h : MineAt d H H1 D xs n M) (l : M ≤ N) (hz : z.natAbs ≤ N) : MineAt d H (upd H1 D (.lst ((xs.map V.int).set i (.int z)))) D (xs.set i z) n N :=
  ⟨h.out.putN h.new, h.well.putN h.ne, by rw [upd_same, List.map_set], by rw [List.length_set]; exact h.len, fun c hc => by
    rcases List.mem_or_eq_of_mem_set hc with hc | rfl
    · exact Nat.le_trans (h.bd c hc) l
    · exact hz, h.new, h.ne⟩
section
variable {P : Program} {w : World} {K : PySem.W.Frag} {mg : Str → Option Value} {base : Heap}
/-- one of the counts -/
theorem mine_ix {d : Addr} {H H1 : Hp} {D : Addr} {xs : List Int} {n M : Nat} {i : Nat} {Q : VK} (h : MineAt d H H1 D xs n M) (hi : i < n) (q : ∀ c : Int, c.natAbs ≤ M → Q (.int c) H1) : rIxL K (.ref D) (.int (i : Int)) H1 Q := by
  have hx : i < xs.length := by rw [h.len]; exact hi
  exact r_ixL h.at_ (atI_nat (by rw [List.getElem?_map, List.getElem?_eq_getElem hx]; rfl)) (q _ (h.bd _ (List.getElem_mem hx)))
theorem mine_set {d : Addr} {H H1 : Hp} {D : Addr} {xs : List Int} {n M N : Nat} {i : Nat} {z : Int} {R : Hp → Prop} (h : MineAt d H H1 D xs n M) (hi : i < n) (l : M ≤ N) (hz : z.natAbs ≤ N) (q : ∀ H2 xs', MineAt d H H2 D xs' n N → R H2) : rSetL (.ref D) (.int (i : Int)) (.int z) H1 R :=
  r_setL h.at_ (j := i) (ixN_nat (by rw [List.length_map, h.len]; exact hi)) (q _ _ (h.set l hz))
theorem tup_ix {H : Hp} {p : Addr} {xs : List Int} {i M : Nat} {Q : VK} (h : H p = some (.tup (xs.map V.int))) (hi : i < xs.length) (b : ∀ c ∈ xs, c.natAbs ≤ M) (q : ∀ c : Int, c.natAbs ≤ M → Q (.int c) H) : rIxT K (.ref p) (.int (i : Int)) H Q :=
  r_ixT h (atI_nat (by rw [List.getElem?_map, List.getElem?_eq_getElem hi]; rfl)) (q _ (b _ (List.getElem_mem hi)))
def spByHand : Sp := fun vs H Q _ => ∃ (d r u : Addr) (rs : List (Int × Int × Int)) (due : List Int) (M : Nat), vs = [.ref d, .ref r, .ref u] ∧ WellAt H d ∧ RowsAt H r rs ∧ (0 < rs.length ∧ rs.length ≤ 40) ∧ (∀ x ∈ rs, x.1.natAbs ≤ M) ∧ H u = some (.tup (due.map V.int)) ∧ due.length = rs.length ∧ (∀ c ∈ due, c.natAbs ≤ M) ∧
  ∀ (p : Addr) (cs : List Int) (H' : Hp), Out d H H' → WellAt H' d → H' p = some (.tup (cs.map V.int)) → cs.length = rs.length → (∀ c ∈ cs, c.natAbs ≤ 20 * M + 20) → Q (.ref p) H'
theorem ok_l_by_hand (T : Txt w K mg) : FnOk P w K mg base CX0 2 T.f_l_by_hand T.fd_l_by_hand ["_law_well_here", "_law_rows", "_law_due"] spByHand := by
  refine T.F_l_by_hand.ok sc_l_by_hand (fun vs H Q E h => ?_) (fun cdv A outer s H vs Q E hr h => ?_)
  · obtain ⟨d, r, u, rs, due, M, rfl, _⟩ := h
    rfl
  · obtain ⟨d, r, u, rs, due, M, rfl, w0, hr0, ⟨n0, n40⟩, rb, hu, dl, db, k⟩ := h
    refine ⟨_, (pss_cons (ps_set (i := 3) sc_l_by_hand.nd rfl (Or.inl rfl) (pe_call (ok_l_take T) (hr.mono (by decide)) (by rfl) T.m_l_take T.F_l_take.kp T.b_l_take .nil pass0 (pa_cons (pv 0) (pa_cons pe_int pa_nil))))
 (pss_cons (ps_set (i := 4) sc_l_by_hand.nd rfl (Or.inl rfl) (pe_callTy call_list_of (by rfl) T.n_list (by decide +kernel) (pa_cons (pv 2) pa_nil)))
 (C8.pss_cut (ps_if (pt_cmpR op_eq (pv 3) pe_int (nomark _))
  (pss_one (ps_setLc (i := 4) (own := [("_law_low", 8), ("_law_rest", 9), ("_law_under", 10)]) (g := gTup K 3 (gCons (gName 8) (gCons (gName 9) (gCons (gName 10) gNil)))) (tt := tYes) rfl sc_l_by_hand.nd rfl rfl (sw_true rfl rfl rfl (by decide +kernel)) (pi_list (pv 1)) (blkOk_by (own := [("_law_low", 8), ("_law_rest", 9), ("_law_under", 10)]) (N := ["_law_well_here", "_law_rows", "_law_due", "_law_way", "_law_counts_here", "_law_at", "_law_other", "_law_far", "_law_low", "_law_rest", "_law_under"]) (sc := defScope s_l_by_hand) (by decide +kernel)) (fun _ _ _ _ _ => pg_tup rfl (pgs_cons (pg_name (i := 8) sc_l_by_hand.nd rfl (Or.inl rfl)) (pgs_cons (pg_name (i := 9) sc_l_by_hand.nd rfl (Or.inl rfl)) (pgs_cons (pg_name (i := 10) sc_l_by_hand.nd rfl (Or.inl rfl)) pgs_nil)))) (fun _ _ _ _ _ => pts_nil) (fun _ _ _ _ _ => (pe_op op_add (pv 8) (pe_callTy call_int1 (by rfl) T.n_int (by decide +kernel) (pa_cons (pe_and (pe_cmpR op_gt (pv 9) pe_int (nomark _)) (pe_one (pe_cmpR op_eq (pe_call (ok_l_take T) (hr.mono (by decide)) (by rfl) T.m_l_take T.F_l_take.kp T.b_l_take .nil pass0 (pa_cons (pv 0) (pa_cons pe_int pa_nil))) pe_int (nomark _)))) pa_nil))))))
  pss_nil)
 (pss_cons (ps_par (i := 5) (j := 6) rfl sc_l_by_hand.nd rfl rfl (by decide) rfl rfl (pa_cons (pe_call (ok_l_take T) (hr.mono (by decide)) (by rfl) T.m_l_take T.F_l_take.kp T.b_l_take .nil pass0 (pa_cons (pv 0) (pa_cons (pe_callB call_len_seq (by rfl) T.n_len PySem.boot_len (pa_cons (pv 1) pa_nil)) pa_nil))) (pa_cons (pe_call (ok_l_take T) (hr.mono (by decide)) (by rfl) T.m_l_take T.F_l_take.kp T.b_l_take .nil pass0 (pa_cons (pv 0) (pa_cons (pe_callB call_len_seq (by rfl) T.n_len PySem.boot_len (pa_cons (pv 1) pa_nil)) pa_nil))) pa_nil)) (by rfl))
 (C8.pss_cut (ps_if (pt_cmpR op_eq (pv 3) pe_int (nomark _))
  (pss_one (ps_asg (pe_op op_add (pe_ix ix_list (pv 4) (pv 5) (fun _ _ => rfl)) (pe_ix ix_list (pe_lst (pa_cons pe_int (pa_cons (pe_un un_neg pe_int) (pa_cons pe_int pa_nil)))) (pe_call (ok_l_take T) (hr.mono (by decide)) (by rfl) T.m_l_take T.F_l_take.kp T.b_l_take .nil pass0 (pa_cons (pv 0) (pa_cons pe_int pa_nil))) (fun _ _ => rfl))) (pg_sub (pv 4) (pv 5) set_list)))
  pss_nil)
 (C8.pss_cut (ps_if (pt_cmpR op_eq (pv 3) pe_int (nomark _))
  (pss_cons (ps_set (i := 7) sc_l_by_hand.nd rfl (Or.inl rfl) (pe_op op_sub (pe_op op_sub (pe_ix ix_tup (pv 2) (pv 5) (fun _ _ => rfl)) (pe_ix ix_tup (pe_ix ix_list (pv 1) (pv 5) (fun _ _ => rfl)) pe_int (fun _ _ => rfl))) (pe_op op_sub (pe_ix ix_tup (pv 2) (pv 6) (fun _ _ => rfl)) (pe_ix ix_tup (pe_ix ix_list (pv 1) (pv 6) (fun _ _ => rfl)) pe_int (fun _ _ => rfl)))))
 (pss_cons (ps_asg (pe_op op_sub (pe_ix ix_list (pv 4) (pv 5) (fun _ _ => rfl)) (pv 7)) (pg_sub (pv 4) (pv 5) set_list))
 (pss_one (ps_asg (pe_op op_add (pe_ix ix_list (pv 4) (pv 6) (fun _ _ => rfl)) (pv 7)) (pg_sub (pv 4) (pv 6) set_list)))))
  pss_nil)
 (C8.pss_cut (ps_if (pt_cmpR op_eq (pv 3) pe_int (nomark _))
  (pss_cons (ps_asg (pe_op op_add (pe_ix ix_list (pv 4) (pv 5) (fun _ _ => rfl)) pe_int) (pg_sub (pv 4) (pv 5) set_list))
 (pss_one (ps_asg (pe_op op_sub (pe_ix ix_list (pv 4) (pv 6) (fun _ _ => rfl)) pe_int) (pg_sub (pv 4) (pv 6) set_list))))
  pss_nil)
 (pss_one (ps_ret (pe_callTy call_tuple_of (by rfl) T.n_tuple (by decide +kernel) (pa_cons (pv 4) pa_nil))))))))))), ?_⟩
    have rd := rows_ne w0 hr0 n0
    obtain ⟨rv, hrv, rt⟩ := id hr0
    have rvl := rt.1
    walk_at "rdh"
    refine rd_take w0 (by decide) (by decide) fun way H1 o1 w1 wa0 wa1 => ?_
    have keepT : ∀ {H' : Hp} {q : Addr} {xs : List V}, Out d H H' → H q = some (.tup xs) → H' q = some (.tup xs) := fun o e => o.keep w0 e (fun _ z => by cases z)
    walk_at "rdh"
    refine ⟨u, _, rfl, .inr (SqT.of (keepT o1 hu)), fun D hD => ?_⟩
    have sD := Same.new (o := .lst (due.map V.int)) hD
    have m1 : MineAt d H (upd H1 D (.lst (due.map V.int))) D due rs.length (M + 1) := ⟨o1.trans (Out.of sD), w1.same sD, upd_same, dl, fun c hc => Nat.le_succ_of_le (db c hc), none_out o1 w1 hD, well_ne w1 hD⟩
    generalize upd H1 D (.lst (due.map V.int)) = H2 at *
    walk_at "rdh"
    refine r_cut (fun σ' H' => ∃ (D : Addr) (xs : List Int) (v8 v9 v10 : Option V), σ' = [some (.ref d), some (.ref r), some (.ref u), some (.int way), some (.ref D), none, none, none, v8, v9, v10] ∧ MineAt d H H' D xs rs.length (M + 1)) ?_ ?_
    · walk_at "rdh"
      refine r_ite (fun c1 => ?_) (fun c1 => ?_)
      · walk_at "rdh"
        refine r_lcL ?_
        walk_at "rdh"
        have hr2 := m1.out r _ rd hrv
        refine ⟨r, rfl, ⟨_, SqL.of hr2⟩, fun E' hE => ?_⟩
        have Ed := well_ne m1.well hE
        have hE0 := none_out m1.out m1.well hE
        refine lc_list (K := K) (a := r) (xs := rv) (fun j H' => ∃ xs : List Int, MineAt d H H' E' xs j (M + 1) ∧ j ≤ rv.length) ⟨[], ⟨m1.out.trans (Out.of (Same.new hE)), m1.well.same (Same.new hE), upd_same, rfl, (fun c hc => absurd hc List.not_mem_nil), hE0, Ed⟩, Nat.zero_le _⟩ (fun j H' _ ⟨_, m, _⟩ => SqL.of (m.out r _ rd hrv)) ?_ ?_
        · rintro j z H3 hz ⟨xs, m3, jl⟩
          have jl' : j < rv.length := (List.getElem?_eq_some_iff.mp hz).1
          obtain ⟨q, x, rfl, ex, hq⟩ := rt.2 j z hz
          have hx := rb x (List.mem_of_getElem? ex)
          refine r_gTup (keepT m3.out hq) rfl ?_
          walk_at "rdh"
          refine ⟨rfl, ?_⟩
          refine r_tyes ?_
          have fin : ∀ (H4 : Hp) (b : Bool), MineAt d H H4 E' xs j (M + 1) → ∃ acc, H4 E' = some (.lst acc) ∧ acc.length < sizeLine ∧ ∃ ys : List Int, MineAt d H (upd H4 E' (.lst (acc ++ [.int (x.1 + if b = true then 1 else 0)]))) E' ys (j + 1) (M + 1) ∧ j + 1 ≤ rv.length := fun H4 b m4 => by
            refine ⟨_, m4.at_, by rw [List.length_map, m4.len]; exact Nat.lt_of_lt_of_le (show j < 41 by omega) (by decide), xs ++ [x.1 + if b = true then 1 else 0], ⟨m4.out.putN m4.new, m4.well.putN m4.ne, by rw [upd_same, List.map_append]; rfl, by rw [List.length_append, m4.len]; rfl, fun c hc => ?_, m4.new, m4.ne⟩, by omega⟩
            rcases List.mem_append.mp hc with hc | hc
            · exact m4.bd c hc
            · rw [List.mem_singleton.mp hc]
              split <;> omega
          walk_at "rdh"
          refine r_ite (fun e => ?_) (fun e => ?_)
          · walk_at "rdh"
            refine rd_take m3.well (by decide) (by decide) fun t H4 o4 w4 t0 t1 => ?_
            walk_at "rdh"
            refine .inr ⟨_, rfl, ?_⟩
            walk_at "rdh"
            exact fin H4 _ (m3.step o4 w4)
          · walk_at "rdh"
            refine .inr ⟨false, rfl, ?_⟩
            walk_at "rdh"
            exact fin H3 false m3
        · rintro H3 ⟨xs, m3, _⟩
          walk_at "rdh"
          rw [rvl] at m3
          exact ⟨E', xs, none, none, none, rfl, m3⟩
      · walk_at "rdh"
        exact ⟨D, due, none, none, none, rfl, m1⟩
    rintro σ' H3 ⟨D', xs, v8, v9, v10, rfl, m3⟩
    walk_at "rdh"
    have lenR : ∀ {H' : Hp}, Out d H H' → H' r = some (.lst rv) := fun o => o r _ rd hrv
    have nb : ((rs.length : Nat) : Int).natAbs < 2 ^ 6 := by omega
    refine ⟨r, rv, rfl, .inl (SqL.of (lenR m3.out)), ?_⟩
    walk_at "rdh"
    rw [rvl]
    refine rd_take m3.well (by omega) (Nat.lt_of_lt_of_le nb (Nat.pow_le_pow_right (by decide) (by decide))) fun at_ H4 o4 w4 at0 at1 => ?_
    have m4 := m3.step o4 w4
    walk_at "rdh"
    refine ⟨r, rv, rfl, .inl (SqL.of (lenR m4.out)), ?_⟩
    walk_at "rdh"
    rw [rvl]
    refine rd_take m4.well (by omega) (Nat.lt_of_lt_of_le nb (Nat.pow_le_pow_right (by decide) (by decide))) fun ot H5 o5 w5 ot0 ot1 => ?_
    have m5 := m4.step o5 w5
    clear m3 m4 o4 w4 o5 w5
    obtain ⟨i, rfl⟩ := Int.eq_ofNat_of_zero_le at0
    obtain ⟨j, rfl⟩ := Int.eq_ofNat_of_zero_le ot0
    have hi : i < rs.length := by omega
    have hj : j < rs.length := by omega
    walk_at "rdh"
    refine r_cut (fun σ' H' => ∃ (xs : List Int), σ' = [some (.ref d), some (.ref r), some (.ref u), some (.int way), some (.ref D'), some (.int (i : Int)), some (.int (j : Int)), none, v8, v9, v10] ∧ MineAt d H H' D' xs rs.length (M + 3)) ?_ ?_
    · walk_at "rdh"
      refine r_ite (fun c1 => ?_) (fun c1 => ?_)
      · walk_at "rdh"
        refine mine_ix m5 hi fun c hc => ?_
        walk_at "rdh"
        refine r_new (by show 3 ≤ 1000; decide) fun g hg => ?_
        have sg := Same.new (o := .lst [.int 1, .int (-1), .int 2]) hg
        walk_at "rdh"
        refine rd_take (m5.well.same sg) (by decide) (by decide) fun t H6 o6 w6 t0 t1 => ?_
        refine r_pick [1, -1, 2] (o6 g _ (well_ne m5.well hg) upd_same) t0 t1 fun a ha => ?_
        have ab : a.natAbs ≤ 2 := by
          simp only [List.mem_cons, List.not_mem_nil, or_false] at ha
          omega
        walk_at "rdh"
        refine mine_set (m5.step ((Out.of sg).trans o6) w6) hi (N := M + 3) (by omega) (by omega) fun H7 xs' m7 => ?_
        exact ⟨xs', rfl, m7⟩
      · walk_at "rdh"
        exact ⟨xs, rfl, m5.wide (by omega)⟩
    rintro σ' H6 ⟨xs6, rfl, m6⟩
    walk_at "rdh"
    refine r_cut (fun σ' H' => ∃ (xs : List Int) (v7 : Option V), σ' = [some (.ref d), some (.ref r), some (.ref u), some (.int way), some (.ref D'), some (.int (i : Int)), some (.int (j : Int)), v7, v8, v9, v10] ∧ MineAt d H H' D' xs rs.length (9 * M + 9)) ?_ ?_
    · walk_at "rdh"
      refine r_ite (fun c1 => ?_) (fun c1 => ?_)
      · have hu6 := keepT m6.out hu
        obtain ⟨vs1, q1, g1, g2, g3, g4⟩ := hr0.get hi
        obtain ⟨vs2, q2, g5, g6, g7, g8⟩ := hr0.get hj
        have b1 := rb _ (List.getElem_mem hi)
        have b2 := rb _ (List.getElem_mem hj)
        walk_at "rdh"
        refine tup_ix hu6 (by rw [dl]; exact hi) db fun c hc => ?_
        walk_at "rdh"
        refine r_ixL (m6.out r _ rd g1) (atI_nat g3) ?_
        walk_at "rdh"
        refine r_ixT (keepT m6.out g4) (atI_nat (j := 0) rfl) ?_
        walk_at "rdh"
        refine tup_ix hu6 (by rw [dl]; exact hj) db fun c2 hc2 => ?_
        walk_at "rdh"
        refine r_ixL (m6.out r _ rd g5) (atI_nat g7) ?_
        walk_at "rdh"
        refine r_ixT (keepT m6.out g8) (atI_nat (j := 0) rfl) ?_
        walk_at "rdh"
        refine mine_ix m6 hi fun c3 hc3 => ?_
        walk_at "rdh"
        refine mine_set m6 hi (N := 5 * M + 5) (by omega) (by omega) fun H7 xs7 m7 => ?_
        walk_at "rdh"
        refine mine_ix m7 hj fun c4 hc4 => ?_
        walk_at "rdh"
        refine mine_set m7 hj (N := 9 * M + 9) (by omega) (by omega) fun H8 xs8 m8 => ?_
        exact ⟨xs8, _, rfl, m8⟩
      · walk_at "rdh"
        exact ⟨xs6, _, rfl, m6.wide (by omega)⟩
    rintro σ' H7 ⟨xs7, v7, rfl, m7⟩
    walk_at "rdh"
    refine r_cut (fun σ' H' => ∃ (xs : List Int) (v7 : Option V), σ' = [some (.ref d), some (.ref r), some (.ref u), some (.int way), some (.ref D'), some (.int (i : Int)), some (.int (j : Int)), v7, v8, v9, v10] ∧ MineAt d H H' D' xs rs.length (20 * M + 20)) ?_ ?_
    · walk_at "rdh"
      refine r_ite (fun c1 => ?_) (fun c1 => ?_)
      · walk_at "rdh"
        refine mine_ix m7 hi fun c hc => ?_
        walk_at "rdh"
        refine mine_set m7 hi (N := 9 * M + 10) (by omega) (by omega) fun H8 xs8 m8 => ?_
        walk_at "rdh"
        refine mine_ix m8 hj fun c2 hc2 => ?_
        walk_at "rdh"
        refine mine_set m8 hj (N := 20 * M + 20) (by omega) (by omega) fun H9 xs9 m9 => ?_
        exact ⟨xs9, _, rfl, m9⟩
      · walk_at "rdh"
        exact ⟨xs7, _, rfl, m7.wide (by omega)⟩
    rintro σ' H8 ⟨xs8, v7', rfl, m8⟩
    walk_at "rdh"
    refine ⟨D', _, rfl, .inl ⟨SqL.of m8.at_, fun t ht => ?_⟩⟩
    have st := Same.new (o := .tup (xs8.map V.int)) ht
    exact k t xs8 _ (m8.out.trans (Out.of st)) (m8.well.same st) upd_same m8.len m8.bd
end
end My

namespace My
open PySem L2
theorem r_forZN {σ : L2.St} {H : Hp} {K : PySem.W.Frag} {ta : TA} {g : TG} {tb : TS} {D : Ends} (q : ta σ H fun vs H1 => ∃ a b xs ys, vs = [.ref a, .ref b] ∧ SqL K H1 a xs ∧ SqT K H1 b ys ∧ ∃ W : Nat → Nat → L2.St → Hp → Prop, (∃ m, W 0 m σ H1) ∧ ∀ i m σ H, W i m σ H →
    ((ItzN K a b).stop i H ∧ D.nx σ H) ∨ ((ItzN K a b).go i H ∧ ∃ N : L2.St → Hp → Prop, (∀ σ' H', N σ' H' → ∃ m', m' < m ∧ W (i + 1) m' σ' H') ∧ ∀ x H', (ItzN K a b).yld i H x H' → g x σ H' fun σ2 H2 => tb { D with nx := N, ct := N, bk := D.nx } σ2 H2)) : tFor (iZipN K ta) g tb D σ H := q
/-- a small number -/
def NB (C : Addr) (H : Hp) (v : V) : Prop := ∃ (q : Addr) (x : Rat), v = .ref q ∧ NumAt C H q x ∧ Bd 100 x
theorem NB.same {C : Addr} {H H' : Hp} {v : V} (s : Same H H') (h : NB C H v) : NB C H' v := let ⟨q, x, e, n, b⟩ := h; ⟨q, x, e, n.same s, b⟩
def RowB (x : Int × Int × Int) : Prop := (0 ≤ x.2.1 ∧ x.2.1.natAbs < 2 ^ 80) ∧ (0 < x.2.2 ∧ x.2.2.natAbs < 2 ^ 80)
/-- what the threshold is -/
structure ThOk (rs : List (Int × Int × Int)) (cs : List Int) (n : Nat) (w : Rat) : Prop where
  lo : 0 ≤ w
  hi : w ≤ 1
  up : ∀ (i : Nat) (r : Int × Int × Int) (c : Int), i < n → rs[i]? = some r → cs[i]? = some c → r.1 < c → w ≤ Rat.divInt r.2.1 r.2.2
  at_ : w = 1 ∨ ∃ (i : Nat) (r : Int × Int × Int) (c : Int), i < n ∧ rs[i]? = some r ∧ cs[i]? = some c ∧ r.1 < c ∧ w = Rat.divInt r.2.1 r.2.2
theorem th_zero (rs : List (Int × Int × Int)) (cs : List Int) : ThOk rs cs 0 (Rat.divInt 1 1) := by
  rw [one_div]
  exact ⟨by decide +kernel, Rat.le_refl, fun i _ _ h => by omega, .inl rfl⟩
theorem th_keep {rs : List (Int × Int × Int)} {cs : List Int} {n : Nat} {w : Rat} {r : Int × Int × Int} {c : Int} (h : ThOk rs cs n w) (hr : rs[n]? = some r) (hc : cs[n]? = some c) (k : r.1 < c → w ≤ Rat.divInt r.2.1 r.2.2) : ThOk rs cs (n + 1) w := by
  refine ⟨h.lo, h.hi, fun i r' c' hi hr' hc' l => ?_, ?_⟩
  · by_cases e : i = n
    · subst e
      rw [hr] at hr'
      rw [hc] at hc'
      obtain rfl := Option.some.inj hr'
      obtain rfl := Option.some.inj hc'
      exact k l
    · exact h.up i r' c' (by omega) hr' hc' l
  · rcases h.at_ with e | ⟨i, r', c', hi, h1, h2, h3, h4⟩
    · exact .inl e
    · exact .inr ⟨i, r', c', by omega, h1, h2, h3, h4⟩
theorem th_new {rs : List (Int × Int × Int)} {cs : List Int} {n : Nat} {w : Rat} {r : Int × Int × Int} {c : Int} (h : ThOk rs cs n w) (hr : rs[n]? = some r) (hc : cs[n]? = some c) (b : RowB r) (l : r.1 < c) (k : Rat.divInt r.2.1 r.2.2 < w) : ThOk rs cs (n + 1) (Rat.divInt r.2.1 r.2.2) := by
  refine ⟨divInt_ge0 b.1.1 b.2.1, Rat.le_trans (Rat.le_of_lt k) h.hi, fun i r' c' hi hr' hc' l' => ?_, .inr ⟨n, r, c, by omega, hr, hc, l, rfl⟩⟩
  by_cases e : i = n
  · subst e
    rw [hr] at hr'
    obtain rfl := Option.some.inj hr'
    exact Rat.le_refl
  · exact Rat.le_trans (Rat.le_of_lt k) (h.up i r' c' (by omega) hr' hc' l')
section
variable {P : Program} {w : World} {K : PySem.W.Frag} {mg : Str → Option Value} {base : Heap}
def spThresh (C : Addr) : Sp := fun vs H Q _ => ∃ (r u : Addr) (rs : List (Int × Int × Int)) (cs : List Int), vs = [.ref r, .ref u] ∧ RowsAt H r rs ∧ (∀ x ∈ rs, RowB x) ∧ H u = some (.tup (cs.map V.int)) ∧ cs.length = rs.length ∧
  ∀ (q : Addr) (wq : Rat) (H' : Hp), Same H H' → NumAt C H' q wq → ThOk rs cs rs.length wq → Bd 100 wq → Q (.ref q) H'
theorem ok_l_threshold (T : Txt w K mg) : FnOk P w K mg base CX0 3 T.f_l_threshold T.fd_l_threshold ["_law_rows", "_law_counts_here"] (spThresh T.C_Number) := by
  refine T.F_l_threshold.ok sc_l_threshold (fun vs H Q E h => ?_) (fun cdv A outer s H vs Q E hr h => ?_)
  · obtain ⟨r, u, rs, cs, rfl, _⟩ := h
    rfl
  · obtain ⟨r, u, rs, cs, rfl, ⟨rv, hrv, rt⟩, rb, hu, cl, k⟩ := h
    refine ⟨_, (pss_cons (ps_set (i := 2) sc_l_threshold.nd rfl (Or.inl rfl) (pe_tup (pa_cons pe_int (pa_cons pe_int pa_nil))))
 (pss_cons (ps_for PassesOwn.never rfl (pi_zipN (by rfl) T.n_zip (pa_cons (pv 0) (pa_cons (pv 1) pa_nil))) (pg_tup rfl (pgs_cons (pg_tup rfl (pgs_cons (pg_name (i := 3) sc_l_threshold.nd rfl (Or.inl rfl)) (pgs_cons (pg_name (i := 4) sc_l_threshold.nd rfl (Or.inl rfl)) (pgs_cons (pg_name (i := 5) sc_l_threshold.nd rfl (Or.inl rfl)) pgs_nil)))) (pgs_cons (pg_name (i := 6) sc_l_threshold.nd rfl (Or.inl rfl)) pgs_nil)))
  (pss_one (ps_if (PW.pt (pw_and (pt_cmpR op_gt (pv 6) (pv 3) (nomark _)) (pw_and1 (pt_cmpR op_lt (pe_op op_mulW (pv 4) (pe_ix ix_tup (pv 2) pe_int (fun _ _ => rfl))) (pe_op op_mulW (pe_ix ix_tup (pv 2) pe_int (fun _ _ => rfl)) (pv 5)) (nomark _)))))
  (pss_one (ps_set (i := 2) sc_l_threshold.nd rfl (Or.inl rfl) (pe_tup (pa_cons (pv 4) (pa_cons (pv 5) pa_nil)))))
  pss_nil)))
 (pss_one (ps_ret (pe_make T.mk_Number (ok_Number_init T) (hr.mono (by decide)) (by rfl) T.m_Number T.b_Number_init2 .nil pass0 (pa_cons (pe_ix ix_tup (pv 2) pe_int (fun _ _ => rfl)) (pa_cons (pe_ix ix_tup (pv 2) pe_int (fun _ _ => rfl)) pa_nil))))))), ?_⟩
    have rvl := rt.1
    walk_at "rdh"
    refine r_new (by show 2 ≤ 1000; decide) fun f0 hf0 => ?_
    have s0 := Same.new (o := .tup [.int 1, .int 1]) hf0
    have e0 := upd_same (H := H) (a := f0) (o := HO.tup [.int 1, .int 1])
    generalize upd H f0 (.tup [.int 1, .int 1]) = H0 at *
    walk_at "rdh"
    refine r_forZN ?_
    walk_at "rdh"
    refine ⟨r, u, rv, _, rfl, SqL.of (s0 _ _ hrv), SqT.of (s0 _ _ hu), ?_⟩
    refine for_zipN (K := K) (by rw [List.length_map, cl, rvl]) (fun i σ H' => ∃ (f : Addr) (t b : Int) (v3 v4 v5 v6 : Option V), σ = [some (.ref r), some (.ref u), some (.ref f), v3, v4, v5, v6] ∧ Same H H' ∧ H' f = some (.tup [.int t, .int b]) ∧ (0 ≤ t ∧ t.natAbs < 2 ^ 80) ∧ (0 < b ∧ b.natAbs < 2 ^ 80) ∧ ThOk rs cs i (Rat.divInt t b)) ⟨f0, 1, 1, none, none, none, none, rfl, s0, e0, ⟨by decide, by decide⟩, ⟨by decide, by decide⟩, th_zero rs cs⟩ (fun i σ H' ⟨_, _, _, _, _, _, _, _, s1, _⟩ => ⟨SqL.of (s1 _ _ hrv), SqT.of (s1 _ _ hu)⟩) ?_ ?_
    · rintro i x z a σ H1 hx hz ⟨f, t, b, v3, v4, v5, v6, rfl, s1, hf, ⟨t0, tb⟩, ⟨b0, bb⟩, th⟩ ha
      obtain ⟨q, row, rfl, er, hq⟩ := rt.2 i x hx
      obtain ⟨c, rfl, ec⟩ : ∃ c : Int, z = .int c ∧ cs[i]? = some c := by
        rw [List.getElem?_map] at hz
        cases h : cs[i]? with
        | none => rw [h] at hz; cases hz
        | some c => rw [h] at hz; exact ⟨c, (Option.some.inj hz).symm, rfl⟩
      have B := rb row (List.mem_of_getElem? er)
      have sa := Same.new (o := .tup [.ref q, .int c]) ha
      refine r_gTup upd_same rfl ?_
      have s2 := s1.trans sa
      have hf2 := sa _ _ hf
      generalize upd H1 a (.tup [.ref q, .int c]) = H2 at *
      walk_at "rdh"
      refine r_gTup (s2 _ _ hq) rfl ?_
      walk_at "rdh"
      have lc := lt_cross (a := row.2.1) (b := row.2.2) (c := t) (d := b) B.2.1 b0
      refine r_ite (fun c1 => ?_) (fun c1 => ?_)
      · walk_at "rdh"
        refine r_ixT hf2 (atI_nat (j := 1) rfl) ?_
        refine r_I (wide_mul B.1.2 bb (by decide) (by decide) (by decide)) ?_
        walk_at "rdh"
        refine r_ixT hf2 (atI_nat (j := 0) rfl) ?_
        walk_at "rdh"
        refine r_I (wide_mul tb B.2.2 (by decide) (by decide) (by decide)) ?_
        walk_at "rdh"
        refine r_ite (fun c2 => ?_) (fun c2 => ?_)
        · walk_at "rdh"
          refine r_new (by show 2 ≤ 1000; decide) fun g hg => ?_
          have sg := Same.new (o := .tup [.int row.2.1, .int row.2.2]) hg
          walk_at "rdh"
          exact ⟨g, row.2.1, row.2.2, _, _, _, _, rfl, s2.trans sg, upd_same, B.1, B.2, th_new th er ec B (of_decide_eq_true c1) (lc.mpr (of_decide_eq_true c2))⟩
        · walk_at "rdh"
          exact ⟨f, t, b, _, _, _, _, rfl, s2, hf2, ⟨t0, tb⟩, ⟨b0, bb⟩, th_keep th er ec fun _ => Rat.not_lt.mp fun z => of_decide_eq_false c2 (lc.mp z)⟩
      · refine r_iteF rfl ?_
        walk_at "rdh"
        exact ⟨f, t, b, _, _, _, _, rfl, s2, hf2, ⟨t0, tb⟩, ⟨b0, bb⟩, th_keep th er ec fun l => absurd l (of_decide_eq_false c1)⟩
    · rintro σ H1 ⟨f, t, b, v3, v4, v5, v6, rfl, s1, hf, ⟨t0, tb⟩, ⟨b0, bb⟩, th⟩
      rw [rvl] at th
      walk_at "rdh"
      refine r_ixT hf (atI_nat (j := 0) rfl) ?_
      walk_at "rdh"
      refine r_ixT hf (atI_nat (j := 1) rfl) ?_
      walk_at "rdh"
      refine mk_num (by omega) (Nat.lt_of_lt_of_le bb (Nat.pow_le_pow_right (by decide) (by decide))) fun n H2 s2 n2 hn2 => ?_
      exact k n _ H2 (s1.trans s2) hn2 th (Bd.of (by omega) (Nat.lt_of_lt_of_le tb (by decide)) (Nat.lt_of_lt_of_le bb (by decide)))
def spPaper (C : Addr) : Sp := fun vs H Q _ => ∃ (d r : Addr) (rs : List (Int × Int × Int)), vs = [.ref d, .ref r] ∧ WellAt H d ∧ RowsAt H r rs ∧ (0 < rs.length ∧ rs.length ≤ 40) ∧ (∀ x ∈ rs, RowB x) ∧
  ∀ (q : Addr) (wq : Rat) (H' : Hp), Out d H H' → WellAt H' d → NumAt C H' q wq → Bd 100 wq → Q (.ref q) H'
theorem ok_l_paper (T : Txt w K mg) : FnOk P w K mg base CX0 3 T.f_l_paper T.fd_l_paper ["_law_well_here", "_law_rows"] (spPaper T.C_Number) := by
  refine T.F_l_paper.ok sc_l_paper (fun vs H Q E h => ?_) (fun cdv A outer s H vs Q E hr h => ?_)
  · obtain ⟨d, r, rs, rfl, _⟩ := h
    rfl
  · obtain ⟨d, r, rs, rfl, w0, hr0, ⟨n0, n40⟩, rb, k⟩ := h
    refine ⟨_, (pss_cons (ps_asg (pe_ix ix_list (pv 1) (pe_call (ok_l_take T) (hr.mono (by decide)) (by rfl) T.m_l_take T.F_l_take.kp T.b_l_take .nil pass0 (pa_cons (pv 0) (pa_cons (pe_callB call_len_seq (by rfl) T.n_len PySem.boot_len (pa_cons (pv 1) pa_nil)) pa_nil))) (fun _ _ => rfl)) (pg_tup rfl (pgs_cons (pg_name (i := 2) sc_l_paper.nd rfl (Or.inl rfl)) (pgs_cons (pg_name (i := 3) sc_l_paper.nd rfl (Or.inl rfl)) (pgs_cons (pg_name (i := 4) sc_l_paper.nd rfl (Or.inl rfl)) pgs_nil)))))
 (pss_cons (ps_set (i := 5) sc_l_paper.nd rfl (Or.inl rfl) (pe_lst (pa_cons (pe_make T.mk_Number (ok_Number_init T) (hr.mono (by decide)) (by rfl) T.m_Number T.b_Number_init2 .nil pass0 (pa_cons (pv 3) (pa_cons (pv 4) pa_nil))) (pa_cons (pe_make T.mk_Number (ok_Number_init T) (hr.mono (by decide)) (by rfl) T.m_Number T.b_Number_init2 .nil pass0 (pa_cons (pv 3) (pa_cons (pv 4) pa_nil))) (pa_cons (pe_make T.mk_Number (ok_Number_init T) (hr.mono (by decide)) (by rfl) T.m_Number T.b_Number_init1 T.d_Number_init1 pass0 (pa_cons pe_int pa_nil)) (pa_cons (pe_make T.mk_Number (ok_Number_init T) (hr.mono (by decide)) (by rfl) T.m_Number T.b_Number_init1 T.d_Number_init1 pass0 (pa_cons pe_int pa_nil)) (pa_cons (pe_make T.mk_Number (ok_Number_init T) (hr.mono (by decide)) (by rfl) T.m_Number T.b_Number_init2 .nil pass0 (pa_cons pe_int (pa_cons pe_int pa_nil))) pa_nil)))))))
 (pss_cons (ps_set (i := 5) sc_l_paper.nd rfl (Or.inl rfl) (pe_op op_cat (pv 5) (pe_lst (pa_cons (pe_make T.mk_Number (ok_Number_init T) (hr.mono (by decide)) (by rfl) T.m_Number T.b_Number_init2 .nil pass0 (pa_cons (pe_op op_add (pe_op op_mul (pv 3) pe_int) pe_int) (pa_cons (pe_op op_mul (pv 4) pe_int) pa_nil))) (pa_cons (pe_make T.mk_Number (ok_Number_init T) (hr.mono (by decide)) (by rfl) T.m_Number T.b_Number_init2 .nil pass0 (pa_cons (pe_op op_sub (pe_op op_mul (pv 3) pe_int) pe_int) (pa_cons (pe_op op_mul (pv 4) pe_int) pa_nil))) (pa_cons (pe_make T.mk_Number (ok_Number_init T) (hr.mono (by decide)) (by rfl) T.m_Number T.b_Number_init2 .nil pass0 (pa_cons pe_int (pa_cons pe_int pa_nil))) (pa_cons (pe_make T.mk_Number (ok_Number_init T) (hr.mono (by decide)) (by rfl) T.m_Number T.b_Number_init2 .nil pass0 (pa_cons (pe_un un_neg pe_int) (pa_cons pe_int pa_nil))) pa_nil)))))))
 (pss_one (ps_ret (pe_ix ix_list (pv 5) (pe_call (ok_l_take T) (hr.mono (by decide)) (by rfl) T.m_l_take T.F_l_take.kp T.b_l_take .nil pass0 (pa_cons (pv 0) (pa_cons pe_int pa_nil))) (fun _ _ => rfl))))))), ?_⟩
    have rd := rows_ne w0 hr0 n0
    obtain ⟨rv, hrv, rt⟩ := id hr0
    have rvl := rt.1
    walk_at "rdh"
    refine ⟨r, rv, rfl, .inl (SqL.of hrv), ?_⟩
    walk_at "rdh"
    rw [rvl]
    refine rd_take w0 (by omega) (Nat.lt_of_lt_of_le (show ((rs.length : Nat) : Int).natAbs < 2 ^ 6 by omega) (Nat.pow_le_pow_right (by decide) (by decide))) fun at_ H1 o1 w1 at0 at1 => ?_
    obtain ⟨i, rfl⟩ := Int.eq_ofNat_of_zero_le at0
    have hi : i < rs.length := by omega
    obtain ⟨vs1, q1, g1, g2, g3, g4⟩ := hr0.get hi
    have B := rb _ (List.getElem_mem hi)
    generalize rs[i] = row at *
    refine r_ixL (o1 r _ rd g1) (atI_nat g3) ?_
    walk_at "rdh"
    refine r_gTup (o1.keep w0 g4 (fun _ z => by cases z)) rfl ?_
    walk_at "rdh"
    have big : ∀ {z : Int} {m : Nat}, z.natAbs < 2 ^ m → m ≤ 9000 → z.natAbs < 2 ^ 9000 := fun h l => Nat.lt_of_lt_of_le h (Nat.pow_le_pow_right (by decide) l)
    have bN : ∀ {t b : Int}, b ≠ 0 → t.natAbs < 2 ^ 100 → b.natAbs < 2 ^ 100 → Bd 100 (Rat.divInt t b) := fun h x y => Bd.of h x y
    have B1 := B.1
    have B2 := B.2
    have P84 : (2 : Nat) ^ 80 * 8 + 8 < 2 ^ 100 := by decide
    have r7 : (row.2.1 * 7 + 1).natAbs < 2 ^ 100 ∧ (row.2.1 * 7 - 1).natAbs < 2 ^ 100 ∧ (row.2.2 * 7).natAbs < 2 ^ 100 ∧ row.2.2 * 7 ≠ 0 := by omega
    have b80 : ∀ {z : Int}, z.natAbs < 2 ^ 80 → z.natAbs < 2 ^ 100 := fun h => Nat.lt_of_lt_of_le h (by decide)
    refine mk_num (by omega) (big B2.2 (by decide)) fun n1 G1 s1 _ h1 => ?_
    walk_at "rdh"
    refine mk_num (by omega) (big B2.2 (by decide)) fun n2 G2 s2 _ h2 => ?_
    walk_at "rdh"
    refine mk_num1 fun n3 G3 s3 _ h3 => ?_
    walk_at "rdh"
    refine mk_num1 fun n4 G4 s4 _ h4 => ?_
    walk_at "rdh"
    refine mk_num (by decide) (by decide) fun n5 G5 s5 _ h5 => ?_
    walk_at "rdh"
    refine r_new (by show 5 ≤ 1000; decide) fun l1 hl1 => ?_
    have sl1 := Same.new (o := .lst [.ref n1, .ref n2, .ref n3, .ref n4, .ref n5]) hl1
    have el1 := upd_same (H := G5) (a := l1) (o := HO.lst [.ref n1, .ref n2, .ref n3, .ref n4, .ref n5])
    generalize upd G5 l1 (.lst [.ref n1, .ref n2, .ref n3, .ref n4, .ref n5]) = G6 at *
    walk_at "rdh"
    refine mk_num r7.2.2.2 (big r7.2.2.1 (by decide)) fun n6 G7 s6 _ h6 => ?_
    walk_at "rdh"
    refine mk_num r7.2.2.2 (big r7.2.2.1 (by decide)) fun n7 G8 s7 _ h7 => ?_
    walk_at "rdh"
    refine mk_num (by decide) (by decide) fun n8 G9 s8 _ h8 => ?_
    walk_at "rdh"
    refine mk_num (by decide) (by decide) fun n9 GA s9 _ h9 => ?_
    walk_at "rdh"
    refine r_new (by show 4 ≤ 1000; decide) fun l2 hl2 => ?_
    have sl2 := Same.new (o := .lst [.ref n6, .ref n7, .ref n8, .ref n9]) hl2
    have el2 := upd_same (H := GA) (a := l2) (o := HO.lst [.ref n6, .ref n7, .ref n8, .ref n9])
    generalize upd GA l2 (.lst [.ref n6, .ref n7, .ref n8, .ref n9]) = GB at *
    have s69 := (((s6.trans s7).trans s8).trans s9).trans sl2
    refine r_cat (s69 _ _ el1) el2 (by show 9 ≤ 100000; decide) fun l3 hl3 => ?_
    have sl3 := Same.new (o := .lst ([.ref n1, .ref n2, .ref n3, .ref n4, .ref n5] ++ [.ref n6, .ref n7, .ref n8, .ref n9])) hl3
    have el3 := upd_same (H := GB) (a := l3) (o := HO.lst ([.ref n1, .ref n2, .ref n3, .ref n4, .ref n5] ++ [.ref n6, .ref n7, .ref n8, .ref n9]))
    generalize upd GB l3 (.lst ([.ref n1, .ref n2, .ref n3, .ref n4, .ref n5] ++ [.ref n6, .ref n7, .ref n8, .ref n9])) = GC at *
    have t6 := s69.trans sl3
    have all : ∀ v ∈ ([.ref n1, .ref n2, .ref n3, .ref n4, .ref n5] ++ [.ref n6, .ref n7, .ref n8, .ref n9] : List V), NB T.C_Number GC v := by
      have q1 : NB T.C_Number G1 (.ref n1) := ⟨n1, _, rfl, h1, bN (by omega) (b80 B1.2) (b80 B2.2)⟩
      have q2 : NB T.C_Number G2 (.ref n2) := ⟨n2, _, rfl, h2, bN (by omega) (b80 B1.2) (b80 B2.2)⟩
      have q3 : NB T.C_Number G3 (.ref n3) := ⟨n3, _, rfl, h3, Bd.int (by decide) (by decide)⟩
      have q4 : NB T.C_Number G4 (.ref n4) := ⟨n4, _, rfl, h4, Bd.int (by decide) (by decide)⟩
      have q5 : NB T.C_Number G5 (.ref n5) := ⟨n5, _, rfl, h5, bN (by decide) (by decide) (by decide)⟩
      have q6 : NB T.C_Number G7 (.ref n6) := ⟨n6, _, rfl, h6, bN r7.2.2.2 r7.1 r7.2.2.1⟩
      have q7 : NB T.C_Number G8 (.ref n7) := ⟨n7, _, rfl, h7, bN r7.2.2.2 r7.2.1 r7.2.2.1⟩
      have q8 : NB T.C_Number G9 (.ref n8) := ⟨n8, _, rfl, h8, bN (by decide) (by decide) (by decide)⟩
      have q9 : NB T.C_Number GA (.ref n9) := ⟨n9, _, rfl, h9, bN (by decide) (by decide) (by decide)⟩
      have u9 := sl2.trans sl3
      have u8 := s9.trans u9
      have u7 := s8.trans u8
      have u6 := s7.trans u7
      have u5 := sl1.trans t6
      have u4 := s5.trans u5
      have u3 := s4.trans u4
      have u2 := s3.trans u3
      have u1 := s2.trans u2
      intro v hv
      simp only [List.mem_append, List.mem_cons, List.not_mem_nil, or_false] at hv
      rcases hv with (rfl | rfl | rfl | rfl | rfl) | (rfl | rfl | rfl | rfl)
      · exact q1.same u1
      · exact q2.same u2
      · exact q3.same u3
      · exact q4.same u4
      · exact q5.same u5
      · exact q6.same u6
      · exact q7.same u7
      · exact q8.same u8
      · exact q9.same u9
    have sAll := ((((s1.trans s2).trans s3).trans s4).trans s5).trans (sl1.trans t6)
    walk_at "rdh"
    refine rd_take (w1.same sAll) (by decide) (by decide) fun e H9 o9 w9 e0 e1 => ?_
    obtain ⟨j, rfl⟩ := Int.eq_ofNat_of_zero_le e0
    have hj : j < ([.ref n1, .ref n2, .ref n3, .ref n4, .ref n5] ++ [.ref n6, .ref n7, .ref n8, .ref n9] : List V).length := by show j < 9; omega
    have m := all _ (List.getElem_mem hj)
    have ne3 : l3 ≠ d := fun z => by
      have wB := w1.same ((((s1.trans s2).trans s3).trans s4).trans s5)
      have wC := wB.same (sl1.trans s69)
      rw [z] at hl3
      obtain ⟨_, _, _, e⟩ := wC
      rw [e] at hl3
      cases hl3
    obtain ⟨q, x, ex, hx, bx⟩ := m
    refine r_ixL (o9 l3 _ ne3 el3) (atI_nat (by rw [List.getElem?_eq_getElem hj, ex])) ?_
    have wc := w1.same sAll
    obtain ⟨dx, hxe⟩ := hx
    exact k q x H9 ((o1.trans (Out.of sAll)).trans o9) w9 ⟨dx, o9.keep wc hxe (fun _ z => by cases z)⟩ bx
end
end My

namespace My
open PySem L2
/-! ### what can be shown -/
mutual
def shB : PyData → Bool
  | .none => true
  | .bool _ => true
  | .int i => decide (i.natAbs < 2 ^ 500)
  | .str z => decide (z.cps.size ≤ 500) && z.cps.toList.all fun c => decide (c < 16 ^ 8)
  | .tuple ds => shAll ds
  | .list ds => shAll ds
  | _ => false
def shAll : List PyData → Bool
  | [] => true
  | d :: ds => shB d && shAll ds
end
mutual
def szD : PyData → Nat
  | .tuple ds => szAll ds
  | .list ds => szAll ds
  | _ => 0
def szAll : List PyData → Nat
  | [] => 0
  | d :: ds => szD d + 1 + szAll ds
end
theorem log500 {z : Int} (h : z.natAbs < 2 ^ 500) : z.natAbs.log2 < 500 := PySem.Flt.log2_lt_of (by decide) h
theorem int_text_501 {a : Int} (h : a.natAbs.log2 < 500) : (PyData.shown (.int a)).length ≤ 501 := by
  have e := int_text_length_le (k := 500) (by decide) h
  show (Str.ofString (toString a)).length ≤ 501
  rw [PySem.ofString_length]
  exact e
mutual
theorem sh_ok : ∀ d : PyData, shB d = true → d.showable = true ∧ d.hasDict = false ∧ d.leavesShort 501 = true ∧ d.weight ≤ 502 + 503 * szD d
  | .none, _ => ⟨rfl, by simp [PyData.hasDict], rfl, by simp [PyData.weight]⟩
  | .bool b, _ => ⟨rfl, by simp [PyData.hasDict], rfl, by simp [PyData.weight]⟩
  | .int i, h => by
    have l := log500 (z := i) (of_decide_eq_true (show decide (i.natAbs < 2 ^ 500) = true from by simpa [shB] using h))
    refine ⟨?_, by simp [PyData.hasDict], ?_, ?_⟩
    · simp only [PyData.showable, decide_eq_true_eq]; omega
    · simp only [PyData.leavesShort, decide_eq_true_eq]
      exact int_text_501 l
    · simp only [PyData.weight]
      split <;> omega
  | .str z, h => by
    have h' : decide (z.cps.size ≤ 500) = true ∧ (z.cps.toList.all fun c => decide (c < 16 ^ 8)) = true := by
      have : (decide (z.cps.size ≤ 500) && z.cps.toList.all fun c => decide (c < 16 ^ 8)) = true := by
        unfold shB at h; exact h
      rw [Bool.and_eq_true] at this
      exact this
    refine ⟨rfl, by simp [PyData.hasDict], h'.2, ?_⟩
    have := of_decide_eq_true h'.1
    show z.cps.size ≤ _
    omega
  | .tuple ds, h => by
    obtain ⟨a, b, c, d⟩ := shs_ok ds (by unfold shB at h; exact h)
    refine ⟨a, ?_, c, ?_⟩
    · show PyData.hasDictAll ds = false
      exact b
    · show PyData.weightAll ds ≤ 502 + 503 * szAll ds
      omega
  | .list ds, h => by
    obtain ⟨a, b, c, d⟩ := shs_ok ds (by unfold shB at h; exact h)
    refine ⟨a, ?_, c, ?_⟩
    · show PyData.hasDictAll ds = false
      exact b
    · show PyData.weightAll ds ≤ 502 + 503 * szAll ds
      omega
  | .dict _, h => by simp [shB] at h
theorem shs_ok : ∀ ds : List PyData, shAll ds = true → PyData.showableAll ds = true ∧ PyData.hasDictAll ds = false ∧ PyData.leavesShortAll 501 ds = true ∧ PyData.weightAll ds ≤ 503 * szAll ds
  | [], _ => ⟨rfl, rfl, rfl, Nat.zero_le _⟩
  | d :: ds, h => by
    have h' : shB d = true ∧ shAll ds = true := by
      unfold shAll at h
      rw [Bool.and_eq_true] at h
      exact h
    obtain ⟨a, b, c, e⟩ := sh_ok d h'.1
    obtain ⟨a', b', c', e'⟩ := shs_ok ds h'.2
    refine ⟨?_, ?_, ?_, ?_⟩
    · show (PyData.showable d && PyData.showableAll ds) = true
      rw [a, a']; rfl
    · show (PyData.hasDict d || PyData.hasDictAll ds) = false
      rw [b, b']; rfl
    · show (PyData.leavesShort 501 d && PyData.leavesShortAll 501 ds) = true
      rw [c, c']; rfl
    · show PyData.weight d + 1 + PyData.weightAll ds ≤ 503 * (szD d + 1 + szAll ds)
      omega
end
theorem sh_ints : ∀ {cs : List Int}, (∀ c ∈ cs, c.natAbs < 2 ^ 500) → shAll (cs.map PyData.int) = true ∧ szAll (cs.map PyData.int) = cs.length
  | [], _ => ⟨rfl, rfl⟩
  | c :: cs, h => by
    obtain ⟨a, b⟩ := sh_ints (cs := cs) fun d hd => h d (List.mem_cons_of_mem _ hd)
    constructor
    · show (shB (.int c) && shAll (cs.map PyData.int)) = true
      rw [a, Bool.and_true]
      unfold shB
      exact decide_eq_true (h c (List.mem_cons_self ..))
    · show szD (.int c) + 1 + szAll (cs.map PyData.int) = (c :: cs).length
      rw [b, List.length_cons]
      show 0 + 1 + _ = _
      omega
/-- a tuple of whole numbers, shown -/
theorem rd_reprI {K : PySem.W.Frag} {H : Hp} {p : Addr} {cs : List Int} {Q : VK} (h : H p = some (.tup (cs.map V.int))) (b : ∀ c ∈ cs, c.natAbs < 2 ^ 500) (n : cs.length ≤ 60) (q : Q (.str (PyData.tuple (cs.map PyData.int)).shown) H) : rRepr K [.ref p] H Q := by
  obtain ⟨sa, sz⟩ := sh_ints b
  have f : shB (.tuple (cs.map PyData.int)) = true := by unfold shB; exact sa
  obtain ⟨g1, g2, g3, g4⟩ := sh_ok _ f
  have s0 : szD (.tuple (cs.map PyData.int)) = cs.length := sz
  have dp : (PyData.tuple (cs.map PyData.int)).depth ≤ 60 := by rw [PyData.depth, (lay_ints cs).2]; decide
  refine ⟨p, _, rfl, .tup (SqT.of h) (dp_ints cs), g1, g2, dp, ?_, q⟩
  have := PyData.shown_le 501 (by decide) _ g3
  have e : sizeLine = 16777216 := rfl
  omega
end My

namespace My
open PySem L2
theorem NumAt.out {C : Addr} {H H' : Hp} {d p : Addr} {x : Rat} (o : Out d H H') (w : WellAt H d) (h : NumAt C H p x) : NumAt C H' p x := let ⟨dx, e⟩ := h; ⟨dx, o.keep w e (fun _ z => by cases z)⟩
theorem NumsV.out {C : Addr} {H H' : Hp} {d : Addr} {vs : List V} {xs : List Rat} (o : Out d H H') (w : WellAt H d) (h : NumsV C H vs xs) : NumsV C H' vs xs := by
  induction h with
  | nil => exact .nil
  | cons a _ ih => exact .cons (a.out o w) ih
theorem PartsAt.out {C : Addr} {H H' : Hp} {d p : Addr} {xs : List Rat} (o : Out d H H') (w : WellAt H d) (h : PartsAt C H p xs) : PartsAt C H' p xs := let ⟨vs, a, b⟩ := h; ⟨vs, o.keep w a (fun _ z => by cases z), b.out o w⟩
theorem th_pap {st sb : Int} {ps : List (Int × Int)} {us : List Rat} {w : Rat} (hst : Stp st sb) (hb : ∀ p ∈ ps, OkP p) (hus : ps.map (uQ st sb) = us) (h : ThOk (ps.map (rowQ st sb)) (cntQ us) (ps.map (rowQ st sb)).length w) : PapOk us w := by
  have ul : us.length = ps.length := by rw [← hus, List.length_map]
  have rl : (ps.map (rowQ st sb)).length = ps.length := List.length_map _
  have at_ : ∀ {i : Nat}, i < us.length → ∃ r, (ps.map (rowQ st sb))[i]? = some r ∧ FQ us i = Rat.divInt r.2.1 r.2.2 ∧ fl us i = r.1 := fun {i} hi => by
    have hi' : i < ps.length := by omega
    have he := List.getElem?_eq_getElem hi'
    have F := F_row hst hb he
    rw [hus] at F
    exact ⟨_, by rw [List.getElem?_map, he]; rfl, F.1, F.2⟩
  refine ⟨h.lo, h.hi, fun i hi r => ?_, fun i hi r => ?_⟩
  · obtain ⟨row, e1, e2, e3⟩ := at_ hi
    rw [e2]
    exact h.up i row _ (by omega) e1 (cnt_at hi) (by rw [if_pos r, e3]; omega)
  · rcases h.at_ with e | ⟨j, row, c, hj, e1, e2, e3, e4⟩
    · rw [e]; exact Rat.le_of_lt (FQ_lt us i)
    · have hj' : j < us.length := by omega
      obtain ⟨row', f1, f2, f3⟩ := at_ hj'
      rw [e1] at f1
      obtain rfl := Option.some.inj f1
      rw [cnt_at hj'] at e2
      have c2 := Option.some.inj e2
      have rj : rank (FQ us) us.length j < kQ us := by
        refine Classical.byContradiction fun z => ?_
        rw [if_neg z, f3] at c2
        omega
      rw [e4, ← f2]
      refine Rat.not_lt.mp fun z => ?_
      have := (rank_lt hi hj').mpr (.inl z)
      omega
/-- a list of truths, shown -/
theorem rd_reprB {K : PySem.W.Frag} {H : Hp} {p : Addr} {b : Bool} {Q : VK} (h : H p = some (.lst [.bl b, .bl b])) (q : Q (.str (PyData.list [.bool b, .bool b]).shown) H) : rRepr K [.ref p] H Q := by
  have f : shB (.list [.bool b, .bool b]) = true := rfl
  obtain ⟨g1, g2, g3, g4⟩ := sh_ok _ f
  have s0 : szD (.list [.bool b, .bool b]) = 2 := rfl
  have dp : (PyData.list [.bool b, .bool b]).depth ≤ 60 := by simp [PyData.depth, PyData.depthAll]
  refine ⟨p, _, rfl, .lst (SqL.of h) (.cons (.bl b) (.cons (.bl b) .nil)), g1, g2, dp, ?_, q⟩
  have := PyData.shown_le 501 (by decide) _ g3
  have e : sizeLine = 16777216 := rfl
  omega
theorem cnt_bd65 {n : Nat} {us : List Rat} (h : ∀ u ∈ us, Bd n u) : ∀ c ∈ cntQ us, c.natAbs ≤ 2 ^ n := by
  intro c hc
  obtain ⟨i, hi⟩ := List.getElem?_of_mem hc
  have il : i < us.length := by rw [← cnt_len us]; exact (List.getElem?_eq_some_iff.mp hi).1
  have b := floor_bd (h us[i] (List.getElem_mem il))
  have f := fl_at (List.getElem?_eq_getElem il)
  rw [cnt_at il, f] at hi
  have hi' := Option.some.inj hi
  split at hi' <;> omega
section
variable {P : Program} {w : World} {K : PySem.W.Frag} {mg : Str → Option Value} {base : Heap}
theorem same_out65 {H H1 H2 : Hp} {d : Addr} (s : Same H H1) (n : H d = none) (o : Out d H1 H2) : Same H H2 := fun b u e => o b u (ne_of_none e n) (s _ _ e)
def spLaw (K : PySem.W.Frag) : Sp := fun vs H Q _ => ∃ (a : Addr) (ns : List Int), vs = [.ref a] ∧ SqL K H a (ns.map V.int) ∧ ns.length ≤ 63 ∧ ∀ H', Q (.bl true) H'
theorem okG_law (T : Txt w K mg) : FnG P w K mg base 12 T.f_law T.fd_law ["_law_script"] (spLaw K) := by
  refine FnG.by_body T.F_law sc_law (fun vs H Q E h => ?_) (fun cdv A outer s H vs Q E hG hr h => ?_)
  · obtain ⟨a, ns, rfl, _⟩ := h
    rfl
  · obtain ⟨a, ns, rfl, hS, hl, k⟩ := h
    refine ⟨_, (pss_cons (ps_for PassesOwn.never rfl (pi_range1 rfl T.n_range (pa_cons (pe_callB (call_max2 rfl) (by rfl) T.n_max (by decide +kernel) (pa_cons pe_int (pa_cons (pe_callB (call_min2 rfl) (by rfl) T.n_min (by decide +kernel) (pa_cons (pe_callB call_len_seq (by rfl) T.n_len PySem.boot_len (pa_cons (pv 0) pa_nil)) (pa_cons pe_int pa_nil))) pa_nil))) pa_nil)) (pg_name (i := 1) sc_law.nd rfl (Or.inl rfl))
  (pss_cons (ps_set (i := 2) sc_law.nd rfl (Or.inl rfl) (pe_call (ok_l_well T) (hr.mono (by decide)) (by rfl) T.m_l_well T.F_l_well.kp T.b_l_well .nil pass0 (pa_cons (pv 0) (pa_cons (pv 1) pa_nil))))
 (pss_cons (ps_set (i := 3) sc_law.nd rfl (Or.inl rfl) (pe_cmpR op_eq (pe_call (ok_l_take T) (hr.mono (by decide)) (by rfl) T.m_l_take T.F_l_take.kp T.b_l_take .nil pass0 (pa_cons (pv 2) (pa_cons pe_int pa_nil))) pe_int (nomark _)))
 (pss_cons (ps_set (i := 4) sc_law.nd rfl (Or.inl rfl) (pe_call (ok_l_step T) (hr.mono (by decide)) (by rfl) T.m_l_step T.F_l_step.kp T.b_l_step .nil pass0 (pa_cons (pv 2) pa_nil)))
 (pss_cons (ps_set (i := 5) sc_law.nd rfl (Or.inl rfl) (pe_call (ok_l_parts T) (hr.mono (by decide)) (by rfl) T.m_l_parts T.F_l_parts.kp T.b_l_parts .nil pass0 (pa_cons (pv 2) (pa_cons (pv 4) (pa_cons (pe_ix ix_list (pe_lst (pa_cons pe_int (pa_cons pe_int pa_nil))) (pe_callTy call_int1 (by rfl) T.n_int (by decide +kernel) (pa_cons (pv 3) pa_nil)) (fun _ _ => rfl)) pa_nil)))))
 (pss_cons (ps_par (i := 6) (j := 7) rfl sc_law.nd rfl rfl (by decide) rfl rfl (pa_cons (pe_call (ok_l_made T) (hr.mono (by decide)) (by rfl) T.m_l_made T.F_l_made.kp T.b_l_made .nil pass0 (pa_cons (pv 5) pa_nil)) (pa_cons (pe_make T.mk_Number (ok_Number_init T) (hr.mono (by decide)) (by rfl) T.m_Number T.b_Number_init2 .nil pass0 (pa_cons (pe_ix ix_tup (pv 4) pe_int (fun _ _ => rfl)) (pa_cons (pe_ix ix_tup (pv 4) pe_int (fun _ _ => rfl)) pa_nil))) pa_nil)) (by rfl))
 (pss_cons (ps_par (i := 8) (j := 9) rfl sc_law.nd rfl rfl (by decide) rfl rfl (pa_cons (pe_call (ok_l_beyond T) (hr.mono (by decide)) (by rfl) T.m_l_beyond T.F_l_beyond.kp T.b_l_beyond .nil pass0 (pa_cons (pv 5) (pa_cons (pv 4) pa_nil))) (pa_cons (pe_call (ok_l_counts T) (hr.mono (by decide)) (by rfl) T.m_l_counts T.F_l_counts.kp T.b_l_counts .nil pass0 (pa_cons (pv 5) (pa_cons (pv 4) pa_nil))) pa_nil)) (by rfl))
 (pss_cons (ps_set (i := 10) sc_law.nd rfl (Or.inl rfl) (pe_tup (pa_cons (pv 9) (pa_cons (pe_call (ok_l_threshold T) (hr.mono (by decide)) (by rfl) T.m_l_threshold T.F_l_threshold.kp T.b_l_threshold .nil pass0 (pa_cons (pv 8) (pa_cons (pv 9) pa_nil))) pa_nil))))
 (pss_cons (ps_if (PW.pt (pw_or (pt_not (pt_val (pe_call (ok_l_holds T) (hr.mono (by decide)) (by rfl) T.m_l_holds T.F_l_holds.kp T.b_l_holds .nil pass0 (pa_cons (pv 5) (pa_cons (pv 4) (pa_cons (pv 10) pa_nil)))))) (pw_or1 (pt_cmpR op_notBl (pe_call (ok_sum_holds T) (hr.mono (by decide)) (by rfl) T.m_sum_holds T.F_sum_holds.kp T.b_sum_holds .nil pass0 (pa_cons (pv 6) (pa_cons (pv 7) (pa_cons (pv 10) pa_nil)))) pe_bl (nomark _)))))
  (pss_one (ps_ret pe_bl))
  pss_nil)
 (pss_one (ps_for PassesOwn.never rfl (pi_range1 rfl T.n_range (pa_cons pe_int pa_nil)) (pg_name (i := 11) sc_law.nd rfl (Or.inl rfl))
  (pss_cons (ps_set (i := 12) sc_law.nd rfl (Or.inl rfl) (pe_tup (pa_cons (pe_call (ok_l_by_hand T) (hr.mono (by decide)) (by rfl) T.m_l_by_hand T.F_l_by_hand.kp T.b_l_by_hand .nil pass0 (pa_cons (pv 2) (pa_cons (pv 8) (pa_cons (pv 9) pa_nil)))) (pa_cons (pe_call (ok_l_paper T) (hr.mono (by decide)) (by rfl) T.m_l_paper T.F_l_paper.kp T.b_l_paper .nil pass0 (pa_cons (pv 2) (pa_cons (pv 8) pa_nil))) pa_nil))))
 (C8.pss_cut (ps_if (pt_cmpR op_eq (pe_op op_mod (pv 11) pe_int) pe_int (nomark _))
  (pss_one (ps_set (i := 12) sc_law.nd rfl (Or.inl rfl) (pe_tup (pa_cons (pe_call (ok_l_by_hand T) (hr.mono (by decide)) (by rfl) T.m_l_by_hand T.F_l_by_hand.kp T.b_l_by_hand .nil pass0 (pa_cons (pv 2) (pa_cons (pv 8) (pa_cons (pv 9) pa_nil)))) (pa_cons (pe_ix ix_tup (pv 10) pe_int (fun _ _ => rfl)) pa_nil)))))
  pss_nil)
 (pss_cons (ps_set (i := 13) sc_law.nd rfl (Or.inl rfl) (pe_lst (pa_cons (pe_call (ok_sum_holds T) (hr.mono (by decide)) (by rfl) T.m_sum_holds T.F_sum_holds.kp T.b_sum_holds .nil pass0 (pa_cons (pv 6) (pa_cons (pv 7) (pa_cons (pv 12) pa_nil)))) (pa_cons (pe_call (ok_sum_holds T) (hr.mono (by decide)) (by rfl) T.m_sum_holds T.F_sum_holds.kp T.b_sum_holds .nil pass0 (pa_cons (pv 6) (pa_cons (pv 7) (pa_cons (pv 12) pa_nil)))) pa_nil))))
 (pss_one (ps_if (pt_cmpR op_ne (pe_callB (call_repr hG hr.units) (by rfl) T.n_repr (by decide +kernel) (pa_cons (pv 13) pa_nil)) (pe_callB (call_repr hG hr.units) (by rfl) T.n_repr (by decide +kernel) (pa_cons (pe_op op_rep (pe_lst (pa_cons (pe_call (ok_l_holds T) (hr.mono (by decide)) (by rfl) T.m_l_holds T.F_l_holds.kp T.b_l_holds .nil pass0 (pa_cons (pv 5) (pa_cons (pv 4) (pa_cons (pv 12) pa_nil)))) pa_nil)) pe_int) pa_nil)) (nomark _))
  (pss_one (ps_ret pe_bl))
  pss_nil))))))))))))))))
 (pss_one (ps_ret pe_bl))), ?_⟩
    have E6' : (10 : Int) ^ 6 = 1000000 := rfl
    have E12' : (10 : Int) ^ 12 = 1000000000000 := rfl
    walk_at "rdh"
    refine r_rng1 ?_
    walk_at "rdh"
    refine ⟨a, _, rfl, .inl hS, ?_⟩
    walk_at "rdh"
    refine ⟨_, _, rfl, ?_⟩
    walk_at "rdh"
    refine ⟨_, _, rfl, ?_⟩
    walk_at "rdh"
    rw [List.length_map]
    have nb : (if (if (4 : Int) < (ns.length : Int) then 4 else (ns.length : Int)) > 1 then (if (4 : Int) < (ns.length : Int) then 4 else (ns.length : Int)) else 1) ≤ 4 ∧ 0 ≤ (if (if (4 : Int) < (ns.length : Int) then 4 else (ns.length : Int)) > 1 then (if (4 : Int) < (ns.length : Int) then 4 else (ns.length : Int)) else 1) := by
      split <;> split <;> omega
    generalize (if (if (4 : Int) < (ns.length : Int) then 4 else (ns.length : Int)) > 1 then (if (4 : Int) < (ns.length : Int) then 4 else (ns.length : Int)) else 1) = tn at *
    refine ⟨tn, rfl, by omega, by omega, for_range (lo := 0) (n := tn.toNat) (fun i σ H' => ∃ (v1 v2 v3 v4 v5 v6 v7 v8 v9 v10 v11 v12 v13 : Option V), σ = [some (.ref a), v1, v2, v3, v4, v5, v6, v7, v8, v9, v10, v11, v12, v13] ∧ Same H H')
      ⟨none, none, none, none, none, none, none, none, none, none, none, none, none, rfl, Same.refl _⟩ ?_ ?_⟩
    · rintro i σ H1 hi ⟨v1, v2, v3, v4, v5, v6, v7, v8, v9, v10, v11, v12, v13, rfl, s1⟩
      walk_at "rdh"
      have hk : (0 : Int) + (i : Int) = ((i : Nat) : Int) := by omega
      rw [hk]
      refine ⟨a, ns, i, rfl, SqL.ext hS s1, fun d H2 s2 nd w2 => ?_⟩
      have nd0 : H d = none := by
        cases e : H d with
        | none => rfl
        | some o => rw [s1 _ _ e] at nd; cases nd
      have s02 := s1.trans s2
      walk_at "rdh"
      refine rd_take w2 (by decide) (by decide) fun gr H3 o3 w3 g0 g1 => ?_
      walk_at "rdh"
      refine ⟨d, rfl, w3, fun sp st sb H4 o4 w4 ⟨hsp, _⟩ ⟨le1, le2⟩ => ?_⟩
      have pos : 0 < st ∧ 0 < sb := by
        rename_i q
        exact ⟨q.1.1, q.2.1⟩
      have hst : Stp st sb := by
        unfold Stp
        rw [E12']
        rw [E6'] at le1 le2
        omega
      walk_at "rdh"
      refine r_new (by show 2 ≤ 1000; decide) fun gl hgl => ?_
      have sgl := Same.new (o := .lst [.int 6, .int 12]) hgl
      have egl := upd_same (H := H4) (a := gl) (o := HO.lst [.int 6, .int 12])
      generalize upd H4 gl (.lst [.int 6, .int 12]) = H5 at *
      walk_at "rdh"
      refine .inr ⟨_, rfl, ?_⟩
      refine r_ixL egl (two_at _) ?_
      walk_at "rdh"
      have mst : 0 < (if decide (gr = 5) = true then (12 : Int) else 6) ∧ (if decide (gr = 5) = true then (12 : Int) else 6) ≤ 12 := by split <;> omega
      generalize (if decide (gr = 5) = true then (12 : Int) else 6) = most at *
      refine ⟨d, sp, st, sb, most, rfl, w4.same sgl, sgl _ _ hsp, ⟨⟨pos.1, le1⟩, ⟨pos.2, le2⟩⟩, mst, fun p ps H6 o6 w6 hp np pl okp => ?_⟩
      have w5 := w4.same sgl
      have pd := well_ne w5 np
      have hsp6 := o6.keep w5 (sgl _ _ hsp) (fun _ z => by cases z)
      have o26 := ((o3.trans o4).trans (Out.of sgl)).trans o6
      have l40 : ps.length ≤ 40 := by omega
      walk_at "rdh"
      refine ⟨p, ps, rfl, hp, okp, l40, fun m H7 s7 hm => ?_⟩
      walk_at "rdh"
      refine r_ixT (s7 _ _ hsp6) (atI_nat (j := 0) rfl) ?_
      walk_at "rdh"
      refine r_ixT (s7 _ _ hsp6) (atI_nat (j := 1) rfl) ?_
      walk_at "rdh"
      have stb := stp_lt hst
      refine mk_num (by omega) (Nat.lt_of_lt_of_le stb.2 (Nat.pow_le_pow_right (by decide) (by decide))) fun n H8 s8 n8 hn8 => ?_
      have s68 := s7.trans s8
      walk_at "rdh"
      refine ⟨p, sp, ps, st, sb, rfl, hp.same s68, ⟨s68 _ _ hsp6, hst⟩, okp, l40, fun r H9 s9 hr9 => ?_⟩
      have s69 := s68.trans s9
      walk_at "rdh"
      refine ⟨p, sp, ps, st, sb, rfl, hp.same s69, ⟨s69 _ _ hsp6, hst⟩, okp, l40, fun u HA sa hu => ?_⟩
      have s6A := s69.trans sa
      generalize hus : ps.map (uQ st sb) = us at *
      have ul : us.length = ps.length := by rw [← hus, List.length_map]
      have rsl : (ps.map (rowQ st sb)).length = ps.length := List.length_map _
      have rB : ∀ x ∈ ps.map (rowQ st sb), RowB x := fun x hx => by
        obtain ⟨e, he, rfl⟩ := List.mem_map.mp hx
        exact row_lt hst (okp e he)
      have ub : ∀ v ∈ us, Bd 145 v := fun v hv => by
        rw [← hus] at hv
        obtain ⟨e, he, rfl⟩ := List.mem_map.mp hv
        have o := okp e he
        have up := under_pos hst o
        exact Bd.of (by omega) (over_lt hst o) (Nat.lt_of_lt_of_le (under_lt hst o) (by decide))
      have rb1 : ∀ x ∈ ps.map (rowQ st sb), x.1.natAbs ≤ 2 ^ 145 := fun x hx => by
        obtain ⟨e, he, rfl⟩ := List.mem_map.mp hx
        have := floor_bd (ub _ (by rw [← hus]; exact List.mem_map.mpr ⟨e, he, rfl⟩))
        rw [fl_row hst (okp e he)] at this
        omega
      have cl := cnt_len us
      have cb := cnt_bd65 ub
      walk_at "rdh"
      refine ⟨r, u, _, cntQ us, rfl, hr9.same sa, rB, hu, by omega, fun tq wq0 HB sb' htq th wb0 => ?_⟩
      have pap := th_pap hst okp hus th
      walk_at "rdh"
      refine r_new (by show 2 ≤ 1000; decide) fun gd hgd => ?_
      have sgd := Same.new (o := .tup [.ref u, .ref tq]) hgd
      have egd := upd_same (H := HB) (a := gd) (o := HO.tup [.ref u, .ref tq])
      generalize upd HB gd (.tup [.ref u, .ref tq]) = HC at *
      have s6C := (s6A.trans sb').trans sgd
      have sAC := sb'.trans sgd
      have huC := sAC _ _ hu
      have hpC := hp.same s6C
      have hspC := s6C _ _ hsp6
      have hmC := hm.same (((s8.trans s9).trans sa).trans sAC)
      have hnC := hn8.same ((s9.trans sa).trans sAC)
      have hrC := hr9.same (sa.trans sAC)
      have htqC := htq.same sgd
      have wC := w6.same s6C
      have o2C := o26.trans (Out.of s6C)
      have y0 : 0 < Rat.divInt st sb := (div_pos_iff pos.2).mpr pos.1
      have yb : Bd 45 (Rat.divInt st sb) := Bd.of (by omega) (Nat.lt_of_lt_of_le stb.1 (by decide)) (Nat.lt_of_lt_of_le stb.2 (by decide))
      have xb : ∀ x ∈ ps.map xQ, Bd 105 x := fun x hx => by
        obtain ⟨e, he, rfl⟩ := List.mem_map.mp hx
        have o1 := (okp e he).1
        exact Bd.of (by omega) (okp e he).2 (by omega)
      have xo := xs_over hst okp
      have so : sumQ (ps.map xQ) / Rat.divInt st sb = sumQ us := by rw [← sumQ_over, xo, hus]
      rw [hus] at xo
      have big : (2 : Nat) ^ 145 < 2 ^ 1000 := Nat.pow_lt_pow_right (by decide) (by decide)
      have cb1 : ∀ c ∈ cntQ us, c.natAbs < 2 ^ 1000 := fun c hc => Nat.lt_of_le_of_lt (cb c hc) big
      have ap : allPut us (cntQ us) wq0 = true := put_all cl fun i u c hu hc => put_told pap hu hc
      have inr : inR wq0 = true := by
        unfold inR
        rw [decide_eq_true (Rat.num_nonneg.mpr pap.lo), decide_eq_true (num_le_den pap.hi)]
        rfl
      have lim : (105 + 1) * ((ps.map xQ).length + 1) ≤ 2300 ∧ 105 ≤ 900 := by
        rw [List.length_map]
        have : ps.length + 1 ≤ 13 := by omega
        have := Nat.mul_le_mul_left 106 this
        omega
      walk_at "rdh"
      refine ⟨p, sp, gd, u, tq, ps, st, sb, cntQ us, wq0, rfl, hpC, ⟨hspC, hst⟩, okp, l40, ⟨egd, huC, htqC⟩, by omega, wb0.mono (by decide), fun HD sd => ?_⟩
      rw [hus, inr, ap, cnt_sum, decide_eq_true rfl]
      walk_at "rdh"
      refine r_iteF rfl ?_
      walk_at "rdh"
      refine ⟨m, n, gd, u, tq, ps.map xQ, Rat.divInt st sb, wq0, cntQ us, 105, rfl, hmC.same sd, hnC.same sd, ⟨y0, yb⟩, xb, by rw [List.length_map]; omega, lim, ⟨sd _ _ egd, sd _ _ huC, htqC.same sd⟩, by rw [List.length_map]; omega, cb1, wb0.mono (by decide), fun HE se => ?_⟩
      have inr' : (decide (0 ≤ wq0.num) && decide (wq0.num ≤ (wq0.den : Int))) = true := inr
      rw [inr', xo, ap, so, round_iff, cnt_sum, decide_eq_true rfl]
      walk_at "rdh"
      refine ⟨_, _, rfl, rfl, ?_⟩
      walk_at "rdh"
      refine r_iteF rfl ?_
      have sCE := sd.trans se
      walk_at "rdh"
      refine r_rng1 ?_
      walk_at "rdh"
      have rne : r ≠ d := rows_ne wC hrC (by omega)
      have keepT : ∀ {H' : Hp} {q : Addr} {xs : List V}, Out d HC H' → HC q = some (.tup xs) → H' q = some (.tup xs) := fun o e => o.keep wC e (fun _ z => by cases z)
      have MB : 20 * 2 ^ 145 + 20 < 2 ^ 1000 := Nat.lt_of_lt_of_le (show 20 * 2 ^ 145 + 20 < 2 ^ 150 by decide) (Nat.pow_le_pow_right (by decide) (by decide))
      refine ⟨20, rfl, by decide, by decide, for_range (lo := 0) (n := 20) (fun j σ H' => ∃ (v11 v12 v13 : Option V), σ = [some (.ref a), some (.int (i : Int)), some (.ref d), some (.bl (decide (gr = 5))), some (.ref sp), some (.ref p), some (.ref m), some (.ref n), some (.ref r), some (.ref u), some (.ref gd), v11, v12, v13] ∧ Out d HC H' ∧ WellAt H' d)
        ⟨v11, v12, v13, rfl, Out.of sCE, wC.same sCE⟩ ?_ ?_⟩
      · rintro j σ HF hj ⟨v11, v12, v13, rfl, oF, wF⟩
        walk_at "rdh"
        refine ⟨d, r, u, _, cntQ us, 2 ^ 145, rfl, wF, hrC.out oF wC rne, by omega, rb1, keepT oF huC, by omega, cb, fun pc cs HG oG wG hpc csl csb => ?_⟩
        walk_at "rdh"
        refine ⟨d, r, _, rfl, wG, (hrC.out oF wC rne).out oG wF rne, by omega, rB, fun pq wq HI oI wI hpq wqb => ?_⟩
        walk_at "rdh"
        refine r_new (by show 2 ≤ 1000; decide) fun th1 hth1 => ?_
        have st1 := Same.new (o := .tup [.ref pc, .ref pq]) hth1
        have et1 := upd_same (H := HI) (a := th1) (o := HO.tup [.ref pc, .ref pq])
        generalize upd HI th1 (.tup [.ref pc, .ref pq]) = HJ at *
        have oJ := ((oF.trans oG).trans oI).trans (Out.of st1)
        have wJ := wI.same st1
        walk_at "rdh"
        refine r_cut (fun σ' H' => ∃ (th pc pq : Addr) (cs : List Int) (wq : Rat), σ' = [some (.ref a), some (.int (i : Int)), some (.ref d), some (.bl (decide (gr = 5))), some (.ref sp), some (.ref p), some (.ref m), some (.ref n), some (.ref r), some (.ref u), some (.ref gd), some (.int (0 + (j : Int))), some (.ref th), v13] ∧ Out d HC H' ∧ WellAt H' d ∧ H' th = some (.tup [.ref pc, .ref pq]) ∧ H' pc = some (.tup (cs.map V.int)) ∧ NumAt T.C_Number H' pq wq ∧ cs.length = ps.length ∧ (∀ c ∈ cs, c.natAbs ≤ 20 * 2 ^ 145 + 20) ∧ Bd 100 wq) ?_ ?_
        · walk_at "rdh"
          refine r_ite (fun c1 => ?_) (fun c1 => ?_)
          · walk_at "rdh"
            refine ⟨d, r, u, _, cntQ us, 2 ^ 145, rfl, wJ, hrC.out oJ wC rne, by omega, rb1, keepT oJ huC, by omega, cb, fun pc2 cs2 HK oK wK hpc2 csl2 csb2 => ?_⟩
            have oCK := oJ.trans oK
            walk_at "rdh"
            refine r_ixT (keepT oCK egd) (atI_nat (j := 1) rfl) ?_
            walk_at "rdh"
            refine r_new (by show 2 ≤ 1000; decide) fun th2 hth2 => ?_
            have st2 := Same.new (o := .tup [.ref pc2, .ref tq]) hth2
            exact ⟨th2, pc2, tq, cs2, wq0, rfl, oCK.trans (Out.of st2), wK.same st2, upd_same, st2 _ _ hpc2, (htqC.out oCK wC).same st2, by rw [csl2, rsl], csb2, wb0⟩
          · walk_at "rdh"
            exact ⟨th1, pc, pq, cs, wq, rfl, oJ, wJ, et1, st1 _ _ (oI.keep wG hpc (fun _ z => by cases z)), hpq.same st1, by rw [csl, rsl], csb, wqb⟩
        rintro σ' HK ⟨th, pc', pq', cs', wq', rfl, oK, wK, hth, hpc', hpq', csl', csb', wqb'⟩
        have cs1 : ∀ c ∈ cs', c.natAbs < 2 ^ 1000 := fun c hc => Nat.lt_of_le_of_lt (csb' c hc) MB
        have hmK := hmC.out oK wC
        have hnK := hnC.out oK wC
        have bE : (inR wq' && (allPut us cs' wq' && decide (cs'.sum = takenQ .heven (sumQ us)))) = ((decide (0 ≤ wq'.num) && decide (wq'.num ≤ (wq'.den : Int))) && (allPut us cs' wq' && roundB (sumQ us) cs'.sum)) := by rw [round_iff]; rfl
        walk_at "rdh"
        refine ⟨m, n, th, pc', pq', ps.map xQ, Rat.divInt st sb, wq', cs', 105, rfl, hmK, hnK, ⟨y0, yb⟩, xb, by rw [List.length_map]; omega, lim, ⟨hth, hpc', hpq'⟩, by rw [List.length_map]; exact csl', cs1, wqb'.mono (by decide), fun HL sL => ?_⟩
        rw [xo, so, ← bE]
        walk_at "rdh"
        refine ⟨m, n, th, pc', pq', ps.map xQ, Rat.divInt st sb, wq', cs', 105, rfl, hmK.same sL, hnK.same sL, ⟨y0, yb⟩, xb, by rw [List.length_map]; omega, lim, ⟨sL _ _ hth, sL _ _ hpc', hpq'.same sL⟩, by rw [List.length_map]; exact csl', cs1, wqb'.mono (by decide), fun HM sM => ?_⟩
        rw [xo, so, ← bE]
        generalize hB : (inR wq' && (allPut us cs' wq' && decide (cs'.sum = takenQ .heven (sumQ us)))) = B at *
        walk_at "rdh"
        refine r_new (by show 2 ≤ 1000; decide) fun tl htl => ?_
        have stl := Same.new (o := .lst [.bl B, .bl B]) htl
        have etl := upd_same (H := HM) (a := tl) (o := HO.lst [.bl B, .bl B])
        generalize upd HM tl (.lst [.bl B, .bl B]) = HN at *
        have sKN := (sL.trans sM).trans stl
        have oN := oK.trans (Out.of sKN)
        walk_at "rdh"
        refine rd_reprB etl ?_
        walk_at "rdh"
        refine ⟨p, sp, th, pc', pq', ps, st, sb, cs', wq', rfl, hpC.out oN wC pd, ⟨keepT oN hspC, hst⟩, okp, l40, ⟨sKN _ _ hth, sKN _ _ hpc', hpq'.same sKN⟩, csl', wqb'.mono (by decide), fun HO' sO => ?_⟩
        rw [hus, hB]
        walk_at "rdh"
        refine r_new (by show 1 ≤ 1000; decide) fun ol hol => ?_
        have sol := Same.new (o := .lst [.bl B]) hol
        walk_at "rdh"
        refine ⟨ol, 2, [.bl B], rfl, rfl, upd_same, by decide, by decide, by show 1 * 2 ≤ sizeLine; decide, fun o2 ho2 => ?_⟩
        have so2 := Same.new (o := .lst [.bl B, .bl B]) ho2
        have ef : (List.replicate (2 : Int).toNat [V.bl B]).flatten = [.bl B, .bl B] := rfl
        rw [ef]
        walk_at "rdh"
        refine rd_reprB (b := B) upd_same ?_
        refine r_ne rfl ?_
        walk_at "rdh"
        refine r_iteF (by simp) ?_
        walk_at "rdh"
        have sF := ((sKN.trans sO).trans sol).trans so2
        exact ⟨_, _, _, rfl, oK.trans (Out.of sF), wK.same sF⟩
      · rintro σ HF ⟨v11, v12, v13, rfl, oF, wF⟩
        walk_at "rdh"
        exact ⟨_, _, _, _, _, _, _, _, _, _, _, _, _, rfl, same_out65 s02 nd0 (o2C.trans oF)⟩
    · rintro σ H1 ⟨v1, v2, v3, v4, v5, v6, v7, v8, v9, v10, v11, v12, v13, rfl, s1⟩
      walk_at "rdh"
      exact k _
end
end My

namespace My
open PySem L2
theorem kit_self {K : PySem.W.Frag} {C : Addr} : PySem.W.kitOne K (.ref C) (.ref C) = some true := if_pos (by simp)
theorem bi_Number_init {K : PySem.W.Frag} {f : Addr} {fd : FuncData} (F : FunD K "__init__" "Number.__init__" (defArgs s_Number_init) (defBody s_Number_init) (defScope s_Number_init) [V.int 1] [] f fd) :
    Binds K fd ["self", "top", "bottom"] [] ∧ ∃ ds : List Value, Vals [V.int 1] ds ∧ Binds K fd ["self", "top", "bottom"] ds := by
  constructor
  · obtain ⟨ds, r, b⟩ := F.binds1 (ps := ["self", "top", "bottom"]) 3 1 (by simp) rfl fun T kV doc pm an cdv ct us its h1 h2 => match us, its, h1, h2 with | [_, _, _], [_], _, _ => ⟨_, rfl, rfl⟩
    cases r
    exact b
  · exact F.binds1 (ps := ["self", "top", "bottom"]) 2 0 (by simp) rfl fun T kV doc pm an cdv ct us its h1 h2 => match us, its, h1, h2 with | [_, _], [_], _, _ => ⟨_, rfl, rfl⟩
theorem all_mk {l : PySem.W.OpenLaw} {w : World} {K : PySem.W.Frag} {h : Heap} {mg : Str → Option Value} {fa : Addr} (X : K.In h) (G : h.Ns mainGlobals mg) (hfa : mg "law" = some (.ref fa))
    {C_Number : Addr}
    {f_is_whole : Addr} {od_is_whole an_is_whole : Option Addr} {sl_is_whole : Array (Option Value)} {oc_is_whole dc_is_whole pm_is_whole cd_is_whole ct_is_whole : Value}
    {kV_is_whole : Value}
    {f_Number_init : Addr} {od_Number_init an_Number_init : Option Addr} {sl_Number_init : Array (Option Value)} {oc_Number_init dc_Number_init pm_Number_init cd_Number_init ct_Number_init : Value}
    {kV_Number_init : Value}
    {Td_Number_init : Addr} {cT_Number_init : Value} {dT_Number_init : Option Addr} {nT_Number_init : Nat} {sT_Number_init : Array (Option Value)} {tk_Number_init : Tok}
    {f_Number_more : Addr} {od_Number_more an_Number_more : Option Addr} {sl_Number_more : Array (Option Value)} {oc_Number_more dc_Number_more pm_Number_more cd_Number_more ct_Number_more : Value}
    {kV_Number_more : Value}
    {f_Number_less : Addr} {od_Number_less an_Number_less : Option Addr} {sl_Number_less : Array (Option Value)} {oc_Number_less dc_Number_less pm_Number_less cd_Number_less ct_Number_less : Value}
    {kV_Number_less : Value}
    {f_Number_over : Addr} {od_Number_over an_Number_over : Option Addr} {sl_Number_over : Array (Option Value)} {oc_Number_over dc_Number_over pm_Number_over cd_Number_over ct_Number_over : Value}
    {kV_Number_over : Value}
    {f_Number_below : Addr} {od_Number_below an_Number_below : Option Addr} {sl_Number_below : Array (Option Value)} {oc_Number_below dc_Number_below pm_Number_below cd_Number_below ct_Number_below : Value}
    {kV_Number_below : Value}
    {f_total_of : Addr} {od_total_of an_total_of : Option Addr} {sl_total_of : Array (Option Value)} {oc_total_of dc_total_of pm_total_of cd_total_of ct_total_of : Value}
    {kV_total_of : Value}
    {f_sum_holds : Addr} {od_sum_holds an_sum_holds : Option Addr} {sl_sum_holds : Array (Option Value)} {oc_sum_holds dc_sum_holds pm_sum_holds cd_sum_holds ct_sum_holds : Value}
    {kV_sum_holds : Value}
    {f_is_told : Addr} {od_is_told an_is_told : Option Addr} {sl_is_told : Array (Option Value)} {oc_is_told dc_is_told pm_is_told cd_is_told ct_is_told : Value}
    {kV_is_told : Value}
    {f_is_put_so : Addr} {od_is_put_so an_is_put_so : Option Addr} {sl_is_put_so : Array (Option Value)} {oc_is_put_so dc_is_put_so pm_is_put_so cd_is_put_so ct_is_put_so : Value}
    {kV_is_put_so : Value}
    {f_is_rounded : Addr} {od_is_rounded an_is_rounded : Option Addr} {sl_is_rounded : Array (Option Value)} {oc_is_rounded dc_is_rounded pm_is_rounded cd_is_rounded ct_is_rounded : Value}
    {kV_is_rounded : Value}
    {f_l_well : Addr} {od_l_well an_l_well : Option Addr} {sl_l_well : Array (Option Value)} {oc_l_well dc_l_well pm_l_well cd_l_well ct_l_well : Value}
    {kV_l_well : Value}
    {f_l_take : Addr} {od_l_take an_l_take : Option Addr} {sl_l_take : Array (Option Value)} {oc_l_take dc_l_take pm_l_take cd_l_take ct_l_take : Value}
    {kV_l_take : Value}
    {f_l_step : Addr} {od_l_step an_l_step : Option Addr} {sl_l_step : Array (Option Value)} {oc_l_step dc_l_step pm_l_step cd_l_step ct_l_step : Value}
    {kV_l_step : Value}
    {f_l_parts : Addr} {od_l_parts an_l_parts : Option Addr} {sl_l_parts : Array (Option Value)} {oc_l_parts dc_l_parts pm_l_parts cd_l_parts ct_l_parts : Value}
    {kV_l_parts : Value}
    {f_l_beyond : Addr} {od_l_beyond an_l_beyond : Option Addr} {sl_l_beyond : Array (Option Value)} {oc_l_beyond dc_l_beyond pm_l_beyond cd_l_beyond ct_l_beyond : Value}
    {kV_l_beyond : Value}
    {f_l_steps : Addr} {od_l_steps an_l_steps : Option Addr} {sl_l_steps : Array (Option Value)} {oc_l_steps dc_l_steps pm_l_steps cd_l_steps ct_l_steps : Value}
    {kV_l_steps : Value}
    {f_l_counts : Addr} {od_l_counts an_l_counts : Option Addr} {sl_l_counts : Array (Option Value)} {oc_l_counts dc_l_counts pm_l_counts cd_l_counts ct_l_counts : Value}
    {kV_l_counts : Value}
    {f_l_holds : Addr} {od_l_holds an_l_holds : Option Addr} {sl_l_holds : Array (Option Value)} {oc_l_holds dc_l_holds pm_l_holds cd_l_holds ct_l_holds : Value}
    {kV_l_holds : Value}
    {f_l_made : Addr} {od_l_made an_l_made : Option Addr} {sl_l_made : Array (Option Value)} {oc_l_made dc_l_made pm_l_made cd_l_made ct_l_made : Value}
    {kV_l_made : Value}
    {f_l_by_hand : Addr} {od_l_by_hand an_l_by_hand : Option Addr} {sl_l_by_hand : Array (Option Value)} {oc_l_by_hand dc_l_by_hand pm_l_by_hand cd_l_by_hand ct_l_by_hand : Value}
    {kV_l_by_hand : Value}
    {f_l_paper : Addr} {od_l_paper an_l_paper : Option Addr} {sl_l_paper : Array (Option Value)} {oc_l_paper dc_l_paper pm_l_paper cd_l_paper ct_l_paper : Value}
    {kV_l_paper : Value}
    {f_l_threshold : Addr} {od_l_threshold an_l_threshold : Option Addr} {sl_l_threshold : Array (Option Value)} {oc_l_threshold dc_l_threshold pm_l_threshold cd_l_threshold ct_l_threshold : Value}
    {kV_l_threshold : Value}
    {f_law : Addr} {od_law an_law : Option Addr} {sl_law : Array (Option Value)} {oc_law dc_law pm_law cd_law ct_law : Value}
    {kV_law : Value}
    (aC_Number : PySem.W.nsIn K mainGlobals "Number" = some (some (.ref C_Number)))
    (pg_Number : PySem.W.plainGet K C_Number Str.empty = true)
    (hd_Number : PySem.W.hasDictIn K C_Number = true)
    (po_Number : PySem.W.plainOver K C_Number = true)
    (sa_Number : PySem.W.findIn K (.ref C_Number) "__setattr__" = some (some (.builtin "object.__setattr__")))
    (nf_Number_top : PySem.W.findIn K (.ref C_Number) "top" = some none)
    (nf_Number_bottom : PySem.W.findIn K (.ref C_Number) "bottom" = some none)
    (tc_Number : PySem.W.findIn K (.ref C_Number) "__class__" = some (some (.builtin "object.__class__")))
    (tg_Number : PySem.W.specialIn K (.builtin "object.__class__") "__get__" = some (some (.builtin "getset_descriptor.__get__")))
    (tt_Number : PySem.W.takesIn K (.builtin "object.__class__") = some true)
    (tm_Number : PySem.W.mroIn K C_Number (.type "object") = some true)
    (nn_Number : PySem.W.findIn K (.ref C_Number) "__ne__" = some (some (.builtin "object.__ne__")))
    (mi_Number : PySem.W.makesIn K C_Number = true)
    (kc_Number : PySem.W.keepIn K (.ref C_Number) = true)
    (a_is_whole : PySem.W.nsIn K mainGlobals "is_whole" = some (some (.ref f_is_whole)))
    (l_is_whole : K.lookup f_is_whole = some ⟨oc_is_whole, od_is_whole, .func (PySem.W.fnOf "is_whole" "is_whole" (defArgs s_is_whole) (defBody s_is_whole) (defScope s_is_whole) .none kV_is_whole dc_is_whole pm_is_whole an_is_whole cd_is_whole ct_is_whole), sl_is_whole⟩)
    (c_is_whole : PySem.W.codeIn K cd_is_whole "is_whole" = true)
    (k_is_whole : PySem.W.keepIn K (.ref f_is_whole) = true)
    (a_Number_init : PySem.W.findIn K (.ref C_Number) "__init__" = some (some (.ref f_Number_init)))
    (i_Number_init : PySem.W.isFn K (.ref f_Number_init) = true)
    (l_Number_init : K.lookup f_Number_init = some ⟨oc_Number_init, od_Number_init, .func (PySem.W.fnOf "__init__" "Number.__init__" (defArgs s_Number_init) (defBody s_Number_init) (defScope s_Number_init) (.ref Td_Number_init) kV_Number_init dc_Number_init pm_Number_init an_Number_init cd_Number_init ct_Number_init), sl_Number_init⟩)
    (c_Number_init : PySem.W.codeIn K cd_Number_init "Number.__init__" = true)
    (k_Number_init : PySem.W.keepIn K (.ref f_Number_init) = true)
    (T_Number_init : K.lookup Td_Number_init = some ⟨cT_Number_init, dT_Number_init, .seq #[.int 1 tk_Number_init] nT_Number_init, sT_Number_init⟩)
    (a_Number_more : PySem.W.findIn K (.ref C_Number) "more" = some (some (.ref f_Number_more)))
    (i_Number_more : PySem.W.isFn K (.ref f_Number_more) = true)
    (l_Number_more : K.lookup f_Number_more = some ⟨oc_Number_more, od_Number_more, .func (PySem.W.fnOf "more" "Number.more" (defArgs s_Number_more) (defBody s_Number_more) (defScope s_Number_more) .none kV_Number_more dc_Number_more pm_Number_more an_Number_more cd_Number_more ct_Number_more), sl_Number_more⟩)
    (c_Number_more : PySem.W.codeIn K cd_Number_more "Number.more" = true)
    (k_Number_more : PySem.W.keepIn K (.ref f_Number_more) = true)
    (a_Number_less : PySem.W.findIn K (.ref C_Number) "less" = some (some (.ref f_Number_less)))
    (i_Number_less : PySem.W.isFn K (.ref f_Number_less) = true)
    (l_Number_less : K.lookup f_Number_less = some ⟨oc_Number_less, od_Number_less, .func (PySem.W.fnOf "less" "Number.less" (defArgs s_Number_less) (defBody s_Number_less) (defScope s_Number_less) .none kV_Number_less dc_Number_less pm_Number_less an_Number_less cd_Number_less ct_Number_less), sl_Number_less⟩)
    (c_Number_less : PySem.W.codeIn K cd_Number_less "Number.less" = true)
    (k_Number_less : PySem.W.keepIn K (.ref f_Number_less) = true)
    (a_Number_over : PySem.W.findIn K (.ref C_Number) "over" = some (some (.ref f_Number_over)))
    (i_Number_over : PySem.W.isFn K (.ref f_Number_over) = true)
    (l_Number_over : K.lookup f_Number_over = some ⟨oc_Number_over, od_Number_over, .func (PySem.W.fnOf "over" "Number.over" (defArgs s_Number_over) (defBody s_Number_over) (defScope s_Number_over) .none kV_Number_over dc_Number_over pm_Number_over an_Number_over cd_Number_over ct_Number_over), sl_Number_over⟩)
    (c_Number_over : PySem.W.codeIn K cd_Number_over "Number.over" = true)
    (k_Number_over : PySem.W.keepIn K (.ref f_Number_over) = true)
    (a_Number_below : PySem.W.findIn K (.ref C_Number) "below" = some (some (.ref f_Number_below)))
    (i_Number_below : PySem.W.isFn K (.ref f_Number_below) = true)
    (l_Number_below : K.lookup f_Number_below = some ⟨oc_Number_below, od_Number_below, .func (PySem.W.fnOf "below" "Number.below" (defArgs s_Number_below) (defBody s_Number_below) (defScope s_Number_below) .none kV_Number_below dc_Number_below pm_Number_below an_Number_below cd_Number_below ct_Number_below), sl_Number_below⟩)
    (c_Number_below : PySem.W.codeIn K cd_Number_below "Number.below" = true)
    (k_Number_below : PySem.W.keepIn K (.ref f_Number_below) = true)
    (a_total_of : PySem.W.nsIn K mainGlobals "total_of" = some (some (.ref f_total_of)))
    (l_total_of : K.lookup f_total_of = some ⟨oc_total_of, od_total_of, .func (PySem.W.fnOf "total_of" "total_of" (defArgs s_total_of) (defBody s_total_of) (defScope s_total_of) .none kV_total_of dc_total_of pm_total_of an_total_of cd_total_of ct_total_of), sl_total_of⟩)
    (c_total_of : PySem.W.codeIn K cd_total_of "total_of" = true)
    (k_total_of : PySem.W.keepIn K (.ref f_total_of) = true)
    (a_sum_holds : PySem.W.nsIn K mainGlobals "sum_holds" = some (some (.ref f_sum_holds)))
    (l_sum_holds : K.lookup f_sum_holds = some ⟨oc_sum_holds, od_sum_holds, .func (PySem.W.fnOf "sum_holds" "sum_holds" (defArgs s_sum_holds) (defBody s_sum_holds) (defScope s_sum_holds) .none kV_sum_holds dc_sum_holds pm_sum_holds an_sum_holds cd_sum_holds ct_sum_holds), sl_sum_holds⟩)
    (c_sum_holds : PySem.W.codeIn K cd_sum_holds "sum_holds" = true)
    (k_sum_holds : PySem.W.keepIn K (.ref f_sum_holds) = true)
    (a_is_told : PySem.W.nsIn K mainGlobals "_is_told" = some (some (.ref f_is_told)))
    (l_is_told : K.lookup f_is_told = some ⟨oc_is_told, od_is_told, .func (PySem.W.fnOf "_is_told" "_is_told" (defArgs s_is_told) (defBody s_is_told) (defScope s_is_told) .none kV_is_told dc_is_told pm_is_told an_is_told cd_is_told ct_is_told), sl_is_told⟩)
    (c_is_told : PySem.W.codeIn K cd_is_told "_is_told" = true)
    (k_is_told : PySem.W.keepIn K (.ref f_is_told) = true)
    (a_is_put_so : PySem.W.nsIn K mainGlobals "_is_put_so" = some (some (.ref f_is_put_so)))
    (l_is_put_so : K.lookup f_is_put_so = some ⟨oc_is_put_so, od_is_put_so, .func (PySem.W.fnOf "_is_put_so" "_is_put_so" (defArgs s_is_put_so) (defBody s_is_put_so) (defScope s_is_put_so) .none kV_is_put_so dc_is_put_so pm_is_put_so an_is_put_so cd_is_put_so ct_is_put_so), sl_is_put_so⟩)
    (c_is_put_so : PySem.W.codeIn K cd_is_put_so "_is_put_so" = true)
    (k_is_put_so : PySem.W.keepIn K (.ref f_is_put_so) = true)
    (a_is_rounded : PySem.W.nsIn K mainGlobals "_is_rounded" = some (some (.ref f_is_rounded)))
    (l_is_rounded : K.lookup f_is_rounded = some ⟨oc_is_rounded, od_is_rounded, .func (PySem.W.fnOf "_is_rounded" "_is_rounded" (defArgs s_is_rounded) (defBody s_is_rounded) (defScope s_is_rounded) .none kV_is_rounded dc_is_rounded pm_is_rounded an_is_rounded cd_is_rounded ct_is_rounded), sl_is_rounded⟩)
    (c_is_rounded : PySem.W.codeIn K cd_is_rounded "_is_rounded" = true)
    (k_is_rounded : PySem.W.keepIn K (.ref f_is_rounded) = true)
    (a_l_well : PySem.W.nsIn K mainGlobals "_law_well" = some (some (.ref f_l_well)))
    (l_l_well : K.lookup f_l_well = some ⟨oc_l_well, od_l_well, .func (PySem.W.fnOf "_law_well" "_law_well" (defArgs s_l_well) (defBody s_l_well) (defScope s_l_well) .none kV_l_well dc_l_well pm_l_well an_l_well cd_l_well ct_l_well), sl_l_well⟩)
    (c_l_well : PySem.W.codeIn K cd_l_well "_law_well" = true)
    (k_l_well : PySem.W.keepIn K (.ref f_l_well) = true)
    (a_l_take : PySem.W.nsIn K mainGlobals "_law_take" = some (some (.ref f_l_take)))
    (l_l_take : K.lookup f_l_take = some ⟨oc_l_take, od_l_take, .func (PySem.W.fnOf "_law_take" "_law_take" (defArgs s_l_take) (defBody s_l_take) (defScope s_l_take) .none kV_l_take dc_l_take pm_l_take an_l_take cd_l_take ct_l_take), sl_l_take⟩)
    (c_l_take : PySem.W.codeIn K cd_l_take "_law_take" = true)
    (k_l_take : PySem.W.keepIn K (.ref f_l_take) = true)
    (a_l_step : PySem.W.nsIn K mainGlobals "_law_step" = some (some (.ref f_l_step)))
    (l_l_step : K.lookup f_l_step = some ⟨oc_l_step, od_l_step, .func (PySem.W.fnOf "_law_step" "_law_step" (defArgs s_l_step) (defBody s_l_step) (defScope s_l_step) .none kV_l_step dc_l_step pm_l_step an_l_step cd_l_step ct_l_step), sl_l_step⟩)
    (c_l_step : PySem.W.codeIn K cd_l_step "_law_step" = true)
    (k_l_step : PySem.W.keepIn K (.ref f_l_step) = true)
    (a_l_parts : PySem.W.nsIn K mainGlobals "_law_parts" = some (some (.ref f_l_parts)))
    (l_l_parts : K.lookup f_l_parts = some ⟨oc_l_parts, od_l_parts, .func (PySem.W.fnOf "_law_parts" "_law_parts" (defArgs s_l_parts) (defBody s_l_parts) (defScope s_l_parts) .none kV_l_parts dc_l_parts pm_l_parts an_l_parts cd_l_parts ct_l_parts), sl_l_parts⟩)
    (c_l_parts : PySem.W.codeIn K cd_l_parts "_law_parts" = true)
    (k_l_parts : PySem.W.keepIn K (.ref f_l_parts) = true)
    (a_l_beyond : PySem.W.nsIn K mainGlobals "_law_beyond" = some (some (.ref f_l_beyond)))
    (l_l_beyond : K.lookup f_l_beyond = some ⟨oc_l_beyond, od_l_beyond, .func (PySem.W.fnOf "_law_beyond" "_law_beyond" (defArgs s_l_beyond) (defBody s_l_beyond) (defScope s_l_beyond) .none kV_l_beyond dc_l_beyond pm_l_beyond an_l_beyond cd_l_beyond ct_l_beyond), sl_l_beyond⟩)
    (c_l_beyond : PySem.W.codeIn K cd_l_beyond "_law_beyond" = true)
    (k_l_beyond : PySem.W.keepIn K (.ref f_l_beyond) = true)
    (a_l_steps : PySem.W.nsIn K mainGlobals "_law_steps" = some (some (.ref f_l_steps)))
    (l_l_steps : K.lookup f_l_steps = some ⟨oc_l_steps, od_l_steps, .func (PySem.W.fnOf "_law_steps" "_law_steps" (defArgs s_l_steps) (defBody s_l_steps) (defScope s_l_steps) .none kV_l_steps dc_l_steps pm_l_steps an_l_steps cd_l_steps ct_l_steps), sl_l_steps⟩)
    (c_l_steps : PySem.W.codeIn K cd_l_steps "_law_steps" = true)
    (k_l_steps : PySem.W.keepIn K (.ref f_l_steps) = true)
    (a_l_counts : PySem.W.nsIn K mainGlobals "_law_counts" = some (some (.ref f_l_counts)))
    (l_l_counts : K.lookup f_l_counts = some ⟨oc_l_counts, od_l_counts, .func (PySem.W.fnOf "_law_counts" "_law_counts" (defArgs s_l_counts) (defBody s_l_counts) (defScope s_l_counts) .none kV_l_counts dc_l_counts pm_l_counts an_l_counts cd_l_counts ct_l_counts), sl_l_counts⟩)
    (c_l_counts : PySem.W.codeIn K cd_l_counts "_law_counts" = true)
    (k_l_counts : PySem.W.keepIn K (.ref f_l_counts) = true)
    (a_l_holds : PySem.W.nsIn K mainGlobals "_law_holds" = some (some (.ref f_l_holds)))
    (l_l_holds : K.lookup f_l_holds = some ⟨oc_l_holds, od_l_holds, .func (PySem.W.fnOf "_law_holds" "_law_holds" (defArgs s_l_holds) (defBody s_l_holds) (defScope s_l_holds) .none kV_l_holds dc_l_holds pm_l_holds an_l_holds cd_l_holds ct_l_holds), sl_l_holds⟩)
    (c_l_holds : PySem.W.codeIn K cd_l_holds "_law_holds" = true)
    (k_l_holds : PySem.W.keepIn K (.ref f_l_holds) = true)
    (a_l_made : PySem.W.nsIn K mainGlobals "_law_made" = some (some (.ref f_l_made)))
    (l_l_made : K.lookup f_l_made = some ⟨oc_l_made, od_l_made, .func (PySem.W.fnOf "_law_made" "_law_made" (defArgs s_l_made) (defBody s_l_made) (defScope s_l_made) .none kV_l_made dc_l_made pm_l_made an_l_made cd_l_made ct_l_made), sl_l_made⟩)
    (c_l_made : PySem.W.codeIn K cd_l_made "_law_made" = true)
    (k_l_made : PySem.W.keepIn K (.ref f_l_made) = true)
    (a_l_by_hand : PySem.W.nsIn K mainGlobals "_law_by_hand" = some (some (.ref f_l_by_hand)))
    (l_l_by_hand : K.lookup f_l_by_hand = some ⟨oc_l_by_hand, od_l_by_hand, .func (PySem.W.fnOf "_law_by_hand" "_law_by_hand" (defArgs s_l_by_hand) (defBody s_l_by_hand) (defScope s_l_by_hand) .none kV_l_by_hand dc_l_by_hand pm_l_by_hand an_l_by_hand cd_l_by_hand ct_l_by_hand), sl_l_by_hand⟩)
    (c_l_by_hand : PySem.W.codeIn K cd_l_by_hand "_law_by_hand" = true)
    (k_l_by_hand : PySem.W.keepIn K (.ref f_l_by_hand) = true)
    (a_l_paper : PySem.W.nsIn K mainGlobals "_law_paper" = some (some (.ref f_l_paper)))
    (l_l_paper : K.lookup f_l_paper = some ⟨oc_l_paper, od_l_paper, .func (PySem.W.fnOf "_law_paper" "_law_paper" (defArgs s_l_paper) (defBody s_l_paper) (defScope s_l_paper) .none kV_l_paper dc_l_paper pm_l_paper an_l_paper cd_l_paper ct_l_paper), sl_l_paper⟩)
    (c_l_paper : PySem.W.codeIn K cd_l_paper "_law_paper" = true)
    (k_l_paper : PySem.W.keepIn K (.ref f_l_paper) = true)
    (a_l_threshold : PySem.W.nsIn K mainGlobals "_law_threshold" = some (some (.ref f_l_threshold)))
    (l_l_threshold : K.lookup f_l_threshold = some ⟨oc_l_threshold, od_l_threshold, .func (PySem.W.fnOf "_law_threshold" "_law_threshold" (defArgs s_l_threshold) (defBody s_l_threshold) (defScope s_l_threshold) .none kV_l_threshold dc_l_threshold pm_l_threshold an_l_threshold cd_l_threshold ct_l_threshold), sl_l_threshold⟩)
    (c_l_threshold : PySem.W.codeIn K cd_l_threshold "_law_threshold" = true)
    (k_l_threshold : PySem.W.keepIn K (.ref f_l_threshold) = true)
    (a_law : PySem.W.nsIn K mainGlobals "law" = some (some (.ref f_law)))
    (l_law : K.lookup f_law = some ⟨oc_law, od_law, .func (PySem.W.fnOf "law" "law" (defArgs s_law) (defBody s_law) (defScope s_law) .none kV_law dc_law pm_law an_law cd_law ct_law), sl_law⟩)
    (c_law : PySem.W.codeIn K cd_law "law" = true)
    (k_law : PySem.W.keepIn K (.ref f_law) = true)
    (a_gcd : PySem.W.nsIn K mainGlobals "gcd" = some (some (.builtin "math.gcd")))
    (z_range : PySem.W.nsIn K mainGlobals "range" = some none)
    (z_isinstance : PySem.W.nsIn K mainGlobals "isinstance" = some none)
    (z_str : PySem.W.nsIn K mainGlobals "str" = some none)
    (z_int : PySem.W.nsIn K mainGlobals "int" = some none)
    (z_list : PySem.W.nsIn K mainGlobals "list" = some none)
    (z_len : PySem.W.nsIn K mainGlobals "len" = some none)
    (z_abs : PySem.W.nsIn K mainGlobals "abs" = some none)
    (z_max : PySem.W.nsIn K mainGlobals "max" = some none)
    (z_min : PySem.W.nsIn K mainGlobals "min" = some none)
    (z_bool : PySem.W.nsIn K mainGlobals "bool" = some none)
    (z_repr : PySem.W.nsIn K mainGlobals "repr" = some none)
    (z_tuple : PySem.W.nsIn K mainGlobals "tuple" = some none)
    (z_all : PySem.W.nsIn K mainGlobals "all" = some none)
    (z_sum : PySem.W.nsIn K mainGlobals "sum" = some none)
    (z_zip : PySem.W.nsIn K mainGlobals "zip" = some none)
    : ∃ fd : FuncData, (∀ (s : Shared) (v : Value), BindsTo s fd ⟨[v], []⟩ [("_law_script", v)]) ∧ ∀ base : Heap, K.In base → base.Ns mainGlobals mg → FnG l.prog w K mg base 12 fa fd ["_law_script"] (spLaw K) := by
  have e := hfa.symm.trans (PySem.W.mg_of X G a_law)
  cases e
  have F_is_whole := fun_mk (st := s_is_whole) l_is_whole c_is_whole k_is_whole
  have b_is_whole := F_is_whole.binds (ps := ["thing"]) fun _ _ _ _ _ _ us hl => match us, hl with | [_], _ => rfl
  have F_Number_init : FunD K "__init__" "Number.__init__" (defArgs s_Number_init) (defBody s_Number_init) (defScope s_Number_init) [V.int 1] [] f_Number_init _ := ⟨⟨_, _, _, _, _, _, _, _, _, _, rfl, l_Number_init, c_Number_init, .inr ⟨by simp, Td_Number_init, _, _, _, rfl, T_Number_init, rfl, .cons ⟨_, rfl⟩ .nil⟩, .inl rfl⟩, k_Number_init⟩
  obtain ⟨b_Number_init2, ds_Number_init1, d_Number_init1, b_Number_init1⟩ := bi_Number_init F_Number_init
  have F_Number_more := fun_mk (st := s_Number_more) l_Number_more c_Number_more k_Number_more
  have b_Number_more := F_Number_more.binds (ps := ["self", "other"]) fun _ _ _ _ _ _ us hl => match us, hl with | [_, _], _ => rfl
  have F_Number_less := fun_mk (st := s_Number_less) l_Number_less c_Number_less k_Number_less
  have b_Number_less := F_Number_less.binds (ps := ["self", "other"]) fun _ _ _ _ _ _ us hl => match us, hl with | [_, _], _ => rfl
  have F_Number_over := fun_mk (st := s_Number_over) l_Number_over c_Number_over k_Number_over
  have b_Number_over := F_Number_over.binds (ps := ["self", "other"]) fun _ _ _ _ _ _ us hl => match us, hl with | [_, _], _ => rfl
  have F_Number_below := fun_mk (st := s_Number_below) l_Number_below c_Number_below k_Number_below
  have b_Number_below := F_Number_below.binds (ps := ["self", "other"]) fun _ _ _ _ _ _ us hl => match us, hl with | [_, _], _ => rfl
  have F_total_of := fun_mk (st := s_total_of) l_total_of c_total_of k_total_of
  have b_total_of := F_total_of.binds (ps := ["numbers"]) fun _ _ _ _ _ _ us hl => match us, hl with | [_], _ => rfl
  have F_sum_holds := fun_mk (st := s_sum_holds) l_sum_holds c_sum_holds k_sum_holds
  have b_sum_holds := F_sum_holds.binds (ps := ["parts", "step", "thing"]) fun _ _ _ _ _ _ us hl => match us, hl with | [_, _, _], _ => rfl
  have F_is_told := fun_mk (st := s_is_told) l_is_told c_is_told k_is_told
  have b_is_told := F_is_told.binds (ps := ["thing", "many"]) fun _ _ _ _ _ _ us hl => match us, hl with | [_, _], _ => rfl
  have F_is_put_so := fun_mk (st := s_is_put_so) l_is_put_so c_is_put_so k_is_put_so
  have b_is_put_so := F_is_put_so.binds (ps := ["steps", "count", "paper"]) fun _ _ _ _ _ _ us hl => match us, hl with | [_, _, _], _ => rfl
  have F_is_rounded := fun_mk (st := s_is_rounded) l_is_rounded c_is_rounded k_is_rounded
  have b_is_rounded := F_is_rounded.binds (ps := ["steps", "total"]) fun _ _ _ _ _ _ us hl => match us, hl with | [_, _], _ => rfl
  have F_l_well := fun_mk (st := s_l_well) l_l_well c_l_well k_l_well
  have b_l_well := F_l_well.binds (ps := ["_law_script", "_law_k"]) fun _ _ _ _ _ _ us hl => match us, hl with | [_, _], _ => rfl
  have F_l_take := fun_mk (st := s_l_take) l_l_take c_l_take k_l_take
  have b_l_take := F_l_take.binds (ps := ["_law_well_here", "_law_top"]) fun _ _ _ _ _ _ us hl => match us, hl with | [_, _], _ => rfl
  have F_l_step := fun_mk (st := s_l_step) l_l_step c_l_step k_l_step
  have b_l_step := F_l_step.binds (ps := ["_law_well_here"]) fun _ _ _ _ _ _ us hl => match us, hl with | [_], _ => rfl
  have F_l_parts := fun_mk (st := s_l_parts) l_l_parts c_l_parts k_l_parts
  have b_l_parts := F_l_parts.binds (ps := ["_law_well_here", "_law_by", "_law_most"]) fun _ _ _ _ _ _ us hl => match us, hl with | [_, _, _], _ => rfl
  have F_l_beyond := fun_mk (st := s_l_beyond) l_l_beyond c_l_beyond k_l_beyond
  have b_l_beyond := F_l_beyond.binds (ps := ["_law_parts_here", "_law_by"]) fun _ _ _ _ _ _ us hl => match us, hl with | [_, _], _ => rfl
  have F_l_steps := fun_mk (st := s_l_steps) l_l_steps c_l_steps k_l_steps
  have b_l_steps := F_l_steps.binds (ps := ["_law_parts_here", "_law_by"]) fun _ _ _ _ _ _ us hl => match us, hl with | [_, _], _ => rfl
  have F_l_counts := fun_mk (st := s_l_counts) l_l_counts c_l_counts k_l_counts
  have b_l_counts := F_l_counts.binds (ps := ["_law_parts_here", "_law_by"]) fun _ _ _ _ _ _ us hl => match us, hl with | [_, _], _ => rfl
  have F_l_holds := fun_mk (st := s_l_holds) l_l_holds c_l_holds k_l_holds
  have b_l_holds := F_l_holds.binds (ps := ["_law_parts_here", "_law_by", "_law_thing"]) fun _ _ _ _ _ _ us hl => match us, hl with | [_, _, _], _ => rfl
  have F_l_made := fun_mk (st := s_l_made) l_l_made c_l_made k_l_made
  have b_l_made := F_l_made.binds (ps := ["_law_parts_here"]) fun _ _ _ _ _ _ us hl => match us, hl with | [_], _ => rfl
  have F_l_by_hand := fun_mk (st := s_l_by_hand) l_l_by_hand c_l_by_hand k_l_by_hand
  have b_l_by_hand := F_l_by_hand.binds (ps := ["_law_well_here", "_law_rows", "_law_due"]) fun _ _ _ _ _ _ us hl => match us, hl with | [_, _, _], _ => rfl
  have F_l_paper := fun_mk (st := s_l_paper) l_l_paper c_l_paper k_l_paper
  have b_l_paper := F_l_paper.binds (ps := ["_law_well_here", "_law_rows"]) fun _ _ _ _ _ _ us hl => match us, hl with | [_, _], _ => rfl
  have F_l_threshold := fun_mk (st := s_l_threshold) l_l_threshold c_l_threshold k_l_threshold
  have b_l_threshold := F_l_threshold.binds (ps := ["_law_rows", "_law_counts_here"]) fun _ _ _ _ _ _ us hl => match us, hl with | [_, _], _ => rfl
  have F_law := fun_mk (st := s_law) l_law c_law k_law
  have b_law := F_law.binds (ps := ["_law_script"]) fun _ _ _ _ _ _ us hl => match us, hl with | [_], _ => rfl
  exact ⟨_, fun s v => .of_eq rfl, fun base _ _ => okG_law (w := w) (K := K) (mg := mg) {
    C_Number := C_Number,
    m_Number := PySem.W.mg_of X G aC_Number,
    c_Number := ⟨pg_Number, hd_Number, po_Number, sa_Number⟩,
    n_Number_top := nf_Number_top,
    n_Number_bottom := nf_Number_bottom,
    ty_Number_c := tc_Number,
    ty_Number_g := tg_Number,
    ty_Number_t := tt_Number,
    ty_Number_m := tm_Number,
    ty_Number_k := kit_self,
    ne_Number := nn_Number,
    m_is_whole := PySem.W.mg_of X G a_is_whole,
    f_is_whole := f_is_whole,
    fd_is_whole := _,
    F_is_whole := F_is_whole,
    b_is_whole := b_is_whole,
    f_Number_init := f_Number_init,
    fd_Number_init := _,
    F_Number_init := F_Number_init,
    mk_Number := ⟨mi_Number, a_Number_init, i_Number_init, kc_Number⟩,
    b_Number_init2 := b_Number_init2,
    ds_Number_init1 := ds_Number_init1,
    d_Number_init1 := d_Number_init1,
    b_Number_init1 := b_Number_init1,
    f_Number_more := f_Number_more,
    fd_Number_more := _,
    F_Number_more := F_Number_more,
    me_Number_more := ⟨a_Number_more, i_Number_more, k_Number_more⟩,
    b_Number_more := b_Number_more,
    f_Number_less := f_Number_less,
    fd_Number_less := _,
    F_Number_less := F_Number_less,
    me_Number_less := ⟨a_Number_less, i_Number_less, k_Number_less⟩,
    b_Number_less := b_Number_less,
    f_Number_over := f_Number_over,
    fd_Number_over := _,
    F_Number_over := F_Number_over,
    me_Number_over := ⟨a_Number_over, i_Number_over, k_Number_over⟩,
    b_Number_over := b_Number_over,
    f_Number_below := f_Number_below,
    fd_Number_below := _,
    F_Number_below := F_Number_below,
    me_Number_below := ⟨a_Number_below, i_Number_below, k_Number_below⟩,
    b_Number_below := b_Number_below,
    m_total_of := PySem.W.mg_of X G a_total_of,
    f_total_of := f_total_of,
    fd_total_of := _,
    F_total_of := F_total_of,
    b_total_of := b_total_of,
    m_sum_holds := PySem.W.mg_of X G a_sum_holds,
    f_sum_holds := f_sum_holds,
    fd_sum_holds := _,
    F_sum_holds := F_sum_holds,
    b_sum_holds := b_sum_holds,
    m_is_told := PySem.W.mg_of X G a_is_told,
    f_is_told := f_is_told,
    fd_is_told := _,
    F_is_told := F_is_told,
    b_is_told := b_is_told,
    m_is_put_so := PySem.W.mg_of X G a_is_put_so,
    f_is_put_so := f_is_put_so,
    fd_is_put_so := _,
    F_is_put_so := F_is_put_so,
    b_is_put_so := b_is_put_so,
    m_is_rounded := PySem.W.mg_of X G a_is_rounded,
    f_is_rounded := f_is_rounded,
    fd_is_rounded := _,
    F_is_rounded := F_is_rounded,
    b_is_rounded := b_is_rounded,
    m_l_well := PySem.W.mg_of X G a_l_well,
    f_l_well := f_l_well,
    fd_l_well := _,
    F_l_well := F_l_well,
    b_l_well := b_l_well,
    m_l_take := PySem.W.mg_of X G a_l_take,
    f_l_take := f_l_take,
    fd_l_take := _,
    F_l_take := F_l_take,
    b_l_take := b_l_take,
    m_l_step := PySem.W.mg_of X G a_l_step,
    f_l_step := f_l_step,
    fd_l_step := _,
    F_l_step := F_l_step,
    b_l_step := b_l_step,
    m_l_parts := PySem.W.mg_of X G a_l_parts,
    f_l_parts := f_l_parts,
    fd_l_parts := _,
    F_l_parts := F_l_parts,
    b_l_parts := b_l_parts,
    m_l_beyond := PySem.W.mg_of X G a_l_beyond,
    f_l_beyond := f_l_beyond,
    fd_l_beyond := _,
    F_l_beyond := F_l_beyond,
    b_l_beyond := b_l_beyond,
    m_l_steps := PySem.W.mg_of X G a_l_steps,
    f_l_steps := f_l_steps,
    fd_l_steps := _,
    F_l_steps := F_l_steps,
    b_l_steps := b_l_steps,
    m_l_counts := PySem.W.mg_of X G a_l_counts,
    f_l_counts := f_l_counts,
    fd_l_counts := _,
    F_l_counts := F_l_counts,
    b_l_counts := b_l_counts,
    m_l_holds := PySem.W.mg_of X G a_l_holds,
    f_l_holds := f_l_holds,
    fd_l_holds := _,
    F_l_holds := F_l_holds,
    b_l_holds := b_l_holds,
    m_l_made := PySem.W.mg_of X G a_l_made,
    f_l_made := f_l_made,
    fd_l_made := _,
    F_l_made := F_l_made,
    b_l_made := b_l_made,
    m_l_by_hand := PySem.W.mg_of X G a_l_by_hand,
    f_l_by_hand := f_l_by_hand,
    fd_l_by_hand := _,
    F_l_by_hand := F_l_by_hand,
    b_l_by_hand := b_l_by_hand,
    m_l_paper := PySem.W.mg_of X G a_l_paper,
    f_l_paper := f_l_paper,
    fd_l_paper := _,
    F_l_paper := F_l_paper,
    b_l_paper := b_l_paper,
    m_l_threshold := PySem.W.mg_of X G a_l_threshold,
    f_l_threshold := f_l_threshold,
    fd_l_threshold := _,
    F_l_threshold := F_l_threshold,
    b_l_threshold := b_l_threshold,
    m_law := PySem.W.mg_of X G a_law,
    f_law := _,
    fd_law := _,
    F_law := F_law,
    b_law := b_law,
    m_gcd := PySem.W.mg_of X G a_gcd,
    n_range := PySem.W.mg_none_of X G z_range,
    n_isinstance := PySem.W.mg_none_of X G z_isinstance,
    n_str := PySem.W.mg_none_of X G z_str,
    n_int := PySem.W.mg_none_of X G z_int,
    n_list := PySem.W.mg_none_of X G z_list,
    n_len := PySem.W.mg_none_of X G z_len,
    n_abs := PySem.W.mg_none_of X G z_abs,
    n_max := PySem.W.mg_none_of X G z_max,
    n_min := PySem.W.mg_none_of X G z_min,
    n_bool := PySem.W.mg_none_of X G z_bool,
    n_repr := PySem.W.mg_none_of X G z_repr,
    n_tuple := PySem.W.mg_none_of X G z_tuple,
    n_all := PySem.W.mg_none_of X G z_all,
    n_sum := PySem.W.mg_none_of X G z_sum,
    n_zip := PySem.W.mg_none_of X G z_zip }⟩
theorem walk {l : PySem.W.OpenLaw} {q : Program} {loose : List Str} {XP : (Str → Option Value) → Heap → Prop} {YP : World → Heap → Prop} {d : DefRec} {K : Params → PySem.W.Frag} (hn : l.most = some 63) (hdf : d.params.defaults = [])
    (hY : ∀ (w : World) (h : Heap), YP w h → (K w.params).In h)
    (F : ∀ (w : World) (mg : Str → Option Value) (fa : Addr) (h : Heap), (K w.params).In h → h.Ns mainGlobals mg → mg d.name = some (.ref fa) →
      ∃ fd : FuncData, (∀ (s : Shared) (u : Value), BindsTo s fd ⟨[u], []⟩ [("_law_script", u)]) ∧ ∀ base : Heap, (K w.params).In base → base.Ns mainGlobals mg → FnG l.prog w (K w.params) mg base 12 fa fd ["_law_script"] (spLaw (K w.params))) :
    PySem.W.WalkO q loose XP YP l.row.toRowW d [] (fun f vs => PySem.call f vs) :=
  walk_ofG (n := 63) (k := 12) (x := "_law_script") (sp := fun w => spLaw (K w.params)) hn (by decide) hdf ⟨rfl, by decide, by decide⟩ hY F (fun _ _ a ns hl hS => ⟨a, ns, rfl, hS, hl, fun _ => rfl⟩)
end My
open PySem PySem.W PyProof.Rows in
set_option maxRecDepth 100000 in
set_option maxHeartbeats 0 in
theorem PySem.Challenge.cw_figuretexts_k65_sum_papers_of_any_hand_holds : PySem.Challenge.rw_figuretexts_k65_sum_papers_of_any_hand.Holds := by
  w_on; o_law; k_head; (case hw => w_witness2)
  k_fill
  refine My.walk (l := PySem.Challenge.rw_figuretexts_k65_sum_papers_of_any_hand) rfl rfl (fun w h Y => PySem.W.kIn_of Y) ?F
  case F =>
    intro w mg fa h KX G hmg
    refine' My.all_mk KX G hmg ?aC_Number ?pg_Number ?hd_Number ?po_Number ?sa_Number ?nf_Number_top ?nf_Number_bottom ?tc_Number ?tg_Number ?tt_Number ?tm_Number ?nn_Number ?mi_Number ?kc_Number ?a_is_whole ?l_is_whole ?c_is_whole ?k_is_whole ?a_Number_init ?i_Number_init ?l_Number_init ?c_Number_init ?k_Number_init ?T_Number_init ?a_Number_more ?i_Number_more ?l_Number_more ?c_Number_more ?k_Number_more ?a_Number_less ?i_Number_less ?l_Number_less ?c_Number_less ?k_Number_less ?a_Number_over ?i_Number_over ?l_Number_over ?c_Number_over ?k_Number_over ?a_Number_below ?i_Number_below ?l_Number_below ?c_Number_below ?k_Number_below ?a_total_of ?l_total_of ?c_total_of ?k_total_of ?a_sum_holds ?l_sum_holds ?c_sum_holds ?k_sum_holds ?a_is_told ?l_is_told ?c_is_told ?k_is_told ?a_is_put_so ?l_is_put_so ?c_is_put_so ?k_is_put_so ?a_is_rounded ?l_is_rounded ?c_is_rounded ?k_is_rounded ?a_l_well ?l_l_well ?c_l_well ?k_l_well ?a_l_take ?l_l_take ?c_l_take ?k_l_take ?a_l_step ?l_l_step ?c_l_step ?k_l_step ?a_l_parts ?l_l_parts ?c_l_parts ?k_l_parts ?a_l_beyond ?l_l_beyond ?c_l_beyond ?k_l_beyond ?a_l_steps ?l_l_steps ?c_l_steps ?k_l_steps ?a_l_counts ?l_l_counts ?c_l_counts ?k_l_counts ?a_l_holds ?l_l_holds ?c_l_holds ?k_l_holds ?a_l_made ?l_l_made ?c_l_made ?k_l_made ?a_l_by_hand ?l_l_by_hand ?c_l_by_hand ?k_l_by_hand ?a_l_paper ?l_l_paper ?c_l_paper ?k_l_paper ?a_l_threshold ?l_l_threshold ?c_l_threshold ?k_l_threshold ?a_law ?l_law ?c_law ?k_law ?a_gcd ?z_range ?z_isinstance ?z_str ?z_int ?z_list ?z_len ?z_abs ?z_max ?z_min ?z_bool ?z_repr ?z_tuple ?z_all ?z_sum ?z_zip
    (case aC_Number => k_is)
    (case pg_Number => k_is)
    (case hd_Number => k_is)
    (case po_Number => k_is)
    (case sa_Number => k_is)
    (case nf_Number_top => k_is)
    (case nf_Number_bottom => k_is)
    (case tc_Number => k_is)
    (case tg_Number => k_is)
    (case tt_Number => k_is)
    (case tm_Number => k_is)
    (case nn_Number => k_is)
    (case mi_Number => k_is)
    (case kc_Number => k_is)
    (case a_is_whole => k_is)
    (case l_is_whole => k_is)
    (case c_is_whole => k_is)
    (case k_is_whole => k_is)
    (case a_Number_init => k_is)
    (case i_Number_init => k_is)
    (case l_Number_init => k_is)
    (case c_Number_init => k_is)
    (case k_Number_init => k_is)
    (case T_Number_init => k_is)
    (case a_Number_more => k_is)
    (case i_Number_more => k_is)
    (case l_Number_more => k_is)
    (case c_Number_more => k_is)
    (case k_Number_more => k_is)
    (case a_Number_less => k_is)
    (case i_Number_less => k_is)
    (case l_Number_less => k_is)
    (case c_Number_less => k_is)
    (case k_Number_less => k_is)
    (case a_Number_over => k_is)
    (case i_Number_over => k_is)
    (case l_Number_over => k_is)
    (case c_Number_over => k_is)
    (case k_Number_over => k_is)
    (case a_Number_below => k_is)
    (case i_Number_below => k_is)
    (case l_Number_below => k_is)
    (case c_Number_below => k_is)
    (case k_Number_below => k_is)
    (case a_total_of => k_is)
    (case l_total_of => k_is)
    (case c_total_of => k_is)
    (case k_total_of => k_is)
    (case a_sum_holds => k_is)
    (case l_sum_holds => k_is)
    (case c_sum_holds => k_is)
    (case k_sum_holds => k_is)
    (case a_is_told => k_is)
    (case l_is_told => k_is)
    (case c_is_told => k_is)
    (case k_is_told => k_is)
    (case a_is_put_so => k_is)
    (case l_is_put_so => k_is)
    (case c_is_put_so => k_is)
    (case k_is_put_so => k_is)
    (case a_is_rounded => k_is)
    (case l_is_rounded => k_is)
    (case c_is_rounded => k_is)
    (case k_is_rounded => k_is)
    (case a_l_well => k_is)
    (case l_l_well => k_is)
    (case c_l_well => k_is)
    (case k_l_well => k_is)
    (case a_l_take => k_is)
    (case l_l_take => k_is)
    (case c_l_take => k_is)
    (case k_l_take => k_is)
    (case a_l_step => k_is)
    (case l_l_step => k_is)
    (case c_l_step => k_is)
    (case k_l_step => k_is)
    (case a_l_parts => k_is)
    (case l_l_parts => k_is)
    (case c_l_parts => k_is)
    (case k_l_parts => k_is)
    (case a_l_beyond => k_is)
    (case l_l_beyond => k_is)
    (case c_l_beyond => k_is)
    (case k_l_beyond => k_is)
    (case a_l_steps => k_is)
    (case l_l_steps => k_is)
    (case c_l_steps => k_is)
    (case k_l_steps => k_is)
    (case a_l_counts => k_is)
    (case l_l_counts => k_is)
    (case c_l_counts => k_is)
    (case k_l_counts => k_is)
    (case a_l_holds => k_is)
    (case l_l_holds => k_is)
    (case c_l_holds => k_is)
    (case k_l_holds => k_is)
    (case a_l_made => k_is)
    (case l_l_made => k_is)
    (case c_l_made => k_is)
    (case k_l_made => k_is)
    (case a_l_by_hand => k_is)
    (case l_l_by_hand => k_is)
    (case c_l_by_hand => k_is)
    (case k_l_by_hand => k_is)
    (case a_l_paper => k_is)
    (case l_l_paper => k_is)
    (case c_l_paper => k_is)
    (case k_l_paper => k_is)
    (case a_l_threshold => k_is)
    (case l_l_threshold => k_is)
    (case c_l_threshold => k_is)
    (case k_l_threshold => k_is)
    (case a_law => k_is)
    (case l_law => k_is)
    (case c_law => k_is)
    (case k_law => k_is)
    (case a_gcd => k_is)
    (case z_range => k_is)
    (case z_isinstance => k_is)
    (case z_str => k_is)
    (case z_int => k_is)
    (case z_list => k_is)
    (case z_len => k_is)
    (case z_abs => k_is)
    (case z_max => k_is)
    (case z_min => k_is)
    (case z_bool => k_is)
    (case z_repr => k_is)
    (case z_tuple => k_is)
    (case z_all => k_is)
    (case z_sum => k_is)
    (case z_zip => k_is)
