import PyProof.Rows.All
import Wide.All
import OpenK.AllK
import Wide.FinOn
import HandS.ForMost
import HandS.Wide
import HandS.WideBits
import HandS.Dict
import HandS.OwnEq
import PyProof.SeqRoads2
import HandS.Gcd
import HandS.Defaults
import HandS.CallLocal
import HandS.Style
import HandS.IsInst
import HandS.More
import HandS.TupAny
import HandS.StrMore
import HandS.Codes
import HandS.FStr
import HandS.ForSpec
import HandS.ExcIs
import KE.KExcInit
import HandS.Conv
import HandS.Sort
import PyProof.IsiH_set
import PyProof.FactsAll.object
import PyProof.TableTree
import PyProof.FactsTree
import KE.KIsAll
import PyProof.LongRange
import PyProof.ListRange
import PyProof.EqKinds
import PyProof.Rows.IntBool
import PyProof.Rows.EqBoolInt
import PyProof.Rows.ReprOcc
import HandS.SortRule
import HandS.Zip
import HandS.SortKw
import HandS.SetFor
import KE.GoesMore
import PyProof.Rows.SumAny
import PyProof.Rows.SortKeyStr
import PyProof.NeKinds
import PyProof.ReprLen
import HandS.ExcSuper
import HandS.ExcValue
import HandS.TryMany
import HandS.TryOnly
import HandS.ExcCtx
import HandS.Hot
import HandS.HotCalls
import HandS.Steps
import HandS.Replace
import PyProof.Draws
import PyProof.EnumMake
import PyProof.Rows.StrRev
import HandS.MakeKwOnly
import HandS.Small
import PySem.Challenge.RW_figuretexts_k29_bounds_and_defaults

set_option Elab.async false
set_option linter.all false
set_option maxRecDepth 100000
set_option maxHeartbeats 4000000

namespace My
/-! numbers as Rat -/
def cdiv (t b : Int) : Int := if b < 0 then -((Nat.gcd t.natAbs b.natAbs : Nat) : Int) else ((Nat.gcd t.natAbs b.natAbs : Nat) : Int)
theorem gcd_pos {t b : Int} (h : b ≠ 0) : 0 < Nat.gcd t.natAbs b.natAbs := Nat.gcd_pos_of_pos_right _ (by omega)
theorem num_of {t b : Int} (h : b ≠ 0) : t.fdiv (cdiv t b) = (Rat.divInt t b).num := by
  have g := gcd_pos (t := t) h
  have d1 : ((Nat.gcd t.natAbs b.natAbs : Nat) : Int) ∣ t := Int.dvd_trans (Int.natCast_dvd_natCast.mpr (Nat.gcd_dvd_left _ _)) (Int.natAbs_dvd.mpr (Int.dvd_refl _))
  rw [Rat.num_divInt]
  have e : ((Int.gcd b t : Nat) : Int) = ((Nat.gcd t.natAbs b.natAbs : Nat) : Int) := by
    rw [Int.gcd_comm]; rfl
  rw [e]
  unfold cdiv
  obtain ⟨k, hk⟩ := d1
  have gn : ((Nat.gcd t.natAbs b.natAbs : Nat) : Int) ≠ 0 := by omega
  generalize ((Nat.gcd t.natAbs b.natAbs : Nat) : Int) = G at *
  subst hk
  by_cases hb : b < 0
  · rw [if_pos hb, Int.sign_eq_neg_one_of_neg hb]
    rw [show G * k = (-G) * (-k) by rw [Int.neg_mul_neg], Int.mul_fdiv_cancel_left _ (by omega)]
    rw [show -1 * (-G * -k) = G * (-k) by rw [Int.neg_mul_neg]; rw [Int.neg_one_mul, Int.mul_neg], Int.mul_ediv_cancel_left _ gn]
  · have hb' : 0 < b := by omega
    rw [if_neg hb, Int.sign_eq_one_of_pos hb', Int.one_mul, Int.mul_fdiv_cancel_left _ gn, Int.mul_ediv_cancel_left _ gn]
theorem den_of {t b : Int} (h : b ≠ 0) : b.fdiv (cdiv t b) = ((Rat.divInt t b).den : Int) := by
  have g := gcd_pos (t := t) h
  have d1 : ((Nat.gcd t.natAbs b.natAbs : Nat) : Int) ∣ b := Int.dvd_trans (Int.natCast_dvd_natCast.mpr (Nat.gcd_dvd_right _ _)) (Int.natAbs_dvd.mpr (Int.dvd_refl _))
  rw [Rat.den_divInt, if_neg h]
  have e : (Int.gcd b t : Nat) = (Nat.gcd t.natAbs b.natAbs : Nat) := by
    rw [Int.gcd_comm]; rfl
  rw [e, Int.natCast_ediv]
  unfold cdiv
  obtain ⟨k, hk⟩ := d1
  have gn : ((Nat.gcd t.natAbs b.natAbs : Nat) : Int) ≠ 0 := by omega
  have gp : 0 < ((Nat.gcd t.natAbs b.natAbs : Nat) : Int) := by omega
  generalize hG : ((Nat.gcd t.natAbs b.natAbs : Nat) : Int) = G at *
  by_cases hb : b < 0
  · rw [if_pos hb, show ((b.natAbs : Nat) : Int) = -b by omega]
    rw [hk, show G * k = (-G) * (-k) by rw [Int.neg_mul_neg], Int.mul_fdiv_cancel_left _ (by omega)]
    rw [show -(-G * -k) = G * (-k) by rw [Int.neg_mul_neg, Int.mul_neg], Int.mul_ediv_cancel_left _ gn]
  · rw [if_neg hb, show ((b.natAbs : Nat) : Int) = b by omega, hk, Int.mul_fdiv_cancel_left _ gn, Int.mul_ediv_cancel_left _ gn]

/-- top and bottom below 2 ^ n -/
def Bd (n : Nat) (q : Rat) : Prop := q.num.natAbs < 2 ^ n ∧ q.den < 2 ^ n
theorem Bd.mono {m n : Nat} {q : Rat} (h : Bd m q) (l : m ≤ n) : Bd n q :=
  ⟨Nat.lt_of_lt_of_le h.1 (Nat.pow_le_pow_right (by decide) l), Nat.lt_of_lt_of_le h.2 (Nat.pow_le_pow_right (by decide) l)⟩
theorem num_le (t b : Int) : (Rat.divInt t b).num.natAbs ≤ t.natAbs := by
  rw [Rat.num_divInt]
  refine Nat.le_trans (Int.natAbs_ediv_le_natAbs _ _) ?_
  rw [Int.natAbs_mul]
  rcases Int.lt_trichotomy b 0 with h | h | h
  · rw [Int.sign_eq_neg_one_of_neg h]; simp
  · subst h; simp
  · rw [Int.sign_eq_one_of_pos h]; simp
theorem den_le {t b : Int} (h : b ≠ 0) : (Rat.divInt t b).den ≤ b.natAbs := by
  rw [Rat.den_divInt, if_neg h]
  exact Nat.div_le_self _ _
theorem Bd.of {n : Nat} {t b : Int} (h : b ≠ 0) (ht : t.natAbs < 2 ^ n) (hb : b.natAbs < 2 ^ n) : Bd n (Rat.divInt t b) :=
  ⟨Nat.lt_of_le_of_lt (num_le t b) ht, Nat.lt_of_le_of_lt (den_le h) hb⟩
theorem den_ne (q : Rat) : ((q.den : Nat) : Int) ≠ 0 := by have := q.den_pos; omega
theorem sub_eq (x y : Rat) : Rat.divInt (x.num * (y.den : Int) - y.num * (x.den : Int)) ((x.den : Int) * (y.den : Int)) = x - y := by
  rw [Rat.sub_def', ← Int.natCast_mul, Rat.divInt_ofNat]
theorem add_eq (x y : Rat) : Rat.divInt (x.num * (y.den : Int) + y.num * (x.den : Int)) ((x.den : Int) * (y.den : Int)) = x + y := by
  rw [Rat.add_def', ← Int.natCast_mul, Rat.divInt_ofNat]
theorem mul_eq (x y : Rat) : Rat.divInt (x.num * y.num) ((x.den : Int) * (y.den : Int)) = x * y := by
  rw [Rat.mul_def', ← Int.natCast_mul, Rat.divInt_ofNat]
theorem div_eq (x y : Rat) : Rat.divInt (x.num * (y.den : Int)) ((x.den : Int) * y.num) = x / y := by
  rw [Rat.div_def, Rat.inv_def, ← Rat.divInt_mul_divInt, Rat.num_divInt_den]
theorem num_ne {y : Rat} (h : y ≠ 0) : y.num ≠ 0 := fun e => h (Rat.num_eq_zero.mp e)
theorem floor_eq (x : Rat) : x.num.fdiv (x.den : Int) = x.floor := by
  rw [Rat.floor_def, Int.fdiv_eq_ediv_of_nonneg _ (by omega)]
theorem natAbs_mul_lt {a b : Int} {m n k : Nat} (ha : a.natAbs < 2 ^ m) (hb : b.natAbs < 2 ^ n) (h : m + n ≤ k) : (a * b).natAbs < 2 ^ k := by
  rw [Int.natAbs_mul]
  exact Nat.lt_of_lt_of_le (Nat.mul_lt_mul'' ha hb) (by rw [← Nat.pow_add]; exact Nat.pow_le_pow_right (by decide) h)
theorem natAbs_sub_lt {a b : Int} {k : Nat} (ha : a.natAbs < 2 ^ k) (hb : b.natAbs < 2 ^ k) : (a - b).natAbs < 2 ^ (k + 1) := by
  rw [Nat.pow_succ]; omega
theorem natAbs_add_lt {a b : Int} {k : Nat} (ha : a.natAbs < 2 ^ k) (hb : b.natAbs < 2 ^ k) : (a + b).natAbs < 2 ^ (k + 1) := by
  rw [Nat.pow_succ]; omega
theorem Bd.sub {m n : Nat} {x y : Rat} (hx : Bd m x) (hy : Bd n y) : Bd (m + n + 1) (x - y) := by
  rw [← sub_eq]
  refine Bd.of (Int.mul_ne_zero (den_ne x) (den_ne y)) ?_ ?_
  · exact natAbs_sub_lt (natAbs_mul_lt (m := m) (n := n) hx.1 (by have := hy.2; omega) (Nat.le_refl _)) (natAbs_mul_lt (m := n) (n := m) hy.1 (by have := hx.2; omega) (by omega))
  · exact natAbs_mul_lt (m := m) (n := n) (by have := hx.2; omega) (by have := hy.2; omega) (by omega)
theorem Bd.mul {m n : Nat} {x y : Rat} (hx : Bd m x) (hy : Bd n y) : Bd (m + n) (x * y) := by
  rw [← mul_eq]
  exact Bd.of (Int.mul_ne_zero (den_ne x) (den_ne y)) (natAbs_mul_lt hx.1 hy.1 (Nat.le_refl _)) (natAbs_mul_lt (m := m) (n := n) (by have := hx.2; omega) (by have := hy.2; omega) (by omega))
theorem Bd.div {m n : Nat} {x y : Rat} (hx : Bd m x) (hy : Bd n y) (h : y ≠ 0) : Bd (m + n) (x / y) := by
  rw [← div_eq]
  exact Bd.of (Int.mul_ne_zero (den_ne x) (num_ne h)) (natAbs_mul_lt (m := m) (n := n) hx.1 (by have := hy.2; omega) (Nat.le_refl _)) (natAbs_mul_lt (m := m) (n := n) (by have := hx.2; omega) hy.1 (by omega))
theorem Bd.int {n : Nat} {i : Int} (h : i.natAbs < 2 ^ n) (h1 : 1 ≤ n) : Bd n (i : Rat) := ⟨h, by
  show 1 < 2 ^ n
  exact Nat.lt_of_lt_of_le (by decide) (Nat.pow_le_pow_right (by decide) h1)⟩
theorem floor_bd {n : Nat} {x : Rat} (h : Bd n x) : x.floor.natAbs < 2 ^ n := by
  rw [Rat.floor_def]
  exact Nat.lt_of_le_of_lt (Int.natAbs_ediv_le_natAbs _ _) h.1
theorem divInt_one (i : Int) : Rat.divInt i 1 = (i : Rat) := by
  have := Rat.divInt_ofNat i 1
  rw [show ((1 : Nat) : Int) = 1 from rfl] at this
  rw [this, Rat.mkRat_eq_div]; simp
  grind

/-! the ways -/
inductive Way where
  | up | down | high | low | hup | hdown | heven | hodd
def nearerB (part : Rat) (a : Bool) : Bool := if 2 * part.num = (part.den : Int) then a else decide ((part.den : Int) < 2 * part.num)
def ruleB : Way → Int → Rat → Bool
  | .up, l, _ => decide (0 ≤ l)
  | .down, l, _ => decide (l < 0)
  | .high, _, _ => true
  | .low, _, _ => false
  | .hup, l, p => nearerB p (decide (0 ≤ l))
  | .hdown, l, p => nearerB p (decide (l < 0))
  | .heven, l, p => nearerB p (decide (l % 2 = 1))
  | .hodd, l, p => nearerB p (decide (l % 2 = 0))
def partQ (n : Rat) : Rat := n - (n.floor : Rat)
def highQ (n : Rat) : Int := if (partQ n).num = 0 then n.floor else n.floor + 1
def takenQ (w : Way) (n : Rat) : Int := if (partQ n).num = 0 then n.floor else if ruleB w n.floor (partQ n) = true then n.floor + 1 else n.floor
theorem floor_add {c : Int} {f : Rat} (h0 : 0 ≤ f) (h1 : f < 1) : ((c : Rat) + f).floor = c := by
  have a : c ≤ ((c : Rat) + f).floor := Rat.le_floor_iff.mpr (by grind)
  have b : ((c : Rat) + f).floor < c + 1 := Rat.floor_lt_iff.mpr (by rw [Rat.intCast_add]; grind)
  omega
theorem part_add {c : Int} {f : Rat} (h0 : 0 ≤ f) (h1 : f < 1) : partQ ((c : Rat) + f) = f := by
  unfold partQ
  rw [floor_add h0 h1]
  grind
theorem taken_add {w : Way} {c : Int} {f : Rat} (h0 : 0 < f) (h1 : f < 1) : takenQ w ((c : Rat) + f) = if ruleB w c f = true then c + 1 else c := by
  unfold takenQ
  rw [part_add (Rat.le_of_lt h0) h1, floor_add (Rat.le_of_lt h0) h1, if_neg (num_ne (by grind))]
/-- a number of whole and part steps -/
theorem steps_eq {a b c p0 p1 : Int} (ha : a ≠ 0) (hb : b ≠ 0) (h1 : p1 ≠ 0) : Rat.divInt (a * (c * p1 + p0)) (b * p1) / Rat.divInt a b = (c : Rat) + Rat.divInt p0 p1 := by
  simp only [Rat.divInt_eq_div, Rat.intCast_mul, Rat.intCast_add]
  have ha' : (a : Rat) ≠ 0 := by simpa using ha
  have hb' : (b : Rat) ≠ 0 := by simpa using hb
  have h1' : (p1 : Rat) ≠ 0 := by simpa using h1
  grind
end My

namespace My
open PySem L2
/-! readings, one head at a time -/
section
variable {σ : L2.St} {H : Hp} {Q : VK} {QB : Bool → Hp → Prop} {QA : List V → Hp → Prop} {QS : L2.St → Hp → Prop} {v x y : V} {ta tb te tc : TE} {tr : TA} {t u : TS} {c d : TT} {g : TG} {i : Nat} {K : PySem.W.Frag} {b : Bool}
  {nx : L2.St → Hp → Prop} {rt : VK} {bk ct : L2.St → Hp → Prop}
theorem r_var (q : ∃ v, σ[i]? = some (some v) ∧ Q v H) : tVar i σ H Q := q
theorem r_c (q : Q v H) : tC v σ H Q := q
theorem r_op {r : R2} (q : ta σ H fun x H1 => tb σ H1 fun y H2 => r x y H2 Q) : tOp r ta tb σ H Q := q
theorem r_un {r : V → Hp → VK → Prop} (q : ta σ H fun x H1 => r x H1 Q) : tUn r ta σ H Q := q
theorem r_U {f : Int → V} {i : Int} (q : Q (f i) H) : rU f (.int i) H Q := ⟨i, rfl, q⟩
theorem r_I0 {f : Int → Int → V} {i j : Int} (q : Q (f i j) H) : rI0 f (.int i) (.int j) H Q := ⟨i, j, rfl, rfl, q⟩
theorem r_I {C : Int → Int → Prop} {f : Int → Int → V} {i j : Int} (h : C i j) (q : Q (f i j) H) : rI C f (.int i) (.int j) H Q := ⟨i, j, rfl, rfl, h, q⟩
theorem r_eq (h : scal x y = true) (q : Q (.bl (decide (x = y))) H) : rEq x y H Q := ⟨h, q⟩
theorem r_ne (h : scal x y = true) (q : Q (.bl (!decide (x = y))) H) : rNe x y H Q := ⟨h, q⟩
theorem r_eqI {i j : Int} (q : Q (.bl (decide (i = j))) H) : rEq (.int i) (.int j) H Q := ⟨rfl, by
  have e : decide (V.int i = V.int j) = decide (i = j) := by simp
  rw [e]; exact q⟩
theorem r_neI {i j : Int} (q : Q (.bl (!decide (i = j))) H) : rNe (.int i) (.int j) H Q := ⟨rfl, by
  have e : decide (V.int i = V.int j) = decide (i = j) := by simp
  rw [e]; exact q⟩
theorem r_eqS {i j : Str} (q : Q (.bl (decide (i = j))) H) : rEq (.str i) (.str j) H Q := ⟨rfl, by
  have e : decide (V.str i = V.str j) = decide (i = j) := by simp
  rw [e]; exact q⟩
theorem r_eqB {i j : Bool} (q : Q (.bl (decide (i = j))) H) : rEq (.bl i) (.bl j) H Q := ⟨rfl, by
  have e : decide (V.bl i = V.bl j) = decide (i = j) := by simp
  rw [e]; exact q⟩
theorem r_test (q : te σ H fun x H' => ∃ k, x = .bl k ∧ QB k H') : tTest te σ H QB := q
theorem r_B (q : te σ H fun x H' => ∃ k, x = .bl k ∧ QB k H') : tB te σ H QB := q
theorem r_k {P : Bool → Prop} (q : P b) : ∃ k, V.bl b = .bl k ∧ P k := ⟨b, rfl, q⟩
theorem r_and (q : c σ H fun b H1 => if b = true then d σ H1 QB else QB false H1) : tAnd c d σ H QB := q
theorem r_or (q : c σ H fun b H1 => if b = true then QB true H1 else d σ H1 QB) : tOr c d σ H QB := q
theorem r_not (q : c σ H fun b H1 => QB (!b) H1) : tNot c σ H QB := q
theorem r_andV (q : ta σ H fun x H1 => ∃ c, x = .bl c ∧ if c = true then tb σ H1 Q else Q (.bl false) H1) : tAndV ta tb σ H Q := q
theorem r_orV (q : ta σ H fun x H1 => ∃ c, x = .bl c ∧ if c = true then Q (.bl true) H1 else tb σ H1 Q) : tOrV ta tb σ H Q := q
theorem r_notV (q : ta σ H fun x H1 => ∃ c, x = .bl c ∧ Q (.bl (!c)) H1) : tNotV ta σ H Q := q
theorem r_if (q : c σ H fun b H1 => if b = true then ta σ H1 Q else tb σ H1 Q) : tIf c ta tb σ H Q := q
theorem r_seq (q : t ⟨u ⟨nx, rt, bk, ct⟩, rt, bk, ct⟩ σ H) : tSeq t u ⟨nx, rt, bk, ct⟩ σ H := q
theorem r_asg (q : te σ H fun x H1 => g x σ H1 nx) : tAsg te g ⟨nx, rt, bk, ct⟩ σ H := q
theorem r_name (q : QS (σ.set i (some v)) H) : gName i v σ H QS := q
theorem r_ifs (q : c σ H fun b H1 => if b = true then t ⟨nx, rt, bk, ct⟩ σ H1 else u ⟨nx, rt, bk, ct⟩ σ H1) : tIfS c t u ⟨nx, rt, bk, ct⟩ σ H := q
theorem r_ret (q : te σ H rt) : tRet te ⟨nx, rt, bk, ct⟩ σ H := q
theorem r_next (q : nx σ H) : tNext ⟨nx, rt, bk, ct⟩ σ H := q
theorem r_drop (q : te σ H fun _ H1 => nx σ H1) : tDrop te ⟨nx, rt, bk, ct⟩ σ H := q
theorem r_cons (q : te σ H fun x H1 => tr σ H1 fun xs H2 => QA (x :: xs) H2) : tCons te tr σ H QA := q
theorem r_nil (q : QA [] H) : tNil σ H QA := q
theorem r_tup (q : tr σ H fun xs H1 => xs.length ≤ sizeLine ∧ ∀ p, H1 p = none → Q (.ref p) (upd H1 p (.tup xs))) : tTup tr σ H Q := q
theorem r_lst (q : tr σ H fun xs H1 => xs.length ≤ sizeLine ∧ ∀ p, H1 p = none → Q (.ref p) (upd H1 p (.lst xs))) : tLst tr σ H Q := q
theorem r_new {n : Nat} {P : Prop} (h : n ≤ 1000) (q : P) : n ≤ sizeLine ∧ P := ⟨Nat.le_trans h (by decide), q⟩
theorem r_fldT {f : Str} (q : ta σ H fun x H1 => ∃ a C dx fs v, x = .ref a ∧ H1 a = some (.ins C dx fs) ∧ Cls K C ∧ NoAttr K C f ∧ fs.lookup f = some v ∧ Q v H1) : tFld K ta f σ H Q := q
theorem r_fld {f : Str} {p C dx : Addr} {fs : List (Str × V)} (h : H p = some (.ins C dx fs)) (k : Cls K C) (n : NoAttr K C f) (l : fs.lookup f = some v) {P : V → Prop} (q : P v) :
    ∃ a C dx fs v, V.ref p = .ref a ∧ H a = some (.ins C dx fs) ∧ Cls K C ∧ NoAttr K C f ∧ fs.lookup f = some v ∧ P v := ⟨p, C, dx, fs, v, rfl, h, k, n, l, q⟩
theorem r_sFld {f : Str} (q : te σ H fun y H1 => ta σ H1 fun x H2 => ∃ a C dx fs, x = .ref a ∧ H2 a = some (.ins C dx fs) ∧ Cls K C ∧ NoAttr K C f ∧ fs.length < 1000 ∧ nx σ (upd H2 a (.ins C dx (putF f y fs)))) : sFld K ta te f ⟨nx, rt, bk, ct⟩ σ H := q
theorem r_call {sp : Sp} {dvs : List V} {E : XK} (q : tr σ H fun vs H1 => sp (vs ++ dvs) H1 Q E) : tCall sp dvs E tr σ H Q := q
theorem r_CB {r : List V → Hp → VK → Prop} (q : tr σ H fun vs H1 => r vs H1 Q) : tCB r tr σ H Q := q
theorem r_meth {C : Addr} {m : Str} {sp : Sp} {dvs : List V} {E : XK} (q : ta σ H fun x H1 => ∃ a dx fs, x = .ref a ∧ H1 a = some (.ins C dx fs) ∧ fs.lookup m = none ∧ tr σ H1 fun vs H2 => sp (x :: (vs ++ dvs)) H2 Q E) : tMeth C m sp dvs E ta tr σ H Q := q
theorem r_meth1 {C : Addr} {m : Str} {P : Prop} {p dx : Addr} {fs : List (Str × V)} (h : H p = some (.ins C dx fs)) (l : fs.lookup m = none) (q : P) : ∃ a dx fs, V.ref p = .ref a ∧ H a = some (.ins C dx fs) ∧ fs.lookup m = none ∧ P := ⟨p, dx, fs, rfl, h, l, q⟩
theorem r_make {C : Addr} {sp : Sp} {dvs : List V} {E : XK} (q : tr σ H fun vs H1 => ∀ x dx, H1 x = none → H1 dx = none → dx ≠ x → sp (.ref x :: (vs ++ dvs)) (upd (upd H1 dx (.own x)) x (.ins C dx [])) (fun v H2 => v = .non ∧ Q (.ref x) H2) E) : tMake C sp dvs E tr σ H Q := q
theorem r_callN {n m : Nat} {sp : Sp} {gV : List V → List V → List V} {E : XK} {tk : TA} (q : tr σ H fun vs H1 => tk σ H1 fun zs H2 => vs.length = n ∧ zs.length = m ∧ sp (gV vs zs) H2 Q E) : tCallN n m sp gV E tr tk σ H Q := q
theorem r_ixT {p : Addr} {xs : List V} {i : Int} (h : H p = some (.tup xs)) (a : atI xs i = some v) (q : Q v H) : rIxT K (.ref p) (.int i) H Q := ⟨p, xs, i, v, rfl, rfl, SqT.of h, a, q⟩
theorem r_ixL {p : Addr} {xs : List V} {i : Int} (h : H p = some (.lst xs)) (a : atI xs i = some v) (q : Q v H) : rIxL K (.ref p) (.int i) H Q := ⟨p, xs, i, v, rfl, rfl, SqL.of h, a, q⟩
theorem r_isi {vs : List V} (q : rIsi K vs H Q) : rIsi K vs H Q := q
theorem r_ite {A B : Prop} {k : Bool} (h1 : k = true → A) (h2 : k = false → B) : if k = true then A else B := by
  cases k with
  | true => exact h1 rfl
  | false => exact h2 rfl
theorem r_iteT {A B : Prop} {k : Bool} (h : k = true) (q : A) : if k = true then A else B := by
  rw [if_pos h]; exact q
theorem r_iteF {A B : Prop} {k : Bool} (h : k = false) (q : B) : if k = true then A else B := by
  subst h; exact iteF q
end
/-! ### // by any number but nought -/
def CDivA (_ j : Int) : Prop := j ≠ 0 ∧ j.natAbs.log2 < 9000
theorem op_fdivA {X : Cx} : OpR X (binaryOp .FloorDiv) (rI CDivA fun i j => .int (i.fdiv j)) := opI fun i j _ _ _ _ _ hc q => PyProof.Rows.floordiv_int hc.1 q (.inl (PyProof.noPylong_of_log2 hc.2))
theorem cdivA {i j : Int} {b : Nat} (h : j ≠ 0) (hb : j.natAbs < 2 ^ b) (h0 : 0 < b) (h9 : b ≤ 9000) : CDivA i j := ⟨h, Nat.lt_of_lt_of_le (PySem.Flt.log2_lt_of h0 hb) h9⟩
/-! ### heaps but for two places -/
def Off (d c : Addr) (H H' : Hp) : Prop := ∀ b o, b ≠ d → b ≠ c → H b = some o → H' b = some o
theorem Off.refl (d c : Addr) (H : Hp) : Off d c H H := fun _ _ _ _ h => h
theorem Off.trans {d c : Addr} {H H1 H2 : Hp} (a : Off d c H H1) (b : Off d c H1 H2) : Off d c H H2 := fun x o h1 h2 h => b x o h1 h2 (a x o h1 h2 h)
theorem Off.of {d c : Addr} {H H' : Hp} (a : Same H H') : Off d c H H' := fun x o _ _ h => a x o h
theorem Same.new {H : Hp} {p : Addr} {o : HO} (h : H p = none) : Same H (upd H p o) := fun b u e => by
  rw [upd_ne (ne_of_none e h)]
  exact e
/-! ### more heads -/
section
variable {σ : L2.St} {H : Hp} {Q : VK} {QA : List V → Hp → Prop} {QS : L2.St → Hp → Prop} {QO : Option Int → Hp → Prop} {v x y : V} {te ta to ti : TE} {tr : TA} {tl th : TO} {K : PySem.W.Frag} {nx : L2.St → Hp → Prop} {rt : VK} {bk ct : L2.St → Hp → Prop}
theorem r_gsub {t : TSet} (q : to σ H fun o H1 => ti σ H1 fun i H2 => t o i v H2 fun H3 => QS σ H3) : gSub to ti t v σ H QS := q
theorem r_setL {p : Addr} {xs : List V} {k : Int} {j : Nat} {R : Hp → Prop} (h : H p = some (.lst xs)) (e : ixN xs.length k = some j) (q : R (upd H p (.lst (xs.set j v)))) : rSetL (.ref p) (.int k) v H R := ⟨p, xs, k, j, rfl, rfl, h, e, q⟩
theorem r_sl {r : V → Option Int → Option Int → Hp → VK → Prop} (q : te σ H fun x H1 => tl σ H1 fun l H2 => th σ H2 fun u H3 => r x l u H3 Q) : tSl r te tl th σ H Q := q
theorem r_noPart (q : QO none H) : tNoPart σ H QO := q
theorem r_part (q : te σ H fun x H1 => ∃ i, x = .int i ∧ QO (some i) H1) : tPart te σ H QO := q
theorem r_ki {P : Int → Prop} {i : Int} (q : P i) : ∃ k, V.int i = .int k ∧ P k := ⟨i, rfl, q⟩
theorem r_bm0 {T : String} {r : V → List V → Hp → VK → Prop} (q : te σ H fun x H1 => tyV K T x H1 ∧ r x [] H1 Q) : tBM0 K T r te σ H Q := q
theorem r_bm {T : String} {r : V → List V → Hp → VK → Prop} (q : te σ H fun x H1 => tyV K T x H1 ∧ tr σ H1 fun xs H2 => r x xs H2 Q) : tBM K T r te tr σ H Q := q
theorem r_rev (q : te σ H fun x H1 => ∃ a xs, x = .ref a ∧ SqL K H1 a xs ∧ ∀ p, H1 p = none → Q (.ref p) (upd H1 p (.lst xs.reverse))) : tRevL K te σ H Q := q
theorem ty_list {p : Addr} {xs : List V} (h : H p = some (.lst xs)) : tyV K "list" (.ref p) H := .inl ⟨rfl, _, SqL.of h⟩
theorem r_pop {p : Addr} {xs : List V} {y : V} (h : H p = some (.lst (xs ++ [y]))) (q : Q y (upd H p (.lst xs))) : rPop (.ref p) [] H Q := by
  refine ⟨p, xs ++ [y], y, rfl, rfl, h, by simp, ?_⟩
  rw [List.dropLast_concat]
  exact q
theorem r_append {p : Addr} {xs : List V} (h : H p = some (.lst xs)) (l : xs.length ≤ 1000) (q : Q .non (upd H p (.lst (xs ++ [y])))) : rAppend (.ref p) [y] H Q := ⟨p, xs, y, rfl, rfl, h, Nat.lt_of_le_of_lt l (by decide), q⟩
end
theorem dp_ints {K : PySem.W.Frag} {H : Hp} : ∀ xs : List Int, DpAll K H (xs.map V.int) (xs.map PyData.int)
  | [] => .nil
  | x :: xs => .cons (.int x) (dp_ints xs)
theorem lay_ints : ∀ xs : List Int, PyData.canLayAll0 (xs.map PyData.int) = true ∧ PyData.depthAll (xs.map PyData.int) = 0
  | [] => ⟨rfl, rfl⟩
  | x :: xs => by
    obtain ⟨a, b⟩ := lay_ints xs
    constructor
    · show (PyData.canLay0 (.int x) && PyData.canLayAll0 (xs.map PyData.int)) = true
      rw [a]; rfl
    · show max (PyData.depth (.int x)) (PyData.depthAll (xs.map PyData.int)) = 0
      rw [b]; rfl
theorem shaped_ints (xs : List Int) : SeqAt.shaped (.list (xs.map PyData.int)) = true := by
  obtain ⟨a, b⟩ := lay_ints xs
  have a' : PyData.canLay0 (.list (xs.map PyData.int)) = true := by rw [PyData.canLay0]; exact a
  have b' : PyData.depth (.list (xs.map PyData.int)) = 1 := by rw [PyData.depth, b]
  unfold SeqAt.shaped
  rw [a', b']; rfl
theorem eqv_ints : ∀ xs ys : List Int, PyData.eqvAll (xs.map PyData.int) (ys.map PyData.int) = decide (xs = ys)
  | [], [] => rfl
  | [], _ :: _ => by simp [PyData.eqvAll]
  | _ :: _, [] => by simp [PyData.eqvAll]
  | x :: xs, y :: ys => by
    show (PyData.eqv (.int x) (.int y) && PyData.eqvAll (xs.map PyData.int) (ys.map PyData.int)) = _
    rw [eqv_ints xs ys]
    show ((x == y) && decide (xs = ys)) = _
    rw [Bool.eq_iff_iff]; simp
theorem r_neInts {K : PySem.W.Frag} {H : Hp} {Q : VK} {p q : Addr} {xs ys : List Int} (h : SqL K H p (xs.map V.int)) (h' : SqL K H q (ys.map V.int)) (k : Q (.bl (!decide (xs = ys))) H) : rNeD K (.ref p) (.ref q) H Q :=
  ⟨.list (xs.map PyData.int), .list (ys.map PyData.int), .lst h (dp_ints xs), .lst h' (dp_ints ys), shaped_ints xs, shaped_ints ys, by
    rw [PyData.eqv, eqv_ints]; exact k⟩
theorem cut_ints (ns : List Int) (k : Int) : ∃ ms : List Int, cutV (ns.map V.int) none (some k) = ms.map V.int ∧ ms.length ≤ ns.length := by
  unfold cutV
  rw [← List.map_drop, ← List.map_take]
  exact ⟨_, rfl, by rw [List.length_take, List.length_drop]; omega⟩
end My
namespace My
open PySem L2
theorem r_forT {σ : L2.St} {H : Hp} {K : PySem.W.Frag} {tl : TE} {g : TG} {tb : TS} {D : Ends} (q : tl σ H fun x H1 => ∃ a, x = .ref a ∧ (∃ xs, SqT K H1 a xs) ∧ ∃ W : Nat → Nat → L2.St → Hp → Prop, (∃ m, W 0 m σ H1) ∧ ∀ i m σ H, W i m σ H →
    ((Itt K a).stop i H ∧ D.nx σ H) ∨ ((Itt K a).go i H ∧ ∃ N : L2.St → Hp → Prop, (∀ σ' H', N σ' H' → ∃ m', m' < m ∧ W (i + 1) m' σ' H') ∧ ∀ x H', (Itt K a).yld i H x H' → g x σ H' fun σ2 H2 => tb { D with nx := N, ct := N, bk := D.nx } σ2 H2)) : tFor (iTup K tl) g tb D σ H := q
end My

local macro_rules | `(tactic| walk_at "rd1") => `(tactic| first
  | with_reducible refine My.r_seq ?_
  | with_reducible refine My.r_asg ?_
  | with_reducible refine My.r_name ?_
  | with_reducible refine My.r_cons ?_
  | with_reducible refine My.r_nil ?_
  | with_reducible refine My.r_op ?_
  | ((with_reducible refine My.r_var ?_); refine ⟨_, rfl, ?_⟩)
  | with_reducible refine My.r_c ?_
  | with_reducible refine My.r_I0 ?_
  | with_reducible refine My.r_eqI ?_
  | with_reducible refine My.r_neI ?_
  | with_reducible refine My.r_eqS ?_
  | with_reducible refine My.r_eqB ?_
  | with_reducible refine My.r_test ?_
  | with_reducible refine My.r_B ?_
  | with_reducible refine My.r_k ?_
  | with_reducible refine My.r_un ?_
  | with_reducible refine My.r_U ?_
  | with_reducible refine My.r_ifs ?_
  | with_reducible refine My.r_ret ?_
  | with_reducible refine My.r_next ?_
  | with_reducible refine My.r_drop ?_
  | with_reducible refine My.r_CB ?_
  | with_reducible refine My.r_call ?_
  | with_reducible refine My.r_callN ?_
  | with_reducible refine My.r_meth ?_
  | with_reducible refine My.r_make ?_
  | with_reducible refine My.r_tup ?_
  | with_reducible refine My.r_lst ?_
  | with_reducible refine My.r_fldT ?_
  | with_reducible refine My.r_sFld ?_
  | with_reducible refine My.r_and ?_
  | with_reducible refine My.r_or ?_
  | with_reducible refine My.r_not ?_
  | with_reducible refine My.r_andV ?_
  | with_reducible refine My.r_orV ?_
  | with_reducible refine My.r_notV ?_
  | with_reducible refine My.r_if ?_
  | with_reducible refine My.r_gsub ?_
  | with_reducible refine My.r_sl ?_
  | with_reducible refine My.r_noPart ?_
  | with_reducible refine My.r_part ?_
  | with_reducible refine My.r_ki ?_
  | with_reducible refine My.r_bm0 ?_
  | with_reducible refine My.r_bm ?_
  | with_reducible refine My.r_rev ?_
  | ((with_reducible refine My.r_I ?_ ?_); (first | decide | exact .inl ⟨by decide, by decide⟩ | exact .inr ⟨by decide, by decide⟩ | exact ⟨by decide, by decide⟩ | exact ⟨by decide, by decide, by decide⟩)))
local macro_rules | `(tactic| walk_at "rd") => `(tactic| (repeat walk_at "rd1"))


namespace My
/-! ### rounded twice -/
def isHalf : Way → Bool
  | .heven | .hodd | .hup | .hdown => true
  | _ => false
/-- at the middle beyond l: whether up -/
def tieUp : Way → Int → Bool
  | .hup, l => decide (0 ≤ l)
  | .hdown, l => decide (l < 0)
  | .heven, l => decide (l % 2 = 1)
  | .hodd, l => decide (l % 2 = 0)
  | _, _ => false
theorem nearerB_lo {p : Rat} {a : Bool} (h : p < 1 / 2) : nearerB p a = false := by
  have d := p.den_pos
  have e : p.num * 2 < 1 * (p.den : Int) := by
    have := (Rat.lt_iff p (1 / 2)).mp h
    have h1 : ((1 : Rat) / 2).num = 1 := by decide +kernel
    have h2 : ((1 : Rat) / 2).den = 2 := by decide +kernel
    rw [h1, h2] at this
    exact this
  unfold nearerB
  rw [if_neg (by omega)]
  exact decide_eq_false (by omega)
theorem nearerB_hi {p : Rat} {a : Bool} (h : 1 / 2 < p) : nearerB p a = true := by
  have d := p.den_pos
  have e : 1 * (p.den : Int) < p.num * 2 := by
    have := (Rat.lt_iff (1 / 2) p).mp h
    have h1 : ((1 : Rat) / 2).num = 1 := by decide +kernel
    have h2 : ((1 : Rat) / 2).den = 2 := by decide +kernel
    rw [h1, h2] at this
    exact this
  unfold nearerB
  rw [if_neg (by omega)]
  exact decide_eq_true (by omega)
theorem nearerB_mid (a : Bool) : nearerB (1 / 2) a = a := by cases a <;> decide +kernel
theorem ruleB_lo {r : Way} (h : isHalf r = true) (l : Int) {p : Rat} (hp : p < 1 / 2) : ruleB r l p = false := by
  cases r <;> first | exact absurd h (by decide) | exact nearerB_lo hp
theorem ruleB_hi {r : Way} (h : isHalf r = true) (l : Int) {p : Rat} (hp : 1 / 2 < p) : ruleB r l p = true := by
  cases r <;> first | exact absurd h (by decide) | exact nearerB_hi hp
theorem ruleB_mid {r : Way} (h : isHalf r = true) (l : Int) : ruleB r l (1 / 2) = tieUp r l := by
  cases r <;> first | exact absurd h (by decide) | exact nearerB_mid _
theorem taken_int (r : Way) (c : Int) : takenQ r (c : Rat) = c := by
  have e : partQ (c : Rat) = 0 := by unfold partQ; rw [Rat.floor_intCast]; grind
  unfold takenQ
  rw [e, Rat.floor_intCast]
  rfl
/-- nearer than a half -/
theorem taken_near {r : Way} (h : isHalf r = true) {n : Rat} {t : Int} (h1 : (t : Rat) - 1 / 2 < n) (h2 : n < (t : Rat) + 1 / 2) : takenQ r n = t := by
  by_cases h0 : n = (t : Rat)
  · rw [h0]
    exact taken_int r t
  · by_cases hp : (t : Rat) < n
    · have e : n = (t : Rat) + (n - t) := by grind
      rw [e, taken_add (by grind) (by grind), ruleB_lo h t (by grind)]
      rfl
    · have e : n = ((t - 1 : Int) : Rat) + (n - t + 1) := by rw [Rat.intCast_sub]; grind
      rw [e, taken_add (by grind) (by grind), ruleB_hi h (t - 1) (by grind)]
      show t - 1 + 1 = t
      omega
theorem taken_mid {r : Way} (h : isHalf r = true) (l : Int) : takenQ r ((l : Rat) + 1 / 2) = if tieUp r l = true then l + 1 else l := by
  rw [taken_add (by decide +kernel) (by decide +kernel), ruleB_mid h l]
/-- every number is near one, or in the middle -/
theorem near_or_mid (n : Rat) : (∃ t : Int, (t : Rat) - 1 / 2 < n ∧ n < (t : Rat) + 1 / 2) ∨ ∃ l : Int, n = (l : Rat) + 1 / 2 := by
  have a := Rat.floor_le n
  have b := Rat.lt_floor_add_one n
  rw [Rat.intCast_add] at b
  by_cases h : n = (n.floor : Rat) + 1 / 2
  · exact .inr ⟨_, h⟩
  · by_cases h2 : n < (n.floor : Rat) + 1 / 2
    · exact .inl ⟨n.floor, by grind, h2⟩
    · exact .inl ⟨n.floor + 1, by rw [Rat.intCast_add]; grind, by rw [Rat.intCast_add]; grind⟩
def twiceT (r : Way) (m : Int) (u : Rat) : Int := takenQ r ((takenQ r u : Rat) / (m : Rat))
def onceT (r : Way) (m : Int) (u : Rat) : Int := takenQ r (u / (m : Rat))
theorem div_near {r : Way} (h : isHalf r = true) {m : Int} (hm : 0 < m) {s : Int} {n : Rat} (h1 : (s : Rat) * m - (m : Rat) / 2 < n) (h2 : n < (s : Rat) * m + (m : Rat) / 2) : takenQ r (n / (m : Rat)) = s := by
  have hm' : (0 : Rat) < (m : Rat) := Rat.intCast_pos.mpr hm
  refine taken_near h ?_ ?_
  · exact (Rat.lt_div_iff hm').mpr (by grind)
  · exact (Rat.div_lt_iff hm').mpr (by grind)
theorem div_mid {r : Way} (h : isHalf r = true) {m : Int} (hm : 0 < m) {s : Int} {n : Rat} (h1 : n = (s : Rat) * m + (m : Rat) / 2) : takenQ r (n / (m : Rat)) = if tieUp r s = true then s + 1 else s := by
  have hm' : (m : Rat) ≠ 0 := by have : (0 : Rat) < (m : Rat) := Rat.intCast_pos.mpr hm; grind
  rw [← taken_mid h s, h1]
  congr 1
  grind
theorem split_odd (j h : Int) (h0 : 0 ≤ h) : ∃ s e : Int, j = s * (2 * h + 1) + e ∧ -h ≤ e ∧ e ≤ h := by
  refine ⟨(j + h) / (2 * h + 1), (j + h) % (2 * h + 1) - h, ?_, ?_, ?_⟩
  · have := Int.mul_ediv_add_emod (j + h) (2 * h + 1)
    rw [Int.mul_comm] at this
    omega
  · have := Int.emod_nonneg (j + h) (b := 2 * h + 1) (by omega)
    omega
  · have := Int.emod_lt_of_pos (j + h) (b := 2 * h + 1) (by omega)
    omega
/-- by an odd number of steps -/
theorem never_odd {r : Way} (hr : isHalf r = true) {h : Int} (h0 : 0 ≤ h) (tie : ∀ s : Int, tieUp r (s * (2 * h + 1) + h) = tieUp r s) (u : Rat) : twiceT r (2 * h + 1) u = onceT r (2 * h + 1) u := by
  have hm : 0 < 2 * h + 1 := by omega
  have c : (((2 * h + 1 : Int)) : Rat) = 2 * (h : Rat) + 1 := by rw [Rat.intCast_add, Rat.intCast_mul]; rfl
  have hq : (0 : Rat) ≤ (h : Rat) := Rat.intCast_nonneg.mpr h0
  unfold twiceT onceT
  rcases near_or_mid u with ⟨j, h1, h2⟩ | ⟨l, hl⟩
  · obtain ⟨s, e, ej, e1, e2⟩ := split_odd j h h0
    have q1 : -(h : Rat) ≤ (e : Rat) := by have := Rat.intCast_le_intCast.mpr e1; rw [Rat.intCast_neg] at this; exact this
    have q2 : (e : Rat) ≤ (h : Rat) := Rat.intCast_le_intCast.mpr e2
    have ejq : (j : Rat) = (s : Rat) * (2 * (h : Rat) + 1) + (e : Rat) := by rw [ej, Rat.intCast_add, Rat.intCast_mul, c]
    rw [taken_near hr h1 h2, div_near hr hm (s := s) (by rw [c]; grind) (by rw [c]; grind), div_near hr hm (s := s) (by rw [c]; grind) (by rw [c]; grind)]
  · obtain ⟨s, e, ej, e1, e2⟩ := split_odd l h h0
    have q1 : -(h : Rat) ≤ (e : Rat) := by have := Rat.intCast_le_intCast.mpr e1; rw [Rat.intCast_neg] at this; exact this
    have ejq : (l : Rat) = (s : Rat) * (2 * (h : Rat) + 1) + (e : Rat) := by rw [ej, Rat.intCast_add, Rat.intCast_mul, c]
    subst hl
    rw [taken_mid hr l]
    by_cases he : e = h
    · subst he
      rw [ej, tie s]
      rw [div_mid hr hm (s := s) (n := ((s * (2 * e + 1) + e : Int) : Rat) + 1 / 2) (by rw [← ej, ejq, c]; grind)]
      cases tieUp r s with
      | true =>
        rw [if_pos rfl, if_pos rfl]
        exact div_near hr hm (by simp only [Rat.intCast_add, Rat.intCast_mul, Rat.intCast_sub, Rat.intCast_ofNat, Rat.intCast_one]; grind) (by simp only [Rat.intCast_add, Rat.intCast_mul, Rat.intCast_sub, Rat.intCast_ofNat, Rat.intCast_one]; grind)
      | false =>
        rw [if_neg Bool.false_ne_true, if_neg Bool.false_ne_true]
        exact div_near hr hm (by simp only [Rat.intCast_add, Rat.intCast_mul, Rat.intCast_sub, Rat.intCast_ofNat, Rat.intCast_one]; grind) (by simp only [Rat.intCast_add, Rat.intCast_mul, Rat.intCast_sub, Rat.intCast_ofNat, Rat.intCast_one]; grind)
    · have q2 : (e : Rat) + 1 ≤ (h : Rat) := by
        have := Rat.intCast_le_intCast.mpr (show e + 1 ≤ h by omega)
        rw [Rat.intCast_add] at this
        exact this
      rw [div_near hr hm (s := s) (n := (l : Rat) + 1 / 2) (by rw [c]; grind) (by rw [c]; grind)]
      split
      · exact div_near hr hm (by simp only [Rat.intCast_add, Rat.intCast_mul, Rat.intCast_sub, Rat.intCast_ofNat, Rat.intCast_one]; grind) (by simp only [Rat.intCast_add, Rat.intCast_mul, Rat.intCast_sub, Rat.intCast_ofNat, Rat.intCast_one]; grind)
      · exact div_near hr hm (by rw [c]; grind) (by rw [c]; grind)
/-! ### the ways that look at no halves -/
theorem low_eq (n : Rat) : takenQ .low n = n.floor := by
  unfold takenQ
  split <;> rfl
theorem part_zero {n : Rat} : (partQ n).num = 0 ↔ n = (n.floor : Rat) := by
  rw [Rat.num_eq_zero]
  unfold partQ
  constructor <;> intro h <;> grind
/-- the greater neighbour is told by inequalities -/
theorem high_of {n : Rat} {t : Int} (h1 : (t : Rat) - 1 < n) (h2 : n ≤ (t : Rat)) : takenQ .high n = t := by
  have a := Rat.floor_le n
  have b := Rat.lt_floor_add_one n
  rw [Rat.intCast_add] at b
  unfold takenQ
  by_cases h : n = (n.floor : Rat)
  · rw [if_pos (part_zero.mpr h)]
    have x1 : n.floor < t + 1 := Rat.intCast_lt_intCast.mp (by rw [Rat.intCast_add]; grind)
    have x2 : t - 1 < n.floor := Rat.intCast_lt_intCast.mp (by rw [Rat.intCast_sub]; grind)
    omega
  · rw [if_neg (fun z => h (part_zero.mp z)), if_pos (show ruleB .high n.floor (partQ n) = true from rfl)]
    have x1 : n.floor < t := Rat.intCast_lt_intCast.mp (by grind)
    have x2 : t - 1 < n.floor + 1 := Rat.intCast_lt_intCast.mp (by rw [Rat.intCast_sub, Rat.intCast_add]; grind)
    omega
theorem high_is (n : Rat) : (takenQ .high n : Rat) - 1 < n ∧ n ≤ (takenQ .high n : Rat) := by
  have a := Rat.floor_le n
  have b := Rat.lt_floor_add_one n
  rw [Rat.intCast_add] at b
  unfold takenQ
  by_cases h : n = (n.floor : Rat)
  · rw [if_pos (part_zero.mpr h)]
    grind
  · rw [if_neg (fun z => h (part_zero.mp z)), if_pos (show ruleB .high n.floor (partQ n) = true from rfl), Rat.intCast_add]
    grind
theorem low_of {n : Rat} {t : Int} (h1 : (t : Rat) ≤ n) (h2 : n < (t : Rat) + 1) : takenQ .low n = t := by
  rw [low_eq]
  have x1 : t ≤ n.floor := Rat.le_floor_iff.mpr h1
  have x2 : n.floor < t + 1 := Rat.floor_lt_iff.mpr (by rw [Rat.intCast_add]; exact h2)
  omega
theorem up_eq (n : Rat) : takenQ .up n = if 0 ≤ n.floor then takenQ .high n else takenQ .low n := by
  unfold takenQ
  by_cases h : (partQ n).num = 0
  · rw [if_pos h, if_pos h, if_pos h]; split <;> rfl
  · rw [if_neg h, if_neg h, if_neg h]
    show (if decide (0 ≤ n.floor) = true then _ else _) = _
    by_cases z : 0 ≤ n.floor
    · rw [if_pos (decide_eq_true z), if_pos z]; rfl
    · rw [if_neg (by simpa using z), if_neg z]; rfl
theorem down_eq (n : Rat) : takenQ .down n = if n.floor < 0 then takenQ .high n else takenQ .low n := by
  unfold takenQ
  by_cases h : (partQ n).num = 0
  · rw [if_pos h, if_pos h, if_pos h]; split <;> rfl
  · rw [if_neg h, if_neg h, if_neg h]
    show (if decide (n.floor < 0) = true then _ else _) = _
    by_cases z : n.floor < 0
    · rw [if_pos (decide_eq_true z), if_pos z]; rfl
    · rw [if_neg (by simpa using z), if_neg z]; rfl
theorem low_is (n : Rat) : (takenQ .low n : Rat) ≤ n ∧ n < (takenQ .low n : Rat) + 1 := by
  rw [low_eq]
  have b := Rat.lt_floor_add_one n
  rw [Rat.intCast_add] at b
  exact ⟨Rat.floor_le n, b⟩
/-- of a whole number of steps: by wholes alone -/
theorem low_div {m : Int} (hm : 0 < m) (u : Rat) : takenQ .low ((takenQ .low u : Rat) / (m : Rat)) = takenQ .low (u / (m : Rat)) := by
  have hm' : (0 : Rat) < (m : Rat) := Rat.intCast_pos.mpr hm
  obtain ⟨a, b⟩ := low_is (u / (m : Rat))
  obtain ⟨c, d⟩ := low_is u
  generalize takenQ .low (u / (m : Rat)) = t at *
  generalize takenQ .low u = j at *
  have e : u / (m : Rat) * m = u := by grind
  have a' : (t : Rat) * m ≤ u := by rw [← e]; exact Rat.mul_le_mul_of_nonneg_right a (Rat.le_of_lt hm')
  have b' : u < ((t : Rat) + 1) * m := by rw [← e]; exact Rat.mul_lt_mul_of_pos_right b hm'
  have x1 : t * m < j + 1 := Rat.intCast_lt_intCast.mp (by rw [Rat.intCast_add, Rat.intCast_mul]; grind)
  have x2 : j < (t + 1) * m := Rat.intCast_lt_intCast.mp (by rw [Rat.intCast_mul, Rat.intCast_add]; grind)
  have y1 : (t : Rat) * m ≤ (j : Rat) := by rw [← Rat.intCast_mul]; exact Rat.intCast_le_intCast.mpr (by omega)
  have y2 : (j : Rat) < ((t : Rat) + 1) * m := by have := Rat.intCast_lt_intCast.mpr x2; rw [Rat.intCast_mul, Rat.intCast_add] at this; exact this
  refine low_of ?_ ((Rat.div_lt_iff hm').mpr y2)
  have := (Rat.not_lt (a := (j : Rat) / m) (b := (t : Rat))).mp (fun z => by
    have := (Rat.div_lt_iff hm').mp z
    grind)
  exact this
theorem high_div {m : Int} (hm : 0 < m) (u : Rat) : takenQ .high ((takenQ .high u : Rat) / (m : Rat)) = takenQ .high (u / (m : Rat)) := by
  have hm' : (0 : Rat) < (m : Rat) := Rat.intCast_pos.mpr hm
  obtain ⟨a, b⟩ := high_is (u / (m : Rat))
  obtain ⟨c, d⟩ := high_is u
  generalize takenQ .high (u / (m : Rat)) = t at *
  generalize takenQ .high u = j at *
  have e : u / (m : Rat) * m = u := by grind
  have a' : ((t : Rat) - 1) * m < u := by rw [← e]; exact Rat.mul_lt_mul_of_pos_right a hm'
  have b' : u ≤ (t : Rat) * m := by rw [← e]; exact Rat.mul_le_mul_of_nonneg_right b (Rat.le_of_lt hm')
  have x1 : (t - 1) * m < j := Rat.intCast_lt_intCast.mp (by rw [Rat.intCast_mul, Rat.intCast_sub]; grind)
  have x2 : j - 1 < t * m := Rat.intCast_lt_intCast.mp (by rw [Rat.intCast_sub, Rat.intCast_mul]; grind)
  have y1 : ((t : Rat) - 1) * m < (j : Rat) := by have := Rat.intCast_lt_intCast.mpr x1; rw [Rat.intCast_mul, Rat.intCast_sub] at this; exact this
  have y2 : (j : Rat) ≤ (t : Rat) * m := by rw [← Rat.intCast_mul]; exact Rat.intCast_le_intCast.mpr (by omega)
  refine high_of ((Rat.lt_div_iff hm').mpr y1) ?_
  exact (Rat.not_lt (a := (t : Rat)) (b := (j : Rat) / m)).mp (fun z => by
    have := (Rat.lt_div_iff hm').mp z
    grind)
theorem floor_nn {n : Rat} : 0 ≤ n.floor ↔ 0 ≤ n := by
  rw [Rat.le_floor_iff]; rfl
theorem div_nn {m : Int} (hm : 0 < m) {n : Rat} : 0 ≤ n / (m : Rat) ↔ 0 ≤ n := by
  have hm' : (0 : Rat) < (m : Rat) := Rat.intCast_pos.mpr hm
  constructor
  · intro h
    have e : n / (m : Rat) * m = n := by grind
    rw [← e]
    exact Rat.mul_nonneg h (Rat.le_of_lt hm')
  · intro h
    exact (Rat.not_lt).mp (fun z => by
      have := (Rat.div_lt_iff hm').mp z
      grind)
theorem never_whole {r : Way} (hr : isHalf r = false) {m : Int} (hm : 0 < m) (u : Rat) : twiceT r m u = onceT r m u := by
  unfold twiceT onceT
  cases r with
  | hup => cases hr
  | hdown => cases hr
  | heven => cases hr
  | hodd => cases hr
  | low => exact low_div hm u
  | high => exact high_div hm u
  | up =>
    obtain ⟨c, d⟩ := high_is u
    obtain ⟨c2, d2⟩ := low_is u
    by_cases h : 0 ≤ u
    · have hj : (0 : Rat) ≤ (takenQ .high u : Rat) := Rat.le_trans h d
      rw [up_eq u, if_pos (floor_nn.mpr h), up_eq, if_pos (floor_nn.mpr ((div_nn hm).mpr hj)), up_eq, if_pos (floor_nn.mpr ((div_nn hm).mpr h)), high_div hm]
    · have hj : ¬ (0 : Rat) ≤ (takenQ .low u : Rat) := fun z => h (Rat.le_trans z c2)
      rw [up_eq u, if_neg (fun z => h (floor_nn.mp z)), up_eq, if_neg (fun z => hj ((div_nn hm).mp (floor_nn.mp z))), up_eq, if_neg (fun z => h ((div_nn hm).mp (floor_nn.mp z))), low_div hm]
  | down =>
    obtain ⟨c, d⟩ := high_is u
    obtain ⟨c2, d2⟩ := low_is u
    have neg : ∀ n : Rat, n.floor < 0 ↔ ¬ 0 ≤ n := fun n => by
      rw [← floor_nn]
      omega
    by_cases h : 0 ≤ u
    · have j0 : 0 ≤ takenQ .low u := by rw [low_eq]; exact floor_nn.mpr h
      have hj : (0 : Rat) ≤ (takenQ .low u : Rat) := Rat.intCast_nonneg.mpr j0
      rw [down_eq u, if_neg (fun z => (neg u).mp z h), down_eq, if_neg (fun z => (neg _).mp z ((div_nn hm).mpr hj)), down_eq, if_neg (fun z => (neg _).mp z ((div_nn hm).mpr h)), low_div hm]
    · rw [down_eq u, if_pos ((neg u).mpr h), down_eq (u / (m : Rat)), if_pos ((neg _).mpr fun z => h ((div_nn hm).mp z)), ← high_div hm u]
      by_cases hj : 0 ≤ (takenQ .high u : Rat)
      · have e0 : takenQ .high u = 0 := by
          have x1 : 0 ≤ takenQ .high u := Rat.intCast_nonneg.mp hj
          have x2 : takenQ .high u - 1 < 0 := Rat.intCast_neg_iff.mp (by rw [Rat.intCast_sub]; grind)
          omega
        rw [e0]
        have e1 : ((0 : Int) : Rat) / (m : Rat) = ((0 : Int) : Rat) := by grind
        rw [e1, taken_int, taken_int]
      · rw [down_eq, if_pos ((neg _).mpr fun z => hj ((div_nn hm).mp z))]
/-! ### the three numbers that are tried -/
def partsW (r : Way) (m : Int) : Bool := isHalf r && (decide (m % 2 = 0) || ((match r with | .heven => true | .hodd => true | _ => false) && decide (m % 4 = 3)))
def candU (m : Int) : List Rat := [(m : Rat) / 2 - 1 / 4, (m : Rat) / 2, (m : Rat) / 2 + 1 / 4]
theorem never_of {r : Way} {m : Int} (hm : 2 ≤ m) (h : partsW r m = false) (u : Rat) : twiceT r m u = onceT r m u := by
  cases hr : isHalf r with
  | false => exact never_whole hr (by omega) u
  | true =>
    have hodd : m % 2 = 1 := by
      by_cases z : m % 2 = 0
      · unfold partsW at h
        rw [hr, decide_eq_true z] at h
        cases h
      · omega
    obtain ⟨k, rfl⟩ : ∃ k, m = 2 * k + 1 := ⟨m / 2, by omega⟩
    refine never_odd hr (by omega) (fun s => ?_) u
    have key : s * (2 * k + 1) + k = 2 * (s * k) + s + k := by grind
    cases r with
    | up => cases hr
    | down => cases hr
    | high => cases hr
    | low => cases hr
    | hup =>
      show decide (0 ≤ s * (2 * k + 1) + k) = decide (0 ≤ s)
      rw [decide_eq_decide]
      constructor
      · intro z
        by_cases q : 0 ≤ s
        · exact q
        · have : s * (2 * k + 1) ≤ -1 * (2 * k + 1) := Int.mul_le_mul_of_nonneg_right (by omega) (by omega)
          omega
      · intro z
        have := Int.mul_nonneg z (show 0 ≤ 2 * k + 1 by omega)
        omega
    | hdown =>
      show decide (s * (2 * k + 1) + k < 0) = decide (s < 0)
      rw [decide_eq_decide]
      constructor
      · intro z
        by_cases q : s < 0
        · exact q
        · have := Int.mul_nonneg (show 0 ≤ s by omega) (show 0 ≤ 2 * k + 1 by omega)
          omega
      · intro z
        have : s * (2 * k + 1) ≤ -1 * (2 * k + 1) := Int.mul_le_mul_of_nonneg_right (by omega) (by omega)
        omega
    | heven =>
      have h4 : ¬ (2 * k + 1) % 4 = 3 := fun z => by
        unfold partsW at h
        rw [decide_eq_true z, Bool.and_true, Bool.or_true] at h
        cases h
      show decide ((s * (2 * k + 1) + k) % 2 = 1) = decide (s % 2 = 1)
      rw [decide_eq_decide, key]
      omega
    | hodd =>
      have h4 : ¬ (2 * k + 1) % 4 = 3 := fun z => by
        unfold partsW at h
        rw [decide_eq_true z, Bool.and_true, Bool.or_true] at h
        cases h
      show decide ((s * (2 * k + 1) + k) % 2 = 0) = decide (s % 2 = 0)
      rw [decide_eq_decide, key]
      omega
theorem some_of {r : Way} {m : Int} (hm : 2 ≤ m) (h : partsW r m = true) : ∃ u ∈ candU m, twiceT r m u ≠ onceT r m u := by
  have hr : isHalf r = true := by
    unfold partsW at h
    exact (Bool.and_eq_true_iff.mp h).1
  have hmq : (2 : Rat) ≤ (m : Rat) := by have := Rat.intCast_le_intCast.mpr hm; exact this
  unfold twiceT onceT
  by_cases z : m % 2 = 0
  · obtain ⟨k, rfl⟩ : ∃ k, m = 2 * k := ⟨m / 2, by omega⟩
    have c : (((2 * k : Int)) : Rat) = 2 * (k : Rat) := by rw [Rat.intCast_mul]; rfl
    have hk : (1 : Rat) ≤ (k : Rat) := by have := Rat.intCast_le_intCast.mpr (show 1 ≤ k by omega); exact this
    have c0 : ((0 : Int) : Rat) = 0 := rfl
    have c1 : ((1 : Int) : Rat) = 1 := rfl
    have e1 : takenQ r ((((2 * k : Int)) : Rat) / 2 - 1 / 4) = k := taken_near hr (by rw [c]; grind) (by rw [c]; grind)
    have e3 : takenQ r ((((2 * k : Int)) : Rat) / 2 + 1 / 4) = k := taken_near hr (by rw [c]; grind) (by rw [c]; grind)
    have ek : takenQ r ((k : Rat) / ((2 * k : Int) : Rat)) = if tieUp r 0 = true then 0 + 1 else 0 := div_mid hr (by omega) (by rw [c, c0]; grind)
    cases t : tieUp r 0 with
    | true =>
      refine ⟨_, List.mem_cons_self, ?_⟩
      rw [e1, ek, t, if_pos rfl, div_near hr (by omega) (s := 0) (by rw [c, c0]; grind) (by rw [c, c0]; grind)]
      decide
    | false =>
      refine ⟨_, List.mem_cons_of_mem _ (List.mem_cons_of_mem _ List.mem_cons_self), ?_⟩
      rw [e3, ek, t, if_neg Bool.false_ne_true, div_near hr (by omega) (s := 1) (by rw [c, c1]; grind) (by rw [c, c1]; grind)]
      decide
  · obtain ⟨k, rfl⟩ : ∃ k, m = 2 * k + 1 := ⟨m / 2, by omega⟩
    have c : (((2 * k + 1 : Int)) : Rat) = 2 * (k : Rat) + 1 := by rw [Rat.intCast_add, Rat.intCast_mul]; rfl
    have hk : (1 : Rat) ≤ (k : Rat) := by have := Rat.intCast_le_intCast.mpr (show 1 ≤ k by omega); exact this
    have c0 : ((0 : Int) : Rat) = 0 := rfl
    have c1 : ((1 : Int) : Rat) = 1 := rfl
    have e2 : takenQ r ((((2 * k + 1 : Int)) : Rat) / 2) = if tieUp r k = true then k + 1 else k := by
      rw [← taken_mid hr k]
      congr 1
      rw [c]; grind
    have o2 : takenQ r ((((2 * k + 1 : Int)) : Rat) / 2 / ((2 * k + 1 : Int) : Rat)) = if tieUp r 0 = true then 0 + 1 else 0 := div_mid hr (by omega) (by rw [c0]; grind)
    have h4 : (2 * k + 1) % 4 = 3 ∧ (r = .heven ∨ r = .hodd) := by
      unfold partsW at h
      rw [hr, decide_eq_false z] at h
      cases r <;> simp_all
    refine ⟨_, List.mem_cons_of_mem _ List.mem_cons_self, ?_⟩
    have up1 : takenQ r (((k + 1 : Int) : Rat) / ((2 * k + 1 : Int) : Rat)) = 1 := div_near hr (by omega) (by simp only [Rat.intCast_add, Rat.intCast_mul, Rat.intCast_sub, Rat.intCast_ofNat, Rat.intCast_one]; grind) (by simp only [Rat.intCast_add, Rat.intCast_mul, Rat.intCast_sub, Rat.intCast_ofNat, Rat.intCast_one]; grind)
    have lo1 : takenQ r ((k : Rat) / ((2 * k + 1 : Int) : Rat)) = 0 := div_near hr (by omega) (by rw [c, c0]; grind) (by rw [c, c0]; grind)
    rw [e2, o2]
    obtain ⟨h4, rfl | rfl⟩ := h4
    · have t1 : tieUp .heven k = true := decide_eq_true (by omega)
      rw [t1, if_pos rfl, up1]
      decide
    · have t1 : tieUp .hodd k = false := decide_eq_false (by omega)
      rw [t1, if_neg Bool.false_ne_true, lo1]
      decide
end My

namespace My
/-! ### farther by whole numbers; sizes -/
theorem taken_within (r : Way) (u : Rat) : (takenQ r u : Rat) < u + 1 ∧ u - 1 < (takenQ r u : Rat) := by
  have a := Rat.floor_le u
  have b := Rat.lt_floor_add_one u
  rw [Rat.intCast_add] at b
  unfold takenQ
  by_cases h : u = (u.floor : Rat)
  · rw [if_pos (part_zero.mpr h)]
    grind
  · rw [if_neg (fun z => h (part_zero.mp z))]
    split
    · rw [Rat.intCast_add]; grind
    · grind
theorem floor_shift (u : Rat) (j : Int) : (u + (j : Rat)).floor = u.floor + j := by
  have a := Rat.floor_le u
  have b := Rat.lt_floor_add_one u
  rw [Rat.intCast_add] at b
  have x : u.floor + j ≤ (u + (j : Rat)).floor := Rat.le_floor_iff.mpr (by rw [Rat.intCast_add]; grind)
  have y : (u + (j : Rat)).floor < u.floor + j + 1 := Rat.floor_lt_iff.mpr (by rw [Rat.intCast_add, Rat.intCast_add]; grind)
  omega
theorem part_shift (u : Rat) (j : Int) : partQ (u + (j : Rat)) = partQ u := by
  unfold partQ
  rw [floor_shift, Rat.intCast_add]
  grind
theorem rule_shift (r : Way) {l j : Int} (p : Rat) (hl : 0 ≤ l) (hj : 0 ≤ j) (h2 : j % 2 = 0) : ruleB r (l + j) p = ruleB r l p := by
  have e1 : decide (0 ≤ l + j) = decide (0 ≤ l) := by rw [decide_eq_decide]; omega
  have e2 : decide (l + j < 0) = decide (l < 0) := by rw [decide_eq_decide]; omega
  have e3 : decide ((l + j) % 2 = 1) = decide (l % 2 = 1) := by rw [decide_eq_decide]; omega
  have e4 : decide ((l + j) % 2 = 0) = decide (l % 2 = 0) := by rw [decide_eq_decide]; omega
  cases r <;> simp only [ruleB, e1, e2, e3, e4]
theorem taken_shift (r : Way) {u : Rat} {j : Int} (hu : 0 ≤ u) (hj : 0 ≤ j) (h2 : j % 2 = 0) : takenQ r (u + (j : Rat)) = takenQ r u + j := by
  unfold takenQ
  rw [part_shift, floor_shift, rule_shift r _ (floor_nn.mpr hu) hj h2]
  split
  · rfl
  · split <;> omega
theorem taken_nn (r : Way) {u : Rat} (hu : 0 ≤ u) : 0 ≤ takenQ r u := by
  have := floor_nn.mpr hu
  unfold takenQ
  split
  · exact this
  · split <;> omega
theorem twice_shift (r : Way) {m j : Int} {u : Rat} (hm : 0 < m) (hu : 0 ≤ u) (hj : 0 ≤ j) (h2 : j % 2 = 0) : twiceT r m (u + (j : Rat) * m) = twiceT r m u + j ∧ onceT r m (u + (j : Rat) * m) = onceT r m u + j := by
  have hm' : (0 : Rat) < (m : Rat) := Rat.intCast_pos.mpr hm
  have h3 : j * m % 2 = 0 := by
    obtain ⟨q, rfl⟩ : ∃ q, j = 2 * q := ⟨j / 2, by omega⟩
    rw [Int.mul_assoc]; omega
  have h4 : 0 ≤ j * m := Int.mul_nonneg hj (by omega)
  have e : (j : Rat) * (m : Rat) = ((j * m : Int) : Rat) := (Rat.intCast_mul _ _).symm
  unfold twiceT onceT
  constructor
  · rw [e, taken_shift r hu h4 h3, Rat.intCast_add, Rat.intCast_mul]
    have q : ((takenQ r u : Rat) + (j : Rat) * (m : Rat)) / (m : Rat) = (takenQ r u : Rat) / (m : Rat) + (j : Rat) := by grind
    rw [q, taken_shift r ((div_nn hm).mpr (Rat.intCast_nonneg.mpr (taken_nn r hu))) hj h2]
  · have q : (u + (j : Rat) * (m : Rat)) / (m : Rat) = u / (m : Rat) + (j : Rat) := by grind
    rw [q, taken_shift r ((div_nn hm).mpr hu) hj h2]
def absQ (x : Rat) : Rat := Rat.divInt (if x.num < 0 then -x.num else x.num) (x.den : Int)
theorem absQ_eq (x : Rat) : absQ x = if 0 ≤ x then x else -x := by
  unfold absQ
  by_cases h : 0 ≤ x
  · have : 0 ≤ x.num := Rat.num_nonneg.mpr h
    rw [if_pos h, if_neg (by omega), Rat.num_divInt_den]
  · have : ¬ 0 ≤ x.num := fun z => h (Rat.num_nonneg.mp z)
    rw [if_neg h, if_pos (by omega), ← Rat.neg_divInt, Rat.num_divInt_den]
theorem absQ_lt {x y : Rat} (h1 : x < y) (h2 : -y < x) : absQ x < y := by
  rw [absQ_eq]
  split <;> grind
theorem absQ_bd {n : Nat} {x : Rat} (h : Bd n x) : Bd n (absQ x) := by
  have := h.1
  refine Bd.of (den_ne x) (by split <;> omega) (by have := h.2; omega)
theorem lt_dec (x y : Rat) : decide (x < y) = decide (x.num * (y.den : Int) < y.num * (x.den : Int)) := by
  rw [decide_eq_decide]
  exact Rat.lt_iff x y
/-- rounded, a number lies within a step -/
theorem step_within {r : Way} {n x : Rat} (hx : 0 < x) : absQ (n - x * (takenQ r (n / x) : Rat)) < x := by
  obtain ⟨a, b⟩ := taken_within r (n / x)
  have e : n = n / x * x := by grind
  have p : (takenQ r (n / x) : Rat) * x < (n / x + 1) * x := Rat.mul_lt_mul_of_pos_right a hx
  have q : (n / x - 1) * x < (takenQ r (n / x) : Rat) * x := Rat.mul_lt_mul_of_pos_right b hx
  refine absQ_lt ?_ ?_ <;> grind
end My

namespace My
/-! ### powers of ten -/
def T10 (p : Int) : Rat := (10 : Rat) ^ p
theorem T10_pos (p : Int) : 0 < T10 p := Rat.zpow_pos (by decide +kernel)
theorem T10_ne (p : Int) : T10 p ≠ 0 := by have := T10_pos p; grind
theorem T10_add (p q : Int) : T10 (p + q) = T10 p * T10 q := Rat.zpow_add (by decide +kernel) p q
theorem T10_zero : T10 0 = 1 := Rat.zpow_zero _
theorem T10_one : T10 1 = 10 := by
  have := Rat.zpow_add_one (q := 10) (by decide +kernel) 0
  rw [Rat.zpow_zero] at this
  show (10 : Rat) ^ (1 : Int) = 10
  rw [show (1 : Int) = 0 + 1 from rfl, this]
  grind
theorem T10_succ (p : Int) : T10 (p + 1) = T10 p * 10 := by rw [T10_add, T10_one]
theorem T10_nat (n : Nat) : T10 (n : Int) = ((10 ^ n : Int) : Rat) := by
  induction n with
  | zero => exact T10_zero
  | succ n ih =>
    rw [Int.natCast_succ, T10_succ, ih, Int.pow_succ, Rat.intCast_mul]
    rfl
theorem T10_neg (p : Int) : T10 (-p) = 1 / T10 p := by
  have : T10 (-p) * T10 p = 1 := by rw [← T10_add, Int.add_left_neg]; exact T10_zero
  have := T10_ne p
  grind
theorem T10_lt_nat (p : Int) (n : Nat) : T10 p < T10 (p + ((n : Int) + 1)) := by
  have hp := T10_pos p
  induction n with
  | zero =>
    show T10 p < T10 (p + 1)
    rw [T10_succ]
    grind
  | succ n ih =>
    have e : p + (((n + 1 : Nat) : Int) + 1) = p + ((n : Int) + 1) + 1 := by omega
    have := T10_pos (p + ((n : Int) + 1))
    rw [e, T10_succ]
    grind
theorem T10_lt {p q : Int} (h : p < q) : T10 p < T10 q := by
  have := T10_lt_nat p (q - p - 1).toNat
  have e : p + (((q - p - 1).toNat : Int) + 1) = q := by omega
  rw [e] at this
  exact this
theorem T10_le {p q : Int} (h : p ≤ q) : T10 p ≤ T10 q := by
  by_cases e : p = q
  · rw [e]; exact Rat.le_refl
  · exact Rat.le_of_lt (T10_lt (by omega))
theorem T10_lt_iff {p q : Int} : T10 p < T10 q ↔ p < q := by
  constructor
  · intro h
    by_cases z : p < q
    · exact z
    · have := T10_le (show q ≤ p by omega)
      grind
  · exact T10_lt
/-- the power of x -/
def Pow (p : Int) (x : Rat) : Prop := T10 p ≤ absQ x ∧ absQ x < T10 (p + 1)
theorem absQ_mul_pos {x t : Rat} (ht : 0 < t) : absQ (x * t) = absQ x * t := by
  rw [absQ_eq, absQ_eq]
  by_cases h : 0 ≤ x
  · have : 0 ≤ x * t := Rat.mul_nonneg h (Rat.le_of_lt ht)
    rw [if_pos this, if_pos h]
  · have h' : 0 < -x := by grind
    have : 0 < -x * t := Rat.mul_pos h' ht
    rw [if_neg (by grind), if_neg h]
    grind
theorem absQ_neg (x : Rat) : absQ (-x) = absQ x := by
  rw [absQ_eq, absQ_eq]
  split <;> split <;> grind
theorem absQ_nn (x : Rat) : 0 ≤ absQ x := by
  rw [absQ_eq]; split <;> grind
theorem Pow.mul {p k : Int} {x : Rat} (h : Pow p x) : Pow (p + k) (x * T10 k) := by
  have hk := T10_pos k
  unfold Pow at h ⊢
  rw [absQ_mul_pos hk, show p + k + 1 = (p + 1) + k by omega, T10_add, T10_add]
  exact ⟨Rat.mul_le_mul_of_nonneg_right h.1 (Rat.le_of_lt hk), Rat.mul_lt_mul_of_pos_right h.2 hk⟩
theorem Pow.neg {p : Int} {x : Rat} (h : Pow p x) : Pow p (-x) := by
  unfold Pow at h ⊢
  rw [absQ_neg]
  exact h
theorem Pow.ne {p : Int} {x : Rat} (h : Pow p x) : x ≠ 0 := by
  intro e
  have := h.1
  have := T10_pos p
  rw [e, absQ_eq, if_pos (by decide +kernel)] at *
  grind
theorem pow10_lt (n : Nat) : (10 ^ n : Int).natAbs < 2 ^ (4 * n + 1) := by
  rw [Int.natAbs_pow]
  have : (10 : Nat) ^ n ≤ (2 ^ 4) ^ n := Nat.pow_le_pow_left (by decide) n
  rw [← Nat.pow_mul] at this
  have h2 : 2 ^ (4 * n) < 2 ^ (4 * n + 1) := Nat.pow_lt_pow_right (by decide) (by omega)
  exact Nat.lt_of_le_of_lt this h2
theorem T10_bd {p : Int} {k : Nat} (h : p.natAbs ≤ k) : Bd (4 * k + 1) (T10 p) := by
  have b := Nat.lt_of_lt_of_le (pow10_lt p.natAbs) (Nat.pow_le_pow_right (by decide : 0 < 2) (show 4 * p.natAbs + 1 ≤ 4 * k + 1 by omega))
  by_cases z : 0 ≤ p
  · have e : p = (p.natAbs : Int) := by omega
    rw [e, T10_nat]
    exact Bd.int b (by omega)
  · have e : p = -(p.natAbs : Int) := by omega
    rw [e, T10_neg, T10_nat]
    have e2 : 1 / (((10 ^ p.natAbs : Int)) : Rat) = Rat.divInt 1 (10 ^ p.natAbs : Int) := by rw [Rat.divInt_eq_div]; rfl
    rw [e2]
    exact Bd.of (Int.pow_ne_zero (by decide)) (Nat.lt_of_lt_of_le (by decide : Int.natAbs 1 < 2 ^ 1) (Nat.pow_le_pow_right (by decide) (by omega))) b
/-! ### to so many figures -/
def figQ (r : Way) (c p : Int) (x : Rat) : Rat := T10 (p - c + 1) * (takenQ r (x / T10 (p - c + 1)) : Rat)
theorem fig_stay {r : Way} {c p m : Int} {x : Rat} (h : x / T10 (p - c + 1) = (m : Rat)) : figQ r c p x = x := by
  have := T10_ne (p - c + 1)
  unfold figQ
  rw [h, taken_int, ← h]
  grind
theorem fig_mul {r : Way} {c p k : Int} {x : Rat} : figQ r c (p + k) (x * T10 k) = figQ r c p x * T10 k := by
  have h1 := T10_ne (p - c + 1)
  have h2 := T10_ne k
  unfold figQ
  rw [show p + k - c + 1 = (p - c + 1) + k by omega, T10_add]
  have e : x * T10 k / (T10 (p - c + 1) * T10 k) = x / T10 (p - c + 1) := by grind
  rw [e]
  grind
def turnW : Way → Way
  | .high => .low
  | .low => .high
  | r => r
theorem floor_of {n : Rat} {l : Int} (h1 : (l : Rat) ≤ n) (h2 : n < (l : Rat) + 1) : n.floor = l := by
  have a : l ≤ n.floor := Rat.le_floor_iff.mpr h1
  have b : n.floor < l + 1 := Rat.floor_lt_iff.mpr (by rw [Rat.intCast_add]; exact h2)
  omega
theorem nearerB_neg {p : Rat} {a : Bool} : nearerB (1 - p) (!a) = !nearerB p a := by
  by_cases h : p < 1 / 2
  · rw [nearerB_lo h, nearerB_hi (by grind)]; rfl
  · by_cases h2 : p = 1 / 2
    · have e : 1 - p = 1 / 2 := by grind
      rw [e, h2, nearerB_mid, nearerB_mid]
    · rw [nearerB_lo (p := 1 - p) (by grind), nearerB_hi (p := p) (by grind)]; rfl
theorem taken_neg (r : Way) (u : Rat) : takenQ (turnW r) (-u) = -takenQ r u := by
  by_cases h : u = (u.floor : Rat)
  · rw [h, ← Rat.intCast_neg, taken_int, taken_int]
  · have a := Rat.floor_le u
    have b := Rat.lt_floor_add_one u
    rw [Rat.intCast_add] at b
    have e1 : u = (u.floor : Rat) + (u - (u.floor : Rat)) := by grind
    have e2 : -u = (((-u.floor - 1 : Int)) : Rat) + (1 - (u - (u.floor : Rat))) := by rw [Rat.intCast_sub, Rat.intCast_neg]; grind
    generalize u.floor = l at *
    rw [e2, taken_add (by grind) (by grind)]
    have t : takenQ r u = if ruleB r l (u - l) = true then l + 1 else l := by
      conv => lhs; rw [e1]
      exact taken_add (by grind) (by grind)
    rw [t]
    have key : ruleB (turnW r) (-l - 1) (1 - (u - l)) = !ruleB r l (u - l) := by
      have f1 : decide (0 ≤ -l - 1) = !decide (0 ≤ l) := by
        by_cases z : 0 ≤ l
        · rw [decide_eq_true z, decide_eq_false (by omega)]; rfl
        · rw [decide_eq_false z, decide_eq_true (by omega)]; rfl
      have f2 : decide (-l - 1 < 0) = !decide (l < 0) := by
        by_cases z : l < 0
        · rw [decide_eq_true z, decide_eq_false (by omega)]; rfl
        · rw [decide_eq_false z, decide_eq_true (by omega)]; rfl
      have f3 : decide ((-l - 1) % 2 = 1) = !decide (l % 2 = 1) := by
        by_cases z : l % 2 = 1
        · rw [decide_eq_true z, decide_eq_false (by omega)]; rfl
        · rw [decide_eq_false z, decide_eq_true (by omega)]; rfl
      have f4 : decide ((-l - 1) % 2 = 0) = !decide (l % 2 = 0) := by
        by_cases z : l % 2 = 0
        · rw [decide_eq_true z, decide_eq_false (by omega)]; rfl
        · rw [decide_eq_false z, decide_eq_true (by omega)]; rfl
      cases r <;> simp only [turnW, ruleB, f1, f2, f3, f4, nearerB_neg, Bool.not_true, Bool.not_false]
    rw [key]
    cases ruleB r l (u - l) with
    | true =>
      rw [if_neg (by simp), if_pos rfl]
      omega
    | false =>
      rw [if_pos (by simp), if_neg (by simp)]
      omega
theorem fig_neg {r : Way} {c p : Int} {x : Rat} : figQ (turnW r) c p (-x) = -figQ r c p x := by
  unfold figQ
  have e : -x / T10 (p - c + 1) = -(x / T10 (p - c + 1)) := by have := T10_ne (p - c + 1); grind
  rw [e, taken_neg, Rat.intCast_neg]
  grind
end My

namespace My
theorem pow_step {q : Rat} {a : Int} (h1 : T10 a ≤ q) : ∀ m : Nat, q < T10 (a + (m : Int)) → ∃ p, a ≤ p ∧ p < a + (m : Int) ∧ T10 p ≤ q ∧ q < T10 (p + 1)
  | 0, h => by
    rw [show a + ((0 : Nat) : Int) = a by omega] at h
    grind
  | m + 1, h => by
    by_cases z : q < T10 (a + (m : Int))
    · obtain ⟨p, p1, p2, p3, p4⟩ := pow_step h1 m z
      exact ⟨p, p1, by omega, p3, p4⟩
    · refine ⟨a + (m : Int), by omega, by omega, by grind, ?_⟩
      rw [show a + (m : Int) + 1 = a + ((m + 1 : Nat) : Int) by omega]
      exact h
theorem absQ_div {t b : Int} (hb : 0 < b) : absQ (Rat.divInt t b) = ((t.natAbs : Int) : Rat) / (b : Rat) := by
  have hb' : (0 : Rat) < (b : Rat) := Rat.intCast_pos.mpr hb
  have ib : (0 : Rat) < 1 / (b : Rat) := (Rat.lt_div_iff hb').mpr (by grind)
  have e : Rat.divInt t b = (t : Rat) * (1 / (b : Rat)) := by rw [Rat.divInt_eq_div]; grind
  rw [e, absQ_mul_pos ib, absQ_eq]
  have n : (if 0 ≤ (t : Rat) then (t : Rat) else -(t : Rat)) = ((t.natAbs : Int) : Rat) := by
    by_cases h : 0 ≤ t
    · rw [if_pos (Rat.intCast_nonneg.mpr h)]
      congr 1; omega
    · rw [if_neg (fun z => h (Rat.intCast_nonneg.mp z)), ← Rat.intCast_neg]
      congr 1; omega
  rw [n]
  grind
theorem le_div {x y z : Rat} (hz : 0 < z) (h : x * z ≤ y) : x ≤ y / z := by
  refine Rat.not_lt.mp fun q => ?_
  have := (Rat.div_lt_iff hz).mp q
  grind
/-- the power, found by whole numbers -/
theorem pow_grain {t b : Int} {i j : Nat} (hb : 0 < b) (h1 : (10 : Int) ^ i * b ≤ (10 : Int) ^ j * (t.natAbs : Int)) (h2 : (10 : Int) ^ j * (t.natAbs : Int) < 10 * ((10 : Int) ^ i * b)) : Pow ((i : Int) - (j : Int)) (Rat.divInt t b) := by
  have hb' : (0 : Rat) < (b : Rat) := Rat.intCast_pos.mpr hb
  have hj := T10_pos (j : Int)
  have h1' := Rat.intCast_le_intCast.mpr h1
  have h2' := Rat.intCast_lt_intCast.mpr h2
  have e10 : ((10 : Int) : Rat) = 10 := rfl
  rw [Rat.intCast_mul, Rat.intCast_mul, ← T10_nat, ← T10_nat] at h1'
  rw [Rat.intCast_mul, Rat.intCast_mul, Rat.intCast_mul, ← T10_nat, ← T10_nat, e10] at h2'
  have split : T10 (i : Int) = T10 ((i : Int) - (j : Int)) * T10 (j : Int) := by rw [← T10_add]; congr 1; omega
  rw [split] at h1' h2'
  unfold Pow
  rw [absQ_div hb, T10_succ]
  generalize T10 ((i : Int) - (j : Int)) = u at *
  generalize T10 (j : Int) = v at *
  generalize ((t.natAbs : Int) : Rat) = y at *
  generalize (b : Rat) = z at *
  constructor
  · refine le_div hb' (Rat.not_lt.mp fun q => ?_)
    have := Rat.mul_lt_mul_of_pos_right q hj
    grind
  · refine (Rat.div_lt_iff hb').mpr ?_
    refine Rat.not_le.mp fun q => ?_
    have := Rat.mul_le_mul_of_nonneg_right q (Rat.le_of_lt hj)
    grind
theorem pow_unique {p p' : Int} {x : Rat} (h : Pow p x) (h' : Pow p' x) : p = p' := by
  have a : p < p' + 1 := T10_lt_iff.mp (by have := h.1; have := h'.2; grind)
  have b : p' < p + 1 := T10_lt_iff.mp (by have := h'.1; have := h.2; grind)
  omega
theorem pow_there {t b : Int} (t0 : t ≠ 0) (hb : 0 < b) {i j : Nat} (ht : (t.natAbs : Int) < (10 : Int) ^ i) (hj : b ≤ (10 : Int) ^ j) : ∃ p : Int, -(j : Int) ≤ p ∧ p < (i : Int) ∧ Pow p (Rat.divInt t b) := by
  have hb' : (0 : Rat) < (b : Rat) := Rat.intCast_pos.mpr hb
  have t1 : ((1 : Int) : Rat) ≤ ((t.natAbs : Int) : Rat) := Rat.intCast_le_intCast.mpr (by omega)
  have b1 : ((1 : Int) : Rat) ≤ (b : Rat) := Rat.intCast_le_intCast.mpr (by omega)
  have e1 : ((1 : Int) : Rat) = 1 := rfl
  rw [e1] at t1 b1
  have ht' := Rat.intCast_lt_intCast.mpr ht
  have hj' := Rat.intCast_le_intCast.mpr hj
  rw [← T10_nat] at ht' hj'
  have pj := T10_pos (j : Int)
  have pi := T10_pos (i : Int)
  have nj := T10_ne (j : Int)
  have lo : T10 (-(j : Int)) ≤ absQ (Rat.divInt t b) := by
    rw [absQ_div hb, T10_neg]
    refine le_div hb' ?_
    have q : 1 / T10 (j : Int) * (b : Rat) ≤ 1 := by
      have e : 1 / T10 (j : Int) * (b : Rat) = (b : Rat) / T10 (j : Int) := by grind
      rw [e]
      refine Rat.not_lt.mp fun q => ?_
      have := (Rat.lt_div_iff pj).mp q
      grind
    grind
  have hi : absQ (Rat.divInt t b) < T10 (-(j : Int) + ((i + j : Nat) : Int)) := by
    rw [absQ_div hb, show -(j : Int) + ((i + j : Nat) : Int) = (i : Int) by omega]
    refine (Rat.div_lt_iff hb').mpr ?_
    have := Rat.mul_le_mul_of_nonneg_left b1 (Rat.le_of_lt pi)
    grind
  obtain ⟨p, p1, p2, p3, p4⟩ := pow_step lo _ hi
  exact ⟨p, p1, by omega, p3, p4⟩
end My

namespace My
/-! ### how few places: the least power of ten of which a number is a part -/
/-- v tells the least n with b a part of 10 ^ n; none where there is none -/
def Least (b : Nat) (v : Option Nat) : Prop := match v with
  | some n => b ∣ 10 ^ n ∧ ∀ m, b ∣ 10 ^ m → n ≤ m
  | none => ∀ m, ¬ b ∣ 10 ^ m
theorem Least.unique {b : Nat} {u v : Option Nat} (hu : Least b u) (hv : Least b v) : u = v := by
  match u, v with
  | some n, some m =>
    have h1 := hu.2 m hv.1
    have h2 := hv.2 n hu.1
    rw [show n = m by omega]
  | none, some m => exact absurd hv.1 (hu m)
  | some n, none => exact absurd hu.1 (hv n)
  | none, none => rfl
theorem cop2 {r : Nat} (h : ¬ 2 ∣ r) : Nat.Coprime r 2 := by
  have e : r % 2 = 1 := by omega
  show Nat.gcd r 2 = 1
  rw [Nat.gcd_comm, Nat.gcd_rec, e]; decide
theorem cop5 {r : Nat} (h : ¬ 5 ∣ r) : Nat.Coprime r 5 := by
  show Nat.gcd r 5 = 1
  rw [Nat.gcd_comm, Nat.gcd_rec]
  have e : r % 5 = 1 ∨ r % 5 = 2 ∨ r % 5 = 3 ∨ r % 5 = 4 := by omega
  rcases e with e | e | e | e <;> rw [e] <;> decide
theorem ten_split (n : Nat) : 10 ^ n = 2 ^ n * 5 ^ n := by rw [← Nat.mul_pow]
theorem dvd_ten {a c n : Nat} : 2 ^ a * 5 ^ c ∣ 10 ^ n ↔ a ≤ n ∧ c ≤ n := by
  rw [ten_split]
  constructor
  · intro h
    have h2 : 2 ^ a ∣ 2 ^ n * 5 ^ n := Nat.dvd_trans (Nat.dvd_mul_right _ _) h
    have h5 : 5 ^ c ∣ 2 ^ n * 5 ^ n := Nat.dvd_trans (Nat.dvd_mul_left _ _) h
    have c25 : Nat.Coprime 2 5 := by decide
    have k2 := Nat.Coprime.dvd_of_dvd_mul_right (Nat.Coprime.pow a n c25) h2
    have k5 := Nat.Coprime.dvd_of_dvd_mul_left (Nat.Coprime.pow c n c25.symm) h5
    exact ⟨(Nat.pow_dvd_pow_iff_le_right (by decide)).mp k2, (Nat.pow_dvd_pow_iff_le_right (by decide)).mp k5⟩
  · rintro ⟨h2, h5⟩
    exact Nat.mul_dvd_mul (Nat.pow_dvd_pow 2 h2) (Nat.pow_dvd_pow 5 h5)
theorem rest_one {r n : Nat} (h2 : ¬ 2 ∣ r) (h5 : ¬ 5 ∣ r) (h : r ∣ 10 ^ n) : r = 1 := by
  have c : Nat.Coprime r (10 ^ n) := Nat.Coprime.pow_right n (Nat.Coprime.mul_right (cop2 h2) (cop5 h5))
  exact Nat.Coprime.eq_one_of_dvd c h
theorem least_of {b a c r : Nat} (e : b = 2 ^ a * 5 ^ c * r) (h2 : ¬ 2 ∣ r) (h5 : ¬ 5 ∣ r) : Least b (if r = 1 then some (max a c) else none) := by
  by_cases z : r = 1
  · rw [if_pos z]
    rw [z, Nat.mul_one] at e
    rw [e]
    exact ⟨dvd_ten.mpr ⟨by omega, by omega⟩, fun m h => by have := dvd_ten.mp h; omega⟩
  · rw [if_neg z]
    intro m h
    rw [e] at h
    exact z (rest_one h2 h5 (Nat.dvd_trans (Nat.dvd_mul_left _ _) h))
theorem least_zero {b : Nat} {n : Nat} (h : Least b (some n)) (n0 : n ≠ 0) : ¬ b ∣ 10 ^ (n - 1) := fun z => by
  have := h.2 _ z
  omega
/-- one factor taken out -/
theorem take_out {p w q : Nat} (h : w % p = 0) (e : q = w / p) : w = p * q := by
  rw [e, Nat.mul_div_cancel' (Nat.dvd_of_mod_eq_zero h)]
/-- a step of taking out twos and fives, where no ten is in -/
structure Left (b k x y l : Nat) : Prop where
  eq : b = 10 ^ k * (2 ^ x * 5 ^ y) * l
  no : ¬ (2 ∣ l ∧ 5 ∣ l)
  x0 : x = 0 ∨ ¬ 5 ∣ l
  y0 : y = 0 ∨ ¬ 2 ∣ l
  xy : x = 0 ∨ y = 0
theorem Left.two {b k x y l m : Nat} (h : Left b k x y l) (e : l = 2 * m) : Left b k (x + 1) y m := by
  have y0 : y = 0 := h.y0.resolve_right fun z => z ⟨m, e⟩
  have n5 : ¬ 5 ∣ m := fun z => h.no ⟨⟨m, e⟩, by rw [e]; exact Nat.dvd_trans z (Nat.dvd_mul_left _ _)⟩
  refine ⟨?_, fun z => n5 z.2, .inr n5, .inl y0, .inr y0⟩
  rw [h.eq, e, Nat.pow_succ]
  simp only [Nat.mul_assoc, Nat.mul_left_comm, Nat.mul_comm]
theorem Left.five {b k x y l m : Nat} (h : Left b k x y l) (n2 : ¬ 2 ∣ l) (e : l = 5 * m) : Left b k x (y + 1) m := by
  have x0 : x = 0 := h.x0.resolve_right fun z => z ⟨m, e⟩
  have n2' : ¬ 2 ∣ m := fun z => n2 (by rw [e]; exact Nat.dvd_trans z (Nat.dvd_mul_left _ _))
  refine ⟨?_, fun z => n2' z.1, .inl x0, .inr n2', .inl x0⟩
  rw [h.eq, e, Nat.pow_succ]
  simp only [Nat.mul_assoc, Nat.mul_left_comm, Nat.mul_comm]
theorem Left.least {b k x y l : Nat} (h : Left b k x y l) (h2 : ¬ 2 ∣ l) (h5 : ¬ 5 ∣ l) : Least b (if l = 1 then some (k + (x + y)) else none) := by
  have e : b = 2 ^ (k + x) * 5 ^ (k + y) * l := by
    rw [h.eq, ten_split, Nat.pow_add, Nat.pow_add]
    simp only [Nat.mul_assoc, Nat.mul_left_comm, Nat.mul_comm]
  have := least_of e h2 h5
  have m : max (k + x) (k + y) = k + (x + y) := by rcases h.xy with z | z <;> rw [z] <;> omega
  rw [m] at this
  exact this
theorem Left.bound {b k x y l : Nat} (h : Left b k x y l) (l0 : 0 < l) : k + (x + y) < b := by
  have e : 2 ^ (k + (x + y)) ≤ b := by
    rw [h.eq, Nat.pow_add, Nat.pow_add]
    refine Nat.le_trans ?_ (Nat.le_mul_of_pos_right _ l0)
    exact Nat.mul_le_mul (Nat.pow_le_pow_left (by decide) k) (Nat.mul_le_mul (Nat.le_refl _) (Nat.pow_le_pow_left (by decide) y))
  exact Nat.lt_of_lt_of_le Nat.lt_two_pow_self e
end My

/-! ### isinstance of a def -/
namespace PySem
open Sem (wp)
namespace F
theorem my_slot_function_ga : Slot "function" "__getattribute__" "object.__getattribute__" :=
  .of (owner := "object") (n := "__getattribute__") (by rw [typeLookup_type, builtinLookup_eq_fast]; kernel_rfl) (by decide +kernel) (by decide +kernel) (by decide +kernel)
    (by first | exact .inl (by decide +kernel) | exact .inr (by decide +kernel)) (by rw [isSubtype_type]; kernel_rfl)
theorem my_lk_function_class : typeLookup (.type "function") "__class__" = pure (some (.builtin "object.__class__")) := by rw [typeLookup_type, builtinLookup_eq_fast]; kernel_rfl
theorem my_sub_function_owner : isSubtype (.type "function") (.type (".".intercalate ("object.__class__".cutAt '.').dropLast)) = pure true := by
  rw [owner_object_class, isSubtype_type]; kernel_rfl
end F
section
variable {prog : Program} {w : World} {A : Around} {E : Value → Shared → Prop} {h : Heap} {g : Array GenState} {d : Drawn} {t : Nat} {os : OsState} {a : Addr} {o : Obj}
theorem my_class_get_fun {R : Result → Shared → Prop} (hx : h.get? a = some o) (hc : o.cls = .type "function") (hq : R (.ok (.ret (.type "function"))) ⟨h, g, d, t, os⟩) :
    codeAny (model prog w) A (.call (.builtin "getset_descriptor.__get__") ⟨[.builtin "object.__class__", .ref a, .type "function"], []⟩) R ⟨h, g, d, t, os⟩ := by
  have hT : (⟨h, g, d, t, os⟩ : Shared).TypeIs (.ref a) "function" := ⟨_, hx, hc⟩
  have hT5 : (⟨h, g, d, t, os⟩ : Shared).TypeIs (.builtin "object.__class__") "getset_descriptor" := F.typeOf_object_class
  have f8 := F.my_sub_function_owner
  refine codeAny_call_builtin F.slot_gs_get.plain F.entry_gs_get (F.slot_gs_get.check _ _ _ _ _ _ _ _ hT5 (F.args_gs_get _ _ _) ?_)
  repeat (any_goals (first | assumption | wp_step))
  refine ⟨Code.quiet_builtin _ (by decide +kernel), codeAny_builtin F.entry_object_class ?_⟩
  repeat (any_goals (first | assumption | wp_step))
theorem my_class_entry_fun {tk : Tok} {Q : Fin → Shared → Prop} (hx : h.get? a = some o) (hc : o.cls = .type "function") (hq : Q (.done (.ret (.type "function"))) ⟨h, g, d, t, os⟩) :
    wpAny (model prog w) A (Builtin.«object.__getattribute__» ⟨[.ref a, .str "__class__" tk], []⟩) Q E ⟨h, g, d, t, os⟩ := by
  have hT : (⟨h, g, d, t, os⟩ : Shared).TypeIs (.ref a) "function" := ⟨_, hx, hc⟩
  have hT5 : (⟨h, g, d, t, os⟩ : Shared).TypeIs (.builtin "object.__class__") "getset_descriptor" := F.typeOf_object_class
  have f4 := F.my_lk_function_class
  have f5 := F.typeOf_object_class
  have f6 := F.slot_gs_get.lookup
  have f7 := F.slot_gs_set.lookup
  repeat (any_goals (first | assumption | wp_step))
  refine my_class_get_fun hx hc ?_
  repeat (any_goals (first | assumption | wp_step))
theorem my_class_call_fun {tk : Tok} {R : Result → Shared → Prop} (hx : h.get? a = some o) (hc : o.cls = .type "function") (hq : R (.ok (.ret (.type "function"))) ⟨h, g, d, t, os⟩) :
    codeAny (model prog w) A (.call (.builtin "object.__getattribute__") ⟨[.ref a, .str "__class__" tk], []⟩) R ⟨h, g, d, t, os⟩ :=
  codeAny_call_builtin F.my_slot_function_ga.plain F.entry_object_getattribute (F.my_slot_function_ga.check _ _ _ _ _ _ _ _ (show (⟨h, g, d, t, os⟩ : Shared).TypeIs (.ref a) "function" from ⟨_, hx, hc⟩) (F.args_object_getattribute_2 _ _) (my_class_entry_fun hx hc hq))
theorem my_class_by_fun {tk : Tok} {Q : Value → Shared → Prop} (hx : h.get? a = some o) (hc : o.cls = .type "function") (hq : Q (.type "function") ⟨h, g, d, t, os⟩) : wpAny (model prog w) A (getAttrBy (.ref a) (.str "__class__" tk) false) Q E ⟨h, g, d, t, os⟩ := by
  have hT : (⟨h, g, d, t, os⟩ : Shared).TypeIs (.ref a) "function" := ⟨_, hx, hc⟩
  have f2 := F.my_slot_function_ga.lookup
  have f3 := F.my_slot_function_ga.bind (.ref a)
  repeat (any_goals (first | assumption | wp_step))
  refine my_class_call_fun hx hc ?_
  repeat (any_goals (first | assumption | wp_step))
theorem my_class_attr_fun {Q : Option Value → Shared → Prop} (hx : h.get? a = some o) (hc : o.cls = .type "function") (hq : Q (some (.type "function")) ⟨h, g, d, t + 1, os⟩) : wpAny (model prog w) A (getAttr? (.ref a) "__class__") Q E ⟨h, g, d, t, os⟩ := by
  unfold getAttr? getAttrBy?
  repeat (any_goals (first | assumption | with_reducible apply my_class_by_fun hx hc | wp_step))
end
end PySem
namespace PySem.W
theorem my_kitx_fun {K : Frag} {a : Addr} : KitX K (.ref a) (.type "function") (KitAt a "function") := kitx_of kitAt_ty (fun {_ _ _ _ _ s} p k => by obtain ⟨h, g, d, t, os⟩ := s; obtain ⟨o, h1, h2⟩ := p; exact my_class_attr_fun h1 h2 k)
end PySem.W

namespace My
open PySem L2
/-- isinstance of a def of the module's top -/
def rIsiF (K : PySem.W.Frag) : List V → Hp → VK → Prop := fun xs H Q => ∃ (a : Addr) (o : Obj) (n : String) (b : Bool), xs = [.ref a, .ty n] ∧ K.lookup a = some o ∧ o.cls = .type "function" ∧ PySem.W.kitOne K (.type "function") (.type n) = some b ∧ Q (.bl b) H
theorem call_isiF {X : Cx} : CallR X (.builtin "isinstance") (rIsiF X.K) := by
  intro pins s σ H xs us Q I r h
  obtain ⟨a, o, n, b, rfl, hl, hc, e, q⟩ := h
  obtain ⟨u1, u2, rfl, r1, r2⟩ := vals2 r
  have e2 := (ClsV.ty n).eq r2
  subst e2
  cases (show u1 = Value.ref a from r1)
  exact PySem.W.kia_one PySem.W.my_kitx_fun I.kIn ⟨o, I.kIn _ _ hl, hc⟩ e (fun z => nomatch z) fun tk => ⟨.bl b, H, I.tok tk, rfl, q⟩
theorem fun_str {K : PySem.W.Frag} {H : Hp} {a : Addr} {Q : VK} (h : ∃ o, K.lookup a = some o ∧ o.cls = .type "function") (q : Q (.bl false) H) : rIsiF K [.ref a, .ty "str"] H Q :=
  let ⟨o, h1, h2⟩ := h
  ⟨a, o, "str", false, rfl, h1, h2, kit_ty (by decide +kernel), q⟩
end My

namespace My
open PySem L2
/-! ### == and != of two objects of an own class with an own == -/
section
variable {X : Cx} {C f : Addr} {fd : FuncData} {ps : List Str} {n : Nat} {sp : Sp}
/-- the own == as it runs, within X or one builtin deeper -/
theorem run_eq {A : Around} {pins : List (Addr × Obj)} {σ : L2.St} {H : Hp} {s : Shared} {a b : Addr} {Q : VK} {E : XK} (F : FnOk X.prog X.w X.K X.mg X.base CX0 n f fd ps sp) (hb : Binds X.K fd ps []) (hr : Room n A) (hfr : A.frames = X.A.frames)
    (I : Inv X pins σ H s) (h : sp [.ref a, .ref b] H Q E) : wpAny (model X.prog X.w) A (call (.ref f) [.ref a, .ref b]) (EP X pins σ Q) X.xe s := by
  have w0 := I.env0
  have w1 : Env0 X.prog X.w X.K X.mg X.base A X.stack s H := ⟨hfr.trans w0.frames, w0.mod, w0.bs, w0.bsz, w0.funs, w0.frf, w0.hok, w0.bare⟩
  have len2 : 2 = ps.length := F.len _ _ _ _ h
  have bnd : BindsTo s fd ⟨[.ref a, .ref b], []⟩ (ps.zip [.ref a, .ref b]) := by
    have q := hb s [.ref a, .ref b] I.kIn (by simpa using len2)
    simpa using q
  refine wpAny_call (codeAny_mono (F.run A X.stack s H ⟨[.ref a, .ref b], []⟩ [.ref a, .ref b] [.ref a, .ref b] Q E hr w1 bnd (.cons rfl (.cons rfl .nil)) h) ?_)
  intro r s' z
  match r, z with
  | .error _, z => exact z.elim
  | .ok (.ret u), z => exact I.after z
/-- a == b -/
def rEqOwn (C : Addr) (sp : Sp) : R2 := fun x y H Q => ∃ (a b dx dy : Addr) (fs gs : List (Str × V)), x = .ref a ∧ y = .ref b ∧ H a = some (.ins C dx fs) ∧ H b = some (.ins C dy gs) ∧ sp [.ref a, .ref b] H (fun v H' => ∃ k, v = .bl k ∧ Q (.bl k) H') E0
theorem op_eqOwn (F : FnOk X.prog X.w X.K X.mg X.base CX0 n f fd ps sp) (hs : PySem.W.findIn X.K (.ref C) "__eq__" = some (some (.ref f))) (hf : PySem.W.isFn X.K (.ref f) = true) (hb : Binds X.K fd ps []) (hr : Room n X.A) :
    OpR X (compareOp .Eq) (rEqOwn C sp) := by
  rintro pins s σ H x y v u Q I rx ry ⟨a, b, dx, dy, fs, gs, rfl, rfl, ha, hb', q⟩
  cases rx
  cases ry
  obtain ⟨_, J1, _⟩ := ins_get I.hok ha
  obtain ⟨_, J2, _⟩ := ins_get I.hok hb'
  obtain ⟨_, K1, _⟩ := J1.look
  obtain ⟨_, K2, _⟩ := J2.look
  obtain ⟨_, fr⟩ := I.fr
  show wpAny (model X.prog X.w) X.A (richCompare .Eq (.ref a) (.ref b)) _ _ s
  refine PySem.W.cmp_K (op := .Eq) (tb := .ref C) hr.units0 fr I.ok.mod.kin K1 K2.type (by simp [PySem.W.notFirst]) hs hf ?_
  refine thn (run_eq F hb hr rfl I q) ?_
  rintro w s' ⟨z, H', I', rz, k, rfl, qk⟩
  cases rz
  exact ⟨.bl k, H', I', rfl, qk⟩
/-- a != b, no own != -/
def rNeOwn (C : Addr) (sp : Sp) : R2 := fun x y H Q => ∃ (a b dx dy : Addr) (fs gs : List (Str × V)), x = .ref a ∧ y = .ref b ∧ H a = some (.ins C dx fs) ∧ H b = some (.ins C dy gs) ∧ sp [.ref a, .ref b] H (fun v H' => ∃ k, v = .bl k ∧ Q (.bl (!k)) H') E0
theorem ne_run {P : Program} {w : World} {A : Around} {R : Fin → Shared → Prop} {E : Value → Shared → Prop} {K : PySem.W.Frag} {s : Shared} {a b C f : Addr} {ox : Obj} {od : Option Obj} (hu : A.units < cLine) (X : K.In s.heap) (I : PySem.W.InstAt s.heap a ox C od)
    (hs : PySem.W.findIn K (.ref C) "__eq__" = some (some (.ref f))) (hf : PySem.W.isFn K (.ref f) = true) (h : wpAny (model P w) A (call (.ref f) [.ref a, .ref b]) (fun v s' => ∃ k, v = .bool k ∧ R (.done (.ret (.bool (!k)))) s') E s) :
    wpAny (model P w) A (Builtin.«object.__ne__» ⟨[.ref a, .ref b], []⟩) R E s := by
  have e : Builtin.«object.__ne__» ⟨[.ref a, .ref b], []⟩ = (do
      cRoomFor "comparison" [.ref a, .ref b]
      let r ← callSpecialIfBound? (.ref a) "__eq__" [.ref b]
      match r with
      | some .notImplemented | none => PySem.ret .notImplemented
      | some r => PySem.ret (.bool (!(← truthy r)))) := by rfl
  rw [e]
  refine wpAny_bind (wpAny_cRoomFor hu ?_)
  refine wpAny_bind (PySem.W.ifBound_K X I hs hf (wpAny_mono h ?_ fun _ _ z => z))
  rintro v s' ⟨k, rfl, q⟩
  exact wpAny_bind (wpAny_truthy_bool (wpAny_pure q))
theorem op_neOwn (F : FnOk X.prog X.w X.K X.mg X.base CX0 n f fd ps sp) (hs : PySem.W.findIn X.K (.ref C) "__eq__" = some (some (.ref f))) (hf : PySem.W.isFn X.K (.ref f) = true) (hb : Binds X.K fd ps [])
    (hn : PySem.W.findIn X.K (.ref C) "__ne__" = some (some (.builtin "object.__ne__"))) (hm : PySem.W.mroIn X.K C (.type "object") = some true) (hr : Room (n + 1) X.A) :
    OpR X (compareOp .NotEq) (rNeOwn C sp) := by
  rintro pins s σ H x y v u Q I rx ry ⟨a, b, dx, dy, fs, gs, rfl, rfl, ha, hb', q⟩
  cases rx
  cases ry
  obtain ⟨_, J1, _⟩ := ins_get I.hok ha
  obtain ⟨_, J2, _⟩ := ins_get I.hok hb'
  obtain ⟨_, K1, _⟩ := J1.look
  obtain ⟨_, K2, _⟩ := J2.look
  have kin := I.kIn
  have sub : PySem.W.Looks (model X.prog X.w) s.heap (isInstance (.ref a) (.type "object")) true := K1.type.andThen (PySem.W.looks_mroIn kin hm)
  have r1 : Room n X.A.in1 := hr.in1
  have go : wpAny (model X.prog X.w) X.A (call (.builtin "object.__ne__") [.ref a, .ref b]) (fun v s' => v ≠ .notImplemented ∧ EP X pins σ Q v s') X.xe s := by
    refine wpAny_call (codeAny_call_builtin PySem.F.slot_tuple_iterator_ne.plain PySem.F.cmpEntry_ne (PySem.W.check_slot PySem.F.cmpKind_ne PySem.F.cmpSplit_ne sub (PySem.F.cmpArgs_ne _ _) ?_))
    refine ne_run r1.units0 kin K1 hs hf (thn (run_eq F hb r1 rfl I q) ?_)
    rintro w s' ⟨z, H', I', rz, k, rfl, qk⟩
    cases rz
    exact ⟨k, rfl, (fun z => by cases z), .bl (!k), H', I', rfl, qk⟩
  have one : wpAny (model X.prog X.w) X.A (tryCompare (.ref a) "__ne__" (.ref b)) (fun r s' => ∃ v, r = some v ∧ EP X pins σ Q v s') X.xe s := by
    unfold tryCompare
    refine wpAny_bind ?_
    simp only [callSpecialIfBound?, bindSpecialIfBound?]
    have bi : PySem.W.Looks (model X.prog X.w) s.heap (bindSpecial (.builtin "object.__ne__") (.ref a)) (.builtin "object.__ne__", [.ref a]) := PySem.W.Looks.of_pure (PySem.F.slot_tuple_iterator_ne.bind _)
    have last : wpAny (model X.prog X.w) X.A (call (.builtin "object.__ne__") ([.ref a] ++ [.ref b]) >>= fun v => pure (some v)) (fun r s' => wpAny (model X.prog X.w) X.A (match r with | some .notImplemented => pure none | none => pure none | some v => pure (some v)) (fun r s' => ∃ v, r = some v ∧ EP X pins σ Q v s') X.xe s') X.xe s := by
      refine wpAny_bind (thn go ?_)
      rintro v s' ⟨nv, ev⟩
      refine wpAny_pure ?_
      cases v <;> first | exact absurd rfl nv | exact wpAny_pure ⟨_, rfl, ev⟩
    refine wpAny_holding (wpAny_bind (wpAny_bind (wpAny_bind (K1.type.here ((PySem.W.looks_findIn kin hn).here ?_)))))
    refine wpAny_bind (wpAny_askSetting (wpAny_ite ?_))
    split
    · exact wpAny_bind (bi.here (wpAny_pure (by exact last)))
    · exact wpAny_tryCatch (wpAny_bind (bi.here (wpAny_pure (by exact last))))
  show wpAny (model X.prog X.w) X.A (richCompare .NotEq (.ref a) (.ref b)) _ _ s
  unfold richCompare
  simp only [oneThing_ref]
  refine wpAny_holding (wpAny_bind (wpAny_cRoomFor hr.units0 ?_))
  refine wpAny_bind (K1.type.here (wpAny_bind (K2.type.here ?_)))
  have e0 : (Value.ref C != Value.ref C) = false := by simp
  rw [e0]
  simp only [Bool.false_eq_true, if_false]
  refine wpAny_bind (wpAny_pure ?_)
  simp only [Bool.false_eq_true, if_false]
  refine wpAny_bind (wpAny_mono one ?_ fun _ _ z => z)
  rintro r s' ⟨v, rfl, q'⟩
  exact wpAny_pure q'
end
end My

namespace My
open PySem PySem.Spec PyProof.Rows L2
/-! ### promises where no repr is under way -/
/-- a promise of the def at f, for surroundings in which nothing is being shown -/
structure FnG (P : Program) (w : World) (K : PySem.W.Frag) (mg : Str → Option Value) (base : Heap) (k : Nat) (f : Addr) (fd : FuncData) (ps : List Str) (sp : Sp) : Prop where
  len : ∀ vs H Q E, sp vs H Q E → vs.length = ps.length
  run : ∀ (A : Around) (outer : List Env) (s : Shared) (H : Hp) (args : Args) (us : List Value) (vs : List V) (Q : VK) (E : XK), A.guards = some [] → Room k A → Env0 P w K mg base A outer s H → BindsTo s fd args (ps.zip us) → Vals vs us → sp vs H Q E →
    codeAny (model P w) A (.call (.ref f) args) (CR CX0 outer P w H s Q E) s
section
variable {P : Program} {w : World} {K : PySem.W.Frag} {mg : Str → Option Value} {base : Heap}
theorem FnG.by_body {x qual : Str} {st : Stmt} {f : Addr} {fd : FuncData} {N ps : List Str} {k : Nat} {sp : Sp} (F : Fun K x qual st f fd) (S : FnScope N ps (defScope st)) (len : ∀ vs H Q E, sp vs H Q E → vs.length = ps.length)
    (body : ∀ (cdv : Value) (A : Around) (outer : List Env) (s : Shared) (H : Hp) (vs : List V) (Q : VK) (E : XK), A.guards = some [] → Room k (A.deeper (envOfC qual (defScope st) s.heap.objs.size f cdv)) → sp vs H Q E →
      ∃ t, PSs (cxOf CX0 P w K mg base N qual (defScope st) f cdv A outer s H E).nox (defBody st) t ∧ t { nx := fun _ H' => Q .non H', rt := Q } (start N vs) H) : FnG P w K mg base (k + 1) f fd ps sp := by
  obtain ⟨_, _, _, _, _, _, cdv, _, _, rfl, look, code⟩ := F.ex
  constructor
  · exact len
  intro A outer s H args us vs Q E hg hr e0 hb rel hsp
  have n := len _ _ _ _ hsp
  have old : ∀ b o, base.get? b = some o → s.heap.get? b = some o := fun b o e => (e0.bs b o e).1
  have inK : K.In s.heap := e0.mod.kin.keeps old
  obtain ⟨t, ht, q⟩ := body cdv A outer s H vs Q E hg (hr.deeper _) hsp
  have named : ∀ y ∈ ps.zip us, (defScope st).names.lookup y.1 = some .local ∨ ((defScope st).names.lookup y.1 = some .cell ∧ ((cellsFrom (s.heap.objs.size + 1) (defScope st).names []).lookup y.1).isSome = true) := by
    rintro ⟨m, v⟩ hy
    exact (S.par m (List.of_mem_zip hy).1).imp (fun z => z) fun z => ⟨z, PySem.W.cellsFrom_some _ _ _ (.inl z)⟩
  refine codeAny_call_function hr.depth (inK _ _ look) rfl S.co S.gen rfl (PySem.W.codeRec_of inK code) (hb _ _ _ _ (wpAny_newFunctionEnv_cells S.kind named fun env he s1 z => ?_))
  subst he
  refine ⟨(e0.mod.nolimit.keeps old).keeps z.toInCall.keep, codeAny_func (wpAny_mono (ht.nox.run [] s1 (start N vs) H _ (inv_start S hr.hd e0 n rel z) q) ?_ fun _ _ h => h)⟩
  intro fl s' h
  match fl, h with
  | .ret u, ⟨v, σ', H', J, rv, q'⟩ => exact ⟨v, H', J.os, J.bare, J.base, J.hok, rv, q'⟩
  | .next, ⟨σ', H', J, q'⟩ => exact ⟨V.non, H', J.os, J.bare, J.base, J.hok, rfl, q'⟩
  | .brk, ⟨_, _, _, q'⟩ => exact q'.elim
  | .cont, ⟨_, _, _, q'⟩ => exact q'.elim
end
section
variable {X : Cx} {k : Nat} {f : Addr} {fd : FuncData} {ps : List Str} {sp : Sp} {dvs : List V} {ds : List Value} {E : XK} {x : Str} {p pos : Pos} {e : Expr} {es : List Expr} {t : TA}
/-- a call of such a def -/
theorem pe_callG (hA : X.A.guards = some []) (F : FnG X.prog X.w X.K X.mg X.base k f fd ps sp) (hr : Room k X.A) (hg : Gl X x) (hm : X.mg x = some (.ref f)) (hk : PySem.W.keepIn X.K (.ref f) = true) (hb : Binds X.K fd ps ds) (hd : Vals dvs ds) (hx : Passes CX0 X E)
    (ha : PA X (e :: es) t) (hdb : (x == ("__debug__" : Str)) = false := by decide) (he : starEach (e :: es) X.env = (false, eval e X.env) :: starEach es X.env := by rfl) (hpl : (backTo pos (starEach es X.env)).any (·.1) = false := by rfl) :
    PE X (.Call (.Name x p) (e :: es) [] pos) (tCall sp dvs E t) := by
  constructor
  intro pins s σ H Q I h
  refine wpAny_Call_Name_kw (ld_glob I hg hm ?_ hdb)
  refine PySem.W.callWith_K (h₀ := X.base) I.ok.mod.kin hk (thn (ha.run pos pins s σ H _ I h) ?_) he hpl
  rintro us s1 ⟨vs, H1, J, rel, q⟩
  refine ⟨J.kIn, ?_⟩
  have both := rel.append hd
  have n : (us ++ ds).length = ps.length := by rw [← both.length]; exact F.len _ _ _ _ q
  refine wpAny_call (codeAny_mono (F.run X.A X.stack s1 H1 ⟨us, []⟩ (us ++ ds) (vs ++ dvs) Q E hA hr J.env0 (hb s1 us J.kIn n) both q) ?_)
  intro r s' z
  match r, z with
  | .error _, z => exact hx pins σ H1 s1 _ s' J z
  | .ok (.ret _), z => exact J.after z
/-- repr of data -/
def rRepr (K : PySem.W.Frag) : List V → Hp → VK → Prop := fun xs H Q => ∃ (a : Addr) (d : PyData), xs = [.ref a] ∧ Dp K H (.ref a) d ∧ d.showable = true ∧ d.hasDict = false ∧ d.depth ≤ 60 ∧ d.shown.length ≤ sizeLine ∧ Q (.str d.shown) H
theorem call_repr (hA : X.A.guards = some []) (hu : X.A.units + 64 < cLine) : CallR X (.builtin "repr") (rRepr X.K) := by
  rintro pins s σ H xs us Q I r ⟨a, d, rfl, hd, hs, hn, hz, hl, q⟩
  obtain ⟨u, rfl, rx⟩ := vals1 r
  cases rx
  obtain ⟨as, rd⟩ := Dp.reads I d (.ref a) (.ref a) hd rfl
  exact repr_of_reads' rd hs (PyData.noDict_hsm hn) hA (by omega) (fun _ _ e => e) (fun h' u tk hk => ⟨.str d.shown, H, I.kept hk, ⟨_, rfl⟩, q⟩) hl
end
end My
namespace My
open PySem PySem.Spec PyProof.Rows L2
/-! ### the law's call, by such a promise -/
section
variable {P : Program} {w : World} {K : PySem.W.Frag} {mg mb : Str → Option Value} {k : Nat} {fa a : Addr} {fd : FuncData} {x : Str} {sp : Sp} {s₁ : Shared} {vs : List Value} {ns : List Int}
/-- with H tracked: nothing but the script, and not even this where it is the module's own -/
theorem law_with (KX : K.In s₁.heap) (hns : s₁.heap.Ns mainGlobals mg) (hb : s₁.heap.Ns builtinsNs mb) (hbb : ∀ x : Str, x ≠ "__name__" → mb x = bootBuiltins x) (hlim : s₁.heap.NoLimit) (hg : s₁.gens = #[])
    (ha : s₁.heap.get? a = some { cls := .type "list", data := .seq vs.toArray }) (hr : Room k callerA)
    (F : ∀ base : Heap, K.In base → base.Ns mainGlobals mg → FnG P w K mg base k fa fd [x] sp) (hbind : ∀ (s : Shared) (u : Value), BindsTo s fd ⟨[u], []⟩ [(x, u)])
    {H : Hp} (off : ∀ b, b ≠ a → H b = none) (own : K.lookup a ≠ none → H a = none) (frz : ∀ u, H a = some u → ∃ ob xs, u = .frz ob (.lst xs)) (hok : HOk P w H s₁.heap)
    (hsp : sp [.ref a] H (fun v _ => v = .bl true) fun _ _ _ => False) :
    codeAny (model P w) callerA (.call (.ref fa) ⟨[.ref a], []⟩) (fun r s' => r = .ok (.ret (.bool true)) ∧ OldK s₁.heap s'.heap ∧ s'.os = s₁.os ∧ AllBare s'.gens) s₁ := by
  have stays : ∀ {b : Addr} {o : Obj}, s₁.heap.get? b = some o → b ≠ a → (hidT s₁.heap H).get? b = some o := fun e n => hidT_get e (off _ n)
  have dicts : ∀ {b : Addr} {o : Obj} {es : Array DictEntry} {n : Nat}, s₁.heap.get? b = some o → o.data = .dict es n → b ≠ a := by
    rintro b o es n e d rfl
    rw [ha] at e
    cases e
    cases d
  have tables : ∀ {b : Addr} {m : Str → Option Value}, s₁.heap.Ns b m → (hidT s₁.heap H).Ns b m := fun {b m} h => by
    obtain ⟨o, es, n, e, d, r⟩ := h
    exact ⟨o, es, n, stays e (dicts e d), d, r⟩
  have inK : K.In (hidT s₁.heap H) := fun b o e => by
    by_cases z : b = a
    · subst z
      exact hidT_get (KX _ _ e) (own (by rw [e]; simp))
    · exact stays (KX _ _ e) z
  obtain ⟨mc, l1, l2⟩ := hlim
  have e0 : Env0 P w K mg (hidT s₁.heap H) callerA [] s₁ H :=
    ⟨rfl, ⟨inK, tables hns, ⟨mb, tables hb, hbb⟩, mc, tables l1, l2⟩, fun b o e => of_hidT e, Nat.le_of_eq (hidT_size _ _), trivial, fun b hb => absurd (show b ∈ ([] : List Addr) from hb) (by simp), hok, .of_eq hg⟩
  have run := (F _ inK (tables hns)).run callerA [] s₁ H ⟨[.ref a], []⟩ [.ref a] [.ref a] _ _ rfl hr e0 (hbind s₁ (.ref a)) (.cons rfl .nil) hsp
  refine codeAny_mono run ?_
  intro r s' h
  match r, h with
  | .error _, h => exact False.elim h
  | .ok (.ret u), ⟨v, H', os, bare, un, hok', rv, q⟩ =>
    have q' : v = .bl true := q
    subst q'
    obtain rfl : u = Value.bool true := rv
    refine ⟨rfl, OldK.of_keep fun b o e => ?_, os, bare⟩
    cases z : H b with
    | none => exact un.keep b o e z (fun y => absurd (show b ∈ ([] : List Addr) from y) (by simp)) (by simp)
    | some u =>
      have ba : b = a := Classical.byContradiction fun y => by rw [off b y] at z; cases z
      subst ba
      obtain ⟨ob, xs, rfl⟩ := frz u z
      obtain ⟨e1, _⟩ := hok b _ z
      obtain ⟨e2, _⟩ := hok' b _ (un.frzs b ob _ z)
      rw [e] at e1
      cases e1
      exact e2
theorem law_callG (KX : K.In s₁.heap) (hns : s₁.heap.Ns mainGlobals mg) (hb : s₁.heap.Ns builtinsNs mb) (hbb : ∀ x : Str, x ≠ "__name__" → mb x = bootBuiltins x) (hlim : s₁.heap.NoLimit) (hg : s₁.gens = #[])
    (ha : s₁.heap.get? a = some { cls := .type "list", data := .seq vs.toArray }) (hi : IntsAre vs ns) (hl : ns.length ≤ sizeLine) (hr : Room k callerA)
    (F : ∀ base : Heap, K.In base → base.Ns mainGlobals mg → FnG P w K mg base k fa fd [x] sp) (hbind : ∀ (s : Shared) (u : Value), BindsTo s fd ⟨[u], []⟩ [(x, u)])
    (hsp : ∀ H : Hp, SqL K H a (ns.map V.int) → sp [.ref a] H (fun v _ => v = .bl true) fun _ _ _ => False) :
    codeAny (model P w) callerA (.call (.ref fa) ⟨[.ref a], []⟩) (fun r s' => r = .ok (.ret (.bool true)) ∧ OldK s₁.heap s'.heap ∧ s'.os = s₁.os ∧ AllBare s'.gens) s₁ := by
  have rel := vals_ints hi
  by_cases hk : K.lookup a = none
  · let it : HO := .frz { cls := .type "list", data := .seq vs.toArray } (.lst (ns.map V.int))
    have there : upd (fun _ => none) a it a = some it := upd_same
    refine law_with KX hns hb hbb hlim hg ha hr F hbind (H := upd (fun _ => none) a it) (fun b n => upd_ne n) (fun z => absurd hk z) (fun u e => ?_) (fun b u e => ?_) (hsp _ (.inl (.inr ⟨_, there⟩)))
    · rw [there] at e
      cases e
      exact ⟨_, _, rfl⟩
    · by_cases z : b = a
      · subst z
        rw [there] at e
        cases e
        exact ⟨ha, by rw [List.length_map]; exact hl, vs, _, rel, ha⟩
      · rw [upd_ne z] at e
        cases e
  · obtain ⟨o, ho⟩ := Option.ne_none_iff_exists'.mp hk
    have e := KX a o ho
    rw [ha] at e
    cases e
    refine law_with KX hns hb hbb hlim hg ha hr F hbind (H := fun _ => none) (fun b n => rfl) (fun _ => rfl) (fun u e => by cases e) (fun b u e => by cases e) (hsp _ (.inr ⟨_, vs.toArray, _, ho, rfl, rfl, rfl, by rw [List.size_toArray, hi.length]; exact hl, by simpa using rel⟩))
theorem walk_ofG {l : PySem.W.OpenLaw} {n k : Nat} {q : Program} {loose : List Str} {XP : (Str → Option Value) → Heap → Prop} {YP : World → Heap → Prop} {d : DefRec} {K : Params → PySem.W.Frag} {sp : World → Sp} {x : Str}
    (hn : l.most = some n) (hn2 : n ≤ sizeLine) (hdf : d.params.defaults = []) (hr : Room k callerA) (hY : ∀ (w : World) (h : Heap), YP w h → (K w.params).In h)
    (F : ∀ (w : World) (mg : Str → Option Value) (fa : Addr) (h : Heap), (K w.params).In h → h.Ns mainGlobals mg → mg d.name = some (.ref fa) →
      ∃ fd : FuncData, (∀ (s : Shared) (u : Value), BindsTo s fd ⟨[u], []⟩ [(x, u)]) ∧ ∀ base : Heap, (K w.params).In base → base.Ns mainGlobals mg → FnG l.prog w (K w.params) mg base k fa fd [x] (sp w))
    (hsp : ∀ (w : World) (H : Hp) (a : Addr) (ns : List Int), ns.length ≤ n → SqL (K w.params) H a (ns.map V.int) → sp w [.ref a] H (fun v _ => v = .bl true) fun _ _ _ => False) :
    PySem.W.WalkO q loose XP YP l.row.toRowW d [] (fun f vs => PySem.call f vs) := by
  refine Att.attach_call hn hdf fun w s₀ s₁ mg mb fa o pm cd doc a vs ns G Y ho hd hcd hmg hobj hints hlen hg => ?_
  have KX := hY w _ Y
  obtain ⟨fd, hb, hF⟩ := F w mg fa _ KX G.T.g hmg
  exact law_callG KX G.T.g G.T.b G.T.builtins G.T.nolimit hg hobj hints (Nat.le_trans hlen hn2) hr hF hb fun H hS => hsp w H a ns hlen hS
end
end My

namespace My
open PySem PySem.Spec PyProof.Rows L2
section
variable {X : Cx}
/-- repr of data, whatever its kind -/
def rReprA (K : PySem.W.Frag) : List V → Hp → VK → Prop := fun xs H Q => ∃ (x : V) (d : PyData), xs = [x] ∧ Dp K H x d ∧ d.showable = true ∧ d.hasDict = false ∧ d.depth ≤ 60 ∧ d.shown.length ≤ sizeLine ∧ Q (.str d.shown) H
theorem call_reprA (hA : X.A.guards = some []) (hu : X.A.units + 64 < cLine) : CallR X (.builtin "repr") (rReprA X.K) := by
  rintro pins s σ H xs us Q I r ⟨x, d, rfl, hd, hs, hn, hz, hl, q⟩
  obtain ⟨u, rfl, rx⟩ := vals1 r
  cases hd with
  | non =>
    cases rx
    exact PySem.P.repr_of_none ⟨.str _, H, I.tok _, ⟨_, rfl⟩, q⟩
  | bl b =>
    obtain ⟨t, rfl⟩ := rx
    exact PySem.P.repr_of_bool ⟨.str _, H, I.tok _, ⟨_, rfl⟩, q⟩
  | int i =>
    obtain ⟨t, rfl⟩ := rx
    exact PySem.P.repr_of_int (by simpa [PyData.showable] using hs) ⟨.str _, H, I.tok _, ⟨_, rfl⟩, q⟩
  | str z =>
    obtain ⟨t, rfl⟩ := rx
    exact PySem.P.repr_of_str ⟨.str _, H, I.tok _, ⟨_, rfl⟩, q⟩ hl
  | lst h1 h2 =>
    cases rx
    obtain ⟨as, rd⟩ := Dp.reads I _ _ _ (.lst h1 h2) rfl
    exact repr_of_reads' rd hs (PyData.noDict_hsm hn) hA (by omega) (fun _ _ e => e) (fun h' u tk hk => ⟨.str _, H, I.kept hk, ⟨_, rfl⟩, q⟩) hl
  | tup h1 h2 =>
    cases rx
    obtain ⟨as, rd⟩ := Dp.reads I _ _ _ (.tup h1 h2) rfl
    exact repr_of_reads' rd hs (PyData.noDict_hsm hn) hA (by omega) (fun _ _ e => e) (fun h' u tk hk => ⟨.str _, H, I.kept hk, ⟨_, rfl⟩, q⟩) hl
end
/-- none, or a whole number, shown -/
theorem data_opt {d : PyData} (h : d = .none ∨ ∃ i : Int, d = .int i ∧ i.natAbs < 2 ^ 1900) : d.showable = true ∧ d.hasDict = false ∧ d.depth ≤ 60 ∧ d.shown.length ≤ sizeLine := by
  rcases h with rfl | ⟨i, rfl, hi⟩
  · refine ⟨?_, ?_, ?_, ?_⟩ <;> first | rfl | decide +kernel
  · have l1 : i.natAbs.log2 < 1920 := Nat.lt_of_lt_of_le (PySem.Flt.log2_lt_of (by decide) hi) (by decide)
    have s1 : (PyData.shown (.int i)).length ≤ 1921 := PyProof.Rows.int_text_len_1921 l1
    refine ⟨?_, ?_, ?_, ?_⟩
    · simpa only [PyData.showable, decide_eq_true_eq] using l1
    · simp [PyData.hasDict]
    · simp [PyData.depth]
    · exact Nat.le_trans s1 (by decide)
end My

namespace PySem
namespace ErV
open PySem.W PySem.Calls PyProof.Rows PySem.HandSPX Builtin Builtin.ObjectAttr
/-! ### errors held as values: their fields stored by an own __init__ -/
theorem first_store {P : Program} {w : World} {A : Around} {R : Result → Shared → Prop} {h0 : Heap} {gs : Array GenState} {dr : Drawn} {t0 : Nat} {oss : OsState}
    {K : Frag} {nm : Str} {tk : Tok} {val : Value} {e C : Addr} {fs : Array Value} {cd : ClassData} (kin : K.In h0) (he : h0.get? e = some { cls := .ref C, data := .fields fs }) (hc : clsIn K C = some cd)
    (pass : refuseLoop (.ref e) "__setattr__" cd.mro = pure ()) (isObj : mroIn K C (.type "object") = some true) (hasD : cd.hasDict = true) (no : findIn K (.ref C) nm = some none)
    (go : ∀ h1 t1 dx, (∀ b o, b ≠ e → h0.get? b = some o → h1.get? b = some o) → h0.objs.size ≤ dx → dx ≠ e → h1.get? e = some { cls := .ref C, dict := some dx, data := .fields fs } → h1.Ns1 dx (fun y => if y = nm then some val else none) → R (.ok (.ret .none)) ⟨h1, gs, dr, t1, oss⟩) :
    codeAny (model P w) A (.call (.builtin "object.__setattr__") ⟨[.ref e, .str nm tk, val], []⟩) R ⟨h0, gs, dr, t0, oss⟩ := by
  have inst : InstAt h0 e { cls := .ref C, data := .fields fs } C none := ⟨he, rfl, rfl, trivial⟩
  have old : e ≠ h0.objs.size := Nat.ne_of_lt (Heap.lt_size he)
  have st := F.store_object
  have under : Looks (model P w) h0 (isInstance (.ref e) (.type "object")) true := inst.type.andThen (looks_mroIn kin isObj)
  refine codeAny_call_builtin st.slot.plain st.entry (@check_slot (model P w) _ _ ⟨h0, gs, dr, t0, oss⟩ "object.__setattr__" "object" "__setattr__" (.ref e) [.str nm tk, val] [] _ st.kind st.split under (st.args (.ref e) (.str nm tk) val) ?_)
  have chain : Looks (model P w) h0 (mroOf (.ref C)) cd.mro := (looks_clsIn kin hc).andThen .now
  have taker : Looks (model P w) h0 (storeTaker? none) none := .now
  have data : Looks (model P w) h0 (classData C) cd := looks_clsIn kin hc
  rw [osa_eq, refuse_eq]
  refine wpAny_bind (wpAny_bind (inst.type.at (wpAny_bind (chain.at ?_))))
  rw [pass]
  refine wpAny_pure (wpAny_bind (inst.type.at (wpAny_bind ((looks_findIn kin no).at (wpAny_bind (taker.at ?_))))))
  show wpAny _ _ (storeInOwnDict (.ref e) (.ref C) (.str nm tk) nm val false) _ _ _
  obtain ⟨c1, c2, c3, c4, c5, c6, c7, c8, c9, c10, c11⟩ := cd
  dsimp only at hasD
  subst hasD
  unfold storeInOwnDict ownDictForStores
  repeat (first | with_reducible refine store_in_new ?_ ?_ | with_reducible refine wpAny_loadPart_at he ?_ | with_reducible refine data.at ?_ | wp_step)
  · exact ⟨_, #[], _, (Heap.get?_update_ne _ _ _ _ old.symm).trans (Heap.get?_push_at rfl rfl), rfl, fun x hx => absurd hx (by simp), fun _ => rfl⟩
  · intro h1 t1 ns but
    have now : (h0.push { cls := .type "dict", data := .dict #[] }).get? e = some { cls := .ref C, data := .fields fs } := Heap.get?_push_of_some _ he
    refine go h1 t1 h0.objs.size (fun b o nb ho => ?_) (Nat.le_refl _) old.symm ?_ ns
    · exact (but.2 b (Nat.ne_of_lt (Heap.lt_size ho))).trans ((Heap.get?_update_ne _ _ _ _ nb).trans (Heap.get?_push_of_some _ ho))
    · exact (but.2 e old).trans (Heap.get?_update_self _ now rfl)

/-- a second field -/
theorem next_store {P : Program} {w : World} {A : Around} {R : Result → Shared → Prop} {h0 : Heap} {gs : Array GenState} {dr : Drawn} {t0 : Nat} {oss : OsState}
    {K : Frag} {nm : Str} {tk : Tok} {val : Value} {e C dx : Addr} {fs : Array Value} {cd : ClassData} {m0 : Str → Option Value} {ns : List Str} (kin : K.In h0) (he : h0.get? e = some { cls := .ref C, dict := some dx, data := .fields fs }) (hc : clsIn K C = some cd)
    (pass : refuseLoop (.ref e) "__setattr__" cd.mro = pure ()) (isObj : mroIn K C (.type "object") = some true) (hasD : cd.hasDict = true) (no : findIn K (.ref C) nm = some none)
    (hn : h0.Ns1 dx m0) (hw : Within m0 ns) (hz : ns.length ≤ 1000)
    (go : ∀ h1 t1, (∀ b o, b ≠ dx → h0.get? b = some o → h1.get? b = some o) → h1.Ns1 dx (fun y => if y = nm then some val else m0 y) → R (.ok (.ret .none)) ⟨h1, gs, dr, t1, oss⟩) :
    codeAny (model P w) A (.call (.builtin "object.__setattr__") ⟨[.ref e, .str nm tk, val], []⟩) R ⟨h0, gs, dr, t0, oss⟩ := by
  obtain ⟨oD, hoD, _⟩ := L2.lookIn_ns hn
  have inst : InstAt h0 e { cls := .ref C, dict := some dx, data := .fields fs } C (some oD) := ⟨he, rfl, rfl, hoD⟩
  have st := F.store_object
  have under : Looks (model P w) h0 (isInstance (.ref e) (.type "object")) true := inst.type.andThen (looks_mroIn kin isObj)
  refine codeAny_call_builtin st.slot.plain st.entry (@check_slot (model P w) _ _ ⟨h0, gs, dr, t0, oss⟩ "object.__setattr__" "object" "__setattr__" (.ref e) [.str nm tk, val] [] _ st.kind st.split under (st.args (.ref e) (.str nm tk) val) ?_)
  have chain : Looks (model P w) h0 (mroOf (.ref C)) cd.mro := (looks_clsIn kin hc).andThen .now
  have taker : Looks (model P w) h0 (storeTaker? none) none := .now
  have data : Looks (model P w) h0 (classData C) cd := looks_clsIn kin hc
  rw [osa_eq, refuse_eq]
  refine wpAny_bind (wpAny_bind (inst.type.at (wpAny_bind (chain.at ?_))))
  rw [pass]
  refine wpAny_pure (wpAny_bind (inst.type.at (wpAny_bind ((looks_findIn kin no).at (wpAny_bind (taker.at ?_))))))
  show wpAny _ _ (storeInOwnDict (.ref e) (.ref C) (.str nm tk) nm val false) _ _ _
  obtain ⟨c1, c2, c3, c4, c5, c6, c7, c8, c9, c10, c11⟩ := cd
  dsimp only at hasD
  subst hasD
  unfold storeInOwnDict ownDictForStores
  repeat (first | with_reducible refine ESX.store_in_old hn hw hz ?_ | with_reducible refine wpAny_loadPart_at he ?_ | with_reducible refine data.at ?_ | wp_step)
  intro h' tk' hn' hs
  exact go h' tk' (fun b o hb ho => (hs.2 b hb).trans ho) hn'
/-- what the written part says of an error's class, at C, whose __init__ stands at fI; tl: what is above it -/
structure ErrCls (K : Frag) (C fI : Addr) : Prop where
  cls : ∃ nm q N bs tl sn sub ab col dd k0 k1 k2 k3 k5 newId B initId bmB, K.lookup C = some (excClassObj nm q C N bs tl true sn sub ab col dd k0 k1 k2 k3 k5 newId) ∧ ExcBaseFacts B newId initId bmB ∧
    (∀ X : String, tl.contains (.type X) = bmB.contains (.type X)) ∧ (∀ self : Value, refuseLoop self "__setattr__" tl = pure ()) ∧ tl.contains (.type "object") = true
  sa : findIn K (.ref C) "__setattr__" = some (some (.builtin "object.__setattr__"))
  iC : findIn K (.ref C) "__init__" = some (some (.ref fI))
  tC : typeIn K (.ref fI) = some (.type "function")
  kC : keepIn K (.ref C) = true
theorem one_size (v : Value) : [v].length ≤ sizeLine := by
  rw [sizeLine_eq]
  exact (by decide : 1 ≤ 16777216)
theorem two_size (v u : Value) : [v, u].length ≤ sizeLine := by
  rw [sizeLine_eq]
  exact (by decide : 2 ≤ 16777216)
theorem ldC {M : Model} {s : Shared} {name : Str} {scope : Scope} {L a : Addr} {cd : Value} {m : Str → Option Value} {x : Str} {pos : Pos} {v : Value} {Q : Value → Shared → Prop} {A : Around} {E : Value → Shared → Prop} (hn : s.heap.Ns L m) (hv : m x = some v) (h : Q v s)
    (hk : scope.kind = .function := by rfl) (hl : (envOfC name scope L a cd).kindOf x = some .local := by rfl) (hd : (x == ("__debug__" : Str)) = false := by decide) :
    wpAny M A (eval (.Name x pos) (envOfC name scope L a cd)) Q E s := wpAny_Name (wpAny_loadName_local hk hl hn hv h) hd
/-- what __init__ leaves of a fresh exception at x -/
structure InitEnd (h h' : Heap) (x C dx t1 : Addr) (m : Str → Option Value) : Prop where
  keep : ∀ b o, b ≠ x → h.get? b = some o → h'.get? b = some o
  obj : h'.get? x = some { cls := .ref C, dict := some dx, data := .fields #[.ref t1, .none, .none, .none, .bool false, .none] }
  dbig : h.objs.size ≤ dx
  dne : dx ≠ x
  ns : h'.Ns1 dx m
/-- a made error -/
structure OwnMade (h h' : Heap) (e C d : Addr) (m : Str → Option Value) : Prop where
  keep : ∀ b o, h.get? b = some o → h'.get? b = some o
  new : h.objs.size ≤ e
  obj : ∃ oe vs, h'.get? e = some oe ∧ oe.cls = .ref C ∧ oe.dict = some d ∧ oe.data = .fields vs ∧ vs[1]? = some .none ∧ vs[2]? = some .none
  dbig : h.objs.size ≤ d
  dne : d ≠ e
  ns : h'.Ns1 d m
/-- what a call of the class comes to: its __init__, on a fresh exception -/
def InitRuns (prog : Program) (w : World) (K : Frag) (C fI : Addr) (args : List Value) (m : Str → Option Value) : Prop :=
  ∀ {A : Around} {R : Result → Shared → Prop} {s : Shared} {x t0 : Addr}, K.In s.heap → s.heap.NoLimit → s.heap.get? x = some (excO C t0) → K.lookup x = none → A.depth < recursionLimit →
    (∀ h' tk dx, InitEnd s.heap h' x C dx t0 m → R (.ok (.ret .none)) { s with heap := h', toks := tk }) →
    codeAny (model prog w) A (.call (.ref fI) ⟨.ref x :: args, []⟩) R s
theorem err_made {prog : Program} {w : World} {A : Around} {R : Result → Shared → Prop} {s : Shared} {K : Frag} {C fI : Addr} {args : List Value} {m : Str → Option Value} (T : ErrCls K C fI) (run : InitRuns prog w K C fI args m) (sz : args.length ≤ sizeLine)
    (X : K.In s.heap) (hlim : s.heap.NoLimit) (hroom : A.depth + 1 < recursionLimit) (hq : ∀ h' tk e d, OwnMade s.heap h' e C d m → R (.ok (.ret (.ref e))) { s with heap := h', toks := tk }) :
    codeAny (model prog w) A (.call (.ref C) ⟨args, []⟩) R s := by
  obtain ⟨nm, q, N, bs, bm, sn, sub, ab, col, dd, k0, k1, k2, k3, k5, newId, B, initId, bmB, hC, FB, hcon, _, _⟩ := T.cls
  obtain ⟨hp, g, dr, tk, os⟩ := s
  have k : ∀ b o, hp.get? b = some o → ((hp.push (kdv_tup args)).push (excO C hp.objs.size)).get? b = some o := fun b o e => Heap.get?_push_of_some _ (Heap.get?_push_of_some _ e)
  have hget : ((hp.push (kdv_tup args)).push (excO C hp.objs.size)).get? (hp.objs.size + 1) = some (excO C hp.objs.size) := by heap_get
  have hnx : K.lookup (hp.objs.size + 1) = none := by
    cases e : K.lookup (hp.objs.size + 1) with
    | none => rfl
    | some o =>
      have z : hp.get? (hp.objs.size + 1) = some o := X _ _ e
      exact absurd (Nat.lt_of_succ_lt (Heap.lt_size z)) (Nat.lt_irrefl _)
  refine call_own FB hcon (X _ _ hC) (looks_findIn X T.iC) (fun self => bind_fn X self T.tC) sz ?_
  refine run (s := ⟨(hp.push (kdv_tup args)).push (excO C hp.objs.size), g, dr, tk, os⟩) (X.keeps k) (hlim.keeps k) hget hnx ?_ fun h' tk' dx ⟨k', hx, dn, dne, hns⟩ => ?_
  · show A.depth + 1 < recursionLimit
    exact hroom
  · have old : ∀ b o, hp.get? b = some o → h'.get? b = some o := fun b o e => k' b o (Nat.ne_of_lt (Nat.lt_succ_of_lt (Heap.lt_size e))) (k b o e)
    have z : hp.objs.size + 1 + 1 ≤ dx := by
      first
        | (simpa only [Heap.size_push] using dn)
        | exact dn
        | (have q := dn; rw [Heap.size_push, Heap.size_push] at q; exact q)
    exact ⟨rfl, hq h' tk' (hp.objs.size + 1) dx ⟨old, Nat.le_succ _, ⟨_, _, hx, rfl, rfl, rfl, rfl, rfl⟩, Nat.le_trans (Nat.le_trans (Nat.le_succ _) (Nat.le_succ _)) z, dne, hns⟩⟩

/-! #### __init__(self, at): self.at = at -/
def iA_at (p1 p2 : Pos) : Arguments := { posonlyargs := [], args := [{ arg := "self", annotation := none, pos := p1 }, { arg := "at", annotation := none, pos := p2 }], vararg := none, kwonlyargs := [], kw_defaults := [], kwarg := none, defaults := [] }
def iB_at (q1 q2 q3 q4 : Pos) : List Stmt := [.Assign [.Attribute (.Name "self" q1) "at" q2] (.Name "at" q3) q4]
def iS_at : Scope := { kind := .function, names := [(PySem.Str.ofString "self", .local), (PySem.Str.ofString "at", .local)], isGenerator := false, isCoroutine := false, more := [] }
def Fn_at (K : Frag) (fI : Addr) (q : Str) : Prop := ∃ (oc : Value) (od : Option Addr) (doc pm : Value) (an : Option Addr) (cdv ct : Value) (osl : Array (Option Value)) (p1 p2 q1 q2 q3 q4 : Pos),
    K.lookup fI = some ⟨oc, od, .func (fnOf "__init__" q (iA_at p1 p2) (iB_at q1 q2 q3 q4) iS_at .none .none doc pm an cdv ct), osl⟩ ∧ codeIn K cdv q = true
theorem runs_at {prog : Program} {w : World} {K : Frag} {C fI : Addr} {q : Str} (T : ErrCls K C fI) (fn : Fn_at K fI q) (noN : findIn K (.ref C) "at" = some none) (v : Value) :
    InitRuns prog w K C fI [v] (fun y => if y = "at" then some v else none) := by
  intro A R s x t0 X hlim hx hnx hroom hq
  obtain ⟨oc, od, doc, pm, an, cdv, ct, osl, p1, p2, q1, q2, q3, q4, ho, hcd⟩ := fn
  obtain ⟨nm, qn, N, bs, bm, sn, sub, ab, col, dd, k0, k1, k2, k3, k5, newId, B, initId, bmB, hC, _, _, hpass, hobj⟩ := T.cls
  have hcl : clsIn K C = some { name := nm, bases := bs, mro := .ref C :: bm, ns := N, qualname := qn, hasDict := true, slotNames := sn, subclasses := sub, abstract := ab, collection := col, hasDel := false } := by unfold clsIn; rw [hC] <;> rfl
  refine Att.call_fn (binds := [("self", .ref x), ("at", v)]) X hlim ho hcd hroom (BindsTo.of_eq (by first | rfl | with_unfolding_all rfl)) (by first | rfl | decide | with_unfolding_all rfl) (fun s₁ IC => ?_) rfl rfl rfl
  obtain ⟨h₁, tk₁, rfl⟩ := IC.toInCall.same
  have k : ∀ b o, s.heap.get? b = some o → h₁.get? b = some o := IC.toInCall.keep
  have hn := IC.toInCall.ns
  have X₁ : K.In h₁ := X.keeps k
  have hx₁ := k _ _ hx
  show wpAny _ _ (execs _ _) _ _ _
  refine wpAny_execs_cons (plainObj_wpAny_Assign_Attribute ?_)
  refine ldC (v := v) hn (by first | rfl | with_unfolding_all rfl | kernel_rfl) (ldC (v := .ref x) hn (by first | rfl | with_unfolding_all rfl | kernel_rfl) ?_)
  refine set_plain X₁ (ox := excO C t0) (od := none) ⟨hx₁, rfl, rfl, trivial⟩ T.sa ?_
  refine first_store X₁ hx₁ hcl (by show refuseLoop _ _ (Value.ref C :: bm) = _; rw [refuseLoop_ref]; exact hpass _) (by unfold mroIn; rw [hcl, Option.bind_some]; show (if List.isEmpty (Value.ref C :: bm) = true then _ else some ((Value.ref C :: bm).contains (.type "object"))) = _; rw [if_neg (by exact Bool.false_ne_true), List.contains_cons, hobj, Bool.or_true]) rfl noN (fun h₃ tk₃ dx k₃ dn dne hx₃ hn₃ => ?_)
  show wpAny _ _ (execs _ _) _ _ _
  have z : s.heap.objs.size < h₁.objs.size := hn.lt
  exact wpAny_execs_nil (hq h₃ tk₃ dx ⟨fun b o hb e => k₃ b o hb (k b o e), hx₃, Nat.le_of_lt (Nat.lt_of_lt_of_le z dn), dne, hn₃⟩)

/-! #### __init__(self, top): self.top = top -/
def iA_top (p1 p2 : Pos) : Arguments := { posonlyargs := [], args := [{ arg := "self", annotation := none, pos := p1 }, { arg := "top", annotation := none, pos := p2 }], vararg := none, kwonlyargs := [], kw_defaults := [], kwarg := none, defaults := [] }
def iB_top (q1 q2 q3 q4 : Pos) : List Stmt := [.Assign [.Attribute (.Name "self" q1) "top" q2] (.Name "top" q3) q4]
def iS_top : Scope := { kind := .function, names := [(PySem.Str.ofString "self", .local), (PySem.Str.ofString "top", .local)], isGenerator := false, isCoroutine := false, more := [] }
def Fn_top (K : Frag) (fI : Addr) (q : Str) : Prop := ∃ (oc : Value) (od : Option Addr) (doc pm : Value) (an : Option Addr) (cdv ct : Value) (osl : Array (Option Value)) (p1 p2 q1 q2 q3 q4 : Pos),
    K.lookup fI = some ⟨oc, od, .func (fnOf "__init__" q (iA_top p1 p2) (iB_top q1 q2 q3 q4) iS_top .none .none doc pm an cdv ct), osl⟩ ∧ codeIn K cdv q = true
theorem runs_top {prog : Program} {w : World} {K : Frag} {C fI : Addr} {q : Str} (T : ErrCls K C fI) (fn : Fn_top K fI q) (noN : findIn K (.ref C) "top" = some none) (v : Value) :
    InitRuns prog w K C fI [v] (fun y => if y = "top" then some v else none) := by
  intro A R s x t0 X hlim hx hnx hroom hq
  obtain ⟨oc, od, doc, pm, an, cdv, ct, osl, p1, p2, q1, q2, q3, q4, ho, hcd⟩ := fn
  obtain ⟨nm, qn, N, bs, bm, sn, sub, ab, col, dd, k0, k1, k2, k3, k5, newId, B, initId, bmB, hC, _, _, hpass, hobj⟩ := T.cls
  have hcl : clsIn K C = some { name := nm, bases := bs, mro := .ref C :: bm, ns := N, qualname := qn, hasDict := true, slotNames := sn, subclasses := sub, abstract := ab, collection := col, hasDel := false } := by unfold clsIn; rw [hC] <;> rfl
  refine Att.call_fn (binds := [("self", .ref x), ("top", v)]) X hlim ho hcd hroom (BindsTo.of_eq (by first | rfl | with_unfolding_all rfl)) (by first | rfl | decide | with_unfolding_all rfl) (fun s₁ IC => ?_) rfl rfl rfl
  obtain ⟨h₁, tk₁, rfl⟩ := IC.toInCall.same
  have k : ∀ b o, s.heap.get? b = some o → h₁.get? b = some o := IC.toInCall.keep
  have hn := IC.toInCall.ns
  have X₁ : K.In h₁ := X.keeps k
  have hx₁ := k _ _ hx
  show wpAny _ _ (execs _ _) _ _ _
  refine wpAny_execs_cons (plainObj_wpAny_Assign_Attribute ?_)
  refine ldC (v := v) hn (by first | rfl | with_unfolding_all rfl | kernel_rfl) (ldC (v := .ref x) hn (by first | rfl | with_unfolding_all rfl | kernel_rfl) ?_)
  refine set_plain X₁ (ox := excO C t0) (od := none) ⟨hx₁, rfl, rfl, trivial⟩ T.sa ?_
  refine first_store X₁ hx₁ hcl (by show refuseLoop _ _ (Value.ref C :: bm) = _; rw [refuseLoop_ref]; exact hpass _) (by unfold mroIn; rw [hcl, Option.bind_some]; show (if List.isEmpty (Value.ref C :: bm) = true then _ else some ((Value.ref C :: bm).contains (.type "object"))) = _; rw [if_neg (by exact Bool.false_ne_true), List.contains_cons, hobj, Bool.or_true]) rfl noN (fun h₃ tk₃ dx k₃ dn dne hx₃ hn₃ => ?_)
  show wpAny _ _ (execs _ _) _ _ _
  have z : s.heap.objs.size < h₁.objs.size := hn.lt
  exact wpAny_execs_nil (hq h₃ tk₃ dx ⟨fun b o hb e => k₃ b o hb (k b o e), hx₃, Nat.le_of_lt (Nat.lt_of_lt_of_le z dn), dne, hn₃⟩)

/-! #### __init__(self, thing): self.thing = thing -/
def iA_thing (p1 p2 : Pos) : Arguments := { posonlyargs := [], args := [{ arg := "self", annotation := none, pos := p1 }, { arg := "thing", annotation := none, pos := p2 }], vararg := none, kwonlyargs := [], kw_defaults := [], kwarg := none, defaults := [] }
def iB_thing (q1 q2 q3 q4 : Pos) : List Stmt := [.Assign [.Attribute (.Name "self" q1) "thing" q2] (.Name "thing" q3) q4]
def iS_thing : Scope := { kind := .function, names := [(PySem.Str.ofString "self", .local), (PySem.Str.ofString "thing", .local)], isGenerator := false, isCoroutine := false, more := [] }
def Fn_thing (K : Frag) (fI : Addr) (q : Str) : Prop := ∃ (oc : Value) (od : Option Addr) (doc pm : Value) (an : Option Addr) (cdv ct : Value) (osl : Array (Option Value)) (p1 p2 q1 q2 q3 q4 : Pos),
    K.lookup fI = some ⟨oc, od, .func (fnOf "__init__" q (iA_thing p1 p2) (iB_thing q1 q2 q3 q4) iS_thing .none .none doc pm an cdv ct), osl⟩ ∧ codeIn K cdv q = true
theorem runs_thing {prog : Program} {w : World} {K : Frag} {C fI : Addr} {q : Str} (T : ErrCls K C fI) (fn : Fn_thing K fI q) (noN : findIn K (.ref C) "thing" = some none) (v : Value) :
    InitRuns prog w K C fI [v] (fun y => if y = "thing" then some v else none) := by
  intro A R s x t0 X hlim hx hnx hroom hq
  obtain ⟨oc, od, doc, pm, an, cdv, ct, osl, p1, p2, q1, q2, q3, q4, ho, hcd⟩ := fn
  obtain ⟨nm, qn, N, bs, bm, sn, sub, ab, col, dd, k0, k1, k2, k3, k5, newId, B, initId, bmB, hC, _, _, hpass, hobj⟩ := T.cls
  have hcl : clsIn K C = some { name := nm, bases := bs, mro := .ref C :: bm, ns := N, qualname := qn, hasDict := true, slotNames := sn, subclasses := sub, abstract := ab, collection := col, hasDel := false } := by unfold clsIn; rw [hC] <;> rfl
  refine Att.call_fn (binds := [("self", .ref x), ("thing", v)]) X hlim ho hcd hroom (BindsTo.of_eq (by first | rfl | with_unfolding_all rfl)) (by first | rfl | decide | with_unfolding_all rfl) (fun s₁ IC => ?_) rfl rfl rfl
  obtain ⟨h₁, tk₁, rfl⟩ := IC.toInCall.same
  have k : ∀ b o, s.heap.get? b = some o → h₁.get? b = some o := IC.toInCall.keep
  have hn := IC.toInCall.ns
  have X₁ : K.In h₁ := X.keeps k
  have hx₁ := k _ _ hx
  show wpAny _ _ (execs _ _) _ _ _
  refine wpAny_execs_cons (plainObj_wpAny_Assign_Attribute ?_)
  refine ldC (v := v) hn (by first | rfl | with_unfolding_all rfl | kernel_rfl) (ldC (v := .ref x) hn (by first | rfl | with_unfolding_all rfl | kernel_rfl) ?_)
  refine set_plain X₁ (ox := excO C t0) (od := none) ⟨hx₁, rfl, rfl, trivial⟩ T.sa ?_
  refine first_store X₁ hx₁ hcl (by show refuseLoop _ _ (Value.ref C :: bm) = _; rw [refuseLoop_ref]; exact hpass _) (by unfold mroIn; rw [hcl, Option.bind_some]; show (if List.isEmpty (Value.ref C :: bm) = true then _ else some ((Value.ref C :: bm).contains (.type "object"))) = _; rw [if_neg (by exact Bool.false_ne_true), List.contains_cons, hobj, Bool.or_true]) rfl noN (fun h₃ tk₃ dx k₃ dn dne hx₃ hn₃ => ?_)
  show wpAny _ _ (execs _ _) _ _ _
  have z : s.heap.objs.size < h₁.objs.size := hn.lt
  exact wpAny_execs_nil (hq h₃ tk₃ dx ⟨fun b o hb e => k₃ b o hb (k b o e), hx₃, Nat.le_of_lt (Nat.lt_of_lt_of_le z dn), dne, hn₃⟩)

/-! #### __init__(self, low, high) -/
def iA_lh (p1 p2 p3 : Pos) : Arguments := { posonlyargs := [], args := [{ arg := "self", annotation := none, pos := p1 }, { arg := "low", annotation := none, pos := p2 }, { arg := "high", annotation := none, pos := p3 }], vararg := none, kwonlyargs := [], kw_defaults := [], kwarg := none, defaults := [] }
def iB_lh (q1 q2 q3 q4 r1 r2 r3 r4 : Pos) : List Stmt := [.Assign [.Attribute (.Name "self" q1) "low" q2] (.Name "low" q3) q4, .Assign [.Attribute (.Name "self" r1) "high" r2] (.Name "high" r3) r4]
def iS_lh : Scope := { kind := .function, names := [(PySem.Str.ofString "self", .local), (PySem.Str.ofString "low", .local), (PySem.Str.ofString "high", .local)], isGenerator := false, isCoroutine := false, more := [] }
def Fn_lh (K : Frag) (fI : Addr) (q : Str) : Prop := ∃ (oc : Value) (od : Option Addr) (doc pm : Value) (an : Option Addr) (cdv ct : Value) (osl : Array (Option Value)) (p1 p2 p3 q1 q2 q3 q4 r1 r2 r3 r4 : Pos),
    K.lookup fI = some ⟨oc, od, .func (fnOf "__init__" q (iA_lh p1 p2 p3) (iB_lh q1 q2 q3 q4 r1 r2 r3 r4) iS_lh .none .none doc pm an cdv ct), osl⟩ ∧ codeIn K cdv q = true
theorem runs_lh {prog : Program} {w : World} {K : Frag} {C fI : Addr} {q : Str} (T : ErrCls K C fI) (fn : Fn_lh K fI q) (no1 : findIn K (.ref C) "low" = some none) (no2 : findIn K (.ref C) "high" = some none) (v u : Value) :
    InitRuns prog w K C fI [v, u] (fun y => if y = "high" then some u else (if y = "low" then some v else none)) := by
  intro A R s x t0 X hlim hx hnx hroom hq
  obtain ⟨oc, od, doc, pm, an, cdv, ct, osl, p1, p2, p3, q1, q2, q3, q4, r1, r2, r3, r4, ho, hcd⟩ := fn
  obtain ⟨nm, qn, N, bs, bm, sn, sub, ab, col, dd, k0, k1, k2, k3, k5, newId, B, initId, bmB, hC, _, _, hpass, hobj⟩ := T.cls
  have hcl : clsIn K C = some { name := nm, bases := bs, mro := .ref C :: bm, ns := N, qualname := qn, hasDict := true, slotNames := sn, subclasses := sub, abstract := ab, collection := col, hasDel := false } := by unfold clsIn; rw [hC] <;> rfl
  have hps : refuseLoop (.ref x) "__setattr__" (Value.ref C :: bm) = pure () := by rw [refuseLoop_ref]; exact hpass _
  have hob : mroIn K C (.type "object") = some true := by unfold mroIn; rw [hcl, Option.bind_some]; show (if List.isEmpty (Value.ref C :: bm) = true then _ else some ((Value.ref C :: bm).contains (.type "object"))) = _; rw [if_neg (by exact Bool.false_ne_true), List.contains_cons, hobj, Bool.or_true]
  refine Att.call_fn (binds := [("self", .ref x), ("low", v), ("high", u)]) X hlim ho hcd hroom (BindsTo.of_eq (by first | rfl | with_unfolding_all rfl)) (by first | rfl | decide | with_unfolding_all rfl) (fun s₁ IC => ?_) rfl rfl rfl
  obtain ⟨h₁, tk₁, rfl⟩ := IC.toInCall.same
  have k : ∀ b o, s.heap.get? b = some o → h₁.get? b = some o := IC.toInCall.keep
  have hn := IC.toInCall.ns
  have X₁ : K.In h₁ := X.keeps k
  have hx₁ := k _ _ hx
  show wpAny _ _ (execs _ _) _ _ _
  refine wpAny_execs_cons (plainObj_wpAny_Assign_Attribute ?_)
  refine ldC (v := v) hn (by first | rfl | with_unfolding_all rfl | kernel_rfl) (ldC (v := .ref x) hn (by first | rfl | with_unfolding_all rfl | kernel_rfl) ?_)
  refine set_plain X₁ (ox := excO C t0) (od := none) ⟨hx₁, rfl, rfl, trivial⟩ T.sa ?_
  refine first_store X₁ hx₁ hcl hps hob rfl no1 (fun h₃ tk₃ dx k₃ dn dne hx₃ hn₃ => ?_)
  have hxL : s.heap.objs.size ≠ x := Nat.ne_of_gt (Heap.lt_size hx)
  have X₃ : K.In h₃ := fun a o e => k₃ a o (fun z => by rw [z, hnx] at e; cases e) (X₁ a o e)
  obtain ⟨oL, es, ep, hoL, rL⟩ := id hn
  have hn3 : h₃.Ns s.heap.objs.size _ := ⟨oL, es, ep, k₃ _ _ hxL hoL, rL⟩
  show wpAny _ _ (execs _ _) _ _ _
  refine wpAny_execs_cons (plainObj_wpAny_Assign_Attribute ?_)
  refine ldC (v := u) hn3 (by first | rfl | with_unfolding_all rfl | kernel_rfl) (ldC (v := .ref x) hn3 (by first | rfl | with_unfolding_all rfl | kernel_rfl) ?_)
  obtain ⟨oD, hoD, _⟩ := L2.lookIn_ns hn₃
  refine set_plain X₃ (ox := { cls := .ref C, dict := some dx, data := .fields #[.ref t0, .none, .none, .none, .bool false, .none] }) (od := some oD) ⟨hx₃, rfl, rfl, hoD⟩ T.sa ?_
  refine next_store X₃ hx₃ hcl hps hob rfl no2 hn₃ (Within.cons "low" v Within.nil) (by decide) (fun h₄ tk₄ k₄ hn₄ => ?_)
  show wpAny _ _ (execs _ _) _ _ _
  have z : s.heap.objs.size < h₁.objs.size := hn.lt
  have old : ∀ b o, b ≠ x → s.heap.get? b = some o → h₄.get? b = some o := fun b o hb e => by
    have lt : b < h₁.objs.size := Heap.lt_size (k b o e)
    exact k₄ b o (fun q => by rw [q] at lt; exact absurd dn (Nat.not_le.mpr lt)) (k₃ b o hb (k b o e))
  exact wpAny_execs_nil (hq h₄ tk₄ dx ⟨old, k₄ x _ (Ne.symm dne) hx₃, Nat.le_of_lt (Nat.lt_of_lt_of_le z dn), dne, hn₄⟩)
end ErV
end PySem

namespace PySem
namespace NoBX
open PySem.Spec PySem.W PySem.Calls PyProof.Rows
/-! ### isinstance of a caught error that has a dict of its own -/
section
variable {P : Program} {w : World} {A : Around} {E : Value → Shared → Prop} {sh : Shared} {K : Frag} {e D : Addr} {oe : Obj} {od : Option Obj}
theorem found_first {name : Str} {at' gt : Value} (c : (clsIn K D).isSome = true) (f : findIn K (.ref D) name = some (some at')) (g : specialIn K at' "__get__" = some (some gt)) (t : takesIn K at' = some true) : findObj K D od name = some (.bind gt at') := by
  obtain ⟨cd, h⟩ := Option.isSome_iff_exists.mp c
  unfold findObj
  rw [h, Option.bind_some, f, Option.bind_some]
  simp [g, t]
theorem class_told {Q : Option Value → Shared → Prop} (C : L2.ExcC K D) (kin : K.In sh.heap) (I : InstAt sh.heap e oe D od) (q : Q (some (.ref D)) { sh with toks := sh.toks + 1 }) : wpAny (model P w) A (getAttr? (.ref e) "__class__") Q E sh := by
  have ff : findObj K D od "__class__" = some (.bind (.builtin "getset_descriptor.__get__") (.builtin "object.__class__")) := found_first (by obtain ⟨cd, h, _⟩ := any_some C.hd; rw [h]; rfl) C.ha C.hn C.ht
  obtain ⟨hh, gg, dn, tt, oo⟩ := sh
  have tyE := I.type (M := model P w)
  have askG := looks_findIn (M := model P w) kin C.hg
  have askK := looks_findIn (M := model P w) kin C.hk
  have askF := looks_find (M := model P w) kin I ff
  have under : Looks (model P w) hh (isInstance (.ref e) (.type "BaseException")) true := tyE.andThen (looks_subIn kin C.hs)
  have b0 : (false && onTheHeap (Value.builtin "BaseException.__getattribute__")) = false := rfl
  have b2 : (Value.builtin "BaseException.__getattribute__" == Value.builtin "object.__getattribute__") = false := by decide +kernel
  have b1 : (onTheHeap (Value.ref D) && Value.builtin "BaseException.__getattribute__" == Value.builtin "object.__getattribute__") = false := by rw [b2]; rfl
  unfold getAttr? getAttrBy? getAttrBy
  refine wpAny_bind (wpAny_mkText (wpAny_bind (wpAny_attempt (wpAny_holding (wpAny_bind (tyE.at (wpAny_bind (askG.at ?_))))))))
  show wpAny _ _ (if (onTheHeap (Value.ref D) && Value.builtin "BaseException.__getattribute__" == Value.builtin "object.__getattribute__") = true then _ else _) _ _ _
  rw [b1, if_neg Bool.false_ne_true]
  unfold getAttrByItsOwn hookBefore
  refine wpAny_bind ?_
  rw [if_pos (show onTheHeap (Value.ref D) = true from rfl)]
  refine askK.at ?_
  refine wpAny_bind (wpAny_attempt (wpAny_holding ?_))
  unfold callGetattribute
  rw [b0, if_neg Bool.false_ne_true]
  unfold boundAndCalled
  rw [PySem.F.excAttr_ValueError.ga.bind (.ref e)]
  refine wpAny_bind (wpAny_pure ?_)
  show wpAny _ _ (call (.builtin "BaseException.__getattribute__") [.ref e, .str "__class__" tt]) _ _ _
  refine wpAny_call (codeAny_call_builtin PySem.F.excAttr_ValueError.ga.plain PySem.F.entry_bexc_ga ?_)
  refine @check_slot (model P w) _ _ ⟨hh, gg, dn, tt + 1, oo⟩ "BaseException.__getattribute__" "BaseException" "__getattribute__" (.ref e) [.str "__class__" tt] [] _ (by decide +kernel) (by decide +kernel) under (PySem.F.args_bexc_ga (.ref e) (.str "__class__" tt)) ?_
  unfold Builtin.«object.__getattribute__»
  refine wpAny_bind (wpAny_of_eq (a := ((Value.ref e : Value), [Value.str "__class__" tt])) (by first | rfl | (simp only [slotArgs]; rfl)) ?_)
  refine wpAny_bind (wpAny_pure (wpAny_bind (tyE.at (wpAny_bind (askF.at ?_)))))
  show wpAny _ _ (holding [Value.builtin "object.__class__"] (call (.builtin "getset_descriptor.__get__") [.builtin "object.__class__", .ref e, .ref D]) >>= ret) _ _ _
  refine wpAny_bind (wpAny_holding (wpAny_call (class_get (s := ⟨hh, gg, dn, tt + 1, oo⟩) (ox := oe) (od := od) kin I C.hm ?_)))
  refine wpAny_pure ?_
  show wpAny _ _ (handedOut (.ref D)) _ _ _
  rw [handedOut_of (v := .ref D) rfl]
  first
    | exact wpAny_pure (wpAny_pure q)
    | exact wpAny_pure q
    | exact wpAny_pure (wpAny_bind (wpAny_pure (wpAny_pure q)))
theorem kit_err (C : L2.ExcC K D) : KitX K (.ref e) (.ref D) (fun h => ∃ o, InstAt h e oe D (some o)) where
  ty := fun _ _ _ ⟨_, I⟩ => I.type
  it := fun _ _ kin _ => by
    obtain ⟨cd, h, _⟩ := any_some C.hd
    unfold clsIn at h
    split at h
    · rename_i ho
      intro A' Q' E' s' k q
      unfold isType loadHead
      exact wpAny_bind (wpAny_loadPart (k _ _ (kin _ _ ho)) (wpAny_pure q))
    · cases h
  ne := fun h tp dd its n sl kin htp => by
    obtain ⟨cd, hc, _⟩ := any_some C.hd
    refine Bool.eq_false_iff.mpr fun q => ?_
    have z : D = tp := Value.ref.inj (beq_iff_eq.mp q)
    subst z
    unfold clsIn at hc
    split at hc
    · rename_i ho
      have z := (kin _ _ ho).symm.trans htp
      cases z
    · cases hc
  ca := fun kin ⟨_, I⟩ k => class_told C kin I k
end
end NoBX
end PySem
namespace L2
open PySem PySem.Spec PyProof.Rows
/-- isinstance(e, c), isinstance(e, (c1, ..)): e the error that the suite holds, of the class D -/
def rIsErr (K : PySem.W.Frag) (D a : Addr) (cls : Value) (d : Option Addr) : List V → Hp → VK → Prop := fun xs H Q => cls = .ref D ∧ ∃ (dd : Addr) (l : List (Str × V)), d = some dd ∧ H dd = some (.xd l) ∧
  ((∃ (c : V) (cv : Value) (b : Bool), xs = [.ref a, c] ∧ ClsV c cv ∧ PySem.W.kitOne K (.ref D) cv = some b ∧ Q (.bl b) H) ∨
    ∃ (tp : Addr) (cs : List V) (us : List Value) (b : Bool), xs = [.ref a, .ref tp] ∧ H tp = some (.tup cs) ∧ Paired ClsV cs us ∧ PySem.W.kitAny K (.ref D) us = some b ∧ Q (.bl b) H)
theorem call_isErr {X : Cx} {a D : Addr} {cls : Value} {d : Option Addr} {oe : Obj} {pn : List (Addr × Obj)} (C : ExcC X.K D) (hz : Zc cls d oe) (hf : ∃ vs, oe.data = .fields vs) : CallR (X.suite a ((a, oe) :: pn)) (.builtin "isinstance") (rIsErr X.K D a cls d) := by
  rintro pins s σ H xs us Q I r ⟨rfl, dd, l, rfl, hd, h⟩
  obtain ⟨at', _⟩ := I.pin (a, oe) (List.mem_append.mpr (.inl List.mem_cons_self))
  obtain ⟨vs, hv⟩ := hf
  have hx : ObjOk X.prog X.w H s.heap dd (.xd l) := I.hok dd _ hd
  obtain ⟨mA, hns, _⟩ := hx
  obtain ⟨od, ho, _⟩ := lookIn_ns hns
  have J : PySem.W.InstAt s.heap a oe D (some od) := ⟨at', hz.1, by unfold PySem.W.notCls; rw [hv] <;> rfl, by rw [hz.2]; exact ho⟩
  rcases h with ⟨c, cv, b, rfl, kc, e, q⟩ | ⟨tp, cs, ws, b, rfl, hT, kc, e, q⟩
  · obtain ⟨u1, u2, rfl, r1, r2⟩ := vals2 r
    cases (show u1 = Value.ref a from r1)
    have ec := kc.eq r2
    subst ec
    exact PySem.W.kia_one (NoBX.kit_err C) I.kIn ⟨_, J⟩ e (fun z => nomatch z) fun tk => ⟨.bl b, H, I.tok tk, rfl, q⟩
  · obtain ⟨u1, u2, rfl, r1, r2⟩ := vals2 r
    cases (show u1 = Value.ref a from r1)
    cases (show u2 = Value.ref tp from r2)
    obtain ⟨_, its, rv, o, h1, h2, n, h3⟩ := (show ObjOk X.prog X.w H s.heap tp (.tup cs) from I.hok tp _ hT)
    have e3 := ClsV.all kc rv
    subst e3
    obtain ⟨oc, odd, dt, sl⟩ := o
    simp only at h2 h3
    subst h2 h3
    exact PySem.W.kia_tup (NoBX.kit_err C) I.kIn ⟨_, J⟩ h1 e (fun z => nomatch z) fun tk => ⟨.bl b, H, I.tok tk, rfl, q⟩
end L2

namespace L2
open PySem PySem.Spec PyProof.Rows
/-! ### errors as values: made, asked, their fields read -/
/-- an error that stands at e -/
def ErrO (oe : Obj) (e : Addr) : HO := .ext fun h => h.get? e = some oe
theorem errO_ok {P : Program} {w : World} {H : Hp} {h : Heap} {e : Addr} {oe : Obj} (q : h.get? e = some oe) : ObjOk P w H h e (ErrO oe e) := ⟨q, ⟨oe, q⟩, fun _ _ p k => k oe p⟩
theorem errO_at {P : Program} {w : World} {H : Hp} {h : Heap} {e : Addr} {oe : Obj} (hok : HOk P w H h) (q : H e = some (ErrO oe e)) : h.get? e = some oe := by
  obtain ⟨z, _, _⟩ := hok e _ q
  exact z
/-- an error's object: of the class C, its fields at d -/
structure ErrOb (oe : Obj) (C d : Addr) : Prop where
  cls : oe.cls = .ref C
  dict : oe.dict = some d
  dat : ∃ vs, oe.data = .fields vs
/-- an error of the class C stands at e, with its fields at d -/
def ErrAt (pn : List (Addr × Obj)) (H : Hp) (e C d : Addr) : Prop := ∃ oe, (H e = some (ErrO oe e) ∨ (e, oe) ∈ pn) ∧ ErrOb oe C d
/-- its fields -/
def ErrV (pn : List (Addr × Obj)) (H : Hp) (e C : Addr) (l : List (Str × V)) : Prop := ∃ d, ErrAt pn H e C d ∧ H d = some (.xd l)
theorem ErrV.any {pn : List (Addr × Obj)} {H : Hp} {e C : Addr} {l : List (Str × V)} (x : ErrV [] H e C l) : ErrV pn H e C l := by
  obtain ⟨d, ⟨oe, h, ob⟩, hd⟩ := x
  rcases h with h | h
  · exact ⟨d, ⟨oe, .inl h, ob⟩, hd⟩
  · cases h
theorem ErrV.keep {pn : List (Addr × Obj)} {H H' : Hp} {e C : Addr} {l : List (Str × V)} (x : ErrV pn H e C l) (k : ∀ b o, H b = some o → (∃ φ, o = .ext φ) ∨ (∃ l, o = .xd l) → H' b = some o) : ErrV pn H' e C l := by
  obtain ⟨d, ⟨oe, h, ob⟩, hd⟩ := x
  refine ⟨d, ⟨oe, h.imp (fun z => k _ _ z (.inl ⟨_, rfl⟩)) id, ob⟩, k _ _ hd (.inr ⟨_, rfl⟩)⟩
section
variable {X : Cx}
theorem err_inst {pins : List (Addr × Obj)} {σ : St} {H : Hp} {s : Shared} {e C : Addr} {l : List (Str × V)} (I : Inv X pins σ H s) (x : ErrV X.pn H e C l) :
    ∃ oe d od mA, PySem.W.InstAt s.heap e oe C (some od) ∧ H d = some (.xd l) ∧ s.heap.Ns1 d mA ∧ (∀ f, RelO (l.lookup f) (mA f)) ∧ s.heap.get? d = some od ∧ ∀ name, PySem.W.lookIn name od = some (mA name) := by
  obtain ⟨d, ⟨oe, h, ob⟩, hd⟩ := x
  have he : s.heap.get? e = some oe := by
    rcases h with h | h
    · exact errO_at I.hok h
    · exact (I.pin (e, oe) (List.mem_append_left _ h)).1
  have hx : ObjOk X.prog X.w H s.heap d (.xd l) := I.hok d _ hd
  obtain ⟨mA, hns, hr⟩ := hx
  obtain ⟨od, ho, hl⟩ := lookIn_ns hns
  obtain ⟨vs, hv⟩ := ob.dat
  exact ⟨oe, d, od, mA, ⟨he, ob.cls, by unfold PySem.W.notCls; rw [hv] <;> rfl, by rw [ob.dict]; exact ho⟩, hd, hns, hr, ho, hl⟩
/-- isinstance(e, c) of such an error -/
def rIsErrV (K : PySem.W.Frag) (pn : List (Addr × Obj)) : List V → Hp → VK → Prop := fun xs H Q => ∃ (e C : Addr) (l : List (Str × V)) (c : V) (cv : Value) (b : Bool), xs = [.ref e, c] ∧ ErrV pn H e C l ∧ ExcC K C ∧ ClsV c cv ∧ PySem.W.kitOne K (.ref C) cv = some b ∧ Q (.bl b) H
theorem call_isErrV : CallR X (.builtin "isinstance") (rIsErrV X.K X.pn) := by
  rintro pins s σ H xs us Q I r ⟨e, C, l, c, cv, b, rfl, hx, EC, kc, hb, q⟩
  obtain ⟨oe, d, od, mA, J, _⟩ := err_inst I hx
  obtain ⟨u1, u2, rfl, r1, r2⟩ := vals2 r
  cases (show u1 = Value.ref e from r1)
  have ec := kc.eq r2
  subst ec
  exact PySem.W.kia_one (PySem.NoBX.kit_err EC) I.kIn ⟨_, J⟩ hb (fun z => nomatch z) fun tk => ⟨.bl b, H, I.tok tk, rfl, q⟩
/-- what the written part says of reading the field f of an error of the class C -/
structure ErrGet (K : PySem.W.Frag) (C : Addr) (f : Str) : Prop where
  ga : PySem.W.findIn K (.ref C) "__getattribute__" = some (some (.builtin "BaseException.__getattribute__"))
  gg : PySem.W.findIn K (.ref C) "__getattr__" = some none
  ex : PySem.W.subIn K (.ref C) (.type "BaseException") = some true
  hd : PySem.W.hasDictIn K C = true
  no : PySem.W.findIn K (.ref C) f = some none
/-- e.f of such an error -/
def tErrF (K : PySem.W.Frag) (f : Str) (te : TE) : TE := fun σ H Q => te σ H fun x H1 => ∃ (e C : Addr) (l : List (Str × V)) (v : V), x = .ref e ∧ ErrV [] H1 e C l ∧ ErrGet K C f ∧ l.lookup f = some v ∧ Q v H1
theorem pe_errFK {f : Str} {e : Expr} {te : TE} {pos : Pos} {K0 : PySem.W.Frag} (hK : X.K = K0) (he : PE X e te) (hb : attributeBase e f X.env (eval e X.env) = eval e X.env) :
    PE X (.Attribute e f pos) (tErrF K0 f te) := by
  subst hK
  refine ⟨fun pins s σ H Q I h => ?_⟩
  refine attr_of hb (thn (he.run pins s σ H _ I h) fun u s1 hh => ?_)
  obtain ⟨x, H1, I1, rx, a, C, l, v, ex, hx, G, hl, q⟩ := hh
  subst ex
  obtain rfl : u = Value.ref a := rx
  obtain ⟨oe, d, od, mA, J, _, hns, hr, _, hlk⟩ := err_inst I1 hx.any
  obtain ⟨u, hu, ru⟩ := RelO.some_of (v := v) (o := mA f) (by rw [← hl]; exact hr f)
  exact HandSPX.exc_get I1.kIn J G.ga G.gg G.ex (PySem.W.findObj_own G.hd G.no rfl (by rw [hlk, hu])) (handed_of ru) ⟨v, H1, I1.tok _, ru, q⟩
theorem pe_errF {f : Str} {e : Expr} {te : TE} {pos : Pos} (he : PE X e te) (hb : attributeBase e f X.env (eval e X.env) = eval e X.env := by rfl) :
    PE X (.Attribute e f pos) (tErrF X.K f te) := pe_errFK rfl he hb
/-- C(..): a new error, its fields l of what was handed in -/
def tMkErr (C : Addr) (fl : List V → Option (List (Str × V))) (ta : TA) : TE := fun σ H Q => ta σ H fun vs H1 => ∃ l, fl vs = some l ∧ ∀ e d oe, H1 e = none → H1 d = none → d ≠ e → ErrOb oe C d → Q (.ref e) (upd (upd H1 d (.xd l)) e (ErrO oe e))
/-- what a class's __init__ does with what it is handed -/
def ErrRun (X : Cx) (C fI : Addr) (fl : List V → Option (List (Str × V))) : Prop := ∀ (vs : List V) (us : List Value) (l : List (Str × V)), fl vs = some l → Vals vs us → ∃ m, PySem.ErV.InitRuns X.prog X.w X.K C fI us m ∧ us.length ≤ sizeLine ∧ ∀ f, RelO (l.lookup f) (m f)
theorem pe_mkErr {a : Expr} {es : List Expr} {ta : TA} {x : Str} {C fI : Addr} {fl : List V → Option (List (Str × V))} {p pos : Pos} {k : Nat} (T : PySem.ErV.ErrCls X.K C fI) (run : ErrRun X C fI fl) (hr : Room k X.A) (hk : 2 ≤ k) (ha : PA X (a :: es) ta) (hm : X.mg x = some (.ref C)) (hg : Gl X x := by rfl) (hdb : (x == ("__debug__" : Str)) = false := by decide)
    (he : starEach (a :: es) X.env = (false, eval a X.env) :: starEach es X.env := by rfl) (hpl : (backTo pos (starEach es X.env)).any (·.1) = false := by rfl) :
    PE X (.Call (.Name x p) (a :: es) [] pos) (tMkErr C fl ta) := by
  refine ⟨fun pins s σ H Q I h => ?_⟩
  refine wpAny_Call_Name_kw (ld_glob I hg hm ?_ hdb)
  refine PySem.W.callWith_K (h₀ := X.base) I.ok.mod.kin T.kC (thn (ha.run pos pins s σ H _ I h) fun us s1 hh => ?_) he hpl
  obtain ⟨vs, H1, I1, r1, l, el, q1⟩ := hh
  refine ⟨I1.kIn, ?_⟩
  obtain ⟨m, rn, sz, rel⟩ := run vs us l el r1
  have hlim := I1.nolimit
  obtain ⟨hp, g, dr, tk, os⟩ := s1
  refine wpAny_call (PySem.ErV.err_made T rn sz I1.kIn hlim (by have := hr.dp; omega) fun h' tk' e d M => ?_)
  obtain ⟨oe, fv, hoe, hc, hd, hdat, h1, h2⟩ := M.obj
  have hns := M.ns
  have ne : H1 e = none := I1.hok.fresh M.new
  have nd : H1 d = none := I1.hok.fresh M.dbig
  obtain ⟨G', g1, g2⟩ := restrict h' fun b => decide (b ≠ e)
  have gk : ∀ b, b ≠ e → G'.get? b = h'.get? b := fun b hb => g1 b (decide_eq_true hb)
  have ge : G'.get? e = none := g2 e (by simp)
  have old : ∀ b o, hp.get? b = some o → G'.get? b = some o := fun b o q => (gk b (Nat.ne_of_lt (Nat.lt_of_lt_of_le (Heap.lt_size q) M.new))).trans (M.keep b o q)
  have ob : ObjOk X.prog X.w (upd H1 d (.xd l)) G' d (.xd l) := ⟨_, hns.at (fun o q => (gk d M.dne).trans q), rel⟩
  have J : Inv X pins σ (upd H1 d (.xd l)) ⟨G', g, dr, tk', os⟩ := I1.laid (t' := tk') old M.dbig ob
  have J2 : Inv X pins σ (upd (upd H1 d (.xd l)) e (ErrO oe e)) ⟨h', g, dr, tk', os⟩ := J.laidN (h' := h') (t' := tk') (fun b o q => by
    by_cases hb : b = e
    · have q' : G'.get? b = some o := q
      rw [hb, ge] at q'; cases q'
    · exact (gk b hb).symm.trans q) ge (by rw [upd_ne (Ne.symm M.dne)]; exact ne) (errO_ok hoe)
  exact ⟨.ref e, _, J2, rfl, q1 e d oe ne nd M.dne ⟨hc, hd, ⟨_, hdat⟩⟩⟩
/-- raise C(..) within a def, caught there or above -/
def tMkRaise (C : Addr) (fl : List V → Option (List (Str × V))) (ta : TA) : St → Hp → XK → Prop := fun σ H Q => ta σ H fun vs H1 => ∃ l, fl vs = some l ∧ ∀ d, H1 d = none → Q (.ref C) (some d) (upd H1 d (.xd l))
theorem pmk_err {a : Expr} {es : List Expr} {ta : TA} {x : Str} {C fI : Addr} {fl : List V → Option (List (Str × V))} {p pos : Pos} {k : Nat} (T : PySem.ErV.ErrCls X.K C fI) (run : ErrRun X C fI fl) (exC : PySem.W.subIn X.K (.ref C) (.type "BaseException") = some true) (tyC : PySem.W.typeIn X.K (.ref C) = some (.type "type"))
    (hr : Room k X.A) (hk : 2 ≤ k) (ha : PA X (a :: es) ta) (hm : X.mg x = some (.ref C)) (hg : Gl X x := by rfl) (hdb : (x == ("__debug__" : Str)) = false := by decide)
    (he : starEach (a :: es) X.env = (false, eval a X.env) :: starEach es X.env := by rfl) (hpl : (backTo pos (starEach es X.env)).any (·.1) = false := by rfl) :
    L2N.PMk X (.Call (.Name x p) (a :: es) [] pos) (tMkRaise C fl ta) := by
  intro pins s σ H Q I h
  refine wpAny_Call_Name_kw (ld_glob I hg hm ?_ hdb)
  refine PySem.W.callWith_K (h₀ := X.base) I.ok.mod.kin T.kC (thn (ha.run pos pins s σ H _ I h) fun us s1 hh => ?_) he hpl
  obtain ⟨vs, H1, I1, r1, l, el, q1⟩ := hh
  refine ⟨I1.kIn, ?_⟩
  obtain ⟨m, rn, sz, rel⟩ := run vs us l el r1
  have hlim := I1.nolimit
  obtain ⟨hp, g, dr, tk, os⟩ := s1
  refine wpAny_call (PySem.ErV.err_made T rn sz I1.kIn hlim (by have := hr.dp; omega) fun h' tk' e d M => ?_)
  show L2N.MkP X pins σ Q (.ref e) ⟨h', g, dr, tk', os⟩
  obtain ⟨oe, fv, hoe, hc, hd, hdat, h1, h2⟩ := M.obj
  have hns := M.ns
  have ne : H1 e = none := I1.hok.fresh M.new
  obtain ⟨G', g1, g2⟩ := restrict h' fun b => decide (b ≠ e)
  have gk : ∀ b, b ≠ e → G'.get? b = h'.get? b := fun b hb => g1 b (decide_eq_true hb)
  have ge : G'.get? e = none := g2 e (by simp)
  have old : ∀ b o, hp.get? b = some o → G'.get? b = some o := fun b o q => (gk b (Nat.ne_of_lt (Nat.lt_of_lt_of_le (Heap.lt_size q) M.new))).trans (M.keep b o q)
  have ob : ObjOk X.prog X.w (upd H1 d (.xd l)) G' d (.xd l) := ⟨_, hns.at (fun o q => (gk d M.dne).trans q), rel⟩
  have J : Inv X pins σ (upd H1 d (.xd l)) ⟨G', g, dr, tk', os⟩ := I1.laid (t' := tk') old M.dbig ob
  refine ⟨e, oe, fv, ⟨G', g, dr, tk', os⟩, _, .ref C, some d, rfl, J, fun b o q => ?_, ge, hoe, ⟨hc, hd, fun vs e => by rw [hdat] at e; cases e; exact h2⟩, hdat, h1, ?_, rfl, I1.bare, raises_own exC tyC, q1 d (I1.hok.fresh M.dbig)⟩
  · by_cases hb : b = e
    · have q' : G'.get? b = some o := q
      rw [hb, ge] at q'; cases q'
    · exact (gk b hb).symm.trans q
  · rw [upd_ne (Ne.symm M.dne)]
    exact ne
theorem ps_raiseErr {a : Expr} {es : List Expr} {ta : TA} {W : WX} {x : Str} {C fI : Addr} {fl : List V → Option (List (Str × V))} {p pos pos2 : Pos} {k : Nat} (hc : X.calm = true) (T : PySem.ErV.ErrCls X.K C fI) (run : ErrRun X C fI fl) (exC : PySem.W.subIn X.K (.ref C) (.type "BaseException") = some true) (tyC : PySem.W.typeIn X.K (.ref C) = some (.type "type"))
    (hr : Room k X.A) (hk : 2 ≤ k) (tk : L2N.Takes X W) (ha : PA X (a :: es) ta) (hm : X.mg x = some (.ref C)) (hg : Gl X x := by rfl) (hdb : (x == ("__debug__" : Str)) = false := by decide)
    (he : starEach (a :: es) X.env = (false, eval a X.env) :: starEach es X.env := by rfl) (hpl : (backTo pos (starEach es X.env)).any (·.1) = false := by rfl) :
    PS X (.Raise (some (.Call (.Name x p) (a :: es) [] pos)) none pos2) (fun _ σ H => tMkRaise C fl ta σ H fun cls d H' => W cls d σ H') := L2N.ps_raise hc tk (pmk_err T run exC tyC hr hk ha hm hg hdb he hpl)
/-- e.f, e the error that the suite holds -/
def tHeldF (K : PySem.W.Frag) (f : Str) (a : Addr) (cls : Value) (d : Option Addr) (te : TE) : TE := fun σ H Q => te σ H fun x H1 => x = .ref a ∧ ∃ (C dd : Addr) (l : List (Str × V)) (v : V), cls = .ref C ∧ d = some dd ∧ H1 dd = some (.xd l) ∧ ErrGet K C f ∧ l.lookup f = some v ∧ Q v H1
theorem pe_heldF {f : Str} {a : Addr} {oe : Obj} {cls : Value} {d : Option Addr} {pn : List (Addr × Obj)} {e : Expr} {te : TE} {pos : Pos} (hz : Zc cls d oe) (hf : ∃ vs, oe.data = .fields vs) (he : PE (X.suite a ((a, oe) :: pn)) e te)
    (hb : attributeBase e f X.env (eval e X.env) = eval e X.env := by rfl) : PE (X.suite a ((a, oe) :: pn)) (.Attribute e f pos) (tHeldF X.K f a cls d te) := by
  refine ⟨fun pins s σ H Q I h => ?_⟩
  refine attr_of hb (thn (he.run pins s σ H _ I h) fun u s1 hh => ?_)
  obtain ⟨x, H1, I1, rx, ex, C, dd, l, v, ec, ed, ea, G, hl, q⟩ := hh
  subst ex
  obtain rfl : u = Value.ref a := rx
  subst ec ed
  obtain ⟨ha, _⟩ := I1.pin (a, oe) (List.mem_append_left _ List.mem_cons_self)
  obtain ⟨vs, hd⟩ := hf
  have hx : ObjOk X.prog X.w H1 s1.heap dd (.xd l) := I1.hok dd _ ea
  obtain ⟨mA, hns, hr⟩ := hx
  obtain ⟨od, ho, hlk⟩ := lookIn_ns hns
  obtain ⟨u, hu, ru⟩ := RelO.some_of (v := v) (o := mA f) (by rw [← hl]; exact hr f)
  have J : PySem.W.InstAt s1.heap a oe C (some od) := ⟨ha, hz.1, by unfold PySem.W.notCls; rw [hd] <;> rfl, by rw [hz.2]; exact ho⟩
  exact HandSPX.exc_get I1.kIn J G.ga G.gg G.ex (PySem.W.findObj_own G.hd G.no rfl (by rw [hlk, hu])) (handed_of ru) ⟨v, H1, I1.tok _, ru, q⟩
/-! what the four __init__ do -/
def fl1 (f : Str) : List V → Option (List (Str × V))
  | [v] => some [(f, v)]
  | _ => none
def fl2 (f g : Str) : List V → Option (List (Str × V))
  | [v, u] => some [(f, v), (g, u)]
  | _ => none
theorem rel_one {f : Str} {v : V} {u : Value} (r : RelV v u) (g : Str) : RelO (List.lookup g [(f, v)]) (if g = f then some u else none) := by
  by_cases h : g = f
  · subst h
    rw [if_pos rfl]
    have q : List.lookup g [(g, v)] = some v := by simp [List.lookup]
    rw [q]
    exact r
  · rw [if_neg h]
    have qw : (g == f) = false := by simpa using h
    have q2 : List.lookup g [(f, v)] = none := by simp [List.lookup, qw]
    rw [q2]
    trivial
theorem rel_two {v v2 : V} {u u2 : Value} (r : RelV v u) (r2 : RelV v2 u2) (g : Str) : RelO (List.lookup g [(("low" : Str), v), ("high", v2)]) (if g = "high" then some u2 else (if g = "low" then some u else none)) := by
  by_cases h : g = "high"
  · subst h
    rw [if_pos rfl]
    exact r2
  · rw [if_neg h]
    by_cases h1 : g = "low"
    · subst h1
      rw [if_pos rfl]
      exact r
    · rw [if_neg h1]
      have qw : (g == ("low" : Str)) = false := by simpa using h1
      have qw2 : (g == ("high" : Str)) = false := by simpa using h
      have q2 : List.lookup g [(("low" : Str), v), ("high", v2)] = none := by simp [List.lookup, qw, qw2]
      rw [q2]
      trivial
variable {C fI : Addr} {q : Str}
theorem errRun_1 {f : Str} (run : ∀ v : Value, PySem.ErV.InitRuns X.prog X.w X.K C fI [v] (fun y => if y = f then some v else none)) : ErrRun X C fI (fl1 f) := by
  intro vs us l e r
  unfold fl1 at e
  split at e
  · rename_i v
    cases e
    obtain ⟨u, rfl, ru⟩ := vals1 r
    exact ⟨_, run u, PySem.ErV.one_size u, rel_one ru⟩
  · cases e
theorem errRun_at (T : PySem.ErV.ErrCls X.K C fI) (fn : PySem.ErV.Fn_at X.K fI q) (no : PySem.W.findIn X.K (.ref C) "at" = some none) : ErrRun X C fI (fl1 "at") := errRun_1 fun v => PySem.ErV.runs_at T fn no v
theorem errRun_top (T : PySem.ErV.ErrCls X.K C fI) (fn : PySem.ErV.Fn_top X.K fI q) (no : PySem.W.findIn X.K (.ref C) "top" = some none) : ErrRun X C fI (fl1 "top") := errRun_1 fun v => PySem.ErV.runs_top T fn no v
theorem errRun_thing (T : PySem.ErV.ErrCls X.K C fI) (fn : PySem.ErV.Fn_thing X.K fI q) (no : PySem.W.findIn X.K (.ref C) "thing" = some none) : ErrRun X C fI (fl1 "thing") := errRun_1 fun v => PySem.ErV.runs_thing T fn no v
theorem errRun_lh (T : PySem.ErV.ErrCls X.K C fI) (fn : PySem.ErV.Fn_lh X.K fI q) (no : PySem.W.findIn X.K (.ref C) "low" = some none ∧ PySem.W.findIn X.K (.ref C) "high" = some none) : ErrRun X C fI (fl2 "low" "high") := by
  intro vs us l e r
  unfold fl2 at e
  split at e
  · rename_i v v2
    cases e
    obtain ⟨u1, u2, rfl, r1, r2⟩ := vals2 r
    exact ⟨_, PySem.ErV.runs_lh T fn no.1 no.2 u1 u2, PySem.ErV.two_size u1 u2, rel_two r1 r2⟩
  · cases e
/-- how the eleven classes answer -/
def Kinds (K : PySem.W.Frag) (C : Addr) (cs : List Value) (bs : List Bool) : Prop := Paired (fun c b => PySem.W.kitOne K (.ref C) c = some b) cs bs
end
end L2
namespace My
open PySem L2
theorem kit_same {K : PySem.W.Frag} {C : Addr} : PySem.W.kitOne K (.ref C) (.ref C) = some true := by
  unfold PySem.W.kitOne
  rw [if_pos (by simp)]
/-- asked of an own class -/
theorem kit_ref {K : PySem.W.Frag} {C D : Addr} {b : Bool} (self : PySem.W.subIn K (.ref C) (.ref C) = some true) (h : PySem.W.subIn K (.ref C) (.ref D) = some b) (i : PySem.W.isClsIn K D = true) (t : PySem.W.typeIn K (.ref D) = some (.type "type")) : PySem.W.kitOne K (.ref C) (.ref D) = some b := by
  by_cases cd : C = D
  · subst cd
    rw [self] at h
    cases h
    exact kit_same
  have ne : ((.ref C : Value) == .ref D) = false := by simp [cd]
  have i' : (PySem.W.clsIn K D).isSome = true := i
  have e2 : ((PySem.W.clsIn K D).isSome && PySem.W.typeIn K (.ref D) == some (.type "type")) = true := by rw [i', t] <;> rfl
  unfold PySem.W.kitOne
  rw [ne, if_neg Bool.false_ne_true]
  show (if ((PySem.W.clsIn K D).isSome && PySem.W.typeIn K (.ref D) == some (.type "type")) = true then _ else _) = _
  rw [if_pos e2]
  exact h
end My

namespace My
open PySem L2
theorem exm_self {K : PySem.W.Frag} {S : Addr} (h1 : PySem.W.subIn K (.ref S) (.type "BaseException") = some true) (h2 : PySem.W.isClsIn K S = true) (h3 : PySem.W.typeIn K (.ref S) = some (.type "type")) (h4 : PySem.W.subIn K (.ref S) (.ref S) = some true) :
    PySem.W.exmOne K (.ref S) (.ref S) = some true := by
  have e1 : (PySem.W.subIn K (.ref S) (.type "BaseException") == some true) = true := by rw [h1] <;> rfl
  have e2 : ((PySem.W.clsIn K S).isSome && PySem.W.typeIn K (.ref S) == some (.type "type")) = true := by
    have h2' : (PySem.W.clsIn K S).isSome = true := h2
    rw [h2', h3] <;> rfl
  show (if (PySem.W.subIn K (.ref S) (.type "BaseException") == some true) = true then (if ((PySem.W.clsIn K S).isSome && PySem.W.typeIn K (.ref S) == some (.type "type")) = true then PySem.W.subIn K (.ref S) (.ref S) else none) else none) = some true
  rw [if_pos e1, if_pos e2]
  exact h4
/-- isinstance of an error of the class C, asked of a builtin class -/
theorem kit_type {K : PySem.W.Frag} {C : Addr} {T : String} {b : Bool} (h : PySem.W.subIn K (.ref C) (.type T) = some b) (m : PySem.W.kitMeta T = true) : PySem.W.kitOne K (.ref C) (.type T) = some b := by
  have ne : ((.ref C : Value) == .type T) = false := by simp
  unfold PySem.W.kitOne
  rw [ne, if_neg Bool.false_ne_true]
  show (if PySem.W.kitMeta T = true then _ else _) = _
  rw [if_pos m]
  exact h
/-- asked of an own class that is not above it -/
theorem kit_other {K : PySem.W.Frag} {C D : Addr} (self : PySem.W.subIn K (.ref C) (.ref C) = some true) (h : PySem.W.subIn K (.ref C) (.ref D) = some false) (i : PySem.W.isClsIn K D = true) (t : PySem.W.typeIn K (.ref D) = some (.type "type")) : PySem.W.kitOne K (.ref C) (.ref D) = some false := by
  have cd : C ≠ D := fun z => by
    rw [z] at self h
    rw [self] at h
    cases h
  have ne : ((.ref C : Value) == .ref D) = false := by simp [cd]
  have i' : (PySem.W.clsIn K D).isSome = true := i
  have e2 : ((PySem.W.clsIn K D).isSome && PySem.W.typeIn K (.ref D) == some (.type "type")) = true := by rw [i', t] <;> rfl
  unfold PySem.W.kitOne
  rw [ne, if_neg Bool.false_ne_true]
  show (if ((PySem.W.clsIn K D).isSome && PySem.W.typeIn K (.ref D) == some (.type "type")) = true then _ else _) = _
  rw [if_pos e2]
  exact h
end My

namespace My
open PySem L2
/-- an error of the class S is caught by except D -/
theorem exm_sub {K : PySem.W.Frag} {S D : Addr} (h1 : PySem.W.subIn K (.ref D) (.type "BaseException") = some true) (h2 : PySem.W.isClsIn K D = true) (h3 : PySem.W.typeIn K (.ref D) = some (.type "type")) (h4 : PySem.W.subIn K (.ref S) (.ref D) = some true) :
    PySem.W.exmOne K (.ref S) (.ref D) = some true := by
  have e1 : (PySem.W.subIn K (.ref D) (.type "BaseException") == some true) = true := by rw [h1] <;> rfl
  have e2 : ((PySem.W.clsIn K D).isSome && PySem.W.typeIn K (.ref D) == some (.type "type")) = true := by
    have h2' : (PySem.W.clsIn K D).isSome = true := h2
    rw [h2', h3] <;> rfl
  show (if (PySem.W.subIn K (.ref D) (.type "BaseException") == some true) = true then (if ((PySem.W.clsIn K D).isSome && PySem.W.typeIn K (.ref D) == some (.type "type")) = true then PySem.W.subIn K (.ref S) (.ref D) else none) else none) = some true
  rw [if_pos e1, if_pos e2]
  exact h4
end My

namespace My
open PySem L2
/-- two numbers, shown -/
theorem short_two {a b : Int} (ha : a.natAbs < 2 ^ 1900) (hb : b.natAbs < 2 ^ 1900) : (PyData.shown (.tuple [.int a, .int b])).length ≤ sizeLine := by
  have l1 : a.natAbs.log2 < 1920 := Nat.lt_of_lt_of_le (PySem.Flt.log2_lt_of (by decide) ha) (by decide)
  have l2 : b.natAbs.log2 < 1920 := Nat.lt_of_lt_of_le (PySem.Flt.log2_lt_of (by decide) hb) (by decide)
  have s1 : (PyData.shown (.int a)).length ≤ 1921 := PyProof.Rows.int_text_len_1921 l1
  have s2 : (PyData.shown (.int b)).length ≤ 1921 := PyProof.Rows.int_text_len_1921 l2
  have short : (PyData.tuple [.int a, .int b]).leavesShort 1921 = true := by
    simp only [PyData.leavesShort, PyData.leavesShortAll, Bool.and_true, Bool.and_eq_true, decide_eq_true_eq]
    exact ⟨s1, s2⟩
  have le := PyData.shown_le 1921 (by decide) _ short
  have wt : (PyData.tuple [.int a, .int b]).weight ≤ 4000 := by
    simp only [PyData.weight, PyData.weightAll]
    have wt1 : ∀ i : Int, i.natAbs.log2 < 1920 → (if (i == 0) = true then 0 else i.natAbs.log2 + 1) ≤ 1920 := fun i h => by split <;> omega
    have wa := wt1 a l1
    have wb := wt1 b l2
    omega
  have e : sizeLine = 16777216 := rfl
  omega
theorem data_two {a b : Int} (ha : a.natAbs < 2 ^ 1900) (hb : b.natAbs < 2 ^ 1900) : (PyData.tuple [.int a, .int b]).showable = true ∧ (PyData.tuple [.int a, .int b]).hasDict = false ∧ (PyData.tuple [.int a, .int b]).depth ≤ 60 := by
  refine ⟨?_, ?_, ?_⟩
  · have l1 : a.natAbs.log2 < 1920 := Nat.lt_of_lt_of_le (PySem.Flt.log2_lt_of (by decide) ha) (by decide)
    have l2 : b.natAbs.log2 < 1920 := Nat.lt_of_lt_of_le (PySem.Flt.log2_lt_of (by decide) hb) (by decide)
    simp only [PyData.showable, PyData.showableAll, Bool.and_true, Bool.and_eq_true, decide_eq_true_eq]
    exact ⟨l1, l2⟩
  · simp [PyData.hasDict, PyData.hasDictAll]
  · simp [PyData.depth, PyData.depthAll]
end My

namespace My
open PySem PySem.Spec PyProof.Rows L2 TL
section
variable {X : Cx}
/-! ### text * k -/
def repT (z : Str) (k : Nat) : Str := ⟨((List.replicate k (tl z)).flatten).toArray⟩
def rRepS : R2 := fun x y H Q => ∃ (z : Str) (k : Int), x = .str z ∧ y = .int k ∧ 0 ≤ k ∧ k ≤ 1000 ∧ z.length ≤ 1000 ∧ Q (.str (repT z k.toNat)) H
theorem fold_app (z : Array Nat) : ∀ (k : Nat) (acc : Array Nat), ((List.replicate k z).foldl (· ++ ·) acc).toList = acc.toList ++ (List.replicate k z.toList).flatten
  | 0, acc => by simp
  | k + 1, acc => by
    rw [List.replicate_succ, List.foldl_cons, fold_app z k, List.replicate_succ]
    simp
theorem op_repS : OpR X (binaryOp .Mult) rRepS := by
  intro pins s σ H x y v u Q I rx ry h
  obtain ⟨z, k, rfl, rfl, h0, h1, hz, q⟩ := h
  obtain ⟨t, rfl⟩ := rx
  obtain ⟨t', rfl⟩ := ry
  have len : (repT z k.toNat).length ≤ sizeLine := by
    have e : (repT z k.toNat).length = k.toNat * z.length := by
      show ((List.replicate k.toNat (tl z)).flatten).toArray.size = _
      rw [List.size_toArray, List.length_flatten, List.map_replicate, List.sum_replicate_nat, len_tl]
    rw [e]
    have : k.toNat * z.length ≤ 1000 * 1000 := Nat.mul_le_mul (by omega) hz
    have : sizeLine = 16777216 := rfl
    omega
  have sl : sizeLine = 16777216 := rfl
  refine PySem.P.mul_str ?_ (fun h2 _ => ?_) (fun h2 _ => ?_) ?_
  · rw [decide_eq_false (by omega), decide_eq_false (by omega)]
    rfl
  · have e : (1000 : Int) ≤ (2 ^ 63 - 1) / k := by
      refine Int.le_ediv_of_mul_le (by omega) ?_
      omega
    omega
  · have : z.length * k.toNat ≤ 1000 * 1000 := Nat.mul_le_mul hz (by omega)
    unfold Builtin.Str.tooLong
    apply decide_eq_false
    omega
  · have ex : repT z k.toNat = ⟨(List.replicate k.toNat z.cps).foldl (· ++ ·) #[]⟩ := Str.ext' (Array.toList_inj.mp (by rw [fold_app]; simp [repT, tl]))
    by_cases a : k < 1
    · rw [if_pos a]
      have e : repT z k.toNat = Str.empty := by
        have : k.toNat = 0 := by omega
        rw [this]; rfl
      rw [e] at q
      exact ⟨by decide, .str _, H, I.tok _, ⟨_, rfl⟩, q⟩
    · rw [if_neg a]
      by_cases b : (k == 1 || z.length == 0) = true
      · rw [if_pos b]
        have e : repT z k.toNat = z := by
          apply ext_tl
          rcases Bool.or_eq_true_iff.mp b with b | b
          · have : k = 1 := by simpa using b
            subst this
            simp [repT, tl]
          · have : z.length = 0 := by simpa using b
            rw [len_tl] at this
            have : tl z = [] := List.eq_nil_of_length_eq_zero this
            rw [this]
            show (List.replicate k.toNat (tl z)).flatten = []
            rw [this]
            simp
        rw [e] at q
        exact ⟨.str z, H, I, ⟨t, rfl⟩, q⟩
      · rw [if_neg b]
        rw [ex] at q len
        exact ⟨len, .str _, H, I.tok _, ⟨_, rfl⟩, q⟩
/-! ### text[::-1] -/
def revS (z : Str) : Str := Txt.sliceBy z none none (-1, 0)
theorem revS_len (z : Str) : (revS z).length = z.length := step_rev_len z 0
theorem revS_mem {z : Str} {c : Nat} (h : c ∈ tl (revS z)) : c ∈ tl z := by
  have e : tl (revS z) = (List.range z.length).map fun k => z.cps.getD (z.length - 1 - k) 0 := step_rev_list z 0
  rw [e] at h
  obtain ⟨k, hk, rfl⟩ := List.mem_map.mp h
  have hk' := List.mem_range.mp hk
  have hl : z.length - 1 - k < z.cps.size := by
    have : z.length = z.cps.size := rfl
    omega
  have : z.cps.getD (z.length - 1 - k) 0 = z.cps[z.length - 1 - k] := by simp [Array.getD, hl]
  rw [this]
  show _ ∈ z.cps.toList
  simp
theorem revS_pick {z : Str} {u : Tok} : (⟨((slicePicked z none none (some (-1, u))).filterMap (z.cps[·]?)).toArray⟩ : Str) = revS z := by
  unfold revS Txt.sliceBy
  have h1 : ¬ (((((some ((-1 : Int), (0 : Tok))).map (·.1)).getD 1 == 1) && ((slicePicked z none none (some ((-1 : Int), (0 : Tok)))).length == z.length)) = true) := by
    have : ((((some ((-1 : Int), (0 : Tok))).map (·.1)).getD 1 == 1)) = false := rfl
    rw [this]; simp
  first
    | rw [if_neg h1]; rfl
    | rfl
def tRevS (te : TE) : TE := fun σ H Q => te σ H fun x H1 => ∃ z, x = .str z ∧ z.length ≤ sizeLine ∧ Q (.str (revS z)) H1
theorem pe_revS {e : Expr} {te : TE} {k : Nat} {p1 p2 p3 pos : Pos} (he : PE X e te) : PE X (.Subscript e (.Slice none none (some (.UnaryOp .USub (.Constant (.int 1) k p1) p2)) p3) pos) (tRevS te) := by
  refine ⟨fun pins s σ H Q I h => ?_⟩
  refine Subscript_ (thn (he.run pins s σ H _ I h) fun v s1 ⟨x, H1, I1, r1, q1⟩ => ?_)
  obtain ⟨z, ex, hz, q⟩ := q1
  subst ex
  obtain ⟨t, rfl⟩ := r1
  have hst : PO X (some (.UnaryOp .USub (.Constant (.int 1) k p1) p2)) (tPart (tUn (rU fun i => .int (-i)) (tC (.int 1)))) := po_some (pe_un un_neg pe_int)
  refine wpAny_Slice (thn (po_none.run pins s1 σ H1 (fun o H2 => o = none ∧ H2 = H1) I1 ⟨rfl, rfl⟩) fun vl s2 ⟨l, H2, I2, pl, el, e2⟩ => ?_)
  subst el e2
  refine thn (po_none.run pins s2 σ H2 (fun o H3 => o = none ∧ H3 = H2) I2 ⟨rfl, rfl⟩) fun vu s3 ⟨u, H3, I3, pu, eu, e3⟩ => ?_
  subst eu e3
  refine thn (hst.run pins s3 σ H3 (fun o H4 => o = some (-1) ∧ H4 = H3) I3 ⟨1, rfl, -1, rfl, rfl, rfl⟩) fun vs s4 ⟨o, H4, I4, ps, eo, e4⟩ => ?_
  subst eo e4
  have I5 : Inv X pins σ H4 { s4 with heap := s4.heap.push { cls := .type "slice", data := .fields #[vl, vu, vs] } } := I4.kept (t' := s4.toks) fun b ob q => Heap.get?_push_of_some _ q
  obtain ⟨l, rfl, el⟩ := IsPart.raw pl
  obtain ⟨u, rfl, eu⟩ := IsPart.raw pu
  obtain ⟨st, rfl, es⟩ := IsPart.raw ps
  obtain rfl : l = none := by simpa using el
  obtain rfl : u = none := by simpa using eu
  obtain ⟨⟨j, tk⟩, rfl, ej⟩ := Option.map_eq_some_iff.mp es
  obtain rfl : j = -1 := ej
  have hs : (s4.heap.push { cls := .type "slice", data := .fields #[partValue none, partValue none, partValue (some (-1, tk))] }).IsSlice s4.heap.objs.size none none (some (-1, tk)) := ⟨_, Heap.get?_push_size _ rfl, rfl, rfl⟩
  refine tail_any (ops := [.str z t, .ref s4.heap.objs.size]) (typeIs_str _ z t) (F.slot_str_getitem.lookup) ?_ (by with_unfolding_all rfl)
  refine wpAny_getItem_str_slice hs rfl ?_
  have le : (revS z).length ≤ sizeLine := by
    rw [revS_len]; exact hz
  show Made.post (if ((-1 : Int) == 1 && _) = true then _ else Made.str ⟨((slicePicked z none none (some (-1, tk))).filterMap (z.cps[·]?)).toArray⟩) _ _
  rw [if_neg (by simp), revS_pick]
  exact ⟨le, .str _, H4, I5.tok _, ⟨_, rfl⟩, q⟩
end
/-! ### enumerate(text) -/
def IteS (x : Str) : It := ⟨fun i _ => i < x.cps.size, fun i H v H' => ∃ T c, v = .ref T ∧ H T = none ∧ x.cps[i]? = some c ∧ H' = upd H T (.tup [.int (i : Nat), .str ⟨#[c]⟩]), fun i _ => x.cps.size ≤ i⟩
theorem draws_str {P : Program} {w : World} {A : Around} (hh : A.handled = none) (it : Addr) (x : Str) (t : Tok) :
    Draws P w A it [it] x.cps.size (fun i v => ∃ c u, x.cps[i]? = some c ∧ v = .str ⟨#[c]⟩ u) (fun i h => h.IsStrIter it (strIterType x) x t i) := by
  unfold strIterType
  cases x.cps.all (· < 128)
  · exact Draws.strWide hh it x t
  · exact Draws.strAscii hh it x t
theorem turn_enumS {P : Program} {w : World} {K : PySem.W.Frag} {elts : List Expr} {kk : Nat} {tpos : Pos} (x : Str) (t : Tok) (e it : Addr) :
    Turn P w K (.Tuple elts kk tpos) (IteS x) [e, it] e (fun i h => (∃ old, IsEnum h e it ((i : Nat) : Int) old) ∧ h.IsStrIter it (strIterType x) x t i ∧ e ≠ it ∧ i ≤ x.cps.size) where
  mem := by simp
  obj := fun i h st b hb => by
    obtain ⟨⟨old, he⟩, ⟨o, ho, hc, hd⟩, _⟩ := st
    have e' : b = e ∨ b = it := by simpa using hb
    rcases e' with z | z
    · rw [z]; exact ⟨_, he, fun v q => nomatch q⟩
    · rw [z]; exact ⟨o, ho, fun v q => by rw [hd] at q; cases q⟩
  keep := fun i h h' st k => let ⟨⟨old, he⟩, ⟨o, ho, r⟩, hne⟩ := st; ⟨⟨old, k e (by simp) _ he⟩, ⟨o, k it (by simp) o ho, r⟩, hne⟩
  item := by
    intro X hP hw hK hc i pins s σ H E I hf st hg
    subst hP hw hK
    obtain ⟨⟨old, he⟩, hit, hne, _⟩ := st
    have hel : e < s.heap.objs.size := Heap.lt_size he
    have hil : it < s.heap.objs.size := by obtain ⟨_, q, _⟩ := hit; exact Heap.lt_size q
    have D := draws_str (P := X.prog) (w := X.w) (A := X.A.in1) (I.ok.hd hc) it x t
    refine wpAny_pyNext_enum_itemD D he hit hg hne (by simpa using hne) fun v h' tk hv ho hit' hT hsz hk => ?_
    obtain ⟨c, u, hcx, rfl⟩ := hv
    refine ⟨_, rfl, wpAny_letOwnedTupleGo_enum (s := { s with heap := h', toks := tk + 1 }) ho fun h'' he' sb => ?_⟩
    have hT2 : h''.get? s.heap.objs.size = some { cls := .type "tuple", data := .seq #[.int i tk, .str ⟨#[c]⟩ u] } := (sb.2 _ (Nat.ne_of_gt hel)).trans hT
    have new : ObjOk X.prog X.w (upd H s.heap.objs.size (.tup [.int (i : Nat), .str ⟨#[c]⟩])) h'' s.heap.objs.size (.tup [.int (i : Nat), .str ⟨#[c]⟩]) :=
      ⟨by show 2 ≤ sizeLine; decide, [.int i tk, .str ⟨#[c]⟩ u], .cons ⟨_, rfl⟩ (.cons ⟨_, rfl⟩ .nil), ⟨_, hT2, rfl, _, rfl⟩⟩
    have I1 : Inv X pins σ (upd H s.heap.objs.size (.tup [.int (i : Nat), .str ⟨#[c]⟩])) { s with heap := h'', toks := tk + 1 } :=
      I.turnedNew (ch := [e, it]) (fun b ob hb q => (sb.2 b (fun z => hb (by simp [z]))).trans (hk b ob (fun z => hb (by simp [z])) (fun z => hb (by simp [z])) q)) hf (Nat.le_refl _) new
    refine ⟨.ref s.heap.objs.size, _, I1, rfl, ⟨_, c, rfl, I.hok.fresh (Nat.le_refl _), hcx, rfl⟩, ⟨⟨.str ⟨#[c]⟩ u, ?_⟩, ?_, hne, hg⟩, fun b hb => ?_⟩
    · have e1 : ((i + 1 : Nat) : Int) = (i : Int) + 1 := by omega
      rw [e1]; exact he'
    · obtain ⟨o, ho', r⟩ := hit'
      exact ⟨o, (sb.2 it (Ne.symm hne)).trans ho', r⟩
    · have hb' : b < s.heap.objs.size := by
        have e' : b = e ∨ b = it := by simpa using hb
        rcases e' with z | z
        · rw [z]; exact hel
        · rw [z]; exact hil
      rw [upd_ne (Nat.ne_of_lt hb')]
      exact (hf b hb).1
  done := by
    intro X hP hw hK hc i pins s σ H E I hf st hg
    subst hP hw hK
    obtain ⟨⟨old, he⟩, hit, hne, hle⟩ := st
    obtain ⟨f0, f1, f2, f3, f4, f5⟩ := hf it (by simp)
    have D := draws_str (P := X.prog) (w := X.w) (A := X.A.in1) (I.ok.hd hc) it x t
    have hi : i = x.cps.size := Nat.le_antisymm hle hg
    rw [hi] at hit
    exact wpAny_pyNext_enum_endD D he hit fun h' eb => ⟨rfl, I.turned (t' := s.toks) (fun b o hb q => eb b o hb q) f0 f1 f3 f4 f5⟩
  self := fun A i s Q E st h => let ⟨⟨_, he⟩, _⟩ := st; wpAny_pyIter_enum he h
def iEnumS (ta : TA) : L2.TI := fun σ H R => ta σ H fun vs H1 => ∃ x, vs = [.str x] ∧ R (IteS x) H1
theorem pi_enumS {X : Cx} {e : Expr} {ta : TA} {p pos tpos : Pos} {elts : List Expr} {kk : Nat} (hg : Gl X "enumerate") (hm : X.mg "enumerate" = none) (ha : PA X [e] ta) (hs : starEach [e] X.env = [(false, eval e X.env)] := by rfl) :
    PI X (.Tuple elts kk tpos) (.Call (.Name "enumerate" p) [e] [] pos) (iEnumS ta) := by
  refine ⟨fun pins s σ H R I h => ?_⟩
  refine Call_ (ld_blt I hg hm boot_enumerate (PyProof.Rows.callWith_type1 (thn (ha.run pos pins s σ H _ I h) fun us s1 ⟨vs, H1, I1, r1, q1⟩ => ?_) hs rfl))
  obtain ⟨x, ex, q⟩ := q1
  subst ex
  obtain ⟨u, rfl, t, rfl⟩ := vals1 r1
  refine call_enumerate_str fun h' he hit hsz hk => wpAny_pyIter_enum he ?_
  have I2 : Inv X pins σ H1 { s1 with heap := h' } := I1.kept (t' := s1.toks) hk
  refine ⟨s1.heap.objs.size + 1, [s1.heap.objs.size + 1, s1.heap.objs.size], _, _, H1, rfl, I2, turn_enumS x t (s1.heap.objs.size + 1) s1.heap.objs.size, ⟨⟨.none, he⟩, hit, Nat.succ_ne_self _, Nat.zero_le _⟩, fun b hb => ?_, q⟩
  have e' : b = s1.heap.objs.size + 1 ∨ b = s1.heap.objs.size := by simpa using hb
  have hle : s1.heap.objs.size ≤ b := by
    rcases e' with z | z
    · rw [z]; exact Nat.le_add_right _ _
    · rw [z]; exact Nat.le_refl _
  exact I1.fpOk hle (I1.hok.fresh hle)
end My

namespace My
open PySem L2
section
variable {σ : L2.St} {H : Hp} {Q : VK} {v x y : V} {te ta to ti : TE} {tr : TA} {K : PySem.W.Frag} {nx : L2.St → Hp → Prop} {rt : VK} {bk ct : L2.St → Hp → Prop}
theorem r_par {i j : Nat} (q : tr σ H fun vs H1 => ∃ v w, vs = [v, w] ∧ nx ((σ.set i (some v)).set j (some w)) H1) : tPar i j tr ⟨nx, rt, bk, ct⟩ σ H := q
theorem r_two {P : V → V → Prop} (q : P x y) : ∃ v w, [x, y] = [v, w] ∧ P v w := ⟨x, y, rfl, q⟩
theorem r_m1 {r : V → List V → Hp → VK → Prop} (q : to σ H fun x H1 => (∃ a, x = .str a) ∧ te σ H1 fun y H2 => r x [y] H2 Q) : tM1 r to te σ H Q := q
theorem r_isStr {a : Str} {P : Prop} (q : P) : (∃ b, V.str a = .str b) ∧ P := ⟨⟨a, rfl⟩, q⟩
theorem r_inT {t : Addr} {xs : List V} {b : Bool} (h : H t = some (.tup xs)) (f : flatV x = true) (fs : xs.all flatV = true) (e : inV x xs = b) (q : Q (.bl b) H) : rIn K false x (.ref t) H Q := ⟨t, xs, rfl, .inr (SqT.of h), f, fs, by
  subst e
  exact q⟩
theorem r_notInT {t : Addr} {xs : List V} {b : Bool} (h : H t = some (.tup xs)) (f : flatV x = true) (fs : xs.all flatV = true) (e : inV x xs = b) (q : Q (.bl (!b)) H) : rIn K true x (.ref t) H Q := ⟨t, xs, rfl, .inr (SqT.of h), f, fs, by
  subst e
  exact q⟩
theorem r_isN {P : V → Hp → Prop} {b : Bool} (e : decide (x = V.non) = b) (q : P (.bl b) H) : V.non = V.non ∧ P (.bl (decide (x = V.non))) H := ⟨rfl, by rw [e]; exact q⟩
theorem r_lcT {tl : TE} {g : TG} {tt : TT} {vs : List Nat} (q : tl σ H fun x H1 => ∃ a, x = .ref a ∧ (∃ xs, SqT K H1 a xs) ∧ ∀ D, H1 D = none → ∃ W : Nat → Nat → Hp → Prop, (∃ m, W 0 m (upd H1 D (.lst []))) ∧ ∀ i m H, W i m H →
    ((Itt K a).stop i H ∧ Q (.ref D) H) ∨ ((Itt K a).go i H ∧ ∃ Nx : Hp → Prop, (∀ H', Nx H' → ∃ m', m' < m ∧ W (i + 1) m' H') ∧ ∀ x H', (Itt K a).yld i H x H' → g x (wipe σ vs) H' fun σ2 H2 => wipe σ2 vs = wipe σ vs ∧ tt σ2 H2 fun b H3 =>
      if b = true then te σ2 H3 fun y H4 => ∃ acc, H4 D = some (.lst acc) ∧ acc.length < sizeLine ∧ Nx (upd H4 D (.lst (acc ++ [y]))) else Nx H3)) : tLc (iTup K tl) g tt te vs σ H Q := q
theorem r_rng2 {g : TG} {tb : TS} {D : Ends} (q : tr σ H fun vs H1 => ∃ i j : Int, vs = [.int i, .int j] ∧ (-(2 ^ 62) ≤ i ∧ i < 2 ^ 62 ∧ -(2 ^ 62) ≤ j ∧ j < 2 ^ 62) ∧ ∃ W : Nat → Nat → L2.St → Hp → Prop, (∃ m, W 0 m σ H1) ∧ ∀ k m σ H, W k m σ H →
    ((Itr i (j - i).toNat).stop k H ∧ D.nx σ H) ∨ ((Itr i (j - i).toNat).go k H ∧ ∃ N : L2.St → Hp → Prop, (∀ σ' H', N σ' H' → ∃ m', m' < m ∧ W (k + 1) m' σ' H') ∧ ∀ x H', (Itr i (j - i).toNat).yld k H x H' → g x σ H' fun σ2 H2 => tb { D with nx := N, ct := N, bk := D.nx } σ2 H2)) : tFor (iRng2 tr) g tb D σ H := q
theorem r_gTup {a : Addr} {xs : List V} {n : Nat} {t : TGs} {QS : L2.St → Hp → Prop} (h : H a = some (.tup xs)) (l : xs.length = n) (q : t xs σ H QS) : gTup K n t (.ref a) σ H QS := ⟨a, xs, rfl, SqT.of h, l, q⟩
theorem r_gCons {t : TG} {u : TGs} {xs : List V} {QS : L2.St → Hp → Prop} (q : t x σ H fun σ' H' => u xs σ' H' QS) : gCons t u (x :: xs) σ H QS := ⟨x, xs, rfl, q⟩
theorem r_gNil {QS : L2.St → Hp → Prop} (q : QS σ H) : gNil [] σ H QS := ⟨rfl, q⟩
theorem r_aug {i : Nat} {ti : TIp} (q : ∃ x, σ[i]? = some (some x) ∧ te σ H fun y H1 => ti x y H1 fun z H2 => nx (σ.set i (some z)) H2) : tAug i te ti ⟨nx, rt, bk, ct⟩ σ H := q
theorem r_ip {f : Int → Int → Int} {i j : Int} (q : Q (.int (f i j)) H) : ipI f (.int i) (.int j) H Q := ⟨i, j, rfl, rfl, q⟩
theorem r_bits (q : to σ H fun x H1 => ∃ i, x = .int i ∧ Q (.int (Builtin.Int.intBits i : Nat)) H1) : tBits to σ H Q := q
theorem r_dget2 {td ty tx : TE} (q : td σ H fun x H1 => ∃ a, x = .ref a ∧ IsD H1 a ∧ ty σ H1 fun y H2 => tx σ H2 fun z H3 => ∃ o, DGet H3 a y o ∧ Q (o.getD z) H3) : tDGet2 td ty tx σ H Q := q
theorem r_rng1 {g : TG} {tb : TS} {D : Ends} (q : tr σ H fun vs H1 => ∃ j : Int, vs = [.int j] ∧ -(2 ^ 62) ≤ j ∧ j < 2 ^ 62 ∧ ∃ W : Nat → Nat → L2.St → Hp → Prop, (∃ m, W 0 m σ H1) ∧ ∀ k m σ H, W k m σ H →
    ((Itr 0 j.toNat).stop k H ∧ D.nx σ H) ∨ ((Itr 0 j.toNat).go k H ∧ ∃ N : L2.St → Hp → Prop, (∀ σ' H', N σ' H' → ∃ m', m' < m ∧ W (k + 1) m' σ' H') ∧ ∀ x H', (Itr 0 j.toNat).yld k H x H' → g x σ H' fun σ2 H2 => tb { D with nx := N, ct := N, bk := D.nx } σ2 H2)) : tFor (iRng1 tr) g tb D σ H := q
end
end My

local macro_rules | `(tactic| walk_at "rd2") => `(tactic| first
  | with_reducible refine My.r_par ?_
  | with_reducible refine My.r_two ?_
  | with_reducible refine My.r_m1 ?_
  | with_reducible refine My.r_isStr ?_
  | with_reducible refine My.r_gCons ?_
  | with_reducible refine My.r_gNil ?_
  | ((with_reducible refine My.r_aug ?_); refine ⟨_, rfl, ?_⟩)
  | with_reducible refine My.r_ip ?_
  | with_reducible refine My.r_bits ?_)
local macro_rules | `(tactic| walk_at "rdg") => `(tactic| (repeat (first | walk_at "rd1" | walk_at "rd2")))

namespace My
open PySem L2
section
variable {σ : L2.St} {H : Hp} {Q : VK} {v x y : V} {te ta to ti td ty tk tv : TE} {K : PySem.W.Frag}
theorem r_disp {trs : List (TE × TE)} (q : ∀ p, H p = none → tPairs trs σ (upd H p (.dK [])) fun ps H2 => H2 p = some (.dK []) ∧ ∃ kvs : List (Key × V), ps = kvs.map (fun kv => (kV kv.1, kv.2)) ∧ kvs.length ≤ 15 ∧ Q (.ref p) (upd H2 p (.dK (mergeK [] kvs)))) : tDisp trs σ H Q := q
theorem r_pair {r : List (TE × TE)} {QP : List (V × V) → Hp → Prop} (q : tk σ H fun x H1 => tv σ H1 fun y H2 => tPairs r σ H2 fun ps H3 => QP ((x, y) :: ps) H3) : tPairs ((tk, tv) :: r) σ H QP := q
theorem r_pair0 {QP : List (V × V) → Hp → Prop} (q : QP [] H) : tPairs [] σ H QP := q
theorem r_dget (q : td σ H fun x H1 => ty σ H1 fun y H2 => ∃ a v, x = .ref a ∧ DGet H2 a y (some v) ∧ Q v H2) : tDGet td ty σ H Q := q
theorem r_din (q : ty σ H fun y H1 => td σ H1 fun x H2 => ∃ a o, x = .ref a ∧ DGet H2 a y o ∧ Q (.bl o.isSome) H2) : tDIn ty td σ H Q := q
theorem Same.dict {H : Hp} {p : Addr} {o1 o2 : HO} (h : H p = none) : Same H (upd (upd H p o1) p o2) := fun b o e => by
  rw [upd_ne (ne_of_none e h), upd_ne (ne_of_none e h)]
  exact e
end
end My

local macro_rules | `(tactic| walk_at "rd3") => `(tactic| first
  | with_reducible refine My.r_pair ?_
  | with_reducible refine My.r_pair0 ?_
  | with_reducible refine My.r_dget ?_
  | with_reducible refine My.r_din ?_)
local macro_rules | `(tactic| walk_at "rdh") => `(tactic| (repeat (first | walk_at "rd1" | walk_at "rd2" | walk_at "rd3")))

namespace My
open PySem L2
section
variable {σ : L2.St} {H : Hp} {Q : VK} {v x y : V} {te ta to ti : TE} {tr : TA} {K : PySem.W.Frag} {nx : L2.St → Hp → Prop} {rt : VK} {bk ct : L2.St → Hp → Prop}
theorem r_lcL {tl : TE} {g : TG} {tt : TT} {vs : List Nat} (q : tl σ H fun x H1 => ∃ a, x = .ref a ∧ (∃ xs, SqL K H1 a xs) ∧ ∀ D, H1 D = none → ∃ W : Nat → Nat → Hp → Prop, (∃ m, W 0 m (upd H1 D (.lst []))) ∧ ∀ i m H, W i m H →
    ((Itl K a).stop i H ∧ Q (.ref D) H) ∨ ((Itl K a).go i H ∧ ∃ Nx : Hp → Prop, (∀ H', Nx H' → ∃ m', m' < m ∧ W (i + 1) m' H') ∧ ∀ x H', (Itl K a).yld i H x H' → g x (wipe σ vs) H' fun σ2 H2 => wipe σ2 vs = wipe σ vs ∧ tt σ2 H2 fun b H3 =>
      if b = true then te σ2 H3 fun y H4 => ∃ acc, H4 D = some (.lst acc) ∧ acc.length < sizeLine ∧ Nx (upd H4 D (.lst (acc ++ [y]))) else Nx H3)) : tLc (iList K tl) g tt te vs σ H Q := q
theorem r_forL {tl : TE} {g : TG} {tb : TS} {D : Ends} (q : tl σ H fun x H1 => ∃ a, x = .ref a ∧ (∃ xs, SqL K H1 a xs) ∧ ∃ W : Nat → Nat → L2.St → Hp → Prop, (∃ m, W 0 m σ H1) ∧ ∀ i m σ H, W i m σ H →
    ((Itl K a).stop i H ∧ D.nx σ H) ∨ ((Itl K a).go i H ∧ ∃ N : L2.St → Hp → Prop, (∀ σ' H', N σ' H' → ∃ m', m' < m ∧ W (i + 1) m' σ' H') ∧ ∀ x H', (Itl K a).yld i H x H' → g x σ H' fun σ2 H2 => tb { D with nx := N, ct := N, bk := D.nx } σ2 H2)) : tFor (iList K tl) g tb D σ H := q
theorem r_cat {l b : Addr} {xs zs : List V} (h1 : H l = some (.lst xs)) (h2 : H b = some (.lst zs)) (n : xs.length + zs.length ≤ 100000) (q : ∀ p, H p = none → Q (.ref p) (upd H p (.lst (xs ++ zs)))) : rCat (.ref l) (.ref b) H Q := ⟨l, b, xs, zs, rfl, rfl, h1, h2, Nat.le_trans n (by decide), q⟩
theorem r_iteR {A B : Prop} {k : Bool} (b : B) (h : k = true → B → A) : if k = true then A else B := by
  cases k with
  | true => exact h rfl b
  | false => exact b
theorem r_inAny {t : Addr} {xs : List V} {b : Bool} {n : Bool} (h : H t = some (.tup xs)) (f : flatV x = true) (fs : xs.all flatV = true) (e : inV x xs = b) (q : Q (.bl (if n then !b else b)) H) : rIn K n x (.ref t) H Q := ⟨t, xs, rfl, .inr (SqT.of h), f, fs, by
  subst e
  cases n <;> exact q⟩
end
end My
namespace My
open PySem L2
theorem r_cut {t u : TS} {σ : L2.St} {H : Hp} {nx : L2.St → Hp → Prop} {rt : VK} {bk ct : L2.St → Hp → Prop} (Mid : L2.St → Hp → Prop) (h1 : t ⟨Mid, rt, bk, ct⟩ σ H) (h2 : ∀ σ' H', Mid σ' H' → u ⟨nx, rt, bk, ct⟩ σ' H') : C8.tCut t u ⟨nx, rt, bk, ct⟩ σ H := ⟨Mid, h1, h2⟩
end My

namespace My
open PySem L2
section
variable {K : PySem.W.Frag}
/-- a comprehension over a list: what is kept, and what is put for it -/
theorem lcL_of {α : Type} {H : Hp} {a D : Addr} {zs : List α} {el e : α → V} {f : α → Bool} (hl : SqL K H a (zs.map el)) (hn : zs.length ≤ 1000) (hD : H D = none) {g : TG} {tt : TT} {te : TE} {i : Nat} {σ : L2.St} {Q : Hp → Prop} {vz : List Nat}
    (hg : ∀ (z : α) (H1 : Hp) (R : L2.St → Hp → Prop), z ∈ zs → R ((wipe σ vz).set i (some (el z))) H1 → g (el z) (wipe σ vz) H1 R)
    (hw : ∀ v : V, wipe ((wipe σ vz).set i (some v)) vz = wipe σ vz)
    (ht : ∀ (z : α) (H1 : Hp) (R : Bool → Hp → Prop), z ∈ zs → Same H H1 → (∀ H2, Same H1 H2 → R (f z) H2) → tt ((wipe σ vz).set i (some (el z))) H1 R)
    (he : ∀ (z : α) (H1 : Hp) (R : VK), z ∈ zs → f z = true → Same H H1 → (∀ H2, Same H1 H2 → R (e z) H2) → te ((wipe σ vz).set i (some (el z))) H1 R)
    (q : ∀ H' : Hp, Same H H' → H' D = some (.lst ((zs.filter f).map e)) → Q H') :
    ∃ W : Nat → Nat → Hp → Prop, (∃ m, W 0 m (upd H D (.lst []))) ∧ ∀ i m H, W i m H →
      ((Itl K a).stop i H ∧ Q H) ∨ ((Itl K a).go i H ∧ ∃ Nx : Hp → Prop, (∀ H', Nx H' → ∃ m', m' < m ∧ W (i + 1) m' H') ∧ ∀ x H', (Itl K a).yld i H x H' → g x (wipe σ vz) H' fun σ2 H2 => wipe σ2 vz = wipe σ vz ∧ tt σ2 H2 fun b H3 =>
        if b = true then te σ2 H3 fun y H4 => ∃ acc, H4 D = some (.lst acc) ∧ acc.length < sizeLine ∧ Nx (upd H4 D (.lst (acc ++ [y]))) else Nx H3) := by
  refine lc_list (K := K) (a := a) (xs := zs.map el) (fun j H' => Same H H' ∧ H' D = some (.lst (((zs.take j).filter f).map e)) ∧ j ≤ zs.length) ⟨Same.new hD, upd_same, Nat.zero_le _⟩ (fun j H' _ ⟨s, _⟩ => SqL.ext hl s) ?_ ?_
  · rintro j x H1 hx ⟨s1, hD1, hj⟩
    rw [List.getElem?_map] at hx
    obtain ⟨z, hz, rfl⟩ : ∃ z, zs[j]? = some z ∧ el z = x := by
      cases e : zs[j]? with
      | none => rw [e] at hx; cases hx
      | some z => rw [e] at hx; exact ⟨z, rfl, Option.some.inj hx⟩
    have hm : z ∈ zs := List.mem_of_getElem? hz
    have jl : j < zs.length := by
      rcases Nat.lt_or_ge j zs.length with h | h
      · exact h
      · rw [List.getElem?_eq_none h] at hz; cases hz
    have tk : zs.take (j + 1) = zs.take j ++ [z] := by rw [List.take_add_one, hz]; rfl
    refine hg z H1 _ hm ⟨hw _, ?_⟩
    refine ht z H1 _ hm s1 fun H2 s2 => ?_
    cases fz : f z with
    | false =>
      refine (iteF ?_ : if false = true then _ else _)
      refine ⟨s1.trans s2, ?_, by omega⟩
      rw [s2 _ _ hD1, tk, List.filter_append, List.filter_cons, fz]
      simp
    | true =>
      refine (iteT ?_ : if true = true then _ else _)
      refine he z H2 _ hm fz (s1.trans s2) fun H3 s3 => ?_
      have hD3 := s3 _ _ (s2 _ _ hD1)
      refine ⟨_, hD3, ?_, ?_, ?_, by omega⟩
      · rw [List.length_map]
        refine Nat.lt_of_le_of_lt (Nat.le_trans (List.length_filter_le _ _) ?_) (show 1000 < sizeLine by decide)
        rw [List.length_take]
        omega
      · intro b o hb
        rw [upd_ne (ne_of_none hb hD)]
        exact s3 _ _ (s2 _ _ (s1 _ _ hb))
      · rw [upd_same, tk, List.filter_append, List.filter_cons, fz]
        simp
  · rintro H1 ⟨s1, hD1, _⟩
    refine q H1 s1 ?_
    rw [hD1, List.take_of_length_le (by rw [List.length_map]; omega)]
/-- the same over a tuple -/
theorem lcT_of {α : Type} {H : Hp} {a D : Addr} {zs : List α} {el e : α → V} {f : α → Bool} (hl : SqT K H a (zs.map el)) (hn : zs.length ≤ 1000) (hD : H D = none) {g : TG} {tt : TT} {te : TE} {i : Nat} {σ : L2.St} {Q : Hp → Prop} {vz : List Nat}
    (hg : ∀ (z : α) (H1 : Hp) (R : L2.St → Hp → Prop), z ∈ zs → R ((wipe σ vz).set i (some (el z))) H1 → g (el z) (wipe σ vz) H1 R)
    (hw : ∀ v : V, wipe ((wipe σ vz).set i (some v)) vz = wipe σ vz)
    (ht : ∀ (z : α) (H1 : Hp) (R : Bool → Hp → Prop), z ∈ zs → Same H H1 → (∀ H2, Same H1 H2 → R (f z) H2) → tt ((wipe σ vz).set i (some (el z))) H1 R)
    (he : ∀ (z : α) (H1 : Hp) (R : VK), z ∈ zs → f z = true → Same H H1 → (∀ H2, Same H1 H2 → R (e z) H2) → te ((wipe σ vz).set i (some (el z))) H1 R)
    (q : ∀ H' : Hp, Same H H' → H' D = some (.lst ((zs.filter f).map e)) → Q H') :
    ∃ W : Nat → Nat → Hp → Prop, (∃ m, W 0 m (upd H D (.lst []))) ∧ ∀ i m H, W i m H →
      ((Itt K a).stop i H ∧ Q H) ∨ ((Itt K a).go i H ∧ ∃ Nx : Hp → Prop, (∀ H', Nx H' → ∃ m', m' < m ∧ W (i + 1) m' H') ∧ ∀ x H', (Itt K a).yld i H x H' → g x (wipe σ vz) H' fun σ2 H2 => wipe σ2 vz = wipe σ vz ∧ tt σ2 H2 fun b H3 =>
        if b = true then te σ2 H3 fun y H4 => ∃ acc, H4 D = some (.lst acc) ∧ acc.length < sizeLine ∧ Nx (upd H4 D (.lst (acc ++ [y]))) else Nx H3) := by
  refine lc_tup (K := K) (a := a) (xs := zs.map el) (fun j H' => Same H H' ∧ H' D = some (.lst (((zs.take j).filter f).map e)) ∧ j ≤ zs.length) ⟨Same.new hD, upd_same, Nat.zero_le _⟩ (fun j H' _ ⟨s, _⟩ => SqT.ext hl s) ?_ ?_
  · rintro j x H1 hx ⟨s1, hD1, hj⟩
    rw [List.getElem?_map] at hx
    obtain ⟨z, hz, rfl⟩ : ∃ z, zs[j]? = some z ∧ el z = x := by
      cases e : zs[j]? with
      | none => rw [e] at hx; cases hx
      | some z => rw [e] at hx; exact ⟨z, rfl, Option.some.inj hx⟩
    have hm : z ∈ zs := List.mem_of_getElem? hz
    have jl : j < zs.length := by
      rcases Nat.lt_or_ge j zs.length with h | h
      · exact h
      · rw [List.getElem?_eq_none h] at hz; cases hz
    have tk : zs.take (j + 1) = zs.take j ++ [z] := by rw [List.take_add_one, hz]; rfl
    refine hg z H1 _ hm ⟨hw _, ?_⟩
    refine ht z H1 _ hm s1 fun H2 s2 => ?_
    cases fz : f z with
    | false =>
      refine (iteF ?_ : if false = true then _ else _)
      refine ⟨s1.trans s2, ?_, by omega⟩
      rw [s2 _ _ hD1, tk, List.filter_append, List.filter_cons, fz]
      simp
    | true =>
      refine (iteT ?_ : if true = true then _ else _)
      refine he z H2 _ hm fz (s1.trans s2) fun H3 s3 => ?_
      have hD3 := s3 _ _ (s2 _ _ hD1)
      refine ⟨_, hD3, ?_, ?_, ?_, by omega⟩
      · rw [List.length_map]
        refine Nat.lt_of_le_of_lt (Nat.le_trans (List.length_filter_le _ _) ?_) (show 1000 < sizeLine by decide)
        rw [List.length_take]
        omega
      · intro b o hb
        rw [upd_ne (ne_of_none hb hD)]
        exact s3 _ _ (s2 _ _ (s1 _ _ hb))
      · rw [upd_same, tk, List.filter_append, List.filter_cons, fz]
        simp
  · rintro H1 ⟨s1, hD1, _⟩
    refine q H1 s1 ?_
    rw [hD1, List.take_of_length_le (by rw [List.length_map]; omega)]
theorem filter_yes {α : Type} (zs : List α) : zs.filter (fun _ => true) = zs := List.filter_eq_self.mpr fun _ _ => rfl
theorem r_yes {σ : L2.St} {H : Hp} {R : Bool → Hp → Prop} (h : ∀ H2, Same H H2 → R true H2) : tYes σ H R := h H (Same.refl _)
theorem r_eqInts {H : Hp} {Q : VK} {p q : Addr} {xs ys : List Int} (h : SqL K H p (xs.map V.int)) (h' : SqL K H q (ys.map V.int)) (k : Q (.bl (decide (xs = ys))) H) : rEqD K (.ref p) (.ref q) H Q :=
  ⟨.list (xs.map PyData.int), .list (ys.map PyData.int), .lst h (dp_ints xs), .lst h' (dp_ints ys), shaped_ints xs, shaped_ints ys, by
    rw [PyData.eqv, eqv_ints]; exact k⟩
end
end My

namespace My
open PySem L2
/-! ### what can be shown -/
mutual
def shB : PyData → Bool
  | .none => true
  | .bool _ => true
  | .int i => decide (i.natAbs < 2 ^ 500)
  | .str z => decide (z.cps.size ≤ 500) && z.cps.toList.all fun c => decide (c < 16 ^ 8)
  | .tuple ds => shAll ds
  | .list ds => shAll ds
  | _ => false
def shAll : List PyData → Bool
  | [] => true
  | d :: ds => shB d && shAll ds
end
mutual
def szD : PyData → Nat
  | .tuple ds => szAll ds
  | .list ds => szAll ds
  | _ => 0
def szAll : List PyData → Nat
  | [] => 0
  | d :: ds => szD d + 1 + szAll ds
end
theorem log500 {z : Int} (h : z.natAbs < 2 ^ 500) : z.natAbs.log2 < 500 := PySem.Flt.log2_lt_of (by decide) h
theorem int_text_501 {a : Int} (h : a.natAbs.log2 < 500) : (PyData.shown (.int a)).length ≤ 501 := by
  have e := int_text_length_le (k := 500) (by decide) h
  show (Str.ofString (toString a)).length ≤ 501
  rw [PySem.ofString_length]
  exact e
mutual
theorem sh_ok : ∀ d : PyData, shB d = true → d.showable = true ∧ d.hasDict = false ∧ d.leavesShort 501 = true ∧ d.weight ≤ 502 + 503 * szD d
  | .none, _ => ⟨rfl, by simp [PyData.hasDict], rfl, by simp [PyData.weight]⟩
  | .bool b, _ => ⟨rfl, by simp [PyData.hasDict], rfl, by simp [PyData.weight]⟩
  | .int i, h => by
    have l := log500 (z := i) (of_decide_eq_true (show decide (i.natAbs < 2 ^ 500) = true from by simpa [shB] using h))
    refine ⟨?_, by simp [PyData.hasDict], ?_, ?_⟩
    · simp only [PyData.showable, decide_eq_true_eq]; omega
    · simp only [PyData.leavesShort, decide_eq_true_eq]
      exact int_text_501 l
    · simp only [PyData.weight]
      split <;> omega
  | .str z, h => by
    have h' : decide (z.cps.size ≤ 500) = true ∧ (z.cps.toList.all fun c => decide (c < 16 ^ 8)) = true := by
      have : (decide (z.cps.size ≤ 500) && z.cps.toList.all fun c => decide (c < 16 ^ 8)) = true := by
        unfold shB at h; exact h
      rw [Bool.and_eq_true] at this
      exact this
    refine ⟨rfl, by simp [PyData.hasDict], h'.2, ?_⟩
    have := of_decide_eq_true h'.1
    show z.cps.size ≤ _
    omega
  | .tuple ds, h => by
    obtain ⟨a, b, c, d⟩ := shs_ok ds (by unfold shB at h; exact h)
    refine ⟨a, ?_, c, ?_⟩
    · show PyData.hasDictAll ds = false
      exact b
    · show PyData.weightAll ds ≤ 502 + 503 * szAll ds
      omega
  | .list ds, h => by
    obtain ⟨a, b, c, d⟩ := shs_ok ds (by unfold shB at h; exact h)
    refine ⟨a, ?_, c, ?_⟩
    · show PyData.hasDictAll ds = false
      exact b
    · show PyData.weightAll ds ≤ 502 + 503 * szAll ds
      omega
  | .dict _, h => by simp [shB] at h
theorem shs_ok : ∀ ds : List PyData, shAll ds = true → PyData.showableAll ds = true ∧ PyData.hasDictAll ds = false ∧ PyData.leavesShortAll 501 ds = true ∧ PyData.weightAll ds ≤ 503 * szAll ds
  | [], _ => ⟨rfl, rfl, rfl, Nat.zero_le _⟩
  | d :: ds, h => by
    have h' : shB d = true ∧ shAll ds = true := by
      unfold shAll at h
      rw [Bool.and_eq_true] at h
      exact h
    obtain ⟨a, b, c, e⟩ := sh_ok d h'.1
    obtain ⟨a', b', c', e'⟩ := shs_ok ds h'.2
    refine ⟨?_, ?_, ?_, ?_⟩
    · show (PyData.showable d && PyData.showableAll ds) = true
      rw [a, a']; rfl
    · show (PyData.hasDict d || PyData.hasDictAll ds) = false
      rw [b, b']; rfl
    · show (PyData.leavesShort 501 d && PyData.leavesShortAll 501 ds) = true
      rw [c, c']; rfl
    · show PyData.weight d + 1 + PyData.weightAll ds ≤ 503 * (szD d + 1 + szAll ds)
      omega
end
end My

namespace My
open PySem L2
def g_Wish_init_all {α : Type} (us mv ws : List α) : List α := us ++ ws.reverse
theorem g_rel_Wish_init_all {vs mz zs : List V} {us mv ws : List Value} (r1 : Vals vs us) (r2 : Vals mz mv) (r3 : Vals zs ws) : Vals (g_Wish_init_all vs mz zs) (g_Wish_init_all us mv ws) := (r1.append r3.reverse)
def g_Wish_init_ord {α : Type} (us mv ws : List α) : List α := us ++ ws
theorem g_rel_Wish_init_ord {vs mz zs : List V} {us mv ws : List Value} (r1 : Vals vs us) (r2 : Vals mz mv) (r3 : Vals zs ws) : Vals (g_Wish_init_ord vs mz zs) (g_Wish_init_ord us mv ws) := (r1.append r3)
def g_Wish_init_four {α : Type} (us mv ws : List α) : List α := us ++ ws.drop 3 ++ mv.take 2 ++ (ws.drop 1).take 2 ++ mv.drop 2 ++ ws.take 1
theorem g_rel_Wish_init_four {vs mz zs : List V} {us mv ws : List Value} (r1 : Vals vs us) (r2 : Vals mz mv) (r3 : Vals zs ws) : Vals (g_Wish_init_four vs mz zs) (g_Wish_init_four us mv ws) := (((((r1.append (r3.drop 3)).append (r2.take 2)).append ((r3.drop 1).take 2)).append (r2.drop 2)).append (r3.take 1))
def g_Wish_init_two {α : Type} (us mv ws : List α) : List α := us ++ mv.take 2 ++ ws.drop 1 ++ (mv.drop 2).take 2 ++ ws.take 1 ++ mv.drop 4
theorem g_rel_Wish_init_two {vs mz zs : List V} {us mv ws : List Value} (r1 : Vals vs us) (r2 : Vals mz mv) (r3 : Vals zs ws) : Vals (g_Wish_init_two vs mz zs) (g_Wish_init_two us mv ws) := (((((r1.append (r2.take 2)).append (r3.drop 1)).append ((r2.drop 2).take 2)).append (r3.take 1)).append (r2.drop 4))
def g_Wish_init_one_places {α : Type} (us mv ws : List α) : List α := us ++ mv.take 0 ++ ws ++ mv.drop 0
theorem g_rel_Wish_init_one_places {vs mz zs : List V} {us mv ws : List Value} (r1 : Vals vs us) (r2 : Vals mz mv) (r3 : Vals zs ws) : Vals (g_Wish_init_one_places vs mz zs) (g_Wish_init_one_places us mv ws) := (((r1.append (r2.take 0)).append r3).append (r2.drop 0))
def g_Wish_init_one_figures {α : Type} (us mv ws : List α) : List α := us ++ mv.take 1 ++ ws ++ mv.drop 1
theorem g_rel_Wish_init_one_figures {vs mz zs : List V} {us mv ws : List Value} (r1 : Vals vs us) (r2 : Vals mz mv) (r3 : Vals zs ws) : Vals (g_Wish_init_one_figures vs mz zs) (g_Wish_init_one_figures us mv ws) := (((r1.append (r2.take 1)).append r3).append (r2.drop 1))
def g_Wish_init_one_step {α : Type} (us mv ws : List α) : List α := us ++ mv.take 2 ++ ws ++ mv.drop 2
theorem g_rel_Wish_init_one_step {vs mz zs : List V} {us mv ws : List Value} (r1 : Vals vs us) (r2 : Vals mz mv) (r3 : Vals zs ws) : Vals (g_Wish_init_one_step vs mz zs) (g_Wish_init_one_step us mv ws) := (((r1.append (r2.take 2)).append r3).append (r2.drop 2))
def g_Wish_init_one_way {α : Type} (us mv ws : List α) : List α := us ++ mv.take 3 ++ ws ++ mv.drop 3
theorem g_rel_Wish_init_one_way {vs mz zs : List V} {us mv ws : List Value} (r1 : Vals vs us) (r2 : Vals mz mv) (r3 : Vals zs ws) : Vals (g_Wish_init_one_way vs mz zs) (g_Wish_init_one_way us mv ws) := (((r1.append (r2.take 3)).append r3).append (r2.drop 3))
def g_Wish_init_one_signs {α : Type} (us mv ws : List α) : List α := us ++ mv.take 4 ++ ws ++ mv.drop 4
theorem g_rel_Wish_init_one_signs {vs mz zs : List V} {us mv ws : List Value} (r1 : Vals vs us) (r2 : Vals mz mv) (r3 : Vals zs ws) : Vals (g_Wish_init_one_signs vs mz zs) (g_Wish_init_one_signs us mv ws) := (((r1.append (r2.take 4)).append r3).append (r2.drop 4))
def g_Wish_init_one_grouped {α : Type} (us mv ws : List α) : List α := us ++ mv.take 5 ++ ws ++ mv.drop 5
theorem g_rel_Wish_init_one_grouped {vs mz zs : List V} {us mv ws : List Value} (r1 : Vals vs us) (r2 : Vals mz mv) (r3 : Vals zs ws) : Vals (g_Wish_init_one_grouped vs mz zs) (g_Wish_init_one_grouped us mv ws) := (((r1.append (r2.take 5)).append r3).append (r2.drop 5))
def g_Wish_init_one_scaled {α : Type} (us mv ws : List α) : List α := us ++ mv.take 6 ++ ws ++ mv.drop 6
theorem g_rel_Wish_init_one_scaled {vs mz zs : List V} {us mv ws : List Value} (r1 : Vals vs us) (r2 : Vals mz mv) (r3 : Vals zs ws) : Vals (g_Wish_init_one_scaled vs mz zs) (g_Wish_init_one_scaled us mv ws) := (((r1.append (r2.take 6)).append r3).append (r2.drop 6))
def g_Wish_init_one_unit {α : Type} (us mv ws : List α) : List α := us ++ mv.take 7 ++ ws ++ mv.drop 7
theorem g_rel_Wish_init_one_unit {vs mz zs : List V} {us mv ws : List Value} (r1 : Vals vs us) (r2 : Vals mz mv) (r3 : Vals zs ws) : Vals (g_Wish_init_one_unit vs mz zs) (g_Wish_init_one_unit us mv ws) := (((r1.append (r2.take 7)).append r3).append (r2.drop 7))
def g_Wish_but_sf {α : Type} (us mv ws : List α) : List α := us ++ mv.take 1 ++ ws.drop 1 ++ (mv.drop 1).take 4 ++ ws.take 1 ++ mv.drop 5
theorem g_rel_Wish_but_sf {vs mz zs : List V} {us mv ws : List Value} (r1 : Vals vs us) (r2 : Vals mz mv) (r3 : Vals zs ws) : Vals (g_Wish_but_sf vs mz zs) (g_Wish_but_sf us mv ws) := (((((r1.append (r2.take 1)).append (r3.drop 1)).append ((r2.drop 1).take 4)).append (r3.take 1)).append (r2.drop 5))
end My
namespace My
open PySem L2
theorem kit_own {K : PySem.W.Frag} {C : Addr} {T : String} {b : Bool} (h : PySem.W.subIn K (.ref C) (.type T) = some b) (m : PySem.W.kitMeta T = true) : PySem.W.kitOne K (.ref C) (.type T) = some b := by
  have ne : ((.ref C : Value) == .type T) = false := by simp
  unfold PySem.W.kitOne
  rw [ne, if_neg Bool.false_ne_true]
  show (if PySem.W.kitMeta T = true then _ else _) = _
  rw [if_pos m]
  exact h
def kinds66 : List String := ["NoneType", "bool", "int", "str", "tuple", "list", "dict"]
theorem kit_notown {K : PySem.W.Frag} {C : Addr} (i : PySem.W.isClsIn K C = true) (t : PySem.W.typeIn K (.ref C) = some (.type "type")) : ∀ n ∈ kinds66, PySem.W.kitOne K (.type n) (.ref C) = some false := by
  intro n hn
  have ne : ((.type n : Value) == .ref C) = false := by simp
  have i' : (PySem.W.clsIn K C).isSome = true := i
  have e2 : ((PySem.W.clsIn K C).isSome && PySem.W.typeIn K (.ref C) == some (.type "type")) = true := by rw [i', t] <;> rfl
  unfold PySem.W.kitOne
  rw [ne, if_neg Bool.false_ne_true]
  show (if ((PySem.W.clsIn K C).isSome && PySem.W.typeIn K (.ref C) == some (.type "type")) = true then _ else _) = _
  rw [if_pos e2]
  have go : ∀ (T : String) (l : List Value), PySem.fastBuiltinMro T = some l → (∀ v ∈ l, ∃ n, v = .type n) → PySem.W.subIn K (.type T) (.ref C) = some false := fun T l e h => by
    show (PySem.fastBuiltinMro T).map (·.contains (.ref C)) = some false
    rw [e]
    show some (l.contains (.ref C)) = some false
    congr 1
    refine Bool.eq_false_iff.mpr fun z => ?_
    have m := List.contains_iff_mem.mp z
    obtain ⟨n, q⟩ := h _ m
    cases q
  simp only [kinds66, List.mem_cons, List.not_mem_nil, or_false] at hn
  rcases hn with rfl | rfl | rfl | rfl | rfl | rfl | rfl
  · exact go "NoneType" [.type "NoneType", .type "object"] (by decide +kernel) (by simp)
  · exact go "bool" [.type "bool", .type "int", .type "object"] (by decide +kernel) (by simp)
  · exact go "int" [.type "int", .type "object"] (by decide +kernel) (by simp)
  · exact go "str" [.type "str", .type "object"] (by decide +kernel) (by simp)
  · exact go "tuple" [.type "tuple", .type "object"] (by decide +kernel) (by simp)
  · exact go "list" [.type "list", .type "object"] (by decide +kernel) (by simp)
  · exact go "dict" [.type "dict", .type "object"] (by decide +kernel) (by simp)
end My

namespace My
open PySem L2
def top (i : Nat) : Stmt := PySem.Challenge.pw_figuretexts_k29_bounds_and_defaults.main.body.getD i (.Pass ⟨0, 0, 0, 0⟩)
abbrev s_is_whole : Stmt := top 11
theorem sc_is_whole : FnScope ["thing"] ["thing"] (defScope s_is_whole) := ⟨rfl, rfl, rfl, by decide +kernel, rfl, by decide +kernel, by decide +kernel⟩
abbrev s_is_whole_between : Stmt := top 12
theorem sc_is_whole_between : FnScope ["thing", "least", "most"] ["thing", "least", "most"] (defScope s_is_whole_between) := ⟨rfl, rfl, rfl, by decide +kernel, rfl, by decide +kernel, by decide +kernel⟩
abbrev s_told_or : Stmt := top 13
theorem sc_told_or : FnScope ["new", "old"] ["new", "old"] (defScope s_told_or) := ⟨rfl, rfl, rfl, by decide +kernel, rfl, by decide +kernel, by decide +kernel⟩
abbrev s_Number_init : Stmt := inClass (top 15) 0
theorem sc_Number_init : FnScope ["self", "top", "bottom", "common"] ["self", "top", "bottom"] (defScope s_Number_init) := ⟨rfl, rfl, rfl, by decide +kernel, rfl, by decide +kernel, by decide +kernel⟩
abbrev s_places_of : Stmt := top 16
theorem sc_places_of : FnScope ["number", "twos", "rest", "fives"] ["number"] (defScope s_places_of) := ⟨rfl, rfl, rfl, by decide +kernel, rfl, by decide +kernel, by decide +kernel⟩
abbrev s_times_within : Stmt := top 17
theorem sc_times_within : FnScope ["factor", "whole", "many"] ["factor", "whole"] (defScope s_times_within) := ⟨rfl, rfl, rfl, by decide +kernel, rfl, by decide +kernel, by decide +kernel⟩
abbrev s_is_step : Stmt := top 24
theorem sc_is_step : FnScope ["thing"] ["thing"] (defScope s_is_step) := ⟨rfl, rfl, rfl, by decide +kernel, rfl, by decide +kernel, by decide +kernel⟩
abbrev s_Wish_init : Stmt := inClass (top 30) 0
theorem sc_Wish_init : FnScope ["self", "places", "figures", "step", "way", "signs", "grouped", "scaled", "unit", "wrong"] ["self", "places", "figures", "step", "way", "signs", "grouped", "scaled", "unit"] (defScope s_Wish_init) := ⟨rfl, rfl, rfl, by decide +kernel, rfl, by decide +kernel, by decide +kernel⟩
abbrev s_Wish_but : Stmt := inClass (top 30) 2
theorem sc_Wish_but : FnScope ["self", "places", "figures", "step", "way", "signs", "grouped", "scaled", "unit", "old_figures", "old_step"] ["self", "places", "figures", "step", "way", "signs", "grouped", "scaled", "unit"] (defScope s_Wish_but) := ⟨rfl, rfl, rfl, by decide +kernel, rfl, by decide +kernel, by decide +kernel⟩
abbrev s_first_wrong : Stmt := top 31
theorem sc_first_wrong : FnScope ["places", "figures", "step", "way", "signs", "grouped", "scaled", "unit"] ["places", "figures", "step", "way", "signs", "grouped", "scaled", "unit"] (defScope s_first_wrong) := ⟨rfl, rfl, rfl, by decide +kernel, rfl, by decide +kernel, by decide +kernel⟩
abbrev s_is_places : Stmt := top 32
theorem sc_is_places : FnScope ["thing", "part"] ["thing"] (defScope s_is_places) := ⟨rfl, rfl, rfl, by decide +kernel, rfl, by decide +kernel, by decide +kernel⟩
abbrev s_is_step_within : Stmt := top 33
theorem sc_is_step_within : FnScope ["thing", "most", "places"] ["thing", "most"] (defScope s_is_step_within) := ⟨rfl, rfl, rfl, by decide +kernel, rfl, by decide +kernel, by decide +kernel⟩
abbrev s_is_unit : Stmt := top 34
theorem sc_is_unit : FnScope ["thing", "part"] ["thing"] (defScope s_is_unit) := ⟨rfl, rfl, rfl, by decide +kernel, rfl, by decide +kernel, by decide +kernel⟩
abbrev s_l_deck : Stmt := top 36
theorem sc_l_deck : FnScope ["_law_script", "_law_cells", "_law_seed", "_law_cell"] ["_law_script"] (defScope s_l_deck) := ⟨rfl, rfl, rfl, by decide +kernel, rfl, by decide +kernel, by decide +kernel⟩
abbrev s_l_draw : Stmt := top 37
theorem sc_l_draw : FnScope ["_law_deck_here", "_law_top", "_law_cell", "_law_number"] ["_law_deck_here", "_law_top"] (defScope s_l_draw) := ⟨rfl, rfl, rfl, by decide +kernel, rfl, by decide +kernel, by decide +kernel⟩
abbrev s_l_ways : Stmt := top 39
theorem sc_l_ways : FnScope [] [] (defScope s_l_ways) := ⟨rfl, rfl, rfl, by decide +kernel, rfl, by decide +kernel, by decide +kernel⟩
abbrev s_l_made : Stmt := top 40
theorem sc_l_made : FnScope ["_law_f"] ["_law_f"] (defScope s_l_made) := ⟨rfl, rfl, rfl, by decide +kernel, rfl, by decide +kernel, by decide +kernel⟩
abbrev s_l_told : Stmt := top 41
theorem sc_l_told : FnScope ["_law_wish", "_law_by"] ["_law_wish"] (defScope s_l_told) := ⟨rfl, rfl, rfl, by decide +kernel, rfl, by decide +kernel, by decide +kernel⟩
abbrev s_l_due : Stmt := top 42
theorem sc_l_due : FnScope ["_law_f", "_law_by"] ["_law_f"] (defScope s_l_due) := ⟨rfl, rfl, rfl, by decide +kernel, rfl, by decide +kernel, by decide +kernel⟩
abbrev s_l_whole : Stmt := top 43
theorem sc_l_whole : FnScope ["_law_thing", "_law_low", "_law_high"] ["_law_thing", "_law_low", "_law_high"] (defScope s_l_whole) := ⟨rfl, rfl, rfl, by decide +kernel, rfl, by decide +kernel, by decide +kernel⟩
abbrev s_l_many_places : Stmt := top 44
theorem sc_l_many_places : FnScope ["_law_number", "_law_many"] ["_law_number"] (defScope s_l_many_places) := ⟨rfl, rfl, rfl, by decide +kernel, rfl, by decide +kernel, by decide +kernel⟩
abbrev s_l_is_step : Stmt := top 45
theorem sc_l_is_step : FnScope ["_law_thing", "_law_f", "_law_many"] ["_law_thing", "_law_f"] (defScope s_l_is_step) := ⟨rfl, rfl, rfl, by decide +kernel, rfl, by decide +kernel, by decide +kernel⟩
abbrev s_l_fault : Stmt := top 46
theorem sc_l_fault : FnScope ["_law_f", "_law_two", "_law_name", "_law_some", "_law_pair", "_law_one"] ["_law_f"] (defScope s_l_fault) := ⟨rfl, rfl, rfl, by decide +kernel, rfl, by decide +kernel, by decide +kernel⟩
abbrev s_l_heard : Stmt := top 47
theorem sc_l_heard : FnScope ["_law_f", "_law_found", "e", "_law_others"] ["_law_f"] (defScope s_l_heard) := ⟨rfl, rfl, rfl, by decide +kernel, rfl, by decide +kernel, by decide +kernel⟩
abbrev s_l_right : Stmt := top 48
theorem sc_l_right : FnScope ["_law_f", "_law_fault_here", "_law_kept", "_law_due_here"] ["_law_f"] (defScope s_l_right) := ⟨rfl, rfl, rfl, by decide +kernel, rfl, by decide +kernel, by decide +kernel⟩
abbrev s_l_plain : Stmt := top 49
theorem sc_l_plain : FnScope [] [] (defScope s_l_plain) := ⟨rfl, rfl, rfl, by decide +kernel, rfl, by decide +kernel, by decide +kernel⟩
abbrev s_l_put : Stmt := top 50
theorem sc_l_put : FnScope ["_law_f", "_law_name", "_law_thing", "_law_found"] ["_law_f", "_law_name", "_law_thing"] (defScope s_l_put) := ⟨rfl, rfl, rfl, by decide +kernel, rfl, by decide +kernel, by decide +kernel⟩
abbrev s_l_left_out : Stmt := top 51
theorem sc_l_left_out : FnScope ["_law_deck_here", "_law_plain_here", "_law_told_here", "_law_alone", "_law_one", "_law_wish", "_law_name", "_law_thing"] ["_law_deck_here"] (defScope s_l_left_out) := ⟨rfl, rfl, rfl, by decide +kernel, rfl, by decide +kernel, by decide +kernel⟩
abbrev s_l_steps : Stmt := top 52
theorem sc_l_steps : FnScope ["_law_deck_here", "_law_found", "_law_many", "_law_tens", "_law_by"] ["_law_deck_here"] (defScope s_l_steps) := ⟨rfl, rfl, rfl, by decide +kernel, rfl, by decide +kernel, by decide +kernel⟩
abbrev s_law : Stmt := top 53
theorem sc_law : FnScope ["_law_script", "_law_deck_here", "_law_plain_here", "_law_cases", "_law_one", "_law_by", "_law_most", "_law_text", "_law_both", "_law_many", "_law_f", "_law_other"] ["_law_script"] (defScope s_law) := ⟨rfl, rfl, rfl, by decide +kernel, rfl, by decide +kernel, by decide +kernel⟩
structure Txt (w : World) (K : PySem.W.Frag) (mg : Str → Option Value) where
  C_Number : Addr
  m_Number : mg "Number" = some (.ref C_Number)
  c_Number : Cls K C_Number
  n_Number_top : NoAttr K C_Number "top"
  n_Number_bottom : NoAttr K C_Number "bottom"
  ty_Number_c : PySem.W.findIn K (.ref C_Number) "__class__" = some (some (.builtin "object.__class__"))
  ty_Number_g : PySem.W.specialIn K (.builtin "object.__class__") "__get__" = some (some (.builtin "getset_descriptor.__get__"))
  ty_Number_t : PySem.W.takesIn K (.builtin "object.__class__") = some true
  ty_Number_m : PySem.W.mroIn K C_Number (.type "object") = some true
  ty_Number_k : PySem.W.kitOne K (.ref C_Number) (.ref C_Number) = some true
  ne_Number : PySem.W.findIn K (.ref C_Number) "__ne__" = some (some (.builtin "object.__ne__"))
  C_Wish : Addr
  m_Wish : mg "Wish" = some (.ref C_Wish)
  c_Wish : Cls K C_Wish
  n_Wish_places : NoAttr K C_Wish "places"
  n_Wish_figures : NoAttr K C_Wish "figures"
  n_Wish_step : NoAttr K C_Wish "step"
  n_Wish_way : NoAttr K C_Wish "way"
  n_Wish_signs : NoAttr K C_Wish "signs"
  n_Wish_grouped : NoAttr K C_Wish "grouped"
  n_Wish_scaled : NoAttr K C_Wish "scaled"
  n_Wish_unit : NoAttr K C_Wish "unit"
  ty_Wish_c : PySem.W.findIn K (.ref C_Wish) "__class__" = some (some (.builtin "object.__class__"))
  ty_Wish_g : PySem.W.specialIn K (.builtin "object.__class__") "__get__" = some (some (.builtin "getset_descriptor.__get__"))
  ty_Wish_t : PySem.W.takesIn K (.builtin "object.__class__") = some true
  ty_Wish_m : PySem.W.mroIn K C_Wish (.type "object") = some true
  ty_Wish_k : PySem.W.kitOne K (.ref C_Wish) (.ref C_Wish) = some true
  ne_Wish : PySem.W.findIn K (.ref C_Wish) "__ne__" = some (some (.builtin "object.__ne__"))
  f_is_whole : Addr
  fd_is_whole : FuncData
  F_is_whole : Fun K "is_whole" "is_whole" s_is_whole f_is_whole fd_is_whole
  m_is_whole : mg "is_whole" = some (.ref f_is_whole)
  b_is_whole : Binds K fd_is_whole ["thing"] []
  f_is_whole_between : Addr
  fd_is_whole_between : FuncData
  F_is_whole_between : Fun K "is_whole_between" "is_whole_between" s_is_whole_between f_is_whole_between fd_is_whole_between
  m_is_whole_between : mg "is_whole_between" = some (.ref f_is_whole_between)
  b_is_whole_between : Binds K fd_is_whole_between ["thing", "least", "most"] []
  f_told_or : Addr
  fd_told_or : FuncData
  F_told_or : Fun K "told_or" "told_or" s_told_or f_told_or fd_told_or
  m_told_or : mg "told_or" = some (.ref f_told_or)
  b_told_or : Binds K fd_told_or ["new", "old"] []
  f_Number_init : Addr
  fd_Number_init : FuncData
  F_Number_init : FunD K "__init__" "Number.__init__" (defArgs s_Number_init) (defBody s_Number_init) (defScope s_Number_init) [V.int 1] [] f_Number_init fd_Number_init
  mk_Number : Mk K C_Number f_Number_init
  b_Number_init2 : Binds K fd_Number_init ["self", "top", "bottom"] []
  ds_Number_init1 : List Value
  d_Number_init1 : Vals [V.int 1] ds_Number_init1
  b_Number_init1 : Binds K fd_Number_init ["self", "top", "bottom"] ds_Number_init1
  f_places_of : Addr
  fd_places_of : FuncData
  F_places_of : Fun K "places_of" "places_of" s_places_of f_places_of fd_places_of
  m_places_of : mg "places_of" = some (.ref f_places_of)
  b_places_of : Binds K fd_places_of ["number"] []
  f_times_within : Addr
  fd_times_within : FuncData
  F_times_within : Fun K "_times_within" "_times_within" s_times_within f_times_within fd_times_within
  m_times_within : mg "_times_within" = some (.ref f_times_within)
  b_times_within : Binds K fd_times_within ["factor", "whole"] []
  f_is_step : Addr
  fd_is_step : FuncData
  F_is_step : Fun K "is_step" "is_step" s_is_step f_is_step fd_is_step
  m_is_step : mg "is_step" = some (.ref f_is_step)
  b_is_step : Binds K fd_is_step ["thing"] []
  f_Wish_init : Addr
  fd_Wish_init : FuncData
  mk_Wish : Mk K C_Wish f_Wish_init
  f_Wish_but : Addr
  fd_Wish_but : FuncData
  me_Wish_but : Meth K C_Wish "but" f_Wish_but
  f_first_wrong : Addr
  fd_first_wrong : FuncData
  F_first_wrong : Fun K "_first_wrong" "_first_wrong" s_first_wrong f_first_wrong fd_first_wrong
  m_first_wrong : mg "_first_wrong" = some (.ref f_first_wrong)
  b_first_wrong : Binds K fd_first_wrong ["places", "figures", "step", "way", "signs", "grouped", "scaled", "unit"] []
  f_is_places : Addr
  fd_is_places : FuncData
  F_is_places : Fun K "_is_places" "_is_places" s_is_places f_is_places fd_is_places
  m_is_places : mg "_is_places" = some (.ref f_is_places)
  b_is_places : Binds K fd_is_places ["thing"] []
  f_is_step_within : Addr
  fd_is_step_within : FuncData
  F_is_step_within : Fun K "is_step_within" "is_step_within" s_is_step_within f_is_step_within fd_is_step_within
  m_is_step_within : mg "is_step_within" = some (.ref f_is_step_within)
  b_is_step_within : Binds K fd_is_step_within ["thing", "most"] []
  f_is_unit : Addr
  fd_is_unit : FuncData
  F_is_unit : Fun K "_is_unit" "_is_unit" s_is_unit f_is_unit fd_is_unit
  m_is_unit : mg "_is_unit" = some (.ref f_is_unit)
  b_is_unit : Binds K fd_is_unit ["thing"] []
  f_l_deck : Addr
  fd_l_deck : FuncData
  F_l_deck : Fun K "_law_deck" "_law_deck" s_l_deck f_l_deck fd_l_deck
  m_l_deck : mg "_law_deck" = some (.ref f_l_deck)
  b_l_deck : Binds K fd_l_deck ["_law_script"] []
  f_l_draw : Addr
  fd_l_draw : FuncData
  F_l_draw : Fun K "_law_draw" "_law_draw" s_l_draw f_l_draw fd_l_draw
  m_l_draw : mg "_law_draw" = some (.ref f_l_draw)
  b_l_draw : Binds K fd_l_draw ["_law_deck_here", "_law_top"] []
  f_l_ways : Addr
  fd_l_ways : FuncData
  F_l_ways : Fun K "_law_ways" "_law_ways" s_l_ways f_l_ways fd_l_ways
  m_l_ways : mg "_law_ways" = some (.ref f_l_ways)
  b_l_ways : Binds K fd_l_ways [] []
  f_l_made : Addr
  fd_l_made : FuncData
  F_l_made : Fun K "_law_made" "_law_made" s_l_made f_l_made fd_l_made
  m_l_made : mg "_law_made" = some (.ref f_l_made)
  b_l_made : Binds K fd_l_made ["_law_f"] []
  f_l_told : Addr
  fd_l_told : FuncData
  F_l_told : Fun K "_law_told" "_law_told" s_l_told f_l_told fd_l_told
  m_l_told : mg "_law_told" = some (.ref f_l_told)
  b_l_told : Binds K fd_l_told ["_law_wish"] []
  f_l_due : Addr
  fd_l_due : FuncData
  F_l_due : Fun K "_law_due" "_law_due" s_l_due f_l_due fd_l_due
  m_l_due : mg "_law_due" = some (.ref f_l_due)
  b_l_due : Binds K fd_l_due ["_law_f"] []
  f_l_whole : Addr
  fd_l_whole : FuncData
  F_l_whole : Fun K "_law_whole" "_law_whole" s_l_whole f_l_whole fd_l_whole
  m_l_whole : mg "_law_whole" = some (.ref f_l_whole)
  b_l_whole : Binds K fd_l_whole ["_law_thing", "_law_low", "_law_high"] []
  f_l_many_places : Addr
  fd_l_many_places : FuncData
  F_l_many_places : Fun K "_law_many_places" "_law_many_places" s_l_many_places f_l_many_places fd_l_many_places
  m_l_many_places : mg "_law_many_places" = some (.ref f_l_many_places)
  b_l_many_places : Binds K fd_l_many_places ["_law_number"] []
  f_l_is_step : Addr
  fd_l_is_step : FuncData
  F_l_is_step : Fun K "_law_is_step" "_law_is_step" s_l_is_step f_l_is_step fd_l_is_step
  m_l_is_step : mg "_law_is_step" = some (.ref f_l_is_step)
  b_l_is_step : Binds K fd_l_is_step ["_law_thing", "_law_f"] []
  f_l_fault : Addr
  fd_l_fault : FuncData
  F_l_fault : Fun K "_law_fault" "_law_fault" s_l_fault f_l_fault fd_l_fault
  m_l_fault : mg "_law_fault" = some (.ref f_l_fault)
  b_l_fault : Binds K fd_l_fault ["_law_f"] []
  f_l_heard : Addr
  fd_l_heard : FuncData
  F_l_heard : Fun K "_law_heard" "_law_heard" s_l_heard f_l_heard fd_l_heard
  m_l_heard : mg "_law_heard" = some (.ref f_l_heard)
  b_l_heard : Binds K fd_l_heard ["_law_f"] []
  f_l_right : Addr
  fd_l_right : FuncData
  F_l_right : Fun K "_law_right" "_law_right" s_l_right f_l_right fd_l_right
  m_l_right : mg "_law_right" = some (.ref f_l_right)
  b_l_right : Binds K fd_l_right ["_law_f"] []
  f_l_plain : Addr
  fd_l_plain : FuncData
  F_l_plain : Fun K "_law_plain" "_law_plain" s_l_plain f_l_plain fd_l_plain
  m_l_plain : mg "_law_plain" = some (.ref f_l_plain)
  b_l_plain : Binds K fd_l_plain [] []
  f_l_put : Addr
  fd_l_put : FuncData
  F_l_put : Fun K "_law_put" "_law_put" s_l_put f_l_put fd_l_put
  m_l_put : mg "_law_put" = some (.ref f_l_put)
  b_l_put : Binds K fd_l_put ["_law_f", "_law_name", "_law_thing"] []
  f_l_left_out : Addr
  fd_l_left_out : FuncData
  F_l_left_out : Fun K "_law_left_out" "_law_left_out" s_l_left_out f_l_left_out fd_l_left_out
  m_l_left_out : mg "_law_left_out" = some (.ref f_l_left_out)
  b_l_left_out : Binds K fd_l_left_out ["_law_deck_here"] []
  f_l_steps : Addr
  fd_l_steps : FuncData
  F_l_steps : Fun K "_law_steps" "_law_steps" s_l_steps f_l_steps fd_l_steps
  m_l_steps : mg "_law_steps" = some (.ref f_l_steps)
  b_l_steps : Binds K fd_l_steps ["_law_deck_here"] []
  f_law : Addr
  fd_law : FuncData
  F_law : Fun K "law" "law" s_law f_law fd_law
  m_law : mg "law" = some (.ref f_law)
  b_law : Binds K fd_law ["_law_script"] []
  A_ALL_SIGNS : Addr
  m_ALL_SIGNS : mg "ALL_SIGNS" = some (.ref A_ALL_SIGNS)
  t_ALL_SIGNS : ∀ H : Hp, SqT K H A_ALL_SIGNS [.str "minus", .str "all"]
  A_UNIT : Addr
  m_UNIT : mg "UNIT" = some (.ref A_UNIT)
  t_UNIT : ∀ H : Hp, SqT K H A_UNIT [.str "", .str ""]
  A_PLACES : Addr
  m_PLACES : mg "PLACES" = some (.ref A_PLACES)
  t_PLACES : ∀ H : Hp, SqT K H A_PLACES [.int 0, .int 2]
  f_FigureErrorI : Addr
  C_FigureError : Addr
  m_FigureError : mg "FigureError" = some (.ref C_FigureError)
  C_NoCustom : Addr
  m_NoCustom : mg "NoCustom" = some (.ref C_NoCustom)
  C_NoWish : Addr
  m_NoWish : mg "NoWish" = some (.ref C_NoWish)
  C_NoFit : Addr
  m_NoFit : mg "NoFit" = some (.ref C_NoFit)
  C_NoRead : Addr
  m_NoRead : mg "NoRead" = some (.ref C_NoRead)
  C_NoName : Addr
  m_NoName : mg "NoName" = some (.ref C_NoName)
  e_NoWish : PySem.ErV.ErrCls K C_NoWish f_FigureErrorI
  x_NoWish : ExcC K C_NoWish
  ty_NoWish : PySem.W.typeIn K (.ref C_NoWish) = some (.type "type")
  no_NoWish : PySem.W.findIn K (.ref C_NoWish) "thing" = some none
  fn_NoWish : PySem.ErV.Fn_thing K f_FigureErrorI "FigureError.__init__"
  te_NoWish : PySem.W.exmOne K (.ref C_NoWish) (.ref C_FigureError) = some true
  gt_NoWish : ErrGet K C_NoWish "thing"
  n_ValueError : mg "ValueError" = none
  n_ArithmeticError : mg "ArithmeticError" = none
  kt_VE : PySem.W.kitOne K (.ref C_NoWish) (.type "ValueError") = some false
  kt_AE : PySem.W.kitOne K (.ref C_NoWish) (.type "ArithmeticError") = some false
  kt_NoCustom : PySem.W.kitOne K (.ref C_NoWish) (.ref C_NoCustom) = some false
  kt_NoWish : PySem.W.kitOne K (.ref C_NoWish) (.ref C_NoWish) = some true
  kt_NoFit : PySem.W.kitOne K (.ref C_NoWish) (.ref C_NoFit) = some false
  kt_NoRead : PySem.W.kitOne K (.ref C_NoWish) (.ref C_NoRead) = some false
  kt_NoName : PySem.W.kitOne K (.ref C_NoWish) (.ref C_NoName) = some false
  u_SIGNS : Value
  m_SIGNS : mg "SIGNS" = some u_SIGNS
  r_SIGNS : RelV (.str "minus") u_SIGNS
  kN_not : ∀ n ∈ kinds66, PySem.W.kitOne K (.type n) (.ref C_Number) = some false
  F_Wish_init : FunD K "__init__" "Wish.__init__" (defArgs s_Wish_init) (defBody s_Wish_init) (defScope s_Wish_init) [] [(("places" : Str), V.ref A_PLACES), (("figures" : Str), V.non), (("step" : Str), V.non), (("way" : Str), V.str "half even"), (("signs" : Str), V.str "minus"), (("grouped" : Str), V.bl true), (("scaled" : Str), V.bl false), (("unit" : Str), V.ref A_UNIT)] f_Wish_init fd_Wish_init
  mv_Wish_init_all : List Value
  kb_Wish_init_all : KBn K fd_Wish_init ["self", "places", "figures", "step", "way", "signs", "grouped", "scaled", "unit"] 1 ["unit", "scaled", "grouped", "signs", "way", "step", "figures", "places"] (fun us ws => g_Wish_init_all us mv_Wish_init_all ws) (fun vs zs => g_Wish_init_all vs [] zs)
  mv_Wish_init_ord : List Value
  kb_Wish_init_ord : KBn K fd_Wish_init ["self", "places", "figures", "step", "way", "signs", "grouped", "scaled", "unit"] 1 ["places", "figures", "step", "way", "signs", "grouped", "scaled", "unit"] (fun us ws => g_Wish_init_ord us mv_Wish_init_ord ws) (fun vs zs => g_Wish_init_ord vs [] zs)
  ds_Wish_init_none : List Value
  d_Wish_init_none : Vals [V.ref A_PLACES, V.non, V.non, V.str "half even", V.str "minus", V.bl true, V.bl false, V.ref A_UNIT] ds_Wish_init_none
  b_Wish_init_none : Binds K fd_Wish_init ["self", "places", "figures", "step", "way", "signs", "grouped", "scaled", "unit"] ds_Wish_init_none
  mv_Wish_init_four : List Value
  kb_Wish_init_four : KBn K fd_Wish_init ["self", "places", "figures", "step", "way", "signs", "grouped", "scaled", "unit"] 1 ["unit", "way", "signs", "places"] (fun us ws => g_Wish_init_four us mv_Wish_init_four ws) (fun vs zs => g_Wish_init_four vs [V.non, V.non, V.bl true, V.bl false] zs)
  mv_Wish_init_two : List Value
  kb_Wish_init_two : KBn K fd_Wish_init ["self", "places", "figures", "step", "way", "signs", "grouped", "scaled", "unit"] 1 ["grouped", "step"] (fun us ws => g_Wish_init_two us mv_Wish_init_two ws) (fun vs zs => g_Wish_init_two vs [V.ref A_PLACES, V.non, V.str "half even", V.str "minus", V.bl false, V.ref A_UNIT] zs)
  mv_Wish_init_one_places : List Value
  kb_Wish_init_one_places : KBn K fd_Wish_init ["self", "places", "figures", "step", "way", "signs", "grouped", "scaled", "unit"] 1 ["places"] (fun us ws => g_Wish_init_one_places us mv_Wish_init_one_places ws) (fun vs zs => g_Wish_init_one_places vs [V.non, V.non, V.str "half even", V.str "minus", V.bl true, V.bl false, V.ref A_UNIT] zs)
  mv_Wish_init_one_figures : List Value
  kb_Wish_init_one_figures : KBn K fd_Wish_init ["self", "places", "figures", "step", "way", "signs", "grouped", "scaled", "unit"] 1 ["figures"] (fun us ws => g_Wish_init_one_figures us mv_Wish_init_one_figures ws) (fun vs zs => g_Wish_init_one_figures vs [V.ref A_PLACES, V.non, V.str "half even", V.str "minus", V.bl true, V.bl false, V.ref A_UNIT] zs)
  mv_Wish_init_one_step : List Value
  kb_Wish_init_one_step : KBn K fd_Wish_init ["self", "places", "figures", "step", "way", "signs", "grouped", "scaled", "unit"] 1 ["step"] (fun us ws => g_Wish_init_one_step us mv_Wish_init_one_step ws) (fun vs zs => g_Wish_init_one_step vs [V.ref A_PLACES, V.non, V.str "half even", V.str "minus", V.bl true, V.bl false, V.ref A_UNIT] zs)
  mv_Wish_init_one_way : List Value
  kb_Wish_init_one_way : KBn K fd_Wish_init ["self", "places", "figures", "step", "way", "signs", "grouped", "scaled", "unit"] 1 ["way"] (fun us ws => g_Wish_init_one_way us mv_Wish_init_one_way ws) (fun vs zs => g_Wish_init_one_way vs [V.ref A_PLACES, V.non, V.non, V.str "minus", V.bl true, V.bl false, V.ref A_UNIT] zs)
  mv_Wish_init_one_signs : List Value
  kb_Wish_init_one_signs : KBn K fd_Wish_init ["self", "places", "figures", "step", "way", "signs", "grouped", "scaled", "unit"] 1 ["signs"] (fun us ws => g_Wish_init_one_signs us mv_Wish_init_one_signs ws) (fun vs zs => g_Wish_init_one_signs vs [V.ref A_PLACES, V.non, V.non, V.str "half even", V.bl true, V.bl false, V.ref A_UNIT] zs)
  mv_Wish_init_one_grouped : List Value
  kb_Wish_init_one_grouped : KBn K fd_Wish_init ["self", "places", "figures", "step", "way", "signs", "grouped", "scaled", "unit"] 1 ["grouped"] (fun us ws => g_Wish_init_one_grouped us mv_Wish_init_one_grouped ws) (fun vs zs => g_Wish_init_one_grouped vs [V.ref A_PLACES, V.non, V.non, V.str "half even", V.str "minus", V.bl false, V.ref A_UNIT] zs)
  mv_Wish_init_one_scaled : List Value
  kb_Wish_init_one_scaled : KBn K fd_Wish_init ["self", "places", "figures", "step", "way", "signs", "grouped", "scaled", "unit"] 1 ["scaled"] (fun us ws => g_Wish_init_one_scaled us mv_Wish_init_one_scaled ws) (fun vs zs => g_Wish_init_one_scaled vs [V.ref A_PLACES, V.non, V.non, V.str "half even", V.str "minus", V.bl true, V.ref A_UNIT] zs)
  mv_Wish_init_one_unit : List Value
  kb_Wish_init_one_unit : KBn K fd_Wish_init ["self", "places", "figures", "step", "way", "signs", "grouped", "scaled", "unit"] 1 ["unit"] (fun us ws => g_Wish_init_one_unit us mv_Wish_init_one_unit ws) (fun vs zs => g_Wish_init_one_unit vs [V.ref A_PLACES, V.non, V.non, V.str "half even", V.str "minus", V.bl true, V.bl false] zs)
  F_Wish_but : FunD K "but" "Wish.but" (defArgs s_Wish_but) (defBody s_Wish_but) (defScope s_Wish_but) [] [(("places" : Str), V.non), (("figures" : Str), V.non), (("step" : Str), V.non), (("way" : Str), V.non), (("signs" : Str), V.non), (("grouped" : Str), V.non), (("scaled" : Str), V.non), (("unit" : Str), V.non)] f_Wish_but fd_Wish_but
  mv_Wish_but_sf : List Value
  kb_Wish_but_sf : KBn K fd_Wish_but ["self", "places", "figures", "step", "way", "signs", "grouped", "scaled", "unit"] 1 ["scaled", "figures"] (fun us ws => g_Wish_but_sf us mv_Wish_but_sf ws) (fun vs zs => g_Wish_but_sf vs [V.non, V.non, V.non, V.non, V.non, V.non] zs)
  m_gcd : mg "gcd" = some (.builtin "math.gcd")
  n_range : mg "range" = none
  n_isinstance : mg "isinstance" = none
  n_str : mg "str" = none
  n_int : mg "int" = none
  n_list : mg "list" = none
  n_len : mg "len" = none
  n_max : mg "max" = none
  n_bool : mg "bool" = none
  n_repr : mg "repr" = none
  n_tuple : mg "tuple" = none
  n_dict : mg "dict" = none
  n_all : mg "all" = none
  A_WAYS : Addr
  m_WAYS : mg "WAYS" = some (.ref A_WAYS)
  t_WAYS : ∀ H : Hp, SqT K H A_WAYS [.str "up", .str "down", .str "high", .str "low", .str "half up", .str "half down", .str "half even", .str "half odd"]
  u_WAY : Value
  m_WAY : mg "WAY" = some u_WAY
  r_WAY : RelV (.str "half even") u_WAY
  u_MOST_PLACES : Value
  m_MOST_PLACES : mg "MOST_PLACES" = some u_MOST_PLACES
  r_MOST_PLACES : RelV (.int 12) u_MOST_PLACES
  u_MOST_FIGURES : Value
  m_MOST_FIGURES : mg "MOST_FIGURES" = some u_MOST_FIGURES
  r_MOST_FIGURES : RelV (.int 12) u_MOST_FIGURES
  u_MOST_UNIT : Value
  m_MOST_UNIT : mg "MOST_UNIT" = some u_MOST_UNIT
  r_MOST_UNIT : RelV (.int 6) u_MOST_UNIT

section
variable {P : Program} {w : World} {K : PySem.W.Frag} {mg : Str → Option Value} {base : Heap}
/-! ### Number -/
def nf (q : Rat) : List (Str × V) := [("top", .int q.num), ("bottom", .int (q.den : Int))]
theorem tb_ : ¬ (("top" : Str) = "bottom") := by decide +kernel
theorem bt_ : ¬ (("bottom" : Str) = "top") := by decide +kernel
theorem nf_put (a b : Int) : putF "bottom" (.int b) (putF "top" (.int a) []) = ([("top", V.int a), ("bottom", V.int b)] : List (Str × V)) := by
  show (if ("top" : Str) = "bottom" then [(("top" : Str), V.int b)] else (("top" : Str), V.int a) :: putF "bottom" (V.int b) []) = ([("top", V.int a), ("bottom", V.int b)] : List (Str × V))
  rw [if_neg tb_]
  all_goals rfl
theorem nf_top (q : Rat) : (nf q).lookup ("top" : Str) = some (.int q.num) := by
  have e : (("top" : Str) == "top") = true := by decide +kernel
  unfold nf
  simp only [List.lookup, e]
theorem nf_bottom (q : Rat) : (nf q).lookup ("bottom" : Str) = some (.int (q.den : Int)) := by
  have e : (("bottom" : Str) == "top") = false := by decide +kernel
  have e' : (("bottom" : Str) == "bottom") = true := by decide +kernel
  unfold nf
  simp only [List.lookup, e, e']
theorem nf_no (q : Rat) {m : Str} (h1 : (m == "top") = false) (h2 : (m == "bottom") = false) : (nf q).lookup m = none := by
  unfold nf
  simp only [List.lookup, h1, h2]
/-- the Number q stands at p -/
def NumAt (C : Addr) (H : Hp) (p : Addr) (q : Rat) : Prop := ∃ dx, H p = some (.ins C dx (nf q))
theorem NumAt.same {C : Addr} {H H' : Hp} {p : Addr} {q : Rat} (s : Same H H') (h : NumAt C H p q) : NumAt C H' p q := let ⟨dx, e⟩ := h; ⟨dx, s _ _ e⟩

def spInit (C : Addr) : Sp := fun vs H Q _ => ∃ (p dx : Addr) (t b : Int), vs = [.ref p, .int t, .int b] ∧ H p = some (.ins C dx []) ∧ b ≠ 0 ∧ b.natAbs < 2 ^ 9000 ∧ Q .non (upd H p (.ins C dx (nf (Rat.divInt t b))))
theorem ok_Number_init (T : Txt w K mg) : FnOk P w K mg base CX0 1 T.f_Number_init T.fd_Number_init ["self", "top", "bottom"] (spInit T.C_Number) := by
  refine T.F_Number_init.ok sc_Number_init (fun vs H Q E h => ?_) (fun cdv A outer s H vs Q E hr h => ?_)
  · obtain ⟨p, dx, t, b, rfl, _⟩ := h
    rfl
  · obtain ⟨p, dx, t, b, rfl, hp, hb, hl, k⟩ := h
    refine ⟨_, (pss_cons (ps_if (pt_cmpR op_eq (pv 2) pe_int (nomark _))
  (pss_one ps_never)
  pss_nil)
 (pss_cons (ps_set (i := 3) sc_Number_init.nd rfl (Or.inl rfl) (pe_callBfun cr_gcd (by rfl) T.m_gcd (pa_cons (pv 1) (pa_cons (pv 2) pa_nil))))
 (pss_cons (ps_if (pt_cmpR op_lt (pv 2) pe_int (nomark _))
  (pss_one (ps_set (i := 3) sc_Number_init.nd rfl (Or.inl rfl) (pe_un un_neg (pv 3))))
  pss_nil)
 (pss_cons (ps_fld (pv 0) (pe_op op_fdivA (pv 1) (pv 3)) rfl)
 (pss_one (ps_fld (pv 0) (pe_op op_fdivA (pv 2) (pv 3)) rfl)))))), ?_⟩
    walk_at "rd"
    refine r_iteF (decide_eq_false hb) ?_
    walk_at "rd"
    refine ⟨_, _, rfl, ?_⟩
    have fin : ∀ c : Int, c = cdiv t b → sFld K (tVar 0) (tOp (rI CDivA fun i j => .int (i.fdiv j)) (tVar 1) (tVar 3)) "top" ⟨sFld K (tVar 0) (tOp (rI CDivA fun i j => .int (i.fdiv j)) (tVar 2) (tVar 3)) "bottom" ⟨fun _ H' => Q .non H', Q, fun _ _ => False, fun _ _ => False⟩, Q, fun _ _ => False, fun _ _ => False⟩ [some (.ref p), some (.int t), some (.int b), some (.int c)] H := by
      rintro c rfl
      have hg := gcd_pos (t := t) hb
      have hc : CDivA t (cdiv t b) ∧ CDivA b (cdiv t b) := by
        have n0 : cdiv t b ≠ 0 := by unfold cdiv; split <;> omega
        have nb : (cdiv t b).natAbs < 2 ^ 9000 := by
          have le : Nat.gcd t.natAbs b.natAbs ≤ b.natAbs := Nat.le_of_dvd (by omega) (Nat.gcd_dvd_right _ _)
          have e : (cdiv t b).natAbs = Nat.gcd t.natAbs b.natAbs := by unfold cdiv; split <;> omega
          rw [e]
          exact Nat.lt_of_le_of_lt le hl
        exact ⟨cdivA n0 nb (by decide) (Nat.le_refl _), cdivA n0 nb (by decide) (Nat.le_refl _)⟩
      walk_at "rd"
      refine r_I hc.1 ?_
      walk_at "rd"
      refine ⟨p, T.C_Number, dx, [], rfl, hp, T.c_Number, T.n_Number_top, (by show 0 < 1000; decide), ?_⟩
      walk_at "rd"
      refine r_I hc.2 ?_
      walk_at "rd"
      refine ⟨p, T.C_Number, dx, _, rfl, upd_same, T.c_Number, T.n_Number_bottom, (by show 1 < 1000; decide), ?_⟩
      show Q .non (upd (upd H p _) p (.ins T.C_Number dx (putF "bottom" _ (putF "top" _ []))))
      rw [upd_upd, nf_put, num_of hb, den_of hb]
      exact k
    walk_at "rd"
    refine r_ite (fun hn => ?_) (fun hn => ?_)
    · iterate 5 walk_at "rd1"
      refine fin _ ?_
      unfold cdiv
      rw [if_pos (of_decide_eq_true hn)]
    · iterate 1 walk_at "rd1"
      refine fin _ ?_
      unfold cdiv
      rw [if_neg (of_decide_eq_false hn)]
end
end My
local macro_rules | `(tactic| walk_at "fld") => `(tactic| refine My.r_fld (by assumption) (by assumption) (by assumption) (by first | exact My.nf_top _ | exact My.nf_bottom _) ?_)
local macro_rules | `(tactic| walk_at "rdf") => `(tactic| (repeat (first | walk_at "rd1" | walk_at "fld")))


namespace My
open PySem L2
section
variable {P : Program} {w : World} {K : PySem.W.Frag} {mg : Str → Option Value} {base : Heap}
/-- a Number made at once -/
theorem mk_num {C : Addr} {H : Hp} {t b : Int} {R : Addr → Hp → Prop} {E : XK} (hb : b ≠ 0) (hl : b.natAbs < 2 ^ 9000) (q : ∀ (p : Addr) (H' : Hp), Same H H' → H p = none → NumAt C H' p (Rat.divInt t b) → R p H') :
    ∀ x dx, H x = none → H dx = none → dx ≠ x → spInit C (.ref x :: ([V.int t, V.int b] ++ [])) (upd (upd H dx (.own x)) x (.ins C dx [])) (fun v H2 => v = .non ∧ R x H2) E := by
  intro x dx nx ndx ne
  refine ⟨x, dx, t, b, rfl, upd_same, hb, hl, rfl, q x _ (fun y o e => ?_) nx ⟨dx, upd_same⟩⟩
  rw [upd_ne (ne_of_none e nx), upd_ne (ne_of_none e nx), upd_ne (ne_of_none e ndx)]
  exact e
theorem mk_num1 {C : Addr} {H : Hp} {t : Int} {R : Addr → Hp → Prop} {E : XK} (q : ∀ (p : Addr) (H' : Hp), Same H H' → H p = none → NumAt C H' p (t : Rat) → R p H') :
    ∀ x dx, H x = none → H dx = none → dx ≠ x → spInit C (.ref x :: ([V.int t] ++ [V.int 1])) (upd (upd H dx (.own x)) x (.ins C dx [])) (fun v H2 => v = .non ∧ R x H2) E :=
  mk_num (by decide) (Nat.lt_of_lt_of_le (by decide : Int.natAbs 1 < 2 ^ 1) (Nat.pow_le_pow_right (by decide) (by decide))) fun p H' s n h => q p H' s n (divInt_one t ▸ h)
/-- two Numbers in, one out -/
def spBin (C : Addr) (f : Rat → Rat → Rat) (ok : Rat → Rat → Prop) : Sp := fun vs H Q _ => ∃ (p q : Addr) (x y : Rat), vs = [.ref p, .ref q] ∧ NumAt C H p x ∧ NumAt C H q y ∧ Bd 4000 x ∧ Bd 4000 y ∧ ok x y ∧
  ∀ (r : Addr) (H' : Hp), Same H H' → H r = none → NumAt C H' r (f x y) → Q (.ref r) H'
theorem bd_den {n : Nat} {x : Rat} (h : Bd n x) : ((x.den : Nat) : Int).natAbs < 2 ^ n := by have := h.2; omega
theorem dd_ne (x y : Rat) : (x.den : Int) * (y.den : Int) ≠ 0 := Int.mul_ne_zero (den_ne x) (den_ne y)
theorem dd_lt {x y : Rat} (hx : Bd 4000 x) (hy : Bd 4000 y) : ((x.den : Int) * (y.den : Int)).natAbs < 2 ^ 9000 := natAbs_mul_lt (bd_den hx) (bd_den hy) (by decide)
theorem cm {i j : Int} (hi : i.natAbs < 2 ^ 4000) (hj : j.natAbs < 2 ^ 4000) : CMulW i j := wide_mul hi hj (by decide) (by decide) (by decide)
end
end My

namespace My
open PySem L2
section
variable {P : Program} {w : World} {K : PySem.W.Frag} {mg : Str → Option Value} {base : Heap}
def optV : Option Nat → V
  | some n => .int (n : Int)
  | none => .non
def optD : Option Nat → PyData
  | some n => .int (n : Int)
  | none => .none
theorem dp_opt {K : PySem.W.Frag} {H : Hp} (v : Option Nat) : Dp K H (optV v) (optD v) := by
  cases v with
  | none => exact .non
  | some n => exact .int _
theorem nat9 {n : Nat} (h : n < 2 ^ 900) : (n : Int).natAbs < 2 ^ 9000 := Nat.lt_of_lt_of_le (show (n : Int).natAbs < 2 ^ 900 by omega) (Nat.pow_le_pow_right (by decide) (by decide))
def spTimes : Sp := fun vs H Q _ => ∃ (p v : Nat), vs = [.int (p : Int), .int (v : Int)] ∧ (p = 2 ∨ p = 5) ∧ 0 < v ∧ ∀ (a : Addr) (m r : Nat) (H' : Hp), Same H H' → H' a = some (.tup [.int (m : Int), .int (r : Int)]) → v = p ^ m * r → ¬ p ∣ r → 0 < r → Q (.ref a) H'
theorem ok_times_within (T : Txt w K mg) : FnOk P w K mg base CX0 1 T.f_times_within T.fd_times_within ["factor", "whole"] spTimes := by
  refine T.F_times_within.ok sc_times_within (fun vs H Q E h => ?_) (fun cdv A outer s H vs Q E hr h => ?_)
  · obtain ⟨p, v, rfl, _⟩ := h
    rfl
  · obtain ⟨p, v, rfl, hp, hv, k⟩ := h
    refine ⟨_, (pss_cons (ps_set (i := 2) sc_times_within.nd rfl (Or.inl rfl) pe_int)
 (pss_cons (ps_while PassesOwn.never (pt_cmpR op_eq (pe_op op_mod (pv 1) (pv 0)) pe_int (nomark _))
  (pss_cons (ps_set (i := 1) sc_times_within.nd rfl (Or.inl rfl) (pe_op op_fdivW (pv 1) (pv 0)))
 (pss_one (ps_aug (i := 2) sc_times_within.nd rfl (Or.inl rfl) pe_int ip_add))))
 (pss_one (ps_ret (pe_tup (pa_cons (pv 2) (pa_cons (pv 1) pa_nil))))))), ?_⟩
    have p0 : (0 : Int) < (p : Int) := by omega
    have p9 : (p : Int).natAbs < 2 ^ 9000 := Nat.lt_of_lt_of_le (show (p : Int).natAbs < 2 ^ 4 by omega) (Nat.pow_le_pow_right (by decide) (by decide))
    walk_at "rdg"
    refine ⟨fun m σ H' => ∃ (j r : Nat), σ = [some (.int (p : Int)), some (.int (r : Int)), some (.int (j : Int))] ∧ H' = H ∧ v = p ^ j * r ∧ 0 < r ∧ m = r, ⟨v, 0, v, rfl, rfl, by rw [Nat.pow_zero, Nat.one_mul], hv, rfl⟩, ?_⟩
    rintro m σ H' ⟨j, r, rfl, rfl, ev, rp, rfl⟩
    walk_at "rdg"
    refine r_I p0 ?_
    walk_at "rdg"
    refine r_ite (fun e => ?_) (fun e => ?_)
    · have e' : m % p = 0 := by have := of_decide_eq_true e; omega
      have em : m = p * (m / p) := take_out e' rfl
      have mp : 0 < m / p := Nat.pos_of_ne_zero fun z => by rw [z, Nat.mul_zero] at em; omega
      refine ⟨fun σ' H2 => σ' = [some (.int (p : Int)), some (.int ((m : Int) / (p : Int))), some (.int ((j : Int) + 1))] ∧ H2 = H', ?_, ?_⟩
      · rintro σ' H2 ⟨rfl, rfl⟩
        refine ⟨m / p, Nat.div_lt_self rp (by omega), j + 1, m / p, rfl, rfl, ?_, mp, rfl⟩
        rw [ev, Nat.pow_succ, Nat.mul_assoc, ← em]
      · walk_at "rdg"
        refine r_I (wide_div p0 p9 (by decide) (Nat.le_refl _)) ?_
        walk_at "rdg"
        exact ⟨rfl, rfl⟩
    · have e' : ¬ p ∣ m := fun z => by
        have := Nat.mod_eq_zero_of_dvd z
        have f := of_decide_eq_false e
        omega
      walk_at "rdg"
      refine r_new (by show 2 ≤ 1000; decide) fun a ha => ?_
      exact k a j m _ (Same.new ha) upd_same ev e' rp
def spPlaces (C : Addr) : Sp := fun vs H Q _ => ∃ (a : Addr) (x : Rat), vs = [.ref a] ∧ NumAt C H a x ∧ ∀ (v : Option Nat) (H' : Hp), Same H H' → Least x.den v → Q (optV v) H'
theorem ok_places_of (T : Txt w K mg) : FnOk P w K mg base CX0 2 T.f_places_of T.fd_places_of ["number"] (spPlaces T.C_Number) := by
  refine T.F_places_of.ok sc_places_of (fun vs H Q E h => ?_) (fun cdv A outer s H vs Q E hr h => ?_)
  · obtain ⟨a, x, rfl, _⟩ := h
    rfl
  · obtain ⟨a, x, rfl, ⟨dx, ha⟩, k⟩ := h
    have cN := T.c_Number
    have nT := T.n_Number_top
    have nB := T.n_Number_bottom
    refine ⟨_, (pss_cons (ps_asg (pe_call (ok_times_within T) (hr.mono (by decide)) (by rfl) T.m_times_within T.F_times_within.kp T.b_times_within .nil pass0 (pa_cons pe_int (pa_cons (pe_fld (pv 0) rfl) pa_nil))) (pg_tup rfl (pgs_cons (pg_name (i := 1) sc_places_of.nd rfl (Or.inl rfl)) (pgs_cons (pg_name (i := 2) sc_places_of.nd rfl (Or.inl rfl)) pgs_nil))))
 (pss_cons (ps_asg (pe_call (ok_times_within T) (hr.mono (by decide)) (by rfl) T.m_times_within T.F_times_within.kp T.b_times_within .nil pass0 (pa_cons pe_int (pa_cons (pv 2) pa_nil))) (pg_tup rfl (pgs_cons (pg_name (i := 3) sc_places_of.nd rfl (Or.inl rfl)) (pgs_cons (pg_name (i := 2) sc_places_of.nd rfl (Or.inl rfl)) pgs_nil))))
 (pss_cons (ps_if (pt_cmpR op_ne (pv 2) pe_int (nomark _))
  (pss_one (ps_ret pe_non))
  pss_nil)
 (pss_one (ps_ret (pe_callB (call_max2 rfl) (by rfl) T.n_max (by decide +kernel) (pa_cons (pv 1) (pa_cons (pv 3) pa_nil)))))))), ?_⟩
    walk_at "rdf"
    refine ⟨2, x.den, rfl, .inl rfl, x.den_pos, fun t1 m1 r1 H1 s1 h1 e1 n1 p1 => ?_⟩
    refine r_gTup h1 rfl ?_
    walk_at "rdg"
    refine ⟨5, r1, rfl, .inr rfl, p1, fun t2 m2 r2 H2 s2 h2 e2 n2 p2 => ?_⟩
    refine r_gTup h2 rfl ?_
    walk_at "rdg"
    have n2' : ¬ 2 ∣ r2 := fun z => n1 (by rw [e2]; exact Nat.dvd_trans z (Nat.dvd_mul_left _ _))
    have le := least_of (b := x.den) (a := m1) (c := m2) (r := r2) (by rw [e1, e2, Nat.mul_assoc]) n2' n2
    have kk := k _ H2 (s1.trans s2) le
    refine r_ite (fun e => ?_) (fun e => ?_)
    · have r1' : r2 ≠ 1 := by
        have : ¬ ((r2 : Int) = 1) := by simpa using e
        omega
      walk_at "rdg"
      rw [if_neg r1'] at kk
      exact kk
    · have r1' : r2 = 1 := by
        have : (r2 : Int) = 1 := by simpa using e
        omega
      walk_at "rdg"
      refine ⟨_, _, rfl, ?_⟩
      rw [if_pos r1'] at kk
      have em : (if (m2 : Int) > (m1 : Int) then (m2 : Int) else (m1 : Int)) = ((max m1 m2 : Nat) : Int) := by split <;> omega
      rw [em]
      exact kk
end
end My

namespace My
open PySem L2 TL
theorem call_isiK {X : Cx} {K0 : PySem.W.Frag} (hK : X.K = K0) : CallR X (.builtin "isinstance") (rIsi K0) := by
  subst hK
  exact call_isi
theorem pe_fldK {X : Cx} {e : Expr} {f : Str} {pos : Pos} {ta : TE} {K0 : PySem.W.Frag} (hK : X.K = K0) (he : PE X e ta) (hb : attributeBase e f X.env (eval e X.env) = eval e X.env) : PE X (.Attribute e f pos) (tFld K0 ta f) := by
  subst hK
  exact pe_fld he hb
/-! ### the fields of a wish -/
structure Wf where
  pa : Int
  pb : Int
  fig : Option Int
  stp : Option Rat
  way : Str
  sg : Str
  gr : Bool
  sc : Bool
  u0 : Str
  u1 : Str
def intO : Option Int → V
  | none => .non
  | some i => .int i
inductive StpAt (C : Addr) (H : Hp) : V → Option Rat → Prop
  | none : StpAt C H .non none
  | some {p : Addr} {x : Rat} : NumAt C H p x → StpAt C H (.ref p) (some x)
theorem StpAt.same {C : Addr} {H H' : Hp} {v : V} {x : Option Rat} (s : Same H H') (h : StpAt C H v x) : StpAt C H' v x := by
  cases h with
  | none => exact .none
  | some h => exact .some (h.same s)
def whB (i lo hi : Int) : Bool := decide (lo ≤ i) && decide (i ≤ hi)
def placesOk (a b : Int) : Bool := (whB a 0 12 && whB b 0 12) && decide (a ≤ b)
def figOk : Option Int → Bool
  | none => true
  | some n => whB n 1 12
def stepOk (x : Rat) (b : Int) : Bool := decide (0 < x.num) && decide (x.den ∣ 10 ^ b.toNat)
def startB (z : Str) : Bool := decide ((tl z).head? = some 32)
def endB (z : Str) : Bool := decide ((tl z).getLast? = some 32)
def unitOk (u0 u1 : Str) : Bool := (decide (u0.length ≤ 6) && decide (u1.length ≤ 6)) && (!startB u0 && !endB u1)
def waysL : List Str := ["up", "down", "high", "low", "half up", "half down", "half even", "half odd"]
def stOk (f : Wf) : Bool := match f.stp with
  | none => true
  | some x => f.fig.isNone && stepOk x f.pb
/-- the first field that isn't right -/
def firstW (f : Wf) : Option Str :=
  if placesOk f.pa f.pb = false then some "places" else
  if figOk f.fig = false then some "figures" else
  if stOk f = false then some "step" else
  if decide (f.way ∈ waysL) = false then some "way" else
  if decide (f.sg = "minus" ∨ f.sg = "all") = false then some "signs" else
  if (f.sc && f.stp.isSome) = true then some "scaled" else
  if unitOk f.u0 f.u1 = false then some "unit" else none
section
variable {P : Program} {w : World} {K : PySem.W.Frag} {mg : Str → Option Value} {base : Heap}
/-- the eight values in order -/
structure VsAt (K : PySem.W.Frag) (C : Addr) (H : Hp) (vs : List V) (f : Wf) : Prop where
  ex : ∃ (pl un : Addr) (sv : V), vs = [.ref pl, intO f.fig, sv, .str f.way, .str f.sg, .bl f.gr, .bl f.sc, .ref un] ∧ SqT K H pl [.int f.pa, .int f.pb] ∧ StpAt C H sv f.stp ∧ SqT K H un [.str f.u0, .str f.u1]
theorem VsAt.same {C : Addr} {H H' : Hp} {vs : List V} {f : Wf} (s : Same H H') (h : VsAt K C H vs f) : VsAt K C H' vs f := by
  obtain ⟨pl, un, sv, e, h1, h2, h3⟩ := h.ex
  exact ⟨pl, un, sv, e, SqT.ext h1 s, h2.same s, SqT.ext h3 s⟩
theorem is_tupS {H : Hp} {p : Addr} {xs : List V} {Q : VK} (h : SqT K H p xs) (q : Q (.bl true) H) : rIsi K [.ref p, .ty "tuple"] H Q := by
  rcases h with h | ⟨o, its, n, l, c, _⟩
  · rcases h with h | ⟨o, h⟩
    · exact ⟨.ref p, .ty "tuple", .type "tuple", .type "tuple", true, rfl, .ty "tuple", .base (.tup h), kit_ty (by decide +kernel), q⟩
    · exact ⟨.ref p, .ty "tuple", .type "tuple", .type "tuple", true, rfl, .ty "tuple", .fTuple h, kit_ty (by decide +kernel), q⟩
  · exact ⟨.ref p, .ty "tuple", .type "tuple", .type "tuple", true, rfl, .ty "tuple", .kTuple l c, kit_ty (by decide +kernel), q⟩
theorem is_intI {H : Hp} {z : Int} {Q : VK} (q : Q (.bl true) H) : rIsi K [.int z, .ty "int"] H Q :=
  ⟨.int z, .ty "int", .type "int", .type "int", true, rfl, .ty "int", .base (.int z), kit_ty (by decide +kernel), q⟩
theorem not_boolI {H : Hp} {z : Int} {Q : VK} (q : Q (.bl false) H) : rIsi K [.int z, .ty "bool"] H Q :=
  ⟨.int z, .ty "bool", .type "int", .type "bool", false, rfl, .ty "bool", .base (.int z), kit_ty (by decide +kernel), q⟩
theorem is_boolB {H : Hp} {z : Bool} {Q : VK} (q : Q (.bl true) H) : rIsi K [.bl z, .ty "bool"] H Q :=
  ⟨.bl z, .ty "bool", .type "bool", .type "bool", true, rfl, .ty "bool", .base (.bl z), kit_ty (by decide +kernel), q⟩
theorem is_strS {H : Hp} {z : Str} {Q : VK} (q : Q (.bl true) H) : rIsi K [.str z, .ty "str"] H Q :=
  ⟨.str z, .ty "str", .type "str", .type "str", true, rfl, .ty "str", .base (.str z), kit_ty (by decide +kernel), q⟩
theorem is_numN (T : Txt w K mg) {H : Hp} {p : Addr} {q : Rat} {Q : VK} (h : NumAt T.C_Number H p q) (k : Q (.bl true) H) : rIsi K [.ref p, .ref T.C_Number] H Q := by
  obtain ⟨dx, e⟩ := h
  exact ⟨.ref p, .ref T.C_Number, .ref T.C_Number, .ref T.C_Number, true, rfl, .own _, .base (.ins e T.c_Number T.ty_Number_c T.ty_Number_g T.ty_Number_t T.ty_Number_m), T.ty_Number_k, k⟩
theorem non_num (T : Txt w K mg) {H : Hp} {Q : VK} (k : Q (.bl false) H) : rIsi K [.non, .ref T.C_Number] H Q :=
  ⟨_, .ref T.C_Number, .type _, .ref T.C_Number, false, rfl, .own _, .base .non, T.kN_not _ (by simp [kinds66]), k⟩
theorem r_ixS {p : Addr} {xs : List V} {i : Int} {v : V} {H : Hp} {Q : VK} (h : SqT K H p xs) (a : atI xs i = some v) (q : Q v H) : rIxT K (.ref p) (.int i) H Q := ⟨p, xs, i, v, rfl, rfl, h, a, q⟩
theorem r_chainW {r r' : R2} {ta tb tc : TE} {σ : L2.St} {H : Hp} {Q : VK} (q : ta σ H fun x H1 => tb σ H1 fun y H2 => r x y H2 fun z H3 => ∃ k, z = .bl k ∧ (if k = true then tc σ H3 fun w' H4 => r' y w' H4 Q else Q (.bl false) H3)) : tChain r r' ta tb tc σ H Q := q
theorem pass0N {X : Cx} : Passes (L2N.CX X.prog X.w) X E0 := fun _ _ _ _ _ _ _ h => by
  obtain ⟨_, _, _, _, _, _, _, _, _, _, _, _, _, _, z⟩ := h
/-! ### the program's checks -/
def spWholeI : Sp := fun vs H Q _ => ∃ i : Int, vs = [.int i] ∧ Q (.bl true) H
theorem ok_is_whole (T : Txt w K mg) : FnOk P w K mg base CX0 1 T.f_is_whole T.fd_is_whole ["thing"] spWholeI := by
  refine T.F_is_whole.ok sc_is_whole (fun vs H Q E h => ?_) (fun cdv A outer s H vs Q E hr h => ?_)
  · obtain ⟨i, rfl, _⟩ := h
    rfl
  · obtain ⟨i, rfl, k⟩ := h
    refine ⟨_, (pss_one (ps_ret (pe_and (pe_callB call_isi (by rfl) T.n_isinstance (by decide +kernel) (pa_cons (pv 0) (pa_cons (pe_bltn (v := .ty "int") (by rfl) T.n_int (by decide +kernel) rfl) pa_nil))) (pe_one (pe_not (pe_callB call_isi (by rfl) T.n_isinstance (by decide +kernel) (pa_cons (pv 0) (pa_cons (pe_bltn (v := .ty "bool") (by rfl) T.n_bool (by decide +kernel) rfl) pa_nil)))))))), ?_⟩
    walk_at "rdh"
    refine is_intI ?_
    walk_at "rdh"
    refine r_iteT rfl ?_
    walk_at "rdh"
    refine not_boolI ?_
    walk_at "rdh"
    exact k
def spBetween : Sp := fun vs H Q _ => ∃ i lo hi : Int, vs = [.int i, .int lo, .int hi] ∧ Q (.bl (whB i lo hi)) H
theorem ok_is_whole_between (T : Txt w K mg) : FnOk P w K mg base CX0 2 T.f_is_whole_between T.fd_is_whole_between ["thing", "least", "most"] spBetween := by
  refine T.F_is_whole_between.ok sc_is_whole_between (fun vs H Q E h => ?_) (fun cdv A outer s H vs Q E hr h => ?_)
  · obtain ⟨i, lo, hi, rfl, _⟩ := h
    rfl
  · obtain ⟨i, lo, hi, rfl, k⟩ := h
    refine ⟨_, (pss_one (ps_ret (pe_and (pe_call (ok_is_whole T) (hr.mono (by decide)) (by rfl) T.m_is_whole T.F_is_whole.kp T.b_is_whole .nil pass0 (pa_cons (pv 0) pa_nil)) (pe_one (pe_chain op_le op_le (pv 1) (pv 0) (pv 2)))))), ?_⟩
    unfold whB at k
    walk_at "rdh"
    refine ⟨i, rfl, ?_⟩
    walk_at "rdh"
    refine r_iteT rfl ?_
    walk_at "rdh"
    refine r_chainW ?_
    walk_at "rdh"
    refine r_ite (fun e => ?_) (fun e => ?_)
    · rw [e, Bool.true_and] at k
      walk_at "rdh"
      exact k
    · rw [e, Bool.false_and] at k
      exact k
def spToldOr : Sp := fun vs H Q _ => ∃ a b : V, vs = [a, b] ∧ (a = .non → Q b H) ∧ (a ≠ .non → Q a H)
theorem ok_told_or (T : Txt w K mg) : FnOk P w K mg base CX0 1 T.f_told_or T.fd_told_or ["new", "old"] spToldOr := by
  refine T.F_told_or.ok sc_told_or (fun vs H Q E h => ?_) (fun cdv A outer s H vs Q E hr h => ?_)
  · obtain ⟨a, b, rfl, _⟩ := h
    rfl
  · obtain ⟨a, b, rfl, k0, k1⟩ := h
    refine ⟨_, (pss_cons (ps_if (pt_cmpR op_isN (pv 0) pe_non (nomark _))
  (pss_one (ps_ret (pv 1)))
  pss_nil)
 (pss_one (ps_ret (pv 0)))), ?_⟩
    walk_at "rdh"
    refine ⟨rfl, ?_⟩
    walk_at "rdh"
    refine r_ite (fun e => ?_) (fun e => ?_)
    · walk_at "rdh"
      exact k0 (of_decide_eq_true e)
    · walk_at "rdh"
      exact k1 (of_decide_eq_false e)
def spIsPlaces (K : PySem.W.Frag) : Sp := fun vs H Q _ => ∃ (p : Addr) (a b : Int), vs = [.ref p] ∧ SqT K H p [.int a, .int b] ∧ ∀ H', Same H H' → Q (.bl (placesOk a b)) H'
theorem ok_is_places (T : Txt w K mg) : FnOk P w K mg base CX0 3 T.f_is_places T.fd_is_places ["thing"] (spIsPlaces K) := by
  refine T.F_is_places.ok sc_is_places (fun vs H Q E h => ?_) (fun cdv A outer s H vs Q E hr h => ?_)
  · obtain ⟨p, a, b, rfl, _⟩ := h
    rfl
  · obtain ⟨p, a, b, rfl, hp, k⟩ := h
    refine ⟨_, (pss_one (ps_ret (pe_and (pe_callB call_isi (by rfl) T.n_isinstance (by decide +kernel) (pa_cons (pv 0) (pa_cons (pe_bltn (v := .ty "tuple") (by rfl) T.n_tuple (by decide +kernel) rfl) pa_nil))) (pe_and (pe_cmpR op_eq (pe_callB call_len_seq (by rfl) T.n_len PySem.boot_len (pa_cons (pv 0) pa_nil)) pe_int (nomark _)) (pe_and (pe_callB (cr_all rfl) (by rfl) T.n_all (by decide +kernel) (pa_cons (pe_lc (own := [("part", 1)]) (g := gName 1) (tt := tYes) rfl sc_is_places.nd (pi_tup (pv 0)) (blkOk_by (own := [("part", 1)]) (N := ["thing", "part"]) (sc := defScope s_is_places) (by decide +kernel)) (fun _ _ _ _ _ => pg_name (i := 1) sc_is_places.nd rfl (Or.inl rfl)) (fun _ _ _ _ _ => pts_nil) (fun _ _ _ _ _ => (pe_call (ok_is_whole_between T) (hr.mono (by decide)) (by rfl) T.m_is_whole_between T.F_is_whole_between.kp T.b_is_whole_between .nil pass0 (pa_cons (pv 1) (pa_cons pe_int (pa_cons (pe_glob (by rfl) T.m_MOST_PLACES T.r_MOST_PLACES) pa_nil)))))) pa_nil)) (pe_one (pe_cmpR op_le (pe_ix ix_tup (pv 0) pe_int (fun _ _ => rfl)) (pe_ix ix_tup (pv 0) pe_int (fun _ _ => rfl)) (nomark _)))))))), ?_⟩
    unfold placesOk at k
    walk_at "rdh"
    refine is_tupS hp ?_
    walk_at "rdh"
    refine r_iteT rfl ?_
    walk_at "rdh"
    refine ⟨p, _, rfl, .inr hp, ?_⟩
    walk_at "rdh"
    refine r_iteT rfl ?_
    walk_at "rdh"
    refine r_lcT ?_
    walk_at "rdh"
    refine ⟨p, rfl, ⟨_, hp⟩, fun D hD => ?_⟩
    refine lcT_of (K := K) (zs := [a, b]) (el := V.int) (e := fun z => V.bl (whB z 0 12)) (f := fun _ => true) hp (by show 2 ≤ 1000; decide) hD (i := 1) (fun z H1 R _ h => ?_) (fun v => rfl) (fun z H1 R _ _ h => r_yes h) (fun z H1 R hz _ s1 h => ?_) fun H1 s1 hD1 => ?_
    · walk_at "rdh"
      exact h
    · walk_at "rdh"
      exact ⟨z, 0, 12, rfl, h H1 (Same.refl _)⟩
    have hp1 := SqT.ext hp s1
    refine ⟨D, [whB a 0 12, whB b 0 12], rfl, SqL.of hD1, ?_⟩
    have e1 : [whB a 0 12, whB b 0 12].all id = (whB a 0 12 && whB b 0 12) := by simp
    rw [e1]
    walk_at "rdh"
    refine r_ite (fun e => ?_) (fun e => ?_)
    · rw [e, Bool.true_and] at k
      walk_at "rdh"
      refine r_ixS hp1 (atI_nat (j := 0) rfl) ?_
      walk_at "rdh"
      refine r_ixS hp1 (atI_nat (j := 1) rfl) ?_
      walk_at "rdh"
      exact k _ s1
    · rw [e, Bool.false_and] at k
      exact k _ s1
end
end My

namespace My
open PySem L2 TL
theorem start_eq (z : Str) : Txt.startswith z " " = startB z := by
  unfold Txt.startswith startB
  have y1 : (" " : Str).length = 1 := by decide +kernel
  have hy : (" " : Str).cps.toList = [32] := by decide +kernel
  have hz : z.cps.toList = tl z := rfl
  rw [PySem.StrLaws.subAt_eq, hy, y1, hz, List.drop_zero, len_tl]
  cases tl z with
  | nil => rfl
  | cons c r =>
    rw [Bool.eq_iff_iff]
    simp
theorem end_eq (z : Str) : Txt.endswith z " " = endB z := by
  unfold Txt.endswith endB
  have y1 : (" " : Str).length = 1 := by decide +kernel
  have hy : (" " : Str).cps.toList = [32] := by decide +kernel
  have hz : z.cps.toList = tl z := rfl
  rw [PySem.StrLaws.subAt_eq, hy, y1, hz, len_tl]
  rcases List.eq_nil_or_concat (tl z) with h | ⟨l, c, h⟩
  · rw [h]; rfl
  · rw [h, List.concat_eq_append]
    have : (l ++ [c]).length - 1 = l.length := by simp
    rw [this, Bool.eq_iff_iff]
    simp
def optLe : Option Nat → Int → Bool
  | some n, b => decide ((n : Int) ≤ b)
  | none, _ => false
section
variable {P : Program} {w : World} {K : PySem.W.Frag} {mg : Str → Option Value} {base : Heap}
def spIsStep (C : Addr) : Sp := fun vs H Q _ => ∃ (p : Addr) (x : Rat), vs = [.ref p] ∧ NumAt C H p x ∧ Q (.bl (decide (0 < x.num))) H
theorem ok_is_step (T : Txt w K mg) : FnOk P w K mg base CX0 1 T.f_is_step T.fd_is_step ["thing"] (spIsStep T.C_Number) := by
  refine T.F_is_step.ok sc_is_step (fun vs H Q E h => ?_) (fun cdv A outer s H vs Q E hr h => ?_)
  · obtain ⟨p, x, rfl, _⟩ := h
    rfl
  · obtain ⟨p, x, rfl, hp, k⟩ := h
    have cN := T.c_Number
    have nT := T.n_Number_top
    have nB := T.n_Number_bottom
    refine ⟨_, (pss_one (ps_ret (pe_and (pe_callB call_isi (by rfl) T.n_isinstance (by decide +kernel) (pa_cons (pv 0) (pa_cons (pe_glob (v := .ref T.C_Number) (by rfl) T.m_Number rfl) pa_nil))) (pe_one (pe_cmpR op_gt (pe_fld (pv 0) rfl) pe_int (nomark _)))))), ?_⟩
    walk_at "rdf"
    refine is_numN T hp ?_
    walk_at "rdf"
    refine r_iteT rfl ?_
    obtain ⟨dx, hp⟩ := hp
    walk_at "rdf"
    exact k
theorem step_least {x : Rat} {b : Int} {v : Option Nat} (h : Least x.den v) (b0 : 0 ≤ b) (x0 : 0 < x.num) : stepOk x b = optLe v b := by
  unfold stepOk
  rw [decide_eq_true x0, Bool.true_and]
  cases v with
  | none =>
    refine decide_eq_false fun z => ?_
    exact h _ z
  | some n =>
    show decide _ = decide _
    apply decide_eq_decide.mpr
    obtain ⟨h1, h2⟩ := h
    constructor
    · intro z
      have := h2 _ z
      omega
    · intro z
      exact Nat.dvd_trans h1 (Nat.pow_dvd_pow 10 (by omega))
def spStepWithin (C : Addr) : Sp := fun vs H Q _ => ∃ (p : Addr) (x : Rat) (b : Int), vs = [.ref p, .int b] ∧ NumAt C H p x ∧ 0 ≤ b ∧ ∀ H', Same H H' → Q (.bl (stepOk x b)) H'
theorem ok_is_step_within (T : Txt w K mg) : FnOk P w K mg base CX0 3 T.f_is_step_within T.fd_is_step_within ["thing", "most"] (spStepWithin T.C_Number) := by
  refine T.F_is_step_within.ok sc_is_step_within (fun vs H Q E h => ?_) (fun cdv A outer s H vs Q E hr h => ?_)
  · obtain ⟨p, x, b, rfl, _⟩ := h
    rfl
  · obtain ⟨p, x, b, rfl, hp, b0, k⟩ := h
    refine ⟨_, (pss_cons (ps_if (pt_not (pt_val (pe_call (ok_is_step T) (hr.mono (by decide)) (by rfl) T.m_is_step T.F_is_step.kp T.b_is_step .nil pass0 (pa_cons (pv 0) pa_nil))))
  (pss_one (ps_ret pe_bl))
  pss_nil)
 (pss_cons (ps_set (i := 2) sc_is_step_within.nd rfl (Or.inl rfl) (pe_call (ok_places_of T) (hr.mono (by decide)) (by rfl) T.m_places_of T.F_places_of.kp T.b_places_of .nil pass0 (pa_cons (pv 0) pa_nil)))
 (pss_one (ps_ret (pe_and (pe_cmpR op_notN (pv 2) pe_non (nomark _)) (pe_one (pe_cmpR op_le (pv 2) (pv 1) (nomark _)))))))), ?_⟩
    walk_at "rdh"
    refine ⟨p, x, rfl, hp, ?_⟩
    walk_at "rdh"
    refine r_ite (fun e => ?_) (fun e => ?_)
    · walk_at "rdh"
      have : ¬ 0 < x.num := by simpa using e
      have e2 : stepOk x b = false := by unfold stepOk; rw [decide_eq_false this]; rfl
      rw [e2] at k
      exact k _ (Same.refl _)
    have x0 : 0 < x.num := by simpa using e
    walk_at "rdh"
    refine ⟨p, x, rfl, hp, fun v H1 s1 hv => ?_⟩
    have sl := step_least hv b0 x0
    rw [sl] at k
    cases v with
    | none =>
      walk_at "rdh"
      refine ⟨rfl, ?_⟩
      walk_at "rdh"
      exact k _ s1
    | some n =>
      walk_at "rdh"
      refine ⟨rfl, ?_⟩
      walk_at "rdh"
      refine r_iteT rfl ?_
      walk_at "rdh"
      exact ⟨(n : Int), b, rfl, rfl, k _ s1⟩
def spIsUnit (K : PySem.W.Frag) : Sp := fun vs H Q _ => ∃ (p : Addr) (a b : Str), vs = [.ref p] ∧ SqT K H p [.str a, .str b] ∧ a.length ≤ 1000 ∧ b.length ≤ 1000 ∧ ∀ H', Same H H' → Q (.bl (unitOk a b)) H'
theorem ok_is_unit (T : Txt w K mg) : FnOk P w K mg base CX0 1 T.f_is_unit T.fd_is_unit ["thing"] (spIsUnit K) := by
  refine T.F_is_unit.ok sc_is_unit (fun vs H Q E h => ?_) (fun cdv A outer s H vs Q E hr h => ?_)
  · obtain ⟨p, a, b, rfl, _⟩ := h
    rfl
  · obtain ⟨p, a, b, rfl, hp, la, lb, k⟩ := h
    refine ⟨_, (pss_one (ps_ret (pe_and (pe_callB call_isi (by rfl) T.n_isinstance (by decide +kernel) (pa_cons (pv 0) (pa_cons (pe_bltn (v := .ty "tuple") (by rfl) T.n_tuple (by decide +kernel) rfl) pa_nil))) (pe_and (pe_cmpR op_eq (pe_callB call_len_seq (by rfl) T.n_len PySem.boot_len (pa_cons (pv 0) pa_nil)) pe_int (nomark _)) (pe_and (pe_callB (cr_all rfl) (by rfl) T.n_all (by decide +kernel) (pa_cons (pe_lc (own := [("part", 1)]) (g := gName 1) (tt := tYes) rfl sc_is_unit.nd (pi_tup (pv 0)) (blkOk_by (own := [("part", 1)]) (N := ["thing", "part"]) (sc := defScope s_is_unit) (by decide +kernel)) (fun _ _ _ _ _ => pg_name (i := 1) sc_is_unit.nd rfl (Or.inl rfl)) (fun _ _ _ _ _ => pts_nil) (fun _ _ _ _ _ => (pe_and (pe_callB (call_isiK (K0 := K) rfl) (by rfl) T.n_isinstance (by decide +kernel) (pa_cons (pv 1) (pa_cons (pe_bltn (v := .ty "str") (by rfl) T.n_str (by decide +kernel) rfl) pa_nil))) (pe_one (pe_cmpR op_le (pe_callB call_len_str (by rfl) T.n_len PySem.boot_len (pa_cons (pv 1) pa_nil)) (pe_glob (by rfl) T.m_MOST_UNIT T.r_MOST_UNIT) (nomark _)))))) pa_nil)) (pe_and (pe_not (pe_m1 PySem.F.slot_str_startswith PySem.F.type_str_startswith mt_startswith (pe_ix ix_tup (pv 0) pe_int (fun _ _ => rfl)) pe_str)) (pe_one (pe_not (pe_m1 PySem.F.slot_str_endswith PySem.F.type_str_endswith mt_endswith (pe_ix ix_tup (pv 0) pe_int (fun _ _ => rfl)) pe_str))))))))), ?_⟩
    unfold unitOk at k
    have sl : sizeLine = 16777216 := rfl
    walk_at "rdh"
    refine is_tupS hp ?_
    walk_at "rdh"
    refine r_iteT rfl ?_
    walk_at "rdh"
    refine ⟨p, _, rfl, .inr hp, ?_⟩
    walk_at "rdh"
    refine r_iteT rfl ?_
    walk_at "rdh"
    refine r_lcT ?_
    walk_at "rdh"
    refine ⟨p, rfl, ⟨_, hp⟩, fun D hD => ?_⟩
    refine lcT_of (K := K) (zs := [a, b]) (el := V.str) (e := fun z => V.bl (decide (z.length ≤ 6))) (f := fun _ => true) hp (by show 2 ≤ 1000; decide) hD (i := 1) (fun z H1 R _ h => ?_) (fun v => rfl) (fun z H1 R _ _ h => r_yes h) (fun z H1 R hz _ s1 h => ?_) fun H1 s1 hD1 => ?_
    · walk_at "rdh"
      exact h
    · have lz : z.length ≤ 1000 := by
        simp only [List.mem_cons, List.not_mem_nil, or_false] at hz
        rcases hz with rfl | rfl <;> assumption
      walk_at "rdh"
      refine is_strS ?_
      walk_at "rdh"
      refine r_iteT rfl ?_
      walk_at "rdh"
      refine ⟨z, rfl, by omega, ?_⟩
      walk_at "rdh"
      have e : decide ((z.length : Int) ≤ 6) = decide (z.length ≤ 6) := by apply decide_eq_decide.mpr; omega
      rw [e]
      exact h H1 (Same.refl _)
    have hp1 := SqT.ext hp s1
    refine ⟨D, [decide (a.length ≤ 6), decide (b.length ≤ 6)], rfl, SqL.of hD1, ?_⟩
    have e1 : [decide (a.length ≤ 6), decide (b.length ≤ 6)].all id = (decide (a.length ≤ 6) && decide (b.length ≤ 6)) := by simp
    rw [e1]
    walk_at "rdh"
    refine r_ite (fun e => ?_) (fun e => ?_)
    · rw [e, Bool.true_and] at k
      walk_at "rdh"
      refine r_ixS hp1 (atI_nat (j := 0) rfl) ?_
      walk_at "rdh"
      refine ⟨a, _, rfl, rfl, ?_⟩
      rw [start_eq]
      walk_at "rdh"
      refine r_ite (fun e2 => ?_) (fun e2 => ?_)
      · rw [e2, Bool.true_and] at k
        walk_at "rdh"
        refine r_ixS hp1 (atI_nat (j := 1) rfl) ?_
        walk_at "rdh"
        refine ⟨b, _, rfl, rfl, ?_⟩
        rw [end_eq]
        walk_at "rdh"
        exact k _ s1
      · rw [e2, Bool.false_and] at k
        exact k _ s1
    · rw [e, Bool.false_and] at k
      exact k _ s1
end
end My

namespace My
open PySem L2 TL
def optS : Option Str → V
  | none => .non
  | some z => .str z
theorem inV_strs (z : Str) : ∀ xs : List Str, inV (.str z) (xs.map V.str) = decide (z ∈ xs)
  | [] => rfl
  | x :: xs => by
    show (eqV (.str x) (.str z) || inV (.str z) (xs.map V.str)) = _
    rw [inV_strs z xs]
    have e : eqV (.str x) (.str z) = decide (x = z) := by
      show (x == z) = decide (x = z)
      rw [Bool.eq_iff_iff, beq_iff_eq, decide_eq_true_iff]
    rw [e, Bool.eq_iff_iff, Bool.or_eq_true, decide_eq_true_iff, decide_eq_true_iff, decide_eq_true_iff, List.mem_cons]
    constructor
    · rintro (h | h)
      · exact .inl h.symm
      · exact .inr h
    · rintro (h | h)
      · exact .inl h.symm
      · exact .inr h
theorem flat_strsW (xs : List Str) : (xs.map V.str).all flatV = true := by
  rw [List.all_map, List.all_eq_true]
  intro x _
  rfl
section
variable {P : Program} {w : World} {K : PySem.W.Frag} {mg : Str → Option Value} {base : Heap}
theorem r_notInS {H : Hp} {p : Addr} {z : Str} {xs : List Str} {Q : VK} (h : SqT K H p (xs.map V.str)) (q : Q (.bl (!decide (z ∈ xs))) H) : rIn K true (.str z) (.ref p) H Q :=
  ⟨p, _, rfl, .inr h, rfl, flat_strsW xs, by rw [inV_strs]; exact q⟩
def ShortU (f : Wf) : Prop := f.u0.length ≤ 100 ∧ f.u1.length ≤ 100
def spFirst (K : PySem.W.Frag) (C : Addr) : Sp := fun vs H Q _ => ∃ f : Wf, VsAt K C H vs f ∧ ShortU f ∧ ∀ H', Same H H' → Q (optS (firstW f)) H'
theorem ok_first_wrong (T : Txt w K mg) : FnOk P w K mg base CX0 4 T.f_first_wrong T.fd_first_wrong ["places", "figures", "step", "way", "signs", "grouped", "scaled", "unit"] (spFirst K T.C_Number) := by
  refine T.F_first_wrong.ok sc_first_wrong (fun vs H Q E h => ?_) (fun cdv A outer s H vs Q E hr h => ?_)
  · obtain ⟨f, h, _⟩ := h
    obtain ⟨pl, un, sv, rfl, _⟩ := h.ex
    rfl
  · obtain ⟨f, h, su, k⟩ := h
    obtain ⟨pl, un, sv, rfl, hpl, hst, hun⟩ := h.ex
    refine ⟨_, (pss_cons (ps_if (pt_not (pt_val (pe_call (ok_is_places T) (hr.mono (by decide)) (by rfl) T.m_is_places T.F_is_places.kp T.b_is_places .nil pass0 (pa_cons (pv 0) pa_nil))))
  (pss_one (ps_ret pe_str))
  pss_nil)
 (C8.pss_cut (ps_if (PW.pt (pw_and (pt_cmpR op_notN (pv 1) pe_non (nomark _)) (pw_and1 (pt_not (pt_val (pe_call (ok_is_whole_between T) (hr.mono (by decide)) (by rfl) T.m_is_whole_between T.F_is_whole_between.kp T.b_is_whole_between .nil pass0 (pa_cons (pv 1) (pa_cons pe_int (pa_cons (pe_glob (by rfl) T.m_MOST_FIGURES T.r_MOST_FIGURES) pa_nil)))))))))
  (pss_one (ps_ret pe_str))
  pss_nil)
 (C8.pss_cut (ps_if (PW.pt (pw_and (pt_cmpR op_notN (pv 2) pe_non (nomark _)) (pw_and1 (PW.pt (pw_or (pt_cmpR op_notN (pv 1) pe_non (nomark _)) (pw_or1 (pt_not (pt_val (pe_call (ok_is_step_within T) (hr.mono (by decide)) (by rfl) T.m_is_step_within T.F_is_step_within.kp T.b_is_step_within .nil pass0 (pa_cons (pv 2) (pa_cons (pe_ix ix_tup (pv 0) pe_int (fun _ _ => rfl)) pa_nil)))))))))))
  (pss_one (ps_ret pe_str))
  pss_nil)
 (pss_cons (ps_if (pt_cmpR op_notIn_seq (pv 3) (pe_glob (v := .ref T.A_WAYS) (by rfl) T.m_WAYS rfl) (by rfl))
  (pss_one (ps_ret pe_str))
  pss_nil)
 (pss_cons (ps_if (pt_cmpR op_notIn_seq (pv 4) (pe_glob (v := .ref T.A_ALL_SIGNS) (by rfl) T.m_ALL_SIGNS rfl) (by rfl))
  (pss_one (ps_ret pe_str))
  pss_nil)
 (pss_cons (ps_if (pt_not (pt_val (pe_callB call_isi (by rfl) T.n_isinstance (by decide +kernel) (pa_cons (pv 5) (pa_cons (pe_bltn (v := .ty "bool") (by rfl) T.n_bool (by decide +kernel) rfl) pa_nil)))))
  (pss_one (ps_ret pe_str))
  pss_nil)
 (C8.pss_cut (ps_if (PW.pt (pw_or (pt_not (pt_val (pe_callB call_isi (by rfl) T.n_isinstance (by decide +kernel) (pa_cons (pv 6) (pa_cons (pe_bltn (v := .ty "bool") (by rfl) T.n_bool (by decide +kernel) rfl) pa_nil))))) (pw_or1 (PW.pt (pw_and (pt_val (pv 6)) (pw_and1 (pt_cmpR op_notN (pv 2) pe_non (nomark _))))))))
  (pss_one (ps_ret pe_str))
  pss_nil)
 (pss_cons (ps_if (pt_not (pt_val (pe_call (ok_is_unit T) (hr.mono (by decide)) (by rfl) T.m_is_unit T.F_is_unit.kp T.b_is_unit .nil pass0 (pa_cons (pv 7) pa_nil))))
  (pss_one (ps_ret pe_str))
  pss_nil)
 (pss_one (ps_ret pe_non)))))))))), ?_⟩
    have tell : ∀ {z : Option Str} {H' : Hp}, firstW f = z → Same H H' → Q (optS z) H' := fun e s => e ▸ k _ s
    walk_at "rdh"
    refine ⟨pl, f.pa, f.pb, rfl, hpl, fun H1 s1 => ?_⟩
    walk_at "rdh"
    refine r_ite (fun e1 => ?_) (fun e1 => ?_)
    · walk_at "rdh"
      have e : placesOk f.pa f.pb = false := by simpa using e1
      exact tell (z := some "places") (by unfold firstW; rw [if_pos e]) s1
    have p1 : ¬ placesOk f.pa f.pb = false := by simpa using e1
    have b0 : 0 ≤ f.pb := by
      have : placesOk f.pa f.pb = true := by simpa using p1
      unfold placesOk whB at this
      simp only [Bool.and_eq_true, decide_eq_true_eq] at this
      exact this.1.2.1
    refine r_cut (fun σ' H' => σ' = [some (.ref pl), some (intO f.fig), some sv, some (.str f.way), some (.str f.sg), some (.bl f.gr), some (.bl f.sc), some (.ref un)] ∧ Same H H' ∧ ¬ figOk f.fig = false) ?_ ?_
    · walk_at "rdh"
      refine ⟨rfl, ?_⟩
      cases hf : f.fig with
      | none =>
        walk_at "rdh"
        refine r_iteF rfl ?_
        walk_at "rdh"
        refine r_iteF rfl ?_
        walk_at "rdh"
        exact ⟨rfl, s1, by simp [figOk]⟩
      | some n =>
        walk_at "rdh"
        refine r_iteT rfl ?_
        walk_at "rdh"
        refine ⟨n, 1, 12, rfl, ?_⟩
        walk_at "rdh"
        refine r_ite (fun e2 => ?_) (fun e2 => ?_)
        · walk_at "rdh"
          have e : figOk f.fig = false := by rw [hf]; show whB n 1 12 = false; simpa using e2
          exact tell (z := some "figures") (by unfold firstW; rw [if_neg p1, if_pos e]) s1
        · walk_at "rdh"
          exact ⟨rfl, s1, by show ¬ whB n 1 12 = false; simpa using e2⟩
    rintro σ' H2 ⟨rfl, s2, p2⟩
    have hpl2 := SqT.ext hpl s2
    have hst2 := hst.same s2
    refine r_cut (fun σ' H' => σ' = [some (.ref pl), some (intO f.fig), some sv, some (.str f.way), some (.str f.sg), some (.bl f.gr), some (.bl f.sc), some (.ref un)] ∧ Same H H' ∧ ¬ stOk f = false) ?_ ?_
    · have fl : ∀ {H'}, Same H H' → stOk f = false → Q (.str "step") H' := fun s e => tell (z := some "step") (by unfold firstW; rw [if_neg p1, if_neg p2, if_pos e]) s
      walk_at "rdh"
      refine ⟨rfl, ?_⟩
      generalize hs' : f.stp = st at hst2
      cases hst2 with
      | none =>
        walk_at "rdh"
        refine r_iteF rfl ?_
        walk_at "rdh"
        refine r_iteF rfl ?_
        walk_at "rdh"
        exact ⟨rfl, s2, by unfold stOk; rw [hs']; simp⟩
      | @some px x hx =>
        walk_at "rdh"
        refine r_iteT rfl ?_
        walk_at "rdh"
        refine ⟨rfl, ?_⟩
        cases hf : f.fig with
        | some n =>
          walk_at "rdh"
          refine r_iteT rfl ?_
          walk_at "rdh"
          refine r_iteT rfl ?_
          walk_at "rdh"
          exact fl s2 (by unfold stOk; rw [hs', hf]; rfl)
        | none =>
          walk_at "rdh"
          refine r_iteF rfl ?_
          walk_at "rdh"
          refine r_ixS hpl2 (atI_nat (j := 1) rfl) ?_
          walk_at "rdh"
          refine ⟨px, x, f.pb, rfl, hx, b0, fun H3 s3 => ?_⟩
          have e0 : stOk f = stepOk x f.pb := by unfold stOk; rw [hs', hf]; rfl
          rw [← e0]
          walk_at "rdh"
          refine r_ite (fun e2 => ?_) (fun e2 => ?_)
          · (try refine r_iteT rfl ?_)
            walk_at "rdh"
            exact fl (s2.trans s3) (by simpa using e2)
          · (try refine r_iteF rfl ?_)
            walk_at "rdh"
            exact ⟨rfl, s2.trans s3, by simpa using e2⟩
    rintro σ' H3 ⟨rfl, s3, p3⟩
    have hun3 := SqT.ext hun s3
    walk_at "rdh"
    refine r_notInS (xs := waysL) (T.t_WAYS _) ?_
    walk_at "rdh"
    refine r_ite (fun e4 => ?_) (fun e4 => ?_)
    · walk_at "rdh"
      have e : decide (f.way ∈ waysL) = false := by simpa using e4
      exact tell (z := some "way") (by unfold firstW; rw [if_neg p1, if_neg p2, if_neg p3, if_pos e]) s3
    have p4 : ¬ decide (f.way ∈ waysL) = false := by simpa using e4
    walk_at "rdh"
    refine r_notInS (xs := ["minus", "all"]) (T.t_ALL_SIGNS _) ?_
    have es : decide (f.sg ∈ (["minus", "all"] : List Str)) = decide (f.sg = "minus" ∨ f.sg = "all") := by
      apply decide_eq_decide.mpr
      simp only [List.mem_cons, List.not_mem_nil, or_false]
    rw [es]
    walk_at "rdh"
    refine r_ite (fun e5 => ?_) (fun e5 => ?_)
    · walk_at "rdh"
      have e : decide (f.sg = "minus" ∨ f.sg = "all") = false := by
        cases h : decide (f.sg = "minus" ∨ f.sg = "all") with
        | false => rfl
        | true => rw [h] at e5; cases e5
      exact tell (z := some "signs") (by unfold firstW; rw [if_neg p1, if_neg p2, if_neg p3, if_neg p4, if_pos e]) s3
    have p5 : ¬ decide (f.sg = "minus" ∨ f.sg = "all") = false := fun h => by rw [h] at e5; cases e5
    walk_at "rdh"
    refine is_boolB ?_
    walk_at "rdh"
    refine r_iteF rfl ?_
    walk_at "rdh"
    refine r_cut (fun σ' H' => σ' = [some (.ref pl), some (intO f.fig), some sv, some (.str f.way), some (.str f.sg), some (.bl f.gr), some (.bl f.sc), some (.ref un)] ∧ H' = H3 ∧ ¬ (f.sc && f.stp.isSome) = true) ?_ ?_
    · walk_at "rdh"
      refine is_boolB ?_
      walk_at "rdh"
      refine r_iteF rfl ?_
      walk_at "rdh"
      have hst3 := hst.same s3
      generalize hs' : f.stp = st at hst3
      cases hb : f.sc with
      | false =>
        refine r_iteF rfl ?_
        refine r_iteF rfl ?_
        walk_at "rdh"
        exact ⟨rfl, rfl, by simp⟩
      | true =>
        refine r_iteT rfl ?_
        walk_at "rdh"
        refine ⟨rfl, ?_⟩
        cases hst3 with
        | none =>
          walk_at "rdh"
          refine r_iteF rfl ?_
          (try refine r_iteF rfl ?_)
          walk_at "rdh"
          exact ⟨rfl, rfl, by simp⟩
        | some hx =>
          walk_at "rdh"
          refine r_iteT rfl ?_
          (try refine r_iteT rfl ?_)
          walk_at "rdh"
          have e : (f.sc && f.stp.isSome) = true := by rw [hb, hs']; rfl
          exact tell (z := some "scaled") (by unfold firstW; rw [if_neg p1, if_neg p2, if_neg p3, if_neg p4, if_neg p5, if_pos e]) s3
    rintro σ' H4 ⟨rfl, rfl, p6⟩
    walk_at "rdh"
    refine ⟨un, f.u0, f.u1, rfl, hun3, Nat.le_trans su.1 (by decide), Nat.le_trans su.2 (by decide), fun H4 s4 => ?_⟩
    walk_at "rdh"
    refine r_ite (fun e7 => ?_) (fun e7 => ?_)
    · walk_at "rdh"
      have e : unitOk f.u0 f.u1 = false := by simpa using e7
      exact tell (z := some "unit") (by unfold firstW; rw [if_neg p1, if_neg p2, if_neg p3, if_neg p4, if_neg p5, if_neg p6, if_pos e]) (s3.trans s4)
    · have p7 : ¬ unitOk f.u0 f.u1 = false := by simpa using e7
      walk_at "rdh"
      exact tell (z := none) (by unfold firstW; rw [if_neg p1, if_neg p2, if_neg p3, if_neg p4, if_neg p5, if_neg p6, if_neg p7]) (s3.trans s4)
end
end My

namespace My
open PySem L2 TL
def KeepBut (p : Addr) (H H1 : Hp) : Prop := ∀ b o, b ≠ p → H b = some o → H1 b = some o
theorem KeepBut.of {p : Addr} {H H1 : Hp} (s : Same H H1) : KeepBut p H H1 := fun b o _ h => s b o h
theorem KeepBut.trans {p : Addr} {H H1 H2 : Hp} (a : KeepBut p H H1) (b : KeepBut p H1 H2) : KeepBut p H H2 := fun x o n h => b x o n (a x o n h)
theorem KeepBut.put {p : Addr} {H : Hp} {o : HO} : KeepBut p H (upd H p o) := fun b u n h => by rw [upd_ne n]; exact h
theorem NumAt.but {C D p q dx : Addr} {fs : List (Str × V)} {H H1 : Hp} {x : Rat} (s : KeepBut p H H1) (n : q ≠ p) (h : NumAt C H q x) : NumAt C H1 q x := let ⟨dx, e⟩ := h; ⟨dx, s _ _ n e⟩
theorem SqT.but {K : PySem.W.Frag} {p a C dx : Addr} {fs : List (Str × V)} {H H1 : Hp} {xs : List V} (s : KeepBut p H H1) (hp : H p = some (.ins C dx fs)) (h : SqT K H a xs) : SqT K H1 a xs := by
  rcases h with h | h
  · refine .inl ?_
    rcases h with h | ⟨o, h⟩
    · exact .inl (s _ _ (ne_of h hp (fun z => by cases z)) h)
    · exact .inr ⟨o, s _ _ (ne_of h hp (fun z => by cases z)) h⟩
  · exact .inr h
def wnames : List Str := ["places", "figures", "step", "way", "signs", "grouped", "scaled", "unit"]
theorem wf_put (v0 v1 v2 v3 v4 v5 v6 v7 : V) : putF "unit" v7 (putF "scaled" v6 (putF "grouped" v5 (putF "signs" v4 (putF "way" v3 (putF "step" v2 (putF "figures" v1 (putF "places" v0 []))))))) =
    ([("places", v0), ("figures", v1), ("step", v2), ("way", v3), ("signs", v4), ("grouped", v5), ("scaled", v6), ("unit", v7)] : List (Str × V)) := by
  have d : ∀ a ∈ wnames, ∀ b ∈ wnames, (a = b) ∨ ¬ (a = b) := fun a _ b _ => Classical.em _
  have c : ∀ (a b : Str) (va vb : V) (r : List (Str × V)), a ≠ b → putF b vb ((a, va) :: r) = (a, va) :: putF b vb r := fun a b va vb r n => by
    show (if a = b then (a, vb) :: r else (a, va) :: putF b vb r) = _
    rw [if_neg n]
  have e : ∀ (b : Str) (vb : V), putF b vb [] = [(b, vb)] := fun _ _ => rfl
  have n : wnames.Pairwise (· ≠ ·) := by decide +kernel
  rw [e]
  have ne : ∀ i j : Nat, i < j → ∀ a b, wnames[i]? = some a → wnames[j]? = some b → a ≠ b := fun i j h a b ha hb => by
    obtain ⟨h1, e1⟩ := List.getElem?_eq_some_iff.mp ha
    obtain ⟨h2, e2⟩ := List.getElem?_eq_some_iff.mp hb
    rw [← e1, ← e2]
    exact List.pairwise_iff_getElem.mp n i j h1 h2 h
  rw [c _ _ _ _ _ (ne 0 1 (by decide) _ _ rfl rfl), e]
  rw [c _ _ _ _ _ (ne 0 2 (by decide) _ _ rfl rfl), c _ _ _ _ _ (ne 1 2 (by decide) _ _ rfl rfl), e]
  rw [c _ _ _ _ _ (ne 0 3 (by decide) _ _ rfl rfl), c _ _ _ _ _ (ne 1 3 (by decide) _ _ rfl rfl), c _ _ _ _ _ (ne 2 3 (by decide) _ _ rfl rfl), e]
  rw [c _ _ _ _ _ (ne 0 4 (by decide) _ _ rfl rfl), c _ _ _ _ _ (ne 1 4 (by decide) _ _ rfl rfl), c _ _ _ _ _ (ne 2 4 (by decide) _ _ rfl rfl), c _ _ _ _ _ (ne 3 4 (by decide) _ _ rfl rfl), e]
  rw [c _ _ _ _ _ (ne 0 5 (by decide) _ _ rfl rfl), c _ _ _ _ _ (ne 1 5 (by decide) _ _ rfl rfl), c _ _ _ _ _ (ne 2 5 (by decide) _ _ rfl rfl), c _ _ _ _ _ (ne 3 5 (by decide) _ _ rfl rfl), c _ _ _ _ _ (ne 4 5 (by decide) _ _ rfl rfl), e]
  rw [c _ _ _ _ _ (ne 0 6 (by decide) _ _ rfl rfl), c _ _ _ _ _ (ne 1 6 (by decide) _ _ rfl rfl), c _ _ _ _ _ (ne 2 6 (by decide) _ _ rfl rfl), c _ _ _ _ _ (ne 3 6 (by decide) _ _ rfl rfl), c _ _ _ _ _ (ne 4 6 (by decide) _ _ rfl rfl), c _ _ _ _ _ (ne 5 6 (by decide) _ _ rfl rfl), e]
  rw [c _ _ _ _ _ (ne 0 7 (by decide) _ _ rfl rfl), c _ _ _ _ _ (ne 1 7 (by decide) _ _ rfl rfl), c _ _ _ _ _ (ne 2 7 (by decide) _ _ rfl rfl), c _ _ _ _ _ (ne 3 7 (by decide) _ _ rfl rfl), c _ _ _ _ _ (ne 4 7 (by decide) _ _ rfl rfl), c _ _ _ _ _ (ne 5 7 (by decide) _ _ rfl rfl), c _ _ _ _ _ (ne 6 7 (by decide) _ _ rfl rfl), e]
theorem putL {f : Str} {v : V} : ∀ {fs : List (Str × V)} {n : Nat}, fs.length ≤ n → (putF f v fs).length ≤ n + 1
  | [], n, _ => by show 1 ≤ n + 1; omega
  | (g, x) :: r, n, h => by
    show (if g = f then (g, v) :: r else (g, x) :: putF f v r).length ≤ n + 1
    rw [List.length_cons] at h
    split
    · rw [List.length_cons]; omega
    · rw [List.length_cons]
      have := putL (f := f) (v := v) (fs := r) (n := n - 1) (by omega)
      omega
theorem lt1000 {n m : Nat} (h : n ≤ m) (k : m < 1000) : n < 1000 := Nat.lt_of_le_of_lt h k
section
variable {P : Program} {w : World} {K : PySem.W.Frag} {mg : Str → Option Value} {base : Heap}
/-- the fields as they stand in a Wish -/
def wfF (v0 v1 v2 v3 v4 v5 v6 v7 : V) : List (Str × V) := [("places", v0), ("figures", v1), ("step", v2), ("way", v3), ("signs", v4), ("grouped", v5), ("scaled", v6), ("unit", v7)]
structure WishAt (K : PySem.W.Frag) (C N : Addr) (H : Hp) (p : Addr) (f : Wf) : Prop where
  ex : ∃ (dx pl un : Addr) (sv : V), H p = some (.ins C dx (wfF (.ref pl) (intO f.fig) sv (.str f.way) (.str f.sg) (.bl f.gr) (.bl f.sc) (.ref un))) ∧ SqT K H pl [.int f.pa, .int f.pb] ∧ StpAt N H sv f.stp ∧ SqT K H un [.str f.u0, .str f.u1]
theorem WishAt.same {C N p : Addr} {H H' : Hp} {f : Wf} (s : Same H H') (h : WishAt K C N H p f) : WishAt K C N H' p f := by
  obtain ⟨dx, pl, un, sv, e, h1, h2, h3⟩ := h.ex
  exact ⟨dx, pl, un, sv, s _ _ e, SqT.ext h1 s, h2.same s, SqT.ext h3 s⟩
/-- the refusal of a field -/
def RefW (NW : Addr) (z : Str) (H : Hp) (E : XK) : Prop := ∀ (H1 : Hp) (d : Addr), Same H H1 → H1 d = none → E (.ref NW) (some d) (upd H1 d (.xd [(("thing" : Str), .str z)]))
theorem RefW.same {NW : Addr} {z : Str} {H H' : Hp} {E : XK} (s : Same H H') (h : RefW NW z H E) : RefW NW z H' E := fun H1 d s1 n => h H1 d (s.trans s1) n
theorem r_raiseErr {C : Addr} {fl : List V → Option (List (Str × V))} {ta : TA} {W : WX} {σ : L2.St} {H : Hp} (q : ta σ H fun vs H1 => ∃ l, fl vs = some l ∧ ∀ d, H1 d = none → W (.ref C) (some d) σ (upd H1 d (.xd l))) : tMkRaise C fl ta σ H (fun cls d H' => W cls d σ H') := q
theorem step_small {f : Wf} {x : Rat} (h : firstW f = none) (e : f.stp = some x) : x.den ≤ 10 ^ 12 := by
  unfold firstW at h
  by_cases p1 : placesOk f.pa f.pb = false
  · rw [if_pos p1] at h; cases h
  · rw [if_neg p1] at h
    by_cases p2 : figOk f.fig = false
    · rw [if_pos p2] at h; cases h
    · rw [if_neg p2] at h
      by_cases p3 : stOk f = false
      · rw [if_pos p3] at h; cases h
      · have t1 : placesOk f.pa f.pb = true := by simpa using p1
        have t3 : stOk f = true := by simpa using p3
        unfold stOk at t3
        rw [e] at t3
        have t4 : (f.fig.isNone && stepOk x f.pb) = true := t3
        unfold stepOk at t4
        unfold placesOk whB at t1
        simp only [Bool.and_eq_true, decide_eq_true_eq] at t1 t4
        have := Nat.le_of_dvd (Nat.pow_pos (by decide)) t4.2.2
        exact Nat.le_trans this (Nat.pow_le_pow_right (by decide) (by omega))
def spWishInit (K : PySem.W.Frag) (C N NW : Addr) : Sp := fun VS H Q E => ∃ (p dx : Addr) (vs : List V) (f : Wf), VS = .ref p :: vs ∧ H p = some (.ins C dx []) ∧ VsAt K N H vs f ∧ ShortU f ∧
  (firstW f = none → ∀ H1, KeepBut p H H1 → WishAt K C N H1 p f → Q .non H1) ∧ (∀ z, firstW f = some z → RefW NW z H E)
theorem ok_Wish_init (T : Txt w K mg) : FnOk P w K mg base (L2N.CX P w) 5 T.f_Wish_init T.fd_Wish_init ["self", "places", "figures", "step", "way", "signs", "grouped", "scaled", "unit"] (spWishInit K T.C_Wish T.C_Number T.C_NoWish) := by
  refine T.F_Wish_init.ok sc_Wish_init (fun vs H Q E h => ?_) (fun cdv A outer s H vs Q E hr h => ?_)
  · obtain ⟨p, dx, vs, f, rfl, _, h, _⟩ := h
    obtain ⟨pl, un, sv, rfl, _⟩ := h.ex
    rfl
  · obtain ⟨p, dx, vs, f, rfl, hp, h, su, kg, kb⟩ := h
    obtain ⟨pl, un, sv, rfl, hpl, hst, hun⟩ := h.ex
    have cN := T.c_Number
    have nT := T.n_Number_top
    have nB := T.n_Number_bottom
    refine ⟨_, (pss_cons (ps_set (i := 9) sc_Wish_init.nd rfl (Or.inl rfl) (pe_call (ok_first_wrong T) (hr.mono (by decide)) (by rfl) T.m_first_wrong T.F_first_wrong.kp T.b_first_wrong .nil pass0 (pa_cons (pv 1) (pa_cons (pv 2) (pa_cons (pv 3) (pa_cons (pv 4) (pa_cons (pv 5) (pa_cons (pv 6) (pa_cons (pv 7) (pa_cons (pv 8) pa_nil))))))))))
 (pss_cons (ps_if (pt_cmpR op_notN (pv 9) pe_non (nomark _))
  (pss_one (ps_raiseErr rfl T.e_NoWish (errRun_thing T.e_NoWish T.fn_NoWish T.no_NoWish) T.x_NoWish.hs T.ty_NoWish hr (by decide) (L2N.takes_of rfl rfl rfl rfl) (pa_cons (pv 9) pa_nil) T.m_NoWish))
  pss_nil)
 (pss_cons (ps_fld (pv 0) (pv 1) rfl)
 (pss_cons (ps_fld (pv 0) (pv 2) rfl)
 (C8.pss_cut (ps_fld (pv 0) (pe_ifExp (pt_cmpR op_isN (pv 3) pe_non (nomark _)) pe_non (pe_make T.mk_Number (ok_Number_init T) (hr.mono (by decide)) (by rfl) T.m_Number T.b_Number_init2 .nil pass0 (pa_cons (pe_fld (pv 3) rfl) (pa_cons (pe_fld (pv 3) rfl) pa_nil)))) rfl)
 (pss_cons (ps_fld (pv 0) (pv 4) rfl)
 (pss_cons (ps_fld (pv 0) (pv 5) rfl)
 (pss_cons (ps_fld (pv 0) (pv 6) rfl)
 (pss_cons (ps_fld (pv 0) (pv 7) rfl)
 (pss_one (ps_fld (pv 0) (pv 8) rfl))))))))))), ?_⟩
    walk_at "rdf"
    refine ⟨f, h, su, fun H1 s1 => ?_⟩
    walk_at "rdf"
    refine ⟨rfl, ?_⟩
    cases fw : firstW f with
    | some z =>
      walk_at "rdf"
      refine r_iteT rfl ?_
      refine r_raiseErr (W := fun cls d _ H => E cls d H) ?_
      walk_at "rdf"
      exact ⟨_, rfl, fun d hd => kb z fw _ d s1 hd⟩
    | none =>
      walk_at "rdf"
      refine r_iteF rfl ?_
      have hp1 := s1 _ _ hp
      walk_at "rdf"
      refine ⟨p, T.C_Wish, dx, _, rfl, hp1, T.c_Wish, T.n_Wish_places, by decide, ?_⟩
      have k1 : KeepBut p H H1 := KeepBut.of s1
      walk_at "rdf"
      refine ⟨p, T.C_Wish, dx, _, rfl, upd_same, T.c_Wish, T.n_Wish_figures, lt1000 (putL (Nat.zero_le 0)) (by decide), ?_⟩
      refine r_cut (fun σ' H' => σ' = [some (.ref p), some (.ref pl), some (intO f.fig), some sv, some (.str f.way), some (.str f.sg), some (.bl f.gr), some (.bl f.sc), some (.ref un), some (optS none)] ∧ ∃ sv', H' p = some (.ins T.C_Wish dx (putF "step" sv' (putF "figures" (intO f.fig) (putF "places" (.ref pl) [])))) ∧ KeepBut p H H' ∧ ∀ H3, KeepBut p H' H3 → StpAt T.C_Number H3 sv' f.stp) ?_ ?_
      · have hkp : KeepBut p H (upd (upd H1 p (.ins T.C_Wish dx (putF "places" (.ref pl) []))) p (.ins T.C_Wish dx (putF "figures" (intO f.fig) (putF "places" (.ref pl) [])))) := (k1.trans KeepBut.put).trans KeepBut.put
        have hpp := upd_same (H := upd H1 p (.ins T.C_Wish dx (putF "places" (.ref pl) []))) (a := p) (o := HO.ins T.C_Wish dx (putF "figures" (intO f.fig) (putF "places" (.ref pl) [])))
        generalize upd (upd H1 p (.ins T.C_Wish dx (putF "places" (.ref pl) []))) p (.ins T.C_Wish dx (putF "figures" (intO f.fig) (putF "places" (.ref pl) []))) = H2 at *
        walk_at "rdf"
        refine ⟨rfl, ?_⟩
        generalize hs' : f.stp = st at hst
        cases hst with
        | none =>
          walk_at "rdf"
          refine r_iteT rfl ?_
          walk_at "rdf"
          refine ⟨p, T.C_Wish, dx, _, rfl, hpp, T.c_Wish, T.n_Wish_step, lt1000 (putL (putL (Nat.zero_le 0))) (by decide), ?_⟩
          exact ⟨rfl, .non, upd_same, hkp.trans KeepBut.put, fun _ _ => .none⟩
        | @some px x hx =>
          have np : px ≠ p := by
            obtain ⟨dq, hx⟩ := hx
            intro e
            rw [e, hp] at hx
            have := (HO.ins.inj (Option.some.inj hx)).2.2
            unfold nf at this
            cases this
          have hx2 : NumAt T.C_Number H2 px x := by
            obtain ⟨dq, hx⟩ := hx
            exact ⟨dq, hkp _ _ np hx⟩
          have sm := step_small fw hs'
          walk_at "rdf"
          refine r_iteF rfl ?_
          obtain ⟨dq, hx2⟩ := hx2
          walk_at "rdf"
          refine mk_num (den_ne x) (Nat.lt_of_le_of_lt (show ((x.den : Int)).natAbs ≤ 10 ^ 12 by omega) (Nat.lt_of_lt_of_le (show 10 ^ 12 < 2 ^ 50 by decide) (Nat.pow_le_pow_right (by decide) (by decide)))) fun q H3 s3 nq h3 => ?_
          rw [Rat.num_divInt_den] at h3
          walk_at "rdf"
          refine ⟨p, T.C_Wish, dx, _, rfl, s3 _ _ hpp, T.c_Wish, T.n_Wish_step, lt1000 (putL (putL (Nat.zero_le 0))) (by decide), ?_⟩
          refine ⟨rfl, .ref q, upd_same, (hkp.trans (KeepBut.of s3)).trans KeepBut.put, fun H4 k4 => .some ?_⟩
          obtain ⟨dq', h3⟩ := h3
          have nqp : q ≠ p := by
            intro e
            rw [e, hpp] at nq
            cases nq
          exact ⟨dq', k4 _ _ nqp (by rw [upd_ne nqp]; exact h3)⟩
      rintro σ' H2 ⟨rfl, sv', hp2, k2, st2⟩
      walk_at "rdf"
      refine ⟨p, T.C_Wish, dx, _, rfl, hp2, T.c_Wish, T.n_Wish_way, lt1000 (putL (putL (putL (Nat.zero_le 0)))) (by decide), ?_⟩
      walk_at "rdf"
      refine ⟨p, T.C_Wish, dx, _, rfl, upd_same, T.c_Wish, T.n_Wish_signs, lt1000 (putL (putL (putL (putL (Nat.zero_le 0))))) (by decide), ?_⟩
      walk_at "rdf"
      refine ⟨p, T.C_Wish, dx, _, rfl, upd_same, T.c_Wish, T.n_Wish_grouped, lt1000 (putL (putL (putL (putL (putL (Nat.zero_le 0)))))) (by decide), ?_⟩
      walk_at "rdf"
      refine ⟨p, T.C_Wish, dx, _, rfl, upd_same, T.c_Wish, T.n_Wish_scaled, lt1000 (putL (putL (putL (putL (putL (putL (Nat.zero_le 0))))))) (by decide), ?_⟩
      walk_at "rdf"
      refine ⟨p, T.C_Wish, dx, _, rfl, upd_same, T.c_Wish, T.n_Wish_unit, lt1000 (putL (putL (putL (putL (putL (putL (putL (Nat.zero_le 0)))))))) (by decide), ?_⟩
      rw [wf_put]
      have fin : ∀ HF : Hp, KeepBut p H2 HF → HF p = some (.ins T.C_Wish dx (wfF (.ref pl) (intO f.fig) sv' (.str f.way) (.str f.sg) (.bl f.gr) (.bl f.sc) (.ref un))) → Q .non HF := fun HF kf hf =>
        kg fw _ (k2.trans kf) ⟨dx, pl, un, sv', hf, SqT.but (k2.trans kf) hp hpl, st2 _ kf, SqT.but (k2.trans kf) hp hun⟩
      refine fin _ ?_ upd_same
      refine KeepBut.trans ?_ KeepBut.put
      refine KeepBut.trans ?_ KeepBut.put
      refine KeepBut.trans ?_ KeepBut.put
      refine KeepBut.trans ?_ KeepBut.put
      exact KeepBut.put
end
end My

namespace My
open PySem PySem.Spec PyProof.Rows L2
section
variable {P : Program} {w : World} {K : PySem.W.Frag} {mg : Str → Option Value} {base : Heap}
theorem Fun.okN {x qual : Str} {st : Stmt} {f : Addr} {fd : FuncData} {N ps : List Str} {k : Nat} {sp : Sp} (F : Fun K x qual st f fd) (S : FnScope N ps (defScope st)) (len : ∀ vs H Q E, sp vs H Q E → vs.length = ps.length)
    (hbody : ∀ (cdv : Value) (A : Around) (outer : List Env) (s : Shared) (H : Hp) (vs : List V) (Q : VK) (E : XK), Room k (A.deeper (envOfC qual (defScope st) s.heap.objs.size f cdv)) → sp vs H Q E →
      ∃ t, PSs (cxOf (L2N.CX P w) P w K mg base N qual (defScope st) f cdv A outer s H E) (defBody st) t ∧ t { nx := fun _ H' => Q .non H', rt := Q } (start N vs) H) : FnOk P w K mg base (L2N.CX P w) (k + 1) f fd ps sp := by
  obtain ⟨oc, od, kV, doc, pm, an, cdv, ct, osl, rfl, lk, hcd⟩ := F.ex
  exact fn_of lk hcd S len fun A outer s H vs Q E hr hsp => hbody cdv A outer s H vs Q E hr hsp
theorem takes0N {X : Cx} : L2N.Takes X (fun _ _ _ _ => False) := fun _ _ x => by
  obtain ⟨_, _, _, _, _, _, _, _, _, _, _, _, _, _, _, _, z⟩ := x
  exact z.elim
end
end My

namespace My
open PySem L2 TL
/-! ### a wish made; fields in a dict -/
def wD (v0 v1 v2 v3 v4 v5 v6 v7 : V) : List (Key × V) := [(.inr "places", v0), (.inr "figures", v1), (.inr "step", v2), (.inr "way", v3), (.inr "signs", v4), (.inr "grouped", v5), (.inr "scaled", v6), (.inr "unit", v7)]
theorem dg_places {H : Hp} {p : Addr} {v0 v1 v2 v3 v4 v5 v6 v7 : V} (e : H p = some (.dK (wD v0 v1 v2 v3 v4 v5 v6 v7))) : DGet H p (.str "places") (some v0) := DGet.k (k := .inr "places") e
theorem dg_figures {H : Hp} {p : Addr} {v0 v1 v2 v3 v4 v5 v6 v7 : V} (e : H p = some (.dK (wD v0 v1 v2 v3 v4 v5 v6 v7))) : DGet H p (.str "figures") (some v1) := DGet.k (k := .inr "figures") e
theorem dg_step {H : Hp} {p : Addr} {v0 v1 v2 v3 v4 v5 v6 v7 : V} (e : H p = some (.dK (wD v0 v1 v2 v3 v4 v5 v6 v7))) : DGet H p (.str "step") (some v2) := DGet.k (k := .inr "step") e
theorem dg_way {H : Hp} {p : Addr} {v0 v1 v2 v3 v4 v5 v6 v7 : V} (e : H p = some (.dK (wD v0 v1 v2 v3 v4 v5 v6 v7))) : DGet H p (.str "way") (some v3) := DGet.k (k := .inr "way") e
theorem dg_signs {H : Hp} {p : Addr} {v0 v1 v2 v3 v4 v5 v6 v7 : V} (e : H p = some (.dK (wD v0 v1 v2 v3 v4 v5 v6 v7))) : DGet H p (.str "signs") (some v4) := DGet.k (k := .inr "signs") e
theorem dg_grouped {H : Hp} {p : Addr} {v0 v1 v2 v3 v4 v5 v6 v7 : V} (e : H p = some (.dK (wD v0 v1 v2 v3 v4 v5 v6 v7))) : DGet H p (.str "grouped") (some v5) := DGet.k (k := .inr "grouped") e
theorem dg_scaled {H : Hp} {p : Addr} {v0 v1 v2 v3 v4 v5 v6 v7 : V} (e : H p = some (.dK (wD v0 v1 v2 v3 v4 v5 v6 v7))) : DGet H p (.str "scaled") (some v6) := DGet.k (k := .inr "scaled") e
theorem dg_unit {H : Hp} {p : Addr} {v0 v1 v2 v3 v4 v5 v6 v7 : V} (e : H p = some (.dK (wD v0 v1 v2 v3 v4 v5 v6 v7))) : DGet H p (.str "unit") (some v7) := DGet.k (k := .inr "unit") e
theorem wl_places (v0 v1 v2 v3 v4 v5 v6 v7 : V) : (wfF v0 v1 v2 v3 v4 v5 v6 v7).lookup ("places" : Str) = some v0 := rfl
theorem wl_figures (v0 v1 v2 v3 v4 v5 v6 v7 : V) : (wfF v0 v1 v2 v3 v4 v5 v6 v7).lookup ("figures" : Str) = some v1 := rfl
theorem wl_step (v0 v1 v2 v3 v4 v5 v6 v7 : V) : (wfF v0 v1 v2 v3 v4 v5 v6 v7).lookup ("step" : Str) = some v2 := rfl
theorem wl_way (v0 v1 v2 v3 v4 v5 v6 v7 : V) : (wfF v0 v1 v2 v3 v4 v5 v6 v7).lookup ("way" : Str) = some v3 := rfl
theorem wl_signs (v0 v1 v2 v3 v4 v5 v6 v7 : V) : (wfF v0 v1 v2 v3 v4 v5 v6 v7).lookup ("signs" : Str) = some v4 := rfl
theorem wl_grouped (v0 v1 v2 v3 v4 v5 v6 v7 : V) : (wfF v0 v1 v2 v3 v4 v5 v6 v7).lookup ("grouped" : Str) = some v5 := rfl
theorem wl_scaled (v0 v1 v2 v3 v4 v5 v6 v7 : V) : (wfF v0 v1 v2 v3 v4 v5 v6 v7).lookup ("scaled" : Str) = some v6 := rfl
theorem wl_unit (v0 v1 v2 v3 v4 v5 v6 v7 : V) : (wfF v0 v1 v2 v3 v4 v5 v6 v7).lookup ("unit" : Str) = some v7 := rfl
theorem r_makeK {C : Addr} {n m : Nat} {sp : Sp} {gV : List V → List V → List V} {E : XK} {t tk : TA} {σ : L2.St} {H : Hp} {Q : VK} (q : t σ H fun vs H1 => tk σ H1 fun zs H2 => vs.length = n ∧ zs.length = m ∧ ∀ x dx, H2 x = none → H2 dx = none → dx ≠ x →
  sp (gV (.ref x :: vs) zs) (upd (upd H2 dx (.own x)) x (.ins C dx [])) (fun v H3 => v = .non ∧ Q (.ref x) H3) E) : tMakeK C n m sp gV E t tk σ H Q := q
section
variable {P : Program} {w : World} {K : PySem.W.Frag} {mg : Str → Option Value} {base : Heap}
theorem mk_wish {C N NW : Addr} {H : Hp} {vs : List V} {f : Wf} {R : Addr → Hp → Prop} {E : XK} (h : VsAt K N H vs f) (su : ShortU f) (kg : firstW f = none → ∀ (x : Addr) (H' : Hp), Same H H' → WishAt K C N H' x f → R x H') (kb : ∀ z, firstW f = some z → RefW NW z H E) :
    ∀ x dx, H x = none → H dx = none → dx ≠ x → spWishInit K C N NW (.ref x :: vs) (upd (upd H dx (.own x)) x (.ins C dx [])) (fun v H2 => v = .non ∧ R x H2) E := by
  intro x dx nx ndx ne
  have s0 : Same H (upd (upd H dx (.own x)) x (.ins C dx [])) := fun b o hb => by
    rw [upd_ne (ne_of_none hb nx), upd_ne (ne_of_none hb ndx)]
    exact hb
  refine ⟨x, dx, vs, f, rfl, upd_same, h.same s0, su, fun fw H1 kk w => ⟨rfl, kg fw x H1 (fun b o hb => kk b o (ne_of_none hb nx) (s0 _ _ hb)) w⟩, fun z e => (kb z e).same s0⟩
structure FAt (K : PySem.W.Frag) (N : Addr) (H : Hp) (p : Addr) (f : Wf) : Prop where
  ex : ∃ (pl un : Addr) (sv : V), H p = some (.dK (wD (.ref pl) (intO f.fig) sv (.str f.way) (.str f.sg) (.bl f.gr) (.bl f.sc) (.ref un))) ∧ SqT K H pl [.int f.pa, .int f.pb] ∧ StpAt N H sv f.stp ∧ SqT K H un [.str f.u0, .str f.u1]
theorem FAt.same {N p : Addr} {H H' : Hp} {f : Wf} (s : Same H H') (h : FAt K N H p f) : FAt K N H' p f := by
  obtain ⟨pl, un, sv, e, h1, h2, h3⟩ := h.ex
  exact ⟨pl, un, sv, s _ _ e, SqT.ext h1 s, h2.same s, SqT.ext h3 s⟩
def intD : Option Int → PyData
  | none => .none
  | some i => .int i
def stpD : Option Rat → PyData
  | none => .none
  | some x => .tuple [.str "step", .int x.num, .int (x.den : Int)]
def dueD (f : Wf) : PyData := .tuple [.tuple [.int f.pa, .int f.pb], intD f.fig, stpD f.stp, .str f.way, .str f.sg, .bool f.gr, .bool f.sc, .tuple [.str f.u0, .str f.u1]]
theorem dp_int {H : Hp} (o : Option Int) : Dp K H (intO o) (intD o) := by
  cases o with
  | none => exact .non
  | some i => exact .int i
/-- what may be shown -/
def OkF (f : Wf) : Prop := shB (dueD f) = true
theorem sz_due (f : Wf) : szD (dueD f) ≤ 20 ∧ (dueD f).depth ≤ 60 := by
  unfold dueD
  cases f.fig <;> cases f.stp <;> constructor <;> simp [szD, szAll, intD, stpD, PyData.depth, PyData.depthAll]
theorem rd_due {H : Hp} {v : V} {f : Wf} {Q : VK} (h : Dp K H v (dueD f)) (ok : OkF f) (q : Q (.str (dueD f).shown) H) : rReprA K [v] H Q := by
  obtain ⟨a, b, e, g⟩ := sh_ok _ ok
  obtain ⟨s1, s2⟩ := sz_due f
  refine ⟨v, dueD f, rfl, h, a, b, s2, ?_, q⟩
  have := PyData.shown_le 501 (by decide) (dueD f) e
  have e : sizeLine = 16777216 := rfl
  omega
/-- the step as it is told -/
inductive ByAt (H : Hp) : V → Option Rat → Prop
  | none : ByAt H .non none
  | some {p : Addr} {x : Rat} : H p = some (.tup [.str "step", .int x.num, .int (x.den : Int)]) → ByAt H (.ref p) (some x)
theorem ByAt.dp {H : Hp} {v : V} {o : Option Rat} (h : ByAt H v o) : Dp K H v (stpD o) := by
  cases h with
  | none => exact .non
  | some h => exact .tup (SqT.of h) (.cons (.str _) (.cons (.int _) (.cons (.int _) .nil)))
theorem ByAt.same {H H' : Hp} {v : V} {o : Option Rat} (s : Same H H') (h : ByAt H v o) : ByAt H' v o := by
  cases h with
  | none => exact .none
  | some h => exact .some (s _ _ h)
def spDue (K : PySem.W.Frag) (N : Addr) : Sp := fun vs H Q _ => ∃ (p : Addr) (f : Wf), vs = [.ref p] ∧ FAt K N H p f ∧ OkF f ∧ ∀ H', Same H H' → Q (.str (dueD f).shown) H'
theorem okG_l_due (T : Txt w K mg) : FnG P w K mg base 1 T.f_l_due T.fd_l_due ["_law_f"] (spDue K T.C_Number) := by
  refine FnG.by_body T.F_l_due sc_l_due (fun vs H Q E h => ?_) (fun cdv A outer s H vs Q E hG hr h => ?_)
  · obtain ⟨p, f, rfl, _⟩ := h
    rfl
  · obtain ⟨p, f, rfl, hf, ok, k⟩ := h
    have cN := T.c_Number
    have nT := T.n_Number_top
    have nB := T.n_Number_bottom
    refine ⟨_, (pss_cons (ps_set (i := 1) sc_l_due.nd rfl (Or.inl rfl) (pe_dget (Nat.lt_of_le_of_lt (Nat.add_le_add_left (by decide) _) hr.units) (pv 0) pe_str (fun _ _ => rfl)))
 (C8.pss_cut (ps_if (pt_val (pe_callB call_isi (by rfl) T.n_isinstance (by decide +kernel) (pa_cons (pv 1) (pa_cons (pe_glob (v := .ref T.C_Number) (by rfl) T.m_Number rfl) pa_nil))))
  (pss_one (ps_set (i := 1) sc_l_due.nd rfl (Or.inl rfl) (pe_tup (pa_cons pe_str (pa_cons (pe_fld (pv 1) rfl) (pa_cons (pe_fld (pv 1) rfl) pa_nil))))))
  pss_nil)
 (pss_one (ps_ret (pe_callB (call_reprA hG hr.units) (by rfl) T.n_repr (by decide +kernel) (pa_cons (pe_tup (pa_cons (pe_dget (Nat.lt_of_le_of_lt (Nat.add_le_add_left (by decide) _) hr.units) (pv 0) pe_str (fun _ _ => rfl)) (pa_cons (pe_dget (Nat.lt_of_le_of_lt (Nat.add_le_add_left (by decide) _) hr.units) (pv 0) pe_str (fun _ _ => rfl)) (pa_cons (pv 1) (pa_cons (pe_dget (Nat.lt_of_le_of_lt (Nat.add_le_add_left (by decide) _) hr.units) (pv 0) pe_str (fun _ _ => rfl)) (pa_cons (pe_dget (Nat.lt_of_le_of_lt (Nat.add_le_add_left (by decide) _) hr.units) (pv 0) pe_str (fun _ _ => rfl)) (pa_cons (pe_dget (Nat.lt_of_le_of_lt (Nat.add_le_add_left (by decide) _) hr.units) (pv 0) pe_str (fun _ _ => rfl)) (pa_cons (pe_dget (Nat.lt_of_le_of_lt (Nat.add_le_add_left (by decide) _) hr.units) (pv 0) pe_str (fun _ _ => rfl)) (pa_cons (pe_dget (Nat.lt_of_le_of_lt (Nat.add_le_add_left (by decide) _) hr.units) (pv 0) pe_str (fun _ _ => rfl)) pa_nil))))))))) pa_nil)))))), ?_⟩
    obtain ⟨pl, un, sv, hp, hpl, hst, hun⟩ := hf.ex
    walk_at "rdh"
    refine ⟨p, _, rfl, dg_step hp, ?_⟩
    walk_at "rdh"
    refine r_cut (fun σ' H' => ∃ bv : V, σ' = [some (.ref p), some bv] ∧ Same H H' ∧ ByAt H' bv f.stp) ?_ ?_
    · walk_at "rdh"
      generalize f.stp = st at hst
      cases hst with
      | none =>
        refine non_num T ?_
        walk_at "rdh"
        refine r_iteF rfl ?_
        walk_at "rdh"
        exact ⟨_, rfl, Same.refl _, .none⟩
      | some hx =>
        refine is_numN T hx ?_
        walk_at "rdh"
        refine r_iteT rfl ?_
        obtain ⟨dq, hx⟩ := hx
        walk_at "rdf"
        refine r_new (by show 3 ≤ 1000; decide) fun q hq => ?_
        exact ⟨_, rfl, Same.new hq, .some upd_same⟩
    rintro σ' H1 ⟨bv, rfl, s1, hb⟩
    have hp1 := s1 _ _ hp
    walk_at "rdh"
    refine ⟨p, _, rfl, dg_places hp1, ?_⟩
    walk_at "rdh"
    refine ⟨p, _, rfl, dg_figures hp1, ?_⟩
    walk_at "rdh"
    refine ⟨p, _, rfl, dg_way hp1, ?_⟩
    walk_at "rdh"
    refine ⟨p, _, rfl, dg_signs hp1, ?_⟩
    walk_at "rdh"
    refine ⟨p, _, rfl, dg_grouped hp1, ?_⟩
    walk_at "rdh"
    refine ⟨p, _, rfl, dg_scaled hp1, ?_⟩
    walk_at "rdh"
    refine ⟨p, _, rfl, dg_unit hp1, ?_⟩
    walk_at "rdh"
    refine r_new (by show 8 ≤ 1000; decide) fun q hq => ?_
    have s2 := Same.new (o := .tup [.ref pl, intO f.fig, bv, .str f.way, .str f.sg, .bl f.gr, .bl f.sc, .ref un]) hq
    walk_at "rdh"
    have s12 := s1.trans s2
    refine rd_due (f := f) (.tup (SqT.of upd_same) (.cons (.tup (SqT.ext hpl s12) (.cons (.int _) (.cons (.int _) .nil))) (.cons (dp_int _) (.cons (hb.same s2).dp (.cons (.str _) (.cons (.str _) (.cons (.bl _) (.cons (.bl _) (.cons (.tup (SqT.ext hun s12) (.cons (.str _) (.cons (.str _) .nil))) .nil))))))))) ok ?_
    exact k _ s12
def spTold (K : PySem.W.Frag) (C N : Addr) : Sp := fun vs H Q _ => ∃ (p : Addr) (f : Wf), vs = [.ref p] ∧ WishAt K C N H p f ∧ OkF f ∧ ∀ H', Same H H' → Q (.str (dueD f).shown) H'
theorem okG_l_told (T : Txt w K mg) : FnG P w K mg base 1 T.f_l_told T.fd_l_told ["_law_wish"] (spTold K T.C_Wish T.C_Number) := by
  refine FnG.by_body T.F_l_told sc_l_told (fun vs H Q E h => ?_) (fun cdv A outer s H vs Q E hG hr h => ?_)
  · obtain ⟨p, f, rfl, _⟩ := h
    rfl
  · obtain ⟨p, f, rfl, hf, ok, k⟩ := h
    have cN := T.c_Number
    have nT := T.n_Number_top
    have nB := T.n_Number_bottom
    refine ⟨_, (pss_cons (ps_set (i := 1) sc_l_told.nd rfl (Or.inl rfl) (pe_fld (pv 0) rfl))
 (C8.pss_cut (ps_if (pt_val (pe_callB call_isi (by rfl) T.n_isinstance (by decide +kernel) (pa_cons (pv 1) (pa_cons (pe_glob (v := .ref T.C_Number) (by rfl) T.m_Number rfl) pa_nil))))
  (pss_one (ps_set (i := 1) sc_l_told.nd rfl (Or.inl rfl) (pe_tup (pa_cons pe_str (pa_cons (pe_fld (pv 1) rfl) (pa_cons (pe_fld (pv 1) rfl) pa_nil))))))
  pss_nil)
 (pss_one (ps_ret (pe_callB (call_reprA hG hr.units) (by rfl) T.n_repr (by decide +kernel) (pa_cons (pe_tup (pa_cons (pe_fld (pv 0) rfl) (pa_cons (pe_fld (pv 0) rfl) (pa_cons (pv 1) (pa_cons (pe_fld (pv 0) rfl) (pa_cons (pe_fld (pv 0) rfl) (pa_cons (pe_fld (pv 0) rfl) (pa_cons (pe_fld (pv 0) rfl) (pa_cons (pe_fld (pv 0) rfl) pa_nil))))))))) pa_nil)))))), ?_⟩
    obtain ⟨dx, pl, un, sv, hp, hpl, hst, hun⟩ := hf.ex
    walk_at "rdh"
    refine ⟨p, T.C_Wish, dx, _, _, rfl, hp, T.c_Wish, T.n_Wish_step, wl_step .., ?_⟩
    walk_at "rdh"
    refine r_cut (fun σ' H' => ∃ bv : V, σ' = [some (.ref p), some bv] ∧ Same H H' ∧ ByAt H' bv f.stp) ?_ ?_
    · walk_at "rdh"
      generalize f.stp = st at hst
      cases hst with
      | none =>
        refine non_num T ?_
        walk_at "rdh"
        refine r_iteF rfl ?_
        walk_at "rdh"
        exact ⟨_, rfl, Same.refl _, .none⟩
      | some hx =>
        refine is_numN T hx ?_
        walk_at "rdh"
        refine r_iteT rfl ?_
        obtain ⟨dq, hx⟩ := hx
        walk_at "rdf"
        refine r_new (by show 3 ≤ 1000; decide) fun q hq => ?_
        exact ⟨_, rfl, Same.new hq, .some upd_same⟩
    rintro σ' H1 ⟨bv, rfl, s1, hb⟩
    have hp1 := s1 _ _ hp
    walk_at "rdh"
    refine ⟨p, T.C_Wish, dx, _, _, rfl, hp1, T.c_Wish, T.n_Wish_places, wl_places .., ?_⟩
    walk_at "rdh"
    refine ⟨p, T.C_Wish, dx, _, _, rfl, hp1, T.c_Wish, T.n_Wish_figures, wl_figures .., ?_⟩
    walk_at "rdh"
    refine ⟨p, T.C_Wish, dx, _, _, rfl, hp1, T.c_Wish, T.n_Wish_way, wl_way .., ?_⟩
    walk_at "rdh"
    refine ⟨p, T.C_Wish, dx, _, _, rfl, hp1, T.c_Wish, T.n_Wish_signs, wl_signs .., ?_⟩
    walk_at "rdh"
    refine ⟨p, T.C_Wish, dx, _, _, rfl, hp1, T.c_Wish, T.n_Wish_grouped, wl_grouped .., ?_⟩
    walk_at "rdh"
    refine ⟨p, T.C_Wish, dx, _, _, rfl, hp1, T.c_Wish, T.n_Wish_scaled, wl_scaled .., ?_⟩
    walk_at "rdh"
    refine ⟨p, T.C_Wish, dx, _, _, rfl, hp1, T.c_Wish, T.n_Wish_unit, wl_unit .., ?_⟩
    walk_at "rdh"
    refine r_new (by show 8 ≤ 1000; decide) fun q hq => ?_
    have s2 := Same.new (o := .tup [.ref pl, intO f.fig, bv, .str f.way, .str f.sg, .bl f.gr, .bl f.sc, .ref un]) hq
    walk_at "rdh"
    have s12 := s1.trans s2
    refine rd_due (f := f) (.tup (SqT.of upd_same) (.cons (.tup (SqT.ext hpl s12) (.cons (.int _) (.cons (.int _) .nil))) (.cons (dp_int _) (.cons (hb.same s2).dp (.cons (.str _) (.cons (.str _) (.cons (.bl _) (.cons (.bl _) (.cons (.tup (SqT.ext hun s12) (.cons (.str _) (.cons (.str _) .nil))) .nil))))))))) ok ?_
    exact k _ s12
def spMade (K : PySem.W.Frag) (C N NW : Addr) : Sp := fun vs H Q E => ∃ (p : Addr) (f : Wf), vs = [.ref p] ∧ FAt K N H p f ∧ ShortU f ∧ (firstW f = none → ∀ (x : Addr) (H' : Hp), Same H H' → WishAt K C N H' x f → Q (.ref x) H') ∧ (∀ z, firstW f = some z → RefW NW z H E)
theorem ok_l_made (T : Txt w K mg) : FnOk P w K mg base (L2N.CX P w) 7 T.f_l_made T.fd_l_made ["_law_f"] (spMade K T.C_Wish T.C_Number T.C_NoWish) := by
  refine Fun.okN T.F_l_made sc_l_made (fun vs H Q E h => ?_) (fun cdv A outer s H vs Q E hr h => ?_)
  · obtain ⟨p, f, rfl, _⟩ := h
    rfl
  · obtain ⟨p, f, rfl, hf, su, kg, kb⟩ := h
    refine ⟨_, (pss_one (ps_ret (pe_makeK0 T.mk_Wish (ok_Wish_init T) (hr.mono (by decide)) (by rfl) T.m_Wish T.kb_Wish_init_all (L2N.passes_call (L2N.takes_of rfl rfl rfl rfl) (fun _ _ _ _ h => h)) (pk_cons (pe_dget (Nat.lt_of_le_of_lt (Nat.add_le_add_left (by decide) _) hr.units) (pv 0) pe_str (fun _ _ => rfl)) (pk_cons (pe_dget (Nat.lt_of_le_of_lt (Nat.add_le_add_left (by decide) _) hr.units) (pv 0) pe_str (fun _ _ => rfl)) (pk_cons (pe_dget (Nat.lt_of_le_of_lt (Nat.add_le_add_left (by decide) _) hr.units) (pv 0) pe_str (fun _ _ => rfl)) (pk_cons (pe_dget (Nat.lt_of_le_of_lt (Nat.add_le_add_left (by decide) _) hr.units) (pv 0) pe_str (fun _ _ => rfl)) (pk_cons (pe_dget (Nat.lt_of_le_of_lt (Nat.add_le_add_left (by decide) _) hr.units) (pv 0) pe_str (fun _ _ => rfl)) (pk_cons (pe_dget (Nat.lt_of_le_of_lt (Nat.add_le_add_left (by decide) _) hr.units) (pv 0) pe_str (fun _ _ => rfl)) (pk_cons (pe_dget (Nat.lt_of_le_of_lt (Nat.add_le_add_left (by decide) _) hr.units) (pv 0) pe_str (fun _ _ => rfl)) (pk_cons (pe_dget (Nat.lt_of_le_of_lt (Nat.add_le_add_left (by decide) _) hr.units) (pv 0) pe_str (fun _ _ => rfl)) pk_nil))))))))))), ?_⟩
    obtain ⟨pl, un, sv, hp, hpl, hst, hun⟩ := hf.ex
    walk_at "rdh"
    refine r_makeK ?_
    walk_at "rdh"
    refine ⟨p, _, rfl, dg_unit hp, ?_⟩
    walk_at "rdh"
    refine ⟨p, _, rfl, dg_scaled hp, ?_⟩
    walk_at "rdh"
    refine ⟨p, _, rfl, dg_grouped hp, ?_⟩
    walk_at "rdh"
    refine ⟨p, _, rfl, dg_signs hp, ?_⟩
    walk_at "rdh"
    refine ⟨p, _, rfl, dg_way hp, ?_⟩
    walk_at "rdh"
    refine ⟨p, _, rfl, dg_step hp, ?_⟩
    walk_at "rdh"
    refine ⟨p, _, rfl, dg_figures hp, ?_⟩
    walk_at "rdh"
    refine ⟨p, _, rfl, dg_places hp, ?_⟩
    walk_at "rdh"
    refine ⟨rfl, rfl, ?_⟩
    exact mk_wish (f := f) (vs := [.ref pl, intO f.fig, sv, .str f.way, .str f.sg, .bl f.gr, .bl f.sc, .ref un]) ⟨pl, un, sv, rfl, hpl, hst, hun⟩ su kg kb
end
end My

namespace My
open PySem L2 TL
/-! ### what the law thinks of a wish's fields -/
theorem cut1L (t : Str) : tl (cutS t none (some 1)) = (tl t).take 1 := by
  show ((tl t).drop 0).take (min 1 t.length - 0) = _
  rw [len_tl]
  simp only [List.drop_zero, Nat.sub_zero]
  cases tl t with
  | nil => rfl
  | cons c r => simp
theorem cutEnd (t : Str) : tl (cutS t (some (-1)) none) = (tl t).drop ((tl t).length - 1) := by
  have e : HT.sIx t.length 0 (some (-1)) = t.length - 1 := by
    show (if (-1 : Int) < 0 then ((-1 : Int) + (t.length : Int)).toNat else min ((-1 : Int)).toNat t.length) = _
    rw [if_pos (by decide)]
    omega
  show ((tl t).drop (HT.sIx t.length 0 (some (-1)))).take (t.length - HT.sIx t.length 0 (some (-1))) = _
  rw [e, len_tl]
  exact List.take_of_length_le (by simp)
theorem eq_blank (z : Str) : (z = (" " : Str)) ↔ tl z = [32] := by
  constructor
  · intro h; rw [h]; rfl
  · intro h; exact ext_tl h
theorem first_blank (z : Str) : decide (cutS z none (some 1) = (" " : Str)) = startB z := by
  unfold startB
  apply decide_eq_decide.mpr
  rw [eq_blank, cut1L]
  cases tl z with
  | nil => simp
  | cons c r => simp
theorem last_blank (z : Str) : decide (cutS z (some (-1)) none = (" " : Str)) = endB z := by
  unfold endB
  apply decide_eq_decide.mpr
  rw [eq_blank, cutEnd]
  rcases List.eq_nil_or_concat (tl z) with h | ⟨l, c, h⟩
  · rw [h]; simp
  · rw [h, List.concat_eq_append]
    simp
theorem tl_ten (k : Nat) : ("1" ++ repT "0" k : Str).cps.toList = 49 :: List.replicate k 48 := by
  have e : ("1" ++ repT "0" k : Str).cps.toList = ("1" : Str).cps.toList ++ (repT "0" k).cps.toList := by rw [PySem.Str.cps_append, Array.toList_append]
  have e1 : ("1" : Str).cps.toList = [49] := by decide +kernel
  have e2 : (repT "0" k).cps.toList = List.replicate k 48 := by
    have t : tl ("0" : Str) = [48] := by decide +kernel
    show ((List.replicate k (tl "0")).flatten).toArray.toList = _
    rw [t]
    have : ∀ k : Nat, (List.replicate k [48]).flatten = List.replicate k 48 := by
      intro k
      induction k with
      | zero => rfl
      | succ n ih => rw [List.replicate_succ, List.flatten_cons, ih, List.replicate_succ]; rfl
    rw [this]
  rw [e, e1, e2]
  rfl
theorem ten_val : ∀ k : Nat, k < 80 → NumText.digitsVal (49 :: List.replicate k 48) = 10 ^ k := by decide +kernel
theorem ten_text (k : Nat) (h : k < 80) : intText? ("1" ++ repT "0" k) = some (10 ^ k) ∧ ("1" ++ repT "0" k : Str).length ≤ 640 := by
  have e := tl_ten k
  have hl : ("1" ++ repT "0" k : Str).length = k + 1 := by
    rw [len_tl]
    show (("1" ++ repT "0" k : Str).cps.toList).length = _
    rw [e, List.length_cons, List.length_replicate]
  refine ⟨?_, by omega⟩
  have a : NumText.AllDigits ("1" ++ repT "0" k : Str).cps.toList := by
    rw [e]
    intro c hc
    rcases List.mem_cons.mp hc with g | g
    · subst g; decide
    · rw [(List.mem_replicate.mp g).2]; decide
  rw [PySem.intText_digits a (by rw [e]; exact List.cons_ne_nil _ _) (by omega), e, ten_val k h, Int.natCast_pow]
  rfl
/-- as many places, up to sixty -/
def Least60 (b : Nat) (v : Option Nat) : Prop := match v with
  | some n => b ∣ 10 ^ n ∧ ∀ m, b ∣ 10 ^ m → n ≤ m
  | none => ¬ b ∣ 10 ^ 60
theorem step60 {x : Rat} {b : Int} {v : Option Nat} (h : Least60 x.den v) (b0 : 0 ≤ b) (b1 : b ≤ 60) (x0 : 0 < x.num) : stepOk x b = optLe v b := by
  cases v with
  | none =>
    unfold stepOk
    rw [decide_eq_true x0, Bool.true_and]
    refine decide_eq_false fun z => ?_
    exact h (Nat.dvd_trans z (Nat.pow_dvd_pow 10 (by omega)))
  | some n => exact step_least (v := some n) h b0 x0
theorem num_dvd {x : Rat} {k : Nat} : (x.num * 10 ^ k) % (x.den : Int) = 0 ↔ x.den ∣ 10 ^ k := by
  have c : Nat.Coprime x.den x.num.natAbs := x.reduced.symm
  rw [← Int.dvd_iff_emod_eq_zero, ← Int.natAbs_dvd_natAbs, Int.natAbs_mul, Int.natAbs_natCast, Int.natAbs_pow]
  exact ⟨fun h => c.dvd_of_dvd_mul_left h, fun h => Nat.dvd_trans h (Nat.dvd_mul_left _ _)⟩
structure Sm (f : Wf) : Prop where
  pa : f.pa.natAbs ≤ 100
  pb : f.pb.natAbs ≤ 100
  fig : ∀ n, f.fig = some n → n.natAbs ≤ 100
  stp : ∀ x, f.stp = some x → x.num.natAbs < 2 ^ 60 ∧ x.den < 2 ^ 60
  way : shB (.str f.way) = true
  sg : shB (.str f.sg) = true
  u0 : shB (.str f.u0) = true
  u1 : shB (.str f.u1) = true
  us : ShortU f
theorem b500 {i : Int} {k : Nat} (h : i.natAbs < 2 ^ k) (hk : k ≤ 500) : shB (.int i) = true := by
  unfold shB
  exact decide_eq_true (Nat.lt_of_lt_of_le h (Nat.pow_le_pow_right (by decide) hk))
theorem sh_cons {d : PyData} {ds : List PyData} (a : shB d = true) (b : shAll ds = true) : shAll (d :: ds) = true := by
  unfold shAll; rw [a, b]; rfl
theorem sh_nil : shAll [] = true := by unfold shAll; rfl
theorem sh_tup {ds : List PyData} (h : shAll ds = true) : shB (.tuple ds) = true := by unfold shB; exact h
theorem Sm.ok {f : Wf} (h : Sm f) : OkF f := by
  unfold OkF dueD
  have i1 : ∀ i : Int, i.natAbs ≤ 100 → shB (.int i) = true := fun i h => b500 (k := 7) (by omega) (by decide)
  have hf : shB (intD f.fig) = true := by
    cases e : f.fig with
    | none => unfold intD shB; rfl
    | some n => exact i1 _ (h.fig n e)
  have hs : shB (stpD f.stp) = true := by
    cases e : f.stp with
    | none => unfold stpD shB; rfl
    | some x =>
      obtain ⟨a, b⟩ := h.stp x e
      refine sh_tup (sh_cons (by decide +kernel) (sh_cons (b500 a (by decide)) (sh_cons (b500 (k := 60) (by omega) (by decide)) sh_nil)))
  have hb : ∀ b : Bool, shB (.bool b) = true := fun b => by unfold shB; rfl
  exact sh_tup (sh_cons (sh_tup (sh_cons (i1 _ h.pa) (sh_cons (i1 _ h.pb) sh_nil))) (sh_cons hf (sh_cons hs (sh_cons h.way (sh_cons h.sg (sh_cons (hb _) (sh_cons (hb _) (sh_cons (sh_tup (sh_cons h.u0 (sh_cons h.u1 sh_nil))) sh_nil))))))))
end My

namespace My
open PySem L2 TL
section
variable {P : Program} {w : World} {K : PySem.W.Frag} {mg : Str → Option Value} {base : Heap}
def spWhL : Sp := fun vs H Q _ => ∃ i lo hi : Int, vs = [.int i, .int lo, .int hi] ∧ Q (.bl (whB i lo hi)) H
theorem ok_l_whole (T : Txt w K mg) : FnOk P w K mg base CX0 1 T.f_l_whole T.fd_l_whole ["_law_thing", "_law_low", "_law_high"] spWhL := by
  refine T.F_l_whole.ok sc_l_whole (fun vs H Q E h => ?_) (fun cdv A outer s H vs Q E hr h => ?_)
  · obtain ⟨i, lo, hi, rfl, _⟩ := h
    rfl
  · obtain ⟨i, lo, hi, rfl, k⟩ := h
    refine ⟨_, (pss_one (ps_ret (pe_and (pe_callB call_isi (by rfl) T.n_isinstance (by decide +kernel) (pa_cons (pv 0) (pa_cons (pe_bltn (v := .ty "int") (by rfl) T.n_int (by decide +kernel) rfl) pa_nil))) (pe_and (pe_not (pe_callB call_isi (by rfl) T.n_isinstance (by decide +kernel) (pa_cons (pv 0) (pa_cons (pe_bltn (v := .ty "bool") (by rfl) T.n_bool (by decide +kernel) rfl) pa_nil)))) (pe_one (pe_chain op_le op_le (pv 1) (pv 0) (pv 2))))))), ?_⟩
    unfold whB at k
    walk_at "rdh"
    refine is_intI ?_
    walk_at "rdh"
    refine r_iteT rfl ?_
    walk_at "rdh"
    refine not_boolI ?_
    walk_at "rdh"
    refine r_iteT rfl ?_
    walk_at "rdh"
    refine r_chainW ?_
    walk_at "rdh"
    refine r_ite (fun e => ?_) (fun e => ?_)
    · rw [e, Bool.true_and] at k
      walk_at "rdh"
      exact k
    · rw [e, Bool.false_and] at k
      exact k
def spWaysL : Sp := fun vs H Q _ => vs = [] ∧ ∀ (l : Addr) (H' : Hp), Same H H' → H l = none → H' l = some (.lst (waysL.map V.str)) → Q (.ref l) H'
theorem ok_l_ways (T : Txt w K mg) : FnOk P w K mg base CX0 1 T.f_l_ways T.fd_l_ways [] spWaysL := by
  refine T.F_l_ways.ok sc_l_ways (fun vs H Q E h => ?_) (fun cdv A outer s H vs Q E hr h => ?_)
  · obtain ⟨rfl, _⟩ := h
    rfl
  · obtain ⟨rfl, k⟩ := h
    refine ⟨_, (pss_one (ps_ret (pe_lst (pa_cons pe_str (pa_cons pe_str (pa_cons pe_str (pa_cons pe_str (pa_cons pe_str (pa_cons pe_str (pa_cons pe_str (pa_cons pe_str pa_nil))))))))))), ?_⟩
    walk_at "rdh"
    refine r_new (by show 8 ≤ 1000; decide) fun p hp => ?_
    exact k p _ (Same.new hp) hp upd_same
def spMany (C : Addr) : Sp := fun vs H Q _ => ∃ (p : Addr) (x : Rat), vs = [.ref p] ∧ NumAt C H p x ∧ x.num.natAbs < 2 ^ 60 ∧ ∀ v, Least60 x.den v → Q (optV v) H
theorem ok_l_many_places (T : Txt w K mg) : FnOk P w K mg base CX0 1 T.f_l_many_places T.fd_l_many_places ["_law_number"] (spMany T.C_Number) := by
  refine T.F_l_many_places.ok sc_l_many_places (fun vs H Q E h => ?_) (fun cdv A outer s H vs Q E hr h => ?_)
  · obtain ⟨p, x, rfl, _⟩ := h
    rfl
  · obtain ⟨p, x, rfl, ⟨dx, hp⟩, hb, k⟩ := h
    have cN := T.c_Number
    have nT := T.n_Number_top
    have nB := T.n_Number_bottom
    have d0 : (0 : Int) < (x.den : Int) := by have := x.den_pos; omega
    refine ⟨_, (pss_cons (ps_for PassesOwn.never rfl (pi_range1 rfl T.n_range (pa_cons pe_int pa_nil)) (pg_name (i := 1) sc_l_many_places.nd rfl (Or.inl rfl))
  (pss_cons (ps_if (pt_cmpR op_ne (pe_op op_mod (pe_op op_mulW (pe_op op_pow pe_int pe_int) (pe_fld (pv 0) rfl)) (pe_fld (pv 0) rfl)) pe_int (nomark _))
  (pss_one (ps_ret pe_non))
  pss_nil)
 (pss_one (ps_if (pt_cmpR op_eq (pe_op op_mod (pe_op op_mul (pe_fld (pv 0) rfl) (pe_callTy call_int_str (by rfl) T.n_int (by decide +kernel) (pa_cons (pe_op op_add_str pe_str (pe_op op_repS pe_str (pv 1))) pa_nil))) (pe_fld (pv 0) rfl)) pe_int (nomark _))
  (pss_one (ps_ret (pv 1)))
  pss_nil))))
 (pss_one (ps_ret pe_non))), ?_⟩
    walk_at "rdf"
    refine r_rng1 ?_
    walk_at "rdf"
    refine ⟨80, rfl, by decide, by decide, for_range (lo := 0) (n := 80) (fun i σ H' => ∃ v : Option V, σ = [some (.ref p), v] ∧ H' = H ∧ (0 < i → x.den ∣ 10 ^ 60) ∧ ∀ j, j < i → ¬ x.den ∣ 10 ^ j) ⟨_, rfl, rfl, fun h => by omega, fun j h => by omega⟩ ?_ ?_⟩
    · rintro i σ H' hi ⟨v, rfl, rfl, h60, hj⟩
      walk_at "rdf"
      have e0 : ((10 : Int) ^ (60 : Int).toNat) = ((10 ^ 60 : Nat) : Int) := rfl
      refine r_I (wide_mul (a := 200) (b := 60) (by rw [e0]; decide) hb (by decide) (by decide) (by decide)) ?_
      walk_at "rdf"
      refine r_I d0 ?_
      walk_at "rdf"
      have em : ∀ k : Nat, decide (x.num * 10 ^ k % (x.den : Int) = 0) = decide (x.den ∣ 10 ^ k) := fun k => decide_eq_decide.mpr num_dvd
      refine r_ite (fun e => ?_) (fun e => ?_)
      · walk_at "rdf"
        refine k none fun z => ?_
        have z2 := num_dvd.mpr z
        have e2 : ¬ (10 : Int) ^ (60 : Int).toNat * x.num % (x.den : Int) = 0 := by simpa using e
        rw [Int.mul_comm] at e2
        exact e2 z2
      have e2 : (10 : Int) ^ (60 : Int).toNat * x.num % (x.den : Int) = 0 := by simpa using e
      have d60 : x.den ∣ 10 ^ 60 := by
        rw [Int.mul_comm] at e2
        exact num_dvd.mp e2
      walk_at "rdf"
      have hk : (0 : Int) + (i : Int) = ((i : Nat) : Int) := by omega
      rw [hk]
      refine ⟨"0", ((i : Nat) : Int), rfl, rfl, by omega, by omega, by decide, ?_⟩
      walk_at "rdf"
      obtain ⟨t1, t2⟩ := ten_text i (by omega)
      refine ⟨"1", _, rfl, rfl, ?_, ?_⟩
      · rw [Int.toNat_natCast]
        have sl : sizeLine = 16777216 := rfl
        have e1 : ("1" ++ repT "0" i : Str).length = ("1" : Str).length + (repT "0" i).length := PySem.Str.length_append _ _
        omega
      walk_at "rdf"
      rw [Int.toNat_natCast]
      refine ⟨_, _, rfl, t1, t2, ?_⟩
      walk_at "rdf"
      refine r_I (.inl (by omega)) ?_
      walk_at "rdf"
      refine r_I d0 ?_
      walk_at "rdf"
      refine r_ite (fun e3 => ?_) (fun e3 => ?_)
      · walk_at "rdf"
        rw [em] at e3
        refine k (some i) ⟨of_decide_eq_true e3, fun m hm => ?_⟩
        exact Nat.le_of_not_lt fun lt => hj m lt hm
      · walk_at "rdf"
        rw [em] at e3
        refine ⟨_, rfl, rfl, fun _ => d60, fun j hj' => ?_⟩
        by_cases ej : j = i
        · rw [ej]; exact of_decide_eq_false e3
        · exact hj j (by omega)
    · rintro σ H' ⟨v, rfl, rfl, h60, hj⟩
      walk_at "rdf"
      refine k none fun z => hj 60 (by decide) z
def spIsStepL (K : PySem.W.Frag) (N : Addr) : Sp := fun vs H Q _ => ∃ (px p : Addr) (x : Rat) (f : Wf), vs = [.ref px, .ref p] ∧ NumAt N H px x ∧ x.num.natAbs < 2 ^ 60 ∧ FAt K N H p f ∧ 0 ≤ f.pb ∧ f.pb ≤ 60 ∧ Q (.bl (f.fig.isNone && stepOk x f.pb)) H
theorem ok_l_is_step (T : Txt w K mg) : FnOk P w K mg base CX0 2 T.f_l_is_step T.fd_l_is_step ["_law_thing", "_law_f"] (spIsStepL K T.C_Number) := by
  refine T.F_l_is_step.ok sc_l_is_step (fun vs H Q E h => ?_) (fun cdv A outer s H vs Q E hr h => ?_)
  · obtain ⟨px, p, x, f, rfl, _⟩ := h
    rfl
  · obtain ⟨px, p, x, f, rfl, hx, hb, hf, b0, b1, k⟩ := h
    have cN := T.c_Number
    have nT := T.n_Number_top
    have nB := T.n_Number_bottom
    refine ⟨_, (pss_cons (ps_if (PW.pt (pw_or (pt_not (pt_val (pe_callB call_isi (by rfl) T.n_isinstance (by decide +kernel) (pa_cons (pv 0) (pa_cons (pe_glob (v := .ref T.C_Number) (by rfl) T.m_Number rfl) pa_nil))))) (pw_or (pt_cmpR op_lt (pe_fld (pv 0) rfl) pe_int (nomark _)) (pw_or1 (pt_cmpR op_notN (pe_dget (Nat.lt_of_le_of_lt (Nat.add_le_add_left (by decide) _) hr.units) (pv 1) pe_str (fun _ _ => rfl)) pe_non (nomark _))))))
  (pss_one (ps_ret pe_bl))
  pss_nil)
 (pss_cons (ps_set (i := 2) sc_l_is_step.nd rfl (Or.inl rfl) (pe_call (ok_l_many_places T) (hr.mono (by decide)) (by rfl) T.m_l_many_places T.F_l_many_places.kp T.b_l_many_places .nil pass0 (pa_cons (pv 0) pa_nil)))
 (pss_one (ps_ret (pe_and (pe_cmpR op_notN (pv 2) pe_non (nomark _)) (pe_one (pe_cmpR op_le (pv 2) (pe_ix ix_tup (pe_dget (Nat.lt_of_le_of_lt (Nat.add_le_add_left (by decide) _) hr.units) (pv 1) pe_str (fun _ _ => rfl)) pe_int (fun _ _ => rfl)) (nomark _)))))))), ?_⟩
    obtain ⟨pl, un, sv, hp, hpl, hst, hun⟩ := hf.ex
    walk_at "rdh"
    refine is_numN T hx ?_
    walk_at "rdh"
    refine r_iteF rfl ?_
    obtain ⟨dx, hx'⟩ := hx
    walk_at "rdf"
    refine r_ite (fun e => ?_) (fun e => ?_)
    · walk_at "rdh"
      (try refine r_iteT rfl ?_)
      walk_at "rdh"
      have e' : ¬ 0 < x.num := by have := of_decide_eq_true e; omega
      have e2 : stepOk x f.pb = false := by unfold stepOk; rw [decide_eq_false e']; rfl
      rw [e2, Bool.and_false] at k
      exact k
    have x0 : 0 < x.num := by have := of_decide_eq_false e; omega
    walk_at "rdh"
    refine ⟨p, _, rfl, dg_figures hp, ?_⟩
    walk_at "rdh"
    refine ⟨rfl, ?_⟩
    cases hfig : f.fig with
    | some n =>
      rw [hfig] at k
      walk_at "rdh"
      refine r_iteT rfl ?_
      walk_at "rdh"
      exact k
    | none =>
      rw [hfig] at k
      have k' : Q (.bl (stepOk x f.pb)) H := k
      walk_at "rdh"
      refine r_iteF rfl ?_
      walk_at "rdh"
      refine ⟨px, x, rfl, ⟨dx, hx'⟩, hb, fun v hv => ?_⟩
      rw [step60 hv b0 b1 x0] at k'
      cases v with
      | none =>
        walk_at "rdh"
        refine ⟨rfl, ?_⟩
        walk_at "rdh"
        exact k'
      | some n =>
        walk_at "rdh"
        refine ⟨rfl, ?_⟩
        walk_at "rdh"
        refine r_iteT rfl ?_
        walk_at "rdh"
        refine ⟨p, _, rfl, dg_places hp, ?_⟩
        walk_at "rdh"
        refine r_ixS hpl (atI_nat (j := 1) rfl) ?_
        exact r_I0 (f := fun i j => V.bl (decide (i ≤ j))) (i := (n : Int)) k'
end
end My

namespace My
open PySem L2 TL
section
variable {P : Program} {w : World} {K : PySem.W.Frag} {mg : Str → Option Value} {base : Heap}
theorem ints_ones (n : Nat) : List.replicate n (V.int 1) = (List.replicate n (1 : Int)).map V.int := by rw [List.map_replicate]
theorem FAt.dq {N p : Addr} {H : Hp} {f : Wf} (h : FAt K N H p f) : ∃ (pl un : Addr) (sv : V), H p = some (.dK (wD (.ref pl) (intO f.fig) sv (.str f.way) (.str f.sg) (.bl f.gr) (.bl f.sc) (.ref un))) ∧ SqT K H pl [.int f.pa, .int f.pb] ∧ StpAt N H sv f.stp ∧ SqT K H un [.str f.u0, .str f.u1] := h.ex
theorem notIn_l {H : Hp} {l : Addr} {xs : List Str} {z : Str} {Q : VK} (h : H l = some (.lst (xs.map V.str))) (q : Q (.bl (!decide (z ∈ xs))) H) : rIn K true (.str z) (.ref l) H Q :=
  ⟨l, _, rfl, .inl (SqL.of h), rfl, flat_strsW xs, by rw [inV_strs]; exact q⟩
theorem whole2 (a b : Int) : (whB b 0 12 = false → placesOk a b = false) ∧ (whB b 0 12 = true → whB a 0 b = false → placesOk a b = false) ∧ (whB b 0 12 = true → whB a 0 b = true → placesOk a b = true) := by
  unfold placesOk whB
  refine ⟨fun h => ?_, fun h g => ?_, fun h g => ?_⟩
  · rw [h, Bool.and_false, Bool.false_and]
  · rw [Bool.eq_false_iff] at g ⊢
    intro z
    apply g
    simp only [Bool.and_eq_true, decide_eq_true_eq] at *
    omega
  · simp only [Bool.and_eq_true, decide_eq_true_eq] at *
    omega
def spFault (K : PySem.W.Frag) (N : Addr) : Sp := fun vs H Q _ => ∃ (p : Addr) (f : Wf), vs = [.ref p] ∧ FAt K N H p f ∧ Sm f ∧ ∀ H', Same H H' → Q (optS (firstW f)) H'
theorem ok_l_fault (T : Txt w K mg) : FnOk P w K mg base CX0 3 T.f_l_fault T.fd_l_fault ["_law_f"] (spFault K T.C_Number) := by
  refine T.F_l_fault.ok sc_l_fault (fun vs H Q E h => ?_) (fun cdv A outer s H vs Q E hr h => ?_)
  · obtain ⟨p, f, rfl, _⟩ := h
    rfl
  · obtain ⟨p, f, rfl, hf, sm, k⟩ := h
    refine ⟨_, (pss_cons (ps_set (i := 1) sc_l_fault.nd rfl (Or.inl rfl) (pe_dget (Nat.lt_of_le_of_lt (Nat.add_le_add_left (by decide) _) hr.units) (pv 0) pe_str (fun _ _ => rfl)))
 (pss_cons (ps_if (PW.pt (pw_or (pt_not (pt_val (pe_callB call_isi (by rfl) T.n_isinstance (by decide +kernel) (pa_cons (pv 1) (pa_cons (pe_bltn (v := .ty "tuple") (by rfl) T.n_tuple (by decide +kernel) rfl) pa_nil))))) (pw_or (pt_cmpR op_ne (pe_callB call_len_seq (by rfl) T.n_len PySem.boot_len (pa_cons (pv 1) pa_nil)) pe_int (nomark _)) (pw_or1 (pt_not (pt_val (pe_call (ok_l_whole T) (hr.mono (by decide)) (by rfl) T.m_l_whole T.F_l_whole.kp T.b_l_whole .nil pass0 (pa_cons (pe_ix ix_tup (pv 1) pe_int (fun _ _ => rfl)) (pa_cons pe_int (pa_cons pe_int pa_nil))))))))))
  (pss_one (ps_ret pe_str))
  pss_nil)
 (pss_cons (ps_if (pt_not (pt_val (pe_call (ok_l_whole T) (hr.mono (by decide)) (by rfl) T.m_l_whole T.F_l_whole.kp T.b_l_whole .nil pass0 (pa_cons (pe_ix ix_tup (pv 1) pe_int (fun _ _ => rfl)) (pa_cons pe_int (pa_cons (pe_ix ix_tup (pv 1) pe_int (fun _ _ => rfl)) pa_nil))))))
  (pss_one (ps_ret pe_str))
  pss_nil)
 (C8.pss_cut (ps_if (PW.pt (pw_and (pt_cmpR op_notN (pe_dget (Nat.lt_of_le_of_lt (Nat.add_le_add_left (by decide) _) hr.units) (pv 0) pe_str (fun _ _ => rfl)) pe_non (nomark _)) (pw_and1 (pt_not (pt_val (pe_call (ok_l_whole T) (hr.mono (by decide)) (by rfl) T.m_l_whole T.F_l_whole.kp T.b_l_whole .nil pass0 (pa_cons (pe_dget (Nat.lt_of_le_of_lt (Nat.add_le_add_left (by decide) _) hr.units) (pv 0) pe_str (fun _ _ => rfl)) (pa_cons pe_int (pa_cons pe_int pa_nil)))))))))
  (pss_one (ps_ret pe_str))
  pss_nil)
 (C8.pss_cut (ps_if (PW.pt (pw_and (pt_cmpR op_notN (pe_dget (Nat.lt_of_le_of_lt (Nat.add_le_add_left (by decide) _) hr.units) (pv 0) pe_str (fun _ _ => rfl)) pe_non (nomark _)) (pw_and1 (pt_not (pt_val (pe_call (ok_l_is_step T) (hr.mono (by decide)) (by rfl) T.m_l_is_step T.F_l_is_step.kp T.b_l_is_step .nil pass0 (pa_cons (pe_dget (Nat.lt_of_le_of_lt (Nat.add_le_add_left (by decide) _) hr.units) (pv 0) pe_str (fun _ _ => rfl)) (pa_cons (pv 0) pa_nil))))))))
  (pss_one (ps_ret pe_str))
  pss_nil)
 (pss_cons (ps_for PassesOwn.never rfl (pi_list (pe_lst (pa_cons (pe_tup (pa_cons pe_str (pa_cons (pe_call0 (ok_l_ways T) (hr.mono (by decide)) (by rfl) T.m_l_ways T.F_l_ways.kp T.b_l_ways .nil pass0) pa_nil))) (pa_cons (pe_tup (pa_cons pe_str (pa_cons (pe_lst (pa_cons pe_str (pa_cons pe_str pa_nil))) pa_nil))) pa_nil)))) (pg_tup rfl (pgs_cons (pg_name (i := 2) sc_l_fault.nd rfl (Or.inl rfl)) (pgs_cons (pg_name (i := 3) sc_l_fault.nd rfl (Or.inl rfl)) pgs_nil)))
  (pss_one (ps_if (PW.pt (pw_or (pt_not (pt_val (pe_callB call_isi (by rfl) T.n_isinstance (by decide +kernel) (pa_cons (pe_dget (Nat.lt_of_le_of_lt (Nat.add_le_add_left (by decide) _) hr.units) (pv 0) (pv 2) (fun _ _ => rfl)) (pa_cons (pe_bltn (v := .ty "str") (by rfl) T.n_str (by decide +kernel) rfl) pa_nil))))) (pw_or1 (pt_cmpR op_notIn_seq (pe_dget (Nat.lt_of_le_of_lt (Nat.add_le_add_left (by decide) _) hr.units) (pv 0) (pv 2) (fun _ _ => rfl)) (pv 3) (by rfl)))))
  (pss_one (ps_ret (pv 2)))
  pss_nil)))
 (pss_cons (ps_if (pt_not (pt_val (pe_callB call_isi (by rfl) T.n_isinstance (by decide +kernel) (pa_cons (pe_dget (Nat.lt_of_le_of_lt (Nat.add_le_add_left (by decide) _) hr.units) (pv 0) pe_str (fun _ _ => rfl)) (pa_cons (pe_bltn (v := .ty "bool") (by rfl) T.n_bool (by decide +kernel) rfl) pa_nil)))))
  (pss_one (ps_ret pe_str))
  pss_nil)
 (C8.pss_cut (ps_if (PW.pt (pw_or (pt_not (pt_val (pe_callB call_isi (by rfl) T.n_isinstance (by decide +kernel) (pa_cons (pe_dget (Nat.lt_of_le_of_lt (Nat.add_le_add_left (by decide) _) hr.units) (pv 0) pe_str (fun _ _ => rfl)) (pa_cons (pe_bltn (v := .ty "bool") (by rfl) T.n_bool (by decide +kernel) rfl) pa_nil))))) (pw_or1 (PW.pt (pw_and (pt_val (pe_dget (Nat.lt_of_le_of_lt (Nat.add_le_add_left (by decide) _) hr.units) (pv 0) pe_str (fun _ _ => rfl))) (pw_and1 (pt_cmpR op_notN (pe_dget (Nat.lt_of_le_of_lt (Nat.add_le_add_left (by decide) _) hr.units) (pv 0) pe_str (fun _ _ => rfl)) pe_non (nomark _))))))))
  (pss_one (ps_ret pe_str))
  pss_nil)
 (pss_cons (ps_set (i := 4) sc_l_fault.nd rfl (Or.inl rfl) (pe_dget (Nat.lt_of_le_of_lt (Nat.add_le_add_left (by decide) _) hr.units) (pv 0) pe_str (fun _ _ => rfl)))
 (pss_cons (ps_if (PW.pt (pw_or (pt_not (pt_val (pe_callB call_isi (by rfl) T.n_isinstance (by decide +kernel) (pa_cons (pv 4) (pa_cons (pe_bltn (v := .ty "tuple") (by rfl) T.n_tuple (by decide +kernel) rfl) pa_nil))))) (pw_or1 (pt_cmpR op_ne (pe_callB call_len_seq (by rfl) T.n_len PySem.boot_len (pa_cons (pv 4) pa_nil)) pe_int (nomark _)))))
  (pss_one (ps_ret pe_str))
  pss_nil)
 (pss_cons (ps_if (pt_cmpR (op_neD hr.units) (pe_lc (own := [("_law_one", 5)]) (g := gName 5) rfl sc_l_fault.nd (pi_tup (pv 4)) (blkOk_by (own := [("_law_one", 5)]) (N := ["_law_f", "_law_two", "_law_name", "_law_some", "_law_pair", "_law_one"]) (sc := defScope s_l_fault) (by decide +kernel)) (fun _ _ _ _ _ => pg_name (i := 5) sc_l_fault.nd rfl (Or.inl rfl)) (fun _ _ _ _ _ => (pts_one (PW.pt (pw_or (pt_not (pt_val (pe_callB (call_isiK (K0 := K) rfl) (by rfl) T.n_isinstance (by decide +kernel) (pa_cons (pv 5) (pa_cons (pe_bltn (v := .ty "str") (by rfl) T.n_str (by decide +kernel) rfl) pa_nil))))) (pw_or1 (pt_cmpR op_gt (pe_callB call_len_str (by rfl) T.n_len PySem.boot_len (pa_cons (pv 5) pa_nil)) pe_int (nomark _))))))) (fun _ _ _ _ _ => pe_int)) (pe_lst pa_nil) (nomark _))
  (pss_one (ps_ret pe_str))
  pss_nil)
 (pss_one (ps_ret (pe_ifExp (PW.pt (pw_or (pt_cmpR op_eq (pe_slice sl_str (pe_ix ix_tup (pv 4) pe_int (fun _ _ => rfl)) po_none (po_some pe_int)) pe_str (nomark _)) (pw_or1 (pt_cmpR op_eq (pe_slice sl_str (pe_ix ix_tup (pv 4) pe_int (fun _ _ => rfl)) (po_some (pe_un un_neg pe_int)) po_none) pe_str (nomark _))))) pe_str pe_non)))))))))))))), ?_⟩
    obtain ⟨pl, un, sv, hp, hpl, hst, hun⟩ := hf.ex
    have tell : ∀ {z : Option Str} {H' : Hp}, firstW f = z → Same H H' → Q (optS z) H' := fun e s => e ▸ k _ s
    have s0 := Same.refl H
    obtain ⟨w1, w2, w3⟩ := whole2 f.pa f.pb
    walk_at "rdh"
    refine ⟨p, _, rfl, dg_places hp, ?_⟩
    walk_at "rdh"
    refine is_tupS hpl ?_
    walk_at "rdh"
    refine r_iteF rfl ?_
    walk_at "rdh"
    refine ⟨pl, _, rfl, .inr hpl, ?_⟩
    walk_at "rdh"
    refine r_iteF rfl ?_
    walk_at "rdh"
    refine r_ixS hpl (atI_nat (j := 1) rfl) ?_
    walk_at "rdh"
    refine ⟨f.pb, 0, 12, rfl, ?_⟩
    walk_at "rdh"
    refine r_ite (fun e1 => ?_) (fun e1 => ?_)
    · walk_at "rdh"
      exact tell (z := some "places") (by unfold firstW; rw [if_pos (w1 (by simpa using e1))]) s0
    have hb : whB f.pb 0 12 = true := by simpa using e1
    walk_at "rdh"
    refine r_ixS hpl (atI_nat (j := 0) rfl) ?_
    walk_at "rdh"
    refine r_ixS hpl (atI_nat (j := 1) rfl) ?_
    walk_at "rdh"
    refine ⟨f.pa, 0, f.pb, rfl, ?_⟩
    walk_at "rdh"
    refine r_ite (fun e2 => ?_) (fun e2 => ?_)
    · walk_at "rdh"
      exact tell (z := some "places") (by unfold firstW; rw [if_pos (w2 hb (by simpa using e2))]) s0
    have p1 : ¬ placesOk f.pa f.pb = false := by rw [w3 hb (by simpa using e2)]; decide
    have hbb : 0 ≤ f.pb ∧ f.pb ≤ 12 := by unfold whB at hb; simpa using hb
    walk_at "rdh"
    refine r_cut (fun σ' H' => σ' = [some (.ref p), some (.ref pl), none, none, none, none] ∧ H' = H ∧ ¬ figOk f.fig = false) ?_ ?_
    · walk_at "rdh"
      refine ⟨p, _, rfl, dg_figures hp, ?_⟩
      walk_at "rdh"
      refine ⟨rfl, ?_⟩
      cases hfg : f.fig with
      | none =>
        walk_at "rdh"
        refine r_iteF rfl ?_
        walk_at "rdh"
        (try refine r_iteF rfl ?_)
        walk_at "rdh"
        exact ⟨rfl, rfl, by simp [figOk]⟩
      | some n =>
        walk_at "rdh"
        refine r_iteT rfl ?_
        walk_at "rdh"
        refine ⟨p, _, rfl, dg_figures hp, ?_⟩
        rw [hfg]
        walk_at "rdh"
        refine ⟨n, 1, 12, rfl, ?_⟩
        walk_at "rdh"
        refine r_ite (fun e3 => ?_) (fun e3 => ?_)
        · walk_at "rdh"
          have e : figOk f.fig = false := by rw [hfg]; show whB n 1 12 = false; simpa using e3
          exact tell (z := some "figures") (by unfold firstW; rw [if_neg p1, if_pos e]) s0
        · walk_at "rdh"
          exact ⟨rfl, rfl, by show ¬ whB n 1 12 = false; simpa using e3⟩
    rintro σ' H2 ⟨rfl, rfl, p2⟩
    refine r_cut (fun σ' H' => σ' = [some (.ref p), some (.ref pl), none, none, none, none] ∧ H' = H2 ∧ ¬ stOk f = false) ?_ ?_
    · have fl : stOk f = false → Q (.str "step") H2 := fun e => tell (z := some "step") (by unfold firstW; rw [if_neg p1, if_neg p2, if_pos e]) s0
      walk_at "rdh"
      refine ⟨p, _, rfl, dg_step hp, ?_⟩
      walk_at "rdh"
      refine ⟨rfl, ?_⟩
      cases hs' : f.stp with
      | none =>
        rw [hs'] at hst
        cases hst
        walk_at "rdh"
        refine r_iteF rfl ?_
        walk_at "rdh"
        (try refine r_iteF rfl ?_)
        walk_at "rdh"
        exact ⟨rfl, rfl, by unfold stOk; rw [hs']; simp⟩
      | some x =>
        rw [hs'] at hst
        obtain ⟨px, hx, rfl⟩ : ∃ px, NumAt T.C_Number H2 px x ∧ sv = .ref px := by
          cases hst with
          | some h => exact ⟨_, h, rfl⟩
        walk_at "rdh"
        refine r_iteT rfl ?_
        walk_at "rdh"
        refine ⟨p, _, rfl, dg_step hp, ?_⟩
        walk_at "rdh"
        refine ⟨px, p, x, f, rfl, hx, (sm.stp x hs').1, hf, hbb.1, by omega, ?_⟩
        have e0 : stOk f = (f.fig.isNone && stepOk x f.pb) := by unfold stOk; rw [hs']
        rw [← e0]
        walk_at "rdh"
        refine r_ite (fun e2 => ?_) (fun e2 => ?_)
        · walk_at "rdh"
          exact fl (by simpa using e2)
        · walk_at "rdh"
          exact ⟨rfl, rfl, by simpa using e2⟩
    rintro σ' H3 ⟨rfl, rfl, p3⟩
    have p4' : ∀ {H'}, Same H3 H' → decide (f.way ∈ waysL) = false → Q (.str "way") H' := fun s e => tell (z := some "way") (by unfold firstW; rw [if_neg p1, if_neg p2, if_neg p3, if_pos e]) s
    walk_at "rdh"
    refine ⟨rfl, fun lw H4 s4 _ hlw => ?_⟩
    walk_at "rdh"
    refine r_new (by show 2 ≤ 1000; decide) fun t1 ht1 => ?_
    have s5 := s4.trans (Same.new (o := .tup [.str "way", .ref lw]) ht1)
    have hlw5 := Same.new (o := .tup [.str "way", .ref lw]) ht1 _ _ hlw
    have ht1' := upd_same (H := H4) (a := t1) (o := HO.tup [.str "way", .ref lw])
    generalize upd H4 t1 (.tup [.str "way", .ref lw]) = H5 at *
    walk_at "rdh"
    refine r_new (by show 2 ≤ 1000; decide) fun l2 hl2 => ?_
    have s6 := s5.trans (Same.new (o := .lst [.str "minus", .str "all"]) hl2)
    have hlw6 := Same.new (o := .lst [.str "minus", .str "all"]) hl2 _ _ hlw5
    have ht16 := Same.new (o := .lst [.str "minus", .str "all"]) hl2 _ _ ht1'
    have hl2' := upd_same (H := H5) (a := l2) (o := HO.lst [.str "minus", .str "all"])
    generalize upd H5 l2 (.lst [.str "minus", .str "all"]) = H6 at *
    walk_at "rdh"
    refine r_new (by show 2 ≤ 1000; decide) fun t2 ht2 => ?_
    have n7 := Same.new (o := .tup [.str "signs", .ref l2]) ht2
    have s7 := s6.trans n7
    have hlw7 := n7 _ _ hlw6
    have ht17 := n7 _ _ ht16
    have hl27 := n7 _ _ hl2'
    have ht2' := upd_same (H := H6) (a := t2) (o := HO.tup [.str "signs", .ref l2])
    generalize upd H6 t2 (.tup [.str "signs", .ref l2]) = H7 at *
    walk_at "rdh"
    refine r_new (by show 2 ≤ 1000; decide) fun l8 hl8 => ?_
    have n8 := Same.new (o := .lst [.ref t1, .ref t2]) hl8
    have s8 := s7.trans n8
    have hlw8 := n8 _ _ hlw7
    have ht18 := n8 _ _ ht17
    have hl28 := n8 _ _ hl27
    have ht28 := n8 _ _ ht2'
    have hl8' := upd_same (H := H7) (a := l8) (o := HO.lst [.ref t1, .ref t2])
    generalize upd H7 l8 (.lst [.ref t1, .ref t2]) = H8 at *
    have hp8 := s8 _ _ hp
    have hun8 := SqT.ext hun s8
    have p5' : ∀ {H'}, Same H3 H' → decide (f.way ∈ waysL) = true → decide (f.sg = "minus" ∨ f.sg = "all") = false → Q (.str "signs") H' := fun s e1 e => tell (z := some "signs") (by unfold firstW; rw [if_neg p1, if_neg p2, if_neg p3, if_neg (by rw [e1]; decide), if_pos e]) s
    refine ⟨l8, rfl, ⟨_, SqL.of hl8'⟩, for_list (K := K) (a := l8) (xs := [V.ref t1, .ref t2]) (fun i σ H' => ∃ v2 v3 : Option V, σ = [some (.ref p), some (.ref pl), v2, v3, none, none] ∧ H' = H8 ∧ (0 < i → decide (f.way ∈ waysL) = true) ∧ (1 < i → decide (f.sg = "minus" ∨ f.sg = "all") = true))
      ⟨_, _, rfl, rfl, fun h => by omega, fun h => by omega⟩ (fun i σ H' _ ⟨_, _, _, e, _⟩ => e ▸ SqL.of hl8') ?_ ?_⟩
    · rintro i y σ H' hi ⟨v2, v3, rfl, rfl, g1, g2⟩
      have es : decide (f.sg ∈ (["minus", "all"] : List Str)) = decide (f.sg = "minus" ∨ f.sg = "all") := by
        apply decide_eq_decide.mpr
        simp only [List.mem_cons, List.not_mem_nil, or_false]
      obtain ⟨rfl, rfl⟩ | ⟨rfl, rfl⟩ : (i = 0 ∧ y = .ref t1) ∨ (i = 1 ∧ y = .ref t2) := by
        rcases i with _ | _ | i
        · exact .inl ⟨rfl, (Option.some.inj hi).symm⟩
        · exact .inr ⟨rfl, (Option.some.inj hi).symm⟩
        · cases hi
      · walk_at "rdh"
        refine r_gTup ht18 rfl ?_
        walk_at "rdh"
        refine ⟨p, _, rfl, dg_way hp8, ?_⟩
        walk_at "rdh"
        refine is_strS ?_
        walk_at "rdh"
        refine r_iteF rfl ?_
        walk_at "rdh"
        refine ⟨p, _, rfl, dg_way hp8, ?_⟩
        walk_at "rdh"
        refine notIn_l (xs := waysL) hlw8 ?_
        walk_at "rdh"
        refine r_ite (fun e => ?_) (fun e => ?_)
        · walk_at "rdh"
          exact p4' s8 (by simpa using e)
        · walk_at "rdh"
          exact ⟨_, _, rfl, rfl, fun _ => by simpa using e, fun h => by omega⟩
      · walk_at "rdh"
        refine r_gTup ht28 rfl ?_
        walk_at "rdh"
        refine ⟨p, _, rfl, dg_signs hp8, ?_⟩
        walk_at "rdh"
        refine is_strS ?_
        walk_at "rdh"
        refine r_iteF rfl ?_
        walk_at "rdh"
        refine ⟨p, _, rfl, dg_signs hp8, ?_⟩
        walk_at "rdh"
        refine notIn_l (xs := ["minus", "all"]) hl28 ?_
        rw [es]
        walk_at "rdh"
        refine r_ite (fun e => ?_) (fun e => ?_)
        · walk_at "rdh"
          refine p5' s8 (g1 (by decide)) ?_
          cases h : decide (f.sg = "minus" ∨ f.sg = "all") with
          | false => rfl
          | true => rw [h] at e; cases e
        · walk_at "rdh"
          refine ⟨_, _, rfl, rfl, fun _ => g1 (by decide), fun _ => ?_⟩
          cases h : decide (f.sg = "minus" ∨ f.sg = "all") with
          | true => rfl
          | false => rw [h] at e; cases e
    rintro σ HX ⟨v2, v3, rfl, rfl, g1, g2⟩
    have p4 : ¬ decide (f.way ∈ waysL) = false := by rw [g1 (show 0 < 2 by decide)]; decide
    have p5 : ¬ decide (f.sg = "minus" ∨ f.sg = "all") = false := by rw [g2 (show 1 < 2 by decide)]; decide
    walk_at "rdh"
    refine ⟨p, _, rfl, dg_grouped hp8, ?_⟩
    walk_at "rdh"
    refine is_boolB ?_
    walk_at "rdh"
    refine r_iteF rfl ?_
    walk_at "rdh"
    refine r_cut (fun σ' H' => σ' = [some (.ref p), some (.ref pl), v2, v3, none, none] ∧ H' = HX ∧ ¬ (f.sc && f.stp.isSome) = true) ?_ ?_
    · walk_at "rdh"
      refine ⟨p, _, rfl, dg_scaled hp8, ?_⟩
      walk_at "rdh"
      refine is_boolB ?_
      walk_at "rdh"
      refine r_iteF rfl ?_
      walk_at "rdh"
      refine ⟨p, _, rfl, dg_scaled hp8, ?_⟩
      have hst8 := hst.same s8
      cases hb : f.sc with
      | false =>
        walk_at "rdh"
        refine r_iteF rfl ?_
        (try refine r_iteF rfl ?_)
        walk_at "rdh"
        exact ⟨rfl, rfl, by simp⟩
      | true =>
        walk_at "rdh"
        refine r_iteT rfl ?_
        walk_at "rdh"
        refine ⟨p, _, rfl, dg_step hp8, ?_⟩
        walk_at "rdh"
        refine ⟨rfl, ?_⟩
        generalize hs' : f.stp = st at hst8
        cases hst8 with
        | none =>
          walk_at "rdh"
          refine r_iteF rfl ?_
          (try refine r_iteF rfl ?_)
          walk_at "rdh"
          exact ⟨rfl, rfl, by simp⟩
        | some hx =>
          walk_at "rdh"
          refine r_iteT rfl ?_
          (try refine r_iteT rfl ?_)
          walk_at "rdh"
          have e : (f.sc && f.stp.isSome) = true := by rw [hb, hs']; rfl
          exact tell (z := some "scaled") (by unfold firstW; rw [if_neg p1, if_neg p2, if_neg p3, if_neg p4, if_neg p5, if_pos e]) s8
    rintro σ' HY ⟨rfl, rfl, p6⟩
    have fu : ∀ {H'}, Same H3 H' → unitOk f.u0 f.u1 = false → Q (.str "unit") H' := fun s e => tell (z := some "unit") (by unfold firstW; rw [if_neg p1, if_neg p2, if_neg p3, if_neg p4, if_neg p5, if_neg p6, if_pos e]) s
    have fr : ∀ {H'}, Same H3 H' → unitOk f.u0 f.u1 = true → Q .non H' := fun s e => tell (z := none) (by unfold firstW; rw [if_neg p1, if_neg p2, if_neg p3, if_neg p4, if_neg p5, if_neg p6, if_neg (by rw [e]; decide)]) s
    unfold unitOk at fu fr
    have sl : sizeLine = 16777216 := rfl
    have su := sm.us
    unfold ShortU at su
    walk_at "rdh"
    refine ⟨p, _, rfl, dg_unit hp8, ?_⟩
    walk_at "rdh"
    refine is_tupS hun8 ?_
    walk_at "rdh"
    refine r_iteF rfl ?_
    walk_at "rdh"
    refine ⟨un, _, rfl, .inr hun8, ?_⟩
    walk_at "rdh"
    refine r_iteF rfl ?_
    walk_at "rdh"
    refine r_lcT ?_
    walk_at "rdh"
    refine ⟨un, rfl, ⟨_, hun8⟩, fun D hD => ?_⟩
    refine lcT_of (K := K) (zs := [f.u0, f.u1]) (el := V.str) (e := fun z => V.int 1) (f := fun z => decide ((z.length : Int) > 6)) hun8 (by show 2 ≤ 1000; decide) hD (i := 5) (fun z H1 R _ h => ?_) (fun v => rfl) (fun z H1 R hz _ h => ?_) (fun z H1 R hz _ s1 h => ?_) fun H1 s1 hD1 => ?_
    · walk_at "rdh"
      exact h
    · have lz : z.length ≤ 100 := by
        simp only [List.mem_cons, List.not_mem_nil, or_false] at hz
        rcases hz with rfl | rfl
        · exact su.1
        · exact su.2
      walk_at "rdh"
      refine is_strS ?_
      walk_at "rdh"
      refine r_iteF rfl ?_
      walk_at "rdh"
      refine ⟨z, rfl, by omega, ?_⟩
      walk_at "rdh"
      exact h H1 (Same.refl _)
    · walk_at "rdh"
      exact h H1 (Same.refl _)
    have hun9 := SqT.ext hun8 s1
    have s9 := s8.trans s1
    walk_at "rdh"
    refine r_new (by show 0 ≤ 1000; decide) fun D2 hD2 => ?_
    have s10 := s9.trans (Same.new (o := .lst []) hD2)
    have hun10 := SqT.ext hun9 (Same.new (o := .lst []) hD2)
    have em : (List.filter (fun z : Str => decide ((z.length : Int) > 6)) [f.u0, f.u1]).map (fun _ => V.int 1) = ((List.filter (fun z : Str => decide ((z.length : Int) > 6)) [f.u0, f.u1]).map (fun _ => (1 : Int))).map V.int := by rw [List.map_map]; rfl
    rw [em] at hD1
    refine r_neInts (xs := (List.filter (fun z : Str => decide ((z.length : Int) > 6)) [f.u0, f.u1]).map (fun _ => (1 : Int))) (ys := []) (SqL.of (Same.new (o := .lst []) hD2 _ _ hD1)) (SqL.of upd_same) ?_
    generalize upd H1 D2 (.lst []) = H10 at *
    have ee : decide ((List.filter (fun z : Str => decide ((z.length : Int) > 6)) [f.u0, f.u1]).map (fun _ => (1 : Int)) = []) = (decide (f.u0.length ≤ 6) && decide (f.u1.length ≤ 6)) := by
      rw [Bool.eq_iff_iff, decide_eq_true_iff, List.map_eq_nil_iff, List.filter_eq_nil_iff]
      simp only [List.mem_cons, List.not_mem_nil, or_false, decide_eq_true_eq, Bool.and_eq_true, forall_eq_or_imp, forall_eq]
      omega
    rw [ee]
    walk_at "rdh"
    refine r_ite (fun e7 => ?_) (fun e7 => ?_)
    · walk_at "rdh"
      refine fu s10 ?_
      have : (decide (f.u0.length ≤ 6) && decide (f.u1.length ≤ 6)) = false := by
        cases h : (decide (f.u0.length ≤ 6) && decide (f.u1.length ≤ 6)) with
        | false => rfl
        | true => rw [h] at e7; cases e7
      rw [this]; rfl
    have e8 : (decide (f.u0.length ≤ 6) && decide (f.u1.length ≤ 6)) = true := by simpa using e7
    rw [e8] at fu fr
    walk_at "rdh"
    refine r_ixS hun10 (atI_nat (j := 0) rfl) ?_
    walk_at "rdh"
    refine ⟨f.u0, rfl, by omega, ?_⟩
    walk_at "rdh"
    rw [first_blank]
    refine r_ite (fun e9 => ?_) (fun e9 => ?_)
    · walk_at "rdh"
      (try refine r_iteT rfl ?_)
      walk_at "rdh"
      exact fu s10 (by rw [e9]; rfl)
    rw [e9] at fu fr
    walk_at "rdh"
    refine r_ixS hun10 (atI_nat (j := 1) rfl) ?_
    walk_at "rdh"
    refine ⟨f.u1, rfl, by omega, ?_⟩
    walk_at "rdh"
    rw [last_blank]
    refine r_ite (fun e9 => ?_) (fun e9 => ?_)
    · walk_at "rdh"
      exact fu s10 (by rw [e9]; rfl)
    · walk_at "rdh"
      exact fr s10 (by rw [e9]; rfl)
end
end My

namespace My
open PySem L2 TL
/-! ### signs of what is shown -/
def Signs (z : Str) : Prop := ∀ c ∈ z.cps.toList, c < 16 ^ 8
theorem Signs.app {a b : Str} (ha : Signs a) (hb : Signs b) : Signs (a ++ b) := by
  intro c hc
  have e : (a ++ b).cps.toList = a.cps.toList ++ b.cps.toList := by rw [PySem.Str.cps_append, Array.toList_append]
  rw [e] at hc
  rcases List.mem_append.mp hc with h | h
  · exact ha c h
  · exact hb c h
theorem signs_of (s : String) : Signs (Str.ofString s) := by
  intro c hc
  have e : (Str.ofString s).cps.toList = s.toList.map Char.toNat := tl_ofString s
  rw [e] at hc
  obtain ⟨k, _, rfl⟩ := List.mem_map.mp hc
  have := k.valid
  have h2 : k.toNat < 1114112 := by
    rcases this with h | ⟨_, h⟩
    · exact Nat.lt_trans h (by decide)
    · exact h
  exact Nat.lt_of_lt_of_le h2 (by decide)
theorem hex_signs (w c : Nat) : ∀ x ∈ (List.replicate w 48 ++ (Nat.toDigits 16 c).map Char.toNat), x < 16 ^ 8 := by
  intro x hx
  rcases List.mem_append.mp hx with h | h
  · rw [(List.mem_replicate.mp h).2]; decide
  · obtain ⟨k, _, rfl⟩ := List.mem_map.mp h
    have := k.valid
    have h2 : k.toNat < 1114112 := by
      rcases this with h | ⟨_, h⟩
      · exact Nat.lt_trans h (by decide)
      · exact h
    exact Nat.lt_of_lt_of_le h2 (by decide)
theorem char_signs {q c : Nat} (hc : c < 16 ^ 8) : ∀ x ∈ Builtin.Str.reprChar q c, x < 16 ^ 8 := by
  have h2 : ∀ (l : List Nat), (∀ y ∈ l, y < 200) → ∀ (w : Nat) x, x ∈ l ++ (List.replicate w 48 ++ (Nat.toDigits 16 c).map Char.toNat) → x < 16 ^ 8 := fun l hl w x hx => by
    rcases List.mem_append.mp hx with h | h
    · exact Nat.lt_trans (hl x h) (by decide)
    · exact hex_signs _ _ x h
  intro x hx
  unfold Builtin.Str.reprChar at hx
  dsimp only at hx
  split at hx
  · simp only [List.mem_cons, List.not_mem_nil, or_false] at hx; omega
  split at hx
  · simp only [List.mem_cons, List.not_mem_nil, or_false] at hx; omega
  split at hx
  · simp only [List.mem_cons, List.not_mem_nil, or_false] at hx; omega
  split at hx
  · simp only [List.mem_cons, List.not_mem_nil, or_false] at hx; omega
  split at hx
  · simp only [List.mem_cons, List.not_mem_nil, or_false] at hx; omega
  split at hx
  · exact h2 [92, 120] (by decide) _ x hx
  split at hx
  · exact h2 [92, 117] (by decide) _ x hx
  · exact h2 [92, 85] (by decide) _ x hx
theorem fold_signs {q : Nat} : ∀ (l : List Nat) (acc : Array Nat), (∀ c ∈ l, c < 16 ^ 8) → (∀ c ∈ acc.toList, c < 16 ^ 8) → ∀ c ∈ (l.foldl (fun out c => out ++ (Builtin.Str.reprChar q c).toArray) acc).toList, c < 16 ^ 8
  | [], _, _, h => h
  | c :: r, acc, hl, ha => by
    refine fold_signs r _ (fun d hd => hl d (List.mem_cons_of_mem _ hd)) fun d hd => ?_
    rw [Array.toList_append] at hd
    rcases List.mem_append.mp hd with h | h
    · exact ha d h
    · exact char_signs (hl c (List.mem_cons_self ..)) d h
theorem repr_signs {z : Str} (h : Signs z) : Signs (reprText z) := by
  have hq : reprQuote z < 16 ^ 8 := by
    unfold reprQuote
    split <;> decide
  intro c hc
  have e : (reprText z).cps.toList = (z.cps.toList.foldl (fun out c => out ++ (Builtin.Str.reprChar (reprQuote z) c).toArray) #[reprQuote z]).toList ++ [reprQuote z] := by
    unfold reprText
    rw [Array.toList_push, ← Array.foldl_toList]
  rw [e] at hc
  rcases List.mem_append.mp hc with g | g
  · refine fold_signs _ _ h (fun d hd => ?_) c g
    rw [List.mem_singleton.mp hd]; exact hq
  · rw [List.mem_singleton.mp g]; exact hq
theorem join_signs {s : Str} {l : List Str} (hs : Signs s) (h : ∀ x ∈ l, Signs x) : Signs (Str.join s l) := by
  intro c hc
  rcases (PyProof.Rows.mem_join s c l).mp hc with ⟨t, ht, hct⟩ | ⟨_, g⟩
  · exact h t ht c hct
  · exact hs c g
mutual
theorem shown_signs : ∀ d : PyData, shB d = true → Signs d.shown
  | .none, _ => by rw [PyData.shown_none]; exact signs_of "None"
  | .bool b, _ => by
    rw [PyData.shown_bool]
    cases b
    · exact signs_of "False"
    · exact signs_of "True"
  | .int i, _ => by rw [PyData.shown_int]; exact signs_of _
  | .str z, h => by
    rw [PyData.shown_str]
    refine repr_signs fun c hc => ?_
    have : (decide (z.cps.size ≤ 500) && z.cps.toList.all fun c => decide (c < 16 ^ 8)) = true := by
      unfold shB at h; exact h
    rw [Bool.and_eq_true] at this
    exact of_decide_eq_true (List.all_eq_true.mp this.2 c hc)
  | .tuple ds, h => by
    rw [PyData.shown_tuple]
    refine ((signs_of "(").app (join_signs (signs_of ", ") (shownAll_signs ds (by unfold shB at h; exact h)))).app ?_
    exact signs_of _
  | .list ds, h => by
    rw [PyData.shown_list]
    exact ((signs_of "[").app (join_signs (signs_of ", ") (shownAll_signs ds (by unfold shB at h; exact h)))).app (signs_of "]")
  | .dict _, h => by simp [shB] at h
theorem shownAll_signs : ∀ ds : List PyData, shAll ds = true → ∀ x ∈ PyData.shownAll ds, Signs x
  | [], _ => by intro x hx; rw [PyData.shownAll_nil] at hx; cases hx
  | d :: ds, h => by
    have h' : shB d = true ∧ shAll ds = true := by
      unfold shAll at h
      rw [Bool.and_eq_true] at h
      exact h
    intro x hx
    rw [PyData.shownAll_cons] at hx
    rcases List.mem_cons.mp hx with rfl | hx
    · exact shown_signs d h'.1
    · exact shownAll_signs ds h'.2 x hx
end
theorem w_int {i : Int} {k : Nat} (hk : 0 < k) (h : i.natAbs < 2 ^ k) : (PyData.int i).weight ≤ k := by
  have := PySem.Flt.log2_lt_of hk h
  simp only [PyData.weight]
  split <;> omega
theorem w_str {z : Str} (h : shB (.str z) = true) : (PyData.str z).weight ≤ 500 := by
  have : (decide (z.cps.size ≤ 500) && z.cps.toList.all fun c => decide (c < 16 ^ 8)) = true := by
    unfold shB at h; exact h
  rw [Bool.and_eq_true] at this
  have := of_decide_eq_true this.1
  simp only [PyData.weight]
  exact this
theorem due_weight {f : Wf} (h : Sm f) : (dueD f).weight ≤ 2000 := by
  have a1 := w_int (k := 7) (by decide) (show f.pa.natAbs < 2 ^ 7 from Nat.lt_of_le_of_lt h.pa (by decide))
  have a2 := w_int (k := 7) (by decide) (show f.pb.natAbs < 2 ^ 7 from Nat.lt_of_le_of_lt h.pb (by decide))
  have a3 : (intD f.fig).weight ≤ 7 := by
    cases e : f.fig with
    | none => simp [intD, PyData.weight]
    | some n => exact w_int (by decide) (Nat.lt_of_le_of_lt (h.fig n e) (by decide))
  have a4 : (stpD f.stp).weight ≤ 200 := by
    cases e : f.stp with
    | none => simp [stpD, PyData.weight]
    | some x =>
      obtain ⟨b1, b2⟩ := h.stp x e
      have c1 := w_int (by decide) b1
      have c2 := w_int (i := (x.den : Int)) (k := 60) (by decide) (by omega)
      have c3 : (PyData.str "step").weight = 4 := by simp only [PyData.weight]; decide +kernel
      simp only [stpD, PyData.weight, PyData.weightAll] at c1 c2 c3 ⊢
      omega
  have a5 := w_str h.way
  have a6 := w_str h.sg
  have a7 : (PyData.str f.u0).weight ≤ 100 := h.us.1
  have a8 : (PyData.str f.u1).weight ≤ 100 := h.us.2
  have e : (dueD f).weight = ((PyData.int f.pa).weight + 1 + ((PyData.int f.pb).weight + 1 + 0)) + 1 + ((intD f.fig).weight + 1 + ((stpD f.stp).weight + 1 + ((PyData.str f.way).weight + 1 + ((PyData.str f.sg).weight + 1 + ((PyData.bool f.gr).weight + 1 + ((PyData.bool f.sc).weight + 1 + (((PyData.str f.u0).weight + 1 + ((PyData.str f.u1).weight + 1 + 0)) + 1 + 0))))))) := by
    simp only [dueD, PyData.weight, PyData.weightAll]
  have b1 : ∀ b : Bool, (PyData.bool b).weight = 0 := fun b => by simp only [PyData.weight]
  rw [e, b1, b1]
  omega
theorem due_len {f : Wf} (sm : Sm f) : (dueD f).shown.length ≤ 1200000 := by
  obtain ⟨a, b, e, g⟩ := sh_ok _ sm.ok
  obtain ⟨s1, s2⟩ := sz_due f
  have := PyData.shown_le 501 (by decide) (dueD f) e
  have := due_weight sm
  omega
/-- a text's own repr -/
theorem rd_text {K : PySem.W.Frag} {H : Hp} {z : Str} {Q : VK} (h : Signs z) (l : z.length ≤ 1200000) (q : Q (.str (PyData.str z).shown) H) : rReprA K [.str z] H Q := by
  refine ⟨_, .str z, rfl, .str _, rfl, by simp [PyData.hasDict], by simp [PyData.depth], ?_, q⟩
  rw [PyData.shown_str]
  have := PySem.StrLaws.reprText_len z h
  have e : sizeLine = 16777216 := rfl
  omega
/-- what is heard of the fields -/
def heardD (f : Wf) : PyData := match firstW f with
  | none => .str (dueD f).shown
  | some z => .tuple [.str "no wish", .str z]
theorem first_short {f : Wf} {z : Str} (h : firstW f = some z) : shB (.str z) = true := by
  unfold firstW at h
  by_cases p1 : placesOk f.pa f.pb = false
  · rw [if_pos p1] at h; rw [← Option.some.inj h]; decide +kernel
  rw [if_neg p1] at h
  by_cases p2 : figOk f.fig = false
  · rw [if_pos p2] at h; rw [← Option.some.inj h]; decide +kernel
  rw [if_neg p2] at h
  by_cases p3 : stOk f = false
  · rw [if_pos p3] at h; rw [← Option.some.inj h]; decide +kernel
  rw [if_neg p3] at h
  by_cases p4 : decide (f.way ∈ waysL) = false
  · rw [if_pos p4] at h; rw [← Option.some.inj h]; decide +kernel
  rw [if_neg p4] at h
  by_cases p5 : decide (f.sg = "minus" ∨ f.sg = "all") = false
  · rw [if_pos p5] at h; rw [← Option.some.inj h]; decide +kernel
  rw [if_neg p5] at h
  by_cases p6 : (f.sc && f.stp.isSome) = true
  · rw [if_pos p6] at h; rw [← Option.some.inj h]; decide +kernel
  rw [if_neg p6] at h
  by_cases p7 : unitOk f.u0 f.u1 = false
  · rw [if_pos p7] at h; rw [← Option.some.inj h]; decide +kernel
  rw [if_neg p7] at h
  exact nomatch h
theorem heard_none {f : Wf} (e : firstW f = none) : heardD f = .str (dueD f).shown := by
  unfold heardD
  rw [e]
theorem heard_some {f : Wf} {z : Str} (e : firstW f = some z) : heardD f = .tuple [.str "no wish", .str z] := by
  unfold heardD
  rw [e]
theorem dp_str {K : PySem.W.Frag} {H : Hp} {v : V} {z : Str} (h : Dp K H v (.str z)) : v = .str z := by
  cases h
  rfl
theorem dp_tup {K : PySem.W.Frag} {H : Hp} {v : V} {ds : List PyData} (h : Dp K H v (.tuple ds)) : ∃ a xs, v = .ref a ∧ SqT K H a xs ∧ DpAll K H xs ds := by
  cases h with
  | tup h1 h2 => exact ⟨_, _, rfl, h1, h2⟩
theorem dp_all1 {K : PySem.W.Frag} {H : Hp} {xs : List V} {d : PyData} {ds : List PyData} (h : DpAll K H xs (d :: ds)) : ∃ v vs, xs = v :: vs ∧ Dp K H v d ∧ DpAll K H vs ds := by
  cases h with
  | cons h1 h2 => exact ⟨_, _, rfl, h1, h2⟩
theorem dp_all0 {K : PySem.W.Frag} {H : Hp} {xs : List V} (h : DpAll K H xs []) : xs = [] := by
  cases h
  rfl
theorem dp_heard {K : PySem.W.Frag} {H H' : Hp} {v : V} {f : Wf} (s : Same H H') (h : Dp K H v (heardD f)) : Dp K H' v (heardD f) := by
  cases e : firstW f with
  | none =>
    rw [heard_none e] at h ⊢
    rw [dp_str h]
    exact .str _
  | some z =>
    rw [heard_some e] at h ⊢
    obtain ⟨a, xs, rfl, hs, ha⟩ := dp_tup h
    obtain ⟨v1, r1, rfl, h1, ha⟩ := dp_all1 ha
    obtain ⟨v2, r2, rfl, h2, ha⟩ := dp_all1 ha
    rw [dp_str h1, dp_str h2, dp_all0 ha] at hs
    exact .tup (SqT.ext hs s) (.cons (.str _) (.cons (.str _) .nil))
theorem rd_heard {K : PySem.W.Frag} {H : Hp} {v : V} {f : Wf} {Q : VK} (h : Dp K H v (heardD f)) (sm : Sm f) (q : Q (.str (heardD f).shown) H) : rReprA K [v] H Q := by
  cases e : firstW f with
  | none =>
    rw [heard_none e] at h q
    rw [dp_str h]
    exact rd_text (shown_signs _ sm.ok) (due_len sm) q
  | some z =>
    rw [heard_some e] at h q
    have s : shB (.tuple [.str "no wish", .str z]) = true := sh_tup (sh_cons (by decide +kernel) (sh_cons (first_short e) sh_nil))
    obtain ⟨a, b, e2, g⟩ := sh_ok _ s
    have s1 : szD (.tuple [.str "no wish", .str z]) ≤ 2 := by simp [szD, szAll]
    have s2 : (PyData.tuple [.str "no wish", .str z]).depth ≤ 60 := by simp [PyData.depth, PyData.depthAll]
    generalize PyData.tuple [.str "no wish", .str z] = dd at *
    refine ⟨v, _, rfl, h, a, b, s2, ?_, q⟩
    have := PyData.shown_le 501 (by decide) _ e2
    have e : sizeLine = 16777216 := rfl
    omega
def t_heard (K : PySem.W.Frag) (NW NC NF NR NN : Addr) : Addr → Value → Option Addr → TS := fun a cls d =>
  tSeq (tAsg (tCB (rIsErr K NW a cls d) (tCons (tVar 2) (tCons (tTup (tCons (tC (.ref NC)) (tCons (tC (.ref NF)) (tCons (tC (.ref NR)) (tCons (tC (.ref NN)) (tCons (tC (.ty "ValueError")) (tCons (tC (.ty "ArithmeticError")) tNil))))))) tNil))) (gName 3))
    (tIfS (tAnd (tB (tCB (rIsErr K NW a cls d) (tCons (tVar 2) (tCons (tC (.ref NW)) tNil)))) (tNot (tB (tVar 3))))
      (tAsg (tTup (tCons (tC (.str "no wish")) (tCons (tHeldF K "thing" a cls d (tVar 2)) tNil))) (gName 1)) tNext)
theorem r_callS {sp : Sp} {E : L2.St → XK} {t : TA} {σ : L2.St} {H : Hp} {Q : VK} (q : t σ H fun vs H1 => sp vs H1 Q (E σ)) : tCallS sp E t σ H Q := q
theorem r_heldF {f : Str} {a : Addr} {cls : Value} {d : Option Addr} {te : TE} {σ : L2.St} {H : Hp} {Q : VK} {K : PySem.W.Frag} (q : te σ H fun x H1 => x = .ref a ∧ ∃ (C dd : Addr) (l : List (Str × V)) (v : V), cls = .ref C ∧ d = some dd ∧ H1 dd = some (.xd l) ∧ ErrGet K C f ∧ l.lookup f = some v ∧ Q v H1) : tHeldF K f a cls d te σ H Q := q
theorem r_isErr {K : PySem.W.Frag} {D a dd : Addr} {l : List (Str × V)} {H : Hp} {Q : VK} {c : V} {cv : Value} {b : Bool} (hd : H dd = some (.xd l)) (k : ClsV c cv) (h : PySem.W.kitOne K (.ref D) cv = some b) (q : Q (.bl b) H) : rIsErr K D a (.ref D) (some dd) [.ref a, c] H Q := ⟨rfl, dd, l, rfl, hd, .inl ⟨c, cv, b, rfl, k, h, q⟩⟩
theorem any_none6 {K : PySem.W.Frag} {t a b c d e f : Value} (ha : PySem.W.kitOne K t a = some false) (hb : PySem.W.kitOne K t b = some false) (hc : PySem.W.kitOne K t c = some false) (hd : PySem.W.kitOne K t d = some false) (he : PySem.W.kitOne K t e = some false) (hf : PySem.W.kitOne K t f = some false) : PySem.W.kitAny K t [a, b, c, d, e, f] = some false :=
  kitAny_cons ha (fun _ => kitAny_cons hb (fun _ => kitAny_cons hc (fun _ => kitAny_cons hd (fun _ => kitAny_cons he (fun _ => kitAny_cons hf (fun _ => rfl) (fun z => nomatch z)) (fun z => nomatch z)) (fun z => nomatch z)) (fun z => nomatch z)) (fun z => nomatch z)) (fun z => nomatch z)
section
variable {P : Program} {w : World} {K : PySem.W.Frag} {mg : Str → Option Value} {base : Heap}
theorem heard_suite (T : Txt w K mg) {D : Ends} {v s1 : V} {H : Hp} {d a0 : Addr} {x3 : Option V} {z : Str} (hd : H d = some (.xd [(("thing" : Str), .str z)]))
    (k : ∀ (p : Addr) (H' : Hp), Same H H' → H' p = some (.tup [.str "no wish", .str z]) → D.nx [some v, some (.ref p), some (.ref a0), some (.bl false)] H') :
    t_heard K T.C_NoWish T.C_NoCustom T.C_NoFit T.C_NoRead T.C_NoName a0 (.ref T.C_NoWish) (some d) D [some v, some s1, some (.ref a0), x3] H := by
  unfold t_heard
  walk_at "rdh"
  refine r_new (by show 6 ≤ 1000; decide) fun tp htp => ?_
  have s1' := Same.new (o := .tup [.ref T.C_NoCustom, .ref T.C_NoFit, .ref T.C_NoRead, .ref T.C_NoName, .ty "ValueError", .ty "ArithmeticError"]) htp
  refine ⟨rfl, d, _, rfl, s1' _ _ hd, .inr ⟨tp, _, _, false, rfl, upd_same, .cons (.own _) (.cons (.own _) (.cons (.own _) (.cons (.own _) (.cons (.ty _) (.cons (.ty _) .nil))))), any_none6 T.kt_NoCustom T.kt_NoFit T.kt_NoRead T.kt_NoName T.kt_VE T.kt_AE, ?_⟩⟩
  have hd1 := s1' _ _ hd
  generalize upd H tp (.tup [.ref T.C_NoCustom, .ref T.C_NoFit, .ref T.C_NoRead, .ref T.C_NoName, .ty "ValueError", .ty "ArithmeticError"]) = H1 at *
  walk_at "rdh"
  refine r_isErr hd1 (.own _) T.kt_NoWish ?_
  walk_at "rdh"
  refine r_iteT rfl ?_
  walk_at "rdh"
  (try refine r_iteT rfl ?_)
  walk_at "rdh"
  refine r_heldF ?_
  walk_at "rdh"
  refine ⟨rfl, _, d, _, _, rfl, rfl, hd1, T.gt_NoWish, rfl, ?_⟩
  walk_at "rdh"
  refine r_new (by show 2 ≤ 1000; decide) fun p hp => ?_
  walk_at "rdh"
  exact k p _ (s1'.trans (Same.new hp)) upd_same
def spHeard (K : PySem.W.Frag) (N : Addr) : Sp := fun vs H Q _ => ∃ (p : Addr) (f : Wf), vs = [.ref p] ∧ FAt K N H p f ∧ Sm f ∧ ∀ (v : V) (H' : Hp), Same H H' → Dp K H' v (heardD f) → Q v H'
theorem okG_l_heard (T : Txt w K mg) : FnG P w K mg base 8 T.f_l_heard T.fd_l_heard ["_law_f"] (spHeard K T.C_Number) := by
  refine FnG.by_body T.F_l_heard sc_l_heard (fun vs H Q E h => ?_) (fun cdv A outer s H vs Q E hG hr h => ?_)
  · obtain ⟨p, f, rfl, _⟩ := h
    rfl
  · obtain ⟨p, f, rfl, hf, sm, k⟩ := h
    refine ⟨_, (pss_cons (ps_set (i := 1) sc_l_heard.nd rfl (Or.inl rfl) pe_str)
 (pss_cons (L2N.ps_try_as (i := 2) (ts := t_heard K T.C_NoWish T.C_NoCustom T.C_NoFit T.C_NoRead T.C_NoName) (Wout := fun _ _ _ _ => False) rfl rfl sc_l_heard.nd rfl rfl ⟨rfl, by decide, Or.inl T.m_FigureError⟩ takes0N (fun W pn xe tk _ => by exact (pss_one (ps_set (i := 1) sc_l_heard.nd rfl (Or.inl rfl) (pe_callG hG (okG_l_told T) (hr.mono (by decide)) (by rfl) T.m_l_told T.F_l_told.kp T.b_l_told .nil pass0 (pa_cons (pe_callS (ok_l_made T) (hr.mono (by decide)) (by rfl) T.m_l_made T.F_l_made.kp T.b_l_made (fun σ => L2N.passAt tk σ) (pa_cons (pv 0) pa_nil)) pa_nil))))) (fun a oe cls d pn hz hf => by exact (pss_cons (ps_set (i := 3) sc_l_heard.nd rfl (Or.inl rfl) (pe_callB (call_isErr T.x_NoWish ⟨hz.1, hz.2.1⟩ hf) (by rfl) T.n_isinstance (by decide +kernel) (pa_cons (pv 2) (pa_cons (pe_tup (pa_cons (pe_glob (v := .ref T.C_NoCustom) (by rfl) T.m_NoCustom rfl) (pa_cons (pe_glob (v := .ref T.C_NoFit) (by rfl) T.m_NoFit rfl) (pa_cons (pe_glob (v := .ref T.C_NoRead) (by rfl) T.m_NoRead rfl) (pa_cons (pe_glob (v := .ref T.C_NoName) (by rfl) T.m_NoName rfl) (pa_cons (pe_bltn (v := .ty "ValueError") (by rfl) T.n_ValueError (by decide +kernel) rfl) (pa_cons (pe_bltn (v := .ty "ArithmeticError") (by rfl) T.n_ArithmeticError (by decide +kernel) rfl) pa_nil))))))) pa_nil)))) (pss_one (ps_if (PW.pt (pw_and (pt_val (pe_callB (call_isErr T.x_NoWish ⟨hz.1, hz.2.1⟩ hf) (by rfl) T.n_isinstance (by decide +kernel) (pa_cons (pv 2) (pa_cons (pe_glob (v := .ref T.C_NoWish) (by rfl) T.m_NoWish rfl) pa_nil)))) (pw_and1 (pt_not (pt_val (pv 3)))))) (pss_one (ps_set (i := 1) sc_l_heard.nd rfl (Or.inl rfl) (pe_tup (pa_cons pe_str (pa_cons (pe_heldF ⟨hz.1, hz.2.1⟩ hf (pv 2)) pa_nil))))) pss_nil)))))
 (pss_one (ps_ret (pv 1))))), ?_⟩
    walk_at "rdh"
    refine r_callS ?_
    walk_at "rdh"
    refine ⟨p, f, rfl, hf, sm.us, fun e x H1 s1 wx => ?_, fun z e H1 d s1 hd => ?_⟩
    · walk_at "rdh"
      refine ⟨x, f, rfl, wx, sm.ok, fun H2 s2 => ?_⟩
      walk_at "rdh"
      refine k _ _ (s1.trans s2) ?_
      rw [heard_none e]
      exact .str _
    · refine ⟨true, T.te_NoWish, fun _ a0 _ => ?_, fun q => Bool.noConfusion q⟩
      refine heard_suite T upd_same fun q H2 s2 hq => ?_
      walk_at "rdh"
      refine k _ _ ((s1.trans (Same.new hd)).trans s2) ?_
      rw [heard_some e]
      exact .tup (SqT.of hq) (.cons (.str _) (.cons (.str _) .nil))
def spRight (K : PySem.W.Frag) (N : Addr) : Sp := fun vs H Q _ => ∃ (p : Addr) (f : Wf), vs = [.ref p] ∧ FAt K N H p f ∧ Sm f ∧ ∀ H', Same H H' → Q (.bl true) H'
theorem okG_l_right (T : Txt w K mg) : FnG P w K mg base 9 T.f_l_right T.fd_l_right ["_law_f"] (spRight K T.C_Number) := by
  refine FnG.by_body T.F_l_right sc_l_right (fun vs H Q E h => ?_) (fun cdv A outer s H vs Q E hG hr h => ?_)
  · obtain ⟨p, f, rfl, _⟩ := h
    rfl
  · obtain ⟨p, f, rfl, hf, sm, k⟩ := h
    refine ⟨_, (pss_cons (ps_set (i := 1) sc_l_right.nd rfl (Or.inl rfl) (pe_call (ok_l_fault T) (hr.mono (by decide)) (by rfl) T.m_l_fault T.F_l_fault.kp T.b_l_fault .nil pass0 (pa_cons (pv 0) pa_nil)))
 (pss_cons (ps_set (i := 2) sc_l_right.nd rfl (Or.inl rfl) (pe_callG hG (okG_l_due T) (hr.mono (by decide)) (by rfl) T.m_l_due T.F_l_due.kp T.b_l_due .nil pass0 (pa_cons (pv 0) pa_nil)))
 (C8.pss_cut (ps_set (i := 3) sc_l_right.nd rfl (Or.inl rfl) (pe_ifExp (pt_cmpR op_isN (pv 1) pe_non (nomark _)) (pe_callG hG (okG_l_due T) (hr.mono (by decide)) (by rfl) T.m_l_due T.F_l_due.kp T.b_l_due .nil pass0 (pa_cons (pv 0) pa_nil)) (pe_tup (pa_cons pe_str (pa_cons (pv 1) pa_nil)))))
 (pss_one (ps_ret (pe_and (pe_cmpR op_eq (pe_callB (call_reprA hG hr.units) (by rfl) T.n_repr (by decide +kernel) (pa_cons (pe_callG hG (okG_l_heard T) (hr.mono (by decide)) (by rfl) T.m_l_heard T.F_l_heard.kp T.b_l_heard .nil pass0 (pa_cons (pv 0) pa_nil)) pa_nil)) (pe_callB (call_reprA hG hr.units) (by rfl) T.n_repr (by decide +kernel) (pa_cons (pv 3) pa_nil)) (nomark _)) (pe_one (pe_cmpR op_eq (pe_callG hG (okG_l_due T) (hr.mono (by decide)) (by rfl) T.m_l_due T.F_l_due.kp T.b_l_due .nil pass0 (pa_cons (pv 0) pa_nil)) (pv 2) (nomark _))))))))), ?_⟩
    walk_at "rdh"
    refine ⟨p, f, rfl, hf, sm, fun H1 s1 => ?_⟩
    have hf1 := hf.same s1
    walk_at "rdh"
    refine ⟨p, f, rfl, hf1, sm.ok, fun H2 s2 => ?_⟩
    have hf2 := hf1.same s2
    have s02 := s1.trans s2
    walk_at "rdh"
    refine r_cut (fun σ' H' => ∃ v : V, σ' = [some (.ref p), some (optS (firstW f)), some (.str (dueD f).shown), some v] ∧ Same H H' ∧ Dp K H' v (heardD f)) ?_ ?_
    · walk_at "rdh"
      refine ⟨rfl, ?_⟩
      cases e : firstW f with
      | none =>
        walk_at "rdh"
        refine r_iteT rfl ?_
        walk_at "rdh"
        refine ⟨p, f, rfl, hf2, sm.ok, fun H3 s3 => ?_⟩
        walk_at "rdh"
        refine ⟨_, rfl, s02.trans s3, ?_⟩
        rw [heard_none e]
        exact .str _
      | some z =>
        walk_at "rdh"
        refine r_iteF rfl ?_
        walk_at "rdh"
        refine r_new (by show 2 ≤ 1000; decide) fun q hq => ?_
        walk_at "rdh"
        refine ⟨_, rfl, s02.trans (Same.new hq), ?_⟩
        rw [heard_some e]
        exact .tup (SqT.of upd_same) (.cons (.str _) (.cons (.str _) .nil))
    rintro σ' H3 ⟨v, rfl, s3, hv⟩
    have hf3 := hf.same s3
    walk_at "rdh"
    refine ⟨p, f, rfl, hf3, sm, fun v2 H4 s4 hv2 => ?_⟩
    walk_at "rdh"
    refine rd_heard hv2 sm ?_
    walk_at "rdh"
    refine rd_heard (dp_heard s4 hv) sm ?_
    walk_at "rdh"
    refine r_iteT (decide_eq_true rfl) ?_
    walk_at "rdh"
    refine ⟨p, f, rfl, hf3.same s4, sm.ok, fun H5 s5 => ?_⟩
    walk_at "rdh"
    have e : decide ((dueD f).shown = (dueD f).shown) = true := decide_eq_true rfl
    rw [e]
    exact k _ ((s3.trans s4).trans s5)
end
end My

namespace My
open PySem L2 TL
/-! ### the plain fields; a field put -/
def plainF : Wf := ⟨0, 2, none, none, "half even", "minus", true, false, "", ""⟩
theorem put_places (v0 v1 v2 v3 v4 v5 v6 v7 v : V) : putK (wD v0 v1 v2 v3 v4 v5 v6 v7) (.inr "places") v = wD v v1 v2 v3 v4 v5 v6 v7 := rfl
theorem put_figures (v0 v1 v2 v3 v4 v5 v6 v7 v : V) : putK (wD v0 v1 v2 v3 v4 v5 v6 v7) (.inr "figures") v = wD v0 v v2 v3 v4 v5 v6 v7 := rfl
theorem put_step (v0 v1 v2 v3 v4 v5 v6 v7 v : V) : putK (wD v0 v1 v2 v3 v4 v5 v6 v7) (.inr "step") v = wD v0 v1 v v3 v4 v5 v6 v7 := rfl
theorem put_way (v0 v1 v2 v3 v4 v5 v6 v7 v : V) : putK (wD v0 v1 v2 v3 v4 v5 v6 v7) (.inr "way") v = wD v0 v1 v2 v v4 v5 v6 v7 := rfl
theorem put_signs (v0 v1 v2 v3 v4 v5 v6 v7 v : V) : putK (wD v0 v1 v2 v3 v4 v5 v6 v7) (.inr "signs") v = wD v0 v1 v2 v3 v v5 v6 v7 := rfl
theorem put_grouped (v0 v1 v2 v3 v4 v5 v6 v7 v : V) : putK (wD v0 v1 v2 v3 v4 v5 v6 v7) (.inr "grouped") v = wD v0 v1 v2 v3 v4 v v6 v7 := rfl
theorem put_scaled (v0 v1 v2 v3 v4 v5 v6 v7 v : V) : putK (wD v0 v1 v2 v3 v4 v5 v6 v7) (.inr "scaled") v = wD v0 v1 v2 v3 v4 v5 v v7 := rfl
theorem put_unit (v0 v1 v2 v3 v4 v5 v6 v7 v : V) : putK (wD v0 v1 v2 v3 v4 v5 v6 v7) (.inr "unit") v = wD v0 v1 v2 v3 v4 v5 v6 v := rfl
theorem merge_wD (v0 v1 v2 v3 v4 v5 v6 v7 : V) : mergeK [] (wD v0 v1 v2 v3 v4 v5 v6 v7) = wD v0 v1 v2 v3 v4 v5 v6 v7 := rfl
inductive PutF (K : PySem.W.Frag) (N : Addr) (H : Hp) (f : Wf) : Str → V → Wf → Prop
  | places {a : Addr} {x y : Int} : SqT K H a [.int x, .int y] → PutF K N H f "places" (.ref a) { f with pa := x, pb := y }
  | figures (o : Option Int) : PutF K N H f "figures" (intO o) { f with fig := o }
  | step {v : V} {o : Option Rat} : StpAt N H v o → PutF K N H f "step" v { f with stp := o }
  | way (z : Str) : PutF K N H f "way" (.str z) { f with way := z }
  | signs (z : Str) : PutF K N H f "signs" (.str z) { f with sg := z }
  | grouped (b : Bool) : PutF K N H f "grouped" (.bl b) { f with gr := b }
  | scaled (b : Bool) : PutF K N H f "scaled" (.bl b) { f with sc := b }
  | unit {a : Addr} {x y : Str} : SqT K H a [.str x, .str y] → PutF K N H f "unit" (.ref a) { f with u0 := x, u1 := y }
theorem PutF.same {K : PySem.W.Frag} {N : Addr} {H H' : Hp} {f f' : Wf} {n : Str} {v : V} (s : Same H H') (h : PutF K N H f n v f') : PutF K N H' f n v f' := by
  cases h with
  | places h => exact .places (SqT.ext h s)
  | figures o => exact .figures o
  | step h => exact .step (h.same s)
  | way z => exact .way z
  | signs z => exact .signs z
  | grouped b => exact .grouped b
  | scaled b => exact .scaled b
  | unit h => exact .unit (SqT.ext h s)
section
variable {P : Program} {w : World} {K : PySem.W.Frag} {mg : Str → Option Value} {base : Heap}
theorem dput {H : Hp} {a : Addr} {n : Str} {v v0 v1 v2 v3 v4 v5 v6 v7 : V} {kvs' : List (Key × V)} {R : Hp → Prop} (e : H a = some (.dK (wD v0 v1 v2 v3 v4 v5 v6 v7))) (ep : putK (wD v0 v1 v2 v3 v4 v5 v6 v7) (.inr n) v = kvs') (q : R (upd H a (.dK kvs'))) : rSetD (.ref a) (.str n) v H R :=
  ⟨a, _, rfl, DPut.k (k := .inr n) e (by show 8 < sizeLine; decide), by rw [ep]; exact q⟩
def spPlain (K : PySem.W.Frag) (N : Addr) : Sp := fun vs H Q _ => vs = [] ∧ ∀ (p : Addr) (H' : Hp), Same H H' → H p = none → FAt K N H' p plainF → Q (.ref p) H'
theorem ok_l_plain (T : Txt w K mg) : FnOk P w K mg base CX0 1 T.f_l_plain T.fd_l_plain [] (spPlain K T.C_Number) := by
  refine T.F_l_plain.ok sc_l_plain (fun vs H Q E h => ?_) (fun cdv A outer s H vs Q E hr h => ?_)
  · obtain ⟨rfl, _⟩ := h
    rfl
  · obtain ⟨rfl, k⟩ := h
    refine ⟨_, (pss_one (ps_ret (pe_disp (pps_cons pe_str (pe_tup (pa_cons pe_int (pa_cons pe_int pa_nil))) (pps_cons pe_str pe_non (pps_cons pe_str pe_non (pps_cons pe_str pe_str (pps_cons pe_str pe_str (pps_cons pe_str pe_bl (pps_cons pe_str pe_bl (pps_cons pe_str (pe_tup (pa_cons pe_str (pa_cons pe_str pa_nil))) pps_nil)))))))) rfl rfl (by simp) (by decide)))), ?_⟩
    walk_at "rdh"
    refine r_disp fun p hp => ?_
    walk_at "rdh"
    refine r_new (by show 2 ≤ 1000; decide) fun a ha => ?_
    walk_at "rdh"
    refine r_new (by show 2 ≤ 1000; decide) fun b hb => ?_
    have hpa : upd H p (.dK []) p = some (.dK []) := upd_same
    have s1 := Same.new (o := .tup [.int 0, .int 2]) ha
    have s2 := Same.new (o := .tup [.str "", .str ""]) hb
    have hpb := s2 _ _ (s1 _ _ hpa)
    have hab := s2 _ _ (upd_same (H := upd H p (.dK [])) (a := a) (o := .tup [.int 0, .int 2]))
    have hbb := upd_same (H := upd (upd H p (.dK [])) a (.tup [.int 0, .int 2])) (a := b) (o := HO.tup [.str "", .str ""])
    have s0 : Same H (upd (upd (upd H p (.dK [])) a (.tup [.int 0, .int 2])) b (.tup [.str "", .str ""])) := (Same.new hp).trans (s1.trans s2)
    generalize upd (upd (upd H p (.dK [])) a (.tup [.int 0, .int 2])) b (.tup [.str "", .str ""]) = H1 at *
    walk_at "rdh"
    refine ⟨hpb, wD (.ref a) .non .non (.str "half even") (.str "minus") (.bl true) (.bl false) (.ref b), rfl, by show 8 ≤ 15; decide, ?_⟩
    rw [merge_wD]
    have sp : ∀ x o, x ≠ p → H1 x = some o → upd H1 p (.dK (wD (.ref a) .non .non (.str "half even") (.str "minus") (.bl true) (.bl false) (.ref b))) x = some o := fun x o n h => by rw [upd_ne n]; exact h
    refine k p _ (fun x o h => sp x o (ne_of_none h hp) (s0 _ _ h)) hp ⟨a, b, .non, upd_same, SqT.of (sp _ _ (ne_of hab hpb (fun z => by cases z)) hab), .none, SqT.of (sp _ _ (ne_of hbb hpb (fun z => by cases z)) hbb)⟩
def spPut (K : PySem.W.Frag) (N : Addr) : Sp := fun vs H Q _ => ∃ (p : Addr) (f f' : Wf) (n : Str) (v : V), vs = [.ref p, .str n, v] ∧ FAt K N H p f ∧ PutF K N H f n v f' ∧ ∀ (q : Addr) (H' : Hp), Same H H' → H q = none → FAt K N H' q f' → Q (.ref q) H'
theorem ok_l_put (T : Txt w K mg) : FnOk P w K mg base CX0 1 T.f_l_put T.fd_l_put ["_law_f", "_law_name", "_law_thing"] (spPut K T.C_Number) := by
  refine T.F_l_put.ok sc_l_put (fun vs H Q E h => ?_) (fun cdv A outer s H vs Q E hr h => ?_)
  · obtain ⟨p, f, f', n, v, rfl, _⟩ := h
    rfl
  · obtain ⟨p, f, f', n, v, rfl, hf, hp, k⟩ := h
    refine ⟨_, (pss_cons (ps_set (i := 3) sc_l_put.nd rfl (Or.inl rfl) (pe_callTy call_dictD (by rfl) T.n_dict (by decide +kernel) (pa_cons (pv 0) pa_nil)))
 (pss_cons (ps_asg (pv 2) (pg_sub (pv 3) (pv 1) (set_dict (Nat.lt_of_le_of_lt (Nat.add_le_add_left (by decide) _) hr.units))))
 (pss_one (ps_ret (pv 3))))), ?_⟩
    obtain ⟨pl, un, sv, e, hpl, hst, hun⟩ := hf.ex
    walk_at "rdh"
    refine ⟨p, _, rfl, .inl e, fun q hq => ?_⟩
    walk_at "rdh"
    have hq1 := upd_same (H := H) (a := q) (o := HO.dK (wD (.ref pl) (intO f.fig) sv (.str f.way) (.str f.sg) (.bl f.gr) (.bl f.sc) (.ref un)))
    have sd : ∀ o, Same H (upd (upd H q (.dK (wD (.ref pl) (intO f.fig) sv (.str f.way) (.str f.sg) (.bl f.gr) (.bl f.sc) (.ref un)))) q o) := fun o => Same.dict hq
    cases hp with
    | places h => refine dput hq1 (put_places ..) ?_; walk_at "rdh"; exact k q _ (sd _) hq ⟨_, un, sv, upd_same, SqT.ext h (sd _), hst.same (sd _), SqT.ext hun (sd _)⟩
    | figures o => refine dput hq1 (put_figures ..) ?_; walk_at "rdh"; exact k q _ (sd _) hq ⟨pl, un, sv, upd_same, SqT.ext hpl (sd _), hst.same (sd _), SqT.ext hun (sd _)⟩
    | step h => refine dput hq1 (put_step ..) ?_; walk_at "rdh"; exact k q _ (sd _) hq ⟨pl, un, _, upd_same, SqT.ext hpl (sd _), h.same (sd _), SqT.ext hun (sd _)⟩
    | way z => refine dput hq1 (put_way ..) ?_; walk_at "rdh"; exact k q _ (sd _) hq ⟨pl, un, sv, upd_same, SqT.ext hpl (sd _), hst.same (sd _), SqT.ext hun (sd _)⟩
    | signs z => refine dput hq1 (put_signs ..) ?_; walk_at "rdh"; exact k q _ (sd _) hq ⟨pl, un, sv, upd_same, SqT.ext hpl (sd _), hst.same (sd _), SqT.ext hun (sd _)⟩
    | grouped b => refine dput hq1 (put_grouped ..) ?_; walk_at "rdh"; exact k q _ (sd _) hq ⟨pl, un, sv, upd_same, SqT.ext hpl (sd _), hst.same (sd _), SqT.ext hun (sd _)⟩
    | scaled b => refine dput hq1 (put_scaled ..) ?_; walk_at "rdh"; exact k q _ (sd _) hq ⟨pl, un, sv, upd_same, SqT.ext hpl (sd _), hst.same (sd _), SqT.ext hun (sd _)⟩
    | unit h => refine dput hq1 (put_unit ..) ?_; walk_at "rdh"; exact k q _ (sd _) hq ⟨pl, _, sv, upd_same, SqT.ext hpl (sd _), hst.same (sd _), SqT.ext h (sd _)⟩
end
end My

namespace My
open PySem L2
section
variable {P : Program} {w : World} {K : PySem.W.Frag} {mg : Str → Option Value} {base : Heap}
/-! ### the deck, its draws counted -/
def DeckN (H : Hp) (d c : Addr) (k : Nat) : Prop := ∃ (s n : Int) (xs : List Int), H d = some (.lst [.ref c, .int s, .int n]) ∧ H c = some (.lst (xs.map V.int)) ∧ xs.length ≤ 63 ∧ d ≠ c ∧ 0 ≤ n ∧ n ≤ (k : Int)
theorem DeckN.same {H H' : Hp} {d c : Addr} {k : Nat} (s : Same H H') (h : DeckN H d c k) : DeckN H' d c k := let ⟨a, n, xs, h1, h2, h3, h4, h5, h6⟩ := h; ⟨a, n, xs, s _ _ h1, s _ _ h2, h3, h4, h5, h6⟩
theorem DeckN.le {H : Hp} {d c : Addr} {k m : Nat} (l : k ≤ m) (h : DeckN H d c k) : DeckN H d c m := let ⟨a, n, xs, h1, h2, h3, h4, h5, h6⟩ := h; ⟨a, n, xs, h1, h2, h3, h4, h5, by omega⟩
theorem off_keep {H H' : Hp} {d c b : Addr} {k : Nat} {o : HO} (s : Off d c H H') (hd : DeckN H d c k) (h : H b = some o) (hn : ∀ xs, o ≠ .lst xs) : H' b = some o := by
  obtain ⟨_, _, _, h1, h2, _⟩ := hd
  exact s b o (ne_of h h1 (hn _)) (ne_of h h2 (hn _)) h
theorem deck_ne {H : Hp} {d c p : Addr} {k : Nat} (h : DeckN H d c k) (hp : H p = none) : p ≠ d ∧ p ≠ c := by
  obtain ⟨_, _, _, h1, h2, _⟩ := h
  exact ⟨(ne_of_none h1 hp).symm, (ne_of_none h2 hp).symm⟩
def spDeck (K : PySem.W.Frag) : Sp := fun vs H Q _ => ∃ (a : Addr) (ns : List Int), vs = [.ref a] ∧ SqL K H a (ns.map V.int) ∧ ns.length ≤ 63 ∧ ∀ (d c : Addr) (H' : Hp), Same H H' → DeckN H' d c 0 → Q (.ref d) H'
theorem ok_l_deck (T : Txt w K mg) : FnOk P w K mg base CX0 1 T.f_l_deck T.fd_l_deck ["_law_script"] (spDeck K) := by
  refine T.F_l_deck.ok sc_l_deck (fun vs H Q E h => ?_) (fun cdv A outer s H vs Q E hr h => ?_)
  · obtain ⟨a, ns, rfl, _⟩ := h
    rfl
  · obtain ⟨a, ns, rfl, hS, hl, k⟩ := h
    refine ⟨_, (pss_cons (ps_set (i := 1) sc_l_deck.nd rfl (Or.inl rfl) (pe_callTy call_list_of (by rfl) T.n_list (by decide +kernel) (pa_cons (pe_slice sl_list (pv 0) po_none (po_some pe_int)) pa_nil)))
 (pss_cons (ps_set (i := 2) sc_l_deck.nd rfl (Or.inl rfl) pe_int)
 (pss_cons (ps_for PassesOwn.never rfl (pi_list (pv 1)) (pg_name (i := 3) sc_l_deck.nd rfl (Or.inl rfl))
  (pss_one (ps_set (i := 2) sc_l_deck.nd rfl (Or.inl rfl) (pe_op op_mod (pe_op op_add (pe_op op_add (pe_op op_mul (pv 2) pe_int) (pv 3)) pe_int) pe_int))))
 (pss_one (ps_ret (pe_lst (pa_cons (pe_revL (pv 1)) (pa_cons (pv 2) (pa_cons pe_int pa_nil))))))))), ?_⟩
    walk_at "rd"
    refine ⟨a, _, rfl, hS, fun p hp => ?_⟩
    obtain ⟨ms, em, lm⟩ := cut_ints ns 63
    rw [em]
    walk_at "rd"
    refine ⟨p, _, rfl, .inl (SqL.of upd_same), fun l hl' => ?_⟩
    have s1 : Same H (upd H p (.lst (ms.map V.int))) := Same.new hp
    have s2 : Same H (upd (upd H p (.lst (ms.map V.int))) l (.lst (ms.map V.int))) := s1.trans (Same.new hl')
    walk_at "rd"
    generalize hH2 : upd (upd H p (.lst (ms.map V.int))) l (.lst (ms.map V.int)) = H2 at *
    have hL : H2 l = some (.lst (ms.map V.int)) := by rw [← hH2]; exact upd_same
    refine ⟨_, rfl, l, rfl, ⟨_, SqL.of hL⟩, for_list (K := K) (a := l) (xs := ms.map V.int) (fun i σ H' => ∃ (z : Int) (v : Option V), σ = [some (.ref a), some (.ref l), some (.int z), v] ∧ H' = H2)
      ⟨23, none, rfl, rfl⟩ (fun i σ H' _ ⟨_, _, _, e⟩ => e ▸ SqL.of hL) ?_ ?_⟩
    · rintro i y σ H' hi ⟨z, v, rfl, rfl⟩
      obtain ⟨u, rfl⟩ : ∃ u, y = V.int u := by
        rw [List.getElem?_map] at hi
        cases e : ms[i]? with
        | none => rw [e] at hi; cases hi
        | some u => rw [e] at hi; exact ⟨u, (Option.some.inj hi).symm⟩
      walk_at "rd"
      exact ⟨_, _, rfl, rfl⟩
    · rintro σ H' ⟨z, v, rfl, rfl⟩
      walk_at "rd"
      refine ⟨l, _, rfl, SqL.of hL, fun c hc => ?_⟩
      walk_at "rd"
      refine r_new (by show 3 ≤ 1000; decide) fun d hd => ?_
      have hc2 : c ≠ d := ne_of_none upd_same hd
      refine k d c _ ((s2.trans (Same.new hc)).trans (Same.new hd)) ⟨z, 0, ms.reverse, upd_same, ?_, by rw [List.length_reverse]; omega, hc2.symm, by omega, by omega⟩
      rw [upd_ne hc2, upd_same, List.map_reverse]
def spDraw : Sp := fun vs H Q _ => ∃ (d c : Addr) (w : Int) (m : Nat), vs = [.ref d, .int w] ∧ DeckN H d c m ∧ m ≤ 1000000 ∧ 0 < w ∧ w.natAbs < 2 ^ 9000 ∧ ∀ (r : Int) (H' : Hp), Off d c H H' → DeckN H' d c (m + 1) → 0 ≤ r → r < w → Q (.int r) H'
theorem ok_l_draw (T : Txt w K mg) : FnOk P w K mg base CX0 1 T.f_l_draw T.fd_l_draw ["_law_deck_here", "_law_top"] spDraw := by
  refine T.F_l_draw.ok sc_l_draw (fun vs H Q E h => ?_) (fun cdv A outer s H vs Q E hr h => ?_)
  · obtain ⟨d, c, v, m, rfl, _⟩ := h
    rfl
  · obtain ⟨d, c, v, M, rfl, ⟨z, n, xs, hd, hc, hl, ne, n0, nk⟩, hM, v0, vb, k⟩ := h
    refine ⟨_, (pss_cons (ps_asg (pe_op op_add (pe_ix ix_list (pv 0) pe_int (fun _ _ => rfl)) pe_int) (pg_sub (pv 0) pe_int set_list))
 (pss_cons (ps_set (i := 2) sc_l_draw.nd rfl (Or.inl rfl) (pe_ix ix_list (pv 0) pe_int (fun _ _ => rfl)))
 (pss_cons (ps_if (pt_cmpR (op_neD hr.units) (pe_ix ix_list (pv 0) pe_int (fun _ _ => rfl)) (pe_lst pa_nil) (nomark _))
  (pss_cons (ps_set (i := 2) sc_l_draw.nd rfl (Or.inl rfl) (pe_bm0 PySem.F.plainAttrs_list PySem.F.slot_list_pop PySem.F.type_list_pop mt_pop (pe_ix ix_list (pv 0) pe_int (fun _ _ => rfl))))
 (pss_one (ps_if (pt_cmpR op_ge (pv 2) (pe_op op_pow pe_int pe_int) (nomark _))
  (pss_cons (ps_expr (pe_bm PySem.F.plainAttrs_list PySem.F.slot_list_append PySem.F.type_list_append mt_append (pe_ix ix_list (pv 0) pe_int (fun _ _ => rfl)) (pa_cons (pe_op op_fdivW (pv 2) (pv 1)) pa_nil)))
 (pss_one (ps_ret (pe_op op_mod (pv 2) (pv 1)))))
  pss_nil)))
  pss_nil)
 (pss_cons (ps_set (i := 3) sc_l_draw.nd rfl (Or.inl rfl) (pe_op op_add (pe_op op_add (pe_op op_mod (pv 2) pe_int) (pe_op op_mulW (pe_op op_mul pe_int (pe_ix ix_list (pv 0) pe_int (fun _ _ => rfl))) (pe_ix ix_list (pv 0) pe_int (fun _ _ => rfl)))) pe_int))
 (pss_cons (ps_set (i := 3) sc_l_draw.nd rfl (Or.inl rfl) (pe_op op_mod (pe_op op_mul (pv 3) pe_int) pe_int))
 (pss_cons (ps_set (i := 3) sc_l_draw.nd rfl (Or.inl rfl) (pe_op op_mod (pe_op op_add (pe_op op_add (pe_op op_mulW (pv 3) (pv 3)) (pe_op op_mul pe_int (pv 3))) (pe_ix ix_list (pv 0) pe_int (fun _ _ => rfl))) pe_int))
 (pss_one (ps_ret (pe_op op_mod (pe_op op_fdiv (pv 3) pe_int) (pv 1)))))))))), ?_⟩
    walk_at "rd"
    refine r_ixL hd (atI_nat (j := 2) rfl) ?_
    walk_at "rd"
    refine r_setL hd (j := 2) rfl ?_
    have o1 : Off d c H (upd H d (.lst [.ref c, .int z, .int (n + 1)])) := fun b o h1 h2 h => by rw [upd_ne h1]; exact h
    have hd1 : (upd H d (.lst [.ref c, .int z, .int (n + 1)])) d = some (.lst [.ref c, .int z, .int (n + 1)]) := upd_same
    have hc1 : (upd H d (.lst [.ref c, .int z, .int (n + 1)])) c = some (.lst (xs.map V.int)) := by rw [upd_ne ne.symm]; exact hc
    show (_ : TS) _ _ (upd H d (.lst [.ref c, .int z, .int (n + 1)]))
    generalize (upd H d (.lst [.ref c, .int z, .int (n + 1)])) = H1 at *
    have post : ∀ (H2 : Hp), Off d c H H2 → (∃ ys : List Int, H2 c = some (.lst (ys.map V.int)) ∧ ys.length ≤ 63) → H2 d = some (.lst [.ref c, .int z, .int (n + 1)]) → ∀ r : Int, 0 ≤ r → r < v → Q (.int r) H2 := by
      intro H2 o2 ⟨ys, hy, ly⟩ h2 r r0 r1
      exact k r H2 o2 ⟨z, n + 1, ys, h2, hy, ly, ne, by omega, by omega⟩ r0 r1
    have pmod : ∀ x : Int, 0 ≤ x % v ∧ x % v < v := fun x => ⟨Int.emod_nonneg _ (by omega), Int.emod_lt_of_pos _ v0⟩
    walk_at "rd"
    refine r_ixL hd1 (atI_nat (j := 1) rfl) ?_
    walk_at "rd"
    refine r_ixL hd1 (atI_nat (j := 0) rfl) ?_
    walk_at "rd"
    refine r_new (by show 0 ≤ 1000; decide) fun e he => ?_
    have hc2 : upd H1 e (.lst []) c = some (.lst (xs.map V.int)) := by rw [upd_ne (ne_of_none hc1 he)]; exact hc1
    have hd2 : upd H1 e (.lst []) d = some (.lst [.ref c, .int z, .int (n + 1)]) := by rw [upd_ne (ne_of_none hd1 he)]; exact hd1
    have o2 : Off d c H (upd H1 e (.lst [])) := o1.trans (Off.of (Same.new he))
    refine r_neInts (xs := xs) (ys := []) (SqL.of hc2) (SqL.of upd_same) ?_
    generalize upd H1 e (.lst []) = H2 at *
    have fin : ∀ (cell : Int) (v3 : Option V) (HH : Hp), Off d c H HH → (∃ ys : List Int, HH c = some (.lst (ys.map V.int)) ∧ ys.length ≤ 63) → HH d = some (.lst [.ref c, .int z, .int (n + 1)]) →
        ∀ F : Int → Prop, (∀ x, F x) → True := fun _ _ _ _ _ _ _ _ => trivial
    walk_at "rd"
    refine r_ite (fun hx => ?_) (fun hx => ?_)
    · obtain ⟨ys, y, rfl⟩ : ∃ ys y, xs = ys ++ [y] := by
        have hx' : xs ≠ [] := by simpa using hx
        exact ⟨xs.dropLast, xs.getLast hx', (List.dropLast_concat_getLast hx').symm⟩
      rw [List.map_append] at hc2
      rw [List.length_append, List.length_singleton] at hl
      walk_at "rd"
      refine r_ixL hd2 (atI_nat (j := 0) rfl) ?_
      refine ⟨ty_list hc2, r_pop hc2 ?_⟩
      have hc3 : upd H2 c (.lst (ys.map V.int)) c = some (.lst (ys.map V.int)) := upd_same
      have hd3 : upd H2 c (.lst (ys.map V.int)) d = some (.lst [.ref c, .int z, .int (n + 1)]) := by rw [upd_ne ne]; exact hd2
      have o3 : Off d c H (upd H2 c (.lst (ys.map V.int))) := o2.trans fun b o h1 h2 h => by rw [upd_ne h2]; exact h
      generalize upd H2 c (.lst (ys.map V.int)) = H3 at *
      walk_at "rd"
      refine r_ite (fun hy => ?_) (fun hy => ?_)
      · walk_at "rd"
        refine r_ixL hd3 (atI_nat (j := 0) rfl) ?_
        refine ⟨ty_list hc3, ?_⟩
        walk_at "rd"
        refine r_I (wide_div v0 vb (by decide) (Nat.le_refl _)) ?_
        walk_at "rd"
        refine r_append hc3 (by rw [List.length_map]; omega) ?_
        walk_at "rd"
        refine r_I v0 ?_
        refine post _ (o3.trans fun b o h1 h2 h => by rw [upd_ne h2]; exact h) ⟨ys ++ [y / v], ?_, by rw [List.length_append, List.length_singleton]; omega⟩ (by rw [upd_ne ne]; exact hd3) _ (pmod y).1 (pmod y).2
        rw [upd_same, List.map_append]; rfl
      · walk_at "rd"
        refine r_ixL hd3 (atI_nat (j := 2) rfl) ?_
        walk_at "rd"
        refine r_ixL hd3 (atI_nat (j := 2) rfl) ?_
        walk_at "rd"
        refine r_I (wide_mul (a := 40) (b := 21) (by omega) (by omega) (by decide) (by decide) (by decide)) ?_
        walk_at "rd"
        generalize (y % 2305843009213693951 + 65537 * (n + 1) * (n + 1) + 29) * 69621 = g1
        have hg : (0 : Int) ≤ g1 % 2305843009213693951 ∧ g1 % 2305843009213693951 < 2305843009213693951 := ⟨Int.emod_nonneg _ (by decide), Int.emod_lt_of_pos _ (by decide)⟩
        generalize g1 % 2305843009213693951 = g2 at *
        refine r_I (wide_mul (a := 62) (b := 62) (by omega) (by omega) (by decide) (by decide) (by decide)) ?_
        walk_at "rd"
        refine r_ixL hd3 (atI_nat (j := 2) rfl) ?_
        walk_at "rd"
        refine r_I v0 ?_
        exact post _ o3 ⟨ys, hc3, by omega⟩ hd3 _ (pmod _).1 (pmod _).2
    · walk_at "rd"
      refine r_ixL hd2 (atI_nat (j := 2) rfl) ?_
      walk_at "rd"
      refine r_ixL hd2 (atI_nat (j := 2) rfl) ?_
      walk_at "rd"
      refine r_I (wide_mul (a := 40) (b := 21) (by omega) (by omega) (by decide) (by decide) (by decide)) ?_
      walk_at "rd"
      generalize (z % 2305843009213693951 + 65537 * (n + 1) * (n + 1) + 29) * 69621 = g1
      have hg : (0 : Int) ≤ g1 % 2305843009213693951 ∧ g1 % 2305843009213693951 < 2305843009213693951 := ⟨Int.emod_nonneg _ (by decide), Int.emod_lt_of_pos _ (by decide)⟩
      generalize g1 % 2305843009213693951 = g2 at *
      refine r_I (wide_mul (a := 62) (b := 62) (by omega) (by omega) (by decide) (by decide) (by decide)) ?_
      walk_at "rd"
      refine r_ixL hd2 (atI_nat (j := 2) rfl) ?_
      walk_at "rd"
      refine r_I v0 ?_
      exact post _ o2 ⟨xs, hc2, hl⟩ hd2 _ (pmod _).1 (pmod _).2
/-- a draw, as it is read -/
theorem rd_draw {H : Hp} {d c : Addr} {v : Int} {m : Nat} {Q : VK} {E : XK} (dk : DeckN H d c m) (h0 : 0 < v) (h1 : v.natAbs < 2 ^ 200) (hm : m ≤ 1000000) (q : ∀ (r : Int) (H' : Hp), Off d c H H' → DeckN H' d c (m + 1) → 0 ≤ r → r < v → Q (.int r) H') : spDraw ([V.ref d, V.int v] ++ []) H Q E :=
  ⟨d, c, v, m, rfl, dk, hm, h0, Nat.lt_of_lt_of_le h1 (Nat.pow_le_pow_right (by decide) (by decide)), q⟩
end
end My

namespace My
open PySem L2 TL
section
variable {P : Program} {w : World} {K : PySem.W.Frag} {mg : Str → Option Value} {base : Heap}
/-! ### the steps -/
theorem num_leN (t b : Int) : (Rat.divInt t b).num.natAbs ≤ t.natAbs := num_le t b
theorem den_leN {t b : Int} (hb : 0 < b) : (Rat.divInt t b).den ≤ b.toNat := by
  have := den_le (t := t) (b := b) (by omega)
  omega
def NumB (C : Addr) (H : Hp) (p : Addr) : Prop := ∃ x, NumAt C H p x ∧ x.num.natAbs < 2 ^ 60 ∧ x.den < 2 ^ 60
theorem NumB.same {C p : Addr} {H H' : Hp} (s : Same H H') (h : NumB C H p) : NumB C H' p := let ⟨x, h1, h2⟩ := h; ⟨x, h1.same s, h2⟩
theorem NumB.off {C p d c : Addr} {k : Nat} {H H' : Hp} (s : Off d c H H') (dk : DeckN H d c k) (h : NumB C H p) : NumB C H' p := by
  obtain ⟨x, ⟨dx, h1⟩, h2⟩ := h
  exact ⟨x, ⟨dx, off_keep s dk h1 (fun _ z => by cases z)⟩, h2⟩
def AllB (C : Addr) (H : Hp) (xs : List V) : Prop := ∀ v ∈ xs, ∃ p, v = .ref p ∧ NumB C H p
theorem AllB.nil {C : Addr} {H : Hp} : AllB C H [] := fun v hv => nomatch hv
theorem AllB.same {C : Addr} {H H' : Hp} {xs : List V} (s : Same H H') (h : AllB C H xs) : AllB C H' xs := fun v hv => let ⟨p, e, h1⟩ := h v hv; ⟨p, e, h1.same s⟩
theorem AllB.off {C d c : Addr} {k : Nat} {H H' : Hp} {xs : List V} (s : Off d c H H') (dk : DeckN H d c k) (h : AllB C H xs) : AllB C H' xs := fun v hv => let ⟨p, e, h1⟩ := h v hv; ⟨p, e, h1.off s dk⟩
theorem AllB.snoc {C p : Addr} {H H' : Hp} {xs : List V} (h : AllB C H xs) (s : Same H H') (n : NumB C H' p) : AllB C H' (xs ++ [.ref p]) := fun v hv => by
  rcases List.mem_append.mp hv with g | g
  · exact h.same s v g
  · rw [List.mem_singleton.mp g]; exact ⟨p, rfl, n⟩
theorem mk_numB {C : Addr} {H : Hp} {t b : Int} {R : Addr → Hp → Prop} {E : XK} (hb : 0 < b) (hl : b < 2 ^ 59) (ht : t.natAbs < 2 ^ 59) (q : ∀ (p : Addr) (H' : Hp), Same H H' → NumB C H' p → R p H') :
    ∀ x dx, H x = none → H dx = none → dx ≠ x → spInit C ([V.ref x, .int t, .int b]) (upd (upd H dx (.own x)) x (.ins C dx [])) (fun v H2 => v = .non ∧ R x H2) E :=
  mk_num (by omega) (Nat.lt_of_lt_of_le (show b.natAbs < 2 ^ 59 by omega) (Nat.pow_le_pow_right (by decide) (by decide))) fun p H' s n h => q p H' s ⟨_, h, by have := num_leN t b; omega, by have := den_leN (t := t) hb; omega⟩
theorem mk_numB1 {C : Addr} {H : Hp} {t : Int} {R : Addr → Hp → Prop} {E : XK} (ht : t.natAbs < 2 ^ 59) (q : ∀ (p : Addr) (H' : Hp), Same H H' → NumB C H' p → R p H') :
    ∀ x dx, H x = none → H dx = none → dx ≠ x → spInit C ([V.ref x, .int t, .int 1]) (upd (upd H dx (.own x)) x (.ins C dx [])) (fun v H2 => v = .non ∧ R x H2) E := mk_numB (by decide) (by decide) ht q
def StepsAt (C : Addr) (H : Hp) (l : Addr) (n : Nat) : Prop := ∃ xs, H l = some (.lst xs) ∧ xs.length ≤ n ∧ AllB C H xs
theorem StepsAt.same {C l : Addr} {n : Nat} {H H' : Hp} (s : Same H H') (h : StepsAt C H l n) : StepsAt C H' l n := let ⟨xs, h1, h2, h3⟩ := h; ⟨xs, s _ _ h1, h2, h3.same s⟩
theorem StepsAt.off {C l d c : Addr} {n k : Nat} {H H' : Hp} (s : Off d c H H') (dk : DeckN H d c k) (nl : l ≠ d ∧ l ≠ c) (h : StepsAt C H l n) : StepsAt C H' l n := let ⟨xs, h1, h2, h3⟩ := h; ⟨xs, s _ _ nl.1 nl.2 h1, h2, h3.off s dk⟩
theorem none_ofS {H H1 : Hp} {p : Addr} (s : Same H H1) (h : H1 p = none) : H p = none := by
  cases e : H p with
  | none => rfl
  | some o => rw [s _ _ e] at h; cases h
theorem steps_cat {C : Addr} {H : Hp} {l p : Addr} {n m : Nat} {zs : List V} {Q : VK} (h : StepsAt C H l n) (hp : H p = none) (hz : AllB C H zs) (lz : zs.length ≤ m) (nm : n + m ≤ 100000) (q : ∀ (l' : Addr) (H' : Hp), Same H H' → H l' = none → StepsAt C H' l' (n + m) → Q (.ref l') H') :
    rCat (.ref l) (.ref p) (upd H p (.lst zs)) Q := by
  obtain ⟨xs, h1, h2, h3⟩ := h
  have s1 := Same.new (o := .lst zs) hp
  refine r_cat (s1 _ _ h1) upd_same (by omega) fun r hr => ?_
  have s2 := s1.trans (Same.new (o := .lst (xs ++ zs)) hr)
  refine q r _ s2 (none_ofS s1 hr) ⟨xs ++ zs, upd_same, by rw [List.length_append]; omega, fun v hv => ?_⟩
  rcases List.mem_append.mp hv with g | g
  · exact h3.same s2 v g
  · exact hz.same s2 v g
theorem none_off {d c l : Addr} {H H1 : Hp} (o : Off d c H H1) (n : l ≠ d ∧ l ≠ c) (h : H1 l = none) : H l = none := by
  cases e : H l with
  | none => rfl
  | some u => rw [o l u n.1 n.2 e] at h; cases h
def spSteps (C : Addr) : Sp := fun vs H Q _ => ∃ (d c : Addr) (m : Nat), vs = [.ref d] ∧ DeckN H d c m ∧ m ≤ 1000 ∧ ∀ (l : Addr) (H' : Hp), Off d c H H' → DeckN H' d c (m + 24) → l ≠ d ∧ l ≠ c → H l = none → StepsAt C H' l 98 → Q (.ref l) H'
theorem ok_l_steps (T : Txt w K mg) : FnOk P w K mg base CX0 3 T.f_l_steps T.fd_l_steps ["_law_deck_here"] (spSteps T.C_Number) := by
  refine T.F_l_steps.ok sc_l_steps (fun vs H Q E h => ?_) (fun cdv A outer s H vs Q E hr h => ?_)
  · obtain ⟨d, c, m, rfl, _⟩ := h
    rfl
  · obtain ⟨d, c, m, rfl, dk, hm, k⟩ := h
    refine ⟨_, (pss_cons (ps_set (i := 1) sc_l_steps.nd rfl (Or.inl rfl) (pe_lst pa_nil))
 (pss_cons (ps_for PassesOwn.never rfl (pi_range1 rfl T.n_range (pa_cons pe_int pa_nil)) (pg_name (i := 2) sc_l_steps.nd rfl (Or.inl rfl))
  (pss_cons (ps_set (i := 3) sc_l_steps.nd rfl (Or.inl rfl) (pe_callTy call_int_str (by rfl) T.n_int (by decide +kernel) (pa_cons (pe_op op_add_str pe_str (pe_op op_repS pe_str (pv 2))) pa_nil)))
 (pss_cons (ps_set (i := 4) sc_l_steps.nd rfl (Or.inl rfl) (pe_op op_add pe_int (pe_call (ok_l_draw T) (hr.mono (by decide)) (by rfl) T.m_l_draw T.F_l_draw.kp T.b_l_draw .nil pass0 (pa_cons (pv 0) (pa_cons pe_int pa_nil)))))
 (pss_cons (ps_set (i := 1) sc_l_steps.nd rfl (Or.inl rfl) (pe_op op_cat (pv 1) (pe_lst (pa_cons (pe_make T.mk_Number (ok_Number_init T) (hr.mono (by decide)) (by rfl) T.m_Number T.b_Number_init2 .nil pass0 (pa_cons (pv 4) (pa_cons (pe_op op_mulW (pv 3) (pv 4)) pa_nil))) (pa_cons (pe_make T.mk_Number (ok_Number_init T) (hr.mono (by decide)) (by rfl) T.m_Number T.b_Number_init2 .nil pass0 (pa_cons pe_int (pa_cons (pv 3) pa_nil))) (pa_cons (pe_make T.mk_Number (ok_Number_init T) (hr.mono (by decide)) (by rfl) T.m_Number T.b_Number_init1 T.d_Number_init1 pass0 (pa_cons (pv 3) pa_nil)) (pa_cons (pe_make T.mk_Number (ok_Number_init T) (hr.mono (by decide)) (by rfl) T.m_Number T.b_Number_init2 .nil pass0 (pa_cons pe_int (pa_cons (pe_op op_mul pe_int (pv 3)) pa_nil))) (pa_cons (pe_make T.mk_Number (ok_Number_init T) (hr.mono (by decide)) (by rfl) T.m_Number T.b_Number_init2 .nil pass0 (pa_cons pe_int (pa_cons (pe_op op_mul pe_int (pv 3)) pa_nil))) pa_nil))))))))
 (pss_one (ps_set (i := 1) sc_l_steps.nd rfl (Or.inl rfl) (pe_op op_cat (pv 1) (pe_lst (pa_cons (pe_make T.mk_Number (ok_Number_init T) (hr.mono (by decide)) (by rfl) T.m_Number T.b_Number_init2 .nil pass0 (pa_cons (pv 4) (pa_cons (pe_op op_mul pe_int (pv 3)) pa_nil))) (pa_cons (pe_make T.mk_Number (ok_Number_init T) (hr.mono (by decide)) (by rfl) T.m_Number T.b_Number_init2 .nil pass0 (pa_cons (pe_op op_add pe_int (pe_call (ok_l_draw T) (hr.mono (by decide)) (by rfl) T.m_l_draw T.F_l_draw.kp T.b_l_draw .nil pass0 (pa_cons (pv 0) (pa_cons pe_int pa_nil)))) (pa_cons (pv 3) pa_nil))) pa_nil))))))))))
 (pss_cons (ps_set (i := 1) sc_l_steps.nd rfl (Or.inl rfl) (pe_op op_cat (pv 1) (pe_lst (pa_cons (pe_make T.mk_Number (ok_Number_init T) (hr.mono (by decide)) (by rfl) T.m_Number T.b_Number_init1 T.d_Number_init1 pass0 (pa_cons pe_int pa_nil)) (pa_cons (pe_make T.mk_Number (ok_Number_init T) (hr.mono (by decide)) (by rfl) T.m_Number T.b_Number_init1 T.d_Number_init1 pass0 (pa_cons (pe_un un_neg pe_int) pa_nil)) (pa_cons (pe_make T.mk_Number (ok_Number_init T) (hr.mono (by decide)) (by rfl) T.m_Number T.b_Number_init2 .nil pass0 (pa_cons (pe_un un_neg pe_int) (pa_cons pe_int pa_nil))) (pa_cons (pe_make T.mk_Number (ok_Number_init T) (hr.mono (by decide)) (by rfl) T.m_Number T.b_Number_init2 .nil pass0 (pa_cons pe_int (pa_cons pe_int pa_nil))) (pa_cons (pe_make T.mk_Number (ok_Number_init T) (hr.mono (by decide)) (by rfl) T.m_Number T.b_Number_init2 .nil pass0 (pa_cons pe_int (pa_cons pe_int pa_nil))) (pa_cons (pe_make T.mk_Number (ok_Number_init T) (hr.mono (by decide)) (by rfl) T.m_Number T.b_Number_init2 .nil pass0 (pa_cons pe_int (pa_cons pe_int pa_nil))) pa_nil)))))))))
 (pss_cons (ps_set (i := 1) sc_l_steps.nd rfl (Or.inl rfl) (pe_op op_cat (pv 1) (pe_lst (pa_cons (pe_make T.mk_Number (ok_Number_init T) (hr.mono (by decide)) (by rfl) T.m_Number T.b_Number_init2 .nil pass0 (pa_cons pe_int (pa_cons (pe_op op_pow pe_int pe_int) pa_nil))) (pa_cons (pe_make T.mk_Number (ok_Number_init T) (hr.mono (by decide)) (by rfl) T.m_Number T.b_Number_init1 T.d_Number_init1 pass0 (pa_cons (pe_op op_pow pe_int pe_int) pa_nil)) (pa_cons (pe_make T.mk_Number (ok_Number_init T) (hr.mono (by decide)) (by rfl) T.m_Number T.b_Number_init2 .nil pass0 (pa_cons pe_int (pa_cons (pe_op op_pow pe_int pe_int) pa_nil))) (pa_cons (pe_make T.mk_Number (ok_Number_init T) (hr.mono (by decide)) (by rfl) T.m_Number T.b_Number_init2 .nil pass0 (pa_cons pe_int (pa_cons (pe_op op_pow pe_int pe_int) pa_nil))) (pa_cons (pe_make T.mk_Number (ok_Number_init T) (hr.mono (by decide)) (by rfl) T.m_Number T.b_Number_init2 .nil pass0 (pa_cons pe_int (pa_cons (pe_op op_pow pe_int pe_int) pa_nil))) pa_nil))))))))
 (pss_one (ps_ret (pe_op op_cat (pv 1) (pe_lst (pa_cons (pe_make T.mk_Number (ok_Number_init T) (hr.mono (by decide)) (by rfl) T.m_Number T.b_Number_init2 .nil pass0 (pa_cons pe_int (pa_cons (pe_op op_pow pe_int pe_int) pa_nil))) (pa_cons (pe_make T.mk_Number (ok_Number_init T) (hr.mono (by decide)) (by rfl) T.m_Number T.b_Number_init2 .nil pass0 (pa_cons pe_int (pa_cons (pe_op op_pow pe_int pe_int) pa_nil))) (pa_cons (pe_make T.mk_Number (ok_Number_init T) (hr.mono (by decide)) (by rfl) T.m_Number T.b_Number_init2 .nil pass0 (pa_cons pe_int (pa_cons (pe_op op_mulW (pe_op op_pow pe_int pe_int) (pe_op op_pow pe_int pe_int)) pa_nil))) pa_nil))))))))))), ?_⟩
    walk_at "rdg"
    refine r_new (by show 0 ≤ 1000; decide) fun l0 hl0 => ?_
    have s0 := Same.new (o := .lst []) hl0
    obtain nl0 := deck_ne dk hl0
    have st0 : StepsAt T.C_Number (upd H l0 (.lst [])) l0 0 := ⟨[], upd_same, Nat.le_refl _, AllB.nil⟩
    have dk0 := dk.same s0
    have o0 : Off d c H (upd H l0 (.lst [])) := Off.of s0
    generalize upd H l0 (.lst []) = H0 at *
    walk_at "rdg"
    refine r_rng1 ?_
    walk_at "rdg"
    refine ⟨12, rfl, by decide, by decide, for_range (lo := 0) (n := 12) (fun i σ H' => ∃ (l : Addr) (v2 v3 v4 : Option V), σ = [some (.ref d), some (.ref l), v2, v3, v4] ∧ Off d c H H' ∧ DeckN H' d c (m + 2 * i) ∧ (l ≠ d ∧ l ≠ c) ∧ StepsAt T.C_Number H' l (7 * i)) ⟨l0, _, _, _, rfl, o0, dk0, nl0, st0⟩ ?_ ?_⟩
    · rintro i σ H1 hi ⟨l, v2, v3, v4, rfl, o1, dk1, nl, st1⟩
      walk_at "rdg"
      have hk : (0 : Int) + (i : Int) = ((i : Nat) : Int) := by omega
      rw [hk]
      refine ⟨"0", ((i : Nat) : Int), rfl, rfl, by omega, by omega, by decide, ?_⟩
      walk_at "rdg"
      obtain ⟨t1, t2⟩ := ten_text i (by omega)
      refine ⟨"1", _, rfl, rfl, ?_, ?_⟩
      · rw [Int.toNat_natCast]
        have sl : sizeLine = 16777216 := rfl
        have e1 : ("1" ++ repT "0" i : Str).length = ("1" : Str).length + (repT "0" i).length := PySem.Str.length_append _ _
        omega
      walk_at "rdg"
      rw [Int.toNat_natCast]
      refine ⟨_, _, rfl, t1, t2, ?_⟩
      have tB : (0 : Int) < 10 ^ i ∧ (10 : Int) ^ i ≤ 10 ^ 11 := by
        have e : ((10 : Int) ^ i) = ((10 ^ i : Nat) : Int) := by rw [Int.natCast_pow]; rfl
        have := Nat.pow_le_pow_right (show 0 < 10 by decide) (show i ≤ 11 by omega)
        have p := Nat.pow_pos (n := i) (show 0 < 10 by decide)
        rw [e]
        omega
      clear t1 t2
      generalize (10 : Int) ^ i = tn at *
      walk_at "rdg"
      refine rd_draw dk1 (by decide) (by decide) (by omega) fun r H2 o2 dk2 r0 r1 => ?_
      have st2 := st1.off o2 dk1 nl
      have o02 := o1.trans o2
      walk_at "rdg"
      refine r_I (wide_mul (a := 60) (b := 60) (by omega) (by omega) (by decide) (by decide) (by decide)) ?_
      have mB : 0 < tn * (1 + r) ∧ tn * (1 + r) ≤ 10 ^ 11 * 9 := by
        refine ⟨Int.mul_pos (by omega) (by omega), ?_⟩
        exact Int.mul_le_mul tB.2 (by omega) (by omega) (by decide)
      generalize tn * (1 + r) = mr at *
      walk_at "rdg"
      refine mk_numB mB.1 (by omega) (by omega) fun p1 A1 a1 n1 => ?_
      have w1 := AllB.nil.snoc a1 n1
      walk_at "rdg"
      refine mk_numB tB.1 (by omega) (by omega) fun p2 A2 a2 n2 => ?_
      have w2 := w1.snoc a2 n2
      walk_at "rdg"
      refine mk_numB1 (by omega) fun p3 A3 a3 n3 => ?_
      have w3 := w2.snoc a3 n3
      walk_at "rdg"
      refine mk_numB (by omega) (by omega) (by omega) fun p4 A4 a4 n4 => ?_
      have w4 := w3.snoc a4 n4
      walk_at "rdg"
      refine mk_numB (by omega) (by omega) (by omega) fun p5 A5 a5 n5 => ?_
      have w5 := w4.snoc a5 n5
      have sA := (((a1.trans a2).trans a3).trans a4).trans a5
      walk_at "rdg"
      refine r_new (by show 5 ≤ 1000; decide) fun la hla => ?_
      refine steps_cat (st2.same sA) hla w5 (by show 5 ≤ 5; decide) (by omega) fun lb HB sB nlb stB => ?_
      have sAB := sA.trans sB
      have dkB := dk2.same sAB
      have o0B := o02.trans (Off.of sAB)
      have nb := deck_ne (dk2.same sA) nlb
      walk_at "rdg"
      refine mk_numB (by omega) (by omega) (by omega) fun q1 B1 b1 m1 => ?_
      have u1 := AllB.nil.snoc b1 m1
      walk_at "rdg"
      refine rd_draw (dkB.same b1) (by decide) (by decide) (by omega) fun r2 H3 o3 dk3 r20 r21 => ?_
      have u1' := u1.off o3 (dkB.same b1)
      have stC := (stB.same b1).off o3 (dkB.same b1) nb
      walk_at "rdg"
      refine mk_numB (by omega) (by omega) (by omega) fun q2 B2 b2 m2 => ?_
      have u2 := u1'.snoc b2 m2
      walk_at "rdg"
      refine r_new (by show 2 ≤ 1000; decide) fun lc hlc => ?_
      refine steps_cat (stC.same b2) hlc u2 (by show 2 ≤ 2; decide) (by omega) fun ld HD sD nld stD => ?_
      have o0D := ((o0B.trans (Off.of b1)).trans o3).trans (Off.of (b2.trans sD))
      have dkD := dk3.same (b2.trans sD)
      walk_at "rdg"
      refine ⟨ld, _, _, _, rfl, o0D, dkD.le (by omega), deck_ne (dk3.same b2) nld, ?_⟩
      obtain ⟨xs, g1, g2, g3⟩ := stD
      exact ⟨xs, g1, by omega, g3⟩
    · rintro σ H1 ⟨l, v2, v3, v4, rfl, o1, dk1, nl, st1⟩
      have e10 : (10 : Int) ^ (12 : Int).toNat = 1000000000000 := rfl
      have e2 : (2 : Int) ^ (39 : Int).toNat = 549755813888 := rfl
      have e3 : (3 : Int) ^ (25 : Int).toNat = 847288609443 := rfl
      have e5 : (5 : Int) ^ (12 : Int).toNat = 244140625 := rfl
      have e53 : (5 : Int) ^ (13 : Int).toNat = 1220703125 := rfl
      have e213 : (2 : Int) ^ (13 : Int).toNat = 8192 := rfl
      have e59 : (5 : Int) ^ (9 : Int).toNat = 1953125 := rfl
      walk_at "rdg"
      refine mk_numB1 (by decide) fun p1 A1 a1 n1 => ?_
      have w1 := AllB.nil.snoc a1 n1
      walk_at "rdg"
      refine mk_numB1 (by decide) fun p2 A2 a2 n2 => ?_
      have w2 := w1.snoc a2 n2
      walk_at "rdg"
      refine mk_numB (by decide) (by decide) (by decide) fun p3 A3 a3 n3 => ?_
      have w3 := w2.snoc a3 n3
      walk_at "rdg"
      refine mk_numB (by decide) (by decide) (by decide) fun p4 A4 a4 n4 => ?_
      have w4 := w3.snoc a4 n4
      walk_at "rdg"
      refine mk_numB (by decide) (by decide) (by decide) fun p5 A5 a5 n5 => ?_
      have w5 := w4.snoc a5 n5
      walk_at "rdg"
      refine mk_numB (by decide) (by decide) (by decide) fun p6 A6 a6 n6 => ?_
      have w6 := w5.snoc a6 n6
      have sA := ((((a1.trans a2).trans a3).trans a4).trans a5).trans a6
      walk_at "rdg"
      refine r_new (by show 6 ≤ 1000; decide) fun la hla => ?_
      refine steps_cat (st1.same sA) hla w6 (by show 6 ≤ 6; decide) (by omega) fun lb HB sB nlb stB => ?_
      have sAB := sA.trans sB
      walk_at "rdg"
      refine mk_numB (by rw [e10]; decide) (by rw [e10]; decide) (by decide) fun p1 B1 b1 n1 => ?_
      have w1 := AllB.nil.snoc b1 n1
      walk_at "rdg"
      refine mk_numB1 (by rw [e10]; decide) fun p2 B2 b2 n2 => ?_
      have w2 := w1.snoc b2 n2
      walk_at "rdg"
      refine mk_numB (by rw [e10]; decide) (by rw [e10]; decide) (by decide) fun p3 B3 b3 n3 => ?_
      have w3 := w2.snoc b3 n3
      walk_at "rdg"
      refine mk_numB (by rw [e2]; decide) (by rw [e2]; decide) (by decide) fun p4 B4 b4 n4 => ?_
      have w4 := w3.snoc b4 n4
      walk_at "rdg"
      refine mk_numB (by rw [e3]; decide) (by rw [e3]; decide) (by decide) fun p5 B5 b5 n5 => ?_
      have w5 := w4.snoc b5 n5
      have sB2 := (((b1.trans b2).trans b3).trans b4).trans b5
      walk_at "rdg"
      refine r_new (by show 5 ≤ 1000; decide) fun lc hlc => ?_
      refine steps_cat (stB.same sB2) hlc w5 (by show 5 ≤ 5; decide) (by omega) fun ld HD sD nld stD => ?_
      have sAD := (sAB.trans sB2).trans sD
      walk_at "rdg"
      refine mk_numB (by rw [e5]; decide) (by rw [e5]; decide) (by decide) fun p1 C1 c1 n1 => ?_
      have w1 := AllB.nil.snoc c1 n1
      walk_at "rdg"
      refine mk_numB (by rw [e53]; decide) (by rw [e53]; decide) (by decide) fun p2 C2 c2 n2 => ?_
      have w2 := w1.snoc c2 n2
      walk_at "rdg"
      refine r_I (wide_mul (a := 60) (b := 60) (by rw [e213]; decide) (by rw [e59]; decide) (by decide) (by decide) (by decide)) ?_
      walk_at "rdg"
      refine mk_numB (by rw [e213, e59]; decide) (by rw [e213, e59]; decide) (by decide) fun p3 C3 c3 n3 => ?_
      have w3 := w2.snoc c3 n3
      have sC := (c1.trans c2).trans c3
      walk_at "rdg"
      refine r_new (by show 3 ≤ 1000; decide) fun le hle => ?_
      refine steps_cat (stD.same sC) hle w3 (by show 3 ≤ 3; decide) (by omega) fun lf HF sF nlf stF => ?_
      have sAF := (sAD.trans sC).trans sF
      exact k lf HF (o1.trans (Off.of sAF)) (dk1.same sAF) (deck_ne (dk1.same (sAD.trans sC)) nlf) (none_off (o1.trans (Off.of (sAD.trans sC))) (deck_ne (dk1.same (sAD.trans sC)) nlf) nlf) stF
end
end My

namespace My
open PySem PySem.Spec PyProof.Rows L2
/-- o.m(k = v, ..) -/
def tMethK (C : Addr) (m : Str) (n : Nat) (sp : Sp) (gV : List V → List V → List V) (E : XK) (ta : TE) (tk : TA) : TE := fun σ H Q => ta σ H fun x H1 => ∃ a dx fs, x = .ref a ∧ H1 a = some (.ins C dx fs) ∧ fs.lookup m = none ∧ tk σ H1 fun zs H2 => zs.length = n ∧ sp (gV [.ref a] zs) H2 Q E
section
variable {X : Cx} {CX : CXT} {k : Nat} {f C : Addr} {fd : FuncData} {ps ks : List Str} {sp : Sp} {E : XK} {m : Str} {pos apos : Pos} {o : Expr} {kws : List Keyword} {ta : TE} {tk : TA} {g : List Value → List Value → List Value} {gV : List V → List V → List V}
theorem pe_methK {pl : Sem Bool} (he : PE X o ta) (c : Cls X.K C) (hm : Meth X.K C m f) (F : FnOk X.prog X.w X.K X.mg X.base CX k f fd ps sp) (hr : Room k X.A) (hb : KBn X.K fd ps 1 ks g gV) (hx : Passes CX X E) (hkw : PK X kws tk)
    (hall : (backToKw pos (keywordEach kws X.env)).all (·.1.isSome) = true := by rfl) (hks : (backToKw pos (keywordEach kws X.env)).filterMap (·.1) = ks := by rfl)
    (hpl : ((backTo pos (starEach [] X.env)).any (·.1) || (backToKw pos (keywordEach kws X.env)).any (·.1.isNone)) = false := by rfl)
    (ht : eval (.Call (.Attribute o m apos) [] kws pos) X.env = (do
      let ov ← eval o X.env
      standAt apos.atName
      let (f, first) ← holding [ov] (getMethod ov m pl)
      callWith pos f first (backTo pos (starEach [] X.env)) (backToKw pos (keywordEach kws X.env))) := by rfl) :
    PE X (.Call (.Attribute o m apos) [] kws pos) (tMethK C m ks.length sp gV E ta tk) := by
  refine ⟨fun pins s σ H Q I h => ?_⟩
  refine PySem.W.methodCall_KW (pl := pl) (thn (he.run pins s σ H _ I h) fun u s1 ⟨x, H1, I1, rx, a, dx, fs, ex, ea, l, q⟩ => ?_) ht
  subst ex
  obtain rfl : u = Value.ref a := rx
  refine getmeth_ok I1 ea c hm l ?_
  refine PySem.W.callWith_KW0 (first := [.ref a]) (h₀ := X.base) I.ok.mod.kin hm.kp hall ?_ hpl
  refine thn (hkw.run pos pins s1 σ H1 _ I1 q) fun ws s2 ⟨zs, H2, I2, rz, l2, q2⟩ => ⟨I2.kIn, ?_⟩
  rw [hks]
  exact run_fnN (us := [.ref a]) (vs := [.ref a]) F hr hb hx I2 (.cons rfl .nil) rz rfl l2 q2
end
end My
namespace My
open PySem L2 TL
theorem r_methK {C : Addr} {m : Str} {n : Nat} {sp : Sp} {gV : List V → List V → List V} {E : XK} {ta : TE} {tk : TA} {σ : L2.St} {H : Hp} {Q : VK} (q : ta σ H fun x H1 => ∃ a dx fs, x = .ref a ∧ H1 a = some (.ins C dx fs) ∧ fs.lookup m = none ∧ tk σ H1 fun zs H2 => zs.length = n ∧ sp (gV [.ref a] zs) H2 Q E) : tMethK C m n sp gV E ta tk σ H Q := q
section
variable {P : Program} {w : World} {K : PySem.W.Frag} {mg : Str → Option Value} {base : Heap}
def spBut (K : PySem.W.Frag) (C N : Addr) : Sp := fun vs H Q _ => ∃ (p : Addr) (f : Wf), vs = [.ref p, .non, .non, .non, .non, .non, .non, .bl f.sc, .non] ∧ WishAt K C N H p f ∧ ShortU f ∧ firstW f = none ∧ ∀ (x : Addr) (H' : Hp), Same H H' → WishAt K C N H' x f → Q (.ref x) H'
theorem ok_Wish_but (T : Txt w K mg) : FnOk P w K mg base CX0 7 T.f_Wish_but T.fd_Wish_but ["self", "places", "figures", "step", "way", "signs", "grouped", "scaled", "unit"] (spBut K T.C_Wish T.C_Number) := by
  refine T.F_Wish_but.ok sc_Wish_but (fun vs H Q E h => ?_) (fun cdv A outer s H vs Q E hr h => ?_)
  · obtain ⟨p, f, rfl, _⟩ := h
    rfl
  · obtain ⟨p, f, rfl, hw, su, fw, k⟩ := h
    refine ⟨_, (pss_cons (ps_set (i := 9) sc_Wish_but.nd rfl (Or.inl rfl) (pe_ifExp (pt_cmpR op_isN (pv 3) pe_non (nomark _)) (pe_fld (pv 0) rfl) pe_non))
 (pss_cons (ps_set (i := 10) sc_Wish_but.nd rfl (Or.inl rfl) (pe_ifExp (pt_cmpR op_isN (pv 2) pe_non (nomark _)) (pe_fld (pv 0) rfl) pe_non))
 (pss_one (ps_ret (pe_makeK0 T.mk_Wish (ok_Wish_init T) (hr.mono (by decide)) (by rfl) T.m_Wish T.kb_Wish_init_ord pass0N (pk_cons (pe_call (ok_told_or T) (hr.mono (by decide)) (by rfl) T.m_told_or T.F_told_or.kp T.b_told_or .nil pass0 (pa_cons (pv 1) (pa_cons (pe_fld (pv 0) rfl) pa_nil))) (pk_cons (pe_call (ok_told_or T) (hr.mono (by decide)) (by rfl) T.m_told_or T.F_told_or.kp T.b_told_or .nil pass0 (pa_cons (pv 2) (pa_cons (pv 9) pa_nil))) (pk_cons (pe_call (ok_told_or T) (hr.mono (by decide)) (by rfl) T.m_told_or T.F_told_or.kp T.b_told_or .nil pass0 (pa_cons (pv 3) (pa_cons (pv 10) pa_nil))) (pk_cons (pe_call (ok_told_or T) (hr.mono (by decide)) (by rfl) T.m_told_or T.F_told_or.kp T.b_told_or .nil pass0 (pa_cons (pv 4) (pa_cons (pe_fld (pv 0) rfl) pa_nil))) (pk_cons (pe_call (ok_told_or T) (hr.mono (by decide)) (by rfl) T.m_told_or T.F_told_or.kp T.b_told_or .nil pass0 (pa_cons (pv 5) (pa_cons (pe_fld (pv 0) rfl) pa_nil))) (pk_cons (pe_call (ok_told_or T) (hr.mono (by decide)) (by rfl) T.m_told_or T.F_told_or.kp T.b_told_or .nil pass0 (pa_cons (pv 6) (pa_cons (pe_fld (pv 0) rfl) pa_nil))) (pk_cons (pe_call (ok_told_or T) (hr.mono (by decide)) (by rfl) T.m_told_or T.F_told_or.kp T.b_told_or .nil pass0 (pa_cons (pv 7) (pa_cons (pe_fld (pv 0) rfl) pa_nil))) (pk_cons (pe_call (ok_told_or T) (hr.mono (by decide)) (by rfl) T.m_told_or T.F_told_or.kp T.b_told_or .nil pass0 (pa_cons (pv 8) (pa_cons (pe_fld (pv 0) rfl) pa_nil))) pk_nil))))))))))))), ?_⟩
    obtain ⟨dx, pl, un, sv, hp, hpl, hst, hun⟩ := hw.ex
    walk_at "rdh"
    refine ⟨rfl, ?_⟩
    walk_at "rdh"
    refine r_iteT rfl ?_
    walk_at "rdh"
    refine ⟨p, T.C_Wish, dx, _, _, rfl, hp, T.c_Wish, T.n_Wish_figures, wl_figures .., ?_⟩
    walk_at "rdh"
    refine ⟨rfl, ?_⟩
    walk_at "rdh"
    refine r_iteT rfl ?_
    walk_at "rdh"
    refine ⟨p, T.C_Wish, dx, _, _, rfl, hp, T.c_Wish, T.n_Wish_step, wl_step .., ?_⟩
    walk_at "rdh"
    refine r_makeK ?_
    walk_at "rdh"
    refine ⟨p, T.C_Wish, dx, _, _, rfl, hp, T.c_Wish, T.n_Wish_places, wl_places .., ?_⟩
    walk_at "rdh"
    refine ⟨_, _, rfl, fun _ => ?_, fun h => absurd rfl h⟩
    walk_at "rdh"
    refine ⟨_, _, rfl, fun _ => ?_, fun h => absurd rfl h⟩
    walk_at "rdh"
    refine ⟨_, _, rfl, fun _ => ?_, fun h => absurd rfl h⟩
    walk_at "rdh"
    refine ⟨p, T.C_Wish, dx, _, _, rfl, hp, T.c_Wish, T.n_Wish_way, wl_way .., ?_⟩
    walk_at "rdh"
    refine ⟨_, _, rfl, fun _ => ?_, fun h => absurd rfl h⟩
    walk_at "rdh"
    refine ⟨p, T.C_Wish, dx, _, _, rfl, hp, T.c_Wish, T.n_Wish_signs, wl_signs .., ?_⟩
    walk_at "rdh"
    refine ⟨_, _, rfl, fun _ => ?_, fun h => absurd rfl h⟩
    walk_at "rdh"
    refine ⟨p, T.C_Wish, dx, _, _, rfl, hp, T.c_Wish, T.n_Wish_grouped, wl_grouped .., ?_⟩
    walk_at "rdh"
    refine ⟨_, _, rfl, fun _ => ?_, fun h => absurd rfl h⟩
    walk_at "rdh"
    refine ⟨p, T.C_Wish, dx, _, _, rfl, hp, T.c_Wish, T.n_Wish_scaled, wl_scaled .., ?_⟩
    walk_at "rdh"
    refine ⟨_, _, rfl, (fun h => by cases h), fun _ => ?_⟩
    walk_at "rdh"
    refine ⟨p, T.C_Wish, dx, _, _, rfl, hp, T.c_Wish, T.n_Wish_unit, wl_unit .., ?_⟩
    walk_at "rdh"
    refine ⟨_, _, rfl, fun _ => ?_, fun h => absurd rfl h⟩
    walk_at "rdh"
    refine ⟨rfl, rfl, ?_⟩
    exact mk_wish (f := f) (vs := [.ref pl, intO f.fig, sv, .str f.way, .str f.sg, .bl f.gr, .bl f.sc, .ref un]) ⟨pl, un, sv, rfl, hpl, hst, hun⟩ su (fun _ x H' s' wx => k x H' s' wx) (fun z e => by rw [fw] at e; cases e)
end
end My

namespace My
open PySem L2 TL
/-- what is no list stays -/
def NL (H H' : Hp) : Prop := ∀ b o, (∀ xs, o ≠ .lst xs) → H b = some o → H' b = some o
theorem NL.of {H H' : Hp} (s : Same H H') : NL H H' := fun b o _ h => s b o h
theorem NL.trans {H H1 H2 : Hp} (a : NL H H1) (b : NL H1 H2) : NL H H2 := fun x o n h => b x o n (a x o n h)
theorem NL.off {H H' : Hp} {d c : Addr} {k : Nat} (s : Off d c H H') (dk : DeckN H d c k) : NL H H' := fun b o n h => off_keep s dk h n
theorem NL.put {H : Hp} {l : Addr} {xs : List V} {o : HO} (h : H l = some (.lst xs)) : NL H (upd H l o) := fun b u n hb => by
  rw [upd_ne (ne_of hb h (n _))]
  exact hb
theorem NumAt.nl {C p : Addr} {x : Rat} {H H' : Hp} (s : NL H H') (h : NumAt C H p x) : NumAt C H' p x := let ⟨dx, e⟩ := h; ⟨dx, s _ _ (fun _ z => by cases z) e⟩
theorem StpAt.nl {C : Addr} {v : V} {o : Option Rat} {H H' : Hp} (s : NL H H') (h : StpAt C H v o) : StpAt C H' v o := by
  cases h with
  | none => exact .none
  | some h => exact .some (h.nl s)
theorem SqT.nl {K : PySem.W.Frag} {p : Addr} {xs : List V} {H H' : Hp} (s : NL H H') (h : SqT K H p xs) : SqT K H' p xs := by
  rcases h with h | h
  · refine .inl ?_
    rcases h with h | ⟨o, h⟩
    · exact .inl (s _ _ (fun _ z => by cases z) h)
    · exact .inr ⟨o, s _ _ (fun _ z => by cases z) h⟩
  · exact .inr h
theorem WishAt.nl {K : PySem.W.Frag} {C N p : Addr} {f : Wf} {H H' : Hp} (s : NL H H') (h : WishAt K C N H p f) : WishAt K C N H' p f := by
  obtain ⟨dx, pl, un, sv, e, h1, h2, h3⟩ := h.ex
  exact ⟨dx, pl, un, sv, s _ _ (fun _ z => by cases z) e, SqT.nl s h1, h2.nl s, SqT.nl s h3⟩
theorem FAt.nl {K : PySem.W.Frag} {N p : Addr} {f : Wf} {H H' : Hp} (s : NL H H') (h : FAt K N H p f) : FAt K N H' p f := by
  obtain ⟨pl, un, sv, e, h1, h2, h3⟩ := h.ex
  exact ⟨pl, un, sv, s _ _ (fun _ z => by cases z) e, SqT.nl s h1, h2.nl s, SqT.nl s h3⟩
theorem PutF.nl {K : PySem.W.Frag} {N : Addr} {H H' : Hp} {f f' : Wf} {n : Str} {v : V} (s : NL H H') (h : PutF K N H f n v f') : PutF K N H' f n v f' := by
  cases h with
  | places h => exact .places (SqT.nl s h)
  | figures o => exact .figures o
  | step h => exact .step (h.nl s)
  | way z => exact .way z
  | signs z => exact .signs z
  | grouped b => exact .grouped b
  | scaled b => exact .scaled b
  | unit h => exact .unit (SqT.nl s h)
theorem r_neSame {z : Str} {H : Hp} {Q : VK} (q : Q (.bl false) H) : rNe (.str z) (.str z) H Q := by
  refine r_ne rfl ?_
  rw [decide_eq_true rfl]
  exact q
/-- a comprehension that keeps nothing -/
theorem lcL_none {K : PySem.W.Frag} {H : Hp} {a D : Addr} {xs : List V} (hl : SqL K H a xs) (hD : H D = none) {g : TG} {tt : TT} {te : TE} {σ : L2.St} {Q : Hp → Prop} {vz : List Nat}
    (hz : ∀ (x : V) (H1 : Hp), x ∈ xs → Same H H1 → ∀ (A : L2.St → Hp → Prop) (Nx : Hp → Prop), (∀ H2, Same H1 H2 → Nx H2) → g x (wipe σ vz) H1 fun σ2 H2 => wipe σ2 vz = wipe σ vz ∧ tt σ2 H2 fun b H3 => if b = true then A σ2 H3 else Nx H3)
    (q : ∀ H' : Hp, Same H H' → H' D = some (.lst []) → Q H') :
    ∃ W : Nat → Nat → Hp → Prop, (∃ m, W 0 m (upd H D (.lst []))) ∧ ∀ i m H, W i m H →
      ((Itl K a).stop i H ∧ Q H) ∨ ((Itl K a).go i H ∧ ∃ Nx : Hp → Prop, (∀ H', Nx H' → ∃ m', m' < m ∧ W (i + 1) m' H') ∧ ∀ x H', (Itl K a).yld i H x H' → g x (wipe σ vz) H' fun σ2 H2 => wipe σ2 vz = wipe σ vz ∧ tt σ2 H2 fun b H3 =>
        if b = true then te σ2 H3 fun y H4 => ∃ acc, H4 D = some (.lst acc) ∧ acc.length < sizeLine ∧ Nx (upd H4 D (.lst (acc ++ [y]))) else Nx H3) := by
  refine lc_list (K := K) (a := a) (xs := xs) (fun j H' => Same H H' ∧ H' D = some (.lst [])) ⟨Same.new hD, upd_same⟩ (fun j H' _ ⟨s, _⟩ => SqL.ext hl s) ?_ ?_
  · rintro j x H1 hx ⟨s1, hD1⟩
    exact hz x H1 (List.mem_of_getElem? hx) s1 _ _ fun H2 s2 => ⟨s1.trans s2, s2 _ _ hD1⟩
  · rintro H1 ⟨s1, hD1⟩
    exact q H1 s1 hD1
theorem rd_sh {K : PySem.W.Frag} {H : Hp} {v : V} {d : PyData} {Q : VK} (h : Dp K H v d) (sh : shB d = true) (sz : szD d ≤ 20) (dp : d.depth ≤ 60) (q : Q (.str d.shown) H) : rReprA K [v] H Q := by
  obtain ⟨a, b, e, g⟩ := sh_ok _ sh
  refine ⟨v, d, rfl, h, a, b, dp, ?_, q⟩
  have := PyData.shown_le 501 (by decide) d e
  have e : sizeLine = 16777216 := rfl
  omega
theorem sm_plain : Sm plainF := ⟨by decide, by decide, (fun n e => by cases e), (fun x e => by cases e), by decide +kernel, by decide +kernel, by decide +kernel, by decide +kernel, ⟨by decide, by decide⟩⟩
def AloneAt (K : PySem.W.Frag) (C N : Addr) (H : Hp) (v : V) : Prop := ∃ (q x : Addr) (n : Str) (t : V) (f : Wf), v = .ref q ∧ H q = some (.tup [.ref x, .str n, t]) ∧ WishAt K C N H x f ∧ PutF K N H plainF n t f ∧ OkF f
theorem AloneAt.nl {K : PySem.W.Frag} {C N : Addr} {H H' : Hp} {v : V} (s : NL H H') (h : AloneAt K C N H v) : AloneAt K C N H' v := by
  obtain ⟨q, x, n, t, f, e, h1, h2, h3, h4⟩ := h
  exact ⟨q, x, n, t, f, e, s _ _ (fun _ z => by cases z) h1, h2.nl s, h3.nl s, h4⟩
structure LSt (K : PySem.W.Frag) (C N : Addr) (H0 : Hp) (p l : Addr) (xs : List V) (H : Hp) : Prop where
  sm : Same H0 H
  nw : H0 l = none
  hl : H l = some (.lst xs)
  fa : FAt K N H p plainF
  al : ∀ v ∈ xs, AloneAt K C N H v
  le : xs.length ≤ 100
theorem LSt.same {K : PySem.W.Frag} {C N : Addr} {H0 : Hp} {p l : Addr} {xs : List V} {H H' : Hp} (h : LSt K C N H0 p l xs H) (s : Same H H') : LSt K C N H0 p l xs H' :=
  ⟨h.sm.trans s, h.nw, s _ _ h.hl, h.fa.same s, fun v hv => (h.al v hv).nl (NL.of s), h.le⟩
theorem LSt.cat {K : PySem.W.Frag} {C N : Addr} {H0 : Hp} {p l b : Addr} {xs zs : List V} {H : Hp} {Q : VK} (h : LSt K C N H0 p l xs H) (hb : H b = none) (hz : ∀ v ∈ zs, AloneAt K C N H v) (lz : zs.length ≤ 5) (lx : xs.length ≤ 50)
    (q : ∀ l' H', LSt K C N H0 p l' (xs ++ zs) H' → Q (.ref l') H') : rCat (.ref l) (.ref b) (upd H b (.lst zs)) Q := by
  have s1 := Same.new (o := .lst zs) hb
  refine r_cat (s1 _ _ h.hl) upd_same (by omega) fun r hr => ?_
  have s2 := s1.trans (Same.new (o := .lst (xs ++ zs)) hr)
  refine q r _ ⟨h.sm.trans s2, none_ofS (h.sm.trans s1) hr, upd_same, h.fa.same s2, fun v hv => ?_, by rw [List.length_append]; omega⟩
  rcases List.mem_append.mp hv with g | g
  · exact (h.al v g).nl (NL.of s2)
  · exact (hz v g).nl (NL.of s2)
theorem LSt.app {K : PySem.W.Frag} {C N : Addr} {H0 : Hp} {p l : Addr} {xs : List V} {y : V} {H : Hp} {Q : VK} (h : LSt K C N H0 p l xs H) (hy : AloneAt K C N H y) (lx : xs.length ≤ 50) (q : ∀ H', LSt K C N H0 p l (xs ++ [y]) H' → Q .non H') : rAppend (.ref l) [y] H Q := by
  refine r_append h.hl (by omega) ?_
  have n1 : NL H (upd H l (.lst (xs ++ [y]))) := NL.put h.hl
  refine q _ ⟨fun b o hb => ?_, h.nw, upd_same, h.fa.nl n1, fun v hv => ?_, by rw [List.length_append, List.length_singleton]; omega⟩
  · rw [upd_ne (ne_of_none hb h.nw)]
    exact h.sm _ _ hb
  rcases List.mem_append.mp hv with g | g
  · exact (h.al v g).nl n1
  · rw [List.mem_singleton.mp g]; exact hy.nl n1
section
variable {P : Program} {w : World} {K : PySem.W.Frag} {mg : Str → Option Value} {base : Heap}
def f1 : Wf := { plainF with pa := 1, pb := 5 }
def f2 : Wf := { plainF with fig := some 3 }
def f3 : Wf := { plainF with stp := some ((5 : Int) : Rat) }
def f4 : Wf := { plainF with way := "up" }
def f5 : Wf := { plainF with sg := "all" }
def f6 : Wf := { plainF with gr := false }
def f7 : Wf := { plainF with sc := true }
def f8 : Wf := { plainF with u0 := "a", u1 := "b" }
theorem fw0 : firstW plainF = none := by decide +kernel
theorem fw1 : firstW f1 = none := by decide +kernel
theorem fw2 : firstW f2 = none := by decide +kernel
theorem fw3 : firstW f3 = none := by decide +kernel
theorem fw4 : firstW f4 = none := by decide +kernel
theorem fw5 : firstW f5 = none := by decide +kernel
theorem fw6 : firstW f6 = none := by decide +kernel
theorem fw7 : firstW f7 = none := by decide +kernel
theorem fw8 : firstW f8 = none := by decide +kernel
theorem ok1 : OkF f1 := by unfold OkF; decide +kernel
theorem ok2 : OkF f2 := by unfold OkF; decide +kernel
theorem ok3 : OkF f3 := by unfold OkF; decide +kernel
theorem ok4 : OkF f4 := by unfold OkF; decide +kernel
theorem ok5 : OkF f5 := by unfold OkF; decide +kernel
theorem ok6 : OkF f6 := by unfold OkF; decide +kernel
theorem ok7 : OkF f7 := by unfold OkF; decide +kernel
theorem ok8 : OkF f8 := by unfold OkF; decide +kernel
theorem mk_w {C N NW : Addr} {H : Hp} {vs : List V} {f : Wf} {R : Addr → Hp → Prop} {E : XK} (h : VsAt K N H vs f) (fw : firstW f = none) (su : ShortU f) (kg : ∀ (x : Addr) (H' : Hp), Same H H' → WishAt K C N H' x f → R x H') :
    ∀ x dx, H x = none → H dx = none → dx ≠ x → spWishInit K C N NW (.ref x :: vs) (upd (upd H dx (.own x)) x (.ins C dx [])) (fun v H2 => v = .non ∧ R x H2) E :=
  mk_wish h su (fun _ => kg) (fun z e => by rw [fw] at e; cases e)
/-- a wish and what it was made of, in a tuple -/
theorem alone_of {C N q x : Addr} {n : Str} {t : V} {f : Wf} {H H' : Hp} (s : Same H H') (hq : H' q = some (.tup [.ref x, .str n, t])) (hw : WishAt K C N H x f) (hp : PutF K N H plainF n t f) (ok : OkF f) : AloneAt K C N H' (.ref q) := ⟨q, x, n, t, f, rfl, hq, hw.same s, hp.same s, ok⟩
def spLeft (K : PySem.W.Frag) : Sp := fun vs H Q _ => ∃ a : V, vs = [a] ∧ ∀ H', Same H H' → Q (.bl true) H'
theorem okG_l_left_out (T : Txt w K mg) : FnG P w K mg base 8 T.f_l_left_out T.fd_l_left_out ["_law_deck_here"] (spLeft K) := by
  refine FnG.by_body T.F_l_left_out sc_l_left_out (fun vs H Q E h => ?_) (fun cdv A outer s H vs Q E hG hr h => ?_)
  · obtain ⟨a, rfl, _⟩ := h
    rfl
  · obtain ⟨a, rfl, k⟩ := h
    refine ⟨_, (pss_cons (ps_set (i := 1) sc_l_left_out.nd rfl (Or.inr rfl) (pe_call0 (ok_l_plain T) (hr.mono (by decide)) (by rfl) T.m_l_plain T.F_l_plain.kp T.b_l_plain .nil pass0))
 (pss_cons (ps_set (i := 2) sc_l_left_out.nd rfl (Or.inl rfl) (pe_lst (pa_cons (pe_callG hG (okG_l_told T) (hr.mono (by decide)) (by rfl) T.m_l_told T.F_l_told.kp T.b_l_told .nil pass0 (pa_cons (pe_make0 T.mk_Wish (ok_Wish_init T) (hr.mono (by decide)) (by rfl) T.m_Wish T.b_Wish_init_none T.d_Wish_init_none pass0N) pa_nil)) (pa_cons (pe_callG hG (okG_l_told T) (hr.mono (by decide)) (by rfl) T.m_l_told T.F_l_told.kp T.b_l_told .nil pass0 (pa_cons (pe_makeK0 T.mk_Wish (ok_Wish_init T) (hr.mono (by decide)) (by rfl) T.m_Wish T.kb_Wish_init_four pass0N (pk_cons (pe_glob (v := .ref T.A_UNIT) (by rfl) T.m_UNIT rfl) (pk_cons (pe_glob (by rfl) T.m_WAY T.r_WAY) (pk_cons (pe_glob (by rfl) T.m_SIGNS T.r_SIGNS) (pk_cons (pe_glob (v := .ref T.A_PLACES) (by rfl) T.m_PLACES rfl) pk_nil))))) pa_nil)) pa_nil))))
 (pss_cons (ps_set (i := 2) sc_l_left_out.nd rfl (Or.inl rfl) (pe_op op_cat (pv 2) (pe_lst (pa_cons (pe_callG hG (okG_l_told T) (hr.mono (by decide)) (by rfl) T.m_l_told T.F_l_told.kp T.b_l_told .nil pass0 (pa_cons (pe_makeK0 T.mk_Wish (ok_Wish_init T) (hr.mono (by decide)) (by rfl) T.m_Wish T.kb_Wish_init_two pass0N (pk_cons pe_bl (pk_cons pe_non pk_nil))) pa_nil)) (pa_cons (pe_callG hG (okG_l_told T) (hr.mono (by decide)) (by rfl) T.m_l_told T.F_l_told.kp T.b_l_told .nil pass0 (pa_cons (pe_methK (pe_make0 T.mk_Wish (ok_Wish_init T) (hr.mono (by decide)) (by rfl) T.m_Wish T.b_Wish_init_none T.d_Wish_init_none pass0N) T.c_Wish T.me_Wish_but (ok_Wish_but T) (hr.mono (by decide)) T.kb_Wish_but_sf pass0 (pk_cons pe_bl (pk_cons pe_non pk_nil))) pa_nil)) pa_nil)))))
 (pss_cons (ps_if (pt_cmpR (op_neD hr.units) (pe_lc (own := [("_law_one", 4)]) (g := gName 4) rfl sc_l_left_out.nd (pi_list (pv 2)) (blkOk_by (own := [("_law_one", 4)]) (N := ["_law_deck_here", "_law_plain_here", "_law_told_here", "_law_alone", "_law_one", "_law_wish", "_law_name", "_law_thing"]) (sc := defScope s_l_left_out) (by decide +kernel)) (fun _ _ _ _ _ => pg_name (i := 4) sc_l_left_out.nd rfl (Or.inl rfl)) (fun _ _ _ _ _ => (pts_one (pt_cmpR op_ne (pv 4) (pe_callG hG (okG_l_due T) (hr.mono (by decide)) (by rfl) T.m_l_due T.F_l_due.kp T.b_l_due .nil pass0 (pa_cons (pv 1) pa_nil)) (nomark _)))) (fun _ _ _ _ _ => (pv 4))) (pe_lst pa_nil) (nomark _))
  (pss_one (ps_ret pe_bl))
  pss_nil)
 (pss_cons (ps_set (i := 3) sc_l_left_out.nd rfl (Or.inl rfl) (pe_lst (pa_cons (pe_tup (pa_cons (pe_makeK0 T.mk_Wish (ok_Wish_init T) (hr.mono (by decide)) (by rfl) T.m_Wish T.kb_Wish_init_one_places pass0N (pk_cons (pe_tup (pa_cons pe_int (pa_cons pe_int pa_nil))) pk_nil)) (pa_cons pe_str (pa_cons (pe_tup (pa_cons pe_int (pa_cons pe_int pa_nil))) pa_nil)))) (pa_cons (pe_tup (pa_cons (pe_makeK0 T.mk_Wish (ok_Wish_init T) (hr.mono (by decide)) (by rfl) T.m_Wish T.kb_Wish_init_one_figures pass0N (pk_cons pe_int pk_nil)) (pa_cons pe_str (pa_cons pe_int pa_nil)))) pa_nil))))
 (pss_cons (ps_set (i := 3) sc_l_left_out.nd rfl (Or.inl rfl) (pe_op op_cat (pv 3) (pe_lst (pa_cons (pe_tup (pa_cons (pe_makeK0 T.mk_Wish (ok_Wish_init T) (hr.mono (by decide)) (by rfl) T.m_Wish T.kb_Wish_init_one_step pass0N (pk_cons (pe_make T.mk_Number (ok_Number_init T) (hr.mono (by decide)) (by rfl) T.m_Number T.b_Number_init1 T.d_Number_init1 pass0 (pa_cons pe_int pa_nil)) pk_nil)) (pa_cons pe_str (pa_cons (pe_make T.mk_Number (ok_Number_init T) (hr.mono (by decide)) (by rfl) T.m_Number T.b_Number_init1 T.d_Number_init1 pass0 (pa_cons pe_int pa_nil)) pa_nil)))) (pa_cons (pe_tup (pa_cons (pe_makeK0 T.mk_Wish (ok_Wish_init T) (hr.mono (by decide)) (by rfl) T.m_Wish T.kb_Wish_init_one_way pass0N (pk_cons pe_str pk_nil)) (pa_cons pe_str (pa_cons pe_str pa_nil)))) pa_nil)))))
 (pss_cons (ps_expr (pe_bm PySem.F.plainAttrs_list PySem.F.slot_list_append PySem.F.type_list_append mt_append (pv 3) (pa_cons (pe_tup (pa_cons (pe_makeK0 T.mk_Wish (ok_Wish_init T) (hr.mono (by decide)) (by rfl) T.m_Wish T.kb_Wish_init_one_signs pass0N (pk_cons pe_str pk_nil)) (pa_cons pe_str (pa_cons pe_str pa_nil)))) pa_nil)))
 (pss_cons (ps_set (i := 3) sc_l_left_out.nd rfl (Or.inl rfl) (pe_op op_cat (pv 3) (pe_lst (pa_cons (pe_tup (pa_cons (pe_makeK0 T.mk_Wish (ok_Wish_init T) (hr.mono (by decide)) (by rfl) T.m_Wish T.kb_Wish_init_one_grouped pass0N (pk_cons pe_bl pk_nil)) (pa_cons pe_str (pa_cons pe_bl pa_nil)))) (pa_cons (pe_tup (pa_cons (pe_makeK0 T.mk_Wish (ok_Wish_init T) (hr.mono (by decide)) (by rfl) T.m_Wish T.kb_Wish_init_one_scaled pass0N (pk_cons pe_bl pk_nil)) (pa_cons pe_str (pa_cons pe_bl pa_nil)))) pa_nil)))))
 (pss_cons (ps_expr (pe_bm PySem.F.plainAttrs_list PySem.F.slot_list_append PySem.F.type_list_append mt_append (pv 3) (pa_cons (pe_tup (pa_cons (pe_makeK0 T.mk_Wish (ok_Wish_init T) (hr.mono (by decide)) (by rfl) T.m_Wish T.kb_Wish_init_one_unit pass0N (pk_cons (pe_tup (pa_cons pe_str (pa_cons pe_str pa_nil))) pk_nil)) (pa_cons pe_str (pa_cons (pe_tup (pa_cons pe_str (pa_cons pe_str pa_nil))) pa_nil)))) pa_nil)))
 (pss_cons (ps_if (pt_cmpR (op_neD hr.units) (pe_lc (own := [("_law_wish", 5), ("_law_name", 6), ("_law_thing", 7)]) (g := gTup K 3 (gCons (gName 5) (gCons (gName 6) (gCons (gName 7) gNil)))) rfl sc_l_left_out.nd (pi_list (pv 3)) (blkOk_by (own := [("_law_wish", 5), ("_law_name", 6), ("_law_thing", 7)]) (N := ["_law_deck_here", "_law_plain_here", "_law_told_here", "_law_alone", "_law_one", "_law_wish", "_law_name", "_law_thing"]) (sc := defScope s_l_left_out) (by decide +kernel)) (fun _ _ _ _ _ => pg_tup rfl (pgs_cons (pg_name (i := 5) sc_l_left_out.nd rfl (Or.inl rfl)) (pgs_cons (pg_name (i := 6) sc_l_left_out.nd rfl (Or.inl rfl)) (pgs_cons (pg_name (i := 7) sc_l_left_out.nd rfl (Or.inl rfl)) pgs_nil)))) (fun _ _ _ _ _ => (pts_one (pt_cmpR op_ne (pe_callG hG (okG_l_told T) (hr.mono (by decide)) (by rfl) T.m_l_told T.F_l_told.kp T.b_l_told .nil pass0 (pa_cons (pv 5) pa_nil)) (pe_callG hG (okG_l_due T) (hr.mono (by decide)) (by rfl) T.m_l_due T.F_l_due.kp T.b_l_due .nil pass0 (pa_cons (pe_call (ok_l_put T) (hr.mono (by decide)) (by rfl) T.m_l_put T.F_l_put.kp T.b_l_put .nil pass0 (pa_cons (pv 1) (pa_cons (pv 6) (pa_cons (pv 7) pa_nil)))) pa_nil)) (nomark _)))) (fun _ _ _ _ _ => pe_int)) (pe_lst pa_nil) (nomark _))
  (pss_one (ps_ret pe_bl))
  pss_nil)
 (pss_cons (ps_if (pt_cmpR op_ne (pe_callB (call_reprA hG hr.units) (by rfl) T.n_repr (by decide +kernel) (pa_cons (pe_tup (pa_cons (pe_glob (v := .ref T.A_PLACES) (by rfl) T.m_PLACES rfl) (pa_cons (pe_glob (by rfl) T.m_WAY T.r_WAY) (pa_cons (pe_glob (by rfl) T.m_SIGNS T.r_SIGNS) (pa_cons (pe_glob (v := .ref T.A_UNIT) (by rfl) T.m_UNIT rfl) pa_nil))))) pa_nil)) (pe_callB (call_reprA hG hr.units) (by rfl) T.n_repr (by decide +kernel) (pa_cons (pe_tup (pa_cons (pe_tup (pa_cons pe_int (pa_cons pe_int pa_nil))) (pa_cons pe_str (pa_cons pe_str (pa_cons (pe_tup (pa_cons pe_str (pa_cons pe_str pa_nil))) pa_nil))))) pa_nil)) (nomark _))
  (pss_one (ps_ret pe_bl))
  pss_nil)
 (pss_one (ps_ret (pe_cmpR op_eq (pe_callB (call_reprA hG hr.units) (by rfl) T.n_repr (by decide +kernel) (pa_cons (pe_glob (v := .ref T.A_WAYS) (by rfl) T.m_WAYS rfl) pa_nil)) (pe_callB (call_reprA hG hr.units) (by rfl) T.n_repr (by decide +kernel) (pa_cons (pe_callTy call_tuple_of (by rfl) T.n_tuple (by decide +kernel) (pa_cons (pe_call0 (ok_l_ways T) (hr.mono (by decide)) (by rfl) T.m_l_ways T.F_l_ways.kp T.b_l_ways .nil pass0) pa_nil)) pa_nil)) (nomark _))))))))))))))), ?_⟩
    have cN := T.c_Number
    have dfl : ∀ H : Hp, VsAt K T.C_Number H [.ref T.A_PLACES, .non, .non, .str "half even", .str "minus", .bl true, .bl false, .ref T.A_UNIT] plainF := fun H => ⟨_, _, _, rfl, T.t_PLACES H, .none, T.t_UNIT H⟩
    have su0 : ShortU plainF := ⟨by decide, by decide⟩
    have ok0 := sm_plain.ok
    walk_at "rdh"
    refine ⟨rfl, fun p H1 s1 _ hf1 => ?_⟩
    walk_at "rdh"
    refine mk_w (f := plainF) (vs := [.ref T.A_PLACES, .non, .non, .str "half even", .str "minus", .bl true, .bl false, .ref T.A_UNIT]) (dfl _) fw0 su0 fun x H2 s2 wx => ?_
    walk_at "rdh"
    refine ⟨x, plainF, rfl, wx, ok0, fun H3 s3 => ?_⟩
    walk_at "rdh"
    refine r_makeK ?_
    walk_at "rdh"
    refine ⟨rfl, rfl, ?_⟩
    refine mk_w (f := plainF) (vs := [.ref T.A_PLACES, .non, .non, .str "half even", .str "minus", .bl true, .bl false, .ref T.A_UNIT]) (dfl _) fw0 su0 fun x H4 s4 wx => ?_
    walk_at "rdh"
    refine ⟨x, plainF, rfl, wx, ok0, fun H5 s5 => ?_⟩
    walk_at "rdh"
    refine r_new (by show 2 ≤ 1000; decide) fun t1 ht1 => ?_
    have sA := ((((s2.trans s3).trans s4).trans s5).trans (Same.new (o := .lst [.str (dueD plainF).shown, .str (dueD plainF).shown]) ht1))
    have ht1' := upd_same (H := H5) (a := t1) (o := HO.lst [.str (dueD plainF).shown, .str (dueD plainF).shown])
    generalize upd H5 t1 (.lst [.str (dueD plainF).shown, .str (dueD plainF).shown]) = H6 at *
    walk_at "rdh"
    refine r_makeK ?_
    walk_at "rdh"
    refine ⟨rfl, rfl, ?_⟩
    refine mk_w (f := plainF) (vs := [.ref T.A_PLACES, .non, .non, .str "half even", .str "minus", .bl true, .bl false, .ref T.A_UNIT]) (dfl _) fw0 su0 fun x H7 s7 wx => ?_
    walk_at "rdh"
    refine ⟨x, plainF, rfl, wx, ok0, fun H8 s8 => ?_⟩
    walk_at "rdh"
    refine r_methK ?_
    walk_at "rdh"
    refine mk_w (f := plainF) (vs := [.ref T.A_PLACES, .non, .non, .str "half even", .str "minus", .bl true, .bl false, .ref T.A_UNIT]) (dfl _) fw0 su0 fun x H9 s9 wx => ?_
    have wx' := wx
    obtain ⟨dx, pl, un, sv, hx, _⟩ := wx.ex
    refine ⟨x, dx, _, rfl, hx, rfl, ?_⟩
    walk_at "rdh"
    refine ⟨rfl, ?_⟩
    refine ⟨x, plainF, rfl, wx', su0, fw0, fun y H10 s10 wy => ?_⟩
    walk_at "rdh"
    refine ⟨y, plainF, rfl, wy, ok0, fun H11 s11 => ?_⟩
    walk_at "rdh"
    refine r_new (by show 2 ≤ 1000; decide) fun t2 ht2 => ?_
    have sB := ((((s7.trans s8).trans s9).trans s10).trans s11).trans (Same.new (o := .lst [.str (dueD plainF).shown, .str (dueD plainF).shown]) ht2)
    refine r_cat (sB _ _ ht1') upd_same (by show 2 + 2 ≤ 100000; decide) fun t3 ht3 => ?_
    have sC := sB.trans (Same.new (o := .lst ([.str (dueD plainF).shown, .str (dueD plainF).shown] ++ [.str (dueD plainF).shown, .str (dueD plainF).shown])) ht3)
    have ht3' := upd_same (H := upd H11 t2 (.lst [.str (dueD plainF).shown, .str (dueD plainF).shown])) (a := t3) (o := HO.lst ([.str (dueD plainF).shown, .str (dueD plainF).shown] ++ [.str (dueD plainF).shown, .str (dueD plainF).shown]))
    generalize upd (upd H11 t2 (.lst [.str (dueD plainF).shown, .str (dueD plainF).shown])) t3 (.lst ([.str (dueD plainF).shown, .str (dueD plainF).shown] ++ [.str (dueD plainF).shown, .str (dueD plainF).shown])) = H12 at *
    have sD := sA.trans sC
    have hf12 := hf1.same sD
    have s12 := s1.trans sD
    walk_at "rdh"
    refine r_lcL ?_
    walk_at "rdh"
    refine ⟨t3, rfl, ⟨_, SqL.of ht3'⟩, fun D hD => ?_⟩
    refine lcL_none (K := K) (SqL.of ht3') hD (fun z HZ hz sz A Nx kn => ?_) fun H13 s13 hD13 => ?_
    · have ez : z = .str (dueD plainF).shown := by
        simp only [List.mem_append, List.mem_cons, List.not_mem_nil, or_false, or_self] at hz
        exact hz
      subst ez
      walk_at "rdh"
      refine ⟨rfl, ?_⟩
      walk_at "rdh"
      refine ⟨p, plainF, rfl, hf12.same sz, ok0, fun HY sy => ?_⟩
      walk_at "rdh"
      refine r_neSame ?_
      walk_at "rdh"
      refine r_iteF rfl ?_
      exact kn _ sy
    walk_at "rdh"
    refine r_new (by show 0 ≤ 1000; decide) fun D2 hD2 => ?_
    have s14 := s13.trans (Same.new (o := .lst []) hD2)
    refine r_neInts (xs := []) (ys := []) (SqL.of (Same.new (o := .lst []) hD2 _ _ hD13)) (SqL.of upd_same) ?_
    have hf14 := hf12.same s14
    have s014 := s12.trans s14
    generalize upd H13 D2 (.lst []) = H14 at *
    walk_at "rdh"
    refine r_iteF rfl ?_
    walk_at "rdh"
    -- the alone ones
    refine r_makeK ?_
    walk_at "rdh"
    refine r_new (by show 2 ≤ 1000; decide) fun a1 ha1 => ?_
    have g1 := Same.new (o := .tup [.int 1, .int 5]) ha1
    walk_at "rdh"
    refine ⟨rfl, rfl, ?_⟩
    refine mk_w (f := f1) (vs := [.ref a1, .non, .non, .str "half even", .str "minus", .bl true, .bl false, .ref T.A_UNIT]) ⟨_, _, _, rfl, SqT.of upd_same, .none, T.t_UNIT _⟩ fw1 ⟨by decide, by decide⟩ fun x1 J1 j1 wx1 => ?_
    walk_at "rdh"
    refine r_new (by show 2 ≤ 1000; decide) fun b1 hb1 => ?_
    have g2 := Same.new (o := .tup [.int 1, .int 5]) hb1
    have pb1 : PutF K T.C_Number (upd J1 b1 (.tup [.int 1, .int 5])) plainF "places" (.ref b1) f1 := .places (SqT.of upd_same)
    walk_at "rdh"
    refine r_new (by show 3 ≤ 1000; decide) fun c1 hc1 => ?_
    have g3 := Same.new (o := .tup [.ref x1, .str "places", .ref b1]) hc1
    have A1 : AloneAt K T.C_Wish T.C_Number _ (.ref c1) := alone_of g3 upd_same (wx1.same g2) pb1 ok1
    have G1 := ((g1.trans j1).trans g2).trans g3
    generalize upd (upd J1 b1 (.tup [.int 1, .int 5])) c1 (.tup [.ref x1, .str "places", .ref b1]) = U1 at *
    walk_at "rdh"
    refine r_makeK ?_
    walk_at "rdh"
    refine ⟨rfl, rfl, ?_⟩
    refine mk_w (f := f2) (vs := [.ref T.A_PLACES, .int 3, .non, .str "half even", .str "minus", .bl true, .bl false, .ref T.A_UNIT]) ⟨_, _, _, rfl, T.t_PLACES _, .none, T.t_UNIT _⟩ fw2 ⟨by decide, by decide⟩ fun x2 J2 j2 wx2 => ?_
    walk_at "rdh"
    refine r_new (by show 3 ≤ 1000; decide) fun c2 hc2 => ?_
    have g4 := Same.new (o := .tup [.ref x2, .str "figures", .int 3]) hc2
    have A2 : AloneAt K T.C_Wish T.C_Number _ (.ref c2) := alone_of g4 upd_same wx2 (.figures (some 3)) ok2
    have G2 := j2.trans g4
    generalize upd J2 c2 (.tup [.ref x2, .str "figures", .int 3]) = U2 at *
    walk_at "rdh"
    refine r_new (by show 2 ≤ 1000; decide) fun l1 hl1 => ?_
    have g5 := Same.new (o := .lst [.ref c1, .ref c2]) hl1
    have L1 : LSt K T.C_Wish T.C_Number H p l1 [.ref c1, .ref c2] (upd U2 l1 (.lst [.ref c1, .ref c2])) := by
      refine ⟨((s014.trans G1).trans G2).trans g5, none_ofS ((s014.trans G1).trans G2) hl1, upd_same, hf14.same ((G1.trans G2).trans g5), fun v hv => ?_, by show 2 ≤ 100; decide⟩
      simp only [List.mem_cons, List.not_mem_nil, or_false] at hv
      rcases hv with rfl | rfl
      · exact A1.nl (NL.of (G2.trans g5))
      · exact A2.nl (NL.of g5)
    generalize upd U2 l1 (.lst [.ref c1, .ref c2]) = V1 at *
    walk_at "rdh"
    refine r_makeK ?_
    walk_at "rdh"
    refine mk_num1 fun n3 J3 j3 _ hn3 => ?_
    walk_at "rdh"
    refine ⟨rfl, rfl, ?_⟩
    refine mk_w (f := f3) (vs := [.ref T.A_PLACES, .non, .ref n3, .str "half even", .str "minus", .bl true, .bl false, .ref T.A_UNIT]) ⟨_, _, _, rfl, T.t_PLACES _, .some hn3, T.t_UNIT _⟩ fw3 ⟨by decide, by decide⟩ fun x3 J4 j4 wx3 => ?_
    walk_at "rdh"
    refine mk_num1 fun m3 J5 j5 _ hm3 => ?_
    walk_at "rdh"
    refine r_new (by show 3 ≤ 1000; decide) fun c3 hc3 => ?_
    have g6 := Same.new (o := .tup [.ref x3, .str "step", .ref m3]) hc3
    have A3 : AloneAt K T.C_Wish T.C_Number _ (.ref c3) := alone_of g6 upd_same (wx3.same j5) (.step (.some hm3)) ok3
    have G3 := ((j3.trans j4).trans j5).trans g6
    generalize upd J5 c3 (.tup [.ref x3, .str "step", .ref m3]) = U3 at *
    walk_at "rdh"
    refine r_makeK ?_
    walk_at "rdh"
    refine ⟨rfl, rfl, ?_⟩
    refine mk_w (f := f4) (vs := [.ref T.A_PLACES, .non, .non, .str "up", .str "minus", .bl true, .bl false, .ref T.A_UNIT]) ⟨_, _, _, rfl, T.t_PLACES _, .none, T.t_UNIT _⟩ fw4 ⟨by decide, by decide⟩ fun x4 J6 j6 wx4 => ?_
    walk_at "rdh"
    refine r_new (by show 3 ≤ 1000; decide) fun c4 hc4 => ?_
    have g7 := Same.new (o := .tup [.ref x4, .str "way", .str "up"]) hc4
    have A4 : AloneAt K T.C_Wish T.C_Number _ (.ref c4) := alone_of g7 upd_same wx4 (.way "up") ok4
    have G4 := j6.trans g7
    generalize upd J6 c4 (.tup [.ref x4, .str "way", .str "up"]) = U4 at *
    walk_at "rdh"
    refine r_new (by show 2 ≤ 1000; decide) fun l2 hl2 => ?_
    refine (L1.same (G3.trans G4)).cat hl2 (zs := [.ref c3, .ref c4]) (fun v hv => ?_) (by show 2 ≤ 5; decide) (by show 2 ≤ 50; decide) fun l3 V2 L2' => ?_
    · simp only [List.mem_cons, List.not_mem_nil, or_false] at hv
      rcases hv with rfl | rfl
      · exact A3.nl (NL.of G4)
      · exact A4
    walk_at "rdh"
    refine ⟨ty_list L2'.hl, ?_⟩
    walk_at "rdh"
    refine r_makeK ?_
    walk_at "rdh"
    refine ⟨rfl, rfl, ?_⟩
    refine mk_w (f := f5) (vs := [.ref T.A_PLACES, .non, .non, .str "half even", .str "all", .bl true, .bl false, .ref T.A_UNIT]) ⟨_, _, _, rfl, T.t_PLACES _, .none, T.t_UNIT _⟩ fw5 ⟨by decide, by decide⟩ fun x5 J7 j7 wx5 => ?_
    walk_at "rdh"
    refine r_new (by show 3 ≤ 1000; decide) fun c5 hc5 => ?_
    have g8 := Same.new (o := .tup [.ref x5, .str "signs", .str "all"]) hc5
    have A5 : AloneAt K T.C_Wish T.C_Number _ (.ref c5) := alone_of g8 upd_same wx5 (.signs "all") ok5
    have L3 := L2'.same (j7.trans g8)
    generalize upd J7 c5 (.tup [.ref x5, .str "signs", .str "all"]) = U5 at *
    walk_at "rdh"
    refine L3.app A5 (by show 4 ≤ 50; decide) fun V3 L4 => ?_
    walk_at "rdh"
    refine r_makeK ?_
    walk_at "rdh"
    refine ⟨rfl, rfl, ?_⟩
    refine mk_w (f := f6) (vs := [.ref T.A_PLACES, .non, .non, .str "half even", .str "minus", .bl false, .bl false, .ref T.A_UNIT]) ⟨_, _, _, rfl, T.t_PLACES _, .none, T.t_UNIT _⟩ fw6 ⟨by decide, by decide⟩ fun x6 J8 j8 wx6 => ?_
    walk_at "rdh"
    refine r_new (by show 3 ≤ 1000; decide) fun c6 hc6 => ?_
    have g9 := Same.new (o := .tup [.ref x6, .str "grouped", .bl false]) hc6
    have A6 : AloneAt K T.C_Wish T.C_Number _ (.ref c6) := alone_of g9 upd_same wx6 (.grouped false) ok6
    have G6 := j8.trans g9
    generalize upd J8 c6 (.tup [.ref x6, .str "grouped", .bl false]) = U6 at *
    walk_at "rdh"
    refine r_makeK ?_
    walk_at "rdh"
    refine ⟨rfl, rfl, ?_⟩
    refine mk_w (f := f7) (vs := [.ref T.A_PLACES, .non, .non, .str "half even", .str "minus", .bl true, .bl true, .ref T.A_UNIT]) ⟨_, _, _, rfl, T.t_PLACES _, .none, T.t_UNIT _⟩ fw7 ⟨by decide, by decide⟩ fun x7 J9 j9 wx7 => ?_
    walk_at "rdh"
    refine r_new (by show 3 ≤ 1000; decide) fun c7 hc7 => ?_
    have g10 := Same.new (o := .tup [.ref x7, .str "scaled", .bl true]) hc7
    have A7 : AloneAt K T.C_Wish T.C_Number _ (.ref c7) := alone_of g10 upd_same wx7 (.scaled true) ok7
    have G7 := j9.trans g10
    generalize upd J9 c7 (.tup [.ref x7, .str "scaled", .bl true]) = U7 at *
    walk_at "rdh"
    refine r_new (by show 2 ≤ 1000; decide) fun l4 hl4 => ?_
    refine (L4.same (G6.trans G7)).cat hl4 (zs := [.ref c6, .ref c7]) (fun v hv => ?_) (by show 2 ≤ 5; decide) (by show 5 ≤ 50; decide) fun l5 V4 L5 => ?_
    · simp only [List.mem_cons, List.not_mem_nil, or_false] at hv
      rcases hv with rfl | rfl
      · exact A6.nl (NL.of G7)
      · exact A7
    walk_at "rdh"
    refine ⟨ty_list L5.hl, ?_⟩
    walk_at "rdh"
    refine r_makeK ?_
    walk_at "rdh"
    refine r_new (by show 2 ≤ 1000; decide) fun a8 ha8 => ?_
    have g11 := Same.new (o := .tup [.str "a", .str "b"]) ha8
    walk_at "rdh"
    refine ⟨rfl, rfl, ?_⟩
    refine mk_w (f := f8) (vs := [.ref T.A_PLACES, .non, .non, .str "half even", .str "minus", .bl true, .bl false, .ref a8]) ⟨_, _, _, rfl, T.t_PLACES _, .none, SqT.of upd_same⟩ fw8 ⟨by decide, by decide⟩ fun x8 J10 j10 wx8 => ?_
    walk_at "rdh"
    refine r_new (by show 2 ≤ 1000; decide) fun b8 hb8 => ?_
    have g12 := Same.new (o := .tup [.str "a", .str "b"]) hb8
    have pb8 : PutF K T.C_Number (upd J10 b8 (.tup [.str "a", .str "b"])) plainF "unit" (.ref b8) f8 := .unit (SqT.of upd_same)
    walk_at "rdh"
    refine r_new (by show 3 ≤ 1000; decide) fun c8 hc8 => ?_
    have g13 := Same.new (o := .tup [.ref x8, .str "unit", .ref b8]) hc8
    have A8 : AloneAt K T.C_Wish T.C_Number _ (.ref c8) := alone_of g13 upd_same (wx8.same g12) pb8 ok8
    have L6 := L5.same (((g11.trans j10).trans g12).trans g13)
    generalize upd (upd J10 b8 (.tup [.str "a", .str "b"])) c8 (.tup [.ref x8, .str "unit", .ref b8]) = U8 at *
    walk_at "rdh"
    refine L6.app A8 (by show 7 ≤ 50; decide) fun V5 L7 => ?_
    walk_at "rdh"
    have hl7 := L7.hl
    refine r_lcL ?_
    walk_at "rdh"
    refine ⟨l5, rfl, ⟨_, SqL.of hl7⟩, fun D hD => ?_⟩
    refine lcL_none (K := K) (SqL.of hl7) hD (fun z HZ hz sz A Nx kn => ?_) fun H15 s15 hD15 => ?_
    · obtain ⟨q, x, n, t, f, rfl, hq, hw, hp, ok⟩ := (L7.al z hz).nl (NL.of sz)
      walk_at "rdh"
      refine r_gTup hq rfl ?_
      walk_at "rdh"
      refine ⟨rfl, ?_⟩
      walk_at "rdh"
      refine ⟨x, f, rfl, hw, ok, fun HY sy => ?_⟩
      walk_at "rdh"
      refine ⟨p, plainF, f, n, t, rfl, (L7.fa.same sz).same sy, hp.same sy, fun q2 HX sx _ hf2 => ?_⟩
      walk_at "rdh"
      refine ⟨q2, f, rfl, hf2, ok, fun HW sw => ?_⟩
      walk_at "rdh"
      refine r_neSame ?_
      walk_at "rdh"
      refine r_iteF rfl ?_
      exact kn _ ((sy.trans sx).trans sw)
    walk_at "rdh"
    refine r_new (by show 0 ≤ 1000; decide) fun D3 hD3 => ?_
    have s16 := s15.trans (Same.new (o := .lst []) hD3)
    refine r_neInts (xs := []) (ys := []) (SqL.of (Same.new (o := .lst []) hD3 _ _ hD15)) (SqL.of upd_same) ?_
    have s016 := L7.sm.trans s16
    generalize upd H15 D3 (.lst []) = H16 at *
    walk_at "rdh"
    refine r_iteF rfl ?_
    walk_at "rdh"
    refine r_new (by show 4 ≤ 1000; decide) fun e1 he1 => ?_
    have s17 := Same.new (o := .tup [.ref T.A_PLACES, .str "half even", .str "minus", .ref T.A_UNIT]) he1
    walk_at "rdh"
    have dd : PyData.tuple [.tuple [.int 0, .int 2], .str "half even", .str "minus", .tuple [.str "", .str ""]] = PyData.tuple [.tuple [.int 0, .int 2], .str "half even", .str "minus", .tuple [.str "", .str ""]] := rfl
    have ds : shB (PyData.tuple [.tuple [.int 0, .int 2], .str "half even", .str "minus", .tuple [.str "", .str ""]]) = true := by decide +kernel
    have dz : szD (PyData.tuple [.tuple [.int 0, .int 2], .str "half even", .str "minus", .tuple [.str "", .str ""]]) ≤ 20 := by simp [szD, szAll]
    have dp : (PyData.tuple [.tuple [.int 0, .int 2], .str "half even", .str "minus", .tuple [.str "", .str ""]]).depth ≤ 60 := by simp [PyData.depth, PyData.depthAll]
    refine rd_sh (d := .tuple [.tuple [.int 0, .int 2], .str "half even", .str "minus", .tuple [.str "", .str ""]]) (.tup (SqT.of upd_same) (.cons (.tup (T.t_PLACES _) (.cons (.int _) (.cons (.int _) .nil))) (.cons (.str _) (.cons (.str _) (.cons (.tup (T.t_UNIT _) (.cons (.str _) (.cons (.str _) .nil))) .nil))))) ds dz dp ?_
    walk_at "rdh"
    refine r_new (by show 2 ≤ 1000; decide) fun e2 he2 => ?_
    have s18 := Same.new (o := .tup [.int 0, .int 2]) he2
    have h2 := upd_same (H := upd H16 e1 (.tup [.ref T.A_PLACES, .str "half even", .str "minus", .ref T.A_UNIT])) (a := e2) (o := HO.tup [.int 0, .int 2])
    walk_at "rdh"
    refine r_new (by show 2 ≤ 1000; decide) fun e3 he3 => ?_
    have s19 := Same.new (o := .tup [.str "", .str ""]) he3
    have h2 := s19 _ _ h2
    have h3 := upd_same (H := upd (upd H16 e1 (.tup [.ref T.A_PLACES, .str "half even", .str "minus", .ref T.A_UNIT])) e2 (.tup [.int 0, .int 2])) (a := e3) (o := HO.tup [.str "", .str ""])
    have s1719 := (s17.trans s18).trans s19
    generalize upd (upd (upd H16 e1 (.tup [.ref T.A_PLACES, .str "half even", .str "minus", .ref T.A_UNIT])) e2 (.tup [.int 0, .int 2])) e3 (.tup [.str "", .str ""]) = H19 at *
    walk_at "rdh"
    refine r_new (by show 4 ≤ 1000; decide) fun e4 he4 => ?_
    have s20 := Same.new (o := .tup [.ref e2, .str "half even", .str "minus", .ref e3]) he4
    walk_at "rdh"
    refine rd_sh (d := .tuple [.tuple [.int 0, .int 2], .str "half even", .str "minus", .tuple [.str "", .str ""]]) (.tup (SqT.of upd_same) (.cons (.tup (SqT.of (s20 _ _ h2)) (.cons (.int _) (.cons (.int _) .nil))) (.cons (.str _) (.cons (.str _) (.cons (.tup (SqT.of (s20 _ _ h3)) (.cons (.str _) (.cons (.str _) .nil))) .nil))))) ds dz dp ?_
    generalize (PyData.tuple [.tuple [.int 0, .int 2], .str "half even", .str "minus", .tuple [.str "", .str ""]]).shown = sh0
    have s020 := (s016.trans s1719).trans s20
    generalize upd H19 e4 (.tup [.ref e2, .str "half even", .str "minus", .ref e3]) = H20 at *
    walk_at "rdh"
    refine r_neSame ?_
    walk_at "rdh"
    refine r_iteF rfl ?_
    walk_at "rdh"
    have ws : shB (PyData.tuple [.str "up", .str "down", .str "high", .str "low", .str "half up", .str "half down", .str "half even", .str "half odd"]) = true := by decide +kernel
    have wz : szD (PyData.tuple [.str "up", .str "down", .str "high", .str "low", .str "half up", .str "half down", .str "half even", .str "half odd"]) ≤ 20 := by simp [szD, szAll]
    have wp : (PyData.tuple [.str "up", .str "down", .str "high", .str "low", .str "half up", .str "half down", .str "half even", .str "half odd"]).depth ≤ 60 := by simp [PyData.depth, PyData.depthAll]
    refine rd_sh (d := .tuple [.str "up", .str "down", .str "high", .str "low", .str "half up", .str "half down", .str "half even", .str "half odd"]) (.tup (T.t_WAYS _) (.cons (.str _) (.cons (.str _) (.cons (.str _) (.cons (.str _) (.cons (.str _) (.cons (.str _) (.cons (.str _) (.cons (.str _) .nil))))))))) ws wz wp ?_
    walk_at "rdh"
    refine ⟨rfl, fun lw H21 s21 _ hlw => ?_⟩
    walk_at "rdh"
    refine ⟨lw, _, rfl, .inl ⟨SqL.of hlw, fun tw htw => ?_⟩⟩
    have s22 := Same.new (o := .tup (waysL.map V.str)) htw
    walk_at "rdh"
    refine rd_sh (d := .tuple [.str "up", .str "down", .str "high", .str "low", .str "half up", .str "half down", .str "half even", .str "half odd"]) (.tup (SqT.of (upd_same (o := HO.tup (waysL.map V.str)))) (.cons (.str _) (.cons (.str _) (.cons (.str _) (.cons (.str _) (.cons (.str _) (.cons (.str _) (.cons (.str _) (.cons (.str _) .nil))))))))) ws wz wp ?_
    generalize (PyData.tuple [.str "up", .str "down", .str "high", .str "low", .str "half up", .str "half down", .str "half even", .str "half odd"]).shown = sh1
    walk_at "rdh"
    have e : decide (sh1 = sh1) = true := decide_eq_true rfl
    rw [e]
    exact k _ ((s020.trans s21).trans s22)
end
end My

namespace My
open PySem L2 TL
theorem r_lcR2 {σ : L2.St} {H : Hp} {Q : VK} {te : TE} {tr : TA} {g : TG} {tt : TT} {vs : List Nat} (q : tr σ H fun xs H1 => ∃ i j : Int, xs = [.int i, .int j] ∧ (-(2 ^ 62) ≤ i ∧ i < 2 ^ 62 ∧ -(2 ^ 62) ≤ j ∧ j < 2 ^ 62) ∧ ∀ D, H1 D = none → ∃ W : Nat → Nat → Hp → Prop, (∃ m, W 0 m (upd H1 D (.lst []))) ∧ ∀ k m H, W k m H →
    ((Itr i (j - i).toNat).stop k H ∧ Q (.ref D) H) ∨ ((Itr i (j - i).toNat).go k H ∧ ∃ Nx : Hp → Prop, (∀ H', Nx H' → ∃ m', m' < m ∧ W (k + 1) m' H') ∧ ∀ x H', (Itr i (j - i).toNat).yld k H x H' → g x (wipe σ vs) H' fun σ2 H2 => wipe σ2 vs = wipe σ vs ∧ tt σ2 H2 fun b H3 =>
      if b = true then te σ2 H3 fun y H4 => ∃ acc, H4 D = some (.lst acc) ∧ acc.length < sizeLine ∧ Nx (upd H4 D (.lst (acc ++ [y]))) else Nx H3)) : tLc (iRng2 tr) g tt te vs σ H Q := q
theorem r_tyesW {σ : L2.St} {H : Hp} {A B : Hp → Prop} (q : A H) : tYes σ H (fun b H3 => if b = true then A H3 else B H3) := (iteT (A := A H) (B := B H) q : if true = true then A H else B H)
theorem NumB.nl {C p : Addr} {H H' : Hp} (s : NL H H') (h : NumB C H p) : NumB C H' p := let ⟨x, h1, h2⟩ := h; ⟨x, h1.nl s, h2⟩
theorem AllB.nl {C : Addr} {H H' : Hp} {xs : List V} (s : NL H H') (h : AllB C H xs) : AllB C H' xs := fun v hv => let ⟨p, e, h1⟩ := h v hv; ⟨p, e, h1.nl s⟩
def CaseAt (K : PySem.W.Frag) (N : Addr) (H : Hp) (v : V) : Prop := ∃ (p : Addr) (f : Wf), v = .ref p ∧ FAt K N H p f ∧ Sm f
theorem CaseAt.nl {K : PySem.W.Frag} {N : Addr} {H H' : Hp} {v : V} (s : NL H H') (h : CaseAt K N H v) : CaseAt K N H' v := let ⟨p, f, e, h1, h2⟩ := h; ⟨p, f, e, h1.nl s, h2⟩
structure CasesAt (K : PySem.W.Frag) (N : Addr) (H : Hp) (l : Addr) (n : Nat) : Prop where
  ex : ∃ xs, H l = some (.lst xs) ∧ xs.length ≤ n ∧ ∀ v ∈ xs, CaseAt K N H v
theorem CasesAt.same {K : PySem.W.Frag} {N : Addr} {H H' : Hp} {l : Addr} {n : Nat} (s : Same H H') (h : CasesAt K N H l n) : CasesAt K N H' l n := by
  obtain ⟨xs, h1, h2, h3⟩ := h.ex
  exact ⟨xs, s _ _ h1, h2, fun v hv => (h3 v hv).nl (NL.of s)⟩
/-- the law's own state: the deck, the plain fields, the cases -/
structure WS (K : PySem.W.Frag) (N : Addr) (d c p l : Addr) (m n : Nat) (H : Hp) : Prop where
  dk : DeckN H d c m
  fp : FAt K N H p plainF
  cs : CasesAt K N H l n
  ne : l ≠ d ∧ l ≠ c
theorem WS.same {K : PySem.W.Frag} {N d c p l : Addr} {m n : Nat} {H H' : Hp} (s : Same H H') (h : WS K N d c p l m n H) : WS K N d c p l m n H' := ⟨h.dk.same s, h.fp.same s, h.cs.same s, h.ne⟩
theorem WS.off {K : PySem.W.Frag} {N d c p l : Addr} {m m' n : Nat} {H H' : Hp} (s : Off d c H H') (dk' : DeckN H' d c m') (h : WS K N d c p l m n H) : WS K N d c p l m' n H' := by
  refine ⟨dk', h.fp.nl (NL.off s h.dk), ?_, h.ne⟩
  obtain ⟨xs, h1, h2, h3⟩ := h.cs.ex
  exact ⟨xs, s _ _ h.ne.1 h.ne.2 h1, h2, fun v hv => (h3 v hv).nl (NL.off s h.dk)⟩
theorem WS.cat {K : PySem.W.Frag} {N d c p l b : Addr} {m n j : Nat} {zs : List V} {H : Hp} {Q : VK} (h : WS K N d c p l m n H) (hb : H b = some (.lst zs)) (hz : ∀ v ∈ zs, CaseAt K N H v) (lz : zs.length ≤ j) (nj : n + j ≤ 100000)
    (q : ∀ l' H', WS K N d c p l' m (n + j) H' ∧ Same H H' → Q (.ref l') H') : rCat (.ref l) (.ref b) H Q := by
  obtain ⟨xs, h1, h2, h3⟩ := h.cs.ex
  refine r_cat h1 hb (by omega) fun r hr => ?_
  have s2 := Same.new (o := .lst (xs ++ zs)) hr
  refine q r _ ⟨⟨h.dk.same s2, h.fp.same s2, ⟨xs ++ zs, upd_same, by rw [List.length_append]; omega, fun v hv => ?_⟩, deck_ne h.dk hr⟩, s2⟩
  rcases List.mem_append.mp hv with g | g
  · exact (h3 v g).nl (NL.of s2)
  · exact (hz v g).nl (NL.of s2)
theorem WS.app {K : PySem.W.Frag} {N d c p l : Addr} {m n : Nat} {y : V} {H : Hp} {Q : VK} (h : WS K N d c p l m n H) (hy : CaseAt K N H y) (lx : n ≤ 1000) (q : ∀ H', WS K N d c p l m (n + 1) H' → (∀ b o, b ≠ l → H b = some o → H' b = some o) → NL H H' → Q .non H') : rAppend (.ref l) [y] H Q := by
  obtain ⟨xs, h1, h2, h3⟩ := h.cs.ex
  refine r_append h1 (by omega) ?_
  have n1 : NL H (upd H l (.lst (xs ++ [y]))) := NL.put h1
  refine q _ ⟨?_, h.fp.nl n1, ⟨xs ++ [y], upd_same, by rw [List.length_append, List.length_singleton]; omega, fun v hv => ?_⟩, h.ne⟩ (fun b o nb hb => by rw [upd_ne nb]; exact hb) n1
  · obtain ⟨a, k, ys, e1, e2, e3⟩ := h.dk
    exact ⟨a, k, ys, by rw [upd_ne h.ne.1.symm]; exact e1, by rw [upd_ne h.ne.2.symm]; exact e2, e3⟩
  rcases List.mem_append.mp hv with g | g
  · exact (h3 v g).nl n1
  · rw [List.mem_singleton.mp g]; exact hy.nl n1
theorem sm_places {f : Wf} {x y : Int} (h : Sm f) (hx : x.natAbs ≤ 100) (hy : y.natAbs ≤ 100) : Sm { f with pa := x, pb := y } := ⟨hx, hy, h.fig, h.stp, h.way, h.sg, h.u0, h.u1, h.us⟩
theorem sm_fig {f : Wf} {x : Int} (h : Sm f) (hx : x.natAbs ≤ 100) : Sm { f with fig := some x } := ⟨h.pa, h.pb, (fun n e => by cases e; exact hx), h.stp, h.way, h.sg, h.u0, h.u1, h.us⟩
theorem sm_stp {f : Wf} {x : Rat} (h : Sm f) (hx : x.num.natAbs < 2 ^ 60 ∧ x.den < 2 ^ 60) : Sm { f with stp := some x } := ⟨h.pa, h.pb, h.fig, (fun n e => by cases e; exact hx), h.way, h.sg, h.u0, h.u1, h.us⟩
theorem sm_sc {f : Wf} {b : Bool} (h : Sm f) : Sm { f with sc := b } := ⟨h.pa, h.pb, h.fig, h.stp, h.way, h.sg, h.u0, h.u1, h.us⟩
theorem sm_unit {f : Wf} {x y : Str} (h : Sm f) (hx : shB (.str x) = true ∧ x.length ≤ 100) (hy : shB (.str y) = true ∧ y.length ≤ 100) : Sm { f with u0 := x, u1 := y } := ⟨h.pa, h.pb, h.fig, h.stp, h.way, h.sg, hx.1, hy.1, ⟨hx.2, hy.2⟩⟩
def unitsL : List Str := ["", " ", "a", "abcde", "abcdef", "abcdefg", " bcdef", "abcde ", "ab  cd", "\n", "a b c "]
theorem units_ok : ∀ x ∈ unitsL, shB (.str x) = true ∧ x.length ≤ 100 := by decide +kernel
section
variable {P : Program} {w : World} {K : PySem.W.Frag} {mg : Str → Option Value} {base : Heap}
def spLaw (K : PySem.W.Frag) : Sp := fun vs H Q _ => ∃ (a : Addr) (ns : List Int), vs = [.ref a] ∧ SqL K H a (ns.map V.int) ∧ ns.length ≤ 63 ∧ ∀ H', Q (.bl true) H'
theorem okG_law (T : Txt w K mg) : FnG P w K mg base 10 T.f_law T.fd_law ["_law_script"] (spLaw K) := by
  refine FnG.by_body T.F_law sc_law (fun vs H Q E h => ?_) (fun cdv A outer s H vs Q E hG hr h => ?_)
  · obtain ⟨a, ns, rfl, _⟩ := h
    rfl
  · obtain ⟨a, ns, rfl, hS, hl, k⟩ := h
    refine ⟨_, (pss_cons (ps_set (i := 1) sc_law.nd rfl (Or.inl rfl) (pe_call (ok_l_deck T) (hr.mono (by decide)) (by rfl) T.m_l_deck T.F_l_deck.kp T.b_l_deck .nil pass0 (pa_cons (pv 0) pa_nil)))
 (pss_cons (ps_if (pt_not (pt_val (pe_callG hG (okG_l_left_out T) (hr.mono (by decide)) (by rfl) T.m_l_left_out T.F_l_left_out.kp T.b_l_left_out .nil pass0 (pa_cons (pv 1) pa_nil))))
  (pss_one (ps_ret pe_bl))
  pss_nil)
 (pss_cons (ps_set (i := 2) sc_law.nd rfl (Or.inr rfl) (pe_call0 (ok_l_plain T) (hr.mono (by decide)) (by rfl) T.m_l_plain T.F_l_plain.kp T.b_l_plain .nil pass0))
 (pss_cons (ps_set (i := 3) sc_law.nd rfl (Or.inl rfl) (pe_lst pa_nil))
 (pss_cons (ps_for PassesOwn.never rfl (pi_range2 rfl T.n_range (pa_cons (pe_un un_neg pe_int) (pa_cons pe_int pa_nil))) (pg_name (i := 4) sc_law.nd rfl (Or.inr rfl))
  (pss_one (ps_set (i := 3) sc_law.nd rfl (Or.inl rfl) (pe_op op_cat (pv 3) (pe_lc (own := [("_law_other", 11)]) (g := gName 11) (tt := tYes) rfl sc_law.nd (pi_range2 rfl T.n_range (pa_cons (pe_un un_neg pe_int) (pa_cons pe_int pa_nil))) (blkOk_by (own := [("_law_other", 11)]) (N := ["_law_script", "_law_deck_here", "_law_plain_here", "_law_cases", "_law_one", "_law_by", "_law_most", "_law_text", "_law_both", "_law_many", "_law_f", "_law_other"]) (sc := defScope s_law) (by decide +kernel)) (fun _ _ _ _ _ => pg_name (i := 11) sc_law.nd rfl (Or.inl rfl)) (fun _ _ _ _ _ => pts_nil) (fun _ _ _ _ _ => (pe_call (ok_l_put T) (hr.mono (by decide)) (by rfl) T.m_l_put T.F_l_put.kp T.b_l_put .nil pass0 (pa_cons (pv 2) (pa_cons pe_str (pa_cons (pe_tup (pa_cons (pv 4) (pa_cons (pv 11) pa_nil))) pa_nil))))))))))
 (pss_cons (ps_set (i := 3) sc_law.nd rfl (Or.inl rfl) (pe_op op_cat (pv 3) (pe_lc (own := [("_law_many", 9)]) (g := gName 9) (tt := tYes) rfl sc_law.nd (pi_range2 rfl T.n_range (pa_cons (pe_un un_neg pe_int) (pa_cons pe_int pa_nil))) (blkOk_by (own := [("_law_many", 9)]) (N := ["_law_script", "_law_deck_here", "_law_plain_here", "_law_cases", "_law_one", "_law_by", "_law_most", "_law_text", "_law_both", "_law_many", "_law_f", "_law_other"]) (sc := defScope s_law) (by decide +kernel)) (fun _ _ _ _ _ => pg_name (i := 9) sc_law.nd rfl (Or.inl rfl)) (fun _ _ _ _ _ => pts_nil) (fun _ _ _ _ _ => (pe_call (ok_l_put T) (hr.mono (by decide)) (by rfl) T.m_l_put T.F_l_put.kp T.b_l_put .nil pass0 (pa_cons (pv 2) (pa_cons pe_str (pa_cons (pv 9) pa_nil))))))))
 (pss_cons (ps_for PassesOwn.never rfl (pi_list (pe_call (ok_l_steps T) (hr.mono (by decide)) (by rfl) T.m_l_steps T.F_l_steps.kp T.b_l_steps .nil pass0 (pa_cons (pv 1) pa_nil))) (pg_name (i := 5) sc_law.nd rfl (Or.inl rfl))
  (pss_cons (ps_set (i := 6) sc_law.nd rfl (Or.inl rfl) (pe_call (ok_l_draw T) (hr.mono (by decide)) (by rfl) T.m_l_draw T.F_l_draw.kp T.b_l_draw .nil pass0 (pa_cons (pv 1) (pa_cons pe_int pa_nil))))
 (pss_one (ps_expr (pe_bm PySem.F.plainAttrs_list PySem.F.slot_list_append PySem.F.type_list_append mt_append (pv 3) (pa_cons (pe_call (ok_l_put T) (hr.mono (by decide)) (by rfl) T.m_l_put T.F_l_put.kp T.b_l_put .nil pass0 (pa_cons (pe_call (ok_l_put T) (hr.mono (by decide)) (by rfl) T.m_l_put T.F_l_put.kp T.b_l_put .nil pass0 (pa_cons (pv 2) (pa_cons pe_str (pa_cons (pv 5) pa_nil)))) (pa_cons pe_str (pa_cons (pe_tup (pa_cons (pe_call (ok_l_draw T) (hr.mono (by decide)) (by rfl) T.m_l_draw T.F_l_draw.kp T.b_l_draw .nil pass0 (pa_cons (pv 1) (pa_cons (pe_op op_add (pv 6) pe_int) pa_nil))) (pa_cons (pv 6) pa_nil))) pa_nil)))) pa_nil))))))
 (pss_cons (ps_for PassesOwn.never rfl (pi_list (pe_lst (pa_cons pe_str (pa_cons pe_str (pa_cons pe_str (pa_cons pe_str (pa_cons pe_str (pa_cons pe_str (pa_cons pe_str (pa_cons pe_str (pa_cons pe_str (pa_cons pe_str (pa_cons pe_str pa_nil))))))))))))) (pg_name (i := 7) sc_law.nd rfl (Or.inl rfl))
  (pss_one (ps_set (i := 3) sc_law.nd rfl (Or.inl rfl) (pe_op op_cat (pv 3) (pe_lst (pa_cons (pe_call (ok_l_put T) (hr.mono (by decide)) (by rfl) T.m_l_put T.F_l_put.kp T.b_l_put .nil pass0 (pa_cons (pv 2) (pa_cons pe_str (pa_cons (pe_tup (pa_cons (pv 7) (pa_cons pe_str pa_nil))) pa_nil)))) (pa_cons (pe_call (ok_l_put T) (hr.mono (by decide)) (by rfl) T.m_l_put T.F_l_put.kp T.b_l_put .nil pass0 (pa_cons (pv 2) (pa_cons pe_str (pa_cons (pe_tup (pa_cons pe_str (pa_cons (pv 7) pa_nil))) pa_nil)))) pa_nil)))))))
 (pss_cons (ps_set (i := 8) sc_law.nd rfl (Or.inl rfl) (pe_call (ok_l_put T) (hr.mono (by decide)) (by rfl) T.m_l_put T.F_l_put.kp T.b_l_put .nil pass0 (pa_cons (pe_call (ok_l_put T) (hr.mono (by decide)) (by rfl) T.m_l_put T.F_l_put.kp T.b_l_put .nil pass0 (pa_cons (pv 2) (pa_cons pe_str (pa_cons (pe_op op_add pe_int (pe_call (ok_l_draw T) (hr.mono (by decide)) (by rfl) T.m_l_draw T.F_l_draw.kp T.b_l_draw .nil pass0 (pa_cons (pv 1) (pa_cons pe_int pa_nil)))) pa_nil)))) (pa_cons pe_str (pa_cons (pe_make T.mk_Number (ok_Number_init T) (hr.mono (by decide)) (by rfl) T.m_Number T.b_Number_init1 T.d_Number_init1 pass0 (pa_cons pe_int pa_nil)) pa_nil)))))
 (pss_cons (ps_set (i := 3) sc_law.nd rfl (Or.inl rfl) (pe_op op_cat (pv 3) (pe_lst (pa_cons (pv 8) (pa_cons (pe_call (ok_l_put T) (hr.mono (by decide)) (by rfl) T.m_l_put T.F_l_put.kp T.b_l_put .nil pass0 (pa_cons (pe_call (ok_l_put T) (hr.mono (by decide)) (by rfl) T.m_l_put T.F_l_put.kp T.b_l_put .nil pass0 (pa_cons (pv 2) (pa_cons pe_str (pa_cons (pe_make T.mk_Number (ok_Number_init T) (hr.mono (by decide)) (by rfl) T.m_Number T.b_Number_init1 T.d_Number_init1 pass0 (pa_cons pe_int pa_nil)) pa_nil)))) (pa_cons pe_str (pa_cons pe_bl pa_nil)))) pa_nil)))))
 (pss_one (ps_ret (pe_cmpR (op_eqD hr.units) (pe_lc (own := [("_law_f", 10)]) (g := gName 10) rfl sc_law.nd (pi_list (pv 3)) (blkOk_by (own := [("_law_f", 10)]) (N := ["_law_script", "_law_deck_here", "_law_plain_here", "_law_cases", "_law_one", "_law_by", "_law_most", "_law_text", "_law_both", "_law_many", "_law_f", "_law_other"]) (sc := defScope s_law) (by decide +kernel)) (fun _ _ _ _ _ => pg_name (i := 10) sc_law.nd rfl (Or.inl rfl)) (fun _ _ _ _ _ => (pts_one (pt_not (pt_val (pe_callG hG (okG_l_right T) (hr.mono (by decide)) (by rfl) T.m_l_right T.F_l_right.kp T.b_l_right .nil pass0 (pa_cons (pv 10) pa_nil)))))) (fun _ _ _ _ _ => (pv 10))) (pe_lst pa_nil) (nomark _)))))))))))))), ?_⟩
    walk_at "rdh"
    refine ⟨a, ns, rfl, hS, hl, fun d c H1 s1 dk1 => ?_⟩
    walk_at "rdh"
    refine ⟨_, rfl, fun H2 s2 => ?_⟩
    walk_at "rdh"
    refine r_iteF rfl ?_
    walk_at "rdh"
    refine ⟨rfl, fun p H3 s3 _ hf3 => ?_⟩
    have dk3 := dk1.same (s2.trans s3)
    walk_at "rdh"
    refine r_new (by show 0 ≤ 1000; decide) fun l0 hl0 => ?_
    have s4 := Same.new (o := .lst []) hl0
    have W0 : WS K T.C_Number d c p l0 0 0 (upd H3 l0 (.lst [])) := ⟨dk3.same s4, hf3.same s4, ⟨[], upd_same, Nat.le_refl _, fun v hv => nomatch hv⟩, deck_ne dk3 hl0⟩
    generalize upd H3 l0 (.lst []) = H4 at *
    walk_at "rdh"
    refine r_rng2 ?_
    walk_at "rdh"
    refine ⟨-1, 14, rfl, by decide, for_range (lo := -1) (n := 15) (fun i σ H' => ∃ (l : Addr) (v4 : Option V), σ = [some (.ref a), some (.ref d), some (.ref p), some (.ref l), v4, none, none, none, none, none, none, none] ∧ WS K T.C_Number d c p l 0 (15 * i) H')
      ⟨l0, _, rfl, W0⟩ ?_ ?_⟩
    · rintro i σ HA hi ⟨l, v4, rfl, WA⟩
      walk_at "rdh"
      refine r_lcR2 ?_
      walk_at "rdh"
      refine ⟨-1, 14, rfl, by decide, fun D hD => ?_⟩
      have Dne := deck_ne WA.dk hD
      refine lc_range (lo := -1) (n := 15) (fun j H' => ∃ ws : List V, H' D = some (.lst ws) ∧ ws.length = j ∧ j ≤ 15 ∧ (∀ v ∈ ws, CaseAt K T.C_Number H' v) ∧ WS K T.C_Number d c p l 0 (15 * i) H' ∧ Same HA H') ⟨[], upd_same, rfl, by decide, (fun v hv => nomatch hv), WA.same (Same.new hD), Same.new hD⟩ ?_ ?_
      · rintro j HB hj ⟨ws, hd, lw, j15, hc, WB, sB⟩
        walk_at "rdh"
        refine ⟨rfl, ?_⟩
        refine r_tyesW ?_
        walk_at "rdh"
        refine r_new (by show 2 ≤ 1000; decide) fun t ht => ?_
        have st := Same.new (o := .tup [.int (-1 + (i : Int)), .int (-1 + (j : Int))]) ht
        walk_at "rdh"
        refine ⟨p, plainF, _, _, _, rfl, WB.fp.same st, .places (SqT.of upd_same), fun q HC sC _ hq => ?_⟩
        have sBC := st.trans sC
        have hdC := sBC _ _ hd
        refine ⟨ws, hdC, by rw [lw]; exact Nat.lt_of_lt_of_le (show j < 16 by omega) (by decide), ws ++ [.ref q], upd_same, by rw [List.length_append, lw]; rfl, by omega, fun v hv => ?_, ?_, fun b o hb => ?_⟩
        · have n1 : NL HC (upd HC D (.lst (ws ++ [.ref q]))) := NL.put hdC
          rcases List.mem_append.mp hv with g | g
          · exact (hc v g).nl ((NL.of sBC).trans n1)
          · rw [List.mem_singleton.mp g]
            exact ⟨q, _, rfl, hq.nl n1, sm_places sm_plain (by omega) (by omega)⟩
        · have n1 : NL HC (upd HC D (.lst (ws ++ [.ref q]))) := NL.put hdC
          have WC := WB.same sBC
          obtain ⟨xs, h1, h2, h3⟩ := WC.cs.ex
          have lD : l ≠ D := by
            obtain ⟨ys, g1, _⟩ := WA.cs.ex
            exact ne_of_none g1 hD
          refine ⟨?_, WC.fp.nl n1, ⟨xs, by rw [upd_ne lD]; exact h1, h2, fun v hv => (h3 v hv).nl n1⟩, WC.ne⟩
          obtain ⟨a1, k1, ys, e1, e2, e3⟩ := WC.dk
          exact ⟨a1, k1, ys, by rw [upd_ne Dne.1.symm]; exact e1, by rw [upd_ne Dne.2.symm]; exact e2, e3⟩
        · rw [upd_ne (ne_of_none hb hD)]
          exact sBC _ _ (sB _ _ hb)
      rintro HB ⟨ws, hd, lw, _, hc, WB, sB⟩
      refine WB.cat (j := 15) hd hc (by omega) (by omega) fun l' HC WC => ?_
      walk_at "rdh"
      exact ⟨l', _, rfl, WC.1⟩
    rintro σ H5 ⟨l, v4, rfl, W5⟩
    walk_at "rdh"
    refine r_lcR2 ?_
    walk_at "rdh"
    refine ⟨-1, 14, rfl, by decide, fun D hD => ?_⟩
    have Dne := deck_ne W5.dk hD
    refine lc_range (lo := -1) (n := 15) (fun j H' => ∃ ws : List V, H' D = some (.lst ws) ∧ ws.length = j ∧ j ≤ 15 ∧ (∀ v ∈ ws, CaseAt K T.C_Number H' v) ∧ WS K T.C_Number d c p l 0 (15 * 15) H' ∧ Same H5 H') ⟨[], upd_same, rfl, by decide, (fun v hv => nomatch hv), W5.same (Same.new hD), Same.new hD⟩ ?_ ?_
    · rintro j HB hj ⟨ws, hd, lw, j15, hc, WB, sB⟩
      walk_at "rdh"
      refine ⟨rfl, ?_⟩
      refine r_tyesW ?_
      walk_at "rdh"
      refine ⟨p, plainF, _, _, _, rfl, WB.fp, .figures (some (-1 + (j : Int))), fun q HC sBC _ hq => ?_⟩
      have hdC := sBC _ _ hd
      refine ⟨ws, hdC, by rw [lw]; exact Nat.lt_of_lt_of_le (show j < 16 by omega) (by decide), ws ++ [.ref q], upd_same, by rw [List.length_append, lw]; rfl, by omega, fun v hv => ?_, ?_, fun b o hb => ?_⟩
      · have n1 : NL HC (upd HC D (.lst (ws ++ [.ref q]))) := NL.put hdC
        rcases List.mem_append.mp hv with g | g
        · exact (hc v g).nl ((NL.of sBC).trans n1)
        · rw [List.mem_singleton.mp g]
          exact ⟨q, _, rfl, hq.nl n1, sm_fig sm_plain (by omega)⟩
      · have n1 : NL HC (upd HC D (.lst (ws ++ [.ref q]))) := NL.put hdC
        have WC := WB.same sBC
        obtain ⟨xs, h1, h2, h3⟩ := WC.cs.ex
        have lD : l ≠ D := by
          obtain ⟨ys, g1, _⟩ := W5.cs.ex
          exact ne_of_none g1 hD
        refine ⟨?_, WC.fp.nl n1, ⟨xs, by rw [upd_ne lD]; exact h1, h2, fun v hv => (h3 v hv).nl n1⟩, WC.ne⟩
        obtain ⟨a1, k1, ys, e1, e2, e3⟩ := WC.dk
        exact ⟨a1, k1, ys, by rw [upd_ne Dne.1.symm]; exact e1, by rw [upd_ne Dne.2.symm]; exact e2, e3⟩
      · rw [upd_ne (ne_of_none hb hD)]
        exact sBC _ _ (sB _ _ hb)
    rintro HB ⟨ws, hd, lw, _, hc, WB, sB⟩
    refine WB.cat (j := 15) hd hc (by omega) (by omega) fun l' H6 W6 => ?_
    have W6 := W6.1
    walk_at "rdh"
    refine r_forL ?_
    walk_at "rdh"
    refine ⟨d, c, 0, rfl, W6.dk, by decide, fun ls H7 o7 dk7 nls nw7 st7 => ?_⟩
    have W7 := W6.off o7 dk7
    have nll : ls ≠ l' := by
      obtain ⟨ys, g1, _⟩ := W6.cs.ex
      exact (ne_of_none g1 nw7).symm
    obtain ⟨sx, hls, lsx, asx⟩ := st7
    walk_at "rdh"
    refine ⟨ls, rfl, ⟨_, SqL.of hls⟩, for_list (K := K) (a := ls) (xs := sx) (fun i σ H' => ∃ v5 v6 : Option V, σ = [some (.ref a), some (.ref d), some (.ref p), some (.ref l'), v4, v5, v6, none, none, none, none, none] ∧ WS K T.C_Number d c p l' (24 + 2 * i) (240 + i) H' ∧ H' ls = some (.lst sx) ∧ AllB T.C_Number H' sx)
      ⟨_, _, rfl, W7, hls, asx⟩ (fun i σ H' _ ⟨_, _, _, _, e, _⟩ => SqL.of e) ?_ ?_⟩
    · rintro i y σ HA hi ⟨v5, v6, rfl, WA, hlA, abA⟩
      have hi' := (List.getElem?_eq_some_iff.mp hi).1
      obtain ⟨q, rfl, nq⟩ := abA y (List.mem_of_getElem? hi)
      walk_at "rdh"
      refine rd_draw WA.dk (by decide) (by decide) (by omega) fun r HB oB dkB r0 r1 => ?_
      have WB := WA.off oB dkB
      have nqB := nq.off oB WA.dk
      have hlB := oB _ _ nls.1 nls.2 hlA
      have abB := abA.off oB WA.dk
      obtain ⟨xs, hx, _⟩ := WB.cs.ex
      walk_at "rdh"
      refine ⟨ty_list hx, ?_⟩
      walk_at "rdh"
      obtain ⟨x, nx, bx⟩ := nqB
      refine ⟨p, plainF, _, _, _, rfl, WB.fp, .step (.some nx), fun q1 HC sC _ hq1 => ?_⟩
      have WC := WB.same sC
      walk_at "rdh"
      refine rd_draw WC.dk (by omega) (Nat.lt_of_lt_of_le (show (r + 1).natAbs < 2 ^ 8 by omega) (Nat.pow_le_pow_right (by decide) (by decide))) (by omega) fun r2 HD oD dkD r20 r21 => ?_
      have hq1D := hq1.nl (NL.off oD WC.dk)
      have WD := WC.off oD dkD
      have hlD := oD _ _ nls.1 nls.2 (sC _ _ hlB)
      have abD := (abB.same sC).off oD WC.dk
      walk_at "rdh"
      refine r_new (by show 2 ≤ 1000; decide) fun t ht => ?_
      have st := Same.new (o := .tup [.int r2, .int r]) ht
      walk_at "rdh"
      refine ⟨q1, _, _, _, _, rfl, hq1D.same st, .places (SqT.of upd_same), fun q2 HE sE _ hq2 => ?_⟩
      have sDE := st.trans sE
      have WE := WD.same sDE
      walk_at "rdh"
      refine WE.app ⟨q2, _, rfl, hq2, sm_places (sm_stp sm_plain bx) (by omega) (by omega)⟩ (by omega) fun HF WF kf nf => ?_
      walk_at "rdh"
      exact ⟨_, _, rfl, WF, kf _ _ nll (sDE _ _ hlD), (abD.same sDE).nl nf⟩
    rintro σ H8 ⟨v5, v6, rfl, W8, _, _⟩
    walk_at "rdh"
    refine r_new (by show 11 ≤ 1000; decide) fun lu hlu => ?_
    have s9 := Same.new (o := .lst [.str "", .str " ", .str "a", .str "abcde", .str "abcdef", .str "abcdefg", .str " bcdef", .str "abcde ", .str "ab  cd", .str "\n", .str "a b c "]) hlu
    have W9 := W8.same s9
    have hu := upd_same (H := H8) (a := lu) (o := HO.lst [.str "", .str " ", .str "a", .str "abcde", .str "abcdef", .str "abcdefg", .str " bcdef", .str "abcde ", .str "ab  cd", .str "\n", .str "a b c "])
    generalize upd H8 lu (.lst [.str "", .str " ", .str "a", .str "abcde", .str "abcdef", .str "abcdefg", .str " bcdef", .str "abcde ", .str "ab  cd", .str "\n", .str "a b c "]) = H9 at *
    have hu : H9 lu = some (.lst (unitsL.map V.str)) := hu
    walk_at "rdh"
    refine ⟨lu, rfl, ⟨_, SqL.of hu⟩, for_list (K := K) (a := lu) (xs := unitsL.map V.str) (fun i σ H' => ∃ (l : Addr) (v7 : Option V), σ = [some (.ref a), some (.ref d), some (.ref p), some (.ref l), v4, v5, v6, v7, none, none, none, none] ∧ WS K T.C_Number d c p l (24 + 2 * sx.length) (340 + 2 * i) H' ∧ H' lu = some (.lst (unitsL.map V.str)))
      ⟨l', _, rfl, ⟨W9.dk, W9.fp, (by obtain ⟨xs, e1, e2, e3⟩ := W9.cs.ex; exact ⟨xs, e1, by omega, e3⟩), W9.ne⟩, hu⟩ (fun i σ H' _ ⟨_, _, _, _, e⟩ => SqL.of e) ?_ ?_⟩
    · rintro i y σ HA hi ⟨l, v7, rfl, WA, hA⟩
      have hi' := (List.getElem?_eq_some_iff.mp hi).1
      rw [List.length_map] at hi'
      have hi2 : i < 11 := hi'
      obtain ⟨z, hz, rfl⟩ := List.mem_map.mp (List.mem_of_getElem? hi)
      have uz := units_ok z hz
      have ue := units_ok "" (by decide +kernel)
      walk_at "rdh"
      refine r_new (by show 2 ≤ 1000; decide) fun t1 ht1 => ?_
      have g1 := Same.new (o := .tup [.str z, .str ""]) ht1
      walk_at "rdh"
      refine ⟨p, plainF, _, _, _, rfl, WA.fp.same g1, .unit (SqT.of upd_same), fun q1 HB sB _ hq1 => ?_⟩
      have sAB := g1.trans sB
      have WB := WA.same sAB
      walk_at "rdh"
      refine r_new (by show 2 ≤ 1000; decide) fun t2 ht2 => ?_
      have g2 := Same.new (o := .tup [.str "", .str z]) ht2
      walk_at "rdh"
      refine ⟨p, plainF, _, _, _, rfl, WB.fp.same g2, .unit (SqT.of upd_same), fun q2 HC sC _ hq2 => ?_⟩
      have sBC := g2.trans sC
      walk_at "rdh"
      refine r_new (by show 2 ≤ 1000; decide) fun lb hlb => ?_
      have g3 := Same.new (o := .lst [.ref q1, .ref q2]) hlb
      have WC := WB.same (sBC.trans g3)
      refine WC.cat (j := 2) upd_same (fun v hv => ?_) (by show 2 ≤ 2; decide) (by omega) fun l2 HD WD => ?_
      · simp only [List.mem_cons, List.not_mem_nil, or_false] at hv
        rcases hv with rfl | rfl
        · exact ⟨q1, _, rfl, hq1.same (sBC.trans g3), sm_unit sm_plain uz ue⟩
        · exact ⟨q2, _, rfl, hq2.same g3, sm_unit sm_plain ue uz⟩
      walk_at "rdh"
      exact ⟨l2, _, rfl, WD.1, WD.2 _ _ (g3 _ _ (sBC _ _ (sAB _ _ hA)))⟩
    rintro σ H10 ⟨l, v7, rfl, W10, _⟩
    have ul : (List.map V.str unitsL).length = 11 := rfl
    walk_at "rdh"
    refine rd_draw W10.dk (by decide) (by decide) (by omega) fun r H11 o11 dk11 r0 r1 => ?_
    have W11 := W10.off o11 dk11
    walk_at "rdh"
    refine ⟨p, plainF, _, _, _, rfl, W11.fp, .figures (some (1 + r)), fun q1 H12 s12 _ hq1 => ?_⟩
    walk_at "rdh"
    refine mk_num1 fun n1 H13 s13 _ hn1 => ?_
    walk_at "rdh"
    refine ⟨q1, _, _, _, _, rfl, hq1.same s13, .step (.some hn1), fun q2 H14 s14 _ hq2 => ?_⟩
    have W14 := W11.same ((s12.trans s13).trans s14)
    walk_at "rdh"
    refine mk_num1 fun n2 H15 s15 _ hn2 => ?_
    walk_at "rdh"
    refine ⟨p, plainF, _, _, _, rfl, W14.fp.same s15, .step (.some hn2), fun q3 H16 s16 _ hq3 => ?_⟩
    walk_at "rdh"
    refine ⟨q3, _, _, _, _, rfl, hq3, .scaled true, fun q4 H17 s17 _ hq4 => ?_⟩
    walk_at "rdh"
    refine r_new (by show 2 ≤ 1000; decide) fun lb hlb => ?_
    have g3 := Same.new (o := .lst [.ref q2, .ref q4]) hlb
    have s1417 := (s15.trans s16).trans s17
    have W18 := W14.same (s1417.trans g3)
    refine W18.cat (j := 2) upd_same (fun v hv => ?_) (by show 2 ≤ 2; decide) (by omega) fun l2 H18 W19 => ?_
    · simp only [List.mem_cons, List.not_mem_nil, or_false] at hv
      rcases hv with rfl | rfl
      · exact ⟨q2, _, rfl, hq2.same (s1417.trans g3), sm_stp (sm_fig sm_plain (by omega)) ⟨by decide, by decide⟩⟩
      · exact ⟨q4, _, rfl, hq4.same g3, sm_sc (sm_stp sm_plain ⟨by decide, by decide⟩)⟩
    obtain ⟨xs, hx, _, hc⟩ := W19.1.cs.ex
    walk_at "rdh"
    refine r_lcL ?_
    walk_at "rdh"
    refine ⟨l2, rfl, ⟨_, SqL.of hx⟩, fun D hD => ?_⟩
    refine lcL_none (K := K) (SqL.of hx) hD (fun z HZ hz sz A Nx kn => ?_) fun H19 s19 hD19 => ?_
    · obtain ⟨p1, f, rfl, hf, sm⟩ := (hc z hz).nl (NL.of sz)
      walk_at "rdh"
      refine ⟨rfl, ?_⟩
      walk_at "rdh"
      refine ⟨p1, f, rfl, hf, sm, fun HY sy => ?_⟩
      walk_at "rdh"
      refine r_iteF rfl ?_
      exact kn _ sy
    walk_at "rdh"
    refine r_new (by show 0 ≤ 1000; decide) fun D3 hD3 => ?_
    refine r_eqInts (xs := []) (ys := []) (SqL.of (Same.new (o := .lst []) hD3 _ _ hD19)) (SqL.of upd_same) ?_
    walk_at "rdh"
    exact k _
end
end My

namespace My
open PySem L2
theorem kit_self {K : PySem.W.Frag} {C : Addr} : PySem.W.kitOne K (.ref C) (.ref C) = some true := if_pos (by simp)
theorem bi_Number_init {K : PySem.W.Frag} {f : Addr} {fd : FuncData} (F : FunD K "__init__" "Number.__init__" (defArgs s_Number_init) (defBody s_Number_init) (defScope s_Number_init) [V.int 1] [] f fd) :
    Binds K fd ["self", "top", "bottom"] [] ∧ ∃ ds : List Value, Vals [V.int 1] ds ∧ Binds K fd ["self", "top", "bottom"] ds := by
  constructor
  · obtain ⟨ds, r, b⟩ := F.binds1 (ps := ["self", "top", "bottom"]) 3 1 (by simp) rfl fun T kV doc pm an cdv ct us its h1 h2 => match us, its, h1, h2 with | [_, _, _], [_], _, _ => ⟨_, rfl, rfl⟩
    cases r
    exact b
  · exact F.binds1 (ps := ["self", "top", "bottom"]) 2 0 (by simp) rfl fun T kV doc pm an cdv ct us its h1 h2 => match us, its, h1, h2 with | [_, _], [_], _, _ => ⟨_, rfl, rfl⟩
theorem bi_Wish_init_all {K : PySem.W.Frag} {f : Addr} {fd : FuncData} {v0 v1 v2 v3 v4 v5 v6 v7 : V} (F : FunD K "__init__" "Wish.__init__" (defArgs s_Wish_init) (defBody s_Wish_init) (defScope s_Wish_init) [] [(("places" : Str), v0), (("figures" : Str), v1), (("step" : Str), v2), (("way" : Str), v3), (("signs" : Str), v4), (("grouped" : Str), v5), (("scaled" : Str), v6), (("unit" : Str), v7)] f fd) :
    ∃ mv : List Value, KBn K fd ["self", "places", "figures", "step", "way", "signs", "grouped", "scaled", "unit"] 1 ["unit", "scaled", "grouped", "signs", "way", "step", "figures", "places"] (fun us ws => g_Wish_init_all us mv ws) (fun vs zs => g_Wish_init_all vs [] zs) :=
  F.kbinds0 (ps := ["self", "places", "figures", "step", "way", "signs", "grouped", "scaled", "unit"]) 1 ["unit", "scaled", "grouped", "signs", "way", "step", "figures", "places"] [] (fun us mv ws => g_Wish_init_all us mv ws) (by simp) (by simp) (fun r1 r2 r3 => g_rel_Wish_init_all r1 r2 r3) fun D doc pm an cdv ct us mv ws h1 h2 h3 => match us, mv, ws, h1, h2, h3 with | [_], [], [_, _, _, _, _, _, _, _], _, _, _ => rfl
theorem bi_Wish_init_ord {K : PySem.W.Frag} {f : Addr} {fd : FuncData} {v0 v1 v2 v3 v4 v5 v6 v7 : V} (F : FunD K "__init__" "Wish.__init__" (defArgs s_Wish_init) (defBody s_Wish_init) (defScope s_Wish_init) [] [(("places" : Str), v0), (("figures" : Str), v1), (("step" : Str), v2), (("way" : Str), v3), (("signs" : Str), v4), (("grouped" : Str), v5), (("scaled" : Str), v6), (("unit" : Str), v7)] f fd) :
    ∃ mv : List Value, KBn K fd ["self", "places", "figures", "step", "way", "signs", "grouped", "scaled", "unit"] 1 ["places", "figures", "step", "way", "signs", "grouped", "scaled", "unit"] (fun us ws => g_Wish_init_ord us mv ws) (fun vs zs => g_Wish_init_ord vs [] zs) :=
  F.kbinds0 (ps := ["self", "places", "figures", "step", "way", "signs", "grouped", "scaled", "unit"]) 1 ["places", "figures", "step", "way", "signs", "grouped", "scaled", "unit"] [] (fun us mv ws => g_Wish_init_ord us mv ws) (by simp) (by simp) (fun r1 r2 r3 => g_rel_Wish_init_ord r1 r2 r3) fun D doc pm an cdv ct us mv ws h1 h2 h3 => match us, mv, ws, h1, h2, h3 with | [_], [], [_, _, _, _, _, _, _, _], _, _, _ => rfl
theorem bi_Wish_init_none {K : PySem.W.Frag} {f : Addr} {fd : FuncData} {v0 v1 v2 v3 v4 v5 v6 v7 : V} (F : FunD K "__init__" "Wish.__init__" (defArgs s_Wish_init) (defBody s_Wish_init) (defScope s_Wish_init) [] [(("places" : Str), v0), (("figures" : Str), v1), (("step" : Str), v2), (("way" : Str), v3), (("signs" : Str), v4), (("grouped" : Str), v5), (("scaled" : Str), v6), (("unit" : Str), v7)] f fd) :
    ∃ ds : List Value, Vals [v0, v1, v2, v3, v4, v5, v6, v7] ds ∧ Binds K fd ["self", "places", "figures", "step", "way", "signs", "grouped", "scaled", "unit"] ds :=
  F.binds0 (ps := ["self", "places", "figures", "step", "way", "signs", "grouped", "scaled", "unit"]) 1 (by simp) rfl fun D doc pm an cdv ct us ks h1 h2 => match us, ks, h1, h2 with | [_], [_, _, _, _, _, _, _, _], _, _ => ⟨_, _, _, _, _, _, rfl, rfl, _, _, _, _, _, _, rfl, rfl, _, _, _, _, _, _, rfl, rfl, _, _, _, _, _, _, rfl, rfl, _, _, _, _, _, _, rfl, rfl, _, _, _, _, _, _, rfl, rfl, _, _, _, _, _, _, rfl, rfl, _, _, _, _, _, _, rfl, rfl, rfl⟩
theorem bi_Wish_init_four {K : PySem.W.Frag} {f : Addr} {fd : FuncData} {v0 v1 v2 v3 v4 v5 v6 v7 : V} (F : FunD K "__init__" "Wish.__init__" (defArgs s_Wish_init) (defBody s_Wish_init) (defScope s_Wish_init) [] [(("places" : Str), v0), (("figures" : Str), v1), (("step" : Str), v2), (("way" : Str), v3), (("signs" : Str), v4), (("grouped" : Str), v5), (("scaled" : Str), v6), (("unit" : Str), v7)] f fd) :
    ∃ mv : List Value, KBn K fd ["self", "places", "figures", "step", "way", "signs", "grouped", "scaled", "unit"] 1 ["unit", "way", "signs", "places"] (fun us ws => g_Wish_init_four us mv ws) (fun vs zs => g_Wish_init_four vs [v1, v2, v5, v6] zs) :=
  F.kbinds0 (ps := ["self", "places", "figures", "step", "way", "signs", "grouped", "scaled", "unit"]) 1 ["unit", "way", "signs", "places"] [(("figures" : Str), v1), (("step" : Str), v2), (("grouped" : Str), v5), (("scaled" : Str), v6)] (fun us mv ws => g_Wish_init_four us mv ws) (by simp) (by simp) (fun r1 r2 r3 => g_rel_Wish_init_four r1 r2 r3) fun D doc pm an cdv ct us mv ws h1 h2 h3 => match us, mv, ws, h1, h2, h3 with | [_], [_, _, _, _], [_, _, _, _], _, _, _ => ⟨_, _, _, _, _, _, rfl, rfl, _, _, _, _, _, _, rfl, rfl, _, _, _, _, _, _, rfl, rfl, _, _, _, _, _, _, rfl, rfl, rfl⟩
theorem bi_Wish_init_two {K : PySem.W.Frag} {f : Addr} {fd : FuncData} {v0 v1 v2 v3 v4 v5 v6 v7 : V} (F : FunD K "__init__" "Wish.__init__" (defArgs s_Wish_init) (defBody s_Wish_init) (defScope s_Wish_init) [] [(("places" : Str), v0), (("figures" : Str), v1), (("step" : Str), v2), (("way" : Str), v3), (("signs" : Str), v4), (("grouped" : Str), v5), (("scaled" : Str), v6), (("unit" : Str), v7)] f fd) :
    ∃ mv : List Value, KBn K fd ["self", "places", "figures", "step", "way", "signs", "grouped", "scaled", "unit"] 1 ["grouped", "step"] (fun us ws => g_Wish_init_two us mv ws) (fun vs zs => g_Wish_init_two vs [v0, v1, v3, v4, v6, v7] zs) :=
  F.kbinds0 (ps := ["self", "places", "figures", "step", "way", "signs", "grouped", "scaled", "unit"]) 1 ["grouped", "step"] [(("places" : Str), v0), (("figures" : Str), v1), (("way" : Str), v3), (("signs" : Str), v4), (("scaled" : Str), v6), (("unit" : Str), v7)] (fun us mv ws => g_Wish_init_two us mv ws) (by simp) (by simp) (fun r1 r2 r3 => g_rel_Wish_init_two r1 r2 r3) fun D doc pm an cdv ct us mv ws h1 h2 h3 => match us, mv, ws, h1, h2, h3 with | [_], [_, _, _, _, _, _], [_, _], _, _, _ => ⟨_, _, _, _, _, _, rfl, rfl, _, _, _, _, _, _, rfl, rfl, _, _, _, _, _, _, rfl, rfl, _, _, _, _, _, _, rfl, rfl, _, _, _, _, _, _, rfl, rfl, _, _, _, _, _, _, rfl, rfl, rfl⟩
theorem bi_Wish_init_one_places {K : PySem.W.Frag} {f : Addr} {fd : FuncData} {v0 v1 v2 v3 v4 v5 v6 v7 : V} (F : FunD K "__init__" "Wish.__init__" (defArgs s_Wish_init) (defBody s_Wish_init) (defScope s_Wish_init) [] [(("places" : Str), v0), (("figures" : Str), v1), (("step" : Str), v2), (("way" : Str), v3), (("signs" : Str), v4), (("grouped" : Str), v5), (("scaled" : Str), v6), (("unit" : Str), v7)] f fd) :
    ∃ mv : List Value, KBn K fd ["self", "places", "figures", "step", "way", "signs", "grouped", "scaled", "unit"] 1 ["places"] (fun us ws => g_Wish_init_one_places us mv ws) (fun vs zs => g_Wish_init_one_places vs [v1, v2, v3, v4, v5, v6, v7] zs) :=
  F.kbinds0 (ps := ["self", "places", "figures", "step", "way", "signs", "grouped", "scaled", "unit"]) 1 ["places"] [(("figures" : Str), v1), (("step" : Str), v2), (("way" : Str), v3), (("signs" : Str), v4), (("grouped" : Str), v5), (("scaled" : Str), v6), (("unit" : Str), v7)] (fun us mv ws => g_Wish_init_one_places us mv ws) (by simp) (by simp) (fun r1 r2 r3 => g_rel_Wish_init_one_places r1 r2 r3) fun D doc pm an cdv ct us mv ws h1 h2 h3 => match us, mv, ws, h1, h2, h3 with | [_], [_, _, _, _, _, _, _], [_], _, _, _ => ⟨_, _, _, _, _, _, rfl, rfl, _, _, _, _, _, _, rfl, rfl, _, _, _, _, _, _, rfl, rfl, _, _, _, _, _, _, rfl, rfl, _, _, _, _, _, _, rfl, rfl, _, _, _, _, _, _, rfl, rfl, _, _, _, _, _, _, rfl, rfl, rfl⟩
theorem bi_Wish_init_one_figures {K : PySem.W.Frag} {f : Addr} {fd : FuncData} {v0 v1 v2 v3 v4 v5 v6 v7 : V} (F : FunD K "__init__" "Wish.__init__" (defArgs s_Wish_init) (defBody s_Wish_init) (defScope s_Wish_init) [] [(("places" : Str), v0), (("figures" : Str), v1), (("step" : Str), v2), (("way" : Str), v3), (("signs" : Str), v4), (("grouped" : Str), v5), (("scaled" : Str), v6), (("unit" : Str), v7)] f fd) :
    ∃ mv : List Value, KBn K fd ["self", "places", "figures", "step", "way", "signs", "grouped", "scaled", "unit"] 1 ["figures"] (fun us ws => g_Wish_init_one_figures us mv ws) (fun vs zs => g_Wish_init_one_figures vs [v0, v2, v3, v4, v5, v6, v7] zs) :=
  F.kbinds0 (ps := ["self", "places", "figures", "step", "way", "signs", "grouped", "scaled", "unit"]) 1 ["figures"] [(("places" : Str), v0), (("step" : Str), v2), (("way" : Str), v3), (("signs" : Str), v4), (("grouped" : Str), v5), (("scaled" : Str), v6), (("unit" : Str), v7)] (fun us mv ws => g_Wish_init_one_figures us mv ws) (by simp) (by simp) (fun r1 r2 r3 => g_rel_Wish_init_one_figures r1 r2 r3) fun D doc pm an cdv ct us mv ws h1 h2 h3 => match us, mv, ws, h1, h2, h3 with | [_], [_, _, _, _, _, _, _], [_], _, _, _ => ⟨_, _, _, _, _, _, rfl, rfl, _, _, _, _, _, _, rfl, rfl, _, _, _, _, _, _, rfl, rfl, _, _, _, _, _, _, rfl, rfl, _, _, _, _, _, _, rfl, rfl, _, _, _, _, _, _, rfl, rfl, _, _, _, _, _, _, rfl, rfl, rfl⟩
theorem bi_Wish_init_one_step {K : PySem.W.Frag} {f : Addr} {fd : FuncData} {v0 v1 v2 v3 v4 v5 v6 v7 : V} (F : FunD K "__init__" "Wish.__init__" (defArgs s_Wish_init) (defBody s_Wish_init) (defScope s_Wish_init) [] [(("places" : Str), v0), (("figures" : Str), v1), (("step" : Str), v2), (("way" : Str), v3), (("signs" : Str), v4), (("grouped" : Str), v5), (("scaled" : Str), v6), (("unit" : Str), v7)] f fd) :
    ∃ mv : List Value, KBn K fd ["self", "places", "figures", "step", "way", "signs", "grouped", "scaled", "unit"] 1 ["step"] (fun us ws => g_Wish_init_one_step us mv ws) (fun vs zs => g_Wish_init_one_step vs [v0, v1, v3, v4, v5, v6, v7] zs) :=
  F.kbinds0 (ps := ["self", "places", "figures", "step", "way", "signs", "grouped", "scaled", "unit"]) 1 ["step"] [(("places" : Str), v0), (("figures" : Str), v1), (("way" : Str), v3), (("signs" : Str), v4), (("grouped" : Str), v5), (("scaled" : Str), v6), (("unit" : Str), v7)] (fun us mv ws => g_Wish_init_one_step us mv ws) (by simp) (by simp) (fun r1 r2 r3 => g_rel_Wish_init_one_step r1 r2 r3) fun D doc pm an cdv ct us mv ws h1 h2 h3 => match us, mv, ws, h1, h2, h3 with | [_], [_, _, _, _, _, _, _], [_], _, _, _ => ⟨_, _, _, _, _, _, rfl, rfl, _, _, _, _, _, _, rfl, rfl, _, _, _, _, _, _, rfl, rfl, _, _, _, _, _, _, rfl, rfl, _, _, _, _, _, _, rfl, rfl, _, _, _, _, _, _, rfl, rfl, _, _, _, _, _, _, rfl, rfl, rfl⟩
theorem bi_Wish_init_one_way {K : PySem.W.Frag} {f : Addr} {fd : FuncData} {v0 v1 v2 v3 v4 v5 v6 v7 : V} (F : FunD K "__init__" "Wish.__init__" (defArgs s_Wish_init) (defBody s_Wish_init) (defScope s_Wish_init) [] [(("places" : Str), v0), (("figures" : Str), v1), (("step" : Str), v2), (("way" : Str), v3), (("signs" : Str), v4), (("grouped" : Str), v5), (("scaled" : Str), v6), (("unit" : Str), v7)] f fd) :
    ∃ mv : List Value, KBn K fd ["self", "places", "figures", "step", "way", "signs", "grouped", "scaled", "unit"] 1 ["way"] (fun us ws => g_Wish_init_one_way us mv ws) (fun vs zs => g_Wish_init_one_way vs [v0, v1, v2, v4, v5, v6, v7] zs) :=
  F.kbinds0 (ps := ["self", "places", "figures", "step", "way", "signs", "grouped", "scaled", "unit"]) 1 ["way"] [(("places" : Str), v0), (("figures" : Str), v1), (("step" : Str), v2), (("signs" : Str), v4), (("grouped" : Str), v5), (("scaled" : Str), v6), (("unit" : Str), v7)] (fun us mv ws => g_Wish_init_one_way us mv ws) (by simp) (by simp) (fun r1 r2 r3 => g_rel_Wish_init_one_way r1 r2 r3) fun D doc pm an cdv ct us mv ws h1 h2 h3 => match us, mv, ws, h1, h2, h3 with | [_], [_, _, _, _, _, _, _], [_], _, _, _ => ⟨_, _, _, _, _, _, rfl, rfl, _, _, _, _, _, _, rfl, rfl, _, _, _, _, _, _, rfl, rfl, _, _, _, _, _, _, rfl, rfl, _, _, _, _, _, _, rfl, rfl, _, _, _, _, _, _, rfl, rfl, _, _, _, _, _, _, rfl, rfl, rfl⟩
theorem bi_Wish_init_one_signs {K : PySem.W.Frag} {f : Addr} {fd : FuncData} {v0 v1 v2 v3 v4 v5 v6 v7 : V} (F : FunD K "__init__" "Wish.__init__" (defArgs s_Wish_init) (defBody s_Wish_init) (defScope s_Wish_init) [] [(("places" : Str), v0), (("figures" : Str), v1), (("step" : Str), v2), (("way" : Str), v3), (("signs" : Str), v4), (("grouped" : Str), v5), (("scaled" : Str), v6), (("unit" : Str), v7)] f fd) :
    ∃ mv : List Value, KBn K fd ["self", "places", "figures", "step", "way", "signs", "grouped", "scaled", "unit"] 1 ["signs"] (fun us ws => g_Wish_init_one_signs us mv ws) (fun vs zs => g_Wish_init_one_signs vs [v0, v1, v2, v3, v5, v6, v7] zs) :=
  F.kbinds0 (ps := ["self", "places", "figures", "step", "way", "signs", "grouped", "scaled", "unit"]) 1 ["signs"] [(("places" : Str), v0), (("figures" : Str), v1), (("step" : Str), v2), (("way" : Str), v3), (("grouped" : Str), v5), (("scaled" : Str), v6), (("unit" : Str), v7)] (fun us mv ws => g_Wish_init_one_signs us mv ws) (by simp) (by simp) (fun r1 r2 r3 => g_rel_Wish_init_one_signs r1 r2 r3) fun D doc pm an cdv ct us mv ws h1 h2 h3 => match us, mv, ws, h1, h2, h3 with | [_], [_, _, _, _, _, _, _], [_], _, _, _ => ⟨_, _, _, _, _, _, rfl, rfl, _, _, _, _, _, _, rfl, rfl, _, _, _, _, _, _, rfl, rfl, _, _, _, _, _, _, rfl, rfl, _, _, _, _, _, _, rfl, rfl, _, _, _, _, _, _, rfl, rfl, _, _, _, _, _, _, rfl, rfl, rfl⟩
theorem bi_Wish_init_one_grouped {K : PySem.W.Frag} {f : Addr} {fd : FuncData} {v0 v1 v2 v3 v4 v5 v6 v7 : V} (F : FunD K "__init__" "Wish.__init__" (defArgs s_Wish_init) (defBody s_Wish_init) (defScope s_Wish_init) [] [(("places" : Str), v0), (("figures" : Str), v1), (("step" : Str), v2), (("way" : Str), v3), (("signs" : Str), v4), (("grouped" : Str), v5), (("scaled" : Str), v6), (("unit" : Str), v7)] f fd) :
    ∃ mv : List Value, KBn K fd ["self", "places", "figures", "step", "way", "signs", "grouped", "scaled", "unit"] 1 ["grouped"] (fun us ws => g_Wish_init_one_grouped us mv ws) (fun vs zs => g_Wish_init_one_grouped vs [v0, v1, v2, v3, v4, v6, v7] zs) :=
  F.kbinds0 (ps := ["self", "places", "figures", "step", "way", "signs", "grouped", "scaled", "unit"]) 1 ["grouped"] [(("places" : Str), v0), (("figures" : Str), v1), (("step" : Str), v2), (("way" : Str), v3), (("signs" : Str), v4), (("scaled" : Str), v6), (("unit" : Str), v7)] (fun us mv ws => g_Wish_init_one_grouped us mv ws) (by simp) (by simp) (fun r1 r2 r3 => g_rel_Wish_init_one_grouped r1 r2 r3) fun D doc pm an cdv ct us mv ws h1 h2 h3 => match us, mv, ws, h1, h2, h3 with | [_], [_, _, _, _, _, _, _], [_], _, _, _ => ⟨_, _, _, _, _, _, rfl, rfl, _, _, _, _, _, _, rfl, rfl, _, _, _, _, _, _, rfl, rfl, _, _, _, _, _, _, rfl, rfl, _, _, _, _, _, _, rfl, rfl, _, _, _, _, _, _, rfl, rfl, _, _, _, _, _, _, rfl, rfl, rfl⟩
theorem bi_Wish_init_one_scaled {K : PySem.W.Frag} {f : Addr} {fd : FuncData} {v0 v1 v2 v3 v4 v5 v6 v7 : V} (F : FunD K "__init__" "Wish.__init__" (defArgs s_Wish_init) (defBody s_Wish_init) (defScope s_Wish_init) [] [(("places" : Str), v0), (("figures" : Str), v1), (("step" : Str), v2), (("way" : Str), v3), (("signs" : Str), v4), (("grouped" : Str), v5), (("scaled" : Str), v6), (("unit" : Str), v7)] f fd) :
    ∃ mv : List Value, KBn K fd ["self", "places", "figures", "step", "way", "signs", "grouped", "scaled", "unit"] 1 ["scaled"] (fun us ws => g_Wish_init_one_scaled us mv ws) (fun vs zs => g_Wish_init_one_scaled vs [v0, v1, v2, v3, v4, v5, v7] zs) :=
  F.kbinds0 (ps := ["self", "places", "figures", "step", "way", "signs", "grouped", "scaled", "unit"]) 1 ["scaled"] [(("places" : Str), v0), (("figures" : Str), v1), (("step" : Str), v2), (("way" : Str), v3), (("signs" : Str), v4), (("grouped" : Str), v5), (("unit" : Str), v7)] (fun us mv ws => g_Wish_init_one_scaled us mv ws) (by simp) (by simp) (fun r1 r2 r3 => g_rel_Wish_init_one_scaled r1 r2 r3) fun D doc pm an cdv ct us mv ws h1 h2 h3 => match us, mv, ws, h1, h2, h3 with | [_], [_, _, _, _, _, _, _], [_], _, _, _ => ⟨_, _, _, _, _, _, rfl, rfl, _, _, _, _, _, _, rfl, rfl, _, _, _, _, _, _, rfl, rfl, _, _, _, _, _, _, rfl, rfl, _, _, _, _, _, _, rfl, rfl, _, _, _, _, _, _, rfl, rfl, _, _, _, _, _, _, rfl, rfl, rfl⟩
theorem bi_Wish_init_one_unit {K : PySem.W.Frag} {f : Addr} {fd : FuncData} {v0 v1 v2 v3 v4 v5 v6 v7 : V} (F : FunD K "__init__" "Wish.__init__" (defArgs s_Wish_init) (defBody s_Wish_init) (defScope s_Wish_init) [] [(("places" : Str), v0), (("figures" : Str), v1), (("step" : Str), v2), (("way" : Str), v3), (("signs" : Str), v4), (("grouped" : Str), v5), (("scaled" : Str), v6), (("unit" : Str), v7)] f fd) :
    ∃ mv : List Value, KBn K fd ["self", "places", "figures", "step", "way", "signs", "grouped", "scaled", "unit"] 1 ["unit"] (fun us ws => g_Wish_init_one_unit us mv ws) (fun vs zs => g_Wish_init_one_unit vs [v0, v1, v2, v3, v4, v5, v6] zs) :=
  F.kbinds0 (ps := ["self", "places", "figures", "step", "way", "signs", "grouped", "scaled", "unit"]) 1 ["unit"] [(("places" : Str), v0), (("figures" : Str), v1), (("step" : Str), v2), (("way" : Str), v3), (("signs" : Str), v4), (("grouped" : Str), v5), (("scaled" : Str), v6)] (fun us mv ws => g_Wish_init_one_unit us mv ws) (by simp) (by simp) (fun r1 r2 r3 => g_rel_Wish_init_one_unit r1 r2 r3) fun D doc pm an cdv ct us mv ws h1 h2 h3 => match us, mv, ws, h1, h2, h3 with | [_], [_, _, _, _, _, _, _], [_], _, _, _ => ⟨_, _, _, _, _, _, rfl, rfl, _, _, _, _, _, _, rfl, rfl, _, _, _, _, _, _, rfl, rfl, _, _, _, _, _, _, rfl, rfl, _, _, _, _, _, _, rfl, rfl, _, _, _, _, _, _, rfl, rfl, _, _, _, _, _, _, rfl, rfl, rfl⟩
theorem bi_Wish_but_sf {K : PySem.W.Frag} {f : Addr} {fd : FuncData} {v0 v1 v2 v3 v4 v5 v6 v7 : V} (F : FunD K "but" "Wish.but" (defArgs s_Wish_but) (defBody s_Wish_but) (defScope s_Wish_but) [] [(("places" : Str), v0), (("figures" : Str), v1), (("step" : Str), v2), (("way" : Str), v3), (("signs" : Str), v4), (("grouped" : Str), v5), (("scaled" : Str), v6), (("unit" : Str), v7)] f fd) :
    ∃ mv : List Value, KBn K fd ["self", "places", "figures", "step", "way", "signs", "grouped", "scaled", "unit"] 1 ["scaled", "figures"] (fun us ws => g_Wish_but_sf us mv ws) (fun vs zs => g_Wish_but_sf vs [v0, v2, v3, v4, v5, v7] zs) :=
  F.kbinds0 (ps := ["self", "places", "figures", "step", "way", "signs", "grouped", "scaled", "unit"]) 1 ["scaled", "figures"] [(("places" : Str), v0), (("step" : Str), v2), (("way" : Str), v3), (("signs" : Str), v4), (("grouped" : Str), v5), (("unit" : Str), v7)] (fun us mv ws => g_Wish_but_sf us mv ws) (by simp) (by simp) (fun r1 r2 r3 => g_rel_Wish_but_sf r1 r2 r3) fun D doc pm an cdv ct us mv ws h1 h2 h3 => match us, mv, ws, h1, h2, h3 with | [_], [_, _, _, _, _, _], [_, _], _, _, _ => ⟨_, _, _, _, _, _, rfl, rfl, _, _, _, _, _, _, rfl, rfl, _, _, _, _, _, _, rfl, rfl, _, _, _, _, _, _, rfl, rfl, _, _, _, _, _, _, rfl, rfl, _, _, _, _, _, _, rfl, rfl, rfl⟩
theorem all_mk {l : PySem.W.OpenLaw} {w : World} {K : PySem.W.Frag} {h : Heap} {mg : Str → Option Value} {fa : Addr} (X : K.In h) (G : h.Ns mainGlobals mg) (hfa : mg "law" = some (.ref fa))
    {C_Number : Addr}
    {C_Wish : Addr}
    {f_is_whole : Addr} {od_is_whole an_is_whole : Option Addr} {sl_is_whole : Array (Option Value)} {oc_is_whole dc_is_whole pm_is_whole cd_is_whole ct_is_whole : Value}
    {kV_is_whole : Value}
    {f_is_whole_between : Addr} {od_is_whole_between an_is_whole_between : Option Addr} {sl_is_whole_between : Array (Option Value)} {oc_is_whole_between dc_is_whole_between pm_is_whole_between cd_is_whole_between ct_is_whole_between : Value}
    {kV_is_whole_between : Value}
    {f_told_or : Addr} {od_told_or an_told_or : Option Addr} {sl_told_or : Array (Option Value)} {oc_told_or dc_told_or pm_told_or cd_told_or ct_told_or : Value}
    {kV_told_or : Value}
    {f_Number_init : Addr} {od_Number_init an_Number_init : Option Addr} {sl_Number_init : Array (Option Value)} {oc_Number_init dc_Number_init pm_Number_init cd_Number_init ct_Number_init : Value}
    {kV_Number_init : Value}
    {Td_Number_init : Addr} {cT_Number_init : Value} {dT_Number_init : Option Addr} {nT_Number_init : Nat} {sT_Number_init : Array (Option Value)} {tk_Number_init : Tok}
    {f_places_of : Addr} {od_places_of an_places_of : Option Addr} {sl_places_of : Array (Option Value)} {oc_places_of dc_places_of pm_places_of cd_places_of ct_places_of : Value}
    {kV_places_of : Value}
    {f_times_within : Addr} {od_times_within an_times_within : Option Addr} {sl_times_within : Array (Option Value)} {oc_times_within dc_times_within pm_times_within cd_times_within ct_times_within : Value}
    {kV_times_within : Value}
    {f_is_step : Addr} {od_is_step an_is_step : Option Addr} {sl_is_step : Array (Option Value)} {oc_is_step dc_is_step pm_is_step cd_is_step ct_is_step : Value}
    {kV_is_step : Value}
    {f_Wish_init : Addr} {od_Wish_init an_Wish_init : Option Addr} {sl_Wish_init : Array (Option Value)} {oc_Wish_init dc_Wish_init pm_Wish_init cd_Wish_init ct_Wish_init : Value}
    {Kd_Wish_init : Addr}
    {f_Wish_but : Addr} {od_Wish_but an_Wish_but : Option Addr} {sl_Wish_but : Array (Option Value)} {oc_Wish_but dc_Wish_but pm_Wish_but cd_Wish_but ct_Wish_but : Value}
    {Kd_Wish_but : Addr}
    {f_first_wrong : Addr} {od_first_wrong an_first_wrong : Option Addr} {sl_first_wrong : Array (Option Value)} {oc_first_wrong dc_first_wrong pm_first_wrong cd_first_wrong ct_first_wrong : Value}
    {kV_first_wrong : Value}
    {f_is_places : Addr} {od_is_places an_is_places : Option Addr} {sl_is_places : Array (Option Value)} {oc_is_places dc_is_places pm_is_places cd_is_places ct_is_places : Value}
    {kV_is_places : Value}
    {f_is_step_within : Addr} {od_is_step_within an_is_step_within : Option Addr} {sl_is_step_within : Array (Option Value)} {oc_is_step_within dc_is_step_within pm_is_step_within cd_is_step_within ct_is_step_within : Value}
    {kV_is_step_within : Value}
    {f_is_unit : Addr} {od_is_unit an_is_unit : Option Addr} {sl_is_unit : Array (Option Value)} {oc_is_unit dc_is_unit pm_is_unit cd_is_unit ct_is_unit : Value}
    {kV_is_unit : Value}
    {f_l_deck : Addr} {od_l_deck an_l_deck : Option Addr} {sl_l_deck : Array (Option Value)} {oc_l_deck dc_l_deck pm_l_deck cd_l_deck ct_l_deck : Value}
    {kV_l_deck : Value}
    {f_l_draw : Addr} {od_l_draw an_l_draw : Option Addr} {sl_l_draw : Array (Option Value)} {oc_l_draw dc_l_draw pm_l_draw cd_l_draw ct_l_draw : Value}
    {kV_l_draw : Value}
    {f_l_ways : Addr} {od_l_ways an_l_ways : Option Addr} {sl_l_ways : Array (Option Value)} {oc_l_ways dc_l_ways pm_l_ways cd_l_ways ct_l_ways : Value}
    {kV_l_ways : Value}
    {f_l_made : Addr} {od_l_made an_l_made : Option Addr} {sl_l_made : Array (Option Value)} {oc_l_made dc_l_made pm_l_made cd_l_made ct_l_made : Value}
    {kV_l_made : Value}
    {f_l_told : Addr} {od_l_told an_l_told : Option Addr} {sl_l_told : Array (Option Value)} {oc_l_told dc_l_told pm_l_told cd_l_told ct_l_told : Value}
    {kV_l_told : Value}
    {f_l_due : Addr} {od_l_due an_l_due : Option Addr} {sl_l_due : Array (Option Value)} {oc_l_due dc_l_due pm_l_due cd_l_due ct_l_due : Value}
    {kV_l_due : Value}
    {f_l_whole : Addr} {od_l_whole an_l_whole : Option Addr} {sl_l_whole : Array (Option Value)} {oc_l_whole dc_l_whole pm_l_whole cd_l_whole ct_l_whole : Value}
    {kV_l_whole : Value}
    {f_l_many_places : Addr} {od_l_many_places an_l_many_places : Option Addr} {sl_l_many_places : Array (Option Value)} {oc_l_many_places dc_l_many_places pm_l_many_places cd_l_many_places ct_l_many_places : Value}
    {kV_l_many_places : Value}
    {f_l_is_step : Addr} {od_l_is_step an_l_is_step : Option Addr} {sl_l_is_step : Array (Option Value)} {oc_l_is_step dc_l_is_step pm_l_is_step cd_l_is_step ct_l_is_step : Value}
    {kV_l_is_step : Value}
    {f_l_fault : Addr} {od_l_fault an_l_fault : Option Addr} {sl_l_fault : Array (Option Value)} {oc_l_fault dc_l_fault pm_l_fault cd_l_fault ct_l_fault : Value}
    {kV_l_fault : Value}
    {f_l_heard : Addr} {od_l_heard an_l_heard : Option Addr} {sl_l_heard : Array (Option Value)} {oc_l_heard dc_l_heard pm_l_heard cd_l_heard ct_l_heard : Value}
    {kV_l_heard : Value}
    {f_l_right : Addr} {od_l_right an_l_right : Option Addr} {sl_l_right : Array (Option Value)} {oc_l_right dc_l_right pm_l_right cd_l_right ct_l_right : Value}
    {kV_l_right : Value}
    {f_l_plain : Addr} {od_l_plain an_l_plain : Option Addr} {sl_l_plain : Array (Option Value)} {oc_l_plain dc_l_plain pm_l_plain cd_l_plain ct_l_plain : Value}
    {kV_l_plain : Value}
    {f_l_put : Addr} {od_l_put an_l_put : Option Addr} {sl_l_put : Array (Option Value)} {oc_l_put dc_l_put pm_l_put cd_l_put ct_l_put : Value}
    {kV_l_put : Value}
    {f_l_left_out : Addr} {od_l_left_out an_l_left_out : Option Addr} {sl_l_left_out : Array (Option Value)} {oc_l_left_out dc_l_left_out pm_l_left_out cd_l_left_out ct_l_left_out : Value}
    {kV_l_left_out : Value}
    {f_l_steps : Addr} {od_l_steps an_l_steps : Option Addr} {sl_l_steps : Array (Option Value)} {oc_l_steps dc_l_steps pm_l_steps cd_l_steps ct_l_steps : Value}
    {kV_l_steps : Value}
    {f_law : Addr} {od_law an_law : Option Addr} {sl_law : Array (Option Value)} {oc_law dc_law pm_law cd_law ct_law : Value}
    {kV_law : Value}
    {f_FigureErrorI : Addr} {od_FigureError an_FigureError : Option Addr} {sl_FigureError : Array (Option Value)} {oc_FigureError dc_FigureError pm_FigureError cd_FigureError ct_FigureError : Value}
    {C_NoWish N_NoWish : Addr} {nm_NoWish q_NoWish : Str} {bs_NoWish : List Value} {sn_NoWish : List Str} {sub_NoWish : List Value} {ab_NoWish : Bool} {col_NoWish : Option Bool} {dd_NoWish : Option Addr} {k0_NoWish k1_NoWish k2_NoWish k3_NoWish k5_NoWish : Option Value}
    {C_FigureError C_NoCustom C_NoFit C_NoRead C_NoName : Addr}
    {t_SIGNS : Tok}
    {A_PLACES : Addr} {d_PLACES : Option Addr} {n_PLACES : Nat} {s_PLACES : Array (Option Value)} {tk0_PLACES tk1_PLACES : Tok}
    {A_UNIT : Addr} {d_UNIT : Option Addr} {n_UNIT : Nat} {s_UNIT : Array (Option Value)} {tk0_UNIT tk1_UNIT : Tok}
    {A_ALL_SIGNS : Addr} {d_ALL_SIGNS : Option Addr} {n_ALL_SIGNS : Nat} {s_ALL_SIGNS : Array (Option Value)} {tk0_ALL_SIGNS tk1_ALL_SIGNS : Tok}
    {tw_Wish_init_way : Tok}
    {tw_Wish_init_signs : Tok}
    {A_WAYS : Addr} {dW : Option Addr} {nW : Nat} {sW : Array (Option Value)} {tW0 tW1 tW2 tW3 tW4 tW5 tW6 tW7 : Tok}
    {tWAY : Tok}
    {t_c_MOST_PLACES : Tok}
    {t_c_MOST_FIGURES : Tok}
    {t_c_MOST_UNIT : Tok}
    (aC_Number : PySem.W.nsIn K mainGlobals "Number" = some (some (.ref C_Number)))
    (pg_Number : PySem.W.plainGet K C_Number Str.empty = true)
    (hd_Number : PySem.W.hasDictIn K C_Number = true)
    (po_Number : PySem.W.plainOver K C_Number = true)
    (sa_Number : PySem.W.findIn K (.ref C_Number) "__setattr__" = some (some (.builtin "object.__setattr__")))
    (nf_Number_top : PySem.W.findIn K (.ref C_Number) "top" = some none)
    (nf_Number_bottom : PySem.W.findIn K (.ref C_Number) "bottom" = some none)
    (tc_Number : PySem.W.findIn K (.ref C_Number) "__class__" = some (some (.builtin "object.__class__")))
    (tg_Number : PySem.W.specialIn K (.builtin "object.__class__") "__get__" = some (some (.builtin "getset_descriptor.__get__")))
    (tt_Number : PySem.W.takesIn K (.builtin "object.__class__") = some true)
    (tm_Number : PySem.W.mroIn K C_Number (.type "object") = some true)
    (nn_Number : PySem.W.findIn K (.ref C_Number) "__ne__" = some (some (.builtin "object.__ne__")))
    (mi_Number : PySem.W.makesIn K C_Number = true)
    (kc_Number : PySem.W.keepIn K (.ref C_Number) = true)
    (aC_Wish : PySem.W.nsIn K mainGlobals "Wish" = some (some (.ref C_Wish)))
    (pg_Wish : PySem.W.plainGet K C_Wish Str.empty = true)
    (hd_Wish : PySem.W.hasDictIn K C_Wish = true)
    (po_Wish : PySem.W.plainOver K C_Wish = true)
    (sa_Wish : PySem.W.findIn K (.ref C_Wish) "__setattr__" = some (some (.builtin "object.__setattr__")))
    (nf_Wish_places : PySem.W.findIn K (.ref C_Wish) "places" = some none)
    (nf_Wish_figures : PySem.W.findIn K (.ref C_Wish) "figures" = some none)
    (nf_Wish_step : PySem.W.findIn K (.ref C_Wish) "step" = some none)
    (nf_Wish_way : PySem.W.findIn K (.ref C_Wish) "way" = some none)
    (nf_Wish_signs : PySem.W.findIn K (.ref C_Wish) "signs" = some none)
    (nf_Wish_grouped : PySem.W.findIn K (.ref C_Wish) "grouped" = some none)
    (nf_Wish_scaled : PySem.W.findIn K (.ref C_Wish) "scaled" = some none)
    (nf_Wish_unit : PySem.W.findIn K (.ref C_Wish) "unit" = some none)
    (tc_Wish : PySem.W.findIn K (.ref C_Wish) "__class__" = some (some (.builtin "object.__class__")))
    (tg_Wish : PySem.W.specialIn K (.builtin "object.__class__") "__get__" = some (some (.builtin "getset_descriptor.__get__")))
    (tt_Wish : PySem.W.takesIn K (.builtin "object.__class__") = some true)
    (tm_Wish : PySem.W.mroIn K C_Wish (.type "object") = some true)
    (nn_Wish : PySem.W.findIn K (.ref C_Wish) "__ne__" = some (some (.builtin "object.__ne__")))
    (mi_Wish : PySem.W.makesIn K C_Wish = true)
    (kc_Wish : PySem.W.keepIn K (.ref C_Wish) = true)
    (a_is_whole : PySem.W.nsIn K mainGlobals "is_whole" = some (some (.ref f_is_whole)))
    (l_is_whole : K.lookup f_is_whole = some ⟨oc_is_whole, od_is_whole, .func (PySem.W.fnOf "is_whole" "is_whole" (defArgs s_is_whole) (defBody s_is_whole) (defScope s_is_whole) .none kV_is_whole dc_is_whole pm_is_whole an_is_whole cd_is_whole ct_is_whole), sl_is_whole⟩)
    (c_is_whole : PySem.W.codeIn K cd_is_whole "is_whole" = true)
    (k_is_whole : PySem.W.keepIn K (.ref f_is_whole) = true)
    (a_is_whole_between : PySem.W.nsIn K mainGlobals "is_whole_between" = some (some (.ref f_is_whole_between)))
    (l_is_whole_between : K.lookup f_is_whole_between = some ⟨oc_is_whole_between, od_is_whole_between, .func (PySem.W.fnOf "is_whole_between" "is_whole_between" (defArgs s_is_whole_between) (defBody s_is_whole_between) (defScope s_is_whole_between) .none kV_is_whole_between dc_is_whole_between pm_is_whole_between an_is_whole_between cd_is_whole_between ct_is_whole_between), sl_is_whole_between⟩)
    (c_is_whole_between : PySem.W.codeIn K cd_is_whole_between "is_whole_between" = true)
    (k_is_whole_between : PySem.W.keepIn K (.ref f_is_whole_between) = true)
    (a_told_or : PySem.W.nsIn K mainGlobals "told_or" = some (some (.ref f_told_or)))
    (l_told_or : K.lookup f_told_or = some ⟨oc_told_or, od_told_or, .func (PySem.W.fnOf "told_or" "told_or" (defArgs s_told_or) (defBody s_told_or) (defScope s_told_or) .none kV_told_or dc_told_or pm_told_or an_told_or cd_told_or ct_told_or), sl_told_or⟩)
    (c_told_or : PySem.W.codeIn K cd_told_or "told_or" = true)
    (k_told_or : PySem.W.keepIn K (.ref f_told_or) = true)
    (a_Number_init : PySem.W.findIn K (.ref C_Number) "__init__" = some (some (.ref f_Number_init)))
    (i_Number_init : PySem.W.isFn K (.ref f_Number_init) = true)
    (l_Number_init : K.lookup f_Number_init = some ⟨oc_Number_init, od_Number_init, .func (PySem.W.fnOf "__init__" "Number.__init__" (defArgs s_Number_init) (defBody s_Number_init) (defScope s_Number_init) (.ref Td_Number_init) kV_Number_init dc_Number_init pm_Number_init an_Number_init cd_Number_init ct_Number_init), sl_Number_init⟩)
    (c_Number_init : PySem.W.codeIn K cd_Number_init "Number.__init__" = true)
    (k_Number_init : PySem.W.keepIn K (.ref f_Number_init) = true)
    (T_Number_init : K.lookup Td_Number_init = some ⟨cT_Number_init, dT_Number_init, .seq #[.int 1 tk_Number_init] nT_Number_init, sT_Number_init⟩)
    (a_places_of : PySem.W.nsIn K mainGlobals "places_of" = some (some (.ref f_places_of)))
    (l_places_of : K.lookup f_places_of = some ⟨oc_places_of, od_places_of, .func (PySem.W.fnOf "places_of" "places_of" (defArgs s_places_of) (defBody s_places_of) (defScope s_places_of) .none kV_places_of dc_places_of pm_places_of an_places_of cd_places_of ct_places_of), sl_places_of⟩)
    (c_places_of : PySem.W.codeIn K cd_places_of "places_of" = true)
    (k_places_of : PySem.W.keepIn K (.ref f_places_of) = true)
    (a_times_within : PySem.W.nsIn K mainGlobals "_times_within" = some (some (.ref f_times_within)))
    (l_times_within : K.lookup f_times_within = some ⟨oc_times_within, od_times_within, .func (PySem.W.fnOf "_times_within" "_times_within" (defArgs s_times_within) (defBody s_times_within) (defScope s_times_within) .none kV_times_within dc_times_within pm_times_within an_times_within cd_times_within ct_times_within), sl_times_within⟩)
    (c_times_within : PySem.W.codeIn K cd_times_within "_times_within" = true)
    (k_times_within : PySem.W.keepIn K (.ref f_times_within) = true)
    (a_is_step : PySem.W.nsIn K mainGlobals "is_step" = some (some (.ref f_is_step)))
    (l_is_step : K.lookup f_is_step = some ⟨oc_is_step, od_is_step, .func (PySem.W.fnOf "is_step" "is_step" (defArgs s_is_step) (defBody s_is_step) (defScope s_is_step) .none kV_is_step dc_is_step pm_is_step an_is_step cd_is_step ct_is_step), sl_is_step⟩)
    (c_is_step : PySem.W.codeIn K cd_is_step "is_step" = true)
    (k_is_step : PySem.W.keepIn K (.ref f_is_step) = true)
    (a_Wish_init : PySem.W.findIn K (.ref C_Wish) "__init__" = some (some (.ref f_Wish_init)))
    (i_Wish_init : PySem.W.isFn K (.ref f_Wish_init) = true)
    (l_Wish_init : K.lookup f_Wish_init = some ⟨oc_Wish_init, od_Wish_init, .func (PySem.W.fnOf "__init__" "Wish.__init__" (defArgs s_Wish_init) (defBody s_Wish_init) (defScope s_Wish_init) .none (.ref Kd_Wish_init) dc_Wish_init pm_Wish_init an_Wish_init cd_Wish_init ct_Wish_init), sl_Wish_init⟩)
    (c_Wish_init : PySem.W.codeIn K cd_Wish_init "Wish.__init__" = true)
    (k_Wish_init : PySem.W.keepIn K (.ref f_Wish_init) = true)
    (a_Wish_but : PySem.W.findIn K (.ref C_Wish) "but" = some (some (.ref f_Wish_but)))
    (i_Wish_but : PySem.W.isFn K (.ref f_Wish_but) = true)
    (l_Wish_but : K.lookup f_Wish_but = some ⟨oc_Wish_but, od_Wish_but, .func (PySem.W.fnOf "but" "Wish.but" (defArgs s_Wish_but) (defBody s_Wish_but) (defScope s_Wish_but) .none (.ref Kd_Wish_but) dc_Wish_but pm_Wish_but an_Wish_but cd_Wish_but ct_Wish_but), sl_Wish_but⟩)
    (c_Wish_but : PySem.W.codeIn K cd_Wish_but "Wish.but" = true)
    (k_Wish_but : PySem.W.keepIn K (.ref f_Wish_but) = true)
    (a_first_wrong : PySem.W.nsIn K mainGlobals "_first_wrong" = some (some (.ref f_first_wrong)))
    (l_first_wrong : K.lookup f_first_wrong = some ⟨oc_first_wrong, od_first_wrong, .func (PySem.W.fnOf "_first_wrong" "_first_wrong" (defArgs s_first_wrong) (defBody s_first_wrong) (defScope s_first_wrong) .none kV_first_wrong dc_first_wrong pm_first_wrong an_first_wrong cd_first_wrong ct_first_wrong), sl_first_wrong⟩)
    (c_first_wrong : PySem.W.codeIn K cd_first_wrong "_first_wrong" = true)
    (k_first_wrong : PySem.W.keepIn K (.ref f_first_wrong) = true)
    (a_is_places : PySem.W.nsIn K mainGlobals "_is_places" = some (some (.ref f_is_places)))
    (l_is_places : K.lookup f_is_places = some ⟨oc_is_places, od_is_places, .func (PySem.W.fnOf "_is_places" "_is_places" (defArgs s_is_places) (defBody s_is_places) (defScope s_is_places) .none kV_is_places dc_is_places pm_is_places an_is_places cd_is_places ct_is_places), sl_is_places⟩)
    (c_is_places : PySem.W.codeIn K cd_is_places "_is_places" = true)
    (k_is_places : PySem.W.keepIn K (.ref f_is_places) = true)
    (a_is_step_within : PySem.W.nsIn K mainGlobals "is_step_within" = some (some (.ref f_is_step_within)))
    (l_is_step_within : K.lookup f_is_step_within = some ⟨oc_is_step_within, od_is_step_within, .func (PySem.W.fnOf "is_step_within" "is_step_within" (defArgs s_is_step_within) (defBody s_is_step_within) (defScope s_is_step_within) .none kV_is_step_within dc_is_step_within pm_is_step_within an_is_step_within cd_is_step_within ct_is_step_within), sl_is_step_within⟩)
    (c_is_step_within : PySem.W.codeIn K cd_is_step_within "is_step_within" = true)
    (k_is_step_within : PySem.W.keepIn K (.ref f_is_step_within) = true)
    (a_is_unit : PySem.W.nsIn K mainGlobals "_is_unit" = some (some (.ref f_is_unit)))
    (l_is_unit : K.lookup f_is_unit = some ⟨oc_is_unit, od_is_unit, .func (PySem.W.fnOf "_is_unit" "_is_unit" (defArgs s_is_unit) (defBody s_is_unit) (defScope s_is_unit) .none kV_is_unit dc_is_unit pm_is_unit an_is_unit cd_is_unit ct_is_unit), sl_is_unit⟩)
    (c_is_unit : PySem.W.codeIn K cd_is_unit "_is_unit" = true)
    (k_is_unit : PySem.W.keepIn K (.ref f_is_unit) = true)
    (a_l_deck : PySem.W.nsIn K mainGlobals "_law_deck" = some (some (.ref f_l_deck)))
    (l_l_deck : K.lookup f_l_deck = some ⟨oc_l_deck, od_l_deck, .func (PySem.W.fnOf "_law_deck" "_law_deck" (defArgs s_l_deck) (defBody s_l_deck) (defScope s_l_deck) .none kV_l_deck dc_l_deck pm_l_deck an_l_deck cd_l_deck ct_l_deck), sl_l_deck⟩)
    (c_l_deck : PySem.W.codeIn K cd_l_deck "_law_deck" = true)
    (k_l_deck : PySem.W.keepIn K (.ref f_l_deck) = true)
    (a_l_draw : PySem.W.nsIn K mainGlobals "_law_draw" = some (some (.ref f_l_draw)))
    (l_l_draw : K.lookup f_l_draw = some ⟨oc_l_draw, od_l_draw, .func (PySem.W.fnOf "_law_draw" "_law_draw" (defArgs s_l_draw) (defBody s_l_draw) (defScope s_l_draw) .none kV_l_draw dc_l_draw pm_l_draw an_l_draw cd_l_draw ct_l_draw), sl_l_draw⟩)
    (c_l_draw : PySem.W.codeIn K cd_l_draw "_law_draw" = true)
    (k_l_draw : PySem.W.keepIn K (.ref f_l_draw) = true)
    (a_l_ways : PySem.W.nsIn K mainGlobals "_law_ways" = some (some (.ref f_l_ways)))
    (l_l_ways : K.lookup f_l_ways = some ⟨oc_l_ways, od_l_ways, .func (PySem.W.fnOf "_law_ways" "_law_ways" (defArgs s_l_ways) (defBody s_l_ways) (defScope s_l_ways) .none kV_l_ways dc_l_ways pm_l_ways an_l_ways cd_l_ways ct_l_ways), sl_l_ways⟩)
    (c_l_ways : PySem.W.codeIn K cd_l_ways "_law_ways" = true)
    (k_l_ways : PySem.W.keepIn K (.ref f_l_ways) = true)
    (a_l_made : PySem.W.nsIn K mainGlobals "_law_made" = some (some (.ref f_l_made)))
    (l_l_made : K.lookup f_l_made = some ⟨oc_l_made, od_l_made, .func (PySem.W.fnOf "_law_made" "_law_made" (defArgs s_l_made) (defBody s_l_made) (defScope s_l_made) .none kV_l_made dc_l_made pm_l_made an_l_made cd_l_made ct_l_made), sl_l_made⟩)
    (c_l_made : PySem.W.codeIn K cd_l_made "_law_made" = true)
    (k_l_made : PySem.W.keepIn K (.ref f_l_made) = true)
    (a_l_told : PySem.W.nsIn K mainGlobals "_law_told" = some (some (.ref f_l_told)))
    (l_l_told : K.lookup f_l_told = some ⟨oc_l_told, od_l_told, .func (PySem.W.fnOf "_law_told" "_law_told" (defArgs s_l_told) (defBody s_l_told) (defScope s_l_told) .none kV_l_told dc_l_told pm_l_told an_l_told cd_l_told ct_l_told), sl_l_told⟩)
    (c_l_told : PySem.W.codeIn K cd_l_told "_law_told" = true)
    (k_l_told : PySem.W.keepIn K (.ref f_l_told) = true)
    (a_l_due : PySem.W.nsIn K mainGlobals "_law_due" = some (some (.ref f_l_due)))
    (l_l_due : K.lookup f_l_due = some ⟨oc_l_due, od_l_due, .func (PySem.W.fnOf "_law_due" "_law_due" (defArgs s_l_due) (defBody s_l_due) (defScope s_l_due) .none kV_l_due dc_l_due pm_l_due an_l_due cd_l_due ct_l_due), sl_l_due⟩)
    (c_l_due : PySem.W.codeIn K cd_l_due "_law_due" = true)
    (k_l_due : PySem.W.keepIn K (.ref f_l_due) = true)
    (a_l_whole : PySem.W.nsIn K mainGlobals "_law_whole" = some (some (.ref f_l_whole)))
    (l_l_whole : K.lookup f_l_whole = some ⟨oc_l_whole, od_l_whole, .func (PySem.W.fnOf "_law_whole" "_law_whole" (defArgs s_l_whole) (defBody s_l_whole) (defScope s_l_whole) .none kV_l_whole dc_l_whole pm_l_whole an_l_whole cd_l_whole ct_l_whole), sl_l_whole⟩)
    (c_l_whole : PySem.W.codeIn K cd_l_whole "_law_whole" = true)
    (k_l_whole : PySem.W.keepIn K (.ref f_l_whole) = true)
    (a_l_many_places : PySem.W.nsIn K mainGlobals "_law_many_places" = some (some (.ref f_l_many_places)))
    (l_l_many_places : K.lookup f_l_many_places = some ⟨oc_l_many_places, od_l_many_places, .func (PySem.W.fnOf "_law_many_places" "_law_many_places" (defArgs s_l_many_places) (defBody s_l_many_places) (defScope s_l_many_places) .none kV_l_many_places dc_l_many_places pm_l_many_places an_l_many_places cd_l_many_places ct_l_many_places), sl_l_many_places⟩)
    (c_l_many_places : PySem.W.codeIn K cd_l_many_places "_law_many_places" = true)
    (k_l_many_places : PySem.W.keepIn K (.ref f_l_many_places) = true)
    (a_l_is_step : PySem.W.nsIn K mainGlobals "_law_is_step" = some (some (.ref f_l_is_step)))
    (l_l_is_step : K.lookup f_l_is_step = some ⟨oc_l_is_step, od_l_is_step, .func (PySem.W.fnOf "_law_is_step" "_law_is_step" (defArgs s_l_is_step) (defBody s_l_is_step) (defScope s_l_is_step) .none kV_l_is_step dc_l_is_step pm_l_is_step an_l_is_step cd_l_is_step ct_l_is_step), sl_l_is_step⟩)
    (c_l_is_step : PySem.W.codeIn K cd_l_is_step "_law_is_step" = true)
    (k_l_is_step : PySem.W.keepIn K (.ref f_l_is_step) = true)
    (a_l_fault : PySem.W.nsIn K mainGlobals "_law_fault" = some (some (.ref f_l_fault)))
    (l_l_fault : K.lookup f_l_fault = some ⟨oc_l_fault, od_l_fault, .func (PySem.W.fnOf "_law_fault" "_law_fault" (defArgs s_l_fault) (defBody s_l_fault) (defScope s_l_fault) .none kV_l_fault dc_l_fault pm_l_fault an_l_fault cd_l_fault ct_l_fault), sl_l_fault⟩)
    (c_l_fault : PySem.W.codeIn K cd_l_fault "_law_fault" = true)
    (k_l_fault : PySem.W.keepIn K (.ref f_l_fault) = true)
    (a_l_heard : PySem.W.nsIn K mainGlobals "_law_heard" = some (some (.ref f_l_heard)))
    (l_l_heard : K.lookup f_l_heard = some ⟨oc_l_heard, od_l_heard, .func (PySem.W.fnOf "_law_heard" "_law_heard" (defArgs s_l_heard) (defBody s_l_heard) (defScope s_l_heard) .none kV_l_heard dc_l_heard pm_l_heard an_l_heard cd_l_heard ct_l_heard), sl_l_heard⟩)
    (c_l_heard : PySem.W.codeIn K cd_l_heard "_law_heard" = true)
    (k_l_heard : PySem.W.keepIn K (.ref f_l_heard) = true)
    (a_l_right : PySem.W.nsIn K mainGlobals "_law_right" = some (some (.ref f_l_right)))
    (l_l_right : K.lookup f_l_right = some ⟨oc_l_right, od_l_right, .func (PySem.W.fnOf "_law_right" "_law_right" (defArgs s_l_right) (defBody s_l_right) (defScope s_l_right) .none kV_l_right dc_l_right pm_l_right an_l_right cd_l_right ct_l_right), sl_l_right⟩)
    (c_l_right : PySem.W.codeIn K cd_l_right "_law_right" = true)
    (k_l_right : PySem.W.keepIn K (.ref f_l_right) = true)
    (a_l_plain : PySem.W.nsIn K mainGlobals "_law_plain" = some (some (.ref f_l_plain)))
    (l_l_plain : K.lookup f_l_plain = some ⟨oc_l_plain, od_l_plain, .func (PySem.W.fnOf "_law_plain" "_law_plain" (defArgs s_l_plain) (defBody s_l_plain) (defScope s_l_plain) .none kV_l_plain dc_l_plain pm_l_plain an_l_plain cd_l_plain ct_l_plain), sl_l_plain⟩)
    (c_l_plain : PySem.W.codeIn K cd_l_plain "_law_plain" = true)
    (k_l_plain : PySem.W.keepIn K (.ref f_l_plain) = true)
    (a_l_put : PySem.W.nsIn K mainGlobals "_law_put" = some (some (.ref f_l_put)))
    (l_l_put : K.lookup f_l_put = some ⟨oc_l_put, od_l_put, .func (PySem.W.fnOf "_law_put" "_law_put" (defArgs s_l_put) (defBody s_l_put) (defScope s_l_put) .none kV_l_put dc_l_put pm_l_put an_l_put cd_l_put ct_l_put), sl_l_put⟩)
    (c_l_put : PySem.W.codeIn K cd_l_put "_law_put" = true)
    (k_l_put : PySem.W.keepIn K (.ref f_l_put) = true)
    (a_l_left_out : PySem.W.nsIn K mainGlobals "_law_left_out" = some (some (.ref f_l_left_out)))
    (l_l_left_out : K.lookup f_l_left_out = some ⟨oc_l_left_out, od_l_left_out, .func (PySem.W.fnOf "_law_left_out" "_law_left_out" (defArgs s_l_left_out) (defBody s_l_left_out) (defScope s_l_left_out) .none kV_l_left_out dc_l_left_out pm_l_left_out an_l_left_out cd_l_left_out ct_l_left_out), sl_l_left_out⟩)
    (c_l_left_out : PySem.W.codeIn K cd_l_left_out "_law_left_out" = true)
    (k_l_left_out : PySem.W.keepIn K (.ref f_l_left_out) = true)
    (a_l_steps : PySem.W.nsIn K mainGlobals "_law_steps" = some (some (.ref f_l_steps)))
    (l_l_steps : K.lookup f_l_steps = some ⟨oc_l_steps, od_l_steps, .func (PySem.W.fnOf "_law_steps" "_law_steps" (defArgs s_l_steps) (defBody s_l_steps) (defScope s_l_steps) .none kV_l_steps dc_l_steps pm_l_steps an_l_steps cd_l_steps ct_l_steps), sl_l_steps⟩)
    (c_l_steps : PySem.W.codeIn K cd_l_steps "_law_steps" = true)
    (k_l_steps : PySem.W.keepIn K (.ref f_l_steps) = true)
    (a_law : PySem.W.nsIn K mainGlobals "law" = some (some (.ref f_law)))
    (l_law : K.lookup f_law = some ⟨oc_law, od_law, .func (PySem.W.fnOf "law" "law" (defArgs s_law) (defBody s_law) (defScope s_law) .none kV_law dc_law pm_law an_law cd_law ct_law), sl_law⟩)
    (c_law : PySem.W.codeIn K cd_law "law" = true)
    (k_law : PySem.W.keepIn K (.ref f_law) = true)
    (ae_NoWish : PySem.W.nsIn K mainGlobals "NoWish" = some (some (.ref C_NoWish)))
    (ae_FigureError : PySem.W.nsIn K mainGlobals "FigureError" = some (some (.ref C_FigureError)))
    (xe_NoWish : K.lookup C_NoWish = some (excClassObj nm_NoWish q_NoWish C_NoWish N_NoWish bs_NoWish (.ref C_FigureError :: [.type "Exception", .type "BaseException", .type "object"]) true sn_NoWish sub_NoWish ab_NoWish col_NoWish dd_NoWish k0_NoWish k1_NoWish k2_NoWish k3_NoWish k5_NoWish "Exception.__new__"))
    (sa_NoWish : PySem.W.findIn K (.ref C_NoWish) "__setattr__" = some (some (.builtin "object.__setattr__")))
    (ga_NoWish : PySem.W.findIn K (.ref C_NoWish) "__getattribute__" = some (some (.builtin "BaseException.__getattribute__")))
    (gg_NoWish : PySem.W.findIn K (.ref C_NoWish) "__getattr__" = some none)
    (ci_NoWish : PySem.W.findIn K (.ref C_NoWish) "__init__" = some (some (.ref f_FigureErrorI)))
    (kp_NoWish : PySem.W.keepIn K (.ref C_NoWish) = true)
    (eb_NoWish : PySem.W.subIn K (.ref C_NoWish) (.type "BaseException") = some true)
    (tt_NoWish : PySem.W.typeIn K (.ref C_NoWish) = some (.type "type"))
    (hd_NoWish : PySem.W.hasDictIn K C_NoWish = true)
    (is_NoWish : PySem.W.isClsIn K C_NoWish = true)
    (ha_NoWish : PySem.W.findIn K (.ref C_NoWish) "__class__" = some (some (.builtin "object.__class__")))
    (hm_NoWish : PySem.W.mroIn K C_NoWish (.type "object") = some true)
    (sf_NoWish : PySem.W.subIn K (.ref C_NoWish) (.ref C_NoWish) = some true)
    (no_NoWish_thing : PySem.W.findIn K (.ref C_NoWish) "thing" = some none)
    (ti_FigureError : PySem.W.typeIn K (.ref f_FigureErrorI) = some (.type "function"))
    (li_FigureError : K.lookup f_FigureErrorI = some ⟨oc_FigureError, od_FigureError, .func (PySem.W.fnOf "__init__" "FigureError.__init__" (PySem.ErV.iA_thing ⟨12, 17, 12, 21⟩ ⟨12, 23, 12, 28⟩) (PySem.ErV.iB_thing ⟨13, 8, 13, 12⟩ ⟨13, 8, 13, 18⟩ ⟨13, 21, 13, 26⟩ ⟨13, 8, 13, 26⟩) PySem.ErV.iS_thing .none .none dc_FigureError pm_FigureError an_FigureError cd_FigureError ct_FigureError), sl_FigureError⟩)
    (hnE : PySem.W.specialIn K (.builtin "object.__class__") "__get__" = some (some (.builtin "getset_descriptor.__get__")))
    (htE : PySem.W.takesIn K (.builtin "object.__class__") = some true)
    (zVE : PySem.W.nsIn K mainGlobals "ValueError" = some none)
    (zAE : PySem.W.nsIn K mainGlobals "ArithmeticError" = some none)
    (cc_FigureError : PySem.W.codeIn K cd_FigureError "FigureError.__init__" = true)
    (kv_NoWish : PySem.W.subIn K (.ref C_NoWish) (.type "ValueError") = some false)
    (kw_NoWish : PySem.W.subIn K (.ref C_NoWish) (.type "ArithmeticError") = some false)
    (tt_FigureError : PySem.W.typeIn K (.ref C_FigureError) = some (.type "type"))
    (is_FigureError : PySem.W.isClsIn K C_FigureError = true)
    (eb_FigureError : PySem.W.subIn K (.ref C_FigureError) (.type "BaseException") = some true)
    (ks_NoWish : PySem.W.subIn K (.ref C_NoWish) (.ref C_FigureError) = some true)
    (ae_NoCustom : PySem.W.nsIn K mainGlobals "NoCustom" = some (some (.ref C_NoCustom)))
    (tt_NoCustom : PySem.W.typeIn K (.ref C_NoCustom) = some (.type "type"))
    (is_NoCustom : PySem.W.isClsIn K C_NoCustom = true)
    (ae_NoFit : PySem.W.nsIn K mainGlobals "NoFit" = some (some (.ref C_NoFit)))
    (tt_NoFit : PySem.W.typeIn K (.ref C_NoFit) = some (.type "type"))
    (is_NoFit : PySem.W.isClsIn K C_NoFit = true)
    (ae_NoRead : PySem.W.nsIn K mainGlobals "NoRead" = some (some (.ref C_NoRead)))
    (tt_NoRead : PySem.W.typeIn K (.ref C_NoRead) = some (.type "type"))
    (is_NoRead : PySem.W.isClsIn K C_NoRead = true)
    (ae_NoName : PySem.W.nsIn K mainGlobals "NoName" = some (some (.ref C_NoName)))
    (tt_NoName : PySem.W.typeIn K (.ref C_NoName) = some (.type "type"))
    (is_NoName : PySem.W.isClsIn K C_NoName = true)
    (a_SIGNS : PySem.W.nsIn K mainGlobals "SIGNS" = some (some (.str "minus" t_SIGNS)))
    (a_PLACES : PySem.W.nsIn K mainGlobals "PLACES" = some (some (.ref A_PLACES)))
    (l_PLACES : K.lookup A_PLACES = some ⟨.type "tuple", d_PLACES, .seq #[.int 0 tk0_PLACES, .int 2 tk1_PLACES] n_PLACES, s_PLACES⟩)
    (a_UNIT : PySem.W.nsIn K mainGlobals "UNIT" = some (some (.ref A_UNIT)))
    (l_UNIT : K.lookup A_UNIT = some ⟨.type "tuple", d_UNIT, .seq #[.str "" tk0_UNIT, .str "" tk1_UNIT] n_UNIT, s_UNIT⟩)
    (a_ALL_SIGNS : PySem.W.nsIn K mainGlobals "ALL_SIGNS" = some (some (.ref A_ALL_SIGNS)))
    (l_ALL_SIGNS : K.lookup A_ALL_SIGNS = some ⟨.type "tuple", d_ALL_SIGNS, .seq #[.str "minus" tk0_ALL_SIGNS, .str "all" tk1_ALL_SIGNS] n_ALL_SIGNS, s_ALL_SIGNS⟩)
    (kk_NoCustom : PySem.W.subIn K (.ref C_NoWish) (.ref C_NoCustom) = some false)
    (kk_NoFit : PySem.W.subIn K (.ref C_NoWish) (.ref C_NoFit) = some false)
    (kk_NoRead : PySem.W.subIn K (.ref C_NoWish) (.ref C_NoRead) = some false)
    (kk_NoName : PySem.W.subIn K (.ref C_NoWish) (.ref C_NoName) = some false)
    (ic_N : PySem.W.isClsIn K C_Number = true)
    (tc_N : PySem.W.typeIn K (.ref C_Number) = some (.type "type"))
    (W_Wish_init_places : PySem.W.nsIn K Kd_Wish_init "places" = some (some (.ref A_PLACES)))
    (W_Wish_init_figures : PySem.W.nsIn K Kd_Wish_init "figures" = some (some (.none)))
    (W_Wish_init_step : PySem.W.nsIn K Kd_Wish_init "step" = some (some (.none)))
    (W_Wish_init_way : PySem.W.nsIn K Kd_Wish_init "way" = some (some (.str "half even" tw_Wish_init_way)))
    (W_Wish_init_signs : PySem.W.nsIn K Kd_Wish_init "signs" = some (some (.str "minus" tw_Wish_init_signs)))
    (W_Wish_init_grouped : PySem.W.nsIn K Kd_Wish_init "grouped" = some (some (.bool true)))
    (W_Wish_init_scaled : PySem.W.nsIn K Kd_Wish_init "scaled" = some (some (.bool false)))
    (W_Wish_init_unit : PySem.W.nsIn K Kd_Wish_init "unit" = some (some (.ref A_UNIT)))
    (W_Wish_but_places : PySem.W.nsIn K Kd_Wish_but "places" = some (some (.none)))
    (W_Wish_but_figures : PySem.W.nsIn K Kd_Wish_but "figures" = some (some (.none)))
    (W_Wish_but_step : PySem.W.nsIn K Kd_Wish_but "step" = some (some (.none)))
    (W_Wish_but_way : PySem.W.nsIn K Kd_Wish_but "way" = some (some (.none)))
    (W_Wish_but_signs : PySem.W.nsIn K Kd_Wish_but "signs" = some (some (.none)))
    (W_Wish_but_grouped : PySem.W.nsIn K Kd_Wish_but "grouped" = some (some (.none)))
    (W_Wish_but_scaled : PySem.W.nsIn K Kd_Wish_but "scaled" = some (some (.none)))
    (W_Wish_but_unit : PySem.W.nsIn K Kd_Wish_but "unit" = some (some (.none)))
    (a_gcd : PySem.W.nsIn K mainGlobals "gcd" = some (some (.builtin "math.gcd")))
    (z_range : PySem.W.nsIn K mainGlobals "range" = some none)
    (z_isinstance : PySem.W.nsIn K mainGlobals "isinstance" = some none)
    (z_str : PySem.W.nsIn K mainGlobals "str" = some none)
    (z_int : PySem.W.nsIn K mainGlobals "int" = some none)
    (z_list : PySem.W.nsIn K mainGlobals "list" = some none)
    (z_len : PySem.W.nsIn K mainGlobals "len" = some none)
    (z_max : PySem.W.nsIn K mainGlobals "max" = some none)
    (z_bool : PySem.W.nsIn K mainGlobals "bool" = some none)
    (z_repr : PySem.W.nsIn K mainGlobals "repr" = some none)
    (z_tuple : PySem.W.nsIn K mainGlobals "tuple" = some none)
    (z_dict : PySem.W.nsIn K mainGlobals "dict" = some none)
    (z_all : PySem.W.nsIn K mainGlobals "all" = some none)
    (a_WAYS : PySem.W.nsIn K mainGlobals "WAYS" = some (some (.ref A_WAYS)))
    (l_WAYS : K.lookup A_WAYS = some ⟨.type "tuple", dW, .seq #[.str "up" tW0, .str "down" tW1, .str "high" tW2, .str "low" tW3, .str "half up" tW4, .str "half down" tW5, .str "half even" tW6, .str "half odd" tW7] nW, sW⟩)
    (a_WAY : PySem.W.nsIn K mainGlobals "WAY" = some (some (.str "half even" tWAY)))
    (a_MOST_PLACES : PySem.W.nsIn K mainGlobals "MOST_PLACES" = some (some (.int 12 t_c_MOST_PLACES)))
    (a_MOST_FIGURES : PySem.W.nsIn K mainGlobals "MOST_FIGURES" = some (some (.int 12 t_c_MOST_FIGURES)))
    (a_MOST_UNIT : PySem.W.nsIn K mainGlobals "MOST_UNIT" = some (some (.int 6 t_c_MOST_UNIT)))
    : ∃ fd : FuncData, (∀ (s : Shared) (v : Value), BindsTo s fd ⟨[v], []⟩ [("_law_script", v)]) ∧ ∀ base : Heap, K.In base → base.Ns mainGlobals mg → FnG l.prog w K mg base 10 fa fd ["_law_script"] (spLaw K) := by
  have e := hfa.symm.trans (PySem.W.mg_of X G a_law)
  cases e
  have F_is_whole := fun_mk (st := s_is_whole) l_is_whole c_is_whole k_is_whole
  have b_is_whole := F_is_whole.binds (ps := ["thing"]) fun _ _ _ _ _ _ us hl => match us, hl with | [_], _ => rfl
  have F_is_whole_between := fun_mk (st := s_is_whole_between) l_is_whole_between c_is_whole_between k_is_whole_between
  have b_is_whole_between := F_is_whole_between.binds (ps := ["thing", "least", "most"]) fun _ _ _ _ _ _ us hl => match us, hl with | [_, _, _], _ => rfl
  have F_told_or := fun_mk (st := s_told_or) l_told_or c_told_or k_told_or
  have b_told_or := F_told_or.binds (ps := ["new", "old"]) fun _ _ _ _ _ _ us hl => match us, hl with | [_, _], _ => rfl
  have F_Number_init : FunD K "__init__" "Number.__init__" (defArgs s_Number_init) (defBody s_Number_init) (defScope s_Number_init) [V.int 1] [] f_Number_init _ := ⟨⟨_, _, _, _, _, _, _, _, _, _, rfl, l_Number_init, c_Number_init, .inr ⟨by simp, Td_Number_init, _, _, _, rfl, T_Number_init, rfl, .cons ⟨_, rfl⟩ .nil⟩, .inl rfl⟩, k_Number_init⟩
  obtain ⟨b_Number_init2, ds_Number_init1, d_Number_init1, b_Number_init1⟩ := bi_Number_init F_Number_init
  have F_places_of := fun_mk (st := s_places_of) l_places_of c_places_of k_places_of
  have b_places_of := F_places_of.binds (ps := ["number"]) fun _ _ _ _ _ _ us hl => match us, hl with | [_], _ => rfl
  have F_times_within := fun_mk (st := s_times_within) l_times_within c_times_within k_times_within
  have b_times_within := F_times_within.binds (ps := ["factor", "whole"]) fun _ _ _ _ _ _ us hl => match us, hl with | [_, _], _ => rfl
  have F_is_step := fun_mk (st := s_is_step) l_is_step c_is_step k_is_step
  have b_is_step := F_is_step.binds (ps := ["thing"]) fun _ _ _ _ _ _ us hl => match us, hl with | [_], _ => rfl
  have F_first_wrong := fun_mk (st := s_first_wrong) l_first_wrong c_first_wrong k_first_wrong
  have b_first_wrong := F_first_wrong.binds (ps := ["places", "figures", "step", "way", "signs", "grouped", "scaled", "unit"]) fun _ _ _ _ _ _ us hl => match us, hl with | [_, _, _, _, _, _, _, _], _ => rfl
  have F_is_places := fun_mk (st := s_is_places) l_is_places c_is_places k_is_places
  have b_is_places := F_is_places.binds (ps := ["thing"]) fun _ _ _ _ _ _ us hl => match us, hl with | [_], _ => rfl
  have F_is_step_within := fun_mk (st := s_is_step_within) l_is_step_within c_is_step_within k_is_step_within
  have b_is_step_within := F_is_step_within.binds (ps := ["thing", "most"]) fun _ _ _ _ _ _ us hl => match us, hl with | [_, _], _ => rfl
  have F_is_unit := fun_mk (st := s_is_unit) l_is_unit c_is_unit k_is_unit
  have b_is_unit := F_is_unit.binds (ps := ["thing"]) fun _ _ _ _ _ _ us hl => match us, hl with | [_], _ => rfl
  have F_l_deck := fun_mk (st := s_l_deck) l_l_deck c_l_deck k_l_deck
  have b_l_deck := F_l_deck.binds (ps := ["_law_script"]) fun _ _ _ _ _ _ us hl => match us, hl with | [_], _ => rfl
  have F_l_draw := fun_mk (st := s_l_draw) l_l_draw c_l_draw k_l_draw
  have b_l_draw := F_l_draw.binds (ps := ["_law_deck_here", "_law_top"]) fun _ _ _ _ _ _ us hl => match us, hl with | [_, _], _ => rfl
  have F_l_ways := fun_mk (st := s_l_ways) l_l_ways c_l_ways k_l_ways
  have b_l_ways := F_l_ways.binds (ps := []) fun _ _ _ _ _ _ us hl => match us, hl with | [], _ => rfl
  have F_l_made := fun_mk (st := s_l_made) l_l_made c_l_made k_l_made
  have b_l_made := F_l_made.binds (ps := ["_law_f"]) fun _ _ _ _ _ _ us hl => match us, hl with | [_], _ => rfl
  have F_l_told := fun_mk (st := s_l_told) l_l_told c_l_told k_l_told
  have b_l_told := F_l_told.binds (ps := ["_law_wish"]) fun _ _ _ _ _ _ us hl => match us, hl with | [_], _ => rfl
  have F_l_due := fun_mk (st := s_l_due) l_l_due c_l_due k_l_due
  have b_l_due := F_l_due.binds (ps := ["_law_f"]) fun _ _ _ _ _ _ us hl => match us, hl with | [_], _ => rfl
  have F_l_whole := fun_mk (st := s_l_whole) l_l_whole c_l_whole k_l_whole
  have b_l_whole := F_l_whole.binds (ps := ["_law_thing", "_law_low", "_law_high"]) fun _ _ _ _ _ _ us hl => match us, hl with | [_, _, _], _ => rfl
  have F_l_many_places := fun_mk (st := s_l_many_places) l_l_many_places c_l_many_places k_l_many_places
  have b_l_many_places := F_l_many_places.binds (ps := ["_law_number"]) fun _ _ _ _ _ _ us hl => match us, hl with | [_], _ => rfl
  have F_l_is_step := fun_mk (st := s_l_is_step) l_l_is_step c_l_is_step k_l_is_step
  have b_l_is_step := F_l_is_step.binds (ps := ["_law_thing", "_law_f"]) fun _ _ _ _ _ _ us hl => match us, hl with | [_, _], _ => rfl
  have F_l_fault := fun_mk (st := s_l_fault) l_l_fault c_l_fault k_l_fault
  have b_l_fault := F_l_fault.binds (ps := ["_law_f"]) fun _ _ _ _ _ _ us hl => match us, hl with | [_], _ => rfl
  have F_l_heard := fun_mk (st := s_l_heard) l_l_heard c_l_heard k_l_heard
  have b_l_heard := F_l_heard.binds (ps := ["_law_f"]) fun _ _ _ _ _ _ us hl => match us, hl with | [_], _ => rfl
  have F_l_right := fun_mk (st := s_l_right) l_l_right c_l_right k_l_right
  have b_l_right := F_l_right.binds (ps := ["_law_f"]) fun _ _ _ _ _ _ us hl => match us, hl with | [_], _ => rfl
  have F_l_plain := fun_mk (st := s_l_plain) l_l_plain c_l_plain k_l_plain
  have b_l_plain := F_l_plain.binds (ps := []) fun _ _ _ _ _ _ us hl => match us, hl with | [], _ => rfl
  have F_l_put := fun_mk (st := s_l_put) l_l_put c_l_put k_l_put
  have b_l_put := F_l_put.binds (ps := ["_law_f", "_law_name", "_law_thing"]) fun _ _ _ _ _ _ us hl => match us, hl with | [_, _, _], _ => rfl
  have F_l_left_out := fun_mk (st := s_l_left_out) l_l_left_out c_l_left_out k_l_left_out
  have b_l_left_out := F_l_left_out.binds (ps := ["_law_deck_here"]) fun _ _ _ _ _ _ us hl => match us, hl with | [_], _ => rfl
  have F_l_steps := fun_mk (st := s_l_steps) l_l_steps c_l_steps k_l_steps
  have b_l_steps := F_l_steps.binds (ps := ["_law_deck_here"]) fun _ _ _ _ _ _ us hl => match us, hl with | [_], _ => rfl
  have F_law := fun_mk (st := s_law) l_law c_law k_law
  have b_law := F_law.binds (ps := ["_law_script"]) fun _ _ _ _ _ _ us hl => match us, hl with | [_], _ => rfl
  have F_Wish_init : FunD K "__init__" "Wish.__init__" (defArgs s_Wish_init) (defBody s_Wish_init) (defScope s_Wish_init) [] [(("places" : Str), V.ref A_PLACES), (("figures" : Str), V.non), (("step" : Str), V.non), (("way" : Str), V.str "half even"), (("signs" : Str), V.str "minus"), (("grouped" : Str), V.bl true), (("scaled" : Str), V.bl false), (("unit" : Str), V.ref A_UNIT)] f_Wish_init _ := ⟨⟨_, _, _, _, _, _, _, _, _, _, rfl, l_Wish_init, c_Wish_init, .inl ⟨rfl, rfl⟩, .inr ⟨Kd_Wish_init, rfl, fun q hq => by
      simp only [List.mem_cons, List.not_mem_nil, or_false] at hq
      rcases hq with rfl | rfl | rfl | rfl | rfl | rfl | rfl | rfl
      · exact ⟨_, W_Wish_init_places, rfl⟩
      · exact ⟨_, W_Wish_init_figures, rfl⟩
      · exact ⟨_, W_Wish_init_step, rfl⟩
      · exact ⟨_, W_Wish_init_way, ⟨_, rfl⟩⟩
      · exact ⟨_, W_Wish_init_signs, ⟨_, rfl⟩⟩
      · exact ⟨_, W_Wish_init_grouped, rfl⟩
      · exact ⟨_, W_Wish_init_scaled, rfl⟩
      · exact ⟨_, W_Wish_init_unit, rfl⟩⟩⟩, k_Wish_init⟩
  obtain ⟨mv_Wish_init_all, kb_Wish_init_all⟩ := bi_Wish_init_all F_Wish_init
  obtain ⟨mv_Wish_init_ord, kb_Wish_init_ord⟩ := bi_Wish_init_ord F_Wish_init
  obtain ⟨ds_Wish_init_none, d_Wish_init_none, b_Wish_init_none⟩ := bi_Wish_init_none F_Wish_init
  obtain ⟨mv_Wish_init_four, kb_Wish_init_four⟩ := bi_Wish_init_four F_Wish_init
  obtain ⟨mv_Wish_init_two, kb_Wish_init_two⟩ := bi_Wish_init_two F_Wish_init
  obtain ⟨mv_Wish_init_one_places, kb_Wish_init_one_places⟩ := bi_Wish_init_one_places F_Wish_init
  obtain ⟨mv_Wish_init_one_figures, kb_Wish_init_one_figures⟩ := bi_Wish_init_one_figures F_Wish_init
  obtain ⟨mv_Wish_init_one_step, kb_Wish_init_one_step⟩ := bi_Wish_init_one_step F_Wish_init
  obtain ⟨mv_Wish_init_one_way, kb_Wish_init_one_way⟩ := bi_Wish_init_one_way F_Wish_init
  obtain ⟨mv_Wish_init_one_signs, kb_Wish_init_one_signs⟩ := bi_Wish_init_one_signs F_Wish_init
  obtain ⟨mv_Wish_init_one_grouped, kb_Wish_init_one_grouped⟩ := bi_Wish_init_one_grouped F_Wish_init
  obtain ⟨mv_Wish_init_one_scaled, kb_Wish_init_one_scaled⟩ := bi_Wish_init_one_scaled F_Wish_init
  obtain ⟨mv_Wish_init_one_unit, kb_Wish_init_one_unit⟩ := bi_Wish_init_one_unit F_Wish_init
  have F_Wish_but : FunD K "but" "Wish.but" (defArgs s_Wish_but) (defBody s_Wish_but) (defScope s_Wish_but) [] [(("places" : Str), V.non), (("figures" : Str), V.non), (("step" : Str), V.non), (("way" : Str), V.non), (("signs" : Str), V.non), (("grouped" : Str), V.non), (("scaled" : Str), V.non), (("unit" : Str), V.non)] f_Wish_but _ := ⟨⟨_, _, _, _, _, _, _, _, _, _, rfl, l_Wish_but, c_Wish_but, .inl ⟨rfl, rfl⟩, .inr ⟨Kd_Wish_but, rfl, fun q hq => by
      simp only [List.mem_cons, List.not_mem_nil, or_false] at hq
      rcases hq with rfl | rfl | rfl | rfl | rfl | rfl | rfl | rfl
      · exact ⟨_, W_Wish_but_places, rfl⟩
      · exact ⟨_, W_Wish_but_figures, rfl⟩
      · exact ⟨_, W_Wish_but_step, rfl⟩
      · exact ⟨_, W_Wish_but_way, rfl⟩
      · exact ⟨_, W_Wish_but_signs, rfl⟩
      · exact ⟨_, W_Wish_but_grouped, rfl⟩
      · exact ⟨_, W_Wish_but_scaled, rfl⟩
      · exact ⟨_, W_Wish_but_unit, rfl⟩⟩⟩, k_Wish_but⟩
  obtain ⟨mv_Wish_but_sf, kb_Wish_but_sf⟩ := bi_Wish_but_sf F_Wish_but
  have t_WAYS : ∀ H : Hp, SqT K H A_WAYS [.str "up", .str "down", .str "high", .str "low", .str "half up", .str "half down", .str "half even", .str "half odd"] := fun H => .inr ⟨_, _, _, l_WAYS, rfl, rfl, by show 8 ≤ sizeLine; decide, .cons ⟨_, rfl⟩ (.cons ⟨_, rfl⟩ (.cons ⟨_, rfl⟩ (.cons ⟨_, rfl⟩ (.cons ⟨_, rfl⟩ (.cons ⟨_, rfl⟩ (.cons ⟨_, rfl⟩ (.cons ⟨_, rfl⟩ .nil)))))))⟩
  exact ⟨_, fun s v => .of_eq rfl, fun base _ _ => okG_law (w := w) (K := K) (mg := mg) {
    C_Number := C_Number,
    m_Number := PySem.W.mg_of X G aC_Number,
    c_Number := ⟨pg_Number, hd_Number, po_Number, sa_Number⟩,
    n_Number_top := nf_Number_top,
    n_Number_bottom := nf_Number_bottom,
    ty_Number_c := tc_Number,
    ty_Number_g := tg_Number,
    ty_Number_t := tt_Number,
    ty_Number_m := tm_Number,
    ty_Number_k := kit_self,
    ne_Number := nn_Number,
    C_Wish := C_Wish,
    m_Wish := PySem.W.mg_of X G aC_Wish,
    c_Wish := ⟨pg_Wish, hd_Wish, po_Wish, sa_Wish⟩,
    n_Wish_places := nf_Wish_places,
    n_Wish_figures := nf_Wish_figures,
    n_Wish_step := nf_Wish_step,
    n_Wish_way := nf_Wish_way,
    n_Wish_signs := nf_Wish_signs,
    n_Wish_grouped := nf_Wish_grouped,
    n_Wish_scaled := nf_Wish_scaled,
    n_Wish_unit := nf_Wish_unit,
    ty_Wish_c := tc_Wish,
    ty_Wish_g := tg_Wish,
    ty_Wish_t := tt_Wish,
    ty_Wish_m := tm_Wish,
    ty_Wish_k := kit_self,
    ne_Wish := nn_Wish,
    m_is_whole := PySem.W.mg_of X G a_is_whole,
    f_is_whole := f_is_whole,
    fd_is_whole := _,
    F_is_whole := F_is_whole,
    b_is_whole := b_is_whole,
    m_is_whole_between := PySem.W.mg_of X G a_is_whole_between,
    f_is_whole_between := f_is_whole_between,
    fd_is_whole_between := _,
    F_is_whole_between := F_is_whole_between,
    b_is_whole_between := b_is_whole_between,
    m_told_or := PySem.W.mg_of X G a_told_or,
    f_told_or := f_told_or,
    fd_told_or := _,
    F_told_or := F_told_or,
    b_told_or := b_told_or,
    f_Number_init := f_Number_init,
    fd_Number_init := _,
    F_Number_init := F_Number_init,
    mk_Number := ⟨mi_Number, a_Number_init, i_Number_init, kc_Number⟩,
    b_Number_init2 := b_Number_init2,
    ds_Number_init1 := ds_Number_init1,
    d_Number_init1 := d_Number_init1,
    b_Number_init1 := b_Number_init1,
    m_places_of := PySem.W.mg_of X G a_places_of,
    f_places_of := f_places_of,
    fd_places_of := _,
    F_places_of := F_places_of,
    b_places_of := b_places_of,
    m_times_within := PySem.W.mg_of X G a_times_within,
    f_times_within := f_times_within,
    fd_times_within := _,
    F_times_within := F_times_within,
    b_times_within := b_times_within,
    m_is_step := PySem.W.mg_of X G a_is_step,
    f_is_step := f_is_step,
    fd_is_step := _,
    F_is_step := F_is_step,
    b_is_step := b_is_step,
    f_Wish_init := f_Wish_init,
    fd_Wish_init := _,
    F_Wish_init := F_Wish_init,
    mk_Wish := ⟨mi_Wish, a_Wish_init, i_Wish_init, kc_Wish⟩,
    f_Wish_but := f_Wish_but,
    fd_Wish_but := _,
    F_Wish_but := F_Wish_but,
    me_Wish_but := ⟨a_Wish_but, i_Wish_but, k_Wish_but⟩,
    m_first_wrong := PySem.W.mg_of X G a_first_wrong,
    f_first_wrong := f_first_wrong,
    fd_first_wrong := _,
    F_first_wrong := F_first_wrong,
    b_first_wrong := b_first_wrong,
    m_is_places := PySem.W.mg_of X G a_is_places,
    f_is_places := f_is_places,
    fd_is_places := _,
    F_is_places := F_is_places,
    b_is_places := b_is_places,
    m_is_step_within := PySem.W.mg_of X G a_is_step_within,
    f_is_step_within := f_is_step_within,
    fd_is_step_within := _,
    F_is_step_within := F_is_step_within,
    b_is_step_within := b_is_step_within,
    m_is_unit := PySem.W.mg_of X G a_is_unit,
    f_is_unit := f_is_unit,
    fd_is_unit := _,
    F_is_unit := F_is_unit,
    b_is_unit := b_is_unit,
    m_l_deck := PySem.W.mg_of X G a_l_deck,
    f_l_deck := f_l_deck,
    fd_l_deck := _,
    F_l_deck := F_l_deck,
    b_l_deck := b_l_deck,
    m_l_draw := PySem.W.mg_of X G a_l_draw,
    f_l_draw := f_l_draw,
    fd_l_draw := _,
    F_l_draw := F_l_draw,
    b_l_draw := b_l_draw,
    m_l_ways := PySem.W.mg_of X G a_l_ways,
    f_l_ways := f_l_ways,
    fd_l_ways := _,
    F_l_ways := F_l_ways,
    b_l_ways := b_l_ways,
    m_l_made := PySem.W.mg_of X G a_l_made,
    f_l_made := f_l_made,
    fd_l_made := _,
    F_l_made := F_l_made,
    b_l_made := b_l_made,
    m_l_told := PySem.W.mg_of X G a_l_told,
    f_l_told := f_l_told,
    fd_l_told := _,
    F_l_told := F_l_told,
    b_l_told := b_l_told,
    m_l_due := PySem.W.mg_of X G a_l_due,
    f_l_due := f_l_due,
    fd_l_due := _,
    F_l_due := F_l_due,
    b_l_due := b_l_due,
    m_l_whole := PySem.W.mg_of X G a_l_whole,
    f_l_whole := f_l_whole,
    fd_l_whole := _,
    F_l_whole := F_l_whole,
    b_l_whole := b_l_whole,
    m_l_many_places := PySem.W.mg_of X G a_l_many_places,
    f_l_many_places := f_l_many_places,
    fd_l_many_places := _,
    F_l_many_places := F_l_many_places,
    b_l_many_places := b_l_many_places,
    m_l_is_step := PySem.W.mg_of X G a_l_is_step,
    f_l_is_step := f_l_is_step,
    fd_l_is_step := _,
    F_l_is_step := F_l_is_step,
    b_l_is_step := b_l_is_step,
    m_l_fault := PySem.W.mg_of X G a_l_fault,
    f_l_fault := f_l_fault,
    fd_l_fault := _,
    F_l_fault := F_l_fault,
    b_l_fault := b_l_fault,
    m_l_heard := PySem.W.mg_of X G a_l_heard,
    f_l_heard := f_l_heard,
    fd_l_heard := _,
    F_l_heard := F_l_heard,
    b_l_heard := b_l_heard,
    m_l_right := PySem.W.mg_of X G a_l_right,
    f_l_right := f_l_right,
    fd_l_right := _,
    F_l_right := F_l_right,
    b_l_right := b_l_right,
    m_l_plain := PySem.W.mg_of X G a_l_plain,
    f_l_plain := f_l_plain,
    fd_l_plain := _,
    F_l_plain := F_l_plain,
    b_l_plain := b_l_plain,
    m_l_put := PySem.W.mg_of X G a_l_put,
    f_l_put := f_l_put,
    fd_l_put := _,
    F_l_put := F_l_put,
    b_l_put := b_l_put,
    m_l_left_out := PySem.W.mg_of X G a_l_left_out,
    f_l_left_out := f_l_left_out,
    fd_l_left_out := _,
    F_l_left_out := F_l_left_out,
    b_l_left_out := b_l_left_out,
    m_l_steps := PySem.W.mg_of X G a_l_steps,
    f_l_steps := f_l_steps,
    fd_l_steps := _,
    F_l_steps := F_l_steps,
    b_l_steps := b_l_steps,
    m_law := PySem.W.mg_of X G a_law,
    f_law := _,
    fd_law := _,
    F_law := F_law,
    b_law := b_law,
    f_FigureErrorI := f_FigureErrorI,
    C_FigureError := C_FigureError,
    m_FigureError := PySem.W.mg_of X G ae_FigureError,
    C_NoCustom := C_NoCustom,
    m_NoCustom := PySem.W.mg_of X G ae_NoCustom,
    C_NoWish := C_NoWish,
    m_NoWish := PySem.W.mg_of X G ae_NoWish,
    C_NoFit := C_NoFit,
    m_NoFit := PySem.W.mg_of X G ae_NoFit,
    C_NoRead := C_NoRead,
    m_NoRead := PySem.W.mg_of X G ae_NoRead,
    C_NoName := C_NoName,
    m_NoName := PySem.W.mg_of X G ae_NoName,
    x_NoWish := ⟨ga_NoWish, gg_NoWish, eb_NoWish, hd_NoWish, ha_NoWish, hnE, htE, hm_NoWish⟩,
    ty_NoWish := tt_NoWish,
    e_NoWish := { cls := ⟨nm_NoWish, q_NoWish, N_NoWish, bs_NoWish, _, sn_NoWish, sub_NoWish, ab_NoWish, col_NoWish, dd_NoWish, k0_NoWish, k1_NoWish, k2_NoWish, k3_NoWish, k5_NoWish, _, _, _, _, xe_NoWish, PySem.F.excBase_Exception, (fun X => by rw [List.contains_cons]; rfl), (fun self => by rw [refuseLoop_ref]; exact PySem.F.store_Exception.passes _), rfl⟩, sa := sa_NoWish, iC := ci_NoWish, tC := ti_FigureError, kC := kp_NoWish },
    no_NoWish := no_NoWish_thing,
    fn_NoWish := ⟨_, _, _, _, _, _, _, _, _, _, _, _, _, _,  li_FigureError, cc_FigureError⟩,
    te_NoWish := exm_sub eb_FigureError is_FigureError tt_FigureError ks_NoWish,
    gt_NoWish := ⟨ga_NoWish, gg_NoWish, eb_NoWish, hd_NoWish, no_NoWish_thing⟩,
    n_ValueError := PySem.W.mg_none_of X G zVE,
    n_ArithmeticError := PySem.W.mg_none_of X G zAE,
    kt_VE := kit_type kv_NoWish (by decide +kernel),
    kt_AE := kit_type kw_NoWish (by decide +kernel),
    kt_NoCustom := kit_other sf_NoWish kk_NoCustom is_NoCustom tt_NoCustom,
    kt_NoWish := kit_same,
    kt_NoFit := kit_other sf_NoWish kk_NoFit is_NoFit tt_NoFit,
    kt_NoRead := kit_other sf_NoWish kk_NoRead is_NoRead tt_NoRead,
    kt_NoName := kit_other sf_NoWish kk_NoName is_NoName tt_NoName,
    u_SIGNS := .str "minus" t_SIGNS,
    m_SIGNS := PySem.W.mg_of X G a_SIGNS,
    r_SIGNS := ⟨_, rfl⟩,
    A_PLACES := A_PLACES,
    m_PLACES := PySem.W.mg_of X G a_PLACES,
    t_PLACES := fun H => .inr ⟨_, _, _, l_PLACES, rfl, rfl, (show 2 ≤ sizeLine by decide), .cons ⟨_, rfl⟩ (.cons ⟨_, rfl⟩ .nil)⟩,
    A_UNIT := A_UNIT,
    m_UNIT := PySem.W.mg_of X G a_UNIT,
    t_UNIT := fun H => .inr ⟨_, _, _, l_UNIT, rfl, rfl, (show 2 ≤ sizeLine by decide), .cons ⟨_, rfl⟩ (.cons ⟨_, rfl⟩ .nil)⟩,
    A_ALL_SIGNS := A_ALL_SIGNS,
    m_ALL_SIGNS := PySem.W.mg_of X G a_ALL_SIGNS,
    t_ALL_SIGNS := fun H => .inr ⟨_, _, _, l_ALL_SIGNS, rfl, rfl, (show 2 ≤ sizeLine by decide), .cons ⟨_, rfl⟩ (.cons ⟨_, rfl⟩ .nil)⟩,
    kN_not := kit_notown ic_N tc_N,
    mv_Wish_init_all := mv_Wish_init_all,
    kb_Wish_init_all := kb_Wish_init_all,
    mv_Wish_init_ord := mv_Wish_init_ord,
    kb_Wish_init_ord := kb_Wish_init_ord,
    ds_Wish_init_none := ds_Wish_init_none,
    d_Wish_init_none := d_Wish_init_none,
    b_Wish_init_none := b_Wish_init_none,
    mv_Wish_init_four := mv_Wish_init_four,
    kb_Wish_init_four := kb_Wish_init_four,
    mv_Wish_init_two := mv_Wish_init_two,
    kb_Wish_init_two := kb_Wish_init_two,
    mv_Wish_init_one_places := mv_Wish_init_one_places,
    kb_Wish_init_one_places := kb_Wish_init_one_places,
    mv_Wish_init_one_figures := mv_Wish_init_one_figures,
    kb_Wish_init_one_figures := kb_Wish_init_one_figures,
    mv_Wish_init_one_step := mv_Wish_init_one_step,
    kb_Wish_init_one_step := kb_Wish_init_one_step,
    mv_Wish_init_one_way := mv_Wish_init_one_way,
    kb_Wish_init_one_way := kb_Wish_init_one_way,
    mv_Wish_init_one_signs := mv_Wish_init_one_signs,
    kb_Wish_init_one_signs := kb_Wish_init_one_signs,
    mv_Wish_init_one_grouped := mv_Wish_init_one_grouped,
    kb_Wish_init_one_grouped := kb_Wish_init_one_grouped,
    mv_Wish_init_one_scaled := mv_Wish_init_one_scaled,
    kb_Wish_init_one_scaled := kb_Wish_init_one_scaled,
    mv_Wish_init_one_unit := mv_Wish_init_one_unit,
    kb_Wish_init_one_unit := kb_Wish_init_one_unit,
    mv_Wish_but_sf := mv_Wish_but_sf,
    kb_Wish_but_sf := kb_Wish_but_sf,
    m_gcd := PySem.W.mg_of X G a_gcd,
    n_range := PySem.W.mg_none_of X G z_range,
    n_isinstance := PySem.W.mg_none_of X G z_isinstance,
    n_str := PySem.W.mg_none_of X G z_str,
    n_int := PySem.W.mg_none_of X G z_int,
    n_list := PySem.W.mg_none_of X G z_list,
    n_len := PySem.W.mg_none_of X G z_len,
    n_max := PySem.W.mg_none_of X G z_max,
    n_bool := PySem.W.mg_none_of X G z_bool,
    n_repr := PySem.W.mg_none_of X G z_repr,
    n_tuple := PySem.W.mg_none_of X G z_tuple,
    n_dict := PySem.W.mg_none_of X G z_dict,
    n_all := PySem.W.mg_none_of X G z_all,
    A_WAYS := A_WAYS,
    m_WAYS := PySem.W.mg_of X G a_WAYS,
    t_WAYS := t_WAYS,
    u_WAY := _,
    m_WAY := PySem.W.mg_of X G a_WAY,
    r_WAY := ⟨_, rfl⟩,
    u_MOST_PLACES := _,
    m_MOST_PLACES := PySem.W.mg_of X G a_MOST_PLACES,
    r_MOST_PLACES := ⟨_, rfl⟩,
    u_MOST_FIGURES := _,
    m_MOST_FIGURES := PySem.W.mg_of X G a_MOST_FIGURES,
    r_MOST_FIGURES := ⟨_, rfl⟩,
    u_MOST_UNIT := _,
    m_MOST_UNIT := PySem.W.mg_of X G a_MOST_UNIT,
    r_MOST_UNIT := ⟨_, rfl⟩ }⟩
theorem walk {l : PySem.W.OpenLaw} {q : Program} {loose : List Str} {XP : (Str → Option Value) → Heap → Prop} {YP : World → Heap → Prop} {d : DefRec} {K : Params → PySem.W.Frag} (hn : l.most = some 63) (hdf : d.params.defaults = [])
    (hY : ∀ (w : World) (h : Heap), YP w h → (K w.params).In h)
    (F : ∀ (w : World) (mg : Str → Option Value) (fa : Addr) (h : Heap), (K w.params).In h → h.Ns mainGlobals mg → mg d.name = some (.ref fa) →
      ∃ fd : FuncData, (∀ (s : Shared) (u : Value), BindsTo s fd ⟨[u], []⟩ [("_law_script", u)]) ∧ ∀ base : Heap, (K w.params).In base → base.Ns mainGlobals mg → FnG l.prog w (K w.params) mg base 10 fa fd ["_law_script"] (spLaw (K w.params))) :
    PySem.W.WalkO q loose XP YP l.row.toRowW d [] (fun f vs => PySem.call f vs) :=
  walk_ofG (n := 63) (k := 10) (x := "_law_script") (sp := fun w => spLaw (K w.params)) hn (by decide) hdf ⟨rfl, by decide, by decide⟩ hY F (fun _ _ a ns hl hS => ⟨a, ns, rfl, hS, hl, fun _ => rfl⟩)
end My
open PySem PySem.W PyProof.Rows in
set_option maxRecDepth 100000 in
set_option maxHeartbeats 0 in
theorem PySem.Challenge.cw_figuretexts_k29_bounds_and_defaults_holds : PySem.Challenge.rw_figuretexts_k29_bounds_and_defaults.Holds := by
  w_on; o_law; k_head; (case hw => w_witness2)
  k_fill
  refine My.walk (l := PySem.Challenge.rw_figuretexts_k29_bounds_and_defaults) rfl rfl (fun w h Y => PySem.W.kIn_of Y) ?F
  case F =>
    intro w mg fa h KX G hmg
    refine' My.all_mk KX G hmg ?aC_Number ?pg_Number ?hd_Number ?po_Number ?sa_Number ?nf_Number_top ?nf_Number_bottom ?tc_Number ?tg_Number ?tt_Number ?tm_Number ?nn_Number ?mi_Number ?kc_Number ?aC_Wish ?pg_Wish ?hd_Wish ?po_Wish ?sa_Wish ?nf_Wish_places ?nf_Wish_figures ?nf_Wish_step ?nf_Wish_way ?nf_Wish_signs ?nf_Wish_grouped ?nf_Wish_scaled ?nf_Wish_unit ?tc_Wish ?tg_Wish ?tt_Wish ?tm_Wish ?nn_Wish ?mi_Wish ?kc_Wish ?a_is_whole ?l_is_whole ?c_is_whole ?k_is_whole ?a_is_whole_between ?l_is_whole_between ?c_is_whole_between ?k_is_whole_between ?a_told_or ?l_told_or ?c_told_or ?k_told_or ?a_Number_init ?i_Number_init ?l_Number_init ?c_Number_init ?k_Number_init ?T_Number_init ?a_places_of ?l_places_of ?c_places_of ?k_places_of ?a_times_within ?l_times_within ?c_times_within ?k_times_within ?a_is_step ?l_is_step ?c_is_step ?k_is_step ?a_Wish_init ?i_Wish_init ?l_Wish_init ?c_Wish_init ?k_Wish_init ?a_Wish_but ?i_Wish_but ?l_Wish_but ?c_Wish_but ?k_Wish_but ?a_first_wrong ?l_first_wrong ?c_first_wrong ?k_first_wrong ?a_is_places ?l_is_places ?c_is_places ?k_is_places ?a_is_step_within ?l_is_step_within ?c_is_step_within ?k_is_step_within ?a_is_unit ?l_is_unit ?c_is_unit ?k_is_unit ?a_l_deck ?l_l_deck ?c_l_deck ?k_l_deck ?a_l_draw ?l_l_draw ?c_l_draw ?k_l_draw ?a_l_ways ?l_l_ways ?c_l_ways ?k_l_ways ?a_l_made ?l_l_made ?c_l_made ?k_l_made ?a_l_told ?l_l_told ?c_l_told ?k_l_told ?a_l_due ?l_l_due ?c_l_due ?k_l_due ?a_l_whole ?l_l_whole ?c_l_whole ?k_l_whole ?a_l_many_places ?l_l_many_places ?c_l_many_places ?k_l_many_places ?a_l_is_step ?l_l_is_step ?c_l_is_step ?k_l_is_step ?a_l_fault ?l_l_fault ?c_l_fault ?k_l_fault ?a_l_heard ?l_l_heard ?c_l_heard ?k_l_heard ?a_l_right ?l_l_right ?c_l_right ?k_l_right ?a_l_plain ?l_l_plain ?c_l_plain ?k_l_plain ?a_l_put ?l_l_put ?c_l_put ?k_l_put ?a_l_left_out ?l_l_left_out ?c_l_left_out ?k_l_left_out ?a_l_steps ?l_l_steps ?c_l_steps ?k_l_steps ?a_law ?l_law ?c_law ?k_law ?ae_NoWish ?ae_FigureError ?xe_NoWish ?sa_NoWish ?ga_NoWish ?gg_NoWish ?ci_NoWish ?kp_NoWish ?eb_NoWish ?tt_NoWish ?hd_NoWish ?is_NoWish ?ha_NoWish ?hm_NoWish ?sf_NoWish ?no_NoWish_thing ?ti_FigureError ?li_FigureError ?hnE ?htE ?zVE ?zAE ?cc_FigureError ?kv_NoWish ?kw_NoWish ?tt_FigureError ?is_FigureError ?eb_FigureError ?ks_NoWish ?ae_NoCustom ?tt_NoCustom ?is_NoCustom ?ae_NoFit ?tt_NoFit ?is_NoFit ?ae_NoRead ?tt_NoRead ?is_NoRead ?ae_NoName ?tt_NoName ?is_NoName ?a_SIGNS ?a_PLACES ?l_PLACES ?a_UNIT ?l_UNIT ?a_ALL_SIGNS ?l_ALL_SIGNS ?kk_NoCustom ?kk_NoFit ?kk_NoRead ?kk_NoName ?ic_N ?tc_N ?W_Wish_init_places ?W_Wish_init_figures ?W_Wish_init_step ?W_Wish_init_way ?W_Wish_init_signs ?W_Wish_init_grouped ?W_Wish_init_scaled ?W_Wish_init_unit ?W_Wish_but_places ?W_Wish_but_figures ?W_Wish_but_step ?W_Wish_but_way ?W_Wish_but_signs ?W_Wish_but_grouped ?W_Wish_but_scaled ?W_Wish_but_unit ?a_gcd ?z_range ?z_isinstance ?z_str ?z_int ?z_list ?z_len ?z_max ?z_bool ?z_repr ?z_tuple ?z_dict ?z_all ?a_WAYS ?l_WAYS ?a_WAY ?a_MOST_PLACES ?a_MOST_FIGURES ?a_MOST_UNIT
    (case aC_Number => k_is)
    (case pg_Number => k_is)
    (case hd_Number => k_is)
    (case po_Number => k_is)
    (case sa_Number => k_is)
    (case nf_Number_top => k_is)
    (case nf_Number_bottom => k_is)
    (case tc_Number => k_is)
    (case tg_Number => k_is)
    (case tt_Number => k_is)
    (case tm_Number => k_is)
    (case nn_Number => k_is)
    (case mi_Number => k_is)
    (case kc_Number => k_is)
    (case aC_Wish => k_is)
    (case pg_Wish => k_is)
    (case hd_Wish => k_is)
    (case po_Wish => k_is)
    (case sa_Wish => k_is)
    (case nf_Wish_places => k_is)
    (case nf_Wish_figures => k_is)
    (case nf_Wish_step => k_is)
    (case nf_Wish_way => k_is)
    (case nf_Wish_signs => k_is)
    (case nf_Wish_grouped => k_is)
    (case nf_Wish_scaled => k_is)
    (case nf_Wish_unit => k_is)
    (case tc_Wish => k_is)
    (case tg_Wish => k_is)
    (case tt_Wish => k_is)
    (case tm_Wish => k_is)
    (case nn_Wish => k_is)
    (case mi_Wish => k_is)
    (case kc_Wish => k_is)
    (case a_is_whole => k_is)
    (case l_is_whole => k_is)
    (case c_is_whole => k_is)
    (case k_is_whole => k_is)
    (case a_is_whole_between => k_is)
    (case l_is_whole_between => k_is)
    (case c_is_whole_between => k_is)
    (case k_is_whole_between => k_is)
    (case a_told_or => k_is)
    (case l_told_or => k_is)
    (case c_told_or => k_is)
    (case k_told_or => k_is)
    (case a_Number_init => k_is)
    (case i_Number_init => k_is)
    (case l_Number_init => k_is)
    (case c_Number_init => k_is)
    (case k_Number_init => k_is)
    (case T_Number_init => k_is)
    (case a_places_of => k_is)
    (case l_places_of => k_is)
    (case c_places_of => k_is)
    (case k_places_of => k_is)
    (case a_times_within => k_is)
    (case l_times_within => k_is)
    (case c_times_within => k_is)
    (case k_times_within => k_is)
    (case a_is_step => k_is)
    (case l_is_step => k_is)
    (case c_is_step => k_is)
    (case k_is_step => k_is)
    (case a_Wish_init => k_is)
    (case i_Wish_init => k_is)
    (case l_Wish_init => k_is)
    (case c_Wish_init => k_is)
    (case k_Wish_init => k_is)
    (case a_Wish_but => k_is)
    (case i_Wish_but => k_is)
    (case l_Wish_but => k_is)
    (case c_Wish_but => k_is)
    (case k_Wish_but => k_is)
    (case a_first_wrong => k_is)
    (case l_first_wrong => k_is)
    (case c_first_wrong => k_is)
    (case k_first_wrong => k_is)
    (case a_is_places => k_is)
    (case l_is_places => k_is)
    (case c_is_places => k_is)
    (case k_is_places => k_is)
    (case a_is_step_within => k_is)
    (case l_is_step_within => k_is)
    (case c_is_step_within => k_is)
    (case k_is_step_within => k_is)
    (case a_is_unit => k_is)
    (case l_is_unit => k_is)
    (case c_is_unit => k_is)
    (case k_is_unit => k_is)
    (case a_l_deck => k_is)
    (case l_l_deck => k_is)
    (case c_l_deck => k_is)
    (case k_l_deck => k_is)
    (case a_l_draw => k_is)
    (case l_l_draw => k_is)
    (case c_l_draw => k_is)
    (case k_l_draw => k_is)
    (case a_l_ways => k_is)
    (case l_l_ways => k_is)
    (case c_l_ways => k_is)
    (case k_l_ways => k_is)
    (case a_l_made => k_is)
    (case l_l_made => k_is)
    (case c_l_made => k_is)
    (case k_l_made => k_is)
    (case a_l_told => k_is)
    (case l_l_told => k_is)
    (case c_l_told => k_is)
    (case k_l_told => k_is)
    (case a_l_due => k_is)
    (case l_l_due => k_is)
    (case c_l_due => k_is)
    (case k_l_due => k_is)
    (case a_l_whole => k_is)
    (case l_l_whole => k_is)
    (case c_l_whole => k_is)
    (case k_l_whole => k_is)
    (case a_l_many_places => k_is)
    (case l_l_many_places => k_is)
    (case c_l_many_places => k_is)
    (case k_l_many_places => k_is)
    (case a_l_is_step => k_is)
    (case l_l_is_step => k_is)
    (case c_l_is_step => k_is)
    (case k_l_is_step => k_is)
    (case a_l_fault => k_is)
    (case l_l_fault => k_is)
    (case c_l_fault => k_is)
    (case k_l_fault => k_is)
    (case a_l_heard => k_is)
    (case l_l_heard => k_is)
    (case c_l_heard => k_is)
    (case k_l_heard => k_is)
    (case a_l_right => k_is)
    (case l_l_right => k_is)
    (case c_l_right => k_is)
    (case k_l_right => k_is)
    (case a_l_plain => k_is)
    (case l_l_plain => k_is)
    (case c_l_plain => k_is)
    (case k_l_plain => k_is)
    (case a_l_put => k_is)
    (case l_l_put => k_is)
    (case c_l_put => k_is)
    (case k_l_put => k_is)
    (case a_l_left_out => k_is)
    (case l_l_left_out => k_is)
    (case c_l_left_out => k_is)
    (case k_l_left_out => k_is)
    (case a_l_steps => k_is)
    (case l_l_steps => k_is)
    (case c_l_steps => k_is)
    (case k_l_steps => k_is)
    (case a_law => k_is)
    (case l_law => k_is)
    (case c_law => k_is)
    (case k_law => k_is)
    (case ae_NoWish => k_is)
    (case ae_FigureError => k_is)
    (case xe_NoWish => k_is)
    (case sa_NoWish => k_is)
    (case ga_NoWish => k_is)
    (case gg_NoWish => k_is)
    (case ci_NoWish => k_is)
    (case kp_NoWish => k_is)
    (case eb_NoWish => k_is)
    (case tt_NoWish => k_is)
    (case hd_NoWish => k_is)
    (case is_NoWish => k_is)
    (case ha_NoWish => k_is)
    (case hm_NoWish => k_is)
    (case sf_NoWish => first | rfl | k_is)
    (case no_NoWish_thing => k_is)
    (case ti_FigureError => k_is)
    (case li_FigureError => k_is)
    (case hnE => k_is)
    (case htE => k_is)
    (case zVE => k_is)
    (case zAE => k_is)
    (case cc_FigureError => k_is)
    (case kv_NoWish => k_is)
    (case kw_NoWish => k_is)
    (case tt_FigureError => k_is)
    (case is_FigureError => k_is)
    (case eb_FigureError => k_is)
    (case ks_NoWish => first | rfl | k_is)
    (case ae_NoCustom => k_is)
    (case tt_NoCustom => k_is)
    (case is_NoCustom => k_is)
    (case ae_NoFit => k_is)
    (case tt_NoFit => k_is)
    (case is_NoFit => k_is)
    (case ae_NoRead => k_is)
    (case tt_NoRead => k_is)
    (case is_NoRead => k_is)
    (case ae_NoName => k_is)
    (case tt_NoName => k_is)
    (case is_NoName => k_is)
    (case a_SIGNS => k_is)
    (case a_PLACES => k_is)
    (case l_PLACES => k_is)
    (case a_UNIT => k_is)
    (case l_UNIT => k_is)
    (case a_ALL_SIGNS => k_is)
    (case l_ALL_SIGNS => k_is)
    (case kk_NoCustom => k_is)
    (case kk_NoFit => k_is)
    (case kk_NoRead => k_is)
    (case kk_NoName => k_is)
    (case ic_N => k_is)
    (case tc_N => k_is)
    (case W_Wish_init_places => k_is)
    (case W_Wish_init_figures => k_is)
    (case W_Wish_init_step => k_is)
    (case W_Wish_init_way => k_is)
    (case W_Wish_init_signs => k_is)
    (case W_Wish_init_grouped => k_is)
    (case W_Wish_init_scaled => k_is)
    (case W_Wish_init_unit => k_is)
    (case W_Wish_but_places => k_is)
    (case W_Wish_but_figures => k_is)
    (case W_Wish_but_step => k_is)
    (case W_Wish_but_way => k_is)
    (case W_Wish_but_signs => k_is)
    (case W_Wish_but_grouped => k_is)
    (case W_Wish_but_scaled => k_is)
    (case W_Wish_but_unit => k_is)
    (case a_gcd => k_is)
    (case z_range => k_is)
    (case z_isinstance => k_is)
    (case z_str => k_is)
    (case z_int => k_is)
    (case z_list => k_is)
    (case z_len => k_is)
    (case z_max => k_is)
    (case z_bool => k_is)
    (case z_repr => k_is)
    (case z_tuple => k_is)
    (case z_dict => k_is)
    (case z_all => k_is)
    (case a_WAYS => k_is)
    (case l_WAYS => k_is)
    (case a_WAY => k_is)
    (case a_MOST_PLACES => k_is)
    (case a_MOST_FIGURES => k_is)
    (case a_MOST_UNIT => k_is)
