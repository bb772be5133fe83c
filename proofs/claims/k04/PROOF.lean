import PyProof.Rows.All
import Wide.All
import OpenK.AllK
import Wide.FinOn
import HandS.ForMost
import HandS.Wide
import HandS.WideBits
import HandS.Dict
import HandS.OwnEq
import PyProof.SeqRoads2
import HandS.Gcd
import HandS.Defaults
import HandS.CallLocal
import HandS.Style
import HandS.IsInst
import HandS.More
import HandS.TupAny
import HandS.StrMore
import HandS.Codes
import HandS.FStr
import HandS.ForSpec
import HandS.ExcIs
import KE.KExcInit
import HandS.Conv
import HandS.Sort
import PyProof.IsiH_set
import PyProof.FactsAll.object
import PyProof.TableTree
import PyProof.FactsTree
import KE.KIsAll
import PyProof.LongRange
import PyProof.ListRange
import PyProof.EqKinds
import PyProof.Rows.IntBool
import PyProof.Rows.EqBoolInt
import PyProof.Rows.ReprOcc
import HandS.SortRule
import HandS.Zip
import HandS.SortKw
import HandS.SetFor
import KE.GoesMore
import PyProof.Rows.SumAny
import PyProof.Rows.SortKeyStr
import PyProof.NeKinds
import PyProof.ReprLen
import HandS.ExcSuper
import HandS.ExcValue
import HandS.TryMany
import HandS.TryOnly
import HandS.ExcCtx
import HandS.Hot
import HandS.HotCalls
import HandS.Steps
import HandS.Replace
import PyProof.Draws
import PyProof.EnumMake
import PyProof.Rows.StrRev
import PySem.Challenge.RW_figuretexts_k04_texts_of_no_number

set_option Elab.async false
set_option linter.all false
set_option maxRecDepth 100000
set_option maxHeartbeats 4000000

namespace My
/-! numbers as Rat -/
def cdiv (t b : Int) : Int := if b < 0 then -((Nat.gcd t.natAbs b.natAbs : Nat) : Int) else ((Nat.gcd t.natAbs b.natAbs : Nat) : Int)
theorem gcd_pos {t b : Int} (h : b ≠ 0) : 0 < Nat.gcd t.natAbs b.natAbs := Nat.gcd_pos_of_pos_right _ (by omega)
theorem num_of {t b : Int} (h : b ≠ 0) : t.fdiv (cdiv t b) = (Rat.divInt t b).num := by
  have g := gcd_pos (t := t) h
  have d1 : ((Nat.gcd t.natAbs b.natAbs : Nat) : Int) ∣ t := Int.dvd_trans (Int.natCast_dvd_natCast.mpr (Nat.gcd_dvd_left _ _)) (Int.natAbs_dvd.mpr (Int.dvd_refl _))
  rw [Rat.num_divInt]
  have e : ((Int.gcd b t : Nat) : Int) = ((Nat.gcd t.natAbs b.natAbs : Nat) : Int) := by
    rw [Int.gcd_comm]; rfl
  rw [e]
  unfold cdiv
  obtain ⟨k, hk⟩ := d1
  have gn : ((Nat.gcd t.natAbs b.natAbs : Nat) : Int) ≠ 0 := by omega
  generalize ((Nat.gcd t.natAbs b.natAbs : Nat) : Int) = G at *
  subst hk
  by_cases hb : b < 0
  · rw [if_pos hb, Int.sign_eq_neg_one_of_neg hb]
    rw [show G * k = (-G) * (-k) by rw [Int.neg_mul_neg], Int.mul_fdiv_cancel_left _ (by omega)]
    rw [show -1 * (-G * -k) = G * (-k) by rw [Int.neg_mul_neg]; rw [Int.neg_one_mul, Int.mul_neg], Int.mul_ediv_cancel_left _ gn]
  · have hb' : 0 < b := by omega
    rw [if_neg hb, Int.sign_eq_one_of_pos hb', Int.one_mul, Int.mul_fdiv_cancel_left _ gn, Int.mul_ediv_cancel_left _ gn]
theorem den_of {t b : Int} (h : b ≠ 0) : b.fdiv (cdiv t b) = ((Rat.divInt t b).den : Int) := by
  have g := gcd_pos (t := t) h
  have d1 : ((Nat.gcd t.natAbs b.natAbs : Nat) : Int) ∣ b := Int.dvd_trans (Int.natCast_dvd_natCast.mpr (Nat.gcd_dvd_right _ _)) (Int.natAbs_dvd.mpr (Int.dvd_refl _))
  rw [Rat.den_divInt, if_neg h]
  have e : (Int.gcd b t : Nat) = (Nat.gcd t.natAbs b.natAbs : Nat) := by
    rw [Int.gcd_comm]; rfl
  rw [e, Int.natCast_ediv]
  unfold cdiv
  obtain ⟨k, hk⟩ := d1
  have gn : ((Nat.gcd t.natAbs b.natAbs : Nat) : Int) ≠ 0 := by omega
  have gp : 0 < ((Nat.gcd t.natAbs b.natAbs : Nat) : Int) := by omega
  generalize hG : ((Nat.gcd t.natAbs b.natAbs : Nat) : Int) = G at *
  by_cases hb : b < 0
  · rw [if_pos hb, show ((b.natAbs : Nat) : Int) = -b by omega]
    rw [hk, show G * k = (-G) * (-k) by rw [Int.neg_mul_neg], Int.mul_fdiv_cancel_left _ (by omega)]
    rw [show -(-G * -k) = G * (-k) by rw [Int.neg_mul_neg, Int.mul_neg], Int.mul_ediv_cancel_left _ gn]
  · rw [if_neg hb, show ((b.natAbs : Nat) : Int) = b by omega, hk, Int.mul_fdiv_cancel_left _ gn, Int.mul_ediv_cancel_left _ gn]

/-- top and bottom below 2 ^ n -/
def Bd (n : Nat) (q : Rat) : Prop := q.num.natAbs < 2 ^ n ∧ q.den < 2 ^ n
theorem Bd.mono {m n : Nat} {q : Rat} (h : Bd m q) (l : m ≤ n) : Bd n q :=
  ⟨Nat.lt_of_lt_of_le h.1 (Nat.pow_le_pow_right (by decide) l), Nat.lt_of_lt_of_le h.2 (Nat.pow_le_pow_right (by decide) l)⟩
theorem num_le (t b : Int) : (Rat.divInt t b).num.natAbs ≤ t.natAbs := by
  rw [Rat.num_divInt]
  refine Nat.le_trans (Int.natAbs_ediv_le_natAbs _ _) ?_
  rw [Int.natAbs_mul]
  rcases Int.lt_trichotomy b 0 with h | h | h
  · rw [Int.sign_eq_neg_one_of_neg h]; simp
  · subst h; simp
  · rw [Int.sign_eq_one_of_pos h]; simp
theorem den_le {t b : Int} (h : b ≠ 0) : (Rat.divInt t b).den ≤ b.natAbs := by
  rw [Rat.den_divInt, if_neg h]
  exact Nat.div_le_self _ _
theorem Bd.of {n : Nat} {t b : Int} (h : b ≠ 0) (ht : t.natAbs < 2 ^ n) (hb : b.natAbs < 2 ^ n) : Bd n (Rat.divInt t b) :=
  ⟨Nat.lt_of_le_of_lt (num_le t b) ht, Nat.lt_of_le_of_lt (den_le h) hb⟩
theorem den_ne (q : Rat) : ((q.den : Nat) : Int) ≠ 0 := by have := q.den_pos; omega
theorem sub_eq (x y : Rat) : Rat.divInt (x.num * (y.den : Int) - y.num * (x.den : Int)) ((x.den : Int) * (y.den : Int)) = x - y := by
  rw [Rat.sub_def', ← Int.natCast_mul, Rat.divInt_ofNat]
theorem add_eq (x y : Rat) : Rat.divInt (x.num * (y.den : Int) + y.num * (x.den : Int)) ((x.den : Int) * (y.den : Int)) = x + y := by
  rw [Rat.add_def', ← Int.natCast_mul, Rat.divInt_ofNat]
theorem mul_eq (x y : Rat) : Rat.divInt (x.num * y.num) ((x.den : Int) * (y.den : Int)) = x * y := by
  rw [Rat.mul_def', ← Int.natCast_mul, Rat.divInt_ofNat]
theorem div_eq (x y : Rat) : Rat.divInt (x.num * (y.den : Int)) ((x.den : Int) * y.num) = x / y := by
  rw [Rat.div_def, Rat.inv_def, ← Rat.divInt_mul_divInt, Rat.num_divInt_den]
theorem num_ne {y : Rat} (h : y ≠ 0) : y.num ≠ 0 := fun e => h (Rat.num_eq_zero.mp e)
theorem floor_eq (x : Rat) : x.num.fdiv (x.den : Int) = x.floor := by
  rw [Rat.floor_def, Int.fdiv_eq_ediv_of_nonneg _ (by omega)]
theorem natAbs_mul_lt {a b : Int} {m n k : Nat} (ha : a.natAbs < 2 ^ m) (hb : b.natAbs < 2 ^ n) (h : m + n ≤ k) : (a * b).natAbs < 2 ^ k := by
  rw [Int.natAbs_mul]
  exact Nat.lt_of_lt_of_le (Nat.mul_lt_mul'' ha hb) (by rw [← Nat.pow_add]; exact Nat.pow_le_pow_right (by decide) h)
theorem natAbs_sub_lt {a b : Int} {k : Nat} (ha : a.natAbs < 2 ^ k) (hb : b.natAbs < 2 ^ k) : (a - b).natAbs < 2 ^ (k + 1) := by
  rw [Nat.pow_succ]; omega
theorem natAbs_add_lt {a b : Int} {k : Nat} (ha : a.natAbs < 2 ^ k) (hb : b.natAbs < 2 ^ k) : (a + b).natAbs < 2 ^ (k + 1) := by
  rw [Nat.pow_succ]; omega
theorem Bd.sub {m n : Nat} {x y : Rat} (hx : Bd m x) (hy : Bd n y) : Bd (m + n + 1) (x - y) := by
  rw [← sub_eq]
  refine Bd.of (Int.mul_ne_zero (den_ne x) (den_ne y)) ?_ ?_
  · exact natAbs_sub_lt (natAbs_mul_lt (m := m) (n := n) hx.1 (by have := hy.2; omega) (Nat.le_refl _)) (natAbs_mul_lt (m := n) (n := m) hy.1 (by have := hx.2; omega) (by omega))
  · exact natAbs_mul_lt (m := m) (n := n) (by have := hx.2; omega) (by have := hy.2; omega) (by omega)
theorem Bd.mul {m n : Nat} {x y : Rat} (hx : Bd m x) (hy : Bd n y) : Bd (m + n) (x * y) := by
  rw [← mul_eq]
  exact Bd.of (Int.mul_ne_zero (den_ne x) (den_ne y)) (natAbs_mul_lt hx.1 hy.1 (Nat.le_refl _)) (natAbs_mul_lt (m := m) (n := n) (by have := hx.2; omega) (by have := hy.2; omega) (by omega))
theorem Bd.div {m n : Nat} {x y : Rat} (hx : Bd m x) (hy : Bd n y) (h : y ≠ 0) : Bd (m + n) (x / y) := by
  rw [← div_eq]
  exact Bd.of (Int.mul_ne_zero (den_ne x) (num_ne h)) (natAbs_mul_lt (m := m) (n := n) hx.1 (by have := hy.2; omega) (Nat.le_refl _)) (natAbs_mul_lt (m := m) (n := n) (by have := hx.2; omega) hy.1 (by omega))
theorem Bd.int {n : Nat} {i : Int} (h : i.natAbs < 2 ^ n) (h1 : 1 ≤ n) : Bd n (i : Rat) := ⟨h, by
  show 1 < 2 ^ n
  exact Nat.lt_of_lt_of_le (by decide) (Nat.pow_le_pow_right (by decide) h1)⟩
theorem floor_bd {n : Nat} {x : Rat} (h : Bd n x) : x.floor.natAbs < 2 ^ n := by
  rw [Rat.floor_def]
  exact Nat.lt_of_le_of_lt (Int.natAbs_ediv_le_natAbs _ _) h.1
theorem divInt_one (i : Int) : Rat.divInt i 1 = (i : Rat) := by
  have := Rat.divInt_ofNat i 1
  rw [show ((1 : Nat) : Int) = 1 from rfl] at this
  rw [this, Rat.mkRat_eq_div]; simp
  grind

/-! the ways -/
inductive Way where
  | up | down | high | low | hup | hdown | heven | hodd
def nearerB (part : Rat) (a : Bool) : Bool := if 2 * part.num = (part.den : Int) then a else decide ((part.den : Int) < 2 * part.num)
def ruleB : Way → Int → Rat → Bool
  | .up, l, _ => decide (0 ≤ l)
  | .down, l, _ => decide (l < 0)
  | .high, _, _ => true
  | .low, _, _ => false
  | .hup, l, p => nearerB p (decide (0 ≤ l))
  | .hdown, l, p => nearerB p (decide (l < 0))
  | .heven, l, p => nearerB p (decide (l % 2 = 1))
  | .hodd, l, p => nearerB p (decide (l % 2 = 0))
def partQ (n : Rat) : Rat := n - (n.floor : Rat)
def highQ (n : Rat) : Int := if (partQ n).num = 0 then n.floor else n.floor + 1
def takenQ (w : Way) (n : Rat) : Int := if (partQ n).num = 0 then n.floor else if ruleB w n.floor (partQ n) = true then n.floor + 1 else n.floor
theorem floor_add {c : Int} {f : Rat} (h0 : 0 ≤ f) (h1 : f < 1) : ((c : Rat) + f).floor = c := by
  have a : c ≤ ((c : Rat) + f).floor := Rat.le_floor_iff.mpr (by grind)
  have b : ((c : Rat) + f).floor < c + 1 := Rat.floor_lt_iff.mpr (by rw [Rat.intCast_add]; grind)
  omega
theorem part_add {c : Int} {f : Rat} (h0 : 0 ≤ f) (h1 : f < 1) : partQ ((c : Rat) + f) = f := by
  unfold partQ
  rw [floor_add h0 h1]
  grind
theorem taken_add {w : Way} {c : Int} {f : Rat} (h0 : 0 < f) (h1 : f < 1) : takenQ w ((c : Rat) + f) = if ruleB w c f = true then c + 1 else c := by
  unfold takenQ
  rw [part_add (Rat.le_of_lt h0) h1, floor_add (Rat.le_of_lt h0) h1, if_neg (num_ne (by grind))]
/-- a number of whole and part steps -/
theorem steps_eq {a b c p0 p1 : Int} (ha : a ≠ 0) (hb : b ≠ 0) (h1 : p1 ≠ 0) : Rat.divInt (a * (c * p1 + p0)) (b * p1) / Rat.divInt a b = (c : Rat) + Rat.divInt p0 p1 := by
  simp only [Rat.divInt_eq_div, Rat.intCast_mul, Rat.intCast_add]
  have ha' : (a : Rat) ≠ 0 := by simpa using ha
  have hb' : (b : Rat) ≠ 0 := by simpa using hb
  have h1' : (p1 : Rat) ≠ 0 := by simpa using h1
  grind
end My

namespace My
open PySem L2
/-! readings, one head at a time -/
section
variable {σ : L2.St} {H : Hp} {Q : VK} {QB : Bool → Hp → Prop} {QA : List V → Hp → Prop} {QS : L2.St → Hp → Prop} {v x y : V} {ta tb te tc : TE} {tr : TA} {t u : TS} {c d : TT} {g : TG} {i : Nat} {K : PySem.W.Frag} {b : Bool}
  {nx : L2.St → Hp → Prop} {rt : VK} {bk ct : L2.St → Hp → Prop}
theorem r_var (q : ∃ v, σ[i]? = some (some v) ∧ Q v H) : tVar i σ H Q := q
theorem r_c (q : Q v H) : tC v σ H Q := q
theorem r_op {r : R2} (q : ta σ H fun x H1 => tb σ H1 fun y H2 => r x y H2 Q) : tOp r ta tb σ H Q := q
theorem r_un {r : V → Hp → VK → Prop} (q : ta σ H fun x H1 => r x H1 Q) : tUn r ta σ H Q := q
theorem r_U {f : Int → V} {i : Int} (q : Q (f i) H) : rU f (.int i) H Q := ⟨i, rfl, q⟩
theorem r_I0 {f : Int → Int → V} {i j : Int} (q : Q (f i j) H) : rI0 f (.int i) (.int j) H Q := ⟨i, j, rfl, rfl, q⟩
theorem r_I {C : Int → Int → Prop} {f : Int → Int → V} {i j : Int} (h : C i j) (q : Q (f i j) H) : rI C f (.int i) (.int j) H Q := ⟨i, j, rfl, rfl, h, q⟩
theorem r_eq (h : scal x y = true) (q : Q (.bl (decide (x = y))) H) : rEq x y H Q := ⟨h, q⟩
theorem r_ne (h : scal x y = true) (q : Q (.bl (!decide (x = y))) H) : rNe x y H Q := ⟨h, q⟩
theorem r_eqI {i j : Int} (q : Q (.bl (decide (i = j))) H) : rEq (.int i) (.int j) H Q := ⟨rfl, by
  have e : decide (V.int i = V.int j) = decide (i = j) := by simp
  rw [e]; exact q⟩
theorem r_neI {i j : Int} (q : Q (.bl (!decide (i = j))) H) : rNe (.int i) (.int j) H Q := ⟨rfl, by
  have e : decide (V.int i = V.int j) = decide (i = j) := by simp
  rw [e]; exact q⟩
theorem r_eqS {i j : Str} (q : Q (.bl (decide (i = j))) H) : rEq (.str i) (.str j) H Q := ⟨rfl, by
  have e : decide (V.str i = V.str j) = decide (i = j) := by simp
  rw [e]; exact q⟩
theorem r_eqB {i j : Bool} (q : Q (.bl (decide (i = j))) H) : rEq (.bl i) (.bl j) H Q := ⟨rfl, by
  have e : decide (V.bl i = V.bl j) = decide (i = j) := by simp
  rw [e]; exact q⟩
theorem r_test (q : te σ H fun x H' => ∃ k, x = .bl k ∧ QB k H') : tTest te σ H QB := q
theorem r_B (q : te σ H fun x H' => ∃ k, x = .bl k ∧ QB k H') : tB te σ H QB := q
theorem r_k {P : Bool → Prop} (q : P b) : ∃ k, V.bl b = .bl k ∧ P k := ⟨b, rfl, q⟩
theorem r_and (q : c σ H fun b H1 => if b = true then d σ H1 QB else QB false H1) : tAnd c d σ H QB := q
theorem r_or (q : c σ H fun b H1 => if b = true then QB true H1 else d σ H1 QB) : tOr c d σ H QB := q
theorem r_not (q : c σ H fun b H1 => QB (!b) H1) : tNot c σ H QB := q
theorem r_andV (q : ta σ H fun x H1 => ∃ c, x = .bl c ∧ if c = true then tb σ H1 Q else Q (.bl false) H1) : tAndV ta tb σ H Q := q
theorem r_orV (q : ta σ H fun x H1 => ∃ c, x = .bl c ∧ if c = true then Q (.bl true) H1 else tb σ H1 Q) : tOrV ta tb σ H Q := q
theorem r_notV (q : ta σ H fun x H1 => ∃ c, x = .bl c ∧ Q (.bl (!c)) H1) : tNotV ta σ H Q := q
theorem r_if (q : c σ H fun b H1 => if b = true then ta σ H1 Q else tb σ H1 Q) : tIf c ta tb σ H Q := q
theorem r_seq (q : t ⟨u ⟨nx, rt, bk, ct⟩, rt, bk, ct⟩ σ H) : tSeq t u ⟨nx, rt, bk, ct⟩ σ H := q
theorem r_asg (q : te σ H fun x H1 => g x σ H1 nx) : tAsg te g ⟨nx, rt, bk, ct⟩ σ H := q
theorem r_name (q : QS (σ.set i (some v)) H) : gName i v σ H QS := q
theorem r_ifs (q : c σ H fun b H1 => if b = true then t ⟨nx, rt, bk, ct⟩ σ H1 else u ⟨nx, rt, bk, ct⟩ σ H1) : tIfS c t u ⟨nx, rt, bk, ct⟩ σ H := q
theorem r_ret (q : te σ H rt) : tRet te ⟨nx, rt, bk, ct⟩ σ H := q
theorem r_next (q : nx σ H) : tNext ⟨nx, rt, bk, ct⟩ σ H := q
theorem r_drop (q : te σ H fun _ H1 => nx σ H1) : tDrop te ⟨nx, rt, bk, ct⟩ σ H := q
theorem r_cons (q : te σ H fun x H1 => tr σ H1 fun xs H2 => QA (x :: xs) H2) : tCons te tr σ H QA := q
theorem r_nil (q : QA [] H) : tNil σ H QA := q
theorem r_tup (q : tr σ H fun xs H1 => xs.length ≤ sizeLine ∧ ∀ p, H1 p = none → Q (.ref p) (upd H1 p (.tup xs))) : tTup tr σ H Q := q
theorem r_lst (q : tr σ H fun xs H1 => xs.length ≤ sizeLine ∧ ∀ p, H1 p = none → Q (.ref p) (upd H1 p (.lst xs))) : tLst tr σ H Q := q
theorem r_new {n : Nat} {P : Prop} (h : n ≤ 1000) (q : P) : n ≤ sizeLine ∧ P := ⟨Nat.le_trans h (by decide), q⟩
theorem r_fldT {f : Str} (q : ta σ H fun x H1 => ∃ a C dx fs v, x = .ref a ∧ H1 a = some (.ins C dx fs) ∧ Cls K C ∧ NoAttr K C f ∧ fs.lookup f = some v ∧ Q v H1) : tFld K ta f σ H Q := q
theorem r_fld {f : Str} {p C dx : Addr} {fs : List (Str × V)} (h : H p = some (.ins C dx fs)) (k : Cls K C) (n : NoAttr K C f) (l : fs.lookup f = some v) {P : V → Prop} (q : P v) :
    ∃ a C dx fs v, V.ref p = .ref a ∧ H a = some (.ins C dx fs) ∧ Cls K C ∧ NoAttr K C f ∧ fs.lookup f = some v ∧ P v := ⟨p, C, dx, fs, v, rfl, h, k, n, l, q⟩
theorem r_sFld {f : Str} (q : te σ H fun y H1 => ta σ H1 fun x H2 => ∃ a C dx fs, x = .ref a ∧ H2 a = some (.ins C dx fs) ∧ Cls K C ∧ NoAttr K C f ∧ fs.length < 1000 ∧ nx σ (upd H2 a (.ins C dx (putF f y fs)))) : sFld K ta te f ⟨nx, rt, bk, ct⟩ σ H := q
theorem r_call {sp : Sp} {dvs : List V} {E : XK} (q : tr σ H fun vs H1 => sp (vs ++ dvs) H1 Q E) : tCall sp dvs E tr σ H Q := q
theorem r_CB {r : List V → Hp → VK → Prop} (q : tr σ H fun vs H1 => r vs H1 Q) : tCB r tr σ H Q := q
theorem r_meth {C : Addr} {m : Str} {sp : Sp} {dvs : List V} {E : XK} (q : ta σ H fun x H1 => ∃ a dx fs, x = .ref a ∧ H1 a = some (.ins C dx fs) ∧ fs.lookup m = none ∧ tr σ H1 fun vs H2 => sp (x :: (vs ++ dvs)) H2 Q E) : tMeth C m sp dvs E ta tr σ H Q := q
theorem r_meth1 {C : Addr} {m : Str} {P : Prop} {p dx : Addr} {fs : List (Str × V)} (h : H p = some (.ins C dx fs)) (l : fs.lookup m = none) (q : P) : ∃ a dx fs, V.ref p = .ref a ∧ H a = some (.ins C dx fs) ∧ fs.lookup m = none ∧ P := ⟨p, dx, fs, rfl, h, l, q⟩
theorem r_make {C : Addr} {sp : Sp} {dvs : List V} {E : XK} (q : tr σ H fun vs H1 => ∀ x dx, H1 x = none → H1 dx = none → dx ≠ x → sp (.ref x :: (vs ++ dvs)) (upd (upd H1 dx (.own x)) x (.ins C dx [])) (fun v H2 => v = .non ∧ Q (.ref x) H2) E) : tMake C sp dvs E tr σ H Q := q
theorem r_callN {n m : Nat} {sp : Sp} {gV : List V → List V → List V} {E : XK} {tk : TA} (q : tr σ H fun vs H1 => tk σ H1 fun zs H2 => vs.length = n ∧ zs.length = m ∧ sp (gV vs zs) H2 Q E) : tCallN n m sp gV E tr tk σ H Q := q
theorem r_ixT {p : Addr} {xs : List V} {i : Int} (h : H p = some (.tup xs)) (a : atI xs i = some v) (q : Q v H) : rIxT K (.ref p) (.int i) H Q := ⟨p, xs, i, v, rfl, rfl, SqT.of h, a, q⟩
theorem r_ixL {p : Addr} {xs : List V} {i : Int} (h : H p = some (.lst xs)) (a : atI xs i = some v) (q : Q v H) : rIxL K (.ref p) (.int i) H Q := ⟨p, xs, i, v, rfl, rfl, SqL.of h, a, q⟩
theorem r_isi {vs : List V} (q : rIsi K vs H Q) : rIsi K vs H Q := q
theorem r_ite {A B : Prop} {k : Bool} (h1 : k = true → A) (h2 : k = false → B) : if k = true then A else B := by
  cases k with
  | true => exact h1 rfl
  | false => exact h2 rfl
theorem r_iteT {A B : Prop} {k : Bool} (h : k = true) (q : A) : if k = true then A else B := by
  rw [if_pos h]; exact q
theorem r_iteF {A B : Prop} {k : Bool} (h : k = false) (q : B) : if k = true then A else B := by
  subst h; exact iteF q
end
/-! ### // by any number but nought -/
def CDivA (_ j : Int) : Prop := j ≠ 0 ∧ j.natAbs.log2 < 9000
theorem op_fdivA {X : Cx} : OpR X (binaryOp .FloorDiv) (rI CDivA fun i j => .int (i.fdiv j)) := opI fun i j _ _ _ _ _ hc q => PyProof.Rows.floordiv_int hc.1 q (.inl (PyProof.noPylong_of_log2 hc.2))
theorem cdivA {i j : Int} {b : Nat} (h : j ≠ 0) (hb : j.natAbs < 2 ^ b) (h0 : 0 < b) (h9 : b ≤ 9000) : CDivA i j := ⟨h, Nat.lt_of_lt_of_le (PySem.Flt.log2_lt_of h0 hb) h9⟩
/-! ### heaps but for two places -/
def Off (d c : Addr) (H H' : Hp) : Prop := ∀ b o, b ≠ d → b ≠ c → H b = some o → H' b = some o
theorem Off.refl (d c : Addr) (H : Hp) : Off d c H H := fun _ _ _ _ h => h
theorem Off.trans {d c : Addr} {H H1 H2 : Hp} (a : Off d c H H1) (b : Off d c H1 H2) : Off d c H H2 := fun x o h1 h2 h => b x o h1 h2 (a x o h1 h2 h)
theorem Off.of {d c : Addr} {H H' : Hp} (a : Same H H') : Off d c H H' := fun x o _ _ h => a x o h
theorem Same.new {H : Hp} {p : Addr} {o : HO} (h : H p = none) : Same H (upd H p o) := fun b u e => by
  rw [upd_ne (ne_of_none e h)]
  exact e
/-! ### more heads -/
section
variable {σ : L2.St} {H : Hp} {Q : VK} {QA : List V → Hp → Prop} {QS : L2.St → Hp → Prop} {QO : Option Int → Hp → Prop} {v x y : V} {te ta to ti : TE} {tr : TA} {tl th : TO} {K : PySem.W.Frag} {nx : L2.St → Hp → Prop} {rt : VK} {bk ct : L2.St → Hp → Prop}
theorem r_gsub {t : TSet} (q : to σ H fun o H1 => ti σ H1 fun i H2 => t o i v H2 fun H3 => QS σ H3) : gSub to ti t v σ H QS := q
theorem r_setL {p : Addr} {xs : List V} {k : Int} {j : Nat} {R : Hp → Prop} (h : H p = some (.lst xs)) (e : ixN xs.length k = some j) (q : R (upd H p (.lst (xs.set j v)))) : rSetL (.ref p) (.int k) v H R := ⟨p, xs, k, j, rfl, rfl, h, e, q⟩
theorem r_sl {r : V → Option Int → Option Int → Hp → VK → Prop} (q : te σ H fun x H1 => tl σ H1 fun l H2 => th σ H2 fun u H3 => r x l u H3 Q) : tSl r te tl th σ H Q := q
theorem r_noPart (q : QO none H) : tNoPart σ H QO := q
theorem r_part (q : te σ H fun x H1 => ∃ i, x = .int i ∧ QO (some i) H1) : tPart te σ H QO := q
theorem r_ki {P : Int → Prop} {i : Int} (q : P i) : ∃ k, V.int i = .int k ∧ P k := ⟨i, rfl, q⟩
theorem r_bm0 {T : String} {r : V → List V → Hp → VK → Prop} (q : te σ H fun x H1 => tyV K T x H1 ∧ r x [] H1 Q) : tBM0 K T r te σ H Q := q
theorem r_bm {T : String} {r : V → List V → Hp → VK → Prop} (q : te σ H fun x H1 => tyV K T x H1 ∧ tr σ H1 fun xs H2 => r x xs H2 Q) : tBM K T r te tr σ H Q := q
theorem r_rev (q : te σ H fun x H1 => ∃ a xs, x = .ref a ∧ SqL K H1 a xs ∧ ∀ p, H1 p = none → Q (.ref p) (upd H1 p (.lst xs.reverse))) : tRevL K te σ H Q := q
theorem ty_list {p : Addr} {xs : List V} (h : H p = some (.lst xs)) : tyV K "list" (.ref p) H := .inl ⟨rfl, _, SqL.of h⟩
theorem r_pop {p : Addr} {xs : List V} {y : V} (h : H p = some (.lst (xs ++ [y]))) (q : Q y (upd H p (.lst xs))) : rPop (.ref p) [] H Q := by
  refine ⟨p, xs ++ [y], y, rfl, rfl, h, by simp, ?_⟩
  rw [List.dropLast_concat]
  exact q
theorem r_append {p : Addr} {xs : List V} (h : H p = some (.lst xs)) (l : xs.length ≤ 1000) (q : Q .non (upd H p (.lst (xs ++ [y])))) : rAppend (.ref p) [y] H Q := ⟨p, xs, y, rfl, rfl, h, Nat.lt_of_le_of_lt l (by decide), q⟩
end
theorem dp_ints {K : PySem.W.Frag} {H : Hp} : ∀ xs : List Int, DpAll K H (xs.map V.int) (xs.map PyData.int)
  | [] => .nil
  | x :: xs => .cons (.int x) (dp_ints xs)
theorem lay_ints : ∀ xs : List Int, PyData.canLayAll0 (xs.map PyData.int) = true ∧ PyData.depthAll (xs.map PyData.int) = 0
  | [] => ⟨rfl, rfl⟩
  | x :: xs => by
    obtain ⟨a, b⟩ := lay_ints xs
    constructor
    · show (PyData.canLay0 (.int x) && PyData.canLayAll0 (xs.map PyData.int)) = true
      rw [a]; rfl
    · show max (PyData.depth (.int x)) (PyData.depthAll (xs.map PyData.int)) = 0
      rw [b]; rfl
theorem shaped_ints (xs : List Int) : SeqAt.shaped (.list (xs.map PyData.int)) = true := by
  obtain ⟨a, b⟩ := lay_ints xs
  have a' : PyData.canLay0 (.list (xs.map PyData.int)) = true := by rw [PyData.canLay0]; exact a
  have b' : PyData.depth (.list (xs.map PyData.int)) = 1 := by rw [PyData.depth, b]
  unfold SeqAt.shaped
  rw [a', b']; rfl
theorem eqv_ints : ∀ xs ys : List Int, PyData.eqvAll (xs.map PyData.int) (ys.map PyData.int) = decide (xs = ys)
  | [], [] => rfl
  | [], _ :: _ => by simp [PyData.eqvAll]
  | _ :: _, [] => by simp [PyData.eqvAll]
  | x :: xs, y :: ys => by
    show (PyData.eqv (.int x) (.int y) && PyData.eqvAll (xs.map PyData.int) (ys.map PyData.int)) = _
    rw [eqv_ints xs ys]
    show ((x == y) && decide (xs = ys)) = _
    rw [Bool.eq_iff_iff]; simp
theorem r_neInts {K : PySem.W.Frag} {H : Hp} {Q : VK} {p q : Addr} {xs ys : List Int} (h : SqL K H p (xs.map V.int)) (h' : SqL K H q (ys.map V.int)) (k : Q (.bl (!decide (xs = ys))) H) : rNeD K (.ref p) (.ref q) H Q :=
  ⟨.list (xs.map PyData.int), .list (ys.map PyData.int), .lst h (dp_ints xs), .lst h' (dp_ints ys), shaped_ints xs, shaped_ints ys, by
    rw [PyData.eqv, eqv_ints]; exact k⟩
theorem cut_ints (ns : List Int) (k : Int) : ∃ ms : List Int, cutV (ns.map V.int) none (some k) = ms.map V.int ∧ ms.length ≤ ns.length := by
  unfold cutV
  rw [← List.map_drop, ← List.map_take]
  exact ⟨_, rfl, by rw [List.length_take, List.length_drop]; omega⟩
end My
namespace My
open PySem L2
theorem r_forT {σ : L2.St} {H : Hp} {K : PySem.W.Frag} {tl : TE} {g : TG} {tb : TS} {D : Ends} (q : tl σ H fun x H1 => ∃ a, x = .ref a ∧ (∃ xs, SqT K H1 a xs) ∧ ∃ W : Nat → Nat → L2.St → Hp → Prop, (∃ m, W 0 m σ H1) ∧ ∀ i m σ H, W i m σ H →
    ((Itt K a).stop i H ∧ D.nx σ H) ∨ ((Itt K a).go i H ∧ ∃ N : L2.St → Hp → Prop, (∀ σ' H', N σ' H' → ∃ m', m' < m ∧ W (i + 1) m' σ' H') ∧ ∀ x H', (Itt K a).yld i H x H' → g x σ H' fun σ2 H2 => tb { D with nx := N, ct := N, bk := D.nx } σ2 H2)) : tFor (iTup K tl) g tb D σ H := q
end My

local macro_rules | `(tactic| walk_at "rd1") => `(tactic| first
  | with_reducible refine My.r_seq ?_
  | with_reducible refine My.r_asg ?_
  | with_reducible refine My.r_name ?_
  | with_reducible refine My.r_cons ?_
  | with_reducible refine My.r_nil ?_
  | with_reducible refine My.r_op ?_
  | ((with_reducible refine My.r_var ?_); refine ⟨_, rfl, ?_⟩)
  | with_reducible refine My.r_c ?_
  | with_reducible refine My.r_I0 ?_
  | with_reducible refine My.r_eqI ?_
  | with_reducible refine My.r_neI ?_
  | with_reducible refine My.r_eqS ?_
  | with_reducible refine My.r_eqB ?_
  | with_reducible refine My.r_test ?_
  | with_reducible refine My.r_B ?_
  | with_reducible refine My.r_k ?_
  | with_reducible refine My.r_un ?_
  | with_reducible refine My.r_U ?_
  | with_reducible refine My.r_ifs ?_
  | with_reducible refine My.r_ret ?_
  | with_reducible refine My.r_next ?_
  | with_reducible refine My.r_drop ?_
  | with_reducible refine My.r_CB ?_
  | with_reducible refine My.r_call ?_
  | with_reducible refine My.r_callN ?_
  | with_reducible refine My.r_meth ?_
  | with_reducible refine My.r_make ?_
  | with_reducible refine My.r_tup ?_
  | with_reducible refine My.r_lst ?_
  | with_reducible refine My.r_fldT ?_
  | with_reducible refine My.r_sFld ?_
  | with_reducible refine My.r_and ?_
  | with_reducible refine My.r_or ?_
  | with_reducible refine My.r_not ?_
  | with_reducible refine My.r_andV ?_
  | with_reducible refine My.r_orV ?_
  | with_reducible refine My.r_notV ?_
  | with_reducible refine My.r_if ?_
  | with_reducible refine My.r_gsub ?_
  | with_reducible refine My.r_sl ?_
  | with_reducible refine My.r_noPart ?_
  | with_reducible refine My.r_part ?_
  | with_reducible refine My.r_ki ?_
  | with_reducible refine My.r_bm0 ?_
  | with_reducible refine My.r_bm ?_
  | with_reducible refine My.r_rev ?_
  | ((with_reducible refine My.r_I ?_ ?_); (first | decide | exact .inl ⟨by decide, by decide⟩ | exact .inr ⟨by decide, by decide⟩ | exact ⟨by decide, by decide⟩ | exact ⟨by decide, by decide, by decide⟩)))
local macro_rules | `(tactic| walk_at "rd") => `(tactic| (repeat walk_at "rd1"))


namespace My
/-! ### rounded twice -/
def isHalf : Way → Bool
  | .heven | .hodd | .hup | .hdown => true
  | _ => false
/-- at the middle beyond l: whether up -/
def tieUp : Way → Int → Bool
  | .hup, l => decide (0 ≤ l)
  | .hdown, l => decide (l < 0)
  | .heven, l => decide (l % 2 = 1)
  | .hodd, l => decide (l % 2 = 0)
  | _, _ => false
theorem nearerB_lo {p : Rat} {a : Bool} (h : p < 1 / 2) : nearerB p a = false := by
  have d := p.den_pos
  have e : p.num * 2 < 1 * (p.den : Int) := by
    have := (Rat.lt_iff p (1 / 2)).mp h
    have h1 : ((1 : Rat) / 2).num = 1 := by decide +kernel
    have h2 : ((1 : Rat) / 2).den = 2 := by decide +kernel
    rw [h1, h2] at this
    exact this
  unfold nearerB
  rw [if_neg (by omega)]
  exact decide_eq_false (by omega)
theorem nearerB_hi {p : Rat} {a : Bool} (h : 1 / 2 < p) : nearerB p a = true := by
  have d := p.den_pos
  have e : 1 * (p.den : Int) < p.num * 2 := by
    have := (Rat.lt_iff (1 / 2) p).mp h
    have h1 : ((1 : Rat) / 2).num = 1 := by decide +kernel
    have h2 : ((1 : Rat) / 2).den = 2 := by decide +kernel
    rw [h1, h2] at this
    exact this
  unfold nearerB
  rw [if_neg (by omega)]
  exact decide_eq_true (by omega)
theorem nearerB_mid (a : Bool) : nearerB (1 / 2) a = a := by cases a <;> decide +kernel
theorem ruleB_lo {r : Way} (h : isHalf r = true) (l : Int) {p : Rat} (hp : p < 1 / 2) : ruleB r l p = false := by
  cases r <;> first | exact absurd h (by decide) | exact nearerB_lo hp
theorem ruleB_hi {r : Way} (h : isHalf r = true) (l : Int) {p : Rat} (hp : 1 / 2 < p) : ruleB r l p = true := by
  cases r <;> first | exact absurd h (by decide) | exact nearerB_hi hp
theorem ruleB_mid {r : Way} (h : isHalf r = true) (l : Int) : ruleB r l (1 / 2) = tieUp r l := by
  cases r <;> first | exact absurd h (by decide) | exact nearerB_mid _
theorem taken_int (r : Way) (c : Int) : takenQ r (c : Rat) = c := by
  have e : partQ (c : Rat) = 0 := by unfold partQ; rw [Rat.floor_intCast]; grind
  unfold takenQ
  rw [e, Rat.floor_intCast]
  rfl
/-- nearer than a half -/
theorem taken_near {r : Way} (h : isHalf r = true) {n : Rat} {t : Int} (h1 : (t : Rat) - 1 / 2 < n) (h2 : n < (t : Rat) + 1 / 2) : takenQ r n = t := by
  by_cases h0 : n = (t : Rat)
  · rw [h0]
    exact taken_int r t
  · by_cases hp : (t : Rat) < n
    · have e : n = (t : Rat) + (n - t) := by grind
      rw [e, taken_add (by grind) (by grind), ruleB_lo h t (by grind)]
      rfl
    · have e : n = ((t - 1 : Int) : Rat) + (n - t + 1) := by rw [Rat.intCast_sub]; grind
      rw [e, taken_add (by grind) (by grind), ruleB_hi h (t - 1) (by grind)]
      show t - 1 + 1 = t
      omega
theorem taken_mid {r : Way} (h : isHalf r = true) (l : Int) : takenQ r ((l : Rat) + 1 / 2) = if tieUp r l = true then l + 1 else l := by
  rw [taken_add (by decide +kernel) (by decide +kernel), ruleB_mid h l]
/-- every number is near one, or in the middle -/
theorem near_or_mid (n : Rat) : (∃ t : Int, (t : Rat) - 1 / 2 < n ∧ n < (t : Rat) + 1 / 2) ∨ ∃ l : Int, n = (l : Rat) + 1 / 2 := by
  have a := Rat.floor_le n
  have b := Rat.lt_floor_add_one n
  rw [Rat.intCast_add] at b
  by_cases h : n = (n.floor : Rat) + 1 / 2
  · exact .inr ⟨_, h⟩
  · by_cases h2 : n < (n.floor : Rat) + 1 / 2
    · exact .inl ⟨n.floor, by grind, h2⟩
    · exact .inl ⟨n.floor + 1, by rw [Rat.intCast_add]; grind, by rw [Rat.intCast_add]; grind⟩
def twiceT (r : Way) (m : Int) (u : Rat) : Int := takenQ r ((takenQ r u : Rat) / (m : Rat))
def onceT (r : Way) (m : Int) (u : Rat) : Int := takenQ r (u / (m : Rat))
theorem div_near {r : Way} (h : isHalf r = true) {m : Int} (hm : 0 < m) {s : Int} {n : Rat} (h1 : (s : Rat) * m - (m : Rat) / 2 < n) (h2 : n < (s : Rat) * m + (m : Rat) / 2) : takenQ r (n / (m : Rat)) = s := by
  have hm' : (0 : Rat) < (m : Rat) := Rat.intCast_pos.mpr hm
  refine taken_near h ?_ ?_
  · exact (Rat.lt_div_iff hm').mpr (by grind)
  · exact (Rat.div_lt_iff hm').mpr (by grind)
theorem div_mid {r : Way} (h : isHalf r = true) {m : Int} (hm : 0 < m) {s : Int} {n : Rat} (h1 : n = (s : Rat) * m + (m : Rat) / 2) : takenQ r (n / (m : Rat)) = if tieUp r s = true then s + 1 else s := by
  have hm' : (m : Rat) ≠ 0 := by have : (0 : Rat) < (m : Rat) := Rat.intCast_pos.mpr hm; grind
  rw [← taken_mid h s, h1]
  congr 1
  grind
theorem split_odd (j h : Int) (h0 : 0 ≤ h) : ∃ s e : Int, j = s * (2 * h + 1) + e ∧ -h ≤ e ∧ e ≤ h := by
  refine ⟨(j + h) / (2 * h + 1), (j + h) % (2 * h + 1) - h, ?_, ?_, ?_⟩
  · have := Int.mul_ediv_add_emod (j + h) (2 * h + 1)
    rw [Int.mul_comm] at this
    omega
  · have := Int.emod_nonneg (j + h) (b := 2 * h + 1) (by omega)
    omega
  · have := Int.emod_lt_of_pos (j + h) (b := 2 * h + 1) (by omega)
    omega
/-- by an odd number of steps -/
theorem never_odd {r : Way} (hr : isHalf r = true) {h : Int} (h0 : 0 ≤ h) (tie : ∀ s : Int, tieUp r (s * (2 * h + 1) + h) = tieUp r s) (u : Rat) : twiceT r (2 * h + 1) u = onceT r (2 * h + 1) u := by
  have hm : 0 < 2 * h + 1 := by omega
  have c : (((2 * h + 1 : Int)) : Rat) = 2 * (h : Rat) + 1 := by rw [Rat.intCast_add, Rat.intCast_mul]; rfl
  have hq : (0 : Rat) ≤ (h : Rat) := Rat.intCast_nonneg.mpr h0
  unfold twiceT onceT
  rcases near_or_mid u with ⟨j, h1, h2⟩ | ⟨l, hl⟩
  · obtain ⟨s, e, ej, e1, e2⟩ := split_odd j h h0
    have q1 : -(h : Rat) ≤ (e : Rat) := by have := Rat.intCast_le_intCast.mpr e1; rw [Rat.intCast_neg] at this; exact this
    have q2 : (e : Rat) ≤ (h : Rat) := Rat.intCast_le_intCast.mpr e2
    have ejq : (j : Rat) = (s : Rat) * (2 * (h : Rat) + 1) + (e : Rat) := by rw [ej, Rat.intCast_add, Rat.intCast_mul, c]
    rw [taken_near hr h1 h2, div_near hr hm (s := s) (by rw [c]; grind) (by rw [c]; grind), div_near hr hm (s := s) (by rw [c]; grind) (by rw [c]; grind)]
  · obtain ⟨s, e, ej, e1, e2⟩ := split_odd l h h0
    have q1 : -(h : Rat) ≤ (e : Rat) := by have := Rat.intCast_le_intCast.mpr e1; rw [Rat.intCast_neg] at this; exact this
    have ejq : (l : Rat) = (s : Rat) * (2 * (h : Rat) + 1) + (e : Rat) := by rw [ej, Rat.intCast_add, Rat.intCast_mul, c]
    subst hl
    rw [taken_mid hr l]
    by_cases he : e = h
    · subst he
      rw [ej, tie s]
      rw [div_mid hr hm (s := s) (n := ((s * (2 * e + 1) + e : Int) : Rat) + 1 / 2) (by rw [← ej, ejq, c]; grind)]
      cases tieUp r s with
      | true =>
        rw [if_pos rfl, if_pos rfl]
        exact div_near hr hm (by simp only [Rat.intCast_add, Rat.intCast_mul, Rat.intCast_sub, Rat.intCast_ofNat, Rat.intCast_one]; grind) (by simp only [Rat.intCast_add, Rat.intCast_mul, Rat.intCast_sub, Rat.intCast_ofNat, Rat.intCast_one]; grind)
      | false =>
        rw [if_neg Bool.false_ne_true, if_neg Bool.false_ne_true]
        exact div_near hr hm (by simp only [Rat.intCast_add, Rat.intCast_mul, Rat.intCast_sub, Rat.intCast_ofNat, Rat.intCast_one]; grind) (by simp only [Rat.intCast_add, Rat.intCast_mul, Rat.intCast_sub, Rat.intCast_ofNat, Rat.intCast_one]; grind)
    · have q2 : (e : Rat) + 1 ≤ (h : Rat) := by
        have := Rat.intCast_le_intCast.mpr (show e + 1 ≤ h by omega)
        rw [Rat.intCast_add] at this
        exact this
      rw [div_near hr hm (s := s) (n := (l : Rat) + 1 / 2) (by rw [c]; grind) (by rw [c]; grind)]
      split
      · exact div_near hr hm (by simp only [Rat.intCast_add, Rat.intCast_mul, Rat.intCast_sub, Rat.intCast_ofNat, Rat.intCast_one]; grind) (by simp only [Rat.intCast_add, Rat.intCast_mul, Rat.intCast_sub, Rat.intCast_ofNat, Rat.intCast_one]; grind)
      · exact div_near hr hm (by rw [c]; grind) (by rw [c]; grind)
/-! ### the ways that look at no halves -/
theorem low_eq (n : Rat) : takenQ .low n = n.floor := by
  unfold takenQ
  split <;> rfl
theorem part_zero {n : Rat} : (partQ n).num = 0 ↔ n = (n.floor : Rat) := by
  rw [Rat.num_eq_zero]
  unfold partQ
  constructor <;> intro h <;> grind
/-- the greater neighbour is told by inequalities -/
theorem high_of {n : Rat} {t : Int} (h1 : (t : Rat) - 1 < n) (h2 : n ≤ (t : Rat)) : takenQ .high n = t := by
  have a := Rat.floor_le n
  have b := Rat.lt_floor_add_one n
  rw [Rat.intCast_add] at b
  unfold takenQ
  by_cases h : n = (n.floor : Rat)
  · rw [if_pos (part_zero.mpr h)]
    have x1 : n.floor < t + 1 := Rat.intCast_lt_intCast.mp (by rw [Rat.intCast_add]; grind)
    have x2 : t - 1 < n.floor := Rat.intCast_lt_intCast.mp (by rw [Rat.intCast_sub]; grind)
    omega
  · rw [if_neg (fun z => h (part_zero.mp z)), if_pos (show ruleB .high n.floor (partQ n) = true from rfl)]
    have x1 : n.floor < t := Rat.intCast_lt_intCast.mp (by grind)
    have x2 : t - 1 < n.floor + 1 := Rat.intCast_lt_intCast.mp (by rw [Rat.intCast_sub, Rat.intCast_add]; grind)
    omega
theorem high_is (n : Rat) : (takenQ .high n : Rat) - 1 < n ∧ n ≤ (takenQ .high n : Rat) := by
  have a := Rat.floor_le n
  have b := Rat.lt_floor_add_one n
  rw [Rat.intCast_add] at b
  unfold takenQ
  by_cases h : n = (n.floor : Rat)
  · rw [if_pos (part_zero.mpr h)]
    grind
  · rw [if_neg (fun z => h (part_zero.mp z)), if_pos (show ruleB .high n.floor (partQ n) = true from rfl), Rat.intCast_add]
    grind
theorem low_of {n : Rat} {t : Int} (h1 : (t : Rat) ≤ n) (h2 : n < (t : Rat) + 1) : takenQ .low n = t := by
  rw [low_eq]
  have x1 : t ≤ n.floor := Rat.le_floor_iff.mpr h1
  have x2 : n.floor < t + 1 := Rat.floor_lt_iff.mpr (by rw [Rat.intCast_add]; exact h2)
  omega
theorem up_eq (n : Rat) : takenQ .up n = if 0 ≤ n.floor then takenQ .high n else takenQ .low n := by
  unfold takenQ
  by_cases h : (partQ n).num = 0
  · rw [if_pos h, if_pos h, if_pos h]; split <;> rfl
  · rw [if_neg h, if_neg h, if_neg h]
    show (if decide (0 ≤ n.floor) = true then _ else _) = _
    by_cases z : 0 ≤ n.floor
    · rw [if_pos (decide_eq_true z), if_pos z]; rfl
    · rw [if_neg (by simpa using z), if_neg z]; rfl
theorem down_eq (n : Rat) : takenQ .down n = if n.floor < 0 then takenQ .high n else takenQ .low n := by
  unfold takenQ
  by_cases h : (partQ n).num = 0
  · rw [if_pos h, if_pos h, if_pos h]; split <;> rfl
  · rw [if_neg h, if_neg h, if_neg h]
    show (if decide (n.floor < 0) = true then _ else _) = _
    by_cases z : n.floor < 0
    · rw [if_pos (decide_eq_true z), if_pos z]; rfl
    · rw [if_neg (by simpa using z), if_neg z]; rfl
theorem low_is (n : Rat) : (takenQ .low n : Rat) ≤ n ∧ n < (takenQ .low n : Rat) + 1 := by
  rw [low_eq]
  have b := Rat.lt_floor_add_one n
  rw [Rat.intCast_add] at b
  exact ⟨Rat.floor_le n, b⟩
/-- of a whole number of steps: by wholes alone -/
theorem low_div {m : Int} (hm : 0 < m) (u : Rat) : takenQ .low ((takenQ .low u : Rat) / (m : Rat)) = takenQ .low (u / (m : Rat)) := by
  have hm' : (0 : Rat) < (m : Rat) := Rat.intCast_pos.mpr hm
  obtain ⟨a, b⟩ := low_is (u / (m : Rat))
  obtain ⟨c, d⟩ := low_is u
  generalize takenQ .low (u / (m : Rat)) = t at *
  generalize takenQ .low u = j at *
  have e : u / (m : Rat) * m = u := by grind
  have a' : (t : Rat) * m ≤ u := by rw [← e]; exact Rat.mul_le_mul_of_nonneg_right a (Rat.le_of_lt hm')
  have b' : u < ((t : Rat) + 1) * m := by rw [← e]; exact Rat.mul_lt_mul_of_pos_right b hm'
  have x1 : t * m < j + 1 := Rat.intCast_lt_intCast.mp (by rw [Rat.intCast_add, Rat.intCast_mul]; grind)
  have x2 : j < (t + 1) * m := Rat.intCast_lt_intCast.mp (by rw [Rat.intCast_mul, Rat.intCast_add]; grind)
  have y1 : (t : Rat) * m ≤ (j : Rat) := by rw [← Rat.intCast_mul]; exact Rat.intCast_le_intCast.mpr (by omega)
  have y2 : (j : Rat) < ((t : Rat) + 1) * m := by have := Rat.intCast_lt_intCast.mpr x2; rw [Rat.intCast_mul, Rat.intCast_add] at this; exact this
  refine low_of ?_ ((Rat.div_lt_iff hm').mpr y2)
  have := (Rat.not_lt (a := (j : Rat) / m) (b := (t : Rat))).mp (fun z => by
    have := (Rat.div_lt_iff hm').mp z
    grind)
  exact this
theorem high_div {m : Int} (hm : 0 < m) (u : Rat) : takenQ .high ((takenQ .high u : Rat) / (m : Rat)) = takenQ .high (u / (m : Rat)) := by
  have hm' : (0 : Rat) < (m : Rat) := Rat.intCast_pos.mpr hm
  obtain ⟨a, b⟩ := high_is (u / (m : Rat))
  obtain ⟨c, d⟩ := high_is u
  generalize takenQ .high (u / (m : Rat)) = t at *
  generalize takenQ .high u = j at *
  have e : u / (m : Rat) * m = u := by grind
  have a' : ((t : Rat) - 1) * m < u := by rw [← e]; exact Rat.mul_lt_mul_of_pos_right a hm'
  have b' : u ≤ (t : Rat) * m := by rw [← e]; exact Rat.mul_le_mul_of_nonneg_right b (Rat.le_of_lt hm')
  have x1 : (t - 1) * m < j := Rat.intCast_lt_intCast.mp (by rw [Rat.intCast_mul, Rat.intCast_sub]; grind)
  have x2 : j - 1 < t * m := Rat.intCast_lt_intCast.mp (by rw [Rat.intCast_sub, Rat.intCast_mul]; grind)
  have y1 : ((t : Rat) - 1) * m < (j : Rat) := by have := Rat.intCast_lt_intCast.mpr x1; rw [Rat.intCast_mul, Rat.intCast_sub] at this; exact this
  have y2 : (j : Rat) ≤ (t : Rat) * m := by rw [← Rat.intCast_mul]; exact Rat.intCast_le_intCast.mpr (by omega)
  refine high_of ((Rat.lt_div_iff hm').mpr y1) ?_
  exact (Rat.not_lt (a := (t : Rat)) (b := (j : Rat) / m)).mp (fun z => by
    have := (Rat.lt_div_iff hm').mp z
    grind)
theorem floor_nn {n : Rat} : 0 ≤ n.floor ↔ 0 ≤ n := by
  rw [Rat.le_floor_iff]; rfl
theorem div_nn {m : Int} (hm : 0 < m) {n : Rat} : 0 ≤ n / (m : Rat) ↔ 0 ≤ n := by
  have hm' : (0 : Rat) < (m : Rat) := Rat.intCast_pos.mpr hm
  constructor
  · intro h
    have e : n / (m : Rat) * m = n := by grind
    rw [← e]
    exact Rat.mul_nonneg h (Rat.le_of_lt hm')
  · intro h
    exact (Rat.not_lt).mp (fun z => by
      have := (Rat.div_lt_iff hm').mp z
      grind)
theorem never_whole {r : Way} (hr : isHalf r = false) {m : Int} (hm : 0 < m) (u : Rat) : twiceT r m u = onceT r m u := by
  unfold twiceT onceT
  cases r with
  | hup => cases hr
  | hdown => cases hr
  | heven => cases hr
  | hodd => cases hr
  | low => exact low_div hm u
  | high => exact high_div hm u
  | up =>
    obtain ⟨c, d⟩ := high_is u
    obtain ⟨c2, d2⟩ := low_is u
    by_cases h : 0 ≤ u
    · have hj : (0 : Rat) ≤ (takenQ .high u : Rat) := Rat.le_trans h d
      rw [up_eq u, if_pos (floor_nn.mpr h), up_eq, if_pos (floor_nn.mpr ((div_nn hm).mpr hj)), up_eq, if_pos (floor_nn.mpr ((div_nn hm).mpr h)), high_div hm]
    · have hj : ¬ (0 : Rat) ≤ (takenQ .low u : Rat) := fun z => h (Rat.le_trans z c2)
      rw [up_eq u, if_neg (fun z => h (floor_nn.mp z)), up_eq, if_neg (fun z => hj ((div_nn hm).mp (floor_nn.mp z))), up_eq, if_neg (fun z => h ((div_nn hm).mp (floor_nn.mp z))), low_div hm]
  | down =>
    obtain ⟨c, d⟩ := high_is u
    obtain ⟨c2, d2⟩ := low_is u
    have neg : ∀ n : Rat, n.floor < 0 ↔ ¬ 0 ≤ n := fun n => by
      rw [← floor_nn]
      omega
    by_cases h : 0 ≤ u
    · have j0 : 0 ≤ takenQ .low u := by rw [low_eq]; exact floor_nn.mpr h
      have hj : (0 : Rat) ≤ (takenQ .low u : Rat) := Rat.intCast_nonneg.mpr j0
      rw [down_eq u, if_neg (fun z => (neg u).mp z h), down_eq, if_neg (fun z => (neg _).mp z ((div_nn hm).mpr hj)), down_eq, if_neg (fun z => (neg _).mp z ((div_nn hm).mpr h)), low_div hm]
    · rw [down_eq u, if_pos ((neg u).mpr h), down_eq (u / (m : Rat)), if_pos ((neg _).mpr fun z => h ((div_nn hm).mp z)), ← high_div hm u]
      by_cases hj : 0 ≤ (takenQ .high u : Rat)
      · have e0 : takenQ .high u = 0 := by
          have x1 : 0 ≤ takenQ .high u := Rat.intCast_nonneg.mp hj
          have x2 : takenQ .high u - 1 < 0 := Rat.intCast_neg_iff.mp (by rw [Rat.intCast_sub]; grind)
          omega
        rw [e0]
        have e1 : ((0 : Int) : Rat) / (m : Rat) = ((0 : Int) : Rat) := by grind
        rw [e1, taken_int, taken_int]
      · rw [down_eq, if_pos ((neg _).mpr fun z => hj ((div_nn hm).mp z))]
/-! ### the three numbers that are tried -/
def partsW (r : Way) (m : Int) : Bool := isHalf r && (decide (m % 2 = 0) || ((match r with | .heven => true | .hodd => true | _ => false) && decide (m % 4 = 3)))
def candU (m : Int) : List Rat := [(m : Rat) / 2 - 1 / 4, (m : Rat) / 2, (m : Rat) / 2 + 1 / 4]
theorem never_of {r : Way} {m : Int} (hm : 2 ≤ m) (h : partsW r m = false) (u : Rat) : twiceT r m u = onceT r m u := by
  cases hr : isHalf r with
  | false => exact never_whole hr (by omega) u
  | true =>
    have hodd : m % 2 = 1 := by
      by_cases z : m % 2 = 0
      · unfold partsW at h
        rw [hr, decide_eq_true z] at h
        cases h
      · omega
    obtain ⟨k, rfl⟩ : ∃ k, m = 2 * k + 1 := ⟨m / 2, by omega⟩
    refine never_odd hr (by omega) (fun s => ?_) u
    have key : s * (2 * k + 1) + k = 2 * (s * k) + s + k := by grind
    cases r with
    | up => cases hr
    | down => cases hr
    | high => cases hr
    | low => cases hr
    | hup =>
      show decide (0 ≤ s * (2 * k + 1) + k) = decide (0 ≤ s)
      rw [decide_eq_decide]
      constructor
      · intro z
        by_cases q : 0 ≤ s
        · exact q
        · have : s * (2 * k + 1) ≤ -1 * (2 * k + 1) := Int.mul_le_mul_of_nonneg_right (by omega) (by omega)
          omega
      · intro z
        have := Int.mul_nonneg z (show 0 ≤ 2 * k + 1 by omega)
        omega
    | hdown =>
      show decide (s * (2 * k + 1) + k < 0) = decide (s < 0)
      rw [decide_eq_decide]
      constructor
      · intro z
        by_cases q : s < 0
        · exact q
        · have := Int.mul_nonneg (show 0 ≤ s by omega) (show 0 ≤ 2 * k + 1 by omega)
          omega
      · intro z
        have : s * (2 * k + 1) ≤ -1 * (2 * k + 1) := Int.mul_le_mul_of_nonneg_right (by omega) (by omega)
        omega
    | heven =>
      have h4 : ¬ (2 * k + 1) % 4 = 3 := fun z => by
        unfold partsW at h
        rw [decide_eq_true z, Bool.and_true, Bool.or_true] at h
        cases h
      show decide ((s * (2 * k + 1) + k) % 2 = 1) = decide (s % 2 = 1)
      rw [decide_eq_decide, key]
      omega
    | hodd =>
      have h4 : ¬ (2 * k + 1) % 4 = 3 := fun z => by
        unfold partsW at h
        rw [decide_eq_true z, Bool.and_true, Bool.or_true] at h
        cases h
      show decide ((s * (2 * k + 1) + k) % 2 = 0) = decide (s % 2 = 0)
      rw [decide_eq_decide, key]
      omega
theorem some_of {r : Way} {m : Int} (hm : 2 ≤ m) (h : partsW r m = true) : ∃ u ∈ candU m, twiceT r m u ≠ onceT r m u := by
  have hr : isHalf r = true := by
    unfold partsW at h
    exact (Bool.and_eq_true_iff.mp h).1
  have hmq : (2 : Rat) ≤ (m : Rat) := by have := Rat.intCast_le_intCast.mpr hm; exact this
  unfold twiceT onceT
  by_cases z : m % 2 = 0
  · obtain ⟨k, rfl⟩ : ∃ k, m = 2 * k := ⟨m / 2, by omega⟩
    have c : (((2 * k : Int)) : Rat) = 2 * (k : Rat) := by rw [Rat.intCast_mul]; rfl
    have hk : (1 : Rat) ≤ (k : Rat) := by have := Rat.intCast_le_intCast.mpr (show 1 ≤ k by omega); exact this
    have c0 : ((0 : Int) : Rat) = 0 := rfl
    have c1 : ((1 : Int) : Rat) = 1 := rfl
    have e1 : takenQ r ((((2 * k : Int)) : Rat) / 2 - 1 / 4) = k := taken_near hr (by rw [c]; grind) (by rw [c]; grind)
    have e3 : takenQ r ((((2 * k : Int)) : Rat) / 2 + 1 / 4) = k := taken_near hr (by rw [c]; grind) (by rw [c]; grind)
    have ek : takenQ r ((k : Rat) / ((2 * k : Int) : Rat)) = if tieUp r 0 = true then 0 + 1 else 0 := div_mid hr (by omega) (by rw [c, c0]; grind)
    cases t : tieUp r 0 with
    | true =>
      refine ⟨_, List.mem_cons_self, ?_⟩
      rw [e1, ek, t, if_pos rfl, div_near hr (by omega) (s := 0) (by rw [c, c0]; grind) (by rw [c, c0]; grind)]
      decide
    | false =>
      refine ⟨_, List.mem_cons_of_mem _ (List.mem_cons_of_mem _ List.mem_cons_self), ?_⟩
      rw [e3, ek, t, if_neg Bool.false_ne_true, div_near hr (by omega) (s := 1) (by rw [c, c1]; grind) (by rw [c, c1]; grind)]
      decide
  · obtain ⟨k, rfl⟩ : ∃ k, m = 2 * k + 1 := ⟨m / 2, by omega⟩
    have c : (((2 * k + 1 : Int)) : Rat) = 2 * (k : Rat) + 1 := by rw [Rat.intCast_add, Rat.intCast_mul]; rfl
    have hk : (1 : Rat) ≤ (k : Rat) := by have := Rat.intCast_le_intCast.mpr (show 1 ≤ k by omega); exact this
    have c0 : ((0 : Int) : Rat) = 0 := rfl
    have c1 : ((1 : Int) : Rat) = 1 := rfl
    have e2 : takenQ r ((((2 * k + 1 : Int)) : Rat) / 2) = if tieUp r k = true then k + 1 else k := by
      rw [← taken_mid hr k]
      congr 1
      rw [c]; grind
    have o2 : takenQ r ((((2 * k + 1 : Int)) : Rat) / 2 / ((2 * k + 1 : Int) : Rat)) = if tieUp r 0 = true then 0 + 1 else 0 := div_mid hr (by omega) (by rw [c0]; grind)
    have h4 : (2 * k + 1) % 4 = 3 ∧ (r = .heven ∨ r = .hodd) := by
      unfold partsW at h
      rw [hr, decide_eq_false z] at h
      cases r <;> simp_all
    refine ⟨_, List.mem_cons_of_mem _ List.mem_cons_self, ?_⟩
    have up1 : takenQ r (((k + 1 : Int) : Rat) / ((2 * k + 1 : Int) : Rat)) = 1 := div_near hr (by omega) (by simp only [Rat.intCast_add, Rat.intCast_mul, Rat.intCast_sub, Rat.intCast_ofNat, Rat.intCast_one]; grind) (by simp only [Rat.intCast_add, Rat.intCast_mul, Rat.intCast_sub, Rat.intCast_ofNat, Rat.intCast_one]; grind)
    have lo1 : takenQ r ((k : Rat) / ((2 * k + 1 : Int) : Rat)) = 0 := div_near hr (by omega) (by rw [c, c0]; grind) (by rw [c, c0]; grind)
    rw [e2, o2]
    obtain ⟨h4, rfl | rfl⟩ := h4
    · have t1 : tieUp .heven k = true := decide_eq_true (by omega)
      rw [t1, if_pos rfl, up1]
      decide
    · have t1 : tieUp .hodd k = false := decide_eq_false (by omega)
      rw [t1, if_neg Bool.false_ne_true, lo1]
      decide
end My

namespace My
/-! ### farther by whole numbers; sizes -/
theorem taken_within (r : Way) (u : Rat) : (takenQ r u : Rat) < u + 1 ∧ u - 1 < (takenQ r u : Rat) := by
  have a := Rat.floor_le u
  have b := Rat.lt_floor_add_one u
  rw [Rat.intCast_add] at b
  unfold takenQ
  by_cases h : u = (u.floor : Rat)
  · rw [if_pos (part_zero.mpr h)]
    grind
  · rw [if_neg (fun z => h (part_zero.mp z))]
    split
    · rw [Rat.intCast_add]; grind
    · grind
theorem floor_shift (u : Rat) (j : Int) : (u + (j : Rat)).floor = u.floor + j := by
  have a := Rat.floor_le u
  have b := Rat.lt_floor_add_one u
  rw [Rat.intCast_add] at b
  have x : u.floor + j ≤ (u + (j : Rat)).floor := Rat.le_floor_iff.mpr (by rw [Rat.intCast_add]; grind)
  have y : (u + (j : Rat)).floor < u.floor + j + 1 := Rat.floor_lt_iff.mpr (by rw [Rat.intCast_add, Rat.intCast_add]; grind)
  omega
theorem part_shift (u : Rat) (j : Int) : partQ (u + (j : Rat)) = partQ u := by
  unfold partQ
  rw [floor_shift, Rat.intCast_add]
  grind
theorem rule_shift (r : Way) {l j : Int} (p : Rat) (hl : 0 ≤ l) (hj : 0 ≤ j) (h2 : j % 2 = 0) : ruleB r (l + j) p = ruleB r l p := by
  have e1 : decide (0 ≤ l + j) = decide (0 ≤ l) := by rw [decide_eq_decide]; omega
  have e2 : decide (l + j < 0) = decide (l < 0) := by rw [decide_eq_decide]; omega
  have e3 : decide ((l + j) % 2 = 1) = decide (l % 2 = 1) := by rw [decide_eq_decide]; omega
  have e4 : decide ((l + j) % 2 = 0) = decide (l % 2 = 0) := by rw [decide_eq_decide]; omega
  cases r <;> simp only [ruleB, e1, e2, e3, e4]
theorem taken_shift (r : Way) {u : Rat} {j : Int} (hu : 0 ≤ u) (hj : 0 ≤ j) (h2 : j % 2 = 0) : takenQ r (u + (j : Rat)) = takenQ r u + j := by
  unfold takenQ
  rw [part_shift, floor_shift, rule_shift r _ (floor_nn.mpr hu) hj h2]
  split
  · rfl
  · split <;> omega
theorem taken_nn (r : Way) {u : Rat} (hu : 0 ≤ u) : 0 ≤ takenQ r u := by
  have := floor_nn.mpr hu
  unfold takenQ
  split
  · exact this
  · split <;> omega
theorem twice_shift (r : Way) {m j : Int} {u : Rat} (hm : 0 < m) (hu : 0 ≤ u) (hj : 0 ≤ j) (h2 : j % 2 = 0) : twiceT r m (u + (j : Rat) * m) = twiceT r m u + j ∧ onceT r m (u + (j : Rat) * m) = onceT r m u + j := by
  have hm' : (0 : Rat) < (m : Rat) := Rat.intCast_pos.mpr hm
  have h3 : j * m % 2 = 0 := by
    obtain ⟨q, rfl⟩ : ∃ q, j = 2 * q := ⟨j / 2, by omega⟩
    rw [Int.mul_assoc]; omega
  have h4 : 0 ≤ j * m := Int.mul_nonneg hj (by omega)
  have e : (j : Rat) * (m : Rat) = ((j * m : Int) : Rat) := (Rat.intCast_mul _ _).symm
  unfold twiceT onceT
  constructor
  · rw [e, taken_shift r hu h4 h3, Rat.intCast_add, Rat.intCast_mul]
    have q : ((takenQ r u : Rat) + (j : Rat) * (m : Rat)) / (m : Rat) = (takenQ r u : Rat) / (m : Rat) + (j : Rat) := by grind
    rw [q, taken_shift r ((div_nn hm).mpr (Rat.intCast_nonneg.mpr (taken_nn r hu))) hj h2]
  · have q : (u + (j : Rat) * (m : Rat)) / (m : Rat) = u / (m : Rat) + (j : Rat) := by grind
    rw [q, taken_shift r ((div_nn hm).mpr hu) hj h2]
def absQ (x : Rat) : Rat := Rat.divInt (if x.num < 0 then -x.num else x.num) (x.den : Int)
theorem absQ_eq (x : Rat) : absQ x = if 0 ≤ x then x else -x := by
  unfold absQ
  by_cases h : 0 ≤ x
  · have : 0 ≤ x.num := Rat.num_nonneg.mpr h
    rw [if_pos h, if_neg (by omega), Rat.num_divInt_den]
  · have : ¬ 0 ≤ x.num := fun z => h (Rat.num_nonneg.mp z)
    rw [if_neg h, if_pos (by omega), ← Rat.neg_divInt, Rat.num_divInt_den]
theorem absQ_lt {x y : Rat} (h1 : x < y) (h2 : -y < x) : absQ x < y := by
  rw [absQ_eq]
  split <;> grind
theorem absQ_bd {n : Nat} {x : Rat} (h : Bd n x) : Bd n (absQ x) := by
  have := h.1
  refine Bd.of (den_ne x) (by split <;> omega) (by have := h.2; omega)
theorem lt_dec (x y : Rat) : decide (x < y) = decide (x.num * (y.den : Int) < y.num * (x.den : Int)) := by
  rw [decide_eq_decide]
  exact Rat.lt_iff x y
/-- rounded, a number lies within a step -/
theorem step_within {r : Way} {n x : Rat} (hx : 0 < x) : absQ (n - x * (takenQ r (n / x) : Rat)) < x := by
  obtain ⟨a, b⟩ := taken_within r (n / x)
  have e : n = n / x * x := by grind
  have p : (takenQ r (n / x) : Rat) * x < (n / x + 1) * x := Rat.mul_lt_mul_of_pos_right a hx
  have q : (n / x - 1) * x < (takenQ r (n / x) : Rat) * x := Rat.mul_lt_mul_of_pos_right b hx
  refine absQ_lt ?_ ?_ <;> grind
end My

namespace My
/-! ### powers of ten -/
def T10 (p : Int) : Rat := (10 : Rat) ^ p
theorem T10_pos (p : Int) : 0 < T10 p := Rat.zpow_pos (by decide +kernel)
theorem T10_ne (p : Int) : T10 p ≠ 0 := by have := T10_pos p; grind
theorem T10_add (p q : Int) : T10 (p + q) = T10 p * T10 q := Rat.zpow_add (by decide +kernel) p q
theorem T10_zero : T10 0 = 1 := Rat.zpow_zero _
theorem T10_one : T10 1 = 10 := by
  have := Rat.zpow_add_one (q := 10) (by decide +kernel) 0
  rw [Rat.zpow_zero] at this
  show (10 : Rat) ^ (1 : Int) = 10
  rw [show (1 : Int) = 0 + 1 from rfl, this]
  grind
theorem T10_succ (p : Int) : T10 (p + 1) = T10 p * 10 := by rw [T10_add, T10_one]
theorem T10_nat (n : Nat) : T10 (n : Int) = ((10 ^ n : Int) : Rat) := by
  induction n with
  | zero => exact T10_zero
  | succ n ih =>
    rw [Int.natCast_succ, T10_succ, ih, Int.pow_succ, Rat.intCast_mul]
    rfl
theorem T10_neg (p : Int) : T10 (-p) = 1 / T10 p := by
  have : T10 (-p) * T10 p = 1 := by rw [← T10_add, Int.add_left_neg]; exact T10_zero
  have := T10_ne p
  grind
theorem T10_lt_nat (p : Int) (n : Nat) : T10 p < T10 (p + ((n : Int) + 1)) := by
  have hp := T10_pos p
  induction n with
  | zero =>
    show T10 p < T10 (p + 1)
    rw [T10_succ]
    grind
  | succ n ih =>
    have e : p + (((n + 1 : Nat) : Int) + 1) = p + ((n : Int) + 1) + 1 := by omega
    have := T10_pos (p + ((n : Int) + 1))
    rw [e, T10_succ]
    grind
theorem T10_lt {p q : Int} (h : p < q) : T10 p < T10 q := by
  have := T10_lt_nat p (q - p - 1).toNat
  have e : p + (((q - p - 1).toNat : Int) + 1) = q := by omega
  rw [e] at this
  exact this
theorem T10_le {p q : Int} (h : p ≤ q) : T10 p ≤ T10 q := by
  by_cases e : p = q
  · rw [e]; exact Rat.le_refl
  · exact Rat.le_of_lt (T10_lt (by omega))
theorem T10_lt_iff {p q : Int} : T10 p < T10 q ↔ p < q := by
  constructor
  · intro h
    by_cases z : p < q
    · exact z
    · have := T10_le (show q ≤ p by omega)
      grind
  · exact T10_lt
/-- the power of x -/
def Pow (p : Int) (x : Rat) : Prop := T10 p ≤ absQ x ∧ absQ x < T10 (p + 1)
theorem absQ_mul_pos {x t : Rat} (ht : 0 < t) : absQ (x * t) = absQ x * t := by
  rw [absQ_eq, absQ_eq]
  by_cases h : 0 ≤ x
  · have : 0 ≤ x * t := Rat.mul_nonneg h (Rat.le_of_lt ht)
    rw [if_pos this, if_pos h]
  · have h' : 0 < -x := by grind
    have : 0 < -x * t := Rat.mul_pos h' ht
    rw [if_neg (by grind), if_neg h]
    grind
theorem absQ_neg (x : Rat) : absQ (-x) = absQ x := by
  rw [absQ_eq, absQ_eq]
  split <;> split <;> grind
theorem absQ_nn (x : Rat) : 0 ≤ absQ x := by
  rw [absQ_eq]; split <;> grind
theorem Pow.mul {p k : Int} {x : Rat} (h : Pow p x) : Pow (p + k) (x * T10 k) := by
  have hk := T10_pos k
  unfold Pow at h ⊢
  rw [absQ_mul_pos hk, show p + k + 1 = (p + 1) + k by omega, T10_add, T10_add]
  exact ⟨Rat.mul_le_mul_of_nonneg_right h.1 (Rat.le_of_lt hk), Rat.mul_lt_mul_of_pos_right h.2 hk⟩
theorem Pow.neg {p : Int} {x : Rat} (h : Pow p x) : Pow p (-x) := by
  unfold Pow at h ⊢
  rw [absQ_neg]
  exact h
theorem Pow.ne {p : Int} {x : Rat} (h : Pow p x) : x ≠ 0 := by
  intro e
  have := h.1
  have := T10_pos p
  rw [e, absQ_eq, if_pos (by decide +kernel)] at *
  grind
theorem pow10_lt (n : Nat) : (10 ^ n : Int).natAbs < 2 ^ (4 * n + 1) := by
  rw [Int.natAbs_pow]
  have : (10 : Nat) ^ n ≤ (2 ^ 4) ^ n := Nat.pow_le_pow_left (by decide) n
  rw [← Nat.pow_mul] at this
  have h2 : 2 ^ (4 * n) < 2 ^ (4 * n + 1) := Nat.pow_lt_pow_right (by decide) (by omega)
  exact Nat.lt_of_le_of_lt this h2
theorem T10_bd {p : Int} {k : Nat} (h : p.natAbs ≤ k) : Bd (4 * k + 1) (T10 p) := by
  have b := Nat.lt_of_lt_of_le (pow10_lt p.natAbs) (Nat.pow_le_pow_right (by decide : 0 < 2) (show 4 * p.natAbs + 1 ≤ 4 * k + 1 by omega))
  by_cases z : 0 ≤ p
  · have e : p = (p.natAbs : Int) := by omega
    rw [e, T10_nat]
    exact Bd.int b (by omega)
  · have e : p = -(p.natAbs : Int) := by omega
    rw [e, T10_neg, T10_nat]
    have e2 : 1 / (((10 ^ p.natAbs : Int)) : Rat) = Rat.divInt 1 (10 ^ p.natAbs : Int) := by rw [Rat.divInt_eq_div]; rfl
    rw [e2]
    exact Bd.of (Int.pow_ne_zero (by decide)) (Nat.lt_of_lt_of_le (by decide : Int.natAbs 1 < 2 ^ 1) (Nat.pow_le_pow_right (by decide) (by omega))) b
/-! ### to so many figures -/
def figQ (r : Way) (c p : Int) (x : Rat) : Rat := T10 (p - c + 1) * (takenQ r (x / T10 (p - c + 1)) : Rat)
theorem fig_stay {r : Way} {c p m : Int} {x : Rat} (h : x / T10 (p - c + 1) = (m : Rat)) : figQ r c p x = x := by
  have := T10_ne (p - c + 1)
  unfold figQ
  rw [h, taken_int, ← h]
  grind
theorem fig_mul {r : Way} {c p k : Int} {x : Rat} : figQ r c (p + k) (x * T10 k) = figQ r c p x * T10 k := by
  have h1 := T10_ne (p - c + 1)
  have h2 := T10_ne k
  unfold figQ
  rw [show p + k - c + 1 = (p - c + 1) + k by omega, T10_add]
  have e : x * T10 k / (T10 (p - c + 1) * T10 k) = x / T10 (p - c + 1) := by grind
  rw [e]
  grind
def turnW : Way → Way
  | .high => .low
  | .low => .high
  | r => r
theorem floor_of {n : Rat} {l : Int} (h1 : (l : Rat) ≤ n) (h2 : n < (l : Rat) + 1) : n.floor = l := by
  have a : l ≤ n.floor := Rat.le_floor_iff.mpr h1
  have b : n.floor < l + 1 := Rat.floor_lt_iff.mpr (by rw [Rat.intCast_add]; exact h2)
  omega
theorem nearerB_neg {p : Rat} {a : Bool} : nearerB (1 - p) (!a) = !nearerB p a := by
  by_cases h : p < 1 / 2
  · rw [nearerB_lo h, nearerB_hi (by grind)]; rfl
  · by_cases h2 : p = 1 / 2
    · have e : 1 - p = 1 / 2 := by grind
      rw [e, h2, nearerB_mid, nearerB_mid]
    · rw [nearerB_lo (p := 1 - p) (by grind), nearerB_hi (p := p) (by grind)]; rfl
theorem taken_neg (r : Way) (u : Rat) : takenQ (turnW r) (-u) = -takenQ r u := by
  by_cases h : u = (u.floor : Rat)
  · rw [h, ← Rat.intCast_neg, taken_int, taken_int]
  · have a := Rat.floor_le u
    have b := Rat.lt_floor_add_one u
    rw [Rat.intCast_add] at b
    have e1 : u = (u.floor : Rat) + (u - (u.floor : Rat)) := by grind
    have e2 : -u = (((-u.floor - 1 : Int)) : Rat) + (1 - (u - (u.floor : Rat))) := by rw [Rat.intCast_sub, Rat.intCast_neg]; grind
    generalize u.floor = l at *
    rw [e2, taken_add (by grind) (by grind)]
    have t : takenQ r u = if ruleB r l (u - l) = true then l + 1 else l := by
      conv => lhs; rw [e1]
      exact taken_add (by grind) (by grind)
    rw [t]
    have key : ruleB (turnW r) (-l - 1) (1 - (u - l)) = !ruleB r l (u - l) := by
      have f1 : decide (0 ≤ -l - 1) = !decide (0 ≤ l) := by
        by_cases z : 0 ≤ l
        · rw [decide_eq_true z, decide_eq_false (by omega)]; rfl
        · rw [decide_eq_false z, decide_eq_true (by omega)]; rfl
      have f2 : decide (-l - 1 < 0) = !decide (l < 0) := by
        by_cases z : l < 0
        · rw [decide_eq_true z, decide_eq_false (by omega)]; rfl
        · rw [decide_eq_false z, decide_eq_true (by omega)]; rfl
      have f3 : decide ((-l - 1) % 2 = 1) = !decide (l % 2 = 1) := by
        by_cases z : l % 2 = 1
        · rw [decide_eq_true z, decide_eq_false (by omega)]; rfl
        · rw [decide_eq_false z, decide_eq_true (by omega)]; rfl
      have f4 : decide ((-l - 1) % 2 = 0) = !decide (l % 2 = 0) := by
        by_cases z : l % 2 = 0
        · rw [decide_eq_true z, decide_eq_false (by omega)]; rfl
        · rw [decide_eq_false z, decide_eq_true (by omega)]; rfl
      cases r <;> simp only [turnW, ruleB, f1, f2, f3, f4, nearerB_neg, Bool.not_true, Bool.not_false]
    rw [key]
    cases ruleB r l (u - l) with
    | true =>
      rw [if_neg (by simp), if_pos rfl]
      omega
    | false =>
      rw [if_pos (by simp), if_neg (by simp)]
      omega
theorem fig_neg {r : Way} {c p : Int} {x : Rat} : figQ (turnW r) c p (-x) = -figQ r c p x := by
  unfold figQ
  have e : -x / T10 (p - c + 1) = -(x / T10 (p - c + 1)) := by have := T10_ne (p - c + 1); grind
  rw [e, taken_neg, Rat.intCast_neg]
  grind
end My

namespace My
theorem pow_step {q : Rat} {a : Int} (h1 : T10 a ≤ q) : ∀ m : Nat, q < T10 (a + (m : Int)) → ∃ p, a ≤ p ∧ p < a + (m : Int) ∧ T10 p ≤ q ∧ q < T10 (p + 1)
  | 0, h => by
    rw [show a + ((0 : Nat) : Int) = a by omega] at h
    grind
  | m + 1, h => by
    by_cases z : q < T10 (a + (m : Int))
    · obtain ⟨p, p1, p2, p3, p4⟩ := pow_step h1 m z
      exact ⟨p, p1, by omega, p3, p4⟩
    · refine ⟨a + (m : Int), by omega, by omega, by grind, ?_⟩
      rw [show a + (m : Int) + 1 = a + ((m + 1 : Nat) : Int) by omega]
      exact h
theorem absQ_div {t b : Int} (hb : 0 < b) : absQ (Rat.divInt t b) = ((t.natAbs : Int) : Rat) / (b : Rat) := by
  have hb' : (0 : Rat) < (b : Rat) := Rat.intCast_pos.mpr hb
  have ib : (0 : Rat) < 1 / (b : Rat) := (Rat.lt_div_iff hb').mpr (by grind)
  have e : Rat.divInt t b = (t : Rat) * (1 / (b : Rat)) := by rw [Rat.divInt_eq_div]; grind
  rw [e, absQ_mul_pos ib, absQ_eq]
  have n : (if 0 ≤ (t : Rat) then (t : Rat) else -(t : Rat)) = ((t.natAbs : Int) : Rat) := by
    by_cases h : 0 ≤ t
    · rw [if_pos (Rat.intCast_nonneg.mpr h)]
      congr 1; omega
    · rw [if_neg (fun z => h (Rat.intCast_nonneg.mp z)), ← Rat.intCast_neg]
      congr 1; omega
  rw [n]
  grind
theorem le_div {x y z : Rat} (hz : 0 < z) (h : x * z ≤ y) : x ≤ y / z := by
  refine Rat.not_lt.mp fun q => ?_
  have := (Rat.div_lt_iff hz).mp q
  grind
/-- the power, found by whole numbers -/
theorem pow_grain {t b : Int} {i j : Nat} (hb : 0 < b) (h1 : (10 : Int) ^ i * b ≤ (10 : Int) ^ j * (t.natAbs : Int)) (h2 : (10 : Int) ^ j * (t.natAbs : Int) < 10 * ((10 : Int) ^ i * b)) : Pow ((i : Int) - (j : Int)) (Rat.divInt t b) := by
  have hb' : (0 : Rat) < (b : Rat) := Rat.intCast_pos.mpr hb
  have hj := T10_pos (j : Int)
  have h1' := Rat.intCast_le_intCast.mpr h1
  have h2' := Rat.intCast_lt_intCast.mpr h2
  have e10 : ((10 : Int) : Rat) = 10 := rfl
  rw [Rat.intCast_mul, Rat.intCast_mul, ← T10_nat, ← T10_nat] at h1'
  rw [Rat.intCast_mul, Rat.intCast_mul, Rat.intCast_mul, ← T10_nat, ← T10_nat, e10] at h2'
  have split : T10 (i : Int) = T10 ((i : Int) - (j : Int)) * T10 (j : Int) := by rw [← T10_add]; congr 1; omega
  rw [split] at h1' h2'
  unfold Pow
  rw [absQ_div hb, T10_succ]
  generalize T10 ((i : Int) - (j : Int)) = u at *
  generalize T10 (j : Int) = v at *
  generalize ((t.natAbs : Int) : Rat) = y at *
  generalize (b : Rat) = z at *
  constructor
  · refine le_div hb' (Rat.not_lt.mp fun q => ?_)
    have := Rat.mul_lt_mul_of_pos_right q hj
    grind
  · refine (Rat.div_lt_iff hb').mpr ?_
    refine Rat.not_le.mp fun q => ?_
    have := Rat.mul_le_mul_of_nonneg_right q (Rat.le_of_lt hj)
    grind
theorem pow_unique {p p' : Int} {x : Rat} (h : Pow p x) (h' : Pow p' x) : p = p' := by
  have a : p < p' + 1 := T10_lt_iff.mp (by have := h.1; have := h'.2; grind)
  have b : p' < p + 1 := T10_lt_iff.mp (by have := h'.1; have := h.2; grind)
  omega
theorem pow_there {t b : Int} (t0 : t ≠ 0) (hb : 0 < b) {i j : Nat} (ht : (t.natAbs : Int) < (10 : Int) ^ i) (hj : b ≤ (10 : Int) ^ j) : ∃ p : Int, -(j : Int) ≤ p ∧ p < (i : Int) ∧ Pow p (Rat.divInt t b) := by
  have hb' : (0 : Rat) < (b : Rat) := Rat.intCast_pos.mpr hb
  have t1 : ((1 : Int) : Rat) ≤ ((t.natAbs : Int) : Rat) := Rat.intCast_le_intCast.mpr (by omega)
  have b1 : ((1 : Int) : Rat) ≤ (b : Rat) := Rat.intCast_le_intCast.mpr (by omega)
  have e1 : ((1 : Int) : Rat) = 1 := rfl
  rw [e1] at t1 b1
  have ht' := Rat.intCast_lt_intCast.mpr ht
  have hj' := Rat.intCast_le_intCast.mpr hj
  rw [← T10_nat] at ht' hj'
  have pj := T10_pos (j : Int)
  have pi := T10_pos (i : Int)
  have nj := T10_ne (j : Int)
  have lo : T10 (-(j : Int)) ≤ absQ (Rat.divInt t b) := by
    rw [absQ_div hb, T10_neg]
    refine le_div hb' ?_
    have q : 1 / T10 (j : Int) * (b : Rat) ≤ 1 := by
      have e : 1 / T10 (j : Int) * (b : Rat) = (b : Rat) / T10 (j : Int) := by grind
      rw [e]
      refine Rat.not_lt.mp fun q => ?_
      have := (Rat.lt_div_iff pj).mp q
      grind
    grind
  have hi : absQ (Rat.divInt t b) < T10 (-(j : Int) + ((i + j : Nat) : Int)) := by
    rw [absQ_div hb, show -(j : Int) + ((i + j : Nat) : Int) = (i : Int) by omega]
    refine (Rat.div_lt_iff hb').mpr ?_
    have := Rat.mul_le_mul_of_nonneg_left b1 (Rat.le_of_lt pi)
    grind
  obtain ⟨p, p1, p2, p3, p4⟩ := pow_step lo _ hi
  exact ⟨p, p1, by omega, p3, p4⟩
end My

/-! ### isinstance of a def -/
namespace PySem
open Sem (wp)
namespace F
theorem my_slot_function_ga : Slot "function" "__getattribute__" "object.__getattribute__" :=
  .of (owner := "object") (n := "__getattribute__") (by rw [typeLookup_type, builtinLookup_eq_fast]; kernel_rfl) (by decide +kernel) (by decide +kernel) (by decide +kernel)
    (by first | exact .inl (by decide +kernel) | exact .inr (by decide +kernel)) (by rw [isSubtype_type]; kernel_rfl)
theorem my_lk_function_class : typeLookup (.type "function") "__class__" = pure (some (.builtin "object.__class__")) := by rw [typeLookup_type, builtinLookup_eq_fast]; kernel_rfl
theorem my_sub_function_owner : isSubtype (.type "function") (.type (".".intercalate ("object.__class__".cutAt '.').dropLast)) = pure true := by
  rw [owner_object_class, isSubtype_type]; kernel_rfl
end F
section
variable {prog : Program} {w : World} {A : Around} {E : Value → Shared → Prop} {h : Heap} {g : Array GenState} {d : Drawn} {t : Nat} {os : OsState} {a : Addr} {o : Obj}
theorem my_class_get_fun {R : Result → Shared → Prop} (hx : h.get? a = some o) (hc : o.cls = .type "function") (hq : R (.ok (.ret (.type "function"))) ⟨h, g, d, t, os⟩) :
    codeAny (model prog w) A (.call (.builtin "getset_descriptor.__get__") ⟨[.builtin "object.__class__", .ref a, .type "function"], []⟩) R ⟨h, g, d, t, os⟩ := by
  have hT : (⟨h, g, d, t, os⟩ : Shared).TypeIs (.ref a) "function" := ⟨_, hx, hc⟩
  have hT5 : (⟨h, g, d, t, os⟩ : Shared).TypeIs (.builtin "object.__class__") "getset_descriptor" := F.typeOf_object_class
  have f8 := F.my_sub_function_owner
  refine codeAny_call_builtin F.slot_gs_get.plain F.entry_gs_get (F.slot_gs_get.check _ _ _ _ _ _ _ _ hT5 (F.args_gs_get _ _ _) ?_)
  repeat (any_goals (first | assumption | wp_step))
  refine ⟨Code.quiet_builtin _ (by decide +kernel), codeAny_builtin F.entry_object_class ?_⟩
  repeat (any_goals (first | assumption | wp_step))
theorem my_class_entry_fun {tk : Tok} {Q : Fin → Shared → Prop} (hx : h.get? a = some o) (hc : o.cls = .type "function") (hq : Q (.done (.ret (.type "function"))) ⟨h, g, d, t, os⟩) :
    wpAny (model prog w) A (Builtin.«object.__getattribute__» ⟨[.ref a, .str "__class__" tk], []⟩) Q E ⟨h, g, d, t, os⟩ := by
  have hT : (⟨h, g, d, t, os⟩ : Shared).TypeIs (.ref a) "function" := ⟨_, hx, hc⟩
  have hT5 : (⟨h, g, d, t, os⟩ : Shared).TypeIs (.builtin "object.__class__") "getset_descriptor" := F.typeOf_object_class
  have f4 := F.my_lk_function_class
  have f5 := F.typeOf_object_class
  have f6 := F.slot_gs_get.lookup
  have f7 := F.slot_gs_set.lookup
  repeat (any_goals (first | assumption | wp_step))
  refine my_class_get_fun hx hc ?_
  repeat (any_goals (first | assumption | wp_step))
theorem my_class_call_fun {tk : Tok} {R : Result → Shared → Prop} (hx : h.get? a = some o) (hc : o.cls = .type "function") (hq : R (.ok (.ret (.type "function"))) ⟨h, g, d, t, os⟩) :
    codeAny (model prog w) A (.call (.builtin "object.__getattribute__") ⟨[.ref a, .str "__class__" tk], []⟩) R ⟨h, g, d, t, os⟩ :=
  codeAny_call_builtin F.my_slot_function_ga.plain F.entry_object_getattribute (F.my_slot_function_ga.check _ _ _ _ _ _ _ _ (show (⟨h, g, d, t, os⟩ : Shared).TypeIs (.ref a) "function" from ⟨_, hx, hc⟩) (F.args_object_getattribute_2 _ _) (my_class_entry_fun hx hc hq))
theorem my_class_by_fun {tk : Tok} {Q : Value → Shared → Prop} (hx : h.get? a = some o) (hc : o.cls = .type "function") (hq : Q (.type "function") ⟨h, g, d, t, os⟩) : wpAny (model prog w) A (getAttrBy (.ref a) (.str "__class__" tk) false) Q E ⟨h, g, d, t, os⟩ := by
  have hT : (⟨h, g, d, t, os⟩ : Shared).TypeIs (.ref a) "function" := ⟨_, hx, hc⟩
  have f2 := F.my_slot_function_ga.lookup
  have f3 := F.my_slot_function_ga.bind (.ref a)
  repeat (any_goals (first | assumption | wp_step))
  refine my_class_call_fun hx hc ?_
  repeat (any_goals (first | assumption | wp_step))
theorem my_class_attr_fun {Q : Option Value → Shared → Prop} (hx : h.get? a = some o) (hc : o.cls = .type "function") (hq : Q (some (.type "function")) ⟨h, g, d, t + 1, os⟩) : wpAny (model prog w) A (getAttr? (.ref a) "__class__") Q E ⟨h, g, d, t, os⟩ := by
  unfold getAttr? getAttrBy?
  repeat (any_goals (first | assumption | with_reducible apply my_class_by_fun hx hc | wp_step))
end
end PySem
namespace PySem.W
theorem my_kitx_fun {K : Frag} {a : Addr} : KitX K (.ref a) (.type "function") (KitAt a "function") := kitx_of kitAt_ty (fun {_ _ _ _ _ s} p k => by obtain ⟨h, g, d, t, os⟩ := s; obtain ⟨o, h1, h2⟩ := p; exact my_class_attr_fun h1 h2 k)
end PySem.W

namespace My
open PySem L2
/-- isinstance of a def of the module's top -/
def rIsiF (K : PySem.W.Frag) : List V → Hp → VK → Prop := fun xs H Q => ∃ (a : Addr) (o : Obj) (n : String) (b : Bool), xs = [.ref a, .ty n] ∧ K.lookup a = some o ∧ o.cls = .type "function" ∧ PySem.W.kitOne K (.type "function") (.type n) = some b ∧ Q (.bl b) H
theorem call_isiF {X : Cx} : CallR X (.builtin "isinstance") (rIsiF X.K) := by
  intro pins s σ H xs us Q I r h
  obtain ⟨a, o, n, b, rfl, hl, hc, e, q⟩ := h
  obtain ⟨u1, u2, rfl, r1, r2⟩ := vals2 r
  have e2 := (ClsV.ty n).eq r2
  subst e2
  cases (show u1 = Value.ref a from r1)
  exact PySem.W.kia_one PySem.W.my_kitx_fun I.kIn ⟨o, I.kIn _ _ hl, hc⟩ e (fun z => nomatch z) fun tk => ⟨.bl b, H, I.tok tk, rfl, q⟩
theorem fun_str {K : PySem.W.Frag} {H : Hp} {a : Addr} {Q : VK} (h : ∃ o, K.lookup a = some o ∧ o.cls = .type "function") (q : Q (.bl false) H) : rIsiF K [.ref a, .ty "str"] H Q :=
  let ⟨o, h1, h2⟩ := h
  ⟨a, o, "str", false, rfl, h1, h2, kit_ty (by decide +kernel), q⟩
end My

namespace My
open PySem L2
/-! ### == and != of two objects of an own class with an own == -/
section
variable {X : Cx} {C f : Addr} {fd : FuncData} {ps : List Str} {n : Nat} {sp : Sp}
/-- the own == as it runs, within X or one builtin deeper -/
theorem run_eq {A : Around} {pins : List (Addr × Obj)} {σ : L2.St} {H : Hp} {s : Shared} {a b : Addr} {Q : VK} {E : XK} (F : FnOk X.prog X.w X.K X.mg X.base CX0 n f fd ps sp) (hb : Binds X.K fd ps []) (hr : Room n A) (hfr : A.frames = X.A.frames)
    (I : Inv X pins σ H s) (h : sp [.ref a, .ref b] H Q E) : wpAny (model X.prog X.w) A (call (.ref f) [.ref a, .ref b]) (EP X pins σ Q) X.xe s := by
  have w0 := I.env0
  have w1 : Env0 X.prog X.w X.K X.mg X.base A X.stack s H := ⟨hfr.trans w0.frames, w0.mod, w0.bs, w0.bsz, w0.funs, w0.frf, w0.hok, w0.bare⟩
  have len2 : 2 = ps.length := F.len _ _ _ _ h
  have bnd : BindsTo s fd ⟨[.ref a, .ref b], []⟩ (ps.zip [.ref a, .ref b]) := by
    have q := hb s [.ref a, .ref b] I.kIn (by simpa using len2)
    simpa using q
  refine wpAny_call (codeAny_mono (F.run A X.stack s H ⟨[.ref a, .ref b], []⟩ [.ref a, .ref b] [.ref a, .ref b] Q E hr w1 bnd (.cons rfl (.cons rfl .nil)) h) ?_)
  intro r s' z
  match r, z with
  | .error _, z => exact z.elim
  | .ok (.ret u), z => exact I.after z
/-- a == b -/
def rEqOwn (C : Addr) (sp : Sp) : R2 := fun x y H Q => ∃ (a b dx dy : Addr) (fs gs : List (Str × V)), x = .ref a ∧ y = .ref b ∧ H a = some (.ins C dx fs) ∧ H b = some (.ins C dy gs) ∧ sp [.ref a, .ref b] H (fun v H' => ∃ k, v = .bl k ∧ Q (.bl k) H') E0
theorem op_eqOwn (F : FnOk X.prog X.w X.K X.mg X.base CX0 n f fd ps sp) (hs : PySem.W.findIn X.K (.ref C) "__eq__" = some (some (.ref f))) (hf : PySem.W.isFn X.K (.ref f) = true) (hb : Binds X.K fd ps []) (hr : Room n X.A) :
    OpR X (compareOp .Eq) (rEqOwn C sp) := by
  rintro pins s σ H x y v u Q I rx ry ⟨a, b, dx, dy, fs, gs, rfl, rfl, ha, hb', q⟩
  cases rx
  cases ry
  obtain ⟨_, J1, _⟩ := ins_get I.hok ha
  obtain ⟨_, J2, _⟩ := ins_get I.hok hb'
  obtain ⟨_, K1, _⟩ := J1.look
  obtain ⟨_, K2, _⟩ := J2.look
  obtain ⟨_, fr⟩ := I.fr
  show wpAny (model X.prog X.w) X.A (richCompare .Eq (.ref a) (.ref b)) _ _ s
  refine PySem.W.cmp_K (op := .Eq) (tb := .ref C) hr.units0 fr I.ok.mod.kin K1 K2.type (by simp [PySem.W.notFirst]) hs hf ?_
  refine thn (run_eq F hb hr rfl I q) ?_
  rintro w s' ⟨z, H', I', rz, k, rfl, qk⟩
  cases rz
  exact ⟨.bl k, H', I', rfl, qk⟩
/-- a != b, no own != -/
def rNeOwn (C : Addr) (sp : Sp) : R2 := fun x y H Q => ∃ (a b dx dy : Addr) (fs gs : List (Str × V)), x = .ref a ∧ y = .ref b ∧ H a = some (.ins C dx fs) ∧ H b = some (.ins C dy gs) ∧ sp [.ref a, .ref b] H (fun v H' => ∃ k, v = .bl k ∧ Q (.bl (!k)) H') E0
theorem ne_run {P : Program} {w : World} {A : Around} {R : Fin → Shared → Prop} {E : Value → Shared → Prop} {K : PySem.W.Frag} {s : Shared} {a b C f : Addr} {ox : Obj} {od : Option Obj} (hu : A.units < cLine) (X : K.In s.heap) (I : PySem.W.InstAt s.heap a ox C od)
    (hs : PySem.W.findIn K (.ref C) "__eq__" = some (some (.ref f))) (hf : PySem.W.isFn K (.ref f) = true) (h : wpAny (model P w) A (call (.ref f) [.ref a, .ref b]) (fun v s' => ∃ k, v = .bool k ∧ R (.done (.ret (.bool (!k)))) s') E s) :
    wpAny (model P w) A (Builtin.«object.__ne__» ⟨[.ref a, .ref b], []⟩) R E s := by
  have e : Builtin.«object.__ne__» ⟨[.ref a, .ref b], []⟩ = (do
      cRoomFor "comparison" [.ref a, .ref b]
      let r ← callSpecialIfBound? (.ref a) "__eq__" [.ref b]
      match r with
      | some .notImplemented | none => PySem.ret .notImplemented
      | some r => PySem.ret (.bool (!(← truthy r)))) := by rfl
  rw [e]
  refine wpAny_bind (wpAny_cRoomFor hu ?_)
  refine wpAny_bind (PySem.W.ifBound_K X I hs hf (wpAny_mono h ?_ fun _ _ z => z))
  rintro v s' ⟨k, rfl, q⟩
  exact wpAny_bind (wpAny_truthy_bool (wpAny_pure q))
theorem op_neOwn (F : FnOk X.prog X.w X.K X.mg X.base CX0 n f fd ps sp) (hs : PySem.W.findIn X.K (.ref C) "__eq__" = some (some (.ref f))) (hf : PySem.W.isFn X.K (.ref f) = true) (hb : Binds X.K fd ps [])
    (hn : PySem.W.findIn X.K (.ref C) "__ne__" = some (some (.builtin "object.__ne__"))) (hm : PySem.W.mroIn X.K C (.type "object") = some true) (hr : Room (n + 1) X.A) :
    OpR X (compareOp .NotEq) (rNeOwn C sp) := by
  rintro pins s σ H x y v u Q I rx ry ⟨a, b, dx, dy, fs, gs, rfl, rfl, ha, hb', q⟩
  cases rx
  cases ry
  obtain ⟨_, J1, _⟩ := ins_get I.hok ha
  obtain ⟨_, J2, _⟩ := ins_get I.hok hb'
  obtain ⟨_, K1, _⟩ := J1.look
  obtain ⟨_, K2, _⟩ := J2.look
  have kin := I.kIn
  have sub : PySem.W.Looks (model X.prog X.w) s.heap (isInstance (.ref a) (.type "object")) true := K1.type.andThen (PySem.W.looks_mroIn kin hm)
  have r1 : Room n X.A.in1 := hr.in1
  have go : wpAny (model X.prog X.w) X.A (call (.builtin "object.__ne__") [.ref a, .ref b]) (fun v s' => v ≠ .notImplemented ∧ EP X pins σ Q v s') X.xe s := by
    refine wpAny_call (codeAny_call_builtin PySem.F.slot_tuple_iterator_ne.plain PySem.F.cmpEntry_ne (PySem.W.check_slot PySem.F.cmpKind_ne PySem.F.cmpSplit_ne sub (PySem.F.cmpArgs_ne _ _) ?_))
    refine ne_run r1.units0 kin K1 hs hf (thn (run_eq F hb r1 rfl I q) ?_)
    rintro w s' ⟨z, H', I', rz, k, rfl, qk⟩
    cases rz
    exact ⟨k, rfl, (fun z => by cases z), .bl (!k), H', I', rfl, qk⟩
  have one : wpAny (model X.prog X.w) X.A (tryCompare (.ref a) "__ne__" (.ref b)) (fun r s' => ∃ v, r = some v ∧ EP X pins σ Q v s') X.xe s := by
    unfold tryCompare
    refine wpAny_bind ?_
    simp only [callSpecialIfBound?, bindSpecialIfBound?]
    have bi : PySem.W.Looks (model X.prog X.w) s.heap (bindSpecial (.builtin "object.__ne__") (.ref a)) (.builtin "object.__ne__", [.ref a]) := PySem.W.Looks.of_pure (PySem.F.slot_tuple_iterator_ne.bind _)
    have last : wpAny (model X.prog X.w) X.A (call (.builtin "object.__ne__") ([.ref a] ++ [.ref b]) >>= fun v => pure (some v)) (fun r s' => wpAny (model X.prog X.w) X.A (match r with | some .notImplemented => pure none | none => pure none | some v => pure (some v)) (fun r s' => ∃ v, r = some v ∧ EP X pins σ Q v s') X.xe s') X.xe s := by
      refine wpAny_bind (thn go ?_)
      rintro v s' ⟨nv, ev⟩
      refine wpAny_pure ?_
      cases v <;> first | exact absurd rfl nv | exact wpAny_pure ⟨_, rfl, ev⟩
    refine wpAny_holding (wpAny_bind (wpAny_bind (wpAny_bind (K1.type.here ((PySem.W.looks_findIn kin hn).here ?_)))))
    refine wpAny_bind (wpAny_askSetting (wpAny_ite ?_))
    split
    · exact wpAny_bind (bi.here (wpAny_pure (by exact last)))
    · exact wpAny_tryCatch (wpAny_bind (bi.here (wpAny_pure (by exact last))))
  show wpAny (model X.prog X.w) X.A (richCompare .NotEq (.ref a) (.ref b)) _ _ s
  unfold richCompare
  simp only [oneThing_ref]
  refine wpAny_holding (wpAny_bind (wpAny_cRoomFor hr.units0 ?_))
  refine wpAny_bind (K1.type.here (wpAny_bind (K2.type.here ?_)))
  have e0 : (Value.ref C != Value.ref C) = false := by simp
  rw [e0]
  simp only [Bool.false_eq_true, if_false]
  refine wpAny_bind (wpAny_pure ?_)
  simp only [Bool.false_eq_true, if_false]
  refine wpAny_bind (wpAny_mono one ?_ fun _ _ z => z)
  rintro r s' ⟨v, rfl, q'⟩
  exact wpAny_pure q'
end
end My

namespace My
open PySem PySem.Spec PyProof.Rows L2
/-! ### promises where no repr is under way -/
/-- a promise of the def at f, for surroundings in which nothing is being shown -/
structure FnG (P : Program) (w : World) (K : PySem.W.Frag) (mg : Str → Option Value) (base : Heap) (k : Nat) (f : Addr) (fd : FuncData) (ps : List Str) (sp : Sp) : Prop where
  len : ∀ vs H Q E, sp vs H Q E → vs.length = ps.length
  run : ∀ (A : Around) (outer : List Env) (s : Shared) (H : Hp) (args : Args) (us : List Value) (vs : List V) (Q : VK) (E : XK), A.guards = some [] → Room k A → Env0 P w K mg base A outer s H → BindsTo s fd args (ps.zip us) → Vals vs us → sp vs H Q E →
    codeAny (model P w) A (.call (.ref f) args) (CR CX0 outer P w H s Q E) s
section
variable {P : Program} {w : World} {K : PySem.W.Frag} {mg : Str → Option Value} {base : Heap}
theorem FnG.by_body {x qual : Str} {st : Stmt} {f : Addr} {fd : FuncData} {N ps : List Str} {k : Nat} {sp : Sp} (F : Fun K x qual st f fd) (S : FnScope N ps (defScope st)) (len : ∀ vs H Q E, sp vs H Q E → vs.length = ps.length)
    (body : ∀ (cdv : Value) (A : Around) (outer : List Env) (s : Shared) (H : Hp) (vs : List V) (Q : VK) (E : XK), A.guards = some [] → Room k (A.deeper (envOfC qual (defScope st) s.heap.objs.size f cdv)) → sp vs H Q E →
      ∃ t, PSs (cxOf CX0 P w K mg base N qual (defScope st) f cdv A outer s H E).nox (defBody st) t ∧ t { nx := fun _ H' => Q .non H', rt := Q } (start N vs) H) : FnG P w K mg base (k + 1) f fd ps sp := by
  obtain ⟨_, _, _, _, _, _, cdv, _, _, rfl, look, code⟩ := F.ex
  constructor
  · exact len
  intro A outer s H args us vs Q E hg hr e0 hb rel hsp
  have n := len _ _ _ _ hsp
  have old : ∀ b o, base.get? b = some o → s.heap.get? b = some o := fun b o e => (e0.bs b o e).1
  have inK : K.In s.heap := e0.mod.kin.keeps old
  obtain ⟨t, ht, q⟩ := body cdv A outer s H vs Q E hg (hr.deeper _) hsp
  have named : ∀ y ∈ ps.zip us, (defScope st).names.lookup y.1 = some .local ∨ ((defScope st).names.lookup y.1 = some .cell ∧ ((cellsFrom (s.heap.objs.size + 1) (defScope st).names []).lookup y.1).isSome = true) := by
    rintro ⟨m, v⟩ hy
    exact (S.par m (List.of_mem_zip hy).1).imp (fun z => z) fun z => ⟨z, PySem.W.cellsFrom_some _ _ _ (.inl z)⟩
  refine codeAny_call_function hr.depth (inK _ _ look) rfl S.co S.gen rfl (PySem.W.codeRec_of inK code) (hb _ _ _ _ (wpAny_newFunctionEnv_cells S.kind named fun env he s1 z => ?_))
  subst he
  refine ⟨(e0.mod.nolimit.keeps old).keeps z.toInCall.keep, codeAny_func (wpAny_mono (ht.nox.run [] s1 (start N vs) H _ (inv_start S hr.hd e0 n rel z) q) ?_ fun _ _ h => h)⟩
  intro fl s' h
  match fl, h with
  | .ret u, ⟨v, σ', H', J, rv, q'⟩ => exact ⟨v, H', J.os, J.bare, J.base, J.hok, rv, q'⟩
  | .next, ⟨σ', H', J, q'⟩ => exact ⟨V.non, H', J.os, J.bare, J.base, J.hok, rfl, q'⟩
  | .brk, ⟨_, _, _, q'⟩ => exact q'.elim
  | .cont, ⟨_, _, _, q'⟩ => exact q'.elim
end
section
variable {X : Cx} {k : Nat} {f : Addr} {fd : FuncData} {ps : List Str} {sp : Sp} {dvs : List V} {ds : List Value} {E : XK} {x : Str} {p pos : Pos} {e : Expr} {es : List Expr} {t : TA}
/-- a call of such a def -/
theorem pe_callG (hA : X.A.guards = some []) (F : FnG X.prog X.w X.K X.mg X.base k f fd ps sp) (hr : Room k X.A) (hg : Gl X x) (hm : X.mg x = some (.ref f)) (hk : PySem.W.keepIn X.K (.ref f) = true) (hb : Binds X.K fd ps ds) (hd : Vals dvs ds) (hx : Passes CX0 X E)
    (ha : PA X (e :: es) t) (hdb : (x == ("__debug__" : Str)) = false := by decide) (he : starEach (e :: es) X.env = (false, eval e X.env) :: starEach es X.env := by rfl) (hpl : (backTo pos (starEach es X.env)).any (·.1) = false := by rfl) :
    PE X (.Call (.Name x p) (e :: es) [] pos) (tCall sp dvs E t) := by
  constructor
  intro pins s σ H Q I h
  refine wpAny_Call_Name_kw (ld_glob I hg hm ?_ hdb)
  refine PySem.W.callWith_K (h₀ := X.base) I.ok.mod.kin hk (thn (ha.run pos pins s σ H _ I h) ?_) he hpl
  rintro us s1 ⟨vs, H1, J, rel, q⟩
  refine ⟨J.kIn, ?_⟩
  have both := rel.append hd
  have n : (us ++ ds).length = ps.length := by rw [← both.length]; exact F.len _ _ _ _ q
  refine wpAny_call (codeAny_mono (F.run X.A X.stack s1 H1 ⟨us, []⟩ (us ++ ds) (vs ++ dvs) Q E hA hr J.env0 (hb s1 us J.kIn n) both q) ?_)
  intro r s' z
  match r, z with
  | .error _, z => exact hx pins σ H1 s1 _ s' J z
  | .ok (.ret _), z => exact J.after z
/-- repr of data -/
def rRepr (K : PySem.W.Frag) : List V → Hp → VK → Prop := fun xs H Q => ∃ (a : Addr) (d : PyData), xs = [.ref a] ∧ Dp K H (.ref a) d ∧ d.showable = true ∧ d.hasDict = false ∧ d.depth ≤ 60 ∧ d.shown.length ≤ sizeLine ∧ Q (.str d.shown) H
theorem call_repr (hA : X.A.guards = some []) (hu : X.A.units + 64 < cLine) : CallR X (.builtin "repr") (rRepr X.K) := by
  rintro pins s σ H xs us Q I r ⟨a, d, rfl, hd, hs, hn, hz, hl, q⟩
  obtain ⟨u, rfl, rx⟩ := vals1 r
  cases rx
  obtain ⟨as, rd⟩ := Dp.reads I d (.ref a) (.ref a) hd rfl
  exact repr_of_reads' rd hs (PyData.noDict_hsm hn) hA (by omega) (fun _ _ e => e) (fun h' u tk hk => ⟨.str d.shown, H, I.kept hk, ⟨_, rfl⟩, q⟩) hl
end
end My
namespace My
open PySem PySem.Spec PyProof.Rows L2
/-! ### the law's call, by such a promise -/
section
variable {P : Program} {w : World} {K : PySem.W.Frag} {mg mb : Str → Option Value} {k : Nat} {fa a : Addr} {fd : FuncData} {x : Str} {sp : Sp} {s₁ : Shared} {vs : List Value} {ns : List Int}
/-- with H tracked: nothing but the script, and not even this where it is the module's own -/
theorem law_with (KX : K.In s₁.heap) (hns : s₁.heap.Ns mainGlobals mg) (hb : s₁.heap.Ns builtinsNs mb) (hbb : ∀ x : Str, x ≠ "__name__" → mb x = bootBuiltins x) (hlim : s₁.heap.NoLimit) (hg : s₁.gens = #[])
    (ha : s₁.heap.get? a = some { cls := .type "list", data := .seq vs.toArray }) (hr : Room k callerA)
    (F : ∀ base : Heap, K.In base → base.Ns mainGlobals mg → FnG P w K mg base k fa fd [x] sp) (hbind : ∀ (s : Shared) (u : Value), BindsTo s fd ⟨[u], []⟩ [(x, u)])
    {H : Hp} (off : ∀ b, b ≠ a → H b = none) (own : K.lookup a ≠ none → H a = none) (frz : ∀ u, H a = some u → ∃ ob xs, u = .frz ob (.lst xs)) (hok : HOk P w H s₁.heap)
    (hsp : sp [.ref a] H (fun v _ => v = .bl true) fun _ _ _ => False) :
    codeAny (model P w) callerA (.call (.ref fa) ⟨[.ref a], []⟩) (fun r s' => r = .ok (.ret (.bool true)) ∧ OldK s₁.heap s'.heap ∧ s'.os = s₁.os ∧ AllBare s'.gens) s₁ := by
  have stays : ∀ {b : Addr} {o : Obj}, s₁.heap.get? b = some o → b ≠ a → (hidT s₁.heap H).get? b = some o := fun e n => hidT_get e (off _ n)
  have dicts : ∀ {b : Addr} {o : Obj} {es : Array DictEntry} {n : Nat}, s₁.heap.get? b = some o → o.data = .dict es n → b ≠ a := by
    rintro b o es n e d rfl
    rw [ha] at e
    cases e
    cases d
  have tables : ∀ {b : Addr} {m : Str → Option Value}, s₁.heap.Ns b m → (hidT s₁.heap H).Ns b m := fun {b m} h => by
    obtain ⟨o, es, n, e, d, r⟩ := h
    exact ⟨o, es, n, stays e (dicts e d), d, r⟩
  have inK : K.In (hidT s₁.heap H) := fun b o e => by
    by_cases z : b = a
    · subst z
      exact hidT_get (KX _ _ e) (own (by rw [e]; simp))
    · exact stays (KX _ _ e) z
  obtain ⟨mc, l1, l2⟩ := hlim
  have e0 : Env0 P w K mg (hidT s₁.heap H) callerA [] s₁ H :=
    ⟨rfl, ⟨inK, tables hns, ⟨mb, tables hb, hbb⟩, mc, tables l1, l2⟩, fun b o e => of_hidT e, Nat.le_of_eq (hidT_size _ _), trivial, fun b hb => absurd (show b ∈ ([] : List Addr) from hb) (by simp), hok, .of_eq hg⟩
  have run := (F _ inK (tables hns)).run callerA [] s₁ H ⟨[.ref a], []⟩ [.ref a] [.ref a] _ _ rfl hr e0 (hbind s₁ (.ref a)) (.cons rfl .nil) hsp
  refine codeAny_mono run ?_
  intro r s' h
  match r, h with
  | .error _, h => exact False.elim h
  | .ok (.ret u), ⟨v, H', os, bare, un, hok', rv, q⟩ =>
    have q' : v = .bl true := q
    subst q'
    obtain rfl : u = Value.bool true := rv
    refine ⟨rfl, OldK.of_keep fun b o e => ?_, os, bare⟩
    cases z : H b with
    | none => exact un.keep b o e z (fun y => absurd (show b ∈ ([] : List Addr) from y) (by simp)) (by simp)
    | some u =>
      have ba : b = a := Classical.byContradiction fun y => by rw [off b y] at z; cases z
      subst ba
      obtain ⟨ob, xs, rfl⟩ := frz u z
      obtain ⟨e1, _⟩ := hok b _ z
      obtain ⟨e2, _⟩ := hok' b _ (un.frzs b ob _ z)
      rw [e] at e1
      cases e1
      exact e2
theorem law_callG (KX : K.In s₁.heap) (hns : s₁.heap.Ns mainGlobals mg) (hb : s₁.heap.Ns builtinsNs mb) (hbb : ∀ x : Str, x ≠ "__name__" → mb x = bootBuiltins x) (hlim : s₁.heap.NoLimit) (hg : s₁.gens = #[])
    (ha : s₁.heap.get? a = some { cls := .type "list", data := .seq vs.toArray }) (hi : IntsAre vs ns) (hl : ns.length ≤ sizeLine) (hr : Room k callerA)
    (F : ∀ base : Heap, K.In base → base.Ns mainGlobals mg → FnG P w K mg base k fa fd [x] sp) (hbind : ∀ (s : Shared) (u : Value), BindsTo s fd ⟨[u], []⟩ [(x, u)])
    (hsp : ∀ H : Hp, SqL K H a (ns.map V.int) → sp [.ref a] H (fun v _ => v = .bl true) fun _ _ _ => False) :
    codeAny (model P w) callerA (.call (.ref fa) ⟨[.ref a], []⟩) (fun r s' => r = .ok (.ret (.bool true)) ∧ OldK s₁.heap s'.heap ∧ s'.os = s₁.os ∧ AllBare s'.gens) s₁ := by
  have rel := vals_ints hi
  by_cases hk : K.lookup a = none
  · let it : HO := .frz { cls := .type "list", data := .seq vs.toArray } (.lst (ns.map V.int))
    have there : upd (fun _ => none) a it a = some it := upd_same
    refine law_with KX hns hb hbb hlim hg ha hr F hbind (H := upd (fun _ => none) a it) (fun b n => upd_ne n) (fun z => absurd hk z) (fun u e => ?_) (fun b u e => ?_) (hsp _ (.inl (.inr ⟨_, there⟩)))
    · rw [there] at e
      cases e
      exact ⟨_, _, rfl⟩
    · by_cases z : b = a
      · subst z
        rw [there] at e
        cases e
        exact ⟨ha, by rw [List.length_map]; exact hl, vs, _, rel, ha⟩
      · rw [upd_ne z] at e
        cases e
  · obtain ⟨o, ho⟩ := Option.ne_none_iff_exists'.mp hk
    have e := KX a o ho
    rw [ha] at e
    cases e
    refine law_with KX hns hb hbb hlim hg ha hr F hbind (H := fun _ => none) (fun b n => rfl) (fun _ => rfl) (fun u e => by cases e) (fun b u e => by cases e) (hsp _ (.inr ⟨_, vs.toArray, _, ho, rfl, rfl, rfl, by rw [List.size_toArray, hi.length]; exact hl, by simpa using rel⟩))
theorem walk_ofG {l : PySem.W.OpenLaw} {n k : Nat} {q : Program} {loose : List Str} {XP : (Str → Option Value) → Heap → Prop} {YP : World → Heap → Prop} {d : DefRec} {K : Params → PySem.W.Frag} {sp : World → Sp} {x : Str}
    (hn : l.most = some n) (hn2 : n ≤ sizeLine) (hdf : d.params.defaults = []) (hr : Room k callerA) (hY : ∀ (w : World) (h : Heap), YP w h → (K w.params).In h)
    (F : ∀ (w : World) (mg : Str → Option Value) (fa : Addr) (h : Heap), (K w.params).In h → h.Ns mainGlobals mg → mg d.name = some (.ref fa) →
      ∃ fd : FuncData, (∀ (s : Shared) (u : Value), BindsTo s fd ⟨[u], []⟩ [(x, u)]) ∧ ∀ base : Heap, (K w.params).In base → base.Ns mainGlobals mg → FnG l.prog w (K w.params) mg base k fa fd [x] (sp w))
    (hsp : ∀ (w : World) (H : Hp) (a : Addr) (ns : List Int), ns.length ≤ n → SqL (K w.params) H a (ns.map V.int) → sp w [.ref a] H (fun v _ => v = .bl true) fun _ _ _ => False) :
    PySem.W.WalkO q loose XP YP l.row.toRowW d [] (fun f vs => PySem.call f vs) := by
  refine Att.attach_call hn hdf fun w s₀ s₁ mg mb fa o pm cd doc a vs ns G Y ho hd hcd hmg hobj hints hlen hg => ?_
  have KX := hY w _ Y
  obtain ⟨fd, hb, hF⟩ := F w mg fa _ KX G.T.g hmg
  exact law_callG KX G.T.g G.T.b G.T.builtins G.T.nolimit hg hobj hints (Nat.le_trans hlen hn2) hr hF hb fun H hS => hsp w H a ns hlen hS
end
end My

namespace My
open PySem PySem.Spec PyProof.Rows L2
section
variable {X : Cx}
/-- repr of data, whatever its kind -/
def rReprA (K : PySem.W.Frag) : List V → Hp → VK → Prop := fun xs H Q => ∃ (x : V) (d : PyData), xs = [x] ∧ Dp K H x d ∧ d.showable = true ∧ d.hasDict = false ∧ d.depth ≤ 60 ∧ d.shown.length ≤ sizeLine ∧ Q (.str d.shown) H
theorem call_reprA (hA : X.A.guards = some []) (hu : X.A.units + 64 < cLine) : CallR X (.builtin "repr") (rReprA X.K) := by
  rintro pins s σ H xs us Q I r ⟨x, d, rfl, hd, hs, hn, hz, hl, q⟩
  obtain ⟨u, rfl, rx⟩ := vals1 r
  cases hd with
  | non =>
    cases rx
    exact PySem.P.repr_of_none ⟨.str _, H, I.tok _, ⟨_, rfl⟩, q⟩
  | bl b =>
    obtain ⟨t, rfl⟩ := rx
    exact PySem.P.repr_of_bool ⟨.str _, H, I.tok _, ⟨_, rfl⟩, q⟩
  | int i =>
    obtain ⟨t, rfl⟩ := rx
    exact PySem.P.repr_of_int (by simpa [PyData.showable] using hs) ⟨.str _, H, I.tok _, ⟨_, rfl⟩, q⟩
  | str z =>
    obtain ⟨t, rfl⟩ := rx
    exact PySem.P.repr_of_str ⟨.str _, H, I.tok _, ⟨_, rfl⟩, q⟩ hl
  | lst h1 h2 =>
    cases rx
    obtain ⟨as, rd⟩ := Dp.reads I _ _ _ (.lst h1 h2) rfl
    exact repr_of_reads' rd hs (PyData.noDict_hsm hn) hA (by omega) (fun _ _ e => e) (fun h' u tk hk => ⟨.str _, H, I.kept hk, ⟨_, rfl⟩, q⟩) hl
  | tup h1 h2 =>
    cases rx
    obtain ⟨as, rd⟩ := Dp.reads I _ _ _ (.tup h1 h2) rfl
    exact repr_of_reads' rd hs (PyData.noDict_hsm hn) hA (by omega) (fun _ _ e => e) (fun h' u tk hk => ⟨.str _, H, I.kept hk, ⟨_, rfl⟩, q⟩) hl
end
/-- none, or a whole number, shown -/
theorem data_opt {d : PyData} (h : d = .none ∨ ∃ i : Int, d = .int i ∧ i.natAbs < 2 ^ 1900) : d.showable = true ∧ d.hasDict = false ∧ d.depth ≤ 60 ∧ d.shown.length ≤ sizeLine := by
  rcases h with rfl | ⟨i, rfl, hi⟩
  · refine ⟨?_, ?_, ?_, ?_⟩ <;> first | rfl | decide +kernel
  · have l1 : i.natAbs.log2 < 1920 := Nat.lt_of_lt_of_le (PySem.Flt.log2_lt_of (by decide) hi) (by decide)
    have s1 : (PyData.shown (.int i)).length ≤ 1921 := PyProof.Rows.int_text_len_1921 l1
    refine ⟨?_, ?_, ?_, ?_⟩
    · simpa only [PyData.showable, decide_eq_true_eq] using l1
    · simp [PyData.hasDict]
    · simp [PyData.depth]
    · exact Nat.le_trans s1 (by decide)
end My

namespace PySem
namespace ErV
open PySem.W PySem.Calls PyProof.Rows PySem.HandSPX Builtin Builtin.ObjectAttr
/-! ### errors held as values: their fields stored by an own __init__ -/
theorem first_store {P : Program} {w : World} {A : Around} {R : Result → Shared → Prop} {h0 : Heap} {gs : Array GenState} {dr : Drawn} {t0 : Nat} {oss : OsState}
    {K : Frag} {nm : Str} {tk : Tok} {val : Value} {e C : Addr} {fs : Array Value} {cd : ClassData} (kin : K.In h0) (he : h0.get? e = some { cls := .ref C, data := .fields fs }) (hc : clsIn K C = some cd)
    (pass : refuseLoop (.ref e) "__setattr__" cd.mro = pure ()) (isObj : mroIn K C (.type "object") = some true) (hasD : cd.hasDict = true) (no : findIn K (.ref C) nm = some none)
    (go : ∀ h1 t1 dx, (∀ b o, b ≠ e → h0.get? b = some o → h1.get? b = some o) → h0.objs.size ≤ dx → dx ≠ e → h1.get? e = some { cls := .ref C, dict := some dx, data := .fields fs } → h1.Ns1 dx (fun y => if y = nm then some val else none) → R (.ok (.ret .none)) ⟨h1, gs, dr, t1, oss⟩) :
    codeAny (model P w) A (.call (.builtin "object.__setattr__") ⟨[.ref e, .str nm tk, val], []⟩) R ⟨h0, gs, dr, t0, oss⟩ := by
  have inst : InstAt h0 e { cls := .ref C, data := .fields fs } C none := ⟨he, rfl, rfl, trivial⟩
  have old : e ≠ h0.objs.size := Nat.ne_of_lt (Heap.lt_size he)
  have st := F.store_object
  have under : Looks (model P w) h0 (isInstance (.ref e) (.type "object")) true := inst.type.andThen (looks_mroIn kin isObj)
  refine codeAny_call_builtin st.slot.plain st.entry (@check_slot (model P w) _ _ ⟨h0, gs, dr, t0, oss⟩ "object.__setattr__" "object" "__setattr__" (.ref e) [.str nm tk, val] [] _ st.kind st.split under (st.args (.ref e) (.str nm tk) val) ?_)
  have chain : Looks (model P w) h0 (mroOf (.ref C)) cd.mro := (looks_clsIn kin hc).andThen .now
  have taker : Looks (model P w) h0 (storeTaker? none) none := .now
  have data : Looks (model P w) h0 (classData C) cd := looks_clsIn kin hc
  rw [osa_eq, refuse_eq]
  refine wpAny_bind (wpAny_bind (inst.type.at (wpAny_bind (chain.at ?_))))
  rw [pass]
  refine wpAny_pure (wpAny_bind (inst.type.at (wpAny_bind ((looks_findIn kin no).at (wpAny_bind (taker.at ?_))))))
  show wpAny _ _ (storeInOwnDict (.ref e) (.ref C) (.str nm tk) nm val false) _ _ _
  obtain ⟨c1, c2, c3, c4, c5, c6, c7, c8, c9, c10, c11⟩ := cd
  dsimp only at hasD
  subst hasD
  unfold storeInOwnDict ownDictForStores
  repeat (first | with_reducible refine store_in_new ?_ ?_ | with_reducible refine wpAny_loadPart_at he ?_ | with_reducible refine data.at ?_ | wp_step)
  · exact ⟨_, #[], _, (Heap.get?_update_ne _ _ _ _ old.symm).trans (Heap.get?_push_at rfl rfl), rfl, fun x hx => absurd hx (by simp), fun _ => rfl⟩
  · intro h1 t1 ns but
    have now : (h0.push { cls := .type "dict", data := .dict #[] }).get? e = some { cls := .ref C, data := .fields fs } := Heap.get?_push_of_some _ he
    refine go h1 t1 h0.objs.size (fun b o nb ho => ?_) (Nat.le_refl _) old.symm ?_ ns
    · exact (but.2 b (Nat.ne_of_lt (Heap.lt_size ho))).trans ((Heap.get?_update_ne _ _ _ _ nb).trans (Heap.get?_push_of_some _ ho))
    · exact (but.2 e old).trans (Heap.get?_update_self _ now rfl)

/-- a second field -/
theorem next_store {P : Program} {w : World} {A : Around} {R : Result → Shared → Prop} {h0 : Heap} {gs : Array GenState} {dr : Drawn} {t0 : Nat} {oss : OsState}
    {K : Frag} {nm : Str} {tk : Tok} {val : Value} {e C dx : Addr} {fs : Array Value} {cd : ClassData} {m0 : Str → Option Value} {ns : List Str} (kin : K.In h0) (he : h0.get? e = some { cls := .ref C, dict := some dx, data := .fields fs }) (hc : clsIn K C = some cd)
    (pass : refuseLoop (.ref e) "__setattr__" cd.mro = pure ()) (isObj : mroIn K C (.type "object") = some true) (hasD : cd.hasDict = true) (no : findIn K (.ref C) nm = some none)
    (hn : h0.Ns1 dx m0) (hw : Within m0 ns) (hz : ns.length ≤ 1000)
    (go : ∀ h1 t1, (∀ b o, b ≠ dx → h0.get? b = some o → h1.get? b = some o) → h1.Ns1 dx (fun y => if y = nm then some val else m0 y) → R (.ok (.ret .none)) ⟨h1, gs, dr, t1, oss⟩) :
    codeAny (model P w) A (.call (.builtin "object.__setattr__") ⟨[.ref e, .str nm tk, val], []⟩) R ⟨h0, gs, dr, t0, oss⟩ := by
  obtain ⟨oD, hoD, _⟩ := L2.lookIn_ns hn
  have inst : InstAt h0 e { cls := .ref C, dict := some dx, data := .fields fs } C (some oD) := ⟨he, rfl, rfl, hoD⟩
  have st := F.store_object
  have under : Looks (model P w) h0 (isInstance (.ref e) (.type "object")) true := inst.type.andThen (looks_mroIn kin isObj)
  refine codeAny_call_builtin st.slot.plain st.entry (@check_slot (model P w) _ _ ⟨h0, gs, dr, t0, oss⟩ "object.__setattr__" "object" "__setattr__" (.ref e) [.str nm tk, val] [] _ st.kind st.split under (st.args (.ref e) (.str nm tk) val) ?_)
  have chain : Looks (model P w) h0 (mroOf (.ref C)) cd.mro := (looks_clsIn kin hc).andThen .now
  have taker : Looks (model P w) h0 (storeTaker? none) none := .now
  have data : Looks (model P w) h0 (classData C) cd := looks_clsIn kin hc
  rw [osa_eq, refuse_eq]
  refine wpAny_bind (wpAny_bind (inst.type.at (wpAny_bind (chain.at ?_))))
  rw [pass]
  refine wpAny_pure (wpAny_bind (inst.type.at (wpAny_bind ((looks_findIn kin no).at (wpAny_bind (taker.at ?_))))))
  show wpAny _ _ (storeInOwnDict (.ref e) (.ref C) (.str nm tk) nm val false) _ _ _
  obtain ⟨c1, c2, c3, c4, c5, c6, c7, c8, c9, c10, c11⟩ := cd
  dsimp only at hasD
  subst hasD
  unfold storeInOwnDict ownDictForStores
  repeat (first | with_reducible refine ESX.store_in_old hn hw hz ?_ | with_reducible refine wpAny_loadPart_at he ?_ | with_reducible refine data.at ?_ | wp_step)
  intro h' tk' hn' hs
  exact go h' tk' (fun b o hb ho => (hs.2 b hb).trans ho) hn'
/-- what the written part says of an error's class, at C, whose __init__ stands at fI; tl: what is above it -/
structure ErrCls (K : Frag) (C fI : Addr) : Prop where
  cls : ∃ nm q N bs tl sn sub ab col dd k0 k1 k2 k3 k5 newId B initId bmB, K.lookup C = some (excClassObj nm q C N bs tl true sn sub ab col dd k0 k1 k2 k3 k5 newId) ∧ ExcBaseFacts B newId initId bmB ∧
    (∀ X : String, tl.contains (.type X) = bmB.contains (.type X)) ∧ (∀ self : Value, refuseLoop self "__setattr__" tl = pure ()) ∧ tl.contains (.type "object") = true
  sa : findIn K (.ref C) "__setattr__" = some (some (.builtin "object.__setattr__"))
  iC : findIn K (.ref C) "__init__" = some (some (.ref fI))
  tC : typeIn K (.ref fI) = some (.type "function")
  kC : keepIn K (.ref C) = true
theorem one_size (v : Value) : [v].length ≤ sizeLine := by
  rw [sizeLine_eq]
  exact (by decide : 1 ≤ 16777216)
theorem two_size (v u : Value) : [v, u].length ≤ sizeLine := by
  rw [sizeLine_eq]
  exact (by decide : 2 ≤ 16777216)
theorem ldC {M : Model} {s : Shared} {name : Str} {scope : Scope} {L a : Addr} {cd : Value} {m : Str → Option Value} {x : Str} {pos : Pos} {v : Value} {Q : Value → Shared → Prop} {A : Around} {E : Value → Shared → Prop} (hn : s.heap.Ns L m) (hv : m x = some v) (h : Q v s)
    (hk : scope.kind = .function := by rfl) (hl : (envOfC name scope L a cd).kindOf x = some .local := by rfl) (hd : (x == ("__debug__" : Str)) = false := by decide) :
    wpAny M A (eval (.Name x pos) (envOfC name scope L a cd)) Q E s := wpAny_Name (wpAny_loadName_local hk hl hn hv h) hd
/-- what __init__ leaves of a fresh exception at x -/
structure InitEnd (h h' : Heap) (x C dx t1 : Addr) (m : Str → Option Value) : Prop where
  keep : ∀ b o, b ≠ x → h.get? b = some o → h'.get? b = some o
  obj : h'.get? x = some { cls := .ref C, dict := some dx, data := .fields #[.ref t1, .none, .none, .none, .bool false, .none] }
  dbig : h.objs.size ≤ dx
  dne : dx ≠ x
  ns : h'.Ns1 dx m
/-- a made error -/
structure OwnMade (h h' : Heap) (e C d : Addr) (m : Str → Option Value) : Prop where
  keep : ∀ b o, h.get? b = some o → h'.get? b = some o
  new : h.objs.size ≤ e
  obj : ∃ oe vs, h'.get? e = some oe ∧ oe.cls = .ref C ∧ oe.dict = some d ∧ oe.data = .fields vs ∧ vs[1]? = some .none ∧ vs[2]? = some .none
  dbig : h.objs.size ≤ d
  dne : d ≠ e
  ns : h'.Ns1 d m
/-- what a call of the class comes to: its __init__, on a fresh exception -/
def InitRuns (prog : Program) (w : World) (K : Frag) (C fI : Addr) (args : List Value) (m : Str → Option Value) : Prop :=
  ∀ {A : Around} {R : Result → Shared → Prop} {s : Shared} {x t0 : Addr}, K.In s.heap → s.heap.NoLimit → s.heap.get? x = some (excO C t0) → K.lookup x = none → A.depth < recursionLimit →
    (∀ h' tk dx, InitEnd s.heap h' x C dx t0 m → R (.ok (.ret .none)) { s with heap := h', toks := tk }) →
    codeAny (model prog w) A (.call (.ref fI) ⟨.ref x :: args, []⟩) R s
theorem err_made {prog : Program} {w : World} {A : Around} {R : Result → Shared → Prop} {s : Shared} {K : Frag} {C fI : Addr} {args : List Value} {m : Str → Option Value} (T : ErrCls K C fI) (run : InitRuns prog w K C fI args m) (sz : args.length ≤ sizeLine)
    (X : K.In s.heap) (hlim : s.heap.NoLimit) (hroom : A.depth + 1 < recursionLimit) (hq : ∀ h' tk e d, OwnMade s.heap h' e C d m → R (.ok (.ret (.ref e))) { s with heap := h', toks := tk }) :
    codeAny (model prog w) A (.call (.ref C) ⟨args, []⟩) R s := by
  obtain ⟨nm, q, N, bs, bm, sn, sub, ab, col, dd, k0, k1, k2, k3, k5, newId, B, initId, bmB, hC, FB, hcon, _, _⟩ := T.cls
  obtain ⟨hp, g, dr, tk, os⟩ := s
  have k : ∀ b o, hp.get? b = some o → ((hp.push (kdv_tup args)).push (excO C hp.objs.size)).get? b = some o := fun b o e => Heap.get?_push_of_some _ (Heap.get?_push_of_some _ e)
  have hget : ((hp.push (kdv_tup args)).push (excO C hp.objs.size)).get? (hp.objs.size + 1) = some (excO C hp.objs.size) := by heap_get
  have hnx : K.lookup (hp.objs.size + 1) = none := by
    cases e : K.lookup (hp.objs.size + 1) with
    | none => rfl
    | some o =>
      have z : hp.get? (hp.objs.size + 1) = some o := X _ _ e
      exact absurd (Nat.lt_of_succ_lt (Heap.lt_size z)) (Nat.lt_irrefl _)
  refine call_own FB hcon (X _ _ hC) (looks_findIn X T.iC) (fun self => bind_fn X self T.tC) sz ?_
  refine run (s := ⟨(hp.push (kdv_tup args)).push (excO C hp.objs.size), g, dr, tk, os⟩) (X.keeps k) (hlim.keeps k) hget hnx ?_ fun h' tk' dx ⟨k', hx, dn, dne, hns⟩ => ?_
  · show A.depth + 1 < recursionLimit
    exact hroom
  · have old : ∀ b o, hp.get? b = some o → h'.get? b = some o := fun b o e => k' b o (Nat.ne_of_lt (Nat.lt_succ_of_lt (Heap.lt_size e))) (k b o e)
    have z : hp.objs.size + 1 + 1 ≤ dx := by
      first
        | (simpa only [Heap.size_push] using dn)
        | exact dn
        | (have q := dn; rw [Heap.size_push, Heap.size_push] at q; exact q)
    exact ⟨rfl, hq h' tk' (hp.objs.size + 1) dx ⟨old, Nat.le_succ _, ⟨_, _, hx, rfl, rfl, rfl, rfl, rfl⟩, Nat.le_trans (Nat.le_trans (Nat.le_succ _) (Nat.le_succ _)) z, dne, hns⟩⟩

/-! #### __init__(self, at): self.at = at -/
def iA_at (p1 p2 : Pos) : Arguments := { posonlyargs := [], args := [{ arg := "self", annotation := none, pos := p1 }, { arg := "at", annotation := none, pos := p2 }], vararg := none, kwonlyargs := [], kw_defaults := [], kwarg := none, defaults := [] }
def iB_at (q1 q2 q3 q4 : Pos) : List Stmt := [.Assign [.Attribute (.Name "self" q1) "at" q2] (.Name "at" q3) q4]
def iS_at : Scope := { kind := .function, names := [(PySem.Str.ofString "self", .local), (PySem.Str.ofString "at", .local)], isGenerator := false, isCoroutine := false, more := [] }
def Fn_at (K : Frag) (fI : Addr) (q : Str) : Prop := ∃ (oc : Value) (od : Option Addr) (doc pm : Value) (an : Option Addr) (cdv ct : Value) (osl : Array (Option Value)) (p1 p2 q1 q2 q3 q4 : Pos),
    K.lookup fI = some ⟨oc, od, .func (fnOf "__init__" q (iA_at p1 p2) (iB_at q1 q2 q3 q4) iS_at .none .none doc pm an cdv ct), osl⟩ ∧ codeIn K cdv q = true
theorem runs_at {prog : Program} {w : World} {K : Frag} {C fI : Addr} {q : Str} (T : ErrCls K C fI) (fn : Fn_at K fI q) (noN : findIn K (.ref C) "at" = some none) (v : Value) :
    InitRuns prog w K C fI [v] (fun y => if y = "at" then some v else none) := by
  intro A R s x t0 X hlim hx hnx hroom hq
  obtain ⟨oc, od, doc, pm, an, cdv, ct, osl, p1, p2, q1, q2, q3, q4, ho, hcd⟩ := fn
  obtain ⟨nm, qn, N, bs, bm, sn, sub, ab, col, dd, k0, k1, k2, k3, k5, newId, B, initId, bmB, hC, _, _, hpass, hobj⟩ := T.cls
  have hcl : clsIn K C = some { name := nm, bases := bs, mro := .ref C :: bm, ns := N, qualname := qn, hasDict := true, slotNames := sn, subclasses := sub, abstract := ab, collection := col, hasDel := false } := by unfold clsIn; rw [hC] <;> rfl
  refine Att.call_fn (binds := [("self", .ref x), ("at", v)]) X hlim ho hcd hroom (BindsTo.of_eq (by first | rfl | with_unfolding_all rfl)) (by first | rfl | decide | with_unfolding_all rfl) (fun s₁ IC => ?_) rfl rfl rfl
  obtain ⟨h₁, tk₁, rfl⟩ := IC.toInCall.same
  have k : ∀ b o, s.heap.get? b = some o → h₁.get? b = some o := IC.toInCall.keep
  have hn := IC.toInCall.ns
  have X₁ : K.In h₁ := X.keeps k
  have hx₁ := k _ _ hx
  show wpAny _ _ (execs _ _) _ _ _
  refine wpAny_execs_cons (plainObj_wpAny_Assign_Attribute ?_)
  refine ldC (v := v) hn (by first | rfl | with_unfolding_all rfl | kernel_rfl) (ldC (v := .ref x) hn (by first | rfl | with_unfolding_all rfl | kernel_rfl) ?_)
  refine set_plain X₁ (ox := excO C t0) (od := none) ⟨hx₁, rfl, rfl, trivial⟩ T.sa ?_
  refine first_store X₁ hx₁ hcl (by show refuseLoop _ _ (Value.ref C :: bm) = _; rw [refuseLoop_ref]; exact hpass _) (by unfold mroIn; rw [hcl, Option.bind_some]; show (if List.isEmpty (Value.ref C :: bm) = true then _ else some ((Value.ref C :: bm).contains (.type "object"))) = _; rw [if_neg (by exact Bool.false_ne_true), List.contains_cons, hobj, Bool.or_true]) rfl noN (fun h₃ tk₃ dx k₃ dn dne hx₃ hn₃ => ?_)
  show wpAny _ _ (execs _ _) _ _ _
  have z : s.heap.objs.size < h₁.objs.size := hn.lt
  exact wpAny_execs_nil (hq h₃ tk₃ dx ⟨fun b o hb e => k₃ b o hb (k b o e), hx₃, Nat.le_of_lt (Nat.lt_of_lt_of_le z dn), dne, hn₃⟩)

/-! #### __init__(self, top): self.top = top -/
def iA_top (p1 p2 : Pos) : Arguments := { posonlyargs := [], args := [{ arg := "self", annotation := none, pos := p1 }, { arg := "top", annotation := none, pos := p2 }], vararg := none, kwonlyargs := [], kw_defaults := [], kwarg := none, defaults := [] }
def iB_top (q1 q2 q3 q4 : Pos) : List Stmt := [.Assign [.Attribute (.Name "self" q1) "top" q2] (.Name "top" q3) q4]
def iS_top : Scope := { kind := .function, names := [(PySem.Str.ofString "self", .local), (PySem.Str.ofString "top", .local)], isGenerator := false, isCoroutine := false, more := [] }
def Fn_top (K : Frag) (fI : Addr) (q : Str) : Prop := ∃ (oc : Value) (od : Option Addr) (doc pm : Value) (an : Option Addr) (cdv ct : Value) (osl : Array (Option Value)) (p1 p2 q1 q2 q3 q4 : Pos),
    K.lookup fI = some ⟨oc, od, .func (fnOf "__init__" q (iA_top p1 p2) (iB_top q1 q2 q3 q4) iS_top .none .none doc pm an cdv ct), osl⟩ ∧ codeIn K cdv q = true
theorem runs_top {prog : Program} {w : World} {K : Frag} {C fI : Addr} {q : Str} (T : ErrCls K C fI) (fn : Fn_top K fI q) (noN : findIn K (.ref C) "top" = some none) (v : Value) :
    InitRuns prog w K C fI [v] (fun y => if y = "top" then some v else none) := by
  intro A R s x t0 X hlim hx hnx hroom hq
  obtain ⟨oc, od, doc, pm, an, cdv, ct, osl, p1, p2, q1, q2, q3, q4, ho, hcd⟩ := fn
  obtain ⟨nm, qn, N, bs, bm, sn, sub, ab, col, dd, k0, k1, k2, k3, k5, newId, B, initId, bmB, hC, _, _, hpass, hobj⟩ := T.cls
  have hcl : clsIn K C = some { name := nm, bases := bs, mro := .ref C :: bm, ns := N, qualname := qn, hasDict := true, slotNames := sn, subclasses := sub, abstract := ab, collection := col, hasDel := false } := by unfold clsIn; rw [hC] <;> rfl
  refine Att.call_fn (binds := [("self", .ref x), ("top", v)]) X hlim ho hcd hroom (BindsTo.of_eq (by first | rfl | with_unfolding_all rfl)) (by first | rfl | decide | with_unfolding_all rfl) (fun s₁ IC => ?_) rfl rfl rfl
  obtain ⟨h₁, tk₁, rfl⟩ := IC.toInCall.same
  have k : ∀ b o, s.heap.get? b = some o → h₁.get? b = some o := IC.toInCall.keep
  have hn := IC.toInCall.ns
  have X₁ : K.In h₁ := X.keeps k
  have hx₁ := k _ _ hx
  show wpAny _ _ (execs _ _) _ _ _
  refine wpAny_execs_cons (plainObj_wpAny_Assign_Attribute ?_)
  refine ldC (v := v) hn (by first | rfl | with_unfolding_all rfl | kernel_rfl) (ldC (v := .ref x) hn (by first | rfl | with_unfolding_all rfl | kernel_rfl) ?_)
  refine set_plain X₁ (ox := excO C t0) (od := none) ⟨hx₁, rfl, rfl, trivial⟩ T.sa ?_
  refine first_store X₁ hx₁ hcl (by show refuseLoop _ _ (Value.ref C :: bm) = _; rw [refuseLoop_ref]; exact hpass _) (by unfold mroIn; rw [hcl, Option.bind_some]; show (if List.isEmpty (Value.ref C :: bm) = true then _ else some ((Value.ref C :: bm).contains (.type "object"))) = _; rw [if_neg (by exact Bool.false_ne_true), List.contains_cons, hobj, Bool.or_true]) rfl noN (fun h₃ tk₃ dx k₃ dn dne hx₃ hn₃ => ?_)
  show wpAny _ _ (execs _ _) _ _ _
  have z : s.heap.objs.size < h₁.objs.size := hn.lt
  exact wpAny_execs_nil (hq h₃ tk₃ dx ⟨fun b o hb e => k₃ b o hb (k b o e), hx₃, Nat.le_of_lt (Nat.lt_of_lt_of_le z dn), dne, hn₃⟩)

/-! #### __init__(self, thing): self.thing = thing -/
def iA_thing (p1 p2 : Pos) : Arguments := { posonlyargs := [], args := [{ arg := "self", annotation := none, pos := p1 }, { arg := "thing", annotation := none, pos := p2 }], vararg := none, kwonlyargs := [], kw_defaults := [], kwarg := none, defaults := [] }
def iB_thing (q1 q2 q3 q4 : Pos) : List Stmt := [.Assign [.Attribute (.Name "self" q1) "thing" q2] (.Name "thing" q3) q4]
def iS_thing : Scope := { kind := .function, names := [(PySem.Str.ofString "self", .local), (PySem.Str.ofString "thing", .local)], isGenerator := false, isCoroutine := false, more := [] }
def Fn_thing (K : Frag) (fI : Addr) (q : Str) : Prop := ∃ (oc : Value) (od : Option Addr) (doc pm : Value) (an : Option Addr) (cdv ct : Value) (osl : Array (Option Value)) (p1 p2 q1 q2 q3 q4 : Pos),
    K.lookup fI = some ⟨oc, od, .func (fnOf "__init__" q (iA_thing p1 p2) (iB_thing q1 q2 q3 q4) iS_thing .none .none doc pm an cdv ct), osl⟩ ∧ codeIn K cdv q = true
theorem runs_thing {prog : Program} {w : World} {K : Frag} {C fI : Addr} {q : Str} (T : ErrCls K C fI) (fn : Fn_thing K fI q) (noN : findIn K (.ref C) "thing" = some none) (v : Value) :
    InitRuns prog w K C fI [v] (fun y => if y = "thing" then some v else none) := by
  intro A R s x t0 X hlim hx hnx hroom hq
  obtain ⟨oc, od, doc, pm, an, cdv, ct, osl, p1, p2, q1, q2, q3, q4, ho, hcd⟩ := fn
  obtain ⟨nm, qn, N, bs, bm, sn, sub, ab, col, dd, k0, k1, k2, k3, k5, newId, B, initId, bmB, hC, _, _, hpass, hobj⟩ := T.cls
  have hcl : clsIn K C = some { name := nm, bases := bs, mro := .ref C :: bm, ns := N, qualname := qn, hasDict := true, slotNames := sn, subclasses := sub, abstract := ab, collection := col, hasDel := false } := by unfold clsIn; rw [hC] <;> rfl
  refine Att.call_fn (binds := [("self", .ref x), ("thing", v)]) X hlim ho hcd hroom (BindsTo.of_eq (by first | rfl | with_unfolding_all rfl)) (by first | rfl | decide | with_unfolding_all rfl) (fun s₁ IC => ?_) rfl rfl rfl
  obtain ⟨h₁, tk₁, rfl⟩ := IC.toInCall.same
  have k : ∀ b o, s.heap.get? b = some o → h₁.get? b = some o := IC.toInCall.keep
  have hn := IC.toInCall.ns
  have X₁ : K.In h₁ := X.keeps k
  have hx₁ := k _ _ hx
  show wpAny _ _ (execs _ _) _ _ _
  refine wpAny_execs_cons (plainObj_wpAny_Assign_Attribute ?_)
  refine ldC (v := v) hn (by first | rfl | with_unfolding_all rfl | kernel_rfl) (ldC (v := .ref x) hn (by first | rfl | with_unfolding_all rfl | kernel_rfl) ?_)
  refine set_plain X₁ (ox := excO C t0) (od := none) ⟨hx₁, rfl, rfl, trivial⟩ T.sa ?_
  refine first_store X₁ hx₁ hcl (by show refuseLoop _ _ (Value.ref C :: bm) = _; rw [refuseLoop_ref]; exact hpass _) (by unfold mroIn; rw [hcl, Option.bind_some]; show (if List.isEmpty (Value.ref C :: bm) = true then _ else some ((Value.ref C :: bm).contains (.type "object"))) = _; rw [if_neg (by exact Bool.false_ne_true), List.contains_cons, hobj, Bool.or_true]) rfl noN (fun h₃ tk₃ dx k₃ dn dne hx₃ hn₃ => ?_)
  show wpAny _ _ (execs _ _) _ _ _
  have z : s.heap.objs.size < h₁.objs.size := hn.lt
  exact wpAny_execs_nil (hq h₃ tk₃ dx ⟨fun b o hb e => k₃ b o hb (k b o e), hx₃, Nat.le_of_lt (Nat.lt_of_lt_of_le z dn), dne, hn₃⟩)

/-! #### __init__(self, low, high) -/
def iA_lh (p1 p2 p3 : Pos) : Arguments := { posonlyargs := [], args := [{ arg := "self", annotation := none, pos := p1 }, { arg := "low", annotation := none, pos := p2 }, { arg := "high", annotation := none, pos := p3 }], vararg := none, kwonlyargs := [], kw_defaults := [], kwarg := none, defaults := [] }
def iB_lh (q1 q2 q3 q4 r1 r2 r3 r4 : Pos) : List Stmt := [.Assign [.Attribute (.Name "self" q1) "low" q2] (.Name "low" q3) q4, .Assign [.Attribute (.Name "self" r1) "high" r2] (.Name "high" r3) r4]
def iS_lh : Scope := { kind := .function, names := [(PySem.Str.ofString "self", .local), (PySem.Str.ofString "low", .local), (PySem.Str.ofString "high", .local)], isGenerator := false, isCoroutine := false, more := [] }
def Fn_lh (K : Frag) (fI : Addr) (q : Str) : Prop := ∃ (oc : Value) (od : Option Addr) (doc pm : Value) (an : Option Addr) (cdv ct : Value) (osl : Array (Option Value)) (p1 p2 p3 q1 q2 q3 q4 r1 r2 r3 r4 : Pos),
    K.lookup fI = some ⟨oc, od, .func (fnOf "__init__" q (iA_lh p1 p2 p3) (iB_lh q1 q2 q3 q4 r1 r2 r3 r4) iS_lh .none .none doc pm an cdv ct), osl⟩ ∧ codeIn K cdv q = true
theorem runs_lh {prog : Program} {w : World} {K : Frag} {C fI : Addr} {q : Str} (T : ErrCls K C fI) (fn : Fn_lh K fI q) (no1 : findIn K (.ref C) "low" = some none) (no2 : findIn K (.ref C) "high" = some none) (v u : Value) :
    InitRuns prog w K C fI [v, u] (fun y => if y = "high" then some u else (if y = "low" then some v else none)) := by
  intro A R s x t0 X hlim hx hnx hroom hq
  obtain ⟨oc, od, doc, pm, an, cdv, ct, osl, p1, p2, p3, q1, q2, q3, q4, r1, r2, r3, r4, ho, hcd⟩ := fn
  obtain ⟨nm, qn, N, bs, bm, sn, sub, ab, col, dd, k0, k1, k2, k3, k5, newId, B, initId, bmB, hC, _, _, hpass, hobj⟩ := T.cls
  have hcl : clsIn K C = some { name := nm, bases := bs, mro := .ref C :: bm, ns := N, qualname := qn, hasDict := true, slotNames := sn, subclasses := sub, abstract := ab, collection := col, hasDel := false } := by unfold clsIn; rw [hC] <;> rfl
  have hps : refuseLoop (.ref x) "__setattr__" (Value.ref C :: bm) = pure () := by rw [refuseLoop_ref]; exact hpass _
  have hob : mroIn K C (.type "object") = some true := by unfold mroIn; rw [hcl, Option.bind_some]; show (if List.isEmpty (Value.ref C :: bm) = true then _ else some ((Value.ref C :: bm).contains (.type "object"))) = _; rw [if_neg (by exact Bool.false_ne_true), List.contains_cons, hobj, Bool.or_true]
  refine Att.call_fn (binds := [("self", .ref x), ("low", v), ("high", u)]) X hlim ho hcd hroom (BindsTo.of_eq (by first | rfl | with_unfolding_all rfl)) (by first | rfl | decide | with_unfolding_all rfl) (fun s₁ IC => ?_) rfl rfl rfl
  obtain ⟨h₁, tk₁, rfl⟩ := IC.toInCall.same
  have k : ∀ b o, s.heap.get? b = some o → h₁.get? b = some o := IC.toInCall.keep
  have hn := IC.toInCall.ns
  have X₁ : K.In h₁ := X.keeps k
  have hx₁ := k _ _ hx
  show wpAny _ _ (execs _ _) _ _ _
  refine wpAny_execs_cons (plainObj_wpAny_Assign_Attribute ?_)
  refine ldC (v := v) hn (by first | rfl | with_unfolding_all rfl | kernel_rfl) (ldC (v := .ref x) hn (by first | rfl | with_unfolding_all rfl | kernel_rfl) ?_)
  refine set_plain X₁ (ox := excO C t0) (od := none) ⟨hx₁, rfl, rfl, trivial⟩ T.sa ?_
  refine first_store X₁ hx₁ hcl hps hob rfl no1 (fun h₃ tk₃ dx k₃ dn dne hx₃ hn₃ => ?_)
  have hxL : s.heap.objs.size ≠ x := Nat.ne_of_gt (Heap.lt_size hx)
  have X₃ : K.In h₃ := fun a o e => k₃ a o (fun z => by rw [z, hnx] at e; cases e) (X₁ a o e)
  obtain ⟨oL, es, ep, hoL, rL⟩ := id hn
  have hn3 : h₃.Ns s.heap.objs.size _ := ⟨oL, es, ep, k₃ _ _ hxL hoL, rL⟩
  show wpAny _ _ (execs _ _) _ _ _
  refine wpAny_execs_cons (plainObj_wpAny_Assign_Attribute ?_)
  refine ldC (v := u) hn3 (by first | rfl | with_unfolding_all rfl | kernel_rfl) (ldC (v := .ref x) hn3 (by first | rfl | with_unfolding_all rfl | kernel_rfl) ?_)
  obtain ⟨oD, hoD, _⟩ := L2.lookIn_ns hn₃
  refine set_plain X₃ (ox := { cls := .ref C, dict := some dx, data := .fields #[.ref t0, .none, .none, .none, .bool false, .none] }) (od := some oD) ⟨hx₃, rfl, rfl, hoD⟩ T.sa ?_
  refine next_store X₃ hx₃ hcl hps hob rfl no2 hn₃ (Within.cons "low" v Within.nil) (by decide) (fun h₄ tk₄ k₄ hn₄ => ?_)
  show wpAny _ _ (execs _ _) _ _ _
  have z : s.heap.objs.size < h₁.objs.size := hn.lt
  have old : ∀ b o, b ≠ x → s.heap.get? b = some o → h₄.get? b = some o := fun b o hb e => by
    have lt : b < h₁.objs.size := Heap.lt_size (k b o e)
    exact k₄ b o (fun q => by rw [q] at lt; exact absurd dn (Nat.not_le.mpr lt)) (k₃ b o hb (k b o e))
  exact wpAny_execs_nil (hq h₄ tk₄ dx ⟨old, k₄ x _ (Ne.symm dne) hx₃, Nat.le_of_lt (Nat.lt_of_lt_of_le z dn), dne, hn₄⟩)
end ErV
end PySem

namespace PySem
namespace NoBX
open PySem.Spec PySem.W PySem.Calls PyProof.Rows
/-! ### isinstance of a caught error that has a dict of its own -/
section
variable {P : Program} {w : World} {A : Around} {E : Value → Shared → Prop} {sh : Shared} {K : Frag} {e D : Addr} {oe : Obj} {od : Option Obj}
theorem found_first {name : Str} {at' gt : Value} (c : (clsIn K D).isSome = true) (f : findIn K (.ref D) name = some (some at')) (g : specialIn K at' "__get__" = some (some gt)) (t : takesIn K at' = some true) : findObj K D od name = some (.bind gt at') := by
  obtain ⟨cd, h⟩ := Option.isSome_iff_exists.mp c
  unfold findObj
  rw [h, Option.bind_some, f, Option.bind_some]
  simp [g, t]
theorem class_told {Q : Option Value → Shared → Prop} (C : L2.ExcC K D) (kin : K.In sh.heap) (I : InstAt sh.heap e oe D od) (q : Q (some (.ref D)) { sh with toks := sh.toks + 1 }) : wpAny (model P w) A (getAttr? (.ref e) "__class__") Q E sh := by
  have ff : findObj K D od "__class__" = some (.bind (.builtin "getset_descriptor.__get__") (.builtin "object.__class__")) := found_first (by obtain ⟨cd, h, _⟩ := any_some C.hd; rw [h]; rfl) C.ha C.hn C.ht
  obtain ⟨hh, gg, dn, tt, oo⟩ := sh
  have tyE := I.type (M := model P w)
  have askG := looks_findIn (M := model P w) kin C.hg
  have askK := looks_findIn (M := model P w) kin C.hk
  have askF := looks_find (M := model P w) kin I ff
  have under : Looks (model P w) hh (isInstance (.ref e) (.type "BaseException")) true := tyE.andThen (looks_subIn kin C.hs)
  have b0 : (false && onTheHeap (Value.builtin "BaseException.__getattribute__")) = false := rfl
  have b2 : (Value.builtin "BaseException.__getattribute__" == Value.builtin "object.__getattribute__") = false := by decide +kernel
  have b1 : (onTheHeap (Value.ref D) && Value.builtin "BaseException.__getattribute__" == Value.builtin "object.__getattribute__") = false := by rw [b2]; rfl
  unfold getAttr? getAttrBy? getAttrBy
  refine wpAny_bind (wpAny_mkText (wpAny_bind (wpAny_attempt (wpAny_holding (wpAny_bind (tyE.at (wpAny_bind (askG.at ?_))))))))
  show wpAny _ _ (if (onTheHeap (Value.ref D) && Value.builtin "BaseException.__getattribute__" == Value.builtin "object.__getattribute__") = true then _ else _) _ _ _
  rw [b1, if_neg Bool.false_ne_true]
  unfold getAttrByItsOwn hookBefore
  refine wpAny_bind ?_
  rw [if_pos (show onTheHeap (Value.ref D) = true from rfl)]
  refine askK.at ?_
  refine wpAny_bind (wpAny_attempt (wpAny_holding ?_))
  unfold callGetattribute
  rw [b0, if_neg Bool.false_ne_true]
  unfold boundAndCalled
  rw [PySem.F.excAttr_ValueError.ga.bind (.ref e)]
  refine wpAny_bind (wpAny_pure ?_)
  show wpAny _ _ (call (.builtin "BaseException.__getattribute__") [.ref e, .str "__class__" tt]) _ _ _
  refine wpAny_call (codeAny_call_builtin PySem.F.excAttr_ValueError.ga.plain PySem.F.entry_bexc_ga ?_)
  refine @check_slot (model P w) _ _ ⟨hh, gg, dn, tt + 1, oo⟩ "BaseException.__getattribute__" "BaseException" "__getattribute__" (.ref e) [.str "__class__" tt] [] _ (by decide +kernel) (by decide +kernel) under (PySem.F.args_bexc_ga (.ref e) (.str "__class__" tt)) ?_
  unfold Builtin.«object.__getattribute__»
  refine wpAny_bind (wpAny_of_eq (a := ((Value.ref e : Value), [Value.str "__class__" tt])) (by first | rfl | (simp only [slotArgs]; rfl)) ?_)
  refine wpAny_bind (wpAny_pure (wpAny_bind (tyE.at (wpAny_bind (askF.at ?_)))))
  show wpAny _ _ (holding [Value.builtin "object.__class__"] (call (.builtin "getset_descriptor.__get__") [.builtin "object.__class__", .ref e, .ref D]) >>= ret) _ _ _
  refine wpAny_bind (wpAny_holding (wpAny_call (class_get (s := ⟨hh, gg, dn, tt + 1, oo⟩) (ox := oe) (od := od) kin I C.hm ?_)))
  refine wpAny_pure ?_
  show wpAny _ _ (handedOut (.ref D)) _ _ _
  rw [handedOut_of (v := .ref D) rfl]
  first
    | exact wpAny_pure (wpAny_pure q)
    | exact wpAny_pure q
    | exact wpAny_pure (wpAny_bind (wpAny_pure (wpAny_pure q)))
theorem kit_err (C : L2.ExcC K D) : KitX K (.ref e) (.ref D) (fun h => ∃ o, InstAt h e oe D (some o)) where
  ty := fun _ _ _ ⟨_, I⟩ => I.type
  it := fun _ _ kin _ => by
    obtain ⟨cd, h, _⟩ := any_some C.hd
    unfold clsIn at h
    split at h
    · rename_i ho
      intro A' Q' E' s' k q
      unfold isType loadHead
      exact wpAny_bind (wpAny_loadPart (k _ _ (kin _ _ ho)) (wpAny_pure q))
    · cases h
  ne := fun h tp dd its n sl kin htp => by
    obtain ⟨cd, hc, _⟩ := any_some C.hd
    refine Bool.eq_false_iff.mpr fun q => ?_
    have z : D = tp := Value.ref.inj (beq_iff_eq.mp q)
    subst z
    unfold clsIn at hc
    split at hc
    · rename_i ho
      have z := (kin _ _ ho).symm.trans htp
      cases z
    · cases hc
  ca := fun kin ⟨_, I⟩ k => class_told C kin I k
end
end NoBX
end PySem
namespace L2
open PySem PySem.Spec PyProof.Rows
/-- isinstance(e, c), isinstance(e, (c1, ..)): e the error that the suite holds, of the class D -/
def rIsErr (K : PySem.W.Frag) (D a : Addr) (cls : Value) (d : Option Addr) : List V → Hp → VK → Prop := fun xs H Q => cls = .ref D ∧ ∃ (dd : Addr) (l : List (Str × V)), d = some dd ∧ H dd = some (.xd l) ∧
  ((∃ (c : V) (cv : Value) (b : Bool), xs = [.ref a, c] ∧ ClsV c cv ∧ PySem.W.kitOne K (.ref D) cv = some b ∧ Q (.bl b) H) ∨
    ∃ (tp : Addr) (cs : List V) (us : List Value) (b : Bool), xs = [.ref a, .ref tp] ∧ H tp = some (.tup cs) ∧ Paired ClsV cs us ∧ PySem.W.kitAny K (.ref D) us = some b ∧ Q (.bl b) H)
theorem call_isErr {X : Cx} {a D : Addr} {cls : Value} {d : Option Addr} {oe : Obj} {pn : List (Addr × Obj)} (C : ExcC X.K D) (hz : Zc cls d oe) (hf : ∃ vs, oe.data = .fields vs) : CallR (X.suite a ((a, oe) :: pn)) (.builtin "isinstance") (rIsErr X.K D a cls d) := by
  rintro pins s σ H xs us Q I r ⟨rfl, dd, l, rfl, hd, h⟩
  obtain ⟨at', _⟩ := I.pin (a, oe) (List.mem_append.mpr (.inl List.mem_cons_self))
  obtain ⟨vs, hv⟩ := hf
  have hx : ObjOk X.prog X.w H s.heap dd (.xd l) := I.hok dd _ hd
  obtain ⟨mA, hns, _⟩ := hx
  obtain ⟨od, ho, _⟩ := lookIn_ns hns
  have J : PySem.W.InstAt s.heap a oe D (some od) := ⟨at', hz.1, by unfold PySem.W.notCls; rw [hv] <;> rfl, by rw [hz.2]; exact ho⟩
  rcases h with ⟨c, cv, b, rfl, kc, e, q⟩ | ⟨tp, cs, ws, b, rfl, hT, kc, e, q⟩
  · obtain ⟨u1, u2, rfl, r1, r2⟩ := vals2 r
    cases (show u1 = Value.ref a from r1)
    have ec := kc.eq r2
    subst ec
    exact PySem.W.kia_one (NoBX.kit_err C) I.kIn ⟨_, J⟩ e (fun z => nomatch z) fun tk => ⟨.bl b, H, I.tok tk, rfl, q⟩
  · obtain ⟨u1, u2, rfl, r1, r2⟩ := vals2 r
    cases (show u1 = Value.ref a from r1)
    cases (show u2 = Value.ref tp from r2)
    obtain ⟨_, its, rv, o, h1, h2, n, h3⟩ := (show ObjOk X.prog X.w H s.heap tp (.tup cs) from I.hok tp _ hT)
    have e3 := ClsV.all kc rv
    subst e3
    obtain ⟨oc, odd, dt, sl⟩ := o
    simp only at h2 h3
    subst h2 h3
    exact PySem.W.kia_tup (NoBX.kit_err C) I.kIn ⟨_, J⟩ h1 e (fun z => nomatch z) fun tk => ⟨.bl b, H, I.tok tk, rfl, q⟩
end L2

namespace L2
open PySem PySem.Spec PyProof.Rows
/-! ### errors as values: made, asked, their fields read -/
/-- an error that stands at e -/
def ErrO (oe : Obj) (e : Addr) : HO := .ext fun h => h.get? e = some oe
theorem errO_ok {P : Program} {w : World} {H : Hp} {h : Heap} {e : Addr} {oe : Obj} (q : h.get? e = some oe) : ObjOk P w H h e (ErrO oe e) := ⟨q, ⟨oe, q⟩, fun _ _ p k => k oe p⟩
theorem errO_at {P : Program} {w : World} {H : Hp} {h : Heap} {e : Addr} {oe : Obj} (hok : HOk P w H h) (q : H e = some (ErrO oe e)) : h.get? e = some oe := by
  obtain ⟨z, _, _⟩ := hok e _ q
  exact z
/-- an error's object: of the class C, its fields at d -/
structure ErrOb (oe : Obj) (C d : Addr) : Prop where
  cls : oe.cls = .ref C
  dict : oe.dict = some d
  dat : ∃ vs, oe.data = .fields vs
/-- an error of the class C stands at e, with its fields at d -/
def ErrAt (pn : List (Addr × Obj)) (H : Hp) (e C d : Addr) : Prop := ∃ oe, (H e = some (ErrO oe e) ∨ (e, oe) ∈ pn) ∧ ErrOb oe C d
/-- its fields -/
def ErrV (pn : List (Addr × Obj)) (H : Hp) (e C : Addr) (l : List (Str × V)) : Prop := ∃ d, ErrAt pn H e C d ∧ H d = some (.xd l)
theorem ErrV.any {pn : List (Addr × Obj)} {H : Hp} {e C : Addr} {l : List (Str × V)} (x : ErrV [] H e C l) : ErrV pn H e C l := by
  obtain ⟨d, ⟨oe, h, ob⟩, hd⟩ := x
  rcases h with h | h
  · exact ⟨d, ⟨oe, .inl h, ob⟩, hd⟩
  · cases h
theorem ErrV.keep {pn : List (Addr × Obj)} {H H' : Hp} {e C : Addr} {l : List (Str × V)} (x : ErrV pn H e C l) (k : ∀ b o, H b = some o → (∃ φ, o = .ext φ) ∨ (∃ l, o = .xd l) → H' b = some o) : ErrV pn H' e C l := by
  obtain ⟨d, ⟨oe, h, ob⟩, hd⟩ := x
  refine ⟨d, ⟨oe, h.imp (fun z => k _ _ z (.inl ⟨_, rfl⟩)) id, ob⟩, k _ _ hd (.inr ⟨_, rfl⟩)⟩
section
variable {X : Cx}
theorem err_inst {pins : List (Addr × Obj)} {σ : St} {H : Hp} {s : Shared} {e C : Addr} {l : List (Str × V)} (I : Inv X pins σ H s) (x : ErrV X.pn H e C l) :
    ∃ oe d od mA, PySem.W.InstAt s.heap e oe C (some od) ∧ H d = some (.xd l) ∧ s.heap.Ns1 d mA ∧ (∀ f, RelO (l.lookup f) (mA f)) ∧ s.heap.get? d = some od ∧ ∀ name, PySem.W.lookIn name od = some (mA name) := by
  obtain ⟨d, ⟨oe, h, ob⟩, hd⟩ := x
  have he : s.heap.get? e = some oe := by
    rcases h with h | h
    · exact errO_at I.hok h
    · exact (I.pin (e, oe) (List.mem_append_left _ h)).1
  have hx : ObjOk X.prog X.w H s.heap d (.xd l) := I.hok d _ hd
  obtain ⟨mA, hns, hr⟩ := hx
  obtain ⟨od, ho, hl⟩ := lookIn_ns hns
  obtain ⟨vs, hv⟩ := ob.dat
  exact ⟨oe, d, od, mA, ⟨he, ob.cls, by unfold PySem.W.notCls; rw [hv] <;> rfl, by rw [ob.dict]; exact ho⟩, hd, hns, hr, ho, hl⟩
/-- isinstance(e, c) of such an error -/
def rIsErrV (K : PySem.W.Frag) (pn : List (Addr × Obj)) : List V → Hp → VK → Prop := fun xs H Q => ∃ (e C : Addr) (l : List (Str × V)) (c : V) (cv : Value) (b : Bool), xs = [.ref e, c] ∧ ErrV pn H e C l ∧ ExcC K C ∧ ClsV c cv ∧ PySem.W.kitOne K (.ref C) cv = some b ∧ Q (.bl b) H
theorem call_isErrV : CallR X (.builtin "isinstance") (rIsErrV X.K X.pn) := by
  rintro pins s σ H xs us Q I r ⟨e, C, l, c, cv, b, rfl, hx, EC, kc, hb, q⟩
  obtain ⟨oe, d, od, mA, J, _⟩ := err_inst I hx
  obtain ⟨u1, u2, rfl, r1, r2⟩ := vals2 r
  cases (show u1 = Value.ref e from r1)
  have ec := kc.eq r2
  subst ec
  exact PySem.W.kia_one (PySem.NoBX.kit_err EC) I.kIn ⟨_, J⟩ hb (fun z => nomatch z) fun tk => ⟨.bl b, H, I.tok tk, rfl, q⟩
/-- what the written part says of reading the field f of an error of the class C -/
structure ErrGet (K : PySem.W.Frag) (C : Addr) (f : Str) : Prop where
  ga : PySem.W.findIn K (.ref C) "__getattribute__" = some (some (.builtin "BaseException.__getattribute__"))
  gg : PySem.W.findIn K (.ref C) "__getattr__" = some none
  ex : PySem.W.subIn K (.ref C) (.type "BaseException") = some true
  hd : PySem.W.hasDictIn K C = true
  no : PySem.W.findIn K (.ref C) f = some none
/-- e.f of such an error -/
def tErrF (K : PySem.W.Frag) (f : Str) (te : TE) : TE := fun σ H Q => te σ H fun x H1 => ∃ (e C : Addr) (l : List (Str × V)) (v : V), x = .ref e ∧ ErrV [] H1 e C l ∧ ErrGet K C f ∧ l.lookup f = some v ∧ Q v H1
theorem pe_errFK {f : Str} {e : Expr} {te : TE} {pos : Pos} {K0 : PySem.W.Frag} (hK : X.K = K0) (he : PE X e te) (hb : attributeBase e f X.env (eval e X.env) = eval e X.env) :
    PE X (.Attribute e f pos) (tErrF K0 f te) := by
  subst hK
  refine ⟨fun pins s σ H Q I h => ?_⟩
  refine attr_of hb (thn (he.run pins s σ H _ I h) fun u s1 hh => ?_)
  obtain ⟨x, H1, I1, rx, a, C, l, v, ex, hx, G, hl, q⟩ := hh
  subst ex
  obtain rfl : u = Value.ref a := rx
  obtain ⟨oe, d, od, mA, J, _, hns, hr, _, hlk⟩ := err_inst I1 hx.any
  obtain ⟨u, hu, ru⟩ := RelO.some_of (v := v) (o := mA f) (by rw [← hl]; exact hr f)
  exact HandSPX.exc_get I1.kIn J G.ga G.gg G.ex (PySem.W.findObj_own G.hd G.no rfl (by rw [hlk, hu])) (handed_of ru) ⟨v, H1, I1.tok _, ru, q⟩
theorem pe_errF {f : Str} {e : Expr} {te : TE} {pos : Pos} (he : PE X e te) (hb : attributeBase e f X.env (eval e X.env) = eval e X.env := by rfl) :
    PE X (.Attribute e f pos) (tErrF X.K f te) := pe_errFK rfl he hb
/-- C(..): a new error, its fields l of what was handed in -/
def tMkErr (C : Addr) (fl : List V → Option (List (Str × V))) (ta : TA) : TE := fun σ H Q => ta σ H fun vs H1 => ∃ l, fl vs = some l ∧ ∀ e d oe, H1 e = none → H1 d = none → d ≠ e → ErrOb oe C d → Q (.ref e) (upd (upd H1 d (.xd l)) e (ErrO oe e))
/-- what a class's __init__ does with what it is handed -/
def ErrRun (X : Cx) (C fI : Addr) (fl : List V → Option (List (Str × V))) : Prop := ∀ (vs : List V) (us : List Value) (l : List (Str × V)), fl vs = some l → Vals vs us → ∃ m, PySem.ErV.InitRuns X.prog X.w X.K C fI us m ∧ us.length ≤ sizeLine ∧ ∀ f, RelO (l.lookup f) (m f)
theorem pe_mkErr {a : Expr} {es : List Expr} {ta : TA} {x : Str} {C fI : Addr} {fl : List V → Option (List (Str × V))} {p pos : Pos} {k : Nat} (T : PySem.ErV.ErrCls X.K C fI) (run : ErrRun X C fI fl) (hr : Room k X.A) (hk : 2 ≤ k) (ha : PA X (a :: es) ta) (hm : X.mg x = some (.ref C)) (hg : Gl X x := by rfl) (hdb : (x == ("__debug__" : Str)) = false := by decide)
    (he : starEach (a :: es) X.env = (false, eval a X.env) :: starEach es X.env := by rfl) (hpl : (backTo pos (starEach es X.env)).any (·.1) = false := by rfl) :
    PE X (.Call (.Name x p) (a :: es) [] pos) (tMkErr C fl ta) := by
  refine ⟨fun pins s σ H Q I h => ?_⟩
  refine wpAny_Call_Name_kw (ld_glob I hg hm ?_ hdb)
  refine PySem.W.callWith_K (h₀ := X.base) I.ok.mod.kin T.kC (thn (ha.run pos pins s σ H _ I h) fun us s1 hh => ?_) he hpl
  obtain ⟨vs, H1, I1, r1, l, el, q1⟩ := hh
  refine ⟨I1.kIn, ?_⟩
  obtain ⟨m, rn, sz, rel⟩ := run vs us l el r1
  have hlim := I1.nolimit
  obtain ⟨hp, g, dr, tk, os⟩ := s1
  refine wpAny_call (PySem.ErV.err_made T rn sz I1.kIn hlim (by have := hr.dp; omega) fun h' tk' e d M => ?_)
  obtain ⟨oe, fv, hoe, hc, hd, hdat, h1, h2⟩ := M.obj
  have hns := M.ns
  have ne : H1 e = none := I1.hok.fresh M.new
  have nd : H1 d = none := I1.hok.fresh M.dbig
  obtain ⟨G', g1, g2⟩ := restrict h' fun b => decide (b ≠ e)
  have gk : ∀ b, b ≠ e → G'.get? b = h'.get? b := fun b hb => g1 b (decide_eq_true hb)
  have ge : G'.get? e = none := g2 e (by simp)
  have old : ∀ b o, hp.get? b = some o → G'.get? b = some o := fun b o q => (gk b (Nat.ne_of_lt (Nat.lt_of_lt_of_le (Heap.lt_size q) M.new))).trans (M.keep b o q)
  have ob : ObjOk X.prog X.w (upd H1 d (.xd l)) G' d (.xd l) := ⟨_, hns.at (fun o q => (gk d M.dne).trans q), rel⟩
  have J : Inv X pins σ (upd H1 d (.xd l)) ⟨G', g, dr, tk', os⟩ := I1.laid (t' := tk') old M.dbig ob
  have J2 : Inv X pins σ (upd (upd H1 d (.xd l)) e (ErrO oe e)) ⟨h', g, dr, tk', os⟩ := J.laidN (h' := h') (t' := tk') (fun b o q => by
    by_cases hb : b = e
    · have q' : G'.get? b = some o := q
      rw [hb, ge] at q'; cases q'
    · exact (gk b hb).symm.trans q) ge (by rw [upd_ne (Ne.symm M.dne)]; exact ne) (errO_ok hoe)
  exact ⟨.ref e, _, J2, rfl, q1 e d oe ne nd M.dne ⟨hc, hd, ⟨_, hdat⟩⟩⟩
/-- raise C(..) within a def, caught there or above -/
def tMkRaise (C : Addr) (fl : List V → Option (List (Str × V))) (ta : TA) : St → Hp → XK → Prop := fun σ H Q => ta σ H fun vs H1 => ∃ l, fl vs = some l ∧ ∀ d, H1 d = none → Q (.ref C) (some d) (upd H1 d (.xd l))
theorem pmk_err {a : Expr} {es : List Expr} {ta : TA} {x : Str} {C fI : Addr} {fl : List V → Option (List (Str × V))} {p pos : Pos} {k : Nat} (T : PySem.ErV.ErrCls X.K C fI) (run : ErrRun X C fI fl) (exC : PySem.W.subIn X.K (.ref C) (.type "BaseException") = some true) (tyC : PySem.W.typeIn X.K (.ref C) = some (.type "type"))
    (hr : Room k X.A) (hk : 2 ≤ k) (ha : PA X (a :: es) ta) (hm : X.mg x = some (.ref C)) (hg : Gl X x := by rfl) (hdb : (x == ("__debug__" : Str)) = false := by decide)
    (he : starEach (a :: es) X.env = (false, eval a X.env) :: starEach es X.env := by rfl) (hpl : (backTo pos (starEach es X.env)).any (·.1) = false := by rfl) :
    L2N.PMk X (.Call (.Name x p) (a :: es) [] pos) (tMkRaise C fl ta) := by
  intro pins s σ H Q I h
  refine wpAny_Call_Name_kw (ld_glob I hg hm ?_ hdb)
  refine PySem.W.callWith_K (h₀ := X.base) I.ok.mod.kin T.kC (thn (ha.run pos pins s σ H _ I h) fun us s1 hh => ?_) he hpl
  obtain ⟨vs, H1, I1, r1, l, el, q1⟩ := hh
  refine ⟨I1.kIn, ?_⟩
  obtain ⟨m, rn, sz, rel⟩ := run vs us l el r1
  have hlim := I1.nolimit
  obtain ⟨hp, g, dr, tk, os⟩ := s1
  refine wpAny_call (PySem.ErV.err_made T rn sz I1.kIn hlim (by have := hr.dp; omega) fun h' tk' e d M => ?_)
  show L2N.MkP X pins σ Q (.ref e) ⟨h', g, dr, tk', os⟩
  obtain ⟨oe, fv, hoe, hc, hd, hdat, h1, h2⟩ := M.obj
  have hns := M.ns
  have ne : H1 e = none := I1.hok.fresh M.new
  obtain ⟨G', g1, g2⟩ := restrict h' fun b => decide (b ≠ e)
  have gk : ∀ b, b ≠ e → G'.get? b = h'.get? b := fun b hb => g1 b (decide_eq_true hb)
  have ge : G'.get? e = none := g2 e (by simp)
  have old : ∀ b o, hp.get? b = some o → G'.get? b = some o := fun b o q => (gk b (Nat.ne_of_lt (Nat.lt_of_lt_of_le (Heap.lt_size q) M.new))).trans (M.keep b o q)
  have ob : ObjOk X.prog X.w (upd H1 d (.xd l)) G' d (.xd l) := ⟨_, hns.at (fun o q => (gk d M.dne).trans q), rel⟩
  have J : Inv X pins σ (upd H1 d (.xd l)) ⟨G', g, dr, tk', os⟩ := I1.laid (t' := tk') old M.dbig ob
  refine ⟨e, oe, fv, ⟨G', g, dr, tk', os⟩, _, .ref C, some d, rfl, J, fun b o q => ?_, ge, hoe, ⟨hc, hd, fun vs e => by rw [hdat] at e; cases e; exact h2⟩, hdat, h1, ?_, rfl, I1.bare, raises_own exC tyC, q1 d (I1.hok.fresh M.dbig)⟩
  · by_cases hb : b = e
    · have q' : G'.get? b = some o := q
      rw [hb, ge] at q'; cases q'
    · exact (gk b hb).symm.trans q
  · rw [upd_ne (Ne.symm M.dne)]
    exact ne
theorem ps_raiseErr {a : Expr} {es : List Expr} {ta : TA} {W : WX} {x : Str} {C fI : Addr} {fl : List V → Option (List (Str × V))} {p pos pos2 : Pos} {k : Nat} (hc : X.calm = true) (T : PySem.ErV.ErrCls X.K C fI) (run : ErrRun X C fI fl) (exC : PySem.W.subIn X.K (.ref C) (.type "BaseException") = some true) (tyC : PySem.W.typeIn X.K (.ref C) = some (.type "type"))
    (hr : Room k X.A) (hk : 2 ≤ k) (tk : L2N.Takes X W) (ha : PA X (a :: es) ta) (hm : X.mg x = some (.ref C)) (hg : Gl X x := by rfl) (hdb : (x == ("__debug__" : Str)) = false := by decide)
    (he : starEach (a :: es) X.env = (false, eval a X.env) :: starEach es X.env := by rfl) (hpl : (backTo pos (starEach es X.env)).any (·.1) = false := by rfl) :
    PS X (.Raise (some (.Call (.Name x p) (a :: es) [] pos)) none pos2) (fun _ σ H => tMkRaise C fl ta σ H fun cls d H' => W cls d σ H') := L2N.ps_raise hc tk (pmk_err T run exC tyC hr hk ha hm hg hdb he hpl)
/-- e.f, e the error that the suite holds -/
def tHeldF (K : PySem.W.Frag) (f : Str) (a : Addr) (cls : Value) (d : Option Addr) (te : TE) : TE := fun σ H Q => te σ H fun x H1 => x = .ref a ∧ ∃ (C dd : Addr) (l : List (Str × V)) (v : V), cls = .ref C ∧ d = some dd ∧ H1 dd = some (.xd l) ∧ ErrGet K C f ∧ l.lookup f = some v ∧ Q v H1
theorem pe_heldF {f : Str} {a : Addr} {oe : Obj} {cls : Value} {d : Option Addr} {pn : List (Addr × Obj)} {e : Expr} {te : TE} {pos : Pos} (hz : Zc cls d oe) (hf : ∃ vs, oe.data = .fields vs) (he : PE (X.suite a ((a, oe) :: pn)) e te)
    (hb : attributeBase e f X.env (eval e X.env) = eval e X.env := by rfl) : PE (X.suite a ((a, oe) :: pn)) (.Attribute e f pos) (tHeldF X.K f a cls d te) := by
  refine ⟨fun pins s σ H Q I h => ?_⟩
  refine attr_of hb (thn (he.run pins s σ H _ I h) fun u s1 hh => ?_)
  obtain ⟨x, H1, I1, rx, ex, C, dd, l, v, ec, ed, ea, G, hl, q⟩ := hh
  subst ex
  obtain rfl : u = Value.ref a := rx
  subst ec ed
  obtain ⟨ha, _⟩ := I1.pin (a, oe) (List.mem_append_left _ List.mem_cons_self)
  obtain ⟨vs, hd⟩ := hf
  have hx : ObjOk X.prog X.w H1 s1.heap dd (.xd l) := I1.hok dd _ ea
  obtain ⟨mA, hns, hr⟩ := hx
  obtain ⟨od, ho, hlk⟩ := lookIn_ns hns
  obtain ⟨u, hu, ru⟩ := RelO.some_of (v := v) (o := mA f) (by rw [← hl]; exact hr f)
  have J : PySem.W.InstAt s1.heap a oe C (some od) := ⟨ha, hz.1, by unfold PySem.W.notCls; rw [hd] <;> rfl, by rw [hz.2]; exact ho⟩
  exact HandSPX.exc_get I1.kIn J G.ga G.gg G.ex (PySem.W.findObj_own G.hd G.no rfl (by rw [hlk, hu])) (handed_of ru) ⟨v, H1, I1.tok _, ru, q⟩
/-! what the four __init__ do -/
def fl1 (f : Str) : List V → Option (List (Str × V))
  | [v] => some [(f, v)]
  | _ => none
def fl2 (f g : Str) : List V → Option (List (Str × V))
  | [v, u] => some [(f, v), (g, u)]
  | _ => none
theorem rel_one {f : Str} {v : V} {u : Value} (r : RelV v u) (g : Str) : RelO (List.lookup g [(f, v)]) (if g = f then some u else none) := by
  by_cases h : g = f
  · subst h
    rw [if_pos rfl]
    have q : List.lookup g [(g, v)] = some v := by simp [List.lookup]
    rw [q]
    exact r
  · rw [if_neg h]
    have qw : (g == f) = false := by simpa using h
    have q2 : List.lookup g [(f, v)] = none := by simp [List.lookup, qw]
    rw [q2]
    trivial
theorem rel_two {v v2 : V} {u u2 : Value} (r : RelV v u) (r2 : RelV v2 u2) (g : Str) : RelO (List.lookup g [(("low" : Str), v), ("high", v2)]) (if g = "high" then some u2 else (if g = "low" then some u else none)) := by
  by_cases h : g = "high"
  · subst h
    rw [if_pos rfl]
    exact r2
  · rw [if_neg h]
    by_cases h1 : g = "low"
    · subst h1
      rw [if_pos rfl]
      exact r
    · rw [if_neg h1]
      have qw : (g == ("low" : Str)) = false := by simpa using h1
      have qw2 : (g == ("high" : Str)) = false := by simpa using h
      have q2 : List.lookup g [(("low" : Str), v), ("high", v2)] = none := by simp [List.lookup, qw, qw2]
      rw [q2]
      trivial
variable {C fI : Addr} {q : Str}
theorem errRun_1 {f : Str} (run : ∀ v : Value, PySem.ErV.InitRuns X.prog X.w X.K C fI [v] (fun y => if y = f then some v else none)) : ErrRun X C fI (fl1 f) := by
  intro vs us l e r
  unfold fl1 at e
  split at e
  · rename_i v
    cases e
    obtain ⟨u, rfl, ru⟩ := vals1 r
    exact ⟨_, run u, PySem.ErV.one_size u, rel_one ru⟩
  · cases e
theorem errRun_at (T : PySem.ErV.ErrCls X.K C fI) (fn : PySem.ErV.Fn_at X.K fI q) (no : PySem.W.findIn X.K (.ref C) "at" = some none) : ErrRun X C fI (fl1 "at") := errRun_1 fun v => PySem.ErV.runs_at T fn no v
theorem errRun_top (T : PySem.ErV.ErrCls X.K C fI) (fn : PySem.ErV.Fn_top X.K fI q) (no : PySem.W.findIn X.K (.ref C) "top" = some none) : ErrRun X C fI (fl1 "top") := errRun_1 fun v => PySem.ErV.runs_top T fn no v
theorem errRun_thing (T : PySem.ErV.ErrCls X.K C fI) (fn : PySem.ErV.Fn_thing X.K fI q) (no : PySem.W.findIn X.K (.ref C) "thing" = some none) : ErrRun X C fI (fl1 "thing") := errRun_1 fun v => PySem.ErV.runs_thing T fn no v
theorem errRun_lh (T : PySem.ErV.ErrCls X.K C fI) (fn : PySem.ErV.Fn_lh X.K fI q) (no : PySem.W.findIn X.K (.ref C) "low" = some none ∧ PySem.W.findIn X.K (.ref C) "high" = some none) : ErrRun X C fI (fl2 "low" "high") := by
  intro vs us l e r
  unfold fl2 at e
  split at e
  · rename_i v v2
    cases e
    obtain ⟨u1, u2, rfl, r1, r2⟩ := vals2 r
    exact ⟨_, PySem.ErV.runs_lh T fn no.1 no.2 u1 u2, PySem.ErV.two_size u1 u2, rel_two r1 r2⟩
  · cases e
/-- how the eleven classes answer -/
def Kinds (K : PySem.W.Frag) (C : Addr) (cs : List Value) (bs : List Bool) : Prop := Paired (fun c b => PySem.W.kitOne K (.ref C) c = some b) cs bs
end
end L2
namespace My
open PySem L2
theorem kit_same {K : PySem.W.Frag} {C : Addr} : PySem.W.kitOne K (.ref C) (.ref C) = some true := by
  unfold PySem.W.kitOne
  rw [if_pos (by simp)]
/-- asked of an own class -/
theorem kit_ref {K : PySem.W.Frag} {C D : Addr} {b : Bool} (self : PySem.W.subIn K (.ref C) (.ref C) = some true) (h : PySem.W.subIn K (.ref C) (.ref D) = some b) (i : PySem.W.isClsIn K D = true) (t : PySem.W.typeIn K (.ref D) = some (.type "type")) : PySem.W.kitOne K (.ref C) (.ref D) = some b := by
  by_cases cd : C = D
  · subst cd
    rw [self] at h
    cases h
    exact kit_same
  have ne : ((.ref C : Value) == .ref D) = false := by simp [cd]
  have i' : (PySem.W.clsIn K D).isSome = true := i
  have e2 : ((PySem.W.clsIn K D).isSome && PySem.W.typeIn K (.ref D) == some (.type "type")) = true := by rw [i', t] <;> rfl
  unfold PySem.W.kitOne
  rw [ne, if_neg Bool.false_ne_true]
  show (if ((PySem.W.clsIn K D).isSome && PySem.W.typeIn K (.ref D) == some (.type "type")) = true then _ else _) = _
  rw [if_pos e2]
  exact h
end My

namespace My
open PySem L2
theorem exm_self {K : PySem.W.Frag} {S : Addr} (h1 : PySem.W.subIn K (.ref S) (.type "BaseException") = some true) (h2 : PySem.W.isClsIn K S = true) (h3 : PySem.W.typeIn K (.ref S) = some (.type "type")) (h4 : PySem.W.subIn K (.ref S) (.ref S) = some true) :
    PySem.W.exmOne K (.ref S) (.ref S) = some true := by
  have e1 : (PySem.W.subIn K (.ref S) (.type "BaseException") == some true) = true := by rw [h1] <;> rfl
  have e2 : ((PySem.W.clsIn K S).isSome && PySem.W.typeIn K (.ref S) == some (.type "type")) = true := by
    have h2' : (PySem.W.clsIn K S).isSome = true := h2
    rw [h2', h3] <;> rfl
  show (if (PySem.W.subIn K (.ref S) (.type "BaseException") == some true) = true then (if ((PySem.W.clsIn K S).isSome && PySem.W.typeIn K (.ref S) == some (.type "type")) = true then PySem.W.subIn K (.ref S) (.ref S) else none) else none) = some true
  rw [if_pos e1, if_pos e2]
  exact h4
/-- isinstance of an error of the class C, asked of a builtin class -/
theorem kit_type {K : PySem.W.Frag} {C : Addr} {T : String} {b : Bool} (h : PySem.W.subIn K (.ref C) (.type T) = some b) (m : PySem.W.kitMeta T = true) : PySem.W.kitOne K (.ref C) (.type T) = some b := by
  have ne : ((.ref C : Value) == .type T) = false := by simp
  unfold PySem.W.kitOne
  rw [ne, if_neg Bool.false_ne_true]
  show (if PySem.W.kitMeta T = true then _ else _) = _
  rw [if_pos m]
  exact h
/-- asked of an own class that is not above it -/
theorem kit_other {K : PySem.W.Frag} {C D : Addr} (self : PySem.W.subIn K (.ref C) (.ref C) = some true) (h : PySem.W.subIn K (.ref C) (.ref D) = some false) (i : PySem.W.isClsIn K D = true) (t : PySem.W.typeIn K (.ref D) = some (.type "type")) : PySem.W.kitOne K (.ref C) (.ref D) = some false := by
  have cd : C ≠ D := fun z => by
    rw [z] at self h
    rw [self] at h
    cases h
  have ne : ((.ref C : Value) == .ref D) = false := by simp [cd]
  have i' : (PySem.W.clsIn K D).isSome = true := i
  have e2 : ((PySem.W.clsIn K D).isSome && PySem.W.typeIn K (.ref D) == some (.type "type")) = true := by rw [i', t] <;> rfl
  unfold PySem.W.kitOne
  rw [ne, if_neg Bool.false_ne_true]
  show (if ((PySem.W.clsIn K D).isSome && PySem.W.typeIn K (.ref D) == some (.type "type")) = true then _ else _) = _
  rw [if_pos e2]
  exact h
end My

namespace My
open PySem L2
/-- two numbers, shown -/
theorem short_two {a b : Int} (ha : a.natAbs < 2 ^ 1900) (hb : b.natAbs < 2 ^ 1900) : (PyData.shown (.tuple [.int a, .int b])).length ≤ sizeLine := by
  have l1 : a.natAbs.log2 < 1920 := Nat.lt_of_lt_of_le (PySem.Flt.log2_lt_of (by decide) ha) (by decide)
  have l2 : b.natAbs.log2 < 1920 := Nat.lt_of_lt_of_le (PySem.Flt.log2_lt_of (by decide) hb) (by decide)
  have s1 : (PyData.shown (.int a)).length ≤ 1921 := PyProof.Rows.int_text_len_1921 l1
  have s2 : (PyData.shown (.int b)).length ≤ 1921 := PyProof.Rows.int_text_len_1921 l2
  have short : (PyData.tuple [.int a, .int b]).leavesShort 1921 = true := by
    simp only [PyData.leavesShort, PyData.leavesShortAll, Bool.and_true, Bool.and_eq_true, decide_eq_true_eq]
    exact ⟨s1, s2⟩
  have le := PyData.shown_le 1921 (by decide) _ short
  have wt : (PyData.tuple [.int a, .int b]).weight ≤ 4000 := by
    simp only [PyData.weight, PyData.weightAll]
    have wt1 : ∀ i : Int, i.natAbs.log2 < 1920 → (if (i == 0) = true then 0 else i.natAbs.log2 + 1) ≤ 1920 := fun i h => by split <;> omega
    have wa := wt1 a l1
    have wb := wt1 b l2
    omega
  have e : sizeLine = 16777216 := rfl
  omega
theorem data_two {a b : Int} (ha : a.natAbs < 2 ^ 1900) (hb : b.natAbs < 2 ^ 1900) : (PyData.tuple [.int a, .int b]).showable = true ∧ (PyData.tuple [.int a, .int b]).hasDict = false ∧ (PyData.tuple [.int a, .int b]).depth ≤ 60 := by
  refine ⟨?_, ?_, ?_⟩
  · have l1 : a.natAbs.log2 < 1920 := Nat.lt_of_lt_of_le (PySem.Flt.log2_lt_of (by decide) ha) (by decide)
    have l2 : b.natAbs.log2 < 1920 := Nat.lt_of_lt_of_le (PySem.Flt.log2_lt_of (by decide) hb) (by decide)
    simp only [PyData.showable, PyData.showableAll, Bool.and_true, Bool.and_eq_true, decide_eq_true_eq]
    exact ⟨l1, l2⟩
  · simp [PyData.hasDict, PyData.hasDictAll]
  · simp [PyData.depth, PyData.depthAll]
end My

namespace My
open PySem PySem.Spec PyProof.Rows L2 PySem.Builtin PySem.Builtin.Str
/-! ### str(x) of an object with an own __str__ -/
section
variable {P : Program} {w : World} {A : Around} {E : Value → Shared → Prop} {s : Shared} {K : PySem.W.Frag} {a C f : Addr} {ox : Obj} {od : Option Obj}
/-- an own special method, called -/
theorem special_own {name : Str} {xs : List Value} {R : Option Value → Shared → Prop} (X : K.In s.heap) (I : PySem.W.InstAt s.heap a ox C od) (hs : PySem.W.findIn K (.ref C) name = some (some (.ref f))) (hf : PySem.W.isFn K (.ref f) = true)
    (go : wpAny (model P w) A (call (.ref f) (.ref a :: xs)) (fun v => R (some v)) E s) : wpAny (model P w) A (callSpecial? (.ref a) name xs) R E s := by
  unfold callSpecial? specialOf
  refine wpAny_bind (wpAny_bind (I.type.here ((PySem.W.looks_findIn X hs).here (wpAny_holding (wpAny_bind ?_)))))
  refine (PySem.W.bind_fn X _ (beq_iff_eq.mp hf)).here ?_
  exact wpAny_bind (wpAny_mono go (fun v s' q => wpAny_pure q) fun _ _ q => q)
/-- str(v), where the text is told -/
theorem str_call {v : Value} {R : Value → Shared → Prop} (go : wpAny (model P w) A.in1.in1 (strOf v) (fun r t => t.TypeIs r "str" ∧ R r t) E s) : wpAny (model P w) A (call (.type "str") [v]) R E s := by
  have ft := PySem.F.called_str
  obtain ⟨c, tl, m1⟩ := ft.mro
  have m2 := ft.made
  have m3 := ft.sub
  refine wpAny_call (codeAny_of_tree ?_)
  show wpAny _ _ (callAny (.type "str") _) _ _ _
  refine wpAny_pure ⟨Code.quiet_builtin _ (by decide +kernel), codeAny_builtin PySem.F.entry_type_call ?_⟩
  rw [Around.under_plain (weight_type_call_type "str" [v] []) (units_type_call_type "str" [v] [])]
  have n1 := ft.notType
  have n2 := ft.canCreate
  have n3 := PySem.F.typeCall_str_1 v
  repeat (any_goals (first | assumption | wp_step))
  have body : wpAny (model P w) A.in1.in1 («str.__new__» ⟨[.type "str", v], []⟩) (fun fin t => ∃ r, fin = .done (.ret r) ∧ t.TypeIs r "str" ∧ R r t) E s := by
    rw [str_new_tree v]
    refine wpAny_bind (wpAny_pure (wpAny_bind (wpAny_of_eq isSubtype_str_str ?_)))
    exact wpAny_bind (wpAny_mono go (fun r t q => wpAny_pure ⟨r, rfl, q⟩) fun _ _ q => q)
  refine codeAny_mono (codeAny_call_builtin ft.plain PySem.F.entry_str_new (wpAny_of_eq (PySem.F.newCall_str_1 v) (wpAny_mono body (fun fin t q => ?_) fun e t q => ?_))) (R := fun r t => (∃ x, r = .ok (.ret x) ∧ t.TypeIs x "str" ∧ R x t) ∨ (∃ e, r = .error e ∧ E e t)) fun r t q => ?_
  · obtain ⟨r, rfl, q1⟩ := q
    exact .inl ⟨r, rfl, q1⟩
  · exact .inr ⟨e, rfl, q⟩
  · rcases q with ⟨x, rfl, ty, q1⟩ | ⟨e, rfl, q1⟩
    · have i1 := ft.init.lookup
      have i2 := ft.init.bind x
      repeat (any_goals (first | assumption | wp_step))
      refine codeAny_mono (codeAny_call_builtin ft.init.plain PySem.F.entry_object_init (ft.init.check _ _ _ _ _ _ _ _ ty (PySem.F.args_object_init_2 x _) (object_init_meets (rest := [v]) ft.init.lookup ft.made (by decide) P w A.in1 (fun r t' => r = .ok (.ret .none) ∧ R x t') t ⟨ty, rfl, q1⟩))) (R := fun r t' => r = .ok (.ret .none) ∧ R x t') fun r2 t2 q2 => ?_
      obtain ⟨rfl, q3⟩ := q2
      repeat (any_goals (first | assumption | wp_step))
    · exact q1
end
section
variable {X : Cx} {C f : Addr} {fd : FuncData} {ps : List Str} {n : Nat} {sp : Sp}
theorem run_one {A : Around} {pins : List (Addr × Obj)} {σ : L2.St} {H : Hp} {s : Shared} {a : Addr} {Q : VK} {E : XK} (F : FnOk X.prog X.w X.K X.mg X.base CX0 n f fd ps sp) (hb : Binds X.K fd ps []) (hr : Room n A) (hfr : A.frames = X.A.frames)
    (I : Inv X pins σ H s) (h : sp [.ref a] H Q E) : wpAny (model X.prog X.w) A (call (.ref f) [.ref a]) (EP X pins σ Q) X.xe s := by
  have w0 := I.env0
  have w1 : Env0 X.prog X.w X.K X.mg X.base A X.stack s H := ⟨hfr.trans w0.frames, w0.mod, w0.bs, w0.bsz, w0.funs, w0.frf, w0.hok, w0.bare⟩
  have len1 : 1 = ps.length := F.len _ _ _ _ h
  have bnd : BindsTo s fd ⟨[.ref a], []⟩ (ps.zip [.ref a]) := by
    have q := hb s [.ref a] I.kIn (by simpa using len1)
    simpa using q
  refine wpAny_call (codeAny_mono (F.run A X.stack s H ⟨[.ref a], []⟩ [.ref a] [.ref a] Q E hr w1 bnd (.cons rfl .nil) h) ?_)
  intro r s' z
  match r, z with
  | .error _, z => exact z.elim
  | .ok (.ret u), z => exact I.after z
def rStrOwn (C : Addr) (sp : Sp) : List V → Hp → VK → Prop := fun xs H Q => ∃ (a dx : Addr) (fs : List (Str × V)), xs = [.ref a] ∧ H a = some (.ins C dx fs) ∧ sp [.ref a] H (fun v H' => ∃ k : Str, v = .str k ∧ Q (.str k) H') E0
theorem call_strOwn (F : FnOk X.prog X.w X.K X.mg X.base CX0 n f fd ps sp) (hs : PySem.W.findIn X.K (.ref C) "__str__" = some (some (.ref f))) (hf : PySem.W.isFn X.K (.ref f) = true) (hb : Binds X.K fd ps []) (hr : Room (n + 2) X.A) :
    CallR X (.type "str") (rStrOwn C sp) := by
  rintro pins s σ H xs us Q I r ⟨a, dx, fs, rfl, ha, q⟩
  obtain ⟨u, rfl, rx⟩ := vals1 r
  cases rx
  obtain ⟨_, J1, _⟩ := ins_get I.hok ha
  obtain ⟨_, K1, _⟩ := J1.look
  have r2 : Room n X.A.in1.in1 := hr.in1.in1
  refine str_call ?_
  unfold PySem.Builtin.Str.strOf
  refine wpAny_bind (m := cRoomFor _ _) (wpAny_cRoomFor r2.units0 ?_)
  refine wpAny_bind (m := callSpecial? (.ref a) (Str.ofString "__str__") _) (special_own I.kIn K1 hs hf (thn (run_one F hb r2 rfl I q) ?_))
  rintro v s' ⟨z, H', I', rz, k, rfl, qk⟩
  obtain ⟨tk, rfl⟩ := rz
  exact wpAny_pure ⟨typeIs_str _ _ _, .str k, H', I', ⟨_, rfl⟩, qk⟩
end
end My

namespace My
open PySem L2 TL NumText
/-! ### texts of whole numbers and of Numbers -/
def TI (i : Int) : Str := Str.ofString (toString i)
def signL (i : Int) : List Nat := if i < 0 then 45 :: numL i.natAbs else numL i.natAbs
theorem tl_TI (i : Int) : tl (TI i) = signL i := by
  unfold TI signL
  by_cases h : i < 0
  · rw [if_pos h]
    obtain ⟨m, rfl⟩ := Int.eq_negSucc_of_lt_zero h
    have e : toString (Int.negSucc m) = "-" ++ toString (((m + 1 : Nat)) : Int) := rfl
    rw [e, tl_ofString, String.toList_append, List.map_append, ← tl_ofString (toString (((m + 1 : Nat)) : Int)), tl_num]
    rfl
  · rw [if_neg h]
    obtain ⟨n, rfl⟩ := Int.eq_ofNat_of_zero_le (show 0 ≤ i by omega)
    exact tl_num n
theorem signL_inj {i j : Int} (h : signL i = signL j) : i = j := by
  unfold signL at h
  have f : ∀ n, (45 : Nat) ∉ numL n := fun n => numL_free (by decide)
  by_cases a : i < 0 <;> by_cases b : j < 0
  · rw [if_pos a, if_pos b] at h
    have := numL_inj (List.cons.inj h).2
    omega
  · rw [if_pos a, if_neg b] at h
    exact absurd (h ▸ List.mem_cons_self ..) (f _)
  · rw [if_neg a, if_pos b] at h
    exact absurd (h ▸ List.mem_cons_self ..) (f _)
  · rw [if_neg a, if_neg b] at h
    have := numL_inj h
    omega
theorem TI_inj {i j : Int} (h : TI i = TI j) : i = j := signL_inj (by rw [← tl_TI, ← tl_TI, h])
theorem free_signL {s : Nat} (h : s ≠ 45) (h2 : s < 48 ∨ 57 < s) (i : Int) : s ∉ signL i := by
  unfold signL
  split
  · intro z
    rcases List.mem_cons.mp z with z | z
    · exact h z
    · exact numL_free h2 z
  · exact numL_free h2
theorem signL_len {i : Int} {k : Nat} (hk : 0 < k) (h : i.natAbs < 10 ^ k) : (signL i).length ≤ k + (if i < 0 then 1 else 0) := by
  have := numL_len hk h
  unfold signL
  split
  · rw [List.length_cons]; omega
  · omega
theorem signL_ne (i : Int) : signL i ≠ [] := by
  unfold signL
  split
  · exact List.cons_ne_nil _ _
  · exact numL_ne _
theorem int_TI {i : Int} (h : (TI i).length ≤ 4300) : intText? (TI i) = some i := by
  by_cases z : i < 0
  · have e : (TI i).cps.toList = 45 :: numL i.natAbs := by
      have := tl_TI i
      unfold signL at this
      rw [if_pos z] at this
      exact this
    have := intText_neg e (numL_digits _) (numL_ne _) h
    rw [this, numL_val]
    congr 1
    omega
  · obtain ⟨n, rfl⟩ := Int.eq_ofNat_of_zero_le (show 0 ≤ i by omega)
    have l : (numL n).length ≤ 4300 := by
      have := len_tl (TI (n : Int))
      rw [tl_TI] at this
      unfold signL at this
      rw [if_neg z] at this
      rw [this] at h
      exact h
    exact int_num l
/-- the text of a Number -/
def NText (x : Rat) : Str := if x.den = 1 then TI x.num else TI x.num ++ "/" ++ TI (x.den : Int)
theorem nat_signL (n : Nat) : signL (n : Int) = numL n := by
  unfold signL
  rw [if_neg (by omega)]
  rfl
theorem tl_NText (x : Rat) : tl (NText x) = if x.den = 1 then signL x.num else signL x.num ++ 47 :: numL x.den := by
  unfold NText
  split
  · exact tl_TI _
  · have e : tl ("/" : Str) = [47] := rfl
    rw [tl_append, tl_append, tl_TI, tl_TI, nat_signL, e]
    simp
theorem part_none {x : Rat} (h : x.den = 1) : Txt.partition (NText x) "/" = (TI x.num, Str.empty, Str.empty) := by
  have e : NText x = TI x.num := if_pos h
  rw [e]
  exact partition_none (s := 47) (S := []) rfl (by rw [tl_TI]; exact free_signL (by decide) (by decide) _)
theorem part_some {x : Rat} (h : x.den ≠ 1) : Txt.partition (NText x) "/" = (TI x.num, ("/" : Str), TI (x.den : Int)) := by
  have e : NText x = TI x.num ++ "/" ++ TI (x.den : Int) := if_neg h
  rw [e]
  exact partition_app (s := 47) (S := []) rfl (by rw [tl_TI]; exact free_signL (by decide) (by decide) _)
theorem minus_off (i : Int) : tl (Txt.removeprefix (TI i) "-") = numL i.natAbs := by
  rw [PySem.StrLaws.removeprefix_eq]
  have hx : (TI i).cps.toList = signL i := tl_TI i
  have ll : (TI i).length = (signL i).length := by rw [len_tl, tl_TI]
  have hy : ("-" : Str).cps.toList = [45] := rfl
  have y1 : ("-" : Str).length = 1 := rfl
  rw [PySem.StrLaws.subAt_eq, hx, hy, y1, ll, List.drop_zero]
  unfold signL
  by_cases z : i < 0
  · rw [if_pos z]
    have e : ((45 :: numL i.natAbs).take 1 == [45]) = true := rfl
    rw [e, if_pos (by rw [Bool.and_true]; exact decide_eq_true (by rw [List.length_cons]; omega))]
    show (45 :: numL i.natAbs).tail.take _ = _
    rw [List.tail_cons, List.length_cons]
    exact List.take_of_length_le (by omega)
  · rw [if_neg z]
    have f : (45 : Nat) ∉ numL i.natAbs := numL_free (by decide)
    have e : ((numL i.natAbs).take 1 == [45]) = false := by
      generalize numL i.natAbs = l at *
      cases l with
      | nil => rfl
      | cons c r =>
        have c0 : c ≠ 45 := fun q => f (by rw [q]; exact List.mem_cons_self ..)
        show ((c :: List.take 0 r) == [45]) = false
        rw [List.take_zero]
        simpa using c0
    rw [e, Bool.and_false, if_neg (by decide)]
    have := tl_TI i
    unfold signL at this
    rw [if_neg z] at this
    exact this
theorem digit_is : ∀ c : Nat, 48 ≤ c → c ≤ 57 → Unicode.isDigit c = true ∧ decide (c < 128) = true := by
  intro c h1 h2
  have h : c = 48 ∨ c = 49 ∨ c = 50 ∨ c = 51 ∨ c = 52 ∨ c = 53 ∨ c = 54 ∨ c = 55 ∨ c = 56 ∨ c = 57 := by omega
  rcases h with rfl | rfl | rfl | rfl | rfl | rfl | rfl | rfl | rfl | rfl <;> decide +kernel
theorem all_list {x : Str} {p : Nat → Bool} : x.cps.all p = (tl x).all p := by
  show x.cps.all p = x.cps.toList.all p
  exact (Array.all_toList ..).symm
theorem ascii_off (i : Int) : Txt.isascii (Txt.removeprefix (TI i) "-") = true := by
  unfold Txt.isascii
  rw [all_list, minus_off, List.all_eq_true]
  intro c hc
  have := numL_digits _ c hc
  exact (digit_is c this.1 this.2).2
theorem digits_off (i : Int) : Txt.isdigit (Txt.removeprefix (TI i) "-") = true := by
  unfold Txt.isdigit
  rw [all_list, minus_off, len_tl, minus_off, Bool.and_eq_true, List.all_eq_true]
  constructor
  · have := numL_ne i.natAbs
    generalize numL i.natAbs = l at *
    cases l with
    | nil => exact absurd rfl this
    | cons _ _ => exact decide_eq_true (by rw [List.length_cons]; omega)
  · intro c hc
    have := numL_digits _ c hc
    exact (digit_is c this.1 this.2).1
theorem TI_len (i : Int) : (TI i).length = (signL i).length := by rw [len_tl, tl_TI]
theorem NText_len (x : Rat) : (NText x).length = if x.den = 1 then (signL x.num).length else (signL x.num).length + 1 + (numL x.den).length := by
  rw [len_tl, tl_NText]
  split
  · rfl
  · rw [List.length_append, List.length_cons]; omega
end My

namespace My
open PySem L2 TL NumText
/-! ### texts of numbers, sign by sign -/
def Can (l : List Nat) : Prop := AllDigits l ∧ l ≠ [] ∧ ∀ r, l = 48 :: r → r = []
theorem map_toNat {cs : List Nat} (h : AllDigits cs) : (cs.map Char.ofNat).map Char.toNat = cs := by
  rw [List.map_map]
  conv => rhs; rw [← List.map_id cs]
  apply List.map_congr_left
  intro c hc
  have := h c hc
  have d : c = 48 ∨ c = 49 ∨ c = 50 ∨ c = 51 ∨ c = 52 ∨ c = 53 ∨ c = 54 ∨ c = 55 ∨ c = 56 ∨ c = 57 := by omega
  rcases d with rfl | rfl | rfl | rfl | rfl | rfl | rfl | rfl | rfl | rfl <;> rfl
theorem can_val {l : List Nat} (h : Can l) : numL (digitsVal l) = l := by
  obtain ⟨hd, hn, hz⟩ := h
  obtain ⟨c, r, rfl⟩ := List.exists_cons_of_ne_nil hn
  have hc := hd c (List.mem_cons_self ..)
  have key := toDigits_digitsVal r.length (c :: r) rfl hd (by
    by_cases e : c = 48
    · subst e
      have := hz r rfl
      subst this
      exact .inl rfl
    · exact .inr ⟨c, r, rfl, by omega⟩)
  show (Nat.toDigits 10 (digitsVal (c :: r))).map Char.toNat = _
  rw [key, map_toNat hd]
theorem can_num (n : Nat) : Can (numL n) := by
  refine ⟨numL_digits n, numL_ne n, fun r e => ?_⟩
  have v := numL_val n
  rw [e] at v
  by_cases z : r = []
  · exact z
  · exfalso
    have hr : AllDigits r := fun c hc => numL_digits n c (by rw [e]; exact List.mem_cons_of_mem _ hc)
    have v2 : digitsVal r = n := v
    -- r writes n as well; so n's own figures are no longer than r
    have e2 := e
    rw [← v2] at e2
    have len : (numL (digitsVal r)).length ≤ r.length := by
      refine numL_len (by cases r with | nil => exact absurd rfl z | cons _ _ => exact Nat.succ_pos _) ?_
      clear e e2 v v2
      have gen : ∀ (l : List Nat) (a : Nat), AllDigits l → l.foldl (fun acc c => acc * 10 + (c - 48)) a < (a + 1) * 10 ^ l.length := by
        intro l
        induction l with
        | nil => intro a _; simp
        | cons c l ih =>
          intro a h
          have hc := h c (List.mem_cons_self ..)
          refine Nat.lt_of_lt_of_le (ih _ h.tail) ?_
          rw [List.length_cons, Nat.pow_succ, Nat.mul_comm (10 ^ l.length) 10, ← Nat.mul_assoc]
          exact Nat.mul_le_mul_right _ (by show a * 10 + (c - 48) + 1 ≤ (a + 1) * 10; omega)
      have := gen r 0 hr
      show digitsVal r < _
      unfold digitsVal
      simpa using this
    rw [e2, List.length_cons] at len
    omega
theorem val_lt {l : List Nat} (h : AllDigits l) : digitsVal l < 10 ^ l.length := by
  have gen : ∀ (l : List Nat) (a : Nat), AllDigits l → l.foldl (fun acc c => acc * 10 + (c - 48)) a < (a + 1) * 10 ^ l.length := by
    intro l
    induction l with
    | nil => intro a _; simp
    | cons c l ih =>
      intro a h
      have hc := h c (List.mem_cons_self ..)
      refine Nat.lt_of_lt_of_le (ih _ h.tail) ?_
      rw [List.length_cons, Nat.pow_succ, Nat.mul_comm (10 ^ l.length) 10, ← Nat.mul_assoc]
      exact Nat.mul_le_mul_right _ (by show a * 10 + (c - 48) + 1 ≤ (a + 1) * 10; omega)
  have := gen l 0 h
  unfold digitsVal
  simpa using this
theorem val_snoc {l : List Nat} {c : Nat} : digitsVal (l ++ [c]) = digitsVal l * 10 + (c - 48) := by
  unfold digitsVal
  rw [List.foldl_append]
  rfl
/-- what the law's own reading of a word tells -/
def IsW (l : List Nat) (r : Int) : Prop := (Can l ∧ r = digitsVal l) ∨ (¬ Can l ∧ r = -1)
theorem IsW.of {l : List Nat} {r : Int} (h : IsW l r) (c : Can l) : r = digitsVal l := by
  rcases h with h | h
  · exact h.2
  · exact absurd c h.1
theorem IsW.can {l : List Nat} {r : Int} (h : IsW l r) (c : 0 ≤ r) : Can l ∧ r = digitsVal l := by
  rcases h with h | h
  · exact h
  · omega
/-- the text t writes the number x -/
def IsN (t : Str) (x : Rat) : Prop := NText x = t ∧ t.length ≤ 60
/-- what the law has found of a text -/
structure RF (L : List Nat) (ws : List (List Nat)) (b : Bool) (top bot : Int) : Prop where
  hw : ws = spl [47] 0 [] L
  hb : b = decide (L.take 1 = [45])
  ht : IsW ((ws.headD []).drop (if b = true then 1 else 0)) top
  hbm : (∃ w0 w1, ws = [w0, w1] ∧ IsW w1 bot) ∨ (ws.length ≠ 2 ∧ bot = 1)
structure Good (n : Nat) (b : Bool) (top bot : Int) : Prop where
  n2 : n ≤ 2
  t0 : 0 ≤ top
  b1 : 1 ≤ bot
  nb : ¬ (b = true ∧ top = 0)
  nn : ¬ (n = 2 ∧ bot = 1)
  num : (Rat.divInt top bot).num = top
  den : ((Rat.divInt top bot).den : Int) = bot
theorem first_cut : ∀ L : List Nat, 47 ∉ L ∨ ∃ a b, L = a ++ 47 :: b ∧ 47 ∉ a
  | [] => .inl (by simp)
  | c :: r => by
    by_cases e : c = 47
    · subst e
      exact .inr ⟨[], r, rfl, by simp⟩
    · rcases first_cut r with h | ⟨a, b, rfl, h⟩
      · exact .inl (by simp [h, Ne.symm e])
      · exact .inr ⟨c :: a, b, rfl, by simp [h, Ne.symm e]⟩
theorem spl_one {L : List Nat} (h : 47 ∉ L) : spl [47] 0 [] L = [L] := by
  have := spl_last1 (S := []) (acc := []) h
  simpa using this
theorem spl_two {a b : List Nat} (h : 47 ∉ a) : spl [47] 0 [] (a ++ 47 :: b) = a :: spl [47] 0 [] b := by
  have := spl_part1 (S := []) (rest := b) (acc := []) h
  simpa using this
theorem spl_ne (b : List Nat) : spl [47] 0 [] b ≠ [] := by
  rcases first_cut b with h | ⟨c, d, rfl, h⟩
  · rw [spl_one h]; simp
  · rw [spl_two h]; simp
theorem head45 {i : Int} {r : List Nat} : decide ((signL i ++ r).take 1 = [45]) = decide (i < 0) := by
  unfold signL
  by_cases z : i < 0
  · rw [if_pos z]; simp [z]
  · rw [if_neg z]
    have f : (45 : Nat) ∉ numL i.natAbs := numL_free (by decide)
    have ne := numL_ne i.natAbs
    generalize numL i.natAbs = l at *
    cases l with
    | nil => exact absurd rfl ne
    | cons c l =>
      have c0 : c ≠ 45 := fun q => f (by rw [q]; exact List.mem_cons_self ..)
      simp [z, c0]
theorem drop45 (i : Int) : (signL i).drop (if decide (i < 0) = true then 1 else 0) = numL i.natAbs := by
  unfold signL
  by_cases z : i < 0
  · rw [if_pos z]; simp [z]
  · rw [if_neg z]; simp [z]
theorem abs_den (x : Rat) : (Rat.divInt (x.num.natAbs : Int) (x.den : Int)).num = x.num.natAbs ∧ ((Rat.divInt (x.num.natAbs : Int) (x.den : Int)).den : Int) = x.den := by
  have r := x.reduced
  have hd : x.den ≠ 0 := x.den_nz
  have e : Rat.divInt (x.num.natAbs : Int) (x.den : Int) = ⟨(x.num.natAbs : Int), x.den, hd, by simpa using r⟩ := by
    rw [Rat.divInt_ofNat]
    exact (Rat.mk_eq_mkRat ..).symm
  rw [e]
  exact ⟨rfl, rfl⟩
theorem good_of {t : Str} {x : Rat} {ws : List (List Nat)} {b : Bool} {top bot : Int} (h : IsN t x) (f : RF (tl t) ws b top bot) : Good ws.length b top bot := by
  obtain ⟨hw, hb, ht, hbm⟩ := f
  obtain ⟨rfl, _⟩ := h
  have fs : 47 ∉ signL x.num := free_signL (by decide) (by decide) _
  have tx := tl_NText x
  have ad := abs_den x
  by_cases e : x.den = 1
  · rw [if_pos e] at tx
    rw [tx, spl_one fs] at hw
    subst hw
    have h45 := head45 (i := x.num) (r := [])
    rw [List.append_nil] at h45
    rw [tx, h45] at hb
    subst hb
    rw [List.headD_cons, drop45] at ht
    have tt := ht.of (can_num _)
    rw [numL_val] at tt
    rcases hbm with ⟨_, _, z, _⟩ | ⟨_, rfl⟩
    · simp at z
    · subst tt
      rw [e] at ad
      refine ⟨by simp, by omega, by omega, fun ⟨p, q⟩ => ?_, by simp, ad.1, ad.2⟩
      have := of_decide_eq_true p
      omega
  · rw [if_neg e] at tx
    have fd : 47 ∉ numL x.den := numL_free (by decide)
    rw [tx, spl_two fs, spl_one fd] at hw
    subst hw
    rw [tx, head45] at hb
    subst hb
    rw [List.headD_cons, drop45] at ht
    have tt := ht.of (can_num _)
    rw [numL_val] at tt
    rcases hbm with ⟨w0, w1, z, hw1⟩ | ⟨z, _⟩
    · cases z
      have bb := hw1.of (can_num _)
      rw [numL_val] at bb
      subst tt bb
      have := x.den_pos
      refine ⟨by simp, by omega, by omega, fun ⟨p, q⟩ => ?_, fun ⟨_, q⟩ => e (by omega), ad.1, ad.2⟩
      have := of_decide_eq_true p
      omega
    · simp at z
/-- the number that was read -/
def numOf (b : Bool) (top bot : Int) : Rat := Rat.divInt (if b = true then -top else top) bot
theorem numOf_fields {n : Nat} {b : Bool} {top bot : Int} (g : Good n b top bot) : (numOf b top bot).num = (if b = true then -top else top) ∧ ((numOf b top bot).den : Int) = bot := by
  unfold numOf
  cases b
  · exact ⟨g.num, g.den⟩
  · show (Rat.divInt (-top) bot).num = -top ∧ ((Rat.divInt (-top) bot).den : Int) = bot
    have e : Rat.divInt (-top) bot = -(Rat.divInt top bot) := (Rat.neg_divInt _ _).symm
    rw [e]
    refine ⟨?_, ?_⟩
    · show -(Rat.divInt top bot).num = _
      rw [g.num]
    · exact g.den
theorem is_of {t : Str} {ws : List (List Nat)} {b : Bool} {top bot : Int} (hl : t.length ≤ 60) (f : RF (tl t) ws b top bot) (g : Good ws.length b top bot) : IsN t (numOf b top bot) := by
  refine ⟨ext_tl ?_, hl⟩
  obtain ⟨hw, hb, ht, hbm⟩ := f
  obtain ⟨n1, d1⟩ := numOf_fields g
  rw [tl_NText, n1]
  obtain ⟨ct, tt⟩ := ht.can g.t0
  have sg : ∀ l : List Nat, l.take 1 = (tl t).take 1 ∨ True → (ws.headD []) = l → l ≠ [] → decide (l.take 1 = [45]) = b → signL (if b = true then -top else top) = l := by
    intro l _ hh hn h45
    rw [hh] at ct tt
    cases b
    · have : l.drop 0 = l := rfl
      rw [if_neg Bool.false_ne_true, this] at ct tt
      rw [if_neg Bool.false_ne_true, tt]
      show signL ((digitsVal l : Nat) : Int) = l
      rw [nat_signL, can_val ct]
    · rw [if_pos rfl] at ct tt
      have h45' := of_decide_eq_true h45
      have e : l = 45 :: l.drop 1 := by
        cases l with
        | nil => exact absurd rfl hn
        | cons c r =>
          have : c = 45 := by simpa using h45'
          subst this; rfl
      have tp : top ≠ 0 := fun z => g.nb ⟨rfl, z⟩
      rw [if_pos rfl, tt]
      unfold signL
      rw [if_pos (by omega)]
      have : (-((digitsVal (l.drop 1) : Nat) : Int)).natAbs = digitsVal (l.drop 1) := by omega
      rw [this, can_val ct, ← e]
  rcases first_cut (tl t) with h | ⟨a, c, e, h⟩
  · rw [spl_one h] at hw
    subst hw
    rcases hbm with ⟨_, _, z, _⟩ | ⟨_, rfl⟩
    · simp at z
    · rw [if_pos (by omega)]
      refine sg (tl t) (.inr trivial) rfl (fun z => ?_) hb.symm
      rw [List.headD_cons, z] at ct
      exact ct.2.1 (by simp)
  · rw [e, spl_two h] at hw
    have an : a ≠ [] := fun z => by
      rw [hw, List.headD_cons, z] at ct
      exact ct.2.1 (by simp)
    have hb' : decide (a.take 1 = [45]) = b := by
      rw [hb, e]
      cases a with
      | nil => exact absurd rfl an
      | cons c r => simp
    rcases first_cut c with h2 | ⟨c1, c2, e2, h2⟩
    · rw [spl_one h2] at hw
      rcases hbm with ⟨w0, w1, z, hw1⟩ | ⟨z, _⟩
      · rw [hw] at z
        cases z
        obtain ⟨cc, bb⟩ := hw1.can (by have := g.b1; omega)
        have ne : ¬ (numOf b top bot).den = 1 := fun z => g.nn ⟨by rw [hw]; rfl, by omega⟩
        have dn : (numOf b top bot).den = digitsVal c := by omega
        rw [if_neg ne, sg a (.inr trivial) (by rw [hw]; rfl) an hb', dn, can_val cc, e]
      · rw [hw] at z
        simp at z
    · rw [e2, spl_two h2] at hw
      have n2 := g.n2
      have nn := spl_ne c2
      rw [hw, List.length_cons, List.length_cons] at n2
      exact absurd (List.eq_nil_of_length_eq_zero (by omega)) nn
theorem ntext_inj {x y : Rat} (h : NText x = NText y) : x = y := by
  have e := congrArg tl h
  rw [tl_NText, tl_NText] at e
  have f : ∀ z : Rat, 47 ∉ signL z.num := fun z => free_signL (by decide) (by decide) _
  have fin : x.num = y.num → x.den = y.den → x = y := fun a b => by
    rw [← Rat.num_divInt_den x, ← Rat.num_divInt_den y, a, b]
  by_cases a : x.den = 1 <;> by_cases b : y.den = 1
  · rw [if_pos a, if_pos b] at e
    exact fin (signL_inj e) (by omega)
  · rw [if_pos a, if_neg b] at e
    exact absurd (by rw [e]; simp) (f x)
  · rw [if_neg a, if_pos b] at e
    exact absurd (by rw [← e]; simp) (f y)
  · rw [if_neg a, if_neg b] at e
    have e1 := congrArg (spl [47] 0 []) e
    rw [spl_two (f x), spl_two (f y), spl_one (numL_free (by decide)), spl_one (numL_free (by decide))] at e1
    obtain ⟨p, q⟩ := List.cons.inj e1
    exact fin (signL_inj p) (numL_inj (List.cons.inj q).1)
end My

namespace My
open PySem PySem.Spec PyProof.Rows L2 TL
section
variable {X : Cx}
/-! ### text * k -/
def repT (z : Str) (k : Nat) : Str := ⟨((List.replicate k (tl z)).flatten).toArray⟩
def rRepS : R2 := fun x y H Q => ∃ (z : Str) (k : Int), x = .str z ∧ y = .int k ∧ 0 ≤ k ∧ k ≤ 1000 ∧ z.length ≤ 1000 ∧ Q (.str (repT z k.toNat)) H
theorem fold_app (z : Array Nat) : ∀ (k : Nat) (acc : Array Nat), ((List.replicate k z).foldl (· ++ ·) acc).toList = acc.toList ++ (List.replicate k z.toList).flatten
  | 0, acc => by simp
  | k + 1, acc => by
    rw [List.replicate_succ, List.foldl_cons, fold_app z k, List.replicate_succ]
    simp
theorem op_repS : OpR X (binaryOp .Mult) rRepS := by
  intro pins s σ H x y v u Q I rx ry h
  obtain ⟨z, k, rfl, rfl, h0, h1, hz, q⟩ := h
  obtain ⟨t, rfl⟩ := rx
  obtain ⟨t', rfl⟩ := ry
  have len : (repT z k.toNat).length ≤ sizeLine := by
    have e : (repT z k.toNat).length = k.toNat * z.length := by
      show ((List.replicate k.toNat (tl z)).flatten).toArray.size = _
      rw [List.size_toArray, List.length_flatten, List.map_replicate, List.sum_replicate_nat, len_tl]
    rw [e]
    have : k.toNat * z.length ≤ 1000 * 1000 := Nat.mul_le_mul (by omega) hz
    have : sizeLine = 16777216 := rfl
    omega
  have sl : sizeLine = 16777216 := rfl
  refine PySem.P.mul_str ?_ (fun h2 _ => ?_) (fun h2 _ => ?_) ?_
  · rw [decide_eq_false (by omega), decide_eq_false (by omega)]
    rfl
  · have e : (1000 : Int) ≤ (2 ^ 63 - 1) / k := by
      refine Int.le_ediv_of_mul_le (by omega) ?_
      omega
    omega
  · have : z.length * k.toNat ≤ 1000 * 1000 := Nat.mul_le_mul hz (by omega)
    unfold Builtin.Str.tooLong
    apply decide_eq_false
    omega
  · have ex : repT z k.toNat = ⟨(List.replicate k.toNat z.cps).foldl (· ++ ·) #[]⟩ := Str.ext' (Array.toList_inj.mp (by rw [fold_app]; simp [repT, tl]))
    by_cases a : k < 1
    · rw [if_pos a]
      have e : repT z k.toNat = Str.empty := by
        have : k.toNat = 0 := by omega
        rw [this]; rfl
      rw [e] at q
      exact ⟨by decide, .str _, H, I.tok _, ⟨_, rfl⟩, q⟩
    · rw [if_neg a]
      by_cases b : (k == 1 || z.length == 0) = true
      · rw [if_pos b]
        have e : repT z k.toNat = z := by
          apply ext_tl
          rcases Bool.or_eq_true_iff.mp b with b | b
          · have : k = 1 := by simpa using b
            subst this
            simp [repT, tl]
          · have : z.length = 0 := by simpa using b
            rw [len_tl] at this
            have : tl z = [] := List.eq_nil_of_length_eq_zero this
            rw [this]
            show (List.replicate k.toNat (tl z)).flatten = []
            rw [this]
            simp
        rw [e] at q
        exact ⟨.str z, H, I, ⟨t, rfl⟩, q⟩
      · rw [if_neg b]
        rw [ex] at q len
        exact ⟨len, .str _, H, I.tok _, ⟨_, rfl⟩, q⟩
/-! ### text[::-1] -/
def revS (z : Str) : Str := Txt.sliceBy z none none (-1, 0)
theorem revS_len (z : Str) : (revS z).length = z.length := step_rev_len z 0
theorem revS_mem {z : Str} {c : Nat} (h : c ∈ tl (revS z)) : c ∈ tl z := by
  have e : tl (revS z) = (List.range z.length).map fun k => z.cps.getD (z.length - 1 - k) 0 := step_rev_list z 0
  rw [e] at h
  obtain ⟨k, hk, rfl⟩ := List.mem_map.mp h
  have hk' := List.mem_range.mp hk
  have hl : z.length - 1 - k < z.cps.size := by
    have : z.length = z.cps.size := rfl
    omega
  have : z.cps.getD (z.length - 1 - k) 0 = z.cps[z.length - 1 - k] := by simp [Array.getD, hl]
  rw [this]
  show _ ∈ z.cps.toList
  simp
theorem revS_pick {z : Str} {u : Tok} : (⟨((slicePicked z none none (some (-1, u))).filterMap (z.cps[·]?)).toArray⟩ : Str) = revS z := by
  unfold revS Txt.sliceBy
  have h1 : ¬ (((((some ((-1 : Int), (0 : Tok))).map (·.1)).getD 1 == 1) && ((slicePicked z none none (some ((-1 : Int), (0 : Tok)))).length == z.length)) = true) := by
    have : ((((some ((-1 : Int), (0 : Tok))).map (·.1)).getD 1 == 1)) = false := rfl
    rw [this]; simp
  first
    | rw [if_neg h1]; rfl
    | rfl
def tRevS (te : TE) : TE := fun σ H Q => te σ H fun x H1 => ∃ z, x = .str z ∧ z.length ≤ sizeLine ∧ Q (.str (revS z)) H1
theorem pe_revS {e : Expr} {te : TE} {k : Nat} {p1 p2 p3 pos : Pos} (he : PE X e te) : PE X (.Subscript e (.Slice none none (some (.UnaryOp .USub (.Constant (.int 1) k p1) p2)) p3) pos) (tRevS te) := by
  refine ⟨fun pins s σ H Q I h => ?_⟩
  refine Subscript_ (thn (he.run pins s σ H _ I h) fun v s1 ⟨x, H1, I1, r1, q1⟩ => ?_)
  obtain ⟨z, ex, hz, q⟩ := q1
  subst ex
  obtain ⟨t, rfl⟩ := r1
  have hst : PO X (some (.UnaryOp .USub (.Constant (.int 1) k p1) p2)) (tPart (tUn (rU fun i => .int (-i)) (tC (.int 1)))) := po_some (pe_un un_neg pe_int)
  refine wpAny_Slice (thn (po_none.run pins s1 σ H1 (fun o H2 => o = none ∧ H2 = H1) I1 ⟨rfl, rfl⟩) fun vl s2 ⟨l, H2, I2, pl, el, e2⟩ => ?_)
  subst el e2
  refine thn (po_none.run pins s2 σ H2 (fun o H3 => o = none ∧ H3 = H2) I2 ⟨rfl, rfl⟩) fun vu s3 ⟨u, H3, I3, pu, eu, e3⟩ => ?_
  subst eu e3
  refine thn (hst.run pins s3 σ H3 (fun o H4 => o = some (-1) ∧ H4 = H3) I3 ⟨1, rfl, -1, rfl, rfl, rfl⟩) fun vs s4 ⟨o, H4, I4, ps, eo, e4⟩ => ?_
  subst eo e4
  have I5 : Inv X pins σ H4 { s4 with heap := s4.heap.push { cls := .type "slice", data := .fields #[vl, vu, vs] } } := I4.kept (t' := s4.toks) fun b ob q => Heap.get?_push_of_some _ q
  obtain ⟨l, rfl, el⟩ := IsPart.raw pl
  obtain ⟨u, rfl, eu⟩ := IsPart.raw pu
  obtain ⟨st, rfl, es⟩ := IsPart.raw ps
  obtain rfl : l = none := by simpa using el
  obtain rfl : u = none := by simpa using eu
  obtain ⟨⟨j, tk⟩, rfl, ej⟩ := Option.map_eq_some_iff.mp es
  obtain rfl : j = -1 := ej
  have hs : (s4.heap.push { cls := .type "slice", data := .fields #[partValue none, partValue none, partValue (some (-1, tk))] }).IsSlice s4.heap.objs.size none none (some (-1, tk)) := ⟨_, Heap.get?_push_size _ rfl, rfl, rfl⟩
  refine tail_any (ops := [.str z t, .ref s4.heap.objs.size]) (typeIs_str _ z t) (F.slot_str_getitem.lookup) ?_ (by with_unfolding_all rfl)
  refine wpAny_getItem_str_slice hs rfl ?_
  have le : (revS z).length ≤ sizeLine := by
    rw [revS_len]; exact hz
  show Made.post (if ((-1 : Int) == 1 && _) = true then _ else Made.str ⟨((slicePicked z none none (some (-1, tk))).filterMap (z.cps[·]?)).toArray⟩) _ _
  rw [if_neg (by simp), revS_pick]
  exact ⟨le, .str _, H4, I5.tok _, ⟨_, rfl⟩, q⟩
end
/-! ### enumerate(text) -/
def IteS (x : Str) : It := ⟨fun i _ => i < x.cps.size, fun i H v H' => ∃ T c, v = .ref T ∧ H T = none ∧ x.cps[i]? = some c ∧ H' = upd H T (.tup [.int (i : Nat), .str ⟨#[c]⟩]), fun i _ => x.cps.size ≤ i⟩
theorem draws_str {P : Program} {w : World} {A : Around} (hh : A.handled = none) (it : Addr) (x : Str) (t : Tok) :
    Draws P w A it [it] x.cps.size (fun i v => ∃ c u, x.cps[i]? = some c ∧ v = .str ⟨#[c]⟩ u) (fun i h => h.IsStrIter it (strIterType x) x t i) := by
  unfold strIterType
  cases x.cps.all (· < 128)
  · exact Draws.strWide hh it x t
  · exact Draws.strAscii hh it x t
theorem turn_enumS {P : Program} {w : World} {K : PySem.W.Frag} {elts : List Expr} {kk : Nat} {tpos : Pos} (x : Str) (t : Tok) (e it : Addr) :
    Turn P w K (.Tuple elts kk tpos) (IteS x) [e, it] e (fun i h => (∃ old, IsEnum h e it ((i : Nat) : Int) old) ∧ h.IsStrIter it (strIterType x) x t i ∧ e ≠ it ∧ i ≤ x.cps.size) where
  mem := by simp
  obj := fun i h st b hb => by
    obtain ⟨⟨old, he⟩, ⟨o, ho, hc, hd⟩, _⟩ := st
    have e' : b = e ∨ b = it := by simpa using hb
    rcases e' with z | z
    · rw [z]; exact ⟨_, he, fun v q => nomatch q⟩
    · rw [z]; exact ⟨o, ho, fun v q => by rw [hd] at q; cases q⟩
  keep := fun i h h' st k => let ⟨⟨old, he⟩, ⟨o, ho, r⟩, hne⟩ := st; ⟨⟨old, k e (by simp) _ he⟩, ⟨o, k it (by simp) o ho, r⟩, hne⟩
  item := by
    intro X hP hw hK hc i pins s σ H E I hf st hg
    subst hP hw hK
    obtain ⟨⟨old, he⟩, hit, hne, _⟩ := st
    have hel : e < s.heap.objs.size := Heap.lt_size he
    have hil : it < s.heap.objs.size := by obtain ⟨_, q, _⟩ := hit; exact Heap.lt_size q
    have D := draws_str (P := X.prog) (w := X.w) (A := X.A.in1) (I.ok.hd hc) it x t
    refine wpAny_pyNext_enum_itemD D he hit hg hne (by simpa using hne) fun v h' tk hv ho hit' hT hsz hk => ?_
    obtain ⟨c, u, hcx, rfl⟩ := hv
    refine ⟨_, rfl, wpAny_letOwnedTupleGo_enum (s := { s with heap := h', toks := tk + 1 }) ho fun h'' he' sb => ?_⟩
    have hT2 : h''.get? s.heap.objs.size = some { cls := .type "tuple", data := .seq #[.int i tk, .str ⟨#[c]⟩ u] } := (sb.2 _ (Nat.ne_of_gt hel)).trans hT
    have new : ObjOk X.prog X.w (upd H s.heap.objs.size (.tup [.int (i : Nat), .str ⟨#[c]⟩])) h'' s.heap.objs.size (.tup [.int (i : Nat), .str ⟨#[c]⟩]) :=
      ⟨by show 2 ≤ sizeLine; decide, [.int i tk, .str ⟨#[c]⟩ u], .cons ⟨_, rfl⟩ (.cons ⟨_, rfl⟩ .nil), ⟨_, hT2, rfl, _, rfl⟩⟩
    have I1 : Inv X pins σ (upd H s.heap.objs.size (.tup [.int (i : Nat), .str ⟨#[c]⟩])) { s with heap := h'', toks := tk + 1 } :=
      I.turnedNew (ch := [e, it]) (fun b ob hb q => (sb.2 b (fun z => hb (by simp [z]))).trans (hk b ob (fun z => hb (by simp [z])) (fun z => hb (by simp [z])) q)) hf (Nat.le_refl _) new
    refine ⟨.ref s.heap.objs.size, _, I1, rfl, ⟨_, c, rfl, I.hok.fresh (Nat.le_refl _), hcx, rfl⟩, ⟨⟨.str ⟨#[c]⟩ u, ?_⟩, ?_, hne, hg⟩, fun b hb => ?_⟩
    · have e1 : ((i + 1 : Nat) : Int) = (i : Int) + 1 := by omega
      rw [e1]; exact he'
    · obtain ⟨o, ho', r⟩ := hit'
      exact ⟨o, (sb.2 it (Ne.symm hne)).trans ho', r⟩
    · have hb' : b < s.heap.objs.size := by
        have e' : b = e ∨ b = it := by simpa using hb
        rcases e' with z | z
        · rw [z]; exact hel
        · rw [z]; exact hil
      rw [upd_ne (Nat.ne_of_lt hb')]
      exact (hf b hb).1
  done := by
    intro X hP hw hK hc i pins s σ H E I hf st hg
    subst hP hw hK
    obtain ⟨⟨old, he⟩, hit, hne, hle⟩ := st
    obtain ⟨f0, f1, f2, f3, f4, f5⟩ := hf it (by simp)
    have D := draws_str (P := X.prog) (w := X.w) (A := X.A.in1) (I.ok.hd hc) it x t
    have hi : i = x.cps.size := Nat.le_antisymm hle hg
    rw [hi] at hit
    exact wpAny_pyNext_enum_endD D he hit fun h' eb => ⟨rfl, I.turned (t' := s.toks) (fun b o hb q => eb b o hb q) f0 f1 f3 f4 f5⟩
  self := fun A i s Q E st h => let ⟨⟨_, he⟩, _⟩ := st; wpAny_pyIter_enum he h
def iEnumS (ta : TA) : L2.TI := fun σ H R => ta σ H fun vs H1 => ∃ x, vs = [.str x] ∧ R (IteS x) H1
theorem pi_enumS {X : Cx} {e : Expr} {ta : TA} {p pos tpos : Pos} {elts : List Expr} {kk : Nat} (hg : Gl X "enumerate") (hm : X.mg "enumerate" = none) (ha : PA X [e] ta) (hs : starEach [e] X.env = [(false, eval e X.env)] := by rfl) :
    PI X (.Tuple elts kk tpos) (.Call (.Name "enumerate" p) [e] [] pos) (iEnumS ta) := by
  refine ⟨fun pins s σ H R I h => ?_⟩
  refine Call_ (ld_blt I hg hm boot_enumerate (PyProof.Rows.callWith_type1 (thn (ha.run pos pins s σ H _ I h) fun us s1 ⟨vs, H1, I1, r1, q1⟩ => ?_) hs rfl))
  obtain ⟨x, ex, q⟩ := q1
  subst ex
  obtain ⟨u, rfl, t, rfl⟩ := vals1 r1
  refine call_enumerate_str fun h' he hit hsz hk => wpAny_pyIter_enum he ?_
  have I2 : Inv X pins σ H1 { s1 with heap := h' } := I1.kept (t' := s1.toks) hk
  refine ⟨s1.heap.objs.size + 1, [s1.heap.objs.size + 1, s1.heap.objs.size], _, _, H1, rfl, I2, turn_enumS x t (s1.heap.objs.size + 1) s1.heap.objs.size, ⟨⟨.none, he⟩, hit, Nat.succ_ne_self _, Nat.zero_le _⟩, fun b hb => ?_, q⟩
  have e' : b = s1.heap.objs.size + 1 ∨ b = s1.heap.objs.size := by simpa using hb
  have hle : s1.heap.objs.size ≤ b := by
    rcases e' with z | z
    · rw [z]; exact Nat.le_add_right _ _
    · rw [z]; exact Nat.le_refl _
  exact I1.fpOk hle (I1.hok.fresh hle)
end My

namespace My
open PySem L2
section
variable {σ : L2.St} {H : Hp} {Q : VK} {v x y : V} {te ta to ti : TE} {tr : TA} {K : PySem.W.Frag} {nx : L2.St → Hp → Prop} {rt : VK} {bk ct : L2.St → Hp → Prop}
theorem r_par {i j : Nat} (q : tr σ H fun vs H1 => ∃ v w, vs = [v, w] ∧ nx ((σ.set i (some v)).set j (some w)) H1) : tPar i j tr ⟨nx, rt, bk, ct⟩ σ H := q
theorem r_two {P : V → V → Prop} (q : P x y) : ∃ v w, [x, y] = [v, w] ∧ P v w := ⟨x, y, rfl, q⟩
theorem r_m1 {r : V → List V → Hp → VK → Prop} (q : to σ H fun x H1 => (∃ a, x = .str a) ∧ te σ H1 fun y H2 => r x [y] H2 Q) : tM1 r to te σ H Q := q
theorem r_isStr {a : Str} {P : Prop} (q : P) : (∃ b, V.str a = .str b) ∧ P := ⟨⟨a, rfl⟩, q⟩
theorem r_inT {t : Addr} {xs : List V} {b : Bool} (h : H t = some (.tup xs)) (f : flatV x = true) (fs : xs.all flatV = true) (e : inV x xs = b) (q : Q (.bl b) H) : rIn K false x (.ref t) H Q := ⟨t, xs, rfl, .inr (SqT.of h), f, fs, by
  subst e
  exact q⟩
theorem r_notInT {t : Addr} {xs : List V} {b : Bool} (h : H t = some (.tup xs)) (f : flatV x = true) (fs : xs.all flatV = true) (e : inV x xs = b) (q : Q (.bl (!b)) H) : rIn K true x (.ref t) H Q := ⟨t, xs, rfl, .inr (SqT.of h), f, fs, by
  subst e
  exact q⟩
theorem r_isN {P : V → Hp → Prop} {b : Bool} (e : decide (x = V.non) = b) (q : P (.bl b) H) : V.non = V.non ∧ P (.bl (decide (x = V.non))) H := ⟨rfl, by rw [e]; exact q⟩
theorem r_lcT {tl : TE} {g : TG} {tt : TT} {vs : List Nat} (q : tl σ H fun x H1 => ∃ a, x = .ref a ∧ (∃ xs, SqT K H1 a xs) ∧ ∀ D, H1 D = none → ∃ W : Nat → Nat → Hp → Prop, (∃ m, W 0 m (upd H1 D (.lst []))) ∧ ∀ i m H, W i m H →
    ((Itt K a).stop i H ∧ Q (.ref D) H) ∨ ((Itt K a).go i H ∧ ∃ Nx : Hp → Prop, (∀ H', Nx H' → ∃ m', m' < m ∧ W (i + 1) m' H') ∧ ∀ x H', (Itt K a).yld i H x H' → g x (wipe σ vs) H' fun σ2 H2 => wipe σ2 vs = wipe σ vs ∧ tt σ2 H2 fun b H3 =>
      if b = true then te σ2 H3 fun y H4 => ∃ acc, H4 D = some (.lst acc) ∧ acc.length < sizeLine ∧ Nx (upd H4 D (.lst (acc ++ [y]))) else Nx H3)) : tLc (iTup K tl) g tt te vs σ H Q := q
theorem r_rng2 {g : TG} {tb : TS} {D : Ends} (q : tr σ H fun vs H1 => ∃ i j : Int, vs = [.int i, .int j] ∧ (-(2 ^ 62) ≤ i ∧ i < 2 ^ 62 ∧ -(2 ^ 62) ≤ j ∧ j < 2 ^ 62) ∧ ∃ W : Nat → Nat → L2.St → Hp → Prop, (∃ m, W 0 m σ H1) ∧ ∀ k m σ H, W k m σ H →
    ((Itr i (j - i).toNat).stop k H ∧ D.nx σ H) ∨ ((Itr i (j - i).toNat).go k H ∧ ∃ N : L2.St → Hp → Prop, (∀ σ' H', N σ' H' → ∃ m', m' < m ∧ W (k + 1) m' σ' H') ∧ ∀ x H', (Itr i (j - i).toNat).yld k H x H' → g x σ H' fun σ2 H2 => tb { D with nx := N, ct := N, bk := D.nx } σ2 H2)) : tFor (iRng2 tr) g tb D σ H := q
theorem r_gTup {a : Addr} {xs : List V} {n : Nat} {t : TGs} {QS : L2.St → Hp → Prop} (h : H a = some (.tup xs)) (l : xs.length = n) (q : t xs σ H QS) : gTup K n t (.ref a) σ H QS := ⟨a, xs, rfl, SqT.of h, l, q⟩
theorem r_gCons {t : TG} {u : TGs} {xs : List V} {QS : L2.St → Hp → Prop} (q : t x σ H fun σ' H' => u xs σ' H' QS) : gCons t u (x :: xs) σ H QS := ⟨x, xs, rfl, q⟩
theorem r_gNil {QS : L2.St → Hp → Prop} (q : QS σ H) : gNil [] σ H QS := ⟨rfl, q⟩
theorem r_aug {i : Nat} {ti : TIp} (q : ∃ x, σ[i]? = some (some x) ∧ te σ H fun y H1 => ti x y H1 fun z H2 => nx (σ.set i (some z)) H2) : tAug i te ti ⟨nx, rt, bk, ct⟩ σ H := q
theorem r_ip {f : Int → Int → Int} {i j : Int} (q : Q (.int (f i j)) H) : ipI f (.int i) (.int j) H Q := ⟨i, j, rfl, rfl, q⟩
theorem r_bits (q : to σ H fun x H1 => ∃ i, x = .int i ∧ Q (.int (Builtin.Int.intBits i : Nat)) H1) : tBits to σ H Q := q
theorem r_dget2 {td ty tx : TE} (q : td σ H fun x H1 => ∃ a, x = .ref a ∧ IsD H1 a ∧ ty σ H1 fun y H2 => tx σ H2 fun z H3 => ∃ o, DGet H3 a y o ∧ Q (o.getD z) H3) : tDGet2 td ty tx σ H Q := q
theorem r_rng1 {g : TG} {tb : TS} {D : Ends} (q : tr σ H fun vs H1 => ∃ j : Int, vs = [.int j] ∧ -(2 ^ 62) ≤ j ∧ j < 2 ^ 62 ∧ ∃ W : Nat → Nat → L2.St → Hp → Prop, (∃ m, W 0 m σ H1) ∧ ∀ k m σ H, W k m σ H →
    ((Itr 0 j.toNat).stop k H ∧ D.nx σ H) ∨ ((Itr 0 j.toNat).go k H ∧ ∃ N : L2.St → Hp → Prop, (∀ σ' H', N σ' H' → ∃ m', m' < m ∧ W (k + 1) m' σ' H') ∧ ∀ x H', (Itr 0 j.toNat).yld k H x H' → g x σ H' fun σ2 H2 => tb { D with nx := N, ct := N, bk := D.nx } σ2 H2)) : tFor (iRng1 tr) g tb D σ H := q
end
end My

local macro_rules | `(tactic| walk_at "rd2") => `(tactic| first
  | with_reducible refine My.r_par ?_
  | with_reducible refine My.r_two ?_
  | with_reducible refine My.r_m1 ?_
  | with_reducible refine My.r_isStr ?_
  | with_reducible refine My.r_gCons ?_
  | with_reducible refine My.r_gNil ?_
  | ((with_reducible refine My.r_aug ?_); refine ⟨_, rfl, ?_⟩)
  | with_reducible refine My.r_ip ?_
  | with_reducible refine My.r_bits ?_)
local macro_rules | `(tactic| walk_at "rdg") => `(tactic| (repeat (first | walk_at "rd1" | walk_at "rd2")))

namespace My
open PySem L2
section
variable {σ : L2.St} {H : Hp} {Q : VK} {v x y : V} {te ta to ti td ty tk tv : TE} {K : PySem.W.Frag}
theorem r_disp {trs : List (TE × TE)} (q : ∀ p, H p = none → tPairs trs σ (upd H p (.dK [])) fun ps H2 => H2 p = some (.dK []) ∧ ∃ kvs : List (Key × V), ps = kvs.map (fun kv => (kV kv.1, kv.2)) ∧ kvs.length ≤ 15 ∧ Q (.ref p) (upd H2 p (.dK (mergeK [] kvs)))) : tDisp trs σ H Q := q
theorem r_pair {r : List (TE × TE)} {QP : List (V × V) → Hp → Prop} (q : tk σ H fun x H1 => tv σ H1 fun y H2 => tPairs r σ H2 fun ps H3 => QP ((x, y) :: ps) H3) : tPairs ((tk, tv) :: r) σ H QP := q
theorem r_pair0 {QP : List (V × V) → Hp → Prop} (q : QP [] H) : tPairs [] σ H QP := q
theorem r_dget (q : td σ H fun x H1 => ty σ H1 fun y H2 => ∃ a v, x = .ref a ∧ DGet H2 a y (some v) ∧ Q v H2) : tDGet td ty σ H Q := q
theorem r_din (q : ty σ H fun y H1 => td σ H1 fun x H2 => ∃ a o, x = .ref a ∧ DGet H2 a y o ∧ Q (.bl o.isSome) H2) : tDIn ty td σ H Q := q
theorem Same.dict {H : Hp} {p : Addr} {o1 o2 : HO} (h : H p = none) : Same H (upd (upd H p o1) p o2) := fun b o e => by
  rw [upd_ne (ne_of_none e h), upd_ne (ne_of_none e h)]
  exact e
end
end My

local macro_rules | `(tactic| walk_at "rd3") => `(tactic| first
  | with_reducible refine My.r_pair ?_
  | with_reducible refine My.r_pair0 ?_
  | with_reducible refine My.r_dget ?_
  | with_reducible refine My.r_din ?_)
local macro_rules | `(tactic| walk_at "rdh") => `(tactic| (repeat (first | walk_at "rd1" | walk_at "rd2" | walk_at "rd3")))

namespace My
open PySem L2
section
variable {σ : L2.St} {H : Hp} {Q : VK} {v x y : V} {te ta to ti : TE} {tr : TA} {K : PySem.W.Frag} {nx : L2.St → Hp → Prop} {rt : VK} {bk ct : L2.St → Hp → Prop}
theorem r_lcL {tl : TE} {g : TG} {tt : TT} {vs : List Nat} (q : tl σ H fun x H1 => ∃ a, x = .ref a ∧ (∃ xs, SqL K H1 a xs) ∧ ∀ D, H1 D = none → ∃ W : Nat → Nat → Hp → Prop, (∃ m, W 0 m (upd H1 D (.lst []))) ∧ ∀ i m H, W i m H →
    ((Itl K a).stop i H ∧ Q (.ref D) H) ∨ ((Itl K a).go i H ∧ ∃ Nx : Hp → Prop, (∀ H', Nx H' → ∃ m', m' < m ∧ W (i + 1) m' H') ∧ ∀ x H', (Itl K a).yld i H x H' → g x (wipe σ vs) H' fun σ2 H2 => wipe σ2 vs = wipe σ vs ∧ tt σ2 H2 fun b H3 =>
      if b = true then te σ2 H3 fun y H4 => ∃ acc, H4 D = some (.lst acc) ∧ acc.length < sizeLine ∧ Nx (upd H4 D (.lst (acc ++ [y]))) else Nx H3)) : tLc (iList K tl) g tt te vs σ H Q := q
theorem r_forL {tl : TE} {g : TG} {tb : TS} {D : Ends} (q : tl σ H fun x H1 => ∃ a, x = .ref a ∧ (∃ xs, SqL K H1 a xs) ∧ ∃ W : Nat → Nat → L2.St → Hp → Prop, (∃ m, W 0 m σ H1) ∧ ∀ i m σ H, W i m σ H →
    ((Itl K a).stop i H ∧ D.nx σ H) ∨ ((Itl K a).go i H ∧ ∃ N : L2.St → Hp → Prop, (∀ σ' H', N σ' H' → ∃ m', m' < m ∧ W (i + 1) m' σ' H') ∧ ∀ x H', (Itl K a).yld i H x H' → g x σ H' fun σ2 H2 => tb { D with nx := N, ct := N, bk := D.nx } σ2 H2)) : tFor (iList K tl) g tb D σ H := q
theorem r_cat {l b : Addr} {xs zs : List V} (h1 : H l = some (.lst xs)) (h2 : H b = some (.lst zs)) (n : xs.length + zs.length ≤ 100000) (q : ∀ p, H p = none → Q (.ref p) (upd H p (.lst (xs ++ zs)))) : rCat (.ref l) (.ref b) H Q := ⟨l, b, xs, zs, rfl, rfl, h1, h2, Nat.le_trans n (by decide), q⟩
theorem r_iteR {A B : Prop} {k : Bool} (b : B) (h : k = true → B → A) : if k = true then A else B := by
  cases k with
  | true => exact h rfl b
  | false => exact b
theorem r_inAny {t : Addr} {xs : List V} {b : Bool} {n : Bool} (h : H t = some (.tup xs)) (f : flatV x = true) (fs : xs.all flatV = true) (e : inV x xs = b) (q : Q (.bl (if n then !b else b)) H) : rIn K n x (.ref t) H Q := ⟨t, xs, rfl, .inr (SqT.of h), f, fs, by
  subst e
  cases n <;> exact q⟩
end
end My
namespace My
open PySem L2
theorem r_cut {t u : TS} {σ : L2.St} {H : Hp} {nx : L2.St → Hp → Prop} {rt : VK} {bk ct : L2.St → Hp → Prop} (Mid : L2.St → Hp → Prop) (h1 : t ⟨Mid, rt, bk, ct⟩ σ H) (h2 : ∀ σ' H', Mid σ' H' → u ⟨nx, rt, bk, ct⟩ σ' H') : C8.tCut t u ⟨nx, rt, bk, ct⟩ σ H := ⟨Mid, h1, h2⟩
end My

namespace My
open PySem L2
def top (i : Nat) : Stmt := PySem.Challenge.pw_figuretexts_k04_texts_of_no_number.main.body.getD i (.Pass ⟨0, 0, 0, 0⟩)
abbrev s_Number_init : Stmt := inClass (top 9) 0
theorem sc_Number_init : FnScope ["self", "top", "bottom", "common"] ["self", "top", "bottom"] (defScope s_Number_init) := ⟨rfl, rfl, rfl, by decide +kernel, rfl, by decide +kernel, by decide +kernel⟩
abbrev s_Number_str : Stmt := inClass (top 9) 2
theorem sc_Number_str : FnScope ["self"] ["self"] (defScope s_Number_str) := ⟨rfl, rfl, rfl, by decide +kernel, rfl, by decide +kernel, by decide +kernel⟩
abbrev s_read_number : Stmt := top 10
theorem sc_read_number : FnScope ["text", "above", "slash", "behind", "top", "bottom", "number"] ["text"] (defScope s_read_number) := ⟨rfl, rfl, rfl, by decide +kernel, rfl, by decide +kernel, by decide +kernel⟩
abbrev s_whole : Stmt := top 11
theorem sc_whole : FnScope ["text", "figures"] ["text"] (defScope s_whole) := ⟨rfl, rfl, rfl, by decide +kernel, rfl, by decide +kernel, by decide +kernel⟩
abbrev s_l_well : Stmt := top 13
theorem sc_l_well : FnScope ["_law_script", "_law_k", "_law_cell"] ["_law_script", "_law_k"] (defScope s_l_well) := ⟨rfl, rfl, rfl, by decide +kernel, rfl, by decide +kernel, by decide +kernel⟩
abbrev s_l_take : Stmt := top 14
theorem sc_l_take : FnScope ["_law_well_here", "_law_top", "_law_digit", "_law_number"] ["_law_well_here", "_law_top"] (defScope s_l_take) := ⟨rfl, rfl, rfl, by decide +kernel, rfl, by decide +kernel, by decide +kernel⟩
abbrev s_l_ten : Stmt := top 15
theorem sc_l_ten : FnScope ["_law_power", "_law_found", "_law_k"] ["_law_power"] (defScope s_l_ten) := ⟨rfl, rfl, rfl, by decide +kernel, rfl, by decide +kernel, by decide +kernel⟩
abbrev s_l_pair : Stmt := top 16
theorem sc_l_pair : FnScope ["_law_well_here", "_law_way", "_law_by", "_law_power", "_law_top", "_law_bottom", "_law_turn", "_law_signs"] ["_law_well_here"] (defScope s_l_pair) := ⟨rfl, rfl, rfl, by decide +kernel, rfl, by decide +kernel, by decide +kernel⟩
abbrev s_l_lowest : Stmt := top 17
theorem sc_l_lowest : FnScope ["_law_top", "_law_bottom", "_law_one", "_law_other"] ["_law_top", "_law_bottom"] (defScope s_l_lowest) := ⟨rfl, rfl, rfl, by decide +kernel, rfl, by decide +kernel, by decide +kernel⟩
abbrev s_l_text : Stmt := top 18
theorem sc_l_text : FnScope ["_law_top", "_law_bottom"] ["_law_top", "_law_bottom"] (defScope s_l_text) := ⟨rfl, rfl, rfl, by decide +kernel, rfl, by decide +kernel, by decide +kernel⟩
abbrev s_l_other_word : Stmt := top 19
theorem sc_l_other_word : FnScope ["_law_well_here", "_law_text_here", "_law_words", "_law_at", "_law_word", "_law_some"] ["_law_well_here", "_law_text_here"] (defScope s_l_other_word) := ⟨rfl, rfl, rfl, by decide +kernel, rfl, by decide +kernel, by decide +kernel⟩
abbrev s_l_bent : Stmt := top 20
theorem sc_l_bent : FnScope ["_law_well_here", "_law_text_here", "_law_way", "_law_signs", "_law_at", "_law_sign"] ["_law_well_here", "_law_text_here", "_law_way"] (defScope s_l_bent) := ⟨rfl, rfl, rfl, by decide +kernel, rfl, by decide +kernel, by decide +kernel⟩
abbrev s_l_whole : Stmt := top 21
theorem sc_l_whole : FnScope ["_law_word", "_law_found", "_law_k", "_law_sign"] ["_law_word"] (defScope s_l_whole) := ⟨rfl, rfl, rfl, by decide +kernel, rfl, by decide +kernel, by decide +kernel⟩
abbrev s_l_read : Stmt := top 22
theorem sc_l_read : FnScope ["_law_text_here", "_law_words", "_law_below", "_law_top", "_law_bottom"] ["_law_text_here"] (defScope s_l_read) := ⟨rfl, rfl, rfl, by decide +kernel, rfl, by decide +kernel, by decide +kernel⟩
abbrev s_l_told : Stmt := top 23
theorem sc_l_told : FnScope ["_law_thing", "_law_found", "_law_number", "e"] ["_law_thing"] (defScope s_l_told) := ⟨rfl, rfl, rfl, by decide +kernel, rfl, by decide +kernel, by decide +kernel⟩
abbrev s_law : Stmt := top 24
theorem sc_law : FnScope ["_law_script", "_law_k", "_law_well_here", "_law_spoils", "_law_pair_here", "_law_top", "_law_bottom", "_law_text_here", "_law_texts", "_law_way", "_law_more", "_law_twice", "_law_bent_here", "_law_thing", "_law_turn", "_law_one"] ["_law_script"] (defScope s_law) := ⟨rfl, rfl, rfl, by decide +kernel, rfl, by decide +kernel, by decide +kernel⟩
structure Txt (w : World) (K : PySem.W.Frag) (mg : Str → Option Value) where
  C_Number : Addr
  m_Number : mg "Number" = some (.ref C_Number)
  c_Number : Cls K C_Number
  n_Number_top : NoAttr K C_Number "top"
  n_Number_bottom : NoAttr K C_Number "bottom"
  ty_Number_c : PySem.W.findIn K (.ref C_Number) "__class__" = some (some (.builtin "object.__class__"))
  ty_Number_g : PySem.W.specialIn K (.builtin "object.__class__") "__get__" = some (some (.builtin "getset_descriptor.__get__"))
  ty_Number_t : PySem.W.takesIn K (.builtin "object.__class__") = some true
  ty_Number_m : PySem.W.mroIn K C_Number (.type "object") = some true
  ty_Number_k : PySem.W.kitOne K (.ref C_Number) (.ref C_Number) = some true
  ne_Number : PySem.W.findIn K (.ref C_Number) "__ne__" = some (some (.builtin "object.__ne__"))
  f_Number_init : Addr
  fd_Number_init : FuncData
  F_Number_init : FunD K "__init__" "Number.__init__" (defArgs s_Number_init) (defBody s_Number_init) (defScope s_Number_init) [V.int 1] [] f_Number_init fd_Number_init
  mk_Number : Mk K C_Number f_Number_init
  b_Number_init2 : Binds K fd_Number_init ["self", "top", "bottom"] []
  ds_Number_init1 : List Value
  d_Number_init1 : Vals [V.int 1] ds_Number_init1
  b_Number_init1 : Binds K fd_Number_init ["self", "top", "bottom"] ds_Number_init1
  f_Number_str : Addr
  fd_Number_str : FuncData
  F_Number_str : Fun K "__str__" "Number.__str__" s_Number_str f_Number_str fd_Number_str
  me_Number_str : Meth K C_Number "__str__" f_Number_str
  b_Number_str : Binds K fd_Number_str ["self"] []
  f_read_number : Addr
  fd_read_number : FuncData
  F_read_number : Fun K "read_number" "read_number" s_read_number f_read_number fd_read_number
  m_read_number : mg "read_number" = some (.ref f_read_number)
  b_read_number : Binds K fd_read_number ["text"] []
  f_whole : Addr
  fd_whole : FuncData
  F_whole : Fun K "_whole" "_whole" s_whole f_whole fd_whole
  m_whole : mg "_whole" = some (.ref f_whole)
  b_whole : Binds K fd_whole ["text"] []
  f_l_well : Addr
  fd_l_well : FuncData
  F_l_well : Fun K "_law_well" "_law_well" s_l_well f_l_well fd_l_well
  m_l_well : mg "_law_well" = some (.ref f_l_well)
  b_l_well : Binds K fd_l_well ["_law_script", "_law_k"] []
  f_l_take : Addr
  fd_l_take : FuncData
  F_l_take : Fun K "_law_take" "_law_take" s_l_take f_l_take fd_l_take
  m_l_take : mg "_law_take" = some (.ref f_l_take)
  b_l_take : Binds K fd_l_take ["_law_well_here", "_law_top"] []
  f_l_ten : Addr
  fd_l_ten : FuncData
  F_l_ten : Fun K "_law_ten" "_law_ten" s_l_ten f_l_ten fd_l_ten
  m_l_ten : mg "_law_ten" = some (.ref f_l_ten)
  b_l_ten : Binds K fd_l_ten ["_law_power"] []
  f_l_pair : Addr
  fd_l_pair : FuncData
  F_l_pair : Fun K "_law_pair" "_law_pair" s_l_pair f_l_pair fd_l_pair
  m_l_pair : mg "_law_pair" = some (.ref f_l_pair)
  b_l_pair : Binds K fd_l_pair ["_law_well_here"] []
  f_l_lowest : Addr
  fd_l_lowest : FuncData
  F_l_lowest : Fun K "_law_lowest" "_law_lowest" s_l_lowest f_l_lowest fd_l_lowest
  m_l_lowest : mg "_law_lowest" = some (.ref f_l_lowest)
  b_l_lowest : Binds K fd_l_lowest ["_law_top", "_law_bottom"] []
  f_l_text : Addr
  fd_l_text : FuncData
  F_l_text : Fun K "_law_text" "_law_text" s_l_text f_l_text fd_l_text
  m_l_text : mg "_law_text" = some (.ref f_l_text)
  b_l_text : Binds K fd_l_text ["_law_top", "_law_bottom"] []
  f_l_other_word : Addr
  fd_l_other_word : FuncData
  F_l_other_word : Fun K "_law_other_word" "_law_other_word" s_l_other_word f_l_other_word fd_l_other_word
  m_l_other_word : mg "_law_other_word" = some (.ref f_l_other_word)
  b_l_other_word : Binds K fd_l_other_word ["_law_well_here", "_law_text_here"] []
  f_l_bent : Addr
  fd_l_bent : FuncData
  F_l_bent : Fun K "_law_bent" "_law_bent" s_l_bent f_l_bent fd_l_bent
  m_l_bent : mg "_law_bent" = some (.ref f_l_bent)
  b_l_bent : Binds K fd_l_bent ["_law_well_here", "_law_text_here", "_law_way"] []
  f_l_whole : Addr
  fd_l_whole : FuncData
  F_l_whole : Fun K "_law_whole" "_law_whole" s_l_whole f_l_whole fd_l_whole
  m_l_whole : mg "_law_whole" = some (.ref f_l_whole)
  b_l_whole : Binds K fd_l_whole ["_law_word"] []
  f_l_read : Addr
  fd_l_read : FuncData
  F_l_read : Fun K "_law_read" "_law_read" s_l_read f_l_read fd_l_read
  m_l_read : mg "_law_read" = some (.ref f_l_read)
  b_l_read : Binds K fd_l_read ["_law_text_here"] []
  f_l_told : Addr
  fd_l_told : FuncData
  F_l_told : Fun K "_law_told" "_law_told" s_l_told f_l_told fd_l_told
  m_l_told : mg "_law_told" = some (.ref f_l_told)
  b_l_told : Binds K fd_l_told ["_law_thing"] []
  f_law : Addr
  fd_law : FuncData
  F_law : Fun K "law" "law" s_law f_law fd_law
  m_law : mg "law" = some (.ref f_law)
  b_law : Binds K fd_law ["_law_script"] []
  f_NoTextI : Addr
  C_NoText : Addr
  m_NoText : mg "NoText" = some (.ref C_NoText)
  e_NoText : PySem.ErV.ErrCls K C_NoText f_NoTextI
  x_NoText : ExcC K C_NoText
  ty_NoText : PySem.W.typeIn K (.ref C_NoText) = some (.type "type")
  no_NoText : PySem.W.findIn K (.ref C_NoText) "at" = some none
  fn_NoText : PySem.ErV.Fn_at K f_NoTextI "NoText.__init__"
  C_FigureError : Addr
  m_FigureError : mg "FigureError" = some (.ref C_FigureError)
  kt_FigureError : PySem.W.kitOne K (.ref C_NoText) (.ref C_FigureError) = some false
  C_NoBottom : Addr
  m_NoBottom : mg "NoBottom" = some (.ref C_NoBottom)
  kt_NoBottom : PySem.W.kitOne K (.ref C_NoText) (.ref C_NoBottom) = some false
  C_Unsorted : Addr
  m_Unsorted : mg "Unsorted" = some (.ref C_Unsorted)
  kt_Unsorted : PySem.W.kitOne K (.ref C_NoText) (.ref C_Unsorted) = some false
  kt_VE : PySem.W.kitOne K (.ref C_NoText) (.type "ValueError") = some true
  te_NoText : PySem.W.exmOne K (.ref C_NoText) (.ref C_NoText) = some true
  n_ValueError : mg "ValueError" = none
  gt_NoText : ErrGet K C_NoText "at"
  kN_str : PySem.W.kitOne K (.ref C_Number) (.type "str") = some false
  m_gcd : mg "gcd" = some (.builtin "math.gcd")
  n_range : mg "range" = none
  n_isinstance : mg "isinstance" = none
  n_str : mg "str" = none
  n_int : mg "int" = none
  n_len : mg "len" = none
  n_abs : mg "abs" = none
  n_max : mg "max" = none
  n_min : mg "min" = none
  n_repr : mg "repr" = none
  n_enumerate : mg "enumerate" = none
  u_LONGEST_TEXT : Value
  m_LONGEST_TEXT : mg "LONGEST_TEXT" = some u_LONGEST_TEXT
  r_LONGEST_TEXT : RelV (.int 60) u_LONGEST_TEXT

section
variable {P : Program} {w : World} {K : PySem.W.Frag} {mg : Str → Option Value} {base : Heap}
/-! ### Number -/
def nf (q : Rat) : List (Str × V) := [("top", .int q.num), ("bottom", .int (q.den : Int))]
theorem tb_ : ¬ (("top" : Str) = "bottom") := by decide +kernel
theorem bt_ : ¬ (("bottom" : Str) = "top") := by decide +kernel
theorem nf_put (a b : Int) : putF "bottom" (.int b) (putF "top" (.int a) []) = ([("top", V.int a), ("bottom", V.int b)] : List (Str × V)) := by
  show (if ("top" : Str) = "bottom" then [(("top" : Str), V.int b)] else (("top" : Str), V.int a) :: putF "bottom" (V.int b) []) = ([("top", V.int a), ("bottom", V.int b)] : List (Str × V))
  rw [if_neg tb_]
  all_goals rfl
theorem nf_top (q : Rat) : (nf q).lookup ("top" : Str) = some (.int q.num) := by
  have e : (("top" : Str) == "top") = true := by decide +kernel
  unfold nf
  simp only [List.lookup, e]
theorem nf_bottom (q : Rat) : (nf q).lookup ("bottom" : Str) = some (.int (q.den : Int)) := by
  have e : (("bottom" : Str) == "top") = false := by decide +kernel
  have e' : (("bottom" : Str) == "bottom") = true := by decide +kernel
  unfold nf
  simp only [List.lookup, e, e']
theorem nf_no (q : Rat) {m : Str} (h1 : (m == "top") = false) (h2 : (m == "bottom") = false) : (nf q).lookup m = none := by
  unfold nf
  simp only [List.lookup, h1, h2]
/-- the Number q stands at p -/
def NumAt (C : Addr) (H : Hp) (p : Addr) (q : Rat) : Prop := ∃ dx, H p = some (.ins C dx (nf q))
theorem NumAt.same {C : Addr} {H H' : Hp} {p : Addr} {q : Rat} (s : Same H H') (h : NumAt C H p q) : NumAt C H' p q := let ⟨dx, e⟩ := h; ⟨dx, s _ _ e⟩

def spInit (C : Addr) : Sp := fun vs H Q _ => ∃ (p dx : Addr) (t b : Int), vs = [.ref p, .int t, .int b] ∧ H p = some (.ins C dx []) ∧ b ≠ 0 ∧ b.natAbs < 2 ^ 9000 ∧ Q .non (upd H p (.ins C dx (nf (Rat.divInt t b))))
theorem ok_Number_init (T : Txt w K mg) : FnOk P w K mg base CX0 1 T.f_Number_init T.fd_Number_init ["self", "top", "bottom"] (spInit T.C_Number) := by
  refine T.F_Number_init.ok sc_Number_init (fun vs H Q E h => ?_) (fun cdv A outer s H vs Q E hr h => ?_)
  · obtain ⟨p, dx, t, b, rfl, _⟩ := h
    rfl
  · obtain ⟨p, dx, t, b, rfl, hp, hb, hl, k⟩ := h
    refine ⟨_, (pss_cons (ps_if (pt_cmpR op_eq (pv 2) pe_int (nomark _))
  (pss_one ps_never)
  pss_nil)
 (pss_cons (ps_set (i := 3) sc_Number_init.nd rfl (Or.inl rfl) (pe_callBfun cr_gcd (by rfl) T.m_gcd (pa_cons (pv 1) (pa_cons (pv 2) pa_nil))))
 (pss_cons (ps_if (pt_cmpR op_lt (pv 2) pe_int (nomark _))
  (pss_one (ps_set (i := 3) sc_Number_init.nd rfl (Or.inl rfl) (pe_un un_neg (pv 3))))
  pss_nil)
 (pss_cons (ps_fld (pv 0) (pe_op op_fdivA (pv 1) (pv 3)) rfl)
 (pss_one (ps_fld (pv 0) (pe_op op_fdivA (pv 2) (pv 3)) rfl)))))), ?_⟩
    walk_at "rd"
    refine r_iteF (decide_eq_false hb) ?_
    walk_at "rd"
    refine ⟨_, _, rfl, ?_⟩
    have fin : ∀ c : Int, c = cdiv t b → sFld K (tVar 0) (tOp (rI CDivA fun i j => .int (i.fdiv j)) (tVar 1) (tVar 3)) "top" ⟨sFld K (tVar 0) (tOp (rI CDivA fun i j => .int (i.fdiv j)) (tVar 2) (tVar 3)) "bottom" ⟨fun _ H' => Q .non H', Q, fun _ _ => False, fun _ _ => False⟩, Q, fun _ _ => False, fun _ _ => False⟩ [some (.ref p), some (.int t), some (.int b), some (.int c)] H := by
      rintro c rfl
      have hg := gcd_pos (t := t) hb
      have hc : CDivA t (cdiv t b) ∧ CDivA b (cdiv t b) := by
        have n0 : cdiv t b ≠ 0 := by unfold cdiv; split <;> omega
        have nb : (cdiv t b).natAbs < 2 ^ 9000 := by
          have le : Nat.gcd t.natAbs b.natAbs ≤ b.natAbs := Nat.le_of_dvd (by omega) (Nat.gcd_dvd_right _ _)
          have e : (cdiv t b).natAbs = Nat.gcd t.natAbs b.natAbs := by unfold cdiv; split <;> omega
          rw [e]
          exact Nat.lt_of_le_of_lt le hl
        exact ⟨cdivA n0 nb (by decide) (Nat.le_refl _), cdivA n0 nb (by decide) (Nat.le_refl _)⟩
      walk_at "rd"
      refine r_I hc.1 ?_
      walk_at "rd"
      refine ⟨p, T.C_Number, dx, [], rfl, hp, T.c_Number, T.n_Number_top, (by show 0 < 1000; decide), ?_⟩
      walk_at "rd"
      refine r_I hc.2 ?_
      walk_at "rd"
      refine ⟨p, T.C_Number, dx, _, rfl, upd_same, T.c_Number, T.n_Number_bottom, (by show 1 < 1000; decide), ?_⟩
      show Q .non (upd (upd H p _) p (.ins T.C_Number dx (putF "bottom" _ (putF "top" _ []))))
      rw [upd_upd, nf_put, num_of hb, den_of hb]
      exact k
    walk_at "rd"
    refine r_ite (fun hn => ?_) (fun hn => ?_)
    · iterate 5 walk_at "rd1"
      refine fin _ ?_
      unfold cdiv
      rw [if_pos (of_decide_eq_true hn)]
    · iterate 1 walk_at "rd1"
      refine fin _ ?_
      unfold cdiv
      rw [if_neg (of_decide_eq_false hn)]
end
end My
local macro_rules | `(tactic| walk_at "fld") => `(tactic| refine My.r_fld (by assumption) (by assumption) (by assumption) (by first | exact My.nf_top _ | exact My.nf_bottom _) ?_)
local macro_rules | `(tactic| walk_at "rdf") => `(tactic| (repeat (first | walk_at "rd1" | walk_at "fld")))


namespace My
open PySem L2
section
variable {P : Program} {w : World} {K : PySem.W.Frag} {mg : Str → Option Value} {base : Heap}
/-- a Number made at once -/
theorem mk_num {C : Addr} {H : Hp} {t b : Int} {R : Addr → Hp → Prop} {E : XK} (hb : b ≠ 0) (hl : b.natAbs < 2 ^ 9000) (q : ∀ (p : Addr) (H' : Hp), Same H H' → H p = none → NumAt C H' p (Rat.divInt t b) → R p H') :
    ∀ x dx, H x = none → H dx = none → dx ≠ x → spInit C (.ref x :: ([V.int t, V.int b] ++ [])) (upd (upd H dx (.own x)) x (.ins C dx [])) (fun v H2 => v = .non ∧ R x H2) E := by
  intro x dx nx ndx ne
  refine ⟨x, dx, t, b, rfl, upd_same, hb, hl, rfl, q x _ (fun y o e => ?_) nx ⟨dx, upd_same⟩⟩
  rw [upd_ne (ne_of_none e nx), upd_ne (ne_of_none e nx), upd_ne (ne_of_none e ndx)]
  exact e
theorem mk_num1 {C : Addr} {H : Hp} {t : Int} {R : Addr → Hp → Prop} {E : XK} (q : ∀ (p : Addr) (H' : Hp), Same H H' → H p = none → NumAt C H' p (t : Rat) → R p H') :
    ∀ x dx, H x = none → H dx = none → dx ≠ x → spInit C (.ref x :: ([V.int t] ++ [V.int 1])) (upd (upd H dx (.own x)) x (.ins C dx [])) (fun v H2 => v = .non ∧ R x H2) E :=
  mk_num (by decide) (Nat.lt_of_lt_of_le (by decide : Int.natAbs 1 < 2 ^ 1) (Nat.pow_le_pow_right (by decide) (by decide))) fun p H' s n h => q p H' s n (divInt_one t ▸ h)
/-- two Numbers in, one out -/
def spBin (C : Addr) (f : Rat → Rat → Rat) (ok : Rat → Rat → Prop) : Sp := fun vs H Q _ => ∃ (p q : Addr) (x y : Rat), vs = [.ref p, .ref q] ∧ NumAt C H p x ∧ NumAt C H q y ∧ Bd 4000 x ∧ Bd 4000 y ∧ ok x y ∧
  ∀ (r : Addr) (H' : Hp), Same H H' → H r = none → NumAt C H' r (f x y) → Q (.ref r) H'
theorem bd_den {n : Nat} {x : Rat} (h : Bd n x) : ((x.den : Nat) : Int).natAbs < 2 ^ n := by have := h.2; omega
theorem dd_ne (x y : Rat) : (x.den : Int) * (y.den : Int) ≠ 0 := Int.mul_ne_zero (den_ne x) (den_ne y)
theorem dd_lt {x y : Rat} (hx : Bd 4000 x) (hy : Bd 4000 y) : ((x.den : Int) * (y.den : Int)).natAbs < 2 ^ 9000 := natAbs_mul_lt (bd_den hx) (bd_den hy) (by decide)
theorem cm {i j : Int} (hi : i.natAbs < 2 ^ 4000) (hj : j.natAbs < 2 ^ 4000) : CMulW i j := wide_mul hi hj (by decide) (by decide) (by decide)
end
end My

namespace My
open PySem PySem.Spec PyProof.Rows L2
section
variable {P : Program} {w : World} {K : PySem.W.Frag} {mg : Str → Option Value} {base : Heap}
theorem Fun.okN {x qual : Str} {st : Stmt} {f : Addr} {fd : FuncData} {N ps : List Str} {k : Nat} {sp : Sp} (F : Fun K x qual st f fd) (S : FnScope N ps (defScope st)) (len : ∀ vs H Q E, sp vs H Q E → vs.length = ps.length)
    (hbody : ∀ (cdv : Value) (A : Around) (outer : List Env) (s : Shared) (H : Hp) (vs : List V) (Q : VK) (E : XK), Room k (A.deeper (envOfC qual (defScope st) s.heap.objs.size f cdv)) → sp vs H Q E →
      ∃ t, PSs (cxOf (L2N.CX P w) P w K mg base N qual (defScope st) f cdv A outer s H E) (defBody st) t ∧ t { nx := fun _ H' => Q .non H', rt := Q } (start N vs) H) : FnOk P w K mg base (L2N.CX P w) (k + 1) f fd ps sp := by
  obtain ⟨oc, od, kV, doc, pm, an, cdv, ct, osl, rfl, lk, hcd⟩ := F.ex
  exact fn_of lk hcd S len fun A outer s H vs Q E hr hsp => hbody cdv A outer s H vs Q E hr hsp
theorem takes0N {X : Cx} : L2N.Takes X (fun _ _ _ _ => False) := fun _ _ x => by
  obtain ⟨_, _, _, _, _, _, _, _, _, _, _, _, _, _, _, _, z⟩ := x
  exact z.elim
end
end My
namespace My
open PySem L2 TL NumText
section
variable {P : Program} {w : World} {K : PySem.W.Frag} {mg : Str → Option Value} {base : Heap}
section
variable {σ : L2.St} {H : Hp} {Q : VK} {x : V} {to te : TE}
theorem r_m0 {r : V → List V → Hp → VK → Prop} (q : to σ H fun x H1 => (∃ a, x = .str a) ∧ r x [] H1 Q) : tM0 r to σ H Q := q
theorem r_tj {t : TE} {ts : List TE} {acc : Str} {QJ : Str → Hp → Prop} (q : t σ H fun x H1 => ∃ y : Str, x = .str y ∧ (acc ++ y).length ≤ sizeLine ∧ tJs ts (acc ++ y) σ H1 QJ) : tJs (t :: ts) acc σ H QJ := q
theorem r_tj0 {acc : Str} {QJ : Str → Hp → Prop} (q : QJ acc H) : tJs [] acc σ H QJ := q
theorem r_fmt (q : te σ H fun x H1 => (∃ y : Str, x = .str y ∧ y.length ≤ sizeLine ∧ Q (.str y) H1) ∨ ∃ i : Int, x = .int i ∧ i.natAbs.log2 < 1920 ∧ Q (.str (toString i)) H1) : tFmt te σ H Q := q
theorem r_str {z : Str} {P : Prop} (q : P) : (∃ a, V.str z = .str a) ∧ P := ⟨⟨z, rfl⟩, q⟩
end
theorem bits1920 {i : Int} (h : i.natAbs < 2 ^ 900) : i.natAbs.log2 < 1920 := Nat.lt_of_lt_of_le (PySem.Flt.log2_lt_of (by decide) h) (by decide)
theorem TI_short {i : Int} (h : i.natAbs < 2 ^ 900) : (TI i).length ≤ 2000 := Nat.le_trans (PyProof.Rows.int_text_len_1921 (bits1920 h)) (by decide)
def spStr (C : Addr) : Sp := fun vs H Q _ => ∃ (p : Addr) (x : Rat), vs = [.ref p] ∧ NumAt C H p x ∧ Bd 900 x ∧ Q (.str (NText x)) H
theorem ok_Number_str (T : Txt w K mg) : FnOk P w K mg base CX0 1 T.f_Number_str T.fd_Number_str ["self"] (spStr T.C_Number) := by
  refine T.F_Number_str.ok sc_Number_str (fun vs H Q E h => ?_) (fun cdv A outer s H vs Q E hr h => ?_)
  · obtain ⟨p, x, rfl, _⟩ := h
    rfl
  · obtain ⟨p, x, rfl, ⟨dx, hp⟩, bx, k⟩ := h
    have cN := T.c_Number
    have nT := T.n_Number_top
    have nB := T.n_Number_bottom
    refine ⟨_, (pss_cons (ps_if (pt_cmpR op_eq (pe_fld (pv 0) rfl) pe_int (nomark _))
  (pss_one (ps_ret (pe_callTy call_str_int (by rfl) T.n_str (by decide +kernel) (pa_cons (pe_fld (pv 0) rfl) pa_nil))))
  pss_nil)
 (pss_one (ps_ret (pe_joined (.cons (pe_fmt (pe_fld (pv 0) rfl)) (.cons pe_str (.cons (pe_fmt (pe_fld (pv 0) rfl)) .nil))))))), ?_⟩
    have bn := bx.1
    have bd := bd_den bx
    walk_at "rdf"
    refine r_ite (fun e => ?_) (fun e => ?_)
    · have e' : x.den = 1 := by have := of_decide_eq_true e; omega
      walk_at "rdf"
      refine ⟨_, rfl, bits1920 bn, ?_⟩
      have : NText x = TI x.num := if_pos e'
      rw [this] at k
      exact k
    · have e' : x.den ≠ 1 := by have := of_decide_eq_false e; omega
      have nt : NText x = TI x.num ++ "/" ++ TI (x.den : Int) := if_neg e'
      have l1 := TI_short bn
      have l2 := TI_short bd
      have ll : (TI x.num ++ "/" ++ TI (x.den : Int)).length ≤ 5000 := by
        rw [← nt, NText_len, if_neg e', ← nat_signL, ← TI_len, ← TI_len]
        omega
      walk_at "rdf"
      have sl : sizeLine = 16777216 := rfl
      have e1 : Str.empty ++ Str.ofString (toString x.num) = TI x.num := ext_tl (by rw [tl_append]; rfl)
      have l3 : (TI x.num ++ ("/" : Str)).length ≤ 3000 := by
        rw [len_tl, tl_append, List.length_append, ← len_tl]
        have : (tl ("/" : Str)).length = 1 := rfl
        omega
      refine r_tj (r_fmt ?_)
      walk_at "rdf"
      refine .inr ⟨_, rfl, bits1920 bn, ?_⟩
      refine ⟨_, rfl, by rw [e1]; omega, ?_⟩
      rw [e1]
      refine r_tj ?_
      walk_at "rdf"
      refine ⟨_, rfl, by omega, ?_⟩
      refine r_tj (r_fmt ?_)
      walk_at "rdf"
      refine .inr ⟨_, rfl, bits1920 bd, ?_⟩
      refine ⟨_, rfl, by show (TI x.num ++ "/" ++ TI (x.den : Int)).length ≤ sizeLine; omega, ?_⟩
      refine r_tj0 ?_
      rw [nt] at k
      exact k
theorem is_str {w : World} {K : PySem.W.Frag} {H : Hp} {z : Str} {Q : VK} (q : Q (.bl true) H) : rIsi K [.str z, .ty "str"] H Q :=
  ⟨.str z, .ty "str", .type "str", .type "str", true, rfl, .ty "str", .base (.str z), kit_ty (by decide +kernel), q⟩
/-- str(number), as it is read -/
theorem rd_strOwn {C : Addr} {H : Hp} {p : Addr} {x : Rat} {Q : VK} (hp : NumAt C H p x) (bx : Bd 900 x) (q : Q (.str (NText x)) H) : rStrOwn C (spStr C) [.ref p] H Q := by
  obtain ⟨dx, e⟩ := hp
  exact ⟨p, dx, _, rfl, e, p, x, rfl, ⟨dx, e⟩, bx, _, rfl, q⟩
theorem r_neS {H : Hp} {Q : VK} {i j : Str} (q : Q (.bl (!decide (i = j))) H) : rNe (.str i) (.str j) H Q := ⟨rfl, by
  have e : decide (V.str i = V.str j) = decide (i = j) := by simp
  rw [e]; exact q⟩
def spWholeA : Sp := fun vs H Q _ => ∃ t : Str, vs = [.str t] ∧ t.length ≤ 60 ∧ (∀ i, t = TI i → Q (.int i) H) ∧ ((∀ i, t ≠ TI i) → Q .non H ∧ ∀ i : Int, i.natAbs < 10 ^ 60 → Q (.int i) H)
theorem whole_good {i : Int} {H : Hp} {Q : VK} {E : XK} (h : (TI i).length ≤ 60) (q : Q (.int i) H) : spWholeA ([V.str (TI i)] ++ []) H Q E :=
  ⟨TI i, rfl, h, fun j e => TI_inj e ▸ q, fun n => absurd rfl (n i)⟩
theorem whole_any {t : Str} {H : Hp} {Q : VK} {E : XK} (h : t.length ≤ 60) (q0 : Q .non H) (q : ∀ i : Int, i.natAbs < 10 ^ 60 → Q (.int i) H) : spWholeA ([V.str t] ++ []) H Q E := by
  refine ⟨t, rfl, h, fun j e => ?_, fun n => ⟨q0, q⟩⟩
  subst e
  refine q j ?_
  have l := h
  rw [TI_len] at l
  have v : (numL j.natAbs).length ≤ 60 := by
    unfold signL at l
    split at l
    · rw [List.length_cons] at l; omega
    · exact l
  have := val_lt (numL_digits j.natAbs)
  rw [numL_val] at this
  exact Nat.lt_of_lt_of_le this (Nat.pow_le_pow_right (by decide) v)
theorem dig_int {t : Str} (h1 : Txt.isascii (Txt.removeprefix t "-") = true) (h2 : Txt.isdigit (Txt.removeprefix t "-") = true) (hl : t.length ≤ 60) : ∃ i : Int, intText? t = some i ∧ i.natAbs < 10 ^ 60 := by
  unfold Txt.isascii at h1
  unfold Txt.isdigit at h2
  rw [all_list, List.all_eq_true] at h1
  rw [all_list, Bool.and_eq_true, List.all_eq_true] at h2
  obtain ⟨n0, h2⟩ := h2
  have dg : AllDigits (tl (Txt.removeprefix t "-")) := fun c hc => by
    have a := of_decide_eq_true (h1 c hc)
    have b := h2 c hc
    rw [PyProof.Rows.cls_isdigit c a] at b
    have b' : 48 ≤ c ∧ c ≤ 57 := by simpa [PyProof.Rows.inR, Spec.ltCps] using b
    exact b'
  have ne : tl (Txt.removeprefix t "-") ≠ [] := fun z => by
    have := of_decide_eq_true n0
    rw [len_tl, z] at this
    exact absurd this (by decide)
  have bd : ∀ l : List Nat, AllDigits l → l.length ≤ 60 → digitsVal l < 10 ^ 60 := fun l h hl => Nat.lt_of_lt_of_le (val_lt h) (Nat.pow_le_pow_right (by decide) hl)
  rw [PySem.StrLaws.removeprefix_eq] at dg ne
  have ht : t.cps.toList = tl t := rfl
  have ll := len_tl t
  have hy : ("-" : Str).cps.toList = [45] := rfl
  have y1 : ("-" : Str).length = 1 := rfl
  rw [PySem.StrLaws.subAt_eq, ht, hy, y1, List.drop_zero] at dg ne
  by_cases c : (decide (0 + 1 ≤ t.length) && ((tl t).take 1 == [45])) = true
  · rw [if_pos c] at dg ne
    rw [Bool.and_eq_true] at c
    have c2 : (tl t).take 1 = [45] := by simpa using c.2
    have e : tl t = 45 :: (tl t).drop 1 := by
      cases z : tl t with
      | nil => rw [z] at c2; cases c2
      | cons a r =>
        rw [z] at c2
        have : a = 45 := by simpa using c2
        subst this; rfl
    have full : ((tl t).drop 1).take (t.length - 1) = (tl t).drop 1 := List.take_of_length_le (by rw [List.length_drop]; omega)
    have dg' : AllDigits ((tl t).drop 1) := by
      have := dg
      rw [tl_mk, full] at this
      exact this
    have ne' : (tl t).drop 1 ≠ [] := by
      have := ne
      rw [tl_mk, full] at this
      exact this
    refine ⟨_, intText_neg e dg' ne' (by omega), ?_⟩
    have := bd _ dg' (by rw [List.length_drop]; omega)
    omega
  · rw [if_neg c] at dg ne
    refine ⟨_, intText_digits dg ne (by omega), ?_⟩
    have := bd _ dg (by omega)
    show ((digitsVal (tl t) : Nat) : Int).natAbs < _
    omega
theorem ok_whole (T : Txt w K mg) : FnOk P w K mg base CX0 1 T.f_whole T.fd_whole ["text"] spWholeA := by
  refine T.F_whole.ok sc_whole (fun vs H Q E h => ?_) (fun cdv A outer s H vs Q E hr h => ?_)
  · obtain ⟨i, rfl, _⟩ := h
    rfl
  · obtain ⟨t, rfl, hl, kg, kb⟩ := h
    refine ⟨_, (pss_cons (ps_set (i := 1) sc_whole.nd rfl (Or.inl rfl) (pe_m1 PySem.F.slot_str_removeprefix PySem.F.type_str_removeprefix mt_removeprefix (pv 0) pe_str))
 (pss_cons (ps_if (PW.pt (pw_or (pt_not (pt_val (pe_m0 PySem.F.slot_str_isascii PySem.F.type_str_isascii mt_isascii (pv 1)))) (pw_or1 (pt_not (pt_val (pe_m0 PySem.F.slot_str_isdigit PySem.F.type_str_isdigit mt_isdigit (pv 1)))))))
  (pss_one (ps_ret pe_non))
  pss_nil)
 (pss_one (ps_ret (pe_callTy call_int_str (by rfl) T.n_int (by decide +kernel) (pa_cons (pv 0) pa_nil)))))), ?_⟩
    by_cases ex : ∃ i, t = TI i
    · obtain ⟨i, rfl⟩ := ex
      have k := kg i rfl
      walk_at "rdg"
      refine ⟨_, _, rfl, rfl, Nat.le_trans hl (by decide), ?_⟩
      walk_at "rdg"
      refine r_m0 ?_
      walk_at "rdg"
      refine ⟨_, rfl, rfl, trivial, ?_⟩
      walk_at "rdg"
      rw [ascii_off]
      refine r_iteF rfl ?_
      walk_at "rdg"
      refine r_m0 ?_
      walk_at "rdg"
      refine ⟨_, rfl, rfl, trivial, ?_⟩
      walk_at "rdg"
      rw [digits_off]
      refine r_iteF rfl ?_
      walk_at "rdg"
      exact ⟨_, i, rfl, int_TI (by omega), by omega, k⟩
    · obtain ⟨k0, k⟩ := kb fun i e => ex ⟨i, e⟩
      walk_at "rdg"
      refine ⟨_, _, rfl, rfl, Nat.le_trans hl (by decide), ?_⟩
      walk_at "rdg"
      refine r_m0 ?_
      walk_at "rdg"
      refine ⟨_, rfl, rfl, trivial, ?_⟩
      walk_at "rdg"
      refine r_ite (fun e => ?_) (fun e => ?_)
      · walk_at "rdg"
        refine r_iteT rfl ?_
        walk_at "rdg"
        exact k0
      · walk_at "rdg"
        refine r_m0 ?_
        walk_at "rdg"
        refine ⟨_, rfl, rfl, trivial, ?_⟩
        walk_at "rdg"
        refine r_ite (fun e2 => ?_) (fun e2 => ?_)
        · walk_at "rdg"
          exact k0
        · have e1' : Txt.isascii (Txt.removeprefix t "-") = true := by simpa using e
          have e2' : Txt.isdigit (Txt.removeprefix t "-") = true := by simpa using e2
          obtain ⟨i, hi, bi⟩ := dig_int e1' e2' hl
          walk_at "rdg"
          exact ⟨_, i, rfl, hi, by omega, k i bi⟩
/-! ### read_number of anything -/
/-- things that are no texts -/
inductive NoTx (C : Addr) (H : Hp) : V → Prop
  | non : NoTx C H .non
  | int (i : Int) : NoTx C H (.int i)
  | bl (b : Bool) : NoTx C H (.bl b)
  | tup {p : Addr} {xs : List V} : H p = some (.tup xs) → NoTx C H (.ref p)
  | lst {p : Addr} {xs : List V} : H p = some (.lst xs) → NoTx C H (.ref p)
  | dic {p : Addr} {kv : List (Key × V)} : H p = some (.dK kv) → NoTx C H (.ref p)
  | num {p : Addr} {x : Rat} : NumAt C H p x → NoTx C H (.ref p)
theorem NoTx.same {C : Addr} {H H' : Hp} {v : V} (s : Same H H') (h : NoTx C H v) : NoTx C H' v := by
  cases h with
  | non => exact .non
  | int i => exact .int i
  | bl b => exact .bl b
  | tup h => exact .tup (s _ _ h)
  | lst h => exact .lst (s _ _ h)
  | dic h => exact .dic (s _ _ h)
  | num h => exact .num (h.same s)
theorem no_str (T : Txt w K mg) {H : Hp} {v : V} {Q : VK} (h : NoTx T.C_Number H v) (q : Q (.bl false) H) : rIsi K [v, .ty "str"] H Q := by
  have go : ∀ {t : String}, TyX K H v (.type t) → kitB t "str" = some false → rIsi K [v, .ty "str"] H Q := fun {t} ty k => ⟨v, .ty "str", .type t, .type "str", false, rfl, .ty _, ty, kit_ty k, q⟩
  cases h with
  | non => exact go (.base .non) (by decide +kernel)
  | int i => exact go (.base (.int i)) (by decide +kernel)
  | bl b => exact go (.base (.bl b)) (by decide +kernel)
  | tup h => exact go (.base (.tup h)) (by decide +kernel)
  | lst h => exact go (.base (.lst h)) (by decide +kernel)
  | dic h => exact go (.base (.dK h)) (by decide +kernel)
  | num h =>
    obtain ⟨dx, e⟩ := h
    exact ⟨_, .ty "str", .ref T.C_Number, .type "str", false, rfl, .ty _, .base (.ins e T.c_Number T.ty_Number_c T.ty_Number_g T.ty_Number_t T.ty_Number_m), T.kN_str, q⟩
def atX : HO := .xd [(("at" : Str), .int 0)]
/-- the refusal -/
def Refuse (NT : Addr) (H : Hp) (E : XK) : Prop := ∀ (H1 : Hp) (d : Addr), Same H H1 → H1 d = none → E (.ref NT) (some d) (upd H1 d atX)
theorem Refuse.same {NT : Addr} {H H' : Hp} {E : XK} (s : Same H H') (h : Refuse NT H E) : Refuse NT H' E := fun H1 d s1 n => h H1 d (s.trans s1) n
def spReadX (C NT : Addr) : Sp := fun vs H Q E => (∃ t : Str, vs = [.str t] ∧ t.length ≤ 4000 ∧ (∀ x, IsN t x → ∀ (r : Addr) (H' : Hp), Same H H' → NumAt C H' r x → Q (.ref r) H') ∧ ((∀ x, ¬ IsN t x) → Refuse NT H E)) ∨
  ∃ v, vs = [v] ∧ NoTx C H v ∧ Refuse NT H E
theorem r_raiseErr {C : Addr} {fl : List V → Option (List (Str × V))} {ta : TA} {W : WX} {σ : L2.St} {H : Hp} (q : ta σ H fun vs H1 => ∃ l, fl vs = some l ∧ ∀ d, H1 d = none → W (.ref C) (some d) σ (upd H1 d (.xd l))) : tMkRaise C fl ta σ H (fun cls d H' => W cls d σ H') := q
theorem den_lt {x : Rat} (h : (NText x).length ≤ 60) : Bd 900 x := by
  have l := NText_len x
  have fin : ∀ n : Nat, (numL n).length ≤ 60 → n < 2 ^ 900 := fun n hn => by
    have := val_lt (numL_digits n)
    rw [numL_val] at this
    exact Nat.lt_of_lt_of_le this (Nat.le_trans (Nat.pow_le_pow_right (by decide) hn) (by decide))
  have s : (signL x.num).length ≤ 60 → (numL x.num.natAbs).length ≤ 60 := fun h => by
    unfold signL at h
    split at h
    · rw [List.length_cons] at h; omega
    · exact h
  constructor
  · refine fin _ (s ?_)
    split at l <;> omega
  · refine fin _ ?_
    by_cases e : x.den = 1
    · rw [e]; decide
    · rw [if_neg e] at l
      omega
theorem part_len {t : Str} : (Txt.partition t "/").1.length ≤ t.length ∧ (Txt.partition t "/").2.1.length ≤ 1 ∧ (Txt.partition t "/").2.2.length ≤ t.length := by
  have e0 : tl ("/" : Str) = 47 :: [] := rfl
  rcases first_cut (tl t) with h | ⟨a, b, e, h⟩
  · rw [partition_none e0 h]
    exact ⟨Nat.le_refl _, Nat.zero_le _, Nat.zero_le _⟩
  · have ex : t = (⟨a.toArray⟩ : Str) ++ "/" ++ (⟨b.toArray⟩ : Str) := ext_tl (by rw [tl_append, tl_append, tl_mk, tl_mk, e0, List.append_assoc]; exact e)
    have key := partition_app (y := "/") e0 (a := ⟨a.toArray⟩) (b := ⟨b.toArray⟩) (by rw [tl_mk]; exact h)
    rw [← ex] at key
    rw [key]
    have one : ("/" : Str).length ≤ 1 := by decide
    have ll := len_tl t
    rw [e, List.length_append, List.length_cons] at ll
    refine ⟨?_, one, ?_⟩
    · show (⟨a.toArray⟩ : Str).length ≤ _
      rw [len_tl, tl_mk]; omega
    · show (⟨b.toArray⟩ : Str).length ≤ _
      rw [len_tl, tl_mk]; omega
theorem ok_read_number (T : Txt w K mg) : FnOk P w K mg base (L2N.CX P w) 6 T.f_read_number T.fd_read_number ["text"] (spReadX T.C_Number T.C_NoText) := by
  refine Fun.okN T.F_read_number sc_read_number (fun vs H Q E h => ?_) (fun cdv A outer s H vs Q E hr h => ?_)
  · rcases h with ⟨x, rfl, _⟩ | ⟨x, rfl, _⟩ <;> rfl
  · refine ⟨_, (pss_cons (ps_if (PW.pt (pw_or (pt_not (pt_val (pe_callB call_isi (by rfl) T.n_isinstance (by decide +kernel) (pa_cons (pv 0) (pa_cons (pe_bltn (v := .ty "str") (by rfl) T.n_str (by decide +kernel) rfl) pa_nil))))) (pw_or1 (pt_cmpR op_gt (pe_callB call_len_str (by rfl) T.n_len PySem.boot_len (pa_cons (pv 0) pa_nil)) (pe_glob (by rfl) T.m_LONGEST_TEXT T.r_LONGEST_TEXT) (nomark _)))))
  (pss_one (ps_raiseErr rfl T.e_NoText (errRun_at T.e_NoText T.fn_NoText T.no_NoText) T.x_NoText.hs T.ty_NoText hr (by decide) (L2N.takes_of rfl rfl rfl rfl) (pa_cons pe_int pa_nil) T.m_NoText))
  pss_nil)
 (pss_cons (ps_asg (pe_partition (pv 0) pe_str) (pg_tup rfl (pgs_cons (pg_name (i := 1) sc_read_number.nd rfl (Or.inl rfl)) (pgs_cons (pg_name (i := 2) sc_read_number.nd rfl (Or.inl rfl)) (pgs_cons (pg_name (i := 3) sc_read_number.nd rfl (Or.inl rfl)) pgs_nil)))))
 (pss_cons (ps_set (i := 4) sc_read_number.nd rfl (Or.inl rfl) (pe_call (ok_whole T) (hr.mono (by decide)) (by rfl) T.m_whole T.F_whole.kp T.b_whole .nil pass0 (pa_cons (pv 1) pa_nil)))
 (pss_cons (ps_set (i := 5) sc_read_number.nd rfl (Or.inl rfl) (pe_ifExp (pt_truth (pv 2) (by intro _; rfl)) (pe_call (ok_whole T) (hr.mono (by decide)) (by rfl) T.m_whole T.F_whole.kp T.b_whole .nil pass0 (pa_cons (pv 3) pa_nil)) pe_int))
 (pss_cons (ps_if (PW.pt (pw_or (pt_cmpR op_isN (pv 4) pe_non (nomark _)) (pw_or (pt_cmpR op_isN (pv 5) pe_non (nomark _)) (pw_or1 (pt_cmpR op_eq (pv 5) pe_int (nomark _))))))
  (pss_one (ps_raiseErr rfl T.e_NoText (errRun_at T.e_NoText T.fn_NoText T.no_NoText) T.x_NoText.hs T.ty_NoText hr (by decide) (L2N.takes_of rfl rfl rfl rfl) (pa_cons pe_int pa_nil) T.m_NoText))
  pss_nil)
 (pss_cons (ps_set (i := 6) sc_read_number.nd rfl (Or.inl rfl) (pe_make T.mk_Number (ok_Number_init T) (hr.mono (by decide)) (by rfl) T.m_Number T.b_Number_init2 .nil pass0 (pa_cons (pv 4) (pa_cons (pv 5) pa_nil))))
 (pss_cons (ps_if (pt_cmpR op_ne (pe_callTy (call_strOwn (ok_Number_str T) T.me_Number_str.at_ T.me_Number_str.fn T.b_Number_str (hr.mono (by decide))) (by rfl) T.n_str (by decide +kernel) (pa_cons (pv 6) pa_nil)) (pv 0) (nomark _))
  (pss_one (ps_raiseErr rfl T.e_NoText (errRun_at T.e_NoText T.fn_NoText T.no_NoText) T.x_NoText.hs T.ty_NoText hr (by decide) (L2N.takes_of rfl rfl rfl rfl) (pa_cons pe_int pa_nil) T.m_NoText))
  pss_nil)
 (pss_one (ps_ret (pv 6)))))))))), ?_⟩
    have raise : ∀ {D : Ends} {σ : L2.St} {H1 : Hp}, Refuse T.C_NoText H E → Same H H1 → tMkRaise T.C_NoText (fl1 "at") (tCons (tC (.int 0)) tNil) σ H1 (fun cls d H' => E cls d H') := fun rf s1 => by
      refine r_raiseErr (W := fun cls d _ H => E cls d H) ?_
      walk_at "rd"
      exact ⟨_, rfl, fun d hd => rf _ d s1 hd⟩
    rcases h with ⟨t, rfl, ht, kg, kb⟩ | ⟨v, rfl, nt, rf⟩
    · by_cases ex : ∃ x, IsN t x
      · obtain ⟨x, hx⟩ := ex
        have k := kg x hx
        obtain ⟨rfl, hl⟩ := hx
        have bx := den_lt hl
        have sl : sizeLine = 16777216 := rfl
        have bd9 : ((x.den : Int)).natAbs < 2 ^ 9000 := Nat.lt_of_lt_of_le (bd_den bx) (Nat.pow_le_pow_right (by decide) (by decide))
        have lens := NText_len x
        walk_at "rdg"
        refine is_str (w := w) ?_
        walk_at "rdg"
        refine r_iteF rfl ?_
        walk_at "rdg"
        refine ⟨_, rfl, by omega, ?_⟩
        walk_at "rdg"
        refine r_iteF (decide_eq_false (by omega)) ?_
        walk_at "rdg"
        refine ⟨_, _, rfl, rfl, rfl, by omega, ?_⟩
        by_cases e : x.den = 1
        · rw [part_none e]
          rw [if_pos e, ← TI_len] at lens
          refine fun p hp => ?_
          walk_at "rdg"
          refine r_gTup upd_same rfl ?_
          walk_at "rdg"
          have sp := Same.new (o := .tup [.str (TI x.num), .str Str.empty, .str Str.empty]) hp
          refine whole_good (by omega) ?_
          walk_at "rdg"
          refine ⟨false, ⟨show Str.empty.length ≤ sizeLine by decide, rfl⟩, ?_⟩
          refine r_iteF rfl ?_
          walk_at "rdg"
          refine ⟨rfl, ?_⟩
          walk_at "rdg"
          refine r_iteF (by simp) ?_
          walk_at "rdg"
          refine ⟨rfl, ?_⟩
          walk_at "rdg"
          refine r_iteF (by simp) ?_
          walk_at "rdg"
          refine r_iteF (by decide) ?_
          walk_at "rdg"
          refine mk_num (by decide) (by decide) fun r H1 s1 _ h1 => ?_
          have ex : Rat.divInt x.num 1 = x := by
            conv => rhs; rw [← Rat.num_divInt_den x, e]
            rfl
          rw [ex] at h1
          walk_at "rdg"
          refine rd_strOwn h1 bx ?_
          walk_at "rdg"
          refine r_neS ?_
          rw [decide_eq_true rfl]
          walk_at "rdg"
          refine r_iteF rfl ?_
          walk_at "rdg"
          exact k r H1 (sp.trans s1) h1
        · rw [part_some e]
          rw [if_neg e, ← TI_len, ← nat_signL, ← TI_len] at lens
          refine fun p hp => ?_
          walk_at "rdg"
          refine r_gTup upd_same rfl ?_
          walk_at "rdg"
          have sp := Same.new (o := .tup [.str (TI x.num), .str ("/" : Str), .str (TI (x.den : Int))]) hp
          refine whole_good (by omega) ?_
          walk_at "rdg"
          refine ⟨true, ⟨show ("/" : Str).length ≤ sizeLine by decide, rfl⟩, ?_⟩
          refine r_iteT rfl ?_
          walk_at "rdg"
          refine whole_good (by omega) ?_
          walk_at "rdg"
          refine ⟨rfl, ?_⟩
          walk_at "rdg"
          refine r_iteF (by simp) ?_
          walk_at "rdg"
          refine ⟨rfl, ?_⟩
          walk_at "rdg"
          refine r_iteF (by simp) ?_
          walk_at "rdg"
          refine r_iteF (decide_eq_false (den_ne x)) ?_
          walk_at "rdg"
          refine mk_num (den_ne x) bd9 fun r H1 s1 _ h1 => ?_
          rw [Rat.num_divInt_den] at h1
          walk_at "rdg"
          refine rd_strOwn h1 bx ?_
          walk_at "rdg"
          refine r_neS ?_
          rw [decide_eq_true rfl]
          walk_at "rdg"
          refine r_iteF rfl ?_
          walk_at "rdg"
          exact k r H1 (sp.trans s1) h1
      · have rf := kb fun x hx => ex ⟨x, hx⟩
        walk_at "rdg"
        refine is_str (w := w) ?_
        walk_at "rdg"
        refine r_iteF rfl ?_
        walk_at "rdg"
        refine ⟨_, rfl, Nat.le_trans ht (by decide), ?_⟩
        walk_at "rdg"
        refine r_ite (fun e => ?_) (fun e => ?_)
        · walk_at "rdg"
          exact raise (D := ⟨fun _ _ => True, fun _ _ => True, fun _ _ => True, fun _ _ => True⟩) rf (Same.refl _)
        have hl : t.length ≤ 60 := by have := of_decide_eq_false e; omega
        walk_at "rdg"
        have pl := part_len (t := t)
        refine ⟨_, _, rfl, rfl, rfl, Nat.le_trans ht (by decide), ?_⟩
        refine fun p hp => ?_
        have sp := Same.new (o := .tup [.str (Txt.partition t "/").1, .str (Txt.partition t "/").2.1, .str (Txt.partition t "/").2.2]) hp
        walk_at "rdg"
        refine r_gTup upd_same rfl ?_
        walk_at "rdg"
        refine whole_any (by omega) ?_ (fun i hi => ?_)
        · walk_at "rdg"
          refine ⟨_, ⟨Nat.le_trans pl.2.1 (by decide), rfl⟩, ?_⟩
          refine r_ite (fun _ => ?_) (fun _ => ?_)
          · walk_at "rdg"
            refine whole_any (by omega) ?_ (fun j hj => ?_)
            all_goals
              walk_at "rdg"
              refine ⟨rfl, ?_⟩
              walk_at "rdg"
              refine r_iteT rfl ?_
              exact raise (D := ⟨fun _ _ => True, fun _ _ => True, fun _ _ => True, fun _ _ => True⟩) rf sp
          · walk_at "rdg"
            refine ⟨rfl, ?_⟩
            walk_at "rdg"
            refine r_iteT rfl ?_
            exact raise (D := ⟨fun _ _ => True, fun _ _ => True, fun _ _ => True, fun _ _ => True⟩) rf sp
        · have last : ∀ (j : Int), j.natAbs < 10 ^ 60 → j ≠ 0 → ∀ (p1 : Addr) (H1 : Hp), Same H H1 → NumAt T.C_Number H1 p1 (Rat.divInt i j) → Bd 900 (Rat.divInt i j) ∧ NText (Rat.divInt i j) ≠ t := fun j hj j0 p1 H1 _ _ => by
            refine ⟨Bd.of j0 (Nat.lt_of_lt_of_le hi (by decide)) (Nat.lt_of_lt_of_le hj (by decide)), fun e => ex ⟨_, e, hl⟩⟩
          walk_at "rdg"
          refine ⟨_, ⟨Nat.le_trans pl.2.1 (by decide), rfl⟩, ?_⟩
          refine r_ite (fun _ => ?_) (fun _ => ?_)
          · walk_at "rdg"
            refine whole_any (by omega) ?_ (fun j hj => ?_)
            · walk_at "rdg"
              refine ⟨rfl, ?_⟩
              walk_at "rdg"
              refine r_iteF rfl ?_
              walk_at "rdg"
              refine ⟨rfl, ?_⟩
              walk_at "rdg"
              refine r_iteT rfl ?_
              exact raise (D := ⟨fun _ _ => True, fun _ _ => True, fun _ _ => True, fun _ _ => True⟩) rf sp
            · walk_at "rdg"
              refine ⟨rfl, ?_⟩
              walk_at "rdg"
              refine r_iteF rfl ?_
              walk_at "rdg"
              refine ⟨rfl, ?_⟩
              walk_at "rdg"
              refine r_iteF rfl ?_
              walk_at "rdg"
              refine r_ite (fun e0 => ?_) (fun e0 => ?_)
              · exact raise (D := ⟨fun _ _ => True, fun _ _ => True, fun _ _ => True, fun _ _ => True⟩) rf sp
              · have j0 : j ≠ 0 := of_decide_eq_false e0
                walk_at "rdg"
                refine mk_num j0 (Nat.lt_of_lt_of_le hj (by decide)) fun r H1 s1 _ h1 => ?_
                obtain ⟨bx, ne⟩ := last j hj j0 r H1 (sp.trans s1) h1
                walk_at "rdg"
                refine rd_strOwn h1 bx ?_
                walk_at "rdg"
                refine r_neS ?_
                rw [decide_eq_false ne]
                walk_at "rdg"
                refine r_iteT rfl ?_
                exact raise (D := ⟨fun _ _ => True, fun _ _ => True, fun _ _ => True, fun _ _ => True⟩) rf (sp.trans s1)
          · walk_at "rdg"
            refine ⟨rfl, ?_⟩
            walk_at "rdg"
            refine r_iteF rfl ?_
            walk_at "rdg"
            refine ⟨rfl, ?_⟩
            walk_at "rdg"
            refine r_iteF rfl ?_
            walk_at "rdg"
            refine r_iteF rfl ?_
            walk_at "rdg"
            refine mk_num (by decide) (by decide) fun r H1 s1 _ h1 => ?_
            obtain ⟨bx, ne⟩ := last 1 (by decide) (by decide) r H1 (sp.trans s1) h1
            walk_at "rdg"
            refine rd_strOwn h1 bx ?_
            walk_at "rdg"
            refine r_neS ?_
            rw [decide_eq_false ne]
            walk_at "rdg"
            refine r_iteT rfl ?_
            exact raise (D := ⟨fun _ _ => True, fun _ _ => True, fun _ _ => True, fun _ _ => True⟩) rf (sp.trans s1)
    · walk_at "rdg"
      refine no_str T nt ?_
      walk_at "rdg"
      refine r_iteT rfl ?_
      exact raise (D := ⟨fun _ _ => True, fun _ _ => True, fun _ _ => True, fun _ _ => True⟩) rf (Same.refl _)
end
end My

namespace My
open PySem L2
section
variable {P : Program} {w : World} {K : PySem.W.Frag} {mg : Str → Option Value} {base : Heap}
/-! ### a well -/
def WellAt (H : Hp) (d : Addr) : Prop := ∃ a b n : Int, H d = some (.lst [.int a, .int b, .int n])
theorem WellAt.same {H H' : Hp} {d : Addr} (s : Same H H') (h : WellAt H d) : WellAt H' d := let ⟨a, b, n, h1⟩ := h; ⟨a, b, n, s _ _ h1⟩
/-! heaps but for one place -/
def Out (d : Addr) (H H' : Hp) : Prop := ∀ b o, b ≠ d → H b = some o → H' b = some o
theorem Out.refl (d : Addr) (H : Hp) : Out d H H := fun _ _ _ h => h
theorem Out.trans {d : Addr} {H H1 H2 : Hp} (a : Out d H H1) (b : Out d H1 H2) : Out d H H2 := fun x o h1 h => b x o h1 (a x o h1 h)
theorem Out.of {d : Addr} {H H' : Hp} (a : Same H H') : Out d H H' := fun x o _ h => a x o h
theorem Out.keep {H H' : Hp} {d b : Addr} {o : HO} (s : Out d H H') (hd : WellAt H d) (h : H b = some o) (hn : ∀ xs, o ≠ .lst xs) : H' b = some o := by
  obtain ⟨_, _, _, h1⟩ := hd
  exact s b o (ne_of h h1 (hn _)) h
theorem well_ne {H : Hp} {d p : Addr} (h : WellAt H d) (hp : H p = none) : p ≠ d := by
  obtain ⟨_, _, _, h1⟩ := h
  exact (ne_of_none h1 hp).symm
theorem well_ix {ns : List Int} {k : Nat} (h : (k : Int) < ((ns.map V.int).length : Int)) : ∃ c : Int, atI (ns.map V.int) (k : Int) = some (.int c) := by
  have hk : k < ns.length := by rw [List.length_map] at h; omega
  exact ⟨ns[k], atI_nat (by rw [List.getElem?_map, List.getElem?_eq_getElem hk]; rfl)⟩
def spWell (K : PySem.W.Frag) : Sp := fun vs H Q _ => ∃ (a : Addr) (ns : List Int) (k : Nat), vs = [.ref a, .int k] ∧ SqL K H a (ns.map V.int) ∧ ∀ (d : Addr) (H' : Hp), Same H H' → H d = none → WellAt H' d → Q (.ref d) H'
theorem ok_l_well (T : Txt w K mg) : FnOk P w K mg base CX0 1 T.f_l_well T.fd_l_well ["_law_script", "_law_k"] (spWell K) := by
  refine T.F_l_well.ok sc_l_well (fun vs H Q E h => ?_) (fun cdv A outer s H vs Q E hr h => ?_)
  · obtain ⟨a, ns, j, rfl, _⟩ := h
    rfl
  · obtain ⟨a, ns, j, rfl, hS, k⟩ := h
    refine ⟨_, (pss_cons (ps_set (i := 2) sc_l_well.nd rfl (Or.inl rfl) pe_int)
 (pss_cons (ps_if (pt_cmpR op_lt (pv 1) (pe_callB call_len_seq (by rfl) T.n_len PySem.boot_len (pa_cons (pv 0) pa_nil)) (nomark _))
  (pss_one (ps_set (i := 2) sc_l_well.nd rfl (Or.inl rfl) (pe_ix ix_list (pv 0) (pv 1) (fun _ _ => rfl))))
  pss_nil)
 (pss_one (ps_ret (pe_lst (pa_cons (pe_op op_mul (pv 2) (pe_callTy call_int1 (by rfl) T.n_int (by decide +kernel) (pa_cons (pe_cmpR op_ge (pv 2) (pe_op op_pow pe_int pe_int) (nomark _)) pa_nil))) (pa_cons (pe_op op_add (pe_op op_mod (pv 2) pe_int) (pe_op op_mul pe_int (pv 1))) (pa_cons pe_int pa_nil)))))))), ?_⟩
    walk_at "rdg"
    refine ⟨a, _, rfl, .inl hS, ?_⟩
    walk_at "rdg"
    refine r_ite (fun e => ?_) (fun e => ?_)
    · obtain ⟨c, hc⟩ := well_ix (of_decide_eq_true e)
      walk_at "rdg"
      refine ⟨a, _, _, _, rfl, rfl, hS, hc, ?_⟩
      walk_at "rdg"
      refine .inr ⟨_, rfl, ?_⟩
      refine r_I (.inr (by split <;> decide)) ?_
      walk_at "rdg"
      refine r_new (by show 3 ≤ 1000; decide) fun d hd => ?_
      exact k d _ (Same.new hd) hd ⟨_, _, _, upd_same⟩
    · walk_at "rdg"
      refine .inr ⟨_, rfl, ?_⟩
      refine r_I (.inr (by split <;> decide)) ?_
      walk_at "rdg"
      refine r_new (by show 3 ≤ 1000; decide) fun d hd => ?_
      exact k d _ (Same.new hd) hd ⟨_, _, _, upd_same⟩
/-! ### a take -/
def spTake : Sp := fun vs H Q _ => ∃ (d : Addr) (v : Int), vs = [.ref d, .int v] ∧ WellAt H d ∧ 0 < v ∧ v.natAbs < 2 ^ 9000 ∧ ∀ (r : Int) (H' : Hp), Out d H H' → WellAt H' d → 0 ≤ r → r < v → Q (.int r) H'
theorem ok_l_take (T : Txt w K mg) : FnOk P w K mg base CX0 1 T.f_l_take T.fd_l_take ["_law_well_here", "_law_top"] spTake := by
  refine T.F_l_take.ok sc_l_take (fun vs H Q E h => ?_) (fun cdv A outer s H vs Q E hr h => ?_)
  · obtain ⟨d, v, rfl, _⟩ := h
    rfl
  · obtain ⟨d, v, rfl, ⟨a, b, n, hd⟩, v0, vb, k⟩ := h
    refine ⟨_, (pss_cons (ps_if (pt_cmpR op_gt (pe_ix ix_list (pv 0) pe_int (fun _ _ => rfl)) pe_int (nomark _))
  (pss_cons (ps_set (i := 2) sc_l_take.nd rfl (Or.inl rfl) (pe_op op_mod (pe_ix ix_list (pv 0) pe_int (fun _ _ => rfl)) (pv 1)))
 (pss_cons (ps_asg (pe_op op_fdivW (pe_ix ix_list (pv 0) pe_int (fun _ _ => rfl)) (pv 1)) (pg_sub (pv 0) pe_int set_list))
 (pss_one (ps_ret (pv 2)))))
  pss_nil)
 (pss_cons (ps_asg (pe_op op_add (pe_ix ix_list (pv 0) pe_int (fun _ _ => rfl)) pe_int) (pg_sub (pv 0) pe_int set_list))
 (pss_cons (ps_set (i := 3) sc_l_take.nd rfl (Or.inl rfl) (pe_op op_mod (pe_op op_mul (pe_op op_add (pe_op op_add (pe_ix ix_list (pv 0) pe_int (fun _ _ => rfl)) (pe_op op_mul pe_int (pe_ix ix_list (pv 0) pe_int (fun _ _ => rfl)))) pe_int) pe_int) pe_int))
 (pss_cons (ps_set (i := 3) sc_l_take.nd rfl (Or.inl rfl) (pe_op op_mod (pe_op op_add (pe_op op_mulW (pv 3) (pv 3)) (pe_op op_mul pe_int (pe_ix ix_list (pv 0) pe_int (fun _ _ => rfl)))) pe_int))
 (pss_cons (ps_set (i := 3) sc_l_take.nd rfl (Or.inl rfl) (pe_op op_add (pe_op op_mul (pe_op op_mod (pe_op op_mulW (pv 3) (pe_op op_add (pv 3) pe_int)) pe_int) pe_int) (pv 3)))
 (pss_one (ps_ret (pe_op op_mod (pe_op op_fdiv (pe_op op_mod (pe_op op_mul (pv 3) pe_int) pe_int) pe_int) (pv 1))))))))), ?_⟩
    have pmod : ∀ x : Int, 0 ≤ x % v ∧ x % v < v := fun x => ⟨Int.emod_nonneg _ (by omega), Int.emod_lt_of_pos _ v0⟩
    have o1 : ∀ u : HO, Out d H (upd H d u) := fun u b o h1 h => by rw [upd_ne h1]; exact h
    walk_at "rdg"
    refine r_ixL hd (atI_nat (j := 0) rfl) ?_
    walk_at "rdg"
    refine r_ite (fun e => ?_) (fun e => ?_)
    · walk_at "rdg"
      refine r_ixL hd (atI_nat (j := 0) rfl) ?_
      walk_at "rdg"
      refine r_I v0 ?_
      walk_at "rdg"
      refine r_ixL hd (atI_nat (j := 0) rfl) ?_
      walk_at "rdg"
      refine r_I (wide_div v0 vb (by decide) (Nat.le_refl _)) ?_
      walk_at "rdg"
      refine r_setL hd (j := 0) rfl ?_
      walk_at "rdg"
      exact k _ _ (o1 _) ⟨_, _, _, upd_same⟩ (pmod _).1 (pmod _).2
    · walk_at "rdg"
      refine r_ixL hd (atI_nat (j := 2) rfl) ?_
      walk_at "rdg"
      refine r_setL hd (j := 2) rfl ?_
      have hd1 : (upd H d (.lst [.int a, .int b, .int (n + 1)])) d = some (.lst [.int a, .int b, .int (n + 1)]) := upd_same
      have o2 := o1 (.lst [.int a, .int b, .int (n + 1)])
      show (_ : TS) _ _ (upd H d (.lst [.int a, .int b, .int (n + 1)]))
      generalize (upd H d (.lst [.int a, .int b, .int (n + 1)])) = H1 at *
      walk_at "rdg"
      refine r_ixL hd1 (atI_nat (j := 1) rfl) ?_
      walk_at "rdg"
      refine r_ixL hd1 (atI_nat (j := 2) rfl) ?_
      walk_at "rdg"
      have m1 : ∀ x : Int, (x % 2147483647).natAbs < 2 ^ 31 := fun x => by have := @Int.emod_nonneg x 2147483647 (by decide); have := Int.emod_lt_of_pos x (show (0 : Int) < 2147483647 by decide); omega
      have m2 : ∀ x : Int, (x % 2147483587).natAbs < 2 ^ 31 := fun x => by have := @Int.emod_nonneg x 2147483587 (by decide); have := Int.emod_lt_of_pos x (show (0 : Int) < 2147483587 by decide); omega
      have m3 : ∀ x : Int, (x % 2147483587 + 16807).natAbs < 2 ^ 32 := fun x => by have := @Int.emod_nonneg x 2147483587 (by decide); have := Int.emod_lt_of_pos x (show (0 : Int) < 2147483587 by decide); omega
      refine r_I (wide_mul (a := 31) (b := 31) (m1 _) (m1 _) (by decide) (by decide) (by decide)) ?_
      walk_at "rdg"
      refine r_ixL hd1 (atI_nat (j := 2) rfl) ?_
      walk_at "rdg"
      refine r_I (wide_mul (a := 31) (b := 32) (m2 _) (m3 _) (by decide) (by decide) (by decide)) ?_
      walk_at "rdg"
      refine r_I v0 ?_
      exact k _ _ o2 ⟨_, _, _, hd1⟩ (pmod _).1 (pmod _).2
/-- a take, as it is read -/
theorem rd_take {H : Hp} {d : Addr} {v : Int} {Q : VK} {E : XK} (dk : WellAt H d) (h0 : 0 < v) (h1 : v.natAbs < 2 ^ 200) (q : ∀ (r : Int) (H' : Hp), Out d H H' → WellAt H' d → 0 ≤ r → r < v → Q (.int r) H') : spTake ([V.ref d, V.int v] ++ []) H Q E :=
  ⟨d, v, rfl, dk, h0, Nat.lt_of_lt_of_le h1 (Nat.pow_le_pow_right (by decide) (by decide)), q⟩
/-! ### a power of ten -/
def spTenL : Sp := fun vs H Q _ => ∃ p : Int, vs = [.int p] ∧ p.natAbs < 2 ^ 60 ∧ Q (.int (10 ^ p.toNat)) H
theorem ok_l_ten (T : Txt w K mg) : FnOk P w K mg base CX0 1 T.f_l_ten T.fd_l_ten ["_law_power"] spTenL := by
  refine T.F_l_ten.ok sc_l_ten (fun vs H Q E h => ?_) (fun cdv A outer s H vs Q E hr h => ?_)
  · obtain ⟨p, rfl, _⟩ := h
    rfl
  · obtain ⟨p, rfl, hp, k⟩ := h
    refine ⟨_, (pss_cons (ps_set (i := 1) sc_l_ten.nd rfl (Or.inl rfl) pe_int)
 (pss_cons (ps_for PassesOwn.never rfl (pi_range1 rfl T.n_range (pa_cons (pv 0) pa_nil)) (pg_name (i := 2) sc_l_ten.nd rfl (Or.inl rfl))
  (pss_one (ps_set (i := 1) sc_l_ten.nd rfl (Or.inl rfl) (pe_op op_mul (pv 1) pe_int))))
 (pss_one (ps_ret (pv 1))))), ?_⟩
    walk_at "rdg"
    refine r_rng1 ?_
    walk_at "rdg"
    refine ⟨_, rfl, by omega, by omega, ?_⟩
    refine for_range (lo := 0) (n := p.toNat) (fun i σ H' => ∃ v : Option V, σ = [some (.int p), some (.int (10 ^ i)), v] ∧ H' = H) ⟨none, rfl, rfl⟩ ?_ ?_
    · rintro i σ H' hi ⟨v, rfl, rfl⟩
      walk_at "rdg"
      refine ⟨some (.int (0 + (i : Int))), ?_, rfl⟩
      rw [Int.pow_succ]
      rfl
    · rintro σ H' ⟨v, rfl, rfl⟩
      walk_at "rdg"
      exact k
end
end My

namespace My
open PySem L2
section
variable {P : Program} {w : World} {K : PySem.W.Frag} {mg : Str → Option Value} {base : Heap}
theorem int_of {v : V} {xs : List Int} (h : v ∈ xs.map V.int) : ∃ i, v = .int i ∧ i ∈ xs := by
  obtain ⟨i, hi, rfl⟩ := List.mem_map.mp h
  exact ⟨i, rfl, hi⟩
theorem atI_int {xs : List Int} {r : Int} (h0 : 0 ≤ r) (h1 : r < (xs.length : Int)) : ∃ i, atI (xs.map V.int) r = some (.int i) ∧ i ∈ xs := by
  obtain ⟨n, rfl⟩ := Int.eq_ofNat_of_zero_le h0
  have hn : n < xs.length := by omega
  exact ⟨xs[n], atI_nat (by rw [List.getElem?_map, List.getElem?_eq_getElem hn]; rfl), List.getElem_mem hn⟩
theorem two_at {i j : Int} (k : Bool) : atI [V.int i, .int j] (if k then 1 else 0) = some (.int (if k = true then j else i)) := by cases k <;> rfl
/-- a literal list of whole numbers, and one of it -/
theorem r_pick {K : PySem.W.Frag} {H : Hp} {Q : VK} {l : Addr} {r : Int} (xs : List Int) (h : H l = some (.lst (xs.map V.int))) (h0 : 0 ≤ r) (h1 : r < (xs.length : Int)) (q : ∀ i : Int, i ∈ xs → Q (.int i) H) : rIxL K (.ref l) (.int r) H Q := by
  obtain ⟨i, e, m⟩ := atI_int h0 h1
  exact r_ixL h e (q i m)
def spPair : Sp := fun vs H Q _ => ∃ d : Addr, vs = [.ref d] ∧ WellAt H d ∧ ∀ (p : Addr) (t b : Int) (H' : Hp), Out d H H' → WellAt H' d → H' p = some (.tup [.int t, .int b]) → t.natAbs < 2 ^ 110 → b ≠ 0 → b.natAbs ≤ 10 ^ 12 → Q (.ref p) H'
theorem five_mono {i j : Nat} (h : i ≤ j) : 5 ^ i ≤ 5 ^ j := Nat.pow_le_pow_right (by decide) h
theorem ok_l_pair (T : Txt w K mg) : FnOk P w K mg base CX0 2 T.f_l_pair T.fd_l_pair ["_law_well_here"] spPair := by
  refine T.F_l_pair.ok sc_l_pair (fun vs H Q E h => ?_) (fun cdv A outer s H vs Q E hr h => ?_)
  · obtain ⟨d, rfl, _⟩ := h
    rfl
  · obtain ⟨d, rfl, w0, k⟩ := h
    refine ⟨_, (pss_cons (ps_set (i := 1) sc_l_pair.nd rfl (Or.inl rfl) (pe_call (ok_l_take T) (hr.mono (by decide)) (by rfl) T.m_l_take T.F_l_take.kp T.b_l_take .nil pass0 (pa_cons (pv 0) (pa_cons pe_int pa_nil))))
 (pss_cons (ps_set (i := 2) sc_l_pair.nd rfl (Or.inl rfl) (pe_op op_add pe_int (pe_call (ok_l_take T) (hr.mono (by decide)) (by rfl) T.m_l_take T.F_l_take.kp T.b_l_take .nil pass0 (pa_cons (pv 0) (pa_cons pe_int pa_nil)))))
 (pss_cons (ps_set (i := 3) sc_l_pair.nd rfl (Or.inl rfl) (pe_call (ok_l_take T) (hr.mono (by decide)) (by rfl) T.m_l_take T.F_l_take.kp T.b_l_take .nil pass0 (pa_cons (pv 0) (pa_cons pe_int pa_nil))))
 (pss_cons (ps_set (i := 4) sc_l_pair.nd rfl (Or.inl rfl) (pe_ix ix_list (pe_lst (pa_cons (pe_call (ok_l_take T) (hr.mono (by decide)) (by rfl) T.m_l_take T.F_l_take.kp T.b_l_take .nil pass0 (pa_cons (pv 0) (pa_cons pe_int pa_nil))) (pa_cons (pe_call (ok_l_take T) (hr.mono (by decide)) (by rfl) T.m_l_take T.F_l_take.kp T.b_l_take .nil pass0 (pa_cons (pv 0) (pa_cons (pe_op op_pow pe_int pe_int) pa_nil))) (pa_cons (pe_call (ok_l_take T) (hr.mono (by decide)) (by rfl) T.m_l_take T.F_l_take.kp T.b_l_take .nil pass0 (pa_cons (pv 0) (pa_cons pe_int pa_nil))) (pa_cons (pe_call (ok_l_take T) (hr.mono (by decide)) (by rfl) T.m_l_take T.F_l_take.kp T.b_l_take .nil pass0 (pa_cons (pv 0) (pa_cons (pe_op op_pow pe_int pe_int) pa_nil))) (pa_cons pe_int (pa_cons pe_int pa_nil))))))) (pv 1) (fun _ _ => rfl)))
 (pss_cons (ps_set (i := 5) sc_l_pair.nd rfl (Or.inl rfl) (pe_ix ix_list (pe_lst (pa_cons (pv 2) (pa_cons (pe_call (ok_l_ten T) (hr.mono (by decide)) (by rfl) T.m_l_ten T.F_l_ten.kp T.b_l_ten .nil pass0 (pa_cons (pv 3) pa_nil)) (pa_cons pe_int (pa_cons (pe_op op_add pe_int (pe_call (ok_l_take T) (hr.mono (by decide)) (by rfl) T.m_l_take T.F_l_take.kp T.b_l_take .nil pass0 (pa_cons (pv 0) (pa_cons (pe_op op_pow pe_int pe_int) pa_nil)))) (pa_cons (pv 2) (pa_cons (pv 2) pa_nil))))))) (pv 1) (fun _ _ => rfl)))
 (C8.pss_cut (ps_if (pt_cmpR op_eq (pv 1) pe_int (nomark _))
  (pss_cons (ps_for PassesOwn.never rfl (pi_range1 rfl T.n_range (pa_cons (pe_call (ok_l_take T) (hr.mono (by decide)) (by rfl) T.m_l_take T.F_l_take.kp T.b_l_take .nil pass0 (pa_cons (pv 0) (pa_cons pe_int pa_nil))) pa_nil)) (pg_name (i := 6) sc_l_pair.nd rfl (Or.inl rfl))
  (pss_one (ps_set (i := 5) sc_l_pair.nd rfl (Or.inl rfl) (pe_op op_mulW (pv 5) (pe_ix ix_list (pe_lst (pa_cons pe_int (pa_cons pe_int pa_nil))) (pe_call (ok_l_take T) (hr.mono (by decide)) (by rfl) T.m_l_take T.F_l_take.kp T.b_l_take .nil pass0 (pa_cons (pv 0) (pa_cons pe_int pa_nil))) (fun _ _ => rfl))))))
 (pss_one (ps_set (i := 5) sc_l_pair.nd rfl (Or.inl rfl) (pe_callB (call_min2 rfl) (by rfl) T.n_min (by decide +kernel) (pa_cons (pv 5) (pa_cons (pe_op op_pow pe_int pe_int) pa_nil))))))
  pss_nil)
 (C8.pss_cut (ps_if (pt_cmpR op_eq (pv 1) pe_int (nomark _))
  (pss_one (ps_set (i := 4) sc_l_pair.nd rfl (Or.inl rfl) (pe_op op_sub (pe_op op_add (pe_call (ok_l_ten T) (hr.mono (by decide)) (by rfl) T.m_l_ten T.F_l_ten.kp T.b_l_ten .nil pass0 (pa_cons (pe_call (ok_l_take T) (hr.mono (by decide)) (by rfl) T.m_l_take T.F_l_take.kp T.b_l_take .nil pass0 (pa_cons (pv 0) (pa_cons pe_int pa_nil))) pa_nil)) (pe_call (ok_l_take T) (hr.mono (by decide)) (by rfl) T.m_l_take T.F_l_take.kp T.b_l_take .nil pass0 (pa_cons (pv 0) (pa_cons pe_int pa_nil)))) pe_int)))
  pss_nil)
 (C8.pss_cut (ps_if (pt_cmpR op_lt (pv 1) pe_int (nomark _))
  (pss_one (ps_par (i := 4) (j := 5) rfl sc_l_pair.nd rfl rfl (by decide) rfl rfl (pa_cons (pe_op op_mulW (pv 4) (pv 2)) (pa_cons (pe_callB (call_min2 rfl) (by rfl) T.n_min (by decide +kernel) (pa_cons (pe_op op_pow pe_int pe_int) (pa_cons (pe_op op_mulW (pv 5) (pv 2)) pa_nil))) pa_nil)) (by rfl)))
  pss_nil)
 (pss_cons (ps_set (i := 7) sc_l_pair.nd rfl (Or.inl rfl) (pe_lst (pa_cons (pe_call (ok_l_take T) (hr.mono (by decide)) (by rfl) T.m_l_take T.F_l_take.kp T.b_l_take .nil pass0 (pa_cons (pv 0) (pa_cons pe_int pa_nil))) (pa_cons (pe_callTy call_int1 (by rfl) T.n_int (by decide +kernel) (pa_cons (pe_cmpR op_eq (pe_call (ok_l_take T) (hr.mono (by decide)) (by rfl) T.m_l_take T.F_l_take.kp T.b_l_take .nil pass0 (pa_cons (pv 0) (pa_cons pe_int pa_nil))) pe_int (nomark _)) pa_nil)) pa_nil))))
 (pss_one (ps_ret (pe_tup (pa_cons (pe_op op_mulW (pv 4) (pe_ix ix_list (pe_lst (pa_cons pe_int (pa_cons (pe_un un_neg pe_int) pa_nil))) (pe_ix ix_list (pv 7) pe_int (fun _ _ => rfl)) (fun _ _ => rfl))) (pa_cons (pe_op op_mulW (pv 5) (pe_ix ix_list (pe_lst (pa_cons pe_int (pa_cons (pe_un un_neg pe_int) pa_nil))) (pe_ix ix_list (pv 7) pe_int (fun _ _ => rfl)) (fun _ _ => rfl))) pa_nil)))))))))))))), ?_⟩
    have E6 : (10 : Int) ^ (6 : Int).toNat = 1000000 := rfl
    have E12 : (10 : Int) ^ (12 : Int).toNat = 1000000000000 := rfl
    have E30 : (10 : Int) ^ (30 : Int).toNat = 1000000000000000000000000000000 := rfl
    walk_at "rdg"
    refine rd_take w0 (by decide) (by decide) fun e1 H1 o1 w1 e10 e11 => ?_
    walk_at "rdg"
    refine rd_take w1 (by decide) (by decide) fun e2 H2 o2 w2 e20 e21 => ?_
    walk_at "rdg"
    refine rd_take w2 (by decide) (by decide) fun e3 H3 o3 w3 e30 e31 => ?_
    walk_at "rdg"
    refine rd_take w3 (by decide) (by decide) fun e4 H4 o4 w4 e40 e41 => ?_
    walk_at "rdg"
    refine rd_take w4 (by decide) (by decide) fun e5 H5 o5 w5 e50 e51 => ?_
    walk_at "rdg"
    refine rd_take w5 (by decide) (by decide) fun e6 H6 o6 w6 e60 e61 => ?_
    walk_at "rdg"
    refine rd_take w6 (by decide) (by decide) fun e7 H7 o7 w7 e70 e71 => ?_
    have o17 := (((((o1.trans o2).trans o3).trans o4).trans o5).trans o6).trans o7
    walk_at "rdg"
    refine r_new (by show 6 ≤ 1000; decide) fun l hl => ?_
    have sl := Same.new (o := .lst [.int e4, .int e5, .int e6, .int e7, .int 0, .int 0]) hl
    walk_at "rdg"
    refine r_pick [e4, e5, e6, e7, 0, 0] upd_same e10 e11 fun t0 ht0 => ?_
    have t00 : 0 ≤ t0 ∧ t0 < 10 ^ 30 := by
      simp only [List.mem_cons, List.not_mem_nil, or_false] at ht0
      omega
    walk_at "rdg"
    refine ⟨e3, rfl, by omega, ?_⟩
    walk_at "rdg"
    refine rd_take (w7.same sl) (by decide) (by decide) fun e8 H8 o8 w8 e80 e81 => ?_
    have o18 := (o17.trans (Out.of sl)).trans o8
    walk_at "rdg"
    refine r_new (by show 6 ≤ 1000; decide) fun m hm => ?_
    have sm := Same.new (o := .lst [.int (1 + e2), .int (10 ^ e3.toNat), .int 1, .int (1 + e8), .int (1 + e2), .int (1 + e2)]) hm
    walk_at "rdg"
    have tb : (0 : Int) < 10 ^ e3.toNat ∧ (10 : Int) ^ e3.toNat ≤ 10 ^ 12 := by
      constructor
      · exact Int.pow_pos (by decide)
      · have : (10 : Nat) ^ e3.toNat ≤ 10 ^ 12 := Nat.pow_le_pow_right (by decide) (by omega)
        exact_mod_cast this
    refine r_pick [1 + e2, 10 ^ e3.toNat, 1, 1 + e8, 1 + e2, 1 + e2] upd_same e10 e11 fun b0 hb0 => ?_
    have b00 : 0 < b0 ∧ b0 ≤ 1000000000000 := by
      have E : (10 : Int) ^ 12 = 1000000000000 := by decide
      simp only [List.mem_cons, List.not_mem_nil, or_false] at hb0
      omega
    have wm := w8.same sm
    have om := o18.trans (Out.of sm)
    generalize upd H8 m (.lst [.int (1 + e2), .int (10 ^ e3.toNat), .int 1, .int (1 + e8), .int (1 + e2), .int (1 + e2)]) = H9 at *
    let Mid : L2.St → Hp → Prop := fun σ' H' => ∃ (t b : Int) (v6 : Option V), σ' = [some (.ref d), some (.int e1), some (.int (1 + e2)), some (.int e3), some (.int t), some (.int b), v6, none] ∧ Out d H H' ∧ WellAt H' d ∧ (0 ≤ t ∧ t < 10 ^ 32) ∧ (0 < b ∧ b ≤ 1000000000000)
    walk_at "rdg"
    refine r_cut Mid ?_ ?_
    · walk_at "rdg"
      refine r_ite (fun e => ?_) (fun e => ?_)
      · walk_at "rdg"
        refine r_rng1 ?_
        walk_at "rdg"
        refine rd_take wm (by decide) (by decide) fun e9 H10 o10 w10 e90 e91 => ?_
        walk_at "rdg"
        refine ⟨_, rfl, by omega, by omega, ?_⟩
        refine for_range (lo := 0) (n := e9.toNat) (fun i σ H' => ∃ (v : Option V) (b : Int), σ = [some (.ref d), some (.int e1), some (.int (1 + e2)), some (.int e3), some (.int t0), some (.int b), v, none] ∧ Out d H H' ∧ WellAt H' d ∧ 0 < b ∧ b ≤ 1000000000000 * 5 ^ i) ⟨none, b0, rfl, om.trans o10, w10, by omega, by omega⟩ ?_ ?_
        · rintro i σ H11 hi ⟨v, b, rfl, o11, w11, bp, bl⟩
          have bn : b.natAbs < 2 ^ 100 := by
            have f : (5 : Nat) ^ i ≤ 5 ^ 20 := five_mono (by omega)
            have f' : (5 : Int) ^ i ≤ 5 ^ 20 := by exact_mod_cast f
            have E : (5 : Int) ^ 20 = 95367431640625 := by decide
            omega
          walk_at "rdg"
          refine r_new (by show 2 ≤ 1000; decide) fun q hq => ?_
          have sq := Same.new (o := .lst [.int 2, .int 5]) hq
          walk_at "rdg"
          refine rd_take (w11.same sq) (by decide) (by decide) fun e12 H12 o12 w12 e120 e121 => ?_
          have hQ := o12 q _ (well_ne w11 hq) upd_same
          refine r_pick [2, 5] hQ e120 e121 fun f hf => ?_
          have f2 : f = 2 ∨ f = 5 := by simpa using hf
          walk_at "rdg"
          refine r_I (wide_mul (a := 100) (b := 3) bn (by omega) (by decide) (by decide) (by decide)) ?_
          walk_at "rdg"
          refine ⟨_, b * f, rfl, (o11.trans (Out.of sq)).trans o12, w12, ?_, ?_⟩
          · rcases f2 with rfl | rfl <;> omega
          · rw [Int.pow_succ, ← Int.mul_assoc]
            generalize 1000000000000 * (5 : Int) ^ i = z at *
            rcases f2 with rfl | rfl <;> omega
        · rintro σ H11 ⟨v, b, rfl, o11, w11, bp, bl⟩
          walk_at "rdg"
          refine ⟨_, _, rfl, ?_⟩
          walk_at "rdg"
          refine ⟨t0, _, v, rfl, o11, w11, ⟨t00.1, Int.lt_trans t00.2 (by decide)⟩, ?_⟩
          rw [E12]
          split <;> omega
      · walk_at "rdg"
        exact ⟨t0, b0, none, rfl, om, wm, ⟨t00.1, Int.lt_trans t00.2 (by decide)⟩, b00⟩
    rintro σ H10 ⟨t1, b1, v6, rfl, o10, w10, t10, b10⟩
    walk_at "rdg"
    refine r_cut Mid ?_ ?_
    · walk_at "rdg"
      refine r_ite (fun e => ?_) (fun e => ?_)
      · walk_at "rdg"
        refine rd_take w10 (by decide) (by decide) fun e9 H11 o11 w11 e90 e91 => ?_
        walk_at "rdg"
        refine ⟨e9, rfl, by omega, ?_⟩
        walk_at "rdg"
        refine rd_take w11 (by decide) (by decide) fun e12 H12 o12 w12 e120 e121 => ?_
        walk_at "rdg"
        have pb : (0 : Int) < 10 ^ e9.toNat ∧ (10 : Int) ^ e9.toNat ≤ 10 ^ 28 := by
          constructor
          · exact Int.pow_pos (by decide)
          · have : (10 : Nat) ^ e9.toNat ≤ 10 ^ 28 := Nat.pow_le_pow_right (by decide) (by omega)
            exact_mod_cast this
        have E28 : (10 : Int) ^ 28 = 10000000000000000000000000000 := by decide
        have E32 : (10 : Int) ^ 32 = 100000000000000000000000000000000 := by decide
        exact ⟨_, b1, v6, rfl, (o10.trans o11).trans o12, w12, by omega, b10⟩
      · walk_at "rdg"
        exact ⟨t1, b1, v6, rfl, o10, w10, t10, b10⟩
    rintro σ H11 ⟨t2, b2, v6, rfl, o11, w11, t20, b20⟩
    have E32 : (10 : Int) ^ 32 = 100000000000000000000000000000000 := by decide
    walk_at "rdg"
    refine r_cut (fun σ' H' => ∃ (t b : Int) (v6 : Option V), σ' = [some (.ref d), some (.int e1), some (.int (1 + e2)), some (.int e3), some (.int t), some (.int b), v6, none] ∧ Out d H H' ∧ WellAt H' d ∧ (t.natAbs < 2 ^ 110) ∧ (0 < b ∧ b ≤ 1000000000000)) ?_ ?_
    · walk_at "rdg"
      refine r_ite (fun e => ?_) (fun e => ?_)
      · walk_at "rdg"
        refine r_I (wide_mul (a := 107) (b := 4) (by omega) (by omega) (by decide) (by decide) (by decide)) ?_
        walk_at "rdg"
        refine r_I (wide_mul (a := 50) (b := 4) (by omega) (by omega) (by decide) (by decide) (by decide)) ?_
        walk_at "rdg"
        refine ⟨_, _, rfl, ?_⟩
        walk_at "rdg"
        refine ⟨_, _, v6, rfl, o11, w11, ?_, ?_⟩
        · have := natAbs_mul_lt (a := t2) (b := 1 + e2) (m := 107) (n := 4) (k := 111) (by omega) (by omega) (by decide)
          have t3 : t2 * (1 + e2) ≤ t2 * 12 := Int.mul_le_mul_of_nonneg_left (by omega) (by omega)
          have t4 : 0 ≤ t2 * (1 + e2) := Int.mul_nonneg (by omega) (by omega)
          omega
        · have b3 : 0 < b2 * (1 + e2) := Int.mul_pos (by omega) (by omega)
          rw [E12]
          split <;> omega
      · walk_at "rdg"
        exact ⟨t2, b2, v6, rfl, o11, w11, by omega, b20⟩
    rintro σ H12 ⟨t, b, v6, rfl, o12, w12, tn, bn⟩
    walk_at "rdg"
    refine rd_take w12 (by decide) (by decide) fun e13 H13 o13 w13 e130 e131 => ?_
    walk_at "rdg"
    refine rd_take w13 (by decide) (by decide) fun e14 H14 o14 w14 e140 e141 => ?_
    walk_at "rdg"
    refine .inr ⟨_, rfl, ?_⟩
    walk_at "rdg"
    refine r_new (by show 2 ≤ 1000; decide) fun sg hsg => ?_
    generalize decide (e14 = 1) = bb
    have s15 := Same.new (o := .lst [.int e13, .int (if bb then 1 else 0)]) hsg
    have hG : upd H14 sg (.lst [.int e13, .int (if bb then 1 else 0)]) sg = some (.lst [.int e13, .int (if bb then 1 else 0)]) := upd_same
    generalize upd H14 sg (.lst [.int e13, .int (if bb then 1 else 0)]) = H15 at *
    walk_at "rdg"
    refine r_new (by show 2 ≤ 1000; decide) fun q1 hq1 => ?_
    have s16 := Same.new (o := .lst [.int 1, .int (-1)]) hq1
    walk_at "rdg"
    refine r_ixL (s16 _ _ hG) (atI_nat (j := 0) rfl) ?_
    refine r_pick [1, -1] upd_same e130 e131 fun f1 hf1 => ?_
    have f1' : f1 = 1 ∨ f1 = -1 := by simpa using hf1
    walk_at "rdg"
    refine r_I (wide_mul (a := 110) (b := 2) tn (by omega) (by decide) (by decide) (by decide)) ?_
    walk_at "rdg"
    refine r_new (by show 2 ≤ 1000; decide) fun q2 hq2 => ?_
    have s17 := Same.new (o := .lst [.int 1, .int (-1)]) hq2
    walk_at "rdg"
    refine r_ixL (s17 _ _ (s16 _ _ hG)) (atI_nat (j := 1) rfl) ?_
    refine r_ixL upd_same (two_at bb) ?_
    walk_at "rdg"
    have f2' : (if bb = true then (-1 : Int) else 1) = 1 ∨ (if bb = true then (-1 : Int) else 1) = -1 := by cases bb <;> simp
    generalize (if bb = true then (-1 : Int) else 1) = f2 at *
    refine r_I (wide_mul (a := 50) (b := 2) (by omega) (by omega) (by decide) (by decide) (by decide)) ?_
    walk_at "rdg"
    refine r_new (by show 2 ≤ 1000; decide) fun p hp => ?_
    have s18 := Same.new (o := .tup [.int (t * f1), .int (b * f2)]) hp
    have sA := ((s15.trans s16).trans s17).trans s18
    refine k p _ _ _ (((o12.trans o13).trans o14).trans (Out.of sA)) (w14.same sA) upd_same ?_ ?_ ?_
    · rcases f1' with rfl | rfl <;> omega
    · rcases f2' with rfl | rfl <;> omega
    · rcases f2' with rfl | rfl <;> omega
/-! ### lowest terms, by Euclid -/
def spLowest : Sp := fun vs H Q _ => ∃ (t b : Int), vs = [.int t, .int b] ∧ b ≠ 0 ∧ b.natAbs < 2 ^ 1900 ∧ ∀ (p : Addr) (H' : Hp), Same H H' → H p = none → H' p = some (.tup [.int (Rat.divInt t b).num, .int ((Rat.divInt t b).den : Int)]) → Q (.ref p) H'
theorem ok_l_lowest (T : Txt w K mg) : FnOk P w K mg base CX0 1 T.f_l_lowest T.fd_l_lowest ["_law_top", "_law_bottom"] spLowest := by
  refine T.F_l_lowest.ok sc_l_lowest (fun vs H Q E h => ?_) (fun cdv A outer s H vs Q E hr h => ?_)
  · obtain ⟨t, b, rfl, _⟩ := h
    rfl
  · obtain ⟨t, b, rfl, hb, bb, k⟩ := h
    refine ⟨_, (pss_cons (ps_par (i := 2) (j := 3) rfl sc_l_lowest.nd rfl rfl (by decide) rfl rfl (pa_cons (pe_callB call_abs (by rfl) T.n_abs (by decide +kernel) (pa_cons (pv 0) pa_nil)) (pa_cons (pe_callB call_abs (by rfl) T.n_abs (by decide +kernel) (pa_cons (pv 1) pa_nil)) pa_nil)) (by rfl))
 (pss_cons (ps_while PassesOwn.never (pt_cmpR op_gt (pv 3) pe_int (nomark _))
  (pss_one (ps_par (i := 2) (j := 3) rfl sc_l_lowest.nd rfl rfl (by decide) rfl rfl (pa_cons (pv 3) (pa_cons (pe_op op_mod (pv 2) (pv 3)) pa_nil)) (by rfl))))
 (C8.pss_cut (ps_if (pt_cmpR op_lt (pv 1) pe_int (nomark _))
  (pss_one (ps_set (i := 2) sc_l_lowest.nd rfl (Or.inl rfl) (pe_op op_sub pe_int (pv 2))))
  pss_nil)
 (pss_one (ps_ret (pe_tup (pa_cons (pe_op op_fdivA (pv 0) (pv 2)) (pa_cons (pe_op op_fdivA (pv 1) (pv 2)) pa_nil)))))))), ?_⟩
    walk_at "rdg"
    refine ⟨_, rfl, ?_⟩
    walk_at "rdg"
    refine ⟨_, rfl, ?_⟩
    walk_at "rdg"
    refine ⟨fun m σ H' => ∃ (i j : Nat), σ = [some (.int t), some (.int b), some (.int (i : Int)), some (.int (j : Int))] ∧ H' = H ∧ Nat.gcd i j = Nat.gcd t.natAbs b.natAbs ∧ j < 2 ^ 1900 ∧ m = j, ⟨b.natAbs, t.natAbs, b.natAbs, ?_, rfl, rfl, bb, rfl⟩, ?_⟩
    · have e1 : (if t < 0 then -t else t) = (t.natAbs : Int) := by split <;> omega
      have e2 : (if b < 0 then -b else b) = (b.natAbs : Int) := by split <;> omega
      rw [e1, e2]
      rfl
    · rintro m σ H' ⟨i, j, rfl, rfl, hg, jb, rfl⟩
      walk_at "rdg"
      refine r_ite (fun e => ?_) (fun e => ?_)
      · have jp : 0 < m := by have := of_decide_eq_true e; omega
        refine ⟨fun σ' H2 => σ' = [some (.int t), some (.int b), some (.int (m : Int)), some (.int ((i % m : Nat) : Int))] ∧ H2 = H', ?_, ?_⟩
        · rintro σ' H2 ⟨rfl, rfl⟩
          refine ⟨i % m, Nat.mod_lt _ jp, m, i % m, rfl, rfl, ?_, Nat.lt_trans (Nat.mod_lt _ jp) jb, rfl⟩
          rw [← hg, Nat.gcd_comm i m, Nat.gcd_rec m i, Nat.gcd_comm]
        · walk_at "rdg"
          refine r_I (show (0 : Int) < m by omega) ?_
          walk_at "rdg"
          refine ⟨?_, rfl⟩
          rw [Int.natCast_emod]
          rfl
      · have j0 : m = 0 := by have := of_decide_eq_false e; omega
        subst j0
        rw [Nat.gcd_zero_right] at hg
        have cd : cdiv t b = if b < 0 then -(i : Int) else (i : Int) := by
          unfold cdiv
          rw [hg]
        have gp : 0 < i := by rw [hg]; exact gcd_pos (by omega)
        have gb : i < 2 ^ 1900 := by
          have : i ≤ b.natAbs := by rw [hg]; exact Nat.gcd_le_right _ (by omega)
          exact Nat.lt_of_le_of_lt this bb
        have n := num_of (t := t) (b := b) hb
        have d := den_of (t := t) (b := b) hb
        walk_at "rdg"
        refine r_cut (fun σ' H2 => ∃ v, σ' = [some (.int t), some (.int b), some (.int (cdiv t b)), v] ∧ H2 = H') ?_ ?_
        · walk_at "rdg"
          refine r_ite (fun z => ?_) (fun z => ?_)
          · walk_at "rdg"
            rw [if_pos (of_decide_eq_true z)] at cd
            refine ⟨some (.int ((0 : Nat) : Int)), ?_, rfl⟩
            rw [cd, Int.zero_sub]
            rfl
          · walk_at "rdg"
            rw [if_neg (of_decide_eq_false z)] at cd
            refine ⟨some (.int ((0 : Nat) : Int)), ?_, rfl⟩
            rw [cd]
        rintro σ H2 ⟨v, rfl, rfl⟩
        have c0 : CDivA t (cdiv t b) ∧ CDivA b (cdiv t b) := by
          have n0 : cdiv t b ≠ 0 := by rw [cd]; split <;> omega
          have nb : (cdiv t b).natAbs < 2 ^ 1900 := by rw [cd]; split <;> omega
          exact ⟨cdivA n0 nb (by decide) (by decide), cdivA n0 nb (by decide) (by decide)⟩
        walk_at "rdg"
        refine r_I c0.1 ?_
        walk_at "rdg"
        refine r_I c0.2 ?_
        walk_at "rdg"
        refine r_new (by show 2 ≤ 1000; decide) fun p hp => ?_
        refine k p _ (Same.new hp) hp ?_
        rw [upd_same, n, d]
end
end My

namespace My
open PySem L2 TL NumText
section
variable {P : Program} {w : World} {K : PySem.W.Frag} {mg : Str → Option Value} {base : Heap}
/-! ### the law's own reading of a word -/
theorem r_forE {σ : L2.St} {H : Hp} {g : TG} {tb : TS} {D : Ends} {te : TA} (q : te σ H fun vs H1 => ∃ x, vs = [.str x] ∧ ∃ W : Nat → Nat → L2.St → Hp → Prop, (∃ m, W 0 m σ H1) ∧ ∀ i m σ H, W i m σ H →
    ((IteS x).stop i H ∧ D.nx σ H) ∨ ((IteS x).go i H ∧ ∃ N : L2.St → Hp → Prop, (∀ σ' H', N σ' H' → ∃ m', m' < m ∧ W (i + 1) m' σ' H') ∧ ∀ v H', (IteS x).yld i H v H' → g v σ H' fun σ2 H2 => tb { D with nx := N, ct := N, bk := D.nx } σ2 H2)) : tFor (iEnumS te) g tb D σ H := q
theorem for_enumS {x : Str} {σ : L2.St} {H : Hp} {g : TG} {tb : TS} {D : Ends} (Pv : Nat → L2.St → Hp → Prop) (h0 : Pv 0 σ H)
    (hs : ∀ (i c : Nat) (T : Addr) σ H, (tl x)[i]? = some c → Pv i σ H → H T = none → g (.ref T) σ (upd H T (.tup [.int (i : Nat), .str ⟨#[c]⟩])) fun σ2 H2 => tb { D with nx := Pv (i + 1), ct := Pv (i + 1), bk := D.nx } σ2 H2)
    (hd : ∀ σ H, Pv (tl x).length σ H → D.nx σ H) : ∃ W : Nat → Nat → L2.St → Hp → Prop, (∃ m, W 0 m σ H) ∧ ∀ i m σ H, W i m σ H →
    ((IteS x).stop i H ∧ D.nx σ H) ∨ ((IteS x).go i H ∧ ∃ N : L2.St → Hp → Prop, (∀ σ' H', N σ' H' → ∃ m', m' < m ∧ W (i + 1) m' σ' H') ∧ ∀ v H', (IteS x).yld i H v H' → g v σ H' fun σ2 H2 => tb { D with nx := N, ct := N, bk := D.nx } σ2 H2) := by
  have sz : x.cps.size = (tl x).length := by show _ = x.cps.toList.length; simp
  refine ⟨fun i m σ H => m = x.cps.size - i ∧ i ≤ x.cps.size ∧ Pv i σ H, ⟨x.cps.size, by simp, Nat.zero_le _, h0⟩, ?_⟩
  rintro i m σ H ⟨rfl, hi, p⟩
  by_cases hlt : i < x.cps.size
  · refine .inr ⟨hlt, Pv (i + 1), fun σ' H' p' => ⟨x.cps.size - (i + 1), by omega, rfl, hlt, p'⟩, fun v H' y => ?_⟩
    obtain ⟨T, c, rfl, hT, hc, rfl⟩ := y
    exact hs i c T σ H (by show x.cps.toList[i]? = _; rw [Array.getElem?_toList]; exact hc) p hT
  · have e : i = (tl x).length := by omega
    subst e
    exact .inl ⟨by show x.cps.size ≤ _; omega, hd σ H p⟩
theorem digit_index {c : Nat} (h : 48 ≤ c ∧ c ≤ 57) : Builtin.Str.occurrences ("0123456789" : Str) ⟨#[c]⟩ 0 ("0123456789" : Str).length 1 = [c - 48] := by
  have d : c = 48 ∨ c = 49 ∨ c = 50 ∨ c = 51 ∨ c = 52 ∨ c = 53 ∨ c = 54 ∨ c = 55 ∨ c = 56 ∨ c = 57 := by omega
  rcases d with rfl | rfl | rfl | rfl | rfl | rfl | rfl | rfl | rfl | rfl <;> decide +kernel
theorem in_digits {c : Nat} : decide (c ∈ ("0123456789" : Str).cps.toList) = decide (48 ≤ c ∧ c ≤ 57) := by
  have e : ("0123456789" : Str).cps.toList = [48, 49, 50, 51, 52, 53, 54, 55, 56, 57] := by decide +kernel
  rw [e]
  apply decide_eq_decide.mpr
  simp only [List.mem_cons, List.not_mem_nil, or_false]
  omega
theorem one_is {c d : Nat} : ((⟨#[c]⟩ : Str) = ⟨#[d]⟩) ↔ c = d := by
  constructor
  · intro h
    have := congrArg tl h
    simpa [tl] using this
  · intro h; rw [h]
def spWholeL : Sp := fun vs H Q _ => ∃ z : Str, vs = [.str z] ∧ z.length ≤ 400 ∧ ∀ (r : Int) (H' : Hp), Same H H' → IsW (tl z) r → Q (.int r) H'
theorem ok_l_whole (T : Txt w K mg) : FnOk P w K mg base CX0 1 T.f_l_whole T.fd_l_whole ["_law_word"] spWholeL := by
  refine T.F_l_whole.ok sc_l_whole (fun vs H Q E h => ?_) (fun cdv A outer s H vs Q E hr h => ?_)
  · obtain ⟨z, rfl, _⟩ := h
    rfl
  · obtain ⟨z, rfl, hl, k⟩ := h
    refine ⟨_, (pss_cons (ps_set (i := 1) sc_l_whole.nd rfl (Or.inl rfl) (pe_un un_neg pe_int))
 (pss_cons (ps_for PassesOwn.never rfl (pi_enumS (by rfl) T.n_enumerate (pa_cons (pv 0) pa_nil)) (pg_tup rfl (pgs_cons (pg_name (i := 2) sc_l_whole.nd rfl (Or.inl rfl)) (pgs_cons (pg_name (i := 3) sc_l_whole.nd rfl (Or.inl rfl)) pgs_nil)))
  (C8.pss_cut (ps_if (PW.pt (pw_or (pt_cmpR op_notInS (pv 3) pe_str (by rfl)) (pw_or1 (PW.pt (pw_and (pt_cmpR op_gt (pv 2) pe_int (nomark _)) (pw_and1 (pt_cmpR op_eq (pe_ix ix_str (pv 0) pe_int (fun _ _ => rfl)) pe_str (nomark _))))))))
  (pss_one (ps_ret (pe_un un_neg pe_int)))
  pss_nil)
 (pss_one (ps_set (i := 1) sc_l_whole.nd rfl (Or.inl rfl) (pe_op op_add (pe_op op_mul pe_int (pe_callB (call_max2 rfl) (by rfl) T.n_max (by decide +kernel) (pa_cons pe_int (pa_cons (pv 1) pa_nil)))) (pe_bm PySem.F.plainAttrs_str PySem.F.slot_str_index PySem.F.type_str_index mt_sindex pe_str (pa_cons (pv 3) pa_nil)))))))
 (pss_one (ps_ret (pv 1))))), ?_⟩
    have zl := len_tl z
    walk_at "rdg"
    refine r_forE ?_
    walk_at "rdg"
    refine ⟨z, rfl, for_enumS (fun i σ H' => ∃ (fd : Int) (v2 v3 : Option V), σ = [some (.str z), some (.int fd), v2, v3] ∧ Same H H' ∧ AllDigits ((tl z).take i) ∧ (i = 0 → fd = -1) ∧ (0 < i → fd = digitsVal ((tl z).take i)) ∧ (2 ≤ i → ∀ r, tl z ≠ 48 :: r))
      ⟨_, _, _, rfl, Same.refl _, fun c hc => by simp at hc, fun _ => rfl, fun h => by omega, fun h => by omega⟩ ?_ ?_⟩
    · rintro i c p σ H1 hc ⟨fd, v2, v3, rfl, s1, ad, f0, f1, f2⟩ hp
      have s2 := s1.trans (Same.new (o := .tup [.int ((i : Nat) : Int), .str ⟨#[c]⟩]) hp)
      obtain ⟨hi, hgc⟩ := List.getElem?_eq_some_iff.mp hc
      walk_at "rdg"
      refine r_gTup upd_same rfl ?_
      walk_at "rdg"
      have neg : ¬ Can (tl z) → Q (.int (-1)) (upd H1 p (.tup [.int ((i : Nat) : Int), .str ⟨#[c]⟩])) := fun h => k _ _ s2 (.inr ⟨h, rfl⟩)
      refine r_cut (fun σ' H' => σ' = [some (.str z), some (.int fd), some (.int (i : Nat)), some (.str ⟨#[c]⟩)] ∧ H' = upd H1 p (.tup [.int ((i : Nat) : Int), .str ⟨#[c]⟩]) ∧ (48 ≤ c ∧ c ≤ 57) ∧ (0 < i → ∀ r, tl z ≠ 48 :: r)) ?_ ?_
      · walk_at "rdg"
        refine ⟨c, _, rfl, rfl, ?_⟩
        rw [in_digits]
        walk_at "rdg"
        refine r_ite (fun e => ?_) (fun e => ?_)
        · walk_at "rdg"
          refine r_iteT rfl ?_
          walk_at "rdg"
          refine neg fun h => ?_
          have := h.1 c (List.mem_of_getElem? hc)
          simp at e
          omega
        have dc : 48 ≤ c ∧ c ≤ 57 := by simpa using e
        walk_at "rdg"
        refine r_ite (fun e1 => ?_) (fun e1 => ?_)
        · have i1 : 0 < i := by have := of_decide_eq_true e1; omega
          walk_at "rdg"
          obtain ⟨c0, r0, e0⟩ : ∃ c0 r0, tl z = c0 :: r0 := by
            cases q : tl z with
            | nil => rw [q] at hi; exact absurd hi (Nat.not_lt_zero _)
            | cons c0 r0 => exact ⟨_, _, rfl⟩
          refine ⟨z, 0, c0, rfl, rfl, Nat.le_trans hl (by decide), by show atI (tl z) 0 = _; rw [e0]; exact atI_nat (j := 0) rfl, ?_⟩
          walk_at "rdg"
          refine r_ite (fun e2 => ?_) (fun e2 => ?_)
          · walk_at "rdg"
            refine neg fun h => ?_
            have c48 : c0 = 48 := one_is.mp (of_decide_eq_true e2)
            subst c48
            have := h.2.2 r0 e0
            rw [e0, this] at hi
            simp at hi
            omega
          · walk_at "rdg"
            refine ⟨rfl, rfl, dc, fun _ r e => ?_⟩
            have c48 : c0 ≠ 48 := fun q => of_decide_eq_false e2 (one_is.mpr q)
            rw [e0] at e
            exact c48 (List.cons.inj e).1
        · have i0 : ¬ 0 < i := by have := of_decide_eq_false e1; omega
          refine r_iteF rfl ?_
          walk_at "rdg"
          exact ⟨rfl, rfl, dc, fun h => absurd h i0⟩
      rintro σ' H' ⟨rfl, rfl, dc, nz⟩
      have tk : (tl z).take (i + 1) = (tl z).take i ++ [c] := by rw [List.take_add_one, hc]; rfl
      have ad' : AllDigits ((tl z).take (i + 1)) := fun d hd => by
        rw [tk] at hd
        rcases List.mem_append.mp hd with h | h
        · exact ad d h
        · rw [List.mem_singleton.mp h]; exact dc
      have nf : 10 * (if fd > 0 then fd else 0) + ((c - 48 : Nat) : Int) = digitsVal ((tl z).take (i + 1)) := by
        rw [tk, val_snoc]
        by_cases i0 : i = 0
        · subst i0
          rw [f0 rfl]
          simp [digitsVal]
        · rw [f1 (by omega)]
          split <;> omega
      have big : (if fd > 0 then fd else 0).natAbs < 2 ^ 1400 := by
        have v := val_lt ad
        have l : ((tl z).take i).length ≤ 400 := by rw [List.length_take]; omega
        have : digitsVal ((tl z).take i) < 2 ^ 1400 := Nat.lt_of_lt_of_le v (Nat.le_trans (Nat.pow_le_pow_right (by decide) l) (by decide +kernel))
        by_cases i0 : i = 0
        · rw [f0 i0]; decide
        · rw [f1 (by omega)]
          split <;> omega
      walk_at "rdg"
      refine ⟨_, _, rfl, ?_⟩
      refine r_I (.inl ⟨by decide, by decide⟩) ?_
      walk_at "rdg"
      refine ⟨rfl, ?_⟩
      walk_at "rdg"
      refine ⟨_, _, c - 48, [], rfl, rfl, digit_index dc, ?_⟩
      walk_at "rdg"
      rw [nf]
      refine ⟨_, _, _, rfl, s2, ad', fun h => by omega, fun _ => rfl, fun h => nz (by omega)⟩
    · rintro σ H1 ⟨fd, v2, v3, rfl, s1, ad, f0, f1, f2⟩
      rw [List.take_length] at ad f1
      walk_at "rdg"
      refine k _ _ s1 ?_
      by_cases n0 : (tl z).length = 0
      · refine .inr ⟨fun h => h.2.1 (List.eq_nil_of_length_eq_zero n0), f0 n0⟩
      · have ne : tl z ≠ [] := fun e => n0 (by rw [e]; rfl)
        refine .inl ⟨⟨ad, ne, fun r e => ?_⟩, f1 (by omega)⟩
        by_cases l2 : 2 ≤ (tl z).length
        · exact absurd e (f2 l2 r)
        · rw [e, List.length_cons] at l2
          exact List.eq_nil_of_length_eq_zero (by omega)
end
end My

namespace My
open PySem L2 TL NumText
section
variable {P : Program} {w : World} {K : PySem.W.Frag} {mg : Str → Option Value} {base : Heap}
/-! ### the law's own reading of a text -/
def spReadL : Sp := fun vs H Q _ => ∃ t : Str, vs = [.str t] ∧ t.length ≤ 4000 ∧ (∀ x, IsN t x → ∀ (p : Addr) (H' : Hp), Same H H' → H' p = some (.tup [.int x.num, .int (x.den : Int)]) → Q (.ref p) H') ∧ ((∀ x, ¬ IsN t x) → ∀ H', Same H H' → Q .non H')
theorem kind_slash (t : Str) : ¬ Builtin.Str.strKind t < Builtin.Str.strKind ("/" : Str) := by
  have e : Builtin.Str.strKind ("/" : Str) = 1 := by decide +kernel
  rw [e]
  unfold Builtin.Str.strKind
  split
  · omega
  · split <;> omega
theorem split_slash (t : Str) : (Txt.split t "/").map tl = spl [47] 0 [] (tl t) := split_spl t "/" (by decide) (kind_slash t)
theorem cut_one (t : Str) : tl (cutS t none (some 1)) = (tl t).take 1 := by
  show ((tl t).drop 0).take (min 1 t.length - 0) = _
  rw [len_tl]
  simp only [List.drop_zero, Nat.sub_zero]
  cases tl t with
  | nil => rfl
  | cons c r => simp
theorem cut_from (t : Str) (b : Bool) : tl (cutS t (some (if b = true then 1 else 0)) none) = (tl t).drop (if b = true then 1 else 0) := by
  cases b
  · show ((tl t).drop (min 0 t.length)).take (t.length - min 0 t.length) = _
    rw [len_tl, Nat.zero_min]
    exact List.take_of_length_le (by simp)
  · show ((tl t).drop (min 1 t.length)).take (t.length - min 1 t.length) = (tl t).drop 1
    rw [len_tl]
    by_cases h : 1 ≤ (tl t).length
    · rw [Nat.min_eq_left h]
      exact List.take_of_length_le (by simp)
    · have : tl t = [] := List.eq_nil_of_length_eq_zero (by omega)
      rw [this]; rfl
theorem spl_len' : ∀ (n : Nat) {b : List Nat} {w : List Nat}, b.length ≤ n → w ∈ spl [47] 0 [] b → w.length ≤ b.length
  | n, b, w, hn, h => by
    rcases first_cut b with e | ⟨c, d, rfl, e⟩
    · rw [spl_one e] at h
      rw [List.mem_singleton.mp h]
      exact Nat.le_refl _
    · rw [spl_two e] at h
      rw [List.length_append, List.length_cons] at hn ⊢
      rcases List.mem_cons.mp h with h | h
      · rw [h]; omega
      · cases n with
        | zero => omega
        | succ n =>
          have := spl_len' n (by omega) h
          omega
theorem spl_len {b w : List Nat} (h : w ∈ spl [47] 0 [] b) : w.length ≤ b.length := spl_len' b.length (Nat.le_refl _) h
theorem spl_many' : ∀ (n : Nat) (b : List Nat), b.length ≤ n → (spl [47] 0 [] b).length ≤ b.length + 1
  | n, b, hn => by
    rcases first_cut b with e | ⟨c, d, rfl, e⟩
    · rw [spl_one e]; simp
    · rw [spl_two e, List.length_cons]
      rw [List.length_append, List.length_cons] at hn ⊢
      cases n with
      | zero => omega
      | succ n =>
        have := spl_many' n d (by omega)
        omega
theorem spl_many (b : List Nat) : (spl [47] 0 [] b).length ≤ b.length + 1 := spl_many' b.length b (Nat.le_refl _)
theorem shaped_intsT (xs : List Int) : SeqAt.shaped (.tuple (xs.map PyData.int)) = true := by
  obtain ⟨a, b⟩ := lay_ints xs
  have a' : PyData.canLay0 (.tuple (xs.map PyData.int)) = true := by rw [PyData.canLay0]; exact a
  have b' : PyData.depth (.tuple (xs.map PyData.int)) = 1 := by rw [PyData.depth, b]
  unfold SeqAt.shaped
  rw [a', b']; rfl
theorem r_neIntsT {K : PySem.W.Frag} {H : Hp} {Q : VK} {p q : Addr} {xs ys : List Int} (h : SqT K H p (xs.map V.int)) (h' : SqT K H q (ys.map V.int)) (k : Q (.bl (!decide (xs = ys))) H) : rNeD K (.ref p) (.ref q) H Q :=
  ⟨.tuple (xs.map PyData.int), .tuple (ys.map PyData.int), .tup h (dp_ints xs), .tup h' (dp_ints ys), shaped_intsT xs, shaped_intsT ys, by
    rw [PyData.eqv, eqv_ints]; exact k⟩
theorem isW_small {l : List Nat} {r : Int} (h : IsW l r) (hl : l.length ≤ 60) : r.natAbs < 2 ^ 210 := by
  rcases h with ⟨c, rfl⟩ | ⟨_, rfl⟩
  · have v := val_lt c.1
    have : (10 : Nat) ^ l.length ≤ 10 ^ 60 := Nat.pow_le_pow_right (by decide) hl
    have e : (10 : Nat) ^ 60 ≤ 2 ^ 210 := by decide
    omega
  · decide
theorem ok_l_read (T : Txt w K mg) : FnOk P w K mg base CX0 2 T.f_l_read T.fd_l_read ["_law_text_here"] spReadL := by
  refine T.F_l_read.ok sc_l_read (fun vs H Q E h => ?_) (fun cdv A outer s H vs Q E hr h => ?_)
  · obtain ⟨z, rfl, _⟩ := h
    rfl
  · obtain ⟨t, rfl, ht, kg, kb⟩ := h
    refine ⟨_, (pss_cons (ps_if (pt_cmpR op_gt (pe_callB call_len_str (by rfl) T.n_len PySem.boot_len (pa_cons (pv 0) pa_nil)) pe_int (nomark _))
  (pss_one (ps_ret pe_non))
  pss_nil)
 (pss_cons (ps_set (i := 1) sc_l_read.nd rfl (Or.inl rfl) (pe_split (pv 0) pe_str))
 (pss_cons (ps_set (i := 2) sc_l_read.nd rfl (Or.inl rfl) (pe_cmpR op_eq (pe_slice sl_str (pv 0) po_none (po_some pe_int)) pe_str (nomark _)))
 (pss_cons (ps_set (i := 3) sc_l_read.nd rfl (Or.inl rfl) (pe_call (ok_l_whole T) (hr.mono (by decide)) (by rfl) T.m_l_whole T.F_l_whole.kp T.b_l_whole .nil pass0 (pa_cons (pe_slice sl_str (pe_ix ix_list (pv 1) pe_int (fun _ _ => rfl)) (po_some (pe_callTy call_int1 (by rfl) T.n_int (by decide +kernel) (pa_cons (pv 2) pa_nil))) po_none) pa_nil)))
 (C8.pss_cut (ps_set (i := 4) sc_l_read.nd rfl (Or.inl rfl) (pe_ifExp (pt_cmpR op_eq (pe_callB call_len_seq (by rfl) T.n_len PySem.boot_len (pa_cons (pv 1) pa_nil)) pe_int (nomark _)) (pe_call (ok_l_whole T) (hr.mono (by decide)) (by rfl) T.m_l_whole T.F_l_whole.kp T.b_l_whole .nil pass0 (pa_cons (pe_ix ix_list (pv 1) pe_int (fun _ _ => rfl)) pa_nil)) pe_int))
 (C8.pss_cut (ps_if (PW.pt (pw_or (pt_cmpR op_gt (pe_callB call_len_seq (by rfl) T.n_len PySem.boot_len (pa_cons (pv 1) pa_nil)) pe_int (nomark _)) (pw_or (pt_cmpR op_lt (pv 3) pe_int (nomark _)) (pw_or (pt_cmpR op_lt (pv 4) pe_int (nomark _)) (pw_or (PW.pt (pw_and (pt_val (pv 2)) (pw_and1 (pt_cmpR op_eq (pv 3) pe_int (nomark _))))) (pw_or1 (PW.pt (pw_and (pt_cmpR op_eq (pe_callB call_len_seq (by rfl) T.n_len PySem.boot_len (pa_cons (pv 1) pa_nil)) pe_int (nomark _)) (pw_and1 (pt_cmpR op_eq (pv 4) pe_int (nomark _)))))))))))
  (pss_one (ps_ret pe_non))
  pss_nil)
 (pss_cons (ps_if (pt_cmpR (op_neD hr.units) (pe_call (ok_l_lowest T) (hr.mono (by decide)) (by rfl) T.m_l_lowest T.F_l_lowest.kp T.b_l_lowest .nil pass0 (pa_cons (pv 3) (pa_cons (pv 4) pa_nil))) (pe_tup (pa_cons (pv 3) (pa_cons (pv 4) pa_nil))) (nomark _))
  (pss_one (ps_ret pe_non))
  pss_nil)
 (pss_one (ps_ret (pe_tup (pa_cons (pe_op op_mulW (pv 3) (pe_ix ix_list (pe_lst (pa_cons pe_int (pa_cons (pe_un un_neg pe_int) pa_nil))) (pe_callTy call_int1 (by rfl) T.n_int (by decide +kernel) (pa_cons (pv 2) pa_nil)) (fun _ _ => rfl))) (pa_cons (pv 4) pa_nil)))))))))))), ?_⟩
    have sl : sizeLine = 16777216 := rfl
    walk_at "rdg"
    refine ⟨t, rfl, by omega, ?_⟩
    walk_at "rdg"
    refine r_ite (fun e => ?_) (fun e => ?_)
    · walk_at "rdg"
      refine kb (fun x hx => ?_) H (Same.refl _)
      have := hx.2
      have := of_decide_eq_true e
      omega
    have hl : t.length ≤ 60 := by have := of_decide_eq_false e; omega
    walk_at "rdg"
    refine ⟨_, _, rfl, rfl, rfl, by omega, fun wl hwl => ?_⟩
    have hw := split_slash t
    have wn : Txt.split t "/" ≠ [] := fun z => by
      rw [z] at hw
      exact spl_ne _ hw.symm
    have wlen : ∀ w ∈ Txt.split t "/", w.length ≤ 60 := fun w hm => by
      have m : tl w ∈ spl [47] 0 [] (tl t) := by rw [← hw]; exact List.mem_map_of_mem hm
      have := spl_len m
      rw [len_tl]
      rw [len_tl] at hl
      omega
    generalize Txt.split t "/" = ws at *
    have s1 := Same.new (o := .lst (ws.map V.str)) hwl
    have hW := upd_same (H := H) (a := wl) (o := HO.lst (ws.map V.str))
    generalize upd H wl (.lst (ws.map V.str)) = H1 at *
    obtain ⟨w0, wr, rfl⟩ := List.exists_cons_of_ne_nil wn
    walk_at "rdg"
    refine ⟨t, rfl, by omega, ?_⟩
    walk_at "rdg"
    have hb : decide (cutS t none (some 1) = ("-" : Str)) = decide ((tl t).take 1 = [45]) := by
      apply decide_eq_decide.mpr
      rw [← cut_one]
      constructor
      · intro h; rw [h]; rfl
      · intro h; exact ext_tl h
    rw [hb]
    generalize hbb : decide ((tl t).take 1 = [45]) = b
    walk_at "rdg"
    refine r_ixL hW (atI_nat (j := 0) rfl) ?_
    walk_at "rdg"
    refine .inr ⟨b, rfl, ?_⟩
    walk_at "rdg"
    have w0l := wlen w0 (List.mem_cons_self ..)
    refine ⟨w0, rfl, by omega, ?_⟩
    walk_at "rdg"
    refine ⟨_, rfl, Nat.le_trans (cutS_length w0 _ _) (by omega), fun top H2 s2 ht2 => ?_⟩
    rw [cut_from] at ht2
    have hW2 := s2 _ _ hW
    walk_at "rdg"
    refine r_cut (fun σ' H' => ∃ bot : Int, σ' = [some (.str t), some (.ref wl), some (.bl b), some (.int top), some (.int bot)] ∧ Same H2 H' ∧ RF (tl t) ((w0 :: wr).map tl) b top bot) ?_ ?_
    · walk_at "rdg"
      refine ⟨wl, _, rfl, .inl (SqL.of hW2), ?_⟩
      walk_at "rdg"
      rw [List.length_map]
      refine r_ite (fun e2 => ?_) (fun e2 => ?_)
      · have e2' := of_decide_eq_true e2
        obtain ⟨w1, rfl⟩ : ∃ w1, wr = [w1] := by
          match wr, e2' with
          | [w1], _ => exact ⟨w1, rfl⟩
          | [], h => simp at h
          | _ :: _ :: _, h => simp at h; omega
        walk_at "rdg"
        refine r_ixL hW2 (atI_nat (j := 1) rfl) ?_
        walk_at "rdg"
        have w1l := wlen w1 (by simp)
        refine ⟨w1, rfl, by omega, fun bot H3 s3 hb3 => ?_⟩
        walk_at "rdg"
        exact ⟨bot, rfl, s3, ⟨hw, hbb.symm, ht2, .inl ⟨_, _, rfl, hb3⟩⟩⟩
      · walk_at "rdg"
        refine ⟨1, rfl, Same.refl _, ⟨hw, hbb.symm, ht2, .inr ⟨fun z => of_decide_eq_false e2 ?_, rfl⟩⟩⟩
        rw [List.length_map] at z
        omega
    rintro σ' H3 ⟨bot, rfl, s3, rf⟩
    have hW3 := s3 _ _ hW2
    have sAll := (s1.trans s2).trans s3
    have good := fun x hx => good_of (x := x) hx rf
    have no : ¬ Good ((w0 :: wr).map tl).length b top bot → ∀ H', Same H3 H' → Q .non H' := fun h H' s => kb (fun x hx => h (good x hx)) H' (sAll.trans s)
    rw [List.length_map] at no
    refine r_cut (fun σ' H' => σ' = [some (.str t), some (.ref wl), some (.bl b), some (.int top), some (.int bot)] ∧ H' = H3 ∧ (w0 :: wr).length ≤ 2 ∧ 0 ≤ top ∧ 1 ≤ bot ∧ ¬ (b = true ∧ top = 0) ∧ ¬ ((w0 :: wr).length = 2 ∧ bot = 1)) ?_ ?_
    · walk_at "rdg"
      refine ⟨wl, _, rfl, .inl (SqL.of hW3), ?_⟩
      walk_at "rdg"
      rw [List.length_map]
      refine r_ite (fun e1 => ?_) (fun e1 => ?_)
      · refine r_iteT rfl ?_
        walk_at "rdg"
        refine no (fun g => ?_) _ (Same.refl _)
        have := g.n2; have := of_decide_eq_true e1; omega
      walk_at "rdg"
      refine r_ite (fun e2 => ?_) (fun e2 => ?_)
      · refine r_iteT rfl ?_
        walk_at "rdg"
        refine no (fun g => ?_) _ (Same.refl _)
        have := g.t0; have := of_decide_eq_true e2; omega
      walk_at "rdg"
      refine r_ite (fun e3 => ?_) (fun e3 => ?_)
      · refine r_iteT rfl ?_
        walk_at "rdg"
        refine no (fun g => ?_) _ (Same.refl _)
        have := g.b1; have := of_decide_eq_true e3; omega
      have f1 := of_decide_eq_false e1
      have f2 := of_decide_eq_false e2
      have f3 := of_decide_eq_false e3
      have lastP : ¬ (b = true ∧ top = 0) → ¬ ((w0 :: wr).length = 2 ∧ bot = 1) → (w0 :: wr).length ≤ 2 ∧ 0 ≤ top ∧ 1 ≤ bot ∧ ¬ (b = true ∧ top = 0) ∧ ¬ ((w0 :: wr).length = 2 ∧ bot = 1) := fun h1 h2 => ⟨by omega, by omega, by omega, h1, h2⟩
      walk_at "rdg"
      cases b
      · have hb' : ¬ (false = true ∧ top = 0) := fun z => Bool.noConfusion z.1
        refine r_iteF rfl ?_
        refine r_iteF rfl ?_
        walk_at "rdg"
        refine ⟨wl, _, rfl, .inl (SqL.of hW3), ?_⟩
        walk_at "rdg"
        rw [List.length_map]
        refine r_ite (fun e4 => ?_) (fun e4 => ?_)
        · walk_at "rdg"
          refine r_ite (fun e5 => ?_) (fun e5 => ?_)
          · (try refine r_iteT rfl ?_)
            walk_at "rdg"
            refine no (fun g => g.nn ⟨?_, of_decide_eq_true e5⟩) _ (Same.refl _)
            have := of_decide_eq_true e4; omega
          · (try refine r_iteF rfl ?_)
            walk_at "rdg"
            exact ⟨rfl, rfl, lastP hb' fun z => of_decide_eq_false e5 z.2⟩
        · (try refine r_iteF rfl ?_)
          walk_at "rdg"
          refine ⟨rfl, rfl, lastP hb' fun z => of_decide_eq_false e4 ?_⟩
          have := z.1; omega
      · refine r_iteT rfl ?_
        walk_at "rdg"
        refine r_ite (fun e6 => ?_) (fun e6 => ?_)
        · refine r_iteT rfl ?_
          walk_at "rdg"
          exact no (fun g => g.nb ⟨rfl, of_decide_eq_true e6⟩) _ (Same.refl _)
        have hb' : ¬ (true = true ∧ top = 0) := fun z => of_decide_eq_false e6 z.2
        walk_at "rdg"
        refine ⟨wl, _, rfl, .inl (SqL.of hW3), ?_⟩
        walk_at "rdg"
        rw [List.length_map]
        refine r_ite (fun e4 => ?_) (fun e4 => ?_)
        · walk_at "rdg"
          refine r_ite (fun e5 => ?_) (fun e5 => ?_)
          · (try refine r_iteT rfl ?_)
            walk_at "rdg"
            refine no (fun g => g.nn ⟨?_, of_decide_eq_true e5⟩) _ (Same.refl _)
            have := of_decide_eq_true e4; omega
          · (try refine r_iteF rfl ?_)
            walk_at "rdg"
            exact ⟨rfl, rfl, lastP hb' fun z => of_decide_eq_false e5 z.2⟩
        · (try refine r_iteF rfl ?_)
          walk_at "rdg"
          refine ⟨rfl, rfl, lastP hb' fun z => of_decide_eq_false e4 ?_⟩
          have := z.1; omega
    rintro σ' H4 ⟨rfl, rfl, n2, t0, b1, nb, nn⟩
    have topB : top.natAbs < 2 ^ 210 := isW_small ht2 (by rw [List.length_drop]; have := len_tl w0; omega)
    have botB : bot.natAbs < 2 ^ 210 := by
      rcases rf.hbm with ⟨v0, v1, e, hv⟩ | ⟨_, rfl⟩
      · refine isW_small hv ?_
        have m : v1 ∈ spl [47] 0 [] (tl t) := by rw [← hw, e]; simp
        have := spl_len m
        rw [len_tl] at hl
        omega
      · decide
    walk_at "rdg"
    refine ⟨top, bot, rfl, by omega, Nat.lt_of_lt_of_le botB (Nat.pow_le_pow_right (by decide) (by decide)), fun p H4 s4 _ hp => ?_⟩
    walk_at "rdg"
    refine r_new (by show 2 ≤ 1000; decide) fun p2 hp2 => ?_
    have s5 := Same.new (o := .tup [.int top, .int bot]) hp2
    refine r_neIntsT (xs := [(Rat.divInt top bot).num, ((Rat.divInt top bot).den : Int)]) (ys := [top, bot]) (SqT.of (s5 _ _ hp)) (SqT.of upd_same) ?_
    generalize upd H4 p2 (.tup [.int top, .int bot]) = H5 at *
    walk_at "rdg"
    refine r_ite (fun e => ?_) (fun e => ?_)
    · walk_at "rdg"
      refine no (fun g => ?_) _ (s4.trans s5)
      have : [(Rat.divInt top bot).num, ((Rat.divInt top bot).den : Int)] = [top, bot] := by rw [g.num, g.den]
      simp [this] at e
    · have e' : [(Rat.divInt top bot).num, ((Rat.divInt top bot).den : Int)] = [top, bot] := by simpa using e
      obtain ⟨q1, q2⟩ := List.cons.inj e'
      have q3 := (List.cons.inj q2).1
      have g : Good ((w0 :: wr).map tl).length b top bot := ⟨by rw [List.length_map]; exact n2, t0, b1, nb, by rw [List.length_map]; exact nn, q1, q3⟩
      have isn := is_of hl rf g
      obtain ⟨n1, d1⟩ := numOf_fields g
      walk_at "rdg"
      refine r_new (by show 2 ≤ 1000; decide) fun l2 hl2 => ?_
      have s6 := Same.new (o := .lst [.int 1, .int (-1)]) hl2
      walk_at "rdg"
      refine .inr ⟨b, rfl, ?_⟩
      refine r_ixL (v := .int (if b = true then -1 else 1)) upd_same (by cases b <;> rfl) ?_
      refine r_I (wide_mul (a := 210) (b := 1) topB (by cases b <;> decide) (by decide) (by decide) (by decide)) ?_
      walk_at "rdg"
      refine r_new (by show 2 ≤ 1000; decide) fun p3 hp3 => ?_
      have s7 := Same.new (o := .tup [.int (top * (if b = true then -1 else 1)), .int bot]) hp3
      refine kg _ isn p3 _ ((sAll.trans (s4.trans s5)).trans (s6.trans s7)) ?_
      rw [upd_same, n1, d1]
      cases b <;> simp
end
end My

namespace My
open PySem L2 TL NumText
theorem call_isiK {X : Cx} {K0 : PySem.W.Frag} (hK : X.K = K0) : CallR X (.builtin "isinstance") (rIsi K0) := by
  subst hK
  exact call_isi
theorem pe_fldK {X : Cx} {e : Expr} {f : Str} {pos : Pos} {ta : TE} {K0 : PySem.W.Frag} (hK : X.K = K0) (he : PE X e ta) (hb : attributeBase e f X.env (eval e X.env) = eval e X.env) : PE X (.Attribute e f pos) (tFld K0 ta f) := by
  subst hK
  exact pe_fld he hb
theorem r_callS {sp : Sp} {E : L2.St → XK} {t : TA} {σ : L2.St} {H : Hp} {Q : VK} (q : t σ H fun vs H1 => sp vs H1 Q (E σ)) : tCallS sp E t σ H Q := q
def t_told (K : PySem.W.Frag) (NT FE NB US : Addr) : Addr → Value → Option Addr → TS := fun a cls d =>
  tIfS (tAnd (tB (tCB (rIsErr K NT a cls d) (tCons (tVar 3) (tCons (tC (.ty "ValueError")) tNil))))
    (tAnd (tNot (tB (tCB (rIsErr K NT a cls d) (tCons (tVar 3) (tCons (tTup (tCons (tC (.ref FE)) (tCons (tC (.ref NB)) (tCons (tC (.ref US)) tNil)))) tNil)))))
      (tTest (tOp rEq (tCB (rReprA K) (tCons (tHeldF K "at" a cls d (tVar 3)) tNil)) (tC (.str "0"))))))
    (tAsg (tC .non) (gName 1)) tNext
theorem r_heldF {f : Str} {a : Addr} {cls : Value} {d : Option Addr} {te : TE} {σ : L2.St} {H : Hp} {Q : VK} {K : PySem.W.Frag} (q : te σ H fun x H1 => x = .ref a ∧ ∃ (C dd : Addr) (l : List (Str × V)) (v : V), cls = .ref C ∧ d = some dd ∧ H1 dd = some (.xd l) ∧ ErrGet K C f ∧ l.lookup f = some v ∧ Q v H1) : tHeldF K f a cls d te σ H Q := q
section
variable {P : Program} {w : World} {K : PySem.W.Frag} {mg : Str → Option Value} {base : Heap}
def RNum (x : Rat) : Str := PyData.shown (.tuple [.int x.num, .int (x.den : Int)])
def RNone : Str := PyData.shown .none
def spTold (C : Addr) : Sp := fun vs H Q _ => (∃ t : Str, vs = [.str t] ∧ t.length ≤ 4000 ∧ (∀ x, IsN t x → ∀ H', Same H H' → Q (.str (RNum x)) H') ∧ ((∀ x, ¬ IsN t x) → ∀ H', Same H H' → Q (.str RNone) H')) ∨
  ∃ v, vs = [v] ∧ NoTx C H v ∧ ∀ H', Same H H' → Q (.str RNone) H'
theorem any_none3 {K : PySem.W.Frag} {t a b c : Value} (ha : PySem.W.kitOne K t a = some false) (hb : PySem.W.kitOne K t b = some false) (hc : PySem.W.kitOne K t c = some false) : PySem.W.kitAny K t [a, b, c] = some false :=
  kitAny_cons ha (fun _ => kitAny_cons hb (fun _ => kitAny_cons hc (fun _ => rfl) (fun z => nomatch z)) (fun z => nomatch z)) (fun z => nomatch z)
theorem is_num (T : Txt w K mg) {H : Hp} {p : Addr} {q : Rat} {Q : VK} (h : NumAt T.C_Number H p q) (k : Q (.bl true) H) : rIsi K [.ref p, .ref T.C_Number] H Q := by
  obtain ⟨dx, e⟩ := h
  exact ⟨.ref p, .ref T.C_Number, .ref T.C_Number, .ref T.C_Number, true, rfl, .own _, .base (.ins e T.c_Number T.ty_Number_c T.ty_Number_g T.ty_Number_t T.ty_Number_m), T.ty_Number_k, k⟩
theorem told_suite (T : Txt w K mg) {D : Ends} {v s1 : V} {H : Hp} {d a0 : Addr} {x2 : Option V} (hd : H d = some atX)
    (k : ∀ H' : Hp, Same H H' → D.nx [some v, some .non, x2, some (.ref a0)] H') :
    t_told K T.C_NoText T.C_FigureError T.C_NoBottom T.C_Unsorted a0 (.ref T.C_NoText) (some d) D [some v, some s1, x2, some (.ref a0)] H := by
  unfold t_told
  walk_at "rdh"
  refine ⟨rfl, d, _, rfl, hd, .inl ⟨_, _, _, rfl, .ty _, T.kt_VE, ?_⟩⟩
  walk_at "rdh"
  refine r_iteT rfl ?_
  walk_at "rdh"
  refine r_new (by show 3 ≤ 1000; decide) fun tp htp => ?_
  have s1' := Same.new (o := .tup [.ref T.C_FigureError, .ref T.C_NoBottom, .ref T.C_Unsorted]) htp
  refine ⟨rfl, d, _, rfl, s1' _ _ hd, .inr ⟨tp, _, _, false, rfl, upd_same, .cons (.own _) (.cons (.own _) (.cons (.own _) .nil)), any_none3 T.kt_FigureError T.kt_NoBottom T.kt_Unsorted, ?_⟩⟩
  have hd1 := s1' _ _ hd
  generalize upd H tp (.tup [.ref T.C_FigureError, .ref T.C_NoBottom, .ref T.C_Unsorted]) = H1 at *
  walk_at "rdh"
  refine r_iteT rfl ?_
  walk_at "rdh"
  refine r_heldF ?_
  walk_at "rdh"
  refine ⟨rfl, _, d, _, _, rfl, rfl, hd1, T.gt_NoText, rfl, ?_⟩
  walk_at "rdh"
  obtain ⟨f1, f2, f3, f4⟩ := data_opt (d := .int 0) (.inr ⟨0, rfl, by decide⟩)
  refine ⟨_, .int 0, rfl, .int _, f1, f2, f3, f4, ?_⟩
  walk_at "rdh"
  refine r_iteT (decide_eq_true (by decide +kernel)) ?_
  walk_at "rdh"
  exact k _ s1'
theorem okG_l_told (T : Txt w K mg) : FnG P w K mg base 9 T.f_l_told T.fd_l_told ["_law_thing"] (spTold T.C_Number) := by
  refine FnG.by_body T.F_l_told sc_l_told (fun vs H Q E h => ?_) (fun cdv A outer s H vs Q E hG hr h => ?_)
  · rcases h with ⟨t, rfl, _⟩ | ⟨t, rfl, _⟩ <;> rfl
  · have cN := T.c_Number
    have nT := T.n_Number_top
    have nB := T.n_Number_bottom
    refine ⟨_, (pss_cons (ps_set (i := 1) sc_l_told.nd rfl (Or.inl rfl) pe_str)
 (pss_cons (L2N.ps_try_as (i := 3) (ts := t_told K T.C_NoText T.C_FigureError T.C_NoBottom T.C_Unsorted) (Wout := fun _ _ _ _ => False) rfl rfl sc_l_told.nd rfl rfl ⟨rfl, by decide, Or.inl T.m_NoText⟩ takes0N (fun W pn xe tk _ => by exact (pss_cons (ps_set (i := 2) sc_l_told.nd rfl (Or.inl rfl) (pe_callS (ok_read_number T) (hr.mono (by decide)) (by rfl) T.m_read_number T.F_read_number.kp T.b_read_number (fun σ => L2N.passAt tk σ) (pa_cons (pv 0) pa_nil))) (pss_one (ps_if (pt_val (pe_callB (call_isiK (K0 := K) rfl) (by rfl) T.n_isinstance (by decide +kernel) (pa_cons (pv 2) (pa_cons (pe_glob (v := .ref T.C_Number) (by rfl) T.m_Number rfl) pa_nil)))) (pss_one (ps_set (i := 1) sc_l_told.nd rfl (Or.inl rfl) (pe_tup (pa_cons (pe_fldK (K0 := K) rfl (pv 2) (by rfl)) (pa_cons (pe_fldK (K0 := K) rfl (pv 2) (by rfl)) pa_nil))))) pss_nil)))) (fun a oe cls d pn hz hf => by exact (pss_one (ps_if (PW.pt (pw_and (pt_val (pe_callB (call_isErr T.x_NoText ⟨hz.1, hz.2.1⟩ hf) (by rfl) T.n_isinstance (by decide +kernel) (pa_cons (pv 3) (pa_cons (pe_bltn (v := .ty "ValueError") (by rfl) T.n_ValueError (by decide +kernel) rfl) pa_nil)))) (pw_and (pt_not (pt_val (pe_callB (call_isErr T.x_NoText ⟨hz.1, hz.2.1⟩ hf) (by rfl) T.n_isinstance (by decide +kernel) (pa_cons (pv 3) (pa_cons (pe_tup (pa_cons (pe_glob (v := .ref T.C_FigureError) (by rfl) T.m_FigureError rfl) (pa_cons (pe_glob (v := .ref T.C_NoBottom) (by rfl) T.m_NoBottom rfl) (pa_cons (pe_glob (v := .ref T.C_Unsorted) (by rfl) T.m_Unsorted rfl) pa_nil)))) pa_nil))))) (pw_and1 (pt_cmpR op_eq (pe_callB (call_reprA hG hr.units) (by rfl) T.n_repr (by decide +kernel) (pa_cons (pe_heldF ⟨hz.1, hz.2.1⟩ hf (pv 3)) pa_nil)) pe_str (nomark _)))))) (pss_one (ps_set (i := 1) sc_l_told.nd rfl (Or.inl rfl) pe_non)) pss_nil))))
 (pss_one (ps_ret (pe_callB (call_reprA hG hr.units) (by rfl) T.n_repr (by decide +kernel) (pa_cons (pv 1) pa_nil)))))), ?_⟩
    have nn : ∀ {v : V} {H' : Hp}, Same H H' → (∀ H', Same H H' → Q (.str RNone) H') → tRet (tCB (rReprA K) (tCons (tVar 1) tNil)) { nx := fun _ H' => Q .non H', rt := Q } [some v, some .non, none, none] H' := fun s1 k => by
      obtain ⟨f1, f2, f3, f4⟩ := data_opt (d := .none) (.inl rfl)
      walk_at "rdf"
      exact ⟨_, .none, rfl, .non, f1, f2, f3, f4, k _ s1⟩
    rcases h with ⟨t, rfl, ht, kg, kb⟩ | ⟨v, rfl, nt, kb⟩
    · walk_at "rdf"
      refine r_callS ?_
      walk_at "rdf"
      refine .inl ⟨t, rfl, by omega, fun x hx r H1 s1 h1 => ?_, fun no H1 d s1 hd => ?_⟩
      · have bx := den_lt (x := x) (by rw [hx.1]; exact hx.2)
        walk_at "rdf"
        refine is_num T h1 ?_
        walk_at "rdf"
        refine r_iteT rfl ?_
        obtain ⟨dr, hr1⟩ := h1
        walk_at "rdf"
        refine r_new (by show 2 ≤ 1000; decide) fun p hp => ?_
        have s2 := Same.new (o := .tup [.int x.num, .int (x.den : Int)]) hp
        walk_at "rdf"
        have b1 : x.num.natAbs < 2 ^ 1900 := Nat.lt_of_lt_of_le bx.1 (Nat.pow_le_pow_right (by decide) (by decide))
        have b2 : ((x.den : Int)).natAbs < 2 ^ 1900 := Nat.lt_of_lt_of_le (bd_den bx) (Nat.pow_le_pow_right (by decide) (by decide))
        obtain ⟨f1, f2, f3⟩ := data_two b1 b2
        exact ⟨_, .tuple [.int x.num, .int (x.den : Int)], rfl, .tup (SqT.of upd_same) (.cons (.int _) (.cons (.int _) .nil)), f1, f2, f3, short_two b1 b2, kg x hx _ (s1.trans s2)⟩
      · refine ⟨true, T.te_NoText, fun _ a0 _ => ?_, fun q => Bool.noConfusion q⟩
        refine told_suite T upd_same fun H' s' => ?_
        exact nn ((s1.trans (Same.new hd)).trans s') (kb no)
    · walk_at "rdf"
      refine r_callS ?_
      walk_at "rdf"
      refine .inr ⟨v, rfl, nt, fun H1 d s1 hd => ?_⟩
      refine ⟨true, T.te_NoText, fun _ a0 _ => ?_, fun q => Bool.noConfusion q⟩
      refine told_suite T upd_same fun H' s' => ?_
      exact nn ((s1.trans (Same.new hd)).trans s') kb
end
end My

namespace My
open PySem L2 TL NumText
section
variable {P : Program} {w : World} {K : PySem.W.Frag} {mg : Str → Option Value} {base : Heap}
/-! ### the law's texts -/
def spTextL : Sp := fun vs H Q _ => ∃ (t b : Int), vs = [.int t, .int b] ∧ t.natAbs < 10 ^ 40 ∧ b.natAbs < 10 ^ 40 ∧ ∀ z : Str, z.length ≤ 100 → (b ≠ 1 → z = TI t ++ "/" ++ TI b) → (b = 1 → z = TI t) → Q (.str z) H
theorem ti_len {i : Int} (h : i.natAbs < 10 ^ 40) : (TI i).length ≤ 41 := by
  rw [TI_len]
  have := signL_len (k := 40) (by decide) h
  split at this <;> omega
theorem bits40 {i : Int} (h : i.natAbs < 10 ^ 40) : i.natAbs.log2 < 1920 := bits1920 (Nat.lt_of_lt_of_le h (by decide))
theorem ok_l_text (T : Txt w K mg) : FnOk P w K mg base CX0 1 T.f_l_text T.fd_l_text ["_law_top", "_law_bottom"] spTextL := by
  refine T.F_l_text.ok sc_l_text (fun vs H Q E h => ?_) (fun cdv A outer s H vs Q E hr h => ?_)
  · obtain ⟨t, b, rfl, _⟩ := h
    rfl
  · obtain ⟨t, b, rfl, ht, hb, k⟩ := h
    refine ⟨_, (pss_one (ps_ret (pe_op op_add_str (pe_callTy call_str_int (by rfl) T.n_str (by decide +kernel) (pa_cons (pv 0) pa_nil)) (pe_ifExp (pt_cmpR op_ne (pv 1) pe_int (nomark _)) (pe_op op_add_str pe_str (pe_callTy call_str_int (by rfl) T.n_str (by decide +kernel) (pa_cons (pv 1) pa_nil))) pe_str)))), ?_⟩
    have sl : sizeLine = 16777216 := rfl
    have l1 := ti_len ht
    have l2 := ti_len hb
    have l0 : ("/" : Str).length = 1 := rfl
    have lc : (("/" : Str) ++ TI b).length ≤ 50 := by
      rw [len_tl, tl_append, List.length_append, ← len_tl, ← len_tl]
      omega
    walk_at "rdg"
    refine ⟨t, rfl, bits40 ht, ?_⟩
    walk_at "rdg"
    refine r_ite (fun e => ?_) (fun e => ?_)
    · have b1 : b ≠ 1 := by simpa using e
      walk_at "rdg"
      refine ⟨b, rfl, bits40 hb, ?_⟩
      refine ⟨"/", TI b, rfl, rfl, by omega, ?_⟩
      refine ⟨TI t, ("/" : Str) ++ TI b, rfl, rfl, by omega, ?_⟩
      have e1 : TI t ++ (("/" : Str) ++ TI b) = TI t ++ "/" ++ TI b := ext_tl (by simp only [tl_append, List.append_assoc])
      refine k _ ?_ (fun _ => e1) (fun z => absurd z b1)
      rw [len_tl, tl_append, List.length_append, ← len_tl, ← len_tl]
      omega
    · have b1 : b = 1 := by simpa using e
      walk_at "rdg"
      have e0 : TI t ++ ("" : Str) = TI t := ext_tl (by rw [tl_append]; show _ ++ [] = _; rw [List.append_nil])
      refine ⟨TI t, "", rfl, rfl, by show (TI t).length + 0 ≤ sizeLine; omega, ?_⟩
      show Q (.str (TI t ++ "")) H
      rw [e0]
      exact k _ (by omega) (fun z => absurd b1 z) (fun _ => rfl)
theorem atI_some {α : Type} {xs : List α} {r : Int} (h0 : 0 ≤ r) (h1 : r < (xs.length : Int)) : ∃ v, atI xs r = some v ∧ v ∈ xs := by
  obtain ⟨n, rfl⟩ := Int.eq_ofNat_of_zero_le h0
  have hn : n < xs.length := by omega
  exact ⟨xs[n], atI_nat (by rw [List.getElem?_eq_getElem hn]), List.getElem_mem hn⟩
theorem spl_sum' : ∀ (n : Nat) (b : List Nat), b.length ≤ n → ((spl [47] 0 [] b).map List.length).sum + (spl [47] 0 [] b).length = b.length + 1
  | n, b, hn => by
    rcases first_cut b with e | ⟨c, d, rfl, e⟩
    · rw [spl_one e]; simp
    · rw [spl_two e, List.map_cons, List.sum_cons, List.length_cons]
      rw [List.length_append, List.length_cons] at hn ⊢
      cases n with
      | zero => omega
      | succ n =>
        have := spl_sum' n d (by omega)
        omega
theorem split_sum (z : Str) : ((Txt.split z "/").map Str.length).sum + (Txt.split z "/").length = z.length + 1 := by
  have h := spl_sum' _ (tl z) (Nat.le_refl _)
  rw [← split_slash, List.map_map, List.length_map, ← len_tl] at h
  have e : (List.length ∘ tl) = Str.length := funext fun x => (len_tl x).symm
  rw [e] at h
  exact h
theorem set_sum {α : Type} (f : α → Nat) (v : α) : ∀ (ws : List α) (i : Nat), ((ws.set i v).map f).sum ≤ (ws.map f).sum + f v
  | [], i => by simp
  | w :: ws, 0 => by
    rw [List.set_cons_zero, List.map_cons, List.map_cons, List.sum_cons, List.sum_cons]; omega
  | w :: ws, i + 1 => by
    rw [List.set_cons_succ, List.map_cons, List.map_cons, List.sum_cons, List.sum_cons]
    have := set_sum f v ws i
    omega
theorem joinL_len (S : List Nat) : ∀ ps : List (List Nat), (joinL S ps).length ≤ (ps.map List.length).sum + ps.length * S.length
  | [] => by simp [joinL]
  | [p] => by simp [joinL]
  | p :: q :: r => by
    show (p ++ (S ++ joinL S (q :: r))).length ≤ _
    have := joinL_len S (q :: r)
    rw [List.length_append, List.length_append, List.map_cons, List.sum_cons, List.length_cons, Nat.add_mul]
    omega
theorem join_len (a : Str) (ys : List Str) : (Txt.join a ys).length ≤ (ys.map Str.length).sum + ys.length * a.length := by
  rw [join_eq, len_tl, tl_join]
  have h := joinL_len (tl a) (ys.map tl)
  rw [List.map_map, List.length_map, ← len_tl] at h
  have e : (List.length ∘ tl) = Str.length := funext fun x => (len_tl x).symm
  rw [e] at h
  exact h
def spOther : Sp := fun vs H Q _ => ∃ (d : Addr) (z : Str), vs = [.ref d, .str z] ∧ WellAt H d ∧ z.length ≤ 1000 ∧ ∀ (r : Str) (H' : Hp), Out d H H' → WellAt H' d → r.length ≤ 3 * z.length + 80 → Q (.str r) H'
theorem cat_len (a b : Str) : (a ++ b).length = a.length + b.length := by
  rw [len_tl, tl_append, List.length_append, ← len_tl, ← len_tl]
theorem ok_l_other_word (T : Txt w K mg) : FnOk P w K mg base CX0 2 T.f_l_other_word T.fd_l_other_word ["_law_well_here", "_law_text_here"] spOther := by
  refine T.F_l_other_word.ok sc_l_other_word (fun vs H Q E h => ?_) (fun cdv A outer s H vs Q E hr h => ?_)
  · obtain ⟨t, b, rfl, _⟩ := h
    rfl
  · obtain ⟨d, z, rfl, hd, hz, k⟩ := h
    refine ⟨_, (pss_cons (ps_set (i := 2) sc_l_other_word.nd rfl (Or.inl rfl) (pe_split (pv 1) pe_str))
 (pss_cons (ps_set (i := 3) sc_l_other_word.nd rfl (Or.inl rfl) (pe_call (ok_l_take T) (hr.mono (by decide)) (by rfl) T.m_l_take T.F_l_take.kp T.b_l_take .nil pass0 (pa_cons (pv 0) (pa_cons (pe_callB call_len_seq (by rfl) T.n_len PySem.boot_len (pa_cons (pv 2) pa_nil)) pa_nil))))
 (pss_cons (ps_set (i := 4) sc_l_other_word.nd rfl (Or.inl rfl) (pe_ix ix_list (pv 2) (pv 3) (fun _ _ => rfl)))
 (pss_cons (ps_set (i := 5) sc_l_other_word.nd rfl (Or.inl rfl) (pe_lst (pa_cons (pe_op op_add_str pe_str (pv 4)) (pa_cons (pe_op op_add_str pe_str (pv 4)) (pa_cons (pe_op op_add_str pe_str (pv 4)) (pa_cons (pe_op op_add_str (pv 4) pe_str) (pa_cons pe_str (pa_cons pe_str (pa_cons pe_str (pa_cons pe_str (pa_cons pe_str (pa_cons pe_str (pa_cons (pe_op op_add_str (pv 4) pe_str) (pa_cons pe_str (pa_cons pe_str pa_nil)))))))))))))))
 (pss_cons (ps_expr (pe_bm PySem.F.plainAttrs_list PySem.F.slot_list_append PySem.F.type_list_append mt_append (pv 5) (pa_cons (pe_op op_repS pe_str (pe_op op_add pe_int (pe_call (ok_l_take T) (hr.mono (by decide)) (by rfl) T.m_l_take T.F_l_take.kp T.b_l_take .nil pass0 (pa_cons (pv 0) (pa_cons pe_int pa_nil))))) pa_nil)))
 (pss_cons (ps_asg (pe_ix ix_list (pv 5) (pe_call (ok_l_take T) (hr.mono (by decide)) (by rfl) T.m_l_take T.F_l_take.kp T.b_l_take .nil pass0 (pa_cons (pv 0) (pa_cons pe_int pa_nil))) (fun _ _ => rfl)) (pg_sub (pv 2) (pv 3) set_list))
 (pss_one (ps_ret (pe_join pe_str (pe_op op_cat (pv 2) (pe_op op_rep (pe_lst (pa_cons (pe_ix ix_list (pe_lst (pa_cons pe_str (pa_cons pe_str (pa_cons pe_str pa_nil)))) (pe_call (ok_l_take T) (hr.mono (by decide)) (by rfl) T.m_l_take T.F_l_take.kp T.b_l_take .nil pass0 (pa_cons (pv 0) (pa_cons pe_int pa_nil))) (fun _ _ => rfl)) pa_nil)) (pe_callTy call_int1 (by rfl) T.n_int (by decide +kernel) (pa_cons (pe_cmpR op_eq (pe_call (ok_l_take T) (hr.mono (by decide)) (by rfl) T.m_l_take T.F_l_take.kp T.b_l_take .nil pass0 (pa_cons (pv 0) (pa_cons pe_int pa_nil))) pe_int (nomark _)) pa_nil))))))))))))), ?_⟩
    have sl : sizeLine = 16777216 := rfl
    walk_at "rdg"
    refine ⟨_, _, rfl, rfl, rfl, by omega, fun wl hwl => ?_⟩
    have hs := split_sum z
    have wn : 0 < (Txt.split z "/").length := by
      have hw := split_slash z
      have : Txt.split z "/" ≠ [] := fun q => by rw [q] at hw; exact spl_ne _ hw.symm
      exact List.length_pos_iff.mpr this
    have wlen : ∀ w ∈ Txt.split z "/", w.length ≤ z.length := fun w hm => by
      have m : tl w ∈ spl [47] 0 [] (tl z) := by rw [← split_slash]; exact List.mem_map_of_mem hm
      have := spl_len m
      rw [len_tl, len_tl]
      exact this
    generalize Txt.split z "/" = ws at *
    have s1 := Same.new (o := .lst (ws.map V.str)) hwl
    have hW := upd_same (H := H) (a := wl) (o := HO.lst (ws.map V.str))
    have w1 := hd.same s1
    have nd : wl ≠ d := well_ne hd hwl
    generalize upd H wl (.lst (ws.map V.str)) = H1 at *
    walk_at "rdg"
    refine ⟨wl, _, rfl, .inl (SqL.of hW), ?_⟩
    walk_at "rdg"
    rw [List.length_map]
    refine rd_take w1 (by omega) (by omega) fun at' H2 o2 w2 a0 a1 => ?_
    have hW2 := o2 _ _ nd hW
    obtain ⟨n, rfl⟩ := Int.eq_ofNat_of_zero_le a0
    have hn : n < ws.length := by omega
    have hwn := wlen _ (List.getElem_mem hn)
    walk_at "rdg"
    refine r_ixL hW2 (v := .str ws[n]) (atI_nat (by rw [List.getElem?_map, List.getElem?_eq_getElem hn]; rfl)) ?_
    generalize ws[n] = w0 at *
    have one : ∀ x : Str, x = "0" ∨ x = "-" ∨ x = "+" ∨ x = " " → x.length = 1 := fun x h => by rcases h with rfl | rfl | rfl | rfl <;> decide +kernel
    have la : ("0" : Str).length = 1 := one _ (.inl rfl)
    have lb : ("-" : Str).length = 1 := one _ (.inr (.inl rfl))
    have lc : ("+" : Str).length = 1 := one _ (.inr (.inr (.inl rfl)))
    have ld : (" " : Str).length = 1 := one _ (.inr (.inr (.inr rfl)))
    walk_at "rdg"
    refine ⟨_, _, rfl, rfl, by omega, ?_⟩
    walk_at "rdg"
    refine ⟨_, _, rfl, rfl, by omega, ?_⟩
    walk_at "rdg"
    refine ⟨_, _, rfl, rfl, by omega, ?_⟩
    walk_at "rdg"
    refine ⟨_, _, rfl, rfl, by omega, ?_⟩
    walk_at "rdg"
    refine ⟨_, _, rfl, rfl, by omega, ?_⟩
    walk_at "rdg"
    refine r_new (by show 13 ≤ 1000; decide) fun sl' hsl => ?_
    have s3 := Same.new (o := .lst (([("0" : Str) ++ w0, ("-" : Str) ++ w0, ("+" : Str) ++ w0, w0 ++ ("0" : Str), "", "0", "1", "-0", "2", "1_0", w0 ++ (" " : Str), "a", "1.0"] : List Str).map V.str)) hsl
    have hS := upd_same (H := H2) (a := sl') (o := HO.lst (([("0" : Str) ++ w0, ("-" : Str) ++ w0, ("+" : Str) ++ w0, w0 ++ ("0" : Str), "", "0", "1", "-0", "2", "1_0", w0 ++ (" " : Str), "a", "1.0"] : List Str).map V.str))
    have bS : ∀ x ∈ ([("0" : Str) ++ w0, ("-" : Str) ++ w0, ("+" : Str) ++ w0, w0 ++ ("0" : Str), "", "0", "1", "-0", "2", "1_0", w0 ++ (" " : Str), "a", "1.0"] : List Str), x.length ≤ z.length + 71 := by
      have lit : ∀ x ∈ (["", "0", "1", "-0", "2", "1_0", "a", "1.0"] : List Str), x.length ≤ 71 := by decide +kernel
      intro x hx
      simp only [List.mem_cons, List.not_mem_nil, or_false] at hx
      have lit' : ∀ y : Str, y ∈ (["", "0", "1", "-0", "2", "1_0", "a", "1.0"] : List Str) → y.length ≤ z.length + 71 := fun y hy => Nat.le_trans (lit y hy) (by omega)
      rcases hx with rfl | rfl | rfl | rfl | rfl | rfl | rfl | rfl | rfl | rfl | rfl | rfl | rfl
      · rw [cat_len]; omega
      · rw [cat_len]; omega
      · rw [cat_len]; omega
      · rw [cat_len]; omega
      · exact lit' _ (by simp)
      · exact lit' _ (by simp)
      · exact lit' _ (by simp)
      · exact lit' _ (by simp)
      · exact lit' _ (by simp)
      · exact lit' _ (by simp)
      · rw [cat_len]; omega
      · exact lit' _ (by simp)
      · exact lit' _ (by simp)
    have nS : ([("0" : Str) ++ w0, ("-" : Str) ++ w0, ("+" : Str) ++ w0, w0 ++ ("0" : Str), "", "0", "1", "-0", "2", "1_0", w0 ++ (" " : Str), "a", "1.0"] : List Str).length = 13 := rfl
    rw [show HO.lst [V.str (("0" : Str) ++ w0), V.str (("-" : Str) ++ w0), V.str (("+" : Str) ++ w0), V.str (w0 ++ ("0" : Str)), V.str "", V.str "0", V.str "1", V.str "-0", V.str "2", V.str "1_0", V.str (w0 ++ (" " : Str)), V.str "a", V.str "1.0"] = HO.lst (([("0" : Str) ++ w0, ("-" : Str) ++ w0, ("+" : Str) ++ w0, w0 ++ ("0" : Str), "", "0", "1", "-0", "2", "1_0", w0 ++ (" " : Str), "a", "1.0"] : List Str).map V.str) from rfl]
    generalize ([("0" : Str) ++ w0, ("-" : Str) ++ w0, ("+" : Str) ++ w0, w0 ++ ("0" : Str), "", "0", "1", "-0", "2", "1_0", w0 ++ (" " : Str), "a", "1.0"] : List Str) = some' at *
    have hW3 := s3 _ _ hW2
    have w3 := w2.same s3
    have nds : sl' ≠ d := well_ne w2 hsl
    have nws : sl' ≠ wl := fun q => by rw [q, hW2] at hsl; cases hsl
    generalize upd H2 sl' (.lst (some'.map V.str)) = H3 at *
    walk_at "rdg"
    refine ⟨ty_list hS, ?_⟩
    walk_at "rdg"
    refine rd_take w3 (by decide) (by decide) fun k7 H4 o4 w4 k0 k1 => ?_
    walk_at "rdg"
    have l7 : ("7" : Str).length = 1 := by decide +kernel
    refine ⟨"7", _, rfl, rfl, by omega, by omega, by omega, ?_⟩
    walk_at "rdg"
    have hS4 := o4 _ _ nds hS
    have hW4 := o4 _ _ nd hW3
    refine ⟨sl', _, _, rfl, rfl, hS4, by rw [List.length_map, nS]; decide, ?_⟩
    have sevL : (repT ("7" : Str) (1 + k7).toNat).length ≤ 71 := by
      have e : (repT ("7" : Str) (1 + k7).toNat).length = (1 + k7).toNat * ("7" : Str).length := by
        show ((List.replicate (1 + k7).toNat (tl ("7" : Str))).flatten).toArray.size = _
        rw [List.size_toArray, List.length_flatten, List.map_replicate, List.sum_replicate_nat, len_tl]
      rw [e, l7]
      omega
    generalize repT ("7" : Str) (1 + k7).toNat = sev at *
    have o14 : Out d H H4 := (((Out.of s1).trans o2).trans (Out.of s3)).trans o4
    have nsl : H sl' = none := by
      cases q : H sl' with
      | none => rfl
      | some o =>
        have := ((Out.of s1).trans o2) _ _ nds q
        rw [hsl] at this; cases this
    rw [show some'.map V.str ++ [V.str sev] = (some' ++ [sev]).map V.str by simp]
    have bS2 : ∀ x ∈ some' ++ [sev], x.length ≤ z.length + 71 := fun x hx => by
      rcases List.mem_append.mp hx with h | h
      · exact bS x h
      · rw [List.mem_singleton.mp h]; omega
    have nS2 : (some' ++ [sev]).length = 14 := by rw [List.length_append, nS]; rfl
    generalize some' ++ [sev] = some2 at *
    have hS5 := upd_same (H := H4) (a := sl') (o := HO.lst (some2.map V.str))
    have hW5 : upd H4 sl' (.lst (some2.map V.str)) wl = some (.lst (ws.map V.str)) := by rw [upd_ne (Ne.symm nws)]; exact hW4
    have o5 : Out d H (upd H4 sl' (.lst (some2.map V.str))) := fun b o nb hb => by
      rw [upd_ne (ne_of_none hb nsl)]
      exact o14 b o nb hb
    have w5 : WellAt (upd H4 sl' (.lst (some2.map V.str))) d := by
      obtain ⟨x, y, u, e⟩ := w4
      exact ⟨x, y, u, by rw [upd_ne (Ne.symm nds)]; exact e⟩
    generalize upd H4 sl' (.lst (some2.map V.str)) = H5 at *
    walk_at "rdg"
    refine rd_take w5 (by decide) (by decide) fun r6 H6 o6 w6 r60 r61 => ?_
    have hS6 := o6 _ _ nds hS5
    have hW6 := o6 _ _ nd hW5
    obtain ⟨v, hv, mv⟩ := atI_some (xs := some2.map V.str) r60 (by rw [List.length_map, nS2]; exact r61)
    obtain ⟨x, mx, rfl⟩ := List.mem_map.mp mv
    have lx := bS2 x mx
    refine r_ixL hS6 hv ?_
    walk_at "rdg"
    refine r_setL hW6 (j := n) (by rw [List.length_map]; unfold ixN; rw [if_pos (by omega)]; exact if_pos (by omega)) ?_
    rw [← List.map_set]
    have nwl : H wl = none := hwl
    have hW7 := upd_same (H := H6) (a := wl) (o := HO.lst ((ws.set n x).map V.str))
    have o7 : Out d H (upd H6 wl (.lst ((ws.set n x).map V.str))) := fun b o nb hb => by
      rw [upd_ne (ne_of_none hb nwl)]
      exact (o5.trans o6) b o nb hb
    have w7 : WellAt (upd H6 wl (.lst ((ws.set n x).map V.str))) d := by
      obtain ⟨x', y, u, e⟩ := w6
      exact ⟨x', y, u, by rw [upd_ne (Ne.symm nd)]; exact e⟩
    have ss := set_sum Str.length x ws n
    have nl : (ws.set n x).length = ws.length := List.length_set
    generalize ws.set n x = ws7 at *
    generalize upd H6 wl (.lst (ws7.map V.str)) = H7 at *
    walk_at "rdg"
    refine r_new (by show 3 ≤ 1000; decide) fun q1 hq1 => ?_
    have s8 := Same.new (o := .lst [.str "1", .str "2", .str "0"]) hq1
    have g8 := upd_same (H := H7) (a := q1) (o := HO.lst [V.str "1", .str "2", .str "0"])
    have w8 := w7.same s8
    have hW8 := s8 _ _ hW7
    have nq1 : q1 ≠ d := well_ne w7 hq1
    have o8 := o7.trans (Out.of s8)
    generalize upd H7 q1 (.lst [.str "1", .str "2", .str "0"]) = H8 at *
    walk_at "rdg"
    refine rd_take w8 (by decide) (by decide) fun r9 H9 o9 w9 r90 r91 => ?_
    obtain ⟨u, hu, mu⟩ := atI_some (xs := [V.str "1", .str "2", .str "0"]) r90 r91
    have g9 := o9 _ _ nq1 g8
    have hW9 := o9 _ _ nd hW8
    obtain ⟨y, rfl, ly⟩ : ∃ y : Str, u = .str y ∧ y.length ≤ 1 := by
      have lit : ∀ x ∈ (["1", "2", "0"] : List Str), x.length ≤ 1 := by decide +kernel
      simp only [List.mem_cons, List.not_mem_nil, or_false] at mu
      rcases mu with rfl | rfl | rfl
      · exact ⟨_, rfl, lit _ (by simp)⟩
      · exact ⟨_, rfl, lit _ (by simp)⟩
      · exact ⟨_, rfl, lit _ (by simp)⟩
    refine r_ixL g9 hu ?_
    walk_at "rdg"
    refine r_new (by show 1 ≤ 1000; decide) fun q2 hq2 => ?_
    have s10 := Same.new (o := .lst [.str y]) hq2
    have g10 := upd_same (H := H9) (a := q2) (o := HO.lst [V.str y])
    have w10 := w9.same s10
    have hW10 := s10 _ _ hW9
    have nq2 : q2 ≠ d := well_ne w9 hq2
    have o10 := (o8.trans o9).trans (Out.of s10)
    generalize upd H9 q2 (.lst [.str y]) = H10 at *
    walk_at "rdg"
    refine rd_take w10 (by decide) (by decide) fun r11 H11 o11 w11 r110 r111 => ?_
    walk_at "rdg"
    refine .inr ⟨_, rfl, ?_⟩
    have g11 := o11 _ _ nq2 g10
    have hW11 := o11 _ _ nd hW10
    have o11' := o10.trans o11
    generalize decide (r11 = 1) = b
    refine ⟨q2, _, _, rfl, rfl, g11, by split <;> decide, by split <;> decide, by cases b <;> (show 1 * _ ≤ sizeLine; decide), fun q3 hq3 => ?_⟩
    have e3 : (List.replicate (if b = true then (1 : Int) else 0).toNat [V.str y]).flatten = (if b = true then [y] else []).map V.str := by cases b <;> rfl
    rw [e3]
    have s12 := Same.new (o := .lst ((if b = true then [y] else []).map V.str)) hq3
    have g12 := upd_same (H := H11) (a := q3) (o := HO.lst ((if b = true then [y] else []).map V.str))
    have hW12 := s12 _ _ hW11
    have w12 := w11.same s12
    have o12 := o11'.trans (Out.of s12)
    have lr : ((if b = true then [y] else []).map Str.length).sum ≤ 1 ∧ (if b = true then [y] else []).length ≤ 1 := by cases b <;> simp [ly]
    generalize (if b = true then [y] else []) = ys at *
    generalize upd H11 q3 (.lst (ys.map V.str)) = H12 at *
    refine r_cat hW12 g12 (by rw [List.length_map, List.length_map]; omega) fun q4 hq4 => ?_
    rw [← List.map_append]
    have s13 := Same.new (o := .lst ((ws7 ++ ys).map V.str)) hq4
    have ls : ("/" : Str).length = 1 := by decide +kernel
    have jl := join_len "/" (ws7 ++ ys)
    have sm : ((ws7 ++ ys).map Str.length).sum = (ws7.map Str.length).sum + (ys.map Str.length).sum := by rw [List.map_append, List.sum_append]
    have nm : (ws7 ++ ys).length = ws7.length + ys.length := List.length_append
    rw [sm, nm, ls] at jl
    refine ⟨"/", q4, ws7 ++ ys, rfl, rfl, .inl (SqL.of upd_same), ?_, ?_⟩
    · show ((ws7 ++ ys).map Str.length).sum + (ws7 ++ ys).length * ("/" : Str).length ≤ _
      rw [sm, nm, ls]
      omega
    · refine k _ _ (o12.trans (Out.of s13)) (w12.same s13) ?_
      omega
theorem r_revS {te : TE} {σ : L2.St} {H : Hp} {Q : VK} (q : te σ H fun x H1 => ∃ z, x = .str z ∧ z.length ≤ sizeLine ∧ Q (.str (revS z)) H1) : tRevS te σ H Q := q
def spBent : Sp := fun vs H Q _ => ∃ (d : Addr) (z : Str) (m : Int), vs = [.ref d, .str z, .int m] ∧ WellAt H d ∧ z.length ≤ 1000 ∧ ∀ (r : Str) (H' : Hp), Out d H H' → WellAt H' d → r.length ≤ 3 * z.length + 80 → Q (.str r) H'
theorem ok_l_bent (T : Txt w K mg) : FnOk P w K mg base CX0 3 T.f_l_bent T.fd_l_bent ["_law_well_here", "_law_text_here", "_law_way"] spBent := by
  refine T.F_l_bent.ok sc_l_bent (fun vs H Q E h => ?_) (fun cdv A outer s H vs Q E hr h => ?_)
  · obtain ⟨t, b, m, rfl, _⟩ := h
    rfl
  · obtain ⟨d, z, m, rfl, hd, hz, k⟩ := h
    refine ⟨_, (pss_cons (ps_set (i := 3) sc_l_bent.nd rfl (Or.inl rfl) pe_str)
 (pss_cons (ps_set (i := 4) sc_l_bent.nd rfl (Or.inl rfl) (pe_call (ok_l_take T) (hr.mono (by decide)) (by rfl) T.m_l_take T.F_l_take.kp T.b_l_take .nil pass0 (pa_cons (pv 0) (pa_cons (pe_op op_add (pe_callB call_len_str (by rfl) T.n_len PySem.boot_len (pa_cons (pv 1) pa_nil)) pe_int) pa_nil))))
 (pss_cons (ps_set (i := 5) sc_l_bent.nd rfl (Or.inl rfl) (pe_ix ix_str (pv 3) (pe_call (ok_l_take T) (hr.mono (by decide)) (by rfl) T.m_l_take T.F_l_take.kp T.b_l_take .nil pass0 (pa_cons (pv 0) (pa_cons pe_int pa_nil))) (fun _ _ => rfl)))
 (pss_cons (ps_if (pt_cmpR op_eq (pv 2) pe_int (nomark _))
  (pss_one (ps_ret (pe_op op_add_str (pe_slice sl_str (pv 1) po_none (po_some (pv 4))) (pe_slice sl_str (pv 1) (po_some (pe_op op_add (pv 4) pe_int)) po_none))))
  pss_nil)
 (pss_cons (ps_if (pt_cmpR op_eq (pv 2) pe_int (nomark _))
  (pss_one (ps_ret (pe_op op_add_str (pe_op op_add_str (pe_slice sl_str (pv 1) po_none (po_some (pv 4))) (pe_slice sl_str (pv 1) (po_some (pv 4)) (po_some (pe_op op_add (pv 4) pe_int)))) (pe_slice sl_str (pv 1) (po_some (pv 4)) po_none))))
  pss_nil)
 (pss_cons (ps_if (pt_cmpR op_eq (pv 2) pe_int (nomark _))
  (pss_one (ps_ret (pe_op op_add_str (pe_op op_add_str (pe_slice sl_str (pv 1) po_none (po_some (pv 4))) (pv 5)) (pe_slice sl_str (pv 1) (po_some (pv 4)) po_none))))
  pss_nil)
 (pss_cons (ps_if (pt_cmpR op_eq (pv 2) pe_int (nomark _))
  (pss_one (ps_ret (pe_op op_add_str (pe_op op_add_str (pe_slice sl_str (pv 1) po_none (po_some (pv 4))) (pv 5)) (pe_slice sl_str (pv 1) (po_some (pe_op op_add (pv 4) pe_int)) po_none))))
  pss_nil)
 (pss_cons (ps_if (pt_cmpR op_eq (pv 2) pe_int (nomark _))
  (pss_one (ps_ret (pe_op op_add_str (pe_op op_add_str (pe_slice sl_str (pv 1) po_none (po_some (pv 4))) (pe_revS (pe_slice sl_str (pv 1) (po_some (pv 4)) (po_some (pe_op op_add (pv 4) pe_int))))) (pe_slice sl_str (pv 1) (po_some (pe_op op_add (pv 4) pe_int)) po_none))))
  pss_nil)
 (pss_cons (ps_if (pt_cmpR op_eq (pv 2) pe_int (nomark _))
  (pss_one (ps_ret (pe_op op_add_str (pv 1) (pe_ix ix_list (pe_lst (pa_cons pe_str (pa_cons pe_str (pa_cons pe_str (pa_cons pe_str (pa_cons pe_str pa_nil)))))) (pe_call (ok_l_take T) (hr.mono (by decide)) (by rfl) T.m_l_take T.F_l_take.kp T.b_l_take .nil pass0 (pa_cons (pv 0) (pa_cons pe_int pa_nil))) (fun _ _ => rfl)))))
  pss_nil)
 (pss_one (ps_ret (pe_call (ok_l_other_word T) (hr.mono (by decide)) (by rfl) T.m_l_other_word T.F_l_other_word.kp T.b_l_other_word .nil pass0 (pa_cons (pv 0) (pa_cons (pv 1) pa_nil)))))))))))))), ?_⟩
    have sl : sizeLine = 16777216 := rfl
    have cl : ∀ lo hi, (cutS z lo hi).length ≤ z.length := fun lo hi => cutS_length z lo hi
    walk_at "rdg"
    refine ⟨z, rfl, by omega, ?_⟩
    walk_at "rdg"
    refine rd_take hd (by omega) (by omega) fun n H1 o1 w1 n0 n1 => ?_
    walk_at "rdg"
    refine rd_take w1 (by decide) (by decide) fun c0 H2 o2 w2 c00 c01 => ?_
    have ln : (tl ("0123456789/-+_. " : Str)).length = 16 := by decide +kernel
    obtain ⟨sg, hsg, _⟩ := atI_some (xs := tl ("0123456789/-+_. " : Str)) c00 (by rw [ln]; exact c01)
    refine ⟨_, _, sg, rfl, rfl, by decide, hsg, ?_⟩
    have lsg : (⟨#[sg]⟩ : Str).length = 1 := rfl
    have o12 := o1.trans o2
    walk_at "rdg"
    have fin : ∀ r : Str, r.length ≤ 3 * z.length + 80 → Q (.str r) H2 := fun r h => k r H2 o12 w2 h
    refine r_ite (fun _ => ?_) (fun _ => ?_)
    · walk_at "rdg"
      refine ⟨z, rfl, by omega, ?_⟩
      walk_at "rdg"
      refine ⟨z, rfl, by omega, ?_⟩
      refine ⟨_, _, rfl, rfl, by have := cl none (some n); have := cl (some (n + 1)) none; omega, fin _ ?_⟩
      rw [cat_len]; have := cl none (some n); have := cl (some (n + 1)) none; omega
    walk_at "rdg"
    refine r_ite (fun _ => ?_) (fun _ => ?_)
    · walk_at "rdg"
      refine ⟨z, rfl, by omega, ?_⟩
      walk_at "rdg"
      refine ⟨z, rfl, by omega, ?_⟩
      refine ⟨_, _, rfl, rfl, by have := cl none (some n); have := cl (some n) (some (n + 1)); omega, ?_⟩
      walk_at "rdg"
      refine ⟨z, rfl, by omega, ?_⟩
      refine ⟨_, _, rfl, rfl, by rw [cat_len]; have := cl none (some n); have := cl (some n) (some (n + 1)); have := cl (some n) none; omega, fin _ ?_⟩
      rw [cat_len, cat_len]; have := cl none (some n); have := cl (some n) (some (n + 1)); have := cl (some n) none; omega
    walk_at "rdg"
    refine r_ite (fun _ => ?_) (fun _ => ?_)
    · walk_at "rdg"
      refine ⟨z, rfl, by omega, ?_⟩
      walk_at "rdg"
      refine ⟨_, _, rfl, rfl, by have := cl none (some n); omega, ?_⟩
      walk_at "rdg"
      refine ⟨z, rfl, by omega, ?_⟩
      refine ⟨_, _, rfl, rfl, by rw [cat_len]; have := cl none (some n); have := cl (some n) none; omega, fin _ ?_⟩
      rw [cat_len, cat_len]; have := cl none (some n); have := cl (some n) none; omega
    walk_at "rdg"
    refine r_ite (fun _ => ?_) (fun _ => ?_)
    · walk_at "rdg"
      refine ⟨z, rfl, by omega, ?_⟩
      walk_at "rdg"
      refine ⟨_, _, rfl, rfl, by have := cl none (some n); omega, ?_⟩
      walk_at "rdg"
      refine ⟨z, rfl, by omega, ?_⟩
      refine ⟨_, _, rfl, rfl, by rw [cat_len]; have := cl none (some n); have := cl (some (n + 1)) none; omega, fin _ ?_⟩
      rw [cat_len, cat_len]; have := cl none (some n); have := cl (some (n + 1)) none; omega
    walk_at "rdg"
    refine r_ite (fun _ => ?_) (fun _ => ?_)
    · walk_at "rdg"
      refine ⟨z, rfl, by omega, ?_⟩
      walk_at "rdg"
      refine r_revS ?_
      walk_at "rdg"
      refine ⟨z, rfl, by omega, ?_⟩
      refine ⟨_, rfl, by have := cl (some n) (some (n + 2)); omega, ?_⟩
      refine ⟨_, _, rfl, rfl, by rw [revS_len]; have := cl none (some n); have := cl (some n) (some (n + 2)); omega, ?_⟩
      walk_at "rdg"
      refine ⟨z, rfl, by omega, ?_⟩
      refine ⟨_, _, rfl, rfl, by rw [cat_len, revS_len]; have := cl none (some n); have := cl (some n) (some (n + 2)); have := cl (some (n + 2)) none; omega, fin _ ?_⟩
      rw [cat_len, cat_len, revS_len]; have := cl none (some n); have := cl (some n) (some (n + 2)); have := cl (some (n + 2)) none; omega
    walk_at "rdg"
    refine r_ite (fun _ => ?_) (fun _ => ?_)
    · walk_at "rdg"
      refine r_new (by show 5 ≤ 1000; decide) fun q1 hq1 => ?_
      have s8 := Same.new (o := .lst [.str "/1", .str "/2", .str "\n", .str "/0", .str "/-3"]) hq1
      have w8 := w2.same s8
      have nq1 : q1 ≠ d := well_ne w2 hq1
      have g8 := upd_same (H := H2) (a := q1) (o := HO.lst [V.str "/1", .str "/2", .str "\n", .str "/0", .str "/-3"])
      generalize upd H2 q1 (.lst [.str "/1", .str "/2", .str "\n", .str "/0", .str "/-3"]) = H8 at *
      walk_at "rdg"
      refine rd_take w8 (by decide) (by decide) fun r9 H9 o9 w9 r90 r91 => ?_
      obtain ⟨u, hu, mu⟩ := atI_some (xs := [V.str "/1", .str "/2", .str "\n", .str "/0", .str "/-3"]) r90 r91
      obtain ⟨y, rfl, ly⟩ : ∃ y : Str, u = .str y ∧ y.length ≤ 3 := by
        have lit : ∀ x ∈ (["/1", "/2", "\n", "/0", "/-3"] : List Str), x.length ≤ 3 := by decide +kernel
        simp only [List.mem_cons, List.not_mem_nil, or_false] at mu
        rcases mu with rfl | rfl | rfl | rfl | rfl <;> exact ⟨_, rfl, lit _ (by simp)⟩
      refine r_ixL (o9 _ _ nq1 g8) hu ?_
      refine ⟨_, _, rfl, rfl, by omega, ?_⟩
      refine k _ _ ((o12.trans (Out.of s8)).trans o9) w9 ?_
      rw [cat_len]; omega
    walk_at "rdg"
    exact ⟨d, z, rfl, w2, hz, fun r H' o w l => k r H' (o12.trans o) w l⟩
end
end My

namespace My
open PySem L2 TL NumText
theorem none_of {H H1 : Hp} {p : Addr} (s : Same H H1) (h : H1 p = none) : H p = none := by
  cases e : H p with
  | none => rfl
  | some o => rw [s _ _ e] at h; cases h
theorem same_out {H H1 H2 : Hp} {d : Addr} (s : Same H H1) (n : H d = none) (o : Out d H1 H2) : Same H H2 := fun b x e => o b x (ne_of_none e n) (s b x e)
theorem r_lcR04 {σ : L2.St} {H : Hp} {Q : VK} {te : TE} {tr : TA} {g : TG} {tt : TT} {vs : List Nat} (q : tr σ H fun xs H1 => ∃ j : Int, xs = [.int j] ∧ -(2 ^ 62) ≤ j ∧ j < 2 ^ 62 ∧ ∀ D, H1 D = none → ∃ W : Nat → Nat → Hp → Prop, (∃ m, W 0 m (upd H1 D (.lst []))) ∧ ∀ i m H, W i m H →
    ((Itr 0 j.toNat).stop i H ∧ Q (.ref D) H) ∨ ((Itr 0 j.toNat).go i H ∧ ∃ Nx : Hp → Prop, (∀ H', Nx H' → ∃ m', m' < m ∧ W (i + 1) m' H') ∧ ∀ x H', (Itr 0 j.toNat).yld i H x H' → g x (wipe σ vs) H' fun σ2 H2 => wipe σ2 vs = wipe σ vs ∧ tt σ2 H2 fun b H3 =>
      if b = true then te σ2 H3 fun y H4 => ∃ acc, H4 D = some (.lst acc) ∧ acc.length < sizeLine ∧ Nx (upd H4 D (.lst (acc ++ [y]))) else Nx H3)) : tLc (iRng1 tr) g tt te vs σ H Q := q
theorem r_tyes04 {σ : L2.St} {H : Hp} {A B : Hp → Prop} (q : A H) : tYes σ H (fun b H3 => if b = true then A H3 else B H3) := (iteT (A := A H) (B := B H) q : if true = true then A H else B H)

theorem call_reprAK {X : Cx} {K0 : PySem.W.Frag} (hK : X.K = K0) (hA : X.A.guards = some []) (hu : X.A.units + 64 < cLine) : CallR X (.builtin "repr") (rReprA K0) := by
  subst hK
  exact call_reprA hA hu
def HowAt (H : Hp) (z : V) : Prop := ∃ (q : Addr) (h mo : Int) (tw : Bool), z = .ref q ∧ H q = some (.tup [.int h, .int mo, .bl tw])
def TextsAt (H : Hp) (r : Addr) (n : Nat) : Prop := ∃ xs : List Str, H r = some (.lst (xs.map V.str)) ∧ xs.length ≤ n ∧ ∀ x ∈ xs, x.length ≤ 4000
theorem r_repS {z : Str} {k : Int} {H : Hp} {Q : VK} (h0 : 0 ≤ k) (h1 : k ≤ 1000) (hz : z.length = 1) (q : ∀ r : Str, r.length = k.toNat → Q (.str r) H) : rRepS (.str z) (.int k) H Q := by
  refine ⟨z, k, rfl, rfl, h0, h1, by omega, q _ ?_⟩
  show ((List.replicate k.toNat (tl z)).flatten).toArray.size = _
  rw [List.size_toArray, List.length_flatten, List.map_replicate, List.sum_replicate_nat, ← len_tl, hz, Nat.mul_one]
theorem r_dnewK {σ : L2.St} {H : Hp} {Q : VK} (q : ∀ p, H p = none → Q (.ref p) (upd H p (.dK []))) : tDNewK σ H Q := q
theorem TextsAt.same {H H' : Hp} {r : Addr} {n : Nat} (s : Same H H') (h : TextsAt H r n) : TextsAt H' r n := let ⟨xs, h1, h2, h3⟩ := h; ⟨xs, s _ _ h1, h2, h3⟩
theorem TextsAt.out {H H' : Hp} {r d : Addr} {n : Nat} (s : Out d H H') (nd : r ≠ d) (h : TextsAt H r n) : TextsAt H' r n := let ⟨xs, h1, h2, h3⟩ := h; ⟨xs, s _ _ nd h1, h2, h3⟩
theorem texts_cat {H : Hp} {l p : Addr} {n m : Nat} {zs : List Str} {Q : VK} (h : TextsAt H l n) (hp : H p = none) (lz : zs.length ≤ m) (bz : ∀ y ∈ zs, y.length ≤ 4000) (nm : n + m ≤ 100000) (q : ∀ (l' : Addr) (H' : Hp), Same H H' → H l' = none → TextsAt H' l' (n + m) → Q (.ref l') H') :
    rCat (.ref l) (.ref p) (upd H p (.lst (zs.map V.str))) Q := by
  obtain ⟨xs, h1, h2, h3⟩ := h
  have s1 := Same.new (o := .lst (zs.map V.str)) hp
  refine r_cat (s1 _ _ h1) upd_same (by rw [List.length_map, List.length_map]; omega) fun r hr => ?_
  rw [← List.map_append]
  refine q r _ (s1.trans (Same.new hr)) (none_of s1 hr) ⟨xs ++ zs, upd_same, by rw [List.length_append]; omega, fun y hy => ?_⟩
  rcases List.mem_append.mp hy with h | h
  · exact h3 y h
  · exact bz y h
section
variable {P : Program} {w : World} {K : PySem.W.Frag} {mg : Str → Option Value} {base : Heap}
def spLaw (K : PySem.W.Frag) : Sp := fun vs H Q _ => ∃ (a : Addr) (ns : List Int), vs = [.ref a] ∧ SqL K H a (ns.map V.int) ∧ ns.length ≤ 63 ∧ ∀ H', Q (.bl true) H'
theorem okG_law (T : Txt w K mg) : FnG P w K mg base 14 T.f_law T.fd_law ["_law_script"] (spLaw K) := by
  refine FnG.by_body T.F_law sc_law (fun vs H Q E h => ?_) (fun cdv A outer s H vs Q E hG hr h => ?_)
  · obtain ⟨a, ns, rfl, _⟩ := h
    rfl
  · obtain ⟨a, ns, rfl, hS, hl, k⟩ := h
    refine ⟨_, (pss_cons (ps_for PassesOwn.never rfl (pi_range1 rfl T.n_range (pa_cons (pe_callB (call_max2 rfl) (by rfl) T.n_max (by decide +kernel) (pa_cons pe_int (pa_cons (pe_callB (call_min2 rfl) (by rfl) T.n_min (by decide +kernel) (pa_cons (pe_callB call_len_seq (by rfl) T.n_len PySem.boot_len (pa_cons (pv 0) pa_nil)) (pa_cons pe_int pa_nil))) pa_nil))) pa_nil)) (pg_name (i := 1) sc_law.nd rfl (Or.inl rfl))
  (pss_cons (ps_set (i := 2) sc_law.nd rfl (Or.inr rfl) (pe_call (ok_l_well T) (hr.mono (by decide)) (by rfl) T.m_l_well T.F_l_well.kp T.b_l_well .nil pass0 (pa_cons (pv 0) (pa_cons (pv 1) pa_nil))))
 (pss_cons (ps_setLc (i := 3) (own := [("_law_turn", 14)]) (g := gName 14) (tt := tYes) rfl sc_law.nd rfl rfl (sw_true rfl rfl rfl (by decide +kernel)) (pi_range1 rfl T.n_range (pa_cons pe_int pa_nil)) (blkOk_by (own := [("_law_turn", 14)]) (N := ["_law_script", "_law_k", "_law_well_here", "_law_spoils", "_law_pair_here", "_law_top", "_law_bottom", "_law_text_here", "_law_texts", "_law_way", "_law_more", "_law_twice", "_law_bent_here", "_law_thing", "_law_turn", "_law_one"]) (sc := defScope s_law) (by decide +kernel)) (fun _ _ _ _ _ => pg_name (i := 14) sc_law.nd rfl (Or.inl rfl)) (fun _ _ _ _ _ => pts_nil) (fun _ _ _ _ _ => (pe_tup (pa_cons (pe_call (ok_l_take T) (hr.mono (by decide)) (by rfl) T.m_l_take T.F_l_take.kp T.b_l_take .nil pass0 (pa_cons (pv 2) (pa_cons pe_int pa_nil))) (pa_cons (pe_call (ok_l_take T) (hr.mono (by decide)) (by rfl) T.m_l_take T.F_l_take.kp T.b_l_take .nil pass0 (pa_cons (pv 2) (pa_cons pe_int pa_nil))) (pa_cons (pe_cmpR op_eq (pe_call (ok_l_take T) (hr.mono (by decide)) (by rfl) T.m_l_take T.F_l_take.kp T.b_l_take .nil pass0 (pa_cons (pv 2) (pa_cons pe_int pa_nil))) pe_int (nomark _)) pa_nil))))))
 (pss_cons (ps_set (i := 4) sc_law.nd rfl (Or.inl rfl) (pe_call (ok_l_pair T) (hr.mono (by decide)) (by rfl) T.m_l_pair T.F_l_pair.kp T.b_l_pair .nil pass0 (pa_cons (pv 2) pa_nil)))
 (pss_cons (ps_asg (pe_call (ok_l_lowest T) (hr.mono (by decide)) (by rfl) T.m_l_lowest T.F_l_lowest.kp T.b_l_lowest .nil pass0 (pa_cons (pe_ix ix_tup (pv 4) pe_int (fun _ _ => rfl)) (pa_cons (pe_ix ix_tup (pv 4) pe_int (fun _ _ => rfl)) pa_nil))) (pg_tup rfl (pgs_cons (pg_name (i := 5) sc_law.nd rfl (Or.inl rfl)) (pgs_cons (pg_name (i := 6) sc_law.nd rfl (Or.inl rfl)) pgs_nil))))
 (pss_cons (ps_set (i := 7) sc_law.nd rfl (Or.inl rfl) (pe_call (ok_l_text T) (hr.mono (by decide)) (by rfl) T.m_l_text T.F_l_text.kp T.b_l_text .nil pass0 (pa_cons (pv 5) (pa_cons (pv 6) pa_nil))))
 (pss_cons (ps_set (i := 8) sc_law.nd rfl (Or.inl rfl) (pe_lst (pa_cons (pv 7) (pa_cons pe_str (pa_cons pe_str (pa_cons pe_str (pa_cons pe_str (pa_cons pe_str (pa_cons pe_str (pa_cons pe_str (pa_cons pe_str (pa_cons pe_str (pa_cons pe_str (pa_cons pe_str (pa_cons pe_str (pa_cons pe_str (pa_cons pe_str pa_nil)))))))))))))))))
 (pss_cons (ps_set (i := 8) sc_law.nd rfl (Or.inl rfl) (pe_op op_cat (pv 8) (pe_lst (pa_cons (pe_op op_repS pe_str pe_int) (pa_cons (pe_op op_repS pe_str pe_int) (pa_cons (pe_op op_add_str pe_str (pe_op op_repS pe_str pe_int)) (pa_cons (pe_op op_add_str pe_str (pe_op op_repS pe_str pe_int)) (pa_cons (pe_op op_add_str (pe_op op_add_str (pe_op op_repS pe_str pe_int) pe_str) (pe_op op_repS pe_str pe_int)) pa_nil))))))))
 (pss_cons (ps_expr (pe_bm PySem.F.plainAttrs_list PySem.F.slot_list_append PySem.F.type_list_append mt_append (pv 8) (pa_cons (pe_op op_add_str (pe_op op_add_str (pe_op op_repS pe_str pe_int) pe_str) (pe_op op_repS pe_str pe_int)) pa_nil)))
 (pss_cons (ps_for PassesOwn.never rfl (pi_list (pv 3)) (pg_tup rfl (pgs_cons (pg_name (i := 9) sc_law.nd rfl (Or.inl rfl)) (pgs_cons (pg_name (i := 10) sc_law.nd rfl (Or.inl rfl)) (pgs_cons (pg_name (i := 11) sc_law.nd rfl (Or.inl rfl)) pgs_nil))))
  (pss_cons (ps_set (i := 12) sc_law.nd rfl (Or.inl rfl) (pe_call (ok_l_bent T) (hr.mono (by decide)) (by rfl) T.m_l_bent T.F_l_bent.kp T.b_l_bent .nil pass0 (pa_cons (pv 2) (pa_cons (pv 7) (pa_cons (pv 9) pa_nil)))))
 (pss_cons (ps_if (pt_val (pv 11))
  (pss_one (ps_set (i := 12) sc_law.nd rfl (Or.inl rfl) (pe_call (ok_l_bent T) (hr.mono (by decide)) (by rfl) T.m_l_bent T.F_l_bent.kp T.b_l_bent .nil pass0 (pa_cons (pv 2) (pa_cons (pv 12) (pa_cons (pv 10) pa_nil))))))
  pss_nil)
 (pss_one (ps_set (i := 8) sc_law.nd rfl (Or.inl rfl) (pe_op op_cat (pv 8) (pe_lst (pa_cons (pv 12) (pa_cons (pv 7) pa_nil)))))))))
 (pss_cons (ps_if (pt_cmpR (op_neD hr.units) (pe_lc (own := [("_law_one", 15)]) (g := gName 15) rfl sc_law.nd (pi_list (pv 8)) (blkOk_by (own := [("_law_one", 15)]) (N := ["_law_script", "_law_k", "_law_well_here", "_law_spoils", "_law_pair_here", "_law_top", "_law_bottom", "_law_text_here", "_law_texts", "_law_way", "_law_more", "_law_twice", "_law_bent_here", "_law_thing", "_law_turn", "_law_one"]) (sc := defScope s_law) (by decide +kernel)) (fun _ _ _ _ _ => pg_name (i := 15) sc_law.nd rfl (Or.inl rfl)) (fun _ _ _ _ _ => (pts_one (pt_cmpR op_ne (pe_callG hG (okG_l_told T) (hr.mono (by decide)) (by rfl) T.m_l_told T.F_l_told.kp T.b_l_told .nil pass0 (pa_cons (pv 15) pa_nil)) (pe_callB (call_reprAK (K0 := K) rfl hG hr.units) (by rfl) T.n_repr (by decide +kernel) (pa_cons (pe_call (ok_l_read T) (hr.mono (by decide)) (by rfl) T.m_l_read T.F_l_read.kp T.b_l_read .nil pass0 (pa_cons (pv 15) pa_nil)) pa_nil)) (nomark _)))) (fun _ _ _ _ _ => (pv 15))) (pe_lst pa_nil) (nomark _))
  (pss_one (ps_ret pe_bl))
  pss_nil)
 (pss_one (ps_for PassesOwn.never rfl (pi_list (pe_lst (pa_cons pe_non (pa_cons pe_int (pa_cons (pv 5) (pa_cons pe_bl (pa_cons (pe_tup pa_nil) (pa_cons (pe_tup (pa_cons (pv 5) (pa_cons (pv 6) pa_nil))) (pa_cons (pe_lst (pa_cons (pv 7) pa_nil)) (pa_cons (pe_tup (pa_cons (pv 7) pa_nil)) (pa_cons pe_dnewK (pa_cons (pe_make T.mk_Number (ok_Number_init T) (hr.mono (by decide)) (by rfl) T.m_Number T.b_Number_init2 .nil pass0 (pa_cons (pe_ix ix_tup (pv 4) pe_int (fun _ _ => rfl)) (pa_cons (pe_ix ix_tup (pv 4) pe_int (fun _ _ => rfl)) pa_nil))) pa_nil)))))))))))) (pg_name (i := 13) sc_law.nd rfl (Or.inl rfl))
  (pss_one (ps_if (PW.pt (pw_or (pt_cmpR op_ne (pe_callG hG (okG_l_told T) (hr.mono (by decide)) (by rfl) T.m_l_told T.F_l_told.kp T.b_l_told .nil pass0 (pa_cons (pv 13) pa_nil)) pe_str (nomark _)) (pw_or1 (pt_cmpR op_ne (pe_callG hG (okG_l_told T) (hr.mono (by decide)) (by rfl) T.m_l_told T.F_l_told.kp T.b_l_told .nil pass0 (pa_cons (pv 7) pa_nil)) (pe_callB (call_reprA hG hr.units) (by rfl) T.n_repr (by decide +kernel) (pa_cons (pe_tup (pa_cons (pv 5) (pa_cons (pv 6) pa_nil))) pa_nil)) (nomark _)))))
  (pss_one (ps_ret pe_bl))
  pss_nil)))))))))))))))
 (pss_one (ps_ret pe_bl))), ?_⟩
    walk_at "rdh"
    refine r_rng1 ?_
    walk_at "rdh"
    refine ⟨a, _, rfl, .inl hS, ?_⟩
    walk_at "rdh"
    refine ⟨_, _, rfl, ?_⟩
    walk_at "rdh"
    refine ⟨_, _, rfl, ?_⟩
    walk_at "rdh"
    rw [List.length_map]
    have nb : (if (if (5 : Int) < (ns.length : Int) then 5 else (ns.length : Int)) > 1 then (if (5 : Int) < (ns.length : Int) then 5 else (ns.length : Int)) else 1) ≤ 5 ∧ 0 ≤ (if (if (5 : Int) < (ns.length : Int) then 5 else (ns.length : Int)) > 1 then (if (5 : Int) < (ns.length : Int) then 5 else (ns.length : Int)) else 1) := by
      split <;> split <;> omega
    generalize (if (if (5 : Int) < (ns.length : Int) then 5 else (ns.length : Int)) > 1 then (if (5 : Int) < (ns.length : Int) then 5 else (ns.length : Int)) else 1) = tn at *
    refine ⟨tn, rfl, by omega, by omega, for_range (lo := 0) (n := tn.toNat) (fun i σ H' => ∃ (v1 v2 v3 v4 v5 v6 v7 v8 v9 v10 v11 v12 v13 : Option V), σ = [some (.ref a), v1, v2, v3, v4, v5, v6, v7, v8, v9, v10, v11, v12, v13, none, none] ∧ Same H H')
      ⟨_, _, _, _, _, _, _, _, _, _, _, _, _, rfl, Same.refl _⟩ ?_ ?_⟩
    · rintro i σ H1 hi ⟨v1, v2, v3, v4, v5, v6, v7, v8, v9, v10, v11, v12, v13, rfl, s1⟩
      walk_at "rdh"
      have hk : (0 : Int) + (i : Int) = ((i : Nat) : Int) := by omega
      rw [hk]
      refine ⟨a, ns, i, rfl, SqL.ext hS s1, fun d H2 s2 nd w2 => ?_⟩
      have nd0 := none_of s1 nd
      have s02 := s1.trans s2
      walk_at "rdh"
      refine r_lcR04 ?_
      walk_at "rdh"
      refine ⟨12, rfl, by decide, by decide, fun D hD => ?_⟩
      have Dd := well_ne w2 hD
      have hD0 := none_of s02 hD
      refine lc_range (lo := 0) (n := 12) (fun j H' => ∃ ws : List V, H' D = some (.lst ws) ∧ ws.length = j ∧ j ≤ 12 ∧ (∀ v ∈ ws, HowAt H' v) ∧ WellAt H' d ∧ Same H H') ⟨[], upd_same, rfl, by decide, (fun v hv => nomatch hv), w2.same (Same.new hD), s02.trans (Same.new hD)⟩ ?_ ?_
      · rintro j H3 hj ⟨ws, hd3, lw, j4, hp, w3, sH⟩
        walk_at "rdh"
        refine ⟨rfl, ?_⟩
        refine r_tyes04 ?_
        walk_at "rdh"
        refine rd_take w3 (by decide) (by decide) fun q1 H5 o5 w5 q10 q11 => ?_
        walk_at "rdh"
        refine rd_take w5 (by decide) (by decide) fun q2 H6 o6 w6 q20 q21 => ?_
        walk_at "rdh"
        refine rd_take w6 (by decide) (by decide) fun q3 H7 o7 w7 _ _ => ?_
        walk_at "rdh"
        refine r_new (by show 3 ≤ 1000; decide) fun t ht => ?_
        have o57 := (o5.trans o6).trans o7
        have hz7 := o57 D _ Dd hd3
        have sn := Same.new (o := .tup [.int q1, .int q2, .bl (decide (q3 = 0))]) ht
        have hz8 := sn _ _ hz7
        refine ⟨ws, hz8, by rw [lw]; exact Nat.lt_of_lt_of_le (show j < 13 by omega) (by decide), ws ++ [.ref t], upd_same, by rw [List.length_append, lw]; rfl, by omega, fun z hz' => ?_, ?_, fun b o hb => ?_⟩
        · rcases List.mem_append.mp hz' with h | h
          · obtain ⟨q, h1, mo, tw, e, hq⟩ := hp z h
            have hq8 := sn _ _ (o57.keep w3 hq (fun _ z => by cases z))
            exact ⟨q, h1, mo, tw, e, by rw [upd_ne (ne_of hq8 hz8 (fun z => by cases z))]; exact hq8⟩
          · obtain rfl := List.mem_singleton.mp h
            exact ⟨t, q1, q2, _, rfl, by rw [upd_ne (ne_of (H := upd H7 t (.tup [.int q1, .int q2, .bl (decide (q3 = 0))])) upd_same hz8 (fun z => by cases z))]; exact upd_same⟩
        · obtain ⟨x1, x2, x3, hx⟩ := w7.same sn
          exact ⟨x1, x2, x3, by rw [upd_ne (Ne.symm Dd)]; exact hx⟩
        · rw [upd_ne (ne_of_none hb hD0)]
          exact sn _ _ (o57 _ _ (ne_of_none hb nd0) (sH _ _ hb))
      rintro H3 ⟨ws, hd3, lw, _, hp, w3, sH3⟩
      walk_at "rdh"
      refine ⟨d, rfl, w3, fun p t b H4 o4 w4 hp4 tb b0 bl => ?_⟩
      have hd4 := o4 _ _ Dd hd3
      have hp' : ∀ v ∈ ws, HowAt H4 v := fun v hv => let ⟨q, h1, mo, tw, e, hq⟩ := hp v hv; ⟨q, h1, mo, tw, e, o4.keep w3 hq (fun _ z => by cases z)⟩
      have sH4 : Same H H4 := same_out sH3 nd0 o4
      walk_at "rdh"
      refine r_ixT hp4 (atI_nat (j := 0) rfl) ?_
      walk_at "rdh"
      refine r_ixT hp4 (atI_nat (j := 1) rfl) ?_
      walk_at "rdh"
      refine ⟨t, b, rfl, b0, Nat.lt_of_le_of_lt bl (by decide), fun q H5 s5 _ h5 => ?_⟩
      refine r_gTup h5 rfl ?_
      walk_at "rdh"
      have tb' : t.natAbs < 10 ^ 34 := Nat.lt_of_lt_of_le tb (by decide)
      have nl : (Rat.divInt t b).num.natAbs < 10 ^ 34 := Nat.lt_of_le_of_lt (num_le t b) tb'
      have dl : (Rat.divInt t b).den < 10 ^ 13 := Nat.lt_of_le_of_lt (den_le (t := t) b0) (Nat.lt_of_le_of_lt bl (by decide))
      have len60 : (NText (Rat.divInt t b)).length ≤ 60 := by
        rw [NText_len]
        have a := signL_len (k := 34) (by decide) nl
        have c := numL_len (k := 13) (by decide) dl
        split at a <;> split <;> omega
      have sH5 := sH4.trans s5
      have w5 := w4.same s5
      have hd5 := s5 _ _ hd4
      have hp5 := s5 _ _ hp4
      have how5 : ∀ v ∈ ws, HowAt H5 v := fun v hv => let ⟨q, h1, mo, tw, e, hq⟩ := hp' v hv; ⟨q, h1, mo, tw, e, s5 _ _ hq⟩
      clear h5
      generalize hx : Rat.divInt t b = x at *
      have bx := den_lt len60
      refine ⟨x.num, (x.den : Int), rfl, Nat.lt_of_lt_of_le nl (by decide), Nat.lt_of_lt_of_le (show ((x.den : Int)).natAbs < 10 ^ 13 by omega) (by decide), fun z lz ne e1 => ?_⟩
      have isn : IsN z x := by
        have e : NText x = z := by
          by_cases d1 : x.den = 1
          · rw [e1 (by omega)]
            exact if_pos d1
          · rw [ne (by omega)]
            exact if_neg d1
        exact ⟨e, by rw [← e]; exact len60⟩
      walk_at "rdh"
      refine r_new (by show 15 ≤ 1000; decide) fun l1 hl1 => ?_
      have s6 := Same.new (o := .lst (([z, "", "/", "-", "0", "-0", "0/1", "1/1", "4/2", "3/0", "-/2", "1/", "/2", "1//2", "--1"] : List Str).map V.str)) hl1
      have t6 : TextsAt (upd H5 l1 (.lst (([z, "", "/", "-", "0", "-0", "0/1", "1/1", "4/2", "3/0", "-/2", "1/", "/2", "1//2", "--1"] : List Str).map V.str))) l1 15 := by
        refine ⟨_, upd_same, by show 15 ≤ 15; exact Nat.le_refl _, fun y hy => ?_⟩
        have lit : ∀ y ∈ (["", "/", "-", "0", "-0", "0/1", "1/1", "4/2", "3/0", "-/2", "1/", "/2", "1//2", "--1"] : List Str), y.length ≤ 4000 := by decide +kernel
        rcases List.mem_cons.mp hy with rfl | hy
        · omega
        · exact lit y hy
      rw [show HO.lst [V.str z, .str "", .str "/", .str "-", .str "0", .str "-0", .str "0/1", .str "1/1", .str "4/2", .str "3/0", .str "-/2", .str "1/", .str "/2", .str "1//2", .str "--1"] = HO.lst (([z, "", "/", "-", "0", "-0", "0/1", "1/1", "4/2", "3/0", "-/2", "1/", "/2", "1//2", "--1"] : List Str).map V.str) from rfl]
      have sH6 := sH5.trans s6
      have w6 := w5.same s6
      have hd6 := s6 _ _ hd5
      have hp6 := s6 _ _ hp5
      have how6 : ∀ v ∈ ws, HowAt _ v := fun v hv => let ⟨q, h1, mo, tw, e, hq⟩ := how5 v hv; ⟨q, h1, mo, tw, e, s6 _ _ hq⟩
      generalize upd H5 l1 (.lst (([z, "", "/", "-", "0", "-0", "0/1", "1/1", "4/2", "3/0", "-/2", "1/", "/2", "1//2", "--1"] : List Str).map V.str)) = H6 at *
      walk_at "rdh"
      have one : ∀ y : Str, y ∈ (["9", "-", "7", "0"] : List Str) → y.length = 1 := by decide +kernel
      have l9 := one "9" (by simp)
      have lm := one "-" (by simp)
      have l7 := one "7" (by simp)
      have l0 := one "0" (by simp)
      have l1' : ("/1" : Str).length = 2 := by decide +kernel
      refine r_repS (by decide) (by decide) (by omega) fun y1 e1 => ?_
      walk_at "rdh"
      refine r_repS (by decide) (by decide) (by omega) fun y2 e2 => ?_
      walk_at "rdh"
      refine r_repS (by decide) (by decide) (by omega) fun y3 e3 => ?_
      refine ⟨_, _, rfl, rfl, Nat.le_trans (m := 100000) ?_ (by decide), ?_⟩
      · omega
      have e4 := cat_len ("-" : Str) y3
      generalize ("-" : Str) ++ y3 = y4 at *
      walk_at "rdh"
      refine r_repS (by decide) (by decide) (by omega) fun y5 e5 => ?_
      refine ⟨_, _, rfl, rfl, Nat.le_trans (m := 100000) ?_ (by decide), ?_⟩
      · omega
      have e6 := cat_len ("-" : Str) y5
      generalize ("-" : Str) ++ y5 = y6 at *
      walk_at "rdh"
      refine r_repS (by decide) (by decide) (by omega) fun y7 e7 => ?_
      walk_at "rdh"
      refine ⟨_, _, rfl, rfl, Nat.le_trans (m := 100000) ?_ (by decide), ?_⟩
      · omega
      have e8 := cat_len y7 ("/1" : Str)
      generalize y7 ++ ("/1" : Str) = y8 at *
      walk_at "rdh"
      refine r_repS (by decide) (by decide) (by omega) fun y9 e9 => ?_
      refine ⟨_, _, rfl, rfl, Nat.le_trans (m := 100000) ?_ (by decide), ?_⟩
      · omega
      have e10 := cat_len y8 y9
      generalize y8 ++ y9 = y10 at *
      walk_at "rdh"
      refine r_new (by show 5 ≤ 1000; decide) fun l2 hl2 => ?_
      rw [show HO.lst [V.str y1, .str y2, .str y4, .str y6, .str y10] = HO.lst (([y1, y2, y4, y6, y10] : List Str).map V.str) from rfl]
      refine texts_cat t6 hl2 (m := 5) (by show 5 ≤ 5; exact Nat.le_refl _) (fun y hy => ?_) (by decide) fun l3 H7 s7 hl3 t7 => ?_
      · simp only [List.mem_cons, List.not_mem_nil, or_false] at hy
        rcases hy with rfl | rfl | rfl | rfl | rfl <;> omega
      have sH7 := sH6.trans s7
      have w7 := w6.same s7
      have hd7 := s7 _ _ hd6
      have hp7 := s7 _ _ hp6
      have how7 : ∀ v ∈ ws, HowAt H7 v := fun v hv => let ⟨q, h1, mo, tw, e, hq⟩ := how6 v hv; ⟨q, h1, mo, tw, e, s7 _ _ hq⟩
      have n3d := well_ne w6 hl3
      have n3D : l3 ≠ D := (ne_of_none hd6 hl3).symm
      have hl30 := none_of sH6 hl3
      obtain ⟨xs7, g7, len7, b7⟩ := t7
      walk_at "rdh"
      refine ⟨ty_list g7, ?_⟩
      walk_at "rdh"
      refine r_repS (by decide) (by decide) (by omega) fun y11 e11 => ?_
      walk_at "rdh"
      refine ⟨_, _, rfl, rfl, Nat.le_trans (m := 100000) ?_ (by decide), ?_⟩
      · omega
      have e12 := cat_len y11 ("/1" : Str)
      generalize y11 ++ ("/1" : Str) = y12 at *
      walk_at "rdh"
      refine r_repS (by decide) (by decide) (by omega) fun y13 e13 => ?_
      refine ⟨_, _, rfl, rfl, Nat.le_trans (m := 100000) ?_ (by decide), ?_⟩
      · omega
      have e14 := cat_len y12 y13
      generalize y12 ++ y13 = y14 at *
      walk_at "rdh"
      refine ⟨l3, _, _, rfl, rfl, g7, by rw [List.length_map]; exact Nat.lt_of_le_of_lt len7 (by decide), ?_⟩
      rw [show xs7.map V.str ++ [V.str y14] = (xs7 ++ [y14]).map V.str by simp]
      have t8 : TextsAt (upd H7 l3 (.lst ((xs7 ++ [y14]).map V.str))) l3 21 := ⟨_, upd_same, by rw [List.length_append]; show xs7.length + 1 ≤ 21; omega, fun y hy => by
        rcases List.mem_append.mp hy with h | h
        · exact b7 y h
        · rw [List.mem_singleton.mp h]; omega⟩
      have keep8 : ∀ {b o}, (∀ xs, o ≠ HO.lst xs) → H7 b = some o → upd H7 l3 (.lst ((xs7 ++ [y14]).map V.str)) b = some o := fun {b o} no hb => by
        rw [upd_ne (ne_of hb g7 (no _))]
        exact hb
      have sH8 : Same H (upd H7 l3 (.lst ((xs7 ++ [y14]).map V.str))) := fun b o hb => by
        rw [upd_ne (ne_of_none hb hl30)]
        exact sH7 _ _ hb
      have w8 : WellAt (upd H7 l3 (.lst ((xs7 ++ [y14]).map V.str))) d := by
        obtain ⟨x1, x2, x3, hx⟩ := w7
        exact ⟨x1, x2, x3, by rw [upd_ne (Ne.symm n3d)]; exact hx⟩
      have hd8 : upd H7 l3 (.lst ((xs7 ++ [y14]).map V.str)) D = some (.lst ws) := by rw [upd_ne (Ne.symm n3D)]; exact hd7
      have hp8 := keep8 (fun _ z => by cases z) hp7
      have how8 : ∀ v ∈ ws, HowAt (upd H7 l3 (.lst ((xs7 ++ [y14]).map V.str))) v := fun v hv => let ⟨q, h1, mo, tw, e, hq⟩ := how7 v hv; ⟨q, h1, mo, tw, e, keep8 (fun _ z => by cases z) hq⟩
      generalize upd H7 l3 (.lst ((xs7 ++ [y14]).map V.str)) = H8 at *
      walk_at "rdh"
      refine r_forL ?_
      walk_at "rdh"
      refine ⟨D, rfl, ⟨_, SqL.of hd8⟩, for_list (K := K) (a := D) (xs := ws) (fun j σ H' => ∃ (r : Addr) (u9 u10 u11 u12 u13 : Option V), σ = [some (.ref a), some (.int (i : Nat)), some (.ref d), some (.ref D), some (.ref p), some (.int x.num), some (.int (x.den : Int)), some (.str z), some (.ref r), u9, u10, u11, u12, u13, none, none] ∧ Same H H' ∧ WellAt H' d ∧ H' D = some (.lst ws) ∧ H' p = some (.tup [.int t, .int b]) ∧ (∀ v ∈ ws, HowAt H' v) ∧ TextsAt H' r (21 + 2 * j))
        ⟨l3, _, _, _, _, _, rfl, sH8, w8, hd8, hp8, how8, t8⟩ (fun j σ H' _ ⟨_, _, _, _, _, _, _, _, _, h, _⟩ => SqL.of h) ?_ ?_⟩
      · rintro j y σ H9 hy ⟨r, u9, u10, u11, u12, u13, rfl, sH9, w9, hd9, hp9, how9, t9⟩
        have hj : j < 12 := by
          have := (List.getElem?_eq_some_iff.mp hy).1
          omega
        obtain ⟨q, h1, mo, tw, rfl, hq⟩ := how9 y (List.mem_of_getElem? hy)
        refine r_gTup hq rfl ?_
        walk_at "rdh"
        have rd : r ≠ d := by
          obtain ⟨xs9, g9, _⟩ := t9
          obtain ⟨x1, x2, x3, hx⟩ := w9
          intro e
          rw [e, hx] at g9
          have := (HO.lst.inj (Option.some.inj g9))
          cases xs9 with
          | nil => cases this
          | cons c cs => cases this
        refine ⟨d, z, h1, rfl, w9, by omega, fun b1 H10 o10 w10 lb1 => ?_⟩
        walk_at "rdh"
        have next : ∀ (bb : Str) (H11 : Hp), Out d H9 H11 → WellAt H11 d → bb.length ≤ 4000 → ∀ (pp : Addr), H11 pp = none → ∀ {Q' : VK}, (∀ (r' : Addr) (H' : Hp), Same H H' → WellAt H' d → H' D = some (.lst ws) → H' p = some (.tup [.int t, .int b]) → (∀ v ∈ ws, HowAt H' v) → TextsAt H' r' (21 + 2 * (j + 1)) → Q' (.ref r') H') →
            rCat (.ref r) (.ref pp) (upd H11 pp (.lst [.str bb, .str z])) Q' := fun bb H11 o11 w11 lbb pp hpp Q' kq => by
          rw [show HO.lst [V.str bb, .str z] = HO.lst (([bb, z] : List Str).map V.str) from rfl]
          refine texts_cat (t9.out o11 rd) hpp (m := 2) (by show 2 ≤ 2; exact Nat.le_refl _) (fun y hy => ?_) (by omega) fun r' H12 s12 _ t12 => ?_
          · simp only [List.mem_cons, List.not_mem_nil, or_false] at hy
            rcases hy with rfl | rfl <;> omega
          refine kq r' H12 ((same_out sH9 nd0 o11).trans s12) (w11.same s12) (s12 _ _ (o11 _ _ Dd hd9)) (s12 _ _ (o11.keep w9 hp9 (fun _ z => by cases z))) (fun v hv => ?_) t12
          obtain ⟨q', h1', mo', tw', e', hq'⟩ := how9 v hv
          exact ⟨q', h1', mo', tw', e', s12 _ _ (o11.keep w9 hq' (fun _ z => by cases z))⟩
        refine r_ite (fun e => ?_) (fun e => ?_)
        · walk_at "rdh"
          refine ⟨d, b1, mo, rfl, w10, by omega, fun b2 H11 o11 w11 lb2 => ?_⟩
          walk_at "rdh"
          refine r_new (by show 2 ≤ 1000; decide) fun pp hpp => ?_
          refine next b2 H11 (o10.trans o11) w11 (by omega) pp hpp fun r' H' c1 c2 c3 c4 c5 c6 => ?_
          walk_at "rdh"
          exact ⟨r', _, _, _, _, _, rfl, c1, c2, c3, c4, c5, c6⟩
        · walk_at "rdh"
          refine r_new (by show 2 ≤ 1000; decide) fun pp hpp => ?_
          refine next b1 H10 o10 w10 (by omega) pp hpp fun r' H' c1 c2 c3 c4 c5 c6 => ?_
          walk_at "rdh"
          exact ⟨r', _, _, _, _, _, rfl, c1, c2, c3, c4, c5, c6⟩
      rintro σ H9 ⟨r, u9, u10, u11, u12, u13, rfl, sH9, w9, hd9, hp9, how9, ⟨xs9, g9, len9, b9⟩⟩
      walk_at "rdh"
      refine r_lcL ?_
      walk_at "rdh"
      have b1900 : ∀ {y : Rat}, (NText y).length ≤ 60 → y.num.natAbs < 2 ^ 1900 ∧ ((y.den : Int)).natAbs < 2 ^ 1900 := fun {y} h => by
        have by' := den_lt h
        exact ⟨Nat.lt_of_lt_of_le by'.1 (Nat.pow_le_pow_right (by decide) (by decide)), Nat.lt_of_lt_of_le (bd_den by') (Nat.pow_le_pow_right (by decide) (by decide))⟩
      have shownT : ∀ {y : Rat} {HH : Hp} {pp : Addr} {Q' : VK}, (NText y).length ≤ 60 → HH pp = some (.tup [.int y.num, .int (y.den : Int)]) → Q' (.str (RNum y)) HH → rReprA K [.ref pp] HH Q' := fun {y HH pp Q'} h hh q => by
        obtain ⟨c1, c2⟩ := b1900 h
        obtain ⟨f1, f2, f3⟩ := data_two c1 c2
        exact ⟨_, .tuple [.int y.num, .int (y.den : Int)], rfl, .tup (SqT.of hh) (.cons (.int _) (.cons (.int _) .nil)), f1, f2, f3, short_two c1 c2, q⟩
      refine ⟨r, rfl, ⟨_, SqL.of g9⟩, fun D2 hD2 => lc_list (K := K) (a := r) (xs := xs9.map V.str) (fun j H' => Same H9 H' ∧ H' D2 = some (.lst []))
        ⟨Same.new hD2, upd_same⟩ (fun j H' _ ⟨s, _⟩ => SqL.of (s _ _ g9)) ?_ ?_⟩
      · rintro j y H10 hy ⟨s10, hD10⟩
        obtain ⟨z1, hz1, rfl⟩ := List.mem_map.mp (List.mem_of_getElem? hy)
        have lz1 := b9 z1 hz1
        walk_at "rdh"
        refine ⟨rfl, ?_⟩
        walk_at "rdh"
        refine .inl ⟨z1, rfl, lz1, fun y hy H11 s11 => ?_, fun no H11 s11 => ?_⟩
        · walk_at "rdh"
          refine ⟨z1, rfl, lz1, fun y' hy' pp H12 s12 hpp => ?_, fun no => absurd hy (no y)⟩
          obtain rfl : y = y' := ntext_inj (hy.1.trans hy'.1.symm)
          walk_at "rdh"
          refine shownT (by rw [hy.1]; exact hy.2) hpp ?_
          refine r_neS ?_
          rw [decide_eq_true rfl]
          walk_at "rdh"
          refine r_iteF rfl ?_
          exact ⟨s10.trans (s11.trans s12), (s11.trans s12) _ _ hD10⟩
        · walk_at "rdh"
          refine ⟨z1, rfl, lz1, fun y' hy' => absurd hy' (no y'), fun _ H12 s12 => ?_⟩
          walk_at "rdh"
          obtain ⟨f1, f2, f3, f4⟩ := data_opt (d := .none) (.inl rfl)
          refine ⟨_, .none, rfl, .non, f1, f2, f3, f4, ?_⟩
          refine r_neS ?_
          rw [show decide (RNone = PyData.none.shown) = true from decide_eq_true rfl]
          walk_at "rdh"
          refine r_iteF rfl ?_
          exact ⟨s10.trans (s11.trans s12), (s11.trans s12) _ _ hD10⟩
      · rintro H10 ⟨s10, hD10⟩
        have sH10 := sH9.trans s10
        have hp10 := s10 _ _ hp9
        walk_at "rdh"
        refine r_new (by show 0 ≤ 1000; decide) fun e he => ?_
        have s11 := Same.new (o := .lst []) he
        refine ⟨.list [], .list [], .lst (SqL.of (xs := []) (s11 _ _ hD10)) .nil, .lst (SqL.of (xs := []) upd_same) .nil, by decide +kernel, by decide +kernel, ?_⟩
        rw [show PyData.eqv (.list []) (.list []) = true by decide +kernel]
        have sH11 := sH10.trans s11
        have hp11 := s11 _ _ hp10
        generalize upd H10 e (.lst []) = H11 at *
        walk_at "rdh"
        refine r_iteF rfl ?_
        walk_at "rdh"
        refine r_forL ?_
        walk_at "rdh"
        refine r_new (by show 0 ≤ 1000; decide) fun q1 hq1 => ?_
        have m1 := Same.new (o := .tup []) hq1
        walk_at "rdh"
        refine r_new (by show 2 ≤ 1000; decide) fun q2 hq2 => ?_
        have m2 := Same.new (o := .tup [.int x.num, .int (x.den : Int)]) hq2
        walk_at "rdh"
        refine r_new (by show 1 ≤ 1000; decide) fun q3 hq3 => ?_
        have m3 := Same.new (o := .lst [.str z]) hq3
        walk_at "rdh"
        refine r_new (by show 1 ≤ 1000; decide) fun q4 hq4 => ?_
        have m4 := Same.new (o := .tup [.str z]) hq4
        walk_at "rdh"
        refine r_dnewK fun q5 hq5 => ?_
        have m5 := Same.new (o := .dK []) hq5
        have m35 := (m3.trans m4).trans m5
        have m15 := (m1.trans m2).trans m35
        walk_at "rdh"
        refine r_ixT (m15 _ _ hp11) (atI_nat (j := 0) rfl) ?_
        walk_at "rdh"
        refine r_ixT (m15 _ _ hp11) (atI_nat (j := 1) rfl) ?_
        walk_at "rdh"
        refine mk_num b0 (Nat.lt_of_le_of_lt bl (by decide)) fun q6 H12 m6 _ h6 => ?_
        walk_at "rdh"
        refine r_new (by show 10 ≤ 1000; decide) fun q7 hq7 => ?_
        have m7 := Same.new (o := .lst [.non, .int 0, .int x.num, .bl true, .ref q1, .ref q2, .ref q3, .ref q4, .ref q5, .ref q6]) hq7
        have g7' := upd_same (H := H12) (a := q7) (o := HO.lst [V.non, .int 0, .int x.num, .bl true, .ref q1, .ref q2, .ref q3, .ref q4, .ref q5, .ref q6])
        have sAll := (sH11.trans (m15.trans m6)).trans m7
        have all : ∀ v ∈ [V.non, .int 0, .int x.num, .bl true, .ref q1, .ref q2, .ref q3, .ref q4, .ref q5, .ref q6], NoTx T.C_Number (upd H12 q7 (.lst [.non, .int 0, .int x.num, .bl true, .ref q1, .ref q2, .ref q3, .ref q4, .ref q5, .ref q6])) v := fun v hv => by
          have m67 := m6.trans m7
          simp only [List.mem_cons, List.not_mem_nil, or_false] at hv
          rcases hv with rfl | rfl | rfl | rfl | rfl | rfl | rfl | rfl | rfl | rfl
          · exact .non
          · exact .int _
          · exact .int _
          · exact .bl _
          · exact .tup (m67 _ _ (m35 _ _ (m2 _ _ upd_same)))
          · exact .tup (m67 _ _ (m35 _ _ upd_same))
          · exact .lst (m67 _ _ (m5 _ _ (m4 _ _ upd_same)))
          · exact .tup (m67 _ _ (m5 _ _ upd_same))
          · exact .dic (m67 _ _ upd_same)
          · exact .num (h6.same m7)
        generalize [V.non, .int 0, .int x.num, .bl true, .ref q1, .ref q2, .ref q3, .ref q4, .ref q5, .ref q6] = vs' at *
        generalize upd H12 q7 (.lst vs') = H13 at *
        refine ⟨q7, rfl, ⟨_, SqL.of g7'⟩, for_list (K := K) (a := q7) (xs := vs') (fun j σ H' => ∃ (u13 : Option V), σ = [some (.ref a), some (.int (i : Nat)), some (.ref d), some (.ref D), some (.ref p), some (.int x.num), some (.int (x.den : Int)), some (.str z), some (.ref r), u9, u10, u11, u12, u13, none, none] ∧ Same H13 H')
          ⟨_, rfl, Same.refl _⟩ (fun j σ H' _ ⟨_, _, s⟩ => SqL.of (s _ _ g7')) ?_ ?_⟩
        · rintro j y σ H14 hy ⟨u13', rfl, s14⟩
          have nt := (all y (List.mem_of_getElem? hy)).same s14
          walk_at "rdh"
          refine .inr ⟨y, rfl, nt, fun H15 s15 => ?_⟩
          walk_at "rdh"
          refine r_neS ?_
          rw [show decide (RNone = ("None" : Str)) = true from decide_eq_true (by decide +kernel)]
          walk_at "rdh"
          refine r_iteF rfl ?_
          walk_at "rdh"
          refine .inl ⟨z, rfl, by omega, fun y' hy' H16 s16 => ?_, fun no => absurd isn (no x)⟩
          obtain rfl : x = y' := ntext_inj (isn.1.trans hy'.1.symm)
          walk_at "rdh"
          refine r_new (by show 2 ≤ 1000; decide) fun pp hpp => ?_
          walk_at "rdh"
          refine shownT len60 upd_same ?_
          refine r_neS ?_
          rw [decide_eq_true rfl]
          walk_at "rdh"
          refine r_iteF rfl ?_
          walk_at "rdh"
          exact ⟨_, rfl, ((s14.trans s15).trans s16).trans (Same.new hpp)⟩
        · rintro σ H14 ⟨u13', rfl, s14⟩
          walk_at "rdh"
          exact ⟨_, _, _, _, _, _, _, _, _, _, _, _, _, rfl, sAll.trans s14⟩
    · rintro σ H1 ⟨v1, v2, v3, v4, v5, v6, v7, v8, v9, v10, v11, v12, v13, rfl, s1⟩
      walk_at "rdh"
      exact k _
end
end My

namespace My
open PySem L2
theorem kit_self {K : PySem.W.Frag} {C : Addr} : PySem.W.kitOne K (.ref C) (.ref C) = some true := if_pos (by simp)
theorem bi_Number_init {K : PySem.W.Frag} {f : Addr} {fd : FuncData} (F : FunD K "__init__" "Number.__init__" (defArgs s_Number_init) (defBody s_Number_init) (defScope s_Number_init) [V.int 1] [] f fd) :
    Binds K fd ["self", "top", "bottom"] [] ∧ ∃ ds : List Value, Vals [V.int 1] ds ∧ Binds K fd ["self", "top", "bottom"] ds := by
  constructor
  · obtain ⟨ds, r, b⟩ := F.binds1 (ps := ["self", "top", "bottom"]) 3 1 (by simp) rfl fun T kV doc pm an cdv ct us its h1 h2 => match us, its, h1, h2 with | [_, _, _], [_], _, _ => ⟨_, rfl, rfl⟩
    cases r
    exact b
  · exact F.binds1 (ps := ["self", "top", "bottom"]) 2 0 (by simp) rfl fun T kV doc pm an cdv ct us its h1 h2 => match us, its, h1, h2 with | [_, _], [_], _, _ => ⟨_, rfl, rfl⟩
theorem all_mk {l : PySem.W.OpenLaw} {w : World} {K : PySem.W.Frag} {h : Heap} {mg : Str → Option Value} {fa : Addr} (X : K.In h) (G : h.Ns mainGlobals mg) (hfa : mg "law" = some (.ref fa))
    {C_Number : Addr}
    {f_Number_init : Addr} {od_Number_init an_Number_init : Option Addr} {sl_Number_init : Array (Option Value)} {oc_Number_init dc_Number_init pm_Number_init cd_Number_init ct_Number_init : Value}
    {kV_Number_init : Value}
    {Td_Number_init : Addr} {cT_Number_init : Value} {dT_Number_init : Option Addr} {nT_Number_init : Nat} {sT_Number_init : Array (Option Value)} {tk_Number_init : Tok}
    {f_Number_str : Addr} {od_Number_str an_Number_str : Option Addr} {sl_Number_str : Array (Option Value)} {oc_Number_str dc_Number_str pm_Number_str cd_Number_str ct_Number_str : Value}
    {kV_Number_str : Value}
    {f_read_number : Addr} {od_read_number an_read_number : Option Addr} {sl_read_number : Array (Option Value)} {oc_read_number dc_read_number pm_read_number cd_read_number ct_read_number : Value}
    {kV_read_number : Value}
    {f_whole : Addr} {od_whole an_whole : Option Addr} {sl_whole : Array (Option Value)} {oc_whole dc_whole pm_whole cd_whole ct_whole : Value}
    {kV_whole : Value}
    {f_l_well : Addr} {od_l_well an_l_well : Option Addr} {sl_l_well : Array (Option Value)} {oc_l_well dc_l_well pm_l_well cd_l_well ct_l_well : Value}
    {kV_l_well : Value}
    {f_l_take : Addr} {od_l_take an_l_take : Option Addr} {sl_l_take : Array (Option Value)} {oc_l_take dc_l_take pm_l_take cd_l_take ct_l_take : Value}
    {kV_l_take : Value}
    {f_l_ten : Addr} {od_l_ten an_l_ten : Option Addr} {sl_l_ten : Array (Option Value)} {oc_l_ten dc_l_ten pm_l_ten cd_l_ten ct_l_ten : Value}
    {kV_l_ten : Value}
    {f_l_pair : Addr} {od_l_pair an_l_pair : Option Addr} {sl_l_pair : Array (Option Value)} {oc_l_pair dc_l_pair pm_l_pair cd_l_pair ct_l_pair : Value}
    {kV_l_pair : Value}
    {f_l_lowest : Addr} {od_l_lowest an_l_lowest : Option Addr} {sl_l_lowest : Array (Option Value)} {oc_l_lowest dc_l_lowest pm_l_lowest cd_l_lowest ct_l_lowest : Value}
    {kV_l_lowest : Value}
    {f_l_text : Addr} {od_l_text an_l_text : Option Addr} {sl_l_text : Array (Option Value)} {oc_l_text dc_l_text pm_l_text cd_l_text ct_l_text : Value}
    {kV_l_text : Value}
    {f_l_other_word : Addr} {od_l_other_word an_l_other_word : Option Addr} {sl_l_other_word : Array (Option Value)} {oc_l_other_word dc_l_other_word pm_l_other_word cd_l_other_word ct_l_other_word : Value}
    {kV_l_other_word : Value}
    {f_l_bent : Addr} {od_l_bent an_l_bent : Option Addr} {sl_l_bent : Array (Option Value)} {oc_l_bent dc_l_bent pm_l_bent cd_l_bent ct_l_bent : Value}
    {kV_l_bent : Value}
    {f_l_whole : Addr} {od_l_whole an_l_whole : Option Addr} {sl_l_whole : Array (Option Value)} {oc_l_whole dc_l_whole pm_l_whole cd_l_whole ct_l_whole : Value}
    {kV_l_whole : Value}
    {f_l_read : Addr} {od_l_read an_l_read : Option Addr} {sl_l_read : Array (Option Value)} {oc_l_read dc_l_read pm_l_read cd_l_read ct_l_read : Value}
    {kV_l_read : Value}
    {f_l_told : Addr} {od_l_told an_l_told : Option Addr} {sl_l_told : Array (Option Value)} {oc_l_told dc_l_told pm_l_told cd_l_told ct_l_told : Value}
    {kV_l_told : Value}
    {f_law : Addr} {od_law an_law : Option Addr} {sl_law : Array (Option Value)} {oc_law dc_law pm_law cd_law ct_law : Value}
    {kV_law : Value}
    {f_NoTextI : Addr} {od_NoText an_NoText : Option Addr} {sl_NoText : Array (Option Value)} {oc_NoText dc_NoText pm_NoText cd_NoText ct_NoText : Value}
    {C_NoText N_NoText : Addr} {nm_NoText q_NoText : Str} {bs_NoText : List Value} {sn_NoText : List Str} {sub_NoText : List Value} {ab_NoText : Bool} {col_NoText : Option Bool} {dd_NoText : Option Addr} {k0_NoText k1_NoText k2_NoText k3_NoText k5_NoText : Option Value}
    {C_FigureError C_NoBottom C_Unsorted : Addr}
    {t_c_LONGEST_TEXT : Tok}
    (aC_Number : PySem.W.nsIn K mainGlobals "Number" = some (some (.ref C_Number)))
    (pg_Number : PySem.W.plainGet K C_Number Str.empty = true)
    (hd_Number : PySem.W.hasDictIn K C_Number = true)
    (po_Number : PySem.W.plainOver K C_Number = true)
    (sa_Number : PySem.W.findIn K (.ref C_Number) "__setattr__" = some (some (.builtin "object.__setattr__")))
    (nf_Number_top : PySem.W.findIn K (.ref C_Number) "top" = some none)
    (nf_Number_bottom : PySem.W.findIn K (.ref C_Number) "bottom" = some none)
    (tc_Number : PySem.W.findIn K (.ref C_Number) "__class__" = some (some (.builtin "object.__class__")))
    (tg_Number : PySem.W.specialIn K (.builtin "object.__class__") "__get__" = some (some (.builtin "getset_descriptor.__get__")))
    (tt_Number : PySem.W.takesIn K (.builtin "object.__class__") = some true)
    (tm_Number : PySem.W.mroIn K C_Number (.type "object") = some true)
    (nn_Number : PySem.W.findIn K (.ref C_Number) "__ne__" = some (some (.builtin "object.__ne__")))
    (mi_Number : PySem.W.makesIn K C_Number = true)
    (kc_Number : PySem.W.keepIn K (.ref C_Number) = true)
    (a_Number_init : PySem.W.findIn K (.ref C_Number) "__init__" = some (some (.ref f_Number_init)))
    (i_Number_init : PySem.W.isFn K (.ref f_Number_init) = true)
    (l_Number_init : K.lookup f_Number_init = some ⟨oc_Number_init, od_Number_init, .func (PySem.W.fnOf "__init__" "Number.__init__" (defArgs s_Number_init) (defBody s_Number_init) (defScope s_Number_init) (.ref Td_Number_init) kV_Number_init dc_Number_init pm_Number_init an_Number_init cd_Number_init ct_Number_init), sl_Number_init⟩)
    (c_Number_init : PySem.W.codeIn K cd_Number_init "Number.__init__" = true)
    (k_Number_init : PySem.W.keepIn K (.ref f_Number_init) = true)
    (T_Number_init : K.lookup Td_Number_init = some ⟨cT_Number_init, dT_Number_init, .seq #[.int 1 tk_Number_init] nT_Number_init, sT_Number_init⟩)
    (a_Number_str : PySem.W.findIn K (.ref C_Number) "__str__" = some (some (.ref f_Number_str)))
    (i_Number_str : PySem.W.isFn K (.ref f_Number_str) = true)
    (l_Number_str : K.lookup f_Number_str = some ⟨oc_Number_str, od_Number_str, .func (PySem.W.fnOf "__str__" "Number.__str__" (defArgs s_Number_str) (defBody s_Number_str) (defScope s_Number_str) .none kV_Number_str dc_Number_str pm_Number_str an_Number_str cd_Number_str ct_Number_str), sl_Number_str⟩)
    (c_Number_str : PySem.W.codeIn K cd_Number_str "Number.__str__" = true)
    (k_Number_str : PySem.W.keepIn K (.ref f_Number_str) = true)
    (a_read_number : PySem.W.nsIn K mainGlobals "read_number" = some (some (.ref f_read_number)))
    (l_read_number : K.lookup f_read_number = some ⟨oc_read_number, od_read_number, .func (PySem.W.fnOf "read_number" "read_number" (defArgs s_read_number) (defBody s_read_number) (defScope s_read_number) .none kV_read_number dc_read_number pm_read_number an_read_number cd_read_number ct_read_number), sl_read_number⟩)
    (c_read_number : PySem.W.codeIn K cd_read_number "read_number" = true)
    (k_read_number : PySem.W.keepIn K (.ref f_read_number) = true)
    (a_whole : PySem.W.nsIn K mainGlobals "_whole" = some (some (.ref f_whole)))
    (l_whole : K.lookup f_whole = some ⟨oc_whole, od_whole, .func (PySem.W.fnOf "_whole" "_whole" (defArgs s_whole) (defBody s_whole) (defScope s_whole) .none kV_whole dc_whole pm_whole an_whole cd_whole ct_whole), sl_whole⟩)
    (c_whole : PySem.W.codeIn K cd_whole "_whole" = true)
    (k_whole : PySem.W.keepIn K (.ref f_whole) = true)
    (a_l_well : PySem.W.nsIn K mainGlobals "_law_well" = some (some (.ref f_l_well)))
    (l_l_well : K.lookup f_l_well = some ⟨oc_l_well, od_l_well, .func (PySem.W.fnOf "_law_well" "_law_well" (defArgs s_l_well) (defBody s_l_well) (defScope s_l_well) .none kV_l_well dc_l_well pm_l_well an_l_well cd_l_well ct_l_well), sl_l_well⟩)
    (c_l_well : PySem.W.codeIn K cd_l_well "_law_well" = true)
    (k_l_well : PySem.W.keepIn K (.ref f_l_well) = true)
    (a_l_take : PySem.W.nsIn K mainGlobals "_law_take" = some (some (.ref f_l_take)))
    (l_l_take : K.lookup f_l_take = some ⟨oc_l_take, od_l_take, .func (PySem.W.fnOf "_law_take" "_law_take" (defArgs s_l_take) (defBody s_l_take) (defScope s_l_take) .none kV_l_take dc_l_take pm_l_take an_l_take cd_l_take ct_l_take), sl_l_take⟩)
    (c_l_take : PySem.W.codeIn K cd_l_take "_law_take" = true)
    (k_l_take : PySem.W.keepIn K (.ref f_l_take) = true)
    (a_l_ten : PySem.W.nsIn K mainGlobals "_law_ten" = some (some (.ref f_l_ten)))
    (l_l_ten : K.lookup f_l_ten = some ⟨oc_l_ten, od_l_ten, .func (PySem.W.fnOf "_law_ten" "_law_ten" (defArgs s_l_ten) (defBody s_l_ten) (defScope s_l_ten) .none kV_l_ten dc_l_ten pm_l_ten an_l_ten cd_l_ten ct_l_ten), sl_l_ten⟩)
    (c_l_ten : PySem.W.codeIn K cd_l_ten "_law_ten" = true)
    (k_l_ten : PySem.W.keepIn K (.ref f_l_ten) = true)
    (a_l_pair : PySem.W.nsIn K mainGlobals "_law_pair" = some (some (.ref f_l_pair)))
    (l_l_pair : K.lookup f_l_pair = some ⟨oc_l_pair, od_l_pair, .func (PySem.W.fnOf "_law_pair" "_law_pair" (defArgs s_l_pair) (defBody s_l_pair) (defScope s_l_pair) .none kV_l_pair dc_l_pair pm_l_pair an_l_pair cd_l_pair ct_l_pair), sl_l_pair⟩)
    (c_l_pair : PySem.W.codeIn K cd_l_pair "_law_pair" = true)
    (k_l_pair : PySem.W.keepIn K (.ref f_l_pair) = true)
    (a_l_lowest : PySem.W.nsIn K mainGlobals "_law_lowest" = some (some (.ref f_l_lowest)))
    (l_l_lowest : K.lookup f_l_lowest = some ⟨oc_l_lowest, od_l_lowest, .func (PySem.W.fnOf "_law_lowest" "_law_lowest" (defArgs s_l_lowest) (defBody s_l_lowest) (defScope s_l_lowest) .none kV_l_lowest dc_l_lowest pm_l_lowest an_l_lowest cd_l_lowest ct_l_lowest), sl_l_lowest⟩)
    (c_l_lowest : PySem.W.codeIn K cd_l_lowest "_law_lowest" = true)
    (k_l_lowest : PySem.W.keepIn K (.ref f_l_lowest) = true)
    (a_l_text : PySem.W.nsIn K mainGlobals "_law_text" = some (some (.ref f_l_text)))
    (l_l_text : K.lookup f_l_text = some ⟨oc_l_text, od_l_text, .func (PySem.W.fnOf "_law_text" "_law_text" (defArgs s_l_text) (defBody s_l_text) (defScope s_l_text) .none kV_l_text dc_l_text pm_l_text an_l_text cd_l_text ct_l_text), sl_l_text⟩)
    (c_l_text : PySem.W.codeIn K cd_l_text "_law_text" = true)
    (k_l_text : PySem.W.keepIn K (.ref f_l_text) = true)
    (a_l_other_word : PySem.W.nsIn K mainGlobals "_law_other_word" = some (some (.ref f_l_other_word)))
    (l_l_other_word : K.lookup f_l_other_word = some ⟨oc_l_other_word, od_l_other_word, .func (PySem.W.fnOf "_law_other_word" "_law_other_word" (defArgs s_l_other_word) (defBody s_l_other_word) (defScope s_l_other_word) .none kV_l_other_word dc_l_other_word pm_l_other_word an_l_other_word cd_l_other_word ct_l_other_word), sl_l_other_word⟩)
    (c_l_other_word : PySem.W.codeIn K cd_l_other_word "_law_other_word" = true)
    (k_l_other_word : PySem.W.keepIn K (.ref f_l_other_word) = true)
    (a_l_bent : PySem.W.nsIn K mainGlobals "_law_bent" = some (some (.ref f_l_bent)))
    (l_l_bent : K.lookup f_l_bent = some ⟨oc_l_bent, od_l_bent, .func (PySem.W.fnOf "_law_bent" "_law_bent" (defArgs s_l_bent) (defBody s_l_bent) (defScope s_l_bent) .none kV_l_bent dc_l_bent pm_l_bent an_l_bent cd_l_bent ct_l_bent), sl_l_bent⟩)
    (c_l_bent : PySem.W.codeIn K cd_l_bent "_law_bent" = true)
    (k_l_bent : PySem.W.keepIn K (.ref f_l_bent) = true)
    (a_l_whole : PySem.W.nsIn K mainGlobals "_law_whole" = some (some (.ref f_l_whole)))
    (l_l_whole : K.lookup f_l_whole = some ⟨oc_l_whole, od_l_whole, .func (PySem.W.fnOf "_law_whole" "_law_whole" (defArgs s_l_whole) (defBody s_l_whole) (defScope s_l_whole) .none kV_l_whole dc_l_whole pm_l_whole an_l_whole cd_l_whole ct_l_whole), sl_l_whole⟩)
    (c_l_whole : PySem.W.codeIn K cd_l_whole "_law_whole" = true)
    (k_l_whole : PySem.W.keepIn K (.ref f_l_whole) = true)
    (a_l_read : PySem.W.nsIn K mainGlobals "_law_read" = some (some (.ref f_l_read)))
    (l_l_read : K.lookup f_l_read = some ⟨oc_l_read, od_l_read, .func (PySem.W.fnOf "_law_read" "_law_read" (defArgs s_l_read) (defBody s_l_read) (defScope s_l_read) .none kV_l_read dc_l_read pm_l_read an_l_read cd_l_read ct_l_read), sl_l_read⟩)
    (c_l_read : PySem.W.codeIn K cd_l_read "_law_read" = true)
    (k_l_read : PySem.W.keepIn K (.ref f_l_read) = true)
    (a_l_told : PySem.W.nsIn K mainGlobals "_law_told" = some (some (.ref f_l_told)))
    (l_l_told : K.lookup f_l_told = some ⟨oc_l_told, od_l_told, .func (PySem.W.fnOf "_law_told" "_law_told" (defArgs s_l_told) (defBody s_l_told) (defScope s_l_told) .none kV_l_told dc_l_told pm_l_told an_l_told cd_l_told ct_l_told), sl_l_told⟩)
    (c_l_told : PySem.W.codeIn K cd_l_told "_law_told" = true)
    (k_l_told : PySem.W.keepIn K (.ref f_l_told) = true)
    (a_law : PySem.W.nsIn K mainGlobals "law" = some (some (.ref f_law)))
    (l_law : K.lookup f_law = some ⟨oc_law, od_law, .func (PySem.W.fnOf "law" "law" (defArgs s_law) (defBody s_law) (defScope s_law) .none kV_law dc_law pm_law an_law cd_law ct_law), sl_law⟩)
    (c_law : PySem.W.codeIn K cd_law "law" = true)
    (k_law : PySem.W.keepIn K (.ref f_law) = true)
    (ae_NoText : PySem.W.nsIn K mainGlobals "NoText" = some (some (.ref C_NoText)))
    (xe_NoText : K.lookup C_NoText = some (excClassObj nm_NoText q_NoText C_NoText N_NoText bs_NoText [.type "ValueError", .type "Exception", .type "BaseException", .type "object"] true sn_NoText sub_NoText ab_NoText col_NoText dd_NoText k0_NoText k1_NoText k2_NoText k3_NoText k5_NoText "ValueError.__new__"))
    (sa_NoText : PySem.W.findIn K (.ref C_NoText) "__setattr__" = some (some (.builtin "object.__setattr__")))
    (ga_NoText : PySem.W.findIn K (.ref C_NoText) "__getattribute__" = some (some (.builtin "BaseException.__getattribute__")))
    (gg_NoText : PySem.W.findIn K (.ref C_NoText) "__getattr__" = some none)
    (ci_NoText : PySem.W.findIn K (.ref C_NoText) "__init__" = some (some (.ref f_NoTextI)))
    (kp_NoText : PySem.W.keepIn K (.ref C_NoText) = true)
    (eb_NoText : PySem.W.subIn K (.ref C_NoText) (.type "BaseException") = some true)
    (tt_NoText : PySem.W.typeIn K (.ref C_NoText) = some (.type "type"))
    (hd_NoText : PySem.W.hasDictIn K C_NoText = true)
    (is_NoText : PySem.W.isClsIn K C_NoText = true)
    (ha_NoText : PySem.W.findIn K (.ref C_NoText) "__class__" = some (some (.builtin "object.__class__")))
    (hm_NoText : PySem.W.mroIn K C_NoText (.type "object") = some true)
    (sf_NoText : PySem.W.subIn K (.ref C_NoText) (.ref C_NoText) = some true)
    (no_NoText_at : PySem.W.findIn K (.ref C_NoText) "at" = some none)
    (ti_NoText : PySem.W.typeIn K (.ref f_NoTextI) = some (.type "function"))
    (li_NoText : K.lookup f_NoTextI = some ⟨oc_NoText, od_NoText, .func (PySem.W.fnOf "__init__" "NoText.__init__" (PySem.ErV.iA_at ⟨8, 17, 8, 21⟩ ⟨8, 23, 8, 25⟩) (PySem.ErV.iB_at ⟨9, 8, 9, 12⟩ ⟨9, 8, 9, 15⟩ ⟨9, 18, 9, 20⟩ ⟨9, 8, 9, 20⟩) PySem.ErV.iS_at .none .none dc_NoText pm_NoText an_NoText cd_NoText ct_NoText), sl_NoText⟩)
    (hnE : PySem.W.specialIn K (.builtin "object.__class__") "__get__" = some (some (.builtin "getset_descriptor.__get__")))
    (htE : PySem.W.takesIn K (.builtin "object.__class__") = some true)
    (zVE : PySem.W.nsIn K mainGlobals "ValueError" = some none)
    (cc_NoText : PySem.W.codeIn K cd_NoText "NoText.__init__" = true)
    (kv_NoText : PySem.W.subIn K (.ref C_NoText) (.type "ValueError") = some true)
    (ae_FigureError : PySem.W.nsIn K mainGlobals "FigureError" = some (some (.ref C_FigureError)))
    (tt_FigureError : PySem.W.typeIn K (.ref C_FigureError) = some (.type "type"))
    (is_FigureError : PySem.W.isClsIn K C_FigureError = true)
    (ae_NoBottom : PySem.W.nsIn K mainGlobals "NoBottom" = some (some (.ref C_NoBottom)))
    (tt_NoBottom : PySem.W.typeIn K (.ref C_NoBottom) = some (.type "type"))
    (is_NoBottom : PySem.W.isClsIn K C_NoBottom = true)
    (ae_Unsorted : PySem.W.nsIn K mainGlobals "Unsorted" = some (some (.ref C_Unsorted)))
    (tt_Unsorted : PySem.W.typeIn K (.ref C_Unsorted) = some (.type "type"))
    (is_Unsorted : PySem.W.isClsIn K C_Unsorted = true)
    (kk_FigureError : PySem.W.subIn K (.ref C_NoText) (.ref C_FigureError) = some false)
    (kk_NoBottom : PySem.W.subIn K (.ref C_NoText) (.ref C_NoBottom) = some false)
    (kk_Unsorted : PySem.W.subIn K (.ref C_NoText) (.ref C_Unsorted) = some false)
    (kbN_str : PySem.W.subIn K (.ref C_Number) (.type "str") = some false)
    (a_gcd : PySem.W.nsIn K mainGlobals "gcd" = some (some (.builtin "math.gcd")))
    (z_range : PySem.W.nsIn K mainGlobals "range" = some none)
    (z_isinstance : PySem.W.nsIn K mainGlobals "isinstance" = some none)
    (z_str : PySem.W.nsIn K mainGlobals "str" = some none)
    (z_int : PySem.W.nsIn K mainGlobals "int" = some none)
    (z_len : PySem.W.nsIn K mainGlobals "len" = some none)
    (z_abs : PySem.W.nsIn K mainGlobals "abs" = some none)
    (z_max : PySem.W.nsIn K mainGlobals "max" = some none)
    (z_min : PySem.W.nsIn K mainGlobals "min" = some none)
    (z_repr : PySem.W.nsIn K mainGlobals "repr" = some none)
    (z_enumerate : PySem.W.nsIn K mainGlobals "enumerate" = some none)
    (a_LONGEST_TEXT : PySem.W.nsIn K mainGlobals "LONGEST_TEXT" = some (some (.int 60 t_c_LONGEST_TEXT)))
    : ∃ fd : FuncData, (∀ (s : Shared) (v : Value), BindsTo s fd ⟨[v], []⟩ [("_law_script", v)]) ∧ ∀ base : Heap, K.In base → base.Ns mainGlobals mg → FnG l.prog w K mg base 14 fa fd ["_law_script"] (spLaw K) := by
  have e := hfa.symm.trans (PySem.W.mg_of X G a_law)
  cases e
  have F_Number_init : FunD K "__init__" "Number.__init__" (defArgs s_Number_init) (defBody s_Number_init) (defScope s_Number_init) [V.int 1] [] f_Number_init _ := ⟨⟨_, _, _, _, _, _, _, _, _, _, rfl, l_Number_init, c_Number_init, .inr ⟨by simp, Td_Number_init, _, _, _, rfl, T_Number_init, rfl, .cons ⟨_, rfl⟩ .nil⟩, .inl rfl⟩, k_Number_init⟩
  obtain ⟨b_Number_init2, ds_Number_init1, d_Number_init1, b_Number_init1⟩ := bi_Number_init F_Number_init
  have F_Number_str := fun_mk (st := s_Number_str) l_Number_str c_Number_str k_Number_str
  have b_Number_str := F_Number_str.binds (ps := ["self"]) fun _ _ _ _ _ _ us hl => match us, hl with | [_], _ => rfl
  have F_read_number := fun_mk (st := s_read_number) l_read_number c_read_number k_read_number
  have b_read_number := F_read_number.binds (ps := ["text"]) fun _ _ _ _ _ _ us hl => match us, hl with | [_], _ => rfl
  have F_whole := fun_mk (st := s_whole) l_whole c_whole k_whole
  have b_whole := F_whole.binds (ps := ["text"]) fun _ _ _ _ _ _ us hl => match us, hl with | [_], _ => rfl
  have F_l_well := fun_mk (st := s_l_well) l_l_well c_l_well k_l_well
  have b_l_well := F_l_well.binds (ps := ["_law_script", "_law_k"]) fun _ _ _ _ _ _ us hl => match us, hl with | [_, _], _ => rfl
  have F_l_take := fun_mk (st := s_l_take) l_l_take c_l_take k_l_take
  have b_l_take := F_l_take.binds (ps := ["_law_well_here", "_law_top"]) fun _ _ _ _ _ _ us hl => match us, hl with | [_, _], _ => rfl
  have F_l_ten := fun_mk (st := s_l_ten) l_l_ten c_l_ten k_l_ten
  have b_l_ten := F_l_ten.binds (ps := ["_law_power"]) fun _ _ _ _ _ _ us hl => match us, hl with | [_], _ => rfl
  have F_l_pair := fun_mk (st := s_l_pair) l_l_pair c_l_pair k_l_pair
  have b_l_pair := F_l_pair.binds (ps := ["_law_well_here"]) fun _ _ _ _ _ _ us hl => match us, hl with | [_], _ => rfl
  have F_l_lowest := fun_mk (st := s_l_lowest) l_l_lowest c_l_lowest k_l_lowest
  have b_l_lowest := F_l_lowest.binds (ps := ["_law_top", "_law_bottom"]) fun _ _ _ _ _ _ us hl => match us, hl with | [_, _], _ => rfl
  have F_l_text := fun_mk (st := s_l_text) l_l_text c_l_text k_l_text
  have b_l_text := F_l_text.binds (ps := ["_law_top", "_law_bottom"]) fun _ _ _ _ _ _ us hl => match us, hl with | [_, _], _ => rfl
  have F_l_other_word := fun_mk (st := s_l_other_word) l_l_other_word c_l_other_word k_l_other_word
  have b_l_other_word := F_l_other_word.binds (ps := ["_law_well_here", "_law_text_here"]) fun _ _ _ _ _ _ us hl => match us, hl with | [_, _], _ => rfl
  have F_l_bent := fun_mk (st := s_l_bent) l_l_bent c_l_bent k_l_bent
  have b_l_bent := F_l_bent.binds (ps := ["_law_well_here", "_law_text_here", "_law_way"]) fun _ _ _ _ _ _ us hl => match us, hl with | [_, _, _], _ => rfl
  have F_l_whole := fun_mk (st := s_l_whole) l_l_whole c_l_whole k_l_whole
  have b_l_whole := F_l_whole.binds (ps := ["_law_word"]) fun _ _ _ _ _ _ us hl => match us, hl with | [_], _ => rfl
  have F_l_read := fun_mk (st := s_l_read) l_l_read c_l_read k_l_read
  have b_l_read := F_l_read.binds (ps := ["_law_text_here"]) fun _ _ _ _ _ _ us hl => match us, hl with | [_], _ => rfl
  have F_l_told := fun_mk (st := s_l_told) l_l_told c_l_told k_l_told
  have b_l_told := F_l_told.binds (ps := ["_law_thing"]) fun _ _ _ _ _ _ us hl => match us, hl with | [_], _ => rfl
  have F_law := fun_mk (st := s_law) l_law c_law k_law
  have b_law := F_law.binds (ps := ["_law_script"]) fun _ _ _ _ _ _ us hl => match us, hl with | [_], _ => rfl
  exact ⟨_, fun s v => .of_eq rfl, fun base _ _ => okG_law (w := w) (K := K) (mg := mg) {
    C_Number := C_Number,
    m_Number := PySem.W.mg_of X G aC_Number,
    c_Number := ⟨pg_Number, hd_Number, po_Number, sa_Number⟩,
    n_Number_top := nf_Number_top,
    n_Number_bottom := nf_Number_bottom,
    ty_Number_c := tc_Number,
    ty_Number_g := tg_Number,
    ty_Number_t := tt_Number,
    ty_Number_m := tm_Number,
    ty_Number_k := kit_self,
    ne_Number := nn_Number,
    f_Number_init := f_Number_init,
    fd_Number_init := _,
    F_Number_init := F_Number_init,
    mk_Number := ⟨mi_Number, a_Number_init, i_Number_init, kc_Number⟩,
    b_Number_init2 := b_Number_init2,
    ds_Number_init1 := ds_Number_init1,
    d_Number_init1 := d_Number_init1,
    b_Number_init1 := b_Number_init1,
    f_Number_str := f_Number_str,
    fd_Number_str := _,
    F_Number_str := F_Number_str,
    me_Number_str := ⟨a_Number_str, i_Number_str, k_Number_str⟩,
    b_Number_str := b_Number_str,
    m_read_number := PySem.W.mg_of X G a_read_number,
    f_read_number := f_read_number,
    fd_read_number := _,
    F_read_number := F_read_number,
    b_read_number := b_read_number,
    m_whole := PySem.W.mg_of X G a_whole,
    f_whole := f_whole,
    fd_whole := _,
    F_whole := F_whole,
    b_whole := b_whole,
    m_l_well := PySem.W.mg_of X G a_l_well,
    f_l_well := f_l_well,
    fd_l_well := _,
    F_l_well := F_l_well,
    b_l_well := b_l_well,
    m_l_take := PySem.W.mg_of X G a_l_take,
    f_l_take := f_l_take,
    fd_l_take := _,
    F_l_take := F_l_take,
    b_l_take := b_l_take,
    m_l_ten := PySem.W.mg_of X G a_l_ten,
    f_l_ten := f_l_ten,
    fd_l_ten := _,
    F_l_ten := F_l_ten,
    b_l_ten := b_l_ten,
    m_l_pair := PySem.W.mg_of X G a_l_pair,
    f_l_pair := f_l_pair,
    fd_l_pair := _,
    F_l_pair := F_l_pair,
    b_l_pair := b_l_pair,
    m_l_lowest := PySem.W.mg_of X G a_l_lowest,
    f_l_lowest := f_l_lowest,
    fd_l_lowest := _,
    F_l_lowest := F_l_lowest,
    b_l_lowest := b_l_lowest,
    m_l_text := PySem.W.mg_of X G a_l_text,
    f_l_text := f_l_text,
    fd_l_text := _,
    F_l_text := F_l_text,
    b_l_text := b_l_text,
    m_l_other_word := PySem.W.mg_of X G a_l_other_word,
    f_l_other_word := f_l_other_word,
    fd_l_other_word := _,
    F_l_other_word := F_l_other_word,
    b_l_other_word := b_l_other_word,
    m_l_bent := PySem.W.mg_of X G a_l_bent,
    f_l_bent := f_l_bent,
    fd_l_bent := _,
    F_l_bent := F_l_bent,
    b_l_bent := b_l_bent,
    m_l_whole := PySem.W.mg_of X G a_l_whole,
    f_l_whole := f_l_whole,
    fd_l_whole := _,
    F_l_whole := F_l_whole,
    b_l_whole := b_l_whole,
    m_l_read := PySem.W.mg_of X G a_l_read,
    f_l_read := f_l_read,
    fd_l_read := _,
    F_l_read := F_l_read,
    b_l_read := b_l_read,
    m_l_told := PySem.W.mg_of X G a_l_told,
    f_l_told := f_l_told,
    fd_l_told := _,
    F_l_told := F_l_told,
    b_l_told := b_l_told,
    m_law := PySem.W.mg_of X G a_law,
    f_law := _,
    fd_law := _,
    F_law := F_law,
    b_law := b_law,
    f_NoTextI := f_NoTextI,
    C_NoText := C_NoText,
    m_NoText := PySem.W.mg_of X G ae_NoText,
    x_NoText := ⟨ga_NoText, gg_NoText, eb_NoText, hd_NoText, ha_NoText, hnE, htE, hm_NoText⟩,
    ty_NoText := tt_NoText,
    e_NoText := { cls := ⟨nm_NoText, q_NoText, N_NoText, bs_NoText, _, sn_NoText, sub_NoText, ab_NoText, col_NoText, dd_NoText, k0_NoText, k1_NoText, k2_NoText, k3_NoText, k5_NoText, _, _, _, _, xe_NoText, PySem.F.excBase_ValueError, (fun X => rfl), PySem.F.store_ValueError.passes, rfl⟩, sa := sa_NoText, iC := ci_NoText, tC := ti_NoText, kC := kp_NoText },
    no_NoText := no_NoText_at,
    fn_NoText := ⟨_, _, _, _, _, _, _, _, _, _, _, _, _, _,  li_NoText, cc_NoText⟩,
    C_FigureError := C_FigureError,
    m_FigureError := PySem.W.mg_of X G ae_FigureError,
    kt_FigureError := kit_other sf_NoText kk_FigureError is_FigureError tt_FigureError,
    C_NoBottom := C_NoBottom,
    m_NoBottom := PySem.W.mg_of X G ae_NoBottom,
    kt_NoBottom := kit_other sf_NoText kk_NoBottom is_NoBottom tt_NoBottom,
    C_Unsorted := C_Unsorted,
    m_Unsorted := PySem.W.mg_of X G ae_Unsorted,
    kt_Unsorted := kit_other sf_NoText kk_Unsorted is_Unsorted tt_Unsorted,
    kt_VE := kit_type kv_NoText (by decide +kernel),
    te_NoText := exm_self eb_NoText is_NoText tt_NoText sf_NoText,
    n_ValueError := PySem.W.mg_none_of X G zVE,
    gt_NoText := ⟨ga_NoText, gg_NoText, eb_NoText, hd_NoText, no_NoText_at⟩,
    kN_str := kit_type kbN_str (by decide +kernel),
    m_gcd := PySem.W.mg_of X G a_gcd,
    n_range := PySem.W.mg_none_of X G z_range,
    n_isinstance := PySem.W.mg_none_of X G z_isinstance,
    n_str := PySem.W.mg_none_of X G z_str,
    n_int := PySem.W.mg_none_of X G z_int,
    n_len := PySem.W.mg_none_of X G z_len,
    n_abs := PySem.W.mg_none_of X G z_abs,
    n_max := PySem.W.mg_none_of X G z_max,
    n_min := PySem.W.mg_none_of X G z_min,
    n_repr := PySem.W.mg_none_of X G z_repr,
    n_enumerate := PySem.W.mg_none_of X G z_enumerate,
    u_LONGEST_TEXT := _,
    m_LONGEST_TEXT := PySem.W.mg_of X G a_LONGEST_TEXT,
    r_LONGEST_TEXT := ⟨_, rfl⟩ }⟩
theorem walk {l : PySem.W.OpenLaw} {q : Program} {loose : List Str} {XP : (Str → Option Value) → Heap → Prop} {YP : World → Heap → Prop} {d : DefRec} {K : Params → PySem.W.Frag} (hn : l.most = some 63) (hdf : d.params.defaults = [])
    (hY : ∀ (w : World) (h : Heap), YP w h → (K w.params).In h)
    (F : ∀ (w : World) (mg : Str → Option Value) (fa : Addr) (h : Heap), (K w.params).In h → h.Ns mainGlobals mg → mg d.name = some (.ref fa) →
      ∃ fd : FuncData, (∀ (s : Shared) (u : Value), BindsTo s fd ⟨[u], []⟩ [("_law_script", u)]) ∧ ∀ base : Heap, (K w.params).In base → base.Ns mainGlobals mg → FnG l.prog w (K w.params) mg base 14 fa fd ["_law_script"] (spLaw (K w.params))) :
    PySem.W.WalkO q loose XP YP l.row.toRowW d [] (fun f vs => PySem.call f vs) :=
  walk_ofG (n := 63) (k := 14) (x := "_law_script") (sp := fun w => spLaw (K w.params)) hn (by decide) hdf ⟨rfl, by decide, by decide⟩ hY F (fun _ _ a ns hl hS => ⟨a, ns, rfl, hS, hl, fun _ => rfl⟩)
end My
open PySem PySem.W PyProof.Rows in
set_option maxRecDepth 100000 in
set_option maxHeartbeats 0 in
theorem PySem.Challenge.cw_figuretexts_k04_texts_of_no_number_holds : PySem.Challenge.rw_figuretexts_k04_texts_of_no_number.Holds := by
  w_on; o_law; k_head; (case hw => w_witness2)
  k_fill
  refine My.walk (l := PySem.Challenge.rw_figuretexts_k04_texts_of_no_number) rfl rfl (fun w h Y => PySem.W.kIn_of Y) ?F
  case F =>
    intro w mg fa h KX G hmg
    refine' My.all_mk KX G hmg ?aC_Number ?pg_Number ?hd_Number ?po_Number ?sa_Number ?nf_Number_top ?nf_Number_bottom ?tc_Number ?tg_Number ?tt_Number ?tm_Number ?nn_Number ?mi_Number ?kc_Number ?a_Number_init ?i_Number_init ?l_Number_init ?c_Number_init ?k_Number_init ?T_Number_init ?a_Number_str ?i_Number_str ?l_Number_str ?c_Number_str ?k_Number_str ?a_read_number ?l_read_number ?c_read_number ?k_read_number ?a_whole ?l_whole ?c_whole ?k_whole ?a_l_well ?l_l_well ?c_l_well ?k_l_well ?a_l_take ?l_l_take ?c_l_take ?k_l_take ?a_l_ten ?l_l_ten ?c_l_ten ?k_l_ten ?a_l_pair ?l_l_pair ?c_l_pair ?k_l_pair ?a_l_lowest ?l_l_lowest ?c_l_lowest ?k_l_lowest ?a_l_text ?l_l_text ?c_l_text ?k_l_text ?a_l_other_word ?l_l_other_word ?c_l_other_word ?k_l_other_word ?a_l_bent ?l_l_bent ?c_l_bent ?k_l_bent ?a_l_whole ?l_l_whole ?c_l_whole ?k_l_whole ?a_l_read ?l_l_read ?c_l_read ?k_l_read ?a_l_told ?l_l_told ?c_l_told ?k_l_told ?a_law ?l_law ?c_law ?k_law ?ae_NoText ?xe_NoText ?sa_NoText ?ga_NoText ?gg_NoText ?ci_NoText ?kp_NoText ?eb_NoText ?tt_NoText ?hd_NoText ?is_NoText ?ha_NoText ?hm_NoText ?sf_NoText ?no_NoText_at ?ti_NoText ?li_NoText ?hnE ?htE ?zVE ?cc_NoText ?kv_NoText ?ae_FigureError ?tt_FigureError ?is_FigureError ?ae_NoBottom ?tt_NoBottom ?is_NoBottom ?ae_Unsorted ?tt_Unsorted ?is_Unsorted ?kk_FigureError ?kk_NoBottom ?kk_Unsorted ?kbN_str ?a_gcd ?z_range ?z_isinstance ?z_str ?z_int ?z_len ?z_abs ?z_max ?z_min ?z_repr ?z_enumerate ?a_LONGEST_TEXT
    (case aC_Number => k_is)
    (case pg_Number => k_is)
    (case hd_Number => k_is)
    (case po_Number => k_is)
    (case sa_Number => k_is)
    (case nf_Number_top => k_is)
    (case nf_Number_bottom => k_is)
    (case tc_Number => k_is)
    (case tg_Number => k_is)
    (case tt_Number => k_is)
    (case tm_Number => k_is)
    (case nn_Number => k_is)
    (case mi_Number => k_is)
    (case kc_Number => k_is)
    (case a_Number_init => k_is)
    (case i_Number_init => k_is)
    (case l_Number_init => k_is)
    (case c_Number_init => k_is)
    (case k_Number_init => k_is)
    (case T_Number_init => k_is)
    (case a_Number_str => k_is)
    (case i_Number_str => k_is)
    (case l_Number_str => k_is)
    (case c_Number_str => k_is)
    (case k_Number_str => k_is)
    (case a_read_number => k_is)
    (case l_read_number => k_is)
    (case c_read_number => k_is)
    (case k_read_number => k_is)
    (case a_whole => k_is)
    (case l_whole => k_is)
    (case c_whole => k_is)
    (case k_whole => k_is)
    (case a_l_well => k_is)
    (case l_l_well => k_is)
    (case c_l_well => k_is)
    (case k_l_well => k_is)
    (case a_l_take => k_is)
    (case l_l_take => k_is)
    (case c_l_take => k_is)
    (case k_l_take => k_is)
    (case a_l_ten => k_is)
    (case l_l_ten => k_is)
    (case c_l_ten => k_is)
    (case k_l_ten => k_is)
    (case a_l_pair => k_is)
    (case l_l_pair => k_is)
    (case c_l_pair => k_is)
    (case k_l_pair => k_is)
    (case a_l_lowest => k_is)
    (case l_l_lowest => k_is)
    (case c_l_lowest => k_is)
    (case k_l_lowest => k_is)
    (case a_l_text => k_is)
    (case l_l_text => k_is)
    (case c_l_text => k_is)
    (case k_l_text => k_is)
    (case a_l_other_word => k_is)
    (case l_l_other_word => k_is)
    (case c_l_other_word => k_is)
    (case k_l_other_word => k_is)
    (case a_l_bent => k_is)
    (case l_l_bent => k_is)
    (case c_l_bent => k_is)
    (case k_l_bent => k_is)
    (case a_l_whole => k_is)
    (case l_l_whole => k_is)
    (case c_l_whole => k_is)
    (case k_l_whole => k_is)
    (case a_l_read => k_is)
    (case l_l_read => k_is)
    (case c_l_read => k_is)
    (case k_l_read => k_is)
    (case a_l_told => k_is)
    (case l_l_told => k_is)
    (case c_l_told => k_is)
    (case k_l_told => k_is)
    (case a_law => k_is)
    (case l_law => k_is)
    (case c_law => k_is)
    (case k_law => k_is)
    (case ae_NoText => k_is)
    (case xe_NoText => k_is)
    (case sa_NoText => k_is)
    (case ga_NoText => k_is)
    (case gg_NoText => k_is)
    (case ci_NoText => k_is)
    (case kp_NoText => k_is)
    (case eb_NoText => k_is)
    (case tt_NoText => k_is)
    (case hd_NoText => k_is)
    (case is_NoText => k_is)
    (case ha_NoText => k_is)
    (case hm_NoText => k_is)
    (case sf_NoText => first | rfl | k_is)
    (case no_NoText_at => k_is)
    (case ti_NoText => k_is)
    (case li_NoText => k_is)
    (case hnE => k_is)
    (case htE => k_is)
    (case zVE => k_is)
    (case cc_NoText => k_is)
    (case kv_NoText => first | rfl | k_is)
    (case ae_FigureError => k_is)
    (case tt_FigureError => k_is)
    (case is_FigureError => k_is)
    (case ae_NoBottom => k_is)
    (case tt_NoBottom => k_is)
    (case is_NoBottom => k_is)
    (case ae_Unsorted => k_is)
    (case tt_Unsorted => k_is)
    (case is_Unsorted => k_is)
    (case kk_FigureError => k_is)
    (case kk_NoBottom => k_is)
    (case kk_Unsorted => k_is)
    (case kbN_str => k_is)
    (case a_gcd => k_is)
    (case z_range => k_is)
    (case z_isinstance => k_is)
    (case z_str => k_is)
    (case z_int => k_is)
    (case z_len => k_is)
    (case z_abs => k_is)
    (case z_max => k_is)
    (case z_min => k_is)
    (case z_repr => k_is)
    (case z_enumerate => k_is)
    (case a_LONGEST_TEXT => k_is)
