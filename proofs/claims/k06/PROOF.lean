import PyProof.Rows.All
import Wide.All
import OpenK.AllK
import Wide.FinOn
import HandS.ForMost
import HandS.Wide
import HandS.WideBits
import HandS.Dict
import HandS.OwnEq
import PyProof.SeqRoads2
import HandS.Gcd
import HandS.Defaults
import HandS.CallLocal
import HandS.Style
import HandS.IsInst
import HandS.More
import HandS.TupAny
import HandS.StrMore
import HandS.Codes
import HandS.FStr
import HandS.ForSpec
import HandS.ExcIs
import KE.KExcInit
import HandS.Conv
import HandS.Sort
import PyProof.IsiH_set
import PyProof.FactsAll.object
import PyProof.TableTree
import PyProof.FactsTree
import KE.KIsAll
import PyProof.LongRange
import PyProof.ListRange
import PyProof.EqKinds
import PyProof.Rows.IntBool
import PyProof.Rows.EqBoolInt
import PyProof.Rows.ReprOcc
import HandS.SortRule
import HandS.Zip
import HandS.SortKw
import HandS.SetFor
import KE.GoesMore
import PyProof.Rows.SumAny
import PyProof.Rows.SortKeyStr
import PyProof.NeKinds
import PyProof.ReprLen
import HandS.ExcSuper
import HandS.ExcValue
import HandS.TryMany
import HandS.TryOnly
import HandS.ExcCtx
import HandS.Hot
import HandS.HotCalls
import PySem.Challenge.RW_figuretexts_k06_whole_numbers_reckoned_o

set_option Elab.async false
set_option linter.all false
set_option maxRecDepth 100000
set_option maxHeartbeats 4000000

namespace My
/-! numbers as Rat -/
def cdiv (t b : Int) : Int := if b < 0 then -((Nat.gcd t.natAbs b.natAbs : Nat) : Int) else ((Nat.gcd t.natAbs b.natAbs : Nat) : Int)
theorem gcd_pos {t b : Int} (h : b ≠ 0) : 0 < Nat.gcd t.natAbs b.natAbs := Nat.gcd_pos_of_pos_right _ (by omega)
theorem num_of {t b : Int} (h : b ≠ 0) : t.fdiv (cdiv t b) = (Rat.divInt t b).num := by
  have g := gcd_pos (t := t) h
  have d1 : ((Nat.gcd t.natAbs b.natAbs : Nat) : Int) ∣ t := Int.dvd_trans (Int.natCast_dvd_natCast.mpr (Nat.gcd_dvd_left _ _)) (Int.natAbs_dvd.mpr (Int.dvd_refl _))
  rw [Rat.num_divInt]
  have e : ((Int.gcd b t : Nat) : Int) = ((Nat.gcd t.natAbs b.natAbs : Nat) : Int) := by
    rw [Int.gcd_comm]; rfl
  rw [e]
  unfold cdiv
  obtain ⟨k, hk⟩ := d1
  have gn : ((Nat.gcd t.natAbs b.natAbs : Nat) : Int) ≠ 0 := by omega
  generalize ((Nat.gcd t.natAbs b.natAbs : Nat) : Int) = G at *
  subst hk
  by_cases hb : b < 0
  · rw [if_pos hb, Int.sign_eq_neg_one_of_neg hb]
    rw [show G * k = (-G) * (-k) by rw [Int.neg_mul_neg], Int.mul_fdiv_cancel_left _ (by omega)]
    rw [show -1 * (-G * -k) = G * (-k) by rw [Int.neg_mul_neg]; rw [Int.neg_one_mul, Int.mul_neg], Int.mul_ediv_cancel_left _ gn]
  · have hb' : 0 < b := by omega
    rw [if_neg hb, Int.sign_eq_one_of_pos hb', Int.one_mul, Int.mul_fdiv_cancel_left _ gn, Int.mul_ediv_cancel_left _ gn]
theorem den_of {t b : Int} (h : b ≠ 0) : b.fdiv (cdiv t b) = ((Rat.divInt t b).den : Int) := by
  have g := gcd_pos (t := t) h
  have d1 : ((Nat.gcd t.natAbs b.natAbs : Nat) : Int) ∣ b := Int.dvd_trans (Int.natCast_dvd_natCast.mpr (Nat.gcd_dvd_right _ _)) (Int.natAbs_dvd.mpr (Int.dvd_refl _))
  rw [Rat.den_divInt, if_neg h]
  have e : (Int.gcd b t : Nat) = (Nat.gcd t.natAbs b.natAbs : Nat) := by
    rw [Int.gcd_comm]; rfl
  rw [e, Int.natCast_ediv]
  unfold cdiv
  obtain ⟨k, hk⟩ := d1
  have gn : ((Nat.gcd t.natAbs b.natAbs : Nat) : Int) ≠ 0 := by omega
  have gp : 0 < ((Nat.gcd t.natAbs b.natAbs : Nat) : Int) := by omega
  generalize hG : ((Nat.gcd t.natAbs b.natAbs : Nat) : Int) = G at *
  by_cases hb : b < 0
  · rw [if_pos hb, show ((b.natAbs : Nat) : Int) = -b by omega]
    rw [hk, show G * k = (-G) * (-k) by rw [Int.neg_mul_neg], Int.mul_fdiv_cancel_left _ (by omega)]
    rw [show -(-G * -k) = G * (-k) by rw [Int.neg_mul_neg, Int.mul_neg], Int.mul_ediv_cancel_left _ gn]
  · rw [if_neg hb, show ((b.natAbs : Nat) : Int) = b by omega, hk, Int.mul_fdiv_cancel_left _ gn, Int.mul_ediv_cancel_left _ gn]

/-- top and bottom below 2 ^ n -/
def Bd (n : Nat) (q : Rat) : Prop := q.num.natAbs < 2 ^ n ∧ q.den < 2 ^ n
theorem Bd.mono {m n : Nat} {q : Rat} (h : Bd m q) (l : m ≤ n) : Bd n q :=
  ⟨Nat.lt_of_lt_of_le h.1 (Nat.pow_le_pow_right (by decide) l), Nat.lt_of_lt_of_le h.2 (Nat.pow_le_pow_right (by decide) l)⟩
theorem num_le (t b : Int) : (Rat.divInt t b).num.natAbs ≤ t.natAbs := by
  rw [Rat.num_divInt]
  refine Nat.le_trans (Int.natAbs_ediv_le_natAbs _ _) ?_
  rw [Int.natAbs_mul]
  rcases Int.lt_trichotomy b 0 with h | h | h
  · rw [Int.sign_eq_neg_one_of_neg h]; simp
  · subst h; simp
  · rw [Int.sign_eq_one_of_pos h]; simp
theorem den_le {t b : Int} (h : b ≠ 0) : (Rat.divInt t b).den ≤ b.natAbs := by
  rw [Rat.den_divInt, if_neg h]
  exact Nat.div_le_self _ _
theorem Bd.of {n : Nat} {t b : Int} (h : b ≠ 0) (ht : t.natAbs < 2 ^ n) (hb : b.natAbs < 2 ^ n) : Bd n (Rat.divInt t b) :=
  ⟨Nat.lt_of_le_of_lt (num_le t b) ht, Nat.lt_of_le_of_lt (den_le h) hb⟩
theorem den_ne (q : Rat) : ((q.den : Nat) : Int) ≠ 0 := by have := q.den_pos; omega
theorem sub_eq (x y : Rat) : Rat.divInt (x.num * (y.den : Int) - y.num * (x.den : Int)) ((x.den : Int) * (y.den : Int)) = x - y := by
  rw [Rat.sub_def', ← Int.natCast_mul, Rat.divInt_ofNat]
theorem add_eq (x y : Rat) : Rat.divInt (x.num * (y.den : Int) + y.num * (x.den : Int)) ((x.den : Int) * (y.den : Int)) = x + y := by
  rw [Rat.add_def', ← Int.natCast_mul, Rat.divInt_ofNat]
theorem mul_eq (x y : Rat) : Rat.divInt (x.num * y.num) ((x.den : Int) * (y.den : Int)) = x * y := by
  rw [Rat.mul_def', ← Int.natCast_mul, Rat.divInt_ofNat]
theorem div_eq (x y : Rat) : Rat.divInt (x.num * (y.den : Int)) ((x.den : Int) * y.num) = x / y := by
  rw [Rat.div_def, Rat.inv_def, ← Rat.divInt_mul_divInt, Rat.num_divInt_den]
theorem num_ne {y : Rat} (h : y ≠ 0) : y.num ≠ 0 := fun e => h (Rat.num_eq_zero.mp e)
theorem floor_eq (x : Rat) : x.num.fdiv (x.den : Int) = x.floor := by
  rw [Rat.floor_def, Int.fdiv_eq_ediv_of_nonneg _ (by omega)]
theorem natAbs_mul_lt {a b : Int} {m n k : Nat} (ha : a.natAbs < 2 ^ m) (hb : b.natAbs < 2 ^ n) (h : m + n ≤ k) : (a * b).natAbs < 2 ^ k := by
  rw [Int.natAbs_mul]
  exact Nat.lt_of_lt_of_le (Nat.mul_lt_mul'' ha hb) (by rw [← Nat.pow_add]; exact Nat.pow_le_pow_right (by decide) h)
theorem natAbs_sub_lt {a b : Int} {k : Nat} (ha : a.natAbs < 2 ^ k) (hb : b.natAbs < 2 ^ k) : (a - b).natAbs < 2 ^ (k + 1) := by
  rw [Nat.pow_succ]; omega
theorem natAbs_add_lt {a b : Int} {k : Nat} (ha : a.natAbs < 2 ^ k) (hb : b.natAbs < 2 ^ k) : (a + b).natAbs < 2 ^ (k + 1) := by
  rw [Nat.pow_succ]; omega
theorem Bd.sub {m n : Nat} {x y : Rat} (hx : Bd m x) (hy : Bd n y) : Bd (m + n + 1) (x - y) := by
  rw [← sub_eq]
  refine Bd.of (Int.mul_ne_zero (den_ne x) (den_ne y)) ?_ ?_
  · exact natAbs_sub_lt (natAbs_mul_lt (m := m) (n := n) hx.1 (by have := hy.2; omega) (Nat.le_refl _)) (natAbs_mul_lt (m := n) (n := m) hy.1 (by have := hx.2; omega) (by omega))
  · exact natAbs_mul_lt (m := m) (n := n) (by have := hx.2; omega) (by have := hy.2; omega) (by omega)
theorem Bd.mul {m n : Nat} {x y : Rat} (hx : Bd m x) (hy : Bd n y) : Bd (m + n) (x * y) := by
  rw [← mul_eq]
  exact Bd.of (Int.mul_ne_zero (den_ne x) (den_ne y)) (natAbs_mul_lt hx.1 hy.1 (Nat.le_refl _)) (natAbs_mul_lt (m := m) (n := n) (by have := hx.2; omega) (by have := hy.2; omega) (by omega))
theorem Bd.div {m n : Nat} {x y : Rat} (hx : Bd m x) (hy : Bd n y) (h : y ≠ 0) : Bd (m + n) (x / y) := by
  rw [← div_eq]
  exact Bd.of (Int.mul_ne_zero (den_ne x) (num_ne h)) (natAbs_mul_lt (m := m) (n := n) hx.1 (by have := hy.2; omega) (Nat.le_refl _)) (natAbs_mul_lt (m := m) (n := n) (by have := hx.2; omega) hy.1 (by omega))
theorem Bd.int {n : Nat} {i : Int} (h : i.natAbs < 2 ^ n) (h1 : 1 ≤ n) : Bd n (i : Rat) := ⟨h, by
  show 1 < 2 ^ n
  exact Nat.lt_of_lt_of_le (by decide) (Nat.pow_le_pow_right (by decide) h1)⟩
theorem floor_bd {n : Nat} {x : Rat} (h : Bd n x) : x.floor.natAbs < 2 ^ n := by
  rw [Rat.floor_def]
  exact Nat.lt_of_le_of_lt (Int.natAbs_ediv_le_natAbs _ _) h.1
theorem divInt_one (i : Int) : Rat.divInt i 1 = (i : Rat) := by
  have := Rat.divInt_ofNat i 1
  rw [show ((1 : Nat) : Int) = 1 from rfl] at this
  rw [this, Rat.mkRat_eq_div]; simp
  grind

/-! the ways -/
inductive Way where
  | up | down | high | low | hup | hdown | heven | hodd
def nearerB (part : Rat) (a : Bool) : Bool := if 2 * part.num = (part.den : Int) then a else decide ((part.den : Int) < 2 * part.num)
def ruleB : Way → Int → Rat → Bool
  | .up, l, _ => decide (0 ≤ l)
  | .down, l, _ => decide (l < 0)
  | .high, _, _ => true
  | .low, _, _ => false
  | .hup, l, p => nearerB p (decide (0 ≤ l))
  | .hdown, l, p => nearerB p (decide (l < 0))
  | .heven, l, p => nearerB p (decide (l % 2 = 1))
  | .hodd, l, p => nearerB p (decide (l % 2 = 0))
def partQ (n : Rat) : Rat := n - (n.floor : Rat)
def highQ (n : Rat) : Int := if (partQ n).num = 0 then n.floor else n.floor + 1
def takenQ (w : Way) (n : Rat) : Int := if (partQ n).num = 0 then n.floor else if ruleB w n.floor (partQ n) = true then n.floor + 1 else n.floor
theorem floor_add {c : Int} {f : Rat} (h0 : 0 ≤ f) (h1 : f < 1) : ((c : Rat) + f).floor = c := by
  have a : c ≤ ((c : Rat) + f).floor := Rat.le_floor_iff.mpr (by grind)
  have b : ((c : Rat) + f).floor < c + 1 := Rat.floor_lt_iff.mpr (by rw [Rat.intCast_add]; grind)
  omega
theorem part_add {c : Int} {f : Rat} (h0 : 0 ≤ f) (h1 : f < 1) : partQ ((c : Rat) + f) = f := by
  unfold partQ
  rw [floor_add h0 h1]
  grind
theorem taken_add {w : Way} {c : Int} {f : Rat} (h0 : 0 < f) (h1 : f < 1) : takenQ w ((c : Rat) + f) = if ruleB w c f = true then c + 1 else c := by
  unfold takenQ
  rw [part_add (Rat.le_of_lt h0) h1, floor_add (Rat.le_of_lt h0) h1, if_neg (num_ne (by grind))]
/-- a number of whole and part steps -/
theorem steps_eq {a b c p0 p1 : Int} (ha : a ≠ 0) (hb : b ≠ 0) (h1 : p1 ≠ 0) : Rat.divInt (a * (c * p1 + p0)) (b * p1) / Rat.divInt a b = (c : Rat) + Rat.divInt p0 p1 := by
  simp only [Rat.divInt_eq_div, Rat.intCast_mul, Rat.intCast_add]
  have ha' : (a : Rat) ≠ 0 := by simpa using ha
  have hb' : (b : Rat) ≠ 0 := by simpa using hb
  have h1' : (p1 : Rat) ≠ 0 := by simpa using h1
  grind
end My

namespace My
open PySem L2
/-! readings, one head at a time -/
section
variable {σ : L2.St} {H : Hp} {Q : VK} {QB : Bool → Hp → Prop} {QA : List V → Hp → Prop} {QS : L2.St → Hp → Prop} {v x y : V} {ta tb te tc : TE} {tr : TA} {t u : TS} {c d : TT} {g : TG} {i : Nat} {K : PySem.W.Frag} {b : Bool}
  {nx : L2.St → Hp → Prop} {rt : VK} {bk ct : L2.St → Hp → Prop}
theorem r_var (q : ∃ v, σ[i]? = some (some v) ∧ Q v H) : tVar i σ H Q := q
theorem r_c (q : Q v H) : tC v σ H Q := q
theorem r_op {r : R2} (q : ta σ H fun x H1 => tb σ H1 fun y H2 => r x y H2 Q) : tOp r ta tb σ H Q := q
theorem r_un {r : V → Hp → VK → Prop} (q : ta σ H fun x H1 => r x H1 Q) : tUn r ta σ H Q := q
theorem r_U {f : Int → V} {i : Int} (q : Q (f i) H) : rU f (.int i) H Q := ⟨i, rfl, q⟩
theorem r_I0 {f : Int → Int → V} {i j : Int} (q : Q (f i j) H) : rI0 f (.int i) (.int j) H Q := ⟨i, j, rfl, rfl, q⟩
theorem r_I {C : Int → Int → Prop} {f : Int → Int → V} {i j : Int} (h : C i j) (q : Q (f i j) H) : rI C f (.int i) (.int j) H Q := ⟨i, j, rfl, rfl, h, q⟩
theorem r_eq (h : scal x y = true) (q : Q (.bl (decide (x = y))) H) : rEq x y H Q := ⟨h, q⟩
theorem r_ne (h : scal x y = true) (q : Q (.bl (!decide (x = y))) H) : rNe x y H Q := ⟨h, q⟩
theorem r_eqI {i j : Int} (q : Q (.bl (decide (i = j))) H) : rEq (.int i) (.int j) H Q := ⟨rfl, by
  have e : decide (V.int i = V.int j) = decide (i = j) := by simp
  rw [e]; exact q⟩
theorem r_neI {i j : Int} (q : Q (.bl (!decide (i = j))) H) : rNe (.int i) (.int j) H Q := ⟨rfl, by
  have e : decide (V.int i = V.int j) = decide (i = j) := by simp
  rw [e]; exact q⟩
theorem r_eqS {i j : Str} (q : Q (.bl (decide (i = j))) H) : rEq (.str i) (.str j) H Q := ⟨rfl, by
  have e : decide (V.str i = V.str j) = decide (i = j) := by simp
  rw [e]; exact q⟩
theorem r_eqB {i j : Bool} (q : Q (.bl (decide (i = j))) H) : rEq (.bl i) (.bl j) H Q := ⟨rfl, by
  have e : decide (V.bl i = V.bl j) = decide (i = j) := by simp
  rw [e]; exact q⟩
theorem r_test (q : te σ H fun x H' => ∃ k, x = .bl k ∧ QB k H') : tTest te σ H QB := q
theorem r_B (q : te σ H fun x H' => ∃ k, x = .bl k ∧ QB k H') : tB te σ H QB := q
theorem r_k {P : Bool → Prop} (q : P b) : ∃ k, V.bl b = .bl k ∧ P k := ⟨b, rfl, q⟩
theorem r_and (q : c σ H fun b H1 => if b = true then d σ H1 QB else QB false H1) : tAnd c d σ H QB := q
theorem r_or (q : c σ H fun b H1 => if b = true then QB true H1 else d σ H1 QB) : tOr c d σ H QB := q
theorem r_not (q : c σ H fun b H1 => QB (!b) H1) : tNot c σ H QB := q
theorem r_andV (q : ta σ H fun x H1 => ∃ c, x = .bl c ∧ if c = true then tb σ H1 Q else Q (.bl false) H1) : tAndV ta tb σ H Q := q
theorem r_orV (q : ta σ H fun x H1 => ∃ c, x = .bl c ∧ if c = true then Q (.bl true) H1 else tb σ H1 Q) : tOrV ta tb σ H Q := q
theorem r_notV (q : ta σ H fun x H1 => ∃ c, x = .bl c ∧ Q (.bl (!c)) H1) : tNotV ta σ H Q := q
theorem r_if (q : c σ H fun b H1 => if b = true then ta σ H1 Q else tb σ H1 Q) : tIf c ta tb σ H Q := q
theorem r_seq (q : t ⟨u ⟨nx, rt, bk, ct⟩, rt, bk, ct⟩ σ H) : tSeq t u ⟨nx, rt, bk, ct⟩ σ H := q
theorem r_asg (q : te σ H fun x H1 => g x σ H1 nx) : tAsg te g ⟨nx, rt, bk, ct⟩ σ H := q
theorem r_name (q : QS (σ.set i (some v)) H) : gName i v σ H QS := q
theorem r_ifs (q : c σ H fun b H1 => if b = true then t ⟨nx, rt, bk, ct⟩ σ H1 else u ⟨nx, rt, bk, ct⟩ σ H1) : tIfS c t u ⟨nx, rt, bk, ct⟩ σ H := q
theorem r_ret (q : te σ H rt) : tRet te ⟨nx, rt, bk, ct⟩ σ H := q
theorem r_next (q : nx σ H) : tNext ⟨nx, rt, bk, ct⟩ σ H := q
theorem r_drop (q : te σ H fun _ H1 => nx σ H1) : tDrop te ⟨nx, rt, bk, ct⟩ σ H := q
theorem r_cons (q : te σ H fun x H1 => tr σ H1 fun xs H2 => QA (x :: xs) H2) : tCons te tr σ H QA := q
theorem r_nil (q : QA [] H) : tNil σ H QA := q
theorem r_tup (q : tr σ H fun xs H1 => xs.length ≤ sizeLine ∧ ∀ p, H1 p = none → Q (.ref p) (upd H1 p (.tup xs))) : tTup tr σ H Q := q
theorem r_lst (q : tr σ H fun xs H1 => xs.length ≤ sizeLine ∧ ∀ p, H1 p = none → Q (.ref p) (upd H1 p (.lst xs))) : tLst tr σ H Q := q
theorem r_new {n : Nat} {P : Prop} (h : n ≤ 1000) (q : P) : n ≤ sizeLine ∧ P := ⟨Nat.le_trans h (by decide), q⟩
theorem r_fldT {f : Str} (q : ta σ H fun x H1 => ∃ a C dx fs v, x = .ref a ∧ H1 a = some (.ins C dx fs) ∧ Cls K C ∧ NoAttr K C f ∧ fs.lookup f = some v ∧ Q v H1) : tFld K ta f σ H Q := q
theorem r_fld {f : Str} {p C dx : Addr} {fs : List (Str × V)} (h : H p = some (.ins C dx fs)) (k : Cls K C) (n : NoAttr K C f) (l : fs.lookup f = some v) {P : V → Prop} (q : P v) :
    ∃ a C dx fs v, V.ref p = .ref a ∧ H a = some (.ins C dx fs) ∧ Cls K C ∧ NoAttr K C f ∧ fs.lookup f = some v ∧ P v := ⟨p, C, dx, fs, v, rfl, h, k, n, l, q⟩
theorem r_sFld {f : Str} (q : te σ H fun y H1 => ta σ H1 fun x H2 => ∃ a C dx fs, x = .ref a ∧ H2 a = some (.ins C dx fs) ∧ Cls K C ∧ NoAttr K C f ∧ fs.length < 1000 ∧ nx σ (upd H2 a (.ins C dx (putF f y fs)))) : sFld K ta te f ⟨nx, rt, bk, ct⟩ σ H := q
theorem r_call {sp : Sp} {dvs : List V} {E : XK} (q : tr σ H fun vs H1 => sp (vs ++ dvs) H1 Q E) : tCall sp dvs E tr σ H Q := q
theorem r_CB {r : List V → Hp → VK → Prop} (q : tr σ H fun vs H1 => r vs H1 Q) : tCB r tr σ H Q := q
theorem r_meth {C : Addr} {m : Str} {sp : Sp} {dvs : List V} {E : XK} (q : ta σ H fun x H1 => ∃ a dx fs, x = .ref a ∧ H1 a = some (.ins C dx fs) ∧ fs.lookup m = none ∧ tr σ H1 fun vs H2 => sp (x :: (vs ++ dvs)) H2 Q E) : tMeth C m sp dvs E ta tr σ H Q := q
theorem r_meth1 {C : Addr} {m : Str} {P : Prop} {p dx : Addr} {fs : List (Str × V)} (h : H p = some (.ins C dx fs)) (l : fs.lookup m = none) (q : P) : ∃ a dx fs, V.ref p = .ref a ∧ H a = some (.ins C dx fs) ∧ fs.lookup m = none ∧ P := ⟨p, dx, fs, rfl, h, l, q⟩
theorem r_make {C : Addr} {sp : Sp} {dvs : List V} {E : XK} (q : tr σ H fun vs H1 => ∀ x dx, H1 x = none → H1 dx = none → dx ≠ x → sp (.ref x :: (vs ++ dvs)) (upd (upd H1 dx (.own x)) x (.ins C dx [])) (fun v H2 => v = .non ∧ Q (.ref x) H2) E) : tMake C sp dvs E tr σ H Q := q
theorem r_callN {n m : Nat} {sp : Sp} {gV : List V → List V → List V} {E : XK} {tk : TA} (q : tr σ H fun vs H1 => tk σ H1 fun zs H2 => vs.length = n ∧ zs.length = m ∧ sp (gV vs zs) H2 Q E) : tCallN n m sp gV E tr tk σ H Q := q
theorem r_ixT {p : Addr} {xs : List V} {i : Int} (h : H p = some (.tup xs)) (a : atI xs i = some v) (q : Q v H) : rIxT K (.ref p) (.int i) H Q := ⟨p, xs, i, v, rfl, rfl, SqT.of h, a, q⟩
theorem r_ixL {p : Addr} {xs : List V} {i : Int} (h : H p = some (.lst xs)) (a : atI xs i = some v) (q : Q v H) : rIxL K (.ref p) (.int i) H Q := ⟨p, xs, i, v, rfl, rfl, SqL.of h, a, q⟩
theorem r_isi {vs : List V} (q : rIsi K vs H Q) : rIsi K vs H Q := q
theorem r_ite {A B : Prop} {k : Bool} (h1 : k = true → A) (h2 : k = false → B) : if k = true then A else B := by
  cases k with
  | true => exact h1 rfl
  | false => exact h2 rfl
theorem r_iteT {A B : Prop} {k : Bool} (h : k = true) (q : A) : if k = true then A else B := by
  rw [if_pos h]; exact q
theorem r_iteF {A B : Prop} {k : Bool} (h : k = false) (q : B) : if k = true then A else B := by
  subst h; exact iteF q
end
/-! ### // by any number but nought -/
def CDivA (_ j : Int) : Prop := j ≠ 0 ∧ j.natAbs.log2 < 9000
theorem op_fdivA {X : Cx} : OpR X (binaryOp .FloorDiv) (rI CDivA fun i j => .int (i.fdiv j)) := opI fun i j _ _ _ _ _ hc q => PyProof.Rows.floordiv_int hc.1 q (.inl (PyProof.noPylong_of_log2 hc.2))
theorem cdivA {i j : Int} {b : Nat} (h : j ≠ 0) (hb : j.natAbs < 2 ^ b) (h0 : 0 < b) (h9 : b ≤ 9000) : CDivA i j := ⟨h, Nat.lt_of_lt_of_le (PySem.Flt.log2_lt_of h0 hb) h9⟩
/-! ### heaps but for two places -/
def Off (d c : Addr) (H H' : Hp) : Prop := ∀ b o, b ≠ d → b ≠ c → H b = some o → H' b = some o
theorem Off.refl (d c : Addr) (H : Hp) : Off d c H H := fun _ _ _ _ h => h
theorem Off.trans {d c : Addr} {H H1 H2 : Hp} (a : Off d c H H1) (b : Off d c H1 H2) : Off d c H H2 := fun x o h1 h2 h => b x o h1 h2 (a x o h1 h2 h)
theorem Off.of {d c : Addr} {H H' : Hp} (a : Same H H') : Off d c H H' := fun x o _ _ h => a x o h
theorem Same.new {H : Hp} {p : Addr} {o : HO} (h : H p = none) : Same H (upd H p o) := fun b u e => by
  rw [upd_ne (ne_of_none e h)]
  exact e
/-! ### more heads -/
section
variable {σ : L2.St} {H : Hp} {Q : VK} {QA : List V → Hp → Prop} {QS : L2.St → Hp → Prop} {QO : Option Int → Hp → Prop} {v x y : V} {te ta to ti : TE} {tr : TA} {tl th : TO} {K : PySem.W.Frag} {nx : L2.St → Hp → Prop} {rt : VK} {bk ct : L2.St → Hp → Prop}
theorem r_gsub {t : TSet} (q : to σ H fun o H1 => ti σ H1 fun i H2 => t o i v H2 fun H3 => QS σ H3) : gSub to ti t v σ H QS := q
theorem r_setL {p : Addr} {xs : List V} {k : Int} {j : Nat} {R : Hp → Prop} (h : H p = some (.lst xs)) (e : ixN xs.length k = some j) (q : R (upd H p (.lst (xs.set j v)))) : rSetL (.ref p) (.int k) v H R := ⟨p, xs, k, j, rfl, rfl, h, e, q⟩
theorem r_sl {r : V → Option Int → Option Int → Hp → VK → Prop} (q : te σ H fun x H1 => tl σ H1 fun l H2 => th σ H2 fun u H3 => r x l u H3 Q) : tSl r te tl th σ H Q := q
theorem r_noPart (q : QO none H) : tNoPart σ H QO := q
theorem r_part (q : te σ H fun x H1 => ∃ i, x = .int i ∧ QO (some i) H1) : tPart te σ H QO := q
theorem r_ki {P : Int → Prop} {i : Int} (q : P i) : ∃ k, V.int i = .int k ∧ P k := ⟨i, rfl, q⟩
theorem r_bm0 {T : String} {r : V → List V → Hp → VK → Prop} (q : te σ H fun x H1 => tyV K T x H1 ∧ r x [] H1 Q) : tBM0 K T r te σ H Q := q
theorem r_bm {T : String} {r : V → List V → Hp → VK → Prop} (q : te σ H fun x H1 => tyV K T x H1 ∧ tr σ H1 fun xs H2 => r x xs H2 Q) : tBM K T r te tr σ H Q := q
theorem r_rev (q : te σ H fun x H1 => ∃ a xs, x = .ref a ∧ SqL K H1 a xs ∧ ∀ p, H1 p = none → Q (.ref p) (upd H1 p (.lst xs.reverse))) : tRevL K te σ H Q := q
theorem ty_list {p : Addr} {xs : List V} (h : H p = some (.lst xs)) : tyV K "list" (.ref p) H := .inl ⟨rfl, _, SqL.of h⟩
theorem r_pop {p : Addr} {xs : List V} {y : V} (h : H p = some (.lst (xs ++ [y]))) (q : Q y (upd H p (.lst xs))) : rPop (.ref p) [] H Q := by
  refine ⟨p, xs ++ [y], y, rfl, rfl, h, by simp, ?_⟩
  rw [List.dropLast_concat]
  exact q
theorem r_append {p : Addr} {xs : List V} (h : H p = some (.lst xs)) (l : xs.length ≤ 1000) (q : Q .non (upd H p (.lst (xs ++ [y])))) : rAppend (.ref p) [y] H Q := ⟨p, xs, y, rfl, rfl, h, Nat.lt_of_le_of_lt l (by decide), q⟩
end
theorem dp_ints {K : PySem.W.Frag} {H : Hp} : ∀ xs : List Int, DpAll K H (xs.map V.int) (xs.map PyData.int)
  | [] => .nil
  | x :: xs => .cons (.int x) (dp_ints xs)
theorem lay_ints : ∀ xs : List Int, PyData.canLayAll0 (xs.map PyData.int) = true ∧ PyData.depthAll (xs.map PyData.int) = 0
  | [] => ⟨rfl, rfl⟩
  | x :: xs => by
    obtain ⟨a, b⟩ := lay_ints xs
    constructor
    · show (PyData.canLay0 (.int x) && PyData.canLayAll0 (xs.map PyData.int)) = true
      rw [a]; rfl
    · show max (PyData.depth (.int x)) (PyData.depthAll (xs.map PyData.int)) = 0
      rw [b]; rfl
theorem shaped_ints (xs : List Int) : SeqAt.shaped (.list (xs.map PyData.int)) = true := by
  obtain ⟨a, b⟩ := lay_ints xs
  have a' : PyData.canLay0 (.list (xs.map PyData.int)) = true := by rw [PyData.canLay0]; exact a
  have b' : PyData.depth (.list (xs.map PyData.int)) = 1 := by rw [PyData.depth, b]
  unfold SeqAt.shaped
  rw [a', b']; rfl
theorem eqv_ints : ∀ xs ys : List Int, PyData.eqvAll (xs.map PyData.int) (ys.map PyData.int) = decide (xs = ys)
  | [], [] => rfl
  | [], _ :: _ => by simp [PyData.eqvAll]
  | _ :: _, [] => by simp [PyData.eqvAll]
  | x :: xs, y :: ys => by
    show (PyData.eqv (.int x) (.int y) && PyData.eqvAll (xs.map PyData.int) (ys.map PyData.int)) = _
    rw [eqv_ints xs ys]
    show ((x == y) && decide (xs = ys)) = _
    rw [Bool.eq_iff_iff]; simp
theorem r_neInts {K : PySem.W.Frag} {H : Hp} {Q : VK} {p q : Addr} {xs ys : List Int} (h : SqL K H p (xs.map V.int)) (h' : SqL K H q (ys.map V.int)) (k : Q (.bl (!decide (xs = ys))) H) : rNeD K (.ref p) (.ref q) H Q :=
  ⟨.list (xs.map PyData.int), .list (ys.map PyData.int), .lst h (dp_ints xs), .lst h' (dp_ints ys), shaped_ints xs, shaped_ints ys, by
    rw [PyData.eqv, eqv_ints]; exact k⟩
theorem cut_ints (ns : List Int) (k : Int) : ∃ ms : List Int, cutV (ns.map V.int) none (some k) = ms.map V.int ∧ ms.length ≤ ns.length := by
  unfold cutV
  rw [← List.map_drop, ← List.map_take]
  exact ⟨_, rfl, by rw [List.length_take, List.length_drop]; omega⟩
end My
namespace My
open PySem L2
theorem r_forT {σ : L2.St} {H : Hp} {K : PySem.W.Frag} {tl : TE} {g : TG} {tb : TS} {D : Ends} (q : tl σ H fun x H1 => ∃ a, x = .ref a ∧ (∃ xs, SqT K H1 a xs) ∧ ∃ W : Nat → Nat → L2.St → Hp → Prop, (∃ m, W 0 m σ H1) ∧ ∀ i m σ H, W i m σ H →
    ((Itt K a).stop i H ∧ D.nx σ H) ∨ ((Itt K a).go i H ∧ ∃ N : L2.St → Hp → Prop, (∀ σ' H', N σ' H' → ∃ m', m' < m ∧ W (i + 1) m' σ' H') ∧ ∀ x H', (Itt K a).yld i H x H' → g x σ H' fun σ2 H2 => tb { D with nx := N, ct := N, bk := D.nx } σ2 H2)) : tFor (iTup K tl) g tb D σ H := q
end My

local macro_rules | `(tactic| walk_at "rd1") => `(tactic| first
  | with_reducible refine My.r_seq ?_
  | with_reducible refine My.r_asg ?_
  | with_reducible refine My.r_name ?_
  | with_reducible refine My.r_cons ?_
  | with_reducible refine My.r_nil ?_
  | with_reducible refine My.r_op ?_
  | ((with_reducible refine My.r_var ?_); refine ⟨_, rfl, ?_⟩)
  | with_reducible refine My.r_c ?_
  | with_reducible refine My.r_I0 ?_
  | with_reducible refine My.r_eqI ?_
  | with_reducible refine My.r_neI ?_
  | with_reducible refine My.r_eqS ?_
  | with_reducible refine My.r_eqB ?_
  | with_reducible refine My.r_test ?_
  | with_reducible refine My.r_B ?_
  | with_reducible refine My.r_k ?_
  | with_reducible refine My.r_un ?_
  | with_reducible refine My.r_U ?_
  | with_reducible refine My.r_ifs ?_
  | with_reducible refine My.r_ret ?_
  | with_reducible refine My.r_next ?_
  | with_reducible refine My.r_drop ?_
  | with_reducible refine My.r_CB ?_
  | with_reducible refine My.r_call ?_
  | with_reducible refine My.r_callN ?_
  | with_reducible refine My.r_meth ?_
  | with_reducible refine My.r_make ?_
  | with_reducible refine My.r_tup ?_
  | with_reducible refine My.r_lst ?_
  | with_reducible refine My.r_fldT ?_
  | with_reducible refine My.r_sFld ?_
  | with_reducible refine My.r_and ?_
  | with_reducible refine My.r_or ?_
  | with_reducible refine My.r_not ?_
  | with_reducible refine My.r_andV ?_
  | with_reducible refine My.r_orV ?_
  | with_reducible refine My.r_notV ?_
  | with_reducible refine My.r_if ?_
  | with_reducible refine My.r_gsub ?_
  | with_reducible refine My.r_sl ?_
  | with_reducible refine My.r_noPart ?_
  | with_reducible refine My.r_part ?_
  | with_reducible refine My.r_ki ?_
  | with_reducible refine My.r_bm0 ?_
  | with_reducible refine My.r_bm ?_
  | with_reducible refine My.r_rev ?_
  | ((with_reducible refine My.r_I ?_ ?_); (first | decide | exact .inl ⟨by decide, by decide⟩ | exact .inr ⟨by decide, by decide⟩ | exact ⟨by decide, by decide⟩ | exact ⟨by decide, by decide, by decide⟩)))
local macro_rules | `(tactic| walk_at "rd") => `(tactic| (repeat walk_at "rd1"))


namespace My
/-! ### rounded twice -/
def isHalf : Way → Bool
  | .heven | .hodd | .hup | .hdown => true
  | _ => false
/-- at the middle beyond l: whether up -/
def tieUp : Way → Int → Bool
  | .hup, l => decide (0 ≤ l)
  | .hdown, l => decide (l < 0)
  | .heven, l => decide (l % 2 = 1)
  | .hodd, l => decide (l % 2 = 0)
  | _, _ => false
theorem nearerB_lo {p : Rat} {a : Bool} (h : p < 1 / 2) : nearerB p a = false := by
  have d := p.den_pos
  have e : p.num * 2 < 1 * (p.den : Int) := by
    have := (Rat.lt_iff p (1 / 2)).mp h
    have h1 : ((1 : Rat) / 2).num = 1 := by decide +kernel
    have h2 : ((1 : Rat) / 2).den = 2 := by decide +kernel
    rw [h1, h2] at this
    exact this
  unfold nearerB
  rw [if_neg (by omega)]
  exact decide_eq_false (by omega)
theorem nearerB_hi {p : Rat} {a : Bool} (h : 1 / 2 < p) : nearerB p a = true := by
  have d := p.den_pos
  have e : 1 * (p.den : Int) < p.num * 2 := by
    have := (Rat.lt_iff (1 / 2) p).mp h
    have h1 : ((1 : Rat) / 2).num = 1 := by decide +kernel
    have h2 : ((1 : Rat) / 2).den = 2 := by decide +kernel
    rw [h1, h2] at this
    exact this
  unfold nearerB
  rw [if_neg (by omega)]
  exact decide_eq_true (by omega)
theorem nearerB_mid (a : Bool) : nearerB (1 / 2) a = a := by cases a <;> decide +kernel
theorem ruleB_lo {r : Way} (h : isHalf r = true) (l : Int) {p : Rat} (hp : p < 1 / 2) : ruleB r l p = false := by
  cases r <;> first | exact absurd h (by decide) | exact nearerB_lo hp
theorem ruleB_hi {r : Way} (h : isHalf r = true) (l : Int) {p : Rat} (hp : 1 / 2 < p) : ruleB r l p = true := by
  cases r <;> first | exact absurd h (by decide) | exact nearerB_hi hp
theorem ruleB_mid {r : Way} (h : isHalf r = true) (l : Int) : ruleB r l (1 / 2) = tieUp r l := by
  cases r <;> first | exact absurd h (by decide) | exact nearerB_mid _
theorem taken_int (r : Way) (c : Int) : takenQ r (c : Rat) = c := by
  have e : partQ (c : Rat) = 0 := by unfold partQ; rw [Rat.floor_intCast]; grind
  unfold takenQ
  rw [e, Rat.floor_intCast]
  rfl
/-- nearer than a half -/
theorem taken_near {r : Way} (h : isHalf r = true) {n : Rat} {t : Int} (h1 : (t : Rat) - 1 / 2 < n) (h2 : n < (t : Rat) + 1 / 2) : takenQ r n = t := by
  by_cases h0 : n = (t : Rat)
  · rw [h0]
    exact taken_int r t
  · by_cases hp : (t : Rat) < n
    · have e : n = (t : Rat) + (n - t) := by grind
      rw [e, taken_add (by grind) (by grind), ruleB_lo h t (by grind)]
      rfl
    · have e : n = ((t - 1 : Int) : Rat) + (n - t + 1) := by rw [Rat.intCast_sub]; grind
      rw [e, taken_add (by grind) (by grind), ruleB_hi h (t - 1) (by grind)]
      show t - 1 + 1 = t
      omega
theorem taken_mid {r : Way} (h : isHalf r = true) (l : Int) : takenQ r ((l : Rat) + 1 / 2) = if tieUp r l = true then l + 1 else l := by
  rw [taken_add (by decide +kernel) (by decide +kernel), ruleB_mid h l]
/-- every number is near one, or in the middle -/
theorem near_or_mid (n : Rat) : (∃ t : Int, (t : Rat) - 1 / 2 < n ∧ n < (t : Rat) + 1 / 2) ∨ ∃ l : Int, n = (l : Rat) + 1 / 2 := by
  have a := Rat.floor_le n
  have b := Rat.lt_floor_add_one n
  rw [Rat.intCast_add] at b
  by_cases h : n = (n.floor : Rat) + 1 / 2
  · exact .inr ⟨_, h⟩
  · by_cases h2 : n < (n.floor : Rat) + 1 / 2
    · exact .inl ⟨n.floor, by grind, h2⟩
    · exact .inl ⟨n.floor + 1, by rw [Rat.intCast_add]; grind, by rw [Rat.intCast_add]; grind⟩
def twiceT (r : Way) (m : Int) (u : Rat) : Int := takenQ r ((takenQ r u : Rat) / (m : Rat))
def onceT (r : Way) (m : Int) (u : Rat) : Int := takenQ r (u / (m : Rat))
theorem div_near {r : Way} (h : isHalf r = true) {m : Int} (hm : 0 < m) {s : Int} {n : Rat} (h1 : (s : Rat) * m - (m : Rat) / 2 < n) (h2 : n < (s : Rat) * m + (m : Rat) / 2) : takenQ r (n / (m : Rat)) = s := by
  have hm' : (0 : Rat) < (m : Rat) := Rat.intCast_pos.mpr hm
  refine taken_near h ?_ ?_
  · exact (Rat.lt_div_iff hm').mpr (by grind)
  · exact (Rat.div_lt_iff hm').mpr (by grind)
theorem div_mid {r : Way} (h : isHalf r = true) {m : Int} (hm : 0 < m) {s : Int} {n : Rat} (h1 : n = (s : Rat) * m + (m : Rat) / 2) : takenQ r (n / (m : Rat)) = if tieUp r s = true then s + 1 else s := by
  have hm' : (m : Rat) ≠ 0 := by have : (0 : Rat) < (m : Rat) := Rat.intCast_pos.mpr hm; grind
  rw [← taken_mid h s, h1]
  congr 1
  grind
theorem split_odd (j h : Int) (h0 : 0 ≤ h) : ∃ s e : Int, j = s * (2 * h + 1) + e ∧ -h ≤ e ∧ e ≤ h := by
  refine ⟨(j + h) / (2 * h + 1), (j + h) % (2 * h + 1) - h, ?_, ?_, ?_⟩
  · have := Int.mul_ediv_add_emod (j + h) (2 * h + 1)
    rw [Int.mul_comm] at this
    omega
  · have := Int.emod_nonneg (j + h) (b := 2 * h + 1) (by omega)
    omega
  · have := Int.emod_lt_of_pos (j + h) (b := 2 * h + 1) (by omega)
    omega
/-- by an odd number of steps -/
theorem never_odd {r : Way} (hr : isHalf r = true) {h : Int} (h0 : 0 ≤ h) (tie : ∀ s : Int, tieUp r (s * (2 * h + 1) + h) = tieUp r s) (u : Rat) : twiceT r (2 * h + 1) u = onceT r (2 * h + 1) u := by
  have hm : 0 < 2 * h + 1 := by omega
  have c : (((2 * h + 1 : Int)) : Rat) = 2 * (h : Rat) + 1 := by rw [Rat.intCast_add, Rat.intCast_mul]; rfl
  have hq : (0 : Rat) ≤ (h : Rat) := Rat.intCast_nonneg.mpr h0
  unfold twiceT onceT
  rcases near_or_mid u with ⟨j, h1, h2⟩ | ⟨l, hl⟩
  · obtain ⟨s, e, ej, e1, e2⟩ := split_odd j h h0
    have q1 : -(h : Rat) ≤ (e : Rat) := by have := Rat.intCast_le_intCast.mpr e1; rw [Rat.intCast_neg] at this; exact this
    have q2 : (e : Rat) ≤ (h : Rat) := Rat.intCast_le_intCast.mpr e2
    have ejq : (j : Rat) = (s : Rat) * (2 * (h : Rat) + 1) + (e : Rat) := by rw [ej, Rat.intCast_add, Rat.intCast_mul, c]
    rw [taken_near hr h1 h2, div_near hr hm (s := s) (by rw [c]; grind) (by rw [c]; grind), div_near hr hm (s := s) (by rw [c]; grind) (by rw [c]; grind)]
  · obtain ⟨s, e, ej, e1, e2⟩ := split_odd l h h0
    have q1 : -(h : Rat) ≤ (e : Rat) := by have := Rat.intCast_le_intCast.mpr e1; rw [Rat.intCast_neg] at this; exact this
    have ejq : (l : Rat) = (s : Rat) * (2 * (h : Rat) + 1) + (e : Rat) := by rw [ej, Rat.intCast_add, Rat.intCast_mul, c]
    subst hl
    rw [taken_mid hr l]
    by_cases he : e = h
    · subst he
      rw [ej, tie s]
      rw [div_mid hr hm (s := s) (n := ((s * (2 * e + 1) + e : Int) : Rat) + 1 / 2) (by rw [← ej, ejq, c]; grind)]
      cases tieUp r s with
      | true =>
        rw [if_pos rfl, if_pos rfl]
        exact div_near hr hm (by simp only [Rat.intCast_add, Rat.intCast_mul, Rat.intCast_sub, Rat.intCast_ofNat, Rat.intCast_one]; grind) (by simp only [Rat.intCast_add, Rat.intCast_mul, Rat.intCast_sub, Rat.intCast_ofNat, Rat.intCast_one]; grind)
      | false =>
        rw [if_neg Bool.false_ne_true, if_neg Bool.false_ne_true]
        exact div_near hr hm (by simp only [Rat.intCast_add, Rat.intCast_mul, Rat.intCast_sub, Rat.intCast_ofNat, Rat.intCast_one]; grind) (by simp only [Rat.intCast_add, Rat.intCast_mul, Rat.intCast_sub, Rat.intCast_ofNat, Rat.intCast_one]; grind)
    · have q2 : (e : Rat) + 1 ≤ (h : Rat) := by
        have := Rat.intCast_le_intCast.mpr (show e + 1 ≤ h by omega)
        rw [Rat.intCast_add] at this
        exact this
      rw [div_near hr hm (s := s) (n := (l : Rat) + 1 / 2) (by rw [c]; grind) (by rw [c]; grind)]
      split
      · exact div_near hr hm (by simp only [Rat.intCast_add, Rat.intCast_mul, Rat.intCast_sub, Rat.intCast_ofNat, Rat.intCast_one]; grind) (by simp only [Rat.intCast_add, Rat.intCast_mul, Rat.intCast_sub, Rat.intCast_ofNat, Rat.intCast_one]; grind)
      · exact div_near hr hm (by rw [c]; grind) (by rw [c]; grind)
/-! ### the ways that look at no halves -/
theorem low_eq (n : Rat) : takenQ .low n = n.floor := by
  unfold takenQ
  split <;> rfl
theorem part_zero {n : Rat} : (partQ n).num = 0 ↔ n = (n.floor : Rat) := by
  rw [Rat.num_eq_zero]
  unfold partQ
  constructor <;> intro h <;> grind
/-- the greater neighbour is told by inequalities -/
theorem high_of {n : Rat} {t : Int} (h1 : (t : Rat) - 1 < n) (h2 : n ≤ (t : Rat)) : takenQ .high n = t := by
  have a := Rat.floor_le n
  have b := Rat.lt_floor_add_one n
  rw [Rat.intCast_add] at b
  unfold takenQ
  by_cases h : n = (n.floor : Rat)
  · rw [if_pos (part_zero.mpr h)]
    have x1 : n.floor < t + 1 := Rat.intCast_lt_intCast.mp (by rw [Rat.intCast_add]; grind)
    have x2 : t - 1 < n.floor := Rat.intCast_lt_intCast.mp (by rw [Rat.intCast_sub]; grind)
    omega
  · rw [if_neg (fun z => h (part_zero.mp z)), if_pos (show ruleB .high n.floor (partQ n) = true from rfl)]
    have x1 : n.floor < t := Rat.intCast_lt_intCast.mp (by grind)
    have x2 : t - 1 < n.floor + 1 := Rat.intCast_lt_intCast.mp (by rw [Rat.intCast_sub, Rat.intCast_add]; grind)
    omega
theorem high_is (n : Rat) : (takenQ .high n : Rat) - 1 < n ∧ n ≤ (takenQ .high n : Rat) := by
  have a := Rat.floor_le n
  have b := Rat.lt_floor_add_one n
  rw [Rat.intCast_add] at b
  unfold takenQ
  by_cases h : n = (n.floor : Rat)
  · rw [if_pos (part_zero.mpr h)]
    grind
  · rw [if_neg (fun z => h (part_zero.mp z)), if_pos (show ruleB .high n.floor (partQ n) = true from rfl), Rat.intCast_add]
    grind
theorem low_of {n : Rat} {t : Int} (h1 : (t : Rat) ≤ n) (h2 : n < (t : Rat) + 1) : takenQ .low n = t := by
  rw [low_eq]
  have x1 : t ≤ n.floor := Rat.le_floor_iff.mpr h1
  have x2 : n.floor < t + 1 := Rat.floor_lt_iff.mpr (by rw [Rat.intCast_add]; exact h2)
  omega
theorem up_eq (n : Rat) : takenQ .up n = if 0 ≤ n.floor then takenQ .high n else takenQ .low n := by
  unfold takenQ
  by_cases h : (partQ n).num = 0
  · rw [if_pos h, if_pos h, if_pos h]; split <;> rfl
  · rw [if_neg h, if_neg h, if_neg h]
    show (if decide (0 ≤ n.floor) = true then _ else _) = _
    by_cases z : 0 ≤ n.floor
    · rw [if_pos (decide_eq_true z), if_pos z]; rfl
    · rw [if_neg (by simpa using z), if_neg z]; rfl
theorem down_eq (n : Rat) : takenQ .down n = if n.floor < 0 then takenQ .high n else takenQ .low n := by
  unfold takenQ
  by_cases h : (partQ n).num = 0
  · rw [if_pos h, if_pos h, if_pos h]; split <;> rfl
  · rw [if_neg h, if_neg h, if_neg h]
    show (if decide (n.floor < 0) = true then _ else _) = _
    by_cases z : n.floor < 0
    · rw [if_pos (decide_eq_true z), if_pos z]; rfl
    · rw [if_neg (by simpa using z), if_neg z]; rfl
theorem low_is (n : Rat) : (takenQ .low n : Rat) ≤ n ∧ n < (takenQ .low n : Rat) + 1 := by
  rw [low_eq]
  have b := Rat.lt_floor_add_one n
  rw [Rat.intCast_add] at b
  exact ⟨Rat.floor_le n, b⟩
/-- of a whole number of steps: by wholes alone -/
theorem low_div {m : Int} (hm : 0 < m) (u : Rat) : takenQ .low ((takenQ .low u : Rat) / (m : Rat)) = takenQ .low (u / (m : Rat)) := by
  have hm' : (0 : Rat) < (m : Rat) := Rat.intCast_pos.mpr hm
  obtain ⟨a, b⟩ := low_is (u / (m : Rat))
  obtain ⟨c, d⟩ := low_is u
  generalize takenQ .low (u / (m : Rat)) = t at *
  generalize takenQ .low u = j at *
  have e : u / (m : Rat) * m = u := by grind
  have a' : (t : Rat) * m ≤ u := by rw [← e]; exact Rat.mul_le_mul_of_nonneg_right a (Rat.le_of_lt hm')
  have b' : u < ((t : Rat) + 1) * m := by rw [← e]; exact Rat.mul_lt_mul_of_pos_right b hm'
  have x1 : t * m < j + 1 := Rat.intCast_lt_intCast.mp (by rw [Rat.intCast_add, Rat.intCast_mul]; grind)
  have x2 : j < (t + 1) * m := Rat.intCast_lt_intCast.mp (by rw [Rat.intCast_mul, Rat.intCast_add]; grind)
  have y1 : (t : Rat) * m ≤ (j : Rat) := by rw [← Rat.intCast_mul]; exact Rat.intCast_le_intCast.mpr (by omega)
  have y2 : (j : Rat) < ((t : Rat) + 1) * m := by have := Rat.intCast_lt_intCast.mpr x2; rw [Rat.intCast_mul, Rat.intCast_add] at this; exact this
  refine low_of ?_ ((Rat.div_lt_iff hm').mpr y2)
  have := (Rat.not_lt (a := (j : Rat) / m) (b := (t : Rat))).mp (fun z => by
    have := (Rat.div_lt_iff hm').mp z
    grind)
  exact this
theorem high_div {m : Int} (hm : 0 < m) (u : Rat) : takenQ .high ((takenQ .high u : Rat) / (m : Rat)) = takenQ .high (u / (m : Rat)) := by
  have hm' : (0 : Rat) < (m : Rat) := Rat.intCast_pos.mpr hm
  obtain ⟨a, b⟩ := high_is (u / (m : Rat))
  obtain ⟨c, d⟩ := high_is u
  generalize takenQ .high (u / (m : Rat)) = t at *
  generalize takenQ .high u = j at *
  have e : u / (m : Rat) * m = u := by grind
  have a' : ((t : Rat) - 1) * m < u := by rw [← e]; exact Rat.mul_lt_mul_of_pos_right a hm'
  have b' : u ≤ (t : Rat) * m := by rw [← e]; exact Rat.mul_le_mul_of_nonneg_right b (Rat.le_of_lt hm')
  have x1 : (t - 1) * m < j := Rat.intCast_lt_intCast.mp (by rw [Rat.intCast_mul, Rat.intCast_sub]; grind)
  have x2 : j - 1 < t * m := Rat.intCast_lt_intCast.mp (by rw [Rat.intCast_sub, Rat.intCast_mul]; grind)
  have y1 : ((t : Rat) - 1) * m < (j : Rat) := by have := Rat.intCast_lt_intCast.mpr x1; rw [Rat.intCast_mul, Rat.intCast_sub] at this; exact this
  have y2 : (j : Rat) ≤ (t : Rat) * m := by rw [← Rat.intCast_mul]; exact Rat.intCast_le_intCast.mpr (by omega)
  refine high_of ((Rat.lt_div_iff hm').mpr y1) ?_
  exact (Rat.not_lt (a := (t : Rat)) (b := (j : Rat) / m)).mp (fun z => by
    have := (Rat.lt_div_iff hm').mp z
    grind)
theorem floor_nn {n : Rat} : 0 ≤ n.floor ↔ 0 ≤ n := by
  rw [Rat.le_floor_iff]; rfl
theorem div_nn {m : Int} (hm : 0 < m) {n : Rat} : 0 ≤ n / (m : Rat) ↔ 0 ≤ n := by
  have hm' : (0 : Rat) < (m : Rat) := Rat.intCast_pos.mpr hm
  constructor
  · intro h
    have e : n / (m : Rat) * m = n := by grind
    rw [← e]
    exact Rat.mul_nonneg h (Rat.le_of_lt hm')
  · intro h
    exact (Rat.not_lt).mp (fun z => by
      have := (Rat.div_lt_iff hm').mp z
      grind)
theorem never_whole {r : Way} (hr : isHalf r = false) {m : Int} (hm : 0 < m) (u : Rat) : twiceT r m u = onceT r m u := by
  unfold twiceT onceT
  cases r with
  | hup => cases hr
  | hdown => cases hr
  | heven => cases hr
  | hodd => cases hr
  | low => exact low_div hm u
  | high => exact high_div hm u
  | up =>
    obtain ⟨c, d⟩ := high_is u
    obtain ⟨c2, d2⟩ := low_is u
    by_cases h : 0 ≤ u
    · have hj : (0 : Rat) ≤ (takenQ .high u : Rat) := Rat.le_trans h d
      rw [up_eq u, if_pos (floor_nn.mpr h), up_eq, if_pos (floor_nn.mpr ((div_nn hm).mpr hj)), up_eq, if_pos (floor_nn.mpr ((div_nn hm).mpr h)), high_div hm]
    · have hj : ¬ (0 : Rat) ≤ (takenQ .low u : Rat) := fun z => h (Rat.le_trans z c2)
      rw [up_eq u, if_neg (fun z => h (floor_nn.mp z)), up_eq, if_neg (fun z => hj ((div_nn hm).mp (floor_nn.mp z))), up_eq, if_neg (fun z => h ((div_nn hm).mp (floor_nn.mp z))), low_div hm]
  | down =>
    obtain ⟨c, d⟩ := high_is u
    obtain ⟨c2, d2⟩ := low_is u
    have neg : ∀ n : Rat, n.floor < 0 ↔ ¬ 0 ≤ n := fun n => by
      rw [← floor_nn]
      omega
    by_cases h : 0 ≤ u
    · have j0 : 0 ≤ takenQ .low u := by rw [low_eq]; exact floor_nn.mpr h
      have hj : (0 : Rat) ≤ (takenQ .low u : Rat) := Rat.intCast_nonneg.mpr j0
      rw [down_eq u, if_neg (fun z => (neg u).mp z h), down_eq, if_neg (fun z => (neg _).mp z ((div_nn hm).mpr hj)), down_eq, if_neg (fun z => (neg _).mp z ((div_nn hm).mpr h)), low_div hm]
    · rw [down_eq u, if_pos ((neg u).mpr h), down_eq (u / (m : Rat)), if_pos ((neg _).mpr fun z => h ((div_nn hm).mp z)), ← high_div hm u]
      by_cases hj : 0 ≤ (takenQ .high u : Rat)
      · have e0 : takenQ .high u = 0 := by
          have x1 : 0 ≤ takenQ .high u := Rat.intCast_nonneg.mp hj
          have x2 : takenQ .high u - 1 < 0 := Rat.intCast_neg_iff.mp (by rw [Rat.intCast_sub]; grind)
          omega
        rw [e0]
        have e1 : ((0 : Int) : Rat) / (m : Rat) = ((0 : Int) : Rat) := by grind
        rw [e1, taken_int, taken_int]
      · rw [down_eq, if_pos ((neg _).mpr fun z => hj ((div_nn hm).mp z))]
/-! ### the three numbers that are tried -/
def partsW (r : Way) (m : Int) : Bool := isHalf r && (decide (m % 2 = 0) || ((match r with | .heven => true | .hodd => true | _ => false) && decide (m % 4 = 3)))
def candU (m : Int) : List Rat := [(m : Rat) / 2 - 1 / 4, (m : Rat) / 2, (m : Rat) / 2 + 1 / 4]
theorem never_of {r : Way} {m : Int} (hm : 2 ≤ m) (h : partsW r m = false) (u : Rat) : twiceT r m u = onceT r m u := by
  cases hr : isHalf r with
  | false => exact never_whole hr (by omega) u
  | true =>
    have hodd : m % 2 = 1 := by
      by_cases z : m % 2 = 0
      · unfold partsW at h
        rw [hr, decide_eq_true z] at h
        cases h
      · omega
    obtain ⟨k, rfl⟩ : ∃ k, m = 2 * k + 1 := ⟨m / 2, by omega⟩
    refine never_odd hr (by omega) (fun s => ?_) u
    have key : s * (2 * k + 1) + k = 2 * (s * k) + s + k := by grind
    cases r with
    | up => cases hr
    | down => cases hr
    | high => cases hr
    | low => cases hr
    | hup =>
      show decide (0 ≤ s * (2 * k + 1) + k) = decide (0 ≤ s)
      rw [decide_eq_decide]
      constructor
      · intro z
        by_cases q : 0 ≤ s
        · exact q
        · have : s * (2 * k + 1) ≤ -1 * (2 * k + 1) := Int.mul_le_mul_of_nonneg_right (by omega) (by omega)
          omega
      · intro z
        have := Int.mul_nonneg z (show 0 ≤ 2 * k + 1 by omega)
        omega
    | hdown =>
      show decide (s * (2 * k + 1) + k < 0) = decide (s < 0)
      rw [decide_eq_decide]
      constructor
      · intro z
        by_cases q : s < 0
        · exact q
        · have := Int.mul_nonneg (show 0 ≤ s by omega) (show 0 ≤ 2 * k + 1 by omega)
          omega
      · intro z
        have : s * (2 * k + 1) ≤ -1 * (2 * k + 1) := Int.mul_le_mul_of_nonneg_right (by omega) (by omega)
        omega
    | heven =>
      have h4 : ¬ (2 * k + 1) % 4 = 3 := fun z => by
        unfold partsW at h
        rw [decide_eq_true z, Bool.and_true, Bool.or_true] at h
        cases h
      show decide ((s * (2 * k + 1) + k) % 2 = 1) = decide (s % 2 = 1)
      rw [decide_eq_decide, key]
      omega
    | hodd =>
      have h4 : ¬ (2 * k + 1) % 4 = 3 := fun z => by
        unfold partsW at h
        rw [decide_eq_true z, Bool.and_true, Bool.or_true] at h
        cases h
      show decide ((s * (2 * k + 1) + k) % 2 = 0) = decide (s % 2 = 0)
      rw [decide_eq_decide, key]
      omega
theorem some_of {r : Way} {m : Int} (hm : 2 ≤ m) (h : partsW r m = true) : ∃ u ∈ candU m, twiceT r m u ≠ onceT r m u := by
  have hr : isHalf r = true := by
    unfold partsW at h
    exact (Bool.and_eq_true_iff.mp h).1
  have hmq : (2 : Rat) ≤ (m : Rat) := by have := Rat.intCast_le_intCast.mpr hm; exact this
  unfold twiceT onceT
  by_cases z : m % 2 = 0
  · obtain ⟨k, rfl⟩ : ∃ k, m = 2 * k := ⟨m / 2, by omega⟩
    have c : (((2 * k : Int)) : Rat) = 2 * (k : Rat) := by rw [Rat.intCast_mul]; rfl
    have hk : (1 : Rat) ≤ (k : Rat) := by have := Rat.intCast_le_intCast.mpr (show 1 ≤ k by omega); exact this
    have c0 : ((0 : Int) : Rat) = 0 := rfl
    have c1 : ((1 : Int) : Rat) = 1 := rfl
    have e1 : takenQ r ((((2 * k : Int)) : Rat) / 2 - 1 / 4) = k := taken_near hr (by rw [c]; grind) (by rw [c]; grind)
    have e3 : takenQ r ((((2 * k : Int)) : Rat) / 2 + 1 / 4) = k := taken_near hr (by rw [c]; grind) (by rw [c]; grind)
    have ek : takenQ r ((k : Rat) / ((2 * k : Int) : Rat)) = if tieUp r 0 = true then 0 + 1 else 0 := div_mid hr (by omega) (by rw [c, c0]; grind)
    cases t : tieUp r 0 with
    | true =>
      refine ⟨_, List.mem_cons_self, ?_⟩
      rw [e1, ek, t, if_pos rfl, div_near hr (by omega) (s := 0) (by rw [c, c0]; grind) (by rw [c, c0]; grind)]
      decide
    | false =>
      refine ⟨_, List.mem_cons_of_mem _ (List.mem_cons_of_mem _ List.mem_cons_self), ?_⟩
      rw [e3, ek, t, if_neg Bool.false_ne_true, div_near hr (by omega) (s := 1) (by rw [c, c1]; grind) (by rw [c, c1]; grind)]
      decide
  · obtain ⟨k, rfl⟩ : ∃ k, m = 2 * k + 1 := ⟨m / 2, by omega⟩
    have c : (((2 * k + 1 : Int)) : Rat) = 2 * (k : Rat) + 1 := by rw [Rat.intCast_add, Rat.intCast_mul]; rfl
    have hk : (1 : Rat) ≤ (k : Rat) := by have := Rat.intCast_le_intCast.mpr (show 1 ≤ k by omega); exact this
    have c0 : ((0 : Int) : Rat) = 0 := rfl
    have c1 : ((1 : Int) : Rat) = 1 := rfl
    have e2 : takenQ r ((((2 * k + 1 : Int)) : Rat) / 2) = if tieUp r k = true then k + 1 else k := by
      rw [← taken_mid hr k]
      congr 1
      rw [c]; grind
    have o2 : takenQ r ((((2 * k + 1 : Int)) : Rat) / 2 / ((2 * k + 1 : Int) : Rat)) = if tieUp r 0 = true then 0 + 1 else 0 := div_mid hr (by omega) (by rw [c0]; grind)
    have h4 : (2 * k + 1) % 4 = 3 ∧ (r = .heven ∨ r = .hodd) := by
      unfold partsW at h
      rw [hr, decide_eq_false z] at h
      cases r <;> simp_all
    refine ⟨_, List.mem_cons_of_mem _ List.mem_cons_self, ?_⟩
    have up1 : takenQ r (((k + 1 : Int) : Rat) / ((2 * k + 1 : Int) : Rat)) = 1 := div_near hr (by omega) (by simp only [Rat.intCast_add, Rat.intCast_mul, Rat.intCast_sub, Rat.intCast_ofNat, Rat.intCast_one]; grind) (by simp only [Rat.intCast_add, Rat.intCast_mul, Rat.intCast_sub, Rat.intCast_ofNat, Rat.intCast_one]; grind)
    have lo1 : takenQ r ((k : Rat) / ((2 * k + 1 : Int) : Rat)) = 0 := div_near hr (by omega) (by rw [c, c0]; grind) (by rw [c, c0]; grind)
    rw [e2, o2]
    obtain ⟨h4, rfl | rfl⟩ := h4
    · have t1 : tieUp .heven k = true := decide_eq_true (by omega)
      rw [t1, if_pos rfl, up1]
      decide
    · have t1 : tieUp .hodd k = false := decide_eq_false (by omega)
      rw [t1, if_neg Bool.false_ne_true, lo1]
      decide
end My

namespace My
/-! ### farther by whole numbers; sizes -/
theorem taken_within (r : Way) (u : Rat) : (takenQ r u : Rat) < u + 1 ∧ u - 1 < (takenQ r u : Rat) := by
  have a := Rat.floor_le u
  have b := Rat.lt_floor_add_one u
  rw [Rat.intCast_add] at b
  unfold takenQ
  by_cases h : u = (u.floor : Rat)
  · rw [if_pos (part_zero.mpr h)]
    grind
  · rw [if_neg (fun z => h (part_zero.mp z))]
    split
    · rw [Rat.intCast_add]; grind
    · grind
theorem floor_shift (u : Rat) (j : Int) : (u + (j : Rat)).floor = u.floor + j := by
  have a := Rat.floor_le u
  have b := Rat.lt_floor_add_one u
  rw [Rat.intCast_add] at b
  have x : u.floor + j ≤ (u + (j : Rat)).floor := Rat.le_floor_iff.mpr (by rw [Rat.intCast_add]; grind)
  have y : (u + (j : Rat)).floor < u.floor + j + 1 := Rat.floor_lt_iff.mpr (by rw [Rat.intCast_add, Rat.intCast_add]; grind)
  omega
theorem part_shift (u : Rat) (j : Int) : partQ (u + (j : Rat)) = partQ u := by
  unfold partQ
  rw [floor_shift, Rat.intCast_add]
  grind
theorem rule_shift (r : Way) {l j : Int} (p : Rat) (hl : 0 ≤ l) (hj : 0 ≤ j) (h2 : j % 2 = 0) : ruleB r (l + j) p = ruleB r l p := by
  have e1 : decide (0 ≤ l + j) = decide (0 ≤ l) := by rw [decide_eq_decide]; omega
  have e2 : decide (l + j < 0) = decide (l < 0) := by rw [decide_eq_decide]; omega
  have e3 : decide ((l + j) % 2 = 1) = decide (l % 2 = 1) := by rw [decide_eq_decide]; omega
  have e4 : decide ((l + j) % 2 = 0) = decide (l % 2 = 0) := by rw [decide_eq_decide]; omega
  cases r <;> simp only [ruleB, e1, e2, e3, e4]
theorem taken_shift (r : Way) {u : Rat} {j : Int} (hu : 0 ≤ u) (hj : 0 ≤ j) (h2 : j % 2 = 0) : takenQ r (u + (j : Rat)) = takenQ r u + j := by
  unfold takenQ
  rw [part_shift, floor_shift, rule_shift r _ (floor_nn.mpr hu) hj h2]
  split
  · rfl
  · split <;> omega
theorem taken_nn (r : Way) {u : Rat} (hu : 0 ≤ u) : 0 ≤ takenQ r u := by
  have := floor_nn.mpr hu
  unfold takenQ
  split
  · exact this
  · split <;> omega
theorem twice_shift (r : Way) {m j : Int} {u : Rat} (hm : 0 < m) (hu : 0 ≤ u) (hj : 0 ≤ j) (h2 : j % 2 = 0) : twiceT r m (u + (j : Rat) * m) = twiceT r m u + j ∧ onceT r m (u + (j : Rat) * m) = onceT r m u + j := by
  have hm' : (0 : Rat) < (m : Rat) := Rat.intCast_pos.mpr hm
  have h3 : j * m % 2 = 0 := by
    obtain ⟨q, rfl⟩ : ∃ q, j = 2 * q := ⟨j / 2, by omega⟩
    rw [Int.mul_assoc]; omega
  have h4 : 0 ≤ j * m := Int.mul_nonneg hj (by omega)
  have e : (j : Rat) * (m : Rat) = ((j * m : Int) : Rat) := (Rat.intCast_mul _ _).symm
  unfold twiceT onceT
  constructor
  · rw [e, taken_shift r hu h4 h3, Rat.intCast_add, Rat.intCast_mul]
    have q : ((takenQ r u : Rat) + (j : Rat) * (m : Rat)) / (m : Rat) = (takenQ r u : Rat) / (m : Rat) + (j : Rat) := by grind
    rw [q, taken_shift r ((div_nn hm).mpr (Rat.intCast_nonneg.mpr (taken_nn r hu))) hj h2]
  · have q : (u + (j : Rat) * (m : Rat)) / (m : Rat) = u / (m : Rat) + (j : Rat) := by grind
    rw [q, taken_shift r ((div_nn hm).mpr hu) hj h2]
def absQ (x : Rat) : Rat := Rat.divInt (if x.num < 0 then -x.num else x.num) (x.den : Int)
theorem absQ_eq (x : Rat) : absQ x = if 0 ≤ x then x else -x := by
  unfold absQ
  by_cases h : 0 ≤ x
  · have : 0 ≤ x.num := Rat.num_nonneg.mpr h
    rw [if_pos h, if_neg (by omega), Rat.num_divInt_den]
  · have : ¬ 0 ≤ x.num := fun z => h (Rat.num_nonneg.mp z)
    rw [if_neg h, if_pos (by omega), ← Rat.neg_divInt, Rat.num_divInt_den]
theorem absQ_lt {x y : Rat} (h1 : x < y) (h2 : -y < x) : absQ x < y := by
  rw [absQ_eq]
  split <;> grind
theorem absQ_bd {n : Nat} {x : Rat} (h : Bd n x) : Bd n (absQ x) := by
  have := h.1
  refine Bd.of (den_ne x) (by split <;> omega) (by have := h.2; omega)
theorem lt_dec (x y : Rat) : decide (x < y) = decide (x.num * (y.den : Int) < y.num * (x.den : Int)) := by
  rw [decide_eq_decide]
  exact Rat.lt_iff x y
/-- rounded, a number lies within a step -/
theorem step_within {r : Way} {n x : Rat} (hx : 0 < x) : absQ (n - x * (takenQ r (n / x) : Rat)) < x := by
  obtain ⟨a, b⟩ := taken_within r (n / x)
  have e : n = n / x * x := by grind
  have p : (takenQ r (n / x) : Rat) * x < (n / x + 1) * x := Rat.mul_lt_mul_of_pos_right a hx
  have q : (n / x - 1) * x < (takenQ r (n / x) : Rat) * x := Rat.mul_lt_mul_of_pos_right b hx
  refine absQ_lt ?_ ?_ <;> grind
end My

namespace My
/-! ### powers of ten -/
def T10 (p : Int) : Rat := (10 : Rat) ^ p
theorem T10_pos (p : Int) : 0 < T10 p := Rat.zpow_pos (by decide +kernel)
theorem T10_ne (p : Int) : T10 p ≠ 0 := by have := T10_pos p; grind
theorem T10_add (p q : Int) : T10 (p + q) = T10 p * T10 q := Rat.zpow_add (by decide +kernel) p q
theorem T10_zero : T10 0 = 1 := Rat.zpow_zero _
theorem T10_one : T10 1 = 10 := by
  have := Rat.zpow_add_one (q := 10) (by decide +kernel) 0
  rw [Rat.zpow_zero] at this
  show (10 : Rat) ^ (1 : Int) = 10
  rw [show (1 : Int) = 0 + 1 from rfl, this]
  grind
theorem T10_succ (p : Int) : T10 (p + 1) = T10 p * 10 := by rw [T10_add, T10_one]
theorem T10_nat (n : Nat) : T10 (n : Int) = ((10 ^ n : Int) : Rat) := by
  induction n with
  | zero => exact T10_zero
  | succ n ih =>
    rw [Int.natCast_succ, T10_succ, ih, Int.pow_succ, Rat.intCast_mul]
    rfl
theorem T10_neg (p : Int) : T10 (-p) = 1 / T10 p := by
  have : T10 (-p) * T10 p = 1 := by rw [← T10_add, Int.add_left_neg]; exact T10_zero
  have := T10_ne p
  grind
theorem T10_lt_nat (p : Int) (n : Nat) : T10 p < T10 (p + ((n : Int) + 1)) := by
  have hp := T10_pos p
  induction n with
  | zero =>
    show T10 p < T10 (p + 1)
    rw [T10_succ]
    grind
  | succ n ih =>
    have e : p + (((n + 1 : Nat) : Int) + 1) = p + ((n : Int) + 1) + 1 := by omega
    have := T10_pos (p + ((n : Int) + 1))
    rw [e, T10_succ]
    grind
theorem T10_lt {p q : Int} (h : p < q) : T10 p < T10 q := by
  have := T10_lt_nat p (q - p - 1).toNat
  have e : p + (((q - p - 1).toNat : Int) + 1) = q := by omega
  rw [e] at this
  exact this
theorem T10_le {p q : Int} (h : p ≤ q) : T10 p ≤ T10 q := by
  by_cases e : p = q
  · rw [e]; exact Rat.le_refl
  · exact Rat.le_of_lt (T10_lt (by omega))
theorem T10_lt_iff {p q : Int} : T10 p < T10 q ↔ p < q := by
  constructor
  · intro h
    by_cases z : p < q
    · exact z
    · have := T10_le (show q ≤ p by omega)
      grind
  · exact T10_lt
/-- the power of x -/
def Pow (p : Int) (x : Rat) : Prop := T10 p ≤ absQ x ∧ absQ x < T10 (p + 1)
theorem absQ_mul_pos {x t : Rat} (ht : 0 < t) : absQ (x * t) = absQ x * t := by
  rw [absQ_eq, absQ_eq]
  by_cases h : 0 ≤ x
  · have : 0 ≤ x * t := Rat.mul_nonneg h (Rat.le_of_lt ht)
    rw [if_pos this, if_pos h]
  · have h' : 0 < -x := by grind
    have : 0 < -x * t := Rat.mul_pos h' ht
    rw [if_neg (by grind), if_neg h]
    grind
theorem absQ_neg (x : Rat) : absQ (-x) = absQ x := by
  rw [absQ_eq, absQ_eq]
  split <;> split <;> grind
theorem absQ_nn (x : Rat) : 0 ≤ absQ x := by
  rw [absQ_eq]; split <;> grind
theorem Pow.mul {p k : Int} {x : Rat} (h : Pow p x) : Pow (p + k) (x * T10 k) := by
  have hk := T10_pos k
  unfold Pow at h ⊢
  rw [absQ_mul_pos hk, show p + k + 1 = (p + 1) + k by omega, T10_add, T10_add]
  exact ⟨Rat.mul_le_mul_of_nonneg_right h.1 (Rat.le_of_lt hk), Rat.mul_lt_mul_of_pos_right h.2 hk⟩
theorem Pow.neg {p : Int} {x : Rat} (h : Pow p x) : Pow p (-x) := by
  unfold Pow at h ⊢
  rw [absQ_neg]
  exact h
theorem Pow.ne {p : Int} {x : Rat} (h : Pow p x) : x ≠ 0 := by
  intro e
  have := h.1
  have := T10_pos p
  rw [e, absQ_eq, if_pos (by decide +kernel)] at *
  grind
theorem pow10_lt (n : Nat) : (10 ^ n : Int).natAbs < 2 ^ (4 * n + 1) := by
  rw [Int.natAbs_pow]
  have : (10 : Nat) ^ n ≤ (2 ^ 4) ^ n := Nat.pow_le_pow_left (by decide) n
  rw [← Nat.pow_mul] at this
  have h2 : 2 ^ (4 * n) < 2 ^ (4 * n + 1) := Nat.pow_lt_pow_right (by decide) (by omega)
  exact Nat.lt_of_le_of_lt this h2
theorem T10_bd {p : Int} {k : Nat} (h : p.natAbs ≤ k) : Bd (4 * k + 1) (T10 p) := by
  have b := Nat.lt_of_lt_of_le (pow10_lt p.natAbs) (Nat.pow_le_pow_right (by decide : 0 < 2) (show 4 * p.natAbs + 1 ≤ 4 * k + 1 by omega))
  by_cases z : 0 ≤ p
  · have e : p = (p.natAbs : Int) := by omega
    rw [e, T10_nat]
    exact Bd.int b (by omega)
  · have e : p = -(p.natAbs : Int) := by omega
    rw [e, T10_neg, T10_nat]
    have e2 : 1 / (((10 ^ p.natAbs : Int)) : Rat) = Rat.divInt 1 (10 ^ p.natAbs : Int) := by rw [Rat.divInt_eq_div]; rfl
    rw [e2]
    exact Bd.of (Int.pow_ne_zero (by decide)) (Nat.lt_of_lt_of_le (by decide : Int.natAbs 1 < 2 ^ 1) (Nat.pow_le_pow_right (by decide) (by omega))) b
/-! ### to so many figures -/
def figQ (r : Way) (c p : Int) (x : Rat) : Rat := T10 (p - c + 1) * (takenQ r (x / T10 (p - c + 1)) : Rat)
theorem fig_stay {r : Way} {c p m : Int} {x : Rat} (h : x / T10 (p - c + 1) = (m : Rat)) : figQ r c p x = x := by
  have := T10_ne (p - c + 1)
  unfold figQ
  rw [h, taken_int, ← h]
  grind
theorem fig_mul {r : Way} {c p k : Int} {x : Rat} : figQ r c (p + k) (x * T10 k) = figQ r c p x * T10 k := by
  have h1 := T10_ne (p - c + 1)
  have h2 := T10_ne k
  unfold figQ
  rw [show p + k - c + 1 = (p - c + 1) + k by omega, T10_add]
  have e : x * T10 k / (T10 (p - c + 1) * T10 k) = x / T10 (p - c + 1) := by grind
  rw [e]
  grind
def turnW : Way → Way
  | .high => .low
  | .low => .high
  | r => r
theorem floor_of {n : Rat} {l : Int} (h1 : (l : Rat) ≤ n) (h2 : n < (l : Rat) + 1) : n.floor = l := by
  have a : l ≤ n.floor := Rat.le_floor_iff.mpr h1
  have b : n.floor < l + 1 := Rat.floor_lt_iff.mpr (by rw [Rat.intCast_add]; exact h2)
  omega
theorem nearerB_neg {p : Rat} {a : Bool} : nearerB (1 - p) (!a) = !nearerB p a := by
  by_cases h : p < 1 / 2
  · rw [nearerB_lo h, nearerB_hi (by grind)]; rfl
  · by_cases h2 : p = 1 / 2
    · have e : 1 - p = 1 / 2 := by grind
      rw [e, h2, nearerB_mid, nearerB_mid]
    · rw [nearerB_lo (p := 1 - p) (by grind), nearerB_hi (p := p) (by grind)]; rfl
theorem taken_neg (r : Way) (u : Rat) : takenQ (turnW r) (-u) = -takenQ r u := by
  by_cases h : u = (u.floor : Rat)
  · rw [h, ← Rat.intCast_neg, taken_int, taken_int]
  · have a := Rat.floor_le u
    have b := Rat.lt_floor_add_one u
    rw [Rat.intCast_add] at b
    have e1 : u = (u.floor : Rat) + (u - (u.floor : Rat)) := by grind
    have e2 : -u = (((-u.floor - 1 : Int)) : Rat) + (1 - (u - (u.floor : Rat))) := by rw [Rat.intCast_sub, Rat.intCast_neg]; grind
    generalize u.floor = l at *
    rw [e2, taken_add (by grind) (by grind)]
    have t : takenQ r u = if ruleB r l (u - l) = true then l + 1 else l := by
      conv => lhs; rw [e1]
      exact taken_add (by grind) (by grind)
    rw [t]
    have key : ruleB (turnW r) (-l - 1) (1 - (u - l)) = !ruleB r l (u - l) := by
      have f1 : decide (0 ≤ -l - 1) = !decide (0 ≤ l) := by
        by_cases z : 0 ≤ l
        · rw [decide_eq_true z, decide_eq_false (by omega)]; rfl
        · rw [decide_eq_false z, decide_eq_true (by omega)]; rfl
      have f2 : decide (-l - 1 < 0) = !decide (l < 0) := by
        by_cases z : l < 0
        · rw [decide_eq_true z, decide_eq_false (by omega)]; rfl
        · rw [decide_eq_false z, decide_eq_true (by omega)]; rfl
      have f3 : decide ((-l - 1) % 2 = 1) = !decide (l % 2 = 1) := by
        by_cases z : l % 2 = 1
        · rw [decide_eq_true z, decide_eq_false (by omega)]; rfl
        · rw [decide_eq_false z, decide_eq_true (by omega)]; rfl
      have f4 : decide ((-l - 1) % 2 = 0) = !decide (l % 2 = 0) := by
        by_cases z : l % 2 = 0
        · rw [decide_eq_true z, decide_eq_false (by omega)]; rfl
        · rw [decide_eq_false z, decide_eq_true (by omega)]; rfl
      cases r <;> simp only [turnW, ruleB, f1, f2, f3, f4, nearerB_neg, Bool.not_true, Bool.not_false]
    rw [key]
    cases ruleB r l (u - l) with
    | true =>
      rw [if_neg (by simp), if_pos rfl]
      omega
    | false =>
      rw [if_pos (by simp), if_neg (by simp)]
      omega
theorem fig_neg {r : Way} {c p : Int} {x : Rat} : figQ (turnW r) c p (-x) = -figQ r c p x := by
  unfold figQ
  have e : -x / T10 (p - c + 1) = -(x / T10 (p - c + 1)) := by have := T10_ne (p - c + 1); grind
  rw [e, taken_neg, Rat.intCast_neg]
  grind
end My

namespace My
theorem pow_step {q : Rat} {a : Int} (h1 : T10 a ≤ q) : ∀ m : Nat, q < T10 (a + (m : Int)) → ∃ p, a ≤ p ∧ p < a + (m : Int) ∧ T10 p ≤ q ∧ q < T10 (p + 1)
  | 0, h => by
    rw [show a + ((0 : Nat) : Int) = a by omega] at h
    grind
  | m + 1, h => by
    by_cases z : q < T10 (a + (m : Int))
    · obtain ⟨p, p1, p2, p3, p4⟩ := pow_step h1 m z
      exact ⟨p, p1, by omega, p3, p4⟩
    · refine ⟨a + (m : Int), by omega, by omega, by grind, ?_⟩
      rw [show a + (m : Int) + 1 = a + ((m + 1 : Nat) : Int) by omega]
      exact h
theorem absQ_div {t b : Int} (hb : 0 < b) : absQ (Rat.divInt t b) = ((t.natAbs : Int) : Rat) / (b : Rat) := by
  have hb' : (0 : Rat) < (b : Rat) := Rat.intCast_pos.mpr hb
  have ib : (0 : Rat) < 1 / (b : Rat) := (Rat.lt_div_iff hb').mpr (by grind)
  have e : Rat.divInt t b = (t : Rat) * (1 / (b : Rat)) := by rw [Rat.divInt_eq_div]; grind
  rw [e, absQ_mul_pos ib, absQ_eq]
  have n : (if 0 ≤ (t : Rat) then (t : Rat) else -(t : Rat)) = ((t.natAbs : Int) : Rat) := by
    by_cases h : 0 ≤ t
    · rw [if_pos (Rat.intCast_nonneg.mpr h)]
      congr 1; omega
    · rw [if_neg (fun z => h (Rat.intCast_nonneg.mp z)), ← Rat.intCast_neg]
      congr 1; omega
  rw [n]
  grind
theorem le_div {x y z : Rat} (hz : 0 < z) (h : x * z ≤ y) : x ≤ y / z := by
  refine Rat.not_lt.mp fun q => ?_
  have := (Rat.div_lt_iff hz).mp q
  grind
/-- the power, found by whole numbers -/
theorem pow_grain {t b : Int} {i j : Nat} (hb : 0 < b) (h1 : (10 : Int) ^ i * b ≤ (10 : Int) ^ j * (t.natAbs : Int)) (h2 : (10 : Int) ^ j * (t.natAbs : Int) < 10 * ((10 : Int) ^ i * b)) : Pow ((i : Int) - (j : Int)) (Rat.divInt t b) := by
  have hb' : (0 : Rat) < (b : Rat) := Rat.intCast_pos.mpr hb
  have hj := T10_pos (j : Int)
  have h1' := Rat.intCast_le_intCast.mpr h1
  have h2' := Rat.intCast_lt_intCast.mpr h2
  have e10 : ((10 : Int) : Rat) = 10 := rfl
  rw [Rat.intCast_mul, Rat.intCast_mul, ← T10_nat, ← T10_nat] at h1'
  rw [Rat.intCast_mul, Rat.intCast_mul, Rat.intCast_mul, ← T10_nat, ← T10_nat, e10] at h2'
  have split : T10 (i : Int) = T10 ((i : Int) - (j : Int)) * T10 (j : Int) := by rw [← T10_add]; congr 1; omega
  rw [split] at h1' h2'
  unfold Pow
  rw [absQ_div hb, T10_succ]
  generalize T10 ((i : Int) - (j : Int)) = u at *
  generalize T10 (j : Int) = v at *
  generalize ((t.natAbs : Int) : Rat) = y at *
  generalize (b : Rat) = z at *
  constructor
  · refine le_div hb' (Rat.not_lt.mp fun q => ?_)
    have := Rat.mul_lt_mul_of_pos_right q hj
    grind
  · refine (Rat.div_lt_iff hb').mpr ?_
    refine Rat.not_le.mp fun q => ?_
    have := Rat.mul_le_mul_of_nonneg_right q (Rat.le_of_lt hj)
    grind
theorem pow_unique {p p' : Int} {x : Rat} (h : Pow p x) (h' : Pow p' x) : p = p' := by
  have a : p < p' + 1 := T10_lt_iff.mp (by have := h.1; have := h'.2; grind)
  have b : p' < p + 1 := T10_lt_iff.mp (by have := h'.1; have := h.2; grind)
  omega
theorem pow_there {t b : Int} (t0 : t ≠ 0) (hb : 0 < b) {i j : Nat} (ht : (t.natAbs : Int) < (10 : Int) ^ i) (hj : b ≤ (10 : Int) ^ j) : ∃ p : Int, -(j : Int) ≤ p ∧ p < (i : Int) ∧ Pow p (Rat.divInt t b) := by
  have hb' : (0 : Rat) < (b : Rat) := Rat.intCast_pos.mpr hb
  have t1 : ((1 : Int) : Rat) ≤ ((t.natAbs : Int) : Rat) := Rat.intCast_le_intCast.mpr (by omega)
  have b1 : ((1 : Int) : Rat) ≤ (b : Rat) := Rat.intCast_le_intCast.mpr (by omega)
  have e1 : ((1 : Int) : Rat) = 1 := rfl
  rw [e1] at t1 b1
  have ht' := Rat.intCast_lt_intCast.mpr ht
  have hj' := Rat.intCast_le_intCast.mpr hj
  rw [← T10_nat] at ht' hj'
  have pj := T10_pos (j : Int)
  have pi := T10_pos (i : Int)
  have nj := T10_ne (j : Int)
  have lo : T10 (-(j : Int)) ≤ absQ (Rat.divInt t b) := by
    rw [absQ_div hb, T10_neg]
    refine le_div hb' ?_
    have q : 1 / T10 (j : Int) * (b : Rat) ≤ 1 := by
      have e : 1 / T10 (j : Int) * (b : Rat) = (b : Rat) / T10 (j : Int) := by grind
      rw [e]
      refine Rat.not_lt.mp fun q => ?_
      have := (Rat.lt_div_iff pj).mp q
      grind
    grind
  have hi : absQ (Rat.divInt t b) < T10 (-(j : Int) + ((i + j : Nat) : Int)) := by
    rw [absQ_div hb, show -(j : Int) + ((i + j : Nat) : Int) = (i : Int) by omega]
    refine (Rat.div_lt_iff hb').mpr ?_
    have := Rat.mul_le_mul_of_nonneg_left b1 (Rat.le_of_lt pi)
    grind
  obtain ⟨p, p1, p2, p3, p4⟩ := pow_step lo _ hi
  exact ⟨p, p1, by omega, p3, p4⟩
end My

namespace My
/-! ### the shortest figures that lead back -/
def nearL (u : Rat) : Int := if (partQ u).num = 0 then u.floor else if ((partQ u).den : Int) < 2 * (partQ u).num then u.floor + 1 else u.floor
theorem nearL_is (u : Rat) : (nearL u : Rat) - 1 / 2 < u ∧ u ≤ (nearL u : Rat) + 1 / 2 := by
  have a := Rat.floor_le u
  have b := Rat.lt_floor_add_one u
  rw [Rat.intCast_add] at b
  have e : partQ u = u - (u.floor : Rat) := rfl
  unfold nearL
  by_cases h : u = (u.floor : Rat)
  · rw [if_pos (part_zero.mpr h)]
    grind
  · rw [if_neg (fun z => h (part_zero.mp z))]
    have key : ((partQ u).den : Int) < 2 * (partQ u).num ↔ 1 / 2 < partQ u := by
      by_cases h1 : 1 / 2 < partQ u
      · have := nearerB_hi (a := false) h1
        unfold nearerB at this
        split at this
        · cases this
        · exact ⟨fun _ => h1, fun _ => of_decide_eq_true this⟩
      · refine ⟨fun z => ?_, fun z => absurd z h1⟩
        by_cases h2 : partQ u = 1 / 2
        · rw [h2] at z
          exact absurd z (by decide +kernel)
        · have := nearerB_lo (a := true) (show partQ u < 1 / 2 by grind)
          unfold nearerB at this
          split at this
          · cases this
          · exact absurd z (of_decide_eq_false this)
    by_cases h1 : 1 / 2 < partQ u
    · rw [if_pos (key.mpr h1), Rat.intCast_add]
      grind
    · rw [if_neg (fun z => h1 (key.mp z))]
      grind
theorem nearL_best (u : Rat) (c : Int) : absQ ((nearL u : Rat) - u) ≤ absQ ((c : Rat) - u) := by
  obtain ⟨a, b⟩ := nearL_is u
  generalize nearL u = t at *
  by_cases h : c = t
  · rw [h]; exact Rat.le_refl
  · rw [absQ_eq, absQ_eq]
    by_cases h2 : c < t
    · have : (c : Rat) + 1 ≤ (t : Rat) := by
        have := Rat.intCast_le_intCast.mpr (show c + 1 ≤ t by omega)
        rw [Rat.intCast_add] at this
        exact this
      split <;> split <;> grind
    · have : (t : Rat) + 1 ≤ (c : Rat) := by
        have := Rat.intCast_le_intCast.mpr (show t + 1 ≤ c by omega)
        rw [Rat.intCast_add] at this
        exact this
      split <;> split <;> grind
/-- how far the nearest of so many places is off -/
def dL (x : Rat) (p : Int) : Rat := absQ ((nearL (x * T10 p) : Rat) * T10 (-p) - x)
theorem T10_inv (p : Int) : T10 p * T10 (-p) = 1 := by rw [← T10_add, Int.add_right_neg]; exact T10_zero
theorem off_scale (x : Rat) (c : Rat) (p : Int) : absQ (c * T10 (-p) - x) = absQ (c - x * T10 p) * T10 (-p) := by
  rw [← absQ_mul_pos (T10_pos (-p))]
  have := T10_inv p
  congr 1
  grind
theorem dL_best (x : Rat) (p c : Int) : dL x p ≤ absQ ((c : Rat) * T10 (-p) - x) := by
  unfold dL
  rw [off_scale, off_scale]
  exact Rat.mul_le_mul_of_nonneg_right (nearL_best _ c) (Rat.le_of_lt (T10_pos _))
theorem dL_succ (x : Rat) (p : Int) : dL x (p + 1) ≤ dL x p := by
  have := dL_best x (p + 1) (nearL (x * T10 p) * 10)
  have e : ((nearL (x * T10 p) * 10 : Int) : Rat) * T10 (-(p + 1)) = (nearL (x * T10 p) : Rat) * T10 (-p) := by
    rw [Rat.intCast_mul, show -p = -(p + 1) + 1 by omega, T10_succ]
    have : ((10 : Int) : Rat) = 10 := rfl
    grind
  rw [e] at this
  exact this
theorem dL_mono_nat (x : Rat) (p : Int) : ∀ n : Nat, dL x (p + (n : Int)) ≤ dL x p
  | 0 => by rw [show p + ((0 : Nat) : Int) = p by omega]; exact Rat.le_refl
  | n + 1 => by
    rw [show p + ((n + 1 : Nat) : Int) = p + (n : Int) + 1 by omega]
    exact Rat.le_trans (dL_succ _ _) (dL_mono_nat x p n)
theorem dL_mono (x : Rat) {p q : Int} (h : p ≤ q) : dL x q ≤ dL x p := by
  have := dL_mono_nat x p (q - p).toNat
  rw [show p + ((q - p).toNat : Int) = q by omega] at this
  exact this
/-- so little off leads back to so many steps -/
def okd (y : Rat) (m : Int) (d : Rat) : Prop := d < y / 2 ∨ (d = y / 2 ∧ m % 2 = 0)
theorem okd.le {y : Rat} {m : Int} {d e : Rat} (h : okd y m d) (l : e ≤ d) : okd y m e := by
  unfold okd at *
  rcases h with h | ⟨h, z⟩
  · exact .inl (by grind)
  · by_cases g : e < y / 2
    · exact .inl g
    · exact .inr ⟨by grind, z⟩
theorem heven_iff {y z : Rat} {m : Int} (hy : 0 < y) : takenQ .heven (z / y) = m ↔ okd y m (absQ (z - (m : Rat) * y)) := by
  have e : absQ (z - (m : Rat) * y) = absQ (z / y - (m : Rat)) * y := by
    rw [← absQ_mul_pos hy]
    congr 1
    grind
  rw [e]
  generalize z / y = u
  have key : okd y m (absQ (u - (m : Rat)) * y) ↔ (absQ (u - (m : Rat)) < 1 / 2 ∨ (absQ (u - (m : Rat)) = 1 / 2 ∧ m % 2 = 0)) := by
    unfold okd
    generalize absQ (u - (m : Rat)) = d
    constructor
    · rintro (h | ⟨h, g⟩)
      · refine .inl (Rat.not_le.mp fun q => ?_)
        have := Rat.mul_le_mul_of_nonneg_right q (Rat.le_of_lt hy)
        grind
      · refine .inr ⟨?_, g⟩
        have : (d - 1 / 2) * y = 0 := by grind
        rcases Rat.mul_eq_zero.mp this with h | h
        · grind
        · grind
    · rintro (h | ⟨h, g⟩)
      · have := Rat.mul_lt_mul_of_pos_right h hy
        exact .inl (by grind)
      · exact .inr ⟨by rw [h]; grind, g⟩
  rw [key, absQ_eq]
  rcases near_or_mid u with ⟨t, h1, h2⟩ | ⟨l, hl⟩
  · rw [taken_near rfl h1 h2]
    constructor
    · rintro rfl
      left
      split <;> grind
    · intro h
      have hh : (if 0 ≤ u - (m : Rat) then u - (m : Rat) else -(u - (m : Rat))) ≤ 1 / 2 := by
        rcases h with h | ⟨h, _⟩
        · exact Rat.le_of_lt h
        · rw [h]; exact Rat.le_refl
      clear h key e
      have a : (m : Rat) < (t : Rat) + 1 := by split at hh <;> grind
      have b : (t : Rat) < (m : Rat) + 1 := by split at hh <;> grind
      have a' : m < t + 1 := Rat.intCast_lt_intCast.mp (by rw [Rat.intCast_add]; exact a)
      have b' : t < m + 1 := Rat.intCast_lt_intCast.mp (by rw [Rat.intCast_add]; exact b)
      omega
  · subst hl
    rw [taken_mid rfl]
    have tu : tieUp .heven l = decide (l % 2 = 1) := rfl
    rw [tu]
    constructor
    · intro h
      right
      by_cases z : l % 2 = 1
      · rw [if_pos (decide_eq_true z)] at h
        subst h
        rw [Rat.intCast_add]
        have : ((1 : Int) : Rat) = 1 := rfl
        refine ⟨by split <;> grind, by omega⟩
      · rw [if_neg (by simpa using z)] at h
        subst h
        refine ⟨by split <;> grind, by omega⟩
    · intro h
      have a : (m : Rat) < (l : Rat) + 2 := by split at h <;> grind
      have b : (l : Rat) < (m : Rat) + 1 := by split at h <;> grind
      have a' : m < l + 2 := Rat.intCast_lt_intCast.mp (by rw [Rat.intCast_add]; exact a)
      have b' : l < m + 1 := Rat.intCast_lt_intCast.mp (by rw [Rat.intCast_add]; exact b)
      have ev : m % 2 = 0 := by
        rcases h with h | h
        · exfalso
          have c : m = l ∨ m = l + 1 := by omega
          rcases c with rfl | rfl
          · split at h <;> grind
          · rw [Rat.intCast_add] at h
            have : ((1 : Int) : Rat) = 1 := rfl
            split at h <;> grind
        · exact h.2
      by_cases z : l % 2 = 1
      · rw [if_pos (decide_eq_true z)]; omega
      · rw [if_neg (by simpa using z)]; omega
/-- a count of so many places is rounded to the kept number -/
def backQ (c p : Int) (x y : Rat) : Bool := decide (y * (takenQ .heven ((c : Rat) * T10 (-p) / y) : Rat) = x)
theorem backQ_iff {c p m : Int} {x y : Rat} (hy : 0 < y) (hx : x = (m : Rat) * y) : backQ c p x y = true ↔ okd y m (absQ ((c : Rat) * T10 (-p) - x)) := by
  unfold backQ
  rw [decide_eq_true_eq]
  conv => rhs; rw [hx]
  rw [← heven_iff hy, hx]
  constructor
  · intro h
    have : ((takenQ .heven ((c : Rat) * T10 (-p) / y) : Rat) - (m : Rat)) * y = 0 := by grind
    rcases Rat.mul_eq_zero.mp this with h | h
    · exact Rat.intCast_inj.mp (by grind)
    · grind
  · intro h
    rw [h]; grind
/-- the nearest one leads back -/
def lbQ (x y : Rat) (p : Int) : Bool := backQ (nearL (x * T10 p)) p x y
theorem lbQ_iff {p m : Int} {x y : Rat} (hy : 0 < y) (hx : x = (m : Rat) * y) : lbQ x y p = true ↔ okd y m (dL x p) := backQ_iff hy hx
theorem lb_of_back {c p m : Int} {x y : Rat} (hy : 0 < y) (hx : x = (m : Rat) * y) (h : backQ c p x y = true) : lbQ x y p = true :=
  (lbQ_iff hy hx).mpr (((backQ_iff hy hx).mp h).le (dL_best _ _ _))
theorem lb_mono {p q m : Int} {x y : Rat} (hy : 0 < y) (hx : x = (m : Rat) * y) (l : p ≤ q) (h : lbQ x y p = true) : lbQ x y q = true :=
  (lbQ_iff hy hx).mpr (((lbQ_iff hy hx).mp h).le (dL_mono _ l))
/-- so fine a last place leads back -/
theorem lb_fine {p m : Int} {x y : Rat} (hy : 0 < y) (hx : x = (m : Rat) * y) (h : T10 (-p) ≤ y) : lbQ x y p = true := by
  rw [lbQ_iff hy hx]
  have d1 : dL x p ≤ T10 (-p) / 2 := by
    unfold dL
    rw [off_scale]
    obtain ⟨a, b⟩ := nearL_is (x * T10 p)
    have : absQ ((nearL (x * T10 p) : Rat) - x * T10 p) ≤ 1 / 2 := by
      rw [absQ_eq]
      split <;> grind
    have := Rat.mul_le_mul_of_nonneg_right this (Rat.le_of_lt (T10_pos (-p)))
    grind
  by_cases g : T10 (-p) = y
  · have : dL x p ≤ 0 := by
      have b := dL_best x p m
      have e : (m : Rat) * T10 (-p) - x = 0 := by rw [g]; grind
      rw [e, absQ_eq, if_pos (by decide +kernel)] at b
      exact b
    exact .inl (by grind)
  · exact .inl (by grind)
theorem lb_power {p m : Int} {x y : Rat} (hy : 0 < y) (hx : x = (m : Rat) * y) (h : Pow p y) : lbQ x y (if 0 < -p then -p else 0) = true := by
  have h1 := h.1
  rw [absQ_eq, if_pos (Rat.le_of_lt hy)] at h1
  refine lb_fine hy hx ?_
  split
  · rw [Int.neg_neg]; exact h1
  · exact Rat.le_trans (T10_le (by omega)) h1
/-- as few places as can be -/
def Fewest (x y : Rat) (P : Int) : Prop := 0 ≤ P ∧ lbQ x y P = true ∧ ∀ p, 0 ≤ p → p < P → lbQ x y p = false
theorem Fewest.le {x y : Rat} {P p m c : Int} (h : Fewest x y P) (hy : 0 < y) (hx : x = (m : Rat) * y) (hp : 0 ≤ p) (b : backQ c p x y = true) : P ≤ p := by
  by_cases z : P ≤ p
  · exact z
  · have := h.2.2 p hp (by omega)
    rw [lb_of_back hy hx b] at this
    cases this
end My

namespace My
/-! ### what is due, told by whole numbers -/
theorem taken_of {r : Way} {i p0 p1 : Int} (h0 : 0 < p0) (h1 : p0 < p1) : takenQ r ((i : Rat) + Rat.divInt p0 p1) = if ruleB r i (Rat.divInt p0 p1) = true then i + 1 else i := by
  have a : (0 : Rat) < (p0 : Rat) := Rat.intCast_pos.mpr h0
  have b : (p0 : Rat) < (p1 : Rat) := Rat.intCast_lt_intCast.mpr h1
  have q : (0 : Rat) < (p1 : Rat) := by grind
  refine taken_add ?_ ?_
  · rw [Rat.divInt_eq_div]
    exact (Rat.lt_div_iff q).mpr (by grind)
  · rw [Rat.divInt_eq_div]
    exact (Rat.div_lt_iff q).mpr (by grind)
theorem nearer_div {p0 p1 : Int} (h0 : 0 < p0) (h1 : p0 < p1) (a : Bool) : nearerB (Rat.divInt p0 p1) a = if 2 * p0 = p1 then a else decide (p1 < 2 * p0) := by
  have q : (0 : Rat) < (p1 : Rat) := Rat.intCast_pos.mpr (by omega)
  have e2 : ((2 * p0 : Int) : Rat) = 2 * (p0 : Rat) := by rw [Rat.intCast_mul]; rfl
  rw [Rat.divInt_eq_div]
  by_cases z : 2 * p0 = p1
  · have p2 : (p1 : Rat) = 2 * (p0 : Rat) := by rw [← z]; exact e2
    have : (p0 : Rat) / (p1 : Rat) = 1 / 2 := by rw [p2]; rw [p2] at q; grind
    rw [if_pos z, this, nearerB_mid]
  · rw [if_neg z]
    by_cases y : p1 < 2 * p0
    · have : (p1 : Rat) < 2 * (p0 : Rat) := by rw [← e2]; exact Rat.intCast_lt_intCast.mpr y
      rw [decide_eq_true y, nearerB_hi ((Rat.lt_div_iff q).mpr (by grind))]
    · have : 2 * (p0 : Rat) < (p1 : Rat) := by rw [← e2]; exact Rat.intCast_lt_intCast.mpr (by omega)
      rw [decide_eq_false y, nearerB_lo ((Rat.div_lt_iff q).mpr (by grind))]
/-- the number of steps, as a whole and a part of one -/
theorem steps_split {t b c d : Int} (hb : 0 < b) (hc : 0 < c) (hd : 0 < d) : Rat.divInt t b / Rat.divInt c d = ((t * d / (b * c) : Int) : Rat) + Rat.divInt (t * d - t * d / (b * c) * (b * c)) (b * c) := by
  have hb' : (b : Rat) ≠ 0 := by simp; omega
  have hc' : (c : Rat) ≠ 0 := by simp; omega
  have hd' : (d : Rat) ≠ 0 := by simp; omega
  have e1 : Rat.divInt t b / Rat.divInt c d = ((t * d : Int) : Rat) / ((b * c : Int) : Rat) := by
    rw [Rat.divInt_eq_div, Rat.divInt_eq_div, Rat.intCast_mul, Rat.intCast_mul]
    grind
  have hB : ((b * c : Int) : Rat) ≠ 0 := by rw [Rat.intCast_mul]; grind
  rw [e1, Rat.divInt_eq_div, Rat.intCast_sub, Rat.intCast_mul (t * d / (b * c))]
  generalize ((t * d : Int) : Rat) = x at *
  generalize ((b * c : Int) : Rat) = y at *
  generalize ((t * d / (b * c) : Int) : Rat) = z at *
  grind
end My

/-! ### isinstance of a def -/
namespace PySem
open Sem (wp)
namespace F
theorem my_slot_function_ga : Slot "function" "__getattribute__" "object.__getattribute__" :=
  .of (owner := "object") (n := "__getattribute__") (by rw [typeLookup_type, builtinLookup_eq_fast]; kernel_rfl) (by decide +kernel) (by decide +kernel) (by decide +kernel)
    (by first | exact .inl (by decide +kernel) | exact .inr (by decide +kernel)) (by rw [isSubtype_type]; kernel_rfl)
theorem my_lk_function_class : typeLookup (.type "function") "__class__" = pure (some (.builtin "object.__class__")) := by rw [typeLookup_type, builtinLookup_eq_fast]; kernel_rfl
theorem my_sub_function_owner : isSubtype (.type "function") (.type (".".intercalate ("object.__class__".cutAt '.').dropLast)) = pure true := by
  rw [owner_object_class, isSubtype_type]; kernel_rfl
end F
section
variable {prog : Program} {w : World} {A : Around} {E : Value → Shared → Prop} {h : Heap} {g : Array GenState} {d : Drawn} {t : Nat} {os : OsState} {a : Addr} {o : Obj}
theorem my_class_get_fun {R : Result → Shared → Prop} (hx : h.get? a = some o) (hc : o.cls = .type "function") (hq : R (.ok (.ret (.type "function"))) ⟨h, g, d, t, os⟩) :
    codeAny (model prog w) A (.call (.builtin "getset_descriptor.__get__") ⟨[.builtin "object.__class__", .ref a, .type "function"], []⟩) R ⟨h, g, d, t, os⟩ := by
  have hT : (⟨h, g, d, t, os⟩ : Shared).TypeIs (.ref a) "function" := ⟨_, hx, hc⟩
  have hT5 : (⟨h, g, d, t, os⟩ : Shared).TypeIs (.builtin "object.__class__") "getset_descriptor" := F.typeOf_object_class
  have f8 := F.my_sub_function_owner
  refine codeAny_call_builtin F.slot_gs_get.plain F.entry_gs_get (F.slot_gs_get.check _ _ _ _ _ _ _ _ hT5 (F.args_gs_get _ _ _) ?_)
  repeat (any_goals (first | assumption | wp_step))
  refine ⟨Code.quiet_builtin _ (by decide +kernel), codeAny_builtin F.entry_object_class ?_⟩
  repeat (any_goals (first | assumption | wp_step))
theorem my_class_entry_fun {tk : Tok} {Q : Fin → Shared → Prop} (hx : h.get? a = some o) (hc : o.cls = .type "function") (hq : Q (.done (.ret (.type "function"))) ⟨h, g, d, t, os⟩) :
    wpAny (model prog w) A (Builtin.«object.__getattribute__» ⟨[.ref a, .str "__class__" tk], []⟩) Q E ⟨h, g, d, t, os⟩ := by
  have hT : (⟨h, g, d, t, os⟩ : Shared).TypeIs (.ref a) "function" := ⟨_, hx, hc⟩
  have hT5 : (⟨h, g, d, t, os⟩ : Shared).TypeIs (.builtin "object.__class__") "getset_descriptor" := F.typeOf_object_class
  have f4 := F.my_lk_function_class
  have f5 := F.typeOf_object_class
  have f6 := F.slot_gs_get.lookup
  have f7 := F.slot_gs_set.lookup
  repeat (any_goals (first | assumption | wp_step))
  refine my_class_get_fun hx hc ?_
  repeat (any_goals (first | assumption | wp_step))
theorem my_class_call_fun {tk : Tok} {R : Result → Shared → Prop} (hx : h.get? a = some o) (hc : o.cls = .type "function") (hq : R (.ok (.ret (.type "function"))) ⟨h, g, d, t, os⟩) :
    codeAny (model prog w) A (.call (.builtin "object.__getattribute__") ⟨[.ref a, .str "__class__" tk], []⟩) R ⟨h, g, d, t, os⟩ :=
  codeAny_call_builtin F.my_slot_function_ga.plain F.entry_object_getattribute (F.my_slot_function_ga.check _ _ _ _ _ _ _ _ (show (⟨h, g, d, t, os⟩ : Shared).TypeIs (.ref a) "function" from ⟨_, hx, hc⟩) (F.args_object_getattribute_2 _ _) (my_class_entry_fun hx hc hq))
theorem my_class_by_fun {tk : Tok} {Q : Value → Shared → Prop} (hx : h.get? a = some o) (hc : o.cls = .type "function") (hq : Q (.type "function") ⟨h, g, d, t, os⟩) : wpAny (model prog w) A (getAttrBy (.ref a) (.str "__class__" tk) false) Q E ⟨h, g, d, t, os⟩ := by
  have hT : (⟨h, g, d, t, os⟩ : Shared).TypeIs (.ref a) "function" := ⟨_, hx, hc⟩
  have f2 := F.my_slot_function_ga.lookup
  have f3 := F.my_slot_function_ga.bind (.ref a)
  repeat (any_goals (first | assumption | wp_step))
  refine my_class_call_fun hx hc ?_
  repeat (any_goals (first | assumption | wp_step))
theorem my_class_attr_fun {Q : Option Value → Shared → Prop} (hx : h.get? a = some o) (hc : o.cls = .type "function") (hq : Q (some (.type "function")) ⟨h, g, d, t + 1, os⟩) : wpAny (model prog w) A (getAttr? (.ref a) "__class__") Q E ⟨h, g, d, t, os⟩ := by
  unfold getAttr? getAttrBy?
  repeat (any_goals (first | assumption | with_reducible apply my_class_by_fun hx hc | wp_step))
end
end PySem
namespace PySem.W
theorem my_kitx_fun {K : Frag} {a : Addr} : KitX K (.ref a) (.type "function") (KitAt a "function") := kitx_of kitAt_ty (fun {_ _ _ _ _ s} p k => by obtain ⟨h, g, d, t, os⟩ := s; obtain ⟨o, h1, h2⟩ := p; exact my_class_attr_fun h1 h2 k)
end PySem.W

namespace My
open PySem L2
/-- isinstance of a def of the module's top -/
def rIsiF (K : PySem.W.Frag) : List V → Hp → VK → Prop := fun xs H Q => ∃ (a : Addr) (o : Obj) (n : String) (b : Bool), xs = [.ref a, .ty n] ∧ K.lookup a = some o ∧ o.cls = .type "function" ∧ PySem.W.kitOne K (.type "function") (.type n) = some b ∧ Q (.bl b) H
theorem call_isiF {X : Cx} : CallR X (.builtin "isinstance") (rIsiF X.K) := by
  intro pins s σ H xs us Q I r h
  obtain ⟨a, o, n, b, rfl, hl, hc, e, q⟩ := h
  obtain ⟨u1, u2, rfl, r1, r2⟩ := vals2 r
  have e2 := (ClsV.ty n).eq r2
  subst e2
  cases (show u1 = Value.ref a from r1)
  exact PySem.W.kia_one PySem.W.my_kitx_fun I.kIn ⟨o, I.kIn _ _ hl, hc⟩ e (fun z => nomatch z) fun tk => ⟨.bl b, H, I.tok tk, rfl, q⟩
theorem fun_str {K : PySem.W.Frag} {H : Hp} {a : Addr} {Q : VK} (h : ∃ o, K.lookup a = some o ∧ o.cls = .type "function") (q : Q (.bl false) H) : rIsiF K [.ref a, .ty "str"] H Q :=
  let ⟨o, h1, h2⟩ := h
  ⟨a, o, "str", false, rfl, h1, h2, kit_ty (by decide +kernel), q⟩
end My

namespace My
open PySem L2
/-! ### == and != of two objects of an own class with an own == -/
section
variable {X : Cx} {C f : Addr} {fd : FuncData} {ps : List Str} {n : Nat} {sp : Sp}
/-- the own == as it runs, within X or one builtin deeper -/
theorem run_eq {A : Around} {pins : List (Addr × Obj)} {σ : L2.St} {H : Hp} {s : Shared} {a b : Addr} {Q : VK} {E : XK} (F : FnOk X.prog X.w X.K X.mg X.base CX0 n f fd ps sp) (hb : Binds X.K fd ps []) (hr : Room n A) (hfr : A.frames = X.A.frames)
    (I : Inv X pins σ H s) (h : sp [.ref a, .ref b] H Q E) : wpAny (model X.prog X.w) A (call (.ref f) [.ref a, .ref b]) (EP X pins σ Q) X.xe s := by
  have w0 := I.env0
  have w1 : Env0 X.prog X.w X.K X.mg X.base A X.stack s H := ⟨hfr.trans w0.frames, w0.mod, w0.bs, w0.bsz, w0.funs, w0.frf, w0.hok, w0.bare⟩
  have len2 : 2 = ps.length := F.len _ _ _ _ h
  have bnd : BindsTo s fd ⟨[.ref a, .ref b], []⟩ (ps.zip [.ref a, .ref b]) := by
    have q := hb s [.ref a, .ref b] I.kIn (by simpa using len2)
    simpa using q
  refine wpAny_call (codeAny_mono (F.run A X.stack s H ⟨[.ref a, .ref b], []⟩ [.ref a, .ref b] [.ref a, .ref b] Q E hr w1 bnd (.cons rfl (.cons rfl .nil)) h) ?_)
  intro r s' z
  match r, z with
  | .error _, z => exact z.elim
  | .ok (.ret u), z => exact I.after z
/-- a == b -/
def rEqOwn (C : Addr) (sp : Sp) : R2 := fun x y H Q => ∃ (a b dx dy : Addr) (fs gs : List (Str × V)), x = .ref a ∧ y = .ref b ∧ H a = some (.ins C dx fs) ∧ H b = some (.ins C dy gs) ∧ sp [.ref a, .ref b] H (fun v H' => ∃ k, v = .bl k ∧ Q (.bl k) H') E0
theorem op_eqOwn (F : FnOk X.prog X.w X.K X.mg X.base CX0 n f fd ps sp) (hs : PySem.W.findIn X.K (.ref C) "__eq__" = some (some (.ref f))) (hf : PySem.W.isFn X.K (.ref f) = true) (hb : Binds X.K fd ps []) (hr : Room n X.A) :
    OpR X (compareOp .Eq) (rEqOwn C sp) := by
  rintro pins s σ H x y v u Q I rx ry ⟨a, b, dx, dy, fs, gs, rfl, rfl, ha, hb', q⟩
  cases rx
  cases ry
  obtain ⟨_, J1, _⟩ := ins_get I.hok ha
  obtain ⟨_, J2, _⟩ := ins_get I.hok hb'
  obtain ⟨_, K1, _⟩ := J1.look
  obtain ⟨_, K2, _⟩ := J2.look
  obtain ⟨_, fr⟩ := I.fr
  show wpAny (model X.prog X.w) X.A (richCompare .Eq (.ref a) (.ref b)) _ _ s
  refine PySem.W.cmp_K (op := .Eq) (tb := .ref C) hr.units0 fr I.ok.mod.kin K1 K2.type (by simp [PySem.W.notFirst]) hs hf ?_
  refine thn (run_eq F hb hr rfl I q) ?_
  rintro w s' ⟨z, H', I', rz, k, rfl, qk⟩
  cases rz
  exact ⟨.bl k, H', I', rfl, qk⟩
/-- a != b, no own != -/
def rNeOwn (C : Addr) (sp : Sp) : R2 := fun x y H Q => ∃ (a b dx dy : Addr) (fs gs : List (Str × V)), x = .ref a ∧ y = .ref b ∧ H a = some (.ins C dx fs) ∧ H b = some (.ins C dy gs) ∧ sp [.ref a, .ref b] H (fun v H' => ∃ k, v = .bl k ∧ Q (.bl (!k)) H') E0
theorem ne_run {P : Program} {w : World} {A : Around} {R : Fin → Shared → Prop} {E : Value → Shared → Prop} {K : PySem.W.Frag} {s : Shared} {a b C f : Addr} {ox : Obj} {od : Option Obj} (hu : A.units < cLine) (X : K.In s.heap) (I : PySem.W.InstAt s.heap a ox C od)
    (hs : PySem.W.findIn K (.ref C) "__eq__" = some (some (.ref f))) (hf : PySem.W.isFn K (.ref f) = true) (h : wpAny (model P w) A (call (.ref f) [.ref a, .ref b]) (fun v s' => ∃ k, v = .bool k ∧ R (.done (.ret (.bool (!k)))) s') E s) :
    wpAny (model P w) A (Builtin.«object.__ne__» ⟨[.ref a, .ref b], []⟩) R E s := by
  have e : Builtin.«object.__ne__» ⟨[.ref a, .ref b], []⟩ = (do
      cRoomFor "comparison" [.ref a, .ref b]
      let r ← callSpecialIfBound? (.ref a) "__eq__" [.ref b]
      match r with
      | some .notImplemented | none => PySem.ret .notImplemented
      | some r => PySem.ret (.bool (!(← truthy r)))) := by rfl
  rw [e]
  refine wpAny_bind (wpAny_cRoomFor hu ?_)
  refine wpAny_bind (PySem.W.ifBound_K X I hs hf (wpAny_mono h ?_ fun _ _ z => z))
  rintro v s' ⟨k, rfl, q⟩
  exact wpAny_bind (wpAny_truthy_bool (wpAny_pure q))
theorem op_neOwn (F : FnOk X.prog X.w X.K X.mg X.base CX0 n f fd ps sp) (hs : PySem.W.findIn X.K (.ref C) "__eq__" = some (some (.ref f))) (hf : PySem.W.isFn X.K (.ref f) = true) (hb : Binds X.K fd ps [])
    (hn : PySem.W.findIn X.K (.ref C) "__ne__" = some (some (.builtin "object.__ne__"))) (hm : PySem.W.mroIn X.K C (.type "object") = some true) (hr : Room (n + 1) X.A) :
    OpR X (compareOp .NotEq) (rNeOwn C sp) := by
  rintro pins s σ H x y v u Q I rx ry ⟨a, b, dx, dy, fs, gs, rfl, rfl, ha, hb', q⟩
  cases rx
  cases ry
  obtain ⟨_, J1, _⟩ := ins_get I.hok ha
  obtain ⟨_, J2, _⟩ := ins_get I.hok hb'
  obtain ⟨_, K1, _⟩ := J1.look
  obtain ⟨_, K2, _⟩ := J2.look
  have kin := I.kIn
  have sub : PySem.W.Looks (model X.prog X.w) s.heap (isInstance (.ref a) (.type "object")) true := K1.type.andThen (PySem.W.looks_mroIn kin hm)
  have r1 : Room n X.A.in1 := hr.in1
  have go : wpAny (model X.prog X.w) X.A (call (.builtin "object.__ne__") [.ref a, .ref b]) (fun v s' => v ≠ .notImplemented ∧ EP X pins σ Q v s') X.xe s := by
    refine wpAny_call (codeAny_call_builtin PySem.F.slot_tuple_iterator_ne.plain PySem.F.cmpEntry_ne (PySem.W.check_slot PySem.F.cmpKind_ne PySem.F.cmpSplit_ne sub (PySem.F.cmpArgs_ne _ _) ?_))
    refine ne_run r1.units0 kin K1 hs hf (thn (run_eq F hb r1 rfl I q) ?_)
    rintro w s' ⟨z, H', I', rz, k, rfl, qk⟩
    cases rz
    exact ⟨k, rfl, (fun z => by cases z), .bl (!k), H', I', rfl, qk⟩
  have one : wpAny (model X.prog X.w) X.A (tryCompare (.ref a) "__ne__" (.ref b)) (fun r s' => ∃ v, r = some v ∧ EP X pins σ Q v s') X.xe s := by
    unfold tryCompare
    refine wpAny_bind ?_
    simp only [callSpecialIfBound?, bindSpecialIfBound?]
    have bi : PySem.W.Looks (model X.prog X.w) s.heap (bindSpecial (.builtin "object.__ne__") (.ref a)) (.builtin "object.__ne__", [.ref a]) := PySem.W.Looks.of_pure (PySem.F.slot_tuple_iterator_ne.bind _)
    have last : wpAny (model X.prog X.w) X.A (call (.builtin "object.__ne__") ([.ref a] ++ [.ref b]) >>= fun v => pure (some v)) (fun r s' => wpAny (model X.prog X.w) X.A (match r with | some .notImplemented => pure none | none => pure none | some v => pure (some v)) (fun r s' => ∃ v, r = some v ∧ EP X pins σ Q v s') X.xe s') X.xe s := by
      refine wpAny_bind (thn go ?_)
      rintro v s' ⟨nv, ev⟩
      refine wpAny_pure ?_
      cases v <;> first | exact absurd rfl nv | exact wpAny_pure ⟨_, rfl, ev⟩
    refine wpAny_holding (wpAny_bind (wpAny_bind (wpAny_bind (K1.type.here ((PySem.W.looks_findIn kin hn).here ?_)))))
    refine wpAny_bind (wpAny_askSetting (wpAny_ite ?_))
    split
    · exact wpAny_bind (bi.here (wpAny_pure (by exact last)))
    · exact wpAny_tryCatch (wpAny_bind (bi.here (wpAny_pure (by exact last))))
  show wpAny (model X.prog X.w) X.A (richCompare .NotEq (.ref a) (.ref b)) _ _ s
  unfold richCompare
  simp only [oneThing_ref]
  refine wpAny_holding (wpAny_bind (wpAny_cRoomFor hr.units0 ?_))
  refine wpAny_bind (K1.type.here (wpAny_bind (K2.type.here ?_)))
  have e0 : (Value.ref C != Value.ref C) = false := by simp
  rw [e0]
  simp only [Bool.false_eq_true, if_false]
  refine wpAny_bind (wpAny_pure ?_)
  simp only [Bool.false_eq_true, if_false]
  refine wpAny_bind (wpAny_mono one ?_ fun _ _ z => z)
  rintro r s' ⟨v, rfl, q'⟩
  exact wpAny_pure q'
end
end My

namespace My
open PySem PySem.Spec PyProof.Rows L2
/-! ### in and not in a tuple of objects with an own == -/
section
open PySem.SeqAt
open AutoSeq1 (wpAny_loadPart')
open MeetsSeq MeetsSeq2 MeetsSeq3 SeqRoads2
variable {prog : Program} {w : World} {A : Around} {E : Value → Shared → Prop}
theorem contains_tupG {l : Addr} {items : Array Value} {n : Nat} {dd : Option Addr} {sl : Array (Option Value)} {x : Value} {Q : Bool → Shared → Prop} (I : List Value → Shared → Prop)
    (turn : ∀ y rest s, I (y :: rest) s → wpAny (model prog w) A.in1 (eqBool y x) (fun b s' => if b = true then Q true s' else I rest s') E s) (fin : ∀ s, I [] s → Q false s) {s : Shared}
    (hl : s.heap.get? l = some { cls := .type "tuple", dict := dd, data := .seq items n, slots := sl }) (h : I items.toList s) :
    wpAny (model prog w) A (call (.builtin "tuple.__contains__") [.ref l, x]) (fun v s' => ∃ b, v = .bool b ∧ Q b s') E s := by
  refine GQ.call_here F.slot_tuple_contains ⟨_, hl, rfl⟩ F.entry_tuple_contains (F.args_tuple_contains_2 _ _) ?_
  have h0 := h
  obtain ⟨hp, g, d, tk, os⟩ := s
  wp_walk using wpAny_loadPart' hl, wpAny_forIn_array _ (fun rest b s' => b.1 = none ∧ I rest s') _
  case turn =>
    rintro y rest b s' ⟨hb, hI⟩
    refine wpAny_bind (wpAny_mono (turn y rest s' hI) (fun r s2 q2 => ?_) fun _ _ x => x)
    cases r with
    | true =>
      rw [if_pos rfl] at q2
      wp_walk
      exact ⟨_, rfl, q2⟩
    | false =>
      rw [if_neg Bool.false_ne_true] at q2
      wp_walk
      exact ⟨rfl, q2⟩
  case fin =>
    rintro ⟨b1, b2⟩ s' ⟨hb, hI⟩
    simp only at hb
    subst hb
    wp_walk
    exact ⟨_, rfl, fin s' hI⟩
  case h =>
    exact ⟨rfl, h0⟩
end
section
variable {X : Cx} {C f : Addr} {fd : FuncData} {ps : List Str} {n : Nat} {sp : Sp}
def rInOwn (neg : Bool) (C : Addr) (sp : Sp) : R2 := fun x y H Q => ∃ (b db t : Addr) (gs : List (Str × V)) (as : List Addr) (e : Addr → Bool), x = .ref b ∧ y = .ref t ∧ H b = some (.ins C db gs) ∧ H t = some (.tup (as.map V.ref)) ∧
  (∀ a ∈ as, (∃ da fs, H a = some (.ins C da fs)) ∧ sp [.ref a, .ref b] H (fun v H' => v = .bl (e a) ∧ H' = H) E0) ∧ (b ∈ as → e b = true) ∧ Q (.bl (if neg = true then !as.any e else as.any e)) H
theorem in_own_core (F : FnOk X.prog X.w X.K X.mg X.base CX0 n f fd ps sp) (hs : PySem.W.findIn X.K (.ref C) "__eq__" = some (some (.ref f))) (hf : PySem.W.isFn X.K (.ref f) = true) (hb : Binds X.K fd ps []) (hr : Room (n + 1) X.A)
    {pins : List (Addr × Obj)} {s : Shared} {σ : L2.St} {H : Hp} {b db t : Addr} {gs : List (Str × V)} {as : List Addr} {e : Addr → Bool} {Q : Bool → Shared → Prop} (I : Inv X pins σ H s) (hb' : H b = some (.ins C db gs)) (ht : H t = some (.tup (as.map V.ref)))
    (ha : ∀ a ∈ as, (∃ da fs, H a = some (.ins C da fs)) ∧ sp [.ref a, .ref b] H (fun v H' => v = .bl (e a) ∧ H' = H) E0) (hi : b ∈ as → e b = true) (q : ∀ s', Inv X pins σ H s' → Q (as.any e) s') :
    wpAny (model X.prog X.w) X.A (contains (.ref t) (.ref b)) Q X.xe s := by
  obtain ⟨its, r, pl, hz⟩ := I.tuple (SqT.of ht)
  obtain ⟨⟨cls, dd, data, sl⟩, ho, hc, k, hd⟩ := id pl
  simp only at hc hd
  subst hc hd
  refine wpAny_contains_slot ⟨_, ho, rfl⟩ PySem.F.slot_tuple_contains ?_
  have rs : its = as.map Value.ref := by
    clear ha ht hi q ho hz pl
    generalize hx : as.map V.ref = xs at r
    induction r generalizing as with
    | nil => cases as with
      | nil => rfl
      | cons _ _ => cases hx
    | cons rv _ ih => cases as with
      | nil => cases hx
      | cons a as =>
        rw [List.map_cons] at hx
        injection hx with h1 h2
        subst h1
        cases rv
        rw [List.map_cons, ih h2]
  subst rs
  refine wpAny_mono (contains_tupG (fun rest s' => ∃ cs : List Addr, rest = cs.map Value.ref ∧ (∀ a ∈ cs, a ∈ as) ∧ cs.any e = as.any e ∧ Inv X pins σ H s') (Q := fun v s' => v = as.any e ∧ Inv X pins σ H s') ?_ ?_ ho ⟨as, by simp, fun a h => h, rfl, I⟩) (fun v s' hv => ?_) fun _ _ x => x
  · rintro y rest s' ⟨cs, hcs, hm, he, I'⟩
    cases cs with
    | nil => cases hcs
    | cons a cs =>
      rw [List.map_cons] at hcs
      injection hcs with h1 h2
      subst h1 h2
      rw [List.any_cons] at he
      obtain ⟨⟨da, fs, hA⟩, hsp⟩ := ha a (hm a List.mem_cons_self)
      by_cases hab : a = b
      · subst hab
        have ee := hi (hm a List.mem_cons_self)
        refine SeqAt.EqAt.same (A := X.A.in1) (s := s') (.ref a) X.prog X.w X.xe _ ?_
        rw [if_pos rfl]
        refine ⟨?_, I'⟩
        rw [← he, ee, Bool.true_or]
      · refine GQ.eqBool_refG hab ?_
        obtain ⟨_, J1, _⟩ := ins_get I'.hok hA
        obtain ⟨_, J2, _⟩ := ins_get I'.hok hb'
        obtain ⟨_, K1, _⟩ := J1.look
        obtain ⟨_, K2, _⟩ := J2.look
        obtain ⟨_, fr⟩ := I'.fr
        refine PySem.W.cmp_K (op := .Eq) (tb := .ref C) hr.in1.units0 fr I'.ok.mod.kin K1 K2.type (by simp [PySem.W.notFirst]) hs hf ?_
        refine thn (run_eq F hb hr.in1 rfl I' hsp) ?_
        rintro u s2 ⟨z, H', I2, rz, ez, eH⟩
        subst ez eH
        cases rz
        refine ⟨e a, rfl, ?_⟩
        cases ea : e a with
        | true =>
          rw [if_pos rfl]
          exact ⟨by rw [← he, ea, Bool.true_or], I2⟩
        | false =>
          rw [if_neg Bool.false_ne_true]
          exact ⟨cs, rfl, fun c hc => hm c (List.mem_cons_of_mem _ hc), by rw [← he, ea, Bool.false_or], I2⟩
  · rintro s' ⟨cs, hcs, _, he, I'⟩
    cases cs with
    | nil => exact ⟨he, I'⟩
    | cons a cs => cases hcs
  · obtain ⟨v', rfl, rfl, I'⟩ := hv
    exact wpAny_truthy_bool (q s' I')
theorem op_inOwn (F : FnOk X.prog X.w X.K X.mg X.base CX0 n f fd ps sp) (hs : PySem.W.findIn X.K (.ref C) "__eq__" = some (some (.ref f))) (hf : PySem.W.isFn X.K (.ref f) = true) (hb : Binds X.K fd ps []) (hr : Room (n + 1) X.A) :
    OpR X (compareOp .In) (rInOwn false C sp) := by
  rintro pins s σ H x y v u Q I rx ry ⟨b, db, t, gs, as, e, rfl, rfl, hB, ht, ha, hi, q⟩
  cases rx
  cases ry
  show wpAny _ X.A (do return Value.bool (← contains (.ref t) (.ref b))) _ _ s
  refine wpAny_bind (in_own_core F hs hf hb hr I hB ht ha hi fun s' I' => wpAny_pure ?_)
  exact ⟨.bl (as.any e), H, I', rfl, q⟩
theorem op_notInOwn (F : FnOk X.prog X.w X.K X.mg X.base CX0 n f fd ps sp) (hs : PySem.W.findIn X.K (.ref C) "__eq__" = some (some (.ref f))) (hf : PySem.W.isFn X.K (.ref f) = true) (hb : Binds X.K fd ps []) (hr : Room (n + 1) X.A) :
    OpR X (compareOp .NotIn) (rInOwn true C sp) := by
  rintro pins s σ H x y v u Q I rx ry ⟨b, db, t, gs, as, e, rfl, rfl, hB, ht, ha, hi, q⟩
  cases rx
  cases ry
  show wpAny _ X.A (do return Value.bool (!(← contains (.ref t) (.ref b)))) _ _ s
  refine wpAny_bind (in_own_core F hs hf hb hr I hB ht ha hi fun s' I' => wpAny_pure ?_)
  exact ⟨.bl (!as.any e), H, I', rfl, q⟩
end
end My

namespace My
open PySem PySem.Spec PyProof.Rows L2
/-! ### promises where no repr is under way -/
/-- a promise of the def at f, for surroundings in which nothing is being shown -/
structure FnG (P : Program) (w : World) (K : PySem.W.Frag) (mg : Str → Option Value) (base : Heap) (k : Nat) (f : Addr) (fd : FuncData) (ps : List Str) (sp : Sp) : Prop where
  len : ∀ vs H Q E, sp vs H Q E → vs.length = ps.length
  run : ∀ (A : Around) (outer : List Env) (s : Shared) (H : Hp) (args : Args) (us : List Value) (vs : List V) (Q : VK) (E : XK), A.guards = some [] → Room k A → Env0 P w K mg base A outer s H → BindsTo s fd args (ps.zip us) → Vals vs us → sp vs H Q E →
    codeAny (model P w) A (.call (.ref f) args) (CR CX0 outer P w H s Q E) s
section
variable {P : Program} {w : World} {K : PySem.W.Frag} {mg : Str → Option Value} {base : Heap}
theorem FnG.by_body {x qual : Str} {st : Stmt} {f : Addr} {fd : FuncData} {N ps : List Str} {k : Nat} {sp : Sp} (F : Fun K x qual st f fd) (S : FnScope N ps (defScope st)) (len : ∀ vs H Q E, sp vs H Q E → vs.length = ps.length)
    (body : ∀ (cdv : Value) (A : Around) (outer : List Env) (s : Shared) (H : Hp) (vs : List V) (Q : VK) (E : XK), A.guards = some [] → Room k (A.deeper (envOfC qual (defScope st) s.heap.objs.size f cdv)) → sp vs H Q E →
      ∃ t, PSs (cxOf CX0 P w K mg base N qual (defScope st) f cdv A outer s H E).nox (defBody st) t ∧ t { nx := fun _ H' => Q .non H', rt := Q } (start N vs) H) : FnG P w K mg base (k + 1) f fd ps sp := by
  obtain ⟨_, _, _, _, _, _, cdv, _, _, rfl, look, code⟩ := F.ex
  constructor
  · exact len
  intro A outer s H args us vs Q E hg hr e0 hb rel hsp
  have n := len _ _ _ _ hsp
  have old : ∀ b o, base.get? b = some o → s.heap.get? b = some o := fun b o e => (e0.bs b o e).1
  have inK : K.In s.heap := e0.mod.kin.keeps old
  obtain ⟨t, ht, q⟩ := body cdv A outer s H vs Q E hg (hr.deeper _) hsp
  have named : ∀ y ∈ ps.zip us, (defScope st).names.lookup y.1 = some .local ∨ ((defScope st).names.lookup y.1 = some .cell ∧ ((cellsFrom (s.heap.objs.size + 1) (defScope st).names []).lookup y.1).isSome = true) := by
    rintro ⟨m, v⟩ hy
    exact (S.par m (List.of_mem_zip hy).1).imp (fun z => z) fun z => ⟨z, PySem.W.cellsFrom_some _ _ _ (.inl z)⟩
  refine codeAny_call_function hr.depth (inK _ _ look) rfl S.co S.gen rfl (PySem.W.codeRec_of inK code) (hb _ _ _ _ (wpAny_newFunctionEnv_cells S.kind named fun env he s1 z => ?_))
  subst he
  refine ⟨(e0.mod.nolimit.keeps old).keeps z.toInCall.keep, codeAny_func (wpAny_mono (ht.nox.run [] s1 (start N vs) H _ (inv_start S hr.hd e0 n rel z) q) ?_ fun _ _ h => h)⟩
  intro fl s' h
  match fl, h with
  | .ret u, ⟨v, σ', H', J, rv, q'⟩ => exact ⟨v, H', J.os, J.bare, J.base, J.hok, rv, q'⟩
  | .next, ⟨σ', H', J, q'⟩ => exact ⟨V.non, H', J.os, J.bare, J.base, J.hok, rfl, q'⟩
  | .brk, ⟨_, _, _, q'⟩ => exact q'.elim
  | .cont, ⟨_, _, _, q'⟩ => exact q'.elim
end
section
variable {X : Cx} {k : Nat} {f : Addr} {fd : FuncData} {ps : List Str} {sp : Sp} {dvs : List V} {ds : List Value} {E : XK} {x : Str} {p pos : Pos} {e : Expr} {es : List Expr} {t : TA}
/-- a call of such a def -/
theorem pe_callG (hA : X.A.guards = some []) (F : FnG X.prog X.w X.K X.mg X.base k f fd ps sp) (hr : Room k X.A) (hg : Gl X x) (hm : X.mg x = some (.ref f)) (hk : PySem.W.keepIn X.K (.ref f) = true) (hb : Binds X.K fd ps ds) (hd : Vals dvs ds) (hx : Passes CX0 X E)
    (ha : PA X (e :: es) t) (hdb : (x == ("__debug__" : Str)) = false := by decide) (he : starEach (e :: es) X.env = (false, eval e X.env) :: starEach es X.env := by rfl) (hpl : (backTo pos (starEach es X.env)).any (·.1) = false := by rfl) :
    PE X (.Call (.Name x p) (e :: es) [] pos) (tCall sp dvs E t) := by
  constructor
  intro pins s σ H Q I h
  refine wpAny_Call_Name_kw (ld_glob I hg hm ?_ hdb)
  refine PySem.W.callWith_K (h₀ := X.base) I.ok.mod.kin hk (thn (ha.run pos pins s σ H _ I h) ?_) he hpl
  rintro us s1 ⟨vs, H1, J, rel, q⟩
  refine ⟨J.kIn, ?_⟩
  have both := rel.append hd
  have n : (us ++ ds).length = ps.length := by rw [← both.length]; exact F.len _ _ _ _ q
  refine wpAny_call (codeAny_mono (F.run X.A X.stack s1 H1 ⟨us, []⟩ (us ++ ds) (vs ++ dvs) Q E hA hr J.env0 (hb s1 us J.kIn n) both q) ?_)
  intro r s' z
  match r, z with
  | .error _, z => exact hx pins σ H1 s1 _ s' J z
  | .ok (.ret _), z => exact J.after z
/-- repr of data -/
def rRepr (K : PySem.W.Frag) : List V → Hp → VK → Prop := fun xs H Q => ∃ (a : Addr) (d : PyData), xs = [.ref a] ∧ Dp K H (.ref a) d ∧ d.showable = true ∧ d.hasDict = false ∧ d.depth ≤ 60 ∧ d.shown.length ≤ sizeLine ∧ Q (.str d.shown) H
theorem call_repr (hA : X.A.guards = some []) (hu : X.A.units + 64 < cLine) : CallR X (.builtin "repr") (rRepr X.K) := by
  rintro pins s σ H xs us Q I r ⟨a, d, rfl, hd, hs, hn, hz, hl, q⟩
  obtain ⟨u, rfl, rx⟩ := vals1 r
  cases rx
  obtain ⟨as, rd⟩ := Dp.reads I d (.ref a) (.ref a) hd rfl
  exact repr_of_reads' rd hs (PyData.noDict_hsm hn) hA (by omega) (fun _ _ e => e) (fun h' u tk hk => ⟨.str d.shown, H, I.kept hk, ⟨_, rfl⟩, q⟩) hl
end
end My
namespace My
open PySem PySem.Spec PyProof.Rows L2
/-! ### the law's call, by such a promise -/
section
variable {P : Program} {w : World} {K : PySem.W.Frag} {mg mb : Str → Option Value} {k : Nat} {fa a : Addr} {fd : FuncData} {x : Str} {sp : Sp} {s₁ : Shared} {vs : List Value} {ns : List Int}
/-- with H tracked: nothing but the script, and not even this where it is the module's own -/
theorem law_with (KX : K.In s₁.heap) (hns : s₁.heap.Ns mainGlobals mg) (hb : s₁.heap.Ns builtinsNs mb) (hbb : ∀ x : Str, x ≠ "__name__" → mb x = bootBuiltins x) (hlim : s₁.heap.NoLimit) (hg : s₁.gens = #[])
    (ha : s₁.heap.get? a = some { cls := .type "list", data := .seq vs.toArray }) (hr : Room k callerA)
    (F : ∀ base : Heap, K.In base → base.Ns mainGlobals mg → FnG P w K mg base k fa fd [x] sp) (hbind : ∀ (s : Shared) (u : Value), BindsTo s fd ⟨[u], []⟩ [(x, u)])
    {H : Hp} (off : ∀ b, b ≠ a → H b = none) (own : K.lookup a ≠ none → H a = none) (frz : ∀ u, H a = some u → ∃ ob xs, u = .frz ob (.lst xs)) (hok : HOk P w H s₁.heap)
    (hsp : sp [.ref a] H (fun v _ => v = .bl true) fun _ _ _ => False) :
    codeAny (model P w) callerA (.call (.ref fa) ⟨[.ref a], []⟩) (fun r s' => r = .ok (.ret (.bool true)) ∧ OldK s₁.heap s'.heap ∧ s'.os = s₁.os ∧ AllBare s'.gens) s₁ := by
  have stays : ∀ {b : Addr} {o : Obj}, s₁.heap.get? b = some o → b ≠ a → (hidT s₁.heap H).get? b = some o := fun e n => hidT_get e (off _ n)
  have dicts : ∀ {b : Addr} {o : Obj} {es : Array DictEntry} {n : Nat}, s₁.heap.get? b = some o → o.data = .dict es n → b ≠ a := by
    rintro b o es n e d rfl
    rw [ha] at e
    cases e
    cases d
  have tables : ∀ {b : Addr} {m : Str → Option Value}, s₁.heap.Ns b m → (hidT s₁.heap H).Ns b m := fun {b m} h => by
    obtain ⟨o, es, n, e, d, r⟩ := h
    exact ⟨o, es, n, stays e (dicts e d), d, r⟩
  have inK : K.In (hidT s₁.heap H) := fun b o e => by
    by_cases z : b = a
    · subst z
      exact hidT_get (KX _ _ e) (own (by rw [e]; simp))
    · exact stays (KX _ _ e) z
  obtain ⟨mc, l1, l2⟩ := hlim
  have e0 : Env0 P w K mg (hidT s₁.heap H) callerA [] s₁ H :=
    ⟨rfl, ⟨inK, tables hns, ⟨mb, tables hb, hbb⟩, mc, tables l1, l2⟩, fun b o e => of_hidT e, Nat.le_of_eq (hidT_size _ _), trivial, fun b hb => absurd (show b ∈ ([] : List Addr) from hb) (by simp), hok, .of_eq hg⟩
  have run := (F _ inK (tables hns)).run callerA [] s₁ H ⟨[.ref a], []⟩ [.ref a] [.ref a] _ _ rfl hr e0 (hbind s₁ (.ref a)) (.cons rfl .nil) hsp
  refine codeAny_mono run ?_
  intro r s' h
  match r, h with
  | .error _, h => exact False.elim h
  | .ok (.ret u), ⟨v, H', os, bare, un, hok', rv, q⟩ =>
    have q' : v = .bl true := q
    subst q'
    obtain rfl : u = Value.bool true := rv
    refine ⟨rfl, OldK.of_keep fun b o e => ?_, os, bare⟩
    cases z : H b with
    | none => exact un.keep b o e z (fun y => absurd (show b ∈ ([] : List Addr) from y) (by simp)) (by simp)
    | some u =>
      have ba : b = a := Classical.byContradiction fun y => by rw [off b y] at z; cases z
      subst ba
      obtain ⟨ob, xs, rfl⟩ := frz u z
      obtain ⟨e1, _⟩ := hok b _ z
      obtain ⟨e2, _⟩ := hok' b _ (un.frzs b ob _ z)
      rw [e] at e1
      cases e1
      exact e2
theorem law_callG (KX : K.In s₁.heap) (hns : s₁.heap.Ns mainGlobals mg) (hb : s₁.heap.Ns builtinsNs mb) (hbb : ∀ x : Str, x ≠ "__name__" → mb x = bootBuiltins x) (hlim : s₁.heap.NoLimit) (hg : s₁.gens = #[])
    (ha : s₁.heap.get? a = some { cls := .type "list", data := .seq vs.toArray }) (hi : IntsAre vs ns) (hl : ns.length ≤ sizeLine) (hr : Room k callerA)
    (F : ∀ base : Heap, K.In base → base.Ns mainGlobals mg → FnG P w K mg base k fa fd [x] sp) (hbind : ∀ (s : Shared) (u : Value), BindsTo s fd ⟨[u], []⟩ [(x, u)])
    (hsp : ∀ H : Hp, SqL K H a (ns.map V.int) → sp [.ref a] H (fun v _ => v = .bl true) fun _ _ _ => False) :
    codeAny (model P w) callerA (.call (.ref fa) ⟨[.ref a], []⟩) (fun r s' => r = .ok (.ret (.bool true)) ∧ OldK s₁.heap s'.heap ∧ s'.os = s₁.os ∧ AllBare s'.gens) s₁ := by
  have rel := vals_ints hi
  by_cases hk : K.lookup a = none
  · let it : HO := .frz { cls := .type "list", data := .seq vs.toArray } (.lst (ns.map V.int))
    have there : upd (fun _ => none) a it a = some it := upd_same
    refine law_with KX hns hb hbb hlim hg ha hr F hbind (H := upd (fun _ => none) a it) (fun b n => upd_ne n) (fun z => absurd hk z) (fun u e => ?_) (fun b u e => ?_) (hsp _ (.inl (.inr ⟨_, there⟩)))
    · rw [there] at e
      cases e
      exact ⟨_, _, rfl⟩
    · by_cases z : b = a
      · subst z
        rw [there] at e
        cases e
        exact ⟨ha, by rw [List.length_map]; exact hl, vs, _, rel, ha⟩
      · rw [upd_ne z] at e
        cases e
  · obtain ⟨o, ho⟩ := Option.ne_none_iff_exists'.mp hk
    have e := KX a o ho
    rw [ha] at e
    cases e
    refine law_with KX hns hb hbb hlim hg ha hr F hbind (H := fun _ => none) (fun b n => rfl) (fun _ => rfl) (fun u e => by cases e) (fun b u e => by cases e) (hsp _ (.inr ⟨_, vs.toArray, _, ho, rfl, rfl, rfl, by rw [List.size_toArray, hi.length]; exact hl, by simpa using rel⟩))
theorem walk_ofG {l : PySem.W.OpenLaw} {n k : Nat} {q : Program} {loose : List Str} {XP : (Str → Option Value) → Heap → Prop} {YP : World → Heap → Prop} {d : DefRec} {K : Params → PySem.W.Frag} {sp : World → Sp} {x : Str}
    (hn : l.most = some n) (hn2 : n ≤ sizeLine) (hdf : d.params.defaults = []) (hr : Room k callerA) (hY : ∀ (w : World) (h : Heap), YP w h → (K w.params).In h)
    (F : ∀ (w : World) (mg : Str → Option Value) (fa : Addr) (h : Heap), (K w.params).In h → h.Ns mainGlobals mg → mg d.name = some (.ref fa) →
      ∃ fd : FuncData, (∀ (s : Shared) (u : Value), BindsTo s fd ⟨[u], []⟩ [(x, u)]) ∧ ∀ base : Heap, (K w.params).In base → base.Ns mainGlobals mg → FnG l.prog w (K w.params) mg base k fa fd [x] (sp w))
    (hsp : ∀ (w : World) (H : Hp) (a : Addr) (ns : List Int), ns.length ≤ n → SqL (K w.params) H a (ns.map V.int) → sp w [.ref a] H (fun v _ => v = .bl true) fun _ _ _ => False) :
    PySem.W.WalkO q loose XP YP l.row.toRowW d [] (fun f vs => PySem.call f vs) := by
  refine Att.attach_call hn hdf fun w s₀ s₁ mg mb fa o pm cd doc a vs ns G Y ho hd hcd hmg hobj hints hlen hg => ?_
  have KX := hY w _ Y
  obtain ⟨fd, hb, hF⟩ := F w mg fa _ KX G.T.g hmg
  exact law_callG KX G.T.g G.T.b G.T.builtins G.T.nolimit hg hobj hints (Nat.le_trans hlen hn2) hr hF hb fun H hS => hsp w H a ns hlen hS
end
end My

namespace My
open PySem PySem.Spec PyProof.Rows L2
section
variable {X : Cx}
/-- repr of data, whatever its kind -/
def rReprA (K : PySem.W.Frag) : List V → Hp → VK → Prop := fun xs H Q => ∃ (x : V) (d : PyData), xs = [x] ∧ Dp K H x d ∧ d.showable = true ∧ d.hasDict = false ∧ d.depth ≤ 60 ∧ d.shown.length ≤ sizeLine ∧ Q (.str d.shown) H
theorem call_reprA (hA : X.A.guards = some []) (hu : X.A.units + 64 < cLine) : CallR X (.builtin "repr") (rReprA X.K) := by
  rintro pins s σ H xs us Q I r ⟨x, d, rfl, hd, hs, hn, hz, hl, q⟩
  obtain ⟨u, rfl, rx⟩ := vals1 r
  cases hd with
  | non =>
    cases rx
    exact PySem.P.repr_of_none ⟨.str _, H, I.tok _, ⟨_, rfl⟩, q⟩
  | bl b =>
    obtain ⟨t, rfl⟩ := rx
    exact PySem.P.repr_of_bool ⟨.str _, H, I.tok _, ⟨_, rfl⟩, q⟩
  | int i =>
    obtain ⟨t, rfl⟩ := rx
    exact PySem.P.repr_of_int (by simpa [PyData.showable] using hs) ⟨.str _, H, I.tok _, ⟨_, rfl⟩, q⟩
  | str z =>
    obtain ⟨t, rfl⟩ := rx
    exact PySem.P.repr_of_str ⟨.str _, H, I.tok _, ⟨_, rfl⟩, q⟩ hl
  | lst h1 h2 =>
    cases rx
    obtain ⟨as, rd⟩ := Dp.reads I _ _ _ (.lst h1 h2) rfl
    exact repr_of_reads' rd hs (PyData.noDict_hsm hn) hA (by omega) (fun _ _ e => e) (fun h' u tk hk => ⟨.str _, H, I.kept hk, ⟨_, rfl⟩, q⟩) hl
  | tup h1 h2 =>
    cases rx
    obtain ⟨as, rd⟩ := Dp.reads I _ _ _ (.tup h1 h2) rfl
    exact repr_of_reads' rd hs (PyData.noDict_hsm hn) hA (by omega) (fun _ _ e => e) (fun h' u tk hk => ⟨.str _, H, I.kept hk, ⟨_, rfl⟩, q⟩) hl
end
/-- none, or a whole number, shown -/
theorem data_opt {d : PyData} (h : d = .none ∨ ∃ i : Int, d = .int i ∧ i.natAbs < 2 ^ 1900) : d.showable = true ∧ d.hasDict = false ∧ d.depth ≤ 60 ∧ d.shown.length ≤ sizeLine := by
  rcases h with rfl | ⟨i, rfl, hi⟩
  · refine ⟨?_, ?_, ?_, ?_⟩ <;> first | rfl | decide +kernel
  · have l1 : i.natAbs.log2 < 1920 := Nat.lt_of_lt_of_le (PySem.Flt.log2_lt_of (by decide) hi) (by decide)
    have s1 : (PyData.shown (.int i)).length ≤ 1921 := PyProof.Rows.int_text_len_1921 l1
    refine ⟨?_, ?_, ?_, ?_⟩
    · simpa only [PyData.showable, decide_eq_true_eq] using l1
    · simp [PyData.hasDict]
    · simp [PyData.depth]
    · exact Nat.le_trans s1 (by decide)
end My

namespace PySem
namespace ErV
open PySem.W PySem.Calls PyProof.Rows PySem.HandSPX Builtin Builtin.ObjectAttr
/-! ### errors held as values: their fields stored by an own __init__ -/
theorem first_store {P : Program} {w : World} {A : Around} {R : Result → Shared → Prop} {h0 : Heap} {gs : Array GenState} {dr : Drawn} {t0 : Nat} {oss : OsState}
    {K : Frag} {nm : Str} {tk : Tok} {val : Value} {e C : Addr} {fs : Array Value} {cd : ClassData} (kin : K.In h0) (he : h0.get? e = some { cls := .ref C, data := .fields fs }) (hc : clsIn K C = some cd)
    (pass : refuseLoop (.ref e) "__setattr__" cd.mro = pure ()) (isObj : mroIn K C (.type "object") = some true) (hasD : cd.hasDict = true) (no : findIn K (.ref C) nm = some none)
    (go : ∀ h1 t1 dx, (∀ b o, b ≠ e → h0.get? b = some o → h1.get? b = some o) → h0.objs.size ≤ dx → dx ≠ e → h1.get? e = some { cls := .ref C, dict := some dx, data := .fields fs } → h1.Ns1 dx (fun y => if y = nm then some val else none) → R (.ok (.ret .none)) ⟨h1, gs, dr, t1, oss⟩) :
    codeAny (model P w) A (.call (.builtin "object.__setattr__") ⟨[.ref e, .str nm tk, val], []⟩) R ⟨h0, gs, dr, t0, oss⟩ := by
  have inst : InstAt h0 e { cls := .ref C, data := .fields fs } C none := ⟨he, rfl, rfl, trivial⟩
  have old : e ≠ h0.objs.size := Nat.ne_of_lt (Heap.lt_size he)
  have st := F.store_object
  have under : Looks (model P w) h0 (isInstance (.ref e) (.type "object")) true := inst.type.andThen (looks_mroIn kin isObj)
  refine codeAny_call_builtin st.slot.plain st.entry (@check_slot (model P w) _ _ ⟨h0, gs, dr, t0, oss⟩ "object.__setattr__" "object" "__setattr__" (.ref e) [.str nm tk, val] [] _ st.kind st.split under (st.args (.ref e) (.str nm tk) val) ?_)
  have chain : Looks (model P w) h0 (mroOf (.ref C)) cd.mro := (looks_clsIn kin hc).andThen .now
  have taker : Looks (model P w) h0 (storeTaker? none) none := .now
  have data : Looks (model P w) h0 (classData C) cd := looks_clsIn kin hc
  rw [osa_eq, refuse_eq]
  refine wpAny_bind (wpAny_bind (inst.type.at (wpAny_bind (chain.at ?_))))
  rw [pass]
  refine wpAny_pure (wpAny_bind (inst.type.at (wpAny_bind ((looks_findIn kin no).at (wpAny_bind (taker.at ?_))))))
  show wpAny _ _ (storeInOwnDict (.ref e) (.ref C) (.str nm tk) nm val false) _ _ _
  obtain ⟨c1, c2, c3, c4, c5, c6, c7, c8, c9, c10, c11⟩ := cd
  dsimp only at hasD
  subst hasD
  unfold storeInOwnDict ownDictForStores
  repeat (first | with_reducible refine store_in_new ?_ ?_ | with_reducible refine wpAny_loadPart_at he ?_ | with_reducible refine data.at ?_ | wp_step)
  · exact ⟨_, #[], _, (Heap.get?_update_ne _ _ _ _ old.symm).trans (Heap.get?_push_at rfl rfl), rfl, fun x hx => absurd hx (by simp), fun _ => rfl⟩
  · intro h1 t1 ns but
    have now : (h0.push { cls := .type "dict", data := .dict #[] }).get? e = some { cls := .ref C, data := .fields fs } := Heap.get?_push_of_some _ he
    refine go h1 t1 h0.objs.size (fun b o nb ho => ?_) (Nat.le_refl _) old.symm ?_ ns
    · exact (but.2 b (Nat.ne_of_lt (Heap.lt_size ho))).trans ((Heap.get?_update_ne _ _ _ _ nb).trans (Heap.get?_push_of_some _ ho))
    · exact (but.2 e old).trans (Heap.get?_update_self _ now rfl)

/-- a second field -/
theorem next_store {P : Program} {w : World} {A : Around} {R : Result → Shared → Prop} {h0 : Heap} {gs : Array GenState} {dr : Drawn} {t0 : Nat} {oss : OsState}
    {K : Frag} {nm : Str} {tk : Tok} {val : Value} {e C dx : Addr} {fs : Array Value} {cd : ClassData} {m0 : Str → Option Value} {ns : List Str} (kin : K.In h0) (he : h0.get? e = some { cls := .ref C, dict := some dx, data := .fields fs }) (hc : clsIn K C = some cd)
    (pass : refuseLoop (.ref e) "__setattr__" cd.mro = pure ()) (isObj : mroIn K C (.type "object") = some true) (hasD : cd.hasDict = true) (no : findIn K (.ref C) nm = some none)
    (hn : h0.Ns1 dx m0) (hw : Within m0 ns) (hz : ns.length ≤ 1000)
    (go : ∀ h1 t1, (∀ b o, b ≠ dx → h0.get? b = some o → h1.get? b = some o) → h1.Ns1 dx (fun y => if y = nm then some val else m0 y) → R (.ok (.ret .none)) ⟨h1, gs, dr, t1, oss⟩) :
    codeAny (model P w) A (.call (.builtin "object.__setattr__") ⟨[.ref e, .str nm tk, val], []⟩) R ⟨h0, gs, dr, t0, oss⟩ := by
  obtain ⟨oD, hoD, _⟩ := L2.lookIn_ns hn
  have inst : InstAt h0 e { cls := .ref C, dict := some dx, data := .fields fs } C (some oD) := ⟨he, rfl, rfl, hoD⟩
  have st := F.store_object
  have under : Looks (model P w) h0 (isInstance (.ref e) (.type "object")) true := inst.type.andThen (looks_mroIn kin isObj)
  refine codeAny_call_builtin st.slot.plain st.entry (@check_slot (model P w) _ _ ⟨h0, gs, dr, t0, oss⟩ "object.__setattr__" "object" "__setattr__" (.ref e) [.str nm tk, val] [] _ st.kind st.split under (st.args (.ref e) (.str nm tk) val) ?_)
  have chain : Looks (model P w) h0 (mroOf (.ref C)) cd.mro := (looks_clsIn kin hc).andThen .now
  have taker : Looks (model P w) h0 (storeTaker? none) none := .now
  have data : Looks (model P w) h0 (classData C) cd := looks_clsIn kin hc
  rw [osa_eq, refuse_eq]
  refine wpAny_bind (wpAny_bind (inst.type.at (wpAny_bind (chain.at ?_))))
  rw [pass]
  refine wpAny_pure (wpAny_bind (inst.type.at (wpAny_bind ((looks_findIn kin no).at (wpAny_bind (taker.at ?_))))))
  show wpAny _ _ (storeInOwnDict (.ref e) (.ref C) (.str nm tk) nm val false) _ _ _
  obtain ⟨c1, c2, c3, c4, c5, c6, c7, c8, c9, c10, c11⟩ := cd
  dsimp only at hasD
  subst hasD
  unfold storeInOwnDict ownDictForStores
  repeat (first | with_reducible refine ESX.store_in_old hn hw hz ?_ | with_reducible refine wpAny_loadPart_at he ?_ | with_reducible refine data.at ?_ | wp_step)
  intro h' tk' hn' hs
  exact go h' tk' (fun b o hb ho => (hs.2 b hb).trans ho) hn'
/-- what the written part says of an error's class, at C, whose __init__ stands at fI; tl: what is above it -/
structure ErrCls (K : Frag) (C fI : Addr) : Prop where
  cls : ∃ nm q N bs tl sn sub ab col dd k0 k1 k2 k3 k5 newId B initId bmB, K.lookup C = some (excClassObj nm q C N bs tl true sn sub ab col dd k0 k1 k2 k3 k5 newId) ∧ ExcBaseFacts B newId initId bmB ∧
    (∀ X : String, tl.contains (.type X) = bmB.contains (.type X)) ∧ (∀ self : Value, refuseLoop self "__setattr__" tl = pure ()) ∧ tl.contains (.type "object") = true
  sa : findIn K (.ref C) "__setattr__" = some (some (.builtin "object.__setattr__"))
  iC : findIn K (.ref C) "__init__" = some (some (.ref fI))
  tC : typeIn K (.ref fI) = some (.type "function")
  kC : keepIn K (.ref C) = true
theorem one_size (v : Value) : [v].length ≤ sizeLine := by
  rw [sizeLine_eq]
  exact (by decide : 1 ≤ 16777216)
theorem two_size (v u : Value) : [v, u].length ≤ sizeLine := by
  rw [sizeLine_eq]
  exact (by decide : 2 ≤ 16777216)
theorem ldC {M : Model} {s : Shared} {name : Str} {scope : Scope} {L a : Addr} {cd : Value} {m : Str → Option Value} {x : Str} {pos : Pos} {v : Value} {Q : Value → Shared → Prop} {A : Around} {E : Value → Shared → Prop} (hn : s.heap.Ns L m) (hv : m x = some v) (h : Q v s)
    (hk : scope.kind = .function := by rfl) (hl : (envOfC name scope L a cd).kindOf x = some .local := by rfl) (hd : (x == ("__debug__" : Str)) = false := by decide) :
    wpAny M A (eval (.Name x pos) (envOfC name scope L a cd)) Q E s := wpAny_Name (wpAny_loadName_local hk hl hn hv h) hd
/-- what __init__ leaves of a fresh exception at x -/
structure InitEnd (h h' : Heap) (x C dx t1 : Addr) (m : Str → Option Value) : Prop where
  keep : ∀ b o, b ≠ x → h.get? b = some o → h'.get? b = some o
  obj : h'.get? x = some { cls := .ref C, dict := some dx, data := .fields #[.ref t1, .none, .none, .none, .bool false, .none] }
  dbig : h.objs.size ≤ dx
  dne : dx ≠ x
  ns : h'.Ns1 dx m
/-- a made error -/
structure OwnMade (h h' : Heap) (e C d : Addr) (m : Str → Option Value) : Prop where
  keep : ∀ b o, h.get? b = some o → h'.get? b = some o
  new : h.objs.size ≤ e
  obj : ∃ oe vs, h'.get? e = some oe ∧ oe.cls = .ref C ∧ oe.dict = some d ∧ oe.data = .fields vs ∧ vs[1]? = some .none ∧ vs[2]? = some .none
  dbig : h.objs.size ≤ d
  dne : d ≠ e
  ns : h'.Ns1 d m
/-- what a call of the class comes to: its __init__, on a fresh exception -/
def InitRuns (prog : Program) (w : World) (K : Frag) (C fI : Addr) (args : List Value) (m : Str → Option Value) : Prop :=
  ∀ {A : Around} {R : Result → Shared → Prop} {s : Shared} {x t0 : Addr}, K.In s.heap → s.heap.NoLimit → s.heap.get? x = some (excO C t0) → K.lookup x = none → A.depth < recursionLimit →
    (∀ h' tk dx, InitEnd s.heap h' x C dx t0 m → R (.ok (.ret .none)) { s with heap := h', toks := tk }) →
    codeAny (model prog w) A (.call (.ref fI) ⟨.ref x :: args, []⟩) R s
theorem err_made {prog : Program} {w : World} {A : Around} {R : Result → Shared → Prop} {s : Shared} {K : Frag} {C fI : Addr} {args : List Value} {m : Str → Option Value} (T : ErrCls K C fI) (run : InitRuns prog w K C fI args m) (sz : args.length ≤ sizeLine)
    (X : K.In s.heap) (hlim : s.heap.NoLimit) (hroom : A.depth + 1 < recursionLimit) (hq : ∀ h' tk e d, OwnMade s.heap h' e C d m → R (.ok (.ret (.ref e))) { s with heap := h', toks := tk }) :
    codeAny (model prog w) A (.call (.ref C) ⟨args, []⟩) R s := by
  obtain ⟨nm, q, N, bs, bm, sn, sub, ab, col, dd, k0, k1, k2, k3, k5, newId, B, initId, bmB, hC, FB, hcon, _, _⟩ := T.cls
  obtain ⟨hp, g, dr, tk, os⟩ := s
  have k : ∀ b o, hp.get? b = some o → ((hp.push (kdv_tup args)).push (excO C hp.objs.size)).get? b = some o := fun b o e => Heap.get?_push_of_some _ (Heap.get?_push_of_some _ e)
  have hget : ((hp.push (kdv_tup args)).push (excO C hp.objs.size)).get? (hp.objs.size + 1) = some (excO C hp.objs.size) := by heap_get
  have hnx : K.lookup (hp.objs.size + 1) = none := by
    cases e : K.lookup (hp.objs.size + 1) with
    | none => rfl
    | some o =>
      have z : hp.get? (hp.objs.size + 1) = some o := X _ _ e
      exact absurd (Nat.lt_of_succ_lt (Heap.lt_size z)) (Nat.lt_irrefl _)
  refine call_own FB hcon (X _ _ hC) (looks_findIn X T.iC) (fun self => bind_fn X self T.tC) sz ?_
  refine run (s := ⟨(hp.push (kdv_tup args)).push (excO C hp.objs.size), g, dr, tk, os⟩) (X.keeps k) (hlim.keeps k) hget hnx ?_ fun h' tk' dx ⟨k', hx, dn, dne, hns⟩ => ?_
  · show A.depth + 1 < recursionLimit
    exact hroom
  · have old : ∀ b o, hp.get? b = some o → h'.get? b = some o := fun b o e => k' b o (Nat.ne_of_lt (Nat.lt_succ_of_lt (Heap.lt_size e))) (k b o e)
    have z : hp.objs.size + 1 + 1 ≤ dx := by
      first
        | (simpa only [Heap.size_push] using dn)
        | exact dn
        | (have q := dn; rw [Heap.size_push, Heap.size_push] at q; exact q)
    exact ⟨rfl, hq h' tk' (hp.objs.size + 1) dx ⟨old, Nat.le_succ _, ⟨_, _, hx, rfl, rfl, rfl, rfl, rfl⟩, Nat.le_trans (Nat.le_trans (Nat.le_succ _) (Nat.le_succ _)) z, dne, hns⟩⟩

/-! #### __init__(self, at): self.at = at -/
def iA_at (p1 p2 : Pos) : Arguments := { posonlyargs := [], args := [{ arg := "self", annotation := none, pos := p1 }, { arg := "at", annotation := none, pos := p2 }], vararg := none, kwonlyargs := [], kw_defaults := [], kwarg := none, defaults := [] }
def iB_at (q1 q2 q3 q4 : Pos) : List Stmt := [.Assign [.Attribute (.Name "self" q1) "at" q2] (.Name "at" q3) q4]
def iS_at : Scope := { kind := .function, names := [(PySem.Str.ofString "self", .local), (PySem.Str.ofString "at", .local)], isGenerator := false, isCoroutine := false, more := [] }
def Fn_at (K : Frag) (fI : Addr) (q : Str) : Prop := ∃ (oc : Value) (od : Option Addr) (doc pm : Value) (an : Option Addr) (cdv ct : Value) (osl : Array (Option Value)) (p1 p2 q1 q2 q3 q4 : Pos),
    K.lookup fI = some ⟨oc, od, .func (fnOf "__init__" q (iA_at p1 p2) (iB_at q1 q2 q3 q4) iS_at .none .none doc pm an cdv ct), osl⟩ ∧ codeIn K cdv q = true
theorem runs_at {prog : Program} {w : World} {K : Frag} {C fI : Addr} {q : Str} (T : ErrCls K C fI) (fn : Fn_at K fI q) (noN : findIn K (.ref C) "at" = some none) (v : Value) :
    InitRuns prog w K C fI [v] (fun y => if y = "at" then some v else none) := by
  intro A R s x t0 X hlim hx hnx hroom hq
  obtain ⟨oc, od, doc, pm, an, cdv, ct, osl, p1, p2, q1, q2, q3, q4, ho, hcd⟩ := fn
  obtain ⟨nm, qn, N, bs, bm, sn, sub, ab, col, dd, k0, k1, k2, k3, k5, newId, B, initId, bmB, hC, _, _, hpass, hobj⟩ := T.cls
  have hcl : clsIn K C = some { name := nm, bases := bs, mro := .ref C :: bm, ns := N, qualname := qn, hasDict := true, slotNames := sn, subclasses := sub, abstract := ab, collection := col, hasDel := false } := by unfold clsIn; rw [hC] <;> rfl
  refine Att.call_fn (binds := [("self", .ref x), ("at", v)]) X hlim ho hcd hroom (BindsTo.of_eq (by first | rfl | with_unfolding_all rfl)) (by first | rfl | decide | with_unfolding_all rfl) (fun s₁ IC => ?_) rfl rfl rfl
  obtain ⟨h₁, tk₁, rfl⟩ := IC.toInCall.same
  have k : ∀ b o, s.heap.get? b = some o → h₁.get? b = some o := IC.toInCall.keep
  have hn := IC.toInCall.ns
  have X₁ : K.In h₁ := X.keeps k
  have hx₁ := k _ _ hx
  show wpAny _ _ (execs _ _) _ _ _
  refine wpAny_execs_cons (plainObj_wpAny_Assign_Attribute ?_)
  refine ldC (v := v) hn (by first | rfl | with_unfolding_all rfl | kernel_rfl) (ldC (v := .ref x) hn (by first | rfl | with_unfolding_all rfl | kernel_rfl) ?_)
  refine set_plain X₁ (ox := excO C t0) (od := none) ⟨hx₁, rfl, rfl, trivial⟩ T.sa ?_
  refine first_store X₁ hx₁ hcl (by show refuseLoop _ _ (Value.ref C :: bm) = _; rw [refuseLoop_ref]; exact hpass _) (by unfold mroIn; rw [hcl, Option.bind_some]; show (if List.isEmpty (Value.ref C :: bm) = true then _ else some ((Value.ref C :: bm).contains (.type "object"))) = _; rw [if_neg (by exact Bool.false_ne_true), List.contains_cons, hobj, Bool.or_true]) rfl noN (fun h₃ tk₃ dx k₃ dn dne hx₃ hn₃ => ?_)
  show wpAny _ _ (execs _ _) _ _ _
  have z : s.heap.objs.size < h₁.objs.size := hn.lt
  exact wpAny_execs_nil (hq h₃ tk₃ dx ⟨fun b o hb e => k₃ b o hb (k b o e), hx₃, Nat.le_of_lt (Nat.lt_of_lt_of_le z dn), dne, hn₃⟩)

/-! #### __init__(self, top): self.top = top -/
def iA_top (p1 p2 : Pos) : Arguments := { posonlyargs := [], args := [{ arg := "self", annotation := none, pos := p1 }, { arg := "top", annotation := none, pos := p2 }], vararg := none, kwonlyargs := [], kw_defaults := [], kwarg := none, defaults := [] }
def iB_top (q1 q2 q3 q4 : Pos) : List Stmt := [.Assign [.Attribute (.Name "self" q1) "top" q2] (.Name "top" q3) q4]
def iS_top : Scope := { kind := .function, names := [(PySem.Str.ofString "self", .local), (PySem.Str.ofString "top", .local)], isGenerator := false, isCoroutine := false, more := [] }
def Fn_top (K : Frag) (fI : Addr) (q : Str) : Prop := ∃ (oc : Value) (od : Option Addr) (doc pm : Value) (an : Option Addr) (cdv ct : Value) (osl : Array (Option Value)) (p1 p2 q1 q2 q3 q4 : Pos),
    K.lookup fI = some ⟨oc, od, .func (fnOf "__init__" q (iA_top p1 p2) (iB_top q1 q2 q3 q4) iS_top .none .none doc pm an cdv ct), osl⟩ ∧ codeIn K cdv q = true
theorem runs_top {prog : Program} {w : World} {K : Frag} {C fI : Addr} {q : Str} (T : ErrCls K C fI) (fn : Fn_top K fI q) (noN : findIn K (.ref C) "top" = some none) (v : Value) :
    InitRuns prog w K C fI [v] (fun y => if y = "top" then some v else none) := by
  intro A R s x t0 X hlim hx hnx hroom hq
  obtain ⟨oc, od, doc, pm, an, cdv, ct, osl, p1, p2, q1, q2, q3, q4, ho, hcd⟩ := fn
  obtain ⟨nm, qn, N, bs, bm, sn, sub, ab, col, dd, k0, k1, k2, k3, k5, newId, B, initId, bmB, hC, _, _, hpass, hobj⟩ := T.cls
  have hcl : clsIn K C = some { name := nm, bases := bs, mro := .ref C :: bm, ns := N, qualname := qn, hasDict := true, slotNames := sn, subclasses := sub, abstract := ab, collection := col, hasDel := false } := by unfold clsIn; rw [hC] <;> rfl
  refine Att.call_fn (binds := [("self", .ref x), ("top", v)]) X hlim ho hcd hroom (BindsTo.of_eq (by first | rfl | with_unfolding_all rfl)) (by first | rfl | decide | with_unfolding_all rfl) (fun s₁ IC => ?_) rfl rfl rfl
  obtain ⟨h₁, tk₁, rfl⟩ := IC.toInCall.same
  have k : ∀ b o, s.heap.get? b = some o → h₁.get? b = some o := IC.toInCall.keep
  have hn := IC.toInCall.ns
  have X₁ : K.In h₁ := X.keeps k
  have hx₁ := k _ _ hx
  show wpAny _ _ (execs _ _) _ _ _
  refine wpAny_execs_cons (plainObj_wpAny_Assign_Attribute ?_)
  refine ldC (v := v) hn (by first | rfl | with_unfolding_all rfl | kernel_rfl) (ldC (v := .ref x) hn (by first | rfl | with_unfolding_all rfl | kernel_rfl) ?_)
  refine set_plain X₁ (ox := excO C t0) (od := none) ⟨hx₁, rfl, rfl, trivial⟩ T.sa ?_
  refine first_store X₁ hx₁ hcl (by show refuseLoop _ _ (Value.ref C :: bm) = _; rw [refuseLoop_ref]; exact hpass _) (by unfold mroIn; rw [hcl, Option.bind_some]; show (if List.isEmpty (Value.ref C :: bm) = true then _ else some ((Value.ref C :: bm).contains (.type "object"))) = _; rw [if_neg (by exact Bool.false_ne_true), List.contains_cons, hobj, Bool.or_true]) rfl noN (fun h₃ tk₃ dx k₃ dn dne hx₃ hn₃ => ?_)
  show wpAny _ _ (execs _ _) _ _ _
  have z : s.heap.objs.size < h₁.objs.size := hn.lt
  exact wpAny_execs_nil (hq h₃ tk₃ dx ⟨fun b o hb e => k₃ b o hb (k b o e), hx₃, Nat.le_of_lt (Nat.lt_of_lt_of_le z dn), dne, hn₃⟩)

/-! #### __init__(self, thing): self.thing = thing -/
def iA_thing (p1 p2 : Pos) : Arguments := { posonlyargs := [], args := [{ arg := "self", annotation := none, pos := p1 }, { arg := "thing", annotation := none, pos := p2 }], vararg := none, kwonlyargs := [], kw_defaults := [], kwarg := none, defaults := [] }
def iB_thing (q1 q2 q3 q4 : Pos) : List Stmt := [.Assign [.Attribute (.Name "self" q1) "thing" q2] (.Name "thing" q3) q4]
def iS_thing : Scope := { kind := .function, names := [(PySem.Str.ofString "self", .local), (PySem.Str.ofString "thing", .local)], isGenerator := false, isCoroutine := false, more := [] }
def Fn_thing (K : Frag) (fI : Addr) (q : Str) : Prop := ∃ (oc : Value) (od : Option Addr) (doc pm : Value) (an : Option Addr) (cdv ct : Value) (osl : Array (Option Value)) (p1 p2 q1 q2 q3 q4 : Pos),
    K.lookup fI = some ⟨oc, od, .func (fnOf "__init__" q (iA_thing p1 p2) (iB_thing q1 q2 q3 q4) iS_thing .none .none doc pm an cdv ct), osl⟩ ∧ codeIn K cdv q = true
theorem runs_thing {prog : Program} {w : World} {K : Frag} {C fI : Addr} {q : Str} (T : ErrCls K C fI) (fn : Fn_thing K fI q) (noN : findIn K (.ref C) "thing" = some none) (v : Value) :
    InitRuns prog w K C fI [v] (fun y => if y = "thing" then some v else none) := by
  intro A R s x t0 X hlim hx hnx hroom hq
  obtain ⟨oc, od, doc, pm, an, cdv, ct, osl, p1, p2, q1, q2, q3, q4, ho, hcd⟩ := fn
  obtain ⟨nm, qn, N, bs, bm, sn, sub, ab, col, dd, k0, k1, k2, k3, k5, newId, B, initId, bmB, hC, _, _, hpass, hobj⟩ := T.cls
  have hcl : clsIn K C = some { name := nm, bases := bs, mro := .ref C :: bm, ns := N, qualname := qn, hasDict := true, slotNames := sn, subclasses := sub, abstract := ab, collection := col, hasDel := false } := by unfold clsIn; rw [hC] <;> rfl
  refine Att.call_fn (binds := [("self", .ref x), ("thing", v)]) X hlim ho hcd hroom (BindsTo.of_eq (by first | rfl | with_unfolding_all rfl)) (by first | rfl | decide | with_unfolding_all rfl) (fun s₁ IC => ?_) rfl rfl rfl
  obtain ⟨h₁, tk₁, rfl⟩ := IC.toInCall.same
  have k : ∀ b o, s.heap.get? b = some o → h₁.get? b = some o := IC.toInCall.keep
  have hn := IC.toInCall.ns
  have X₁ : K.In h₁ := X.keeps k
  have hx₁ := k _ _ hx
  show wpAny _ _ (execs _ _) _ _ _
  refine wpAny_execs_cons (plainObj_wpAny_Assign_Attribute ?_)
  refine ldC (v := v) hn (by first | rfl | with_unfolding_all rfl | kernel_rfl) (ldC (v := .ref x) hn (by first | rfl | with_unfolding_all rfl | kernel_rfl) ?_)
  refine set_plain X₁ (ox := excO C t0) (od := none) ⟨hx₁, rfl, rfl, trivial⟩ T.sa ?_
  refine first_store X₁ hx₁ hcl (by show refuseLoop _ _ (Value.ref C :: bm) = _; rw [refuseLoop_ref]; exact hpass _) (by unfold mroIn; rw [hcl, Option.bind_some]; show (if List.isEmpty (Value.ref C :: bm) = true then _ else some ((Value.ref C :: bm).contains (.type "object"))) = _; rw [if_neg (by exact Bool.false_ne_true), List.contains_cons, hobj, Bool.or_true]) rfl noN (fun h₃ tk₃ dx k₃ dn dne hx₃ hn₃ => ?_)
  show wpAny _ _ (execs _ _) _ _ _
  have z : s.heap.objs.size < h₁.objs.size := hn.lt
  exact wpAny_execs_nil (hq h₃ tk₃ dx ⟨fun b o hb e => k₃ b o hb (k b o e), hx₃, Nat.le_of_lt (Nat.lt_of_lt_of_le z dn), dne, hn₃⟩)

/-! #### __init__(self, low, high) -/
def iA_lh (p1 p2 p3 : Pos) : Arguments := { posonlyargs := [], args := [{ arg := "self", annotation := none, pos := p1 }, { arg := "low", annotation := none, pos := p2 }, { arg := "high", annotation := none, pos := p3 }], vararg := none, kwonlyargs := [], kw_defaults := [], kwarg := none, defaults := [] }
def iB_lh (q1 q2 q3 q4 r1 r2 r3 r4 : Pos) : List Stmt := [.Assign [.Attribute (.Name "self" q1) "low" q2] (.Name "low" q3) q4, .Assign [.Attribute (.Name "self" r1) "high" r2] (.Name "high" r3) r4]
def iS_lh : Scope := { kind := .function, names := [(PySem.Str.ofString "self", .local), (PySem.Str.ofString "low", .local), (PySem.Str.ofString "high", .local)], isGenerator := false, isCoroutine := false, more := [] }
def Fn_lh (K : Frag) (fI : Addr) (q : Str) : Prop := ∃ (oc : Value) (od : Option Addr) (doc pm : Value) (an : Option Addr) (cdv ct : Value) (osl : Array (Option Value)) (p1 p2 p3 q1 q2 q3 q4 r1 r2 r3 r4 : Pos),
    K.lookup fI = some ⟨oc, od, .func (fnOf "__init__" q (iA_lh p1 p2 p3) (iB_lh q1 q2 q3 q4 r1 r2 r3 r4) iS_lh .none .none doc pm an cdv ct), osl⟩ ∧ codeIn K cdv q = true
theorem runs_lh {prog : Program} {w : World} {K : Frag} {C fI : Addr} {q : Str} (T : ErrCls K C fI) (fn : Fn_lh K fI q) (no1 : findIn K (.ref C) "low" = some none) (no2 : findIn K (.ref C) "high" = some none) (v u : Value) :
    InitRuns prog w K C fI [v, u] (fun y => if y = "high" then some u else (if y = "low" then some v else none)) := by
  intro A R s x t0 X hlim hx hnx hroom hq
  obtain ⟨oc, od, doc, pm, an, cdv, ct, osl, p1, p2, p3, q1, q2, q3, q4, r1, r2, r3, r4, ho, hcd⟩ := fn
  obtain ⟨nm, qn, N, bs, bm, sn, sub, ab, col, dd, k0, k1, k2, k3, k5, newId, B, initId, bmB, hC, _, _, hpass, hobj⟩ := T.cls
  have hcl : clsIn K C = some { name := nm, bases := bs, mro := .ref C :: bm, ns := N, qualname := qn, hasDict := true, slotNames := sn, subclasses := sub, abstract := ab, collection := col, hasDel := false } := by unfold clsIn; rw [hC] <;> rfl
  have hps : refuseLoop (.ref x) "__setattr__" (Value.ref C :: bm) = pure () := by rw [refuseLoop_ref]; exact hpass _
  have hob : mroIn K C (.type "object") = some true := by unfold mroIn; rw [hcl, Option.bind_some]; show (if List.isEmpty (Value.ref C :: bm) = true then _ else some ((Value.ref C :: bm).contains (.type "object"))) = _; rw [if_neg (by exact Bool.false_ne_true), List.contains_cons, hobj, Bool.or_true]
  refine Att.call_fn (binds := [("self", .ref x), ("low", v), ("high", u)]) X hlim ho hcd hroom (BindsTo.of_eq (by first | rfl | with_unfolding_all rfl)) (by first | rfl | decide | with_unfolding_all rfl) (fun s₁ IC => ?_) rfl rfl rfl
  obtain ⟨h₁, tk₁, rfl⟩ := IC.toInCall.same
  have k : ∀ b o, s.heap.get? b = some o → h₁.get? b = some o := IC.toInCall.keep
  have hn := IC.toInCall.ns
  have X₁ : K.In h₁ := X.keeps k
  have hx₁ := k _ _ hx
  show wpAny _ _ (execs _ _) _ _ _
  refine wpAny_execs_cons (plainObj_wpAny_Assign_Attribute ?_)
  refine ldC (v := v) hn (by first | rfl | with_unfolding_all rfl | kernel_rfl) (ldC (v := .ref x) hn (by first | rfl | with_unfolding_all rfl | kernel_rfl) ?_)
  refine set_plain X₁ (ox := excO C t0) (od := none) ⟨hx₁, rfl, rfl, trivial⟩ T.sa ?_
  refine first_store X₁ hx₁ hcl hps hob rfl no1 (fun h₃ tk₃ dx k₃ dn dne hx₃ hn₃ => ?_)
  have hxL : s.heap.objs.size ≠ x := Nat.ne_of_gt (Heap.lt_size hx)
  have X₃ : K.In h₃ := fun a o e => k₃ a o (fun z => by rw [z, hnx] at e; cases e) (X₁ a o e)
  obtain ⟨oL, es, ep, hoL, rL⟩ := id hn
  have hn3 : h₃.Ns s.heap.objs.size _ := ⟨oL, es, ep, k₃ _ _ hxL hoL, rL⟩
  show wpAny _ _ (execs _ _) _ _ _
  refine wpAny_execs_cons (plainObj_wpAny_Assign_Attribute ?_)
  refine ldC (v := u) hn3 (by first | rfl | with_unfolding_all rfl | kernel_rfl) (ldC (v := .ref x) hn3 (by first | rfl | with_unfolding_all rfl | kernel_rfl) ?_)
  obtain ⟨oD, hoD, _⟩ := L2.lookIn_ns hn₃
  refine set_plain X₃ (ox := { cls := .ref C, dict := some dx, data := .fields #[.ref t0, .none, .none, .none, .bool false, .none] }) (od := some oD) ⟨hx₃, rfl, rfl, hoD⟩ T.sa ?_
  refine next_store X₃ hx₃ hcl hps hob rfl no2 hn₃ (Within.cons "low" v Within.nil) (by decide) (fun h₄ tk₄ k₄ hn₄ => ?_)
  show wpAny _ _ (execs _ _) _ _ _
  have z : s.heap.objs.size < h₁.objs.size := hn.lt
  have old : ∀ b o, b ≠ x → s.heap.get? b = some o → h₄.get? b = some o := fun b o hb e => by
    have lt : b < h₁.objs.size := Heap.lt_size (k b o e)
    exact k₄ b o (fun q => by rw [q] at lt; exact absurd dn (Nat.not_le.mpr lt)) (k₃ b o hb (k b o e))
  exact wpAny_execs_nil (hq h₄ tk₄ dx ⟨old, k₄ x _ (Ne.symm dne) hx₃, Nat.le_of_lt (Nat.lt_of_lt_of_le z dn), dne, hn₄⟩)
end ErV
end PySem

namespace PySem
namespace NoBX
open PySem.Spec PySem.W PySem.Calls PyProof.Rows
/-! ### isinstance of a caught error that has a dict of its own -/
section
variable {P : Program} {w : World} {A : Around} {E : Value → Shared → Prop} {sh : Shared} {K : Frag} {e D : Addr} {oe : Obj} {od : Option Obj}
theorem found_first {name : Str} {at' gt : Value} (c : (clsIn K D).isSome = true) (f : findIn K (.ref D) name = some (some at')) (g : specialIn K at' "__get__" = some (some gt)) (t : takesIn K at' = some true) : findObj K D od name = some (.bind gt at') := by
  obtain ⟨cd, h⟩ := Option.isSome_iff_exists.mp c
  unfold findObj
  rw [h, Option.bind_some, f, Option.bind_some]
  simp [g, t]
theorem class_told {Q : Option Value → Shared → Prop} (C : L2.ExcC K D) (kin : K.In sh.heap) (I : InstAt sh.heap e oe D od) (q : Q (some (.ref D)) { sh with toks := sh.toks + 1 }) : wpAny (model P w) A (getAttr? (.ref e) "__class__") Q E sh := by
  have ff : findObj K D od "__class__" = some (.bind (.builtin "getset_descriptor.__get__") (.builtin "object.__class__")) := found_first (by obtain ⟨cd, h, _⟩ := any_some C.hd; rw [h]; rfl) C.ha C.hn C.ht
  obtain ⟨hh, gg, dn, tt, oo⟩ := sh
  have tyE := I.type (M := model P w)
  have askG := looks_findIn (M := model P w) kin C.hg
  have askK := looks_findIn (M := model P w) kin C.hk
  have askF := looks_find (M := model P w) kin I ff
  have under : Looks (model P w) hh (isInstance (.ref e) (.type "BaseException")) true := tyE.andThen (looks_subIn kin C.hs)
  have b0 : (false && onTheHeap (Value.builtin "BaseException.__getattribute__")) = false := rfl
  have b2 : (Value.builtin "BaseException.__getattribute__" == Value.builtin "object.__getattribute__") = false := by decide +kernel
  have b1 : (onTheHeap (Value.ref D) && Value.builtin "BaseException.__getattribute__" == Value.builtin "object.__getattribute__") = false := by rw [b2]; rfl
  unfold getAttr? getAttrBy? getAttrBy
  refine wpAny_bind (wpAny_mkText (wpAny_bind (wpAny_attempt (wpAny_holding (wpAny_bind (tyE.at (wpAny_bind (askG.at ?_))))))))
  show wpAny _ _ (if (onTheHeap (Value.ref D) && Value.builtin "BaseException.__getattribute__" == Value.builtin "object.__getattribute__") = true then _ else _) _ _ _
  rw [b1, if_neg Bool.false_ne_true]
  unfold getAttrByItsOwn hookBefore
  refine wpAny_bind ?_
  rw [if_pos (show onTheHeap (Value.ref D) = true from rfl)]
  refine askK.at ?_
  refine wpAny_bind (wpAny_attempt (wpAny_holding ?_))
  unfold callGetattribute
  rw [b0, if_neg Bool.false_ne_true]
  unfold boundAndCalled
  rw [PySem.F.excAttr_ValueError.ga.bind (.ref e)]
  refine wpAny_bind (wpAny_pure ?_)
  show wpAny _ _ (call (.builtin "BaseException.__getattribute__") [.ref e, .str "__class__" tt]) _ _ _
  refine wpAny_call (codeAny_call_builtin PySem.F.excAttr_ValueError.ga.plain PySem.F.entry_bexc_ga ?_)
  refine @check_slot (model P w) _ _ ⟨hh, gg, dn, tt + 1, oo⟩ "BaseException.__getattribute__" "BaseException" "__getattribute__" (.ref e) [.str "__class__" tt] [] _ (by decide +kernel) (by decide +kernel) under (PySem.F.args_bexc_ga (.ref e) (.str "__class__" tt)) ?_
  unfold Builtin.«object.__getattribute__»
  refine wpAny_bind (wpAny_of_eq (a := ((Value.ref e : Value), [Value.str "__class__" tt])) (by first | rfl | (simp only [slotArgs]; rfl)) ?_)
  refine wpAny_bind (wpAny_pure (wpAny_bind (tyE.at (wpAny_bind (askF.at ?_)))))
  show wpAny _ _ (holding [Value.builtin "object.__class__"] (call (.builtin "getset_descriptor.__get__") [.builtin "object.__class__", .ref e, .ref D]) >>= ret) _ _ _
  refine wpAny_bind (wpAny_holding (wpAny_call (class_get (s := ⟨hh, gg, dn, tt + 1, oo⟩) (ox := oe) (od := od) kin I C.hm ?_)))
  refine wpAny_pure ?_
  show wpAny _ _ (handedOut (.ref D)) _ _ _
  rw [handedOut_of (v := .ref D) rfl]
  first
    | exact wpAny_pure (wpAny_pure q)
    | exact wpAny_pure q
    | exact wpAny_pure (wpAny_bind (wpAny_pure (wpAny_pure q)))
theorem kit_err (C : L2.ExcC K D) : KitX K (.ref e) (.ref D) (fun h => ∃ o, InstAt h e oe D (some o)) where
  ty := fun _ _ _ ⟨_, I⟩ => I.type
  it := fun _ _ kin _ => by
    obtain ⟨cd, h, _⟩ := any_some C.hd
    unfold clsIn at h
    split at h
    · rename_i ho
      intro A' Q' E' s' k q
      unfold isType loadHead
      exact wpAny_bind (wpAny_loadPart (k _ _ (kin _ _ ho)) (wpAny_pure q))
    · cases h
  ne := fun h tp dd its n sl kin htp => by
    obtain ⟨cd, hc, _⟩ := any_some C.hd
    refine Bool.eq_false_iff.mpr fun q => ?_
    have z : D = tp := Value.ref.inj (beq_iff_eq.mp q)
    subst z
    unfold clsIn at hc
    split at hc
    · rename_i ho
      have z := (kin _ _ ho).symm.trans htp
      cases z
    · cases hc
  ca := fun kin ⟨_, I⟩ k => class_told C kin I k
end
end NoBX
end PySem
namespace L2
open PySem PySem.Spec PyProof.Rows
/-- isinstance(e, c), isinstance(e, (c1, ..)): e the error that the suite holds, of the class D -/
def rIsErr (K : PySem.W.Frag) (D a : Addr) (cls : Value) (d : Option Addr) : List V → Hp → VK → Prop := fun xs H Q => cls = .ref D ∧ ∃ (dd : Addr) (l : List (Str × V)), d = some dd ∧ H dd = some (.xd l) ∧
  ((∃ (c : V) (cv : Value) (b : Bool), xs = [.ref a, c] ∧ ClsV c cv ∧ PySem.W.kitOne K (.ref D) cv = some b ∧ Q (.bl b) H) ∨
    ∃ (tp : Addr) (cs : List V) (us : List Value) (b : Bool), xs = [.ref a, .ref tp] ∧ H tp = some (.tup cs) ∧ Paired ClsV cs us ∧ PySem.W.kitAny K (.ref D) us = some b ∧ Q (.bl b) H)
theorem call_isErr {X : Cx} {a D : Addr} {cls : Value} {d : Option Addr} {oe : Obj} {pn : List (Addr × Obj)} (C : ExcC X.K D) (hz : Zc cls d oe) (hf : ∃ vs, oe.data = .fields vs) : CallR (X.suite a ((a, oe) :: pn)) (.builtin "isinstance") (rIsErr X.K D a cls d) := by
  rintro pins s σ H xs us Q I r ⟨rfl, dd, l, rfl, hd, h⟩
  obtain ⟨at', _⟩ := I.pin (a, oe) (List.mem_append.mpr (.inl List.mem_cons_self))
  obtain ⟨vs, hv⟩ := hf
  have hx : ObjOk X.prog X.w H s.heap dd (.xd l) := I.hok dd _ hd
  obtain ⟨mA, hns, _⟩ := hx
  obtain ⟨od, ho, _⟩ := lookIn_ns hns
  have J : PySem.W.InstAt s.heap a oe D (some od) := ⟨at', hz.1, by unfold PySem.W.notCls; rw [hv] <;> rfl, by rw [hz.2]; exact ho⟩
  rcases h with ⟨c, cv, b, rfl, kc, e, q⟩ | ⟨tp, cs, ws, b, rfl, hT, kc, e, q⟩
  · obtain ⟨u1, u2, rfl, r1, r2⟩ := vals2 r
    cases (show u1 = Value.ref a from r1)
    have ec := kc.eq r2
    subst ec
    exact PySem.W.kia_one (NoBX.kit_err C) I.kIn ⟨_, J⟩ e (fun z => nomatch z) fun tk => ⟨.bl b, H, I.tok tk, rfl, q⟩
  · obtain ⟨u1, u2, rfl, r1, r2⟩ := vals2 r
    cases (show u1 = Value.ref a from r1)
    cases (show u2 = Value.ref tp from r2)
    obtain ⟨_, its, rv, o, h1, h2, n, h3⟩ := (show ObjOk X.prog X.w H s.heap tp (.tup cs) from I.hok tp _ hT)
    have e3 := ClsV.all kc rv
    subst e3
    obtain ⟨oc, odd, dt, sl⟩ := o
    simp only at h2 h3
    subst h2 h3
    exact PySem.W.kia_tup (NoBX.kit_err C) I.kIn ⟨_, J⟩ h1 e (fun z => nomatch z) fun tk => ⟨.bl b, H, I.tok tk, rfl, q⟩
end L2

namespace L2
open PySem PySem.Spec PyProof.Rows
/-! ### errors as values: made, asked, their fields read -/
/-- an error that stands at e -/
def ErrO (oe : Obj) (e : Addr) : HO := .ext fun h => h.get? e = some oe
theorem errO_ok {P : Program} {w : World} {H : Hp} {h : Heap} {e : Addr} {oe : Obj} (q : h.get? e = some oe) : ObjOk P w H h e (ErrO oe e) := ⟨q, ⟨oe, q⟩, fun _ _ p k => k oe p⟩
theorem errO_at {P : Program} {w : World} {H : Hp} {h : Heap} {e : Addr} {oe : Obj} (hok : HOk P w H h) (q : H e = some (ErrO oe e)) : h.get? e = some oe := by
  obtain ⟨z, _, _⟩ := hok e _ q
  exact z
/-- an error's object: of the class C, its fields at d -/
structure ErrOb (oe : Obj) (C d : Addr) : Prop where
  cls : oe.cls = .ref C
  dict : oe.dict = some d
  dat : ∃ vs, oe.data = .fields vs
/-- an error of the class C stands at e, with its fields at d -/
def ErrAt (pn : List (Addr × Obj)) (H : Hp) (e C d : Addr) : Prop := ∃ oe, (H e = some (ErrO oe e) ∨ (e, oe) ∈ pn) ∧ ErrOb oe C d
/-- its fields -/
def ErrV (pn : List (Addr × Obj)) (H : Hp) (e C : Addr) (l : List (Str × V)) : Prop := ∃ d, ErrAt pn H e C d ∧ H d = some (.xd l)
theorem ErrV.any {pn : List (Addr × Obj)} {H : Hp} {e C : Addr} {l : List (Str × V)} (x : ErrV [] H e C l) : ErrV pn H e C l := by
  obtain ⟨d, ⟨oe, h, ob⟩, hd⟩ := x
  rcases h with h | h
  · exact ⟨d, ⟨oe, .inl h, ob⟩, hd⟩
  · cases h
theorem ErrV.keep {pn : List (Addr × Obj)} {H H' : Hp} {e C : Addr} {l : List (Str × V)} (x : ErrV pn H e C l) (k : ∀ b o, H b = some o → (∃ φ, o = .ext φ) ∨ (∃ l, o = .xd l) → H' b = some o) : ErrV pn H' e C l := by
  obtain ⟨d, ⟨oe, h, ob⟩, hd⟩ := x
  refine ⟨d, ⟨oe, h.imp (fun z => k _ _ z (.inl ⟨_, rfl⟩)) id, ob⟩, k _ _ hd (.inr ⟨_, rfl⟩)⟩
section
variable {X : Cx}
theorem err_inst {pins : List (Addr × Obj)} {σ : St} {H : Hp} {s : Shared} {e C : Addr} {l : List (Str × V)} (I : Inv X pins σ H s) (x : ErrV X.pn H e C l) :
    ∃ oe d od mA, PySem.W.InstAt s.heap e oe C (some od) ∧ H d = some (.xd l) ∧ s.heap.Ns1 d mA ∧ (∀ f, RelO (l.lookup f) (mA f)) ∧ s.heap.get? d = some od ∧ ∀ name, PySem.W.lookIn name od = some (mA name) := by
  obtain ⟨d, ⟨oe, h, ob⟩, hd⟩ := x
  have he : s.heap.get? e = some oe := by
    rcases h with h | h
    · exact errO_at I.hok h
    · exact (I.pin (e, oe) (List.mem_append_left _ h)).1
  have hx : ObjOk X.prog X.w H s.heap d (.xd l) := I.hok d _ hd
  obtain ⟨mA, hns, hr⟩ := hx
  obtain ⟨od, ho, hl⟩ := lookIn_ns hns
  obtain ⟨vs, hv⟩ := ob.dat
  exact ⟨oe, d, od, mA, ⟨he, ob.cls, by unfold PySem.W.notCls; rw [hv] <;> rfl, by rw [ob.dict]; exact ho⟩, hd, hns, hr, ho, hl⟩
/-- isinstance(e, c) of such an error -/
def rIsErrV (K : PySem.W.Frag) (pn : List (Addr × Obj)) : List V → Hp → VK → Prop := fun xs H Q => ∃ (e C : Addr) (l : List (Str × V)) (c : V) (cv : Value) (b : Bool), xs = [.ref e, c] ∧ ErrV pn H e C l ∧ ExcC K C ∧ ClsV c cv ∧ PySem.W.kitOne K (.ref C) cv = some b ∧ Q (.bl b) H
theorem call_isErrV : CallR X (.builtin "isinstance") (rIsErrV X.K X.pn) := by
  rintro pins s σ H xs us Q I r ⟨e, C, l, c, cv, b, rfl, hx, EC, kc, hb, q⟩
  obtain ⟨oe, d, od, mA, J, _⟩ := err_inst I hx
  obtain ⟨u1, u2, rfl, r1, r2⟩ := vals2 r
  cases (show u1 = Value.ref e from r1)
  have ec := kc.eq r2
  subst ec
  exact PySem.W.kia_one (PySem.NoBX.kit_err EC) I.kIn ⟨_, J⟩ hb (fun z => nomatch z) fun tk => ⟨.bl b, H, I.tok tk, rfl, q⟩
/-- what the written part says of reading the field f of an error of the class C -/
structure ErrGet (K : PySem.W.Frag) (C : Addr) (f : Str) : Prop where
  ga : PySem.W.findIn K (.ref C) "__getattribute__" = some (some (.builtin "BaseException.__getattribute__"))
  gg : PySem.W.findIn K (.ref C) "__getattr__" = some none
  ex : PySem.W.subIn K (.ref C) (.type "BaseException") = some true
  hd : PySem.W.hasDictIn K C = true
  no : PySem.W.findIn K (.ref C) f = some none
/-- e.f of such an error -/
def tErrF (K : PySem.W.Frag) (f : Str) (te : TE) : TE := fun σ H Q => te σ H fun x H1 => ∃ (e C : Addr) (l : List (Str × V)) (v : V), x = .ref e ∧ ErrV [] H1 e C l ∧ ErrGet K C f ∧ l.lookup f = some v ∧ Q v H1
theorem pe_errFK {f : Str} {e : Expr} {te : TE} {pos : Pos} {K0 : PySem.W.Frag} (hK : X.K = K0) (he : PE X e te) (hb : attributeBase e f X.env (eval e X.env) = eval e X.env) :
    PE X (.Attribute e f pos) (tErrF K0 f te) := by
  subst hK
  refine ⟨fun pins s σ H Q I h => ?_⟩
  refine attr_of hb (thn (he.run pins s σ H _ I h) fun u s1 hh => ?_)
  obtain ⟨x, H1, I1, rx, a, C, l, v, ex, hx, G, hl, q⟩ := hh
  subst ex
  obtain rfl : u = Value.ref a := rx
  obtain ⟨oe, d, od, mA, J, _, hns, hr, _, hlk⟩ := err_inst I1 hx.any
  obtain ⟨u, hu, ru⟩ := RelO.some_of (v := v) (o := mA f) (by rw [← hl]; exact hr f)
  exact HandSPX.exc_get I1.kIn J G.ga G.gg G.ex (PySem.W.findObj_own G.hd G.no rfl (by rw [hlk, hu])) (handed_of ru) ⟨v, H1, I1.tok _, ru, q⟩
theorem pe_errF {f : Str} {e : Expr} {te : TE} {pos : Pos} (he : PE X e te) (hb : attributeBase e f X.env (eval e X.env) = eval e X.env := by rfl) :
    PE X (.Attribute e f pos) (tErrF X.K f te) := pe_errFK rfl he hb
/-- C(..): a new error, its fields l of what was handed in -/
def tMkErr (C : Addr) (fl : List V → Option (List (Str × V))) (ta : TA) : TE := fun σ H Q => ta σ H fun vs H1 => ∃ l, fl vs = some l ∧ ∀ e d oe, H1 e = none → H1 d = none → d ≠ e → ErrOb oe C d → Q (.ref e) (upd (upd H1 d (.xd l)) e (ErrO oe e))
/-- what a class's __init__ does with what it is handed -/
def ErrRun (X : Cx) (C fI : Addr) (fl : List V → Option (List (Str × V))) : Prop := ∀ (vs : List V) (us : List Value) (l : List (Str × V)), fl vs = some l → Vals vs us → ∃ m, PySem.ErV.InitRuns X.prog X.w X.K C fI us m ∧ us.length ≤ sizeLine ∧ ∀ f, RelO (l.lookup f) (m f)
theorem pe_mkErr {a : Expr} {es : List Expr} {ta : TA} {x : Str} {C fI : Addr} {fl : List V → Option (List (Str × V))} {p pos : Pos} {k : Nat} (T : PySem.ErV.ErrCls X.K C fI) (run : ErrRun X C fI fl) (hr : Room k X.A) (hk : 2 ≤ k) (ha : PA X (a :: es) ta) (hm : X.mg x = some (.ref C)) (hg : Gl X x := by rfl) (hdb : (x == ("__debug__" : Str)) = false := by decide)
    (he : starEach (a :: es) X.env = (false, eval a X.env) :: starEach es X.env := by rfl) (hpl : (backTo pos (starEach es X.env)).any (·.1) = false := by rfl) :
    PE X (.Call (.Name x p) (a :: es) [] pos) (tMkErr C fl ta) := by
  refine ⟨fun pins s σ H Q I h => ?_⟩
  refine wpAny_Call_Name_kw (ld_glob I hg hm ?_ hdb)
  refine PySem.W.callWith_K (h₀ := X.base) I.ok.mod.kin T.kC (thn (ha.run pos pins s σ H _ I h) fun us s1 hh => ?_) he hpl
  obtain ⟨vs, H1, I1, r1, l, el, q1⟩ := hh
  refine ⟨I1.kIn, ?_⟩
  obtain ⟨m, rn, sz, rel⟩ := run vs us l el r1
  have hlim := I1.nolimit
  obtain ⟨hp, g, dr, tk, os⟩ := s1
  refine wpAny_call (PySem.ErV.err_made T rn sz I1.kIn hlim (by have := hr.dp; omega) fun h' tk' e d M => ?_)
  obtain ⟨oe, fv, hoe, hc, hd, hdat, h1, h2⟩ := M.obj
  have hns := M.ns
  have ne : H1 e = none := I1.hok.fresh M.new
  have nd : H1 d = none := I1.hok.fresh M.dbig
  obtain ⟨G', g1, g2⟩ := restrict h' fun b => decide (b ≠ e)
  have gk : ∀ b, b ≠ e → G'.get? b = h'.get? b := fun b hb => g1 b (decide_eq_true hb)
  have ge : G'.get? e = none := g2 e (by simp)
  have old : ∀ b o, hp.get? b = some o → G'.get? b = some o := fun b o q => (gk b (Nat.ne_of_lt (Nat.lt_of_lt_of_le (Heap.lt_size q) M.new))).trans (M.keep b o q)
  have ob : ObjOk X.prog X.w (upd H1 d (.xd l)) G' d (.xd l) := ⟨_, hns.at (fun o q => (gk d M.dne).trans q), rel⟩
  have J : Inv X pins σ (upd H1 d (.xd l)) ⟨G', g, dr, tk', os⟩ := I1.laid (t' := tk') old M.dbig ob
  have J2 : Inv X pins σ (upd (upd H1 d (.xd l)) e (ErrO oe e)) ⟨h', g, dr, tk', os⟩ := J.laidN (h' := h') (t' := tk') (fun b o q => by
    by_cases hb : b = e
    · have q' : G'.get? b = some o := q
      rw [hb, ge] at q'; cases q'
    · exact (gk b hb).symm.trans q) ge (by rw [upd_ne (Ne.symm M.dne)]; exact ne) (errO_ok hoe)
  exact ⟨.ref e, _, J2, rfl, q1 e d oe ne nd M.dne ⟨hc, hd, ⟨_, hdat⟩⟩⟩
/-- raise C(..) within a def, caught there or above -/
def tMkRaise (C : Addr) (fl : List V → Option (List (Str × V))) (ta : TA) : St → Hp → XK → Prop := fun σ H Q => ta σ H fun vs H1 => ∃ l, fl vs = some l ∧ ∀ d, H1 d = none → Q (.ref C) (some d) (upd H1 d (.xd l))
theorem pmk_err {a : Expr} {es : List Expr} {ta : TA} {x : Str} {C fI : Addr} {fl : List V → Option (List (Str × V))} {p pos : Pos} {k : Nat} (T : PySem.ErV.ErrCls X.K C fI) (run : ErrRun X C fI fl) (exC : PySem.W.subIn X.K (.ref C) (.type "BaseException") = some true) (tyC : PySem.W.typeIn X.K (.ref C) = some (.type "type"))
    (hr : Room k X.A) (hk : 2 ≤ k) (ha : PA X (a :: es) ta) (hm : X.mg x = some (.ref C)) (hg : Gl X x := by rfl) (hdb : (x == ("__debug__" : Str)) = false := by decide)
    (he : starEach (a :: es) X.env = (false, eval a X.env) :: starEach es X.env := by rfl) (hpl : (backTo pos (starEach es X.env)).any (·.1) = false := by rfl) :
    L2N.PMk X (.Call (.Name x p) (a :: es) [] pos) (tMkRaise C fl ta) := by
  intro pins s σ H Q I h
  refine wpAny_Call_Name_kw (ld_glob I hg hm ?_ hdb)
  refine PySem.W.callWith_K (h₀ := X.base) I.ok.mod.kin T.kC (thn (ha.run pos pins s σ H _ I h) fun us s1 hh => ?_) he hpl
  obtain ⟨vs, H1, I1, r1, l, el, q1⟩ := hh
  refine ⟨I1.kIn, ?_⟩
  obtain ⟨m, rn, sz, rel⟩ := run vs us l el r1
  have hlim := I1.nolimit
  obtain ⟨hp, g, dr, tk, os⟩ := s1
  refine wpAny_call (PySem.ErV.err_made T rn sz I1.kIn hlim (by have := hr.dp; omega) fun h' tk' e d M => ?_)
  show L2N.MkP X pins σ Q (.ref e) ⟨h', g, dr, tk', os⟩
  obtain ⟨oe, fv, hoe, hc, hd, hdat, h1, h2⟩ := M.obj
  have hns := M.ns
  have ne : H1 e = none := I1.hok.fresh M.new
  obtain ⟨G', g1, g2⟩ := restrict h' fun b => decide (b ≠ e)
  have gk : ∀ b, b ≠ e → G'.get? b = h'.get? b := fun b hb => g1 b (decide_eq_true hb)
  have ge : G'.get? e = none := g2 e (by simp)
  have old : ∀ b o, hp.get? b = some o → G'.get? b = some o := fun b o q => (gk b (Nat.ne_of_lt (Nat.lt_of_lt_of_le (Heap.lt_size q) M.new))).trans (M.keep b o q)
  have ob : ObjOk X.prog X.w (upd H1 d (.xd l)) G' d (.xd l) := ⟨_, hns.at (fun o q => (gk d M.dne).trans q), rel⟩
  have J : Inv X pins σ (upd H1 d (.xd l)) ⟨G', g, dr, tk', os⟩ := I1.laid (t' := tk') old M.dbig ob
  refine ⟨e, oe, fv, ⟨G', g, dr, tk', os⟩, _, .ref C, some d, rfl, J, fun b o q => ?_, ge, hoe, ⟨hc, hd, fun vs e => by rw [hdat] at e; cases e; exact h2⟩, hdat, h1, ?_, rfl, I1.bare, raises_own exC tyC, q1 d (I1.hok.fresh M.dbig)⟩
  · by_cases hb : b = e
    · have q' : G'.get? b = some o := q
      rw [hb, ge] at q'; cases q'
    · exact (gk b hb).symm.trans q
  · rw [upd_ne (Ne.symm M.dne)]
    exact ne
theorem ps_raiseErr {a : Expr} {es : List Expr} {ta : TA} {W : WX} {x : Str} {C fI : Addr} {fl : List V → Option (List (Str × V))} {p pos pos2 : Pos} {k : Nat} (hc : X.calm = true) (T : PySem.ErV.ErrCls X.K C fI) (run : ErrRun X C fI fl) (exC : PySem.W.subIn X.K (.ref C) (.type "BaseException") = some true) (tyC : PySem.W.typeIn X.K (.ref C) = some (.type "type"))
    (hr : Room k X.A) (hk : 2 ≤ k) (tk : L2N.Takes X W) (ha : PA X (a :: es) ta) (hm : X.mg x = some (.ref C)) (hg : Gl X x := by rfl) (hdb : (x == ("__debug__" : Str)) = false := by decide)
    (he : starEach (a :: es) X.env = (false, eval a X.env) :: starEach es X.env := by rfl) (hpl : (backTo pos (starEach es X.env)).any (·.1) = false := by rfl) :
    PS X (.Raise (some (.Call (.Name x p) (a :: es) [] pos)) none pos2) (fun _ σ H => tMkRaise C fl ta σ H fun cls d H' => W cls d σ H') := L2N.ps_raise hc tk (pmk_err T run exC tyC hr hk ha hm hg hdb he hpl)
/-- e.f, e the error that the suite holds -/
def tHeldF (K : PySem.W.Frag) (f : Str) (a : Addr) (cls : Value) (d : Option Addr) (te : TE) : TE := fun σ H Q => te σ H fun x H1 => x = .ref a ∧ ∃ (C dd : Addr) (l : List (Str × V)) (v : V), cls = .ref C ∧ d = some dd ∧ H1 dd = some (.xd l) ∧ ErrGet K C f ∧ l.lookup f = some v ∧ Q v H1
theorem pe_heldF {f : Str} {a : Addr} {oe : Obj} {cls : Value} {d : Option Addr} {pn : List (Addr × Obj)} {e : Expr} {te : TE} {pos : Pos} (hz : Zc cls d oe) (hf : ∃ vs, oe.data = .fields vs) (he : PE (X.suite a ((a, oe) :: pn)) e te)
    (hb : attributeBase e f X.env (eval e X.env) = eval e X.env := by rfl) : PE (X.suite a ((a, oe) :: pn)) (.Attribute e f pos) (tHeldF X.K f a cls d te) := by
  refine ⟨fun pins s σ H Q I h => ?_⟩
  refine attr_of hb (thn (he.run pins s σ H _ I h) fun u s1 hh => ?_)
  obtain ⟨x, H1, I1, rx, ex, C, dd, l, v, ec, ed, ea, G, hl, q⟩ := hh
  subst ex
  obtain rfl : u = Value.ref a := rx
  subst ec ed
  obtain ⟨ha, _⟩ := I1.pin (a, oe) (List.mem_append_left _ List.mem_cons_self)
  obtain ⟨vs, hd⟩ := hf
  have hx : ObjOk X.prog X.w H1 s1.heap dd (.xd l) := I1.hok dd _ ea
  obtain ⟨mA, hns, hr⟩ := hx
  obtain ⟨od, ho, hlk⟩ := lookIn_ns hns
  obtain ⟨u, hu, ru⟩ := RelO.some_of (v := v) (o := mA f) (by rw [← hl]; exact hr f)
  have J : PySem.W.InstAt s1.heap a oe C (some od) := ⟨ha, hz.1, by unfold PySem.W.notCls; rw [hd] <;> rfl, by rw [hz.2]; exact ho⟩
  exact HandSPX.exc_get I1.kIn J G.ga G.gg G.ex (PySem.W.findObj_own G.hd G.no rfl (by rw [hlk, hu])) (handed_of ru) ⟨v, H1, I1.tok _, ru, q⟩
/-! what the four __init__ do -/
def fl1 (f : Str) : List V → Option (List (Str × V))
  | [v] => some [(f, v)]
  | _ => none
def fl2 (f g : Str) : List V → Option (List (Str × V))
  | [v, u] => some [(f, v), (g, u)]
  | _ => none
theorem rel_one {f : Str} {v : V} {u : Value} (r : RelV v u) (g : Str) : RelO (List.lookup g [(f, v)]) (if g = f then some u else none) := by
  by_cases h : g = f
  · subst h
    rw [if_pos rfl]
    have q : List.lookup g [(g, v)] = some v := by simp [List.lookup]
    rw [q]
    exact r
  · rw [if_neg h]
    have qw : (g == f) = false := by simpa using h
    have q2 : List.lookup g [(f, v)] = none := by simp [List.lookup, qw]
    rw [q2]
    trivial
theorem rel_two {v v2 : V} {u u2 : Value} (r : RelV v u) (r2 : RelV v2 u2) (g : Str) : RelO (List.lookup g [(("low" : Str), v), ("high", v2)]) (if g = "high" then some u2 else (if g = "low" then some u else none)) := by
  by_cases h : g = "high"
  · subst h
    rw [if_pos rfl]
    exact r2
  · rw [if_neg h]
    by_cases h1 : g = "low"
    · subst h1
      rw [if_pos rfl]
      exact r
    · rw [if_neg h1]
      have qw : (g == ("low" : Str)) = false := by simpa using h1
      have qw2 : (g == ("high" : Str)) = false := by simpa using h
      have q2 : List.lookup g [(("low" : Str), v), ("high", v2)] = none := by simp [List.lookup, qw, qw2]
      rw [q2]
      trivial
variable {C fI : Addr} {q : Str}
theorem errRun_1 {f : Str} (run : ∀ v : Value, PySem.ErV.InitRuns X.prog X.w X.K C fI [v] (fun y => if y = f then some v else none)) : ErrRun X C fI (fl1 f) := by
  intro vs us l e r
  unfold fl1 at e
  split at e
  · rename_i v
    cases e
    obtain ⟨u, rfl, ru⟩ := vals1 r
    exact ⟨_, run u, PySem.ErV.one_size u, rel_one ru⟩
  · cases e
theorem errRun_at (T : PySem.ErV.ErrCls X.K C fI) (fn : PySem.ErV.Fn_at X.K fI q) (no : PySem.W.findIn X.K (.ref C) "at" = some none) : ErrRun X C fI (fl1 "at") := errRun_1 fun v => PySem.ErV.runs_at T fn no v
theorem errRun_top (T : PySem.ErV.ErrCls X.K C fI) (fn : PySem.ErV.Fn_top X.K fI q) (no : PySem.W.findIn X.K (.ref C) "top" = some none) : ErrRun X C fI (fl1 "top") := errRun_1 fun v => PySem.ErV.runs_top T fn no v
theorem errRun_thing (T : PySem.ErV.ErrCls X.K C fI) (fn : PySem.ErV.Fn_thing X.K fI q) (no : PySem.W.findIn X.K (.ref C) "thing" = some none) : ErrRun X C fI (fl1 "thing") := errRun_1 fun v => PySem.ErV.runs_thing T fn no v
theorem errRun_lh (T : PySem.ErV.ErrCls X.K C fI) (fn : PySem.ErV.Fn_lh X.K fI q) (no : PySem.W.findIn X.K (.ref C) "low" = some none ∧ PySem.W.findIn X.K (.ref C) "high" = some none) : ErrRun X C fI (fl2 "low" "high") := by
  intro vs us l e r
  unfold fl2 at e
  split at e
  · rename_i v v2
    cases e
    obtain ⟨u1, u2, rfl, r1, r2⟩ := vals2 r
    exact ⟨_, PySem.ErV.runs_lh T fn no.1 no.2 u1 u2, PySem.ErV.two_size u1 u2, rel_two r1 r2⟩
  · cases e
/-- how the eleven classes answer -/
def Kinds (K : PySem.W.Frag) (C : Addr) (cs : List Value) (bs : List Bool) : Prop := Paired (fun c b => PySem.W.kitOne K (.ref C) c = some b) cs bs
end
end L2
namespace My
open PySem L2
theorem kit_same {K : PySem.W.Frag} {C : Addr} : PySem.W.kitOne K (.ref C) (.ref C) = some true := by
  unfold PySem.W.kitOne
  rw [if_pos (by simp)]
/-- asked of an own class -/
theorem kit_ref {K : PySem.W.Frag} {C D : Addr} {b : Bool} (self : PySem.W.subIn K (.ref C) (.ref C) = some true) (h : PySem.W.subIn K (.ref C) (.ref D) = some b) (i : PySem.W.isClsIn K D = true) (t : PySem.W.typeIn K (.ref D) = some (.type "type")) : PySem.W.kitOne K (.ref C) (.ref D) = some b := by
  by_cases cd : C = D
  · subst cd
    rw [self] at h
    cases h
    exact kit_same
  have ne : ((.ref C : Value) == .ref D) = false := by simp [cd]
  have i' : (PySem.W.clsIn K D).isSome = true := i
  have e2 : ((PySem.W.clsIn K D).isSome && PySem.W.typeIn K (.ref D) == some (.type "type")) = true := by rw [i', t] <;> rfl
  unfold PySem.W.kitOne
  rw [ne, if_neg Bool.false_ne_true]
  show (if ((PySem.W.clsIn K D).isSome && PySem.W.typeIn K (.ref D) == some (.type "type")) = true then _ else _) = _
  rw [if_pos e2]
  exact h
end My

namespace My
open PySem L2
theorem exm_self {K : PySem.W.Frag} {S : Addr} (h1 : PySem.W.subIn K (.ref S) (.type "BaseException") = some true) (h2 : PySem.W.isClsIn K S = true) (h3 : PySem.W.typeIn K (.ref S) = some (.type "type")) (h4 : PySem.W.subIn K (.ref S) (.ref S) = some true) :
    PySem.W.exmOne K (.ref S) (.ref S) = some true := by
  have e1 : (PySem.W.subIn K (.ref S) (.type "BaseException") == some true) = true := by rw [h1] <;> rfl
  have e2 : ((PySem.W.clsIn K S).isSome && PySem.W.typeIn K (.ref S) == some (.type "type")) = true := by
    have h2' : (PySem.W.clsIn K S).isSome = true := h2
    rw [h2', h3] <;> rfl
  show (if (PySem.W.subIn K (.ref S) (.type "BaseException") == some true) = true then (if ((PySem.W.clsIn K S).isSome && PySem.W.typeIn K (.ref S) == some (.type "type")) = true then PySem.W.subIn K (.ref S) (.ref S) else none) else none) = some true
  rw [if_pos e1, if_pos e2]
  exact h4
/-- isinstance of an error of the class C, asked of a builtin class -/
theorem kit_type {K : PySem.W.Frag} {C : Addr} {T : String} {b : Bool} (h : PySem.W.subIn K (.ref C) (.type T) = some b) (m : PySem.W.kitMeta T = true) : PySem.W.kitOne K (.ref C) (.type T) = some b := by
  have ne : ((.ref C : Value) == .type T) = false := by simp
  unfold PySem.W.kitOne
  rw [ne, if_neg Bool.false_ne_true]
  show (if PySem.W.kitMeta T = true then _ else _) = _
  rw [if_pos m]
  exact h
/-- asked of an own class that is not above it -/
theorem kit_other {K : PySem.W.Frag} {C D : Addr} (self : PySem.W.subIn K (.ref C) (.ref C) = some true) (h : PySem.W.subIn K (.ref C) (.ref D) = some false) (i : PySem.W.isClsIn K D = true) (t : PySem.W.typeIn K (.ref D) = some (.type "type")) : PySem.W.kitOne K (.ref C) (.ref D) = some false := by
  have cd : C ≠ D := fun z => by
    rw [z] at self h
    rw [self] at h
    cases h
  have ne : ((.ref C : Value) == .ref D) = false := by simp [cd]
  have i' : (PySem.W.clsIn K D).isSome = true := i
  have e2 : ((PySem.W.clsIn K D).isSome && PySem.W.typeIn K (.ref D) == some (.type "type")) = true := by rw [i', t] <;> rfl
  unfold PySem.W.kitOne
  rw [ne, if_neg Bool.false_ne_true]
  show (if ((PySem.W.clsIn K D).isSome && PySem.W.typeIn K (.ref D) == some (.type "type")) = true then _ else _) = _
  rw [if_pos e2]
  exact h
end My

namespace My
open PySem PySem.Spec PyProof.Rows L2 L2H
/-! ### promises where an error is held, which the def may be handed -/
/-- a promise of the def at f, for surroundings that hold the error p -/
structure FnP (P : Program) (w : World) (K : PySem.W.Frag) (mg : Str → Option Value) (base : Heap) (k : Nat) (f : Addr) (fd : FuncData) (ps : List Str) (sp : (Addr × Obj) → Sp) : Prop where
  len : ∀ p vs H Q E, sp p vs H Q E → vs.length = ps.length
  run : ∀ (A : Around) (outer : List Env) (s : Shared) (H : Hp) (args : Args) (us : List Value) (vs : List V) (Q : VK) (p : Addr × Obj), RoomH k A → Hot1 A p → PinOk outer H s p → Env0 P w K mg base A outer s H → BindsTo s fd args (ps.zip us) → Vals vs us → sp p vs H Q E0 →
    codeAny (model P w) A (.call (.ref f) args) (CR CX0 outer P w H s Q E0) s
section
variable {P : Program} {w : World} {K : PySem.W.Frag} {mg : Str → Option Value} {base : Heap}
theorem FnP.by_body {x qual : Str} {st : Stmt} {f : Addr} {fd : FuncData} {N ps : List Str} {k : Nat} {sp : (Addr × Obj) → Sp} (F : Fun K x qual st f fd) (S : FnScope N ps (defScope st)) (len : ∀ p vs H Q E, sp p vs H Q E → vs.length = ps.length)
    (body : ∀ (cdv : Value) (A : Around) (outer : List Env) (s : Shared) (H : Hp) (vs : List V) (Q : VK) (p : Addr × Obj), Hot1 A p → RoomH k (A.deeper (envOfC qual (defScope st) s.heap.objs.size f cdv)) → sp p vs H Q E0 →
      ∃ t, PSs (cxH CX0 P w K mg base N qual (defScope st) f cdv A outer s H E0 p) (defBody st) t ∧ t { nx := fun _ H' => Q .non H', rt := Q } (start N vs) H) : FnP P w K mg base (k + 1) f fd ps sp := by
  obtain ⟨_, _, _, _, _, _, cdv, _, _, rfl, look, code⟩ := F.ex
  constructor
  · exact len
  intro A outer s H args us vs Q p hr hot hpin e0 hb rel hsp
  have n := len _ _ _ _ _ hsp
  have old : ∀ b o, base.get? b = some o → s.heap.get? b = some o := fun b o e => (e0.bs b o e).1
  have inK : K.In s.heap := e0.mod.kin.keeps old
  obtain ⟨t, ht, q⟩ := body cdv A outer s H vs Q p hot (hr.deeper _) hsp
  have named : ∀ y ∈ ps.zip us, (defScope st).names.lookup y.1 = some .local ∨ ((defScope st).names.lookup y.1 = some .cell ∧ ((cellsFrom (s.heap.objs.size + 1) (defScope st).names []).lookup y.1).isSome = true) := by
    rintro ⟨m, v⟩ hy
    exact (S.par m (List.of_mem_zip hy).1).imp (fun z => z) fun z => ⟨z, PySem.W.cellsFrom_some _ _ _ (.inl z)⟩
  refine codeAny_call_function hr.depth (inK _ _ look) rfl S.co S.gen rfl (PySem.W.codeRec_of inK code) (hb _ _ _ _ (wpAny_newFunctionEnv_cells S.kind named fun env he s1 z => ?_))
  subst he
  refine ⟨(e0.mod.nolimit.keeps old).keeps z.toInCall.keep, codeAny_func (wpAny_mono (ht.run [] s1 (start N vs) H _ (inv_startH S hpin e0 n rel z) q) ?_ fun _ _ h => h)⟩
  intro fl s' h
  match fl, h with
  | .ret u, ⟨v, σ', H', J, rv, q'⟩ => exact ⟨v, H', J.os, J.bare, J.base, J.hok, rv, q'⟩
  | .next, ⟨σ', H', J, q'⟩ => exact ⟨V.non, H', J.os, J.bare, J.base, J.hok, rfl, q'⟩
  | .brk, ⟨_, _, _, q'⟩ => exact q'.elim
  | .cont, ⟨_, _, _, q'⟩ => exact q'.elim
end
section
variable {X : Cx} {k : Nat} {f C : Addr} {fd : FuncData} {ps : List Str} {sp : (Addr × Obj) → Sp} {x : Str} {q pos : Pos} {e : Expr} {te : TE}
/-- the same def, in surroundings A that are the frame's -/
theorem run_fnP {A : Around} {pins : List (Addr × Obj)} {σ : L2.St} {H : Hp} {s : Shared} {Q : VK} {us : List Value} {vs : List V} {p : Addr × Obj} (F : FnP X.prog X.w X.K X.mg X.base k f fd ps sp) (hr : RoomH k A) (fr : A.frames = X.A.frames) (hot : Hot1 A p) (hp : p ∈ X.pn) (hb : Binds X.K fd ps [])
    (I : Inv X pins σ H s) (r : Vals vs us) (h : sp p vs H Q E0) : wpAny (model X.prog X.w) A (call (.ref f) us) (EP X pins σ Q) X.xe s := by
  have w0 := I.env0
  have w1 : Env0 X.prog X.w X.K X.mg X.base A X.stack s H := ⟨fr.trans w0.frames, w0.mod, w0.bs, w0.bsz, w0.funs, w0.frf, w0.hok, w0.bare⟩
  have n : us.length = ps.length := by rw [← r.length]; exact F.len _ _ _ _ _ h
  have b := hb s us I.kIn (by rw [List.append_nil]; exact n)
  rw [List.append_nil] at b
  have pn := I.pin p (List.mem_append_left _ hp)
  have off : PinOk X.stack H s p := by
    refine ⟨pn.1, pn.2.1, fun hm => ?_, pn.2.2.2.2⟩
    rcases List.mem_cons.mp (I.stkSub p.1 hm) with z | z
    · exact pn.2.2.1 z
    · exact pn.2.2.2.1 z
  refine wpAny_call (codeAny_mono (F.run A X.stack s H ⟨us, []⟩ us vs Q p hr hot off w1 b r h) fun res s' z => ?_)
  match res, z with
  | .error _, z => exact z.elim
  | .ok (.ret u), z => exact I.after z
/-- f(e), e the error that the suite holds -/
def tCallP (sp : (Addr × Obj) → Sp) (a : Addr) (cls : Value) (d : Option Addr) (te : TE) : TE := fun σ H Q => te σ H fun x H1 => x = .ref a ∧ ∃ (C dd : Addr), cls = .ref C ∧ d = some dd ∧ ∀ oe, ErrOb oe C dd → sp (a, oe) [.ref a] H1 Q E0
theorem hot_suite {a : Addr} {oe : Obj} {cls : Value} {d : Option Addr} {pn : List (Addr × Obj)} (hz : L2N.Zn cls d oe) (hf : ∃ vs, oe.data = .fields vs) : Hot1 (X.suite a ((a, oe) :: pn)).A (a, oe) := by
  obtain ⟨vs, hv⟩ := hf
  exact ⟨rfl, vs, hv, hz.2.2 vs hv⟩
theorem room_suite {a : Addr} {pn : List (Addr × Obj)} (hr : Room k X.A) : RoomH k (X.suite a pn).A := ⟨hr.dp, hr.un⟩
theorem pe_callP {a : Addr} {oe : Obj} {cls : Value} {d : Option Addr} {pn : List (Addr × Obj)} (F : FnP X.prog X.w X.K X.mg X.base k f fd ps sp) (hr : Room k X.A) (hg : Gl X x) (hm : X.mg x = some (.ref f)) (hk : PySem.W.keepIn X.K (.ref f) = true) (hb : Binds X.K fd ps [])
    (hz : L2N.Zn cls d oe) (hf : ∃ vs, oe.data = .fields vs) (he : PE (X.suite a ((a, oe) :: pn)) e te) (hdb : (x == ("__debug__" : Str)) = false := by decide)
    (hs : starEach [e] X.env = (false, eval e X.env) :: starEach [] X.env := by rfl) :
    PE (X.suite a ((a, oe) :: pn)) (.Call (.Name x q) [e] [] pos) (tCallP sp a cls d te) := by
  refine ⟨fun pins s σ H Q I h => ?_⟩
  refine wpAny_Call_Name_kw (ld_glob I hg hm ?_ hdb)
  refine PySem.W.callWith_K (h₀ := X.base) I.ok.mod.kin hk ?_ hs (by rfl)
  rw [hs]
  show wpAny _ _ (spliced ((false, eval e X.env) :: backTo pos (starEach [] X.env))) _ _ s
  refine Calls.spliced_cons (thn (he.run pins s σ H _ I h) fun u s1 ⟨v, H1, I1, r1, ev, C, dd, ec, ed, q1⟩ => ?_)
  subst ev ec ed
  obtain rfl : u = Value.ref a := r1
  refine Calls.spliced_nil ⟨I1.kIn, ?_⟩
  show wpAny _ _ (call (.ref f) [.ref a]) _ _ _
  exact run_fnP (vs := [V.ref a]) (us := [Value.ref a]) (A := (X.suite a ((a, oe) :: pn)).A) F (room_suite hr) rfl (hot_suite hz hf) List.mem_cons_self hb I1 (.cons rfl .nil) (q1 oe ⟨hz.1, hz.2.1, hf⟩)
/-- repr(x) there, x an object with an own __repr__ -/
def rRepr1P (C : Addr) (sp : (Addr × Obj) → Sp) : List V → Hp → VK → Prop := fun xs H Q => ∃ (a dx : Addr) (fs : List (Str × V)), xs = [.ref a] ∧ H a = some (.ins C dx fs) ∧ ∀ p, sp p [.ref a] H (fun v H' => ∃ k : Str, v = .str k ∧ Q (.str k) H') E0
theorem call_repr1P (F : FnP X.prog X.w X.K X.mg X.base k f fd ps sp) (hs : PySem.W.findIn X.K (.ref C) "__repr__" = some (some (.ref f))) (hf : PySem.W.isFn X.K (.ref f) = true) (hb : Binds X.K fd ps []) (hr : RoomH (k + 1) X.A) (hc : HotC X) : CallR X (.builtin "repr") (rRepr1P C sp) := by
  rintro pins s σ H xs us Q I r ⟨a, dx, fs, rfl, ha, q⟩
  obtain ⟨u, rfl, rx⟩ := vals1 r
  cases rx
  obtain ⟨_, J1, _⟩ := ins_get I.hok ha
  obtain ⟨_, K1, _⟩ := J1.look
  obtain ⟨p, hot, hp⟩ := hc
  have dpt : X.A.in1.depth ≤ X.A.depth + 1 ∧ X.A.in1.units ≤ X.A.units + 16 := by
    constructor
    · exact Nat.le_succ _
    · exact Nat.le_of_lt_succ (by show X.A.in1.units < _; first | (show X.A.units + 2 < _; omega) | (show X.A.units + 3 < _; omega) | (show X.A.units + 1 < _; omega))
  have r1 : RoomH k X.A.in1 := ⟨by have := hr.dp; have := dpt.1; omega, by have := hr.un; have := dpt.2; omega⟩
  refine Calls.call_function_entry PySem.F.kind_repr PySem.F.plain_repr PySem.F.entry_repr (PySem.F.args_repr1 _) ?_
  unfold Builtin.«repr»
  refine wpAny_bind (m := oneArg "repr" _) (wpAny_pure ?_)
  refine wpAny_bind (m := cRoomFor _ _) (wpAny_cRoomFor (by have := r1.un; omega) ?_)
  unfold specialOf
  refine wpAny_bind (wpAny_bind (K1.type.here ((PySem.W.looks_findIn I.kIn hs).here ?_)))
  refine wpAny_bind (m := callSpecialIfBound? (.ref a) (Str.ofString "__repr__")) (PySem.W.ifBound_K I.kIn K1 hs hf (thn (run_fnP (vs := [V.ref a]) (us := [Value.ref a]) (A := X.A.in1) F r1 rfl hot hp hb I (.cons rfl .nil) (q p)) ?_))
  rintro v s' ⟨z, H', I', rz, k, rfl, qk⟩
  obtain ⟨tk, rfl⟩ := rz
  refine wpAny_bind (wpAny_isInstance (T := "str") (b := true) rfl isSubtype_str_str ?_)
  exact wpAny_pure ⟨_, rfl, .str k, H', I', ⟨_, rfl⟩, qk⟩
/-- of data, of an own object, where an error is held -/
def rReprFP (K : PySem.W.Frag) (C : Addr) (sp : (Addr × Obj) → Sp) : List V → Hp → VK → Prop := fun xs H Q => rReprA K xs H Q ∨ rRepr1P C sp xs H Q
theorem call_reprFP (hA : X.A.guards = some []) (F : FnP X.prog X.w X.K X.mg X.base k f fd ps sp) (hs : PySem.W.findIn X.K (.ref C) "__repr__" = some (some (.ref f))) (hf : PySem.W.isFn X.K (.ref f) = true) (hb : Binds X.K fd ps []) (hr : RoomH (k + 1) X.A) (hc : HotC X) (hu : X.A.units + 64 < cLine) :
    CallR X (.builtin "repr") (rReprFP X.K C sp) := by
  intro pins s σ H xs us Q I r h
  rcases h with h | h
  · exact call_reprA hA hu pins s σ H xs us Q I r h
  · exact call_repr1P F hs hf hb hr hc pins s σ H xs us Q I r h
end
end My
namespace My
open PySem PySem.Spec PyProof.Rows L2 L2H
theorem takes0N {X : Cx} : L2N.Takes X (fun _ _ _ _ => False) := fun _ _ x => by
  obtain ⟨_, _, _, _, _, _, _, _, _, _, _, _, _, _, _, _, z⟩ := x
  exact z.elim
end My

namespace My
open PySem PySem.Spec PyProof.Rows L2
/-! ### xs.count(True) of a list of truths -/
section
variable {X : Cx}
def eqB (b : Bool) (v : Value) : Bool := match v with
  | .bool c => c == b
  | _ => false
theorem bools_of {H : Hp} : ∀ {bs : List Bool} {its : List Value}, Vals (bs.map V.bl) its → its = bs.map Value.bool
  | [], _, .nil => rfl
  | b :: bs, _, .cons r h => by
    have e := bools_of (H := H) h
    rw [List.map_cons, e]
    have r' : _ = Value.bool b := r
    rw [r']
theorem cnt_bools (c : Bool) : ∀ bs : List Bool, (bs.map Value.bool).countP (eqB c) = bs.count c
  | [] => rfl
  | b :: bs => by
    rw [List.map_cons, List.countP_cons, cnt_bools c bs, List.count_cons]
    rfl
def rCntB (K : PySem.W.Frag) : V → List V → Hp → VK → Prop := fun x xs H Q => ∃ (p : Addr) (bs : List Bool) (b : Bool), x = .ref p ∧ xs = [.bl b] ∧ H p = some (.lst (bs.map V.bl)) ∧ Q (.int (bs.count b : Nat)) H
theorem mt_cntB : MtR X "list.count" (rCntB X.K) := by
  intro pins s σ H x xs v us Q I rx rxs h
  obtain ⟨p, bs, b, rfl, rfl, hs, q⟩ := h
  cases rx
  obtain ⟨u, rfl, ru⟩ := rxs.one
  have eu : u = Value.bool b := ru
  subst eu
  obtain ⟨its, rv, ⟨⟨cls, dd, data, sl⟩, n, ho, hc, hdn, hd⟩, hlen⟩ := I.list (SqL.of (K := X.K) hs)
  simp only at hc hd
  subst hc hd
  have e := bools_of (H := H) rv
  refine call_meets PySem.F.slot_list_count ⟨_, ho, rfl⟩ PySem.F.entry_list_count (PySem.F.args_list_count_2 _ _)
    (SeqAt.list_countAt p its.toArray n dd sl (.bool b) (eqB b)) ⟨ho, fun y hy => ?_, ?_⟩
  · have hy' : y ∈ bs.map Value.bool := by rw [← e]; simpa using hy
    obtain ⟨c, _, rfl⟩ := List.mem_map.mp hy'
    exact SeqAt.EqAt.bool_bool c b
  · have ec : its.toArray.toList.countP (eqB b) = bs.count b := by rw [List.toList_toArray, e]; exact cnt_bools b bs
    refine ⟨.int (bs.count b : Nat), H, I.tok _, ⟨s.toks, ?_⟩, q⟩
    show Value.int ((its.toArray.toList.countP (eqB b) : Nat) : Int) s.toks = Value.int ((bs.count b : Nat) : Int) s.toks
    rw [ec]
end
end My

namespace My
open PySem PySem.Spec PyProof.Rows L2
/-- f() of a def that wants nothing under way -/
theorem pe_callG0 {X : Cx} {k : Nat} {f : Addr} {fd : FuncData} {ps : List Str} {sp : Sp} {dvs : List V} {ds : List Value} {E : XK} {x : Str} {p pos : Pos} (hA : X.A.guards = some []) (F : FnG X.prog X.w X.K X.mg X.base k f fd ps sp) (hr : Room k X.A) (hg : Gl X x) (hm : X.mg x = some (.ref f)) (hk : PySem.W.keepIn X.K (.ref f) = true) (hb : Binds X.K fd ps ds) (hd : Vals dvs ds) (hx : Passes CX0 X E)
    (hdb : (x == ("__debug__" : Str)) = false := by decide) : PE X (.Call (.Name x p) [] [] pos) (tCall sp dvs E tNil) := by
  constructor
  intro pins s σ H Q I h
  refine wpAny_Call_Name_kw (ld_glob I hg hm ?_ hdb)
  refine PySem.W.callWith_K0 I.kIn hk ?_
  have q : sp ([] ++ dvs) H Q E := h
  have both : Vals ([] ++ dvs) ([] ++ ds) := hd
  have n : ([] ++ ds).length = ps.length := by rw [← both.length]; exact F.len _ _ _ _ q
  refine wpAny_call (codeAny_mono (F.run X.A X.stack s H ⟨[], []⟩ ([] ++ ds) ([] ++ dvs) Q E hA hr I.env0 (hb s [] I.kIn n) both q) ?_)
  intro r s' z
  match r, z with
  | .error _, z => exact hx pins σ H s _ s' I z
  | .ok (.ret _), z => exact I.after z
end My

namespace My
open PySem L2
/-- two numbers, shown -/
theorem short_two {a b : Int} (ha : a.natAbs < 2 ^ 1900) (hb : b.natAbs < 2 ^ 1900) : (PyData.shown (.tuple [.int a, .int b])).length ≤ sizeLine := by
  have l1 : a.natAbs.log2 < 1920 := Nat.lt_of_lt_of_le (PySem.Flt.log2_lt_of (by decide) ha) (by decide)
  have l2 : b.natAbs.log2 < 1920 := Nat.lt_of_lt_of_le (PySem.Flt.log2_lt_of (by decide) hb) (by decide)
  have s1 : (PyData.shown (.int a)).length ≤ 1921 := PyProof.Rows.int_text_len_1921 l1
  have s2 : (PyData.shown (.int b)).length ≤ 1921 := PyProof.Rows.int_text_len_1921 l2
  have short : (PyData.tuple [.int a, .int b]).leavesShort 1921 = true := by
    simp only [PyData.leavesShort, PyData.leavesShortAll, Bool.and_true, Bool.and_eq_true, decide_eq_true_eq]
    exact ⟨s1, s2⟩
  have le := PyData.shown_le 1921 (by decide) _ short
  have wt : (PyData.tuple [.int a, .int b]).weight ≤ 4000 := by
    simp only [PyData.weight, PyData.weightAll]
    have wt1 : ∀ i : Int, i.natAbs.log2 < 1920 → (if (i == 0) = true then 0 else i.natAbs.log2 + 1) ≤ 1920 := fun i h => by split <;> omega
    have wa := wt1 a l1
    have wb := wt1 b l2
    omega
  have e : sizeLine = 16777216 := rfl
  omega
theorem data_two {a b : Int} (ha : a.natAbs < 2 ^ 1900) (hb : b.natAbs < 2 ^ 1900) : (PyData.tuple [.int a, .int b]).showable = true ∧ (PyData.tuple [.int a, .int b]).hasDict = false ∧ (PyData.tuple [.int a, .int b]).depth ≤ 60 := by
  refine ⟨?_, ?_, ?_⟩
  · have l1 : a.natAbs.log2 < 1920 := Nat.lt_of_lt_of_le (PySem.Flt.log2_lt_of (by decide) ha) (by decide)
    have l2 : b.natAbs.log2 < 1920 := Nat.lt_of_lt_of_le (PySem.Flt.log2_lt_of (by decide) hb) (by decide)
    simp only [PyData.showable, PyData.showableAll, Bool.and_true, Bool.and_eq_true, decide_eq_true_eq]
    exact ⟨l1, l2⟩
  · simp [PyData.hasDict, PyData.hasDictAll]
  · simp [PyData.depth, PyData.depthAll]
end My

namespace My
open PySem PySem.Spec PyProof.Rows L2 PySem.Builtin PySem.Builtin.Str
/-! ### str(x) of an object with an own __str__ -/
section
variable {P : Program} {w : World} {A : Around} {E : Value → Shared → Prop} {s : Shared} {K : PySem.W.Frag} {a C f : Addr} {ox : Obj} {od : Option Obj}
/-- an own special method, called -/
theorem special_own {name : Str} {xs : List Value} {R : Option Value → Shared → Prop} (X : K.In s.heap) (I : PySem.W.InstAt s.heap a ox C od) (hs : PySem.W.findIn K (.ref C) name = some (some (.ref f))) (hf : PySem.W.isFn K (.ref f) = true)
    (go : wpAny (model P w) A (call (.ref f) (.ref a :: xs)) (fun v => R (some v)) E s) : wpAny (model P w) A (callSpecial? (.ref a) name xs) R E s := by
  unfold callSpecial? specialOf
  refine wpAny_bind (wpAny_bind (I.type.here ((PySem.W.looks_findIn X hs).here (wpAny_holding (wpAny_bind ?_)))))
  refine (PySem.W.bind_fn X _ (beq_iff_eq.mp hf)).here ?_
  exact wpAny_bind (wpAny_mono go (fun v s' q => wpAny_pure q) fun _ _ q => q)
/-- str(v), where the text is told -/
theorem str_call {v : Value} {R : Value → Shared → Prop} (go : wpAny (model P w) A.in1.in1 (strOf v) (fun r t => t.TypeIs r "str" ∧ R r t) E s) : wpAny (model P w) A (call (.type "str") [v]) R E s := by
  have ft := PySem.F.called_str
  obtain ⟨c, tl, m1⟩ := ft.mro
  have m2 := ft.made
  have m3 := ft.sub
  refine wpAny_call (codeAny_of_tree ?_)
  show wpAny _ _ (callAny (.type "str") _) _ _ _
  refine wpAny_pure ⟨Code.quiet_builtin _ (by decide +kernel), codeAny_builtin PySem.F.entry_type_call ?_⟩
  rw [Around.under_plain (weight_type_call_type "str" [v] []) (units_type_call_type "str" [v] [])]
  have n1 := ft.notType
  have n2 := ft.canCreate
  have n3 := PySem.F.typeCall_str_1 v
  repeat (any_goals (first | assumption | wp_step))
  have body : wpAny (model P w) A.in1.in1 («str.__new__» ⟨[.type "str", v], []⟩) (fun fin t => ∃ r, fin = .done (.ret r) ∧ t.TypeIs r "str" ∧ R r t) E s := by
    rw [str_new_tree v]
    refine wpAny_bind (wpAny_pure (wpAny_bind (wpAny_of_eq isSubtype_str_str ?_)))
    exact wpAny_bind (wpAny_mono go (fun r t q => wpAny_pure ⟨r, rfl, q⟩) fun _ _ q => q)
  refine codeAny_mono (codeAny_call_builtin ft.plain PySem.F.entry_str_new (wpAny_of_eq (PySem.F.newCall_str_1 v) (wpAny_mono body (fun fin t q => ?_) fun e t q => ?_))) (R := fun r t => (∃ x, r = .ok (.ret x) ∧ t.TypeIs x "str" ∧ R x t) ∨ (∃ e, r = .error e ∧ E e t)) fun r t q => ?_
  · obtain ⟨r, rfl, q1⟩ := q
    exact .inl ⟨r, rfl, q1⟩
  · exact .inr ⟨e, rfl, q⟩
  · rcases q with ⟨x, rfl, ty, q1⟩ | ⟨e, rfl, q1⟩
    · have i1 := ft.init.lookup
      have i2 := ft.init.bind x
      repeat (any_goals (first | assumption | wp_step))
      refine codeAny_mono (codeAny_call_builtin ft.init.plain PySem.F.entry_object_init (ft.init.check _ _ _ _ _ _ _ _ ty (PySem.F.args_object_init_2 x _) (object_init_meets (rest := [v]) ft.init.lookup ft.made (by decide) P w A.in1 (fun r t' => r = .ok (.ret .none) ∧ R x t') t ⟨ty, rfl, q1⟩))) (R := fun r t' => r = .ok (.ret .none) ∧ R x t') fun r2 t2 q2 => ?_
      obtain ⟨rfl, q3⟩ := q2
      repeat (any_goals (first | assumption | wp_step))
    · exact q1
end
section
variable {X : Cx} {C f : Addr} {fd : FuncData} {ps : List Str} {n : Nat} {sp : Sp}
theorem run_one {A : Around} {pins : List (Addr × Obj)} {σ : L2.St} {H : Hp} {s : Shared} {a : Addr} {Q : VK} {E : XK} (F : FnOk X.prog X.w X.K X.mg X.base CX0 n f fd ps sp) (hb : Binds X.K fd ps []) (hr : Room n A) (hfr : A.frames = X.A.frames)
    (I : Inv X pins σ H s) (h : sp [.ref a] H Q E) : wpAny (model X.prog X.w) A (call (.ref f) [.ref a]) (EP X pins σ Q) X.xe s := by
  have w0 := I.env0
  have w1 : Env0 X.prog X.w X.K X.mg X.base A X.stack s H := ⟨hfr.trans w0.frames, w0.mod, w0.bs, w0.bsz, w0.funs, w0.frf, w0.hok, w0.bare⟩
  have len1 : 1 = ps.length := F.len _ _ _ _ h
  have bnd : BindsTo s fd ⟨[.ref a], []⟩ (ps.zip [.ref a]) := by
    have q := hb s [.ref a] I.kIn (by simpa using len1)
    simpa using q
  refine wpAny_call (codeAny_mono (F.run A X.stack s H ⟨[.ref a], []⟩ [.ref a] [.ref a] Q E hr w1 bnd (.cons rfl .nil) h) ?_)
  intro r s' z
  match r, z with
  | .error _, z => exact z.elim
  | .ok (.ret u), z => exact I.after z
def rStrOwn (C : Addr) (sp : Sp) : List V → Hp → VK → Prop := fun xs H Q => ∃ (a dx : Addr) (fs : List (Str × V)), xs = [.ref a] ∧ H a = some (.ins C dx fs) ∧ sp [.ref a] H (fun v H' => ∃ k : Str, v = .str k ∧ Q (.str k) H') E0
theorem call_strOwn (F : FnOk X.prog X.w X.K X.mg X.base CX0 n f fd ps sp) (hs : PySem.W.findIn X.K (.ref C) "__str__" = some (some (.ref f))) (hf : PySem.W.isFn X.K (.ref f) = true) (hb : Binds X.K fd ps []) (hr : Room (n + 2) X.A) :
    CallR X (.type "str") (rStrOwn C sp) := by
  rintro pins s σ H xs us Q I r ⟨a, dx, fs, rfl, ha, q⟩
  obtain ⟨u, rfl, rx⟩ := vals1 r
  cases rx
  obtain ⟨_, J1, _⟩ := ins_get I.hok ha
  obtain ⟨_, K1, _⟩ := J1.look
  have r2 : Room n X.A.in1.in1 := hr.in1.in1
  refine str_call ?_
  unfold PySem.Builtin.Str.strOf
  refine wpAny_bind (m := cRoomFor _ _) (wpAny_cRoomFor r2.units0 ?_)
  refine wpAny_bind (m := callSpecial? (.ref a) (Str.ofString "__str__") _) (special_own I.kIn K1 hs hf (thn (run_one F hb r2 rfl I q) ?_))
  rintro v s' ⟨z, H', I', rz, k, rfl, qk⟩
  obtain ⟨tk, rfl⟩ := rz
  exact wpAny_pure ⟨typeIs_str _ _ _, .str k, H', I', ⟨_, rfl⟩, qk⟩
end
end My

namespace My
open PySem PySem.Spec PyProof.Rows L2 PySem.Builtin
/-! ### repr of a pair of objects with an own __repr__ -/
theorem tup_depth {A : Around} {us : List Value} : (A.under (.builtin "tuple.__repr__" ⟨us, []⟩)).depth ≤ A.depth + 1 ∧ (A.under (.builtin "tuple.__repr__" ⟨us, []⟩)).handled = A.handled ∧ (A.under (.builtin "tuple.__repr__" ⟨us, []⟩)).frames = A.frames := by
  refine ⟨?_, ?_, ?_⟩
  · simp [Around.under, Code.weight, Code.isCreation, Code.isGuard, Code.isCaller, Code.frames, Code.isFrame]
    try (split <;> omega)
  · first | rfl | simp [Around.under]
  · first | rfl | simp [Around.under, Code.envs, pushEnvs]
theorem room_tup {n : Nat} {A : Around} {us : List Value} (r : Room (n + 1) A) : Room n (A.under (.builtin "tuple.__repr__" ⟨us, []⟩)) := by
  obtain ⟨d, h, _⟩ := @tup_depth A us
  refine ⟨h.trans r.hd, ?_, ?_⟩
  · have := r.dp; omega
  · have := r.un
    rw [units_under_tuple_repr]
    omega
section
variable {P : Program} {w : World} {A : Around} {E : Value → Shared → Prop} {s : Shared} {K : PySem.W.Frag} {a C f : Addr} {ox : Obj} {od : Option Obj}
/-- one of them, within its display -/
theorem repr_within {b : Nat} {R : Str → Shared → Prop} (hb : b ≤ sizeLine) (hu : A.units < cLine) (X : K.In s.heap) (I : PySem.W.InstAt s.heap a ox C od) (hs : PySem.W.findIn K (.ref C) "__repr__" = some (some (.ref f))) (hf : PySem.W.isFn K (.ref f) = true)
    (go : wpAny (model P w) A (call (.ref f) [.ref a]) (fun v t => ∃ z u, v = .str z u ∧ R z t) E s) : wpAny (model P w) A (pyReprUnder b (.ref a)) R E s := by
  refine wpAny_pyReprUnder_ref hb ?_
  unfold pyReprObjUnder pyReprObjBy
  refine wpAny_bind (wpAny_cRoomFor hu (wpAny_bind ?_))
  have sp : ∀ {B : Option Value → Shared → Prop}, B (some (.ref f)) s → wpAny (model P w) A (specialOf (.ref a) "__repr__") B E s := fun q => by
    unfold specialOf
    exact wpAny_bind (I.type.here ((PySem.W.looks_findIn X hs).here q))
  refine sp ?_
  show wpAny _ _ (if (some (Value.ref f)).isNone = true then _ else _) _ _ _
  rw [if_neg (by simp)]
  have last : wpAny (model P w) A (callSpecialIfBoundBy? (fun g first => match reprUnder? g, first with
      | some twin, [self] => call twin [self, rawInt b]
      | _, _ => call g (first ++ [])) (.ref a) "__repr__") (fun r t => ∃ z u, r = some (.str z u) ∧ R z t) E s := by
    have fin : wpAny (model P w) A (call (.ref f) ([.ref a] ++ []) >>= fun v => pure (some v)) (fun r t => ∃ z u, r = some (.str z u) ∧ R z t) E s :=
      wpAny_bind (wpAny_mono go (fun v t q => by
        obtain ⟨z, u, rfl, q⟩ := q
        exact wpAny_pure ⟨z, u, rfl, q⟩) fun _ _ q => q)
    simp only [callSpecialIfBoundBy?, bindSpecialIfBound?]
    refine wpAny_holding (wpAny_bind (wpAny_bind (sp ?_)))
    refine wpAny_bind (wpAny_askSetting (wpAny_ite ?_))
    have bd := PySem.W.bind_fn (M := model P w) X (.ref a) (beq_iff_eq.mp hf)
    split
    · exact wpAny_bind (bd.here (wpAny_pure (by exact fin)))
    · exact wpAny_tryCatch (wpAny_bind (bd.here (wpAny_pure (by exact fin))))
  refine wpAny_bind (wpAny_mono last (fun r t q => ?_) fun _ _ q => q)
  obtain ⟨z, u, rfl, q⟩ := q
  exact wpAny_bind (wpAny_isInstance (typeIs_str _ _ _) isSubtype_str_str (wpAny_pure ⟨z, u, rfl, q⟩))
end
section
variable {X : Cx} {C f : Addr} {fd : FuncData} {ps : List Str} {n : Nat} {sp : Sp}
def rRepr2 (C : Addr) (K : PySem.W.Frag) (sp : Sp) : List V → Hp → VK → Prop := fun xs H Q => ∃ (p a b dx dy : Addr) (fs gs : List (Str × V)) (y z : Str), xs = [.ref p] ∧ SqT K H p [.ref a, .ref b] ∧ H a = some (.ins C dx fs) ∧ H b = some (.ins C dy gs) ∧ y.length ≤ 10000 ∧ z.length ≤ 10000 ∧
  (∀ R : VK, R (.str y) H → sp [.ref a] H R E0) ∧ (∀ R : VK, R (.str z) H → sp [.ref b] H R E0) ∧ Q (.str (tupleText [y, z])) H
theorem call_repr2 (hA : X.A.guards = some []) (F : FnOk X.prog X.w X.K X.mg X.base CX0 n f fd ps sp) (hs : PySem.W.findIn X.K (.ref C) "__repr__" = some (some (.ref f))) (hf : PySem.W.isFn X.K (.ref f) = true) (hb : Binds X.K fd ps []) (hr : Room (n + 2) X.A) :
    CallR X (.builtin "repr") (rRepr2 C X.K sp) := by
  rintro pins s σ H xs us Q I r ⟨p, a, b, dx, dy, fs, gs, y, z, rfl, hp, ha, hb', ly, lz, pa, pb, q⟩
  obtain ⟨u, rfl, rx⟩ := vals1 r
  cases rx
  obtain ⟨its, rv, ⟨o, ho, hc, m, hd⟩, _⟩ := I.tuple hp
  obtain ⟨u1, u2, rfl, r1, r2⟩ := vals2 rv
  cases r1
  cases r2
  have ty : s.TypeIs (.ref p) "tuple" := ⟨o, ho, hc⟩
  have rA : Room (n + 1) X.A.in1 := hr.in1
  have rT : Room n (X.A.in1.under (.builtin "tuple.__repr__" ⟨[.ref p], []⟩)) := room_tup rA
  obtain ⟨_, _, fr⟩ := @tup_depth X.A.in1 [.ref p]
  have sl : sizeLine = 16777216 := rfl
  have one : ∀ (c dc : Addr) (hs' : List (Str × V)) (t : Str) (bs : Nat) (s' : Shared) (R : Str → Shared → Prop), H c = some (.ins C dc hs') → (∀ R : VK, R (.str t) H → sp [.ref c] H R E0) → bs ≤ sizeLine → Inv X pins σ H s' → (∀ s2, Inv X pins σ H s2 → R t s2) →
      wpAny (model X.prog X.w) (X.A.in1.under (.builtin "tuple.__repr__" ⟨[.ref p], []⟩)) (pyReprUnder bs (.ref c)) R X.xe s' := by
    intro c dc hs' t bs s' R hc' pc hbs I' k
    obtain ⟨_, J1, _⟩ := ins_get I'.hok hc'
    obtain ⟨_, K1, _⟩ := J1.look
    refine repr_within hbs rT.units0 I'.kIn K1 hs hf (thn (run_one F hb rT fr I' (pc (fun v H' => v = .str t ∧ H' = H) ⟨rfl, rfl⟩)) ?_)
    rintro v s2 ⟨x, H2, I2, rx, rfl, rfl⟩
    obtain ⟨tk, rfl⟩ := rx
    exact ⟨t, tk, rfl, k s2 I2⟩
  have tlen : (tupleText [y, z]).length ≤ 30000 := by
    show (("(" : Str) ++ (y ++ ", " ++ z) ++ ")").length ≤ 30000
    have e1 : ("(" : Str).length = 1 := rfl
    have e2 : (")" : Str).length = 1 := rfl
    have e3 : (", " : Str).length = 2 := rfl
    rw [Str.length_append, Str.length_append, Str.length_append, Str.length_append]
    omega
  refine call_repr_slot (by have := rA.un; show X.A.in1.units < _; omega) ty PySem.F.slot_tuple_repr ?_
  refine wpAny_call (codeAny_call_builtin_own (Code.quiet_builtin _ (by decide +kernel)) PySem.F.entry_tuple_repr (PySem.F.slot_tuple_repr.check _ _ _ _ _ _ _ _ ty (PySem.F.args_tuple_repr_1 _) ?_))
  show wpOwn _ _ _ (tupleReprAt 0 ⟨[.ref p], []⟩) _ _ s
  rw [tuple_repr_tree, tupleReprUnderWay_eq]
  refine wpOwn_bind (wpOwn_stackTailAny (g := []) hA (tupGuardF_off _) (tupGuardF_pos _) ?_)
  rw [show (([] : List Code).any fun c => tupGuardF (.ref p) (c, default)) = false from rfl]
  refine wpOwn_of_wpAny ?_
  show wpAny _ _ (tupleReprRest 0 (.ref p)) _ _ s
  unfold tupleReprRest Builtin.Tuple.tupleItemsOf
  refine wpAny_bind (wpAny_bind (wpAny_seqItems ho hd (wpAny_pure ?_)))
  rw [← Array.forIn_toList]
  have tp : (tupleText [y, z]) = ("(" : Str) ++ (y ++ ", " ++ z) ++ ")" := rfl
  have fold : ∀ (acc : Array Str) (m0 : Nat) (R : (Array Str × Nat) → Shared → Prop), m0 ≤ 10 → (∀ s2, Inv X pins σ H s2 → R ⟨(acc.push y).push z, m0 + (y.length + 2) + (z.length + 2)⟩ s2) →
      wpAny (model X.prog X.w) (X.A.in1.under (.builtin "tuple.__repr__" ⟨[.ref p], []⟩)) (forIn [Value.ref a, Value.ref b] (⟨acc, m0⟩ : (Array Str × Nat)) tupBody) R X.xe s := by
    intro acc m0 R hm k
    rw [List.forIn_cons]
    refine wpAny_bind (wpAny_bind (one a dx fs y _ s _ ha pa (by omega) I fun s1 I1 => wpAny_pure ?_))
    show wpAny _ _ (forIn [Value.ref b] _ tupBody) _ _ s1
    rw [List.forIn_cons]
    refine wpAny_bind (wpAny_bind (one b dy gs z _ s1 _ hb' pb (by omega) I1 fun s2 I2 => wpAny_pure ?_))
    show wpAny _ _ (forIn ([] : List Value) _ tupBody) _ _ s2
    rw [List.forIn_nil]
    exact wpAny_pure (k s2 I2)
  refine wpAny_bind (fold _ _ _ (by omega) fun s2 I2 => ?_)
  refine wpAny_bind (wpAny_mkStr (wpAny_pure ?_) ?_)
  · exact ⟨_, _, rfl, .str (tupleText [y, z]), H, I2.tok _, ⟨_, rfl⟩, q⟩
  · exact Nat.le_trans tlen (by decide)
end
end My

namespace My
open PySem PySem.Spec PyProof.Rows L2 PySem.Builtin
/-! ### repr of tuples, however deep, of objects with an own __repr__ -/
theorem under_depth {A : Around} {us : List Value} : (A.under (.builtin "tuple.__repr__.under" ⟨us, []⟩)).depth ≤ A.depth + 1 ∧ (A.under (.builtin "tuple.__repr__.under" ⟨us, []⟩)).handled = A.handled ∧ (A.under (.builtin "tuple.__repr__.under" ⟨us, []⟩)).frames = A.frames := by
  refine ⟨?_, ?_, ?_⟩
  · simp [Around.under, Code.weight, Code.isCreation, Code.isGuard, Code.isCaller, Code.frames, Code.isFrame]
    try (split <;> omega)
  · first | rfl | simp [Around.under]
  · first | rfl | simp [Around.under, Code.envs, pushEnvs]
theorem room_under {n : Nat} {A : Around} {us : List Value} (r : Room (n + 1) A) : Room n (A.under (.builtin "tuple.__repr__.under" ⟨us, []⟩)) := by
  obtain ⟨d, h, _⟩ := @under_depth A us
  refine ⟨h.trans r.hd, ?_, ?_⟩
  · have := r.dp; omega
  · have := r.un
    rw [units_under_tuple_repr_under]
    omega
/-- what is shown, with the tuples within and how deep -/
inductive Shw (K : PySem.W.Frag) (H : Hp) (leaf : Addr → Str → Prop) : V → Str → List Addr → Nat → Prop
  | own {a : Addr} {t : Str} {as : List Addr} {d : Nat} : leaf a t → Shw K H leaf (.ref a) t as d
  | int {i : Int} {as : List Addr} {d : Nat} : i.natAbs.log2 < 1920 → Shw K H leaf (.int i) (PyData.int i).shown as d
  | tup {a : Addr} {xs : List V} {ts : List Str} {as : List Addr} {d : Nat} : SqT K H a xs → ts.length = xs.length → (∀ (i : Nat) (v : V) (t : Str), xs[i]? = some v → ts[i]? = some t → Shw K H leaf v t as d) → a ∉ as → Shw K H leaf (.ref a) (tupleText ts) (a :: as) (d + 1)
section
variable {X : Cx} {C f : Addr} {fd : FuncData} {ps : List Str} {n : Nat} {sp : Sp} {pins : List (Addr × Obj)} {σ : L2.St} {H : Hp}
/-- an object that tells t of itself -/
def OwnT (C : Addr) (sp : Sp) (H : Hp) (a : Addr) (t : Str) : Prop := ∃ (dx : Addr) (fs : List (Str × V)), H a = some (.ins C dx fs) ∧ ∀ R : VK, R (.str t) H → sp [.ref a] H R E0
def ShR (X : Cx) (pins : List (Addr × Obj)) (σ : L2.St) (H : Hp) (as : List Addr) (n : Nat) (u : Value) (t : Str) : Prop := ∀ (base : Nat) (A : Around) (g : List Code) (s : Shared) (R : Str → Shared → Prop), base + t.length ≤ sizeLine → A.guards = some g → (∀ b ∈ as, Clear g b) → Room n A → A.frames = X.A.frames → Inv X pins σ H s →
  (∀ s2, Inv X pins σ H s2 → R t s2) → wpAny (model X.prog X.w) A (pyReprUnder base u) R X.xe s
theorem shr_fold {as : List Addr} {m : Nat} {A : Around} {g : List Code} (hg : A.guards = some g) (hcl : ∀ b ∈ as, Clear g b) (hr : Room m A) (fr : A.frames = X.A.frames) : ∀ (l : List Value) (ts : List Str) (acc : Array Str) (k : Nat) (s : Shared) (R : (Array Str × Nat) → Shared → Prop), ts.length = l.length → (∀ (i : Nat) (u : Value) (t : Str), l[i]? = some u → ts[i]? = some t → ShR X pins σ H as m u t) → k + piled ts ≤ sizeLine → Inv X pins σ H s →
    (∀ s2, Inv X pins σ H s2 → R ⟨acc ++ ts.toArray, k + piled ts⟩ s2) → wpAny (model X.prog X.w) A (forIn l (⟨acc, k⟩ : (Array Str × Nat)) tupBody) R X.xe s
  | [], [], acc, k, s, R, _, _, _, I, q => by
    rw [List.forIn_nil]
    exact wpAny_pure (by simpa [piled] using q s I)
  | [], _ :: _, _, _, _, _, e, _, _, _, _ => by cases e
  | _ :: _, [], _, _, _, _, e, _, _, _, _ => by cases e
  | u :: l, t :: ts, acc, k, s, R, e, hs, hz, I, q => by
    rw [piled_cons] at hz
    rw [List.forIn_cons]
    refine wpAny_bind (wpAny_bind (hs 0 u t rfl rfl (k + 1) A g s _ (by omega) hg hcl hr fr I fun s2 I2 => wpAny_pure ?_))
    refine shr_fold hg hcl hr fr l ts (acc.push t) (k + (t.length + 2)) s2 R (by simpa using e) (fun i u' t' h1 h2 => hs (i + 1) u' t' h1 h2) (by omega) I2 fun s3 I3 => ?_
    have := q s3 I3
    rw [piled_cons] at this
    have ee : k + (t.length + 2) + piled ts = k + (t.length + 2 + piled ts) := by omega
    rw [ee]
    simpa using this
/-- the rest of a tuple's display -/
theorem shr_rest {a : Addr} {xs : List V} {ts : List Str} {as : List Addr} {m base : Nat} {A : Around} {g : List Code} {s : Shared} {id : String} {rest : List Value} {R : Result → Shared → Prop} (I : Inv X pins σ H s) (ha : SqT X.K H a xs) (tl : ts.length = xs.length)
    (hs : ∀ (i : Nat) (v : V) (t : Str), xs[i]? = some v → ts[i]? = some t → ∀ u, RelV v u → ShR X pins σ H as m u t) (na : a ∉ as) (hg : A.guards = some g) (hcl : ∀ b ∈ a :: as, Clear g b)
    (gd : (Code.builtin id ⟨.ref a :: rest, []⟩).isGuard = true) (hr : Room m (A.under (.builtin id ⟨.ref a :: rest, []⟩))) (fr : (A.under (.builtin id ⟨.ref a :: rest, []⟩)).frames = X.A.frames) (hz : base + (tupleText ts).length ≤ sizeLine)
    (q : ∀ s2 u, Inv X pins σ H s2 → R (.ok (.ret (.str (tupleText ts) u))) s2) :
    wpOwn (model X.prog X.w) A (.builtin id ⟨.ref a :: rest, []⟩) (Builtin.tupleReprAt base ⟨[.ref a], []⟩) (fun fin s' => match fin with | .done f => R (.ok f) s' | .again c' => c'.quiet = true ∧ codeAny (model X.prog X.w) A c' R s') (fun e s' => X.xe e s') s := by
  obtain ⟨its, rv, ⟨o, ho, oc, k, od⟩, _⟩ := I.tuple ha
  have hp := piled_le_tupleText ts
  have ne : (g.any fun c => tupGuardF (.ref a) (c, default)) = false := by
    rw [List.any_eq_false]
    intro c hc
    rw [tupGuardF_of_clear (hcl a (List.mem_cons_self ..)) c hc]
    decide
  rw [tuple_repr_tree, tupleReprUnderWay_eq]
  refine wpOwn_bind (wpOwn_stackTailAny hg (tupGuardF_off _) (tupGuardF_pos _) ?_)
  rw [ne]
  refine wpOwn_of_wpAny ?_
  show wpAny _ _ (tupleReprRest base (.ref a)) _ _ s
  unfold tupleReprRest Builtin.Tuple.tupleItemsOf
  refine wpAny_bind (wpAny_bind (wpAny_seqItems ho od (wpAny_pure ?_)))
  rw [← Array.forIn_toList]
  have il : ts.length = its.length := by rw [tl]; exact rv.length
  refine wpAny_bind (shr_fold (guards_under_guard gd hg) (fun b hb => (hcl b (List.mem_cons_of_mem _ hb)).cons (a := a) fun e => na (e ▸ hb)) hr fr _ ts _ _ s _ (by simpa using il) (fun i u t hu ht => ?_) (by omega) I fun s2 I2 => ?_)
  · have hu' : its[i]? = some u := by simpa using hu
    have ix : i < xs.length := by
      have := (List.getElem?_eq_some_iff.mp hu').1
      have := rv.length
      omega
    have hx := List.getElem?_eq_getElem ix
    obtain ⟨u2, hu2, r2⟩ := rv.get hx
    rw [hu'] at hu2
    obtain rfl := Option.some.inj hu2
    exact hs i _ t hx ht u r2
  · refine wpAny_bind (wpAny_mkStr (wpAny_pure ?_) (by
      have : (tupleText ts).length ≤ sizeLine := by omega
      simpa [tupleText, il] using this))
    have := q { s2 with toks := s2.toks + 1 } s2.toks (I2.tok _)
    simpa [tupleText, il] using this
theorem shw_run (F : FnOk X.prog X.w X.K X.mg X.base CX0 n f fd ps sp) (hs : PySem.W.findIn X.K (.ref C) "__repr__" = some (some (.ref f))) (hf : PySem.W.isFn X.K (.ref f) = true) (hb : Binds X.K fd ps []) {v : V} {t : Str} {as : List Addr} {d : Nat}
    (h : Shw X.K H (OwnT C sp H) v t as d) : ∀ u, RelV v u → ShR X pins σ H as (n + d) u t := by
  induction h with
  | @own a t as d h =>
    intro u ru base A g s R hz hg hcl hr fr I q
    cases ru
    obtain ⟨dx, fs, ha, pa⟩ := h
    obtain ⟨_, J1, _⟩ := ins_get I.hok ha
    obtain ⟨_, K1, _⟩ := J1.look
    have hr' : Room n A := hr.mono (by omega)
    refine repr_within (by omega) hr'.units0 I.kIn K1 hs hf (thn (run_one F hb hr' fr I (pa (fun v H' => v = .str t ∧ H' = H) ⟨rfl, rfl⟩)) ?_)
    rintro v s2 ⟨x, H2, I2, rx, rfl, rfl⟩
    obtain ⟨tk, rfl⟩ := rx
    exact ⟨t, tk, rfl, q s2 I2⟩
  | @int i as d hi =>
    intro u ru base A g s R hz hg hcl hr fr I q
    obtain ⟨t, rfl⟩ := ru
    exact ReprIs.int t hi base hz A X.xe s _ fun tk => q _ (I.tok _)
  | @tup a xs ts as d ha tl hx na ih =>
    intro u ru base A g s R hz hg hcl hr fr I q
    cases ru
    obtain ⟨its, rv, ⟨o, ho, oc, k, od⟩, _⟩ := I.tuple ha
    have ty : s.TypeIs (.ref a) "tuple" := ⟨o, ho, oc⟩
    refine wpAny_pyReprUnder_ref (by omega) (wpAny_pyReprObjUnder_twin (twin := "tuple.__repr__.under") ty PySem.F.slot_tuple_repr rfl hr.units0 ?_)
    refine call_twin_own (PySem.F.quiet_tuple_repr_under _) PySem.F.entry_tuple_repr_under PySem.F.check_tuple_repr_under ty PySem.F.slot_tuple_repr (PySem.F.args_tuple_repr_1 _) ?_
    obtain ⟨_, _, ff⟩ := @under_depth A [.ref a, rawInt base]
    exact shr_rest (m := n + d) (R := callEnd _ X.xe) I ha tl (fun i v t h1 h2 => ih i v t h1 h2) na hg hcl (isGuard_tuple_repr_under _) (room_under hr) (ff.trans fr) hz fun s2 u I2 => ⟨⟨_, _, rfl⟩, _, _, rfl, q s2 I2⟩
def rReprN (C : Addr) (K : PySem.W.Frag) (sp : Sp) (d : Nat) : List V → Hp → VK → Prop := fun xs H Q => ∃ (p : Addr) (ws : List V) (ts : List Str) (as : List Addr), xs = [.ref p] ∧ SqT K H p ws ∧ ts.length = ws.length ∧ (∀ (i : Nat) (v : V) (t : Str), ws[i]? = some v → ts[i]? = some t → Shw K H (OwnT C sp H) v t as d) ∧ p ∉ as ∧ (tupleText ts).length ≤ 10000000 ∧ Q (.str (tupleText ts)) H
theorem call_reprN {d : Nat} (hA : X.A.guards = some []) (F : FnOk X.prog X.w X.K X.mg X.base CX0 n f fd ps sp) (hs : PySem.W.findIn X.K (.ref C) "__repr__" = some (some (.ref f))) (hf : PySem.W.isFn X.K (.ref f) = true) (hb : Binds X.K fd ps []) (hr : Room (n + d + 2) X.A) :
    CallR X (.builtin "repr") (rReprN C X.K sp d) := by
  rintro pins s σ H xs us Q I r ⟨p, ws, ts, as, rfl, ha, tl, hx, na, hz, q⟩
  obtain ⟨u, rfl, rx⟩ := vals1 r
  cases rx
  have rA : Room (n + d + 1) X.A.in1 := hr.in1
  have sl : sizeLine = 16777216 := rfl
  obtain ⟨_, _, ff⟩ := @tup_depth X.A.in1 [.ref p]
  obtain ⟨its, rv, ⟨o, ho, oc, k, od⟩, _⟩ := I.tuple ha
  have ty : s.TypeIs (.ref p) "tuple" := ⟨o, ho, oc⟩
  refine call_repr_slot (by have := rA.un; show X.A.in1.units < _; omega) ty PySem.F.slot_tuple_repr ?_
  refine wpAny_call (codeAny_call_builtin_own (Code.quiet_builtin _ (by decide +kernel)) PySem.F.entry_tuple_repr (PySem.F.slot_tuple_repr.check _ _ _ _ _ _ _ _ ty (PySem.F.args_tuple_repr_1 _) ?_))
  exact shr_rest (m := n + d) (base := 0) (R := callEnd _ X.xe) I ha tl (fun i v t h1 h2 => shw_run F hs hf hb (hx i v t h1 h2)) na hA (fun b _ => Clear.nil b) (isGuard_tuple_repr _) (room_tup rA) ff (by omega) fun s2 u I2 => ⟨_, _, rfl, .str _, H, I2, ⟨_, rfl⟩, q⟩
end
end My

namespace My
open PySem L2 TL NumText
/-! ### texts of whole numbers and of Numbers -/
def TI (i : Int) : Str := Str.ofString (toString i)
def signL (i : Int) : List Nat := if i < 0 then 45 :: numL i.natAbs else numL i.natAbs
theorem tl_TI (i : Int) : tl (TI i) = signL i := by
  unfold TI signL
  by_cases h : i < 0
  · rw [if_pos h]
    obtain ⟨m, rfl⟩ := Int.eq_negSucc_of_lt_zero h
    have e : toString (Int.negSucc m) = "-" ++ toString (((m + 1 : Nat)) : Int) := rfl
    rw [e, tl_ofString, String.toList_append, List.map_append, ← tl_ofString (toString (((m + 1 : Nat)) : Int)), tl_num]
    rfl
  · rw [if_neg h]
    obtain ⟨n, rfl⟩ := Int.eq_ofNat_of_zero_le (show 0 ≤ i by omega)
    exact tl_num n
theorem signL_inj {i j : Int} (h : signL i = signL j) : i = j := by
  unfold signL at h
  have f : ∀ n, (45 : Nat) ∉ numL n := fun n => numL_free (by decide)
  by_cases a : i < 0 <;> by_cases b : j < 0
  · rw [if_pos a, if_pos b] at h
    have := numL_inj (List.cons.inj h).2
    omega
  · rw [if_pos a, if_neg b] at h
    exact absurd (h ▸ List.mem_cons_self ..) (f _)
  · rw [if_neg a, if_pos b] at h
    exact absurd (h ▸ List.mem_cons_self ..) (f _)
  · rw [if_neg a, if_neg b] at h
    have := numL_inj h
    omega
theorem TI_inj {i j : Int} (h : TI i = TI j) : i = j := signL_inj (by rw [← tl_TI, ← tl_TI, h])
theorem free_signL {s : Nat} (h : s ≠ 45) (h2 : s < 48 ∨ 57 < s) (i : Int) : s ∉ signL i := by
  unfold signL
  split
  · intro z
    rcases List.mem_cons.mp z with z | z
    · exact h z
    · exact numL_free h2 z
  · exact numL_free h2
theorem signL_len {i : Int} {k : Nat} (hk : 0 < k) (h : i.natAbs < 10 ^ k) : (signL i).length ≤ k + (if i < 0 then 1 else 0) := by
  have := numL_len hk h
  unfold signL
  split
  · rw [List.length_cons]; omega
  · omega
theorem signL_ne (i : Int) : signL i ≠ [] := by
  unfold signL
  split
  · exact List.cons_ne_nil _ _
  · exact numL_ne _
theorem int_TI {i : Int} (h : (TI i).length ≤ 4300) : intText? (TI i) = some i := by
  by_cases z : i < 0
  · have e : (TI i).cps.toList = 45 :: numL i.natAbs := by
      have := tl_TI i
      unfold signL at this
      rw [if_pos z] at this
      exact this
    have := intText_neg e (numL_digits _) (numL_ne _) h
    rw [this, numL_val]
    congr 1
    omega
  · obtain ⟨n, rfl⟩ := Int.eq_ofNat_of_zero_le (show 0 ≤ i by omega)
    have l : (numL n).length ≤ 4300 := by
      have := len_tl (TI (n : Int))
      rw [tl_TI] at this
      unfold signL at this
      rw [if_neg z] at this
      rw [this] at h
      exact h
    exact int_num l
/-- the text of a Number -/
def NText (x : Rat) : Str := if x.den = 1 then TI x.num else TI x.num ++ "/" ++ TI (x.den : Int)
theorem nat_signL (n : Nat) : signL (n : Int) = numL n := by
  unfold signL
  rw [if_neg (by omega)]
  rfl
theorem tl_NText (x : Rat) : tl (NText x) = if x.den = 1 then signL x.num else signL x.num ++ 47 :: numL x.den := by
  unfold NText
  split
  · exact tl_TI _
  · have e : tl ("/" : Str) = [47] := rfl
    rw [tl_append, tl_append, tl_TI, tl_TI, nat_signL, e]
    simp
theorem part_none {x : Rat} (h : x.den = 1) : Txt.partition (NText x) "/" = (TI x.num, Str.empty, Str.empty) := by
  have e : NText x = TI x.num := if_pos h
  rw [e]
  exact partition_none (s := 47) (S := []) rfl (by rw [tl_TI]; exact free_signL (by decide) (by decide) _)
theorem part_some {x : Rat} (h : x.den ≠ 1) : Txt.partition (NText x) "/" = (TI x.num, ("/" : Str), TI (x.den : Int)) := by
  have e : NText x = TI x.num ++ "/" ++ TI (x.den : Int) := if_neg h
  rw [e]
  exact partition_app (s := 47) (S := []) rfl (by rw [tl_TI]; exact free_signL (by decide) (by decide) _)
theorem minus_off (i : Int) : tl (Txt.removeprefix (TI i) "-") = numL i.natAbs := by
  rw [PySem.StrLaws.removeprefix_eq]
  have hx : (TI i).cps.toList = signL i := tl_TI i
  have ll : (TI i).length = (signL i).length := by rw [len_tl, tl_TI]
  have hy : ("-" : Str).cps.toList = [45] := rfl
  have y1 : ("-" : Str).length = 1 := rfl
  rw [PySem.StrLaws.subAt_eq, hx, hy, y1, ll, List.drop_zero]
  unfold signL
  by_cases z : i < 0
  · rw [if_pos z]
    have e : ((45 :: numL i.natAbs).take 1 == [45]) = true := rfl
    rw [e, if_pos (by rw [Bool.and_true]; exact decide_eq_true (by rw [List.length_cons]; omega))]
    show (45 :: numL i.natAbs).tail.take _ = _
    rw [List.tail_cons, List.length_cons]
    exact List.take_of_length_le (by omega)
  · rw [if_neg z]
    have f : (45 : Nat) ∉ numL i.natAbs := numL_free (by decide)
    have e : ((numL i.natAbs).take 1 == [45]) = false := by
      generalize numL i.natAbs = l at *
      cases l with
      | nil => rfl
      | cons c r =>
        have c0 : c ≠ 45 := fun q => f (by rw [q]; exact List.mem_cons_self ..)
        show ((c :: List.take 0 r) == [45]) = false
        rw [List.take_zero]
        simpa using c0
    rw [e, Bool.and_false, if_neg (by decide)]
    have := tl_TI i
    unfold signL at this
    rw [if_neg z] at this
    exact this
theorem digit_is : ∀ c : Nat, 48 ≤ c → c ≤ 57 → Unicode.isDigit c = true ∧ decide (c < 128) = true := by
  intro c h1 h2
  have h : c = 48 ∨ c = 49 ∨ c = 50 ∨ c = 51 ∨ c = 52 ∨ c = 53 ∨ c = 54 ∨ c = 55 ∨ c = 56 ∨ c = 57 := by omega
  rcases h with rfl | rfl | rfl | rfl | rfl | rfl | rfl | rfl | rfl | rfl <;> decide +kernel
theorem all_list {x : Str} {p : Nat → Bool} : x.cps.all p = (tl x).all p := by
  show x.cps.all p = x.cps.toList.all p
  exact (Array.all_toList ..).symm
theorem ascii_off (i : Int) : Txt.isascii (Txt.removeprefix (TI i) "-") = true := by
  unfold Txt.isascii
  rw [all_list, minus_off, List.all_eq_true]
  intro c hc
  have := numL_digits _ c hc
  exact (digit_is c this.1 this.2).2
theorem digits_off (i : Int) : Txt.isdigit (Txt.removeprefix (TI i) "-") = true := by
  unfold Txt.isdigit
  rw [all_list, minus_off, len_tl, minus_off, Bool.and_eq_true, List.all_eq_true]
  constructor
  · have := numL_ne i.natAbs
    generalize numL i.natAbs = l at *
    cases l with
    | nil => exact absurd rfl this
    | cons _ _ => exact decide_eq_true (by rw [List.length_cons]; omega)
  · intro c hc
    have := numL_digits _ c hc
    exact (digit_is c this.1 this.2).1
theorem TI_len (i : Int) : (TI i).length = (signL i).length := by rw [len_tl, tl_TI]
theorem NText_len (x : Rat) : (NText x).length = if x.den = 1 then (signL x.num).length else (signL x.num).length + 1 + (numL x.den).length := by
  rw [len_tl, tl_NText]
  split
  · rfl
  · rw [List.length_append, List.length_cons]; omega
end My

namespace My
open PySem L2
section
variable {σ : L2.St} {H : Hp} {Q : VK} {v x y : V} {te ta to ti : TE} {tr : TA} {K : PySem.W.Frag} {nx : L2.St → Hp → Prop} {rt : VK} {bk ct : L2.St → Hp → Prop}
theorem r_par {i j : Nat} (q : tr σ H fun vs H1 => ∃ v w, vs = [v, w] ∧ nx ((σ.set i (some v)).set j (some w)) H1) : tPar i j tr ⟨nx, rt, bk, ct⟩ σ H := q
theorem r_two {P : V → V → Prop} (q : P x y) : ∃ v w, [x, y] = [v, w] ∧ P v w := ⟨x, y, rfl, q⟩
theorem r_m1 {r : V → List V → Hp → VK → Prop} (q : to σ H fun x H1 => (∃ a, x = .str a) ∧ te σ H1 fun y H2 => r x [y] H2 Q) : tM1 r to te σ H Q := q
theorem r_isStr {a : Str} {P : Prop} (q : P) : (∃ b, V.str a = .str b) ∧ P := ⟨⟨a, rfl⟩, q⟩
theorem r_inT {t : Addr} {xs : List V} {b : Bool} (h : H t = some (.tup xs)) (f : flatV x = true) (fs : xs.all flatV = true) (e : inV x xs = b) (q : Q (.bl b) H) : rIn K false x (.ref t) H Q := ⟨t, xs, rfl, .inr (SqT.of h), f, fs, by
  subst e
  exact q⟩
theorem r_notInT {t : Addr} {xs : List V} {b : Bool} (h : H t = some (.tup xs)) (f : flatV x = true) (fs : xs.all flatV = true) (e : inV x xs = b) (q : Q (.bl (!b)) H) : rIn K true x (.ref t) H Q := ⟨t, xs, rfl, .inr (SqT.of h), f, fs, by
  subst e
  exact q⟩
theorem r_isN {P : V → Hp → Prop} {b : Bool} (e : decide (x = V.non) = b) (q : P (.bl b) H) : V.non = V.non ∧ P (.bl (decide (x = V.non))) H := ⟨rfl, by rw [e]; exact q⟩
theorem r_lcT {tl : TE} {g : TG} {tt : TT} {vs : List Nat} (q : tl σ H fun x H1 => ∃ a, x = .ref a ∧ (∃ xs, SqT K H1 a xs) ∧ ∀ D, H1 D = none → ∃ W : Nat → Nat → Hp → Prop, (∃ m, W 0 m (upd H1 D (.lst []))) ∧ ∀ i m H, W i m H →
    ((Itt K a).stop i H ∧ Q (.ref D) H) ∨ ((Itt K a).go i H ∧ ∃ Nx : Hp → Prop, (∀ H', Nx H' → ∃ m', m' < m ∧ W (i + 1) m' H') ∧ ∀ x H', (Itt K a).yld i H x H' → g x (wipe σ vs) H' fun σ2 H2 => wipe σ2 vs = wipe σ vs ∧ tt σ2 H2 fun b H3 =>
      if b = true then te σ2 H3 fun y H4 => ∃ acc, H4 D = some (.lst acc) ∧ acc.length < sizeLine ∧ Nx (upd H4 D (.lst (acc ++ [y]))) else Nx H3)) : tLc (iTup K tl) g tt te vs σ H Q := q
theorem r_rng2 {g : TG} {tb : TS} {D : Ends} (q : tr σ H fun vs H1 => ∃ i j : Int, vs = [.int i, .int j] ∧ (-(2 ^ 62) ≤ i ∧ i < 2 ^ 62 ∧ -(2 ^ 62) ≤ j ∧ j < 2 ^ 62) ∧ ∃ W : Nat → Nat → L2.St → Hp → Prop, (∃ m, W 0 m σ H1) ∧ ∀ k m σ H, W k m σ H →
    ((Itr i (j - i).toNat).stop k H ∧ D.nx σ H) ∨ ((Itr i (j - i).toNat).go k H ∧ ∃ N : L2.St → Hp → Prop, (∀ σ' H', N σ' H' → ∃ m', m' < m ∧ W (k + 1) m' σ' H') ∧ ∀ x H', (Itr i (j - i).toNat).yld k H x H' → g x σ H' fun σ2 H2 => tb { D with nx := N, ct := N, bk := D.nx } σ2 H2)) : tFor (iRng2 tr) g tb D σ H := q
theorem r_gTup {a : Addr} {xs : List V} {n : Nat} {t : TGs} {QS : L2.St → Hp → Prop} (h : H a = some (.tup xs)) (l : xs.length = n) (q : t xs σ H QS) : gTup K n t (.ref a) σ H QS := ⟨a, xs, rfl, SqT.of h, l, q⟩
theorem r_gCons {t : TG} {u : TGs} {xs : List V} {QS : L2.St → Hp → Prop} (q : t x σ H fun σ' H' => u xs σ' H' QS) : gCons t u (x :: xs) σ H QS := ⟨x, xs, rfl, q⟩
theorem r_gNil {QS : L2.St → Hp → Prop} (q : QS σ H) : gNil [] σ H QS := ⟨rfl, q⟩
theorem r_aug {i : Nat} {ti : TIp} (q : ∃ x, σ[i]? = some (some x) ∧ te σ H fun y H1 => ti x y H1 fun z H2 => nx (σ.set i (some z)) H2) : tAug i te ti ⟨nx, rt, bk, ct⟩ σ H := q
theorem r_ip {f : Int → Int → Int} {i j : Int} (q : Q (.int (f i j)) H) : ipI f (.int i) (.int j) H Q := ⟨i, j, rfl, rfl, q⟩
theorem r_bits (q : to σ H fun x H1 => ∃ i, x = .int i ∧ Q (.int (Builtin.Int.intBits i : Nat)) H1) : tBits to σ H Q := q
theorem r_dget2 {td ty tx : TE} (q : td σ H fun x H1 => ∃ a, x = .ref a ∧ IsD H1 a ∧ ty σ H1 fun y H2 => tx σ H2 fun z H3 => ∃ o, DGet H3 a y o ∧ Q (o.getD z) H3) : tDGet2 td ty tx σ H Q := q
theorem r_rng1 {g : TG} {tb : TS} {D : Ends} (q : tr σ H fun vs H1 => ∃ j : Int, vs = [.int j] ∧ -(2 ^ 62) ≤ j ∧ j < 2 ^ 62 ∧ ∃ W : Nat → Nat → L2.St → Hp → Prop, (∃ m, W 0 m σ H1) ∧ ∀ k m σ H, W k m σ H →
    ((Itr 0 j.toNat).stop k H ∧ D.nx σ H) ∨ ((Itr 0 j.toNat).go k H ∧ ∃ N : L2.St → Hp → Prop, (∀ σ' H', N σ' H' → ∃ m', m' < m ∧ W (k + 1) m' σ' H') ∧ ∀ x H', (Itr 0 j.toNat).yld k H x H' → g x σ H' fun σ2 H2 => tb { D with nx := N, ct := N, bk := D.nx } σ2 H2)) : tFor (iRng1 tr) g tb D σ H := q
end
end My

local macro_rules | `(tactic| walk_at "rd2") => `(tactic| first
  | with_reducible refine My.r_par ?_
  | with_reducible refine My.r_two ?_
  | with_reducible refine My.r_m1 ?_
  | with_reducible refine My.r_isStr ?_
  | with_reducible refine My.r_gCons ?_
  | with_reducible refine My.r_gNil ?_
  | ((with_reducible refine My.r_aug ?_); refine ⟨_, rfl, ?_⟩)
  | with_reducible refine My.r_ip ?_
  | with_reducible refine My.r_bits ?_)
local macro_rules | `(tactic| walk_at "rdg") => `(tactic| (repeat (first | walk_at "rd1" | walk_at "rd2")))

namespace My
open PySem L2
section
variable {σ : L2.St} {H : Hp} {Q : VK} {v x y : V} {te ta to ti td ty tk tv : TE} {K : PySem.W.Frag}
theorem r_disp {trs : List (TE × TE)} (q : ∀ p, H p = none → tPairs trs σ (upd H p (.dK [])) fun ps H2 => H2 p = some (.dK []) ∧ ∃ kvs : List (Key × V), ps = kvs.map (fun kv => (kV kv.1, kv.2)) ∧ kvs.length ≤ 15 ∧ Q (.ref p) (upd H2 p (.dK (mergeK [] kvs)))) : tDisp trs σ H Q := q
theorem r_pair {r : List (TE × TE)} {QP : List (V × V) → Hp → Prop} (q : tk σ H fun x H1 => tv σ H1 fun y H2 => tPairs r σ H2 fun ps H3 => QP ((x, y) :: ps) H3) : tPairs ((tk, tv) :: r) σ H QP := q
theorem r_pair0 {QP : List (V × V) → Hp → Prop} (q : QP [] H) : tPairs [] σ H QP := q
theorem r_dget (q : td σ H fun x H1 => ty σ H1 fun y H2 => ∃ a v, x = .ref a ∧ DGet H2 a y (some v) ∧ Q v H2) : tDGet td ty σ H Q := q
theorem r_din (q : ty σ H fun y H1 => td σ H1 fun x H2 => ∃ a o, x = .ref a ∧ DGet H2 a y o ∧ Q (.bl o.isSome) H2) : tDIn ty td σ H Q := q
theorem Same.dict {H : Hp} {p : Addr} {o1 o2 : HO} (h : H p = none) : Same H (upd (upd H p o1) p o2) := fun b o e => by
  rw [upd_ne (ne_of_none e h), upd_ne (ne_of_none e h)]
  exact e
end
end My

local macro_rules | `(tactic| walk_at "rd3") => `(tactic| first
  | with_reducible refine My.r_pair ?_
  | with_reducible refine My.r_pair0 ?_
  | with_reducible refine My.r_dget ?_
  | with_reducible refine My.r_din ?_)
local macro_rules | `(tactic| walk_at "rdh") => `(tactic| (repeat (first | walk_at "rd1" | walk_at "rd2" | walk_at "rd3")))

namespace My
open PySem L2
section
variable {σ : L2.St} {H : Hp} {Q : VK} {v x y : V} {te ta to ti : TE} {tr : TA} {K : PySem.W.Frag} {nx : L2.St → Hp → Prop} {rt : VK} {bk ct : L2.St → Hp → Prop}
theorem r_lcL {tl : TE} {g : TG} {tt : TT} {vs : List Nat} (q : tl σ H fun x H1 => ∃ a, x = .ref a ∧ (∃ xs, SqL K H1 a xs) ∧ ∀ D, H1 D = none → ∃ W : Nat → Nat → Hp → Prop, (∃ m, W 0 m (upd H1 D (.lst []))) ∧ ∀ i m H, W i m H →
    ((Itl K a).stop i H ∧ Q (.ref D) H) ∨ ((Itl K a).go i H ∧ ∃ Nx : Hp → Prop, (∀ H', Nx H' → ∃ m', m' < m ∧ W (i + 1) m' H') ∧ ∀ x H', (Itl K a).yld i H x H' → g x (wipe σ vs) H' fun σ2 H2 => wipe σ2 vs = wipe σ vs ∧ tt σ2 H2 fun b H3 =>
      if b = true then te σ2 H3 fun y H4 => ∃ acc, H4 D = some (.lst acc) ∧ acc.length < sizeLine ∧ Nx (upd H4 D (.lst (acc ++ [y]))) else Nx H3)) : tLc (iList K tl) g tt te vs σ H Q := q
theorem r_forL {tl : TE} {g : TG} {tb : TS} {D : Ends} (q : tl σ H fun x H1 => ∃ a, x = .ref a ∧ (∃ xs, SqL K H1 a xs) ∧ ∃ W : Nat → Nat → L2.St → Hp → Prop, (∃ m, W 0 m σ H1) ∧ ∀ i m σ H, W i m σ H →
    ((Itl K a).stop i H ∧ D.nx σ H) ∨ ((Itl K a).go i H ∧ ∃ N : L2.St → Hp → Prop, (∀ σ' H', N σ' H' → ∃ m', m' < m ∧ W (i + 1) m' σ' H') ∧ ∀ x H', (Itl K a).yld i H x H' → g x σ H' fun σ2 H2 => tb { D with nx := N, ct := N, bk := D.nx } σ2 H2)) : tFor (iList K tl) g tb D σ H := q
theorem r_cat {l b : Addr} {xs zs : List V} (h1 : H l = some (.lst xs)) (h2 : H b = some (.lst zs)) (n : xs.length + zs.length ≤ 100000) (q : ∀ p, H p = none → Q (.ref p) (upd H p (.lst (xs ++ zs)))) : rCat (.ref l) (.ref b) H Q := ⟨l, b, xs, zs, rfl, rfl, h1, h2, Nat.le_trans n (by decide), q⟩
theorem r_iteR {A B : Prop} {k : Bool} (b : B) (h : k = true → B → A) : if k = true then A else B := by
  cases k with
  | true => exact h rfl b
  | false => exact b
theorem r_inAny {t : Addr} {xs : List V} {b : Bool} {n : Bool} (h : H t = some (.tup xs)) (f : flatV x = true) (fs : xs.all flatV = true) (e : inV x xs = b) (q : Q (.bl (if n then !b else b)) H) : rIn K n x (.ref t) H Q := ⟨t, xs, rfl, .inr (SqT.of h), f, fs, by
  subst e
  cases n <;> exact q⟩
end
end My
namespace My
open PySem L2
theorem r_cut {t u : TS} {σ : L2.St} {H : Hp} {nx : L2.St → Hp → Prop} {rt : VK} {bk ct : L2.St → Hp → Prop} (Mid : L2.St → Hp → Prop) (h1 : t ⟨Mid, rt, bk, ct⟩ σ H) (h2 : ∀ σ' H', Mid σ' H' → u ⟨nx, rt, bk, ct⟩ σ' H') : C8.tCut t u ⟨nx, rt, bk, ct⟩ σ H := ⟨Mid, h1, h2⟩
end My

namespace My
open PySem PySem.Spec PyProof.Rows L2
/-! ### range(j) as a thing; an index within a comprehension -/
theorem cr_range1 {X : Cx} : CallR X (.type "range") (fun vs H Q => ∃ j, vs = [V.int j] ∧ ∀ p, H p = none → Q (.ref p) (upd H p (.rng 0 j))) := by
  intro pins s σ H vs us Q I r h
  obtain ⟨j, rfl, q⟩ := h
  cases r with
  | cons rj rr =>
  cases rr
  obtain ⟨t, rfl⟩ := rj
  refine call_range_1 ⟨.ref s.heap.objs.size, upd H s.heap.objs.size (.rng 0 j), I.laid (t' := s.toks + 2) (fun c o e => Heap.get?_push_of_some _ e) (Nat.le_refl _) ?_, rfl, q _ (I.hok.fresh (Nat.le_refl _))⟩
  exact ⟨_, _, _, Heap.get?_push_size _ rfl⟩
theorem ix_tupK {X : Cx} {K0 : PySem.W.Frag} (hK : X.K = K0) : IxR X (rIxT K0) := by
  subst hK
  exact ix_tup
theorem call_isiK {X : Cx} {K0 : PySem.W.Frag} (hK : X.K = K0) : CallR X (.builtin "isinstance") (rIsi K0) := by
  subst hK
  exact call_isi
end My

namespace My
open PySem PySem.Spec PyProof.Rows L2
/-! ### words within a comprehension, K by its name -/
section
variable {X : Cx} {K0 : PySem.W.Frag}
theorem ix_listK (hK : X.K = K0) : IxR X (rIxL K0) := by
  subst hK
  exact ix_list
theorem op_catAK (hK : X.K = K0) : OpR X (binaryOp .Add) (rCatA K0) := by
  subst hK
  exact op_catA
theorem call_len_seqK (hK : X.K = K0) : CallR X (.builtin "len") (fun xs H Q => ∃ p ys, xs = [V.ref p] ∧ (SqL K0 H p ys ∨ SqT K0 H p ys) ∧ Q (.int (ys.length : Nat)) H) := by
  subst hK
  exact call_len_seq
end
end My

namespace My
open PySem L2
def top (i : Nat) : Stmt := PySem.Challenge.pw_figuretexts_k06_whole_numbers_reckoned_o.main.body.getD i (.Pass ⟨0, 0, 0, 0⟩)
abbrev s_Number_init : Stmt := inClass (top 13) 0
theorem sc_Number_init : FnScope ["self", "top", "bottom", "common"] ["self", "top", "bottom"] (defScope s_Number_init) := ⟨rfl, rfl, rfl, by decide +kernel, rfl, by decide +kernel, by decide +kernel⟩
abbrev s_Number_eq : Stmt := inClass (top 13) 1
theorem sc_Number_eq : FnScope ["self", "other"] ["self", "other"] (defScope s_Number_eq) := ⟨rfl, rfl, rfl, by decide +kernel, rfl, by decide +kernel, by decide +kernel⟩
abbrev s_Number_str : Stmt := inClass (top 13) 2
theorem sc_Number_str : FnScope ["self"] ["self"] (defScope s_Number_str) := ⟨rfl, rfl, rfl, by decide +kernel, rfl, by decide +kernel, by decide +kernel⟩
abbrev s_Number_repr : Stmt := inClass (top 13) 3
theorem sc_Number_repr : FnScope ["self"] ["self"] (defScope s_Number_repr) := ⟨rfl, rfl, rfl, by decide +kernel, rfl, by decide +kernel, by decide +kernel⟩
abbrev s_Number_more : Stmt := inClass (top 13) 4
theorem sc_Number_more : FnScope ["self", "other"] ["self", "other"] (defScope s_Number_more) := ⟨rfl, rfl, rfl, by decide +kernel, rfl, by decide +kernel, by decide +kernel⟩
abbrev s_Number_less : Stmt := inClass (top 13) 5
theorem sc_Number_less : FnScope ["self", "other"] ["self", "other"] (defScope s_Number_less) := ⟨rfl, rfl, rfl, by decide +kernel, rfl, by decide +kernel, by decide +kernel⟩
abbrev s_Number_times : Stmt := inClass (top 13) 6
theorem sc_Number_times : FnScope ["self", "other"] ["self", "other"] (defScope s_Number_times) := ⟨rfl, rfl, rfl, by decide +kernel, rfl, by decide +kernel, by decide +kernel⟩
abbrev s_Number_over : Stmt := inClass (top 13) 7
theorem sc_Number_over : FnScope ["self", "other"] ["self", "other"] (defScope s_Number_over) := ⟨rfl, rfl, rfl, by decide +kernel, rfl, by decide +kernel, by decide +kernel⟩
abbrev s_Number_below : Stmt := inClass (top 13) 8
theorem sc_Number_below : FnScope ["self", "other"] ["self", "other"] (defScope s_Number_below) := ⟨rfl, rfl, rfl, by decide +kernel, rfl, by decide +kernel, by decide +kernel⟩
abbrev s_Number_size : Stmt := inClass (top 13) 9
theorem sc_Number_size : FnScope ["self"] ["self"] (defScope s_Number_size) := ⟨rfl, rfl, rfl, by decide +kernel, rfl, by decide +kernel, by decide +kernel⟩
abbrev s_Number_floor : Stmt := inClass (top 13) 10
theorem sc_Number_floor : FnScope ["self"] ["self"] (defScope s_Number_floor) := ⟨rfl, rfl, rfl, by decide +kernel, rfl, by decide +kernel, by decide +kernel⟩
abbrev s_read_number : Stmt := top 14
theorem sc_read_number : FnScope ["text", "above", "slash", "behind", "top", "bottom", "number"] ["text"] (defScope s_read_number) := ⟨rfl, rfl, rfl, by decide +kernel, rfl, by decide +kernel, by decide +kernel⟩
abbrev s_whole : Stmt := top 15
theorem sc_whole : FnScope ["text", "figures"] ["text"] (defScope s_whole) := ⟨rfl, rfl, rfl, by decide +kernel, rfl, by decide +kernel, by decide +kernel⟩
abbrev s_l_well : Stmt := top 31
theorem sc_l_well : FnScope ["_law_script", "_law_k", "_law_cell"] ["_law_script", "_law_k"] (defScope s_l_well) := ⟨rfl, rfl, rfl, by decide +kernel, rfl, by decide +kernel, by decide +kernel⟩
abbrev s_l_take : Stmt := top 32
theorem sc_l_take : FnScope ["_law_well_here", "_law_top", "_law_digit", "_law_number"] ["_law_well_here", "_law_top"] (defScope s_l_take) := ⟨rfl, rfl, rfl, by decide +kernel, rfl, by decide +kernel, by decide +kernel⟩
abbrev s_l_ten : Stmt := top 33
theorem sc_l_ten : FnScope ["_law_power", "_law_found", "_law_k"] ["_law_power"] (defScope s_l_ten) := ⟨rfl, rfl, rfl, by decide +kernel, rfl, by decide +kernel, by decide +kernel⟩
abbrev s_l_pair : Stmt := top 34
theorem sc_l_pair : FnScope ["_law_well_here", "_law_way", "_law_by", "_law_power", "_law_top", "_law_bottom", "_law_turn", "_law_signs"] ["_law_well_here"] (defScope s_l_pair) := ⟨rfl, rfl, rfl, by decide +kernel, rfl, by decide +kernel, by decide +kernel⟩
abbrev s_l_rules_right : Stmt := top 35
theorem sc_l_rules_right : FnScope ["_law_a", "_law_b", "_law_c", "_law_low"] ["_law_a", "_law_b", "_law_c"] (defScope s_l_rules_right) := ⟨rfl, rfl, rfl, by decide +kernel, rfl, by decide +kernel, by decide +kernel⟩
abbrev s_l_chain_right : Stmt := top 36
theorem sc_l_chain_right : FnScope ["_law_well_here", "_law_numbers", "_law_here", "_law_turn", "_law_other", "_law_way", "_law_found"] ["_law_well_here", "_law_numbers"] (defScope s_l_chain_right) := ⟨rfl, rfl, rfl, by decide +kernel, rfl, by decide +kernel, by decide +kernel⟩
abbrev s_l_kinds : Stmt := top 37
theorem sc_l_kinds : FnScope ["_law_e", "_law_some"] ["_law_e"] (defScope s_l_kinds) := ⟨rfl, rfl, rfl, by decide +kernel, rfl, by decide +kernel, by decide +kernel⟩
abbrev s_l_refusals_right : Stmt := top 38
theorem sc_l_refusals_right : FnScope ["_law_one", "_law_other", "_law_made", "_law_k", "_law_e", "_law_told", "_law_caught", "e2", "_law_j"] ["_law_one", "_law_other"] (defScope s_l_refusals_right) := ⟨rfl, rfl, rfl, by decide +kernel, rfl, by decide +kernel, by decide +kernel⟩
abbrev s_l_options_right : Stmt := top 39
theorem sc_l_options_right : FnScope ["_law_told", "_law_due", "_law_ways"] [] (defScope s_l_options_right) := ⟨rfl, rfl, rfl, by decide +kernel, rfl, by decide +kernel, by decide +kernel⟩
abbrev s_law : Stmt := top 40
theorem sc_law : FnScope ["_law_script", "_law_k", "_law_well_here", "_law_pairs", "_law_numbers", "_law_a", "_law_b", "_law_c", "_law_fields", "_law_one", "_law_other", "_law_turn", "_law_top", "_law_bottom"] ["_law_script"] (defScope s_law) := ⟨rfl, rfl, rfl, by decide +kernel, rfl, by decide +kernel, by decide +kernel⟩
structure Txt (w : World) (K : PySem.W.Frag) (mg : Str → Option Value) where
  C_Number : Addr
  m_Number : mg "Number" = some (.ref C_Number)
  c_Number : Cls K C_Number
  n_Number_top : NoAttr K C_Number "top"
  n_Number_bottom : NoAttr K C_Number "bottom"
  ty_Number_c : PySem.W.findIn K (.ref C_Number) "__class__" = some (some (.builtin "object.__class__"))
  ty_Number_g : PySem.W.specialIn K (.builtin "object.__class__") "__get__" = some (some (.builtin "getset_descriptor.__get__"))
  ty_Number_t : PySem.W.takesIn K (.builtin "object.__class__") = some true
  ty_Number_m : PySem.W.mroIn K C_Number (.type "object") = some true
  ty_Number_k : PySem.W.kitOne K (.ref C_Number) (.ref C_Number) = some true
  ne_Number : PySem.W.findIn K (.ref C_Number) "__ne__" = some (some (.builtin "object.__ne__"))
  f_Number_init : Addr
  fd_Number_init : FuncData
  F_Number_init : FunD K "__init__" "Number.__init__" (defArgs s_Number_init) (defBody s_Number_init) (defScope s_Number_init) [V.int 1] [] f_Number_init fd_Number_init
  mk_Number : Mk K C_Number f_Number_init
  b_Number_init2 : Binds K fd_Number_init ["self", "top", "bottom"] []
  ds_Number_init1 : List Value
  d_Number_init1 : Vals [V.int 1] ds_Number_init1
  b_Number_init1 : Binds K fd_Number_init ["self", "top", "bottom"] ds_Number_init1
  f_Number_eq : Addr
  fd_Number_eq : FuncData
  F_Number_eq : Fun K "__eq__" "Number.__eq__" s_Number_eq f_Number_eq fd_Number_eq
  me_Number_eq : Meth K C_Number "__eq__" f_Number_eq
  b_Number_eq : Binds K fd_Number_eq ["self", "other"] []
  f_Number_str : Addr
  fd_Number_str : FuncData
  F_Number_str : Fun K "__str__" "Number.__str__" s_Number_str f_Number_str fd_Number_str
  me_Number_str : Meth K C_Number "__str__" f_Number_str
  b_Number_str : Binds K fd_Number_str ["self"] []
  f_Number_repr : Addr
  fd_Number_repr : FuncData
  F_Number_repr : Fun K "__repr__" "Number.__repr__" s_Number_repr f_Number_repr fd_Number_repr
  me_Number_repr : Meth K C_Number "__repr__" f_Number_repr
  b_Number_repr : Binds K fd_Number_repr ["self"] []
  f_Number_more : Addr
  fd_Number_more : FuncData
  F_Number_more : Fun K "more" "Number.more" s_Number_more f_Number_more fd_Number_more
  me_Number_more : Meth K C_Number "more" f_Number_more
  b_Number_more : Binds K fd_Number_more ["self", "other"] []
  f_Number_less : Addr
  fd_Number_less : FuncData
  F_Number_less : Fun K "less" "Number.less" s_Number_less f_Number_less fd_Number_less
  me_Number_less : Meth K C_Number "less" f_Number_less
  b_Number_less : Binds K fd_Number_less ["self", "other"] []
  f_Number_times : Addr
  fd_Number_times : FuncData
  F_Number_times : Fun K "times" "Number.times" s_Number_times f_Number_times fd_Number_times
  me_Number_times : Meth K C_Number "times" f_Number_times
  b_Number_times : Binds K fd_Number_times ["self", "other"] []
  f_Number_over : Addr
  fd_Number_over : FuncData
  F_Number_over : Fun K "over" "Number.over" s_Number_over f_Number_over fd_Number_over
  me_Number_over : Meth K C_Number "over" f_Number_over
  b_Number_over : Binds K fd_Number_over ["self", "other"] []
  f_Number_below : Addr
  fd_Number_below : FuncData
  F_Number_below : Fun K "below" "Number.below" s_Number_below f_Number_below fd_Number_below
  me_Number_below : Meth K C_Number "below" f_Number_below
  b_Number_below : Binds K fd_Number_below ["self", "other"] []
  f_Number_size : Addr
  fd_Number_size : FuncData
  F_Number_size : Fun K "size" "Number.size" s_Number_size f_Number_size fd_Number_size
  me_Number_size : Meth K C_Number "size" f_Number_size
  b_Number_size : Binds K fd_Number_size ["self"] []
  f_Number_floor : Addr
  fd_Number_floor : FuncData
  F_Number_floor : Fun K "floor" "Number.floor" s_Number_floor f_Number_floor fd_Number_floor
  me_Number_floor : Meth K C_Number "floor" f_Number_floor
  b_Number_floor : Binds K fd_Number_floor ["self"] []
  f_read_number : Addr
  fd_read_number : FuncData
  F_read_number : Fun K "read_number" "read_number" s_read_number f_read_number fd_read_number
  m_read_number : mg "read_number" = some (.ref f_read_number)
  b_read_number : Binds K fd_read_number ["text"] []
  f_whole : Addr
  fd_whole : FuncData
  F_whole : Fun K "_whole" "_whole" s_whole f_whole fd_whole
  m_whole : mg "_whole" = some (.ref f_whole)
  b_whole : Binds K fd_whole ["text"] []
  f_l_well : Addr
  fd_l_well : FuncData
  F_l_well : Fun K "_law_well" "_law_well" s_l_well f_l_well fd_l_well
  m_l_well : mg "_law_well" = some (.ref f_l_well)
  b_l_well : Binds K fd_l_well ["_law_script", "_law_k"] []
  f_l_take : Addr
  fd_l_take : FuncData
  F_l_take : Fun K "_law_take" "_law_take" s_l_take f_l_take fd_l_take
  m_l_take : mg "_law_take" = some (.ref f_l_take)
  b_l_take : Binds K fd_l_take ["_law_well_here", "_law_top"] []
  f_l_ten : Addr
  fd_l_ten : FuncData
  F_l_ten : Fun K "_law_ten" "_law_ten" s_l_ten f_l_ten fd_l_ten
  m_l_ten : mg "_law_ten" = some (.ref f_l_ten)
  b_l_ten : Binds K fd_l_ten ["_law_power"] []
  f_l_pair : Addr
  fd_l_pair : FuncData
  F_l_pair : Fun K "_law_pair" "_law_pair" s_l_pair f_l_pair fd_l_pair
  m_l_pair : mg "_law_pair" = some (.ref f_l_pair)
  b_l_pair : Binds K fd_l_pair ["_law_well_here"] []
  f_l_rules_right : Addr
  fd_l_rules_right : FuncData
  F_l_rules_right : Fun K "_law_rules_right" "_law_rules_right" s_l_rules_right f_l_rules_right fd_l_rules_right
  m_l_rules_right : mg "_law_rules_right" = some (.ref f_l_rules_right)
  b_l_rules_right : Binds K fd_l_rules_right ["_law_a", "_law_b", "_law_c"] []
  f_l_chain_right : Addr
  fd_l_chain_right : FuncData
  F_l_chain_right : Fun K "_law_chain_right" "_law_chain_right" s_l_chain_right f_l_chain_right fd_l_chain_right
  m_l_chain_right : mg "_law_chain_right" = some (.ref f_l_chain_right)
  b_l_chain_right : Binds K fd_l_chain_right ["_law_well_here", "_law_numbers"] []
  f_l_kinds : Addr
  fd_l_kinds : FuncData
  F_l_kinds : Fun K "_law_kinds" "_law_kinds" s_l_kinds f_l_kinds fd_l_kinds
  m_l_kinds : mg "_law_kinds" = some (.ref f_l_kinds)
  b_l_kinds : Binds K fd_l_kinds ["_law_e"] []
  f_l_refusals_right : Addr
  fd_l_refusals_right : FuncData
  F_l_refusals_right : Fun K "_law_refusals_right" "_law_refusals_right" s_l_refusals_right f_l_refusals_right fd_l_refusals_right
  m_l_refusals_right : mg "_law_refusals_right" = some (.ref f_l_refusals_right)
  b_l_refusals_right : Binds K fd_l_refusals_right ["_law_one", "_law_other"] []
  f_l_options_right : Addr
  fd_l_options_right : FuncData
  F_l_options_right : Fun K "_law_options_right" "_law_options_right" s_l_options_right f_l_options_right fd_l_options_right
  m_l_options_right : mg "_law_options_right" = some (.ref f_l_options_right)
  b_l_options_right : Binds K fd_l_options_right [] []
  f_law : Addr
  fd_law : FuncData
  F_law : Fun K "law" "law" s_law f_law fd_law
  m_law : mg "law" = some (.ref f_law)
  b_law : Binds K fd_law ["_law_script"] []
  f_NoTextI : Addr
  f_UnsortedI : Addr
  f_NoBottomI : Addr
  f_FigureErrorI : Addr
  C_NoText : Addr
  m_NoText : mg "NoText" = some (.ref C_NoText)
  e_NoText : PySem.ErV.ErrCls K C_NoText f_NoTextI
  x_NoText : ExcC K C_NoText
  ty_NoText : PySem.W.typeIn K (.ref C_NoText) = some (.type "type")
  no_NoText : PySem.W.findIn K (.ref C_NoText) "at" = some none
  fn_NoText : PySem.ErV.Fn_at K f_NoTextI "NoText.__init__"
  C_Unsorted : Addr
  m_Unsorted : mg "Unsorted" = some (.ref C_Unsorted)
  e_Unsorted : PySem.ErV.ErrCls K C_Unsorted f_UnsortedI
  x_Unsorted : ExcC K C_Unsorted
  ty_Unsorted : PySem.W.typeIn K (.ref C_Unsorted) = some (.type "type")
  no_Unsorted : PySem.W.findIn K (.ref C_Unsorted) "low" = some none ∧ PySem.W.findIn K (.ref C_Unsorted) "high" = some none
  fn_Unsorted : PySem.ErV.Fn_lh K f_UnsortedI "Unsorted.__init__"
  C_NoBottom : Addr
  m_NoBottom : mg "NoBottom" = some (.ref C_NoBottom)
  e_NoBottom : PySem.ErV.ErrCls K C_NoBottom f_NoBottomI
  x_NoBottom : ExcC K C_NoBottom
  ty_NoBottom : PySem.W.typeIn K (.ref C_NoBottom) = some (.type "type")
  no_NoBottom : PySem.W.findIn K (.ref C_NoBottom) "top" = some none
  fn_NoBottom : PySem.ErV.Fn_top K f_NoBottomI "NoBottom.__init__"
  C_NoCustom : Addr
  m_NoCustom : mg "NoCustom" = some (.ref C_NoCustom)
  e_NoCustom : PySem.ErV.ErrCls K C_NoCustom f_FigureErrorI
  x_NoCustom : ExcC K C_NoCustom
  ty_NoCustom : PySem.W.typeIn K (.ref C_NoCustom) = some (.type "type")
  no_NoCustom : PySem.W.findIn K (.ref C_NoCustom) "thing" = some none
  fn_NoCustom : PySem.ErV.Fn_thing K f_FigureErrorI "FigureError.__init__"
  C_NoWish : Addr
  m_NoWish : mg "NoWish" = some (.ref C_NoWish)
  e_NoWish : PySem.ErV.ErrCls K C_NoWish f_FigureErrorI
  x_NoWish : ExcC K C_NoWish
  ty_NoWish : PySem.W.typeIn K (.ref C_NoWish) = some (.type "type")
  no_NoWish : PySem.W.findIn K (.ref C_NoWish) "thing" = some none
  fn_NoWish : PySem.ErV.Fn_thing K f_FigureErrorI "FigureError.__init__"
  C_NoFit : Addr
  m_NoFit : mg "NoFit" = some (.ref C_NoFit)
  e_NoFit : PySem.ErV.ErrCls K C_NoFit f_FigureErrorI
  x_NoFit : ExcC K C_NoFit
  ty_NoFit : PySem.W.typeIn K (.ref C_NoFit) = some (.type "type")
  no_NoFit : PySem.W.findIn K (.ref C_NoFit) "thing" = some none
  fn_NoFit : PySem.ErV.Fn_thing K f_FigureErrorI "FigureError.__init__"
  C_NoRead : Addr
  m_NoRead : mg "NoRead" = some (.ref C_NoRead)
  e_NoRead : PySem.ErV.ErrCls K C_NoRead f_FigureErrorI
  x_NoRead : ExcC K C_NoRead
  ty_NoRead : PySem.W.typeIn K (.ref C_NoRead) = some (.type "type")
  no_NoRead : PySem.W.findIn K (.ref C_NoRead) "thing" = some none
  fn_NoRead : PySem.ErV.Fn_thing K f_FigureErrorI "FigureError.__init__"
  C_NoName : Addr
  m_NoName : mg "NoName" = some (.ref C_NoName)
  e_NoName : PySem.ErV.ErrCls K C_NoName f_FigureErrorI
  x_NoName : ExcC K C_NoName
  ty_NoName : PySem.W.typeIn K (.ref C_NoName) = some (.type "type")
  no_NoName : PySem.W.findIn K (.ref C_NoName) "thing" = some none
  fn_NoName : PySem.ErV.Fn_thing K f_FigureErrorI "FigureError.__init__"
  C_FigureError : Addr
  m_FigureError : mg "FigureError" = some (.ref C_FigureError)
  e_FigureError : PySem.ErV.ErrCls K C_FigureError f_FigureErrorI
  x_FigureError : ExcC K C_FigureError
  ty_FigureError : PySem.W.typeIn K (.ref C_FigureError) = some (.type "type")
  no_FigureError : PySem.W.findIn K (.ref C_FigureError) "thing" = some none
  fn_FigureError : PySem.ErV.Fn_thing K f_FigureErrorI "FigureError.__init__"
  kd_NoText : Kinds K C_NoText [.ref C_NoText, .ref C_Unsorted, .ref C_NoBottom, .ref C_NoCustom, .ref C_NoWish, .ref C_NoFit, .ref C_NoRead, .ref C_NoName, .type "ValueError", .type "ArithmeticError", .ref C_FigureError] [true, false, false, false, false, false, false, false, true, false, false]
  kd_Unsorted : Kinds K C_Unsorted [.ref C_NoText, .ref C_Unsorted, .ref C_NoBottom, .ref C_NoCustom, .ref C_NoWish, .ref C_NoFit, .ref C_NoRead, .ref C_NoName, .type "ValueError", .type "ArithmeticError", .ref C_FigureError] [false, true, false, false, false, false, false, false, true, false, false]
  kd_NoBottom : Kinds K C_NoBottom [.ref C_NoText, .ref C_Unsorted, .ref C_NoBottom, .ref C_NoCustom, .ref C_NoWish, .ref C_NoFit, .ref C_NoRead, .ref C_NoName, .type "ValueError", .type "ArithmeticError", .ref C_FigureError] [false, false, true, false, false, false, false, false, false, true, false]
  kd_NoCustom : Kinds K C_NoCustom [.ref C_NoText, .ref C_Unsorted, .ref C_NoBottom, .ref C_NoCustom, .ref C_NoWish, .ref C_NoFit, .ref C_NoRead, .ref C_NoName, .type "ValueError", .type "ArithmeticError", .ref C_FigureError] [false, false, false, true, false, false, false, false, false, false, true]
  kd_NoWish : Kinds K C_NoWish [.ref C_NoText, .ref C_Unsorted, .ref C_NoBottom, .ref C_NoCustom, .ref C_NoWish, .ref C_NoFit, .ref C_NoRead, .ref C_NoName, .type "ValueError", .type "ArithmeticError", .ref C_FigureError] [false, false, false, false, true, false, false, false, false, false, true]
  kd_NoFit : Kinds K C_NoFit [.ref C_NoText, .ref C_Unsorted, .ref C_NoBottom, .ref C_NoCustom, .ref C_NoWish, .ref C_NoFit, .ref C_NoRead, .ref C_NoName, .type "ValueError", .type "ArithmeticError", .ref C_FigureError] [false, false, false, false, false, true, false, false, false, false, true]
  kd_NoRead : Kinds K C_NoRead [.ref C_NoText, .ref C_Unsorted, .ref C_NoBottom, .ref C_NoCustom, .ref C_NoWish, .ref C_NoFit, .ref C_NoRead, .ref C_NoName, .type "ValueError", .type "ArithmeticError", .ref C_FigureError] [false, false, false, false, false, false, true, false, false, false, true]
  kd_NoName : Kinds K C_NoName [.ref C_NoText, .ref C_Unsorted, .ref C_NoBottom, .ref C_NoCustom, .ref C_NoWish, .ref C_NoFit, .ref C_NoRead, .ref C_NoName, .type "ValueError", .type "ArithmeticError", .ref C_FigureError] [false, false, false, false, false, false, false, true, false, false, true]
  kd_FigureError : Kinds K C_FigureError [.ref C_NoText, .ref C_Unsorted, .ref C_NoBottom, .ref C_NoCustom, .ref C_NoWish, .ref C_NoFit, .ref C_NoRead, .ref C_NoName, .type "ValueError", .type "ArithmeticError", .ref C_FigureError] [false, false, false, false, false, false, false, false, false, false, true]
  te_FigureError : PySem.W.exmOne K (.ref C_FigureError) (.ref C_FigureError) = some true
  n_ValueError : mg "ValueError" = none
  n_ArithmeticError : mg "ArithmeticError" = none
  u_POINT : Value
  m_POINT : mg "POINT" = some u_POINT
  r_POINT : RelV (.str ".") u_POINT
  u_GROUP : Value
  m_GROUP : mg "GROUP" = some u_GROUP
  r_GROUP : RelV (.str ",") u_GROUP
  u_FIGURES : Value
  m_FIGURES : mg "FIGURES" = some u_FIGURES
  r_FIGURES : RelV (.str "0123456789") u_FIGURES
  u_BETWEEN : Value
  m_BETWEEN : mg "BETWEEN" = some u_BETWEEN
  r_BETWEEN : RelV (.str "~") u_BETWEEN
  u_ABOUT : Value
  m_ABOUT : mg "ABOUT" = some u_ABOUT
  r_ABOUT : RelV (.str "@") u_ABOUT
  u_SIGNS : Value
  m_SIGNS : mg "SIGNS" = some u_SIGNS
  r_SIGNS : RelV (.str "minus") u_SIGNS
  A_SIZES : Addr
  m_SIZES : mg "SIZES" = some (.ref A_SIZES)
  t_SIZES : ∀ H : Hp, SqT K H A_SIZES [.int 3]
  A_MINUS : Addr
  m_MINUS : mg "MINUS" = some (.ref A_MINUS)
  t_MINUS : ∀ H : Hp, SqT K H A_MINUS [.str "-", .str ""]
  A_PLUS : Addr
  m_PLUS : mg "PLUS" = some (.ref A_PLUS)
  t_PLUS : ∀ H : Hp, SqT K H A_PLUS [.str "+", .str ""]
  A_PLACES : Addr
  m_PLACES : mg "PLACES" = some (.ref A_PLACES)
  t_PLACES : ∀ H : Hp, SqT K H A_PLACES [.int 0, .int 2]
  A_UNIT : Addr
  m_UNIT : mg "UNIT" = some (.ref A_UNIT)
  t_UNIT : ∀ H : Hp, SqT K H A_UNIT [.str "", .str ""]
  m_gcd : mg "gcd" = some (.builtin "math.gcd")
  n_range : mg "range" = none
  n_isinstance : mg "isinstance" = none
  n_str : mg "str" = none
  n_int : mg "int" = none
  n_len : mg "len" = none
  n_abs : mg "abs" = none
  n_max : mg "max" = none
  n_min : mg "min" = none
  n_repr : mg "repr" = none
  A_WAYS : Addr
  m_WAYS : mg "WAYS" = some (.ref A_WAYS)
  t_WAYS : ∀ H : Hp, SqT K H A_WAYS [.str "up", .str "down", .str "high", .str "low", .str "half up", .str "half down", .str "half even", .str "half odd"]
  u_WAY : Value
  m_WAY : mg "WAY" = some u_WAY
  r_WAY : RelV (.str "half even") u_WAY
  u_LONGEST_TEXT : Value
  m_LONGEST_TEXT : mg "LONGEST_TEXT" = some u_LONGEST_TEXT
  r_LONGEST_TEXT : RelV (.int 60) u_LONGEST_TEXT
  u_LEAST : Value
  m_LEAST : mg "LEAST" = some u_LEAST
  r_LEAST : RelV (.int 1) u_LEAST

section
variable {P : Program} {w : World} {K : PySem.W.Frag} {mg : Str → Option Value} {base : Heap}
/-! ### Number -/
def nf (q : Rat) : List (Str × V) := [("top", .int q.num), ("bottom", .int (q.den : Int))]
theorem tb_ : ¬ (("top" : Str) = "bottom") := by decide +kernel
theorem bt_ : ¬ (("bottom" : Str) = "top") := by decide +kernel
theorem nf_put (a b : Int) : putF "bottom" (.int b) (putF "top" (.int a) []) = ([("top", V.int a), ("bottom", V.int b)] : List (Str × V)) := by
  show (if ("top" : Str) = "bottom" then [(("top" : Str), V.int b)] else (("top" : Str), V.int a) :: putF "bottom" (V.int b) []) = ([("top", V.int a), ("bottom", V.int b)] : List (Str × V))
  rw [if_neg tb_]
  all_goals rfl
theorem nf_top (q : Rat) : (nf q).lookup ("top" : Str) = some (.int q.num) := by
  have e : (("top" : Str) == "top") = true := by decide +kernel
  unfold nf
  simp only [List.lookup, e]
theorem nf_bottom (q : Rat) : (nf q).lookup ("bottom" : Str) = some (.int (q.den : Int)) := by
  have e : (("bottom" : Str) == "top") = false := by decide +kernel
  have e' : (("bottom" : Str) == "bottom") = true := by decide +kernel
  unfold nf
  simp only [List.lookup, e, e']
theorem nf_no (q : Rat) {m : Str} (h1 : (m == "top") = false) (h2 : (m == "bottom") = false) : (nf q).lookup m = none := by
  unfold nf
  simp only [List.lookup, h1, h2]
/-- the Number q stands at p -/
def NumAt (C : Addr) (H : Hp) (p : Addr) (q : Rat) : Prop := ∃ dx, H p = some (.ins C dx (nf q))
theorem NumAt.same {C : Addr} {H H' : Hp} {p : Addr} {q : Rat} (s : Same H H') (h : NumAt C H p q) : NumAt C H' p q := let ⟨dx, e⟩ := h; ⟨dx, s _ _ e⟩

def spInit (C : Addr) : Sp := fun vs H Q _ => ∃ (p dx : Addr) (t b : Int), vs = [.ref p, .int t, .int b] ∧ H p = some (.ins C dx []) ∧ b ≠ 0 ∧ b.natAbs < 2 ^ 9000 ∧ Q .non (upd H p (.ins C dx (nf (Rat.divInt t b))))
theorem ok_Number_init (T : Txt w K mg) : FnOk P w K mg base CX0 1 T.f_Number_init T.fd_Number_init ["self", "top", "bottom"] (spInit T.C_Number) := by
  refine T.F_Number_init.ok sc_Number_init (fun vs H Q E h => ?_) (fun cdv A outer s H vs Q E hr h => ?_)
  · obtain ⟨p, dx, t, b, rfl, _⟩ := h
    rfl
  · obtain ⟨p, dx, t, b, rfl, hp, hb, hl, k⟩ := h
    refine ⟨_, (pss_cons (ps_if (pt_cmpR op_eq (pv 2) pe_int (nomark _))
  (pss_one ps_never)
  pss_nil)
 (pss_cons (ps_set (i := 3) sc_Number_init.nd rfl (Or.inl rfl) (pe_callBfun cr_gcd (by rfl) T.m_gcd (pa_cons (pv 1) (pa_cons (pv 2) pa_nil))))
 (pss_cons (ps_if (pt_cmpR op_lt (pv 2) pe_int (nomark _))
  (pss_one (ps_set (i := 3) sc_Number_init.nd rfl (Or.inl rfl) (pe_un un_neg (pv 3))))
  pss_nil)
 (pss_cons (ps_fld (pv 0) (pe_op op_fdivA (pv 1) (pv 3)) rfl)
 (pss_one (ps_fld (pv 0) (pe_op op_fdivA (pv 2) (pv 3)) rfl)))))), ?_⟩
    walk_at "rd"
    refine r_iteF (decide_eq_false hb) ?_
    walk_at "rd"
    refine ⟨_, _, rfl, ?_⟩
    have fin : ∀ c : Int, c = cdiv t b → sFld K (tVar 0) (tOp (rI CDivA fun i j => .int (i.fdiv j)) (tVar 1) (tVar 3)) "top" ⟨sFld K (tVar 0) (tOp (rI CDivA fun i j => .int (i.fdiv j)) (tVar 2) (tVar 3)) "bottom" ⟨fun _ H' => Q .non H', Q, fun _ _ => False, fun _ _ => False⟩, Q, fun _ _ => False, fun _ _ => False⟩ [some (.ref p), some (.int t), some (.int b), some (.int c)] H := by
      rintro c rfl
      have hg := gcd_pos (t := t) hb
      have hc : CDivA t (cdiv t b) ∧ CDivA b (cdiv t b) := by
        have n0 : cdiv t b ≠ 0 := by unfold cdiv; split <;> omega
        have nb : (cdiv t b).natAbs < 2 ^ 9000 := by
          have le : Nat.gcd t.natAbs b.natAbs ≤ b.natAbs := Nat.le_of_dvd (by omega) (Nat.gcd_dvd_right _ _)
          have e : (cdiv t b).natAbs = Nat.gcd t.natAbs b.natAbs := by unfold cdiv; split <;> omega
          rw [e]
          exact Nat.lt_of_le_of_lt le hl
        exact ⟨cdivA n0 nb (by decide) (Nat.le_refl _), cdivA n0 nb (by decide) (Nat.le_refl _)⟩
      walk_at "rd"
      refine r_I hc.1 ?_
      walk_at "rd"
      refine ⟨p, T.C_Number, dx, [], rfl, hp, T.c_Number, T.n_Number_top, (by show 0 < 1000; decide), ?_⟩
      walk_at "rd"
      refine r_I hc.2 ?_
      walk_at "rd"
      refine ⟨p, T.C_Number, dx, _, rfl, upd_same, T.c_Number, T.n_Number_bottom, (by show 1 < 1000; decide), ?_⟩
      show Q .non (upd (upd H p _) p (.ins T.C_Number dx (putF "bottom" _ (putF "top" _ []))))
      rw [upd_upd, nf_put, num_of hb, den_of hb]
      exact k
    walk_at "rd"
    refine r_ite (fun hn => ?_) (fun hn => ?_)
    · iterate 5 walk_at "rd1"
      refine fin _ ?_
      unfold cdiv
      rw [if_pos (of_decide_eq_true hn)]
    · iterate 1 walk_at "rd1"
      refine fin _ ?_
      unfold cdiv
      rw [if_neg (of_decide_eq_false hn)]
end
end My
local macro_rules | `(tactic| walk_at "fld") => `(tactic| refine My.r_fld (by assumption) (by assumption) (by assumption) (by first | exact My.nf_top _ | exact My.nf_bottom _) ?_)
local macro_rules | `(tactic| walk_at "rdf") => `(tactic| (repeat (first | walk_at "rd1" | walk_at "fld")))


namespace My
open PySem L2
section
variable {P : Program} {w : World} {K : PySem.W.Frag} {mg : Str → Option Value} {base : Heap}
/-- a Number made at once -/
theorem mk_num {C : Addr} {H : Hp} {t b : Int} {R : Addr → Hp → Prop} {E : XK} (hb : b ≠ 0) (hl : b.natAbs < 2 ^ 9000) (q : ∀ (p : Addr) (H' : Hp), Same H H' → H p = none → NumAt C H' p (Rat.divInt t b) → R p H') :
    ∀ x dx, H x = none → H dx = none → dx ≠ x → spInit C (.ref x :: ([V.int t, V.int b] ++ [])) (upd (upd H dx (.own x)) x (.ins C dx [])) (fun v H2 => v = .non ∧ R x H2) E := by
  intro x dx nx ndx ne
  refine ⟨x, dx, t, b, rfl, upd_same, hb, hl, rfl, q x _ (fun y o e => ?_) nx ⟨dx, upd_same⟩⟩
  rw [upd_ne (ne_of_none e nx), upd_ne (ne_of_none e nx), upd_ne (ne_of_none e ndx)]
  exact e
theorem mk_num1 {C : Addr} {H : Hp} {t : Int} {R : Addr → Hp → Prop} {E : XK} (q : ∀ (p : Addr) (H' : Hp), Same H H' → H p = none → NumAt C H' p (t : Rat) → R p H') :
    ∀ x dx, H x = none → H dx = none → dx ≠ x → spInit C (.ref x :: ([V.int t] ++ [V.int 1])) (upd (upd H dx (.own x)) x (.ins C dx [])) (fun v H2 => v = .non ∧ R x H2) E :=
  mk_num (by decide) (Nat.lt_of_lt_of_le (by decide : Int.natAbs 1 < 2 ^ 1) (Nat.pow_le_pow_right (by decide) (by decide))) fun p H' s n h => q p H' s n (divInt_one t ▸ h)
/-- two Numbers in, one out -/
def spBin (C : Addr) (f : Rat → Rat → Rat) (ok : Rat → Rat → Prop) : Sp := fun vs H Q _ => ∃ (p q : Addr) (x y : Rat), vs = [.ref p, .ref q] ∧ NumAt C H p x ∧ NumAt C H q y ∧ Bd 4000 x ∧ Bd 4000 y ∧ ok x y ∧
  ∀ (r : Addr) (H' : Hp), Same H H' → H r = none → NumAt C H' r (f x y) → Q (.ref r) H'
theorem bd_den {n : Nat} {x : Rat} (h : Bd n x) : ((x.den : Nat) : Int).natAbs < 2 ^ n := by have := h.2; omega
theorem dd_ne (x y : Rat) : (x.den : Int) * (y.den : Int) ≠ 0 := Int.mul_ne_zero (den_ne x) (den_ne y)
theorem dd_lt {x y : Rat} (hx : Bd 4000 x) (hy : Bd 4000 y) : ((x.den : Int) * (y.den : Int)).natAbs < 2 ^ 9000 := natAbs_mul_lt (bd_den hx) (bd_den hy) (by decide)
theorem cm {i j : Int} (hi : i.natAbs < 2 ^ 4000) (hj : j.natAbs < 2 ^ 4000) : CMulW i j := wide_mul hi hj (by decide) (by decide) (by decide)
end
end My

namespace My
open PySem L2
section
variable {P : Program} {w : World} {K : PySem.W.Frag} {mg : Str → Option Value} {base : Heap}
theorem ok_Number_less (T : Txt w K mg) : FnOk P w K mg base CX0 3 T.f_Number_less T.fd_Number_less ["self", "other"] (spBin T.C_Number (fun x y => x - y) fun _ _ => True) := by
  refine T.F_Number_less.ok sc_Number_less (fun vs H Q E h => ?_) (fun cdv A outer s H vs Q E hr h => ?_)
  · obtain ⟨p, q, x, y, rfl, _⟩ := h
    rfl
  · obtain ⟨p, q, x, y, rfl, ⟨dx, hp⟩, ⟨dy, hq⟩, bx, by', _, k⟩ := h
    have cN := T.c_Number
    have nT := T.n_Number_top
    have nB := T.n_Number_bottom
    refine ⟨_, (pss_one (ps_ret (pe_make T.mk_Number (ok_Number_init T) (hr.mono (by decide)) (by rfl) T.m_Number T.b_Number_init2 .nil pass0 (pa_cons (pe_op op_sub (pe_op op_mulW (pe_fld (pv 0) rfl) (pe_fld (pv 1) rfl)) (pe_op op_mulW (pe_fld (pv 1) rfl) (pe_fld (pv 0) rfl))) (pa_cons (pe_op op_mulW (pe_fld (pv 0) rfl) (pe_fld (pv 1) rfl)) pa_nil))))), ?_⟩
    walk_at "rdf"
    refine r_I (cm bx.1 (bd_den by')) ?_
    walk_at "rdf"
    refine r_I (cm by'.1 (bd_den bx)) ?_
    walk_at "rdf"
    refine r_I (cm (bd_den bx) (bd_den by')) ?_
    walk_at "rdf"
    refine mk_num (dd_ne x y) (dd_lt bx by') fun r H' s n h => ?_
    rw [sub_eq] at h
    exact k r H' s n h
end
end My

namespace My
open PySem L2
section
variable {P : Program} {w : World} {K : PySem.W.Frag} {mg : Str → Option Value} {base : Heap}
theorem ok_Number_times (T : Txt w K mg) : FnOk P w K mg base CX0 3 T.f_Number_times T.fd_Number_times ["self", "other"] (spBin T.C_Number (fun x y => x * y) fun _ _ => True) := by
  refine T.F_Number_times.ok sc_Number_times (fun vs H Q E h => ?_) (fun cdv A outer s H vs Q E hr h => ?_)
  · obtain ⟨p, q, x, y, rfl, _⟩ := h
    rfl
  · obtain ⟨p, q, x, y, rfl, ⟨dx, hp⟩, ⟨dy, hq⟩, bx, by', _, k⟩ := h
    have cN := T.c_Number
    have nT := T.n_Number_top
    have nB := T.n_Number_bottom
    refine ⟨_, (pss_one (ps_ret (pe_make T.mk_Number (ok_Number_init T) (hr.mono (by decide)) (by rfl) T.m_Number T.b_Number_init2 .nil pass0 (pa_cons (pe_op op_mulW (pe_fld (pv 0) rfl) (pe_fld (pv 1) rfl)) (pa_cons (pe_op op_mulW (pe_fld (pv 0) rfl) (pe_fld (pv 1) rfl)) pa_nil))))), ?_⟩
    walk_at "rdf"
    refine r_I (cm bx.1 by'.1) ?_
    walk_at "rdf"
    refine r_I (cm (bd_den bx) (bd_den by')) ?_
    walk_at "rdf"
    refine mk_num (dd_ne x y) (dd_lt bx by') fun r H' s n h => ?_
    rw [mul_eq] at h
    exact k r H' s n h
end
end My

namespace My
open PySem L2
section
variable {P : Program} {w : World} {K : PySem.W.Frag} {mg : Str → Option Value} {base : Heap}
theorem ok_Number_over (T : Txt w K mg) : FnOk P w K mg base CX0 3 T.f_Number_over T.fd_Number_over ["self", "other"] (spBin T.C_Number (fun x y => x / y) fun _ y => y ≠ 0) := by
  refine T.F_Number_over.ok sc_Number_over (fun vs H Q E h => ?_) (fun cdv A outer s H vs Q E hr h => ?_)
  · obtain ⟨p, q, x, y, rfl, _⟩ := h
    rfl
  · obtain ⟨p, q, x, y, rfl, ⟨dx, hp⟩, ⟨dy, hq⟩, bx, by', y0, k⟩ := h
    have cN := T.c_Number
    have nT := T.n_Number_top
    have nB := T.n_Number_bottom
    refine ⟨_, (pss_cons (ps_if (pt_cmpR op_eq (pe_fld (pv 1) rfl) pe_int (nomark _))
  (pss_one ps_never)
  pss_nil)
 (pss_one (ps_ret (pe_make T.mk_Number (ok_Number_init T) (hr.mono (by decide)) (by rfl) T.m_Number T.b_Number_init2 .nil pass0 (pa_cons (pe_op op_mulW (pe_fld (pv 0) rfl) (pe_fld (pv 1) rfl)) (pa_cons (pe_op op_mulW (pe_fld (pv 0) rfl) (pe_fld (pv 1) rfl)) pa_nil)))))), ?_⟩
    walk_at "rdf"
    refine r_iteF (decide_eq_false (num_ne y0)) ?_
    walk_at "rdf"
    refine r_I (cm bx.1 (bd_den by')) ?_
    walk_at "rdf"
    refine r_I (cm (bd_den bx) by'.1) ?_
    walk_at "rdf"
    refine mk_num (Int.mul_ne_zero (den_ne x) (num_ne y0)) (natAbs_mul_lt (bd_den bx) by'.1 (by decide)) fun r H' s n h => ?_
    rw [div_eq] at h
    exact k r H' s n h
end
end My

namespace My
open PySem L2
section
variable {P : Program} {w : World} {K : PySem.W.Frag} {mg : Str → Option Value} {base : Heap}
def spFloor (C : Addr) : Sp := fun vs H Q _ => ∃ (p : Addr) (x : Rat), vs = [.ref p] ∧ NumAt C H p x ∧ Bd 8000 x ∧ Q (.int x.floor) H
theorem ok_Number_floor (T : Txt w K mg) : FnOk P w K mg base CX0 1 T.f_Number_floor T.fd_Number_floor ["self"] (spFloor T.C_Number) := by
  refine T.F_Number_floor.ok sc_Number_floor (fun vs H Q E h => ?_) (fun cdv A outer s H vs Q E hr h => ?_)
  · obtain ⟨p, x, rfl, _⟩ := h
    rfl
  · obtain ⟨p, x, rfl, ⟨dx, hp⟩, bx, k⟩ := h
    have cN := T.c_Number
    have nT := T.n_Number_top
    have nB := T.n_Number_bottom
    refine ⟨_, (pss_one (ps_ret (pe_op op_fdivW (pe_fld (pv 0) rfl) (pe_fld (pv 0) rfl)))), ?_⟩
    walk_at "rdf"
    refine r_I (wide_div (by have := x.den_pos; omega) (bd_den bx) (by decide) (by decide)) ?_
    show Q (.int (x.num / (x.den : Int))) H
    rw [← Rat.floor_def]
    exact k
end
end My

namespace My
open PySem L2
section
variable {P : Program} {w : World} {K : PySem.W.Frag} {mg : Str → Option Value} {base : Heap}
theorem Bd.add {m n : Nat} {x y : Rat} (hx : Bd m x) (hy : Bd n y) : Bd (m + n + 1) (x + y) := by
  rw [← add_eq]
  refine Bd.of (Int.mul_ne_zero (den_ne x) (den_ne y)) ?_ ?_
  · exact natAbs_add_lt (natAbs_mul_lt (m := m) (n := n) hx.1 (by have := hy.2; omega) (Nat.le_refl _)) (natAbs_mul_lt (m := n) (n := m) hy.1 (by have := hx.2; omega) (by omega))
  · exact natAbs_mul_lt (m := m) (n := n) (by have := hx.2; omega) (by have := hy.2; omega) (by omega)
theorem no_more (q : Rat) : (nf q).lookup ("more" : Str) = none := nf_no _ (by decide +kernel) (by decide +kernel)
theorem ok_Number_more (T : Txt w K mg) : FnOk P w K mg base CX0 3 T.f_Number_more T.fd_Number_more ["self", "other"] (spBin T.C_Number (fun x y => x + y) fun _ _ => True) := by
  refine T.F_Number_more.ok sc_Number_more (fun vs H Q E h => ?_) (fun cdv A outer s H vs Q E hr h => ?_)
  · obtain ⟨p, q, x, y, rfl, _⟩ := h
    rfl
  · obtain ⟨p, q, x, y, rfl, ⟨dx, hp⟩, ⟨dy, hq⟩, bx, by', _, k⟩ := h
    have cN := T.c_Number
    have nT := T.n_Number_top
    have nB := T.n_Number_bottom
    refine ⟨_, (pss_one (ps_ret (pe_make T.mk_Number (ok_Number_init T) (hr.mono (by decide)) (by rfl) T.m_Number T.b_Number_init2 .nil pass0 (pa_cons (pe_op op_add (pe_op op_mulW (pe_fld (pv 0) rfl) (pe_fld (pv 1) rfl)) (pe_op op_mulW (pe_fld (pv 1) rfl) (pe_fld (pv 0) rfl))) (pa_cons (pe_op op_mulW (pe_fld (pv 0) rfl) (pe_fld (pv 1) rfl)) pa_nil))))), ?_⟩
    walk_at "rdf"
    refine r_I (cm bx.1 (bd_den by')) ?_
    walk_at "rdf"
    refine r_I (cm by'.1 (bd_den bx)) ?_
    walk_at "rdf"
    refine r_I (cm (bd_den bx) (bd_den by')) ?_
    walk_at "rdf"
    refine mk_num (dd_ne x y) (dd_lt bx by') fun r H' s n h => ?_
    rw [add_eq] at h
    exact k r H' s n h
end
end My

namespace My
open PySem L2
section
variable {P : Program} {w : World} {K : PySem.W.Frag} {mg : Str → Option Value} {base : Heap}
theorem no_size (q : Rat) : (nf q).lookup ("size" : Str) = none := nf_no _ (by decide +kernel) (by decide +kernel)
def spSize (C : Addr) : Sp := fun vs H Q _ => ∃ (p : Addr) (x : Rat), vs = [.ref p] ∧ NumAt C H p x ∧ Bd 8000 x ∧ ∀ (r : Addr) (H' : Hp), Same H H' → H r = none → NumAt C H' r (absQ x) → Q (.ref r) H'
theorem ok_Number_size (T : Txt w K mg) : FnOk P w K mg base CX0 3 T.f_Number_size T.fd_Number_size ["self"] (spSize T.C_Number) := by
  refine T.F_Number_size.ok sc_Number_size (fun vs H Q E h => ?_) (fun cdv A outer s H vs Q E hr h => ?_)
  · obtain ⟨p, x, rfl, _⟩ := h
    rfl
  · obtain ⟨p, x, rfl, ⟨dx, hp⟩, bx, k⟩ := h
    have cN := T.c_Number
    have nT := T.n_Number_top
    have nB := T.n_Number_bottom
    refine ⟨_, (pss_one (ps_ret (pe_make T.mk_Number (ok_Number_init T) (hr.mono (by decide)) (by rfl) T.m_Number T.b_Number_init2 .nil pass0 (pa_cons (pe_callB call_abs (by rfl) T.n_abs (by decide +kernel) (pa_cons (pe_fld (pv 0) rfl) pa_nil)) (pa_cons (pe_fld (pv 0) rfl) pa_nil))))), ?_⟩
    walk_at "rdf"
    refine ⟨_, rfl, ?_⟩
    walk_at "rdf"
    exact mk_num (den_ne x) (Nat.lt_of_lt_of_le (bd_den bx) (Nat.pow_le_pow_right (by decide) (by decide))) fun r H' s n h => k r H' s n h
end
end My

namespace My
open PySem L2
section
variable {P : Program} {w : World} {K : PySem.W.Frag} {mg : Str → Option Value} {base : Heap}
theorem no_below (q : Rat) : (nf q).lookup ("below" : Str) = none := nf_no _ (by decide +kernel) (by decide +kernel)
def spBelow (C : Addr) : Sp := fun vs H Q _ => ∃ (p q : Addr) (x y : Rat), vs = [.ref p, .ref q] ∧ NumAt C H p x ∧ NumAt C H q y ∧ Bd 4000 x ∧ Bd 4000 y ∧ Q (.bl (decide (x < y))) H
theorem ok_Number_below (T : Txt w K mg) : FnOk P w K mg base CX0 1 T.f_Number_below T.fd_Number_below ["self", "other"] (spBelow T.C_Number) := by
  refine T.F_Number_below.ok sc_Number_below (fun vs H Q E h => ?_) (fun cdv A outer s H vs Q E hr h => ?_)
  · obtain ⟨p, q, x, y, rfl, _⟩ := h
    rfl
  · obtain ⟨p, q, x, y, rfl, ⟨dx, hp⟩, ⟨dy, hq⟩, bx, by', k⟩ := h
    have cN := T.c_Number
    have nT := T.n_Number_top
    have nB := T.n_Number_bottom
    refine ⟨_, (pss_one (ps_ret (pe_cmpR op_lt (pe_op op_mulW (pe_fld (pv 0) rfl) (pe_fld (pv 1) rfl)) (pe_op op_mulW (pe_fld (pv 1) rfl) (pe_fld (pv 0) rfl)) (nomark _)))), ?_⟩
    rw [lt_dec] at k
    walk_at "rdf"
    refine r_I (cm bx.1 (bd_den by')) ?_
    walk_at "rdf"
    refine r_I (cm by'.1 (bd_den bx)) ?_
    walk_at "rdf"
    exact k
end
end My

namespace My
open PySem L2
section
variable {P : Program} {w : World} {K : PySem.W.Frag} {mg : Str → Option Value} {base : Heap}
theorem is_num (T : Txt w K mg) {H : Hp} {p : Addr} {q : Rat} {Q : VK} (h : NumAt T.C_Number H p q) (k : Q (.bl true) H) : rIsi K [.ref p, .ref T.C_Number] H Q := by
  obtain ⟨dx, e⟩ := h
  exact ⟨.ref p, .ref T.C_Number, .ref T.C_Number, .ref T.C_Number, true, rfl, .own _, .base (.ins e T.c_Number T.ty_Number_c T.ty_Number_g T.ty_Number_t T.ty_Number_m), T.ty_Number_k, k⟩
def spNumEq (C : Addr) : Sp := fun vs H Q _ => ∃ (a b : Addr) (x y : Rat), vs = [.ref a, .ref b] ∧ NumAt C H a x ∧ NumAt C H b y ∧ Q (.bl (decide (x = y))) H
theorem rat_dec (x y : Rat) : decide (x = y) = (decide (x.num = y.num) && decide ((x.den : Int) = (y.den : Int))) := by
  rw [Bool.eq_iff_iff, Bool.and_eq_true, decide_eq_true_eq, decide_eq_true_eq, decide_eq_true_eq]
  constructor
  · rintro rfl
    exact ⟨rfl, rfl⟩
  · rintro ⟨h1, h2⟩
    exact Rat.ext h1 (by omega)
theorem ok_Number_eq (T : Txt w K mg) : FnOk P w K mg base CX0 1 T.f_Number_eq T.fd_Number_eq ["self", "other"] (spNumEq T.C_Number) := by
  refine T.F_Number_eq.ok sc_Number_eq (fun vs H Q E h => ?_) (fun cdv A outer s H vs Q E hr h => ?_)
  · obtain ⟨a, b, x, y, rfl, _⟩ := h
    rfl
  · obtain ⟨a, b, x, y, rfl, ⟨dx, ha⟩, ⟨dy, hb⟩, k⟩ := h
    have cN := T.c_Number
    have nT := T.n_Number_top
    have nB := T.n_Number_bottom
    rw [rat_dec] at k
    refine ⟨_, (pss_one (ps_ret (pe_and (pe_callB call_isi (by rfl) T.n_isinstance (by decide +kernel) (pa_cons (pv 1) (pa_cons (pe_glob (v := .ref T.C_Number) (by rfl) T.m_Number rfl) pa_nil))) (pe_and (pe_cmpR op_eq (pe_fld (pv 0) rfl) (pe_fld (pv 1) rfl) (nomark _)) (pe_one (pe_cmpR op_eq (pe_fld (pv 0) rfl) (pe_fld (pv 1) rfl) (nomark _))))))), ?_⟩
    walk_at "rdf"
    refine is_num T ⟨_, hb⟩ ?_
    walk_at "rdf"
    refine r_iteT rfl ?_
    walk_at "rdf"
    refine r_ite (fun e => ?_) (fun e => ?_)
    · rw [e, Bool.true_and] at k
      walk_at "rdf"
      exact k
    · rw [e, Bool.false_and] at k
      exact k
theorem r_eqNum {C : Addr} {H : Hp} {a b : Addr} {x y : Rat} {Q : VK} (ha : NumAt C H a x) (hb : NumAt C H b y) (q : Q (.bl (decide (x = y))) H) : rEqOwn C (spNumEq C) (.ref a) (.ref b) H Q := by
  obtain ⟨dx, h1⟩ := ha
  obtain ⟨dy, h2⟩ := hb
  exact ⟨a, b, dx, dy, _, _, rfl, rfl, h1, h2, a, b, x, y, rfl, ⟨dx, h1⟩, ⟨dy, h2⟩, _, rfl, q⟩
theorem r_neNum {C : Addr} {H : Hp} {a b : Addr} {x y : Rat} {Q : VK} (ha : NumAt C H a x) (hb : NumAt C H b y) (q : Q (.bl (!decide (x = y))) H) : rNeOwn C (spNumEq C) (.ref a) (.ref b) H Q := by
  obtain ⟨dx, h1⟩ := ha
  obtain ⟨dy, h2⟩ := hb
  exact ⟨a, b, dx, dy, _, _, rfl, rfl, h1, h2, a, b, x, y, rfl, ⟨dx, h1⟩, ⟨dy, h2⟩, _, rfl, q⟩
end
end My

namespace My
open PySem L2 TL
section
variable {P : Program} {w : World} {K : PySem.W.Frag} {mg : Str → Option Value} {base : Heap}
section
variable {σ : L2.St} {H : Hp} {Q : VK} {x : V} {to te : TE}
theorem r_m0 {r : V → List V → Hp → VK → Prop} (q : to σ H fun x H1 => (∃ a, x = .str a) ∧ r x [] H1 Q) : tM0 r to σ H Q := q
theorem r_tj {t : TE} {ts : List TE} {acc : Str} {QJ : Str → Hp → Prop} (q : t σ H fun x H1 => ∃ y : Str, x = .str y ∧ (acc ++ y).length ≤ sizeLine ∧ tJs ts (acc ++ y) σ H1 QJ) : tJs (t :: ts) acc σ H QJ := q
theorem r_tj0 {acc : Str} {QJ : Str → Hp → Prop} (q : QJ acc H) : tJs [] acc σ H QJ := q
theorem r_fmt (q : te σ H fun x H1 => (∃ y : Str, x = .str y ∧ y.length ≤ sizeLine ∧ Q (.str y) H1) ∨ ∃ i : Int, x = .int i ∧ i.natAbs.log2 < 1920 ∧ Q (.str (toString i)) H1) : tFmt te σ H Q := q
theorem r_str {z : Str} {P : Prop} (q : P) : (∃ a, V.str z = .str a) ∧ P := ⟨⟨z, rfl⟩, q⟩
end
theorem bits1920 {i : Int} (h : i.natAbs < 2 ^ 1900) : i.natAbs.log2 < 1920 := Nat.lt_of_lt_of_le (PySem.Flt.log2_lt_of (by decide) h) (by decide)
theorem TI_short {i : Int} (h : i.natAbs < 2 ^ 1900) : (TI i).length ≤ 2000 := Nat.le_trans (PyProof.Rows.int_text_len_1921 (bits1920 h)) (by decide)
def spStr (C : Addr) : Sp := fun vs H Q _ => ∃ (p : Addr) (x : Rat), vs = [.ref p] ∧ NumAt C H p x ∧ Bd 1900 x ∧ Q (.str (NText x)) H
theorem ok_Number_str (T : Txt w K mg) : FnOk P w K mg base CX0 1 T.f_Number_str T.fd_Number_str ["self"] (spStr T.C_Number) := by
  refine T.F_Number_str.ok sc_Number_str (fun vs H Q E h => ?_) (fun cdv A outer s H vs Q E hr h => ?_)
  · obtain ⟨p, x, rfl, _⟩ := h
    rfl
  · obtain ⟨p, x, rfl, ⟨dx, hp⟩, bx, k⟩ := h
    have cN := T.c_Number
    have nT := T.n_Number_top
    have nB := T.n_Number_bottom
    refine ⟨_, (pss_cons (ps_if (pt_cmpR op_eq (pe_fld (pv 0) rfl) pe_int (nomark _))
  (pss_one (ps_ret (pe_callTy call_str_int (by rfl) T.n_str (by decide +kernel) (pa_cons (pe_fld (pv 0) rfl) pa_nil))))
  pss_nil)
 (pss_one (ps_ret (pe_joined (.cons (pe_fmt (pe_fld (pv 0) rfl)) (.cons pe_str (.cons (pe_fmt (pe_fld (pv 0) rfl)) .nil))))))), ?_⟩
    have bn := bx.1
    have bd := bd_den bx
    walk_at "rdf"
    refine r_ite (fun e => ?_) (fun e => ?_)
    · have e' : x.den = 1 := by have := of_decide_eq_true e; omega
      walk_at "rdf"
      refine ⟨_, rfl, bits1920 bn, ?_⟩
      have : NText x = TI x.num := if_pos e'
      rw [this] at k
      exact k
    · have e' : x.den ≠ 1 := by have := of_decide_eq_false e; omega
      have nt : NText x = TI x.num ++ "/" ++ TI (x.den : Int) := if_neg e'
      have l1 := TI_short bn
      have l2 := TI_short bd
      have ll : (TI x.num ++ "/" ++ TI (x.den : Int)).length ≤ 5000 := by
        rw [← nt, NText_len, if_neg e', ← nat_signL, ← TI_len, ← TI_len]
        omega
      walk_at "rdf"
      have sl : sizeLine = 16777216 := rfl
      have e1 : Str.empty ++ Str.ofString (toString x.num) = TI x.num := ext_tl (by rw [tl_append]; rfl)
      have l3 : (TI x.num ++ ("/" : Str)).length ≤ 3000 := by
        rw [len_tl, tl_append, List.length_append, ← len_tl]
        have : (tl ("/" : Str)).length = 1 := rfl
        omega
      refine r_tj (r_fmt ?_)
      walk_at "rdf"
      refine .inr ⟨_, rfl, bits1920 bn, ?_⟩
      refine ⟨_, rfl, by rw [e1]; omega, ?_⟩
      rw [e1]
      refine r_tj ?_
      walk_at "rdf"
      refine ⟨_, rfl, by omega, ?_⟩
      refine r_tj (r_fmt ?_)
      walk_at "rdf"
      refine .inr ⟨_, rfl, bits1920 bd, ?_⟩
      refine ⟨_, rfl, by show (TI x.num ++ "/" ++ TI (x.den : Int)).length ≤ sizeLine; omega, ?_⟩
      refine r_tj0 ?_
      rw [nt] at k
      exact k
def spWholeT : Sp := fun vs H Q _ => ∃ i : Int, vs = [.str (TI i)] ∧ (TI i).length ≤ 640 ∧ Q (.int i) H
theorem ok_whole (T : Txt w K mg) : FnOk P w K mg base CX0 1 T.f_whole T.fd_whole ["text"] spWholeT := by
  refine T.F_whole.ok sc_whole (fun vs H Q E h => ?_) (fun cdv A outer s H vs Q E hr h => ?_)
  · obtain ⟨i, rfl, _⟩ := h
    rfl
  · obtain ⟨i, rfl, hl, k⟩ := h
    refine ⟨_, (pss_cons (ps_set (i := 1) sc_whole.nd rfl (Or.inl rfl) (pe_m1 PySem.F.slot_str_removeprefix PySem.F.type_str_removeprefix mt_removeprefix (pv 0) pe_str))
 (pss_cons (ps_if (PW.pt (pw_or (pt_not (pt_val (pe_m0 PySem.F.slot_str_isascii PySem.F.type_str_isascii mt_isascii (pv 1)))) (pw_or1 (pt_not (pt_val (pe_m0 PySem.F.slot_str_isdigit PySem.F.type_str_isdigit mt_isdigit (pv 1)))))))
  (pss_one (ps_ret pe_non))
  pss_nil)
 (pss_one (ps_ret (pe_callTy call_int_str (by rfl) T.n_int (by decide +kernel) (pa_cons (pv 0) pa_nil)))))), ?_⟩
    walk_at "rdg"
    refine ⟨_, _, rfl, rfl, Nat.le_trans hl (by decide), ?_⟩
    walk_at "rdg"
    refine r_m0 ?_
    walk_at "rdg"
    refine ⟨_, rfl, rfl, trivial, ?_⟩
    walk_at "rdg"
    rw [ascii_off]
    refine r_iteF rfl ?_
    walk_at "rdg"
    refine r_m0 ?_
    walk_at "rdg"
    refine ⟨_, rfl, rfl, trivial, ?_⟩
    walk_at "rdg"
    rw [digits_off]
    refine r_iteF rfl ?_
    walk_at "rdg"
    exact ⟨_, i, rfl, int_TI (by omega), hl, k⟩
theorem is_str {w : World} {K : PySem.W.Frag} {H : Hp} {z : Str} {Q : VK} (q : Q (.bl true) H) : rIsi K [.str z, .ty "str"] H Q :=
  ⟨.str z, .ty "str", .type "str", .type "str", true, rfl, .ty "str", .base (.str z), kit_ty (by decide +kernel), q⟩
/-- str(number), as it is read -/
theorem rd_strOwn {C : Addr} {H : Hp} {p : Addr} {x : Rat} {Q : VK} (hp : NumAt C H p x) (bx : Bd 1900 x) (q : Q (.str (NText x)) H) : rStrOwn C (spStr C) [.ref p] H Q := by
  obtain ⟨dx, e⟩ := hp
  exact ⟨p, dx, _, rfl, e, p, x, rfl, ⟨dx, e⟩, bx, _, rfl, q⟩
theorem r_neS {H : Hp} {Q : VK} {i j : Str} (q : Q (.bl (!decide (i = j))) H) : rNe (.str i) (.str j) H Q := ⟨rfl, by
  have e : decide (V.str i = V.str j) = decide (i = j) := by simp
  rw [e]; exact q⟩
def spRead (C : Addr) : Sp := fun vs H Q _ => ∃ x : Rat, vs = [.str (NText x)] ∧ (NText x).length ≤ 60 ∧ Bd 1900 x ∧ ∀ (r : Addr) (H' : Hp), Same H H' → NumAt C H' r x → Q (.ref r) H'
theorem ok_read_number (T : Txt w K mg) : FnOk P w K mg base CX0 4 T.f_read_number T.fd_read_number ["text"] (spRead T.C_Number) := by
  refine T.F_read_number.ok sc_read_number (fun vs H Q E h => ?_) (fun cdv A outer s H vs Q E hr h => ?_)
  · obtain ⟨x, rfl, _⟩ := h
    rfl
  · obtain ⟨x, rfl, hl, bx, k⟩ := h
    refine ⟨_, (pss_cons (ps_if (PW.pt (pw_or (pt_not (pt_val (pe_callB call_isi (by rfl) T.n_isinstance (by decide +kernel) (pa_cons (pv 0) (pa_cons (pe_bltn (v := .ty "str") (by rfl) T.n_str (by decide +kernel) rfl) pa_nil))))) (pw_or1 (pt_cmpR op_gt (pe_callB call_len_str (by rfl) T.n_len PySem.boot_len (pa_cons (pv 0) pa_nil)) (pe_glob (by rfl) T.m_LONGEST_TEXT T.r_LONGEST_TEXT) (nomark _)))))
  (pss_one ps_never)
  pss_nil)
 (pss_cons (ps_asg (pe_partition (pv 0) pe_str) (pg_tup rfl (pgs_cons (pg_name (i := 1) sc_read_number.nd rfl (Or.inl rfl)) (pgs_cons (pg_name (i := 2) sc_read_number.nd rfl (Or.inl rfl)) (pgs_cons (pg_name (i := 3) sc_read_number.nd rfl (Or.inl rfl)) pgs_nil)))))
 (pss_cons (ps_set (i := 4) sc_read_number.nd rfl (Or.inl rfl) (pe_call (ok_whole T) (hr.mono (by decide)) (by rfl) T.m_whole T.F_whole.kp T.b_whole .nil pass0 (pa_cons (pv 1) pa_nil)))
 (pss_cons (ps_set (i := 5) sc_read_number.nd rfl (Or.inl rfl) (pe_ifExp (pt_truth (pv 2) (by intro _; rfl)) (pe_call (ok_whole T) (hr.mono (by decide)) (by rfl) T.m_whole T.F_whole.kp T.b_whole .nil pass0 (pa_cons (pv 3) pa_nil)) pe_int))
 (pss_cons (ps_if (PW.pt (pw_or (pt_cmpR op_isN (pv 4) pe_non (nomark _)) (pw_or (pt_cmpR op_isN (pv 5) pe_non (nomark _)) (pw_or1 (pt_cmpR op_eq (pv 5) pe_int (nomark _))))))
  (pss_one ps_never)
  pss_nil)
 (pss_cons (ps_set (i := 6) sc_read_number.nd rfl (Or.inl rfl) (pe_make T.mk_Number (ok_Number_init T) (hr.mono (by decide)) (by rfl) T.m_Number T.b_Number_init2 .nil pass0 (pa_cons (pv 4) (pa_cons (pv 5) pa_nil))))
 (pss_cons (ps_if (pt_cmpR op_ne (pe_callTy (call_strOwn (ok_Number_str T) T.me_Number_str.at_ T.me_Number_str.fn T.b_Number_str (hr.mono (by decide))) (by rfl) T.n_str (by decide +kernel) (pa_cons (pv 6) pa_nil)) (pv 0) (nomark _))
  (pss_one ps_never)
  pss_nil)
 (pss_one (ps_ret (pv 6)))))))))), ?_⟩
    have sl : sizeLine = 16777216 := rfl
    have bd9 : ((x.den : Int)).natAbs < 2 ^ 9000 := Nat.lt_of_lt_of_le (bd_den bx) (Nat.pow_le_pow_right (by decide) (by decide))
    have lens := NText_len x
    walk_at "rdg"
    refine is_str (w := w) ?_
    walk_at "rdg"
    refine r_iteF rfl ?_
    walk_at "rdg"
    refine ⟨_, rfl, by omega, ?_⟩
    walk_at "rdg"
    refine r_iteF (decide_eq_false (by omega)) ?_
    walk_at "rdg"
    refine ⟨_, _, rfl, rfl, rfl, by omega, ?_⟩
    by_cases e : x.den = 1
    · rw [part_none e]
      rw [if_pos e, ← TI_len] at lens
      refine fun p hp => ?_
      walk_at "rdg"
      refine r_gTup upd_same rfl ?_
      walk_at "rdg"
      have sp := Same.new (o := .tup [.str (TI x.num), .str Str.empty, .str Str.empty]) hp
      refine ⟨x.num, rfl, by omega, ?_⟩
      walk_at "rdg"
      refine ⟨false, ⟨show Str.empty.length ≤ sizeLine by decide, rfl⟩, ?_⟩
      refine r_iteF rfl ?_
      walk_at "rdg"
      refine ⟨rfl, ?_⟩
      walk_at "rdg"
      refine r_iteF (by simp) ?_
      walk_at "rdg"
      refine ⟨rfl, ?_⟩
      walk_at "rdg"
      refine r_iteF (by simp) ?_
      walk_at "rdg"
      refine r_iteF (by decide) ?_
      walk_at "rdg"
      refine mk_num (by decide) (by decide) fun r H1 s1 _ h1 => ?_
      have ex : Rat.divInt x.num 1 = x := by
        conv => rhs; rw [← Rat.num_divInt_den x, e]
        rfl
      rw [ex] at h1
      walk_at "rdg"
      refine rd_strOwn h1 bx ?_
      walk_at "rdg"
      refine r_neS ?_
      rw [decide_eq_true rfl]
      walk_at "rdg"
      refine r_iteF rfl ?_
      walk_at "rdg"
      exact k r H1 (sp.trans s1) h1
    · rw [part_some e]
      rw [if_neg e, ← TI_len, ← nat_signL, ← TI_len] at lens
      refine fun p hp => ?_
      walk_at "rdg"
      refine r_gTup upd_same rfl ?_
      walk_at "rdg"
      have sp := Same.new (o := .tup [.str (TI x.num), .str ("/" : Str), .str (TI (x.den : Int))]) hp
      refine ⟨x.num, rfl, by omega, ?_⟩
      walk_at "rdg"
      refine ⟨true, ⟨show ("/" : Str).length ≤ sizeLine by decide, rfl⟩, ?_⟩
      refine r_iteT rfl ?_
      walk_at "rdg"
      refine ⟨(x.den : Int), rfl, by omega, ?_⟩
      walk_at "rdg"
      refine ⟨rfl, ?_⟩
      walk_at "rdg"
      refine r_iteF (by simp) ?_
      walk_at "rdg"
      refine ⟨rfl, ?_⟩
      walk_at "rdg"
      refine r_iteF (by simp) ?_
      walk_at "rdg"
      refine r_iteF (decide_eq_false (den_ne x)) ?_
      walk_at "rdg"
      refine mk_num (den_ne x) bd9 fun r H1 s1 _ h1 => ?_
      rw [Rat.num_divInt_den] at h1
      walk_at "rdg"
      refine rd_strOwn h1 bx ?_
      walk_at "rdg"
      refine r_neS ?_
      rw [decide_eq_true rfl]
      walk_at "rdg"
      refine r_iteF rfl ?_
      walk_at "rdg"
      exact k r H1 (sp.trans s1) h1
end
end My

namespace My
open PySem L2 TL
section
variable {P : Program} {w : World} {K : PySem.W.Frag} {mg : Str → Option Value} {base : Heap}
/-- what repr tells of a Number -/
def RText (x : Rat) : Str := Str.empty ++ "Number(" ++ TI x.num ++ ", " ++ TI (x.den : Int) ++ ")"
theorem RText_len {x : Rat} (bx : Bd 1900 x) : (RText x).length ≤ 10000 := by
  have l1 := TI_short bx.1
  have l2 := TI_short (bd_den bx)
  unfold RText
  have e1 : ("Number(" : Str).length = 7 := rfl
  have e2 : (", " : Str).length = 2 := rfl
  have e3 : (")" : Str).length = 1 := rfl
  have e0 : Str.empty.length = 0 := rfl
  simp only [Str.length_append, e0, e1, e2, e3]
  omega
def spRepr (C : Addr) : Sp := fun vs H Q _ => ∃ (p : Addr) (x : Rat), vs = [.ref p] ∧ NumAt C H p x ∧ Bd 1900 x ∧ Q (.str (RText x)) H
theorem ok_Number_repr (T : Txt w K mg) : FnOk P w K mg base CX0 1 T.f_Number_repr T.fd_Number_repr ["self"] (spRepr T.C_Number) := by
  refine T.F_Number_repr.ok sc_Number_repr (fun vs H Q E h => ?_) (fun cdv A outer s H vs Q E hr h => ?_)
  · obtain ⟨p, x, rfl, _⟩ := h
    rfl
  · obtain ⟨p, x, rfl, ⟨dx, hp⟩, bx, k⟩ := h
    have cN := T.c_Number
    have nT := T.n_Number_top
    have nB := T.n_Number_bottom
    refine ⟨_, (pss_one (ps_ret (pe_joined (.cons pe_str (.cons (pe_fmt (pe_fld (pv 0) rfl)) (.cons pe_str (.cons (pe_fmt (pe_fld (pv 0) rfl)) (.cons pe_str .nil)))))))), ?_⟩
    have l1 := TI_short bx.1
    have l2 := TI_short (bd_den bx)
    have sl : sizeLine = 16777216 := rfl
    have e1 : ("Number(" : Str).length = 7 := rfl
    have e2 : (", " : Str).length = 2 := rfl
    have e3 : (")" : Str).length = 1 := rfl
    have e0 : Str.empty.length = 0 := rfl
    walk_at "rdf"
    refine r_tj ?_
    walk_at "rdf"
    refine ⟨_, rfl, by simp only [Str.length_append, e0, e1]; omega, ?_⟩
    refine r_tj (r_fmt ?_)
    walk_at "rdf"
    refine .inr ⟨_, rfl, bits1920 bx.1, ?_⟩
    refine ⟨TI x.num, rfl, by simp only [Str.length_append, e0, e1]; omega, ?_⟩
    refine r_tj ?_
    walk_at "rdf"
    refine ⟨_, rfl, by simp only [Str.length_append, e0, e1, e2]; omega, ?_⟩
    refine r_tj (r_fmt ?_)
    walk_at "rdf"
    refine .inr ⟨_, rfl, bits1920 (bd_den bx), ?_⟩
    refine ⟨TI (x.den : Int), rfl, by simp only [Str.length_append, e0, e1, e2]; omega, ?_⟩
    refine r_tj ?_
    walk_at "rdf"
    refine ⟨_, rfl, by simp only [Str.length_append, e0, e1, e2, e3]; omega, ?_⟩
    refine r_tj0 ?_
    exact k
end
end My

namespace My
open PySem L2 TL
section
variable {P : Program} {w : World} {K : PySem.W.Frag} {mg : Str → Option Value} {base : Heap}
/-- Number.__repr__ where an error is held -/
theorem okP_Number_repr (T : Txt w K mg) : FnP P w K mg base 1 T.f_Number_repr T.fd_Number_repr ["self"] (fun _ => spRepr T.C_Number) := by
  refine FnP.by_body T.F_Number_repr sc_Number_repr (fun p vs H Q E h => ?_) (fun cdv A outer s H vs Q p hot hr h => ?_)
  · obtain ⟨p, x, rfl, _⟩ := h
    rfl
  · obtain ⟨p1, x, rfl, ⟨dx, hp⟩, bx, k⟩ := h
    have cN := T.c_Number
    have nT := T.n_Number_top
    have nB := T.n_Number_bottom
    refine ⟨_, (pss_one (ps_ret (pe_joined (.cons pe_str (.cons (pe_fmt (pe_fld (pv 0) rfl)) (.cons pe_str (.cons (pe_fmt (pe_fld (pv 0) rfl)) (.cons pe_str .nil)))))))), ?_⟩
    have l1 := TI_short bx.1
    have l2 := TI_short (bd_den bx)
    have sl : sizeLine = 16777216 := rfl
    have e1 : ("Number(" : Str).length = 7 := rfl
    have e2 : (", " : Str).length = 2 := rfl
    have e3 : (")" : Str).length = 1 := rfl
    have e0 : Str.empty.length = 0 := rfl
    walk_at "rdf"
    refine r_tj ?_
    walk_at "rdf"
    refine ⟨_, rfl, by simp only [Str.length_append, e0, e1]; omega, ?_⟩
    refine r_tj (r_fmt ?_)
    walk_at "rdf"
    refine .inr ⟨_, rfl, bits1920 bx.1, ?_⟩
    refine ⟨TI x.num, rfl, by simp only [Str.length_append, e0, e1]; omega, ?_⟩
    refine r_tj ?_
    walk_at "rdf"
    refine ⟨_, rfl, by simp only [Str.length_append, e0, e1, e2]; omega, ?_⟩
    refine r_tj (r_fmt ?_)
    walk_at "rdf"
    refine .inr ⟨_, rfl, bits1920 (bd_den bx), ?_⟩
    refine ⟨TI (x.den : Int), rfl, by simp only [Str.length_append, e0, e1, e2]; omega, ?_⟩
    refine r_tj ?_
    walk_at "rdf"
    refine ⟨_, rfl, by simp only [Str.length_append, e0, e1, e2, e3]; omega, ?_⟩
    refine r_tj0 ?_
    exact k
end
end My

namespace My
open PySem L2
section
variable {P : Program} {w : World} {K : PySem.W.Frag} {mg : Str → Option Value} {base : Heap}
/-! ### a well -/
def WellAt (H : Hp) (d : Addr) : Prop := ∃ a b n : Int, H d = some (.lst [.int a, .int b, .int n])
theorem WellAt.same {H H' : Hp} {d : Addr} (s : Same H H') (h : WellAt H d) : WellAt H' d := let ⟨a, b, n, h1⟩ := h; ⟨a, b, n, s _ _ h1⟩
/-! heaps but for one place -/
def Out (d : Addr) (H H' : Hp) : Prop := ∀ b o, b ≠ d → H b = some o → H' b = some o
theorem Out.refl (d : Addr) (H : Hp) : Out d H H := fun _ _ _ h => h
theorem Out.trans {d : Addr} {H H1 H2 : Hp} (a : Out d H H1) (b : Out d H1 H2) : Out d H H2 := fun x o h1 h => b x o h1 (a x o h1 h)
theorem Out.of {d : Addr} {H H' : Hp} (a : Same H H') : Out d H H' := fun x o _ h => a x o h
theorem Out.keep {H H' : Hp} {d b : Addr} {o : HO} (s : Out d H H') (hd : WellAt H d) (h : H b = some o) (hn : ∀ xs, o ≠ .lst xs) : H' b = some o := by
  obtain ⟨_, _, _, h1⟩ := hd
  exact s b o (ne_of h h1 (hn _)) h
theorem well_ne {H : Hp} {d p : Addr} (h : WellAt H d) (hp : H p = none) : p ≠ d := by
  obtain ⟨_, _, _, h1⟩ := h
  exact (ne_of_none h1 hp).symm
theorem well_ix {ns : List Int} {k : Nat} (h : (k : Int) < ((ns.map V.int).length : Int)) : ∃ c : Int, atI (ns.map V.int) (k : Int) = some (.int c) := by
  have hk : k < ns.length := by rw [List.length_map] at h; omega
  exact ⟨ns[k], atI_nat (by rw [List.getElem?_map, List.getElem?_eq_getElem hk]; rfl)⟩
def spWell (K : PySem.W.Frag) : Sp := fun vs H Q _ => ∃ (a : Addr) (ns : List Int) (k : Nat), vs = [.ref a, .int k] ∧ SqL K H a (ns.map V.int) ∧ ∀ (d : Addr) (H' : Hp), Same H H' → H d = none → WellAt H' d → Q (.ref d) H'
theorem ok_l_well (T : Txt w K mg) : FnOk P w K mg base CX0 1 T.f_l_well T.fd_l_well ["_law_script", "_law_k"] (spWell K) := by
  refine T.F_l_well.ok sc_l_well (fun vs H Q E h => ?_) (fun cdv A outer s H vs Q E hr h => ?_)
  · obtain ⟨a, ns, j, rfl, _⟩ := h
    rfl
  · obtain ⟨a, ns, j, rfl, hS, k⟩ := h
    refine ⟨_, (pss_cons (ps_set (i := 2) sc_l_well.nd rfl (Or.inl rfl) pe_int)
 (pss_cons (ps_if (pt_cmpR op_lt (pv 1) (pe_callB call_len_seq (by rfl) T.n_len PySem.boot_len (pa_cons (pv 0) pa_nil)) (nomark _))
  (pss_one (ps_set (i := 2) sc_l_well.nd rfl (Or.inl rfl) (pe_ix ix_list (pv 0) (pv 1) (fun _ _ => rfl))))
  pss_nil)
 (pss_one (ps_ret (pe_lst (pa_cons (pe_op op_mul (pv 2) (pe_callTy call_int1 (by rfl) T.n_int (by decide +kernel) (pa_cons (pe_cmpR op_ge (pv 2) (pe_op op_pow pe_int pe_int) (nomark _)) pa_nil))) (pa_cons (pe_op op_add (pe_op op_mod (pv 2) pe_int) (pe_op op_mul pe_int (pv 1))) (pa_cons pe_int pa_nil)))))))), ?_⟩
    walk_at "rdg"
    refine ⟨a, _, rfl, .inl hS, ?_⟩
    walk_at "rdg"
    refine r_ite (fun e => ?_) (fun e => ?_)
    · obtain ⟨c, hc⟩ := well_ix (of_decide_eq_true e)
      walk_at "rdg"
      refine ⟨a, _, _, _, rfl, rfl, hS, hc, ?_⟩
      walk_at "rdg"
      refine .inr ⟨_, rfl, ?_⟩
      refine r_I (.inr (by split <;> decide)) ?_
      walk_at "rdg"
      refine r_new (by show 3 ≤ 1000; decide) fun d hd => ?_
      exact k d _ (Same.new hd) hd ⟨_, _, _, upd_same⟩
    · walk_at "rdg"
      refine .inr ⟨_, rfl, ?_⟩
      refine r_I (.inr (by split <;> decide)) ?_
      walk_at "rdg"
      refine r_new (by show 3 ≤ 1000; decide) fun d hd => ?_
      exact k d _ (Same.new hd) hd ⟨_, _, _, upd_same⟩
/-! ### a take -/
def spTake : Sp := fun vs H Q _ => ∃ (d : Addr) (v : Int), vs = [.ref d, .int v] ∧ WellAt H d ∧ 0 < v ∧ v.natAbs < 2 ^ 9000 ∧ ∀ (r : Int) (H' : Hp), Out d H H' → WellAt H' d → 0 ≤ r → r < v → Q (.int r) H'
theorem ok_l_take (T : Txt w K mg) : FnOk P w K mg base CX0 1 T.f_l_take T.fd_l_take ["_law_well_here", "_law_top"] spTake := by
  refine T.F_l_take.ok sc_l_take (fun vs H Q E h => ?_) (fun cdv A outer s H vs Q E hr h => ?_)
  · obtain ⟨d, v, rfl, _⟩ := h
    rfl
  · obtain ⟨d, v, rfl, ⟨a, b, n, hd⟩, v0, vb, k⟩ := h
    refine ⟨_, (pss_cons (ps_if (pt_cmpR op_gt (pe_ix ix_list (pv 0) pe_int (fun _ _ => rfl)) pe_int (nomark _))
  (pss_cons (ps_set (i := 2) sc_l_take.nd rfl (Or.inl rfl) (pe_op op_mod (pe_ix ix_list (pv 0) pe_int (fun _ _ => rfl)) (pv 1)))
 (pss_cons (ps_asg (pe_op op_fdivW (pe_ix ix_list (pv 0) pe_int (fun _ _ => rfl)) (pv 1)) (pg_sub (pv 0) pe_int set_list))
 (pss_one (ps_ret (pv 2)))))
  pss_nil)
 (pss_cons (ps_asg (pe_op op_add (pe_ix ix_list (pv 0) pe_int (fun _ _ => rfl)) pe_int) (pg_sub (pv 0) pe_int set_list))
 (pss_cons (ps_set (i := 3) sc_l_take.nd rfl (Or.inl rfl) (pe_op op_mod (pe_op op_mul (pe_op op_add (pe_op op_add (pe_ix ix_list (pv 0) pe_int (fun _ _ => rfl)) (pe_op op_mul pe_int (pe_ix ix_list (pv 0) pe_int (fun _ _ => rfl)))) pe_int) pe_int) pe_int))
 (pss_cons (ps_set (i := 3) sc_l_take.nd rfl (Or.inl rfl) (pe_op op_mod (pe_op op_add (pe_op op_mulW (pv 3) (pv 3)) (pe_op op_mul pe_int (pe_ix ix_list (pv 0) pe_int (fun _ _ => rfl)))) pe_int))
 (pss_cons (ps_set (i := 3) sc_l_take.nd rfl (Or.inl rfl) (pe_op op_add (pe_op op_mul (pe_op op_mod (pe_op op_mulW (pv 3) (pe_op op_add (pv 3) pe_int)) pe_int) pe_int) (pv 3)))
 (pss_one (ps_ret (pe_op op_mod (pe_op op_fdiv (pe_op op_mod (pe_op op_mul (pv 3) pe_int) pe_int) pe_int) (pv 1))))))))), ?_⟩
    have pmod : ∀ x : Int, 0 ≤ x % v ∧ x % v < v := fun x => ⟨Int.emod_nonneg _ (by omega), Int.emod_lt_of_pos _ v0⟩
    have o1 : ∀ u : HO, Out d H (upd H d u) := fun u b o h1 h => by rw [upd_ne h1]; exact h
    walk_at "rdg"
    refine r_ixL hd (atI_nat (j := 0) rfl) ?_
    walk_at "rdg"
    refine r_ite (fun e => ?_) (fun e => ?_)
    · walk_at "rdg"
      refine r_ixL hd (atI_nat (j := 0) rfl) ?_
      walk_at "rdg"
      refine r_I v0 ?_
      walk_at "rdg"
      refine r_ixL hd (atI_nat (j := 0) rfl) ?_
      walk_at "rdg"
      refine r_I (wide_div v0 vb (by decide) (Nat.le_refl _)) ?_
      walk_at "rdg"
      refine r_setL hd (j := 0) rfl ?_
      walk_at "rdg"
      exact k _ _ (o1 _) ⟨_, _, _, upd_same⟩ (pmod _).1 (pmod _).2
    · walk_at "rdg"
      refine r_ixL hd (atI_nat (j := 2) rfl) ?_
      walk_at "rdg"
      refine r_setL hd (j := 2) rfl ?_
      have hd1 : (upd H d (.lst [.int a, .int b, .int (n + 1)])) d = some (.lst [.int a, .int b, .int (n + 1)]) := upd_same
      have o2 := o1 (.lst [.int a, .int b, .int (n + 1)])
      show (_ : TS) _ _ (upd H d (.lst [.int a, .int b, .int (n + 1)]))
      generalize (upd H d (.lst [.int a, .int b, .int (n + 1)])) = H1 at *
      walk_at "rdg"
      refine r_ixL hd1 (atI_nat (j := 1) rfl) ?_
      walk_at "rdg"
      refine r_ixL hd1 (atI_nat (j := 2) rfl) ?_
      walk_at "rdg"
      have m1 : ∀ x : Int, (x % 2147483647).natAbs < 2 ^ 31 := fun x => by have := @Int.emod_nonneg x 2147483647 (by decide); have := Int.emod_lt_of_pos x (show (0 : Int) < 2147483647 by decide); omega
      have m2 : ∀ x : Int, (x % 2147483587).natAbs < 2 ^ 31 := fun x => by have := @Int.emod_nonneg x 2147483587 (by decide); have := Int.emod_lt_of_pos x (show (0 : Int) < 2147483587 by decide); omega
      have m3 : ∀ x : Int, (x % 2147483587 + 16807).natAbs < 2 ^ 32 := fun x => by have := @Int.emod_nonneg x 2147483587 (by decide); have := Int.emod_lt_of_pos x (show (0 : Int) < 2147483587 by decide); omega
      refine r_I (wide_mul (a := 31) (b := 31) (m1 _) (m1 _) (by decide) (by decide) (by decide)) ?_
      walk_at "rdg"
      refine r_ixL hd1 (atI_nat (j := 2) rfl) ?_
      walk_at "rdg"
      refine r_I (wide_mul (a := 31) (b := 32) (m2 _) (m3 _) (by decide) (by decide) (by decide)) ?_
      walk_at "rdg"
      refine r_I v0 ?_
      exact k _ _ o2 ⟨_, _, _, hd1⟩ (pmod _).1 (pmod _).2
/-- a take, as it is read -/
theorem rd_take {H : Hp} {d : Addr} {v : Int} {Q : VK} {E : XK} (dk : WellAt H d) (h0 : 0 < v) (h1 : v.natAbs < 2 ^ 200) (q : ∀ (r : Int) (H' : Hp), Out d H H' → WellAt H' d → 0 ≤ r → r < v → Q (.int r) H') : spTake ([V.ref d, V.int v] ++ []) H Q E :=
  ⟨d, v, rfl, dk, h0, Nat.lt_of_lt_of_le h1 (Nat.pow_le_pow_right (by decide) (by decide)), q⟩
/-! ### a power of ten -/
def spTenL : Sp := fun vs H Q _ => ∃ p : Int, vs = [.int p] ∧ p.natAbs < 2 ^ 60 ∧ Q (.int (10 ^ p.toNat)) H
theorem ok_l_ten (T : Txt w K mg) : FnOk P w K mg base CX0 1 T.f_l_ten T.fd_l_ten ["_law_power"] spTenL := by
  refine T.F_l_ten.ok sc_l_ten (fun vs H Q E h => ?_) (fun cdv A outer s H vs Q E hr h => ?_)
  · obtain ⟨p, rfl, _⟩ := h
    rfl
  · obtain ⟨p, rfl, hp, k⟩ := h
    refine ⟨_, (pss_cons (ps_set (i := 1) sc_l_ten.nd rfl (Or.inl rfl) pe_int)
 (pss_cons (ps_for PassesOwn.never rfl (pi_range1 rfl T.n_range (pa_cons (pv 0) pa_nil)) (pg_name (i := 2) sc_l_ten.nd rfl (Or.inl rfl))
  (pss_one (ps_set (i := 1) sc_l_ten.nd rfl (Or.inl rfl) (pe_op op_mul (pv 1) pe_int))))
 (pss_one (ps_ret (pv 1))))), ?_⟩
    walk_at "rdg"
    refine r_rng1 ?_
    walk_at "rdg"
    refine ⟨_, rfl, by omega, by omega, ?_⟩
    refine for_range (lo := 0) (n := p.toNat) (fun i σ H' => ∃ v : Option V, σ = [some (.int p), some (.int (10 ^ i)), v] ∧ H' = H) ⟨none, rfl, rfl⟩ ?_ ?_
    · rintro i σ H' hi ⟨v, rfl, rfl⟩
      walk_at "rdg"
      refine ⟨some (.int (0 + (i : Int))), ?_, rfl⟩
      rw [Int.pow_succ]
      rfl
    · rintro σ H' ⟨v, rfl, rfl⟩
      walk_at "rdg"
      exact k
end
end My

namespace My
open PySem L2
section
variable {P : Program} {w : World} {K : PySem.W.Frag} {mg : Str → Option Value} {base : Heap}
theorem int_of {v : V} {xs : List Int} (h : v ∈ xs.map V.int) : ∃ i, v = .int i ∧ i ∈ xs := by
  obtain ⟨i, hi, rfl⟩ := List.mem_map.mp h
  exact ⟨i, rfl, hi⟩
theorem atI_int {xs : List Int} {r : Int} (h0 : 0 ≤ r) (h1 : r < (xs.length : Int)) : ∃ i, atI (xs.map V.int) r = some (.int i) ∧ i ∈ xs := by
  obtain ⟨n, rfl⟩ := Int.eq_ofNat_of_zero_le h0
  have hn : n < xs.length := by omega
  exact ⟨xs[n], atI_nat (by rw [List.getElem?_map, List.getElem?_eq_getElem hn]; rfl), List.getElem_mem hn⟩
theorem two_at {i j : Int} (k : Bool) : atI [V.int i, .int j] (if k then 1 else 0) = some (.int (if k = true then j else i)) := by cases k <;> rfl
/-- a literal list of whole numbers, and one of it -/
theorem r_pick {K : PySem.W.Frag} {H : Hp} {Q : VK} {l : Addr} {r : Int} (xs : List Int) (h : H l = some (.lst (xs.map V.int))) (h0 : 0 ≤ r) (h1 : r < (xs.length : Int)) (q : ∀ i : Int, i ∈ xs → Q (.int i) H) : rIxL K (.ref l) (.int r) H Q := by
  obtain ⟨i, e, m⟩ := atI_int h0 h1
  exact r_ixL h e (q i m)
def spPair : Sp := fun vs H Q _ => ∃ d : Addr, vs = [.ref d] ∧ WellAt H d ∧ ∀ (p : Addr) (t b : Int) (H' : Hp), Out d H H' → WellAt H' d → H' p = some (.tup [.int t, .int b]) → t.natAbs < 2 ^ 110 → b ≠ 0 → b.natAbs ≤ 10 ^ 12 → Q (.ref p) H'
theorem five_mono {i j : Nat} (h : i ≤ j) : 5 ^ i ≤ 5 ^ j := Nat.pow_le_pow_right (by decide) h
theorem ok_l_pair (T : Txt w K mg) : FnOk P w K mg base CX0 2 T.f_l_pair T.fd_l_pair ["_law_well_here"] spPair := by
  refine T.F_l_pair.ok sc_l_pair (fun vs H Q E h => ?_) (fun cdv A outer s H vs Q E hr h => ?_)
  · obtain ⟨d, rfl, _⟩ := h
    rfl
  · obtain ⟨d, rfl, w0, k⟩ := h
    refine ⟨_, (pss_cons (ps_set (i := 1) sc_l_pair.nd rfl (Or.inl rfl) (pe_call (ok_l_take T) (hr.mono (by decide)) (by rfl) T.m_l_take T.F_l_take.kp T.b_l_take .nil pass0 (pa_cons (pv 0) (pa_cons pe_int pa_nil))))
 (pss_cons (ps_set (i := 2) sc_l_pair.nd rfl (Or.inl rfl) (pe_op op_add pe_int (pe_call (ok_l_take T) (hr.mono (by decide)) (by rfl) T.m_l_take T.F_l_take.kp T.b_l_take .nil pass0 (pa_cons (pv 0) (pa_cons pe_int pa_nil)))))
 (pss_cons (ps_set (i := 3) sc_l_pair.nd rfl (Or.inl rfl) (pe_call (ok_l_take T) (hr.mono (by decide)) (by rfl) T.m_l_take T.F_l_take.kp T.b_l_take .nil pass0 (pa_cons (pv 0) (pa_cons pe_int pa_nil))))
 (pss_cons (ps_set (i := 4) sc_l_pair.nd rfl (Or.inl rfl) (pe_ix ix_list (pe_lst (pa_cons (pe_call (ok_l_take T) (hr.mono (by decide)) (by rfl) T.m_l_take T.F_l_take.kp T.b_l_take .nil pass0 (pa_cons (pv 0) (pa_cons pe_int pa_nil))) (pa_cons (pe_call (ok_l_take T) (hr.mono (by decide)) (by rfl) T.m_l_take T.F_l_take.kp T.b_l_take .nil pass0 (pa_cons (pv 0) (pa_cons (pe_op op_pow pe_int pe_int) pa_nil))) (pa_cons (pe_call (ok_l_take T) (hr.mono (by decide)) (by rfl) T.m_l_take T.F_l_take.kp T.b_l_take .nil pass0 (pa_cons (pv 0) (pa_cons pe_int pa_nil))) (pa_cons (pe_call (ok_l_take T) (hr.mono (by decide)) (by rfl) T.m_l_take T.F_l_take.kp T.b_l_take .nil pass0 (pa_cons (pv 0) (pa_cons (pe_op op_pow pe_int pe_int) pa_nil))) (pa_cons pe_int (pa_cons pe_int pa_nil))))))) (pv 1) (fun _ _ => rfl)))
 (pss_cons (ps_set (i := 5) sc_l_pair.nd rfl (Or.inl rfl) (pe_ix ix_list (pe_lst (pa_cons (pv 2) (pa_cons (pe_call (ok_l_ten T) (hr.mono (by decide)) (by rfl) T.m_l_ten T.F_l_ten.kp T.b_l_ten .nil pass0 (pa_cons (pv 3) pa_nil)) (pa_cons pe_int (pa_cons (pe_op op_add pe_int (pe_call (ok_l_take T) (hr.mono (by decide)) (by rfl) T.m_l_take T.F_l_take.kp T.b_l_take .nil pass0 (pa_cons (pv 0) (pa_cons (pe_op op_pow pe_int pe_int) pa_nil)))) (pa_cons (pv 2) (pa_cons (pv 2) pa_nil))))))) (pv 1) (fun _ _ => rfl)))
 (C8.pss_cut (ps_if (pt_cmpR op_eq (pv 1) pe_int (nomark _))
  (pss_cons (ps_for PassesOwn.never rfl (pi_range1 rfl T.n_range (pa_cons (pe_call (ok_l_take T) (hr.mono (by decide)) (by rfl) T.m_l_take T.F_l_take.kp T.b_l_take .nil pass0 (pa_cons (pv 0) (pa_cons pe_int pa_nil))) pa_nil)) (pg_name (i := 6) sc_l_pair.nd rfl (Or.inl rfl))
  (pss_one (ps_set (i := 5) sc_l_pair.nd rfl (Or.inl rfl) (pe_op op_mulW (pv 5) (pe_ix ix_list (pe_lst (pa_cons pe_int (pa_cons pe_int pa_nil))) (pe_call (ok_l_take T) (hr.mono (by decide)) (by rfl) T.m_l_take T.F_l_take.kp T.b_l_take .nil pass0 (pa_cons (pv 0) (pa_cons pe_int pa_nil))) (fun _ _ => rfl))))))
 (pss_one (ps_set (i := 5) sc_l_pair.nd rfl (Or.inl rfl) (pe_callB (call_min2 rfl) (by rfl) T.n_min (by decide +kernel) (pa_cons (pv 5) (pa_cons (pe_op op_pow pe_int pe_int) pa_nil))))))
  pss_nil)
 (C8.pss_cut (ps_if (pt_cmpR op_eq (pv 1) pe_int (nomark _))
  (pss_one (ps_set (i := 4) sc_l_pair.nd rfl (Or.inl rfl) (pe_op op_sub (pe_op op_add (pe_call (ok_l_ten T) (hr.mono (by decide)) (by rfl) T.m_l_ten T.F_l_ten.kp T.b_l_ten .nil pass0 (pa_cons (pe_call (ok_l_take T) (hr.mono (by decide)) (by rfl) T.m_l_take T.F_l_take.kp T.b_l_take .nil pass0 (pa_cons (pv 0) (pa_cons pe_int pa_nil))) pa_nil)) (pe_call (ok_l_take T) (hr.mono (by decide)) (by rfl) T.m_l_take T.F_l_take.kp T.b_l_take .nil pass0 (pa_cons (pv 0) (pa_cons pe_int pa_nil)))) pe_int)))
  pss_nil)
 (C8.pss_cut (ps_if (pt_cmpR op_lt (pv 1) pe_int (nomark _))
  (pss_one (ps_par (i := 4) (j := 5) rfl sc_l_pair.nd rfl rfl (by decide) rfl rfl (pa_cons (pe_op op_mulW (pv 4) (pv 2)) (pa_cons (pe_callB (call_min2 rfl) (by rfl) T.n_min (by decide +kernel) (pa_cons (pe_op op_pow pe_int pe_int) (pa_cons (pe_op op_mulW (pv 5) (pv 2)) pa_nil))) pa_nil)) (by rfl)))
  pss_nil)
 (pss_cons (ps_set (i := 7) sc_l_pair.nd rfl (Or.inl rfl) (pe_lst (pa_cons (pe_call (ok_l_take T) (hr.mono (by decide)) (by rfl) T.m_l_take T.F_l_take.kp T.b_l_take .nil pass0 (pa_cons (pv 0) (pa_cons pe_int pa_nil))) (pa_cons (pe_callTy call_int1 (by rfl) T.n_int (by decide +kernel) (pa_cons (pe_cmpR op_eq (pe_call (ok_l_take T) (hr.mono (by decide)) (by rfl) T.m_l_take T.F_l_take.kp T.b_l_take .nil pass0 (pa_cons (pv 0) (pa_cons pe_int pa_nil))) pe_int (nomark _)) pa_nil)) pa_nil))))
 (pss_one (ps_ret (pe_tup (pa_cons (pe_op op_mulW (pv 4) (pe_ix ix_list (pe_lst (pa_cons pe_int (pa_cons (pe_un un_neg pe_int) pa_nil))) (pe_ix ix_list (pv 7) pe_int (fun _ _ => rfl)) (fun _ _ => rfl))) (pa_cons (pe_op op_mulW (pv 5) (pe_ix ix_list (pe_lst (pa_cons pe_int (pa_cons (pe_un un_neg pe_int) pa_nil))) (pe_ix ix_list (pv 7) pe_int (fun _ _ => rfl)) (fun _ _ => rfl))) pa_nil)))))))))))))), ?_⟩
    have E6 : (10 : Int) ^ (6 : Int).toNat = 1000000 := rfl
    have E12 : (10 : Int) ^ (12 : Int).toNat = 1000000000000 := rfl
    have E30 : (10 : Int) ^ (30 : Int).toNat = 1000000000000000000000000000000 := rfl
    walk_at "rdg"
    refine rd_take w0 (by decide) (by decide) fun e1 H1 o1 w1 e10 e11 => ?_
    walk_at "rdg"
    refine rd_take w1 (by decide) (by decide) fun e2 H2 o2 w2 e20 e21 => ?_
    walk_at "rdg"
    refine rd_take w2 (by decide) (by decide) fun e3 H3 o3 w3 e30 e31 => ?_
    walk_at "rdg"
    refine rd_take w3 (by decide) (by decide) fun e4 H4 o4 w4 e40 e41 => ?_
    walk_at "rdg"
    refine rd_take w4 (by decide) (by decide) fun e5 H5 o5 w5 e50 e51 => ?_
    walk_at "rdg"
    refine rd_take w5 (by decide) (by decide) fun e6 H6 o6 w6 e60 e61 => ?_
    walk_at "rdg"
    refine rd_take w6 (by decide) (by decide) fun e7 H7 o7 w7 e70 e71 => ?_
    have o17 := (((((o1.trans o2).trans o3).trans o4).trans o5).trans o6).trans o7
    walk_at "rdg"
    refine r_new (by show 6 ≤ 1000; decide) fun l hl => ?_
    have sl := Same.new (o := .lst [.int e4, .int e5, .int e6, .int e7, .int 0, .int 0]) hl
    walk_at "rdg"
    refine r_pick [e4, e5, e6, e7, 0, 0] upd_same e10 e11 fun t0 ht0 => ?_
    have t00 : 0 ≤ t0 ∧ t0 < 10 ^ 30 := by
      simp only [List.mem_cons, List.not_mem_nil, or_false] at ht0
      omega
    walk_at "rdg"
    refine ⟨e3, rfl, by omega, ?_⟩
    walk_at "rdg"
    refine rd_take (w7.same sl) (by decide) (by decide) fun e8 H8 o8 w8 e80 e81 => ?_
    have o18 := (o17.trans (Out.of sl)).trans o8
    walk_at "rdg"
    refine r_new (by show 6 ≤ 1000; decide) fun m hm => ?_
    have sm := Same.new (o := .lst [.int (1 + e2), .int (10 ^ e3.toNat), .int 1, .int (1 + e8), .int (1 + e2), .int (1 + e2)]) hm
    walk_at "rdg"
    have tb : (0 : Int) < 10 ^ e3.toNat ∧ (10 : Int) ^ e3.toNat ≤ 10 ^ 12 := by
      constructor
      · exact Int.pow_pos (by decide)
      · have : (10 : Nat) ^ e3.toNat ≤ 10 ^ 12 := Nat.pow_le_pow_right (by decide) (by omega)
        exact_mod_cast this
    refine r_pick [1 + e2, 10 ^ e3.toNat, 1, 1 + e8, 1 + e2, 1 + e2] upd_same e10 e11 fun b0 hb0 => ?_
    have b00 : 0 < b0 ∧ b0 ≤ 1000000000000 := by
      have E : (10 : Int) ^ 12 = 1000000000000 := by decide
      simp only [List.mem_cons, List.not_mem_nil, or_false] at hb0
      omega
    have wm := w8.same sm
    have om := o18.trans (Out.of sm)
    generalize upd H8 m (.lst [.int (1 + e2), .int (10 ^ e3.toNat), .int 1, .int (1 + e8), .int (1 + e2), .int (1 + e2)]) = H9 at *
    let Mid : L2.St → Hp → Prop := fun σ' H' => ∃ (t b : Int) (v6 : Option V), σ' = [some (.ref d), some (.int e1), some (.int (1 + e2)), some (.int e3), some (.int t), some (.int b), v6, none] ∧ Out d H H' ∧ WellAt H' d ∧ (0 ≤ t ∧ t < 10 ^ 32) ∧ (0 < b ∧ b ≤ 1000000000000)
    walk_at "rdg"
    refine r_cut Mid ?_ ?_
    · walk_at "rdg"
      refine r_ite (fun e => ?_) (fun e => ?_)
      · walk_at "rdg"
        refine r_rng1 ?_
        walk_at "rdg"
        refine rd_take wm (by decide) (by decide) fun e9 H10 o10 w10 e90 e91 => ?_
        walk_at "rdg"
        refine ⟨_, rfl, by omega, by omega, ?_⟩
        refine for_range (lo := 0) (n := e9.toNat) (fun i σ H' => ∃ (v : Option V) (b : Int), σ = [some (.ref d), some (.int e1), some (.int (1 + e2)), some (.int e3), some (.int t0), some (.int b), v, none] ∧ Out d H H' ∧ WellAt H' d ∧ 0 < b ∧ b ≤ 1000000000000 * 5 ^ i) ⟨none, b0, rfl, om.trans o10, w10, by omega, by omega⟩ ?_ ?_
        · rintro i σ H11 hi ⟨v, b, rfl, o11, w11, bp, bl⟩
          have bn : b.natAbs < 2 ^ 100 := by
            have f : (5 : Nat) ^ i ≤ 5 ^ 20 := five_mono (by omega)
            have f' : (5 : Int) ^ i ≤ 5 ^ 20 := by exact_mod_cast f
            have E : (5 : Int) ^ 20 = 95367431640625 := by decide
            omega
          walk_at "rdg"
          refine r_new (by show 2 ≤ 1000; decide) fun q hq => ?_
          have sq := Same.new (o := .lst [.int 2, .int 5]) hq
          walk_at "rdg"
          refine rd_take (w11.same sq) (by decide) (by decide) fun e12 H12 o12 w12 e120 e121 => ?_
          have hQ := o12 q _ (well_ne w11 hq) upd_same
          refine r_pick [2, 5] hQ e120 e121 fun f hf => ?_
          have f2 : f = 2 ∨ f = 5 := by simpa using hf
          walk_at "rdg"
          refine r_I (wide_mul (a := 100) (b := 3) bn (by omega) (by decide) (by decide) (by decide)) ?_
          walk_at "rdg"
          refine ⟨_, b * f, rfl, (o11.trans (Out.of sq)).trans o12, w12, ?_, ?_⟩
          · rcases f2 with rfl | rfl <;> omega
          · rw [Int.pow_succ, ← Int.mul_assoc]
            generalize 1000000000000 * (5 : Int) ^ i = z at *
            rcases f2 with rfl | rfl <;> omega
        · rintro σ H11 ⟨v, b, rfl, o11, w11, bp, bl⟩
          walk_at "rdg"
          refine ⟨_, _, rfl, ?_⟩
          walk_at "rdg"
          refine ⟨t0, _, v, rfl, o11, w11, ⟨t00.1, Int.lt_trans t00.2 (by decide)⟩, ?_⟩
          rw [E12]
          split <;> omega
      · walk_at "rdg"
        exact ⟨t0, b0, none, rfl, om, wm, ⟨t00.1, Int.lt_trans t00.2 (by decide)⟩, b00⟩
    rintro σ H10 ⟨t1, b1, v6, rfl, o10, w10, t10, b10⟩
    walk_at "rdg"
    refine r_cut Mid ?_ ?_
    · walk_at "rdg"
      refine r_ite (fun e => ?_) (fun e => ?_)
      · walk_at "rdg"
        refine rd_take w10 (by decide) (by decide) fun e9 H11 o11 w11 e90 e91 => ?_
        walk_at "rdg"
        refine ⟨e9, rfl, by omega, ?_⟩
        walk_at "rdg"
        refine rd_take w11 (by decide) (by decide) fun e12 H12 o12 w12 e120 e121 => ?_
        walk_at "rdg"
        have pb : (0 : Int) < 10 ^ e9.toNat ∧ (10 : Int) ^ e9.toNat ≤ 10 ^ 28 := by
          constructor
          · exact Int.pow_pos (by decide)
          · have : (10 : Nat) ^ e9.toNat ≤ 10 ^ 28 := Nat.pow_le_pow_right (by decide) (by omega)
            exact_mod_cast this
        have E28 : (10 : Int) ^ 28 = 10000000000000000000000000000 := by decide
        have E32 : (10 : Int) ^ 32 = 100000000000000000000000000000000 := by decide
        exact ⟨_, b1, v6, rfl, (o10.trans o11).trans o12, w12, by omega, b10⟩
      · walk_at "rdg"
        exact ⟨t1, b1, v6, rfl, o10, w10, t10, b10⟩
    rintro σ H11 ⟨t2, b2, v6, rfl, o11, w11, t20, b20⟩
    have E32 : (10 : Int) ^ 32 = 100000000000000000000000000000000 := by decide
    walk_at "rdg"
    refine r_cut (fun σ' H' => ∃ (t b : Int) (v6 : Option V), σ' = [some (.ref d), some (.int e1), some (.int (1 + e2)), some (.int e3), some (.int t), some (.int b), v6, none] ∧ Out d H H' ∧ WellAt H' d ∧ (t.natAbs < 2 ^ 110) ∧ (0 < b ∧ b ≤ 1000000000000)) ?_ ?_
    · walk_at "rdg"
      refine r_ite (fun e => ?_) (fun e => ?_)
      · walk_at "rdg"
        refine r_I (wide_mul (a := 107) (b := 4) (by omega) (by omega) (by decide) (by decide) (by decide)) ?_
        walk_at "rdg"
        refine r_I (wide_mul (a := 50) (b := 4) (by omega) (by omega) (by decide) (by decide) (by decide)) ?_
        walk_at "rdg"
        refine ⟨_, _, rfl, ?_⟩
        walk_at "rdg"
        refine ⟨_, _, v6, rfl, o11, w11, ?_, ?_⟩
        · have := natAbs_mul_lt (a := t2) (b := 1 + e2) (m := 107) (n := 4) (k := 111) (by omega) (by omega) (by decide)
          have t3 : t2 * (1 + e2) ≤ t2 * 12 := Int.mul_le_mul_of_nonneg_left (by omega) (by omega)
          have t4 : 0 ≤ t2 * (1 + e2) := Int.mul_nonneg (by omega) (by omega)
          omega
        · have b3 : 0 < b2 * (1 + e2) := Int.mul_pos (by omega) (by omega)
          rw [E12]
          split <;> omega
      · walk_at "rdg"
        exact ⟨t2, b2, v6, rfl, o11, w11, by omega, b20⟩
    rintro σ H12 ⟨t, b, v6, rfl, o12, w12, tn, bn⟩
    walk_at "rdg"
    refine rd_take w12 (by decide) (by decide) fun e13 H13 o13 w13 e130 e131 => ?_
    walk_at "rdg"
    refine rd_take w13 (by decide) (by decide) fun e14 H14 o14 w14 e140 e141 => ?_
    walk_at "rdg"
    refine .inr ⟨_, rfl, ?_⟩
    walk_at "rdg"
    refine r_new (by show 2 ≤ 1000; decide) fun sg hsg => ?_
    generalize decide (e14 = 1) = bb
    have s15 := Same.new (o := .lst [.int e13, .int (if bb then 1 else 0)]) hsg
    have hG : upd H14 sg (.lst [.int e13, .int (if bb then 1 else 0)]) sg = some (.lst [.int e13, .int (if bb then 1 else 0)]) := upd_same
    generalize upd H14 sg (.lst [.int e13, .int (if bb then 1 else 0)]) = H15 at *
    walk_at "rdg"
    refine r_new (by show 2 ≤ 1000; decide) fun q1 hq1 => ?_
    have s16 := Same.new (o := .lst [.int 1, .int (-1)]) hq1
    walk_at "rdg"
    refine r_ixL (s16 _ _ hG) (atI_nat (j := 0) rfl) ?_
    refine r_pick [1, -1] upd_same e130 e131 fun f1 hf1 => ?_
    have f1' : f1 = 1 ∨ f1 = -1 := by simpa using hf1
    walk_at "rdg"
    refine r_I (wide_mul (a := 110) (b := 2) tn (by omega) (by decide) (by decide) (by decide)) ?_
    walk_at "rdg"
    refine r_new (by show 2 ≤ 1000; decide) fun q2 hq2 => ?_
    have s17 := Same.new (o := .lst [.int 1, .int (-1)]) hq2
    walk_at "rdg"
    refine r_ixL (s17 _ _ (s16 _ _ hG)) (atI_nat (j := 1) rfl) ?_
    refine r_ixL upd_same (two_at bb) ?_
    walk_at "rdg"
    have f2' : (if bb = true then (-1 : Int) else 1) = 1 ∨ (if bb = true then (-1 : Int) else 1) = -1 := by cases bb <;> simp
    generalize (if bb = true then (-1 : Int) else 1) = f2 at *
    refine r_I (wide_mul (a := 50) (b := 2) (by omega) (by omega) (by decide) (by decide) (by decide)) ?_
    walk_at "rdg"
    refine r_new (by show 2 ≤ 1000; decide) fun p hp => ?_
    have s18 := Same.new (o := .tup [.int (t * f1), .int (b * f2)]) hp
    have sA := ((s15.trans s16).trans s17).trans s18
    refine k p _ _ _ (((o12.trans o13).trans o14).trans (Out.of sA)) (w14.same sA) upd_same ?_ ?_ ?_
    · rcases f1' with rfl | rfl <;> omega
    · rcases f2' with rfl | rfl <;> omega
    · rcases f2' with rfl | rfl <;> omega
/-! ### lowest terms, by Euclid -/
end
end My

namespace My
open PySem L2
/-! ### things of any kind, own objects among them -/
inductive Tg where
  | non
  | bl (b : Bool)
  | int (i : Int)
  | str (z : Str)
  | num (x : Rat)
  | tup (ts : List Tg)
  | lst (ts : List Tg)
  | dct
mutual
inductive TgAt (C d : Addr) (H : Hp) : V → Tg → Prop where
  | non : TgAt C d H .non .non
  | bl (b : Bool) : TgAt C d H (.bl b) (.bl b)
  | int (i : Int) : TgAt C d H (.int i) (.int i)
  | str (z : Str) : TgAt C d H (.str z) (.str z)
  | num {p : Addr} {x : Rat} : NumAt C H p x → TgAt C d H (.ref p) (.num x)
  | tup {p : Addr} {vs : List V} {ts : List Tg} : H p = some (.tup vs) → TgAll C d H vs ts → TgAt C d H (.ref p) (.tup ts)
  | lst {p : Addr} {vs : List V} {ts : List Tg} : p ≠ d → H p = some (.lst vs) → TgAll C d H vs ts → TgAt C d H (.ref p) (.lst ts)
  | dct {p : Addr} : H p = some (.dK []) → TgAt C d H (.ref p) .dct
inductive TgAll (C d : Addr) (H : Hp) : List V → List Tg → Prop where
  | nil : TgAll C d H [] []
  | cons {v : V} {x : Tg} {vs : List V} {ts : List Tg} : TgAt C d H v x → TgAll C d H vs ts → TgAll C d H (v :: vs) (x :: ts)
end
mutual
theorem TgAt.same {C d : Addr} {H H' : Hp} (s : Same H H') : ∀ {v : V} {x : Tg}, TgAt C d H v x → TgAt C d H' v x
  | _, _, .non => .non
  | _, _, .bl b => .bl b
  | _, _, .int b => .int b
  | _, _, .str b => .str b
  | _, _, .num h => .num (h.same s)
  | _, _, .tup h a => .tup (s _ _ h) (TgAll.same s a)
  | _, _, .lst n h a => .lst n (s _ _ h) (TgAll.same s a)
  | _, _, .dct h => .dct (s _ _ h)
theorem TgAll.same {C d : Addr} {H H' : Hp} (s : Same H H') : ∀ {vs : List V} {xs : List Tg}, TgAll C d H vs xs → TgAll C d H' vs xs
  | _, _, .nil => .nil
  | _, _, .cons a b => .cons (TgAt.same s a) (TgAll.same s b)
end
theorem NumAt.out {C : Addr} {H H' : Hp} {d p : Addr} {x : Rat} (o : Out d H H') (w : WellAt H d) (h : NumAt C H p x) : NumAt C H' p x := let ⟨dx, e⟩ := h; ⟨dx, o.keep w e (fun _ z => by cases z)⟩
mutual
theorem TgAt.out {C d : Addr} {H H' : Hp} (o : Out d H H') (w : WellAt H d) : ∀ {v : V} {x : Tg}, TgAt C d H v x → TgAt C d H' v x
  | _, _, .non => .non
  | _, _, .bl b => .bl b
  | _, _, .int b => .int b
  | _, _, .str b => .str b
  | _, _, .num h => .num (h.out o w)
  | _, _, .tup h a => .tup (o.keep w h (fun _ z => by cases z)) (TgAll.out o w a)
  | _, _, .lst n h a => .lst n (o _ _ n h) (TgAll.out o w a)
  | _, _, .dct h => .dct (o.keep w h (fun _ z => by cases z))
theorem TgAll.out {C d : Addr} {H H' : Hp} (o : Out d H H') (w : WellAt H d) : ∀ {vs : List V} {xs : List Tg}, TgAll C d H vs xs → TgAll C d H' vs xs
  | _, _, .nil => .nil
  | _, _, .cons a b => .cons (TgAt.out o w a) (TgAll.out o w b)
end
theorem TgAll.len {C d : Addr} {H : Hp} : ∀ {vs : List V} {xs : List Tg}, TgAll C d H vs xs → vs.length = xs.length
  | _, _, .nil => rfl
  | _, _, .cons _ b => by rw [List.length_cons, List.length_cons, TgAll.len b]
theorem TgAll.get {C d : Addr} {H : Hp} : ∀ {vs : List V} {xs : List Tg} {j : Nat} {v : V}, TgAll C d H vs xs → vs[j]? = some v → ∃ x, xs[j]? = some x ∧ TgAt C d H v x
  | _, _, 0, _, .cons a _, h => by
    cases h
    exact ⟨_, rfl, a⟩
  | _, _, j + 1, _, .cons _ b, h => by
    rw [List.getElem?_cons_succ] at h
    obtain ⟨x, h1, h2⟩ := TgAll.get b h
    exact ⟨x, by rw [List.getElem?_cons_succ]; exact h1, h2⟩
theorem TgAll.app {C d : Addr} {H : Hp} : ∀ {vs : List V} {xs : List Tg} {ws : List V} {ys : List Tg}, TgAll C d H vs xs → TgAll C d H ws ys → TgAll C d H (vs ++ ws) (xs ++ ys)
  | _, _, _, _, .nil, h => h
  | _, _, _, _, .cons a b, h => .cons a (TgAll.app b h)
theorem TgAll.take {C d : Addr} {H : Hp} : ∀ {vs : List V} {xs : List Tg} (n : Nat), TgAll C d H vs xs → TgAll C d H (vs.take n) (xs.take n)
  | _, _, 0, _ => .nil
  | _, _, _ + 1, .nil => .nil
  | _, _, n + 1, .cons a b => .cons a (TgAll.take n b)
theorem TgAll.drop {C d : Addr} {H : Hp} : ∀ {vs : List V} {xs : List Tg} (n : Nat), TgAll C d H vs xs → TgAll C d H (vs.drop n) (xs.drop n)
  | _, _, 0, h => h
  | _, _, _ + 1, .nil => .nil
  | _, _, n + 1, .cons _ b => TgAll.drop n b
theorem TgAll.rev {C d : Addr} {H : Hp} : ∀ {vs : List V} {xs : List Tg}, TgAll C d H vs xs → TgAll C d H vs.reverse xs.reverse
  | _, _, .nil => .nil
  | _, _, .cons a b => by rw [List.reverse_cons, List.reverse_cons]; exact (TgAll.rev b).app (.cons a .nil)
/-- the pairs of what is there and what it is -/
theorem TgAll.zip {C d : Addr} {H : Hp} : ∀ {vs : List V} {xs : List Tg}, TgAll C d H vs xs → (vs.zip xs).map Prod.fst = vs ∧ (vs.zip xs).map Prod.snd = xs ∧ ∀ z ∈ vs.zip xs, TgAt C d H z.1 z.2
  | _, _, .nil => ⟨rfl, rfl, fun _ h => by cases h⟩
  | _, _, .cons a b => by
    obtain ⟨h1, h2, h3⟩ := TgAll.zip b
    refine ⟨by rw [List.zip_cons_cons, List.map_cons, h1], by rw [List.zip_cons_cons, List.map_cons, h2], fun z hz => ?_⟩
    rcases List.mem_cons.mp hz with rfl | hz
    · exact a
    · exact h3 z hz
theorem TgAt.newT {C d : Addr} {H : Hp} {p : Addr} {vs : List V} {ts : List Tg} (hp : H p = none) (a : TgAll C d H vs ts) : TgAt C d (upd H p (.tup vs)) (.ref p) (.tup ts) := .tup upd_same (a.same (Same.new hp))
theorem TgAt.newL {C d : Addr} {H : Hp} {p : Addr} {vs : List V} {ts : List Tg} (hp : H p = none) (n : p ≠ d) (a : TgAll C d H vs ts) : TgAt C d (upd H p (.lst vs)) (.ref p) (.lst ts) := .lst n upd_same (a.same (Same.new hp))
namespace Tg
def isT : Tg → Bool
  | .tup _ => true
  | _ => false
def isI : Tg → Bool
  | .int _ => true
  | .bl _ => true
  | _ => false
def isB : Tg → Bool
  | .bl _ => true
  | _ => false
def isN : Tg → Bool
  | .num _ => true
  | _ => false
def isW : Tg → Bool
  | .int _ => true
  | _ => false
theorem isW_eq (x : Tg) : isW x = (isI x && !isB x) := by cases x <;> rfl
def ty : Tg → String
  | .non => "NoneType" | .bl _ => "bool" | .int _ => "int" | .str _ => "str" | .num _ => "" | .tup _ => "tuple" | .lst _ => "list" | .dct => "dict"
end Tg
end My

namespace My
open PySem L2 TL NumText
/-- texts of small signs -/
def FT (t : Str) : Prop := ∀ c ∈ tl t, c < 16 ^ 8
theorem FT.app {a b : Str} (ha : FT a) (hb : FT b) : FT (a ++ b) := fun c hc => by
  rw [tl_append] at hc
  exact (List.mem_append.mp hc).elim (ha c) (hb c)
theorem FT_TI (z : Int) : FT (TI z) := fun c hc => by
  rw [tl_TI] at hc
  unfold signL at hc
  have dg : ∀ n : Nat, ∀ c ∈ numL n, c < 16 ^ 8 := fun n c h => by
    have := numL_digits _ c h
    omega
  split at hc
  · rcases List.mem_cons.mp hc with h | h
    · omega
    · exact dg _ c h
  · exact dg _ c hc
structure Fine1 (d : PyData) (n : Nat) : Prop where
  sh : d.showable = true
  hd : d.hasDict = false
  dp : d.depth ≤ 0
  ls : d.leavesShort 1921 = true
  wt : d.weight ≤ n
theorem fine_str {t : Str} (f : FT t) (n : t.length ≤ 5000) : Fine1 (.str t) 5000 := by
  refine ⟨rfl, by simp [PyData.hasDict], by simp [PyData.depth], ?_, n⟩
  show ((t.cps.toList.all fun c => decide (c < 16 ^ 8)) = true)
  rw [List.all_eq_true]
  intro c hc
  exact decide_eq_true (f c hc)
theorem empty_app (t : Str) : Str.empty ++ t = t := by
  exact ext_tl (by rw [tl_append]; rfl)
theorem NText_ft (x : Rat) : FT (NText x) := by
  unfold NText
  split
  · exact FT_TI _
  · exact ((FT_TI _).app (by unfold FT; decide)).app (FT_TI _)
theorem RText_is (x : Rat) : RText x = "Number(" ++ TI x.num ++ ", " ++ TI (x.den : Int) ++ ")" := by
  unfold RText
  rw [empty_app]
theorem RText_ft (x : Rat) : FT (RText x) := by
  rw [RText_is]
  exact (((((show FT "Number(" by unfold FT; decide).app (FT_TI _)).app (show FT ", " by unfold FT; decide)).app (FT_TI _)).app (show FT ")" by unfold FT; decide))
end My

namespace My
open PySem L2 TL
/-! ### how great a thing is: bits of numbers, places, depth -/
mutual
def okT (k : Nat) : Tg → Prop
  | .int i => i.natAbs < 2 ^ k
  | .str z => FT z ∧ z.length ≤ 250
  | .num x => Bd k x
  | .tup ts => okTs k ts
  | .lst ts => okTs k ts
  | _ => True
def okTs (k : Nat) : List Tg → Prop
  | [] => True
  | t :: ts => okT k t ∧ okTs k ts
end
mutual
def szT : Tg → Nat
  | .tup ts => szTs ts
  | .lst ts => szTs ts
  | _ => 0
def szTs : List Tg → Nat
  | [] => 0
  | t :: ts => szT t + 1 + szTs ts
end
mutual
def dpT : Tg → Nat
  | .tup ts => dpTs ts + 1
  | .lst ts => dpTs ts + 1
  | _ => 0
def dpTs : List Tg → Nat
  | [] => 0
  | t :: ts => max (dpT t) (dpTs ts)
end
theorem okTs_iff {k : Nat} : ∀ {ts : List Tg}, okTs k ts ↔ ∀ t ∈ ts, okT k t
  | [] => ⟨fun _ t h => (nomatch h), fun _ => trivial⟩
  | t :: ts => by
    rw [List.forall_mem_cons, ← okTs_iff (ts := ts)]
    rfl
theorem dpTs_iff {m : Nat} : ∀ {ts : List Tg}, dpTs ts ≤ m ↔ ∀ t ∈ ts, dpT t ≤ m
  | [] => ⟨fun _ t h => (nomatch h), fun _ => Nat.zero_le _⟩
  | t :: ts => by
    rw [List.forall_mem_cons, ← dpTs_iff (ts := ts)]
    show max (dpT t) (dpTs ts) ≤ m ↔ _
    exact Nat.max_le
theorem szTs_app : ∀ (a b : List Tg), szTs (a ++ b) = szTs a + szTs b
  | [], b => by show szTs b = 0 + szTs b; omega
  | t :: a, b => by
    show szT t + 1 + szTs (a ++ b) = szT t + 1 + szTs a + szTs b
    rw [szTs_app a b]
    omega
theorem szTs_rev : ∀ a : List Tg, szTs a.reverse = szTs a
  | [] => rfl
  | t :: a => by
    rw [List.reverse_cons, szTs_app, szTs_rev a]
    show szTs a + (szT t + 1 + 0) = szT t + 1 + szTs a
    omega
theorem szTs_len : ∀ ts : List Tg, ts.length ≤ szTs ts
  | [] => Nat.le_refl _
  | t :: ts => by
    have := szTs_len ts
    show ts.length + 1 ≤ szT t + 1 + szTs ts
    omega
theorem szTs_mem {t : Tg} : ∀ {ts : List Tg}, t ∈ ts → szT t + 1 ≤ szTs ts
  | u :: ts, h => by
    show szT t + 1 ≤ szT u + 1 + szTs ts
    rcases List.mem_cons.mp h with rfl | h
    · omega
    · have := szTs_mem h
      omega
structure Fi (k n m : Nat) (t : Tg) : Prop where
  ok : okT k t
  sz : szT t ≤ n
  dp : dpT t ≤ m
structure Fs (k n m : Nat) (ts : List Tg) : Prop where
  ok : ∀ t ∈ ts, okT k t
  sz : szTs ts ≤ n
  dp : ∀ t ∈ ts, dpT t ≤ m
mutual
theorem okT_mono {k j : Nat} (h : k ≤ j) : ∀ {t : Tg}, okT k t → okT j t
  | .int i, e => by
    unfold okT at e ⊢
    exact Nat.lt_of_lt_of_le e (Nat.pow_le_pow_right (by decide) h)
  | .num x, e => by
    unfold okT at e ⊢
    exact e.mono h
  | .str z, e => by unfold okT at e ⊢; exact e
  | .tup ts, e => by unfold okT at e ⊢; exact okTs_mono h e
  | .lst ts, e => by unfold okT at e ⊢; exact okTs_mono h e
  | .non, _ => by unfold okT; trivial
  | .bl _, _ => by unfold okT; trivial
  | .dct, _ => by unfold okT; trivial
theorem okTs_mono {k j : Nat} (h : k ≤ j) : ∀ {ts : List Tg}, okTs k ts → okTs j ts
  | [], _ => trivial
  | t :: ts, e => by
    have e' : okT k t ∧ okTs k ts := e
    exact ⟨okT_mono h e'.1, okTs_mono h e'.2⟩
end
theorem Fi.mono {k n m k' n' m' : Nat} {t : Tg} (h : Fi k n m t) (a : k ≤ k') (b : n ≤ n') (c : m ≤ m') : Fi k' n' m' t := ⟨okT_mono a h.ok, Nat.le_trans h.sz b, Nat.le_trans h.dp c⟩
theorem Fs.mono {k n m k' n' m' : Nat} {ts : List Tg} (h : Fs k n m ts) (a : k ≤ k') (b : n ≤ n') (c : m ≤ m') : Fs k' n' m' ts := ⟨fun t ht => okT_mono a (h.ok t ht), Nat.le_trans h.sz b, fun t ht => Nat.le_trans (h.dp t ht) c⟩
theorem Fs.tup {k n m : Nat} {ts : List Tg} (h : Fs k n m ts) : Fi k n (m + 1) (.tup ts) := ⟨by unfold okT; exact okTs_iff.mpr h.ok, h.sz, by show dpTs ts + 1 ≤ m + 1; have := dpTs_iff.mpr h.dp; omega⟩
theorem Fs.lst {k n m : Nat} {ts : List Tg} (h : Fs k n m ts) : Fi k n (m + 1) (.lst ts) := ⟨by unfold okT; exact okTs_iff.mpr h.ok, h.sz, by show dpTs ts + 1 ≤ m + 1; have := dpTs_iff.mpr h.dp; omega⟩
theorem Fi.parts {k n m : Nat} {ts : List Tg} (h : Fi k n m (.tup ts)) : ∃ j, m = j + 1 ∧ Fs k n j ts := by
  have d : dpTs ts + 1 ≤ m := h.dp
  refine ⟨m - 1, by omega, ?_, h.sz, dpTs_iff.mp (by omega)⟩
  have := h.ok
  unfold okT at this
  exact okTs_iff.mp this
theorem Fs.nil {k n m : Nat} : Fs k n m [] := ⟨fun t h => (nomatch h), Nat.zero_le _, fun t h => (nomatch h)⟩
theorem Fs.one {k n m : Nat} {t : Tg} (h : Fi k n m t) : Fs k (n + 1) m [t] := ⟨fun u hu => by rw [List.mem_singleton.mp hu]; exact h.ok, by show szT t + 1 + 0 ≤ n + 1; have := h.sz; omega, fun u hu => by rw [List.mem_singleton.mp hu]; exact h.dp⟩
theorem Fs.app {k n n' m : Nat} {a b : List Tg} (h : Fs k n m a) (g : Fs k n' m b) : Fs k (n + n') m (a ++ b) := ⟨fun t ht => (List.mem_append.mp ht).elim (h.ok t) (g.ok t), by rw [szTs_app]; exact Nat.add_le_add h.sz g.sz, fun t ht => (List.mem_append.mp ht).elim (h.dp t) (g.dp t)⟩
theorem Fs.rev {k n m : Nat} {a : List Tg} (h : Fs k n m a) : Fs k n m a.reverse := ⟨fun t ht => h.ok t (List.mem_reverse.mp ht), by rw [szTs_rev]; exact h.sz, fun t ht => h.dp t (List.mem_reverse.mp ht)⟩
/-- a part and the rest -/
theorem Fs.cut {k n m : Nat} {ts : List Tg} (h : Fs k n m ts) (a : Nat) : ∃ i j, Fs k i m (ts.take a) ∧ Fs k j m (ts.drop a) ∧ i + j ≤ n := by
  refine ⟨szTs (ts.take a), szTs (ts.drop a), ⟨fun t ht => h.ok t (List.mem_of_mem_take ht), Nat.le_refl _, fun t ht => h.dp t (List.mem_of_mem_take ht)⟩, ⟨fun t ht => h.ok t (List.mem_of_mem_drop ht), Nat.le_refl _, fun t ht => h.dp t (List.mem_of_mem_drop ht)⟩, ?_⟩
  rw [← szTs_app, List.take_append_drop]
  exact h.sz
theorem Fs.at_ {k n m : Nat} {ts : List Tg} (h : Fs k n m ts) {i : Nat} {t : Tg} (e : ts[i]? = some t) : Fi k n m t := by
  have hm := List.mem_of_getElem? e
  exact ⟨h.ok t hm, by have := szTs_mem hm; have := h.sz; omega, h.dp t hm⟩
/-- the first ones, one of them, the later ones -/
theorem Fs.cut3 {k n m a : Nat} {ts : List Tg} {x : Tg} (h : Fs k n m ts) (hx : ts[a]? = some x) : ∃ i j l, Fs k i m (ts.take a) ∧ Fi k j m x ∧ Fs k l m (ts.drop (a + 1)) ∧ i + (j + 1) + l ≤ n := by
  have hm := List.mem_of_getElem? hx
  have al : a < ts.length := (List.getElem?_eq_some_iff.mp hx).1
  have ed : ts.drop a = x :: ts.drop (a + 1) := by
    rw [List.drop_eq_getElem_cons al]
    rw [(List.getElem?_eq_some_iff.mp hx).2]
  obtain ⟨i, j, f1, f2, le⟩ := h.cut a
  have e2 : szT x + 1 + szTs (ts.drop (a + 1)) ≤ j := by
    have := f2.sz
    rw [ed] at this
    exact this
  exact ⟨i, szT x, szTs (ts.drop (a + 1)), f1, ⟨h.ok x hm, Nat.le_refl _, h.dp x hm⟩, ⟨fun t ht => h.ok t (List.mem_of_mem_drop ht), Nat.le_refl _, fun t ht => h.dp t (List.mem_of_mem_drop ht)⟩, by omega⟩
end My

namespace My
open PySem PySem.Spec PyProof.Rows L2 PySem.Builtin TL
/-! ### repr of things of any kind, own objects with an own __repr__ among them -/
theorem lloop_depth {A : Around} {us : List Value} : (A.under (.builtin "list.__repr__.loop" ⟨us, []⟩)).depth ≤ A.depth + 1 ∧ (A.under (.builtin "list.__repr__.loop" ⟨us, []⟩)).handled = A.handled ∧ (A.under (.builtin "list.__repr__.loop" ⟨us, []⟩)).frames = A.frames := by
  refine ⟨?_, ?_, ?_⟩
  · simp [Around.under, Code.weight, Code.isCreation, Code.isGuard, Code.isCaller, Code.frames, Code.isFrame]
    try (split <;> omega)
  · first | rfl | simp [Around.under]
  · first | rfl | simp [Around.under, Code.envs, pushEnvs]
theorem room_lloop {n : Nat} {A : Around} {us : List Value} (r : Room (n + 1) A) : Room n (A.under (.builtin "list.__repr__.loop" ⟨us, []⟩)) := by
  obtain ⟨d, h, _⟩ := @lloop_depth A us
  refine ⟨h.trans r.hd, ?_, ?_⟩
  · have := r.dp; omega
  · have := r.un
    rw [units_under_list_loop]
    omega
section
variable {X : Cx} {pins : List (Addr × Obj)} {σ : L2.St} {H : Hp} {s : Shared}
theorem dict_none (I : Inv X pins σ H s) {p : Addr} (h : H p = some (.dK [])) : ∃ (o : Obj) (n : Nat), s.heap.get? p = some o ∧ o.cls = .type "dict" ∧ o.data = .dict #[] n ∧ (p == sysModules) = false := by
  obtain ⟨_, hs, vs, kv, dd⟩ := dk_of I.hok h
  cases kv
  obtain ⟨o, es, ep, ho, hc, hd, _, hp, _⟩ := dd
  obtain ⟨l⟩ := es
  have hz := hp.length
  have : l = [] := List.eq_nil_of_length_eq_zero (by simpa using hz)
  subst this
  exact ⟨o, ep, ho, hc.1, hd, hs⟩
end
mutual
def shT (nt : Rat → Str) : Tg → Str
  | .non => ("None" : String)
  | .bl b => if b = true then Str.ofString "True" else Str.ofString "False"
  | .int i => ((toString i : String) : Str)
  | .str z => reprText z
  | .num x => nt x
  | .tup ts => tupleText (shTs nt ts)
  | .lst ts => listText (shTs nt ts)
  | .dct => dictText []
def shTs (nt : Rat → Str) : List Tg → List Str
  | [] => []
  | t :: ts => shT nt t :: shTs nt ts
end
theorem shTs_len (nt : Rat → Str) : ∀ ts : List Tg, (shTs nt ts).length = ts.length
  | [] => rfl
  | t :: ts => by
    show (shTs nt ts).length + 1 = ts.length + 1
    rw [shTs_len nt ts]
/-! one thing is one thing -/
theorem nf_inj {x y : Rat} (h : nf x = nf y) : x = y := by
  unfold nf at h
  have h1 : V.int x.num = V.int y.num := by
    have := congrArg (fun l => (l.map Prod.snd)[0]?) h
    simpa using this
  have h2 : V.int (x.den : Int) = V.int (y.den : Int) := by
    have := congrArg (fun l => (l.map Prod.snd)[1]?) h
    simpa using this
  injection h1 with h1
  injection h2 with h2
  exact Rat.ext h1 (by omega)
theorem num_det {C : Addr} {H : Hp} {p : Addr} {x y : Rat} (h : NumAt C H p x) (g : NumAt C H p y) : x = y := by
  obtain ⟨a, e⟩ := h
  obtain ⟨b, f⟩ := g
  rw [e] at f
  injection f with f
  injection f with _ _ f
  exact nf_inj f
mutual
theorem TgAt.det {C d : Addr} {H : Hp} : ∀ {v : V} {x y : Tg}, TgAt C d H v x → TgAt C d H v y → x = y
  | _, _, _, .non, h => by cases h; rfl
  | _, _, _, .bl _, h => by cases h; rfl
  | _, _, _, .int _, h => by cases h; rfl
  | _, _, _, .str _, h => by cases h; rfl
  | _, _, _, .num hn, h => by
    obtain ⟨dx, hp⟩ := id hn
    cases h with
    | num hq => rw [num_det hn hq]
    | tup hq b => rw [hp] at hq; cases hq
    | lst _ hq _ => rw [hp] at hq; cases hq
    | dct hq => rw [hp] at hq; cases hq
  | _, _, _, .tup hp a, h => by
    cases h with
    | num hq => obtain ⟨dx, hq⟩ := hq; rw [hp] at hq; cases hq
    | tup hq b =>
      rw [hp] at hq
      injection hq with hq
      injection hq with hq
      subst hq
      rw [TgAll.det a b]
    | lst _ hq _ => rw [hp] at hq; cases hq
    | dct hq => rw [hp] at hq; cases hq
  | _, _, _, .lst _ hp a, h => by
    cases h with
    | num hq => obtain ⟨dx, hq⟩ := hq; rw [hp] at hq; cases hq
    | tup hq b => rw [hp] at hq; cases hq
    | lst _ hq b =>
      rw [hp] at hq
      injection hq with hq
      injection hq with hq
      subst hq
      rw [TgAll.det a b]
    | dct hq => rw [hp] at hq; cases hq
  | _, _, _, .dct hp, h => by
    cases h with
    | num hq => obtain ⟨dx, hq⟩ := hq; rw [hp] at hq; cases hq
    | tup hq b => rw [hp] at hq; cases hq
    | lst _ hq b => rw [hp] at hq; cases hq
    | dct hq => rfl
theorem TgAll.det {C d : Addr} {H : Hp} : ∀ {vs : List V} {xs ys : List Tg}, TgAll C d H vs xs → TgAll C d H vs ys → xs = ys
  | _, _, _, .nil, h => by cases h; rfl
  | _, _, _, .cons a b, h => by
    cases h with
    | cons a' b' => rw [TgAt.det a a', TgAll.det b b']
end
/-- no thing of this depth or less is under way -/
def ClT (g : List Code) (C d : Addr) (H : Hp) (n : Nat) : Prop := ∀ b y, TgAt C d H (.ref b) y → dpT y ≤ n → Clear g b
theorem ClT.down {g : List Code} {C d a : Addr} {H : Hp} {n : Nat} {x : Tg} {id : String} {rest : List Value} (h : ClT g C d H n) (ha : TgAt C d H (.ref a) x) (hx : dpT x ≤ n) {m : Nat} (hm : m < dpT x) : ClT (.builtin id ⟨.ref a :: rest, []⟩ :: g) C d H m := fun b y hb hy =>
  (h b y hb (by omega)).cons (a := a) fun e => by
    subst e
    have := TgAt.det ha hb
    subst this
    omega
section
variable {X : Cx} {pins : List (Addr × Obj)} {σ : L2.St} {H : Hp} {C d : Addr}
def ShQ (X : Cx) (σ : L2.St) (C d : Addr) (H : Hp) (m n : Nat) (u : Value) (t : Str) : Prop := ∀ (pins : List (Addr × Obj)) (base : Nat) (A : Around) (g : List Code) (s : Shared) (R : Str → Shared → Prop), base + t.length ≤ sizeLine → A.guards = some g → ClT g C d H n → Room m A → A.frames = X.A.frames → Inv X pins σ H s →
  (∀ s2, Inv X pins σ H s2 → R t s2) → wpAny (model X.prog X.w) A (pyReprUnder base u) R X.xe s
theorem ShQ.mono {m m' n n' : Nat} {u : Value} {t : Str} (h : ShQ X σ C d H m n u t) (a : m ≤ m') (b : n ≤ n') : ShQ X σ C d H m' n' u t :=
  fun pins base A g s R hz hg hcl hr fr I q => h pins base A g s R hz hg (fun c y hc hy => hcl c y hc (Nat.le_trans hy b)) (hr.mono a) fr I q
theorem shq_fold {m n : Nat} {A : Around} {g : List Code} (hg : A.guards = some g) (hcl : ClT g C d H n) (hr : Room m A) (fr : A.frames = X.A.frames) : ∀ (l : List Value) (ts : List Str) (acc : Array Str) (k : Nat) (s : Shared) (R : (Array Str × Nat) → Shared → Prop), ts.length = l.length → (∀ (i : Nat) (u : Value) (t : Str), l[i]? = some u → ts[i]? = some t → ShQ X σ C d H m n u t) → k + piled ts ≤ sizeLine → Inv X pins σ H s →
    (∀ s2, Inv X pins σ H s2 → R ⟨acc ++ ts.toArray, k + piled ts⟩ s2) → wpAny (model X.prog X.w) A (forIn l (⟨acc, k⟩ : (Array Str × Nat)) tupBody) R X.xe s
  | [], [], acc, k, s, R, _, _, _, I, q => by
    rw [List.forIn_nil]
    exact wpAny_pure (by simpa [piled] using q s I)
  | [], _ :: _, _, _, _, _, e, _, _, _, _ => by cases e
  | _ :: _, [], _, _, _, _, e, _, _, _, _ => by cases e
  | u :: l, t :: ts, acc, k, s, R, e, hs, hz, I, q => by
    rw [piled_cons] at hz
    rw [List.forIn_cons]
    refine wpAny_bind (wpAny_bind (hs 0 u t rfl rfl pins (k + 1) A g s _ (by omega) hg hcl hr fr I fun s2 I2 => wpAny_pure ?_))
    refine shq_fold hg hcl hr fr l ts (acc.push t) (k + (t.length + 2)) s2 R (by simpa using e) (fun i u' t' h1 h2 => hs (i + 1) u' t' h1 h2) (by omega) I2 fun s3 I3 => ?_
    have := q s3 I3
    rw [piled_cons] at this
    have ee : k + (t.length + 2) + piled ts = k + (t.length + 2 + piled ts) := by omega
    rw [ee]
    simpa using this
/-- the rest of a tuple's display -/
theorem shq_rest {a : Addr} {xs : List V} {ts : List Str} {m n base : Nat} {A : Around} {g : List Code} {s : Shared} {id : String} {rest : List Value} {R : Result → Shared → Prop} (I : Inv X pins σ H s) (ha : SqT X.K H a xs) (tl : ts.length = xs.length)
    (hs : ∀ (i : Nat) (v : V) (t : Str), xs[i]? = some v → ts[i]? = some t → ∀ u, RelV v u → ShQ X σ C d H m n u t) (hg : A.guards = some g) (hca : Clear g a) (hcl : ClT (.builtin id ⟨.ref a :: rest, []⟩ :: g) C d H n)
    (gd : (Code.builtin id ⟨.ref a :: rest, []⟩).isGuard = true) (hr : Room m (A.under (.builtin id ⟨.ref a :: rest, []⟩))) (fr : (A.under (.builtin id ⟨.ref a :: rest, []⟩)).frames = X.A.frames) (hz : base + (tupleText ts).length ≤ sizeLine)
    (q : ∀ s2 u, Inv X pins σ H s2 → R (.ok (.ret (.str (tupleText ts) u))) s2) :
    wpOwn (model X.prog X.w) A (.builtin id ⟨.ref a :: rest, []⟩) (Builtin.tupleReprAt base ⟨[.ref a], []⟩) (fun fin s' => match fin with | .done f => R (.ok f) s' | .again c' => c'.quiet = true ∧ codeAny (model X.prog X.w) A c' R s') (fun e s' => X.xe e s') s := by
  obtain ⟨its, rv, ⟨o, ho, oc, k, od⟩, _⟩ := I.tuple ha
  have hp := piled_le_tupleText ts
  have ne : (g.any fun c => tupGuardF (.ref a) (c, default)) = false := by
    rw [List.any_eq_false]
    intro c hc
    rw [tupGuardF_of_clear hca c hc]
    decide
  rw [tuple_repr_tree, tupleReprUnderWay_eq]
  refine wpOwn_bind (wpOwn_stackTailAny hg (tupGuardF_off _) (tupGuardF_pos _) ?_)
  rw [ne]
  refine wpOwn_of_wpAny ?_
  show wpAny _ _ (tupleReprRest base (.ref a)) _ _ s
  unfold tupleReprRest Builtin.Tuple.tupleItemsOf
  refine wpAny_bind (wpAny_bind (wpAny_seqItems ho od (wpAny_pure ?_)))
  rw [← Array.forIn_toList]
  have il : ts.length = its.length := by rw [tl]; exact rv.length
  refine wpAny_bind (shq_fold (guards_under_guard gd hg) hcl hr fr _ ts _ _ s _ (by simpa using il) (fun i u t hu ht => ?_) (by omega) I fun s2 I2 => ?_)
  · have hu' : its[i]? = some u := by simpa using hu
    have ix : i < xs.length := by
      have := (List.getElem?_eq_some_iff.mp hu').1
      have := rv.length
      omega
    have hx := List.getElem?_eq_getElem ix
    obtain ⟨u2, hu2, r2⟩ := rv.get hx
    rw [hu'] at hu2
    obtain rfl := Option.some.inj hu2
    exact hs i _ t hx ht u r2
  · refine wpAny_bind (wpAny_mkStr (wpAny_pure ?_) (by
      have : (tupleText ts).length ≤ sizeLine := by omega
      simpa [tupleText, il] using this))
    have := q { s2 with toks := s2.toks + 1 } s2.toks (I2.tok _)
    simpa [tupleText, il] using this
/-- an address that nothing speaks of -/
structure PFree (X : Cx) (pins : List (Addr × Obj)) (H : Hp) (P : Addr) : Prop where
  hn : H P = none
  L : P ≠ X.env.locals
  fs : P ∉ X.fs
  new : X.s_0.heap.objs.size ≤ P
  cell : ∀ x c, X.env.cells.lookup x = some c → c ≠ P
  pin : ∀ p ∈ X.pn ++ pins, p.1 ≠ P
theorem PFree.of {s : Shared} (I : Inv X pins σ H s) : PFree X pins H s.heap.objs.size where
  hn := I.hok.fresh (Nat.le_refl _)
  L := Ne.symm (Nat.ne_of_lt I.lt)
  fs := I.nofs (Nat.le_refl _)
  new := I.sz
  cell := fun x c e => by
    obtain ⟨v, o, ho, _⟩ := I.cell x c e
    exact Nat.ne_of_lt (Heap.lt_size ho)
  pin := fun p hp => Nat.ne_of_lt (Heap.lt_size (I.pin p hp).1)
abbrev lobj (acc : Array Value) (c : Nat) : Obj := { cls := .type "list", dict := none, data := .seq acc c, slots := #[] }
theorem inv_pin {P : Addr} {o : Obj} {s : Shared} (pf : PFree X pins H P) (I : Inv X pins σ H s) (h : s.heap.get? P = some o) (nc : ∀ v, o.data ≠ .cell v) : Inv X ((P, o) :: pins) σ H s :=
  I.pins_of fun p hp => by
    rcases List.mem_cons.mp hp with rfl | hp
    · exact ⟨h, pf.hn, pf.L, pf.fs, nc⟩
    · exact I.pin p (List.mem_append_right _ hp)
theorem inv_unpin {p : Addr × Obj} {s : Shared} (I : Inv X (p :: pins) σ H s) : Inv X pins σ H s :=
  I.pins_of fun q hq => I.pin q (List.mem_append_right _ (List.mem_cons_of_mem _ hq))
theorem shq_loop {A : Around} {R : Result → Shared → Prop} {a P : Addr} {xs : List V} {ts : List Str} {m n base : Nat} {g : List Code} (hg : A.guards = some g) (ha : SqL X.K H a xs) (tl : ts.length = xs.length)
    (hcl : ∀ rest, ClT (.builtin "list.__repr__.loop" ⟨.ref a :: rest, []⟩ :: g) C d H n) (hr : Room (m + 1) A) (fr : A.frames = X.A.frames)
    (hs : ∀ (i : Nat) (v : V) (t : Str), xs[i]? = some v → ts[i]? = some t → ∀ u, RelV v u → ShQ X σ C d H m n u t)
    (pf : PFree X pins H P) (hsz : base + (listText ts).length ≤ sizeLine) (q : ∀ s2 u, Inv X pins σ H s2 → R (.ok (.ret (.str (listText ts) u))) s2) (xe : ∀ e s', X.xe e s' → R (.error e) s') :
    ∀ (k i : Nat) (s : Shared) (acc : Array Value) (c : Nat) (done : List (Str × Tok)), xs.length - i = k → i ≤ xs.length → Inv X ((P, lobj acc c) :: pins) σ H s → acc.toList = strValues done → done.map (·.1) = ts.take i →
    codeAny (model X.prog X.w) A (.builtin "list.__repr__.loop" ⟨[.ref a, rawInt i, .ref P, rawInt ((base + piled (ts.take i) : Nat) : Int)], []⟩) R s := by
  have hX : (listText ts).length = (textFrom 0 "[" ts).length + 1 := by
    show (textFrom 0 "[" ts ++ "]").length = _
    rw [strLen_append]; rfl
  have hL := textFrom_len ts 0 "["
  have hsz2 : ∀ t ∈ ts, t.length ≤ sizeLine := fun t ht => by
    have h2 := hL.2.1 t ht
    omega
  have hsz1 : ts.length ≤ sizeLine := by
    have h1 := hL.1
    rw [if_neg (Nat.lt_irrefl 0)] at h1
    omega
  have hsz3 : (listText ts).length ≤ sizeLine := by omega
  have hp3 := piled_le_listText ts
  intro k
  induction k with
  | zero =>
    intro i s acc c done hk hi I hacc hdone
    have hin : i = xs.length := by omega
    obtain ⟨its, rv, ⟨o, no, ho, hc, _, hd⟩, _⟩ := I.list ha
    have hP : s.heap.get? P = some (lobj acc c) := (I.pin (P, lobj acc c) (List.mem_append_right _ (List.mem_cons_self ..))).1
    refine codeAny_builtin PySem.F.entry_list_repr_loop ?_
    show wpAny _ _ («list.__repr__.loop» ⟨[.ref a, .int i 0, .ref P, .int ((base + piled (ts.take i) : Nat) : Int) 0], []⟩) _ _ s
    rw [repr_loop_tree]
    refine wpAny_bind (wpAny_listItems ho hd ?_)
    have hnone : its.toArray[(i : Int).toNat]? = none := by
      have := rv.length
      simp [hin, this]
    simp only [hnone]
    unfold reprEnd
    refine wpAny_bind (wpAny_listItems hP rfl ?_)
    rw [hacc, repr_fold]
    refine wpAny_bind (wpAny_pure ?_)
    have hall : done.map (·.1) = ts := by rw [hdone, hin, ← tl, List.take_length]
    rw [hall]
    refine wpAny_bind (wpAny_mkStr (wpAny_pure ?_) hsz3)
    exact q _ _ ((inv_unpin I).tok _)
  | succ k ih =>
    intro i s acc c done hk hi I hacc hdone
    have hlt : i < xs.length := by omega
    have hv : xs[i]? = some xs[i] := List.getElem?_eq_getElem hlt
    have ht : ts[i]? = some (ts[i]'(by omega)) := List.getElem?_eq_getElem (by omega)
    generalize ts[i]'(by omega) = t at ht
    obtain ⟨its, rv, ⟨o, no, ho, hc, _, hd⟩, _⟩ := I.list ha
    obtain ⟨u, hu, ru⟩ := rv.get hv
    have hp1 := piled_take_succ ht
    have hp2 := piled_take_le ts (i + 1)
    refine codeAny_builtin PySem.F.entry_list_repr_loop ?_
    show wpAny _ _ («list.__repr__.loop» ⟨[.ref a, .int i 0, .ref P, .int ((base + piled (ts.take i) : Nat) : Int) 0], []⟩) _ _ s
    rw [repr_loop_tree]
    refine wpAny_bind (wpAny_listItems ho hd ?_)
    have hsome : its.toArray[(i : Int).toNat]? = some u := by simpa using hu
    simp only [hsome]
    rw [Int.toNat_natCast]
    have xe' : (fun e s' => R (.error e) s') = fun e s' => R (.error e) s' := rfl
    refine wpAny_bind (wpAny_holding (wpAny_mono (hs i _ t hv ht u ru _ (base + piled (ts.take i) + 1) _ _ s (fun t' s2 => t' = t ∧ Inv X ((P, lobj acc c) :: pins) σ H s2) (by omega) (guards_under_guard (isGuard_list_loop _) hg) (hcl _) (room_lloop hr) ((@lloop_depth A _).2.2.trans fr) I fun s2 I2 => ⟨rfl, I2⟩) ?_ xe))
    rintro t' s2 ⟨rfl, I2⟩
    have hP : s2.heap.get? P = some (lobj acc c) := (I2.pin (P, lobj acc c) (List.mem_append_right _ (List.mem_cons_self ..))).1
    refine wpAny_bind (wpAny_mkStr ?_ (hsz2 _ (List.mem_of_getElem? ht)))
    refine wpAny_bind ?_
    show wpAny _ _ (updateSeq P _) _ _ _
    have hasz : acc.size ≤ sizeLine := by
      have e1 : acc.toList.length = acc.size := by simp
      have e2 : (strValues done).length = done.length := by simp [strValues]
      have e3 : done.length = (ts.take i).length := by rw [← hdone, List.length_map]
      have e4 : (ts.take i).length ≤ i := by rw [List.length_take]; omega
      rw [hacc] at e1; omega
    refine wpAny_updateSeq hP rfl (wpAny_pure ⟨PySem.F.quiet_list_repr_loop _, ?_⟩) hasz
    have e1 : ((i : Int) + 1) = ((i + 1 : Nat) : Int) := by omega
    have e2 : base + piled (ts.take i) + (t'.length + 2) = base + piled (ts.take (i + 1)) := by omega
    rw [e1, e2]
    have I3 : Inv X pins σ H { s2 with heap := s2.heap.update P (Obj.mapSeq (·.push (.str t' s2.toks))), toks := s2.toks + 1 } :=
      (inv_unpin I2).turned (it := P) (fun b o hb e => (Heap.get?_update_other _ _ (Ne.symm hb)).trans e) pf.hn pf.L (.inr pf.new) pf.cell pf.pin
    refine ih (i + 1) _ (acc.push (.str t' s2.toks)) _ (done ++ [(t', s2.toks)]) (by omega) hlt (inv_pin pf I3 (Heap.get?_update_self _ hP rfl) fun v z => by cases z) (by simp [hacc, strValues]) (by simp [List.take_add_one, ht, hdone])
end
end My
namespace My
open PySem PySem.Spec PyProof.Rows L2 PySem.Builtin TL
section
variable {X : Cx} {σ : L2.St} {H : Hp} {C d f : Addr} {fd : FuncData} {ps : List Str} {n0 : Nat} {sp : Sp} {nt : Rat → Str} {k : Nat}
theorem shs_get {nt : Rat → Str} {xs : List Tg} {i : Nat} {t : Str} (h : (shTs nt xs)[i]? = some t) : ∃ x, xs[i]? = some x ∧ t = shT nt x := by
  induction xs generalizing i with
  | nil => simp [shTs] at h
  | cons x xs ih =>
    cases i with
    | zero =>
      have h' : some (shT nt x) = some t := h
      exact ⟨x, rfl, (Option.some.inj h').symm⟩
    | succ i => exact ih (i := i) h
theorem dpTs_get {xs : List Tg} {x : Tg} (h : x ∈ xs) : dpT x ≤ dpTs xs := dpTs_iff.mp (Nat.le_refl _) x h
mutual
theorem shq_T (F : FnOk X.prog X.w X.K X.mg X.base CX0 n0 f fd ps sp) (hs : PySem.W.findIn X.K (.ref C) "__repr__" = some (some (.ref f))) (hf : PySem.W.isFn X.K (.ref f) = true) (hb : Binds X.K fd ps [])
    (own : ∀ (p : Addr) (x : Rat) (R : VK), NumAt C H p x → Bd k x → R (.str (nt x)) H → sp [.ref p] H R E0) (hk : k ≤ 1900) : ∀ (x : Tg) (v : V) (u : Value), TgAt C d H v x → RelV v u → okT k x → ShQ X σ C d H (n0 + dpT x) (dpT x) u (shT nt x)
  | .non, _, _, h, r, _ => by
    cases h; cases r
    intro pins base A g s R hz hg hcl hr fr I q
    exact ReprIs.none base hz A X.xe s _ fun tk => q _ (I.tok _)
  | .bl b, _, _, h, r, _ => by
    cases h; cases r
    intro pins base A g s R hz hg hcl hr fr I q
    exact ReprIs.bool b base hz A X.xe s _ fun tk => q _ (I.tok _)
  | .int i, _, _, h, r, hx => by
    cases h
    obtain ⟨t, rfl⟩ := r
    intro pins base A g s R hz hg hcl hr fr I q
    unfold okT at hx
    have l : i.natAbs.log2 < 1920 := by
      by_cases z : i.natAbs = 0
      · rw [z]; decide
      · exact Nat.lt_of_lt_of_le (Nat.log2_lt z |>.mpr hx) (by omega)
    exact ReprIs.int t l base hz A X.xe s _ fun tk => q _ (I.tok _)
  | .str z, _, _, h, r, _ => by
    cases h
    obtain ⟨t, rfl⟩ := r
    intro pins base A g s R hz hg hcl hr fr I q
    exact ReprIs.str z t (by have : (reprText z).length = (shT nt (.str z)).length := rfl; omega) base hz A X.xe s _ fun tk => q _ (I.tok _)
  | .num x, _, _, h, r, hx => by
    cases h with
    | num hn => ?_
    cases r
    intro pins base A g s R hz hg hcl hr fr I q
    obtain ⟨dx, ha⟩ := id hn
    obtain ⟨_, J1, _⟩ := ins_get I.hok ha
    obtain ⟨_, K1, _⟩ := J1.look
    unfold okT at hx
    have hr' : Room n0 A := hr.mono (by omega)
    refine repr_within (by omega) hr'.units0 I.kIn K1 hs hf (thn (run_one F hb hr' fr I (own _ _ (fun v H' => v = .str (nt x) ∧ H' = H) hn hx ⟨rfl, rfl⟩)) ?_)
    rintro v s2 ⟨x', H2, I2, rx, rfl, rfl⟩
    obtain ⟨tk, rfl⟩ := rx
    exact ⟨nt x, tk, rfl, q s2 I2⟩
  | .tup ts, _, _, h, r, hx => by
    cases h with
    | tup hp ha => ?_
    cases r
    rename_i a vs
    intro pins base A g s R hz hg hcl hr fr I q
    have all := shq_Ts F hs hf hb own hk ts _ ha (by unfold okT at hx; exact hx)
    obtain ⟨its, rv, ⟨o, ho, oc, kk, od⟩, _⟩ := I.tuple (SqT.of hp)
    have ty : s.TypeIs (.ref a) "tuple" := ⟨o, ho, oc⟩
    have me : TgAt C d H (.ref a) (.tup ts) := .tup hp ha
    refine wpAny_pyReprUnder_ref (by omega) (wpAny_pyReprObjUnder_twin (twin := "tuple.__repr__.under") ty PySem.F.slot_tuple_repr rfl hr.units0 ?_)
    refine call_twin_own (PySem.F.quiet_tuple_repr_under _) PySem.F.entry_tuple_repr_under PySem.F.check_tuple_repr_under ty PySem.F.slot_tuple_repr (PySem.F.args_tuple_repr_1 _) ?_
    obtain ⟨_, _, ff⟩ := @under_depth A [.ref a, rawInt base]
    have dp : dpT (.tup ts) = dpTs ts + 1 := rfl
    exact shq_rest (m := n0 + dpTs ts) (n := dpTs ts) (ts := shTs nt ts) (R := callEnd _ X.xe) I (SqT.of hp) (by rw [shTs_len, ha.len]) all hg (hcl a _ me (Nat.le_refl _)) (hcl.down me (Nat.le_refl _) (by omega)) (isGuard_tuple_repr_under _) (room_under (by rw [dp] at hr; exact hr)) (ff.trans fr) hz fun s2 u I2 => ⟨⟨_, _, rfl⟩, _, _, rfl, q s2 I2⟩
  | .lst ts, _, _, h, r, hx => by
    cases h with
    | lst nd hp ha => ?_
    cases r
    rename_i a vs
    intro pins base A g s R hz hg hcl hr fr I q
    have all := shq_Ts F hs hf hb own hk ts _ ha (by unfold okT at hx; exact hx)
    obtain ⟨its, rv, ⟨o, n, ho, oc, _, od⟩, _⟩ := I.list (SqL.of hp)
    have me : TgAt C d H (.ref a) (.lst ts) := .lst nd hp ha
    have dp : dpT (.lst ts) = dpTs ts + 1 := rfl
    cases its with
    | nil =>
      have e0 : vs = [] := List.length_eq_zero_iff.mp rv.length
      subst e0
      cases ha
      exact (ReprK.listEmpty (prog := X.prog) (w := X.w) (as := []) (d := 0) ho oc od) base hz A g X.xe s _ hg (fun b hb => nomatch hb) (by have := hr.units0; omega) (fun _ _ e => e) fun h' tk hk' => q _ (I.kept hk')
    | cons y l =>
      have hca := hcl a _ me (Nat.le_refl _)
      have pf := PFree.of I
      refine wpAny_pyReprUnder_ref (by omega) (wpAny_pyReprObjUnder_twin (twin := "list.__repr__.under") ⟨o, ho, oc⟩ PySem.F.slot_list_repr.toG rfl hr.units0 ?_)
      refine call_twin_plain PySem.F.plain_list_repr_under PySem.F.entry_list_repr_under PySem.F.check_list_repr_under ⟨o, ho, oc⟩ PySem.F.slot_list_repr.toG (PySem.F.args_list_repr_1 _) ?_
      refine wpAny_list_repr_head (A := A.in1) hg (fun v rest kw hm => listSameRef_of_ne (hca _ _ _ _ hm)) ho od ?_
      refine wpAny_bind (m := newList []) (wpAny_newObj_type ?_)
      refine wpAny_pure ⟨PySem.F.quiet_list_repr_loop _, ?_⟩
      have I1 : Inv X pins σ H { s with heap := s.heap.push (lobj #[] 0), toks := s.toks } := I.kept (fun b o e => Heap.get?_push_of_some _ e)
      have I2 := inv_pin (o := lobj #[] 0) pf I1 (Heap.get?_push_size _ rfl) fun v z => by cases z
      have go := shq_loop (X := X) (σ := σ) (C := C) (d := d) (A := A) (R := callEnd (fun v s' => (∃ x u, v = .str x u) ∧ ∃ x u, v = .str x u ∧ R x s') X.xe) (m := n0 + dpTs ts) (n := dpTs ts) (base := base) hg (SqL.of hp) (by rw [shTs_len, ha.len]) (fun rest => hcl.down me (Nat.le_refl _) (by omega)) (by rw [dp] at hr; exact hr) fr all pf hz (fun s2 u I2 => ⟨⟨_, _, rfl⟩, _, _, rfl, q s2 I2⟩) (fun e s' he => he) vs.length 0 _ #[] 0 [] (by omega) (Nat.zero_le _) I2 (by simp [strValues]) (by simp)
      exact go
  | .dct, _, _, h, r, _ => by
    cases h with
    | dct hp => ?_
    cases r
    rename_i a
    intro pins base A g s R hz hg hcl hr fr I q
    obtain ⟨o, n, ho, hc, hd, hsys⟩ := dict_none I hp
    have hca := hcl a _ (.dct hp) (Nat.le_refl _)
    exact wpAny_pyReprUnder_ref (by omega) (wpAny_pyReprObjUnder_dictK (as := []) (d := 0) ho hc hd hsys (fun z => nomatch z) .nil hg (fun b hb => by rcases List.mem_cons.mp hb with rfl | hb; exact hca; exact nomatch hb) (by have := hr.un; omega) (fun _ _ e => e) (fun h' u tk hk' => ⟨_, _, rfl, q _ (I.kept hk')⟩) hz)
theorem shq_Ts (F : FnOk X.prog X.w X.K X.mg X.base CX0 n0 f fd ps sp) (hs : PySem.W.findIn X.K (.ref C) "__repr__" = some (some (.ref f))) (hf : PySem.W.isFn X.K (.ref f) = true) (hb : Binds X.K fd ps [])
    (own : ∀ (p : Addr) (x : Rat) (R : VK), NumAt C H p x → Bd k x → R (.str (nt x)) H → sp [.ref p] H R E0) (hk : k ≤ 1900) : ∀ (xs : List Tg) (vs : List V), TgAll C d H vs xs → okTs k xs → ∀ (i : Nat) (v : V) (t : Str), vs[i]? = some v → (shTs nt xs)[i]? = some t → ∀ u, RelV v u → ShQ X σ C d H (n0 + dpTs xs) (dpTs xs) u t
  | [], _, h, _, i, v, t, h1, _, _, _ => by
    cases h
    simp at h1
  | x :: xs, _, h, hx, i, v, t, h1, h2, u, ru => by
    cases h with
    | cons a b => ?_
    have hx' : okT k x ∧ okTs k xs := hx
    have dp : dpTs (x :: xs) = max (dpT x) (dpTs xs) := rfl
    cases i with
    | zero =>
      have h1' := Option.some.inj (show some _ = some v from h1)
      have h2' := Option.some.inj (show some (shT nt x) = some t from h2)
      subst h1' h2'
      exact (shq_T F hs hf hb own hk x _ u a ru hx'.1).mono (by rw [dp]; have := Nat.le_max_left (dpT x) (dpTs xs); omega) (by rw [dp]; exact Nat.le_max_left _ _)
    | succ i =>
      exact (shq_Ts F hs hf hb own hk xs _ b hx'.2 i v t h1 h2 u ru).mono (by rw [dp]; have := Nat.le_max_right (dpT x) (dpTs xs); omega) (by rw [dp]; exact Nat.le_max_right _ _)
end
/-- repr of a tuple of things of any kind -/
def rReprT66 (C : Addr) (sp : Sp) (nt : Rat → Str) (D : Nat) : List V → Hp → VK → Prop := fun xs H Q => ∃ (d p : Addr) (ts : List Tg) (k : Nat), xs = [.ref p] ∧ TgAt C d H (.ref p) (.tup ts) ∧ okTs k ts ∧ k ≤ 1900 ∧ dpTs ts ≤ D ∧
  (∀ (p : Addr) (x : Rat) (R : VK), NumAt C H p x → Bd k x → R (.str (nt x)) H → sp [.ref p] H R E0) ∧ (shT nt (.tup ts)).length ≤ sizeLine ∧ Q (.str (shT nt (.tup ts))) H
theorem call_reprT66 {D : Nat} (hA : X.A.guards = some []) (F : FnOk X.prog X.w X.K X.mg X.base CX0 n0 f fd ps sp) (hs : PySem.W.findIn X.K (.ref C) "__repr__" = some (some (.ref f))) (hf : PySem.W.isFn X.K (.ref f) = true) (hb : Binds X.K fd ps []) (hr : Room (n0 + D + 2) X.A) :
    CallR X (.builtin "repr") (rReprT66 C sp nt D) := by
  rintro pins s σ H xs us Q I r ⟨d, p, ts, k, rfl, ht, ok, hk, hD, own, hz, q⟩
  obtain ⟨u, rfl, rx⟩ := vals1 r
  cases rx
  cases ht with
  | tup hp ha => ?_
  rename_i vs
  have rA : Room (n0 + D + 1) X.A.in1 := hr.in1
  obtain ⟨_, _, ff⟩ := @tup_depth X.A.in1 [.ref p]
  obtain ⟨its, rv, ⟨o, ho, oc, kk, od⟩, _⟩ := I.tuple (SqT.of hp)
  have ty : s.TypeIs (.ref p) "tuple" := ⟨o, ho, oc⟩
  have me : TgAt C d H (.ref p) (.tup ts) := .tup hp ha
  have all := shq_Ts F hs hf hb own hk ts _ ha ok (σ := σ)
  have e : shT nt (.tup ts) = tupleText (shTs nt ts) := rfl
  refine call_repr_slot (by have := rA.un; show X.A.in1.units < _; omega) ty PySem.F.slot_tuple_repr ?_
  refine wpAny_call (codeAny_call_builtin_own (Code.quiet_builtin _ (by decide +kernel)) PySem.F.entry_tuple_repr (PySem.F.slot_tuple_repr.check _ _ _ _ _ _ _ _ ty (PySem.F.args_tuple_repr_1 _) ?_))
  have c0 : ClT [] C d H (dpTs ts + 1) := fun b _ _ _ => Clear.nil b
  exact shq_rest (m := n0 + D) (n := dpTs ts) (base := 0) (ts := shTs nt ts) (R := callEnd _ X.xe) I (SqT.of hp) (by rw [shTs_len, ha.len]) (fun i v t h1 h2 u ru => (all i v t h1 h2 u ru).mono (by omega) (Nat.le_refl _)) hA (Clear.nil p) (c0.down me (Nat.le_refl _) (Nat.lt_succ_self _)) (isGuard_tuple_repr _) (room_tup rA) ff (by rw [← e]; omega) fun s2 u I2 => ⟨_, _, rfl, .str _, H, I2, ⟨_, rfl⟩, q⟩
end
end My

namespace My
open PySem PySem.Spec PyProof.Rows L2
section
variable {X : Cx} {C f : Addr} {fd : FuncData} {ps : List Str} {n : Nat} {sp : Sp}
/-- repr(x), x an object with an own __repr__ -/
def rRepr1 (C : Addr) (sp : Sp) : List V → Hp → VK → Prop := fun xs H Q => ∃ (a dx : Addr) (fs : List (Str × V)), xs = [.ref a] ∧ H a = some (.ins C dx fs) ∧ sp [.ref a] H (fun v H' => ∃ k : Str, v = .str k ∧ Q (.str k) H') E0
theorem call_repr1 (F : FnOk X.prog X.w X.K X.mg X.base CX0 n f fd ps sp) (hs : PySem.W.findIn X.K (.ref C) "__repr__" = some (some (.ref f))) (hf : PySem.W.isFn X.K (.ref f) = true) (hb : Binds X.K fd ps []) (hr : Room (n + 1) X.A) : CallR X (.builtin "repr") (rRepr1 C sp) := by
  rintro pins s σ H xs us Q I r ⟨a, dx, fs, rfl, ha, q⟩
  obtain ⟨u, rfl, rx⟩ := vals1 r
  cases rx
  obtain ⟨_, J1, _⟩ := ins_get I.hok ha
  obtain ⟨_, K1, _⟩ := J1.look
  have r1 : Room n X.A.in1 := hr.in1
  refine Calls.call_function_entry PySem.F.kind_repr PySem.F.plain_repr PySem.F.entry_repr (PySem.F.args_repr1 _) ?_
  unfold Builtin.«repr»
  refine wpAny_bind (m := oneArg "repr" _) (wpAny_pure ?_)
  refine wpAny_bind (m := cRoomFor _ _) (wpAny_cRoomFor r1.units0 ?_)
  unfold specialOf
  refine wpAny_bind (wpAny_bind (K1.type.here ((PySem.W.looks_findIn I.kIn hs).here ?_)))
  refine wpAny_bind (m := callSpecialIfBound? (.ref a) (Str.ofString "__repr__")) (PySem.W.ifBound_K I.kIn K1 hs hf (thn (run_one F hb r1 rfl I q) ?_))
  rintro v s' ⟨z, H', I', rz, k, rfl, qk⟩
  obtain ⟨tk, rfl⟩ := rz
  refine wpAny_bind (wpAny_isInstance (T := "str") (b := true) rfl isSubtype_str_str ?_)
  exact wpAny_pure ⟨_, rfl, .str k, H', I', ⟨_, rfl⟩, qk⟩
end
end My

namespace My
open PySem PySem.Spec PyProof.Rows L2
/-! ### repr of a list of things of any kind; of data, an own object, such a list -/
section
variable {X : Cx} {C f : Addr} {fd : FuncData} {ps : List Str} {sp : Sp} {n0 : Nat} {nt : Rat → Str}
def rReprL66 (C : Addr) (sp : Sp) (nt : Rat → Str) (D : Nat) : List V → Hp → VK → Prop := fun xs H Q => ∃ (d p : Addr) (ts : List Tg) (k : Nat), xs = [.ref p] ∧ TgAt C d H (.ref p) (.lst ts) ∧ ts ≠ [] ∧ okTs k ts ∧ k ≤ 1900 ∧ dpTs ts ≤ D ∧
  (∀ (p : Addr) (x : Rat) (R : VK), NumAt C H p x → Bd k x → R (.str (nt x)) H → sp [.ref p] H R E0) ∧ (shT nt (.lst ts)).length ≤ sizeLine ∧ Q (.str (shT nt (.lst ts))) H
theorem call_reprL66 {D : Nat} (hA : X.A.guards = some []) (F : FnOk X.prog X.w X.K X.mg X.base CX0 n0 f fd ps sp) (hs : PySem.W.findIn X.K (.ref C) "__repr__" = some (some (.ref f))) (hf : PySem.W.isFn X.K (.ref f) = true) (hb : Binds X.K fd ps []) (hr : Room (n0 + D + 2) X.A) :
    CallR X (.builtin "repr") (rReprL66 C sp nt D) := by
  rintro pins s σ H xs us Q I r ⟨d, p, ts, k, rfl, ht, nn, ok, hk, hD, own, hz, q⟩
  obtain ⟨u, rfl, rx⟩ := vals1 r
  cases rx
  cases ht with
  | lst nd hp ha => ?_
  rename_i vs
  have rA : Room (n0 + D + 1) X.A.in1 := hr.in1
  obtain ⟨its, rv, ⟨o, n, ho, oc, _, od⟩, _⟩ := I.list (SqL.of hp)
  have ty : s.TypeIs (.ref p) "list" := ⟨o, ho, oc⟩
  have me : TgAt C d H (.ref p) (.lst ts) := .lst nd hp ha
  have all := shq_Ts F hs hf hb own hk ts _ ha ok (σ := σ)
  cases its with
  | nil =>
    have e0 : vs = [] := List.length_eq_zero_iff.mp rv.length
    subst e0
    cases ha
    exact absurd rfl nn
  | cons y l =>
    have c0 : ClT [] C d H (dpTs ts + 1) := fun b _ _ _ => Clear.nil b
    have pf := PFree.of I
    refine call_repr_slot (by have := rA.un; show X.A.in1.units < _; omega) ty PySem.F.slot_list_repr.toG ?_
    refine wpAny_call (codeAny_call_builtin PySem.F.slot_list_repr.plain PySem.F.entry_list_repr (PySem.F.slot_list_repr.check _ _ _ _ _ _ _ _ ty (PySem.F.args_list_repr_1 _) ?_))
    refine wpAny_list_repr_head (A := X.A.in1.in1) (b := 0) hA (fun v rest kw hm => nomatch hm) ho od ?_
    refine wpAny_bind (m := newList []) (wpAny_newObj_type ?_)
    refine wpAny_pure ⟨PySem.F.quiet_list_repr_loop _, ?_⟩
    have I1 : Inv X pins σ H { s with heap := s.heap.push (lobj #[] 0), toks := s.toks } := I.kept (fun b o e => Heap.get?_push_of_some _ e)
    have I2 := inv_pin (o := lobj #[] 0) pf I1 (Heap.get?_push_size _ rfl) fun v z => by cases z
    have rr : Room (n0 + dpTs ts + 1) X.A.in1 := rA.mono (by omega)
    exact shq_loop (X := X) (σ := σ) (C := C) (d := d) (A := X.A.in1) (g := []) (R := callEnd _ X.xe) (m := n0 + dpTs ts) (n := dpTs ts) (base := 0) hA (SqL.of hp) (by rw [shTs_len, ha.len]) (fun rest => c0.down me (Nat.le_refl _) (by exact Nat.lt_succ_self _)) rr rfl all pf (by have e : shT nt (.lst ts) = listText (shTs nt ts) := rfl; rw [← e]; omega) (fun s2 u I2 => ⟨_, _, rfl, .str _, H, I2, ⟨_, rfl⟩, q⟩) (fun e s' he => he) vs.length 0 _ #[] 0 [] (by omega) (Nat.zero_le _) I2 (by simp [strValues]) (by simp)

/-- of data, of an own object, of a list of things -/
def rReprF (K : PySem.W.Frag) (C : Addr) (sp : Sp) (nt : Rat → Str) (D : Nat) : List V → Hp → VK → Prop := fun xs H Q => rReprA K xs H Q ∨ rRepr1 C sp xs H Q ∨ rReprL66 C sp nt D xs H Q
theorem call_reprF {D : Nat} (hA : X.A.guards = some []) (F : FnOk X.prog X.w X.K X.mg X.base CX0 n0 f fd ps sp) (hs : PySem.W.findIn X.K (.ref C) "__repr__" = some (some (.ref f))) (hf : PySem.W.isFn X.K (.ref f) = true) (hb : Binds X.K fd ps []) (hr : Room (n0 + D + 2) X.A) (hu : X.A.units + 64 < cLine) :
    CallR X (.builtin "repr") (rReprF X.K C sp nt D) := by
  intro pins s σ H xs us Q I r h
  rcases h with h | h | h
  · exact call_reprA hA hu pins s σ H xs us Q I r h
  · exact call_repr1 F hs hf hb (hr.mono (by omega)) pins s σ H xs us Q I r h
  · exact call_reprL66 hA F hs hf hb hr pins s σ H xs us Q I r h
end
end My

namespace My
open PySem L2
section
variable {P : Program} {w : World} {K : PySem.W.Frag} {mg : Str → Option Value} {base : Heap}
/-! ### the kinds of an error -/
theorem r_isErrV {e C : Addr} {l : List (Str × V)} {bs : List (Addr × Obj)} {H : Hp} {Q : VK} {c : V} {cv : Value} {b : Bool} (h : ErrV bs H e C l) (x : ExcC K C) (k : ClsV c cv) (e1 : PySem.W.kitOne K (.ref C) cv = some b) (q : Q (.bl b) H) : rIsErrV K bs [.ref e, c] H Q := ⟨e, C, l, c, cv, b, rfl, h, x, k, e1, q⟩
theorem errV_same {bs : List (Addr × Obj)} {H H' : Hp} {e C : Addr} {l : List (Str × V)} (h : ErrV bs H e C l) (s : Same H H') : ErrV bs H' e C l := h.keep fun b o q _ => s b o q
abbrev k11 (T : Txt w K mg) : List Value := [.ref T.C_NoText, .ref T.C_Unsorted, .ref T.C_NoBottom, .ref T.C_NoCustom, .ref T.C_NoWish, .ref T.C_NoFit, .ref T.C_NoRead, .ref T.C_NoName, .type "ValueError", .type "ArithmeticError", .ref T.C_FigureError]
def spKinds (bs0 : List (Addr × Obj)) (K : PySem.W.Frag) (cs : List Value) : Sp := fun vs H Q _ => ∃ (e C : Addr) (l : List (Str × V)) (bs : List Bool), vs = [.ref e] ∧ ErrV bs0 H e C l ∧ ExcC K C ∧ Kinds K C cs bs ∧
  ∀ (p : Addr) (H' : Hp), Same H H' → H p = none → H' p = some (.lst (bs.map V.bl)) → Q (.ref p) H'
theorem ok_l_kinds (T : Txt w K mg) : FnOk P w K mg base CX0 1 T.f_l_kinds T.fd_l_kinds ["_law_e"] (spKinds [] K (k11 T)) := by
  refine T.F_l_kinds.ok sc_l_kinds (fun vs H Q E h => ?_) (fun cdv A outer s H vs Q E hr h => ?_)
  · obtain ⟨e, C, l, bs, rfl, _⟩ := h
    rfl
  · obtain ⟨e, C, l, bs, rfl, he, EC, kd, k⟩ := h
    unfold Kinds k11 at kd
    cases kd with | cons a1 kd => ?_
    cases kd with | cons a2 kd => ?_
    cases kd with | cons a3 kd => ?_
    cases kd with | cons a4 kd => ?_
    cases kd with | cons a5 kd => ?_
    cases kd with | cons a6 kd => ?_
    cases kd with | cons a7 kd => ?_
    cases kd with | cons a8 kd => ?_
    cases kd with | cons a9 kd => ?_
    cases kd with | cons a10 kd => ?_
    cases kd with | cons a11 kd => ?_
    cases kd
    rename_i b1 b2 b3 b4 b5 b6 b7 b8 b9 b10 b11
    refine ⟨_, (pss_cons (ps_set (i := 1) sc_l_kinds.nd rfl (Or.inl rfl) (pe_lst (pa_cons (pe_callB call_isErrV (by rfl) T.n_isinstance (by decide +kernel) (pa_cons (pv 0) (pa_cons (pe_glob (v := .ref T.C_NoText) (by rfl) T.m_NoText rfl) pa_nil))) (pa_cons (pe_callB call_isErrV (by rfl) T.n_isinstance (by decide +kernel) (pa_cons (pv 0) (pa_cons (pe_glob (v := .ref T.C_Unsorted) (by rfl) T.m_Unsorted rfl) pa_nil))) (pa_cons (pe_callB call_isErrV (by rfl) T.n_isinstance (by decide +kernel) (pa_cons (pv 0) (pa_cons (pe_glob (v := .ref T.C_NoBottom) (by rfl) T.m_NoBottom rfl) pa_nil))) (pa_cons (pe_callB call_isErrV (by rfl) T.n_isinstance (by decide +kernel) (pa_cons (pv 0) (pa_cons (pe_glob (v := .ref T.C_NoCustom) (by rfl) T.m_NoCustom rfl) pa_nil))) pa_nil))))))
 (pss_cons (ps_set (i := 1) sc_l_kinds.nd rfl (Or.inl rfl) (pe_op op_cat (pv 1) (pe_lst (pa_cons (pe_callB call_isErrV (by rfl) T.n_isinstance (by decide +kernel) (pa_cons (pv 0) (pa_cons (pe_glob (v := .ref T.C_NoWish) (by rfl) T.m_NoWish rfl) pa_nil))) (pa_cons (pe_callB call_isErrV (by rfl) T.n_isinstance (by decide +kernel) (pa_cons (pv 0) (pa_cons (pe_glob (v := .ref T.C_NoFit) (by rfl) T.m_NoFit rfl) pa_nil))) (pa_cons (pe_callB call_isErrV (by rfl) T.n_isinstance (by decide +kernel) (pa_cons (pv 0) (pa_cons (pe_glob (v := .ref T.C_NoRead) (by rfl) T.m_NoRead rfl) pa_nil))) (pa_cons (pe_callB call_isErrV (by rfl) T.n_isinstance (by decide +kernel) (pa_cons (pv 0) (pa_cons (pe_glob (v := .ref T.C_NoName) (by rfl) T.m_NoName rfl) pa_nil))) pa_nil)))))))
 (pss_one (ps_ret (pe_op op_cat (pv 1) (pe_lst (pa_cons (pe_callB call_isErrV (by rfl) T.n_isinstance (by decide +kernel) (pa_cons (pv 0) (pa_cons (pe_bltn (v := .ty "ValueError") (by rfl) T.n_ValueError (by decide +kernel) rfl) pa_nil))) (pa_cons (pe_callB call_isErrV (by rfl) T.n_isinstance (by decide +kernel) (pa_cons (pv 0) (pa_cons (pe_bltn (v := .ty "ArithmeticError") (by rfl) T.n_ArithmeticError (by decide +kernel) rfl) pa_nil))) (pa_cons (pe_callB call_isErrV (by rfl) T.n_isinstance (by decide +kernel) (pa_cons (pv 0) (pa_cons (pe_glob (v := .ref T.C_FigureError) (by rfl) T.m_FigureError rfl) pa_nil))) pa_nil))))))))), ?_⟩
    walk_at "rdg"
    refine r_isErrV he EC (.own _) a1 ?_
    walk_at "rdg"
    refine r_isErrV he EC (.own _) a2 ?_
    walk_at "rdg"
    refine r_isErrV he EC (.own _) a3 ?_
    walk_at "rdg"
    refine r_isErrV he EC (.own _) a4 ?_
    walk_at "rdg"
    refine r_new (by show 4 ≤ 1000; decide) fun p1 h1 => ?_
    have s1 := Same.new (o := .lst [.bl b1, .bl b2, .bl b3, .bl b4]) h1
    have g1 := upd_same (H := H) (a := p1) (o := HO.lst [.bl b1, .bl b2, .bl b3, .bl b4])
    have he1 := errV_same he s1
    generalize upd H p1 (.lst [.bl b1, .bl b2, .bl b3, .bl b4]) = H1 at *
    walk_at "rdg"
    refine r_isErrV he1 EC (.own _) a5 ?_
    walk_at "rdg"
    refine r_isErrV he1 EC (.own _) a6 ?_
    walk_at "rdg"
    refine r_isErrV he1 EC (.own _) a7 ?_
    walk_at "rdg"
    refine r_isErrV he1 EC (.own _) a8 ?_
    walk_at "rdg"
    refine r_new (by show 4 ≤ 1000; decide) fun p2 h2 => ?_
    have s2 := Same.new (o := .lst [.bl b5, .bl b6, .bl b7, .bl b8]) h2
    have g2 := upd_same (H := H1) (a := p2) (o := HO.lst [.bl b5, .bl b6, .bl b7, .bl b8])
    have g1' := s2 _ _ g1
    have he2 := errV_same he1 s2
    generalize upd H1 p2 (.lst [.bl b5, .bl b6, .bl b7, .bl b8]) = H2 at *
    walk_at "rdg"
    refine r_cat g1' g2 (by show 4 + 4 ≤ 100000; decide) fun p3 h3 => ?_
    have s3 := Same.new (o := .lst ([.bl b1, .bl b2, .bl b3, .bl b4] ++ [.bl b5, .bl b6, .bl b7, .bl b8])) h3
    have g3 := upd_same (H := H2) (a := p3) (o := HO.lst ([.bl b1, .bl b2, .bl b3, .bl b4] ++ [.bl b5, .bl b6, .bl b7, .bl b8]))
    have he3 := errV_same he2 s3
    generalize upd H2 p3 (.lst ([.bl b1, .bl b2, .bl b3, .bl b4] ++ [.bl b5, .bl b6, .bl b7, .bl b8])) = H3 at *
    walk_at "rdg"
    refine r_isErrV he3 EC (.ty _) a9 ?_
    walk_at "rdg"
    refine r_isErrV he3 EC (.ty _) a10 ?_
    walk_at "rdg"
    refine r_isErrV he3 EC (.own _) a11 ?_
    walk_at "rdg"
    refine r_new (by show 3 ≤ 1000; decide) fun p4 h4 => ?_
    have s4 := Same.new (o := .lst [.bl b9, .bl b10, .bl b11]) h4
    have g4 := upd_same (H := H3) (a := p4) (o := HO.lst [.bl b9, .bl b10, .bl b11])
    have g3' := s4 _ _ g3
    generalize upd H3 p4 (.lst [.bl b9, .bl b10, .bl b11]) = H4 at *
    walk_at "rdg"
    refine r_cat g3' g4 (by show 8 + 3 ≤ 100000; decide) fun p5 h5 => ?_
    have s5 := Same.new (o := .lst (([.bl b1, .bl b2, .bl b3, .bl b4] ++ [.bl b5, .bl b6, .bl b7, .bl b8]) ++ [.bl b9, .bl b10, .bl b11])) h5
    walk_at "rdg"
    have s15 := ((((s1.trans s2).trans s3).trans s4).trans s5)
    refine k p5 _ s15 ?_ upd_same
    cases z : H p5 with
    | none => rfl
    | some o =>
      have q := s4 _ _ (s3 _ _ (s2 _ _ (s1 _ _ z)))
      rw [h5] at q
      cases q
theorem okP_l_kinds (T : Txt w K mg) : FnP P w K mg base 1 T.f_l_kinds T.fd_l_kinds ["_law_e"] (fun p => spKinds [p] K (k11 T)) := by
  refine FnP.by_body T.F_l_kinds sc_l_kinds (fun p vs H Q E h => ?_) (fun cdv A outer s H vs Q p hot hr h => ?_)
  · obtain ⟨e, C, l, bs, rfl, _⟩ := h
    rfl
  · obtain ⟨e, C, l, bs, rfl, he, EC, kd, k⟩ := h
    unfold Kinds k11 at kd
    cases kd with | cons a1 kd => ?_
    cases kd with | cons a2 kd => ?_
    cases kd with | cons a3 kd => ?_
    cases kd with | cons a4 kd => ?_
    cases kd with | cons a5 kd => ?_
    cases kd with | cons a6 kd => ?_
    cases kd with | cons a7 kd => ?_
    cases kd with | cons a8 kd => ?_
    cases kd with | cons a9 kd => ?_
    cases kd with | cons a10 kd => ?_
    cases kd with | cons a11 kd => ?_
    cases kd
    rename_i b1 b2 b3 b4 b5 b6 b7 b8 b9 b10 b11
    refine ⟨_, (pss_cons (ps_set (i := 1) sc_l_kinds.nd rfl (Or.inl rfl) (pe_lst (pa_cons (pe_callB call_isErrV (by rfl) T.n_isinstance (by decide +kernel) (pa_cons (pv 0) (pa_cons (pe_glob (v := .ref T.C_NoText) (by rfl) T.m_NoText rfl) pa_nil))) (pa_cons (pe_callB call_isErrV (by rfl) T.n_isinstance (by decide +kernel) (pa_cons (pv 0) (pa_cons (pe_glob (v := .ref T.C_Unsorted) (by rfl) T.m_Unsorted rfl) pa_nil))) (pa_cons (pe_callB call_isErrV (by rfl) T.n_isinstance (by decide +kernel) (pa_cons (pv 0) (pa_cons (pe_glob (v := .ref T.C_NoBottom) (by rfl) T.m_NoBottom rfl) pa_nil))) (pa_cons (pe_callB call_isErrV (by rfl) T.n_isinstance (by decide +kernel) (pa_cons (pv 0) (pa_cons (pe_glob (v := .ref T.C_NoCustom) (by rfl) T.m_NoCustom rfl) pa_nil))) pa_nil))))))
 (pss_cons (ps_set (i := 1) sc_l_kinds.nd rfl (Or.inl rfl) (pe_op op_cat (pv 1) (pe_lst (pa_cons (pe_callB call_isErrV (by rfl) T.n_isinstance (by decide +kernel) (pa_cons (pv 0) (pa_cons (pe_glob (v := .ref T.C_NoWish) (by rfl) T.m_NoWish rfl) pa_nil))) (pa_cons (pe_callB call_isErrV (by rfl) T.n_isinstance (by decide +kernel) (pa_cons (pv 0) (pa_cons (pe_glob (v := .ref T.C_NoFit) (by rfl) T.m_NoFit rfl) pa_nil))) (pa_cons (pe_callB call_isErrV (by rfl) T.n_isinstance (by decide +kernel) (pa_cons (pv 0) (pa_cons (pe_glob (v := .ref T.C_NoRead) (by rfl) T.m_NoRead rfl) pa_nil))) (pa_cons (pe_callB call_isErrV (by rfl) T.n_isinstance (by decide +kernel) (pa_cons (pv 0) (pa_cons (pe_glob (v := .ref T.C_NoName) (by rfl) T.m_NoName rfl) pa_nil))) pa_nil)))))))
 (pss_one (ps_ret (pe_op op_cat (pv 1) (pe_lst (pa_cons (pe_callB call_isErrV (by rfl) T.n_isinstance (by decide +kernel) (pa_cons (pv 0) (pa_cons (pe_bltn (v := .ty "ValueError") (by rfl) T.n_ValueError (by decide +kernel) rfl) pa_nil))) (pa_cons (pe_callB call_isErrV (by rfl) T.n_isinstance (by decide +kernel) (pa_cons (pv 0) (pa_cons (pe_bltn (v := .ty "ArithmeticError") (by rfl) T.n_ArithmeticError (by decide +kernel) rfl) pa_nil))) (pa_cons (pe_callB call_isErrV (by rfl) T.n_isinstance (by decide +kernel) (pa_cons (pv 0) (pa_cons (pe_glob (v := .ref T.C_FigureError) (by rfl) T.m_FigureError rfl) pa_nil))) pa_nil))))))))), ?_⟩
    walk_at "rdg"
    refine r_isErrV he EC (.own _) a1 ?_
    walk_at "rdg"
    refine r_isErrV he EC (.own _) a2 ?_
    walk_at "rdg"
    refine r_isErrV he EC (.own _) a3 ?_
    walk_at "rdg"
    refine r_isErrV he EC (.own _) a4 ?_
    walk_at "rdg"
    refine r_new (by show 4 ≤ 1000; decide) fun p1 h1 => ?_
    have s1 := Same.new (o := .lst [.bl b1, .bl b2, .bl b3, .bl b4]) h1
    have g1 := upd_same (H := H) (a := p1) (o := HO.lst [.bl b1, .bl b2, .bl b3, .bl b4])
    have he1 := errV_same he s1
    generalize upd H p1 (.lst [.bl b1, .bl b2, .bl b3, .bl b4]) = H1 at *
    walk_at "rdg"
    refine r_isErrV he1 EC (.own _) a5 ?_
    walk_at "rdg"
    refine r_isErrV he1 EC (.own _) a6 ?_
    walk_at "rdg"
    refine r_isErrV he1 EC (.own _) a7 ?_
    walk_at "rdg"
    refine r_isErrV he1 EC (.own _) a8 ?_
    walk_at "rdg"
    refine r_new (by show 4 ≤ 1000; decide) fun p2 h2 => ?_
    have s2 := Same.new (o := .lst [.bl b5, .bl b6, .bl b7, .bl b8]) h2
    have g2 := upd_same (H := H1) (a := p2) (o := HO.lst [.bl b5, .bl b6, .bl b7, .bl b8])
    have g1' := s2 _ _ g1
    have he2 := errV_same he1 s2
    generalize upd H1 p2 (.lst [.bl b5, .bl b6, .bl b7, .bl b8]) = H2 at *
    walk_at "rdg"
    refine r_cat g1' g2 (by show 4 + 4 ≤ 100000; decide) fun p3 h3 => ?_
    have s3 := Same.new (o := .lst ([.bl b1, .bl b2, .bl b3, .bl b4] ++ [.bl b5, .bl b6, .bl b7, .bl b8])) h3
    have g3 := upd_same (H := H2) (a := p3) (o := HO.lst ([.bl b1, .bl b2, .bl b3, .bl b4] ++ [.bl b5, .bl b6, .bl b7, .bl b8]))
    have he3 := errV_same he2 s3
    generalize upd H2 p3 (.lst ([.bl b1, .bl b2, .bl b3, .bl b4] ++ [.bl b5, .bl b6, .bl b7, .bl b8])) = H3 at *
    walk_at "rdg"
    refine r_isErrV he3 EC (.ty _) a9 ?_
    walk_at "rdg"
    refine r_isErrV he3 EC (.ty _) a10 ?_
    walk_at "rdg"
    refine r_isErrV he3 EC (.own _) a11 ?_
    walk_at "rdg"
    refine r_new (by show 3 ≤ 1000; decide) fun p4 h4 => ?_
    have s4 := Same.new (o := .lst [.bl b9, .bl b10, .bl b11]) h4
    have g4 := upd_same (H := H3) (a := p4) (o := HO.lst [.bl b9, .bl b10, .bl b11])
    have g3' := s4 _ _ g3
    generalize upd H3 p4 (.lst [.bl b9, .bl b10, .bl b11]) = H4 at *
    walk_at "rdg"
    refine r_cat g3' g4 (by show 8 + 3 ≤ 100000; decide) fun p5 h5 => ?_
    have s5 := Same.new (o := .lst (([.bl b1, .bl b2, .bl b3, .bl b4] ++ [.bl b5, .bl b6, .bl b7, .bl b8]) ++ [.bl b9, .bl b10, .bl b11])) h5
    walk_at "rdg"
    have s15 := ((((s1.trans s2).trans s3).trans s4).trans s5)
    refine k p5 _ s15 ?_ upd_same
    cases z : H p5 with
    | none => rfl
    | some o =>
      have q := s4 _ _ (s3 _ _ (s2 _ _ (s1 _ _ z)))
      rw [h5] at q
      cases q
end
end My

namespace My
open PySem PySem.Spec PyProof.Rows L2 TL
/-! how long what is shown is -/
theorem rtext_250 {k : Nat} {y : Rat} (b : Bd k y) (h : k ≤ 380) : (RText y).length ≤ 250 := by
  have kk : (2 : Nat) ^ k ≤ 10 ^ 115 := Nat.le_trans (Nat.pow_le_pow_right (by decide) h) (by decide +kernel)
  have l : ∀ i : Int, i.natAbs < 2 ^ k → (TI i).length ≤ 116 := fun i hi => by
    have := signL_len (i := i) (k := 115) (by decide) (Nat.lt_of_lt_of_le hi kk)
    rw [TI_len]
    split at this <;> omega
  have l1 := l y.num b.1
  have l2 := l (y.den : Int) (by rw [Int.natAbs_natCast]; exact b.2)
  unfold RText
  have e1 : ("Number(" : Str).length = 7 := rfl
  have e2 : (", " : Str).length = 2 := rfl
  have e3 : (")" : Str).length = 1 := rfl
  have e0 : Str.empty.length = 0 := rfl
  simp only [Str.length_append, e0, e1, e2, e3]
  omega
mutual
theorem sh_len66 : ∀ x : Tg, okT 380 x → (shT RText x).length + 5 ≤ 2600 * (szT x + 1)
  | .non, _ => by
    show ("None" : Str).length + 5 ≤ 2600 * (0 + 1)
    have : ("None" : Str).length = 4 := rfl
    omega
  | .bl b, _ => by
    show (if b = true then Str.ofString "True" else Str.ofString "False").length + 5 ≤ 2600 * (0 + 1)
    cases b
    · have : (Str.ofString "False").length = 5 := rfl
      show (Str.ofString "False").length + 5 ≤ _
      omega
    · have : (Str.ofString "True").length = 4 := rfl
      show (Str.ofString "True").length + 5 ≤ _
      omega
  | .int i, h => by
    unfold okT at h
    have l : i.natAbs.log2 < 380 := PySem.Flt.log2_lt_of (by decide) h
    have e := int_text_length_le (k := 380) (by decide) l
    show (Str.ofString (toString i)).length + 5 ≤ 2600 * (0 + 1)
    rw [PySem.ofString_length]
    omega
  | .str z, h => by
    unfold okT at h
    have e := StrLaws.reprText_len z h.1
    have := h.2
    show (reprText z).length + 5 ≤ 2600 * (0 + 1)
    omega
  | .num x, h => by
    unfold okT at h
    have := rtext_250 h (by decide)
    show (RText x).length + 5 ≤ 2600 * (0 + 1)
    omega
  | .tup ts, h => by
    have a := sh_lens66 ts (by unfold okT at h; exact h)
    have b := tupleText_len_le (shTs RText ts)
    show (tupleText (shTs RText ts)).length + 5 ≤ 2600 * (szTs ts + 1)
    have c : ((shTs RText ts).map (·.length)).sum + 2 * (shTs RText ts).length = piled (shTs RText ts) := by
      unfold piled
      generalize shTs RText ts = l
      induction l with
      | nil => rfl
      | cons t l ih => simp only [List.map_cons, List.sum_cons, List.length_cons]; omega
    omega
  | .lst ts, h => by
    have a := sh_lens66 ts (by unfold okT at h; exact h)
    have b := listText_len_le (shTs RText ts)
    show (listText (shTs RText ts)).length + 5 ≤ 2600 * (szTs ts + 1)
    have c : ((shTs RText ts).map (·.length)).sum + 2 * (shTs RText ts).length = piled (shTs RText ts) := by
      unfold piled
      generalize shTs RText ts = l
      induction l with
      | nil => rfl
      | cons t l ih => simp only [List.map_cons, List.sum_cons, List.length_cons]; omega
    omega
  | .dct, _ => by
    show (dictText []).length + 5 ≤ 2600 * (0 + 1)
    have : (dictText []).length = 2 := rfl
    omega
theorem sh_lens66 : ∀ xs : List Tg, okTs 380 xs → piled (shTs RText xs) ≤ 2600 * szTs xs
  | [], _ => Nat.zero_le _
  | x :: xs, h => by
    have h' : okT 380 x ∧ okTs 380 xs := h
    have a := sh_len66 x h'.1
    have b := sh_lens66 xs h'.2
    show piled (shT RText x :: shTs RText xs) ≤ 2600 * (szT x + 1 + szTs xs)
    rw [piled_cons]
    omega
end
theorem szTs_le {n : Nat} : ∀ {xs : List Tg}, (∀ x ∈ xs, szT x ≤ n) → szTs xs ≤ xs.length * (n + 1)
  | [], _ => Nat.zero_le _
  | x :: xs, h => by
    have a := h x (List.mem_cons_self ..)
    have b := szTs_le (xs := xs) fun y hy => h y (List.mem_cons_of_mem _ hy)
    show szT x + 1 + szTs xs ≤ (xs.length + 1) * (n + 1)
    rw [Nat.add_mul]
    omega
end My

namespace My
open PySem L2 TL
section
variable {P : Program} {w : World} {K : PySem.W.Frag} {mg : Str → Option Value} {base : Heap}
/-! ### the refusals: made, asked, told, raised -/
/-- a drawn field -/
inductive FTg (C : Addr) (H : Hp) : V → Tg → Prop where
  | int {i : Int} (h0 : 0 ≤ i) (h1 : i < 50) : FTg C H (.int i) (.int i)
  | ab : FTg C H (.str "ab") (.str "ab")
  | non : FTg C H .non .non
  | tru : FTg C H (.bl true) (.bl true)
  | num {p : Addr} {x : Rat} (h : NumAt C H p x) (b : Bd 380 x) : FTg C H (.ref p) (.num x)
  | pair {p : Addr} (h : H p = some (.tup [.int 1, .str "x"])) : FTg C H (.ref p) (.tup [.int 1, .str "x"])
  | emp : FTg C H (.str "") (.str "")
theorem FTg.same {C : Addr} {H H' : Hp} {v : V} {t : Tg} (s : Same H H') (h : FTg C H v t) : FTg C H' v t := by
  cases h with
  | int a b => exact .int a b
  | ab => exact .ab
  | non => exact .non
  | tru => exact .tru
  | num h b => exact .num (h.same s) b
  | pair h => exact .pair (s _ _ h)
  | emp => exact .emp
theorem FTg.tg {C d : Addr} {H : Hp} {v : V} {t : Tg} (h : FTg C H v t) : TgAt C d H v t := by
  cases h with
  | int a b => exact .int _
  | ab => exact .str _
  | non => exact .non
  | tru => exact .bl _
  | num h b => exact .num h
  | pair h => exact .tup h (.cons (.int _) (.cons (.str _) .nil))
  | emp => exact .str _
theorem ft_ab : FT ("ab" : Str) := by unfold FT; decide
theorem ft_x : FT ("x" : Str) := by unfold FT; decide
theorem ft_emp : FT ("" : Str) := by unfold FT; decide
theorem FTg.ok {C : Addr} {H : Hp} {v : V} {t : Tg} (h : FTg C H v t) : okT 380 t := by
  cases h with
  | int a b =>
    unfold okT
    exact Nat.lt_of_lt_of_le (by omega : _ < 2 ^ 6) (Nat.pow_le_pow_right (by decide) (by decide))
  | ab => unfold okT; exact ⟨ft_ab, by decide⟩
  | non => unfold okT; trivial
  | tru => unfold okT; trivial
  | num h b => unfold okT; exact b
  | pair h =>
    have o1 : okT 380 (.int 1) := by unfold okT; exact Nat.lt_of_lt_of_le (by decide : (1 : Int).natAbs < 2 ^ 1) (Nat.pow_le_pow_right (by decide) (by decide))
    have o2 : okT 380 (.str "x") := by unfold okT; exact ⟨ft_x, by decide⟩
    show okTs 380 [.int 1, .str "x"]
    exact ⟨o1, o2, trivial⟩
  | emp => unfold okT; exact ⟨ft_emp, by decide⟩
theorem FTg.dp {C : Addr} {H : Hp} {v : V} {t : Tg} (h : FTg C H v t) : dpT t ≤ 1 := by
  cases h <;> simp [dpT, dpTs]
theorem FTg.sz {C : Addr} {H : Hp} {v : V} {t : Tg} (h : FTg C H v t) : szT t ≤ 2 := by
  cases h <;> simp [szT, szTs]
theorem fine_short {d : PyData} {n : Nat} (hn : n ≤ 8000) (sh : d.showable = true) (ls : d.leavesShort 1921 = true) (wt : d.weight ≤ n) : d.shown.length ≤ sizeLine := by
  have le := PyData.shown_le 1921 (by decide) d ls
  have s : sizeLine = 16777216 := rfl
  omega
theorem rep_data {C : Addr} {H : Hp} {v : V} {d : PyData} (h : Dp K H v d) (sh : d.showable = true) (hd : d.hasDict = false) (dp : d.depth ≤ 60) (ln : d.shown.length ≤ sizeLine) : ∃ z : Str, ∀ Q : VK, Q (.str z) H → rReprFP K C (fun _ => spRepr C) [v] H Q :=
  ⟨d.shown, fun Q q => .inl ⟨v, d, rfl, h, sh, hd, dp, ln, q⟩⟩
theorem fine1_int {z : Int} (h : z.natAbs < 2 ^ 1900) : Fine1 (.int z) 1921 := by
  have l : z.natAbs.log2 < 1920 := Nat.lt_of_lt_of_le (PySem.Flt.log2_lt_of (by decide) h) (by decide)
  refine ⟨?_, by simp [PyData.hasDict], by simp [PyData.depth], ?_, ?_⟩
  · simp only [PyData.showable, decide_eq_true_eq]; omega
  · simp only [PyData.leavesShort, decide_eq_true_eq]
    exact PyProof.Rows.int_text_len_1921 l
  · simp only [PyData.weight]
    split <;> omega
/-- repr of it, where an error is held -/
theorem FTg.repP {C : Addr} {H : Hp} {v : V} {t : Tg} (h : FTg C H v t) : ∃ z : Str, ∀ Q : VK, Q (.str z) H → rReprFP K C (fun _ => spRepr C) [v] H Q := by
  have st : ∀ z : Str, FT z → z.length ≤ 250 → ∃ y : Str, ∀ Q : VK, Q (.str y) H → rReprFP K C (fun _ => spRepr C) [.str z] H Q := fun z f l => by
    have g := fine_str f (by omega)
    exact rep_data (.str z) g.sh g.hd (by have := g.dp; omega) (fine_short (by decide : 5000 ≤ 8000) g.sh g.ls g.wt)
  cases h with
  | int a b =>
    rename_i i
    have g := fine1_int (z := i) (Nat.lt_of_lt_of_le (by omega : _ < 2 ^ 6) (Nat.pow_le_pow_right (by decide) (by decide)))
    exact rep_data (.int i) g.sh g.hd (by have := g.dp; omega) (fine_short (by decide : 1921 ≤ 8000) g.sh g.ls g.wt)
  | ab => exact st _ ft_ab (by decide)
  | non => exact rep_data .non rfl rfl (by decide) (by decide)
  | tru => exact rep_data (.bl true) rfl rfl (by decide) (by decide)
  | num h b =>
    rename_i p x
    obtain ⟨dx, e⟩ := id h
    exact ⟨RText x, fun Q q => .inr ⟨p, dx, _, rfl, e, fun _ => ⟨p, x, rfl, h, b.mono (by decide), _, rfl, q⟩⟩⟩
  | pair h =>
    exact rep_data (d := .tuple [.int 1, .str "x"]) (.tup (SqT.of h) (.cons (.int _) (.cons (.str _) .nil))) (by decide) (by decide) (by decide) (fine_short (n := 8000) (Nat.le_refl _) (by decide) (by
      have a := (fine1_int (z := 1) (Nat.lt_of_lt_of_le (by decide : (1 : Int).natAbs < 2 ^ 1) (Nat.pow_le_pow_right (by decide) (by decide)))).ls
      have b := (fine_str ft_x (by decide)).ls
      simp only [PyData.leavesShort, PyData.leavesShortAll, Bool.and_true] at a b ⊢
      rw [a, b]; rfl) (by
      have a := (fine1_int (z := 1) (Nat.lt_of_lt_of_le (by decide : (1 : Int).natAbs < 2 ^ 1) (Nat.pow_le_pow_right (by decide) (by decide)))).wt
      have b := (fine_str ft_x (by decide)).wt
      simp only [PyData.weight, PyData.weightAll] at a b ⊢
      omega))
  | emp => exact st _ ft_emp (by decide)
end
end My

namespace My
open PySem L2 TL
section
variable {P : Program} {w : World} {K : PySem.W.Frag} {mg : Str → Option Value} {base : Heap}
theorem mk_err {C : Addr} {H : Hp} {l : List (Str × V)} {e d : Addr} {oe : Obj} (he : H e = none) (hd : H d = none) (ne : d ≠ e) (ob : ErrOb oe C d) : Same H (upd (upd H d (.xd l)) e (ErrO oe e)) ∧ ErrV [] (upd (upd H d (.xd l)) e (ErrO oe e)) e C l := by
  refine ⟨fun b o hb => ?_, d, ⟨oe, .inl upd_same, ob⟩, ?_⟩
  · rw [upd_ne (ne_of_none hb he), upd_ne (ne_of_none hb hd)]
    exact hb
  · rw [upd_ne ne]
    exact upd_same
theorem r_mkErr {C : Addr} {fl : List V → Option (List (Str × V))} {ta : TA} {σ : L2.St} {H : Hp} {Q : VK} (q : ta σ H fun vs H1 => ∃ l, fl vs = some l ∧ ∀ e d oe, H1 e = none → H1 d = none → d ≠ e → ErrOb oe C d → Q (.ref e) (upd (upd H1 d (.xd l)) e (ErrO oe e))) : tMkErr C fl ta σ H Q := q
theorem errV_put {H : Hp} {m e C : Addr} {xs ys : List V} {l : List (Str × V)} (h : H m = some (.lst xs)) (v : ErrV [] H e C l) : ErrV [] (upd H m (.lst ys)) e C l := v.keep fun b o hb k => by
  have nb : b ≠ m := ne_of hb h (by rcases k with ⟨φ, rfl⟩ | ⟨l, rfl⟩ <;> (intro z; cases z))
  rw [upd_ne nb]
  exact hb
theorem r_errF {f : Str} {te : TE} {σ : L2.St} {H : Hp} {Q : VK} (q : te σ H fun x H1 => ∃ (e C : Addr) (l : List (Str × V)) (v : V), x = .ref e ∧ ErrV [] H1 e C l ∧ ErrGet K C f ∧ l.lookup f = some v ∧ Q v H1) : tErrF K f te σ H Q := q
theorem r_heldF {f : Str} {a : Addr} {cls : Value} {d : Option Addr} {te : TE} {σ : L2.St} {H : Hp} {Q : VK} (q : te σ H fun x H1 => x = .ref a ∧ ∃ (C dd : Addr) (l : List (Str × V)) (v : V), cls = .ref C ∧ d = some dd ∧ H1 dd = some (.xd l) ∧ ErrGet K C f ∧ l.lookup f = some v ∧ Q v H1) : tHeldF K f a cls d te σ H Q := q
theorem r_callP {sp : (Addr × Obj) → Sp} {a : Addr} {cls : Value} {d : Option Addr} {te : TE} {σ : L2.St} {H : Hp} {Q : VK} (q : te σ H fun x H1 => x = .ref a ∧ ∃ (C dd : Addr), cls = .ref C ∧ d = some dd ∧ ∀ oe, ErrOb oe C dd → sp (a, oe) [.ref a] H1 Q E0) : tCallP sp a cls d te σ H Q := q
theorem r_lcR06 {σ : L2.St} {H : Hp} {Q : VK} {te : TE} {tr : TA} {g : TG} {tt : TT} {vs : List Nat} (q : tr σ H fun xs H1 => ∃ j : Int, xs = [.int j] ∧ -(2 ^ 62) ≤ j ∧ j < 2 ^ 62 ∧ ∀ D, H1 D = none → ∃ W : Nat → Nat → Hp → Prop, (∃ m, W 0 m (upd H1 D (.lst []))) ∧ ∀ i m H, W i m H →
    ((Itr 0 j.toNat).stop i H ∧ Q (.ref D) H) ∨ ((Itr 0 j.toNat).go i H ∧ ∃ Nx : Hp → Prop, (∀ H', Nx H' → ∃ m', m' < m ∧ W (i + 1) m' H') ∧ ∀ x H', (Itr 0 j.toNat).yld i H x H' → g x (wipe σ vs) H' fun σ2 H2 => wipe σ2 vs = wipe σ vs ∧ tt σ2 H2 fun b H3 =>
      if b = true then te σ2 H3 fun y H4 => ∃ acc, H4 D = some (.lst acc) ∧ acc.length < sizeLine ∧ Nx (upd H4 D (.lst (acc ++ [y]))) else Nx H3)) : tLc (iRng1 tr) g tt te vs σ H Q := q
theorem r_append06 {H : Hp} {Q : VK} {y : V} {p : Addr} {xs : List V} (h : H p = some (.lst xs)) (l : xs.length ≤ 100000) (q : Q .non (upd H p (.lst (xs ++ [y])))) : rAppend (.ref p) [y] H Q := ⟨p, xs, y, rfl, rfl, h, Nat.lt_of_le_of_lt l (by decide), q⟩
/-- int(..) of a whole number, of a truth -/
def rInt1 : List V → Hp → VK → Prop := fun xs H Q => (∃ i, xs = [.int i] ∧ Q (.int i) H) ∨ ∃ k, xs = [.bl k] ∧ Q (.int (if k then 1 else 0)) H
/-- what the suite does with the error at a -/
def t_ref (K : PySem.W.Frag) (C : Addr) (cs : List Value) : Addr → Value → Option Addr → TS := fun a cls d =>
  tAsg (tOp (rI0 fun i j => .int (i + j)) (tVar 6) (tCB rInt1 (tCons (tAndV (tOp rEq (tCB (rReprFP K C (fun _ => spRepr C)) (tCons (tHeldF K "thing" a cls d (tVar 7)) tNil)) (tCB (rReprFP K C (fun _ => spRepr C)) (tCons (tVar 0) tNil)))
    (tOp (rEqD K) (tCallP (fun p => spKinds [p] K cs) a cls d (tVar 7)) (tOp rCat (tOp rRep (tLst (tCons (tC (.bl false)) tNil)) (tC (.int 10))) (tLst (tCons (tC (.bl true)) tNil))))) tNil))) (gName 6)
/-- the eight that were made -/
structure Eight (T : Txt w K mg) (H : Hp) (v1 v2 : V) (es : List Addr) : Prop where
  a0 : ∃ e, es[0]? = some e ∧ ErrV [] H e T.C_NoText [(("at" : Str), v1)]
  a1 : ∃ e, es[1]? = some e ∧ ErrV [] H e T.C_Unsorted [(("low" : Str), v1), ("high", v2)]
  a2 : ∃ e, es[2]? = some e ∧ ErrV [] H e T.C_NoBottom [(("top" : Str), v1)]
  a3 : ∃ e, es[3]? = some e ∧ ErrV [] H e T.C_NoCustom [(("thing" : Str), v1)]
  a4 : ∃ e, es[4]? = some e ∧ ErrV [] H e T.C_NoWish [(("thing" : Str), v1)]
  a5 : ∃ e, es[5]? = some e ∧ ErrV [] H e T.C_NoFit [(("thing" : Str), v1)]
  a6 : ∃ e, es[6]? = some e ∧ ErrV [] H e T.C_NoRead [(("thing" : Str), v1)]
  a7 : ∃ e, es[7]? = some e ∧ ErrV [] H e T.C_NoName [(("thing" : Str), v1)]
  len : es.length = 8
theorem Eight.same {T : Txt w K mg} {H H' : Hp} {v1 v2 : V} {es : List Addr} (h : Eight T H v1 v2 es) (s : Same H H') : Eight T H' v1 v2 es :=
  ⟨(let ⟨e, a, b⟩ := h.a0; ⟨e, a, errV_same b s⟩), (let ⟨e, a, b⟩ := h.a1; ⟨e, a, errV_same b s⟩), (let ⟨e, a, b⟩ := h.a2; ⟨e, a, errV_same b s⟩), (let ⟨e, a, b⟩ := h.a3; ⟨e, a, errV_same b s⟩), (let ⟨e, a, b⟩ := h.a4; ⟨e, a, errV_same b s⟩), (let ⟨e, a, b⟩ := h.a5; ⟨e, a, errV_same b s⟩), (let ⟨e, a, b⟩ := h.a6; ⟨e, a, errV_same b s⟩), (let ⟨e, a, b⟩ := h.a7; ⟨e, a, errV_same b s⟩), h.len⟩

def bitsOf (i : Nat) : List Bool := ((List.range 8).map fun t : Nat => decide ((t : Int) = (i : Int))) ++ [decide ((i : Int) < 2), decide ((i : Int) = 2), decide (2 < (i : Int))]
theorem Eight.get {T : Txt w K mg} {H : Hp} {v1 v2 : V} {es : List Addr} (h : Eight T H v1 v2 es) {i : Nat} (hi : i < 8) : ∃ e C l bs, es[i]? = some e ∧ ErrV [] H e C l ∧ ExcC K C ∧ Kinds K C (k11 T) bs ∧ bs = bitsOf i := by
  match i, hi with
  | 0, _ => obtain ⟨e, a, b⟩ := h.a0; exact ⟨e, T.C_NoText, _, _, a, b, T.x_NoText, T.kd_NoText, by decide⟩
  | 1, _ => obtain ⟨e, a, b⟩ := h.a1; exact ⟨e, T.C_Unsorted, _, _, a, b, T.x_Unsorted, T.kd_Unsorted, by decide⟩
  | 2, _ => obtain ⟨e, a, b⟩ := h.a2; exact ⟨e, T.C_NoBottom, _, _, a, b, T.x_NoBottom, T.kd_NoBottom, by decide⟩
  | 3, _ => obtain ⟨e, a, b⟩ := h.a3; exact ⟨e, T.C_NoCustom, _, _, a, b, T.x_NoCustom, T.kd_NoCustom, by decide⟩
  | 4, _ => obtain ⟨e, a, b⟩ := h.a4; exact ⟨e, T.C_NoWish, _, _, a, b, T.x_NoWish, T.kd_NoWish, by decide⟩
  | 5, _ => obtain ⟨e, a, b⟩ := h.a5; exact ⟨e, T.C_NoFit, _, _, a, b, T.x_NoFit, T.kd_NoFit, by decide⟩
  | 6, _ => obtain ⟨e, a, b⟩ := h.a6; exact ⟨e, T.C_NoRead, _, _, a, b, T.x_NoRead, T.kd_NoRead, by decide⟩
  | 7, _ => obtain ⟨e, a, b⟩ := h.a7; exact ⟨e, T.C_NoName, _, _, a, b, T.x_NoName, T.kd_NoName, by decide⟩
  | n + 8, hi => omega
theorem bools_all : ∀ bs : List Bool, PyData.eqvAll (bs.map PyData.bool) (bs.map PyData.bool) = true
  | [] => by rw [List.map_nil, PyData.eqvAll]
  | b :: bs => by
    rw [List.map_cons, PyData.eqvAll, bools_all bs, Bool.and_true]
    cases b <;> rfl
theorem bools_eqv (bs : List Bool) : PyData.eqv (.list (bs.map .bool)) (.list (bs.map .bool)) = true := by
  rw [PyData.eqv]
  exact bools_all bs
theorem dp_bools {H : Hp} {p : Addr} {bs : List Bool} (h : H p = some (.lst (bs.map V.bl))) : Dp K H (.ref p) (.list (bs.map PyData.bool)) := by
  refine .lst (SqL.of h) ?_
  induction bs with
  | nil => exact .nil
  | cons b bs ih =>
    clear ih
    have all : ∀ l : List Bool, DpAll K H (l.map V.bl) (l.map PyData.bool) := fun l => by
      induction l with
      | nil => exact .nil
      | cons b l ih => exact .cons (.bl b) ih
    exact all (b :: bs)
theorem told_rep {C : Addr} {H : Hp} {p : Addr} {v1 v2 : V} {t1 t2 : Tg} {Q : VK} (h : H p = some (.lst [v1, v1, v2, v1, v1, v1, v1, v1, v1])) (f1 : FTg C H v1 t1) (f2 : FTg C H v2 t2) (q : Q (.str (shT RText (.lst [t1, t1, t2, t1, t1, t1, t1, t1, t1]))) H) : rReprF K C (spRepr C) RText 3 [.ref p] H Q := by
  have a1 := f1.tg (d := p + 1)
  have a2 := f2.tg (d := p + 1)
  have o1 := f1.ok
  have o2 := f2.ok
  have ok : okTs 380 [t1, t1, t2, t1, t1, t1, t1, t1, t1] := ⟨o1, o1, o2, o1, o1, o1, o1, o1, o1, trivial⟩
  have z1 := f1.sz
  have z2 := f2.sz
  have y1 := f1.dp
  have y2 := f2.dp
  have ln := sh_len66 (.lst [t1, t1, t2, t1, t1, t1, t1, t1, t1]) (by unfold okT; exact ok)
  have sz : szT (.lst [t1, t1, t2, t1, t1, t1, t1, t1, t1]) = szT t1 + 1 + (szT t1 + 1 + (szT t2 + 1 + (szT t1 + 1 + (szT t1 + 1 + (szT t1 + 1 + (szT t1 + 1 + (szT t1 + 1 + (szT t1 + 1 + 0)))))))) := rfl
  have sl : sizeLine = 16777216 := rfl
  have dd : dpTs [t1, t1, t2, t1, t1, t1, t1, t1, t1] ≤ 3 := dpTs_iff.mpr fun t ht => by
    simp only [List.mem_cons, List.not_mem_nil, or_false] at ht
    rcases ht with rfl | rfl | rfl | rfl | rfl | rfl | rfl | rfl | rfl <;> omega
  refine .inr (.inr ⟨p + 1, p, _, 380, rfl, .lst (Nat.ne_of_lt (Nat.lt_succ_self _)) h (.cons a1 (.cons a1 (.cons a2 (.cons a1 (.cons a1 (.cons a1 (.cons a1 (.cons a1 (.cons a1 .nil))))))))), by simp, ok, by decide, dd, fun p x R hn b r => ⟨p, x, rfl, hn, b.mono (by decide), r⟩, by omega, q⟩)
theorem r_raise06 {C : Addr} {fl : List V → Option (List (Str × V))} {ta : TA} {W : WX} {σ : L2.St} {H : Hp} (q : ta σ H fun vs H1 => ∃ l, fl vs = some l ∧ ∀ d, H1 d = none → W (.ref C) (some d) σ (upd H1 d (.xd l))) : tMkRaise C fl ta σ H (fun cls d H' => W cls d σ H') := q
theorem r_tyes06 {σ : L2.St} {H : Hp} {A B : Hp → Prop} (q : A H) : tYes σ H (fun b H3 => if b = true then A H3 else B H3) := (iteT (A := A H) (B := B H) q : if true = true then A H else B H)
def spRef (C : Addr) : Sp := fun vs H Q _ => ∃ (v1 v2 : V) (t1 t2 : Tg), vs = [v1, v2] ∧ FTg C H v1 t1 ∧ FTg C H v2 t2 ∧ ∀ H', Same H H' → Q (.bl true) H'
theorem okG_l_refusals_right (T : Txt w K mg) : FnG P w K mg base 12 T.f_l_refusals_right T.fd_l_refusals_right ["_law_one", "_law_other"] (spRef T.C_Number) := by
  refine FnG.by_body T.F_l_refusals_right sc_l_refusals_right (fun vs H Q E h => ?_) (fun cdv A outer s H vs Q E hG hr h => ?_)
  · obtain ⟨v1, v2, t1, t2, rfl, _⟩ := h
    rfl
  · obtain ⟨v1, v2, t1, t2, rfl, f1, f2, k⟩ := h
    refine ⟨_, (pss_cons (ps_set (i := 2) sc_l_refusals_right.nd rfl (Or.inl rfl) (pe_lst (pa_cons (pe_mkErr T.e_NoText (errRun_at T.e_NoText T.fn_NoText T.no_NoText) hr (by decide) (pa_cons (pv 0) pa_nil) T.m_NoText) (pa_cons (pe_mkErr T.e_Unsorted (errRun_lh T.e_Unsorted T.fn_Unsorted T.no_Unsorted) hr (by decide) (pa_cons (pv 0) (pa_cons (pv 1) pa_nil)) T.m_Unsorted) (pa_cons (pe_mkErr T.e_NoBottom (errRun_top T.e_NoBottom T.fn_NoBottom T.no_NoBottom) hr (by decide) (pa_cons (pv 0) pa_nil) T.m_NoBottom) (pa_cons (pe_mkErr T.e_NoCustom (errRun_thing T.e_NoCustom T.fn_NoCustom T.no_NoCustom) hr (by decide) (pa_cons (pv 0) pa_nil) T.m_NoCustom) (pa_cons (pe_mkErr T.e_NoWish (errRun_thing T.e_NoWish T.fn_NoWish T.no_NoWish) hr (by decide) (pa_cons (pv 0) pa_nil) T.m_NoWish) (pa_cons (pe_mkErr T.e_NoFit (errRun_thing T.e_NoFit T.fn_NoFit T.no_NoFit) hr (by decide) (pa_cons (pv 0) pa_nil) T.m_NoFit) (pa_cons (pe_mkErr T.e_NoRead (errRun_thing T.e_NoRead T.fn_NoRead T.no_NoRead) hr (by decide) (pa_cons (pv 0) pa_nil) T.m_NoRead) pa_nil)))))))))
 (pss_cons (ps_expr (pe_bm PySem.F.plainAttrs_list PySem.F.slot_list_append PySem.F.type_list_append mt_append (pv 2) (pa_cons (pe_mkErr T.e_NoName (errRun_thing T.e_NoName T.fn_NoName T.no_NoName) hr (by decide) (pa_cons (pv 0) pa_nil) T.m_NoName) pa_nil)))
 (pss_cons (ps_for PassesOwn.never rfl (pi_range1 rfl T.n_range (pa_cons pe_int pa_nil)) (pg_name (i := 3) sc_l_refusals_right.nd rfl (Or.inr rfl))
  (pss_one (ps_if (pt_cmpR (op_neD hr.units) (pe_call (ok_l_kinds T) (hr.mono (by decide)) (by rfl) T.m_l_kinds T.F_l_kinds.kp T.b_l_kinds .nil pass0 (pa_cons (pe_ix ix_list (pv 2) (pv 3) (fun _ _ => rfl)) pa_nil)) (pe_op op_cat (pe_lc (own := [("_law_j", 8)]) (g := gName 8) (tt := tYes) rfl sc_l_refusals_right.nd (pi_range1 rfl T.n_range (pa_cons pe_int pa_nil)) (blkOk_by (own := [("_law_j", 8)]) (N := ["_law_one", "_law_other", "_law_made", "_law_k", "_law_e", "_law_told", "_law_caught", "e2", "_law_j"]) (sc := defScope s_l_refusals_right) (by decide +kernel)) (fun _ _ _ _ _ => pg_name (i := 8) sc_l_refusals_right.nd rfl (Or.inl rfl)) (fun _ _ _ _ _ => pts_nil) (fun _ _ _ _ _ => (pe_cmpR op_eq (pv 8) (pv 3) (nomark _)))) (pe_lst (pa_cons (pe_cmpR op_lt (pv 3) pe_int (nomark _)) (pa_cons (pe_cmpR op_eq (pv 3) pe_int (nomark _)) (pa_cons (pe_cmpR op_gt (pv 3) pe_int (nomark _)) pa_nil))))) (nomark _))
  (pss_one (ps_ret pe_bl))
  pss_nil)))
 (pss_cons (ps_set (i := 5) sc_l_refusals_right.nd rfl (Or.inl rfl) (pe_op op_cat (pe_lst (pa_cons (pe_errF (pe_ix ix_list (pv 2) pe_int (fun _ _ => rfl))) (pa_cons (pe_errF (pe_ix ix_list (pv 2) pe_int (fun _ _ => rfl))) (pa_cons (pe_errF (pe_ix ix_list (pv 2) pe_int (fun _ _ => rfl))) (pa_cons (pe_errF (pe_ix ix_list (pv 2) pe_int (fun _ _ => rfl))) pa_nil))))) (pe_lc (own := [("_law_e", 4)]) (g := gName 4) (tt := tYes) rfl sc_l_refusals_right.nd (pi_list (pe_slice sl_list (pv 2) (po_some pe_int) po_none)) (blkOk_by (own := [("_law_e", 4)]) (N := ["_law_one", "_law_other", "_law_made", "_law_k", "_law_e", "_law_told", "_law_caught", "e2", "_law_j"]) (sc := defScope s_l_refusals_right) (by decide +kernel)) (fun _ _ _ _ _ => pg_name (i := 4) sc_l_refusals_right.nd rfl (Or.inl rfl)) (fun _ _ _ _ _ => pts_nil) (fun _ _ _ _ _ => (pe_errFK (K0 := K) rfl (pv 4) (by rfl))))))
 (pss_cons (ps_if (pt_cmpR op_ne (pe_callB (call_reprF (nt := RText) (D := 3) hG (ok_Number_repr T) T.me_Number_repr.at_ T.me_Number_repr.fn T.b_Number_repr (hr.mono (by decide)) hr.units) (by rfl) T.n_repr (by decide +kernel) (pa_cons (pv 5) pa_nil)) (pe_callB (call_reprF (nt := RText) (D := 3) hG (ok_Number_repr T) T.me_Number_repr.at_ T.me_Number_repr.fn T.b_Number_repr (hr.mono (by decide)) hr.units) (by rfl) T.n_repr (by decide +kernel) (pa_cons (pe_op op_cat (pe_lst (pa_cons (pv 0) (pa_cons (pv 0) (pa_cons (pv 1) pa_nil)))) (pe_op op_rep (pe_lst (pa_cons (pv 0) pa_nil)) pe_int)) pa_nil)) (nomark _))
  (pss_one (ps_ret pe_bl))
  pss_nil)
 (pss_cons (ps_set (i := 6) sc_l_refusals_right.nd rfl (Or.inl rfl) pe_int)
 (pss_cons (ps_for PassesOwn.never rfl (pi_list (pe_slice sl_list (pv 2) (po_some pe_int) po_none)) (pg_name (i := 4) sc_l_refusals_right.nd rfl (Or.inl rfl))
  (pss_one (L2N.ps_try_as (i := 7) (ts := t_ref K T.C_Number (k11 T)) (Wout := fun _ _ _ _ => False) rfl rfl sc_l_refusals_right.nd rfl rfl ⟨rfl, by decide, Or.inl T.m_FigureError⟩ takes0N (fun W pn xe tk _ => by exact (pss_one (ps_raiseErr rfl T.e_FigureError (errRun_thing T.e_FigureError T.fn_FigureError T.no_FigureError) T.x_FigureError.hs T.ty_FigureError hr (by decide) tk (pa_cons (pe_errFK (K0 := K) rfl (pv 4) (by rfl)) pa_nil) T.m_FigureError))) (fun a oe cls d pn hz hf => by exact (pss_one (ps_set (i := 6) sc_l_refusals_right.nd rfl (Or.inl rfl) (pe_op op_add (pv 6) (pe_callTy call_int1 (by rfl) T.n_int (by decide +kernel) (pa_cons (pe_and (pe_cmpR op_eq (pe_callB (call_reprFP hG (okP_Number_repr T) T.me_Number_repr.at_ T.me_Number_repr.fn T.b_Number_repr (room_suite (hr.mono (by decide))) ⟨(a, oe), hot_suite hz hf, List.mem_cons_self⟩ hr.units) (by rfl) T.n_repr (by decide +kernel) (pa_cons (pe_heldF ⟨hz.1, hz.2.1⟩ hf (pv 7)) pa_nil)) (pe_callB (call_reprFP hG (okP_Number_repr T) T.me_Number_repr.at_ T.me_Number_repr.fn T.b_Number_repr (room_suite (hr.mono (by decide))) ⟨(a, oe), hot_suite hz hf, List.mem_cons_self⟩ hr.units) (by rfl) T.n_repr (by decide +kernel) (pa_cons (pv 0) pa_nil)) (nomark _)) (pe_one (pe_cmpR (op_eqD hr.units) (pe_callP (okP_l_kinds T) (hr.mono (by decide)) (by rfl) T.m_l_kinds T.F_l_kinds.kp T.b_l_kinds hz hf (pv 7)) (pe_op op_cat (pe_op op_rep (pe_lst (pa_cons pe_bl pa_nil)) pe_int) (pe_lst (pa_cons pe_bl pa_nil))) (nomark _)))) pa_nil)))))))))
 (pss_one (ps_ret (pe_cmpR op_eq (pv 6) pe_int (nomark _))))))))))), ?_⟩
    walk_at "rdh"
    refine r_mkErr ?_
    walk_at "rdh"
    refine ⟨_, rfl, fun e0 d0 oe0 he0 hd0 ne0 ob0 => ?_⟩
    obtain ⟨s0, x0⟩ := mk_err (l := [(("at" : Str), v1)]) he0 hd0 ne0 ob0
    generalize upd (upd H d0 (.xd [(("at" : Str), v1)])) e0 (ErrO oe0 e0) = H1 at *
    walk_at "rdh"
    refine r_mkErr ?_
    walk_at "rdh"
    refine ⟨_, rfl, fun e1 d1 oe1 he1 hd1 ne1 ob1 => ?_⟩
    obtain ⟨s1, x1⟩ := mk_err (l := [(("low" : Str), v1), ("high", v2)]) he1 hd1 ne1 ob1
    replace x0 := errV_same x0 s1
    generalize upd (upd H1 d1 (.xd [(("low" : Str), v1), ("high", v2)])) e1 (ErrO oe1 e1) = H2 at *
    walk_at "rdh"
    refine r_mkErr ?_
    walk_at "rdh"
    refine ⟨_, rfl, fun e2 d2 oe2 he2 hd2 ne2 ob2 => ?_⟩
    obtain ⟨s2, x2⟩ := mk_err (l := [(("top" : Str), v1)]) he2 hd2 ne2 ob2
    replace x0 := errV_same x0 s2
    replace x1 := errV_same x1 s2
    generalize upd (upd H2 d2 (.xd [(("top" : Str), v1)])) e2 (ErrO oe2 e2) = H3 at *
    walk_at "rdh"
    refine r_mkErr ?_
    walk_at "rdh"
    refine ⟨_, rfl, fun e3 d3 oe3 he3 hd3 ne3 ob3 => ?_⟩
    obtain ⟨s3, x3⟩ := mk_err (l := [(("thing" : Str), v1)]) he3 hd3 ne3 ob3
    replace x0 := errV_same x0 s3
    replace x1 := errV_same x1 s3
    replace x2 := errV_same x2 s3
    generalize upd (upd H3 d3 (.xd [(("thing" : Str), v1)])) e3 (ErrO oe3 e3) = H4 at *
    walk_at "rdh"
    refine r_mkErr ?_
    walk_at "rdh"
    refine ⟨_, rfl, fun e4 d4 oe4 he4 hd4 ne4 ob4 => ?_⟩
    obtain ⟨s4, x4⟩ := mk_err (l := [(("thing" : Str), v1)]) he4 hd4 ne4 ob4
    replace x0 := errV_same x0 s4
    replace x1 := errV_same x1 s4
    replace x2 := errV_same x2 s4
    replace x3 := errV_same x3 s4
    generalize upd (upd H4 d4 (.xd [(("thing" : Str), v1)])) e4 (ErrO oe4 e4) = H5 at *
    walk_at "rdh"
    refine r_mkErr ?_
    walk_at "rdh"
    refine ⟨_, rfl, fun e5 d5 oe5 he5 hd5 ne5 ob5 => ?_⟩
    obtain ⟨s5, x5⟩ := mk_err (l := [(("thing" : Str), v1)]) he5 hd5 ne5 ob5
    replace x0 := errV_same x0 s5
    replace x1 := errV_same x1 s5
    replace x2 := errV_same x2 s5
    replace x3 := errV_same x3 s5
    replace x4 := errV_same x4 s5
    generalize upd (upd H5 d5 (.xd [(("thing" : Str), v1)])) e5 (ErrO oe5 e5) = H6 at *
    walk_at "rdh"
    refine r_mkErr ?_
    walk_at "rdh"
    refine ⟨_, rfl, fun e6 d6 oe6 he6 hd6 ne6 ob6 => ?_⟩
    obtain ⟨s6, x6⟩ := mk_err (l := [(("thing" : Str), v1)]) he6 hd6 ne6 ob6
    replace x0 := errV_same x0 s6
    replace x1 := errV_same x1 s6
    replace x2 := errV_same x2 s6
    replace x3 := errV_same x3 s6
    replace x4 := errV_same x4 s6
    replace x5 := errV_same x5 s6
    generalize upd (upd H6 d6 (.xd [(("thing" : Str), v1)])) e6 (ErrO oe6 e6) = H7 at *
    walk_at "rdh"
    refine r_new (by show 7 ≤ 1000; decide) fun m hm => ?_
    have sm := Same.new (o := .lst [.ref e0, .ref e1, .ref e2, .ref e3, .ref e4, .ref e5, .ref e6]) hm
    have hl := upd_same (H := H7) (a := m) (o := HO.lst [.ref e0, .ref e1, .ref e2, .ref e3, .ref e4, .ref e5, .ref e6])
    replace x0 := errV_same x0 sm
    replace x1 := errV_same x1 sm
    replace x2 := errV_same x2 sm
    replace x3 := errV_same x3 sm
    replace x4 := errV_same x4 sm
    replace x5 := errV_same x5 sm
    replace x6 := errV_same x6 sm
    generalize upd H7 m (.lst [.ref e0, .ref e1, .ref e2, .ref e3, .ref e4, .ref e5, .ref e6]) = H8 at *
    have so : Same H H8 := ((((((s0.trans s1).trans s2).trans s3).trans s4).trans s5).trans s6).trans sm
    have mo : ∀ b o, H b = some o → b ≠ m := fun b o hb => ne_of_none (s6 _ _ (s5 _ _ (s4 _ _ (s3 _ _ (s2 _ _ (s1 _ _ (s0 _ _ hb))))))) hm
    walk_at "rdh"
    refine ⟨ty_list hl, ?_⟩
    walk_at "rdh"
    refine r_mkErr ?_
    walk_at "rdh"
    refine ⟨_, rfl, fun e7 d7 oe7 he7 hd7 ne7 ob7 => ?_⟩
    obtain ⟨s7, x7⟩ := mk_err (l := [(("thing" : Str), v1)]) he7 hd7 ne7 ob7
    replace x0 := errV_same x0 s7
    replace x1 := errV_same x1 s7
    replace x2 := errV_same x2 s7
    replace x3 := errV_same x3 s7
    replace x4 := errV_same x4 s7
    replace x5 := errV_same x5 s7
    replace x6 := errV_same x6 s7
    generalize upd (upd H8 d7 (.xd [(("thing" : Str), v1)])) e7 (ErrO oe7 e7) = H9 at *
    walk_at "rdh"
    replace hl := s7 _ _ hl
    refine r_append06 hl (by show 7 ≤ 100000; decide) ?_
    replace x0 := errV_put (ys := [.ref e0, .ref e1, .ref e2, .ref e3, .ref e4, .ref e5, .ref e6] ++ [.ref e7]) hl x0
    replace x1 := errV_put (ys := [.ref e0, .ref e1, .ref e2, .ref e3, .ref e4, .ref e5, .ref e6] ++ [.ref e7]) hl x1
    replace x2 := errV_put (ys := [.ref e0, .ref e1, .ref e2, .ref e3, .ref e4, .ref e5, .ref e6] ++ [.ref e7]) hl x2
    replace x3 := errV_put (ys := [.ref e0, .ref e1, .ref e2, .ref e3, .ref e4, .ref e5, .ref e6] ++ [.ref e7]) hl x3
    replace x4 := errV_put (ys := [.ref e0, .ref e1, .ref e2, .ref e3, .ref e4, .ref e5, .ref e6] ++ [.ref e7]) hl x4
    replace x5 := errV_put (ys := [.ref e0, .ref e1, .ref e2, .ref e3, .ref e4, .ref e5, .ref e6] ++ [.ref e7]) hl x5
    replace x6 := errV_put (ys := [.ref e0, .ref e1, .ref e2, .ref e3, .ref e4, .ref e5, .ref e6] ++ [.ref e7]) hl x6
    replace x7 := errV_put (ys := [.ref e0, .ref e1, .ref e2, .ref e3, .ref e4, .ref e5, .ref e6] ++ [.ref e7]) hl x7
    have sp : Same H (upd H9 m (.lst ([.ref e0, .ref e1, .ref e2, .ref e3, .ref e4, .ref e5, .ref e6] ++ [.ref e7]))) := fun b o hb => by
      rw [upd_ne (mo b o hb)]
      exact s7 _ _ (so _ _ hb)
    have h10 := upd_same (H := H9) (a := m) (o := HO.lst ([.ref e0, .ref e1, .ref e2, .ref e3, .ref e4, .ref e5, .ref e6] ++ [.ref e7]))
    generalize upd H9 m (.lst ([.ref e0, .ref e1, .ref e2, .ref e3, .ref e4, .ref e5, .ref e6] ++ [.ref e7])) = HA at *
    have E8 : Eight T HA v1 v2 [e0, e1, e2, e3, e4, e5, e6, e7] := ⟨⟨_, rfl, x0⟩, ⟨_, rfl, x1⟩, ⟨_, rfl, x2⟩, ⟨_, rfl, x3⟩, ⟨_, rfl, x4⟩, ⟨_, rfl, x5⟩, ⟨_, rfl, x6⟩, ⟨_, rfl, x7⟩, rfl⟩
    have hA : HA m = some (.lst ([e0, e1, e2, e3, e4, e5, e6, e7].map V.ref)) := h10
    walk_at "rdh"
    refine r_rng1 ?_
    walk_at "rdh"
    refine ⟨8, rfl, by decide, by decide, for_range (lo := 0) (n := 8) (fun i σ H' => ∃ v3 : Option V, σ = [some v1, some v2, some (.ref m), v3, none, none, none, none, none] ∧ Same HA H') ⟨_, rfl, fun _ _ h => h⟩ ?_ ?_⟩
    · rintro i σ H1 hi ⟨v3, rfl, sA⟩
      obtain ⟨e, C, l, bs, ei, ev, xc, kd, eb⟩ := E8.get hi
      walk_at "rdh"
      refine r_ixL (sA _ _ hA) (v := .ref e) (by rw [Int.zero_add]; exact atI_nat (by rw [List.getElem?_map, ei]; rfl)) ?_
      walk_at "rdh"
      refine ⟨e, C, l, bs, rfl, errV_same ev sA, xc, kd, fun p2 H2 s2 hp2 hl2 => ?_⟩
      walk_at "rdh"
      have z0 : (0 : Int) + (i : Int) = (i : Int) := Int.zero_add _
      refine r_lcR06 ?_
      walk_at "rdh"
      refine ⟨8, rfl, by decide, by decide, fun D hD => ?_⟩
      refine lc_range (lo := 0) (n := 8) (fun j H' => Same H2 H' ∧ j ≤ 8 ∧ H' D = some (.lst ((List.range j).map fun t : Nat => V.bl (decide ((t : Int) = (i : Int)))))) ⟨Same.new hD, Nat.zero_le _, upd_same⟩ ?_ ?_
      · rintro j H3 hj ⟨s3, _, hd3⟩
        walk_at "rdh"
        refine ⟨rfl, ?_⟩
        refine r_tyes06 ?_
        walk_at "rdh"
        refine ⟨_, hd3, by rw [List.length_map, List.length_range]; exact Nat.lt_of_lt_of_le (show j < 9 by omega) (by decide), fun b o hb => ?_, by omega, ?_⟩
        · rw [upd_ne (ne_of_none hb hD)]
          exact s3 _ _ hb
        · rw [upd_same, List.range_succ, List.map_append]
          simp only [z0, Int.zero_add]
          rfl
      · rintro H3 ⟨s3, _, hd3⟩
        walk_at "rdh"
        refine r_new (by show 3 ≤ 1000; decide) fun q hq => ?_
        rw [z0]
        have s4 := Same.new (o := .lst [.bl (decide ((i : Int) < 2)), .bl (decide ((i : Int) = 2)), .bl (decide (2 < (i : Int)))]) hq
        have h4 := upd_same (H := H3) (a := q) (o := HO.lst [.bl (decide ((i : Int) < 2)), .bl (decide ((i : Int) = 2)), .bl (decide (2 < (i : Int)))])
        generalize upd H3 q (.lst [.bl (decide ((i : Int) < 2)), .bl (decide ((i : Int) = 2)), .bl (decide (2 < (i : Int)))]) = H4 at *
        walk_at "rdh"
        refine r_cat (s4 _ _ hd3) h4 (by rw [List.length_map, List.length_range]; show 8 + 3 ≤ 100000; decide) fun q2 hq2 => ?_
        have s5 := Same.new (o := .lst ((List.range 8).map (fun t : Nat => V.bl (decide ((t : Int) = (i : Int)))) ++ [.bl (decide ((i : Int) < 2)), .bl (decide ((i : Int) = 2)), .bl (decide (2 < (i : Int)))])) hq2
        have h5 : (upd H4 q2 (.lst ((List.range 8).map (fun t : Nat => V.bl (decide ((t : Int) = (i : Int)))) ++ [.bl (decide ((i : Int) < 2)), .bl (decide ((i : Int) = 2)), .bl (decide (2 < (i : Int)))]))) q2 = some (.lst ((bitsOf i).map V.bl)) := upd_same
        generalize upd H4 q2 (.lst ((List.range 8).map (fun t : Nat => V.bl (decide ((t : Int) = (i : Int)))) ++ [.bl (decide ((i : Int) < 2)), .bl (decide ((i : Int) = 2)), .bl (decide (2 < (i : Int)))])) = H5 at *
        have h2 : H5 p2 = some (.lst ((bitsOf i).map V.bl)) := by
          rw [← eb]
          exact s5 _ _ (s4 _ _ (s3 _ _ hl2))
        refine ⟨_, _, dp_bools h2, dp_bools h5, rfl, rfl, ?_⟩
        rw [bools_eqv]
        walk_at "rdh"
        refine r_iteF rfl ?_
        walk_at "rdh"
        exact ⟨_, rfl, fun b o hb => s5 _ _ (s4 _ _ (s3 _ _ (s2 _ _ (sA _ _ hb))))⟩
    · rintro σ H1 ⟨v3, rfl, sA⟩
      have gE : ∀ {C : Addr} {f : Str}, ExcC K C → PySem.W.findIn K (.ref C) f = some none → ErrGet K C f := fun x n => ⟨x.hg, x.hk, x.hs, x.hd, n⟩
      walk_at "rdh"
      refine r_errF ?_
      walk_at "rdh"
      refine r_ixL (v := .ref e0) (sA _ _ hA) (atI_nat (j := 0) rfl) ?_
      refine ⟨e0, _, _, v1, rfl, errV_same x0 sA, gE T.x_NoText T.no_NoText, rfl, ?_⟩
      walk_at "rdh"
      refine r_errF ?_
      walk_at "rdh"
      refine r_ixL (v := .ref e1) (sA _ _ hA) (atI_nat (j := 1) rfl) ?_
      refine ⟨e1, _, _, v1, rfl, errV_same x1 sA, gE T.x_Unsorted T.no_Unsorted.1, rfl, ?_⟩
      walk_at "rdh"
      refine r_errF ?_
      walk_at "rdh"
      refine r_ixL (v := .ref e1) (sA _ _ hA) (atI_nat (j := 1) rfl) ?_
      refine ⟨e1, _, _, v2, rfl, errV_same x1 sA, gE T.x_Unsorted T.no_Unsorted.2, rfl, ?_⟩
      walk_at "rdh"
      refine r_errF ?_
      walk_at "rdh"
      refine r_ixL (v := .ref e2) (sA _ _ hA) (atI_nat (j := 2) rfl) ?_
      refine ⟨e2, _, _, v1, rfl, errV_same x2 sA, gE T.x_NoBottom T.no_NoBottom, rfl, ?_⟩
      walk_at "rdh"
      refine r_new (by show 4 ≤ 1000; decide) fun q1 hq1 => ?_
      have sB := Same.new (o := .lst [v1, v1, v2, v1]) hq1
      have hB := upd_same (H := H1) (a := q1) (o := HO.lst [v1, v1, v2, v1])
      generalize upd H1 q1 (.lst [v1, v1, v2, v1]) = HB at *
      have sAB := sA.trans sB
      walk_at "rdh"
      have five : ∀ (j : Nat) (x : V), [V.ref e3, .ref e4, .ref e5, .ref e6, .ref e7][j]? = some x → ∃ e C, x = .ref e ∧ ErrV [] HA e C [(("thing" : Str), v1)] ∧ ErrGet K C "thing" := by
        intro j x hx
        match j, hx with
        | 0, hx => cases hx; exact ⟨e3, _, rfl, x3, gE T.x_NoCustom T.no_NoCustom⟩
        | 1, hx => cases hx; exact ⟨e4, _, rfl, x4, gE T.x_NoWish T.no_NoWish⟩
        | 2, hx => cases hx; exact ⟨e5, _, rfl, x5, gE T.x_NoFit T.no_NoFit⟩
        | 3, hx => cases hx; exact ⟨e6, _, rfl, x6, gE T.x_NoRead T.no_NoRead⟩
        | 4, hx => cases hx; exact ⟨e7, _, rfl, x7, gE T.x_NoName T.no_NoName⟩
        | n + 5, hx => simp at hx
      refine r_lcL ?_
      walk_at "rdh"
      refine ⟨m, _, rfl, SqL.of (sAB _ _ hA), fun q2 hq2 => ?_⟩
      have sC := Same.new (o := .lst [V.ref e3, .ref e4, .ref e5, .ref e6, .ref e7]) hq2
      have hC : (upd HB q2 (.lst (cutV ([e0, e1, e2, e3, e4, e5, e6, e7].map V.ref) (some 3) none))) = upd HB q2 (.lst [V.ref e3, .ref e4, .ref e5, .ref e6, .ref e7]) := rfl
      rw [hC]
      clear hC
      have hC := upd_same (H := HB) (a := q2) (o := HO.lst [V.ref e3, .ref e4, .ref e5, .ref e6, .ref e7])
      generalize upd HB q2 (.lst [V.ref e3, .ref e4, .ref e5, .ref e6, .ref e7]) = HC at *
      have sAC := sAB.trans sC
      refine ⟨q2, rfl, ⟨_, SqL.of hC⟩, fun D hD => ?_⟩
      refine lc_list (K := K) (a := q2) (xs := [V.ref e3, .ref e4, .ref e5, .ref e6, .ref e7]) (fun j H' => Same HC H' ∧ j ≤ 5 ∧ H' D = some (.lst (List.replicate j v1))) ⟨Same.new hD, Nat.zero_le _, upd_same⟩ (fun j H' _ ⟨s, _⟩ => SqL.of (s _ _ hC)) ?_ ?_
      · rintro j x H3 hx ⟨s3, _, hd3⟩
        have j5 : j < 5 := (List.getElem?_eq_some_iff.mp hx).1
        obtain ⟨e, C, rfl, ev, g⟩ := five j x hx
        walk_at "rdh"
        refine ⟨rfl, ?_⟩
        refine r_tyes06 ?_
        refine r_errF ?_
        walk_at "rdh"
        refine ⟨e, C, _, v1, rfl, errV_same ev (sAC.trans s3), g, rfl, ?_⟩
        refine ⟨_, hd3, by rw [List.length_replicate]; exact Nat.lt_of_lt_of_le (show j < 6 by omega) (by decide), fun b o hb => ?_, by omega, ?_⟩
        · rw [upd_ne (ne_of_none hb hD)]
          exact s3 _ _ hb
        · rw [upd_same, List.replicate_succ']
      · rintro H3 ⟨s3, _, hd3⟩
        have hd3' : H3 D = some (.lst [v1, v1, v1, v1, v1]) := hd3
        walk_at "rdh"
        refine r_cat (s3 _ _ (sC _ _ hB)) hd3' (by show 4 + 5 ≤ 100000; decide) fun q3 hq3 => ?_
        have s4 := Same.new (o := .lst ([v1, v1, v2, v1] ++ [v1, v1, v1, v1, v1])) hq3
        have h4 : (upd H3 q3 (.lst ([v1, v1, v2, v1] ++ [v1, v1, v1, v1, v1]))) q3 = some (.lst [v1, v1, v2, v1, v1, v1, v1, v1, v1]) := upd_same
        generalize upd H3 q3 (.lst ([v1, v1, v2, v1] ++ [v1, v1, v1, v1, v1])) = H4 at *
        have sA4 : Same HA H4 := (sAC.trans s3).trans s4
        have sH4 : Same H H4 := sp.trans sA4
        walk_at "rdh"
        refine told_rep h4 (f1.same sH4) (f2.same sH4) ?_
        walk_at "rdh"
        refine r_new (by show 3 ≤ 1000; decide) fun q4 hq4 => ?_
        have s5 := Same.new (o := .lst [v1, v1, v2]) hq4
        have h5 := upd_same (H := H4) (a := q4) (o := HO.lst [v1, v1, v2])
        generalize upd H4 q4 (.lst [v1, v1, v2]) = H5 at *
        walk_at "rdh"
        refine r_new (by show 1 ≤ 1000; decide) fun q5 hq5 => ?_
        have s6 := Same.new (o := .lst [v1]) hq5
        have h6 := upd_same (H := H5) (a := q5) (o := HO.lst [v1])
        generalize upd H5 q5 (.lst [v1]) = H6 at *
        walk_at "rdh"
        refine ⟨q5, 6, [v1], rfl, rfl, h6, by decide, by decide, (show 1 * Int.toNat 6 ≤ sizeLine by decide), fun q6 hq6 => ?_⟩
        have s7 := Same.new (o := .lst (List.replicate (6 : Int).toNat [v1]).flatten) hq6
        have h7 : (upd H6 q6 (.lst (List.replicate (6 : Int).toNat [v1]).flatten)) q6 = some (.lst [v1, v1, v1, v1, v1, v1]) := upd_same
        generalize upd H6 q6 (.lst (List.replicate (6 : Int).toNat [v1]).flatten) = H7' at *
        walk_at "rdh"
        refine r_cat (s7 _ _ (s6 _ _ h5)) h7 (by show 3 + 6 ≤ 100000; decide) fun q7 hq7 => ?_
        have s8 := Same.new (o := .lst ([v1, v1, v2] ++ [v1, v1, v1, v1, v1, v1])) hq7
        have h8 : (upd H7' q7 (.lst ([v1, v1, v2] ++ [v1, v1, v1, v1, v1, v1]))) q7 = some (.lst [v1, v1, v2, v1, v1, v1, v1, v1, v1]) := upd_same
        generalize upd H7' q7 (.lst ([v1, v1, v2] ++ [v1, v1, v1, v1, v1, v1])) = H8' at *
        have s48 : Same H4 H8' := ((s5.trans s6).trans s7).trans s8
        walk_at "rdh"
        refine told_rep h8 (f1.same (sH4.trans s48)) (f2.same (sH4.trans s48)) ?_
        generalize shT RText (.lst [t1, t1, t2, t1, t1, t1, t1, t1, t1]) = zz
        walk_at "rdh"
        refine r_ne rfl ?_
        rw [show decide (V.str zz = V.str zz) = true from decide_eq_true rfl]
        walk_at "rdh"
        refine r_iteF rfl ?_
        walk_at "rdh"
        have sA8 : Same HA H8' := sA4.trans s48
        refine r_forL ?_
        walk_at "rdh"
        refine ⟨m, _, rfl, SqL.of (sA8 _ _ hA), fun q8 hq8 => ?_⟩
        have s9 := Same.new (o := .lst [V.ref e3, .ref e4, .ref e5, .ref e6, .ref e7]) hq8
        have h9 : (upd H8' q8 (.lst (cutV ([e0, e1, e2, e3, e4, e5, e6, e7].map V.ref) (some 3) none))) = upd H8' q8 (.lst [V.ref e3, .ref e4, .ref e5, .ref e6, .ref e7]) := rfl
        rw [h9]
        clear h9
        have h9 := upd_same (H := H8') (a := q8) (o := HO.lst [V.ref e3, .ref e4, .ref e5, .ref e6, .ref e7])
        generalize upd H8' q8 (.lst [V.ref e3, .ref e4, .ref e5, .ref e6, .ref e7]) = H9' at *
        have sA9 := sA8.trans s9
        have sH9 : Same H H9' := sp.trans sA9
        refine ⟨q8, rfl, ⟨_, SqL.of h9⟩, ?_⟩
        refine for_list (K := K) (a := q8) (tb := fun D σ H => tMkRaise T.C_FigureError (fl1 "thing") (tCons (tErrF K "thing" (tVar 4)) tNil) σ H fun cls d H' => wAs K (.ref T.C_FigureError) 7 (t_ref K T.C_Number (k11 T)) (fun _ _ _ _ => False) D cls d σ H') (σ := [some v1, some v2, some (.ref m), v3, none, some (.ref q3), some (.int 0), none, none]) (xs := [V.ref e3, .ref e4, .ref e5, .ref e6, .ref e7]) (fun j σ H' => ∃ v4 : Option V, σ = [some v1, some v2, some (.ref m), v3, v4, some (.ref q3), some (.int (j : Int)), none, none] ∧ Same H9' H') ⟨none, rfl, fun _ _ h => h⟩ (fun j σ H' _ ⟨_, _, s⟩ => SqL.of (s _ _ h9)) ?_ ?_
        · rintro j x σ HX hx ⟨v4, rfl, sX⟩
          obtain ⟨e, C, rfl, ev, g⟩ := five j x hx
          have sHX : Same H HX := sH9.trans sX
          walk_at "rdh"
          refine r_raise06 ?_
          walk_at "rdh"
          refine r_errF ?_
          walk_at "rdh"
          refine ⟨e, C, _, v1, rfl, errV_same ev (sA9.trans sX), g, rfl, ?_⟩
          walk_at "rdh"
          refine ⟨_, rfl, fun d hd => ?_⟩
          have sY := Same.new (o := .xd [(("thing" : Str), v1)]) hd
          have hY := upd_same (H := HX) (a := d) (o := HO.xd [(("thing" : Str), v1)])
          generalize upd HX d (.xd [(("thing" : Str), v1)]) = HY at *
          refine ⟨true, T.te_FigureError, fun _ a ha => ?_, fun z => Bool.noConfusion z⟩
          unfold t_ref
          obtain ⟨z, rz⟩ := FTg.repP (K := K) (f1.same (sHX.trans sY))
          walk_at "rdh"
          refine r_heldF ?_
          walk_at "rdh"
          refine ⟨rfl, T.C_FigureError, d, _, v1, rfl, rfl, hY, gE T.x_FigureError T.no_FigureError, rfl, ?_⟩
          walk_at "rdh"
          refine rz _ ?_
          walk_at "rdh"
          refine rz _ ?_
          walk_at "rdh"
          refine r_iteT (decide_eq_true rfl) ?_
          walk_at "rdh"
          refine r_callP ?_
          walk_at "rdh"
          refine ⟨rfl, T.C_FigureError, d, rfl, rfl, fun oe ob => ?_⟩
          refine ⟨a, T.C_FigureError, _, _, rfl, ⟨d, ⟨oe, .inr (List.mem_singleton.mpr rfl), ob⟩, hY⟩, T.x_FigureError, T.kd_FigureError, fun u1 HZ sZ hu1 hz1 => ?_⟩
          walk_at "rdh"
          refine r_new (by show 1 ≤ 1000; decide) fun u2 hu2 => ?_
          have s21 := Same.new (o := .lst [.bl false]) hu2
          have h21 := upd_same (H := HZ) (a := u2) (o := HO.lst [.bl false])
          generalize upd HZ u2 (.lst [.bl false]) = Ha at *
          walk_at "rdh"
          refine ⟨u2, 10, [.bl false], rfl, rfl, h21, by decide, by decide, (show 1 * Int.toNat 10 ≤ sizeLine by decide), fun u3 hu3 => ?_⟩
          have s22 := Same.new (o := .lst (List.replicate (10 : Int).toNat [V.bl false]).flatten) hu3
          have h22 := upd_same (H := Ha) (a := u3) (o := HO.lst (List.replicate (10 : Int).toNat [V.bl false]).flatten)
          generalize upd Ha u3 (.lst (List.replicate (10 : Int).toNat [V.bl false]).flatten) = Hb at *
          walk_at "rdh"
          refine r_new (by show 1 ≤ 1000; decide) fun u4 hu4 => ?_
          have s23 := Same.new (o := .lst [.bl true]) hu4
          have h23 := upd_same (H := Hb) (a := u4) (o := HO.lst [.bl true])
          generalize upd Hb u4 (.lst [.bl true]) = Hc at *
          walk_at "rdh"
          refine r_cat (s23 _ _ h22) h23 (by show 10 + 1 ≤ 100000; decide) fun u5 hu5 => ?_
          have s24 := Same.new (o := .lst ((List.replicate (10 : Int).toNat [V.bl false]).flatten ++ [.bl true])) hu5
          have h24 : (upd Hc u5 (.lst ((List.replicate (10 : Int).toNat [V.bl false]).flatten ++ [.bl true]))) u5 = some (.lst ([false, false, false, false, false, false, false, false, false, false, true].map V.bl)) := upd_same
          generalize upd Hc u5 (.lst ((List.replicate (10 : Int).toNat [V.bl false]).flatten ++ [.bl true])) = Hd at *
          have sZd : Same HZ Hd := ((s21.trans s22).trans s23).trans s24
          refine ⟨_, _, dp_bools (sZd _ _ hz1), dp_bools h24, rfl, rfl, ?_⟩
          rw [bools_eqv]
          walk_at "rdh"
          refine .inr ⟨_, rfl, ?_⟩
          refine r_I0 ?_
          walk_at "rdh"
          have ej : ((j : Int) + (if true = true then 1 else 0)) = ((j + 1 : Nat) : Int) := by rw [if_pos rfl]; omega
          refine ⟨some (.ref e), ?_, (((sX.trans sY).trans sZ).trans sZd)⟩
          rw [ej]
          rfl
        · rintro σ HX ⟨v4, rfl, sX⟩
          walk_at "rdh"
          exact k HX (sH9.trans sX)
end
end My

namespace My
open PySem L2
section
variable {P : Program} {w : World} {K : PySem.W.Frag} {mg : Str → Option Value} {base : Heap}
theorem no_times (q : Rat) : (nf q).lookup ("times" : Str) = none := nf_no _ (by decide +kernel) (by decide +kernel)
theorem no_less (q : Rat) : (nf q).lookup ("less" : Str) = none := nf_no _ (by decide +kernel) (by decide +kernel)
theorem no_over (q : Rat) : (nf q).lookup ("over" : Str) = none := nf_no _ (by decide +kernel) (by decide +kernel)
theorem no_floor (q : Rat) : (nf q).lookup ("floor" : Str) = none := nf_no _ (by decide +kernel) (by decide +kernel)
theorem zero_cast : ((0 : Int) : Rat) = 0 := rfl
theorem three_one (x y : Rat) : List.count true [decide (x < y), decide (x = y), decide (y < x)] = 1 := by
  rcases Rat.le_total (a := x) (b := y) with h | h
  · by_cases e : x = y
    · have n1 : ¬ x < y := by grind
      have n2 : ¬ y < x := by grind
      rw [decide_eq_true e, decide_eq_false n1, decide_eq_false n2]; rfl
    · have n1 : x < y := by grind
      have n2 : ¬ y < x := by grind
      rw [decide_eq_false e, decide_eq_true n1, decide_eq_false n2]; rfl
  · by_cases e : x = y
    · have n1 : ¬ x < y := by grind
      have n2 : ¬ y < x := by grind
      rw [decide_eq_true e, decide_eq_false n1, decide_eq_false n2]; rfl
    · have n1 : ¬ x < y := by grind
      have n2 : y < x := by grind
      rw [decide_eq_false e, decide_eq_false n1, decide_eq_true n2]; rfl
theorem sub_lt0 (x y : Rat) : decide (x - y < ((0 : Int) : Rat)) = decide (x < y) := by
  rw [Bool.eq_iff_iff, decide_eq_true_eq, decide_eq_true_eq, zero_cast]
  constructor <;> intro h <;> grind
theorem absQ_nnv {x : Rat} (h : 0 ≤ x) : absQ x = x := by rw [absQ_eq, if_pos h]
theorem absQ_mul2 (x y : Rat) : absQ (x * y) = absQ x * absQ y := by
  have pos : ∀ u v : Rat, 0 ≤ u → 0 ≤ v → absQ (u * v) = absQ u * absQ v := fun u v hu hv => by
    rw [absQ_nnv hu, absQ_nnv hv, absQ_nnv (Rat.mul_nonneg hu hv)]
  rcases Rat.le_total (a := 0) (b := x) with hx | hx
  · rcases Rat.le_total (a := 0) (b := y) with hy | hy
    · exact pos x y hx hy
    · have q := pos x (-y) hx (by grind)
      rw [absQ_neg, show x * -y = -(x * y) by grind, absQ_neg] at q
      exact q
  · rcases Rat.le_total (a := 0) (b := y) with hy | hy
    · have q := pos (-x) y (by grind) hy
      rw [absQ_neg, show -x * y = -(x * y) by grind, absQ_neg] at q
      exact q
    · have q := pos (-x) (-y) (by grind) (by grind)
      rw [absQ_neg, absQ_neg, show -x * -y = x * y by grind] at q
      exact q
theorem abs_tri (x y : Rat) : ¬ absQ (x + y) < absQ (absQ x - absQ y) := by
  rw [absQ_eq (x + y), absQ_eq (absQ x - absQ y), absQ_eq x, absQ_eq y]
  repeat' split
  all_goals grind
theorem not_lt_floor {x : Rat} (h : x < ((x.floor : Int) : Rat)) : False := by
  have := Rat.floor_le (a := x)
  grind
theorem lt_floor1 (x : Rat) : x < ((x.floor : Int) : Rat) + ((1 : Int) : Rat) := by
  have := Rat.lt_floor_add_one (a := x)
  have e : ((1 : Int) : Rat) = 1 := rfl
  rw [e]
  grind
theorem den_one (x : Rat) : decide ((x.den : Int) = 1) = decide (((x.floor : Int) : Rat) = x) := by
  rw [Bool.eq_iff_iff, decide_eq_true_eq, decide_eq_true_eq]
  constructor
  · intro h
    have d : x.den = 1 := by omega
    have f : x.floor = x.num := by rw [Rat.floor_def, d]; simp
    rw [f]
    exact Rat.ext rfl d.symm
  · intro h
    have e : (((x.floor : Int) : Rat)).den = x.den := congrArg Rat.den h
    have e1 : (((x.floor : Int) : Rat)).den = 1 := rfl
    omega
def spRules (C : Addr) : Sp := fun vs H Q _ => ∃ (a b c : Addr) (x y z : Rat), vs = [.ref a, .ref b, .ref c] ∧ NumAt C H a x ∧ NumAt C H b y ∧ NumAt C H c z ∧ Bd 160 x ∧ Bd 160 y ∧ Bd 160 z ∧ ∀ H', Same H H' → Q (.bl true) H'
theorem ok_l_rules_right (T : Txt w K mg) : FnOk P w K mg base CX0 4 T.f_l_rules_right T.fd_l_rules_right ["_law_a", "_law_b", "_law_c"] (spRules T.C_Number) := by
  refine T.F_l_rules_right.ok sc_l_rules_right (fun vs H Q E h => ?_) (fun cdv A outer s H vs Q E hr h => ?_)
  · obtain ⟨a, b, c, x, y, z, rfl, _⟩ := h
    rfl
  · obtain ⟨a, b, c, x, y, z, rfl, ha, hb, hc, bx, by1, bz, k⟩ := h
    have sH : Same H H := fun _ _ h => h
    have ha0 := ha
    have hb0 := hb
    have hc0 := hc
    refine ⟨_, (C8.pss_cut (ps_if (PW.pt (pw_or (pt_cmpR (op_neOwn (ok_Number_eq T) T.me_Number_eq.at_ T.me_Number_eq.fn T.b_Number_eq T.ne_Number T.ty_Number_m (hr.mono (by decide))) (pe_meth (pe_meth (pv 0) T.c_Number T.me_Number_more (ok_Number_more T) (hr.mono (by decide)) T.b_Number_more .nil pass0 (pa_cons (pv 1) pa_nil)) T.c_Number T.me_Number_less (ok_Number_less T) (hr.mono (by decide)) T.b_Number_less .nil pass0 (pa_cons (pv 1) pa_nil)) (pv 0) (nomark _)) (pw_or (pt_cmpR (op_neOwn (ok_Number_eq T) T.me_Number_eq.at_ T.me_Number_eq.fn T.b_Number_eq T.ne_Number T.ty_Number_m (hr.mono (by decide))) (pe_meth (pv 0) T.c_Number T.me_Number_more (ok_Number_more T) (hr.mono (by decide)) T.b_Number_more .nil pass0 (pa_cons (pv 1) pa_nil)) (pe_meth (pv 1) T.c_Number T.me_Number_more (ok_Number_more T) (hr.mono (by decide)) T.b_Number_more .nil pass0 (pa_cons (pv 0) pa_nil)) (nomark _)) (pw_or1 (pt_cmpR (op_neOwn (ok_Number_eq T) T.me_Number_eq.at_ T.me_Number_eq.fn T.b_Number_eq T.ne_Number T.ty_Number_m (hr.mono (by decide))) (pe_meth (pv 0) T.c_Number T.me_Number_times (ok_Number_times T) (hr.mono (by decide)) T.b_Number_times .nil pass0 (pa_cons (pv 1) pa_nil)) (pe_meth (pv 1) T.c_Number T.me_Number_times (ok_Number_times T) (hr.mono (by decide)) T.b_Number_times .nil pass0 (pa_cons (pv 0) pa_nil)) (nomark _))))))
  (pss_one (ps_ret pe_bl))
  pss_nil)
 (C8.pss_cut (ps_if (pt_cmpR (op_neOwn (ok_Number_eq T) T.me_Number_eq.at_ T.me_Number_eq.fn T.b_Number_eq T.ne_Number T.ty_Number_m (hr.mono (by decide))) (pe_meth (pv 0) T.c_Number T.me_Number_less (ok_Number_less T) (hr.mono (by decide)) T.b_Number_less .nil pass0 (pa_cons (pv 1) pa_nil)) (pe_meth (pe_make T.mk_Number (ok_Number_init T) (hr.mono (by decide)) (by rfl) T.m_Number T.b_Number_init1 T.d_Number_init1 pass0 (pa_cons pe_int pa_nil)) T.c_Number T.me_Number_less (ok_Number_less T) (hr.mono (by decide)) T.b_Number_less .nil pass0 (pa_cons (pe_meth (pv 1) T.c_Number T.me_Number_less (ok_Number_less T) (hr.mono (by decide)) T.b_Number_less .nil pass0 (pa_cons (pv 0) pa_nil)) pa_nil)) (nomark _))
  (pss_one (ps_ret pe_bl))
  pss_nil)
 (C8.pss_cut (ps_if (PW.pt (pw_or (pt_cmpR (op_neOwn (ok_Number_eq T) T.me_Number_eq.at_ T.me_Number_eq.fn T.b_Number_eq T.ne_Number T.ty_Number_m (hr.mono (by decide))) (pe_meth (pe_meth (pv 0) T.c_Number T.me_Number_more (ok_Number_more T) (hr.mono (by decide)) T.b_Number_more .nil pass0 (pa_cons (pv 1) pa_nil)) T.c_Number T.me_Number_more (ok_Number_more T) (hr.mono (by decide)) T.b_Number_more .nil pass0 (pa_cons (pv 2) pa_nil)) (pe_meth (pv 0) T.c_Number T.me_Number_more (ok_Number_more T) (hr.mono (by decide)) T.b_Number_more .nil pass0 (pa_cons (pe_meth (pv 1) T.c_Number T.me_Number_more (ok_Number_more T) (hr.mono (by decide)) T.b_Number_more .nil pass0 (pa_cons (pv 2) pa_nil)) pa_nil)) (nomark _)) (pw_or1 (pt_cmpR (op_neOwn (ok_Number_eq T) T.me_Number_eq.at_ T.me_Number_eq.fn T.b_Number_eq T.ne_Number T.ty_Number_m (hr.mono (by decide))) (pe_meth (pe_meth (pv 0) T.c_Number T.me_Number_times (ok_Number_times T) (hr.mono (by decide)) T.b_Number_times .nil pass0 (pa_cons (pv 1) pa_nil)) T.c_Number T.me_Number_times (ok_Number_times T) (hr.mono (by decide)) T.b_Number_times .nil pass0 (pa_cons (pv 2) pa_nil)) (pe_meth (pv 0) T.c_Number T.me_Number_times (ok_Number_times T) (hr.mono (by decide)) T.b_Number_times .nil pass0 (pa_cons (pe_meth (pv 1) T.c_Number T.me_Number_times (ok_Number_times T) (hr.mono (by decide)) T.b_Number_times .nil pass0 (pa_cons (pv 2) pa_nil)) pa_nil)) (nomark _)))))
  (pss_one (ps_ret pe_bl))
  pss_nil)
 (C8.pss_cut (ps_if (PW.pt (pw_or (pt_cmpR (op_neOwn (ok_Number_eq T) T.me_Number_eq.at_ T.me_Number_eq.fn T.b_Number_eq T.ne_Number T.ty_Number_m (hr.mono (by decide))) (pe_meth (pv 0) T.c_Number T.me_Number_times (ok_Number_times T) (hr.mono (by decide)) T.b_Number_times .nil pass0 (pa_cons (pe_meth (pv 1) T.c_Number T.me_Number_more (ok_Number_more T) (hr.mono (by decide)) T.b_Number_more .nil pass0 (pa_cons (pv 2) pa_nil)) pa_nil)) (pe_meth (pe_meth (pv 0) T.c_Number T.me_Number_times (ok_Number_times T) (hr.mono (by decide)) T.b_Number_times .nil pass0 (pa_cons (pv 1) pa_nil)) T.c_Number T.me_Number_more (ok_Number_more T) (hr.mono (by decide)) T.b_Number_more .nil pass0 (pa_cons (pe_meth (pv 0) T.c_Number T.me_Number_times (ok_Number_times T) (hr.mono (by decide)) T.b_Number_times .nil pass0 (pa_cons (pv 2) pa_nil)) pa_nil)) (nomark _)) (pw_or1 (PW.pt (pw_and (pt_cmpR (op_neOwn (ok_Number_eq T) T.me_Number_eq.at_ T.me_Number_eq.fn T.b_Number_eq T.ne_Number T.ty_Number_m (hr.mono (by decide))) (pv 1) (pe_make T.mk_Number (ok_Number_init T) (hr.mono (by decide)) (by rfl) T.m_Number T.b_Number_init1 T.d_Number_init1 pass0 (pa_cons pe_int pa_nil)) (nomark _)) (pw_and1 (pt_cmpR (op_neOwn (ok_Number_eq T) T.me_Number_eq.at_ T.me_Number_eq.fn T.b_Number_eq T.ne_Number T.ty_Number_m (hr.mono (by decide))) (pe_meth (pe_meth (pv 0) T.c_Number T.me_Number_times (ok_Number_times T) (hr.mono (by decide)) T.b_Number_times .nil pass0 (pa_cons (pv 1) pa_nil)) T.c_Number T.me_Number_over (ok_Number_over T) (hr.mono (by decide)) T.b_Number_over .nil pass0 (pa_cons (pv 1) pa_nil)) (pv 0) (nomark _))))))))
  (pss_one (ps_ret pe_bl))
  pss_nil)
 (C8.pss_cut (ps_if (PW.pt (pw_or (pt_cmpR op_ne (pe_bm PySem.F.plainAttrs_list PySem.F.slot_list_count PySem.F.type_list_count mt_cntB (pe_lst (pa_cons (pe_meth (pv 0) T.c_Number T.me_Number_below (ok_Number_below T) (hr.mono (by decide)) T.b_Number_below .nil pass0 (pa_cons (pv 1) pa_nil)) (pa_cons (pe_cmpR (op_eqOwn (ok_Number_eq T) T.me_Number_eq.at_ T.me_Number_eq.fn T.b_Number_eq (hr.mono (by decide))) (pv 0) (pv 1) (nomark _)) (pa_cons (pe_meth (pv 1) T.c_Number T.me_Number_below (ok_Number_below T) (hr.mono (by decide)) T.b_Number_below .nil pass0 (pa_cons (pv 0) pa_nil)) pa_nil)))) (pa_cons pe_bl pa_nil)) pe_int (nomark _)) (pw_or1 (pt_cmpR op_ne (pe_meth (pv 0) T.c_Number T.me_Number_below (ok_Number_below T) (hr.mono (by decide)) T.b_Number_below .nil pass0 (pa_cons (pv 1) pa_nil)) (pe_meth (pe_meth (pv 0) T.c_Number T.me_Number_less (ok_Number_less T) (hr.mono (by decide)) T.b_Number_less .nil pass0 (pa_cons (pv 1) pa_nil)) T.c_Number T.me_Number_below (ok_Number_below T) (hr.mono (by decide)) T.b_Number_below .nil pass0 (pa_cons (pe_make T.mk_Number (ok_Number_init T) (hr.mono (by decide)) (by rfl) T.m_Number T.b_Number_init1 T.d_Number_init1 pass0 (pa_cons pe_int pa_nil)) pa_nil)) (nomark _)))))
  (pss_one (ps_ret pe_bl))
  pss_nil)
 (C8.pss_cut (ps_if (PW.pt (pw_or (pt_cmpR (op_neOwn (ok_Number_eq T) T.me_Number_eq.at_ T.me_Number_eq.fn T.b_Number_eq T.ne_Number T.ty_Number_m (hr.mono (by decide))) (pe_meth0 (pe_meth (pv 0) T.c_Number T.me_Number_times (ok_Number_times T) (hr.mono (by decide)) T.b_Number_times .nil pass0 (pa_cons (pv 1) pa_nil)) T.c_Number T.me_Number_size (ok_Number_size T) (hr.mono (by decide)) T.b_Number_size .nil pass0) (pe_meth (pe_meth0 (pv 0) T.c_Number T.me_Number_size (ok_Number_size T) (hr.mono (by decide)) T.b_Number_size .nil pass0) T.c_Number T.me_Number_times (ok_Number_times T) (hr.mono (by decide)) T.b_Number_times .nil pass0 (pa_cons (pe_meth0 (pv 1) T.c_Number T.me_Number_size (ok_Number_size T) (hr.mono (by decide)) T.b_Number_size .nil pass0) pa_nil)) (nomark _)) (pw_or1 (pt_val (pe_meth (pe_meth0 (pe_meth (pv 0) T.c_Number T.me_Number_more (ok_Number_more T) (hr.mono (by decide)) T.b_Number_more .nil pass0 (pa_cons (pv 1) pa_nil)) T.c_Number T.me_Number_size (ok_Number_size T) (hr.mono (by decide)) T.b_Number_size .nil pass0) T.c_Number T.me_Number_below (ok_Number_below T) (hr.mono (by decide)) T.b_Number_below .nil pass0 (pa_cons (pe_meth0 (pe_meth (pe_meth0 (pv 0) T.c_Number T.me_Number_size (ok_Number_size T) (hr.mono (by decide)) T.b_Number_size .nil pass0) T.c_Number T.me_Number_less (ok_Number_less T) (hr.mono (by decide)) T.b_Number_less .nil pass0 (pa_cons (pe_meth0 (pv 1) T.c_Number T.me_Number_size (ok_Number_size T) (hr.mono (by decide)) T.b_Number_size .nil pass0) pa_nil)) T.c_Number T.me_Number_size (ok_Number_size T) (hr.mono (by decide)) T.b_Number_size .nil pass0) pa_nil))))))
  (pss_one (ps_ret pe_bl))
  pss_nil)
 (pss_cons (ps_set (i := 3) sc_l_rules_right.nd rfl (Or.inl rfl) (pe_make T.mk_Number (ok_Number_init T) (hr.mono (by decide)) (by rfl) T.m_Number T.b_Number_init1 T.d_Number_init1 pass0 (pa_cons (pe_meth0 (pv 0) T.c_Number T.me_Number_floor (ok_Number_floor T) (hr.mono (by decide)) T.b_Number_floor .nil pass0) pa_nil)))
 (pss_one (ps_ret (pe_and (pe_not (pe_meth (pv 0) T.c_Number T.me_Number_below (ok_Number_below T) (hr.mono (by decide)) T.b_Number_below .nil pass0 (pa_cons (pv 3) pa_nil))) (pe_and (pe_meth (pv 0) T.c_Number T.me_Number_below (ok_Number_below T) (hr.mono (by decide)) T.b_Number_below .nil pass0 (pa_cons (pe_meth (pv 3) T.c_Number T.me_Number_more (ok_Number_more T) (hr.mono (by decide)) T.b_Number_more .nil pass0 (pa_cons (pe_make T.mk_Number (ok_Number_init T) (hr.mono (by decide)) (by rfl) T.m_Number T.b_Number_init1 T.d_Number_init1 pass0 (pa_cons pe_int pa_nil)) pa_nil)) pa_nil)) (pe_one (pe_cmpR op_eq (pe_cmpR op_eq (pe_fld (pv 0) rfl) pe_int (nomark _)) (pe_cmpR (op_eqOwn (ok_Number_eq T) T.me_Number_eq.at_ T.me_Number_eq.fn T.b_Number_eq (hr.mono (by decide))) (pv 3) (pv 0) (nomark _)) (nomark _)))))))))))))), ?_⟩
    refine r_cut (fun σ2 H2 => σ2 = [some (.ref a), some (.ref b), some (.ref c), none] ∧ Same H H2) ?_ ?_
    · walk_at "rdh"
      obtain ⟨dx0, e0⟩ := id ha
      refine r_meth1 e0 (no_more _) ?_
      clear e0
      walk_at "rdh"
      refine ⟨a, b, _, _, rfl, ha, hb, bx.mono (by decide), by1.mono (by decide), trivial, fun r1 G1 s1 n1 (h1 : NumAt T.C_Number G1 r1 (x + y)) => ?_⟩
      replace ha := ha.same s1
      replace hb := hb.same s1
      replace hc := hc.same s1
      replace sH := sH.trans s1
      have b1 : Bd 321 (x + y) := Bd.add bx by1
      walk_at "rdh"
      obtain ⟨dx1, e1⟩ := id h1
      refine r_meth1 e1 (no_less _) ?_
      clear e1
      walk_at "rdh"
      refine ⟨r1, b, _, _, rfl, h1, hb, b1.mono (by decide), by1.mono (by decide), trivial, fun r2 G2 s2 n2 (h2 : NumAt T.C_Number G2 r2 ((x + y) - y)) => ?_⟩
      replace ha := ha.same s2
      replace hb := hb.same s2
      replace hc := hc.same s2
      replace h1 := h1.same s2
      replace sH := sH.trans s2
      have b2 : Bd 482 ((x + y) - y) := Bd.sub b1 by1
      walk_at "rdh"
      refine r_neNum h2 ha ?_
      rw [show decide ((x + y) - y = x) = true from decide_eq_true (by grind)]
      walk_at "rdh"
      refine r_iteF rfl ?_
      walk_at "rdh"
      obtain ⟨dx2, e2⟩ := id ha
      refine r_meth1 e2 (no_more _) ?_
      clear e2
      walk_at "rdh"
      refine ⟨a, b, _, _, rfl, ha, hb, bx.mono (by decide), by1.mono (by decide), trivial, fun r3 G3 s3 n3 (h3 : NumAt T.C_Number G3 r3 (x + y)) => ?_⟩
      replace ha := ha.same s3
      replace hb := hb.same s3
      replace hc := hc.same s3
      replace h1 := h1.same s3
      replace h2 := h2.same s3
      replace sH := sH.trans s3
      have b3 : Bd 321 (x + y) := Bd.add bx by1
      walk_at "rdh"
      obtain ⟨dx3, e3⟩ := id hb
      refine r_meth1 e3 (no_more _) ?_
      clear e3
      walk_at "rdh"
      refine ⟨b, a, _, _, rfl, hb, ha, by1.mono (by decide), bx.mono (by decide), trivial, fun r4 G4 s4 n4 (h4 : NumAt T.C_Number G4 r4 (y + x)) => ?_⟩
      replace ha := ha.same s4
      replace hb := hb.same s4
      replace hc := hc.same s4
      replace h1 := h1.same s4
      replace h2 := h2.same s4
      replace h3 := h3.same s4
      replace sH := sH.trans s4
      have b4 : Bd 321 (y + x) := Bd.add by1 bx
      walk_at "rdh"
      refine r_neNum h3 h4 ?_
      rw [show decide (x + y = y + x) = true from decide_eq_true (by grind)]
      walk_at "rdh"
      refine r_iteF rfl ?_
      walk_at "rdh"
      obtain ⟨dx4, e4⟩ := id ha
      refine r_meth1 e4 (no_times _) ?_
      clear e4
      walk_at "rdh"
      refine ⟨a, b, _, _, rfl, ha, hb, bx.mono (by decide), by1.mono (by decide), trivial, fun r5 G5 s5 n5 (h5 : NumAt T.C_Number G5 r5 (x * y)) => ?_⟩
      replace ha := ha.same s5
      replace hb := hb.same s5
      replace hc := hc.same s5
      replace h1 := h1.same s5
      replace h2 := h2.same s5
      replace h3 := h3.same s5
      replace h4 := h4.same s5
      replace sH := sH.trans s5
      have b5 : Bd 320 (x * y) := Bd.mul bx by1
      walk_at "rdh"
      obtain ⟨dx5, e5⟩ := id hb
      refine r_meth1 e5 (no_times _) ?_
      clear e5
      walk_at "rdh"
      refine ⟨b, a, _, _, rfl, hb, ha, by1.mono (by decide), bx.mono (by decide), trivial, fun r6 G6 s6 n6 (h6 : NumAt T.C_Number G6 r6 (y * x)) => ?_⟩
      replace ha := ha.same s6
      replace hb := hb.same s6
      replace hc := hc.same s6
      replace h1 := h1.same s6
      replace h2 := h2.same s6
      replace h3 := h3.same s6
      replace h4 := h4.same s6
      replace h5 := h5.same s6
      replace sH := sH.trans s6
      have b6 : Bd 320 (y * x) := Bd.mul by1 bx
      walk_at "rdh"
      refine r_neNum h5 h6 ?_
      rw [show decide (x * y = y * x) = true from decide_eq_true (by grind)]
      walk_at "rdh"
      refine r_iteF rfl ?_
      walk_at "rdh"
      exact ⟨rfl, sH⟩
    clear sH
    rintro σ2 H0 ⟨rfl, sH⟩
    have ha := ha0.same sH
    have hb := hb0.same sH
    have hc := hc0.same sH
    refine r_cut (fun σ2 H2 => σ2 = [some (.ref a), some (.ref b), some (.ref c), none] ∧ Same H H2) ?_ ?_
    · walk_at "rdh"
      obtain ⟨dx6, e6⟩ := id ha
      refine r_meth1 e6 (no_less _) ?_
      clear e6
      walk_at "rdh"
      refine ⟨a, b, _, _, rfl, ha, hb, bx.mono (by decide), by1.mono (by decide), trivial, fun r7 G7 s7 n7 (h7 : NumAt T.C_Number G7 r7 (x - y)) => ?_⟩
      replace ha := ha.same s7
      replace hb := hb.same s7
      replace hc := hc.same s7
      replace sH := sH.trans s7
      have b7 : Bd 321 (x - y) := Bd.sub bx by1
      walk_at "rdh"
      refine mk_num1 fun r8 G8 s8 n8 (h8 : NumAt T.C_Number G8 r8 (((0 : Int) : Rat))) => ?_
      replace ha := ha.same s8
      replace hb := hb.same s8
      replace hc := hc.same s8
      replace h7 := h7.same s8
      replace sH := sH.trans s8
      have b8 : Bd 1 (((0 : Int) : Rat)) := Bd.int (by decide) (by decide)
      walk_at "rdh"
      obtain ⟨dx8, e8⟩ := id h8
      refine r_meth1 e8 (no_less _) ?_
      clear e8
      walk_at "rdh"
      obtain ⟨dx8, e8⟩ := id hb
      refine r_meth1 e8 (no_less _) ?_
      clear e8
      walk_at "rdh"
      refine ⟨b, a, _, _, rfl, hb, ha, by1.mono (by decide), bx.mono (by decide), trivial, fun r9 G9 s9 n9 (h9 : NumAt T.C_Number G9 r9 (y - x)) => ?_⟩
      replace ha := ha.same s9
      replace hb := hb.same s9
      replace hc := hc.same s9
      replace h7 := h7.same s9
      replace h8 := h8.same s9
      replace sH := sH.trans s9
      have b9 : Bd 321 (y - x) := Bd.sub by1 bx
      walk_at "rdh"
      refine ⟨r8, r9, _, _, rfl, h8, h9, b8.mono (by decide), b9.mono (by decide), trivial, fun r10 G10 s10 n10 (h10 : NumAt T.C_Number G10 r10 ((((0 : Int) : Rat)) - (y - x))) => ?_⟩
      replace ha := ha.same s10
      replace hb := hb.same s10
      replace hc := hc.same s10
      replace h7 := h7.same s10
      replace h8 := h8.same s10
      replace h9 := h9.same s10
      replace sH := sH.trans s10
      have b10 : Bd 323 ((((0 : Int) : Rat)) - (y - x)) := Bd.sub b8 b9
      walk_at "rdh"
      refine r_neNum h7 h10 ?_
      rw [show decide (x - y = (((0 : Int) : Rat)) - (y - x)) = true from decide_eq_true (by rw [zero_cast]; grind)]
      walk_at "rdh"
      refine r_iteF rfl ?_
      walk_at "rdh"
      exact ⟨rfl, sH⟩
    clear sH
    rintro σ2 H0 ⟨rfl, sH⟩
    have ha := ha0.same sH
    have hb := hb0.same sH
    have hc := hc0.same sH
    refine r_cut (fun σ2 H2 => σ2 = [some (.ref a), some (.ref b), some (.ref c), none] ∧ Same H H2) ?_ ?_
    · walk_at "rdh"
      obtain ⟨dx10, e10⟩ := id ha
      refine r_meth1 e10 (no_more _) ?_
      clear e10
      walk_at "rdh"
      refine ⟨a, b, _, _, rfl, ha, hb, bx.mono (by decide), by1.mono (by decide), trivial, fun r11 G11 s11 n11 (h11 : NumAt T.C_Number G11 r11 (x + y)) => ?_⟩
      replace ha := ha.same s11
      replace hb := hb.same s11
      replace hc := hc.same s11
      replace sH := sH.trans s11
      have b11 : Bd 321 (x + y) := Bd.add bx by1
      walk_at "rdh"
      obtain ⟨dx11, e11⟩ := id h11
      refine r_meth1 e11 (no_more _) ?_
      clear e11
      walk_at "rdh"
      refine ⟨r11, c, _, _, rfl, h11, hc, b11.mono (by decide), bz.mono (by decide), trivial, fun r12 G12 s12 n12 (h12 : NumAt T.C_Number G12 r12 ((x + y) + z)) => ?_⟩
      replace ha := ha.same s12
      replace hb := hb.same s12
      replace hc := hc.same s12
      replace h11 := h11.same s12
      replace sH := sH.trans s12
      have b12 : Bd 482 ((x + y) + z) := Bd.add b11 bz
      walk_at "rdh"
      obtain ⟨dx12, e12⟩ := id ha
      refine r_meth1 e12 (no_more _) ?_
      clear e12
      walk_at "rdh"
      obtain ⟨dx12, e12⟩ := id hb
      refine r_meth1 e12 (no_more _) ?_
      clear e12
      walk_at "rdh"
      refine ⟨b, c, _, _, rfl, hb, hc, by1.mono (by decide), bz.mono (by decide), trivial, fun r13 G13 s13 n13 (h13 : NumAt T.C_Number G13 r13 (y + z)) => ?_⟩
      replace ha := ha.same s13
      replace hb := hb.same s13
      replace hc := hc.same s13
      replace h11 := h11.same s13
      replace h12 := h12.same s13
      replace sH := sH.trans s13
      have b13 : Bd 321 (y + z) := Bd.add by1 bz
      walk_at "rdh"
      refine ⟨a, r13, _, _, rfl, ha, h13, bx.mono (by decide), b13.mono (by decide), trivial, fun r14 G14 s14 n14 (h14 : NumAt T.C_Number G14 r14 (x + (y + z))) => ?_⟩
      replace ha := ha.same s14
      replace hb := hb.same s14
      replace hc := hc.same s14
      replace h11 := h11.same s14
      replace h12 := h12.same s14
      replace h13 := h13.same s14
      replace sH := sH.trans s14
      have b14 : Bd 482 (x + (y + z)) := Bd.add bx b13
      walk_at "rdh"
      refine r_neNum h12 h14 ?_
      rw [show decide ((x + y) + z = x + (y + z)) = true from decide_eq_true (by grind)]
      walk_at "rdh"
      refine r_iteF rfl ?_
      walk_at "rdh"
      obtain ⟨dx14, e14⟩ := id ha
      refine r_meth1 e14 (no_times _) ?_
      clear e14
      walk_at "rdh"
      refine ⟨a, b, _, _, rfl, ha, hb, bx.mono (by decide), by1.mono (by decide), trivial, fun r15 G15 s15 n15 (h15 : NumAt T.C_Number G15 r15 (x * y)) => ?_⟩
      replace ha := ha.same s15
      replace hb := hb.same s15
      replace hc := hc.same s15
      replace h11 := h11.same s15
      replace h12 := h12.same s15
      replace h13 := h13.same s15
      replace h14 := h14.same s15
      replace sH := sH.trans s15
      have b15 : Bd 320 (x * y) := Bd.mul bx by1
      walk_at "rdh"
      obtain ⟨dx15, e15⟩ := id h15
      refine r_meth1 e15 (no_times _) ?_
      clear e15
      walk_at "rdh"
      refine ⟨r15, c, _, _, rfl, h15, hc, b15.mono (by decide), bz.mono (by decide), trivial, fun r16 G16 s16 n16 (h16 : NumAt T.C_Number G16 r16 ((x * y) * z)) => ?_⟩
      replace ha := ha.same s16
      replace hb := hb.same s16
      replace hc := hc.same s16
      replace h11 := h11.same s16
      replace h12 := h12.same s16
      replace h13 := h13.same s16
      replace h14 := h14.same s16
      replace h15 := h15.same s16
      replace sH := sH.trans s16
      have b16 : Bd 480 ((x * y) * z) := Bd.mul b15 bz
      walk_at "rdh"
      obtain ⟨dx16, e16⟩ := id ha
      refine r_meth1 e16 (no_times _) ?_
      clear e16
      walk_at "rdh"
      obtain ⟨dx16, e16⟩ := id hb
      refine r_meth1 e16 (no_times _) ?_
      clear e16
      walk_at "rdh"
      refine ⟨b, c, _, _, rfl, hb, hc, by1.mono (by decide), bz.mono (by decide), trivial, fun r17 G17 s17 n17 (h17 : NumAt T.C_Number G17 r17 (y * z)) => ?_⟩
      replace ha := ha.same s17
      replace hb := hb.same s17
      replace hc := hc.same s17
      replace h11 := h11.same s17
      replace h12 := h12.same s17
      replace h13 := h13.same s17
      replace h14 := h14.same s17
      replace h15 := h15.same s17
      replace h16 := h16.same s17
      replace sH := sH.trans s17
      have b17 : Bd 320 (y * z) := Bd.mul by1 bz
      walk_at "rdh"
      refine ⟨a, r17, _, _, rfl, ha, h17, bx.mono (by decide), b17.mono (by decide), trivial, fun r18 G18 s18 n18 (h18 : NumAt T.C_Number G18 r18 (x * (y * z))) => ?_⟩
      replace ha := ha.same s18
      replace hb := hb.same s18
      replace hc := hc.same s18
      replace h11 := h11.same s18
      replace h12 := h12.same s18
      replace h13 := h13.same s18
      replace h14 := h14.same s18
      replace h15 := h15.same s18
      replace h16 := h16.same s18
      replace h17 := h17.same s18
      replace sH := sH.trans s18
      have b18 : Bd 480 (x * (y * z)) := Bd.mul bx b17
      walk_at "rdh"
      refine r_neNum h16 h18 ?_
      rw [show decide ((x * y) * z = x * (y * z)) = true from decide_eq_true (by grind)]
      walk_at "rdh"
      refine r_iteF rfl ?_
      walk_at "rdh"
      exact ⟨rfl, sH⟩
    clear sH
    rintro σ2 H0 ⟨rfl, sH⟩
    have ha := ha0.same sH
    have hb := hb0.same sH
    have hc := hc0.same sH
    refine r_cut (fun σ2 H2 => σ2 = [some (.ref a), some (.ref b), some (.ref c), none] ∧ Same H H2) ?_ ?_
    · walk_at "rdh"
      obtain ⟨dx18, e18⟩ := id ha
      refine r_meth1 e18 (no_times _) ?_
      clear e18
      walk_at "rdh"
      obtain ⟨dx18, e18⟩ := id hb
      refine r_meth1 e18 (no_more _) ?_
      clear e18
      walk_at "rdh"
      refine ⟨b, c, _, _, rfl, hb, hc, by1.mono (by decide), bz.mono (by decide), trivial, fun r19 G19 s19 n19 (h19 : NumAt T.C_Number G19 r19 (y + z)) => ?_⟩
      replace ha := ha.same s19
      replace hb := hb.same s19
      replace hc := hc.same s19
      replace sH := sH.trans s19
      have b19 : Bd 321 (y + z) := Bd.add by1 bz
      walk_at "rdh"
      refine ⟨a, r19, _, _, rfl, ha, h19, bx.mono (by decide), b19.mono (by decide), trivial, fun r20 G20 s20 n20 (h20 : NumAt T.C_Number G20 r20 (x * (y + z))) => ?_⟩
      replace ha := ha.same s20
      replace hb := hb.same s20
      replace hc := hc.same s20
      replace h19 := h19.same s20
      replace sH := sH.trans s20
      have b20 : Bd 481 (x * (y + z)) := Bd.mul bx b19
      walk_at "rdh"
      obtain ⟨dx20, e20⟩ := id ha
      refine r_meth1 e20 (no_times _) ?_
      clear e20
      walk_at "rdh"
      refine ⟨a, b, _, _, rfl, ha, hb, bx.mono (by decide), by1.mono (by decide), trivial, fun r21 G21 s21 n21 (h21 : NumAt T.C_Number G21 r21 (x * y)) => ?_⟩
      replace ha := ha.same s21
      replace hb := hb.same s21
      replace hc := hc.same s21
      replace h19 := h19.same s21
      replace h20 := h20.same s21
      replace sH := sH.trans s21
      have b21 : Bd 320 (x * y) := Bd.mul bx by1
      walk_at "rdh"
      obtain ⟨dx21, e21⟩ := id h21
      refine r_meth1 e21 (no_more _) ?_
      clear e21
      walk_at "rdh"
      obtain ⟨dx21, e21⟩ := id ha
      refine r_meth1 e21 (no_times _) ?_
      clear e21
      walk_at "rdh"
      refine ⟨a, c, _, _, rfl, ha, hc, bx.mono (by decide), bz.mono (by decide), trivial, fun r22 G22 s22 n22 (h22 : NumAt T.C_Number G22 r22 (x * z)) => ?_⟩
      replace ha := ha.same s22
      replace hb := hb.same s22
      replace hc := hc.same s22
      replace h19 := h19.same s22
      replace h20 := h20.same s22
      replace h21 := h21.same s22
      replace sH := sH.trans s22
      have b22 : Bd 320 (x * z) := Bd.mul bx bz
      walk_at "rdh"
      refine ⟨r21, r22, _, _, rfl, h21, h22, b21.mono (by decide), b22.mono (by decide), trivial, fun r23 G23 s23 n23 (h23 : NumAt T.C_Number G23 r23 ((x * y) + (x * z))) => ?_⟩
      replace ha := ha.same s23
      replace hb := hb.same s23
      replace hc := hc.same s23
      replace h19 := h19.same s23
      replace h20 := h20.same s23
      replace h21 := h21.same s23
      replace h22 := h22.same s23
      replace sH := sH.trans s23
      have b23 : Bd 641 ((x * y) + (x * z)) := Bd.add b21 b22
      walk_at "rdh"
      refine r_neNum h20 h23 ?_
      rw [show decide (x * (y + z) = (x * y) + (x * z)) = true from decide_eq_true (by grind)]
      walk_at "rdh"
      refine r_iteF rfl ?_
      walk_at "rdh"
      refine mk_num1 fun r24 G24 s24 n24 (h24 : NumAt T.C_Number G24 r24 (((0 : Int) : Rat))) => ?_
      replace ha := ha.same s24
      replace hb := hb.same s24
      replace hc := hc.same s24
      replace h19 := h19.same s24
      replace h20 := h20.same s24
      replace h21 := h21.same s24
      replace h22 := h22.same s24
      replace h23 := h23.same s24
      replace sH := sH.trans s24
      have b24 : Bd 1 (((0 : Int) : Rat)) := Bd.int (by decide) (by decide)
      walk_at "rdh"
      refine r_neNum hb h24 ?_
      walk_at "rdh"
      by_cases hy0 : y = 0
      · rw [show decide (y = ((0 : Int) : Rat)) = true from decide_eq_true hy0]
        walk_at "rdh"
        refine r_iteF rfl ?_
        walk_at "rdh"
        refine r_iteF rfl ?_
        walk_at "rdh"
        exact ⟨rfl, sH⟩
      · rw [show decide (y = ((0 : Int) : Rat)) = false from decide_eq_false hy0]
        walk_at "rdh"
        refine r_iteT rfl ?_
        walk_at "rdh"
        obtain ⟨dx24, e24⟩ := id ha
        refine r_meth1 e24 (no_times _) ?_
        clear e24
        walk_at "rdh"
        refine ⟨a, b, _, _, rfl, ha, hb, bx.mono (by decide), by1.mono (by decide), trivial, fun r25 G25 s25 n25 (h25 : NumAt T.C_Number G25 r25 (x * y)) => ?_⟩
        replace ha := ha.same s25
        replace hb := hb.same s25
        replace hc := hc.same s25
        replace h19 := h19.same s25
        replace h20 := h20.same s25
        replace h21 := h21.same s25
        replace h22 := h22.same s25
        replace h23 := h23.same s25
        replace h24 := h24.same s25
        replace sH := sH.trans s25
        have b25 : Bd 320 (x * y) := Bd.mul bx by1
        walk_at "rdh"
        obtain ⟨dx25, e25⟩ := id h25
        refine r_meth1 e25 (no_over _) ?_
        clear e25
        walk_at "rdh"
        refine ⟨r25, b, _, _, rfl, h25, hb, b25.mono (by decide), by1.mono (by decide), hy0, fun r26 G26 s26 n26 (h26 : NumAt T.C_Number G26 r26 ((x * y) / y)) => ?_⟩
        replace ha := ha.same s26
        replace hb := hb.same s26
        replace hc := hc.same s26
        replace h19 := h19.same s26
        replace h20 := h20.same s26
        replace h21 := h21.same s26
        replace h22 := h22.same s26
        replace h23 := h23.same s26
        replace h24 := h24.same s26
        replace h25 := h25.same s26
        replace sH := sH.trans s26
        have b26 : Bd 480 ((x * y) / y) := Bd.div b25 by1 hy0
        walk_at "rdh"
        refine r_neNum h26 ha ?_
        rw [show decide ((x * y) / y = x) = true from decide_eq_true (by rw [Rat.mul_div_cancel hy0])]
        walk_at "rdh"
        refine r_iteF rfl ?_
        walk_at "rdh"
        exact ⟨rfl, sH⟩
    clear sH
    rintro σ2 H0 ⟨rfl, sH⟩
    have ha := ha0.same sH
    have hb := hb0.same sH
    have hc := hc0.same sH
    refine r_cut (fun σ2 H2 => σ2 = [some (.ref a), some (.ref b), some (.ref c), none] ∧ Same H H2) ?_ ?_
    · walk_at "rdh"
      obtain ⟨dx26, e26⟩ := id ha
      refine r_meth1 e26 (no_below _) ?_
      clear e26
      walk_at "rdh"
      refine ⟨a, b, _, _, rfl, ha, hb, bx.mono (by decide), by1.mono (by decide), ?_⟩
      walk_at "rdh"
      refine r_eqNum ha hb ?_
      walk_at "rdh"
      obtain ⟨dx26, e26⟩ := id hb
      refine r_meth1 e26 (no_below _) ?_
      clear e26
      walk_at "rdh"
      refine ⟨b, a, _, _, rfl, hb, ha, by1.mono (by decide), bx.mono (by decide), ?_⟩
      walk_at "rdh"
      refine r_new (by show 3 ≤ 1000; decide) fun l hl => ?_
      have sl := Same.new (o := .lst [.bl (decide (x < y)), .bl (decide (x = y)), .bl (decide (y < x))]) hl
      have el := upd_same (H := H0) (a := l) (o := HO.lst [.bl (decide (x < y)), .bl (decide (x = y)), .bl (decide (y < x))])
      generalize upd H0 l (.lst [.bl (decide (x < y)), .bl (decide (x = y)), .bl (decide (y < x))]) = Gl at *
      replace ha := ha.same sl
      replace hb := hb.same sl
      replace sH := sH.trans sl
      walk_at "rdh"
      refine ⟨ty_list el, ?_⟩
      walk_at "rdh"
      refine ⟨l, [decide (x < y), decide (x = y), decide (y < x)], true, rfl, rfl, el, ?_⟩
      rw [three_one]
      walk_at "rdh"
      refine r_iteF rfl ?_
      walk_at "rdh"
      obtain ⟨dx26, e26⟩ := id ha
      refine r_meth1 e26 (no_below _) ?_
      clear e26
      walk_at "rdh"
      refine ⟨a, b, _, _, rfl, ha, hb, bx.mono (by decide), by1.mono (by decide), ?_⟩
      walk_at "rdh"
      obtain ⟨dx26, e26⟩ := id ha
      refine r_meth1 e26 (no_less _) ?_
      clear e26
      walk_at "rdh"
      refine ⟨a, b, _, _, rfl, ha, hb, bx.mono (by decide), by1.mono (by decide), trivial, fun r27 G27 s27 n27 (h27 : NumAt T.C_Number G27 r27 (x - y)) => ?_⟩
      replace ha := ha.same s27
      replace hb := hb.same s27
      replace sH := sH.trans s27
      have b27 : Bd 321 (x - y) := Bd.sub bx by1
      walk_at "rdh"
      obtain ⟨dx27, e27⟩ := id h27
      refine r_meth1 e27 (no_below _) ?_
      clear e27
      walk_at "rdh"
      refine mk_num1 fun r28 G28 s28 n28 (h28 : NumAt T.C_Number G28 r28 (((0 : Int) : Rat))) => ?_
      replace ha := ha.same s28
      replace hb := hb.same s28
      replace h27 := h27.same s28
      replace sH := sH.trans s28
      have b28 : Bd 1 (((0 : Int) : Rat)) := Bd.int (by decide) (by decide)
      walk_at "rdh"
      refine ⟨r27, r28, _, _, rfl, h27, h28, b27.mono (by decide), b28.mono (by decide), ?_⟩
      walk_at "rdh"
      refine r_ne rfl ?_
      rw [sub_lt0 x y, show decide (V.bl (decide (x < y)) = V.bl (decide (x < y))) = true from decide_eq_true rfl]
      walk_at "rdh"
      refine r_iteF rfl ?_
      walk_at "rdh"
      exact ⟨rfl, sH⟩
    clear sH
    rintro σ2 H0 ⟨rfl, sH⟩
    have ha := ha0.same sH
    have hb := hb0.same sH
    have hc := hc0.same sH
    refine r_cut (fun σ2 H2 => σ2 = [some (.ref a), some (.ref b), some (.ref c), none] ∧ Same H H2) ?_ ?_
    · walk_at "rdh"
      obtain ⟨dx28, e28⟩ := id ha
      refine r_meth1 e28 (no_times _) ?_
      clear e28
      walk_at "rdh"
      refine ⟨a, b, _, _, rfl, ha, hb, bx.mono (by decide), by1.mono (by decide), trivial, fun r29 G29 s29 n29 (h29 : NumAt T.C_Number G29 r29 (x * y)) => ?_⟩
      replace ha := ha.same s29
      replace hb := hb.same s29
      replace hc := hc.same s29
      replace sH := sH.trans s29
      have b29 : Bd 320 (x * y) := Bd.mul bx by1
      walk_at "rdh"
      obtain ⟨dx29, e29⟩ := id h29
      refine r_meth1 e29 (no_size _) ?_
      clear e29
      walk_at "rdh"
      refine ⟨r29, _, rfl, h29, b29.mono (by decide), fun r30 G30 s30 n30 (h30 : NumAt T.C_Number G30 r30 (absQ (x * y))) => ?_⟩
      replace ha := ha.same s30
      replace hb := hb.same s30
      replace hc := hc.same s30
      replace h29 := h29.same s30
      replace sH := sH.trans s30
      have b30 : Bd 320 (absQ (x * y)) := absQ_bd b29
      walk_at "rdh"
      obtain ⟨dx30, e30⟩ := id ha
      refine r_meth1 e30 (no_size _) ?_
      clear e30
      walk_at "rdh"
      refine ⟨a, _, rfl, ha, bx.mono (by decide), fun r31 G31 s31 n31 (h31 : NumAt T.C_Number G31 r31 (absQ (x))) => ?_⟩
      replace ha := ha.same s31
      replace hb := hb.same s31
      replace hc := hc.same s31
      replace h29 := h29.same s31
      replace h30 := h30.same s31
      replace sH := sH.trans s31
      have b31 : Bd 160 (absQ (x)) := absQ_bd bx
      walk_at "rdh"
      obtain ⟨dx31, e31⟩ := id h31
      refine r_meth1 e31 (no_times _) ?_
      clear e31
      walk_at "rdh"
      obtain ⟨dx31, e31⟩ := id hb
      refine r_meth1 e31 (no_size _) ?_
      clear e31
      walk_at "rdh"
      refine ⟨b, _, rfl, hb, by1.mono (by decide), fun r32 G32 s32 n32 (h32 : NumAt T.C_Number G32 r32 (absQ (y))) => ?_⟩
      replace ha := ha.same s32
      replace hb := hb.same s32
      replace hc := hc.same s32
      replace h29 := h29.same s32
      replace h30 := h30.same s32
      replace h31 := h31.same s32
      replace sH := sH.trans s32
      have b32 : Bd 160 (absQ (y)) := absQ_bd by1
      walk_at "rdh"
      refine ⟨r31, r32, _, _, rfl, h31, h32, b31.mono (by decide), b32.mono (by decide), trivial, fun r33 G33 s33 n33 (h33 : NumAt T.C_Number G33 r33 ((absQ (x)) * (absQ (y)))) => ?_⟩
      replace ha := ha.same s33
      replace hb := hb.same s33
      replace hc := hc.same s33
      replace h29 := h29.same s33
      replace h30 := h30.same s33
      replace h31 := h31.same s33
      replace h32 := h32.same s33
      replace sH := sH.trans s33
      have b33 : Bd 320 ((absQ (x)) * (absQ (y))) := Bd.mul b31 b32
      walk_at "rdh"
      refine r_neNum h30 h33 ?_
      rw [show decide (absQ (x * y) = (absQ (x)) * (absQ (y))) = true from decide_eq_true (absQ_mul2 x y)]
      walk_at "rdh"
      refine r_iteF rfl ?_
      walk_at "rdh"
      obtain ⟨dx33, e33⟩ := id ha
      refine r_meth1 e33 (no_more _) ?_
      clear e33
      walk_at "rdh"
      refine ⟨a, b, _, _, rfl, ha, hb, bx.mono (by decide), by1.mono (by decide), trivial, fun r34 G34 s34 n34 (h34 : NumAt T.C_Number G34 r34 (x + y)) => ?_⟩
      replace ha := ha.same s34
      replace hb := hb.same s34
      replace hc := hc.same s34
      replace h29 := h29.same s34
      replace h30 := h30.same s34
      replace h31 := h31.same s34
      replace h32 := h32.same s34
      replace h33 := h33.same s34
      replace sH := sH.trans s34
      have b34 : Bd 321 (x + y) := Bd.add bx by1
      walk_at "rdh"
      obtain ⟨dx34, e34⟩ := id h34
      refine r_meth1 e34 (no_size _) ?_
      clear e34
      walk_at "rdh"
      refine ⟨r34, _, rfl, h34, b34.mono (by decide), fun r35 G35 s35 n35 (h35 : NumAt T.C_Number G35 r35 (absQ (x + y))) => ?_⟩
      replace ha := ha.same s35
      replace hb := hb.same s35
      replace hc := hc.same s35
      replace h29 := h29.same s35
      replace h30 := h30.same s35
      replace h31 := h31.same s35
      replace h32 := h32.same s35
      replace h33 := h33.same s35
      replace h34 := h34.same s35
      replace sH := sH.trans s35
      have b35 : Bd 321 (absQ (x + y)) := absQ_bd b34
      walk_at "rdh"
      obtain ⟨dx35, e35⟩ := id h35
      refine r_meth1 e35 (no_below _) ?_
      clear e35
      walk_at "rdh"
      obtain ⟨dx35, e35⟩ := id ha
      refine r_meth1 e35 (no_size _) ?_
      clear e35
      walk_at "rdh"
      refine ⟨a, _, rfl, ha, bx.mono (by decide), fun r36 G36 s36 n36 (h36 : NumAt T.C_Number G36 r36 (absQ (x))) => ?_⟩
      replace ha := ha.same s36
      replace hb := hb.same s36
      replace hc := hc.same s36
      replace h29 := h29.same s36
      replace h30 := h30.same s36
      replace h31 := h31.same s36
      replace h32 := h32.same s36
      replace h33 := h33.same s36
      replace h34 := h34.same s36
      replace h35 := h35.same s36
      replace sH := sH.trans s36
      have b36 : Bd 160 (absQ (x)) := absQ_bd bx
      walk_at "rdh"
      obtain ⟨dx36, e36⟩ := id h36
      refine r_meth1 e36 (no_less _) ?_
      clear e36
      walk_at "rdh"
      obtain ⟨dx36, e36⟩ := id hb
      refine r_meth1 e36 (no_size _) ?_
      clear e36
      walk_at "rdh"
      refine ⟨b, _, rfl, hb, by1.mono (by decide), fun r37 G37 s37 n37 (h37 : NumAt T.C_Number G37 r37 (absQ (y))) => ?_⟩
      replace ha := ha.same s37
      replace hb := hb.same s37
      replace hc := hc.same s37
      replace h29 := h29.same s37
      replace h30 := h30.same s37
      replace h31 := h31.same s37
      replace h32 := h32.same s37
      replace h33 := h33.same s37
      replace h34 := h34.same s37
      replace h35 := h35.same s37
      replace h36 := h36.same s37
      replace sH := sH.trans s37
      have b37 : Bd 160 (absQ (y)) := absQ_bd by1
      walk_at "rdh"
      refine ⟨r36, r37, _, _, rfl, h36, h37, b36.mono (by decide), b37.mono (by decide), trivial, fun r38 G38 s38 n38 (h38 : NumAt T.C_Number G38 r38 ((absQ (x)) - (absQ (y)))) => ?_⟩
      replace ha := ha.same s38
      replace hb := hb.same s38
      replace hc := hc.same s38
      replace h29 := h29.same s38
      replace h30 := h30.same s38
      replace h31 := h31.same s38
      replace h32 := h32.same s38
      replace h33 := h33.same s38
      replace h34 := h34.same s38
      replace h35 := h35.same s38
      replace h36 := h36.same s38
      replace h37 := h37.same s38
      replace sH := sH.trans s38
      have b38 : Bd 321 ((absQ (x)) - (absQ (y))) := Bd.sub b36 b37
      walk_at "rdh"
      obtain ⟨dx38, e38⟩ := id h38
      refine r_meth1 e38 (no_size _) ?_
      clear e38
      walk_at "rdh"
      refine ⟨r38, _, rfl, h38, b38.mono (by decide), fun r39 G39 s39 n39 (h39 : NumAt T.C_Number G39 r39 (absQ ((absQ (x)) - (absQ (y))))) => ?_⟩
      replace ha := ha.same s39
      replace hb := hb.same s39
      replace hc := hc.same s39
      replace h29 := h29.same s39
      replace h30 := h30.same s39
      replace h31 := h31.same s39
      replace h32 := h32.same s39
      replace h33 := h33.same s39
      replace h34 := h34.same s39
      replace h35 := h35.same s39
      replace h36 := h36.same s39
      replace h37 := h37.same s39
      replace h38 := h38.same s39
      replace sH := sH.trans s39
      have b39 : Bd 321 (absQ ((absQ (x)) - (absQ (y)))) := absQ_bd b38
      walk_at "rdh"
      refine ⟨r35, r39, _, _, rfl, h35, h39, b35.mono (by decide), b39.mono (by decide), ?_⟩
      walk_at "rdh"
      rw [show decide (absQ (x + y) < absQ (absQ x - absQ y)) = false from decide_eq_false (abs_tri x y)]
      walk_at "rdh"
      refine r_iteF rfl ?_
      walk_at "rdh"
      exact ⟨rfl, sH⟩
    clear sH
    rintro σ2 H0 ⟨rfl, sH⟩
    have ha := ha0.same sH
    have hb := hb0.same sH
    have hc := hc0.same sH
    walk_at "rdh"
    obtain ⟨dx, ea⟩ := id ha
    refine r_meth1 ea (no_floor _) ?_
    walk_at "rdh"
    refine ⟨a, _, rfl, ha, bx.mono (by decide), ?_⟩
    walk_at "rdh"
    refine mk_num1 fun r40 G40 s40 n40 (h40 : NumAt T.C_Number G40 r40 (((x.floor : Int) : Rat))) => ?_
    replace ha := ha.same s40
    replace hb := hb.same s40
    replace hc := hc.same s40
    replace sH := sH.trans s40
    have b40 : Bd 160 (((x.floor : Int) : Rat)) := Bd.int (floor_bd bx) (by decide)
    walk_at "rdh"
    obtain ⟨dx40, e40⟩ := id ha
    refine r_meth1 e40 (no_below _) ?_
    clear e40
    walk_at "rdh"
    refine ⟨a, r40, _, _, rfl, ha, h40, bx.mono (by decide), b40.mono (by decide), ?_⟩
    walk_at "rdh"
    rw [show decide (x < ((x.floor : Int) : Rat)) = false from decide_eq_false (fun q => not_lt_floor q)]
    walk_at "rdh"
    refine r_iteT rfl ?_
    walk_at "rdh"
    obtain ⟨dx40, e40⟩ := id ha
    refine r_meth1 e40 (no_below _) ?_
    clear e40
    walk_at "rdh"
    obtain ⟨dx40, e40⟩ := id h40
    refine r_meth1 e40 (no_more _) ?_
    clear e40
    walk_at "rdh"
    refine mk_num1 fun r41 G41 s41 n41 (h41 : NumAt T.C_Number G41 r41 (((1 : Int) : Rat))) => ?_
    replace ha := ha.same s41
    replace hb := hb.same s41
    replace hc := hc.same s41
    replace h40 := h40.same s41
    replace sH := sH.trans s41
    have b41 : Bd 1 (((1 : Int) : Rat)) := Bd.int (by decide) (by decide)
    walk_at "rdh"
    refine ⟨r40, r41, _, _, rfl, h40, h41, b40.mono (by decide), b41.mono (by decide), trivial, fun r42 G42 s42 n42 (h42 : NumAt T.C_Number G42 r42 ((((x.floor : Int) : Rat)) + (((1 : Int) : Rat)))) => ?_⟩
    replace ha := ha.same s42
    replace hb := hb.same s42
    replace hc := hc.same s42
    replace h40 := h40.same s42
    replace h41 := h41.same s42
    replace sH := sH.trans s42
    have b42 : Bd 162 ((((x.floor : Int) : Rat)) + (((1 : Int) : Rat))) := Bd.add b40 b41
    walk_at "rdh"
    refine ⟨a, r42, _, _, rfl, ha, h42, bx.mono (by decide), b42.mono (by decide), ?_⟩
    walk_at "rdh"
    rw [show decide (x < ((x.floor : Int) : Rat) + ((1 : Int) : Rat)) = true from decide_eq_true (lt_floor1 x)]
    walk_at "rdh"
    refine r_iteT rfl ?_
    walk_at "rdh"
    obtain ⟨dx2, ea2⟩ := id ha
    refine r_fld ea2 T.c_Number T.n_Number_bottom (nf_bottom _) ?_
    walk_at "rdh"
    refine r_eqNum h40 ha ?_
    walk_at "rdh"
    rw [den_one x, show decide (decide (((x.floor : Int) : Rat) = x) = decide (((x.floor : Int) : Rat) = x)) = true from decide_eq_true rfl]
    exact k _ sH
end
end My

namespace My
open PySem L2 TL
section
variable {P : Program} {w : World} {K : PySem.W.Frag} {mg : Str → Option Value} {base : Heap}
/-! ### ten steps of reckoning -/
theorem ntext_line {x : Rat} (b : Bd 1900 x) : (NText x).length ≤ sizeLine := by
  have l1 := TI_short b.1
  have l2 := TI_short (bd_den b)
  have sl : sizeLine = 16777216 := rfl
  rw [NText_len, ← nat_signL, ← TI_len, ← TI_len]
  split <;> omega
/-- four numbers in a list -/
structure Four (C : Addr) (H : Hp) (nm : Addr) (ps : List Addr) : Prop where
  at_ : H nm = some (.lst (ps.map V.ref))
  len : ps.length = 4
  num : ∀ (i : Nat) (p : Addr), ps[i]? = some p → ∃ x, NumAt C H p x ∧ Bd 160 x
theorem Four.out {C d : Addr} {H H' : Hp} {nm : Addr} {ps : List Addr} (h : Four C H nm ps) (o : Out d H H') (w : WellAt H d) (n : nm ≠ d) : Four C H' nm ps :=
  ⟨o _ _ n h.at_, h.len, fun i p e => let ⟨x, a, b⟩ := h.num i p e; ⟨x, a.out o w, b⟩⟩
theorem Four.same {C : Addr} {H H' : Hp} {nm : Addr} {ps : List Addr} (h : Four C H nm ps) (s : Same H H') : Four C H' nm ps :=
  ⟨s _ _ h.at_, h.len, fun i p e => let ⟨x, a, b⟩ := h.num i p e; ⟨x, a.same s, b⟩⟩
/-- what stands while a turn goes on -/
structure Chn (C : Addr) (H : Hp) (d h q r1 r2 r3 : Addr) (x y : Rat) : Prop where
  hx : NumAt C H h x
  hy : NumAt C H q y
  h1 : NumAt C H r1 (x + y)
  h2 : NumAt C H r2 (x - y)
  h3 : NumAt C H r3 (x * y)
  wl : WellAt H d
theorem Chn.same {C d h q r1 r2 r3 : Addr} {H H' : Hp} {x y : Rat} (c : Chn C H d h q r1 r2 r3 x y) (s : Same H H') : Chn C H' d h q r1 r2 r3 x y := ⟨c.hx.same s, c.hy.same s, c.h1.same s, c.h2.same s, c.h3.same s, c.wl.same s⟩
theorem numOff {C f p : Addr} {H H' : Hp} {xs : List V} {x : Rat} (hf : H f = some (.lst xs)) (off : ∀ b o, b ≠ f → H b = some o → H' b = some o) (h : NumAt C H p x) : NumAt C H' p x := by
  obtain ⟨dx, e⟩ := h
  exact ⟨dx, off _ _ (ne_of e hf (fun z => by cases z)) e⟩
theorem Chn.off {C d h q r1 r2 r3 f : Addr} {H H' : Hp} {xs : List V} {x y : Rat} (c : Chn C H d h q r1 r2 r3 x y) (hf : H f = some (.lst xs)) (n : d ≠ f) (off : ∀ b o, b ≠ f → H b = some o → H' b = some o) : Chn C H' d h q r1 r2 r3 x y :=
  ⟨numOff hf off c.hx, numOff hf off c.hy, numOff hf off c.h1, numOff hf off c.h2, numOff hf off c.h3, let ⟨a, b, e, z⟩ := c.wl; ⟨a, b, e, off _ _ n z⟩⟩
def spChain (C : Addr) : Sp := fun vs H Q _ => ∃ (d nm : Addr) (ps : List Addr), vs = [.ref d, .ref nm] ∧ WellAt H d ∧ nm ≠ d ∧ Four C H nm ps ∧ ∀ H', Out d H H' → WellAt H' d → Q (.bl true) H'
theorem at_four {ps : List Addr} (l : ps.length = 4) {r : Int} (h0 : 0 ≤ r) (h1 : r < 4) : ∃ (i : Nat) (p : Addr), ps[i]? = some p ∧ atI (ps.map V.ref) r = some (.ref p) := by
  obtain ⟨n, rfl⟩ := Int.eq_ofNat_of_zero_le h0
  have hn : n < ps.length := by omega
  exact ⟨n, ps[n], List.getElem?_eq_getElem hn, atI_nat (by rw [List.getElem?_map, List.getElem?_eq_getElem hn]; rfl)⟩
theorem ok_l_chain_right (T : Txt w K mg) : FnOk P w K mg base CX0 5 T.f_l_chain_right T.fd_l_chain_right ["_law_well_here", "_law_numbers"] (spChain T.C_Number) := by
  refine T.F_l_chain_right.ok sc_l_chain_right (fun vs H Q E h => ?_) (fun cdv A outer s H vs Q E hr h => ?_)
  · obtain ⟨d, nm, ps, rfl, _⟩ := h
    rfl
  · obtain ⟨d, nm, ps, rfl, wd, nd, F4, k⟩ := h
    refine ⟨_, (pss_cons (ps_set (i := 2) sc_l_chain_right.nd rfl (Or.inl rfl) (pe_ix ix_list (pv 1) pe_int (fun _ _ => rfl)))
 (pss_cons (ps_for PassesOwn.never rfl (pi_range1 rfl T.n_range (pa_cons pe_int pa_nil)) (pg_name (i := 3) sc_l_chain_right.nd rfl (Or.inl rfl))
  (pss_cons (ps_set (i := 4) sc_l_chain_right.nd rfl (Or.inl rfl) (pe_ix ix_list (pv 1) (pe_call (ok_l_take T) (hr.mono (by decide)) (by rfl) T.m_l_take T.F_l_take.kp T.b_l_take .nil pass0 (pa_cons (pv 0) (pa_cons pe_int pa_nil))) (fun _ _ => rfl)))
 (pss_cons (ps_set (i := 5) sc_l_chain_right.nd rfl (Or.inl rfl) (pe_call (ok_l_take T) (hr.mono (by decide)) (by rfl) T.m_l_take T.F_l_take.kp T.b_l_take .nil pass0 (pa_cons (pv 0) (pa_cons pe_int pa_nil))))
 (C8.pss_cut (ps_if (PW.pt (pw_and (pt_cmpR op_eq (pv 5) pe_int (nomark _)) (pw_and1 (pt_cmpR (op_eqOwn (ok_Number_eq T) T.me_Number_eq.at_ T.me_Number_eq.fn T.b_Number_eq (hr.mono (by decide))) (pv 4) (pe_make T.mk_Number (ok_Number_init T) (hr.mono (by decide)) (by rfl) T.m_Number T.b_Number_init1 T.d_Number_init1 pass0 (pa_cons pe_int pa_nil)) (nomark _)))))
  (pss_one (ps_set (i := 5) sc_l_chain_right.nd rfl (Or.inl rfl) pe_int))
  pss_nil)
 (pss_cons (ps_set (i := 6) sc_l_chain_right.nd rfl (Or.inl rfl) (pe_lst (pa_cons (pe_meth (pv 2) T.c_Number T.me_Number_more (ok_Number_more T) (hr.mono (by decide)) T.b_Number_more .nil pass0 (pa_cons (pv 4) pa_nil)) (pa_cons (pe_meth (pv 2) T.c_Number T.me_Number_less (ok_Number_less T) (hr.mono (by decide)) T.b_Number_less .nil pass0 (pa_cons (pv 4) pa_nil)) (pa_cons (pe_meth (pv 2) T.c_Number T.me_Number_times (ok_Number_times T) (hr.mono (by decide)) T.b_Number_times .nil pass0 (pa_cons (pv 4) pa_nil)) pa_nil)))))
 (C8.pss_cut (ps_if (pt_cmpR op_eq (pv 5) pe_int (nomark _))
  (pss_one (ps_expr (pe_bm PySem.F.plainAttrs_list PySem.F.slot_list_append PySem.F.type_list_append mt_append (pv 6) (pa_cons (pe_meth (pv 2) T.c_Number T.me_Number_over (ok_Number_over T) (hr.mono (by decide)) T.b_Number_over .nil pass0 (pa_cons (pv 4) pa_nil)) pa_nil))))
  pss_nil)
 (C8.pss_cut (ps_if (PW.pt (pw_and (pt_cmpR op_eq (pv 5) pe_int (nomark _)) (pw_and (pt_cmpR (op_neOwn (ok_Number_eq T) T.me_Number_eq.at_ T.me_Number_eq.fn T.b_Number_eq T.ne_Number T.ty_Number_m (hr.mono (by decide))) (pv 4) (pe_make T.mk_Number (ok_Number_init T) (hr.mono (by decide)) (by rfl) T.m_Number T.b_Number_init1 T.d_Number_init1 pass0 (pa_cons pe_int pa_nil)) (nomark _)) (pw_and1 (pt_cmpR (op_neOwn (ok_Number_eq T) T.me_Number_eq.at_ T.me_Number_eq.fn T.b_Number_eq T.ne_Number T.ty_Number_m (hr.mono (by decide))) (pe_meth (pe_ix ix_list (pv 6) pe_int (fun _ _ => rfl)) T.c_Number T.me_Number_over (ok_Number_over T) (hr.mono (by decide)) T.b_Number_over .nil pass0 (pa_cons (pv 4) pa_nil)) (pv 2) (nomark _))))))
  (pss_one (ps_ret pe_bl))
  pss_nil)
 (C8.pss_cut (ps_if (PW.pt (pw_and (pt_cmpR op_eq (pv 5) pe_int (nomark _)) (pw_and1 (pt_cmpR (op_neOwn (ok_Number_eq T) T.me_Number_eq.at_ T.me_Number_eq.fn T.b_Number_eq T.ne_Number T.ty_Number_m (hr.mono (by decide))) (pe_meth (pe_ix ix_list (pv 6) pe_int (fun _ _ => rfl)) T.c_Number T.me_Number_less (ok_Number_less T) (hr.mono (by decide)) T.b_Number_less .nil pass0 (pa_cons (pv 4) pa_nil)) (pv 2) (nomark _)))))
  (pss_one (ps_ret pe_bl))
  pss_nil)
 (C8.pss_cut (ps_if (PW.pt (pw_and (pt_cmpR op_eq (pv 5) pe_int (nomark _)) (pw_and1 (pt_cmpR (op_neOwn (ok_Number_eq T) T.me_Number_eq.at_ T.me_Number_eq.fn T.b_Number_eq T.ne_Number T.ty_Number_m (hr.mono (by decide))) (pe_meth (pe_ix ix_list (pv 6) pe_int (fun _ _ => rfl)) T.c_Number T.me_Number_times (ok_Number_times T) (hr.mono (by decide)) T.b_Number_times .nil pass0 (pa_cons (pv 4) pa_nil)) (pv 2) (nomark _)))))
  (pss_one (ps_ret pe_bl))
  pss_nil)
 (pss_cons (ps_set (i := 2) sc_l_chain_right.nd rfl (Or.inl rfl) (pe_ix ix_list (pv 6) (pv 5) (fun _ _ => rfl)))
 (pss_one (ps_if (PW.pt (pw_and (pt_cmpR op_le (pe_callB call_len_str (by rfl) T.n_len PySem.boot_len (pa_cons (pe_callTy (call_strOwn (ok_Number_str T) T.me_Number_str.at_ T.me_Number_str.fn T.b_Number_str (hr.mono (by decide))) (by rfl) T.n_str (by decide +kernel) (pa_cons (pv 2) pa_nil)) pa_nil)) pe_int (nomark _)) (pw_and1 (pt_cmpR (op_neOwn (ok_Number_eq T) T.me_Number_eq.at_ T.me_Number_eq.fn T.b_Number_eq T.ne_Number T.ty_Number_m (hr.mono (by decide))) (pe_call (ok_read_number T) (hr.mono (by decide)) (by rfl) T.m_read_number T.F_read_number.kp T.b_read_number .nil pass0 (pa_cons (pe_callTy (call_strOwn (ok_Number_str T) T.me_Number_str.at_ T.me_Number_str.fn T.b_Number_str (hr.mono (by decide))) (by rfl) T.n_str (by decide +kernel) (pa_cons (pv 2) pa_nil)) pa_nil)) (pv 2) (nomark _)))))
  (pss_one (ps_ret pe_bl))
  pss_nil))))))))))))
 (pss_one (ps_ret pe_bl)))), ?_⟩
    walk_at "rdh"
    obtain ⟨i0, p0, e0, a0⟩ := at_four F4.len (r := 0) (by decide) (by decide)
    refine r_ixL F4.at_ a0 ?_
    obtain ⟨x0, n0, b0⟩ := F4.num i0 p0 e0
    walk_at "rdh"
    refine r_rng1 ?_
    walk_at "rdh"
    refine ⟨10, rfl, by decide, by decide, for_range (lo := 0) (n := 10) (fun i σ H' => ∃ (h : Addr) (x : Rat) (v3 v4 v5 v6 : Option V), σ = [some (.ref d), some (.ref nm), some (.ref h), v3, v4, v5, v6] ∧ Out d H H' ∧ WellAt H' d ∧ NumAt T.C_Number H' h x ∧ Bd (160 + 161 * i) x) ⟨p0, x0, _, _, _, _, rfl, Out.refl _ _, wd, n0, b0⟩ ?_ ?_⟩
    · rintro i σ H1 hi ⟨h, x, v3, v4, v5, v6, rfl, o1, w1, hx, bx⟩
      have F1 := F4.out o1 wd nd
      walk_at "rdh"
      refine rd_take w1 (by decide) (by decide) fun r2 H2 o2 w2 r20 r21 => ?_
      have F2 := F1.out o2 w1 nd
      have hx2 := hx.out o2 w1
      obtain ⟨j, q, eq, aq⟩ := at_four F2.len r20 r21
      refine r_ixL F2.at_ aq ?_
      obtain ⟨y, hy2, by1⟩ := F2.num j q eq
      walk_at "rdh"
      refine rd_take w2 (by decide) (by decide) fun m H3 o3 w3 m0 m1 => ?_
      have hx3 := hx2.out o3 w2
      have hy3 := hy2.out o3 w2
      have o13 : Out d H H3 := (o1.trans o2).trans o3
      walk_at "rdh"
      refine r_cut (fun σ2 H4 => ∃ (v3 : Option V) (mw : Int), σ2 = [some (.ref d), some (.ref nm), some (.ref h), v3, some (.ref q), some (.int mw), v6] ∧ Same H3 H4 ∧ 0 ≤ mw ∧ mw < 4 ∧ (mw = 3 → y ≠ 0)) ?_ ?_
      · walk_at "rdh"
        refine r_ite (fun e => ?_) (fun e => ?_)
        · walk_at "rdh"
          refine mk_num1 fun z H4 s4 nz (hz : NumAt T.C_Number H4 z ((0 : Int) : Rat)) => ?_
          refine r_eqNum (hy3.same s4) hz ?_
          walk_at "rdh"
          refine r_ite (fun c => ?_) (fun c => ?_)
          · walk_at "rdh"
            exact ⟨_, 2, rfl, s4, by decide, by decide, fun z => absurd z (by decide)⟩
          · walk_at "rdh"
            exact ⟨_, m, rfl, s4, m0, m1, fun _ => of_decide_eq_false c⟩
        · refine r_iteF rfl ?_
          walk_at "rdh"
          exact ⟨_, m, rfl, Same.refl _, m0, m1, fun z => absurd z (of_decide_eq_false e)⟩
      rintro σ2 H4 ⟨v3', mw, rfl, s4, mw0, mw1, mw3⟩
      have hx4 := hx3.same s4
      have hy4 := hy3.same s4
      have w4 := w3.same s4
      have o4 : Out d H H4 := o13.trans (Out.of s4)
      clear hx3 hy3 hx2 hy2 F2 o13 o3 o2
      have bx4 : Bd 4000 x := bx.mono (by omega)
      have by4 : Bd 4000 y := by1.mono (by decide)
      walk_at "rdh"
      obtain ⟨dx1, ex1⟩ := id hx4
      refine r_meth1 ex1 (no_more _) ?_
      walk_at "rdh"
      refine ⟨h, q, _, _, rfl, hx4, hy4, bx4, by4, trivial, fun r1 G1 s1 n1 (h1 : NumAt T.C_Number G1 r1 (x + y)) => ?_⟩
      have hx5 := hx4.same s1
      have hy5 := hy4.same s1
      walk_at "rdh"
      obtain ⟨dx1, ex1⟩ := id hx5
      refine r_meth1 ex1 (no_less _) ?_
      walk_at "rdh"
      refine ⟨h, q, _, _, rfl, hx5, hy5, bx4, by4, trivial, fun r2 G2 s2 n2 (h2 : NumAt T.C_Number G2 r2 (x - y)) => ?_⟩
      have hx6 := hx5.same s2
      have hy6 := hy5.same s2
      have h16 := h1.same s2
      walk_at "rdh"
      obtain ⟨dx1, ex1⟩ := id hx6
      refine r_meth1 ex1 (no_times _) ?_
      walk_at "rdh"
      refine ⟨h, q, _, _, rfl, hx6, hy6, bx4, by4, trivial, fun r3 G3 s3 n3 (h3 : NumAt T.C_Number G3 r3 (x * y)) => ?_⟩
      have hx7 := hx6.same s3
      have hy7 := hy6.same s3
      have h17 := h16.same s3
      have h27 := h2.same s3
      have w7 : WellAt G3 d := ((w4.same s1).same s2).same s3
      have o7 : Out d H G3 := o4.trans (Out.of ((s1.trans s2).trans s3))
      clear hx4 hx5 hx6 hy4 hy5 hy6 h1 h16 h2 s1 s2 s3 n1 n2 n3 ex1 dx1
      walk_at "rdh"
      refine r_new (by show 3 ≤ 1000; decide) fun f nf => ?_
      have fl := upd_same (H := G3) (a := f) (o := HO.lst [.ref r1, .ref r2, .ref r3])
      have sf := Same.new (o := .lst [V.ref r1, .ref r2, .ref r3]) nf
      have df : d ≠ f := by obtain ⟨_, _, _, z⟩ := w7; exact ne_of_none z nf
      have of_ : ∀ b o, H b = some o → b ≠ d → b ≠ f := fun b o hb n => ne_of_none (o7 _ _ n hb) nf
      generalize upd G3 f (.lst [V.ref r1, .ref r2, .ref r3]) = G4 at *
      have I5 : Chn T.C_Number G4 d h q r1 r2 r3 x y := ⟨hx7.same sf, hy7.same sf, h17.same sf, h27.same sf, h3.same sf, w7.same sf⟩
      have o8 : Out d H G4 := o7.trans (Out.of sf)
      clear hx7 hy7 h17 h27 h3 w7 o7 sf
      walk_at "rdh"
      refine r_cut (fun σ2 H5 => ∃ (fs : List Addr), σ2 = [some (.ref d), some (.ref nm), some (.ref h), v3', some (.ref q), some (.int mw), some (.ref f)] ∧ H5 f = some (.lst (fs.map V.ref)) ∧ Out d H H5 ∧ Chn T.C_Number H5 d h q r1 r2 r3 x y ∧ ((mw ≠ 3 ∧ fs = [r1, r2, r3]) ∨ (mw = 3 ∧ ∃ r4, fs = [r1, r2, r3, r4] ∧ NumAt T.C_Number H5 r4 (x / y)))) ?_ ?_
      · walk_at "rdh"
        refine r_ite (fun e => ?_) (fun e => ?_)
        · have e3 : mw = 3 := of_decide_eq_true e
          walk_at "rdh"
          refine ⟨ty_list fl, ?_⟩
          walk_at "rdh"
          obtain ⟨dx1, ex1⟩ := id I5.hx
          refine r_meth1 ex1 (no_over _) ?_
          walk_at "rdh"
          refine ⟨h, q, _, _, rfl, I5.hx, I5.hy, bx4, by4, mw3 e3, fun r4 G5 s5 n5 (h4 : NumAt T.C_Number G5 r4 (x / y)) => ?_⟩
          walk_at "rdh"
          have fl5 := s5 _ _ fl
          refine ⟨f, _, _, rfl, rfl, fl5, (show 3 < sizeLine by decide), ?_⟩
          walk_at "rdh"
          have off : ∀ b o, b ≠ f → G5 b = some o → (upd G5 f (.lst ([V.ref r1, .ref r2, .ref r3] ++ [V.ref r4]))) b = some o := fun b o n hb => by rw [upd_ne n]; exact hb
          refine ⟨[r1, r2, r3, r4], rfl, upd_same, fun b o n hb => off b o (of_ b o hb n) (s5 _ _ (o8 b o n hb)), (I5.same s5).off fl5 df off, .inr ⟨e3, r4, rfl, numOff fl5 off h4⟩⟩
        · walk_at "rdh"
          exact ⟨[r1, r2, r3], rfl, fl, o8, I5, .inl ⟨of_decide_eq_false e, rfl⟩⟩
      rintro σ2 H5 ⟨fs, rfl, fl5, o5, J, hfs⟩
      clear I5 o8 fl
      walk_at "rdh"
      have a0 : atI (fs.map V.ref) 0 = some (.ref r1) := by rcases hfs with ⟨_, rfl⟩ | ⟨_, r4, rfl, _⟩ <;> exact atI_nat (j := 0) rfl
      have a2 : atI (fs.map V.ref) 2 = some (.ref r3) := by rcases hfs with ⟨_, rfl⟩ | ⟨_, r4, rfl, _⟩ <;> exact atI_nat (j := 2) rfl
      have bxy : Bd 4000 (x * y) := (bx.mul by1).mono (by omega)
      refine r_cut (fun σ2 H6 => σ2 = [some (.ref d), some (.ref nm), some (.ref h), v3', some (.ref q), some (.int mw), some (.ref f)] ∧ Same H5 H6) ?_ ?_
      · walk_at "rdh"
        refine r_ite (fun e => ?_) (fun e => ?_)
        · walk_at "rdh"
          refine mk_num1 fun z G sg ng (hz : NumAt T.C_Number G z ((0 : Int) : Rat)) => ?_
          refine r_neNum (J.hy.same sg) hz ?_
          walk_at "rdh"
          by_cases y0 : y = 0
          · rw [show decide (y = ((0 : Int) : Rat)) = true from decide_eq_true y0]
            walk_at "rdh"
            refine r_iteF rfl ?_
            walk_at "rdh"
            refine r_iteF rfl ?_
            walk_at "rdh"
            exact ⟨rfl, sg⟩
          · rw [show decide (y = ((0 : Int) : Rat)) = false from decide_eq_false y0]
            walk_at "rdh"
            refine r_iteT rfl ?_
            walk_at "rdh"
            refine r_ixL (sg _ _ fl5) a2 ?_
            walk_at "rdh"
            obtain ⟨dx1, ex1⟩ := id (J.h3.same sg)
            refine r_meth1 ex1 (no_over _) ?_
            walk_at "rdh"
            refine ⟨r3, q, _, _, rfl, J.h3.same sg, J.hy.same sg, bxy, by4, y0, fun t G2 s2 n2 (ht : NumAt T.C_Number G2 t (x * y / y)) => ?_⟩
            walk_at "rdh"
            refine r_neNum ht ((J.hx.same sg).same s2) ?_
            rw [show decide (x * y / y = x) = true from decide_eq_true (Rat.mul_div_cancel y0)]
            walk_at "rdh"
            refine r_iteF rfl ?_
            walk_at "rdh"
            exact ⟨rfl, sg.trans s2⟩
        · refine r_iteF rfl ?_
          walk_at "rdh"
          exact ⟨rfl, Same.refl _⟩
      rintro σ2 H6 ⟨rfl, s6⟩
      have J6 := J.same s6
      have fl6 := s6 _ _ fl5
      walk_at "rdh"
      refine r_cut (fun σ2 H7 => σ2 = [some (.ref d), some (.ref nm), some (.ref h), v3', some (.ref q), some (.int mw), some (.ref f)] ∧ Same H6 H7) ?_ ?_
      · walk_at "rdh"
        refine r_ite (fun e => ?_) (fun e => ?_)
        · walk_at "rdh"
          refine r_ixL fl6 a0 ?_
          walk_at "rdh"
          obtain ⟨dx1, ex1⟩ := id J6.h1
          refine r_meth1 ex1 (no_less _) ?_
          walk_at "rdh"
          refine ⟨r1, q, _, _, rfl, J6.h1, J6.hy, (Bd.add bx by1).mono (by omega), by4, trivial, fun t G2 s2 n2 (ht : NumAt T.C_Number G2 t (x + y - y)) => ?_⟩
          walk_at "rdh"
          refine r_neNum ht (J6.hx.same s2) ?_
          rw [show decide (x + y - y = x) = true from decide_eq_true (by grind)]
          walk_at "rdh"
          refine r_iteF rfl ?_
          walk_at "rdh"
          exact ⟨rfl, s2⟩
        · refine r_iteF rfl ?_
          walk_at "rdh"
          exact ⟨rfl, Same.refl _⟩
      rintro σ2 H7 ⟨rfl, s7⟩
      have J7 := J6.same s7
      have fl7 := s7 _ _ fl6
      walk_at "rdh"
      refine r_cut (fun σ2 H8 => σ2 = [some (.ref d), some (.ref nm), some (.ref h), v3', some (.ref q), some (.int mw), some (.ref f)] ∧ Same H7 H8) ?_ ?_
      · walk_at "rdh"
        refine r_ite (fun e => ?_) (fun e => ?_)
        · have e3 : mw = 3 := of_decide_eq_true e
          obtain ⟨n3, _⟩ | ⟨_, r4, rfl, h4⟩ := hfs
          · exact absurd e3 n3
          have h47 := (h4.same s6).same s7
          have y0 := mw3 e3
          walk_at "rdh"
          refine r_ixL fl7 (atI_nat (j := 3) rfl) ?_
          walk_at "rdh"
          obtain ⟨dx1, ex1⟩ := id h47
          refine r_meth1 ex1 (no_times _) ?_
          walk_at "rdh"
          refine ⟨r4, q, _, _, rfl, h47, J7.hy, (Bd.div bx by1 y0).mono (by omega), by4, trivial, fun t G2 s2 n2 (ht : NumAt T.C_Number G2 t (x / y * y)) => ?_⟩
          walk_at "rdh"
          refine r_neNum ht (J7.hx.same s2) ?_
          rw [show decide (x / y * y = x) = true from decide_eq_true (Rat.div_mul_cancel y0)]
          walk_at "rdh"
          refine r_iteF rfl ?_
          walk_at "rdh"
          exact ⟨rfl, s2⟩
        · refine r_iteF rfl ?_
          walk_at "rdh"
          exact ⟨rfl, Same.refl _⟩
      rintro σ2 H8 ⟨rfl, s8⟩
      have J8 := J7.same s8
      have fl8 := s8 _ _ fl7
      have s58 := (s6.trans s7).trans s8
      obtain ⟨p, v, ap, hv, bv⟩ : ∃ p v, atI (fs.map V.ref) mw = some (.ref p) ∧ NumAt T.C_Number H8 p v ∧ Bd (160 + 161 * (i + 1)) v := by
        rcases hfs with ⟨n3, rfl⟩ | ⟨rfl, r4, rfl, h4⟩
        · have c : mw = 0 ∨ mw = 1 ∨ mw = 2 := by omega
          rcases c with rfl | rfl | rfl
          · exact ⟨r1, _, atI_nat (j := 0) rfl, J8.h1, (Bd.add bx by1).mono (by omega)⟩
          · exact ⟨r2, _, atI_nat (j := 1) rfl, J8.h2, (Bd.sub bx by1).mono (by omega)⟩
          · exact ⟨r3, _, atI_nat (j := 2) rfl, J8.h3, (bx.mul by1).mono (by omega)⟩
        · exact ⟨r4, _, atI_nat (j := 3) rfl, h4.same s58, (Bd.div bx by1 (mw3 rfl)).mono (by omega)⟩
      have bv9 : Bd 1900 v := bv.mono (by omega)
      have o8 : Out d H H8 := o5.trans (Out.of s58)
      walk_at "rdh"
      refine r_ixL fl8 ap ?_
      walk_at "rdh"
      refine rd_strOwn hv bv9 ?_
      walk_at "rdh"
      refine ⟨_, rfl, ntext_line bv9, ?_⟩
      walk_at "rdh"
      refine r_ite (fun e => ?_) (fun e => ?_)
      · walk_at "rdh"
        refine rd_strOwn hv bv9 ?_
        walk_at "rdh"
        have len : (NText v).length ≤ 60 := by have := of_decide_eq_true e; omega
        refine ⟨v, rfl, len, bv9, fun g H9 s9 h9 => ?_⟩
        walk_at "rdh"
        refine r_neNum h9 (hv.same s9) ?_
        rw [decide_eq_true rfl]
        walk_at "rdh"
        refine r_iteF rfl ?_
        walk_at "rdh"
        exact ⟨p, v, _, _, _, _, rfl, o8.trans (Out.of s9), J8.wl.same s9, hv.same s9, bv⟩
      · refine r_iteF rfl ?_
        walk_at "rdh"
        exact ⟨p, v, _, _, _, _, rfl, o8, J8.wl, hv, bv⟩
    · rintro σ H1 ⟨h, x, v3, v4, v5, v6, rfl, o1, w1, hx, bx⟩
      walk_at "rdh"
      exact k H1 o1 w1
end
end My

namespace My
open PySem L2 TL
section
variable {P : Program} {w : World} {K : PySem.W.Frag} {mg : Str → Option Value} {base : Heap}
/-! ### the options -/
def optD : PyData := .list [.str ".", .str ",", .tuple [.int 3], .int 1, .tuple [.str "-", .str ""], .tuple [.str "+", .str ""], .str "0123456789", .str "~", .str "@", .tuple [.int 0, .int 2], .str "half even", .str "minus", .tuple [.str "", .str ""]]
theorem optD_short : optD.shown.length ≤ sizeLine := fine_short (n := 8000) (Nat.le_refl _) (by decide +kernel) (by decide +kernel) (by decide +kernel)
def spOpt : Sp := fun vs H Q _ => vs = [] ∧ ∀ H' : Hp, Same H H' → Q (.bl true) H'
theorem okG_l_options_right (T : Txt w K mg) : FnG P w K mg base 1 T.f_l_options_right T.fd_l_options_right [] spOpt := by
  refine FnG.by_body T.F_l_options_right sc_l_options_right (fun vs H Q E h => ?_) (fun cdv A outer s H vs Q E hG hr h => ?_)
  · obtain ⟨rfl, _⟩ := h
    rfl
  · obtain ⟨rfl, k⟩ := h
    refine ⟨_, (pss_cons (ps_set (i := 0) sc_l_options_right.nd rfl (Or.inl rfl) (pe_lst (pa_cons (pe_glob (by rfl) T.m_POINT T.r_POINT) (pa_cons (pe_glob (by rfl) T.m_GROUP T.r_GROUP) (pa_cons (pe_glob (v := .ref T.A_SIZES) (by rfl) T.m_SIZES rfl) (pa_cons (pe_glob (by rfl) T.m_LEAST T.r_LEAST) (pa_cons (pe_glob (v := .ref T.A_MINUS) (by rfl) T.m_MINUS rfl) (pa_cons (pe_glob (v := .ref T.A_PLUS) (by rfl) T.m_PLUS rfl) (pa_cons (pe_glob (by rfl) T.m_FIGURES T.r_FIGURES) (pa_cons (pe_glob (by rfl) T.m_BETWEEN T.r_BETWEEN) (pa_cons (pe_glob (by rfl) T.m_ABOUT T.r_ABOUT) (pa_cons (pe_glob (v := .ref T.A_PLACES) (by rfl) T.m_PLACES rfl) (pa_cons (pe_glob (by rfl) T.m_WAY T.r_WAY) (pa_cons (pe_glob (by rfl) T.m_SIGNS T.r_SIGNS) (pa_cons (pe_glob (v := .ref T.A_UNIT) (by rfl) T.m_UNIT rfl) pa_nil)))))))))))))))
 (pss_cons (ps_set (i := 1) sc_l_options_right.nd rfl (Or.inl rfl) (pe_lst (pa_cons pe_str (pa_cons pe_str (pa_cons (pe_tup (pa_cons pe_int pa_nil)) (pa_cons pe_int (pa_cons (pe_tup (pa_cons pe_str (pa_cons pe_str pa_nil))) (pa_cons (pe_tup (pa_cons pe_str (pa_cons pe_str pa_nil))) (pa_cons pe_str (pa_cons pe_str (pa_cons pe_str (pa_cons (pe_tup (pa_cons pe_int (pa_cons pe_int pa_nil))) (pa_cons pe_str (pa_cons pe_str (pa_cons (pe_tup (pa_cons pe_str (pa_cons pe_str pa_nil))) pa_nil)))))))))))))))
 (pss_cons (ps_set (i := 2) sc_l_options_right.nd rfl (Or.inl rfl) (pe_tup (pa_cons pe_str (pa_cons pe_str (pa_cons pe_str (pa_cons pe_str (pa_cons pe_str (pa_cons pe_str (pa_cons pe_str (pa_cons pe_str pa_nil))))))))))
 (pss_one (ps_ret (pe_and (pe_cmpR op_eq (pe_callB (call_repr hG hr.units) (by rfl) T.n_repr (by decide +kernel) (pa_cons (pv 0) pa_nil)) (pe_callB (call_repr hG hr.units) (by rfl) T.n_repr (by decide +kernel) (pa_cons (pv 1) pa_nil)) (nomark _)) (pe_one (pe_cmpR (op_eqD hr.units) (pe_glob (v := .ref T.A_WAYS) (by rfl) T.m_WAYS rfl) (pv 2) (nomark _))))))))), ?_⟩
    have sH : Same H H := Same.refl _
    walk_at "rdh"
    refine r_new (by show 13 ≤ 1000; decide) fun p1 n1 => ?_
    have s1 := Same.new (o := .lst [.str ".", .str ",", .ref T.A_SIZES, .int 1, .ref T.A_MINUS, .ref T.A_PLUS, .str "0123456789", .str "~", .str "@", .ref T.A_PLACES, .str "half even", .str "minus", .ref T.A_UNIT]) n1
    have g_p1 := upd_same (H := H) (a := p1) (o := HO.lst [.str ".", .str ",", .ref T.A_SIZES, .int 1, .ref T.A_MINUS, .ref T.A_PLUS, .str "0123456789", .str "~", .str "@", .ref T.A_PLACES, .str "half even", .str "minus", .ref T.A_UNIT])
    replace sH := sH.trans s1
    generalize upd H p1 (.lst [.str ".", .str ",", .ref T.A_SIZES, .int 1, .ref T.A_MINUS, .ref T.A_PLUS, .str "0123456789", .str "~", .str "@", .ref T.A_PLACES, .str "half even", .str "minus", .ref T.A_UNIT]) = H1 at *
    walk_at "rdh"
    refine r_new (by show 1 ≤ 1000; decide) fun q_SIZES n2 => ?_
    have s2 := Same.new (o := .tup [.int 3]) n2
    have g_SIZES := upd_same (H := H1) (a := q_SIZES) (o := HO.tup [.int 3])
    replace g_p1 := s2 _ _ g_p1
    replace sH := sH.trans s2
    generalize upd H1 q_SIZES (.tup [.int 3]) = H2 at *
    walk_at "rdh"
    refine r_new (by show 2 ≤ 1000; decide) fun q_MINUS n3 => ?_
    have s3 := Same.new (o := .tup [.str "-", .str ""]) n3
    have g_MINUS := upd_same (H := H2) (a := q_MINUS) (o := HO.tup [.str "-", .str ""])
    replace g_p1 := s3 _ _ g_p1
    replace g_SIZES := s3 _ _ g_SIZES
    replace sH := sH.trans s3
    generalize upd H2 q_MINUS (.tup [.str "-", .str ""]) = H3 at *
    walk_at "rdh"
    refine r_new (by show 2 ≤ 1000; decide) fun q_PLUS n4 => ?_
    have s4 := Same.new (o := .tup [.str "+", .str ""]) n4
    have g_PLUS := upd_same (H := H3) (a := q_PLUS) (o := HO.tup [.str "+", .str ""])
    replace g_p1 := s4 _ _ g_p1
    replace g_SIZES := s4 _ _ g_SIZES
    replace g_MINUS := s4 _ _ g_MINUS
    replace sH := sH.trans s4
    generalize upd H3 q_PLUS (.tup [.str "+", .str ""]) = H4 at *
    walk_at "rdh"
    refine r_new (by show 2 ≤ 1000; decide) fun q_PLACES n5 => ?_
    have s5 := Same.new (o := .tup [.int 0, .int 2]) n5
    have g_PLACES := upd_same (H := H4) (a := q_PLACES) (o := HO.tup [.int 0, .int 2])
    replace g_p1 := s5 _ _ g_p1
    replace g_SIZES := s5 _ _ g_SIZES
    replace g_MINUS := s5 _ _ g_MINUS
    replace g_PLUS := s5 _ _ g_PLUS
    replace sH := sH.trans s5
    generalize upd H4 q_PLACES (.tup [.int 0, .int 2]) = H5 at *
    walk_at "rdh"
    refine r_new (by show 2 ≤ 1000; decide) fun q_UNIT n6 => ?_
    have s6 := Same.new (o := .tup [.str "", .str ""]) n6
    have g_UNIT := upd_same (H := H5) (a := q_UNIT) (o := HO.tup [.str "", .str ""])
    replace g_p1 := s6 _ _ g_p1
    replace g_SIZES := s6 _ _ g_SIZES
    replace g_MINUS := s6 _ _ g_MINUS
    replace g_PLUS := s6 _ _ g_PLUS
    replace g_PLACES := s6 _ _ g_PLACES
    replace sH := sH.trans s6
    generalize upd H5 q_UNIT (.tup [.str "", .str ""]) = H6 at *
    walk_at "rdh"
    refine r_new (by show 13 ≤ 1000; decide) fun p2 n7 => ?_
    have s7 := Same.new (o := .lst [.str ".", .str ",", .ref q_SIZES, .int 1, .ref q_MINUS, .ref q_PLUS, .str "0123456789", .str "~", .str "@", .ref q_PLACES, .str "half even", .str "minus", .ref q_UNIT]) n7
    have g_p2 := upd_same (H := H6) (a := p2) (o := HO.lst [.str ".", .str ",", .ref q_SIZES, .int 1, .ref q_MINUS, .ref q_PLUS, .str "0123456789", .str "~", .str "@", .ref q_PLACES, .str "half even", .str "minus", .ref q_UNIT])
    replace g_p1 := s7 _ _ g_p1
    replace g_SIZES := s7 _ _ g_SIZES
    replace g_MINUS := s7 _ _ g_MINUS
    replace g_PLUS := s7 _ _ g_PLUS
    replace g_PLACES := s7 _ _ g_PLACES
    replace g_UNIT := s7 _ _ g_UNIT
    replace sH := sH.trans s7
    generalize upd H6 p2 (.lst [.str ".", .str ",", .ref q_SIZES, .int 1, .ref q_MINUS, .ref q_PLUS, .str "0123456789", .str "~", .str "@", .ref q_PLACES, .str "half even", .str "minus", .ref q_UNIT]) = H7 at *
    walk_at "rdh"
    refine r_new (by show 8 ≤ 1000; decide) fun p3 n8 => ?_
    have s8 := Same.new (o := .tup [.str "up", .str "down", .str "high", .str "low", .str "half up", .str "half down", .str "half even", .str "half odd"]) n8
    have g_p3 := upd_same (H := H7) (a := p3) (o := HO.tup [.str "up", .str "down", .str "high", .str "low", .str "half up", .str "half down", .str "half even", .str "half odd"])
    replace g_p1 := s8 _ _ g_p1
    replace g_SIZES := s8 _ _ g_SIZES
    replace g_MINUS := s8 _ _ g_MINUS
    replace g_PLUS := s8 _ _ g_PLUS
    replace g_PLACES := s8 _ _ g_PLACES
    replace g_UNIT := s8 _ _ g_UNIT
    replace g_p2 := s8 _ _ g_p2
    replace sH := sH.trans s8
    generalize upd H7 p3 (.tup [.str "up", .str "down", .str "high", .str "low", .str "half up", .str "half down", .str "half even", .str "half odd"]) = H8 at *
    walk_at "rdh"
    refine ⟨p1, optD, rfl, .lst (SqL.of g_p1) (.cons (.str _) (.cons (.str _) (.cons (.tup (T.t_SIZES _) (.cons (.int _) (.nil))) (.cons (.int _) (.cons (.tup (T.t_MINUS _) (.cons (.str _) (.cons (.str _) (.nil)))) (.cons (.tup (T.t_PLUS _) (.cons (.str _) (.cons (.str _) (.nil)))) (.cons (.str _) (.cons (.str _) (.cons (.str _) (.cons (.tup (T.t_PLACES _) (.cons (.int _) (.cons (.int _) (.nil)))) (.cons (.str _) (.cons (.str _) (.cons (.tup (T.t_UNIT _) (.cons (.str _) (.cons (.str _) (.nil)))) (.nil)))))))))))))), rfl, by decide, by decide, optD_short, ?_⟩
    walk_at "rdh"
    refine ⟨p2, optD, rfl, .lst (SqL.of g_p2) (.cons (.str _) (.cons (.str _) (.cons (.tup (SqT.of g_SIZES) (.cons (.int _) (.nil))) (.cons (.int _) (.cons (.tup (SqT.of g_MINUS) (.cons (.str _) (.cons (.str _) (.nil)))) (.cons (.tup (SqT.of g_PLUS) (.cons (.str _) (.cons (.str _) (.nil)))) (.cons (.str _) (.cons (.str _) (.cons (.str _) (.cons (.tup (SqT.of g_PLACES) (.cons (.int _) (.cons (.int _) (.nil)))) (.cons (.str _) (.cons (.str _) (.cons (.tup (SqT.of g_UNIT) (.cons (.str _) (.cons (.str _) (.nil)))) (.nil)))))))))))))), rfl, by decide, by decide, optD_short, ?_⟩
    generalize optD.shown = zz
    walk_at "rdh"
    rw [decide_eq_true rfl]
    refine r_iteT rfl ?_
    walk_at "rdh"
    refine ⟨.tuple [.str "up", .str "down", .str "high", .str "low", .str "half up", .str "half down", .str "half even", .str "half odd"], .tuple [.str "up", .str "down", .str "high", .str "low", .str "half up", .str "half down", .str "half even", .str "half odd"], .tup (T.t_WAYS _) (.cons (.str _) (.cons (.str _) (.cons (.str _) (.cons (.str _) (.cons (.str _) (.cons (.str _) (.cons (.str _) (.cons (.str _) (.nil))))))))), .tup (SqT.of g_p3) (.cons (.str _) (.cons (.str _) (.cons (.str _) (.cons (.str _) (.cons (.str _) (.cons (.str _) (.cons (.str _) (.cons (.str _) (.nil))))))))), by decide +kernel, by decide +kernel, ?_⟩
    rw [show PyData.eqv (.tuple [.str "up", .str "down", .str "high", .str "low", .str "half up", .str "half down", .str "half even", .str "half odd"]) (.tuple [.str "up", .str "down", .str "high", .str "low", .str "half up", .str "half down", .str "half even", .str "half odd"]) = true by decide +kernel]
    exact k _ sH
end
end My

namespace My
open PySem L2 TL
section
variable {P : Program} {w : World} {K : PySem.W.Frag} {mg : Str → Option Value} {base : Heap}
def spLaw (K : PySem.W.Frag) : Sp := fun vs H Q _ => ∃ (a : Addr) (ns : List Int), vs = [.ref a] ∧ SqL K H a (ns.map V.int) ∧ ns.length ≤ 63 ∧ ∀ H', Q (.bl true) H'
theorem none_of {H H1 : Hp} {p : Addr} (s : Same H H1) (h : H1 p = none) : H p = none := by
  cases e : H p with
  | none => rfl
  | some o => rw [s _ _ e] at h; cases h
theorem same_out {H H1 H2 : Hp} {d : Addr} (s : Same H H1) (n : H d = none) (o : Out d H1 H2) : Same H H2 := fun b x e => o b x (ne_of_none e n) (s b x e)
/-- drawn pairs -/
def PairAt6 (H : Hp) (v : V) : Prop := ∃ (p : Addr) (t b : Int), v = .ref p ∧ H p = some (.tup [.int t, .int b]) ∧ t.natAbs < 2 ^ 110 ∧ b ≠ 0 ∧ b.natAbs ≤ 10 ^ 12
theorem PairAt6.out {d : Addr} {H H' : Hp} {v : V} (h : PairAt6 H v) (o : Out d H H') (w : WellAt H d) : PairAt6 H' v := let ⟨p, t, b, e, hp, r⟩ := h; ⟨p, t, b, e, o.keep w hp (fun _ z => by cases z), r⟩
theorem PairAt6.same {H H' : Hp} {v : V} (h : PairAt6 H v) (s : Same H H') : PairAt6 H' v := let ⟨p, t, b, e, hp, r⟩ := h; ⟨p, t, b, e, s _ _ hp, r⟩
theorem FTg.out {C d : Addr} {H H' : Hp} {v : V} {t : Tg} (h : FTg C H v t) (o : Out d H H') (w : WellAt H d) : FTg C H' v t := by
  cases h with
  | int a b => exact .int a b
  | ab => exact .ab
  | non => exact .non
  | tru => exact .tru
  | num h b => exact .num (h.out o w) b
  | pair h => exact .pair (o.keep w h (fun _ z => by cases z))
  | emp => exact .emp
theorem okG_law (T : Txt w K mg) : FnG P w K mg base 16 T.f_law T.fd_law ["_law_script"] (spLaw K) := by
  refine FnG.by_body T.F_law sc_law (fun vs H Q E h => ?_) (fun cdv A outer s H vs Q E hG hr h => ?_)
  · obtain ⟨a, ns, rfl, _⟩ := h
    rfl
  · obtain ⟨a, ns, rfl, hS, hl, k⟩ := h
    refine ⟨_, (pss_cons (ps_for PassesOwn.never rfl (pi_range1 rfl T.n_range (pa_cons (pe_callB (call_max2 rfl) (by rfl) T.n_max (by decide +kernel) (pa_cons pe_int (pa_cons (pe_callB (call_min2 rfl) (by rfl) T.n_min (by decide +kernel) (pa_cons (pe_callB call_len_seq (by rfl) T.n_len PySem.boot_len (pa_cons (pv 0) pa_nil)) (pa_cons pe_int pa_nil))) pa_nil))) pa_nil)) (pg_name (i := 1) sc_law.nd rfl (Or.inl rfl))
  (pss_cons (ps_set (i := 2) sc_law.nd rfl (Or.inr rfl) (pe_call (ok_l_well T) (hr.mono (by decide)) (by rfl) T.m_l_well T.F_l_well.kp T.b_l_well .nil pass0 (pa_cons (pv 0) (pa_cons (pv 1) pa_nil))))
 (pss_cons (ps_setLc (i := 3) (own := [("_law_turn", 11)]) (g := gName 11) (tt := tYes) rfl sc_law.nd rfl rfl (sw_true rfl rfl rfl (by decide +kernel)) (pi_range1 rfl T.n_range (pa_cons pe_int pa_nil)) (blkOk_by (own := [("_law_turn", 11)]) (N := ["_law_script", "_law_k", "_law_well_here", "_law_pairs", "_law_numbers", "_law_a", "_law_b", "_law_c", "_law_fields", "_law_one", "_law_other", "_law_turn", "_law_top", "_law_bottom"]) (sc := defScope s_law) (by decide +kernel)) (fun _ _ _ _ _ => pg_name (i := 11) sc_law.nd rfl (Or.inl rfl)) (fun _ _ _ _ _ => pts_nil) (fun _ _ _ _ _ => (pe_call (ok_l_pair T) (hr.mono (by decide)) (by rfl) T.m_l_pair T.F_l_pair.kp T.b_l_pair .nil pass0 (pa_cons (pv 2) pa_nil))))
 (pss_cons (ps_setLc (i := 4) (own := [("_law_top", 12), ("_law_bottom", 13)]) (g := gTup K 2 (gCons (gName 12) (gCons (gName 13) gNil))) (tt := tYes) rfl sc_law.nd rfl rfl (sw_true rfl rfl rfl (by decide +kernel)) (pi_list (pv 3)) (blkOk_by (own := [("_law_top", 12), ("_law_bottom", 13)]) (N := ["_law_script", "_law_k", "_law_well_here", "_law_pairs", "_law_numbers", "_law_a", "_law_b", "_law_c", "_law_fields", "_law_one", "_law_other", "_law_turn", "_law_top", "_law_bottom"]) (sc := defScope s_law) (by decide +kernel)) (fun _ _ _ _ _ => pg_tup rfl (pgs_cons (pg_name (i := 12) sc_law.nd rfl (Or.inl rfl)) (pgs_cons (pg_name (i := 13) sc_law.nd rfl (Or.inl rfl)) pgs_nil))) (fun _ _ _ _ _ => pts_nil) (fun _ _ _ _ _ => (pe_make T.mk_Number (ok_Number_init T) (hr.mono (by decide)) (by rfl) T.m_Number T.b_Number_init2 .nil pass0 (pa_cons (pv 12) (pa_cons (pv 13) pa_nil)))))
 (pss_cons (ps_for PassesOwn.never rfl (pi_list (pe_lst (pa_cons (pe_slice sl_list (pv 4) po_none (po_some pe_int)) (pa_cons (pe_slice sl_list (pv 4) (po_some pe_int) po_none) (pa_cons (pe_slice sl_list (pe_revL (pv 4)) po_none (po_some pe_int)) (pa_cons (pe_op op_rep (pe_lst (pa_cons (pe_ix ix_list (pv 4) pe_int (fun _ _ => rfl)) pa_nil)) pe_int) pa_nil)))))) (pg_lst rfl (pgs_cons (pg_name (i := 5) sc_law.nd rfl (Or.inl rfl)) (pgs_cons (pg_name (i := 6) sc_law.nd rfl (Or.inl rfl)) (pgs_cons (pg_name (i := 7) sc_law.nd rfl (Or.inl rfl)) pgs_nil))))
  (pss_one (ps_if (pt_not (pt_val (pe_call (ok_l_rules_right T) (hr.mono (by decide)) (by rfl) T.m_l_rules_right T.F_l_rules_right.kp T.b_l_rules_right .nil pass0 (pa_cons (pv 5) (pa_cons (pv 6) (pa_cons (pv 7) pa_nil))))))
  (pss_one (ps_ret pe_bl))
  pss_nil)))
 (pss_cons (ps_set (i := 8) sc_law.nd rfl (Or.inl rfl) (pe_lst (pa_cons (pe_call (ok_l_take T) (hr.mono (by decide)) (by rfl) T.m_l_take T.F_l_take.kp T.b_l_take .nil pass0 (pa_cons (pv 2) (pa_cons pe_int pa_nil))) (pa_cons pe_str (pa_cons pe_non (pa_cons pe_bl (pa_cons (pe_ix ix_list (pv 4) pe_int (fun _ _ => rfl)) (pa_cons (pe_tup (pa_cons pe_int (pa_cons pe_str pa_nil))) (pa_cons pe_str pa_nil)))))))))
 (pss_cons (ps_par (i := 9) (j := 10) rfl sc_law.nd rfl rfl (by decide) rfl rfl (pa_cons (pe_ix ix_list (pv 8) (pe_call (ok_l_take T) (hr.mono (by decide)) (by rfl) T.m_l_take T.F_l_take.kp T.b_l_take .nil pass0 (pa_cons (pv 2) (pa_cons pe_int pa_nil))) (fun _ _ => rfl)) (pa_cons (pe_ix ix_list (pv 8) (pe_call (ok_l_take T) (hr.mono (by decide)) (by rfl) T.m_l_take T.F_l_take.kp T.b_l_take .nil pass0 (pa_cons (pv 2) (pa_cons pe_int pa_nil))) (fun _ _ => rfl)) pa_nil)) (by rfl))
 (pss_one (ps_if (PW.pt (pw_or (pt_not (pt_val (pe_call (ok_l_chain_right T) (hr.mono (by decide)) (by rfl) T.m_l_chain_right T.F_l_chain_right.kp T.b_l_chain_right .nil pass0 (pa_cons (pv 2) (pa_cons (pv 4) pa_nil))))) (pw_or1 (pt_not (pt_val (pe_callG hG (okG_l_refusals_right T) (hr.mono (by decide)) (by rfl) T.m_l_refusals_right T.F_l_refusals_right.kp T.b_l_refusals_right .nil pass0 (pa_cons (pv 9) (pa_cons (pv 10) pa_nil))))))))
  (pss_one (ps_ret pe_bl))
  pss_nil)))))))))
 (pss_one (ps_ret (pe_callG0 hG (okG_l_options_right T) (hr.mono (by decide)) (by rfl) T.m_l_options_right T.F_l_options_right.kp T.b_l_options_right .nil pass0)))), ?_⟩
    have up : ∀ {z : Int} {m : Nat} (n : Nat), z.natAbs < 2 ^ m → m ≤ n → z.natAbs < 2 ^ n := fun n a b => Nat.lt_of_lt_of_le a (Nat.pow_le_pow_right (by decide) b)
    walk_at "rdh"
    refine r_rng1 ?_
    walk_at "rdh"
    refine ⟨a, _, rfl, .inl hS, ?_⟩
    walk_at "rdh"
    refine ⟨_, _, rfl, ?_⟩
    walk_at "rdh"
    refine ⟨_, _, rfl, ?_⟩
    walk_at "rdh"
    rw [List.length_map]
    have nb : (if (if (4 : Int) < (ns.length : Int) then 4 else (ns.length : Int)) > 1 then (if (4 : Int) < (ns.length : Int) then 4 else (ns.length : Int)) else 1) ≤ 4 ∧ 0 ≤ (if (if (4 : Int) < (ns.length : Int) then 4 else (ns.length : Int)) > 1 then (if (4 : Int) < (ns.length : Int) then 4 else (ns.length : Int)) else 1) := by
      split <;> split <;> omega
    generalize (if (if (4 : Int) < (ns.length : Int) then 4 else (ns.length : Int)) > 1 then (if (4 : Int) < (ns.length : Int) then 4 else (ns.length : Int)) else 1) = tn at *
    refine ⟨tn, rfl, by omega, by omega, for_range (lo := 0) (n := tn.toNat) (fun i σ H' => ∃ (v1 v2 v3 v4 v5 v6 v7 v8 v9 v10 v11 v12 v13 : Option V), σ = [some (.ref a), v1, v2, v3, v4, v5, v6, v7, v8, v9, v10, v11, v12, v13] ∧ Same H H')
      ⟨_, _, _, _, _, _, _, _, _, _, _, _, _, rfl, Same.refl _⟩ ?_ ?_⟩
    · rintro i σ H1 hi ⟨v1, v2, v3, v4, v5, v6, v7, v8, v9, v10, v11, v12, v13, rfl, s1⟩
      walk_at "rdh"
      have hk : (0 : Int) + (i : Int) = ((i : Nat) : Int) := by omega
      rw [hk]
      refine ⟨a, ns, i, rfl, SqL.ext hS s1, fun d H2 s2 nd w2 => ?_⟩
      have nd0 := none_of s1 nd
      have s02 := s1.trans s2
      walk_at "rdh"
      refine r_lcR06 ?_
      walk_at "rdh"
      refine ⟨4, rfl, by decide, by decide, fun D hD => ?_⟩
      have Dd := well_ne w2 hD
      have hD0 := none_of s02 hD
      refine lc_range (lo := 0) (n := 4) (fun j H' => ∃ ws : List V, H' D = some (.lst ws) ∧ ws.length = j ∧ j ≤ 4 ∧ (∀ v ∈ ws, PairAt6 H' v) ∧ WellAt H' d ∧ Same H H') ⟨[], upd_same, rfl, by decide, (fun v hv => nomatch hv), w2.same (Same.new hD), s02.trans (Same.new hD)⟩ ?_ ?_
      · rintro j H3 hj ⟨ws, hd3, lw, j4, hp, w3, sH⟩
        walk_at "rdh"
        refine ⟨rfl, ?_⟩
        refine r_tyes06 ?_
        walk_at "rdh"
        refine ⟨d, rfl, w3, fun p t b H4 o4 w4 hp4 tb b0 bl => ?_⟩
        have hd4 := o4 _ _ Dd hd3
        have put : ∀ v, PairAt6 H4 v → PairAt6 (upd H4 D (.lst (ws ++ [.ref p]))) v := fun v ⟨q, t, b, e, hq, r⟩ => ⟨q, t, b, e, by rw [upd_ne (ne_of hq hd4 (fun z => by cases z))]; exact hq, r⟩
        refine ⟨ws, hd4, by rw [lw]; exact Nat.lt_of_lt_of_le (show j < 5 by omega) (by decide), ws ++ [.ref p], upd_same, by rw [List.length_append, lw]; rfl, by omega, fun v hv => ?_, ?_, fun b o hb => ?_⟩
        · rcases List.mem_append.mp hv with z | z
          · exact put v ((hp v z).out o4 w3)
          · rw [List.mem_singleton.mp z]
            exact put _ ⟨p, t, b, rfl, hp4, tb, b0, bl⟩
        · obtain ⟨x, y, z, e⟩ := w4
          exact ⟨x, y, z, by rw [upd_ne (Ne.symm Dd)]; exact e⟩
        · rw [upd_ne (ne_of_none hb hD0)]
          exact o4 _ _ (ne_of_none hb nd0) (sH _ _ hb)
      rintro H3 ⟨ws, hd3, lw, _, hp, w3, sH3⟩
      walk_at "rdh"
      refine r_lcL ?_
      walk_at "rdh"
      refine ⟨D, rfl, ⟨_, SqL.of hd3⟩, fun N hN => ?_⟩
      refine lc_list (K := K) (a := D) (xs := ws) (fun j H' => ∃ ps : List Addr, Same H3 H' ∧ H' N = some (.lst (ps.map V.ref)) ∧ ps.length = j ∧ j ≤ 4 ∧ ∀ (i : Nat) (p : Addr), ps[i]? = some p → ∃ x, NumAt T.C_Number H' p x ∧ Bd 160 x) ⟨[], Same.new hN, upd_same, rfl, by decide, fun i p e => by simp at e⟩ (fun j H' _ ⟨_, s, _⟩ => SqL.of (s _ _ hd3)) ?_ ?_
      · rintro j v H4 hv ⟨ps, s4, hn4, lp, j4, np⟩
        have jw : j < ws.length := (List.getElem?_eq_some_iff.mp hv).1
        obtain ⟨p, t, b, rfl, hpp, tb, b0, bl⟩ := hp v (List.mem_of_getElem? hv)
        walk_at "rdh"
        refine r_gTup (s4 _ _ hpp) rfl ?_
        walk_at "rdh"
        refine ⟨rfl, ?_⟩
        refine r_tyes06 ?_
        walk_at "rdh"
        have b10 : b.natAbs < 2 ^ 160 := Nat.lt_of_le_of_lt bl (by decide)
        refine mk_num b0 (up 9000 b10 (by decide)) fun r H5 s5 n5 (h5 : NumAt T.C_Number H5 r (Rat.divInt t b)) => ?_
        have off : ∀ q x, NumAt T.C_Number H5 q x → NumAt T.C_Number (upd H5 N (.lst (ps.map V.ref ++ [.ref r]))) q x := fun q x ⟨dx, e⟩ => ⟨dx, by rw [upd_ne (ne_of e (s5 _ _ hn4) (fun z => by cases z))]; exact e⟩
        refine ⟨_, s5 _ _ hn4, by rw [List.length_map, lp]; exact Nat.lt_of_lt_of_le (show j < 5 by omega) (by decide), ps ++ [r], fun b o hb => ?_, by rw [upd_same, List.map_append]; rfl, by rw [List.length_append, lp]; rfl, by omega, fun i q e => ?_⟩
        · rw [upd_ne (ne_of_none hb hN)]
          exact s5 _ _ (s4 _ _ hb)
        · rcases List.mem_append.mp (List.mem_of_getElem? e) with z | z
          · obtain ⟨i2, e2⟩ := List.getElem?_of_mem z
            obtain ⟨x, hx, bx⟩ := np i2 q e2
            exact ⟨x, off _ _ (hx.same s5), bx⟩
          · rw [List.mem_singleton.mp z]
            exact ⟨_, off _ _ h5, Bd.of b0 (up 160 tb (by decide)) b10⟩
      rintro H4 ⟨ps, s4, hn4, lp, _, np⟩
      have F4 : Four T.C_Number H4 N ps := ⟨hn4, by omega, np⟩
      have w4 := w3.same s4
      have sH4 := sH3.trans s4
      have Nd : N ≠ d := well_ne w3 hN
      obtain ⟨p0, p1, p2, p3, rfl⟩ : ∃ p0 p1 p2 p3, ps = [p0, p1, p2, p3] := by
        have l4 : ps.length = 4 := F4.len
        match ps, l4 with
        | [a, b, c, d], _ => exact ⟨a, b, c, d, rfl⟩
      have hN4 : H4 N = some (.lst [V.ref p0, .ref p1, .ref p2, .ref p3]) := hn4
      have Q0 := np 0 p0 rfl
      have Q1 := np 1 p1 rfl
      have Q2 := np 2 p2 rfl
      have Q3 := np 3 p3 rfl
      walk_at "rdh"
      refine r_forL ?_
      walk_at "rdh"
      refine ⟨N, _, rfl, SqL.of hN4, fun l1 f1 => ?_⟩
      have k1 : (upd H4 l1 (.lst (cutV [V.ref p0, .ref p1, .ref p2, .ref p3] none (some 3)))) l1 = some (.lst [V.ref p0, .ref p1, .ref p2]) := upd_same
      have z1 := Same.new (o := .lst (cutV [V.ref p0, .ref p1, .ref p2, .ref p3] none (some 3))) f1
      generalize upd H4 l1 (.lst (cutV [V.ref p0, .ref p1, .ref p2, .ref p3] none (some 3))) = G1 at *
      walk_at "rdh"
      refine ⟨N, _, rfl, SqL.of (z1 _ _ hN4), fun l2 f2 => ?_⟩
      have k2 : (upd G1 l2 (.lst (cutV [V.ref p0, .ref p1, .ref p2, .ref p3] (some 1) none))) l2 = some (.lst [V.ref p1, .ref p2, .ref p3]) := upd_same
      have z2 := Same.new (o := .lst (cutV [V.ref p0, .ref p1, .ref p2, .ref p3] (some 1) none)) f2
      generalize upd G1 l2 (.lst (cutV [V.ref p0, .ref p1, .ref p2, .ref p3] (some 1) none)) = G2 at *
      walk_at "rdh"
      refine ⟨N, _, rfl, SqL.of (z2 _ _ (z1 _ _ hN4)), fun lr fr => ?_⟩
      have kr : (upd G2 lr (.lst [V.ref p0, .ref p1, .ref p2, .ref p3].reverse)) lr = some (.lst [V.ref p3, .ref p2, .ref p1, .ref p0]) := upd_same
      have zr := Same.new (o := .lst [V.ref p0, .ref p1, .ref p2, .ref p3].reverse) fr
      generalize upd G2 lr (.lst [V.ref p0, .ref p1, .ref p2, .ref p3].reverse) = Gr at *
      walk_at "rdh"
      refine ⟨lr, _, rfl, SqL.of kr, fun l3 f3 => ?_⟩
      have k3 : (upd Gr l3 (.lst (cutV [V.ref p3, .ref p2, .ref p1, .ref p0] none (some 3)))) l3 = some (.lst [V.ref p3, .ref p2, .ref p1]) := upd_same
      have z3 := Same.new (o := .lst (cutV [V.ref p3, .ref p2, .ref p1, .ref p0] none (some 3))) f3
      generalize upd Gr l3 (.lst (cutV [V.ref p3, .ref p2, .ref p1, .ref p0] none (some 3))) = G3 at *
      walk_at "rdh"
      refine r_ixL (v := .ref p0) (z3 _ _ (zr _ _ (z2 _ _ (z1 _ _ hN4)))) (atI_nat (j := 0) rfl) ?_
      walk_at "rdh"
      refine r_new (by show 1 ≤ 1000; decide) fun lo fo => ?_
      have ko := upd_same (H := G3) (a := lo) (o := HO.lst [V.ref p0])
      have zo := Same.new (o := .lst [V.ref p0]) fo
      generalize upd G3 lo (.lst [V.ref p0]) = Go at *
      walk_at "rdh"
      refine ⟨lo, 3, [V.ref p0], rfl, rfl, ko, by decide, by decide, (show 1 * Int.toNat 3 ≤ sizeLine by decide), fun l4 f4 => ?_⟩
      have k4 : (upd Go l4 (.lst (List.replicate (3 : Int).toNat [V.ref p0]).flatten)) l4 = some (.lst [V.ref p0, .ref p0, .ref p0]) := upd_same
      have z4 := Same.new (o := .lst (List.replicate (3 : Int).toNat [V.ref p0]).flatten) f4
      generalize upd Go l4 (.lst (List.replicate (3 : Int).toNat [V.ref p0]).flatten) = G4 at *
      walk_at "rdh"
      refine r_new (by show 4 ≤ 1000; decide) fun ls fs => ?_
      have ks := upd_same (H := G4) (a := ls) (o := HO.lst [V.ref l1, .ref l2, .ref l3, .ref l4])
      have zs := Same.new (o := .lst [V.ref l1, .ref l2, .ref l3, .ref l4]) fs
      generalize upd G4 ls (.lst [V.ref l1, .ref l2, .ref l3, .ref l4]) = G5 at *
      have y4 := zs
      have y3 := (zo.trans z4).trans zs
      have y2 := (zr.trans z3).trans y3
      have y1 := z2.trans y2
      have z45 := z1.trans y1
      have rows : ∀ v ∈ [V.ref l1, .ref l2, .ref l3, .ref l4], ∃ la x1 x2 x3, v = .ref la ∧ G5 la = some (.lst [V.ref x1, .ref x2, .ref x3]) ∧ (∃ x, NumAt T.C_Number H4 x1 x ∧ Bd 160 x) ∧ (∃ x, NumAt T.C_Number H4 x2 x ∧ Bd 160 x) ∧ (∃ x, NumAt T.C_Number H4 x3 x ∧ Bd 160 x) := by
        intro v hv
        simp only [List.mem_cons, List.not_mem_nil, or_false] at hv
        rcases hv with rfl | rfl | rfl | rfl
        · exact ⟨l1, _, _, _, rfl, y1 _ _ k1, Q0, Q1, Q2⟩
        · exact ⟨l2, _, _, _, rfl, y2 _ _ k2, Q1, Q2, Q3⟩
        · exact ⟨l3, _, _, _, rfl, y3 _ _ k3, Q3, Q2, Q1⟩
        · exact ⟨l4, _, _, _, rfl, y4 _ _ k4, Q0, Q0, Q0⟩
      walk_at "rdh"
      refine ⟨ls, rfl, ⟨_, SqL.of ks⟩, for_list (K := K) (a := ls) (xs := [V.ref l1, .ref l2, .ref l3, .ref l4]) (fun j σ H' => ∃ (v5 v6 v7 v8 v9 v10 v11 v12 v13 : Option V), σ = [some (.ref a), some (.int (i : Int)), some (.ref d), some (.ref D), some (.ref N), v5, v6, v7, v8, v9, v10, v11, v12, v13] ∧ Same G5 H')
        ⟨_, _, _, _, _, _, _, _, _, rfl, Same.refl _⟩ (fun j σ H' _ ⟨_, _, _, _, _, _, _, _, _, _, s⟩ => SqL.of (s _ _ ks)) ?_ ?_⟩
      · rintro j y σ H7 hy ⟨v5, v6, v7, v8, v9, v10, v11, v12, v13, rfl, s7⟩
        obtain ⟨la, x1, x2, x3, rfl, hla, ⟨u1, n1, c1⟩, ⟨u2, n2, c2⟩, ⟨u3, n3, c3⟩⟩ := rows y (List.mem_of_getElem? hy)
        have s47 := z45.trans s7
        refine ⟨la, _, rfl, SqL.of (s7 _ _ hla), rfl, ?_⟩
        walk_at "rdh"
        refine ⟨x1, x2, x3, u1, u2, u3, rfl, n1.same s47, n2.same s47, n3.same s47, c1, c2, c3, fun H8 s8 => ?_⟩
        walk_at "rdh"
        refine r_iteF rfl ?_
        walk_at "rdh"
        exact ⟨_, _, _, _, _, _, _, _, _, rfl, s7.trans s8⟩
      rintro σ H7 ⟨v5, v6, v7, v8, v9, v10, v11, v12, v13, rfl, s7⟩
      have s47 := z45.trans s7
      have w7 := w4.same s47
      have F7 := F4.same s47
      have sH7 := sH4.trans s47
      walk_at "rdh"
      refine rd_take w7 (by decide) (by decide) fun r H8 o8 w8 r0 r1 => ?_
      have F8 := F7.out o8 w7 Nd
      have sH8 := same_out sH7 nd0 o8
      walk_at "rdh"
      refine r_ixL (v := .ref p0) F8.at_ (atI_nat (j := 0) rfl) ?_
      walk_at "rdh"
      refine r_new (by show 2 ≤ 1000; decide) fun tp ft => ?_
      have kt := upd_same (H := H8) (a := tp) (o := HO.tup [.int 1, .str "x"])
      have zt := Same.new (o := .tup [.int 1, .str "x"]) ft
      generalize upd H8 tp (.tup [.int 1, .str "x"]) = H9 at *
      have w9 := w8.same zt
      walk_at "rdh"
      refine r_new (by show 7 ≤ 1000; decide) fun fl ff => ?_
      have kf := upd_same (H := H9) (a := fl) (o := HO.lst [.int r, .str "ab", .non, .bl true, .ref p0, .ref tp, .str ""])
      have zf := Same.new (o := .lst [.int r, .str "ab", .non, .bl true, .ref p0, .ref tp, .str ""]) ff
      have fne : fl ≠ d := well_ne w9 ff
      generalize upd H9 fl (.lst [.int r, .str "ab", .non, .bl true, .ref p0, .ref tp, .str ""]) = HA at *
      have w10 := w9.same zf
      have FA := F8.same (zt.trans zf)
      have sHA := sH8.trans (zt.trans zf)
      have ktA := zf _ _ kt
      obtain ⟨q0, hq0, bq0⟩ := FA.num 0 p0 rfl
      have flds : ∀ r2 : Int, 0 ≤ r2 → r2 < 7 → ∃ v t, atI [V.int r, .str "ab", .non, .bl true, .ref p0, .ref tp, .str ""] r2 = some v ∧ FTg T.C_Number HA v t := by
        intro r2 h0 h1
        obtain ⟨n, rfl⟩ := Int.eq_ofNat_of_zero_le h0
        have hn : n < 7 := by omega
        match n, hn with
        | 0, _ => exact ⟨_, _, atI_nat (j := 0) rfl, .int r0 r1⟩
        | 1, _ => exact ⟨_, _, atI_nat (j := 1) rfl, .ab⟩
        | 2, _ => exact ⟨_, _, atI_nat (j := 2) rfl, .non⟩
        | 3, _ => exact ⟨_, _, atI_nat (j := 3) rfl, .tru⟩
        | 4, _ => exact ⟨_, _, atI_nat (j := 4) rfl, .num hq0 (bq0.mono (by decide))⟩
        | 5, _ => exact ⟨_, _, atI_nat (j := 5) rfl, .pair ktA⟩
        | 6, _ => exact ⟨_, _, atI_nat (j := 6) rfl, .emp⟩
        | n + 7, hn => omega
      walk_at "rdh"
      refine rd_take w10 (by decide) (by decide) fun m1 HB oB wB m10 m11 => ?_
      have kfB := oB _ _ fne kf
      obtain ⟨u1, t1, a1, g1⟩ := flds m1 m10 m11
      refine r_ixL kfB a1 ?_
      walk_at "rdh"
      refine rd_take wB (by decide) (by decide) fun m2 HC oC wC m20 m21 => ?_
      obtain ⟨u2, t2, a2, g2⟩ := flds m2 m20 m21
      refine r_ixL (oC _ _ fne kfB) a2 ?_
      walk_at "rdh"
      have FC := (FA.out oB w10 Nd).out oC wB Nd
      have sHC := same_out sHA nd0 (oB.trans oC)
      refine ⟨d, N, _, rfl, wC, Nd, FC, fun HD oD wD => ?_⟩
      walk_at "rdh"
      refine r_iteF rfl ?_
      walk_at "rdh"
      refine ⟨u1, u2, t1, t2, rfl, ((g1.out oB w10).out oC wB).out oD wC, ((g2.out oB w10).out oC wB).out oD wC, fun HE sE => ?_⟩
      walk_at "rdh"
      refine r_iteF rfl ?_
      walk_at "rdh"
      exact ⟨_, _, _, _, _, _, _, _, _, _, _, _, _, rfl, (same_out sHC nd0 oD).trans sE⟩
    · rintro σ H1 ⟨v1, v2, v3, v4, v5, v6, v7, v8, v9, v10, v11, v12, v13, rfl, s1⟩
      walk_at "rdh"
      refine ⟨rfl, fun H9 s9 => ?_⟩
      walk_at "rdh"
      exact k _
end
end My

namespace My
open PySem L2
theorem kit_self {K : PySem.W.Frag} {C : Addr} : PySem.W.kitOne K (.ref C) (.ref C) = some true := if_pos (by simp)
theorem bi_Number_init {K : PySem.W.Frag} {f : Addr} {fd : FuncData} (F : FunD K "__init__" "Number.__init__" (defArgs s_Number_init) (defBody s_Number_init) (defScope s_Number_init) [V.int 1] [] f fd) :
    Binds K fd ["self", "top", "bottom"] [] ∧ ∃ ds : List Value, Vals [V.int 1] ds ∧ Binds K fd ["self", "top", "bottom"] ds := by
  constructor
  · obtain ⟨ds, r, b⟩ := F.binds1 (ps := ["self", "top", "bottom"]) 3 1 (by simp) rfl fun T kV doc pm an cdv ct us its h1 h2 => match us, its, h1, h2 with | [_, _, _], [_], _, _ => ⟨_, rfl, rfl⟩
    cases r
    exact b
  · exact F.binds1 (ps := ["self", "top", "bottom"]) 2 0 (by simp) rfl fun T kV doc pm an cdv ct us its h1 h2 => match us, its, h1, h2 with | [_, _], [_], _, _ => ⟨_, rfl, rfl⟩
theorem all_mk {l : PySem.W.OpenLaw} {w : World} {K : PySem.W.Frag} {h : Heap} {mg : Str → Option Value} {fa : Addr} (X : K.In h) (G : h.Ns mainGlobals mg) (hfa : mg "law" = some (.ref fa))
    {C_Number : Addr}
    {f_Number_init : Addr} {od_Number_init an_Number_init : Option Addr} {sl_Number_init : Array (Option Value)} {oc_Number_init dc_Number_init pm_Number_init cd_Number_init ct_Number_init : Value}
    {kV_Number_init : Value}
    {Td_Number_init : Addr} {cT_Number_init : Value} {dT_Number_init : Option Addr} {nT_Number_init : Nat} {sT_Number_init : Array (Option Value)} {tk_Number_init : Tok}
    {f_Number_eq : Addr} {od_Number_eq an_Number_eq : Option Addr} {sl_Number_eq : Array (Option Value)} {oc_Number_eq dc_Number_eq pm_Number_eq cd_Number_eq ct_Number_eq : Value}
    {kV_Number_eq : Value}
    {f_Number_str : Addr} {od_Number_str an_Number_str : Option Addr} {sl_Number_str : Array (Option Value)} {oc_Number_str dc_Number_str pm_Number_str cd_Number_str ct_Number_str : Value}
    {kV_Number_str : Value}
    {f_Number_repr : Addr} {od_Number_repr an_Number_repr : Option Addr} {sl_Number_repr : Array (Option Value)} {oc_Number_repr dc_Number_repr pm_Number_repr cd_Number_repr ct_Number_repr : Value}
    {kV_Number_repr : Value}
    {f_Number_more : Addr} {od_Number_more an_Number_more : Option Addr} {sl_Number_more : Array (Option Value)} {oc_Number_more dc_Number_more pm_Number_more cd_Number_more ct_Number_more : Value}
    {kV_Number_more : Value}
    {f_Number_less : Addr} {od_Number_less an_Number_less : Option Addr} {sl_Number_less : Array (Option Value)} {oc_Number_less dc_Number_less pm_Number_less cd_Number_less ct_Number_less : Value}
    {kV_Number_less : Value}
    {f_Number_times : Addr} {od_Number_times an_Number_times : Option Addr} {sl_Number_times : Array (Option Value)} {oc_Number_times dc_Number_times pm_Number_times cd_Number_times ct_Number_times : Value}
    {kV_Number_times : Value}
    {f_Number_over : Addr} {od_Number_over an_Number_over : Option Addr} {sl_Number_over : Array (Option Value)} {oc_Number_over dc_Number_over pm_Number_over cd_Number_over ct_Number_over : Value}
    {kV_Number_over : Value}
    {f_Number_below : Addr} {od_Number_below an_Number_below : Option Addr} {sl_Number_below : Array (Option Value)} {oc_Number_below dc_Number_below pm_Number_below cd_Number_below ct_Number_below : Value}
    {kV_Number_below : Value}
    {f_Number_size : Addr} {od_Number_size an_Number_size : Option Addr} {sl_Number_size : Array (Option Value)} {oc_Number_size dc_Number_size pm_Number_size cd_Number_size ct_Number_size : Value}
    {kV_Number_size : Value}
    {f_Number_floor : Addr} {od_Number_floor an_Number_floor : Option Addr} {sl_Number_floor : Array (Option Value)} {oc_Number_floor dc_Number_floor pm_Number_floor cd_Number_floor ct_Number_floor : Value}
    {kV_Number_floor : Value}
    {f_read_number : Addr} {od_read_number an_read_number : Option Addr} {sl_read_number : Array (Option Value)} {oc_read_number dc_read_number pm_read_number cd_read_number ct_read_number : Value}
    {kV_read_number : Value}
    {f_whole : Addr} {od_whole an_whole : Option Addr} {sl_whole : Array (Option Value)} {oc_whole dc_whole pm_whole cd_whole ct_whole : Value}
    {kV_whole : Value}
    {f_l_well : Addr} {od_l_well an_l_well : Option Addr} {sl_l_well : Array (Option Value)} {oc_l_well dc_l_well pm_l_well cd_l_well ct_l_well : Value}
    {kV_l_well : Value}
    {f_l_take : Addr} {od_l_take an_l_take : Option Addr} {sl_l_take : Array (Option Value)} {oc_l_take dc_l_take pm_l_take cd_l_take ct_l_take : Value}
    {kV_l_take : Value}
    {f_l_ten : Addr} {od_l_ten an_l_ten : Option Addr} {sl_l_ten : Array (Option Value)} {oc_l_ten dc_l_ten pm_l_ten cd_l_ten ct_l_ten : Value}
    {kV_l_ten : Value}
    {f_l_pair : Addr} {od_l_pair an_l_pair : Option Addr} {sl_l_pair : Array (Option Value)} {oc_l_pair dc_l_pair pm_l_pair cd_l_pair ct_l_pair : Value}
    {kV_l_pair : Value}
    {f_l_rules_right : Addr} {od_l_rules_right an_l_rules_right : Option Addr} {sl_l_rules_right : Array (Option Value)} {oc_l_rules_right dc_l_rules_right pm_l_rules_right cd_l_rules_right ct_l_rules_right : Value}
    {kV_l_rules_right : Value}
    {f_l_chain_right : Addr} {od_l_chain_right an_l_chain_right : Option Addr} {sl_l_chain_right : Array (Option Value)} {oc_l_chain_right dc_l_chain_right pm_l_chain_right cd_l_chain_right ct_l_chain_right : Value}
    {kV_l_chain_right : Value}
    {f_l_kinds : Addr} {od_l_kinds an_l_kinds : Option Addr} {sl_l_kinds : Array (Option Value)} {oc_l_kinds dc_l_kinds pm_l_kinds cd_l_kinds ct_l_kinds : Value}
    {kV_l_kinds : Value}
    {f_l_refusals_right : Addr} {od_l_refusals_right an_l_refusals_right : Option Addr} {sl_l_refusals_right : Array (Option Value)} {oc_l_refusals_right dc_l_refusals_right pm_l_refusals_right cd_l_refusals_right ct_l_refusals_right : Value}
    {kV_l_refusals_right : Value}
    {f_l_options_right : Addr} {od_l_options_right an_l_options_right : Option Addr} {sl_l_options_right : Array (Option Value)} {oc_l_options_right dc_l_options_right pm_l_options_right cd_l_options_right ct_l_options_right : Value}
    {kV_l_options_right : Value}
    {f_law : Addr} {od_law an_law : Option Addr} {sl_law : Array (Option Value)} {oc_law dc_law pm_law cd_law ct_law : Value}
    {kV_law : Value}
    {f_NoTextI : Addr} {od_NoText an_NoText : Option Addr} {sl_NoText : Array (Option Value)} {oc_NoText dc_NoText pm_NoText cd_NoText ct_NoText : Value}
    {f_UnsortedI : Addr} {od_Unsorted an_Unsorted : Option Addr} {sl_Unsorted : Array (Option Value)} {oc_Unsorted dc_Unsorted pm_Unsorted cd_Unsorted ct_Unsorted : Value}
    {f_NoBottomI : Addr} {od_NoBottom an_NoBottom : Option Addr} {sl_NoBottom : Array (Option Value)} {oc_NoBottom dc_NoBottom pm_NoBottom cd_NoBottom ct_NoBottom : Value}
    {f_FigureErrorI : Addr} {od_FigureError an_FigureError : Option Addr} {sl_FigureError : Array (Option Value)} {oc_FigureError dc_FigureError pm_FigureError cd_FigureError ct_FigureError : Value}
    {C_NoText N_NoText : Addr} {nm_NoText q_NoText : Str} {bs_NoText : List Value} {sn_NoText : List Str} {sub_NoText : List Value} {ab_NoText : Bool} {col_NoText : Option Bool} {dd_NoText : Option Addr} {k0_NoText k1_NoText k2_NoText k3_NoText k5_NoText : Option Value}
    {C_Unsorted N_Unsorted : Addr} {nm_Unsorted q_Unsorted : Str} {bs_Unsorted : List Value} {sn_Unsorted : List Str} {sub_Unsorted : List Value} {ab_Unsorted : Bool} {col_Unsorted : Option Bool} {dd_Unsorted : Option Addr} {k0_Unsorted k1_Unsorted k2_Unsorted k3_Unsorted k5_Unsorted : Option Value}
    {C_NoBottom N_NoBottom : Addr} {nm_NoBottom q_NoBottom : Str} {bs_NoBottom : List Value} {sn_NoBottom : List Str} {sub_NoBottom : List Value} {ab_NoBottom : Bool} {col_NoBottom : Option Bool} {dd_NoBottom : Option Addr} {k0_NoBottom k1_NoBottom k2_NoBottom k3_NoBottom k5_NoBottom : Option Value}
    {C_NoCustom N_NoCustom : Addr} {nm_NoCustom q_NoCustom : Str} {bs_NoCustom : List Value} {sn_NoCustom : List Str} {sub_NoCustom : List Value} {ab_NoCustom : Bool} {col_NoCustom : Option Bool} {dd_NoCustom : Option Addr} {k0_NoCustom k1_NoCustom k2_NoCustom k3_NoCustom k5_NoCustom : Option Value}
    {C_NoWish N_NoWish : Addr} {nm_NoWish q_NoWish : Str} {bs_NoWish : List Value} {sn_NoWish : List Str} {sub_NoWish : List Value} {ab_NoWish : Bool} {col_NoWish : Option Bool} {dd_NoWish : Option Addr} {k0_NoWish k1_NoWish k2_NoWish k3_NoWish k5_NoWish : Option Value}
    {C_NoFit N_NoFit : Addr} {nm_NoFit q_NoFit : Str} {bs_NoFit : List Value} {sn_NoFit : List Str} {sub_NoFit : List Value} {ab_NoFit : Bool} {col_NoFit : Option Bool} {dd_NoFit : Option Addr} {k0_NoFit k1_NoFit k2_NoFit k3_NoFit k5_NoFit : Option Value}
    {C_NoRead N_NoRead : Addr} {nm_NoRead q_NoRead : Str} {bs_NoRead : List Value} {sn_NoRead : List Str} {sub_NoRead : List Value} {ab_NoRead : Bool} {col_NoRead : Option Bool} {dd_NoRead : Option Addr} {k0_NoRead k1_NoRead k2_NoRead k3_NoRead k5_NoRead : Option Value}
    {C_NoName N_NoName : Addr} {nm_NoName q_NoName : Str} {bs_NoName : List Value} {sn_NoName : List Str} {sub_NoName : List Value} {ab_NoName : Bool} {col_NoName : Option Bool} {dd_NoName : Option Addr} {k0_NoName k1_NoName k2_NoName k3_NoName k5_NoName : Option Value}
    {C_FigureError N_FigureError : Addr} {nm_FigureError q_FigureError : Str} {bs_FigureError : List Value} {sn_FigureError : List Str} {sub_FigureError : List Value} {ab_FigureError : Bool} {col_FigureError : Option Bool} {dd_FigureError : Option Addr} {k0_FigureError k1_FigureError k2_FigureError k3_FigureError k5_FigureError : Option Value}
    {t_POINT : Tok}
    {t_GROUP : Tok}
    {t_FIGURES : Tok}
    {t_BETWEEN : Tok}
    {t_ABOUT : Tok}
    {t_SIGNS : Tok}
    {A_SIZES : Addr} {d_SIZES : Option Addr} {n_SIZES : Nat} {s_SIZES : Array (Option Value)} {tk0_SIZES : Tok}
    {A_MINUS : Addr} {d_MINUS : Option Addr} {n_MINUS : Nat} {s_MINUS : Array (Option Value)} {tk0_MINUS tk1_MINUS : Tok}
    {A_PLUS : Addr} {d_PLUS : Option Addr} {n_PLUS : Nat} {s_PLUS : Array (Option Value)} {tk0_PLUS tk1_PLUS : Tok}
    {A_PLACES : Addr} {d_PLACES : Option Addr} {n_PLACES : Nat} {s_PLACES : Array (Option Value)} {tk0_PLACES tk1_PLACES : Tok}
    {A_UNIT : Addr} {d_UNIT : Option Addr} {n_UNIT : Nat} {s_UNIT : Array (Option Value)} {tk0_UNIT tk1_UNIT : Tok}
    {A_WAYS : Addr} {dW : Option Addr} {nW : Nat} {sW : Array (Option Value)} {tW0 tW1 tW2 tW3 tW4 tW5 tW6 tW7 : Tok}
    {tWAY : Tok}
    {t_c_LONGEST_TEXT : Tok}
    {t_c_LEAST : Tok}
    (aC_Number : PySem.W.nsIn K mainGlobals "Number" = some (some (.ref C_Number)))
    (pg_Number : PySem.W.plainGet K C_Number Str.empty = true)
    (hd_Number : PySem.W.hasDictIn K C_Number = true)
    (po_Number : PySem.W.plainOver K C_Number = true)
    (sa_Number : PySem.W.findIn K (.ref C_Number) "__setattr__" = some (some (.builtin "object.__setattr__")))
    (nf_Number_top : PySem.W.findIn K (.ref C_Number) "top" = some none)
    (nf_Number_bottom : PySem.W.findIn K (.ref C_Number) "bottom" = some none)
    (tc_Number : PySem.W.findIn K (.ref C_Number) "__class__" = some (some (.builtin "object.__class__")))
    (tg_Number : PySem.W.specialIn K (.builtin "object.__class__") "__get__" = some (some (.builtin "getset_descriptor.__get__")))
    (tt_Number : PySem.W.takesIn K (.builtin "object.__class__") = some true)
    (tm_Number : PySem.W.mroIn K C_Number (.type "object") = some true)
    (nn_Number : PySem.W.findIn K (.ref C_Number) "__ne__" = some (some (.builtin "object.__ne__")))
    (mi_Number : PySem.W.makesIn K C_Number = true)
    (kc_Number : PySem.W.keepIn K (.ref C_Number) = true)
    (a_Number_init : PySem.W.findIn K (.ref C_Number) "__init__" = some (some (.ref f_Number_init)))
    (i_Number_init : PySem.W.isFn K (.ref f_Number_init) = true)
    (l_Number_init : K.lookup f_Number_init = some ⟨oc_Number_init, od_Number_init, .func (PySem.W.fnOf "__init__" "Number.__init__" (defArgs s_Number_init) (defBody s_Number_init) (defScope s_Number_init) (.ref Td_Number_init) kV_Number_init dc_Number_init pm_Number_init an_Number_init cd_Number_init ct_Number_init), sl_Number_init⟩)
    (c_Number_init : PySem.W.codeIn K cd_Number_init "Number.__init__" = true)
    (k_Number_init : PySem.W.keepIn K (.ref f_Number_init) = true)
    (T_Number_init : K.lookup Td_Number_init = some ⟨cT_Number_init, dT_Number_init, .seq #[.int 1 tk_Number_init] nT_Number_init, sT_Number_init⟩)
    (a_Number_eq : PySem.W.findIn K (.ref C_Number) "__eq__" = some (some (.ref f_Number_eq)))
    (i_Number_eq : PySem.W.isFn K (.ref f_Number_eq) = true)
    (l_Number_eq : K.lookup f_Number_eq = some ⟨oc_Number_eq, od_Number_eq, .func (PySem.W.fnOf "__eq__" "Number.__eq__" (defArgs s_Number_eq) (defBody s_Number_eq) (defScope s_Number_eq) .none kV_Number_eq dc_Number_eq pm_Number_eq an_Number_eq cd_Number_eq ct_Number_eq), sl_Number_eq⟩)
    (c_Number_eq : PySem.W.codeIn K cd_Number_eq "Number.__eq__" = true)
    (k_Number_eq : PySem.W.keepIn K (.ref f_Number_eq) = true)
    (a_Number_str : PySem.W.findIn K (.ref C_Number) "__str__" = some (some (.ref f_Number_str)))
    (i_Number_str : PySem.W.isFn K (.ref f_Number_str) = true)
    (l_Number_str : K.lookup f_Number_str = some ⟨oc_Number_str, od_Number_str, .func (PySem.W.fnOf "__str__" "Number.__str__" (defArgs s_Number_str) (defBody s_Number_str) (defScope s_Number_str) .none kV_Number_str dc_Number_str pm_Number_str an_Number_str cd_Number_str ct_Number_str), sl_Number_str⟩)
    (c_Number_str : PySem.W.codeIn K cd_Number_str "Number.__str__" = true)
    (k_Number_str : PySem.W.keepIn K (.ref f_Number_str) = true)
    (a_Number_repr : PySem.W.findIn K (.ref C_Number) "__repr__" = some (some (.ref f_Number_repr)))
    (i_Number_repr : PySem.W.isFn K (.ref f_Number_repr) = true)
    (l_Number_repr : K.lookup f_Number_repr = some ⟨oc_Number_repr, od_Number_repr, .func (PySem.W.fnOf "__repr__" "Number.__repr__" (defArgs s_Number_repr) (defBody s_Number_repr) (defScope s_Number_repr) .none kV_Number_repr dc_Number_repr pm_Number_repr an_Number_repr cd_Number_repr ct_Number_repr), sl_Number_repr⟩)
    (c_Number_repr : PySem.W.codeIn K cd_Number_repr "Number.__repr__" = true)
    (k_Number_repr : PySem.W.keepIn K (.ref f_Number_repr) = true)
    (a_Number_more : PySem.W.findIn K (.ref C_Number) "more" = some (some (.ref f_Number_more)))
    (i_Number_more : PySem.W.isFn K (.ref f_Number_more) = true)
    (l_Number_more : K.lookup f_Number_more = some ⟨oc_Number_more, od_Number_more, .func (PySem.W.fnOf "more" "Number.more" (defArgs s_Number_more) (defBody s_Number_more) (defScope s_Number_more) .none kV_Number_more dc_Number_more pm_Number_more an_Number_more cd_Number_more ct_Number_more), sl_Number_more⟩)
    (c_Number_more : PySem.W.codeIn K cd_Number_more "Number.more" = true)
    (k_Number_more : PySem.W.keepIn K (.ref f_Number_more) = true)
    (a_Number_less : PySem.W.findIn K (.ref C_Number) "less" = some (some (.ref f_Number_less)))
    (i_Number_less : PySem.W.isFn K (.ref f_Number_less) = true)
    (l_Number_less : K.lookup f_Number_less = some ⟨oc_Number_less, od_Number_less, .func (PySem.W.fnOf "less" "Number.less" (defArgs s_Number_less) (defBody s_Number_less) (defScope s_Number_less) .none kV_Number_less dc_Number_less pm_Number_less an_Number_less cd_Number_less ct_Number_less), sl_Number_less⟩)
    (c_Number_less : PySem.W.codeIn K cd_Number_less "Number.less" = true)
    (k_Number_less : PySem.W.keepIn K (.ref f_Number_less) = true)
    (a_Number_times : PySem.W.findIn K (.ref C_Number) "times" = some (some (.ref f_Number_times)))
    (i_Number_times : PySem.W.isFn K (.ref f_Number_times) = true)
    (l_Number_times : K.lookup f_Number_times = some ⟨oc_Number_times, od_Number_times, .func (PySem.W.fnOf "times" "Number.times" (defArgs s_Number_times) (defBody s_Number_times) (defScope s_Number_times) .none kV_Number_times dc_Number_times pm_Number_times an_Number_times cd_Number_times ct_Number_times), sl_Number_times⟩)
    (c_Number_times : PySem.W.codeIn K cd_Number_times "Number.times" = true)
    (k_Number_times : PySem.W.keepIn K (.ref f_Number_times) = true)
    (a_Number_over : PySem.W.findIn K (.ref C_Number) "over" = some (some (.ref f_Number_over)))
    (i_Number_over : PySem.W.isFn K (.ref f_Number_over) = true)
    (l_Number_over : K.lookup f_Number_over = some ⟨oc_Number_over, od_Number_over, .func (PySem.W.fnOf "over" "Number.over" (defArgs s_Number_over) (defBody s_Number_over) (defScope s_Number_over) .none kV_Number_over dc_Number_over pm_Number_over an_Number_over cd_Number_over ct_Number_over), sl_Number_over⟩)
    (c_Number_over : PySem.W.codeIn K cd_Number_over "Number.over" = true)
    (k_Number_over : PySem.W.keepIn K (.ref f_Number_over) = true)
    (a_Number_below : PySem.W.findIn K (.ref C_Number) "below" = some (some (.ref f_Number_below)))
    (i_Number_below : PySem.W.isFn K (.ref f_Number_below) = true)
    (l_Number_below : K.lookup f_Number_below = some ⟨oc_Number_below, od_Number_below, .func (PySem.W.fnOf "below" "Number.below" (defArgs s_Number_below) (defBody s_Number_below) (defScope s_Number_below) .none kV_Number_below dc_Number_below pm_Number_below an_Number_below cd_Number_below ct_Number_below), sl_Number_below⟩)
    (c_Number_below : PySem.W.codeIn K cd_Number_below "Number.below" = true)
    (k_Number_below : PySem.W.keepIn K (.ref f_Number_below) = true)
    (a_Number_size : PySem.W.findIn K (.ref C_Number) "size" = some (some (.ref f_Number_size)))
    (i_Number_size : PySem.W.isFn K (.ref f_Number_size) = true)
    (l_Number_size : K.lookup f_Number_size = some ⟨oc_Number_size, od_Number_size, .func (PySem.W.fnOf "size" "Number.size" (defArgs s_Number_size) (defBody s_Number_size) (defScope s_Number_size) .none kV_Number_size dc_Number_size pm_Number_size an_Number_size cd_Number_size ct_Number_size), sl_Number_size⟩)
    (c_Number_size : PySem.W.codeIn K cd_Number_size "Number.size" = true)
    (k_Number_size : PySem.W.keepIn K (.ref f_Number_size) = true)
    (a_Number_floor : PySem.W.findIn K (.ref C_Number) "floor" = some (some (.ref f_Number_floor)))
    (i_Number_floor : PySem.W.isFn K (.ref f_Number_floor) = true)
    (l_Number_floor : K.lookup f_Number_floor = some ⟨oc_Number_floor, od_Number_floor, .func (PySem.W.fnOf "floor" "Number.floor" (defArgs s_Number_floor) (defBody s_Number_floor) (defScope s_Number_floor) .none kV_Number_floor dc_Number_floor pm_Number_floor an_Number_floor cd_Number_floor ct_Number_floor), sl_Number_floor⟩)
    (c_Number_floor : PySem.W.codeIn K cd_Number_floor "Number.floor" = true)
    (k_Number_floor : PySem.W.keepIn K (.ref f_Number_floor) = true)
    (a_read_number : PySem.W.nsIn K mainGlobals "read_number" = some (some (.ref f_read_number)))
    (l_read_number : K.lookup f_read_number = some ⟨oc_read_number, od_read_number, .func (PySem.W.fnOf "read_number" "read_number" (defArgs s_read_number) (defBody s_read_number) (defScope s_read_number) .none kV_read_number dc_read_number pm_read_number an_read_number cd_read_number ct_read_number), sl_read_number⟩)
    (c_read_number : PySem.W.codeIn K cd_read_number "read_number" = true)
    (k_read_number : PySem.W.keepIn K (.ref f_read_number) = true)
    (a_whole : PySem.W.nsIn K mainGlobals "_whole" = some (some (.ref f_whole)))
    (l_whole : K.lookup f_whole = some ⟨oc_whole, od_whole, .func (PySem.W.fnOf "_whole" "_whole" (defArgs s_whole) (defBody s_whole) (defScope s_whole) .none kV_whole dc_whole pm_whole an_whole cd_whole ct_whole), sl_whole⟩)
    (c_whole : PySem.W.codeIn K cd_whole "_whole" = true)
    (k_whole : PySem.W.keepIn K (.ref f_whole) = true)
    (a_l_well : PySem.W.nsIn K mainGlobals "_law_well" = some (some (.ref f_l_well)))
    (l_l_well : K.lookup f_l_well = some ⟨oc_l_well, od_l_well, .func (PySem.W.fnOf "_law_well" "_law_well" (defArgs s_l_well) (defBody s_l_well) (defScope s_l_well) .none kV_l_well dc_l_well pm_l_well an_l_well cd_l_well ct_l_well), sl_l_well⟩)
    (c_l_well : PySem.W.codeIn K cd_l_well "_law_well" = true)
    (k_l_well : PySem.W.keepIn K (.ref f_l_well) = true)
    (a_l_take : PySem.W.nsIn K mainGlobals "_law_take" = some (some (.ref f_l_take)))
    (l_l_take : K.lookup f_l_take = some ⟨oc_l_take, od_l_take, .func (PySem.W.fnOf "_law_take" "_law_take" (defArgs s_l_take) (defBody s_l_take) (defScope s_l_take) .none kV_l_take dc_l_take pm_l_take an_l_take cd_l_take ct_l_take), sl_l_take⟩)
    (c_l_take : PySem.W.codeIn K cd_l_take "_law_take" = true)
    (k_l_take : PySem.W.keepIn K (.ref f_l_take) = true)
    (a_l_ten : PySem.W.nsIn K mainGlobals "_law_ten" = some (some (.ref f_l_ten)))
    (l_l_ten : K.lookup f_l_ten = some ⟨oc_l_ten, od_l_ten, .func (PySem.W.fnOf "_law_ten" "_law_ten" (defArgs s_l_ten) (defBody s_l_ten) (defScope s_l_ten) .none kV_l_ten dc_l_ten pm_l_ten an_l_ten cd_l_ten ct_l_ten), sl_l_ten⟩)
    (c_l_ten : PySem.W.codeIn K cd_l_ten "_law_ten" = true)
    (k_l_ten : PySem.W.keepIn K (.ref f_l_ten) = true)
    (a_l_pair : PySem.W.nsIn K mainGlobals "_law_pair" = some (some (.ref f_l_pair)))
    (l_l_pair : K.lookup f_l_pair = some ⟨oc_l_pair, od_l_pair, .func (PySem.W.fnOf "_law_pair" "_law_pair" (defArgs s_l_pair) (defBody s_l_pair) (defScope s_l_pair) .none kV_l_pair dc_l_pair pm_l_pair an_l_pair cd_l_pair ct_l_pair), sl_l_pair⟩)
    (c_l_pair : PySem.W.codeIn K cd_l_pair "_law_pair" = true)
    (k_l_pair : PySem.W.keepIn K (.ref f_l_pair) = true)
    (a_l_rules_right : PySem.W.nsIn K mainGlobals "_law_rules_right" = some (some (.ref f_l_rules_right)))
    (l_l_rules_right : K.lookup f_l_rules_right = some ⟨oc_l_rules_right, od_l_rules_right, .func (PySem.W.fnOf "_law_rules_right" "_law_rules_right" (defArgs s_l_rules_right) (defBody s_l_rules_right) (defScope s_l_rules_right) .none kV_l_rules_right dc_l_rules_right pm_l_rules_right an_l_rules_right cd_l_rules_right ct_l_rules_right), sl_l_rules_right⟩)
    (c_l_rules_right : PySem.W.codeIn K cd_l_rules_right "_law_rules_right" = true)
    (k_l_rules_right : PySem.W.keepIn K (.ref f_l_rules_right) = true)
    (a_l_chain_right : PySem.W.nsIn K mainGlobals "_law_chain_right" = some (some (.ref f_l_chain_right)))
    (l_l_chain_right : K.lookup f_l_chain_right = some ⟨oc_l_chain_right, od_l_chain_right, .func (PySem.W.fnOf "_law_chain_right" "_law_chain_right" (defArgs s_l_chain_right) (defBody s_l_chain_right) (defScope s_l_chain_right) .none kV_l_chain_right dc_l_chain_right pm_l_chain_right an_l_chain_right cd_l_chain_right ct_l_chain_right), sl_l_chain_right⟩)
    (c_l_chain_right : PySem.W.codeIn K cd_l_chain_right "_law_chain_right" = true)
    (k_l_chain_right : PySem.W.keepIn K (.ref f_l_chain_right) = true)
    (a_l_kinds : PySem.W.nsIn K mainGlobals "_law_kinds" = some (some (.ref f_l_kinds)))
    (l_l_kinds : K.lookup f_l_kinds = some ⟨oc_l_kinds, od_l_kinds, .func (PySem.W.fnOf "_law_kinds" "_law_kinds" (defArgs s_l_kinds) (defBody s_l_kinds) (defScope s_l_kinds) .none kV_l_kinds dc_l_kinds pm_l_kinds an_l_kinds cd_l_kinds ct_l_kinds), sl_l_kinds⟩)
    (c_l_kinds : PySem.W.codeIn K cd_l_kinds "_law_kinds" = true)
    (k_l_kinds : PySem.W.keepIn K (.ref f_l_kinds) = true)
    (a_l_refusals_right : PySem.W.nsIn K mainGlobals "_law_refusals_right" = some (some (.ref f_l_refusals_right)))
    (l_l_refusals_right : K.lookup f_l_refusals_right = some ⟨oc_l_refusals_right, od_l_refusals_right, .func (PySem.W.fnOf "_law_refusals_right" "_law_refusals_right" (defArgs s_l_refusals_right) (defBody s_l_refusals_right) (defScope s_l_refusals_right) .none kV_l_refusals_right dc_l_refusals_right pm_l_refusals_right an_l_refusals_right cd_l_refusals_right ct_l_refusals_right), sl_l_refusals_right⟩)
    (c_l_refusals_right : PySem.W.codeIn K cd_l_refusals_right "_law_refusals_right" = true)
    (k_l_refusals_right : PySem.W.keepIn K (.ref f_l_refusals_right) = true)
    (a_l_options_right : PySem.W.nsIn K mainGlobals "_law_options_right" = some (some (.ref f_l_options_right)))
    (l_l_options_right : K.lookup f_l_options_right = some ⟨oc_l_options_right, od_l_options_right, .func (PySem.W.fnOf "_law_options_right" "_law_options_right" (defArgs s_l_options_right) (defBody s_l_options_right) (defScope s_l_options_right) .none kV_l_options_right dc_l_options_right pm_l_options_right an_l_options_right cd_l_options_right ct_l_options_right), sl_l_options_right⟩)
    (c_l_options_right : PySem.W.codeIn K cd_l_options_right "_law_options_right" = true)
    (k_l_options_right : PySem.W.keepIn K (.ref f_l_options_right) = true)
    (a_law : PySem.W.nsIn K mainGlobals "law" = some (some (.ref f_law)))
    (l_law : K.lookup f_law = some ⟨oc_law, od_law, .func (PySem.W.fnOf "law" "law" (defArgs s_law) (defBody s_law) (defScope s_law) .none kV_law dc_law pm_law an_law cd_law ct_law), sl_law⟩)
    (c_law : PySem.W.codeIn K cd_law "law" = true)
    (k_law : PySem.W.keepIn K (.ref f_law) = true)
    (ae_NoText : PySem.W.nsIn K mainGlobals "NoText" = some (some (.ref C_NoText)))
    (xe_NoText : K.lookup C_NoText = some (excClassObj nm_NoText q_NoText C_NoText N_NoText bs_NoText [.type "ValueError", .type "Exception", .type "BaseException", .type "object"] true sn_NoText sub_NoText ab_NoText col_NoText dd_NoText k0_NoText k1_NoText k2_NoText k3_NoText k5_NoText "ValueError.__new__"))
    (sa_NoText : PySem.W.findIn K (.ref C_NoText) "__setattr__" = some (some (.builtin "object.__setattr__")))
    (ga_NoText : PySem.W.findIn K (.ref C_NoText) "__getattribute__" = some (some (.builtin "BaseException.__getattribute__")))
    (gg_NoText : PySem.W.findIn K (.ref C_NoText) "__getattr__" = some none)
    (ci_NoText : PySem.W.findIn K (.ref C_NoText) "__init__" = some (some (.ref f_NoTextI)))
    (kp_NoText : PySem.W.keepIn K (.ref C_NoText) = true)
    (eb_NoText : PySem.W.subIn K (.ref C_NoText) (.type "BaseException") = some true)
    (tt_NoText : PySem.W.typeIn K (.ref C_NoText) = some (.type "type"))
    (hd_NoText : PySem.W.hasDictIn K C_NoText = true)
    (is_NoText : PySem.W.isClsIn K C_NoText = true)
    (ha_NoText : PySem.W.findIn K (.ref C_NoText) "__class__" = some (some (.builtin "object.__class__")))
    (hm_NoText : PySem.W.mroIn K C_NoText (.type "object") = some true)
    (sf_NoText : PySem.W.subIn K (.ref C_NoText) (.ref C_NoText) = some true)
    (no_NoText_at : PySem.W.findIn K (.ref C_NoText) "at" = some none)
    (ae_Unsorted : PySem.W.nsIn K mainGlobals "Unsorted" = some (some (.ref C_Unsorted)))
    (xe_Unsorted : K.lookup C_Unsorted = some (excClassObj nm_Unsorted q_Unsorted C_Unsorted N_Unsorted bs_Unsorted [.type "ValueError", .type "Exception", .type "BaseException", .type "object"] true sn_Unsorted sub_Unsorted ab_Unsorted col_Unsorted dd_Unsorted k0_Unsorted k1_Unsorted k2_Unsorted k3_Unsorted k5_Unsorted "ValueError.__new__"))
    (sa_Unsorted : PySem.W.findIn K (.ref C_Unsorted) "__setattr__" = some (some (.builtin "object.__setattr__")))
    (ga_Unsorted : PySem.W.findIn K (.ref C_Unsorted) "__getattribute__" = some (some (.builtin "BaseException.__getattribute__")))
    (gg_Unsorted : PySem.W.findIn K (.ref C_Unsorted) "__getattr__" = some none)
    (ci_Unsorted : PySem.W.findIn K (.ref C_Unsorted) "__init__" = some (some (.ref f_UnsortedI)))
    (kp_Unsorted : PySem.W.keepIn K (.ref C_Unsorted) = true)
    (eb_Unsorted : PySem.W.subIn K (.ref C_Unsorted) (.type "BaseException") = some true)
    (tt_Unsorted : PySem.W.typeIn K (.ref C_Unsorted) = some (.type "type"))
    (hd_Unsorted : PySem.W.hasDictIn K C_Unsorted = true)
    (is_Unsorted : PySem.W.isClsIn K C_Unsorted = true)
    (ha_Unsorted : PySem.W.findIn K (.ref C_Unsorted) "__class__" = some (some (.builtin "object.__class__")))
    (hm_Unsorted : PySem.W.mroIn K C_Unsorted (.type "object") = some true)
    (sf_Unsorted : PySem.W.subIn K (.ref C_Unsorted) (.ref C_Unsorted) = some true)
    (no_Unsorted_low : PySem.W.findIn K (.ref C_Unsorted) "low" = some none)
    (no_Unsorted_high : PySem.W.findIn K (.ref C_Unsorted) "high" = some none)
    (ae_NoBottom : PySem.W.nsIn K mainGlobals "NoBottom" = some (some (.ref C_NoBottom)))
    (xe_NoBottom : K.lookup C_NoBottom = some (excClassObj nm_NoBottom q_NoBottom C_NoBottom N_NoBottom bs_NoBottom [.type "ArithmeticError", .type "Exception", .type "BaseException", .type "object"] true sn_NoBottom sub_NoBottom ab_NoBottom col_NoBottom dd_NoBottom k0_NoBottom k1_NoBottom k2_NoBottom k3_NoBottom k5_NoBottom "ArithmeticError.__new__"))
    (sa_NoBottom : PySem.W.findIn K (.ref C_NoBottom) "__setattr__" = some (some (.builtin "object.__setattr__")))
    (ga_NoBottom : PySem.W.findIn K (.ref C_NoBottom) "__getattribute__" = some (some (.builtin "BaseException.__getattribute__")))
    (gg_NoBottom : PySem.W.findIn K (.ref C_NoBottom) "__getattr__" = some none)
    (ci_NoBottom : PySem.W.findIn K (.ref C_NoBottom) "__init__" = some (some (.ref f_NoBottomI)))
    (kp_NoBottom : PySem.W.keepIn K (.ref C_NoBottom) = true)
    (eb_NoBottom : PySem.W.subIn K (.ref C_NoBottom) (.type "BaseException") = some true)
    (tt_NoBottom : PySem.W.typeIn K (.ref C_NoBottom) = some (.type "type"))
    (hd_NoBottom : PySem.W.hasDictIn K C_NoBottom = true)
    (is_NoBottom : PySem.W.isClsIn K C_NoBottom = true)
    (ha_NoBottom : PySem.W.findIn K (.ref C_NoBottom) "__class__" = some (some (.builtin "object.__class__")))
    (hm_NoBottom : PySem.W.mroIn K C_NoBottom (.type "object") = some true)
    (sf_NoBottom : PySem.W.subIn K (.ref C_NoBottom) (.ref C_NoBottom) = some true)
    (no_NoBottom_top : PySem.W.findIn K (.ref C_NoBottom) "top" = some none)
    (ae_NoCustom : PySem.W.nsIn K mainGlobals "NoCustom" = some (some (.ref C_NoCustom)))
    (xe_NoCustom : K.lookup C_NoCustom = some (excClassObj nm_NoCustom q_NoCustom C_NoCustom N_NoCustom bs_NoCustom (.ref C_FigureError :: [.type "Exception", .type "BaseException", .type "object"]) true sn_NoCustom sub_NoCustom ab_NoCustom col_NoCustom dd_NoCustom k0_NoCustom k1_NoCustom k2_NoCustom k3_NoCustom k5_NoCustom "Exception.__new__"))
    (sa_NoCustom : PySem.W.findIn K (.ref C_NoCustom) "__setattr__" = some (some (.builtin "object.__setattr__")))
    (ga_NoCustom : PySem.W.findIn K (.ref C_NoCustom) "__getattribute__" = some (some (.builtin "BaseException.__getattribute__")))
    (gg_NoCustom : PySem.W.findIn K (.ref C_NoCustom) "__getattr__" = some none)
    (ci_NoCustom : PySem.W.findIn K (.ref C_NoCustom) "__init__" = some (some (.ref f_FigureErrorI)))
    (kp_NoCustom : PySem.W.keepIn K (.ref C_NoCustom) = true)
    (eb_NoCustom : PySem.W.subIn K (.ref C_NoCustom) (.type "BaseException") = some true)
    (tt_NoCustom : PySem.W.typeIn K (.ref C_NoCustom) = some (.type "type"))
    (hd_NoCustom : PySem.W.hasDictIn K C_NoCustom = true)
    (is_NoCustom : PySem.W.isClsIn K C_NoCustom = true)
    (ha_NoCustom : PySem.W.findIn K (.ref C_NoCustom) "__class__" = some (some (.builtin "object.__class__")))
    (hm_NoCustom : PySem.W.mroIn K C_NoCustom (.type "object") = some true)
    (sf_NoCustom : PySem.W.subIn K (.ref C_NoCustom) (.ref C_NoCustom) = some true)
    (no_NoCustom_thing : PySem.W.findIn K (.ref C_NoCustom) "thing" = some none)
    (ae_NoWish : PySem.W.nsIn K mainGlobals "NoWish" = some (some (.ref C_NoWish)))
    (xe_NoWish : K.lookup C_NoWish = some (excClassObj nm_NoWish q_NoWish C_NoWish N_NoWish bs_NoWish (.ref C_FigureError :: [.type "Exception", .type "BaseException", .type "object"]) true sn_NoWish sub_NoWish ab_NoWish col_NoWish dd_NoWish k0_NoWish k1_NoWish k2_NoWish k3_NoWish k5_NoWish "Exception.__new__"))
    (sa_NoWish : PySem.W.findIn K (.ref C_NoWish) "__setattr__" = some (some (.builtin "object.__setattr__")))
    (ga_NoWish : PySem.W.findIn K (.ref C_NoWish) "__getattribute__" = some (some (.builtin "BaseException.__getattribute__")))
    (gg_NoWish : PySem.W.findIn K (.ref C_NoWish) "__getattr__" = some none)
    (ci_NoWish : PySem.W.findIn K (.ref C_NoWish) "__init__" = some (some (.ref f_FigureErrorI)))
    (kp_NoWish : PySem.W.keepIn K (.ref C_NoWish) = true)
    (eb_NoWish : PySem.W.subIn K (.ref C_NoWish) (.type "BaseException") = some true)
    (tt_NoWish : PySem.W.typeIn K (.ref C_NoWish) = some (.type "type"))
    (hd_NoWish : PySem.W.hasDictIn K C_NoWish = true)
    (is_NoWish : PySem.W.isClsIn K C_NoWish = true)
    (ha_NoWish : PySem.W.findIn K (.ref C_NoWish) "__class__" = some (some (.builtin "object.__class__")))
    (hm_NoWish : PySem.W.mroIn K C_NoWish (.type "object") = some true)
    (sf_NoWish : PySem.W.subIn K (.ref C_NoWish) (.ref C_NoWish) = some true)
    (no_NoWish_thing : PySem.W.findIn K (.ref C_NoWish) "thing" = some none)
    (ae_NoFit : PySem.W.nsIn K mainGlobals "NoFit" = some (some (.ref C_NoFit)))
    (xe_NoFit : K.lookup C_NoFit = some (excClassObj nm_NoFit q_NoFit C_NoFit N_NoFit bs_NoFit (.ref C_FigureError :: [.type "Exception", .type "BaseException", .type "object"]) true sn_NoFit sub_NoFit ab_NoFit col_NoFit dd_NoFit k0_NoFit k1_NoFit k2_NoFit k3_NoFit k5_NoFit "Exception.__new__"))
    (sa_NoFit : PySem.W.findIn K (.ref C_NoFit) "__setattr__" = some (some (.builtin "object.__setattr__")))
    (ga_NoFit : PySem.W.findIn K (.ref C_NoFit) "__getattribute__" = some (some (.builtin "BaseException.__getattribute__")))
    (gg_NoFit : PySem.W.findIn K (.ref C_NoFit) "__getattr__" = some none)
    (ci_NoFit : PySem.W.findIn K (.ref C_NoFit) "__init__" = some (some (.ref f_FigureErrorI)))
    (kp_NoFit : PySem.W.keepIn K (.ref C_NoFit) = true)
    (eb_NoFit : PySem.W.subIn K (.ref C_NoFit) (.type "BaseException") = some true)
    (tt_NoFit : PySem.W.typeIn K (.ref C_NoFit) = some (.type "type"))
    (hd_NoFit : PySem.W.hasDictIn K C_NoFit = true)
    (is_NoFit : PySem.W.isClsIn K C_NoFit = true)
    (ha_NoFit : PySem.W.findIn K (.ref C_NoFit) "__class__" = some (some (.builtin "object.__class__")))
    (hm_NoFit : PySem.W.mroIn K C_NoFit (.type "object") = some true)
    (sf_NoFit : PySem.W.subIn K (.ref C_NoFit) (.ref C_NoFit) = some true)
    (no_NoFit_thing : PySem.W.findIn K (.ref C_NoFit) "thing" = some none)
    (ae_NoRead : PySem.W.nsIn K mainGlobals "NoRead" = some (some (.ref C_NoRead)))
    (xe_NoRead : K.lookup C_NoRead = some (excClassObj nm_NoRead q_NoRead C_NoRead N_NoRead bs_NoRead (.ref C_FigureError :: [.type "Exception", .type "BaseException", .type "object"]) true sn_NoRead sub_NoRead ab_NoRead col_NoRead dd_NoRead k0_NoRead k1_NoRead k2_NoRead k3_NoRead k5_NoRead "Exception.__new__"))
    (sa_NoRead : PySem.W.findIn K (.ref C_NoRead) "__setattr__" = some (some (.builtin "object.__setattr__")))
    (ga_NoRead : PySem.W.findIn K (.ref C_NoRead) "__getattribute__" = some (some (.builtin "BaseException.__getattribute__")))
    (gg_NoRead : PySem.W.findIn K (.ref C_NoRead) "__getattr__" = some none)
    (ci_NoRead : PySem.W.findIn K (.ref C_NoRead) "__init__" = some (some (.ref f_FigureErrorI)))
    (kp_NoRead : PySem.W.keepIn K (.ref C_NoRead) = true)
    (eb_NoRead : PySem.W.subIn K (.ref C_NoRead) (.type "BaseException") = some true)
    (tt_NoRead : PySem.W.typeIn K (.ref C_NoRead) = some (.type "type"))
    (hd_NoRead : PySem.W.hasDictIn K C_NoRead = true)
    (is_NoRead : PySem.W.isClsIn K C_NoRead = true)
    (ha_NoRead : PySem.W.findIn K (.ref C_NoRead) "__class__" = some (some (.builtin "object.__class__")))
    (hm_NoRead : PySem.W.mroIn K C_NoRead (.type "object") = some true)
    (sf_NoRead : PySem.W.subIn K (.ref C_NoRead) (.ref C_NoRead) = some true)
    (no_NoRead_thing : PySem.W.findIn K (.ref C_NoRead) "thing" = some none)
    (ae_NoName : PySem.W.nsIn K mainGlobals "NoName" = some (some (.ref C_NoName)))
    (xe_NoName : K.lookup C_NoName = some (excClassObj nm_NoName q_NoName C_NoName N_NoName bs_NoName (.ref C_FigureError :: [.type "Exception", .type "BaseException", .type "object"]) true sn_NoName sub_NoName ab_NoName col_NoName dd_NoName k0_NoName k1_NoName k2_NoName k3_NoName k5_NoName "Exception.__new__"))
    (sa_NoName : PySem.W.findIn K (.ref C_NoName) "__setattr__" = some (some (.builtin "object.__setattr__")))
    (ga_NoName : PySem.W.findIn K (.ref C_NoName) "__getattribute__" = some (some (.builtin "BaseException.__getattribute__")))
    (gg_NoName : PySem.W.findIn K (.ref C_NoName) "__getattr__" = some none)
    (ci_NoName : PySem.W.findIn K (.ref C_NoName) "__init__" = some (some (.ref f_FigureErrorI)))
    (kp_NoName : PySem.W.keepIn K (.ref C_NoName) = true)
    (eb_NoName : PySem.W.subIn K (.ref C_NoName) (.type "BaseException") = some true)
    (tt_NoName : PySem.W.typeIn K (.ref C_NoName) = some (.type "type"))
    (hd_NoName : PySem.W.hasDictIn K C_NoName = true)
    (is_NoName : PySem.W.isClsIn K C_NoName = true)
    (ha_NoName : PySem.W.findIn K (.ref C_NoName) "__class__" = some (some (.builtin "object.__class__")))
    (hm_NoName : PySem.W.mroIn K C_NoName (.type "object") = some true)
    (sf_NoName : PySem.W.subIn K (.ref C_NoName) (.ref C_NoName) = some true)
    (no_NoName_thing : PySem.W.findIn K (.ref C_NoName) "thing" = some none)
    (ae_FigureError : PySem.W.nsIn K mainGlobals "FigureError" = some (some (.ref C_FigureError)))
    (xe_FigureError : K.lookup C_FigureError = some (excClassObj nm_FigureError q_FigureError C_FigureError N_FigureError bs_FigureError [.type "Exception", .type "BaseException", .type "object"] true sn_FigureError sub_FigureError ab_FigureError col_FigureError dd_FigureError k0_FigureError k1_FigureError k2_FigureError k3_FigureError k5_FigureError "Exception.__new__"))
    (sa_FigureError : PySem.W.findIn K (.ref C_FigureError) "__setattr__" = some (some (.builtin "object.__setattr__")))
    (ga_FigureError : PySem.W.findIn K (.ref C_FigureError) "__getattribute__" = some (some (.builtin "BaseException.__getattribute__")))
    (gg_FigureError : PySem.W.findIn K (.ref C_FigureError) "__getattr__" = some none)
    (ci_FigureError : PySem.W.findIn K (.ref C_FigureError) "__init__" = some (some (.ref f_FigureErrorI)))
    (kp_FigureError : PySem.W.keepIn K (.ref C_FigureError) = true)
    (eb_FigureError : PySem.W.subIn K (.ref C_FigureError) (.type "BaseException") = some true)
    (tt_FigureError : PySem.W.typeIn K (.ref C_FigureError) = some (.type "type"))
    (hd_FigureError : PySem.W.hasDictIn K C_FigureError = true)
    (is_FigureError : PySem.W.isClsIn K C_FigureError = true)
    (ha_FigureError : PySem.W.findIn K (.ref C_FigureError) "__class__" = some (some (.builtin "object.__class__")))
    (hm_FigureError : PySem.W.mroIn K C_FigureError (.type "object") = some true)
    (sf_FigureError : PySem.W.subIn K (.ref C_FigureError) (.ref C_FigureError) = some true)
    (no_FigureError_thing : PySem.W.findIn K (.ref C_FigureError) "thing" = some none)
    (ti_NoText : PySem.W.typeIn K (.ref f_NoTextI) = some (.type "function"))
    (li_NoText : K.lookup f_NoTextI = some ⟨oc_NoText, od_NoText, .func (PySem.W.fnOf "__init__" "NoText.__init__" (PySem.ErV.iA_at ⟨5, 17, 5, 21⟩ ⟨5, 23, 5, 25⟩) (PySem.ErV.iB_at ⟨6, 8, 6, 12⟩ ⟨6, 8, 6, 15⟩ ⟨6, 18, 6, 20⟩ ⟨6, 8, 6, 20⟩) PySem.ErV.iS_at .none .none dc_NoText pm_NoText an_NoText cd_NoText ct_NoText), sl_NoText⟩)
    (ti_Unsorted : PySem.W.typeIn K (.ref f_UnsortedI) = some (.type "function"))
    (li_Unsorted : K.lookup f_UnsortedI = some ⟨oc_Unsorted, od_Unsorted, .func (PySem.W.fnOf "__init__" "Unsorted.__init__" (PySem.ErV.iA_lh ⟨9, 17, 9, 21⟩ ⟨9, 23, 9, 26⟩ ⟨9, 28, 9, 32⟩) (PySem.ErV.iB_lh ⟨10, 8, 10, 12⟩ ⟨10, 8, 10, 16⟩ ⟨10, 19, 10, 22⟩ ⟨10, 8, 10, 22⟩ ⟨11, 8, 11, 12⟩ ⟨11, 8, 11, 17⟩ ⟨11, 20, 11, 24⟩ ⟨11, 8, 11, 24⟩) PySem.ErV.iS_lh .none .none dc_Unsorted pm_Unsorted an_Unsorted cd_Unsorted ct_Unsorted), sl_Unsorted⟩)
    (ti_NoBottom : PySem.W.typeIn K (.ref f_NoBottomI) = some (.type "function"))
    (li_NoBottom : K.lookup f_NoBottomI = some ⟨oc_NoBottom, od_NoBottom, .func (PySem.W.fnOf "__init__" "NoBottom.__init__" (PySem.ErV.iA_top ⟨14, 17, 14, 21⟩ ⟨14, 23, 14, 26⟩) (PySem.ErV.iB_top ⟨15, 8, 15, 12⟩ ⟨15, 8, 15, 16⟩ ⟨15, 19, 15, 22⟩ ⟨15, 8, 15, 22⟩) PySem.ErV.iS_top .none .none dc_NoBottom pm_NoBottom an_NoBottom cd_NoBottom ct_NoBottom), sl_NoBottom⟩)
    (ti_FigureError : PySem.W.typeIn K (.ref f_FigureErrorI) = some (.type "function"))
    (li_FigureError : K.lookup f_FigureErrorI = some ⟨oc_FigureError, od_FigureError, .func (PySem.W.fnOf "__init__" "FigureError.__init__" (PySem.ErV.iA_thing ⟨18, 17, 18, 21⟩ ⟨18, 23, 18, 28⟩) (PySem.ErV.iB_thing ⟨19, 8, 19, 12⟩ ⟨19, 8, 19, 18⟩ ⟨19, 21, 19, 26⟩ ⟨19, 8, 19, 26⟩) PySem.ErV.iS_thing .none .none dc_FigureError pm_FigureError an_FigureError cd_FigureError ct_FigureError), sl_FigureError⟩)
    (hnE : PySem.W.specialIn K (.builtin "object.__class__") "__get__" = some (some (.builtin "getset_descriptor.__get__")))
    (htE : PySem.W.takesIn K (.builtin "object.__class__") = some true)
    (zVE : PySem.W.nsIn K mainGlobals "ValueError" = some none)
    (zAE : PySem.W.nsIn K mainGlobals "ArithmeticError" = some none)
    (a_POINT : PySem.W.nsIn K mainGlobals "POINT" = some (some (.str "." t_POINT)))
    (a_GROUP : PySem.W.nsIn K mainGlobals "GROUP" = some (some (.str "," t_GROUP)))
    (a_FIGURES : PySem.W.nsIn K mainGlobals "FIGURES" = some (some (.str "0123456789" t_FIGURES)))
    (a_BETWEEN : PySem.W.nsIn K mainGlobals "BETWEEN" = some (some (.str "~" t_BETWEEN)))
    (a_ABOUT : PySem.W.nsIn K mainGlobals "ABOUT" = some (some (.str "@" t_ABOUT)))
    (a_SIGNS : PySem.W.nsIn K mainGlobals "SIGNS" = some (some (.str "minus" t_SIGNS)))
    (a_SIZES : PySem.W.nsIn K mainGlobals "SIZES" = some (some (.ref A_SIZES)))
    (l_SIZES : K.lookup A_SIZES = some ⟨.type "tuple", d_SIZES, .seq #[.int 3 tk0_SIZES] n_SIZES, s_SIZES⟩)
    (a_MINUS : PySem.W.nsIn K mainGlobals "MINUS" = some (some (.ref A_MINUS)))
    (l_MINUS : K.lookup A_MINUS = some ⟨.type "tuple", d_MINUS, .seq #[.str "-" tk0_MINUS, .str "" tk1_MINUS] n_MINUS, s_MINUS⟩)
    (a_PLUS : PySem.W.nsIn K mainGlobals "PLUS" = some (some (.ref A_PLUS)))
    (l_PLUS : K.lookup A_PLUS = some ⟨.type "tuple", d_PLUS, .seq #[.str "+" tk0_PLUS, .str "" tk1_PLUS] n_PLUS, s_PLUS⟩)
    (a_PLACES : PySem.W.nsIn K mainGlobals "PLACES" = some (some (.ref A_PLACES)))
    (l_PLACES : K.lookup A_PLACES = some ⟨.type "tuple", d_PLACES, .seq #[.int 0 tk0_PLACES, .int 2 tk1_PLACES] n_PLACES, s_PLACES⟩)
    (a_UNIT : PySem.W.nsIn K mainGlobals "UNIT" = some (some (.ref A_UNIT)))
    (l_UNIT : K.lookup A_UNIT = some ⟨.type "tuple", d_UNIT, .seq #[.str "" tk0_UNIT, .str "" tk1_UNIT] n_UNIT, s_UNIT⟩)
    (cc_NoText : PySem.W.codeIn K cd_NoText "NoText.__init__" = true)
    (cc_Unsorted : PySem.W.codeIn K cd_Unsorted "Unsorted.__init__" = true)
    (cc_NoBottom : PySem.W.codeIn K cd_NoBottom "NoBottom.__init__" = true)
    (cc_FigureError : PySem.W.codeIn K cd_FigureError "FigureError.__init__" = true)
    (kk_NoText_Unsorted : PySem.W.subIn K (.ref C_NoText) (.ref C_Unsorted) = some false)
    (kk_NoText_NoBottom : PySem.W.subIn K (.ref C_NoText) (.ref C_NoBottom) = some false)
    (kk_NoText_NoCustom : PySem.W.subIn K (.ref C_NoText) (.ref C_NoCustom) = some false)
    (kk_NoText_NoWish : PySem.W.subIn K (.ref C_NoText) (.ref C_NoWish) = some false)
    (kk_NoText_NoFit : PySem.W.subIn K (.ref C_NoText) (.ref C_NoFit) = some false)
    (kk_NoText_NoRead : PySem.W.subIn K (.ref C_NoText) (.ref C_NoRead) = some false)
    (kk_NoText_NoName : PySem.W.subIn K (.ref C_NoText) (.ref C_NoName) = some false)
    (kk_NoText_ValueError : PySem.W.subIn K (.ref C_NoText) (.type "ValueError") = some true)
    (kk_NoText_ArithmeticError : PySem.W.subIn K (.ref C_NoText) (.type "ArithmeticError") = some false)
    (kk_NoText_FigureError : PySem.W.subIn K (.ref C_NoText) (.ref C_FigureError) = some false)
    (kk_Unsorted_NoText : PySem.W.subIn K (.ref C_Unsorted) (.ref C_NoText) = some false)
    (kk_Unsorted_NoBottom : PySem.W.subIn K (.ref C_Unsorted) (.ref C_NoBottom) = some false)
    (kk_Unsorted_NoCustom : PySem.W.subIn K (.ref C_Unsorted) (.ref C_NoCustom) = some false)
    (kk_Unsorted_NoWish : PySem.W.subIn K (.ref C_Unsorted) (.ref C_NoWish) = some false)
    (kk_Unsorted_NoFit : PySem.W.subIn K (.ref C_Unsorted) (.ref C_NoFit) = some false)
    (kk_Unsorted_NoRead : PySem.W.subIn K (.ref C_Unsorted) (.ref C_NoRead) = some false)
    (kk_Unsorted_NoName : PySem.W.subIn K (.ref C_Unsorted) (.ref C_NoName) = some false)
    (kk_Unsorted_ValueError : PySem.W.subIn K (.ref C_Unsorted) (.type "ValueError") = some true)
    (kk_Unsorted_ArithmeticError : PySem.W.subIn K (.ref C_Unsorted) (.type "ArithmeticError") = some false)
    (kk_Unsorted_FigureError : PySem.W.subIn K (.ref C_Unsorted) (.ref C_FigureError) = some false)
    (kk_NoBottom_NoText : PySem.W.subIn K (.ref C_NoBottom) (.ref C_NoText) = some false)
    (kk_NoBottom_Unsorted : PySem.W.subIn K (.ref C_NoBottom) (.ref C_Unsorted) = some false)
    (kk_NoBottom_NoCustom : PySem.W.subIn K (.ref C_NoBottom) (.ref C_NoCustom) = some false)
    (kk_NoBottom_NoWish : PySem.W.subIn K (.ref C_NoBottom) (.ref C_NoWish) = some false)
    (kk_NoBottom_NoFit : PySem.W.subIn K (.ref C_NoBottom) (.ref C_NoFit) = some false)
    (kk_NoBottom_NoRead : PySem.W.subIn K (.ref C_NoBottom) (.ref C_NoRead) = some false)
    (kk_NoBottom_NoName : PySem.W.subIn K (.ref C_NoBottom) (.ref C_NoName) = some false)
    (kk_NoBottom_ValueError : PySem.W.subIn K (.ref C_NoBottom) (.type "ValueError") = some false)
    (kk_NoBottom_ArithmeticError : PySem.W.subIn K (.ref C_NoBottom) (.type "ArithmeticError") = some true)
    (kk_NoBottom_FigureError : PySem.W.subIn K (.ref C_NoBottom) (.ref C_FigureError) = some false)
    (kk_NoCustom_NoText : PySem.W.subIn K (.ref C_NoCustom) (.ref C_NoText) = some false)
    (kk_NoCustom_Unsorted : PySem.W.subIn K (.ref C_NoCustom) (.ref C_Unsorted) = some false)
    (kk_NoCustom_NoBottom : PySem.W.subIn K (.ref C_NoCustom) (.ref C_NoBottom) = some false)
    (kk_NoCustom_NoWish : PySem.W.subIn K (.ref C_NoCustom) (.ref C_NoWish) = some false)
    (kk_NoCustom_NoFit : PySem.W.subIn K (.ref C_NoCustom) (.ref C_NoFit) = some false)
    (kk_NoCustom_NoRead : PySem.W.subIn K (.ref C_NoCustom) (.ref C_NoRead) = some false)
    (kk_NoCustom_NoName : PySem.W.subIn K (.ref C_NoCustom) (.ref C_NoName) = some false)
    (kk_NoCustom_ValueError : PySem.W.subIn K (.ref C_NoCustom) (.type "ValueError") = some false)
    (kk_NoCustom_ArithmeticError : PySem.W.subIn K (.ref C_NoCustom) (.type "ArithmeticError") = some false)
    (kk_NoCustom_FigureError : PySem.W.subIn K (.ref C_NoCustom) (.ref C_FigureError) = some true)
    (kk_NoWish_NoText : PySem.W.subIn K (.ref C_NoWish) (.ref C_NoText) = some false)
    (kk_NoWish_Unsorted : PySem.W.subIn K (.ref C_NoWish) (.ref C_Unsorted) = some false)
    (kk_NoWish_NoBottom : PySem.W.subIn K (.ref C_NoWish) (.ref C_NoBottom) = some false)
    (kk_NoWish_NoCustom : PySem.W.subIn K (.ref C_NoWish) (.ref C_NoCustom) = some false)
    (kk_NoWish_NoFit : PySem.W.subIn K (.ref C_NoWish) (.ref C_NoFit) = some false)
    (kk_NoWish_NoRead : PySem.W.subIn K (.ref C_NoWish) (.ref C_NoRead) = some false)
    (kk_NoWish_NoName : PySem.W.subIn K (.ref C_NoWish) (.ref C_NoName) = some false)
    (kk_NoWish_ValueError : PySem.W.subIn K (.ref C_NoWish) (.type "ValueError") = some false)
    (kk_NoWish_ArithmeticError : PySem.W.subIn K (.ref C_NoWish) (.type "ArithmeticError") = some false)
    (kk_NoWish_FigureError : PySem.W.subIn K (.ref C_NoWish) (.ref C_FigureError) = some true)
    (kk_NoFit_NoText : PySem.W.subIn K (.ref C_NoFit) (.ref C_NoText) = some false)
    (kk_NoFit_Unsorted : PySem.W.subIn K (.ref C_NoFit) (.ref C_Unsorted) = some false)
    (kk_NoFit_NoBottom : PySem.W.subIn K (.ref C_NoFit) (.ref C_NoBottom) = some false)
    (kk_NoFit_NoCustom : PySem.W.subIn K (.ref C_NoFit) (.ref C_NoCustom) = some false)
    (kk_NoFit_NoWish : PySem.W.subIn K (.ref C_NoFit) (.ref C_NoWish) = some false)
    (kk_NoFit_NoRead : PySem.W.subIn K (.ref C_NoFit) (.ref C_NoRead) = some false)
    (kk_NoFit_NoName : PySem.W.subIn K (.ref C_NoFit) (.ref C_NoName) = some false)
    (kk_NoFit_ValueError : PySem.W.subIn K (.ref C_NoFit) (.type "ValueError") = some false)
    (kk_NoFit_ArithmeticError : PySem.W.subIn K (.ref C_NoFit) (.type "ArithmeticError") = some false)
    (kk_NoFit_FigureError : PySem.W.subIn K (.ref C_NoFit) (.ref C_FigureError) = some true)
    (kk_NoRead_NoText : PySem.W.subIn K (.ref C_NoRead) (.ref C_NoText) = some false)
    (kk_NoRead_Unsorted : PySem.W.subIn K (.ref C_NoRead) (.ref C_Unsorted) = some false)
    (kk_NoRead_NoBottom : PySem.W.subIn K (.ref C_NoRead) (.ref C_NoBottom) = some false)
    (kk_NoRead_NoCustom : PySem.W.subIn K (.ref C_NoRead) (.ref C_NoCustom) = some false)
    (kk_NoRead_NoWish : PySem.W.subIn K (.ref C_NoRead) (.ref C_NoWish) = some false)
    (kk_NoRead_NoFit : PySem.W.subIn K (.ref C_NoRead) (.ref C_NoFit) = some false)
    (kk_NoRead_NoName : PySem.W.subIn K (.ref C_NoRead) (.ref C_NoName) = some false)
    (kk_NoRead_ValueError : PySem.W.subIn K (.ref C_NoRead) (.type "ValueError") = some false)
    (kk_NoRead_ArithmeticError : PySem.W.subIn K (.ref C_NoRead) (.type "ArithmeticError") = some false)
    (kk_NoRead_FigureError : PySem.W.subIn K (.ref C_NoRead) (.ref C_FigureError) = some true)
    (kk_NoName_NoText : PySem.W.subIn K (.ref C_NoName) (.ref C_NoText) = some false)
    (kk_NoName_Unsorted : PySem.W.subIn K (.ref C_NoName) (.ref C_Unsorted) = some false)
    (kk_NoName_NoBottom : PySem.W.subIn K (.ref C_NoName) (.ref C_NoBottom) = some false)
    (kk_NoName_NoCustom : PySem.W.subIn K (.ref C_NoName) (.ref C_NoCustom) = some false)
    (kk_NoName_NoWish : PySem.W.subIn K (.ref C_NoName) (.ref C_NoWish) = some false)
    (kk_NoName_NoFit : PySem.W.subIn K (.ref C_NoName) (.ref C_NoFit) = some false)
    (kk_NoName_NoRead : PySem.W.subIn K (.ref C_NoName) (.ref C_NoRead) = some false)
    (kk_NoName_ValueError : PySem.W.subIn K (.ref C_NoName) (.type "ValueError") = some false)
    (kk_NoName_ArithmeticError : PySem.W.subIn K (.ref C_NoName) (.type "ArithmeticError") = some false)
    (kk_NoName_FigureError : PySem.W.subIn K (.ref C_NoName) (.ref C_FigureError) = some true)
    (kk_FigureError_NoText : PySem.W.subIn K (.ref C_FigureError) (.ref C_NoText) = some false)
    (kk_FigureError_Unsorted : PySem.W.subIn K (.ref C_FigureError) (.ref C_Unsorted) = some false)
    (kk_FigureError_NoBottom : PySem.W.subIn K (.ref C_FigureError) (.ref C_NoBottom) = some false)
    (kk_FigureError_NoCustom : PySem.W.subIn K (.ref C_FigureError) (.ref C_NoCustom) = some false)
    (kk_FigureError_NoWish : PySem.W.subIn K (.ref C_FigureError) (.ref C_NoWish) = some false)
    (kk_FigureError_NoFit : PySem.W.subIn K (.ref C_FigureError) (.ref C_NoFit) = some false)
    (kk_FigureError_NoRead : PySem.W.subIn K (.ref C_FigureError) (.ref C_NoRead) = some false)
    (kk_FigureError_NoName : PySem.W.subIn K (.ref C_FigureError) (.ref C_NoName) = some false)
    (kk_FigureError_ValueError : PySem.W.subIn K (.ref C_FigureError) (.type "ValueError") = some false)
    (kk_FigureError_ArithmeticError : PySem.W.subIn K (.ref C_FigureError) (.type "ArithmeticError") = some false)
    (a_gcd : PySem.W.nsIn K mainGlobals "gcd" = some (some (.builtin "math.gcd")))
    (z_range : PySem.W.nsIn K mainGlobals "range" = some none)
    (z_isinstance : PySem.W.nsIn K mainGlobals "isinstance" = some none)
    (z_str : PySem.W.nsIn K mainGlobals "str" = some none)
    (z_int : PySem.W.nsIn K mainGlobals "int" = some none)
    (z_len : PySem.W.nsIn K mainGlobals "len" = some none)
    (z_abs : PySem.W.nsIn K mainGlobals "abs" = some none)
    (z_max : PySem.W.nsIn K mainGlobals "max" = some none)
    (z_min : PySem.W.nsIn K mainGlobals "min" = some none)
    (z_repr : PySem.W.nsIn K mainGlobals "repr" = some none)
    (a_WAYS : PySem.W.nsIn K mainGlobals "WAYS" = some (some (.ref A_WAYS)))
    (l_WAYS : K.lookup A_WAYS = some ⟨.type "tuple", dW, .seq #[.str "up" tW0, .str "down" tW1, .str "high" tW2, .str "low" tW3, .str "half up" tW4, .str "half down" tW5, .str "half even" tW6, .str "half odd" tW7] nW, sW⟩)
    (a_WAY : PySem.W.nsIn K mainGlobals "WAY" = some (some (.str "half even" tWAY)))
    (a_LONGEST_TEXT : PySem.W.nsIn K mainGlobals "LONGEST_TEXT" = some (some (.int 60 t_c_LONGEST_TEXT)))
    (a_LEAST : PySem.W.nsIn K mainGlobals "LEAST" = some (some (.int 1 t_c_LEAST)))
    : ∃ fd : FuncData, (∀ (s : Shared) (v : Value), BindsTo s fd ⟨[v], []⟩ [("_law_script", v)]) ∧ ∀ base : Heap, K.In base → base.Ns mainGlobals mg → FnG l.prog w K mg base 16 fa fd ["_law_script"] (spLaw K) := by
  have e := hfa.symm.trans (PySem.W.mg_of X G a_law)
  cases e
  have F_Number_init : FunD K "__init__" "Number.__init__" (defArgs s_Number_init) (defBody s_Number_init) (defScope s_Number_init) [V.int 1] [] f_Number_init _ := ⟨⟨_, _, _, _, _, _, _, _, _, _, rfl, l_Number_init, c_Number_init, .inr ⟨by simp, Td_Number_init, _, _, _, rfl, T_Number_init, rfl, .cons ⟨_, rfl⟩ .nil⟩, .inl rfl⟩, k_Number_init⟩
  obtain ⟨b_Number_init2, ds_Number_init1, d_Number_init1, b_Number_init1⟩ := bi_Number_init F_Number_init
  have F_Number_eq := fun_mk (st := s_Number_eq) l_Number_eq c_Number_eq k_Number_eq
  have b_Number_eq := F_Number_eq.binds (ps := ["self", "other"]) fun _ _ _ _ _ _ us hl => match us, hl with | [_, _], _ => rfl
  have F_Number_str := fun_mk (st := s_Number_str) l_Number_str c_Number_str k_Number_str
  have b_Number_str := F_Number_str.binds (ps := ["self"]) fun _ _ _ _ _ _ us hl => match us, hl with | [_], _ => rfl
  have F_Number_repr := fun_mk (st := s_Number_repr) l_Number_repr c_Number_repr k_Number_repr
  have b_Number_repr := F_Number_repr.binds (ps := ["self"]) fun _ _ _ _ _ _ us hl => match us, hl with | [_], _ => rfl
  have F_Number_more := fun_mk (st := s_Number_more) l_Number_more c_Number_more k_Number_more
  have b_Number_more := F_Number_more.binds (ps := ["self", "other"]) fun _ _ _ _ _ _ us hl => match us, hl with | [_, _], _ => rfl
  have F_Number_less := fun_mk (st := s_Number_less) l_Number_less c_Number_less k_Number_less
  have b_Number_less := F_Number_less.binds (ps := ["self", "other"]) fun _ _ _ _ _ _ us hl => match us, hl with | [_, _], _ => rfl
  have F_Number_times := fun_mk (st := s_Number_times) l_Number_times c_Number_times k_Number_times
  have b_Number_times := F_Number_times.binds (ps := ["self", "other"]) fun _ _ _ _ _ _ us hl => match us, hl with | [_, _], _ => rfl
  have F_Number_over := fun_mk (st := s_Number_over) l_Number_over c_Number_over k_Number_over
  have b_Number_over := F_Number_over.binds (ps := ["self", "other"]) fun _ _ _ _ _ _ us hl => match us, hl with | [_, _], _ => rfl
  have F_Number_below := fun_mk (st := s_Number_below) l_Number_below c_Number_below k_Number_below
  have b_Number_below := F_Number_below.binds (ps := ["self", "other"]) fun _ _ _ _ _ _ us hl => match us, hl with | [_, _], _ => rfl
  have F_Number_size := fun_mk (st := s_Number_size) l_Number_size c_Number_size k_Number_size
  have b_Number_size := F_Number_size.binds (ps := ["self"]) fun _ _ _ _ _ _ us hl => match us, hl with | [_], _ => rfl
  have F_Number_floor := fun_mk (st := s_Number_floor) l_Number_floor c_Number_floor k_Number_floor
  have b_Number_floor := F_Number_floor.binds (ps := ["self"]) fun _ _ _ _ _ _ us hl => match us, hl with | [_], _ => rfl
  have F_read_number := fun_mk (st := s_read_number) l_read_number c_read_number k_read_number
  have b_read_number := F_read_number.binds (ps := ["text"]) fun _ _ _ _ _ _ us hl => match us, hl with | [_], _ => rfl
  have F_whole := fun_mk (st := s_whole) l_whole c_whole k_whole
  have b_whole := F_whole.binds (ps := ["text"]) fun _ _ _ _ _ _ us hl => match us, hl with | [_], _ => rfl
  have F_l_well := fun_mk (st := s_l_well) l_l_well c_l_well k_l_well
  have b_l_well := F_l_well.binds (ps := ["_law_script", "_law_k"]) fun _ _ _ _ _ _ us hl => match us, hl with | [_, _], _ => rfl
  have F_l_take := fun_mk (st := s_l_take) l_l_take c_l_take k_l_take
  have b_l_take := F_l_take.binds (ps := ["_law_well_here", "_law_top"]) fun _ _ _ _ _ _ us hl => match us, hl with | [_, _], _ => rfl
  have F_l_ten := fun_mk (st := s_l_ten) l_l_ten c_l_ten k_l_ten
  have b_l_ten := F_l_ten.binds (ps := ["_law_power"]) fun _ _ _ _ _ _ us hl => match us, hl with | [_], _ => rfl
  have F_l_pair := fun_mk (st := s_l_pair) l_l_pair c_l_pair k_l_pair
  have b_l_pair := F_l_pair.binds (ps := ["_law_well_here"]) fun _ _ _ _ _ _ us hl => match us, hl with | [_], _ => rfl
  have F_l_rules_right := fun_mk (st := s_l_rules_right) l_l_rules_right c_l_rules_right k_l_rules_right
  have b_l_rules_right := F_l_rules_right.binds (ps := ["_law_a", "_law_b", "_law_c"]) fun _ _ _ _ _ _ us hl => match us, hl with | [_, _, _], _ => rfl
  have F_l_chain_right := fun_mk (st := s_l_chain_right) l_l_chain_right c_l_chain_right k_l_chain_right
  have b_l_chain_right := F_l_chain_right.binds (ps := ["_law_well_here", "_law_numbers"]) fun _ _ _ _ _ _ us hl => match us, hl with | [_, _], _ => rfl
  have F_l_kinds := fun_mk (st := s_l_kinds) l_l_kinds c_l_kinds k_l_kinds
  have b_l_kinds := F_l_kinds.binds (ps := ["_law_e"]) fun _ _ _ _ _ _ us hl => match us, hl with | [_], _ => rfl
  have F_l_refusals_right := fun_mk (st := s_l_refusals_right) l_l_refusals_right c_l_refusals_right k_l_refusals_right
  have b_l_refusals_right := F_l_refusals_right.binds (ps := ["_law_one", "_law_other"]) fun _ _ _ _ _ _ us hl => match us, hl with | [_, _], _ => rfl
  have F_l_options_right := fun_mk (st := s_l_options_right) l_l_options_right c_l_options_right k_l_options_right
  have b_l_options_right := F_l_options_right.binds (ps := []) fun _ _ _ _ _ _ us hl => match us, hl with | [], _ => rfl
  have F_law := fun_mk (st := s_law) l_law c_law k_law
  have b_law := F_law.binds (ps := ["_law_script"]) fun _ _ _ _ _ _ us hl => match us, hl with | [_], _ => rfl
  have t_WAYS : ∀ H : Hp, SqT K H A_WAYS [.str "up", .str "down", .str "high", .str "low", .str "half up", .str "half down", .str "half even", .str "half odd"] := fun H => .inr ⟨_, _, _, l_WAYS, rfl, rfl, by show 8 ≤ sizeLine; decide, .cons ⟨_, rfl⟩ (.cons ⟨_, rfl⟩ (.cons ⟨_, rfl⟩ (.cons ⟨_, rfl⟩ (.cons ⟨_, rfl⟩ (.cons ⟨_, rfl⟩ (.cons ⟨_, rfl⟩ (.cons ⟨_, rfl⟩ .nil)))))))⟩
  exact ⟨_, fun s v => .of_eq rfl, fun base _ _ => okG_law (w := w) (K := K) (mg := mg) {
    C_Number := C_Number,
    m_Number := PySem.W.mg_of X G aC_Number,
    c_Number := ⟨pg_Number, hd_Number, po_Number, sa_Number⟩,
    n_Number_top := nf_Number_top,
    n_Number_bottom := nf_Number_bottom,
    ty_Number_c := tc_Number,
    ty_Number_g := tg_Number,
    ty_Number_t := tt_Number,
    ty_Number_m := tm_Number,
    ty_Number_k := kit_self,
    ne_Number := nn_Number,
    f_Number_init := f_Number_init,
    fd_Number_init := _,
    F_Number_init := F_Number_init,
    mk_Number := ⟨mi_Number, a_Number_init, i_Number_init, kc_Number⟩,
    b_Number_init2 := b_Number_init2,
    ds_Number_init1 := ds_Number_init1,
    d_Number_init1 := d_Number_init1,
    b_Number_init1 := b_Number_init1,
    f_Number_eq := f_Number_eq,
    fd_Number_eq := _,
    F_Number_eq := F_Number_eq,
    me_Number_eq := ⟨a_Number_eq, i_Number_eq, k_Number_eq⟩,
    b_Number_eq := b_Number_eq,
    f_Number_str := f_Number_str,
    fd_Number_str := _,
    F_Number_str := F_Number_str,
    me_Number_str := ⟨a_Number_str, i_Number_str, k_Number_str⟩,
    b_Number_str := b_Number_str,
    f_Number_repr := f_Number_repr,
    fd_Number_repr := _,
    F_Number_repr := F_Number_repr,
    me_Number_repr := ⟨a_Number_repr, i_Number_repr, k_Number_repr⟩,
    b_Number_repr := b_Number_repr,
    f_Number_more := f_Number_more,
    fd_Number_more := _,
    F_Number_more := F_Number_more,
    me_Number_more := ⟨a_Number_more, i_Number_more, k_Number_more⟩,
    b_Number_more := b_Number_more,
    f_Number_less := f_Number_less,
    fd_Number_less := _,
    F_Number_less := F_Number_less,
    me_Number_less := ⟨a_Number_less, i_Number_less, k_Number_less⟩,
    b_Number_less := b_Number_less,
    f_Number_times := f_Number_times,
    fd_Number_times := _,
    F_Number_times := F_Number_times,
    me_Number_times := ⟨a_Number_times, i_Number_times, k_Number_times⟩,
    b_Number_times := b_Number_times,
    f_Number_over := f_Number_over,
    fd_Number_over := _,
    F_Number_over := F_Number_over,
    me_Number_over := ⟨a_Number_over, i_Number_over, k_Number_over⟩,
    b_Number_over := b_Number_over,
    f_Number_below := f_Number_below,
    fd_Number_below := _,
    F_Number_below := F_Number_below,
    me_Number_below := ⟨a_Number_below, i_Number_below, k_Number_below⟩,
    b_Number_below := b_Number_below,
    f_Number_size := f_Number_size,
    fd_Number_size := _,
    F_Number_size := F_Number_size,
    me_Number_size := ⟨a_Number_size, i_Number_size, k_Number_size⟩,
    b_Number_size := b_Number_size,
    f_Number_floor := f_Number_floor,
    fd_Number_floor := _,
    F_Number_floor := F_Number_floor,
    me_Number_floor := ⟨a_Number_floor, i_Number_floor, k_Number_floor⟩,
    b_Number_floor := b_Number_floor,
    m_read_number := PySem.W.mg_of X G a_read_number,
    f_read_number := f_read_number,
    fd_read_number := _,
    F_read_number := F_read_number,
    b_read_number := b_read_number,
    m_whole := PySem.W.mg_of X G a_whole,
    f_whole := f_whole,
    fd_whole := _,
    F_whole := F_whole,
    b_whole := b_whole,
    m_l_well := PySem.W.mg_of X G a_l_well,
    f_l_well := f_l_well,
    fd_l_well := _,
    F_l_well := F_l_well,
    b_l_well := b_l_well,
    m_l_take := PySem.W.mg_of X G a_l_take,
    f_l_take := f_l_take,
    fd_l_take := _,
    F_l_take := F_l_take,
    b_l_take := b_l_take,
    m_l_ten := PySem.W.mg_of X G a_l_ten,
    f_l_ten := f_l_ten,
    fd_l_ten := _,
    F_l_ten := F_l_ten,
    b_l_ten := b_l_ten,
    m_l_pair := PySem.W.mg_of X G a_l_pair,
    f_l_pair := f_l_pair,
    fd_l_pair := _,
    F_l_pair := F_l_pair,
    b_l_pair := b_l_pair,
    m_l_rules_right := PySem.W.mg_of X G a_l_rules_right,
    f_l_rules_right := f_l_rules_right,
    fd_l_rules_right := _,
    F_l_rules_right := F_l_rules_right,
    b_l_rules_right := b_l_rules_right,
    m_l_chain_right := PySem.W.mg_of X G a_l_chain_right,
    f_l_chain_right := f_l_chain_right,
    fd_l_chain_right := _,
    F_l_chain_right := F_l_chain_right,
    b_l_chain_right := b_l_chain_right,
    m_l_kinds := PySem.W.mg_of X G a_l_kinds,
    f_l_kinds := f_l_kinds,
    fd_l_kinds := _,
    F_l_kinds := F_l_kinds,
    b_l_kinds := b_l_kinds,
    m_l_refusals_right := PySem.W.mg_of X G a_l_refusals_right,
    f_l_refusals_right := f_l_refusals_right,
    fd_l_refusals_right := _,
    F_l_refusals_right := F_l_refusals_right,
    b_l_refusals_right := b_l_refusals_right,
    m_l_options_right := PySem.W.mg_of X G a_l_options_right,
    f_l_options_right := f_l_options_right,
    fd_l_options_right := _,
    F_l_options_right := F_l_options_right,
    b_l_options_right := b_l_options_right,
    m_law := PySem.W.mg_of X G a_law,
    f_law := _,
    fd_law := _,
    F_law := F_law,
    b_law := b_law,
    f_NoTextI := f_NoTextI,
    f_UnsortedI := f_UnsortedI,
    f_NoBottomI := f_NoBottomI,
    f_FigureErrorI := f_FigureErrorI,
    C_NoText := C_NoText,
    m_NoText := PySem.W.mg_of X G ae_NoText,
    x_NoText := ⟨ga_NoText, gg_NoText, eb_NoText, hd_NoText, ha_NoText, hnE, htE, hm_NoText⟩,
    ty_NoText := tt_NoText,
    e_NoText := { cls := ⟨nm_NoText, q_NoText, N_NoText, bs_NoText, _, sn_NoText, sub_NoText, ab_NoText, col_NoText, dd_NoText, k0_NoText, k1_NoText, k2_NoText, k3_NoText, k5_NoText, _, _, _, _, xe_NoText, PySem.F.excBase_ValueError, (fun X => rfl), PySem.F.store_ValueError.passes, rfl⟩, sa := sa_NoText, iC := ci_NoText, tC := ti_NoText, kC := kp_NoText },
    no_NoText := no_NoText_at,
    fn_NoText := ⟨_, _, _, _, _, _, _, _, _, _, _, _, _, _,  li_NoText, cc_NoText⟩,
    C_Unsorted := C_Unsorted,
    m_Unsorted := PySem.W.mg_of X G ae_Unsorted,
    x_Unsorted := ⟨ga_Unsorted, gg_Unsorted, eb_Unsorted, hd_Unsorted, ha_Unsorted, hnE, htE, hm_Unsorted⟩,
    ty_Unsorted := tt_Unsorted,
    e_Unsorted := { cls := ⟨nm_Unsorted, q_Unsorted, N_Unsorted, bs_Unsorted, _, sn_Unsorted, sub_Unsorted, ab_Unsorted, col_Unsorted, dd_Unsorted, k0_Unsorted, k1_Unsorted, k2_Unsorted, k3_Unsorted, k5_Unsorted, _, _, _, _, xe_Unsorted, PySem.F.excBase_ValueError, (fun X => rfl), PySem.F.store_ValueError.passes, rfl⟩, sa := sa_Unsorted, iC := ci_Unsorted, tC := ti_Unsorted, kC := kp_Unsorted },
    no_Unsorted := ⟨no_Unsorted_low, no_Unsorted_high⟩,
    fn_Unsorted := ⟨_, _, _, _, _, _, _, _, _, _, _, _, _, _, _, _, _, _, _,  li_Unsorted, cc_Unsorted⟩,
    C_NoBottom := C_NoBottom,
    m_NoBottom := PySem.W.mg_of X G ae_NoBottom,
    x_NoBottom := ⟨ga_NoBottom, gg_NoBottom, eb_NoBottom, hd_NoBottom, ha_NoBottom, hnE, htE, hm_NoBottom⟩,
    ty_NoBottom := tt_NoBottom,
    e_NoBottom := { cls := ⟨nm_NoBottom, q_NoBottom, N_NoBottom, bs_NoBottom, _, sn_NoBottom, sub_NoBottom, ab_NoBottom, col_NoBottom, dd_NoBottom, k0_NoBottom, k1_NoBottom, k2_NoBottom, k3_NoBottom, k5_NoBottom, _, _, _, _, xe_NoBottom, PySem.F.excBase_ArithmeticError, (fun X => rfl), PySem.F.store_ArithmeticError.passes, rfl⟩, sa := sa_NoBottom, iC := ci_NoBottom, tC := ti_NoBottom, kC := kp_NoBottom },
    no_NoBottom := no_NoBottom_top,
    fn_NoBottom := ⟨_, _, _, _, _, _, _, _, _, _, _, _, _, _,  li_NoBottom, cc_NoBottom⟩,
    C_NoCustom := C_NoCustom,
    m_NoCustom := PySem.W.mg_of X G ae_NoCustom,
    x_NoCustom := ⟨ga_NoCustom, gg_NoCustom, eb_NoCustom, hd_NoCustom, ha_NoCustom, hnE, htE, hm_NoCustom⟩,
    ty_NoCustom := tt_NoCustom,
    e_NoCustom := { cls := ⟨nm_NoCustom, q_NoCustom, N_NoCustom, bs_NoCustom, _, sn_NoCustom, sub_NoCustom, ab_NoCustom, col_NoCustom, dd_NoCustom, k0_NoCustom, k1_NoCustom, k2_NoCustom, k3_NoCustom, k5_NoCustom, _, _, _, _, xe_NoCustom, PySem.F.excBase_Exception, (fun X => by rw [List.contains_cons]; rfl), (fun self => by rw [refuseLoop_ref]; exact PySem.F.store_Exception.passes _), rfl⟩, sa := sa_NoCustom, iC := ci_NoCustom, tC := ti_FigureError, kC := kp_NoCustom },
    no_NoCustom := no_NoCustom_thing,
    fn_NoCustom := ⟨_, _, _, _, _, _, _, _, _, _, _, _, _, _,  li_FigureError, cc_FigureError⟩,
    C_NoWish := C_NoWish,
    m_NoWish := PySem.W.mg_of X G ae_NoWish,
    x_NoWish := ⟨ga_NoWish, gg_NoWish, eb_NoWish, hd_NoWish, ha_NoWish, hnE, htE, hm_NoWish⟩,
    ty_NoWish := tt_NoWish,
    e_NoWish := { cls := ⟨nm_NoWish, q_NoWish, N_NoWish, bs_NoWish, _, sn_NoWish, sub_NoWish, ab_NoWish, col_NoWish, dd_NoWish, k0_NoWish, k1_NoWish, k2_NoWish, k3_NoWish, k5_NoWish, _, _, _, _, xe_NoWish, PySem.F.excBase_Exception, (fun X => by rw [List.contains_cons]; rfl), (fun self => by rw [refuseLoop_ref]; exact PySem.F.store_Exception.passes _), rfl⟩, sa := sa_NoWish, iC := ci_NoWish, tC := ti_FigureError, kC := kp_NoWish },
    no_NoWish := no_NoWish_thing,
    fn_NoWish := ⟨_, _, _, _, _, _, _, _, _, _, _, _, _, _,  li_FigureError, cc_FigureError⟩,
    C_NoFit := C_NoFit,
    m_NoFit := PySem.W.mg_of X G ae_NoFit,
    x_NoFit := ⟨ga_NoFit, gg_NoFit, eb_NoFit, hd_NoFit, ha_NoFit, hnE, htE, hm_NoFit⟩,
    ty_NoFit := tt_NoFit,
    e_NoFit := { cls := ⟨nm_NoFit, q_NoFit, N_NoFit, bs_NoFit, _, sn_NoFit, sub_NoFit, ab_NoFit, col_NoFit, dd_NoFit, k0_NoFit, k1_NoFit, k2_NoFit, k3_NoFit, k5_NoFit, _, _, _, _, xe_NoFit, PySem.F.excBase_Exception, (fun X => by rw [List.contains_cons]; rfl), (fun self => by rw [refuseLoop_ref]; exact PySem.F.store_Exception.passes _), rfl⟩, sa := sa_NoFit, iC := ci_NoFit, tC := ti_FigureError, kC := kp_NoFit },
    no_NoFit := no_NoFit_thing,
    fn_NoFit := ⟨_, _, _, _, _, _, _, _, _, _, _, _, _, _,  li_FigureError, cc_FigureError⟩,
    C_NoRead := C_NoRead,
    m_NoRead := PySem.W.mg_of X G ae_NoRead,
    x_NoRead := ⟨ga_NoRead, gg_NoRead, eb_NoRead, hd_NoRead, ha_NoRead, hnE, htE, hm_NoRead⟩,
    ty_NoRead := tt_NoRead,
    e_NoRead := { cls := ⟨nm_NoRead, q_NoRead, N_NoRead, bs_NoRead, _, sn_NoRead, sub_NoRead, ab_NoRead, col_NoRead, dd_NoRead, k0_NoRead, k1_NoRead, k2_NoRead, k3_NoRead, k5_NoRead, _, _, _, _, xe_NoRead, PySem.F.excBase_Exception, (fun X => by rw [List.contains_cons]; rfl), (fun self => by rw [refuseLoop_ref]; exact PySem.F.store_Exception.passes _), rfl⟩, sa := sa_NoRead, iC := ci_NoRead, tC := ti_FigureError, kC := kp_NoRead },
    no_NoRead := no_NoRead_thing,
    fn_NoRead := ⟨_, _, _, _, _, _, _, _, _, _, _, _, _, _,  li_FigureError, cc_FigureError⟩,
    C_NoName := C_NoName,
    m_NoName := PySem.W.mg_of X G ae_NoName,
    x_NoName := ⟨ga_NoName, gg_NoName, eb_NoName, hd_NoName, ha_NoName, hnE, htE, hm_NoName⟩,
    ty_NoName := tt_NoName,
    e_NoName := { cls := ⟨nm_NoName, q_NoName, N_NoName, bs_NoName, _, sn_NoName, sub_NoName, ab_NoName, col_NoName, dd_NoName, k0_NoName, k1_NoName, k2_NoName, k3_NoName, k5_NoName, _, _, _, _, xe_NoName, PySem.F.excBase_Exception, (fun X => by rw [List.contains_cons]; rfl), (fun self => by rw [refuseLoop_ref]; exact PySem.F.store_Exception.passes _), rfl⟩, sa := sa_NoName, iC := ci_NoName, tC := ti_FigureError, kC := kp_NoName },
    no_NoName := no_NoName_thing,
    fn_NoName := ⟨_, _, _, _, _, _, _, _, _, _, _, _, _, _,  li_FigureError, cc_FigureError⟩,
    C_FigureError := C_FigureError,
    m_FigureError := PySem.W.mg_of X G ae_FigureError,
    x_FigureError := ⟨ga_FigureError, gg_FigureError, eb_FigureError, hd_FigureError, ha_FigureError, hnE, htE, hm_FigureError⟩,
    ty_FigureError := tt_FigureError,
    e_FigureError := { cls := ⟨nm_FigureError, q_FigureError, N_FigureError, bs_FigureError, _, sn_FigureError, sub_FigureError, ab_FigureError, col_FigureError, dd_FigureError, k0_FigureError, k1_FigureError, k2_FigureError, k3_FigureError, k5_FigureError, _, _, _, _, xe_FigureError, PySem.F.excBase_Exception, (fun X => rfl), PySem.F.store_Exception.passes, rfl⟩, sa := sa_FigureError, iC := ci_FigureError, tC := ti_FigureError, kC := kp_FigureError },
    no_FigureError := no_FigureError_thing,
    fn_FigureError := ⟨_, _, _, _, _, _, _, _, _, _, _, _, _, _,  li_FigureError, cc_FigureError⟩,
    kd_NoText := (.cons (kit_same) (.cons (kit_ref sf_NoText kk_NoText_Unsorted is_Unsorted tt_Unsorted) (.cons (kit_ref sf_NoText kk_NoText_NoBottom is_NoBottom tt_NoBottom) (.cons (kit_ref sf_NoText kk_NoText_NoCustom is_NoCustom tt_NoCustom) (.cons (kit_ref sf_NoText kk_NoText_NoWish is_NoWish tt_NoWish) (.cons (kit_ref sf_NoText kk_NoText_NoFit is_NoFit tt_NoFit) (.cons (kit_ref sf_NoText kk_NoText_NoRead is_NoRead tt_NoRead) (.cons (kit_ref sf_NoText kk_NoText_NoName is_NoName tt_NoName) (.cons (kit_type kk_NoText_ValueError (by decide +kernel)) (.cons (kit_type kk_NoText_ArithmeticError (by decide +kernel)) (.cons (kit_ref sf_NoText kk_NoText_FigureError is_FigureError tt_FigureError) .nil))))))))))),
    kd_Unsorted := (.cons (kit_ref sf_Unsorted kk_Unsorted_NoText is_NoText tt_NoText) (.cons (kit_same) (.cons (kit_ref sf_Unsorted kk_Unsorted_NoBottom is_NoBottom tt_NoBottom) (.cons (kit_ref sf_Unsorted kk_Unsorted_NoCustom is_NoCustom tt_NoCustom) (.cons (kit_ref sf_Unsorted kk_Unsorted_NoWish is_NoWish tt_NoWish) (.cons (kit_ref sf_Unsorted kk_Unsorted_NoFit is_NoFit tt_NoFit) (.cons (kit_ref sf_Unsorted kk_Unsorted_NoRead is_NoRead tt_NoRead) (.cons (kit_ref sf_Unsorted kk_Unsorted_NoName is_NoName tt_NoName) (.cons (kit_type kk_Unsorted_ValueError (by decide +kernel)) (.cons (kit_type kk_Unsorted_ArithmeticError (by decide +kernel)) (.cons (kit_ref sf_Unsorted kk_Unsorted_FigureError is_FigureError tt_FigureError) .nil))))))))))),
    kd_NoBottom := (.cons (kit_ref sf_NoBottom kk_NoBottom_NoText is_NoText tt_NoText) (.cons (kit_ref sf_NoBottom kk_NoBottom_Unsorted is_Unsorted tt_Unsorted) (.cons (kit_same) (.cons (kit_ref sf_NoBottom kk_NoBottom_NoCustom is_NoCustom tt_NoCustom) (.cons (kit_ref sf_NoBottom kk_NoBottom_NoWish is_NoWish tt_NoWish) (.cons (kit_ref sf_NoBottom kk_NoBottom_NoFit is_NoFit tt_NoFit) (.cons (kit_ref sf_NoBottom kk_NoBottom_NoRead is_NoRead tt_NoRead) (.cons (kit_ref sf_NoBottom kk_NoBottom_NoName is_NoName tt_NoName) (.cons (kit_type kk_NoBottom_ValueError (by decide +kernel)) (.cons (kit_type kk_NoBottom_ArithmeticError (by decide +kernel)) (.cons (kit_ref sf_NoBottom kk_NoBottom_FigureError is_FigureError tt_FigureError) .nil))))))))))),
    kd_NoCustom := (.cons (kit_ref sf_NoCustom kk_NoCustom_NoText is_NoText tt_NoText) (.cons (kit_ref sf_NoCustom kk_NoCustom_Unsorted is_Unsorted tt_Unsorted) (.cons (kit_ref sf_NoCustom kk_NoCustom_NoBottom is_NoBottom tt_NoBottom) (.cons (kit_same) (.cons (kit_ref sf_NoCustom kk_NoCustom_NoWish is_NoWish tt_NoWish) (.cons (kit_ref sf_NoCustom kk_NoCustom_NoFit is_NoFit tt_NoFit) (.cons (kit_ref sf_NoCustom kk_NoCustom_NoRead is_NoRead tt_NoRead) (.cons (kit_ref sf_NoCustom kk_NoCustom_NoName is_NoName tt_NoName) (.cons (kit_type kk_NoCustom_ValueError (by decide +kernel)) (.cons (kit_type kk_NoCustom_ArithmeticError (by decide +kernel)) (.cons (kit_ref sf_NoCustom kk_NoCustom_FigureError is_FigureError tt_FigureError) .nil))))))))))),
    kd_NoWish := (.cons (kit_ref sf_NoWish kk_NoWish_NoText is_NoText tt_NoText) (.cons (kit_ref sf_NoWish kk_NoWish_Unsorted is_Unsorted tt_Unsorted) (.cons (kit_ref sf_NoWish kk_NoWish_NoBottom is_NoBottom tt_NoBottom) (.cons (kit_ref sf_NoWish kk_NoWish_NoCustom is_NoCustom tt_NoCustom) (.cons (kit_same) (.cons (kit_ref sf_NoWish kk_NoWish_NoFit is_NoFit tt_NoFit) (.cons (kit_ref sf_NoWish kk_NoWish_NoRead is_NoRead tt_NoRead) (.cons (kit_ref sf_NoWish kk_NoWish_NoName is_NoName tt_NoName) (.cons (kit_type kk_NoWish_ValueError (by decide +kernel)) (.cons (kit_type kk_NoWish_ArithmeticError (by decide +kernel)) (.cons (kit_ref sf_NoWish kk_NoWish_FigureError is_FigureError tt_FigureError) .nil))))))))))),
    kd_NoFit := (.cons (kit_ref sf_NoFit kk_NoFit_NoText is_NoText tt_NoText) (.cons (kit_ref sf_NoFit kk_NoFit_Unsorted is_Unsorted tt_Unsorted) (.cons (kit_ref sf_NoFit kk_NoFit_NoBottom is_NoBottom tt_NoBottom) (.cons (kit_ref sf_NoFit kk_NoFit_NoCustom is_NoCustom tt_NoCustom) (.cons (kit_ref sf_NoFit kk_NoFit_NoWish is_NoWish tt_NoWish) (.cons (kit_same) (.cons (kit_ref sf_NoFit kk_NoFit_NoRead is_NoRead tt_NoRead) (.cons (kit_ref sf_NoFit kk_NoFit_NoName is_NoName tt_NoName) (.cons (kit_type kk_NoFit_ValueError (by decide +kernel)) (.cons (kit_type kk_NoFit_ArithmeticError (by decide +kernel)) (.cons (kit_ref sf_NoFit kk_NoFit_FigureError is_FigureError tt_FigureError) .nil))))))))))),
    kd_NoRead := (.cons (kit_ref sf_NoRead kk_NoRead_NoText is_NoText tt_NoText) (.cons (kit_ref sf_NoRead kk_NoRead_Unsorted is_Unsorted tt_Unsorted) (.cons (kit_ref sf_NoRead kk_NoRead_NoBottom is_NoBottom tt_NoBottom) (.cons (kit_ref sf_NoRead kk_NoRead_NoCustom is_NoCustom tt_NoCustom) (.cons (kit_ref sf_NoRead kk_NoRead_NoWish is_NoWish tt_NoWish) (.cons (kit_ref sf_NoRead kk_NoRead_NoFit is_NoFit tt_NoFit) (.cons (kit_same) (.cons (kit_ref sf_NoRead kk_NoRead_NoName is_NoName tt_NoName) (.cons (kit_type kk_NoRead_ValueError (by decide +kernel)) (.cons (kit_type kk_NoRead_ArithmeticError (by decide +kernel)) (.cons (kit_ref sf_NoRead kk_NoRead_FigureError is_FigureError tt_FigureError) .nil))))))))))),
    kd_NoName := (.cons (kit_ref sf_NoName kk_NoName_NoText is_NoText tt_NoText) (.cons (kit_ref sf_NoName kk_NoName_Unsorted is_Unsorted tt_Unsorted) (.cons (kit_ref sf_NoName kk_NoName_NoBottom is_NoBottom tt_NoBottom) (.cons (kit_ref sf_NoName kk_NoName_NoCustom is_NoCustom tt_NoCustom) (.cons (kit_ref sf_NoName kk_NoName_NoWish is_NoWish tt_NoWish) (.cons (kit_ref sf_NoName kk_NoName_NoFit is_NoFit tt_NoFit) (.cons (kit_ref sf_NoName kk_NoName_NoRead is_NoRead tt_NoRead) (.cons (kit_same) (.cons (kit_type kk_NoName_ValueError (by decide +kernel)) (.cons (kit_type kk_NoName_ArithmeticError (by decide +kernel)) (.cons (kit_ref sf_NoName kk_NoName_FigureError is_FigureError tt_FigureError) .nil))))))))))),
    kd_FigureError := (.cons (kit_ref sf_FigureError kk_FigureError_NoText is_NoText tt_NoText) (.cons (kit_ref sf_FigureError kk_FigureError_Unsorted is_Unsorted tt_Unsorted) (.cons (kit_ref sf_FigureError kk_FigureError_NoBottom is_NoBottom tt_NoBottom) (.cons (kit_ref sf_FigureError kk_FigureError_NoCustom is_NoCustom tt_NoCustom) (.cons (kit_ref sf_FigureError kk_FigureError_NoWish is_NoWish tt_NoWish) (.cons (kit_ref sf_FigureError kk_FigureError_NoFit is_NoFit tt_NoFit) (.cons (kit_ref sf_FigureError kk_FigureError_NoRead is_NoRead tt_NoRead) (.cons (kit_ref sf_FigureError kk_FigureError_NoName is_NoName tt_NoName) (.cons (kit_type kk_FigureError_ValueError (by decide +kernel)) (.cons (kit_type kk_FigureError_ArithmeticError (by decide +kernel)) (.cons (kit_same) .nil))))))))))),
    te_FigureError := exm_self eb_FigureError is_FigureError tt_FigureError sf_FigureError,
    n_ValueError := PySem.W.mg_none_of X G zVE,
    n_ArithmeticError := PySem.W.mg_none_of X G zAE,
    u_POINT := .str "." t_POINT,
    m_POINT := PySem.W.mg_of X G a_POINT,
    r_POINT := ⟨_, rfl⟩,
    u_GROUP := .str "," t_GROUP,
    m_GROUP := PySem.W.mg_of X G a_GROUP,
    r_GROUP := ⟨_, rfl⟩,
    u_FIGURES := .str "0123456789" t_FIGURES,
    m_FIGURES := PySem.W.mg_of X G a_FIGURES,
    r_FIGURES := ⟨_, rfl⟩,
    u_BETWEEN := .str "~" t_BETWEEN,
    m_BETWEEN := PySem.W.mg_of X G a_BETWEEN,
    r_BETWEEN := ⟨_, rfl⟩,
    u_ABOUT := .str "@" t_ABOUT,
    m_ABOUT := PySem.W.mg_of X G a_ABOUT,
    r_ABOUT := ⟨_, rfl⟩,
    u_SIGNS := .str "minus" t_SIGNS,
    m_SIGNS := PySem.W.mg_of X G a_SIGNS,
    r_SIGNS := ⟨_, rfl⟩,
    A_SIZES := A_SIZES,
    m_SIZES := PySem.W.mg_of X G a_SIZES,
    t_SIZES := fun H => .inr ⟨_, _, _, l_SIZES, rfl, rfl, (show 1 ≤ sizeLine by decide), .cons ⟨_, rfl⟩ .nil⟩,
    A_MINUS := A_MINUS,
    m_MINUS := PySem.W.mg_of X G a_MINUS,
    t_MINUS := fun H => .inr ⟨_, _, _, l_MINUS, rfl, rfl, (show 2 ≤ sizeLine by decide), .cons ⟨_, rfl⟩ (.cons ⟨_, rfl⟩ .nil)⟩,
    A_PLUS := A_PLUS,
    m_PLUS := PySem.W.mg_of X G a_PLUS,
    t_PLUS := fun H => .inr ⟨_, _, _, l_PLUS, rfl, rfl, (show 2 ≤ sizeLine by decide), .cons ⟨_, rfl⟩ (.cons ⟨_, rfl⟩ .nil)⟩,
    A_PLACES := A_PLACES,
    m_PLACES := PySem.W.mg_of X G a_PLACES,
    t_PLACES := fun H => .inr ⟨_, _, _, l_PLACES, rfl, rfl, (show 2 ≤ sizeLine by decide), .cons ⟨_, rfl⟩ (.cons ⟨_, rfl⟩ .nil)⟩,
    A_UNIT := A_UNIT,
    m_UNIT := PySem.W.mg_of X G a_UNIT,
    t_UNIT := fun H => .inr ⟨_, _, _, l_UNIT, rfl, rfl, (show 2 ≤ sizeLine by decide), .cons ⟨_, rfl⟩ (.cons ⟨_, rfl⟩ .nil)⟩,
    m_gcd := PySem.W.mg_of X G a_gcd,
    n_range := PySem.W.mg_none_of X G z_range,
    n_isinstance := PySem.W.mg_none_of X G z_isinstance,
    n_str := PySem.W.mg_none_of X G z_str,
    n_int := PySem.W.mg_none_of X G z_int,
    n_len := PySem.W.mg_none_of X G z_len,
    n_abs := PySem.W.mg_none_of X G z_abs,
    n_max := PySem.W.mg_none_of X G z_max,
    n_min := PySem.W.mg_none_of X G z_min,
    n_repr := PySem.W.mg_none_of X G z_repr,
    A_WAYS := A_WAYS,
    m_WAYS := PySem.W.mg_of X G a_WAYS,
    t_WAYS := t_WAYS,
    u_WAY := _,
    m_WAY := PySem.W.mg_of X G a_WAY,
    r_WAY := ⟨_, rfl⟩,
    u_LONGEST_TEXT := _,
    m_LONGEST_TEXT := PySem.W.mg_of X G a_LONGEST_TEXT,
    r_LONGEST_TEXT := ⟨_, rfl⟩,
    u_LEAST := _,
    m_LEAST := PySem.W.mg_of X G a_LEAST,
    r_LEAST := ⟨_, rfl⟩ }⟩
theorem walk {l : PySem.W.OpenLaw} {q : Program} {loose : List Str} {XP : (Str → Option Value) → Heap → Prop} {YP : World → Heap → Prop} {d : DefRec} {K : Params → PySem.W.Frag} (hn : l.most = some 63) (hdf : d.params.defaults = [])
    (hY : ∀ (w : World) (h : Heap), YP w h → (K w.params).In h)
    (F : ∀ (w : World) (mg : Str → Option Value) (fa : Addr) (h : Heap), (K w.params).In h → h.Ns mainGlobals mg → mg d.name = some (.ref fa) →
      ∃ fd : FuncData, (∀ (s : Shared) (u : Value), BindsTo s fd ⟨[u], []⟩ [("_law_script", u)]) ∧ ∀ base : Heap, (K w.params).In base → base.Ns mainGlobals mg → FnG l.prog w (K w.params) mg base 16 fa fd ["_law_script"] (spLaw (K w.params))) :
    PySem.W.WalkO q loose XP YP l.row.toRowW d [] (fun f vs => PySem.call f vs) :=
  walk_ofG (n := 63) (k := 16) (x := "_law_script") (sp := fun w => spLaw (K w.params)) hn (by decide) hdf ⟨rfl, by decide, by decide⟩ hY F (fun _ _ a ns hl hS => ⟨a, ns, rfl, hS, hl, fun _ => rfl⟩)
end My
open PySem PySem.W PyProof.Rows in
set_option maxRecDepth 100000 in
set_option maxHeartbeats 0 in
theorem PySem.Challenge.cw_figuretexts_k06_whole_numbers_reckoned_o_holds : PySem.Challenge.rw_figuretexts_k06_whole_numbers_reckoned_o.Holds := by
  w_on; o_law; k_head; (case hw => w_witness2)
  k_fill
  refine My.walk (l := PySem.Challenge.rw_figuretexts_k06_whole_numbers_reckoned_o) rfl rfl (fun w h Y => PySem.W.kIn_of Y) ?F
  case F =>
    intro w mg fa h KX G hmg
    refine' My.all_mk KX G hmg ?aC_Number ?pg_Number ?hd_Number ?po_Number ?sa_Number ?nf_Number_top ?nf_Number_bottom ?tc_Number ?tg_Number ?tt_Number ?tm_Number ?nn_Number ?mi_Number ?kc_Number ?a_Number_init ?i_Number_init ?l_Number_init ?c_Number_init ?k_Number_init ?T_Number_init ?a_Number_eq ?i_Number_eq ?l_Number_eq ?c_Number_eq ?k_Number_eq ?a_Number_str ?i_Number_str ?l_Number_str ?c_Number_str ?k_Number_str ?a_Number_repr ?i_Number_repr ?l_Number_repr ?c_Number_repr ?k_Number_repr ?a_Number_more ?i_Number_more ?l_Number_more ?c_Number_more ?k_Number_more ?a_Number_less ?i_Number_less ?l_Number_less ?c_Number_less ?k_Number_less ?a_Number_times ?i_Number_times ?l_Number_times ?c_Number_times ?k_Number_times ?a_Number_over ?i_Number_over ?l_Number_over ?c_Number_over ?k_Number_over ?a_Number_below ?i_Number_below ?l_Number_below ?c_Number_below ?k_Number_below ?a_Number_size ?i_Number_size ?l_Number_size ?c_Number_size ?k_Number_size ?a_Number_floor ?i_Number_floor ?l_Number_floor ?c_Number_floor ?k_Number_floor ?a_read_number ?l_read_number ?c_read_number ?k_read_number ?a_whole ?l_whole ?c_whole ?k_whole ?a_l_well ?l_l_well ?c_l_well ?k_l_well ?a_l_take ?l_l_take ?c_l_take ?k_l_take ?a_l_ten ?l_l_ten ?c_l_ten ?k_l_ten ?a_l_pair ?l_l_pair ?c_l_pair ?k_l_pair ?a_l_rules_right ?l_l_rules_right ?c_l_rules_right ?k_l_rules_right ?a_l_chain_right ?l_l_chain_right ?c_l_chain_right ?k_l_chain_right ?a_l_kinds ?l_l_kinds ?c_l_kinds ?k_l_kinds ?a_l_refusals_right ?l_l_refusals_right ?c_l_refusals_right ?k_l_refusals_right ?a_l_options_right ?l_l_options_right ?c_l_options_right ?k_l_options_right ?a_law ?l_law ?c_law ?k_law ?ae_NoText ?xe_NoText ?sa_NoText ?ga_NoText ?gg_NoText ?ci_NoText ?kp_NoText ?eb_NoText ?tt_NoText ?hd_NoText ?is_NoText ?ha_NoText ?hm_NoText ?sf_NoText ?no_NoText_at ?ae_Unsorted ?xe_Unsorted ?sa_Unsorted ?ga_Unsorted ?gg_Unsorted ?ci_Unsorted ?kp_Unsorted ?eb_Unsorted ?tt_Unsorted ?hd_Unsorted ?is_Unsorted ?ha_Unsorted ?hm_Unsorted ?sf_Unsorted ?no_Unsorted_low ?no_Unsorted_high ?ae_NoBottom ?xe_NoBottom ?sa_NoBottom ?ga_NoBottom ?gg_NoBottom ?ci_NoBottom ?kp_NoBottom ?eb_NoBottom ?tt_NoBottom ?hd_NoBottom ?is_NoBottom ?ha_NoBottom ?hm_NoBottom ?sf_NoBottom ?no_NoBottom_top ?ae_NoCustom ?xe_NoCustom ?sa_NoCustom ?ga_NoCustom ?gg_NoCustom ?ci_NoCustom ?kp_NoCustom ?eb_NoCustom ?tt_NoCustom ?hd_NoCustom ?is_NoCustom ?ha_NoCustom ?hm_NoCustom ?sf_NoCustom ?no_NoCustom_thing ?ae_NoWish ?xe_NoWish ?sa_NoWish ?ga_NoWish ?gg_NoWish ?ci_NoWish ?kp_NoWish ?eb_NoWish ?tt_NoWish ?hd_NoWish ?is_NoWish ?ha_NoWish ?hm_NoWish ?sf_NoWish ?no_NoWish_thing ?ae_NoFit ?xe_NoFit ?sa_NoFit ?ga_NoFit ?gg_NoFit ?ci_NoFit ?kp_NoFit ?eb_NoFit ?tt_NoFit ?hd_NoFit ?is_NoFit ?ha_NoFit ?hm_NoFit ?sf_NoFit ?no_NoFit_thing ?ae_NoRead ?xe_NoRead ?sa_NoRead ?ga_NoRead ?gg_NoRead ?ci_NoRead ?kp_NoRead ?eb_NoRead ?tt_NoRead ?hd_NoRead ?is_NoRead ?ha_NoRead ?hm_NoRead ?sf_NoRead ?no_NoRead_thing ?ae_NoName ?xe_NoName ?sa_NoName ?ga_NoName ?gg_NoName ?ci_NoName ?kp_NoName ?eb_NoName ?tt_NoName ?hd_NoName ?is_NoName ?ha_NoName ?hm_NoName ?sf_NoName ?no_NoName_thing ?ae_FigureError ?xe_FigureError ?sa_FigureError ?ga_FigureError ?gg_FigureError ?ci_FigureError ?kp_FigureError ?eb_FigureError ?tt_FigureError ?hd_FigureError ?is_FigureError ?ha_FigureError ?hm_FigureError ?sf_FigureError ?no_FigureError_thing ?ti_NoText ?li_NoText ?ti_Unsorted ?li_Unsorted ?ti_NoBottom ?li_NoBottom ?ti_FigureError ?li_FigureError ?hnE ?htE ?zVE ?zAE ?a_POINT ?a_GROUP ?a_FIGURES ?a_BETWEEN ?a_ABOUT ?a_SIGNS ?a_SIZES ?l_SIZES ?a_MINUS ?l_MINUS ?a_PLUS ?l_PLUS ?a_PLACES ?l_PLACES ?a_UNIT ?l_UNIT ?cc_NoText ?cc_Unsorted ?cc_NoBottom ?cc_FigureError ?kk_NoText_Unsorted ?kk_NoText_NoBottom ?kk_NoText_NoCustom ?kk_NoText_NoWish ?kk_NoText_NoFit ?kk_NoText_NoRead ?kk_NoText_NoName ?kk_NoText_ValueError ?kk_NoText_ArithmeticError ?kk_NoText_FigureError ?kk_Unsorted_NoText ?kk_Unsorted_NoBottom ?kk_Unsorted_NoCustom ?kk_Unsorted_NoWish ?kk_Unsorted_NoFit ?kk_Unsorted_NoRead ?kk_Unsorted_NoName ?kk_Unsorted_ValueError ?kk_Unsorted_ArithmeticError ?kk_Unsorted_FigureError ?kk_NoBottom_NoText ?kk_NoBottom_Unsorted ?kk_NoBottom_NoCustom ?kk_NoBottom_NoWish ?kk_NoBottom_NoFit ?kk_NoBottom_NoRead ?kk_NoBottom_NoName ?kk_NoBottom_ValueError ?kk_NoBottom_ArithmeticError ?kk_NoBottom_FigureError ?kk_NoCustom_NoText ?kk_NoCustom_Unsorted ?kk_NoCustom_NoBottom ?kk_NoCustom_NoWish ?kk_NoCustom_NoFit ?kk_NoCustom_NoRead ?kk_NoCustom_NoName ?kk_NoCustom_ValueError ?kk_NoCustom_ArithmeticError ?kk_NoCustom_FigureError ?kk_NoWish_NoText ?kk_NoWish_Unsorted ?kk_NoWish_NoBottom ?kk_NoWish_NoCustom ?kk_NoWish_NoFit ?kk_NoWish_NoRead ?kk_NoWish_NoName ?kk_NoWish_ValueError ?kk_NoWish_ArithmeticError ?kk_NoWish_FigureError ?kk_NoFit_NoText ?kk_NoFit_Unsorted ?kk_NoFit_NoBottom ?kk_NoFit_NoCustom ?kk_NoFit_NoWish ?kk_NoFit_NoRead ?kk_NoFit_NoName ?kk_NoFit_ValueError ?kk_NoFit_ArithmeticError ?kk_NoFit_FigureError ?kk_NoRead_NoText ?kk_NoRead_Unsorted ?kk_NoRead_NoBottom ?kk_NoRead_NoCustom ?kk_NoRead_NoWish ?kk_NoRead_NoFit ?kk_NoRead_NoName ?kk_NoRead_ValueError ?kk_NoRead_ArithmeticError ?kk_NoRead_FigureError ?kk_NoName_NoText ?kk_NoName_Unsorted ?kk_NoName_NoBottom ?kk_NoName_NoCustom ?kk_NoName_NoWish ?kk_NoName_NoFit ?kk_NoName_NoRead ?kk_NoName_ValueError ?kk_NoName_ArithmeticError ?kk_NoName_FigureError ?kk_FigureError_NoText ?kk_FigureError_Unsorted ?kk_FigureError_NoBottom ?kk_FigureError_NoCustom ?kk_FigureError_NoWish ?kk_FigureError_NoFit ?kk_FigureError_NoRead ?kk_FigureError_NoName ?kk_FigureError_ValueError ?kk_FigureError_ArithmeticError ?a_gcd ?z_range ?z_isinstance ?z_str ?z_int ?z_len ?z_abs ?z_max ?z_min ?z_repr ?a_WAYS ?l_WAYS ?a_WAY ?a_LONGEST_TEXT ?a_LEAST
    (case aC_Number => k_is)
    (case pg_Number => k_is)
    (case hd_Number => k_is)
    (case po_Number => k_is)
    (case sa_Number => k_is)
    (case nf_Number_top => k_is)
    (case nf_Number_bottom => k_is)
    (case tc_Number => k_is)
    (case tg_Number => k_is)
    (case tt_Number => k_is)
    (case tm_Number => k_is)
    (case nn_Number => k_is)
    (case mi_Number => k_is)
    (case kc_Number => k_is)
    (case a_Number_init => k_is)
    (case i_Number_init => k_is)
    (case l_Number_init => k_is)
    (case c_Number_init => k_is)
    (case k_Number_init => k_is)
    (case T_Number_init => k_is)
    (case a_Number_eq => k_is)
    (case i_Number_eq => k_is)
    (case l_Number_eq => k_is)
    (case c_Number_eq => k_is)
    (case k_Number_eq => k_is)
    (case a_Number_str => k_is)
    (case i_Number_str => k_is)
    (case l_Number_str => k_is)
    (case c_Number_str => k_is)
    (case k_Number_str => k_is)
    (case a_Number_repr => k_is)
    (case i_Number_repr => k_is)
    (case l_Number_repr => k_is)
    (case c_Number_repr => k_is)
    (case k_Number_repr => k_is)
    (case a_Number_more => k_is)
    (case i_Number_more => k_is)
    (case l_Number_more => k_is)
    (case c_Number_more => k_is)
    (case k_Number_more => k_is)
    (case a_Number_less => k_is)
    (case i_Number_less => k_is)
    (case l_Number_less => k_is)
    (case c_Number_less => k_is)
    (case k_Number_less => k_is)
    (case a_Number_times => k_is)
    (case i_Number_times => k_is)
    (case l_Number_times => k_is)
    (case c_Number_times => k_is)
    (case k_Number_times => k_is)
    (case a_Number_over => k_is)
    (case i_Number_over => k_is)
    (case l_Number_over => k_is)
    (case c_Number_over => k_is)
    (case k_Number_over => k_is)
    (case a_Number_below => k_is)
    (case i_Number_below => k_is)
    (case l_Number_below => k_is)
    (case c_Number_below => k_is)
    (case k_Number_below => k_is)
    (case a_Number_size => k_is)
    (case i_Number_size => k_is)
    (case l_Number_size => k_is)
    (case c_Number_size => k_is)
    (case k_Number_size => k_is)
    (case a_Number_floor => k_is)
    (case i_Number_floor => k_is)
    (case l_Number_floor => k_is)
    (case c_Number_floor => k_is)
    (case k_Number_floor => k_is)
    (case a_read_number => k_is)
    (case l_read_number => k_is)
    (case c_read_number => k_is)
    (case k_read_number => k_is)
    (case a_whole => k_is)
    (case l_whole => k_is)
    (case c_whole => k_is)
    (case k_whole => k_is)
    (case a_l_well => k_is)
    (case l_l_well => k_is)
    (case c_l_well => k_is)
    (case k_l_well => k_is)
    (case a_l_take => k_is)
    (case l_l_take => k_is)
    (case c_l_take => k_is)
    (case k_l_take => k_is)
    (case a_l_ten => k_is)
    (case l_l_ten => k_is)
    (case c_l_ten => k_is)
    (case k_l_ten => k_is)
    (case a_l_pair => k_is)
    (case l_l_pair => k_is)
    (case c_l_pair => k_is)
    (case k_l_pair => k_is)
    (case a_l_rules_right => k_is)
    (case l_l_rules_right => k_is)
    (case c_l_rules_right => k_is)
    (case k_l_rules_right => k_is)
    (case a_l_chain_right => k_is)
    (case l_l_chain_right => k_is)
    (case c_l_chain_right => k_is)
    (case k_l_chain_right => k_is)
    (case a_l_kinds => k_is)
    (case l_l_kinds => k_is)
    (case c_l_kinds => k_is)
    (case k_l_kinds => k_is)
    (case a_l_refusals_right => k_is)
    (case l_l_refusals_right => k_is)
    (case c_l_refusals_right => k_is)
    (case k_l_refusals_right => k_is)
    (case a_l_options_right => k_is)
    (case l_l_options_right => k_is)
    (case c_l_options_right => k_is)
    (case k_l_options_right => k_is)
    (case a_law => k_is)
    (case l_law => k_is)
    (case c_law => k_is)
    (case k_law => k_is)
    (case ae_NoText => k_is)
    (case xe_NoText => k_is)
    (case sa_NoText => k_is)
    (case ga_NoText => k_is)
    (case gg_NoText => k_is)
    (case ci_NoText => k_is)
    (case kp_NoText => k_is)
    (case eb_NoText => k_is)
    (case tt_NoText => k_is)
    (case hd_NoText => k_is)
    (case is_NoText => k_is)
    (case ha_NoText => k_is)
    (case hm_NoText => k_is)
    (case sf_NoText => first | rfl | k_is)
    (case no_NoText_at => k_is)
    (case ae_Unsorted => k_is)
    (case xe_Unsorted => k_is)
    (case sa_Unsorted => k_is)
    (case ga_Unsorted => k_is)
    (case gg_Unsorted => k_is)
    (case ci_Unsorted => k_is)
    (case kp_Unsorted => k_is)
    (case eb_Unsorted => k_is)
    (case tt_Unsorted => k_is)
    (case hd_Unsorted => k_is)
    (case is_Unsorted => k_is)
    (case ha_Unsorted => k_is)
    (case hm_Unsorted => k_is)
    (case sf_Unsorted => first | rfl | k_is)
    (case no_Unsorted_low => k_is)
    (case no_Unsorted_high => k_is)
    (case ae_NoBottom => k_is)
    (case xe_NoBottom => k_is)
    (case sa_NoBottom => k_is)
    (case ga_NoBottom => k_is)
    (case gg_NoBottom => k_is)
    (case ci_NoBottom => k_is)
    (case kp_NoBottom => k_is)
    (case eb_NoBottom => k_is)
    (case tt_NoBottom => k_is)
    (case hd_NoBottom => k_is)
    (case is_NoBottom => k_is)
    (case ha_NoBottom => k_is)
    (case hm_NoBottom => k_is)
    (case sf_NoBottom => first | rfl | k_is)
    (case no_NoBottom_top => k_is)
    (case ae_NoCustom => k_is)
    (case xe_NoCustom => k_is)
    (case sa_NoCustom => k_is)
    (case ga_NoCustom => k_is)
    (case gg_NoCustom => k_is)
    (case ci_NoCustom => k_is)
    (case kp_NoCustom => k_is)
    (case eb_NoCustom => k_is)
    (case tt_NoCustom => k_is)
    (case hd_NoCustom => k_is)
    (case is_NoCustom => k_is)
    (case ha_NoCustom => k_is)
    (case hm_NoCustom => k_is)
    (case sf_NoCustom => first | rfl | k_is)
    (case no_NoCustom_thing => k_is)
    (case ae_NoWish => k_is)
    (case xe_NoWish => k_is)
    (case sa_NoWish => k_is)
    (case ga_NoWish => k_is)
    (case gg_NoWish => k_is)
    (case ci_NoWish => k_is)
    (case kp_NoWish => k_is)
    (case eb_NoWish => k_is)
    (case tt_NoWish => k_is)
    (case hd_NoWish => k_is)
    (case is_NoWish => k_is)
    (case ha_NoWish => k_is)
    (case hm_NoWish => k_is)
    (case sf_NoWish => first | rfl | k_is)
    (case no_NoWish_thing => k_is)
    (case ae_NoFit => k_is)
    (case xe_NoFit => k_is)
    (case sa_NoFit => k_is)
    (case ga_NoFit => k_is)
    (case gg_NoFit => k_is)
    (case ci_NoFit => k_is)
    (case kp_NoFit => k_is)
    (case eb_NoFit => k_is)
    (case tt_NoFit => k_is)
    (case hd_NoFit => k_is)
    (case is_NoFit => k_is)
    (case ha_NoFit => k_is)
    (case hm_NoFit => k_is)
    (case sf_NoFit => first | rfl | k_is)
    (case no_NoFit_thing => k_is)
    (case ae_NoRead => k_is)
    (case xe_NoRead => k_is)
    (case sa_NoRead => k_is)
    (case ga_NoRead => k_is)
    (case gg_NoRead => k_is)
    (case ci_NoRead => k_is)
    (case kp_NoRead => k_is)
    (case eb_NoRead => k_is)
    (case tt_NoRead => k_is)
    (case hd_NoRead => k_is)
    (case is_NoRead => k_is)
    (case ha_NoRead => k_is)
    (case hm_NoRead => k_is)
    (case sf_NoRead => first | rfl | k_is)
    (case no_NoRead_thing => k_is)
    (case ae_NoName => k_is)
    (case xe_NoName => k_is)
    (case sa_NoName => k_is)
    (case ga_NoName => k_is)
    (case gg_NoName => k_is)
    (case ci_NoName => k_is)
    (case kp_NoName => k_is)
    (case eb_NoName => k_is)
    (case tt_NoName => k_is)
    (case hd_NoName => k_is)
    (case is_NoName => k_is)
    (case ha_NoName => k_is)
    (case hm_NoName => k_is)
    (case sf_NoName => first | rfl | k_is)
    (case no_NoName_thing => k_is)
    (case ae_FigureError => k_is)
    (case xe_FigureError => k_is)
    (case sa_FigureError => k_is)
    (case ga_FigureError => k_is)
    (case gg_FigureError => k_is)
    (case ci_FigureError => k_is)
    (case kp_FigureError => k_is)
    (case eb_FigureError => k_is)
    (case tt_FigureError => k_is)
    (case hd_FigureError => k_is)
    (case is_FigureError => k_is)
    (case ha_FigureError => k_is)
    (case hm_FigureError => k_is)
    (case sf_FigureError => first | rfl | k_is)
    (case no_FigureError_thing => k_is)
    (case ti_NoText => k_is)
    (case li_NoText => k_is)
    (case ti_Unsorted => k_is)
    (case li_Unsorted => k_is)
    (case ti_NoBottom => k_is)
    (case li_NoBottom => k_is)
    (case ti_FigureError => k_is)
    (case li_FigureError => k_is)
    (case hnE => k_is)
    (case htE => k_is)
    (case zVE => k_is)
    (case zAE => k_is)
    (case a_POINT => k_is)
    (case a_GROUP => k_is)
    (case a_FIGURES => k_is)
    (case a_BETWEEN => k_is)
    (case a_ABOUT => k_is)
    (case a_SIGNS => k_is)
    (case a_SIZES => k_is)
    (case l_SIZES => k_is)
    (case a_MINUS => k_is)
    (case l_MINUS => k_is)
    (case a_PLUS => k_is)
    (case l_PLUS => k_is)
    (case a_PLACES => k_is)
    (case l_PLACES => k_is)
    (case a_UNIT => k_is)
    (case l_UNIT => k_is)
    (case cc_NoText => k_is)
    (case cc_Unsorted => k_is)
    (case cc_NoBottom => k_is)
    (case cc_FigureError => k_is)
    (case kk_NoText_Unsorted => k_is)
    (case kk_NoText_NoBottom => k_is)
    (case kk_NoText_NoCustom => k_is)
    (case kk_NoText_NoWish => k_is)
    (case kk_NoText_NoFit => k_is)
    (case kk_NoText_NoRead => k_is)
    (case kk_NoText_NoName => k_is)
    (case kk_NoText_ValueError => first | rfl | k_is)
    (case kk_NoText_ArithmeticError => k_is)
    (case kk_NoText_FigureError => k_is)
    (case kk_Unsorted_NoText => k_is)
    (case kk_Unsorted_NoBottom => k_is)
    (case kk_Unsorted_NoCustom => k_is)
    (case kk_Unsorted_NoWish => k_is)
    (case kk_Unsorted_NoFit => k_is)
    (case kk_Unsorted_NoRead => k_is)
    (case kk_Unsorted_NoName => k_is)
    (case kk_Unsorted_ValueError => first | rfl | k_is)
    (case kk_Unsorted_ArithmeticError => k_is)
    (case kk_Unsorted_FigureError => k_is)
    (case kk_NoBottom_NoText => k_is)
    (case kk_NoBottom_Unsorted => k_is)
    (case kk_NoBottom_NoCustom => k_is)
    (case kk_NoBottom_NoWish => k_is)
    (case kk_NoBottom_NoFit => k_is)
    (case kk_NoBottom_NoRead => k_is)
    (case kk_NoBottom_NoName => k_is)
    (case kk_NoBottom_ValueError => k_is)
    (case kk_NoBottom_ArithmeticError => first | rfl | k_is)
    (case kk_NoBottom_FigureError => k_is)
    (case kk_NoCustom_NoText => k_is)
    (case kk_NoCustom_Unsorted => k_is)
    (case kk_NoCustom_NoBottom => k_is)
    (case kk_NoCustom_NoWish => k_is)
    (case kk_NoCustom_NoFit => k_is)
    (case kk_NoCustom_NoRead => k_is)
    (case kk_NoCustom_NoName => k_is)
    (case kk_NoCustom_ValueError => k_is)
    (case kk_NoCustom_ArithmeticError => k_is)
    (case kk_NoCustom_FigureError => first | rfl | k_is)
    (case kk_NoWish_NoText => k_is)
    (case kk_NoWish_Unsorted => k_is)
    (case kk_NoWish_NoBottom => k_is)
    (case kk_NoWish_NoCustom => k_is)
    (case kk_NoWish_NoFit => k_is)
    (case kk_NoWish_NoRead => k_is)
    (case kk_NoWish_NoName => k_is)
    (case kk_NoWish_ValueError => k_is)
    (case kk_NoWish_ArithmeticError => k_is)
    (case kk_NoWish_FigureError => first | rfl | k_is)
    (case kk_NoFit_NoText => k_is)
    (case kk_NoFit_Unsorted => k_is)
    (case kk_NoFit_NoBottom => k_is)
    (case kk_NoFit_NoCustom => k_is)
    (case kk_NoFit_NoWish => k_is)
    (case kk_NoFit_NoRead => k_is)
    (case kk_NoFit_NoName => k_is)
    (case kk_NoFit_ValueError => k_is)
    (case kk_NoFit_ArithmeticError => k_is)
    (case kk_NoFit_FigureError => first | rfl | k_is)
    (case kk_NoRead_NoText => k_is)
    (case kk_NoRead_Unsorted => k_is)
    (case kk_NoRead_NoBottom => k_is)
    (case kk_NoRead_NoCustom => k_is)
    (case kk_NoRead_NoWish => k_is)
    (case kk_NoRead_NoFit => k_is)
    (case kk_NoRead_NoName => k_is)
    (case kk_NoRead_ValueError => k_is)
    (case kk_NoRead_ArithmeticError => k_is)
    (case kk_NoRead_FigureError => first | rfl | k_is)
    (case kk_NoName_NoText => k_is)
    (case kk_NoName_Unsorted => k_is)
    (case kk_NoName_NoBottom => k_is)
    (case kk_NoName_NoCustom => k_is)
    (case kk_NoName_NoWish => k_is)
    (case kk_NoName_NoFit => k_is)
    (case kk_NoName_NoRead => k_is)
    (case kk_NoName_ValueError => k_is)
    (case kk_NoName_ArithmeticError => k_is)
    (case kk_NoName_FigureError => first | rfl | k_is)
    (case kk_FigureError_NoText => k_is)
    (case kk_FigureError_Unsorted => k_is)
    (case kk_FigureError_NoBottom => k_is)
    (case kk_FigureError_NoCustom => k_is)
    (case kk_FigureError_NoWish => k_is)
    (case kk_FigureError_NoFit => k_is)
    (case kk_FigureError_NoRead => k_is)
    (case kk_FigureError_NoName => k_is)
    (case kk_FigureError_ValueError => k_is)
    (case kk_FigureError_ArithmeticError => k_is)
    (case a_gcd => k_is)
    (case z_range => k_is)
    (case z_isinstance => k_is)
    (case z_str => k_is)
    (case z_int => k_is)
    (case z_len => k_is)
    (case z_abs => k_is)
    (case z_max => k_is)
    (case z_min => k_is)
    (case z_repr => k_is)
    (case a_WAYS => k_is)
    (case l_WAYS => k_is)
    (case a_WAY => k_is)
    (case a_LONGEST_TEXT => k_is)
    (case a_LEAST => k_is)
